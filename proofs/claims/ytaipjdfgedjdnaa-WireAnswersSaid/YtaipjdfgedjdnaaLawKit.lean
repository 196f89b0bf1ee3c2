/-
  How the arguments of a law are opened for its walk.
-/
import Derived.Test.YtaipjdfgedjdnaaWSame
import Derived.OpenShut
import Derived.ShutString
import Derived.ChangeOld
import Derived.SliceStrings
import Derived.SizedLaws
set_option linter.unusedVariables false
namespace Go.Proofs.Ytaipjdfgedjdnaa
open Go.ChangeShapes Go.WideShapes Go.ChangeAt Go.RowKit

theorem own : ownKnob Try.prog.godebug = none := by kernel_rfl
theorem laidOut : laidOutB Try.prog = true := by kernel_rfl

theorem rd_open {W : World} {x : Addr} {len cap : Nat} {zs : List Value} (hl : len ≤ zs.length) (hcell : ∀ i (h : i < zs.length), W.cell? (x.add i) = some zs[i]) : Rd W W.heap.size (some x) len (zs.take len) := by
  refine ⟨by rw [List.length_take]; omega, fun hn => ?_⟩
  obtain ⟨b, off, spot⟩ := x
  have h0 := hcell 0 (by omega)
  have hspot : spot = none := by simpa [Addr.add] using World.cell?_spot h0
  subst hspot
  have hb : b < W.heap.size := by simpa [Addr.add] using World.block_lt_of_cell? W _ h0
  refine ⟨b, off, rfl, hb, fun j u hu => ?_⟩
  rw [List.getElem?_take] at hu
  split at hu
  · obtain ⟨hj, rfl⟩ := List.getElem?_eq_some_iff.1 hu
    have := hcell j hj
    have e : (⟨b, off, none⟩ : Addr).add j = ⟨b, off + j, none⟩ := by unfold Addr.add; split <;> simp_all
    rwa [e] at this
  · cases hu

section
variable {H : Type} {enc : TypeId × Value → H} {W : World} {a : Option Addr} {len cap : Nat} {d : DataW H} {p : List MemPlace}

theorem open_ints (h : DataW.Trod enc Try.prog W 0 (fun _ => true) true 22 (.slice a len cap) d p) :
    ∃ l : List Int, Rd W W.heap.size a len (l.map fun z => Value.int .i64 z) ∧ len ≤ cap ∧ cap ≤ maxLen := by
  obtain ⟨fuel, hf⟩ := h
  rcases Go.ChangeShapes.open_ints Try.underlying22 Try.underlying3 (by kernel_rfl) hf with ⟨hcs, _⟩ | ⟨x, l, c, zs, hcs, _, hl, hm, hz, _, hcell, hwz⟩
  · simp [Value.cells] at hcs
    obtain ⟨rfl, rfl, rfl⟩ := hcs
    exact ⟨[], Rd.nil_ _ _ _, Nat.le_refl _, Nat.zero_le _⟩
  · simp [Value.cells] at hcs
    obtain ⟨rfl, rfl, rfl⟩ := hcs
    have hz' : zs.length = cap := by simpa using hz
    refine ⟨zs.take len, ?_, hl, hm⟩
    have := rd_open (W := W) (x := x) (len := len) (cap := cap) (zs := zs.map fun z => Value.int .i64 z) (by rw [List.length_map]; omega) (fun i hi => by
      rw [List.length_map] at hi
      rw [hcell i hi, List.getElem_map]
      simp [List.getD, List.getElem?_eq_getElem hi])
    rwa [← List.map_take] at this

theorem open_bytes (h : DataW.Trod enc Try.prog W 0 (fun _ => true) true 24 (.slice a len cap) d p) :
    ∃ l : List UInt8, Rd W W.heap.size a len (l.map Plain.cell) ∧ len ≤ cap ∧ cap ≤ maxLen := by
  obtain ⟨fuel, hf⟩ := h
  rcases Go.ChangeShapes.open_ints Try.underlying24 Try.underlying5 (by kernel_rfl) hf with ⟨hcs, _⟩ | ⟨x, l, c, zs, hcs, _, hl, hm, hz, _, hcell, hwz⟩
  · simp [Value.cells] at hcs
    obtain ⟨rfl, rfl, rfl⟩ := hcs
    exact ⟨[], Rd.nil_ _ _ _, Nat.le_refl _, Nat.zero_le _⟩
  · simp [Value.cells] at hcs
    obtain ⟨rfl, rfl, rfl⟩ := hcs
    have hz' : zs.length = cap := by simpa using hz
    have e : zs.map (fun z => Value.int .u8 z) = (zs.map fun z => UInt8.ofNat z.toNat).map Plain.cell := by
      rw [List.map_map]
      apply List.map_congr_left
      intro z hzm
      have hw := hwz z hzm
      have hb : 0 ≤ z ∧ z ≤ 255 := by
        simp only [Lit.wf, decide_eq_true_eq, Bool.and_eq_true] at hw
        have h0 : IntKind.u8.min = 0 := by decide
        have h1 : IntKind.u8.max = 255 := by decide
        rw [h0, h1] at hw
        exact hw
      show Value.int .u8 z = Value.int .u8 ((UInt8.ofNat z.toNat).toNat : Int)
      congr 1
      rw [UInt8.toNat_ofNat']
      omega
    refine ⟨(zs.map fun z => UInt8.ofNat z.toNat).take len, ?_, hl, hm⟩
    have := rd_open (W := W) (x := x) (len := len) (cap := cap) (zs := zs.map fun z => Value.int .u8 z) (by rw [List.length_map]; omega) (fun i hi => by
      rw [List.length_map] at hi
      rw [hcell i hi, List.getElem_map]
      simp [List.getD, List.getElem?_eq_getElem hi])
    rw [e] at this
    rwa [← List.map_take] at this

theorem open_strs (h : DataW.Trod enc Try.prog W 0 (fun _ => true) true 23 (.slice a len cap) d p) :
    ∃ l : List ByteArray, Rd W W.heap.size a len (l.map Value.string) ∧ len ≤ cap ∧ cap ≤ maxLen := by
  obtain ⟨fuel, hf⟩ := h
  rcases open_strings Try.underlying23 Try.underlying9 (by kernel_rfl) hf with ⟨hcs, _⟩ | ⟨x, l, c, zs, hcs, _, hl, hm, hz, _, hcell, hwz⟩
  · simp [Value.cells] at hcs
    obtain ⟨rfl, rfl, rfl⟩ := hcs
    exact ⟨[], Rd.nil_ _ _ _, Nat.le_refl _, Nat.zero_le _⟩
  · simp [Value.cells] at hcs
    obtain ⟨rfl, rfl, rfl⟩ := hcs
    have hz' : zs.length = cap := by simpa using hz
    refine ⟨zs.take len, ?_, hl, hm⟩
    have := rd_open (W := W) (x := x) (len := len) (cap := cap) (zs := zs.map Value.string) (by rw [List.length_map]; omega) (fun i hi => by
      rw [List.length_map] at hi
      rw [hcell i hi, List.getElem_map]
      simp [List.getD, List.getElem?_eq_getElem hi])
    rwa [← List.map_take] at this

theorem weights_at {ts : List TypeId} {ds : List (DataW H)} (h : (DataW.weightsEach Try.prog ts ds).all (· ≤ reachBytes) = true) {j : Nat} {t : TypeId} {d : DataW H} (ht : ts[j]? = some t) (hd : ds[j]? = some d) :
    ∀ n ∈ d.weights Try.prog t, n ≤ reachBytes := fun n hn => by
  have := List.all_eq_true.1 h _ (DataW.weights_mem_each ht hd n hn)
  simpa using this
theorem str_sized {t : TypeId} {s : ByteArray} (h : ∀ n ∈ d.weights Try.prog t, n ≤ reachBytes) (e : d = .lit (.string s.data.toList)) : s.size ≤ reachBytes := by
  subst e
  have := h s.data.toList.length (by simp [DataW.weights])
  rw [Array.length_toList] at this
  exact this
theorem weightsAll_mem {e : TypeId} {x : DataW H} {n : Nat} (hn : n ∈ x.weights Try.prog e) : ∀ {xs : List (DataW H)}, x ∈ xs → n ∈ DataW.weightsAll Try.prog e xs
  | y :: ys, h => by
    simp only [DataW.weightsAll, List.mem_append]
    rcases List.mem_cons.1 h with rfl | h
    · exact .inl hn
    · exact .inr (weightsAll_mem hn h)
theorem open_strs_sized (h : DataW.Trod enc Try.prog W 0 (fun _ => true) true 23 (.slice a len cap) d p) (hw : ∀ n ∈ d.weights Try.prog 23, n ≤ reachBytes) :
    ∃ l : List ByteArray, Rd W W.heap.size a len (l.map Value.string) ∧ len ≤ cap ∧ cap ≤ maxLen ∧ ∀ s ∈ l, s.size ≤ reachBytes := by
  obtain ⟨fuel, hf⟩ := h
  rcases open_strings Try.underlying23 Try.underlying9 (by kernel_rfl) hf with ⟨hcs, _⟩ | ⟨x, l, c, zs, hcs, _, hl, hm, hz, hx, hcell, hwz⟩
  · simp [Value.cells] at hcs
    obtain ⟨rfl, rfl, rfl⟩ := hcs
    exact ⟨[], Rd.nil_ _ _ _, Nat.le_refl _, Nat.zero_le _, by simp⟩
  · simp [Value.cells] at hcs
    obtain ⟨rfl, rfl, rfl⟩ := hcs
    have hz' : zs.length = cap := by simpa using hz
    refine ⟨zs.take len, ?_, hl, hm, fun s hs => ?_⟩
    · have := rd_open (W := W) (x := x) (len := len) (cap := cap) (zs := zs.map Value.string) (by rw [List.length_map]; omega) (fun i hi => by
        rw [List.length_map] at hi
        rw [hcell i hi, List.getElem_map]
        simp [List.getD, List.getElem?_eq_getElem hi])
      rwa [← List.map_take] at this
    · simp only [Prod.mk.injEq] at hx
      have hd := hx.1
      have hmem : (DataW.lit (.string s.data.toList) : DataW H) ∈ strs (H := H) (zs.take len) := by
        unfold strs
        exact List.mem_map.2 ⟨s, hs, rfl⟩
      have hn : s.data.toList.length ∈ (DataW.lit (.string s.data.toList) : DataW H).weights Try.prog 9 := by simp [DataW.weights]
      have h1 := weightsAll_mem hn hmem
      have h2 := hw s.data.toList.length (by
        rw [hd]
        simp only [DataW.weights, Try.underlying23, List.mem_cons, List.mem_append]
        exact .inr (.inl h1))
      rw [Array.length_toList] at h2
      exact h2
end
end Go.Proofs.Ytaipjdfgedjdnaa
