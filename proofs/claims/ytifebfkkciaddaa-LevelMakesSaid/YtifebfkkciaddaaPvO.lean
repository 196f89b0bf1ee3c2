/-
  A law's arguments, opened over plain values.
-/
import Derived.Test.YtifebfkkciaddaaPvU
import Derived.OpenShut
import Derived.ShutString
import Derived.ChangeOld
import Derived.SliceStrings
import Derived.SizedLaws
set_option linter.unusedVariables false
namespace Go.Proofs.Ytifebfkkciaddaa
open Go.ChangeShapes Go.WideShapes Go.ChangeAt Go.RowKit

theorem own : ownKnob Try.prog.godebug = none := by kernel_rfl
theorem laidOut : laidOutB Try.prog = true := by kernel_rfl

/-- All that lies there may be read; nothing is anybody's own. -/
def allV (W : World) : Vw := ⟨W, fun b => b < W.heap.size, fun _ => none⟩

theorem rep_row {W : World} {x : Addr} {vs : List Value} {cs : List PV} (hl : vs.length = cs.length) (h0 : 0 < vs.length) (hcell : ∀ i (h : i < vs.length), W.cell? (x.add i) = some vs[i])
    (hr : ∀ (i : Nat) (c : PV) (v : Value), cs[i]? = some c → vs[i]? = some v → Rep (allV W) c v) : ∃ b off, x = ⟨b, off, none⟩ ∧ Rep (allV W) (.ptr cs) (.pointer (some ⟨b, off, none⟩)) := by
  obtain ⟨b, off, spot⟩ := x
  have h1 := hcell 0 h0
  have hspot : spot = none := by simpa [Addr.add] using World.cell?_spot h1
  subst hspot
  have hb : b < W.heap.size := by simpa [Addr.add] using World.block_lt_of_cell? W _ h1
  refine ⟨b, off, rfl, .ptr cs b off vs hb hl (fun i v hv => ?_) hr⟩
  obtain ⟨hj, rfl⟩ := List.getElem?_eq_some_iff.1 hv
  have := hcell i hj
  have e : (⟨b, off, none⟩ : Addr).add i = ⟨b, off + i, none⟩ := by unfold Addr.add; split <;> simp_all
  rwa [e] at this

/-- A row of one-cell elements. -/
theorem rep_ones {W : World} {a : Option Addr} {len cap : Nat} {vs : List Value} (hl : vs.length = len) (h1 : len ≤ cap) (h2 : cap ≤ maxLen) (ha : 0 < len → ∃ x, a = some x ∧ ∀ i (h : i < vs.length), W.cell? (x.add i) = some vs[i]) :
    Rep (allV W) (.sl 1 (vs.map fun v => [.sc v])) (.slice a len cap) := by
  by_cases h0 : len = 0
  · have : vs = [] := List.eq_nil_of_length_eq_zero (by omega)
    subst this
    subst h0
    exact .slNil 1 a cap h2
  · obtain ⟨x, rfl, hc⟩ := ha (by omega)
    have hfl : ∀ us : List Value, (us.map fun v => [PV.sc v]).flatten = us.map PV.sc := by
      intro us
      induction us with
      | nil => rfl
      | cons u r ih => simp only [List.map_cons, List.flatten_cons, ih]; rfl
    obtain ⟨b, off, rfl, hp⟩ := rep_row (W := W) (x := x) (vs := vs) (cs := vs.map PV.sc) (by simp) (by omega) hc (fun i c v hi hv => by
      rw [List.getElem?_map, hv] at hi
      simp at hi
      subst hi
      exact .sc v)
    refine .sl 1 _ b off len cap (by simpa using hl) (by simp) h1 h2 (by rw [hfl]; exact hp)

section
variable {H : Type} {enc : TypeId × Value → H} {W : World} {a : Option Addr} {len cap : Nat} {d : DataW H} {p : List MemPlace}

theorem open_ints (h : DataW.Trod enc Try.prog W 0 (fun _ => true) true 25 (.slice a len cap) d p) :
    ∃ l : List Int, Rep (allV W) (.sl 1 (l.map fun z => [.sc (.int .i64 z)])) (.slice a len cap) ∧ ∀ z ∈ l, (IntKind.i64.min ≤ z ∧ z ≤ IntKind.i64.max) := by
  obtain ⟨fuel, hf⟩ := h
  rcases Go.ChangeShapes.open_ints Try.underlying25 Try.underlying3 (by kernel_rfl) hf with ⟨hcs, _⟩ | ⟨x, l, c, zs, hcs, _, hl, hm, hz, _, hcell, hwz⟩
  · simp [Value.cells] at hcs
    obtain ⟨rfl, rfl, rfl⟩ := hcs
    exact ⟨[], .slNil 1 _ _ (Nat.zero_le _), by simp⟩
  · simp [Value.cells] at hcs
    obtain ⟨rfl, rfl, rfl⟩ := hcs
    have hz' : zs.length = cap := by simpa using hz
    refine ⟨zs.take len, ?_, fun z hz => ?_⟩
    · have e : ((zs.take len).map fun z => [PV.sc (.int .i64 z)]) = ((zs.take len).map fun z => Value.int .i64 z).map fun v => [PV.sc v] := by rw [List.map_map]; rfl
      rw [e]
      refine rep_ones (by simp; omega) hl hm fun _ => ⟨x, rfl, fun i hi => ?_⟩
      simp only [List.length_map, List.length_take] at hi
      rw [hcell i (by omega)]
      simp [List.getD, List.getElem?_eq_getElem (show i < zs.length by omega)]
    · have hw := hwz z (List.mem_of_mem_take hz)
      simpa [Lit.wf, Bool.and_eq_true, decide_eq_true_eq] using hw
end

/-! Arguments of whatever type, opened. -/
section
variable {H : Type} (enc : TypeId × Value → H) (W : World) (sp : Nat → Bool) (hd : Bool)

/-- Cells of the type, as far as they are read with so much fuel, stand for plain values of such a form. -/
def OpAt {α : Type} (n : Nat) (t : TypeId) (pvs : α → List PV) : Prop :=
  ∀ cs x, DataW.trod enc Try.prog W 0 sp hd n t cs = some x → ∃ a, RepL (allV W) (pvs a) cs
variable {enc W sp hd}

theorem op_zero {α : Type} {t : TypeId} {pvs : α → List PV} : OpAt enc W sp hd 0 t pvs := fun cs x h => by simp [DataW.trod] at h
theorem op_int {n : Nat} {t : TypeId} {k : IntKind} (ht : Try.prog.underlying t = some (.int k)) : OpAt enc W sp hd n t (fun z : Int => [.sc (.int k z)]) := fun cs x h => by
  obtain ⟨z, rfl, _⟩ := DataW.trod_int ht h
  exact ⟨z, RepL.cons (.sc _) RepL.nil⟩
theorem op_bool {n : Nat} {t : TypeId} (ht : Try.prog.underlying t = some .bool) : OpAt enc W sp hd n t (fun z : Bool => [.sc (.bool z)]) := fun cs x h => by
  obtain ⟨z, rfl, _⟩ := DataW.trod_bool ht h
  exact ⟨z, RepL.cons (.sc _) RepL.nil⟩
theorem op_string {n : Nat} {t : TypeId} (ht : Try.prog.underlying t = some .string) : OpAt enc W sp hd n t (fun z : {s : ByteArray // s.size ≤ maxLen} => [.sc (.string z.1)]) := fun cs x h => by
  obtain ⟨z, rfl, _, hm⟩ := DataW.trod_string ht h
  exact ⟨⟨z, hm⟩, RepL.cons (.sc _) RepL.nil⟩
theorem op_map {α β : Type} {n : Nat} {t : TypeId} {pvs : α → List PV} {pvs' : β → List PV} (h : OpAt enc W sp hd n t pvs) (hm : ∀ a, ∃ b, pvs' b = pvs a) : OpAt enc W sp hd n t pvs' := fun cs x hx => by
  obtain ⟨a, ha⟩ := h cs x hx
  obtain ⟨b, hb⟩ := hm a
  exact ⟨b, by rw [hb]; exact ha⟩

theorem addr_add2 (a : Addr) (i j : Nat) : (a.add i).add j = a.add (i + j) := by
  unfold Addr.add
  by_cases hi : i = 0 <;> by_cases hj : j = 0 <;> simp [hi, hj, Nat.add_assoc]
theorem add_zero' (x : Addr) : x.add 0 = x := by cases x; simp [Addr.add]
theorem add_spot {b off i : Nat} : (⟨b, off, none⟩ : Addr).add i = ⟨b, off + i, none⟩ := by unfold Addr.add; split <;> simp_all

theorem op_rows {α : Type} {n c : Nat} {e : TypeId} {pvs : α → List PV} {a : Addr} (he : OpAt enc W sp hd n e pvs) (hc : Try.prog.cellsOf e = c) (h0 : 0 < c) (elems : List (DataW H × List MemPlace)) :
    ∀ k, k ≤ elems.length → (∀ i, i < k → (W.cells? 0 (a.add (i * c)) c).bind (DataW.trod enc Try.prog W 0 sp hd n e) = elems[i]?) →
      ∃ (zs : List α) (vs : List Value), zs.length = k ∧ vs.length = k * c ∧ (∀ q ∈ zs.map pvs, q.length = c) ∧ RepL (allV W) (zs.map pvs).flatten vs ∧ ∀ j, j < k * c → W.cell? (a.add j) = vs[j]? := by
  intro k
  induction k with
  | zero => intro _ _; exact ⟨[], [], rfl, by simp, by simp, RepL.nil, fun j hj => by omega⟩
  | succ k ih =>
    intro hk hel
    obtain ⟨zs, vs, h1, h2, h3, h4, h5⟩ := ih (by omega) fun i hi => hel i (by omega)
    have hlast := hel k (by omega)
    rw [List.getElem?_eq_getElem (show k < elems.length by omega), Option.bind_eq_some_iff] at hlast
    obtain ⟨cs, hcs, hx⟩ := hlast
    obtain ⟨z, hz⟩ := he cs _ hx
    obtain ⟨_, hl, hcell⟩ := World.cells?_some hcs
    have hsucc : (k + 1) * c = k * c + c := by rw [Nat.succ_mul]
    refine ⟨zs ++ [z], vs ++ cs, by simp [h1], by rw [List.length_append, h2, hl, hsucc], ?_, ?_, fun j hj => ?_⟩
    · intro q hq
      simp only [List.map_append, List.mem_append] at hq
      rcases hq with hq | hq
      · exact h3 q hq
      · simp at hq; rw [hq, ← hz.1, hl]
    · rw [List.map_append, List.flatten_append]
      refine h4.append ?_
      simpa using hz
    · by_cases hj2 : j < k * c
      · rw [List.getElem?_append_left (by omega)]; exact h5 j hj2
      · rw [List.getElem?_append_right (by omega), h2]
        have := hcell (j - k * c) (by omega)
        rw [addr_add2] at this
        rwa [show k * c + (j - k * c) = j by omega] at this

theorem op_slice {α : Type} {n c : Nat} {t e : TypeId} {pvs : α → List PV} (ht : Try.prog.underlying t = some (.slice e)) (hc : Try.prog.cellsOf e = c) (h0 : 0 < c) (he : OpAt enc W sp hd n e pvs) : OpAt enc W sp hd (n + 1) t (fun l : List α => [.sl c (l.map pvs)]) := by
  intro cs x h
  rcases DataW.trod_slice ht h with ⟨rfl, _⟩ | ⟨a, len, cap, elems, rest, m, hm, rfl, _, _, hl, hcap, hlen, hel, _⟩
  · exact ⟨[], RepL.cons (.slNil c none 0 (Nat.zero_le _)) RepL.nil⟩
  · cases hm
    rw [hc] at hel
    obtain ⟨zs, vs, h1, h2, h3, h4, h5⟩ := op_rows he hc h0 elems len (by omega) hel
    refine ⟨zs, RepL.cons ?_ RepL.nil⟩
    by_cases hz : len = 0
    · subst hz
      obtain rfl : zs = [] := List.eq_nil_of_length_eq_zero h1
      exact .slNil c _ _ hcap
    · have hpos : 0 < len * c := Nat.mul_pos (by omega) h0
      obtain ⟨b, off, rfl, hp⟩ := rep_row (W := W) (x := a) (vs := vs) (cs := (zs.map pvs).flatten) h4.1 (by omega) (fun i hi => by rw [h5 i (by omega), List.getElem?_eq_getElem hi]) h4.2
      exact .sl c _ b off len cap (by simp [h1]) h3 hl hcap hp

/-- A struct's cells, field by field. -/
theorem op_field {α : Type} {n c off : Nat} {T : TypeId} {fs : Array Field} {xs : List (DataW H × List MemPlace)} {cs : List Value} {pvs : α → List PV} {i : Nat} {f : Field}
    (hx : ∀ (i : Nat) (f : Field), fs[i]? = some f → DataW.trod enc Try.prog W 0 sp hd n f.type ((cs.drop f.offset).take (Try.prog.cellsOf f.type)) = xs[i]?) (hl : xs.length = fs.size)
    (hf : fs[i]? = some f) (hT : f.type = T) (ho : f.offset = off) (hc : Try.prog.cellsOf T = c) (h : OpAt enc W sp hd n T pvs) : ∃ a, RepL (allV W) (pvs a) ((cs.drop off).take c) := by
  have h1 := hx i f hf
  have hi : i < xs.length := by rw [hl]; exact (Array.getElem?_eq_some_iff.1 hf).1
  rw [List.getElem?_eq_getElem hi, hT, ho, hc] at h1
  exact h _ _ h1
theorem rep_split {V : Vw} {xs ys : List PV} {cs : List Value} {off c : Nat} (h : RepL V xs (cs.take off)) (k : RepL V ys ((cs.drop off).take c)) : RepL V (xs ++ ys) (cs.take (off + c)) := by
  rw [List.take_add]
  exact h.append k
end
theorem okW_struct {W : World} {r : Reach} {b : Nat} {t : TypeId} {v : Value} {fs : Array Field} (ht : Try.prog.underlying t = some (.struct fs)) (h : Value.okWide Try.prog W r b t v) : ∃ cs, v = .agg cs := by
  unfold Value.okWide at h
  rw [ht] at h
  obtain ⟨cs, h1, _⟩ := h
  exact ⟨cs, h1⟩
/-- A value of one cell. -/
theorem trod_one {α : Type} {H : Type} {enc : TypeId × Value → H} {W : World} {t : TypeId} {v : Value} {d : DataW H} {p : List MemPlace} {pv : α → PV} (ho : ∀ n, OpAt enc W (fun _ => true) true n t (fun a => [pv a])) (hv : v.cells.toList = [v])
    (h : DataW.Trod enc Try.prog W 0 (fun _ => true) true t v d p) : ∃ a, Rep (allV W) (pv a) v := by
  obtain ⟨n, h⟩ := h
  obtain ⟨a, ha⟩ := ho n _ _ h
  rw [hv] at ha
  exact ⟨a, ha.2 0 _ _ rfl rfl⟩
theorem trod_agg {α : Type} {H : Type} {enc : TypeId × Value → H} {W : World} {t : TypeId} {cs : Array Value} {d : DataW H} {p : List MemPlace} {pvs : α → List PV} (ho : ∀ n, OpAt enc W (fun _ => true) true n t pvs)
    (h : DataW.Trod enc Try.prog W 0 (fun _ => true) true t (.agg cs) d p) : ∃ a, Rep (allV W) (.agg (pvs a)) (.agg cs) := by
  obtain ⟨n, h⟩ := h
  obtain ⟨a, ha⟩ := ho n _ _ h
  have e : (Value.agg cs).cells.toList = cs.toList := rfl
  rw [e] at ha
  refine ⟨a, ?_⟩
  have := cells_rep ha
  simpa using this

/-- What a pure function's run says of the law. -/
theorem pure_run {f : FuncId} {args : List PV} {b : Bool} {vals : List Value} {W : World} (h : PPure Try.prog f args (.sc (.bool b))) (ha : RepL (allV W) args vals) :
    Calls Try.prog f vals.toArray W fun e W' => e = .returned (.bool b) ∧ Below W.heap.size W W' := by
  refine (h.2 (allV W) 0 vals (fun b h => h) (fun _ _ => rfl) ha).mono ?_
  rintro e W' ⟨v, rfl, hb, hr⟩
  cases hr.sc_inv
  exact ⟨rfl, hb⟩
end Go.Proofs.Ytifebfkkciaddaa
