/-
  A law's arguments, opened over plain values.
-/
import Derived.Test.YtifebfkkciaddaaPvT
import Derived.OpenShut
import Derived.ShutString
import Derived.ChangeOld
import Derived.SliceStrings
import Derived.SizedLaws
set_option linter.unusedVariables false
namespace Go.Proofs.Ytifebfkkciaddaa
open Go.ChangeShapes Go.WideShapes Go.ChangeAt Go.RowKit

theorem own : ownKnob Try.prog.godebug = none := by kernel_rfl
theorem laidOut : laidOutB Try.prog = true := by kernel_rfl

/-- All that lies there may be read; nothing is anybody's own. -/
def allV (W : World) : Vw := ⟨W, fun b => b < W.heap.size, fun _ => none⟩

theorem rep_row {W : World} {x : Addr} {vs : List Value} {cs : List PV} (hl : vs.length = cs.length) (h0 : 0 < vs.length) (hcell : ∀ i (h : i < vs.length), W.cell? (x.add i) = some vs[i])
    (hr : ∀ (i : Nat) (c : PV) (v : Value), cs[i]? = some c → vs[i]? = some v → Rep (allV W) c v) : ∃ b off, x = ⟨b, off, none⟩ ∧ Rep (allV W) (.ptr cs) (.pointer (some ⟨b, off, none⟩)) := by
  obtain ⟨b, off, spot⟩ := x
  have h1 := hcell 0 h0
  have hspot : spot = none := by simpa [Addr.add] using World.cell?_spot h1
  subst hspot
  have hb : b < W.heap.size := by simpa [Addr.add] using World.block_lt_of_cell? W _ h1
  refine ⟨b, off, rfl, .ptr cs b off vs hb hl (fun i v hv => ?_) hr⟩
  obtain ⟨hj, rfl⟩ := List.getElem?_eq_some_iff.1 hv
  have := hcell i hj
  have e : (⟨b, off, none⟩ : Addr).add i = ⟨b, off + i, none⟩ := by unfold Addr.add; split <;> simp_all
  rwa [e] at this

/-- A row of one-cell elements. -/
theorem rep_ones {W : World} {a : Option Addr} {len cap : Nat} {vs : List Value} (hl : vs.length = len) (h1 : len ≤ cap) (h2 : cap ≤ maxLen) (ha : 0 < len → ∃ x, a = some x ∧ ∀ i (h : i < vs.length), W.cell? (x.add i) = some vs[i]) :
    Rep (allV W) (.sl 1 (vs.map fun v => [.sc v])) (.slice a len cap) := by
  by_cases h0 : len = 0
  · have : vs = [] := List.eq_nil_of_length_eq_zero (by omega)
    subst this
    subst h0
    exact .slNil 1 a cap h2
  · obtain ⟨x, rfl, hc⟩ := ha (by omega)
    have hfl : ∀ us : List Value, (us.map fun v => [PV.sc v]).flatten = us.map PV.sc := by
      intro us
      induction us with
      | nil => rfl
      | cons u r ih => simp only [List.map_cons, List.flatten_cons, ih]; rfl
    obtain ⟨b, off, rfl, hp⟩ := rep_row (W := W) (x := x) (vs := vs) (cs := vs.map PV.sc) (by simp) (by omega) hc (fun i c v hi hv => by
      rw [List.getElem?_map, hv] at hi
      simp at hi
      subst hi
      exact .sc v)
    refine .sl 1 _ b off len cap (by simpa using hl) (by simp) h1 h2 (by rw [hfl]; exact hp)

section
variable {H : Type} {enc : TypeId × Value → H} {W : World} {a : Option Addr} {len cap : Nat} {d : DataW H} {p : List MemPlace}

theorem open_ints (h : DataW.Trod enc Try.prog W 0 (fun _ => true) true 25 (.slice a len cap) d p) :
    ∃ l : List Int, Rep (allV W) (.sl 1 (l.map fun z => [.sc (.int .i64 z)])) (.slice a len cap) ∧ ∀ z ∈ l, (IntKind.i64.min ≤ z ∧ z ≤ IntKind.i64.max) := by
  obtain ⟨fuel, hf⟩ := h
  rcases Go.ChangeShapes.open_ints Try.underlying25 Try.underlying3 (by kernel_rfl) hf with ⟨hcs, _⟩ | ⟨x, l, c, zs, hcs, _, hl, hm, hz, _, hcell, hwz⟩
  · simp [Value.cells] at hcs
    obtain ⟨rfl, rfl, rfl⟩ := hcs
    exact ⟨[], .slNil 1 _ _ (Nat.zero_le _), by simp⟩
  · simp [Value.cells] at hcs
    obtain ⟨rfl, rfl, rfl⟩ := hcs
    have hz' : zs.length = cap := by simpa using hz
    refine ⟨zs.take len, ?_, fun z hz => ?_⟩
    · have e : ((zs.take len).map fun z => [PV.sc (.int .i64 z)]) = ((zs.take len).map fun z => Value.int .i64 z).map fun v => [PV.sc v] := by rw [List.map_map]; rfl
      rw [e]
      refine rep_ones (by simp; omega) hl hm fun _ => ⟨x, rfl, fun i hi => ?_⟩
      simp only [List.length_map, List.length_take] at hi
      rw [hcell i (by omega)]
      simp [List.getD, List.getElem?_eq_getElem (show i < zs.length by omega)]
    · have hw := hwz z (List.mem_of_mem_take hz)
      simpa [Lit.wf, Bool.and_eq_true, decide_eq_true_eq] using hw
end

/-- What a pure function's run says of the law. -/
theorem pure_run {f : FuncId} {args : List PV} {b : Bool} {vals : List Value} {W : World} (h : PPure Try.prog f args (.sc (.bool b))) (ha : RepL (allV W) args vals) :
    Calls Try.prog f vals.toArray W fun e W' => e = .returned (.bool b) ∧ Below W.heap.size W W' := by
  refine (h.2 (allV W) 0 vals (fun b h => h) (fun _ _ => rfl) ha).mono ?_
  rintro e W' ⟨v, rfl, hb, hr⟩
  cases hr.sc_inv
  exact ⟨rfl, hb⟩
end Go.Proofs.Ytifebfkkciaddaa
