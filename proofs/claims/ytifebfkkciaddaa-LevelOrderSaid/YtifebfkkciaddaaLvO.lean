/-
  Layer 3: arguments that are levels, opened.
-/
import Derived.Test.YtifebfkkciaddaaLvA
import Derived.Test.YtifebfkkciaddaaPvO
set_option linter.unusedVariables false
namespace Go.Proofs.Ytifebfkkciaddaa
open Go.RowKit

theorem op_level {H : Type} {enc : TypeId × Value → H} {W : World} {sp : Nat → Bool} {hd : Bool} : ∀ n, OpAt enc W sp hd n 24 Lv.pv := by
  intro n
  induction n using Nat.strongRecOn with
  | ind n ih =>
    intro cs x h
    have hu : ∃ fs, Try.prog.underlying 24 = some (.struct fs) ∧ ∃ f0 f1 f2, fs = #[f0, f1, f2] ∧ f0.type = 3 ∧ f1.type = 3 ∧ f2.type = 22 ∧ f0.offset = 0 ∧ f1.offset = 1 ∧ f2.offset = 2 :=
      ⟨_, Try.underlying24, _, _, _, rfl, rfl, rfl, rfl, rfl, rfl, rfl⟩
    obtain ⟨fs, hu, f0, f1, f2, rfl, h0, h1, h2, o0, o1, o2⟩ := hu
    obtain ⟨xs, m, rfl, _, hlen, hxs, hx⟩ := DataW.trod_struct hu h
    have hc : Try.prog.cellsOf 24 = 3 := by kernel_rfl
    obtain ⟨a, ha⟩ := op_field hx hxs (i := 0) rfl h0 o0 (c := 1) (by kernel_rfl) (op_int Try.underlying3)
    obtain ⟨b, hb⟩ := op_field hx hxs (i := 1) rfl h1 o1 (c := 1) (by kernel_rfl) (op_int Try.underlying3)
    have hl : OpAt enc W sp hd m 22 (fun l : List Lv => [.sl 3 (l.map Lv.pv)]) := by
      cases m with
      | zero => exact op_zero
      | succ m => exact op_slice Try.underlying22 (by kernel_rfl) (by omega) (ih m (by omega))
    obtain ⟨l, hl⟩ := op_field hx hxs (i := 2) rfl h2 o2 (c := 1) (by kernel_rfl) hl
    rw [List.drop_zero] at ha
    have h3 := rep_split (rep_split ha hb) hl
    rw [hc] at hlen
    rw [List.take_of_length_le (by omega)] at h3
    refine ⟨.mk a b l, ?_⟩
    simp only [Lv.pv]
    exact h3

section
variable {H : Type} {enc : TypeId × Value → H} {W : World} {cs : Array Value} {a : Option Addr} {len cap : Nat} {d : DataW H} {p : List MemPlace}
theorem open_level (h : DataW.Trod enc Try.prog W 0 (fun _ => true) true 24 (.agg cs) d p) : ∃ l : Lv, Rep (allV W) (.agg l.pv) (.agg cs) := trod_agg (fun n => op_level n) h
theorem open_levels (h : DataW.Trod enc Try.prog W 0 (fun _ => true) true 22 (.slice a len cap) d p) : ∃ l : List Lv, Rep (allV W) (.sl 3 (l.map Lv.pv)) (.slice a len cap) :=
  trod_one (fun n => by cases n with
    | zero => exact op_zero
    | succ n => exact op_slice Try.underlying22 (by kernel_rfl) (by omega) (op_level n)) rfl h
end
end Go.Proofs.Ytifebfkkciaddaa
