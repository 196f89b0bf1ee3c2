/-
  A loop of few rounds, round by round.
-/
import Derived.Test.YtifebfkkciaddaaPvS
set_option linter.unusedVariables false
set_option linter.unusedSimpArgs false
namespace Go.Proofs.Ytifebfkkciaddaa
open Go.RowKit

theorem opP_mono {P : Program} {pure : Bool} {id : Nat} {o : MO} {K K' : St → Prop} {s : St} (hk : ∀ s, K s → K' s) (h : opP P pure id o K s) : opP P pure id o K' s := by
  unfold opP at h ⊢
  split at h
  · rename_i hc
    rw [if_pos hc]
    split at h
    · rcases h with ⟨r, h1, h2⟩ | ⟨h0, Q, h1, h2⟩
      · exact .inl ⟨r, h1, hk _ h2⟩
      · exact .inr ⟨h0, Q, h1, fun H' nx' r hq hn => hk _ (h2 H' nx' r hq hn)⟩
    · exact h.elim
  · rename_i hc
    rw [if_neg hc]
    split at h
    · exact hk _ h
    · exact h.elim

theorem opG_mono {P : Program} {pure : Bool} {id : Nat} {o : MO} {K K' : St → Prop} {s : St} (hk : ∀ s, K s → K' s) (h : opG P pure id o K s) : opG P pure id o K' s := by
  unfold opG at h ⊢
  split at h
  · exact opP_mono hk h
  · split at h
    · split at h
      · rename_i hb; rw [if_pos hb]; exact opP_mono hk h
      · rename_i hb; rw [if_neg hb]; exact hk _ h
    · exact hk _ h
    · exact h.elim

theorem runOps_mono {P : Program} {pure : Bool} {base : Nat} {K K' : St → Prop} (hk : ∀ s, K s → K' s) : ∀ (l : List (Nat × MO)) (s : St), runOps P pure base l K s → runOps P pure base l K' s
  | [], s, h => hk s h
  | (i, o) :: l, s, h => opG_mono (fun s h => runOps_mono hk l s h) h

theorem pw_mono {P : Program} : ∀ (c : MCode) {Q Q' : Exit → St → Prop} {s : St}, (∀ e s, Q e s → Q' e s) → pw P c Q s → pw P c Q' s := by
  intro c
  induction c with
  | skip => intro Q Q' s hq h; exact hq _ _ h
  | ret => intro Q Q' s hq h; exact hq _ _ h
  | exit id => intro Q Q' s hq h; exact hq _ _ h
  | region ms d => intro Q Q' s hq h; exact runOps_mono (fun s h => hq _ _ h) _ _ h
  | seq a b iha ihb =>
    intro Q Q' s hq h
    refine iha (fun e s h => ?_) h
    cases e with
    | normal => exact ihb hq h
    | _ => exact hq _ _ h
  | cond c a b iha ihb =>
    intro Q Q' s hq h
    rw [c_cond] at h ⊢
    unfold condP at h ⊢
    split at h
    · rename_i t _
      cases t with
      | true => exact iha hq h
      | false => exact ihb hq h
    · exact h.elim
  | block id c ih =>
    intro Q Q' s hq h
    refine ih (fun e s h => ?_) h
    cases e with
    | exit j =>
      simp only [blockP] at h ⊢
      split at h
      · rename_i hj; rw [if_pos hj]; exact hq _ _ h
      · rename_i hj; rw [if_neg hj]; exact hq _ _ h
    | _ => exact hq _ _ h
  | loop c ih =>
    intro Q Q' s hq h
    obtain ⟨I, h0, hI⟩ := h
    refine ⟨I, h0, fun k s hk => ih (fun e s h => ?_) (hI k s hk)⟩
    cases e with
    | normal => exact h
    | _ => exact hq _ _ h

def roundsP (P : Program) (c : MCode) (Q : Exit → St → Prop) : Nat → St → Prop
  | 0, _ => False
  | n + 1, s => pw P c (thenP (roundsP P c Q n) Q) s

theorem rounds_next {P : Program} {c : MCode} {Q : Exit → St → Prop} {n : Nat} {s : St} : roundsP P c Q (n + 1) s = pw P c (thenP (roundsP P c Q n) Q) s := nr rfl

theorem c_rounds {P : Program} {c : MCode} {Q : Exit → St → Prop} {s : St} (n : Nat) (h : roundsP P c Q n s) : pw P (.loop c) Q s := by
  refine ⟨fun k s => roundsP P c Q k s, ⟨n, h⟩, fun k s hk => ?_⟩
  cases k with
  | zero => exact hk.elim
  | succ k =>
    refine pw_mono c (fun e s h => ?_) hk
    cases e with
    | normal => exact ⟨k, by omega, h⟩
    | _ => exact h

theorem id_ne {n k : Nat} (h : 0 < k) : (n = n + k) = False := by simp; omega
theorem id_ne' {n k : Nat} (h : 0 < k) : (n + k = n) = False := by simp; omega
theorem id_ne2 {n a b : Nat} (h : a ≠ b) : (n + a = n + b) = False := by simp; omega

end Go.Proofs.Ytifebfkkciaddaa
