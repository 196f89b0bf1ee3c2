/-
  Bodies and functions over plain values.
-/
import Derived.Test.YtifebfkkciaddaaPvL
import Derived.LoopN
set_option linter.unusedVariables false
set_option linter.unusedSimpArgs false
namespace Go.Proofs.Ytifebfkkciaddaa
open Go.RowKit

inductive MCode where
  | skip
  | ret
  | exit (id : Nat)
  | region (ms : List MO) (draw : Bool)
  | seq (a b : MCode)
  | cond (c : Operand) (a b : MCode)
  | block (id : Nat) (c : MCode)
  | loop (c : MCode)
  deriving Inhabited

def codeP (P : Program) (pol : Pol) (n : Nat) : Code → Option MCode
  | .skip => some .skip
  | .label _ => some .skip
  | .ret => some .ret
  | .exit id => some (.exit id)
  | .region _ ops d => (moL P pol ops n ops.toList).bind fun ms => if d = true then (if regionOk ops ms = true then some (.region ms true) else none) else some (.region ms false)
  | .seq a b => (codeP P pol n a).bind fun x => (codeP P pol n b).map fun y => .seq x y
  | .cond c a b => (codeP P pol n a).bind fun x => (codeP P pol n b).map fun y => .cond c x y
  | .block id c => (codeP P pol n c).map (.block id)
  | .loop c => (codeP P pol n c).map .loop
  | _ => none

def thenP (next : St → Prop) (Q : Exit → St → Prop) : Exit → St → Prop
  | .normal, s => next s
  | e, s => Q e s
def blockP (id : Nat) (Q : Exit → St → Prop) : Exit → St → Prop
  | .exit j, s => if j = id then Q .normal s else Q (.exit j) s
  | e, s => Q e s

def contN (Q : Exit → St → Prop) : St → Prop := Q .normal

def pw (P : Program) : MCode → (Exit → St → Prop) → St → Prop
  | .skip, Q, s => Q .normal s
  | .ret, Q, s => Q .ret s
  | .exit id, Q, s => Q (.exit id) s
  | .region ms d, Q, s => runOps P d s.nx (num 0 ms) (contN Q) { s with nx := s.nx + ms.length }
  | .seq a b, Q, s => pw P a (thenP (pw P b Q) Q) s
  | .cond c a b, Q, s => match ev s c with
    | .sc (.bool t) => if t = true then pw P a Q s else pw P b Q s
    | _ => False
  | .block id c, Q, s => pw P c (blockP id Q) s
  | .loop c, Q, s => ∃ I : Nat → St → Prop, (∃ k, I k s) ∧ ∀ k s, I k s → pw P c (thenP (fun s' => ∃ k', k' < k ∧ I k' s') Q) s

theorem RelF.drew {w0 : World} {ok0 : Nat → Prop} {n : Nat} {s : St} {rho : Nat → Option Nat} {a : Act} {w : World} (h : RelF w0 ok0 n s rho a w) :
    RelF w0 ok0 n s rho a { w with drawn := w.drawn + 1 } ∧ (viewOf w0 ok0 s.H rho w).Leq (viewOf w0 ok0 s.H rho { w with drawn := w.drawn + 1 }) := by
  have hl : (viewOf w0 ok0 s.H rho w).Leq (viewOf w0 ok0 s.H rho { w with drawn := w.drawn + 1 }) :=
    ⟨fun b hb => hb, fun _ _ _ => rfl, fun _ _ h => h, fun _ _ c T fr _ hh => ⟨c, T, fr, hh, Nat.le_refl _⟩⟩
  refine ⟨⟨⟨⟨h.rel.heap.okb, h.rel.heap.bel.drew, fun id o ho => ?_, h.rel.heap.inj⟩, h.rel.size, h.rel.defs, fun t => (h.rel.slot t).mono hl⟩, h.free⟩, hl⟩
  obtain ⟨b, h1, h2, h3⟩ := h.rel.heap.own id o ho
  exact ⟨b, h1, h2, h3.mono hl rfl⟩

theorem pw_sound {P : Program} {pol : Pol} {w0 : World} {ok0 : Nat → Prop} {n nx0 : Nat} {V : Vw} (hm : P.follows .mixedOrders = true) : ∀ (c : Code) (mc : MCode), codeP P pol n c = some mc →
    ∀ (Q : Exit → St → Prop) (s : St) (rho : Nat → Option Nat) (a : Act) (w : World), pw P mc Q s → RelF w0 ok0 n s rho a w → V.Leq (viewOf w0 ok0 s.H rho w) → (∀ id, id < nx0 → rho id = V.rho id) → nx0 ≤ s.nx →
      c.wp P (Post w0 ok0 n V nx0 Q) a w := by
  intro c
  induction c with
  | skip =>
    intro mc hc Q s rho a w h hr hV hl hn
    simp only [codeP, Option.some.injEq] at hc; subst hc
    exact wp_skip ⟨s, rho, h, hr, hV, hl, hn⟩
  | label l =>
    intro mc hc Q s rho a w h hr hV hl hn
    simp only [codeP, Option.some.injEq] at hc; subst hc
    exact wp_label ⟨s, rho, h, hr, hV, hl, hn⟩
  | ret =>
    intro mc hc Q s rho a w h hr hV hl hn
    simp only [codeP, Option.some.injEq] at hc; subst hc
    exact wp_ret ⟨s, rho, h, hr, hV, hl, hn⟩
  | exit id =>
    intro mc hc Q s rho a w h hr hV hl hn
    simp only [codeP, Option.some.injEq] at hc; subst hc
    exact wp_exit ⟨s, rho, h, hr, hV, hl, hn⟩
  | region id ops d =>
    intro mc hc Q s rho a w h hr hV hl hn
    simp only [codeP, Option.bind_eq_some_iff] at hc
    obtain ⟨ms, hms, hc⟩ := hc
    have hml := moL_get hms
    have hlen : ms.length = ops.size := by rw [hml.1, Array.length_toList]
    have hmem : ∀ q ∈ num 0 ms, ∃ o, ops[q.1]? = some o ∧ mo P pol ops n o = some q.2 := by
      rintro ⟨i, m⟩ hq
      obtain ⟨_, h2⟩ := num_mem.1 hq
      obtain ⟨o, h3, h4⟩ := hml.2 i m (by simpa using h2)
      exact ⟨o, by simpa using h3, h4⟩
    have hidx : ∀ q ∈ num 0 ms, q.1 < ms.length := by
      rintro ⟨i, m⟩ hq
      obtain ⟨_, h2⟩ := num_mem.1 hq
      exact (List.getElem?_eq_some_iff.1 (by simpa using h2)).1
    have hr2 : RelF w0 ok0 n { s with nx := s.nx + ms.length } rho a w := ⟨⟨hr.rel.heap, hr.rel.size, hr.rel.defs, hr.rel.slot⟩, fun id hid => hr.free id (by simp only at hid; omega)⟩
    have hfree : ∀ q ∈ num 0 ms, rho (s.nx + q.1) = none ∧ s.nx + q.1 < s.nx + ms.length := fun q hq => ⟨hr.free _ (by omega), by have := hidx q hq; omega⟩
    split at hc
    · rename_i hd
      split at hc
      · rename_i hok
        cases hc
        subst hd
        simp only [pw] at h
        obtain ⟨hr3, hl3⟩ := hr2.drew
        refine wp_region_any hm ?_
        refine drawn_sound (base := s.nx) (K := contN Q) (fun _ h => h) hok hms ops.size (Array.replicate ops.size false) (num 0 ms) _ rho a _ (by simp) (fun i m => ?_) num_sorted (fun p hp => ?_) (by rw [num_length]; omega) hr3 (hV.trans hl3) hl (by omega) (by show nx0 ≤ s.nx + ms.length; omega) hfree h
        · rw [num_mem]
          simp only [Nat.zero_le, Nat.sub_zero, true_and]
          constructor
          · intro hi
            have hil : i < ops.size := by rw [← hlen]; exact (List.getElem?_eq_some_iff.1 hi).1
            refine ⟨?_, hi⟩
            rw [Array.getD_eq_getD_getElem?, Array.getElem?_replicate, if_pos hil]
            rfl
          · exact fun hi => hi.2
        · rw [Array.getD_eq_getD_getElem?, Array.getElem?_replicate] at hp
          split at hp <;> simp at hp
      · cases hc
    · rename_i hd
      cases hc
      have hd' : d = false := by cases d <;> simp_all
      subst hd'
      simp only [pw] at h
      refine wp_region ?_
      have := seq_sound (P := P) (pol := pol) (w0 := w0) (ok0 := ok0) (n := n) (base := s.nx) (nx0 := nx0) (ops := ops) (V := V) (K := contN Q) (Q := Q) (fun _ h => h) (num 0 ms) _ rho a w hmem num_sorted hr2 hV hl (by omega) (by show nx0 ≤ s.nx + ms.length; omega) hfree h
      rw [num_map, hlen, ← List.range_eq_range'] at this
      exact this
  | seq x y ihx ihy =>
    intro mc hc Q s rho a w h hr hV hl hn
    simp only [codeP, Option.bind_eq_some_iff, Option.map_eq_some_iff] at hc
    obtain ⟨mx, hx, my, hy, rfl⟩ := hc
    simp only [pw] at h
    refine wp_seq (wp_mono (ihx mx hx _ s rho a w h hr hV hl hn) fun e a' w' hp => ?_)
    obtain ⟨s', rho', hq, hr', hV', hl', hn'⟩ := hp
    cases e with
    | normal => exact ihy my hy Q s' rho' a' w' hq hr' hV' hl' hn'
    | _ => exact ⟨s', rho', hq, hr', hV', hl', hn'⟩
  | cond c x y ihx ihy =>
    intro mc hc Q s rho a w h hr hV hl hn
    simp only [codeP, Option.bind_eq_some_iff, Option.map_eq_some_iff] at hc
    obtain ⟨mx, hx, my, hy, rfl⟩ := hc
    simp only [pw] at h
    have hcv := ev_rep hr.rel.slot c
    split at h
    · rename_i t ht
      rw [ht] at hcv
      have e := hcv.sc_inv
      refine wp_cond e ?_
      cases t with
      | true => exact ihx mx hx Q s rho a w h hr hV hl hn
      | false => exact ihy my hy Q s rho a w h hr hV hl hn
    · exact h.elim
  | block id c ih =>
    intro mc hc Q s rho a w h hr hV hl hn
    simp only [codeP, Option.map_eq_some_iff] at hc
    obtain ⟨mx, hx, rfl⟩ := hc
    simp only [pw] at h
    refine wp_block (wp_mono (ih mx hx _ s rho a w h hr hV hl hn) fun e a' w' hp => ?_)
    obtain ⟨s', rho', hq, hr', hV', hl', hn'⟩ := hp
    cases e with
    | exit j =>
      simp only [Exit.inBlock]
      simp only [blockP] at hq
      by_cases hj : j = id
      · rw [if_pos hj] at hq ⊢; exact ⟨s', rho', hq, hr', hV', hl', hn'⟩
      · rw [if_neg hj] at hq ⊢; exact ⟨s', rho', hq, hr', hV', hl', hn'⟩
    | _ => exact ⟨s', rho', hq, hr', hV', hl', hn'⟩
  | loop c ih =>
    intro mc hc Q s rho a w h hr hV hl hn
    simp only [codeP, Option.map_eq_some_iff] at hc
    obtain ⟨mx, hx, rfl⟩ := hc
    simp only [pw] at h
    obtain ⟨I, ⟨k, hk⟩, hI⟩ := h
    have key : ∀ m k s rho a w, k < m → I k s → RelF w0 ok0 n s rho a w → V.Leq (viewOf w0 ok0 s.H rho w) → (∀ id, id < nx0 → rho id = V.rho id) → nx0 ≤ s.nx → Code.rounds P c (Post w0 ok0 n V nx0 Q) m a w := by
      intro m
      induction m with
      | zero => intro k s rho a w hkm; omega
      | succ m ihm =>
        intro k s rho a w hkm hk hr hV hl hn
        rw [rounds_succ]
        refine wp_mono (ih mx hx _ s rho a w (hI k s hk) hr hV hl hn) fun e a' w' hp => ?_
        obtain ⟨s', rho', hq, hr', hV', hl', hn'⟩ := hp
        cases e with
        | normal =>
          obtain ⟨k', hk', hI'⟩ := hq
          exact ihm k' s' rho' a' w' (by omega) hI' hr' hV' hl' hn'
        | _ => exact ⟨s', rho', hq, hr', hV', hl', hn'⟩
    exact wp_loop_rounds (k + 1) (key (k + 1) k s rho a w (by omega) hk hr hV hl hn)
  | _ => intro mc hc; simp [codeP] at hc

end Go.Proofs.Ytifebfkkciaddaa
