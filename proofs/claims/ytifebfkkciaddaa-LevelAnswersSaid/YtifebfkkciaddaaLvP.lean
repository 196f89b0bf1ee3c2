/-
  Layer 3: what forms tell of values: held for all sixteen sets of the parameters that are 0 is held for all values, and for those of 0, 1 and 1000.
-/
import Derived.Test.YtifebfkkciaddaaLvK
set_option linter.unusedVariables false
set_option linter.unusedSimpArgs false
namespace Go.Proofs.Ytifebfkkciaddaa
open Go.RowKit

def tt (a x : Int) : Int := if a = -1 then 0 else a + x
theorem tt_ge {a x : Int} (h : -1 ≤ a) (hx : a ≠ -1 → 1 ≤ x) : a + 1 ≤ tt a x ∧ 0 ≤ tt a x := by
  unfold tt; split
  · omega
  · rename_i h1; have := hx h1; omega
theorem tt_none {x : Int} : tt (-1) x = 0 := rfl
theorem tt_max {a b x : Int} (ha : -1 ≤ a) (hb : -1 ≤ b) (hx : 0 ≤ x) : tt (max a b) x = max (tt a x) (tt b x) := by
  unfold tt; split <;> split <;> split <;> omega
theorem tt_inc {a x : Int} (ha : -1 ≤ a) : tt (inc a) x = if a = -1 then 0 else 1 + tt a x := by
  unfold tt inc; by_cases h : a = -1
  · rw [if_pos h, if_pos h, if_pos rfl]
  · rw [if_neg h, if_neg h, if_neg h, if_neg (by omega)]; omega
theorem tt_mono {a b x : Int} (ha : -1 ≤ a) (h : a ≤ b) (hx : 0 ≤ x) : tt a x ≤ tt b x := by
  unfold tt; split <;> split <;> omega
/-- A form's value, with values of the parameters. -/
def Fm.ev (f : Fm) (x0 x1 x2 x3 : Int) : Int := Max.max (Max.max (Max.max (Max.max f.num (tt f.a0 x0)) (tt f.a1 x1)) (tt f.a2 x2)) (tt f.a3 x3)
theorem ev_le {f : Fm} {x0 x1 x2 x3 k : Int} : f.ev x0 x1 x2 x3 ≤ k ↔ f.num ≤ k ∧ tt f.a0 x0 ≤ k ∧ tt f.a1 x1 ≤ k ∧ tt f.a2 x2 ≤ k ∧ tt f.a3 x3 ≤ k := by
  simp only [Fm.ev, Int.max_le, and_assoc]
theorem eq_of_le {a b : Int} (h : ∀ k, a ≤ k ↔ b ≤ k) : a = b := by
  have h1 := (h a).1 (Int.le_refl _)
  have h2 := (h b).2 (Int.le_refl _)
  omega
/-- Where a parameter is there its value is not 0. -/
structure Fm.Pos (f : Fm) (x0 x1 x2 x3 : Int) : Prop where
  p0 : f.a0 ≠ -1 → 1 ≤ x0
  p1 : f.a1 ≠ -1 → 1 ≤ x1
  p2 : f.a2 ≠ -1 → 1 ≤ x2
  p3 : f.a3 ≠ -1 → 1 ≤ x3
structure Fm.Min (f : Fm) : Prop where
  n0 : 0 ≤ f.num
  b0 : -1 ≤ f.a0
  b1 : -1 ≤ f.a1
  b2 : -1 ≤ f.a2
  b3 : -1 ≤ f.a3
theorem Fm.Ok.min {f : Fm} {m : Int} (h : f.Ok m) : f.Min := ⟨h.n0, h.b0, h.b1, h.b2, h.b3⟩
theorem up_eq {n a : Int} (h : 0 ≤ n) (ha : -1 ≤ a) : up n a = max n (a + 1) := by unfold up; split <;> omega
theorem least_eq {f : Fm} (h : f.Min) : f.least = max (max (max (max f.num (f.a0 + 1)) (f.a1 + 1)) (f.a2 + 1)) (f.a3 + 1) := by
  obtain ⟨h0, h1, h2, h3, h4⟩ := h
  simp only [Fm.least, Fm.leastN]
  rw [up_eq h0 h1, up_eq (by omega) h2, up_eq (by omega) h3, up_eq (by omega) h4]
theorem ev_short {f : Fm} {x0 x1 x2 x3 : Int} (h : f.Min) (hp : f.Pos x0 x1 x2 x3) : f.short.ev x0 x1 x2 x3 = f.ev x0 x1 x2 x3 := by
  unfold Fm.short
  split
  · rfl
  · rename_i hn
    rw [least_eq (f := ⟨0, f.a0, f.a1, f.a2, f.a3⟩) ⟨Int.le_refl _, h.b0, h.b1, h.b2, h.b3⟩] at hn
    have := tt_ge h.b0 hp.p0
    have := tt_ge h.b1 hp.p1
    have := tt_ge h.b2 hp.p2
    have := tt_ge h.b3 hp.p3
    have := h.n0
    refine eq_of_le fun k => ?_
    rw [ev_le, ev_le]
    simp only [Int.not_lt] at hn ⊢
    omega
/-- It is as short as can be. -/
def Fm.Sh (f : Fm) : Prop := f.num = 0 ∨ (f.a0 + 1 < f.num ∧ f.a1 + 1 < f.num ∧ f.a2 + 1 < f.num ∧ f.a3 + 1 < f.num)
theorem short_sh {f : Fm} (h : f.Min) : f.short.Sh := by
  unfold Fm.short
  split
  · rename_i hn
    rw [least_eq (f := ⟨0, f.a0, f.a1, f.a2, f.a3⟩) ⟨Int.le_refl _, h.b0, h.b1, h.b2, h.b3⟩] at hn
    simp only [] at hn
    exact .inr (by omega)
  · exact .inl rfl
theorem short_a {f : Fm} : f.short.a0 = f.a0 ∧ f.short.a1 = f.a1 ∧ f.short.a2 = f.a2 ∧ f.short.a3 = f.a3 := by
  unfold Fm.short; split <;> exact ⟨rfl, rfl, rfl, rfl⟩
theorem inc_min {a : Int} (h : -1 ≤ a) : -1 ≤ inc a := by unfold inc; split <;> omega
theorem inc_none {a : Int} (h : -1 ≤ a) : inc a ≠ -1 ↔ a ≠ -1 := by unfold inc; split <;> omega
theorem ev_succ {f : Fm} {x0 x1 x2 x3 : Int} (h : f.Min) (hp : f.Pos x0 x1 x2 x3) : f.succ.ev x0 x1 x2 x3 = 1 + f.ev x0 x1 x2 x3 := by
  unfold Fm.succ
  have hn := h.n0
  rw [ev_short ⟨by simp only; omega, inc_min h.b0, inc_min h.b1, inc_min h.b2, inc_min h.b3⟩ ⟨fun e => hp.p0 ((inc_none h.b0).1 e), fun e => hp.p1 ((inc_none h.b1).1 e), fun e => hp.p2 ((inc_none h.b2).1 e), fun e => hp.p3 ((inc_none h.b3).1 e)⟩]
  have t0 := tt_ge h.b0 hp.p0
  have t1 := tt_ge h.b1 hp.p1
  have t2 := tt_ge h.b2 hp.p2
  have t3 := tt_ge h.b3 hp.p3
  refine eq_of_le fun k => ?_
  have e : (1 + f.ev x0 x1 x2 x3 ≤ k) ↔ f.ev x0 x1 x2 x3 ≤ k - 1 := by omega
  rw [e, ev_le, ev_le]
  simp only [tt_inc h.b0, tt_inc h.b1, tt_inc h.b2, tt_inc h.b3]
  have s0 : ∀ a x : Int, 0 ≤ f.num → ((f.num + 1 ≤ k ∧ (if a = -1 then 0 else 1 + tt a x) ≤ k) ↔ (f.num ≤ k - 1 ∧ tt a x ≤ k - 1)) := by
    intro a x hh
    by_cases e : a = -1
    · subst e; rw [if_pos rfl, tt_none]; omega
    · rw [if_neg e]; omega
  have := s0 f.a0 x0 hn
  have := s0 f.a1 x1 hn
  have := s0 f.a2 x2 hn
  have := s0 f.a3 x3 hn
  omega
theorem max_none {a b : Int} (ha : -1 ≤ a) (hb : -1 ≤ b) (h : max a b ≠ -1) : a ≠ -1 ∨ b ≠ -1 := by omega
theorem ev_max {f g : Fm} {x0 x1 x2 x3 : Int} (hf : f.Min) (hg : g.Min) (pf : f.Pos x0 x1 x2 x3) (pg : g.Pos x0 x1 x2 x3) (h0 : 0 ≤ x0) (h1 : 0 ≤ x1) (h2 : 0 ≤ x2) (h3 : 0 ≤ x3) :
    (f.max g).ev x0 x1 x2 x3 = max (f.ev x0 x1 x2 x3) (g.ev x0 x1 x2 x3) := by
  unfold Fm.max
  have := hf.n0
  have := hf.b0; have := hf.b1; have := hf.b2; have := hf.b3
  rw [ev_short ⟨by simp only; omega, by simp only; omega, by simp only; omega, by simp only; omega, by simp only; omega⟩
    ⟨fun e => (max_none hf.b0 hg.b0 e).elim pf.p0 pg.p0, fun e => (max_none hf.b1 hg.b1 e).elim pf.p1 pg.p1, fun e => (max_none hf.b2 hg.b2 e).elim pf.p2 pg.p2, fun e => (max_none hf.b3 hg.b3 e).elim pf.p3 pg.p3⟩]
  refine eq_of_le fun k => ?_
  rw [Int.max_le, ev_le, ev_le, ev_le]
  simp only [tt_max hf.b0 hg.b0 h0, tt_max hf.b1 hg.b1 h1, tt_max hf.b2 hg.b2 h2, tt_max hf.b3 hg.b3 h3, Int.max_le]
  simp only [and_assoc, and_left_comm, and_comm]
/-- The parameters that are 0 aren't there. -/
structure Fm.Zs (z : Nat) (f : Fm) : Prop where
  z0 : z.testBit 0 = true → f.a0 = -1
  z1 : z.testBit 1 = true → f.a1 = -1
  z2 : z.testBit 2 = true → f.a2 = -1
  z3 : z.testBit 3 = true → f.a3 = -1
theorem zs_succ {z : Nat} {f : Fm} (h : f.Zs z) : f.succ.Zs z := by
  unfold Fm.succ
  obtain ⟨e0, e1, e2, e3⟩ := short_a (f := Fm.mk (f.num + 1) (inc f.a0) (inc f.a1) (inc f.a2) (inc f.a3))
  exact ⟨fun k => by rw [e0]; simp only; rw [h.z0 k]; rfl, fun k => by rw [e1]; simp only; rw [h.z1 k]; rfl, fun k => by rw [e2]; simp only; rw [h.z2 k]; rfl, fun k => by rw [e3]; simp only; rw [h.z3 k]; rfl⟩
theorem zs_max {z : Nat} {f g : Fm} (h : f.Zs z) (k : g.Zs z) : (f.max g).Zs z := by
  unfold Fm.max
  obtain ⟨e0, e1, e2, e3⟩ := short_a (f := Fm.mk (Max.max f.num g.num) (Max.max f.a0 g.a0) (Max.max f.a1 g.a1) (Max.max f.a2 g.a2) (Max.max f.a3 g.a3))
  exact ⟨fun i => by rw [e0]; simp only; rw [h.z0 i, k.z0 i]; rfl, fun i => by rw [e1]; simp only; rw [h.z1 i, k.z1 i]; rfl, fun i => by rw [e2]; simp only; rw [h.z2 i, k.z2 i]; rfl, fun i => by rw [e3]; simp only; rw [h.z3 i, k.z3 i]; rfl⟩

theorem form_kid3 (z : Nat) (x : Lv) : (Lv.mk 3 0 [x]).form z = (x.form z).succ := by simp [Lv.form, formC, formL]
theorem form_kid {k : Int} (hk : k = 4 ∨ k = 5) (z : Nat) (x y : Lv) : (Lv.mk k 0 [x, y]).form z = if k = 5 ∧ (y.form z).same Fm.nought = true then y.form z else (x.form z).max (y.form z) := by
  have hk3 : k ≠ 1 ∧ k ≠ 2 ∧ k ≠ 3 := by omega
  simp [Lv.form, formC, formL, hk3.1, hk3.2.1, hk3.2.2]
theorem val_kid3 (vs : List Int) (x : Lv) : (Lv.mk 3 0 [x]).val vs = 1 + x.val vs := by simp [Lv.val, comb, valL]
theorem val_kid {k : Int} (hk : k = 4 ∨ k = 5) (vs : List Int) (x y : Lv) : (Lv.mk k 0 [x, y]).val vs = if k = 5 ∧ y.val vs = 0 then 0 else max (x.val vs) (y.val vs) := by
  have hk3 : k ≠ 1 ∧ k ≠ 2 ∧ k ≠ 3 := by omega
  simp [Lv.val, comb, valL, hk3.1, hk3.2.1, hk3.2.2]
theorem same_iff (f g : Fm) : f.same g = true ↔ f = g := by
  obtain ⟨n, a, b, c, d⟩ := f
  obtain ⟨n', a', b', c', d'⟩ := g
  simp [Fm.same]

theorem form_zs (z : Nat) (hz : z < 16) : ∀ (fuel : Nat) (l : Lv), l.nodes ≤ fuel → l.formed 4 = true → (l.form z).Zs z ∧ (l.form z).Sh := by
  intro fuel
  induction fuel with
  | zero => intro l h; have := nodes_pos l; omega
  | succ fuel ih =>
    intro l h hf
    cases l with
    | mk k n args =>
    rcases formed_num hf with ⟨rfl, h0, h1, rfl⟩ | ⟨rfl, h0, h1, rfl⟩ | ⟨rfl, rfl, x, rfl, hx⟩ | ⟨hk, rfl, x, y, rfl, hx, hy⟩
    · have e : (Lv.mk 1 n []).form z = ⟨n, -1, -1, -1, -1⟩ := by simp [Lv.form, formC]
      rw [e]
      refine ⟨⟨fun _ => rfl, fun _ => rfl, fun _ => rfl, fun _ => rfl⟩, ?_⟩
      by_cases hn : n = 0
      · exact .inl hn
      · exact .inr ⟨by simp only; omega, by simp only; omega, by simp only; omega, by simp only; omega⟩
    · have e : (Lv.mk 2 n []).form z = if z.testBit n.toNat = true then Fm.nought else Fm.one n := by simp [Lv.form, formC]
      rw [e]
      split
      · exact ⟨⟨fun _ => rfl, fun _ => rfl, fun _ => rfl, fun _ => rfl⟩, .inl rfl⟩
      · rename_i hb
        refine ⟨?_, .inl rfl⟩
        have hn : n = 0 ∨ n = 1 ∨ n = 2 ∨ n = 3 := by omega
        rcases hn with rfl | rfl | rfl | rfl
        · exact ⟨fun k => absurd k hb, fun _ => rfl, fun _ => rfl, fun _ => rfl⟩
        · exact ⟨fun _ => rfl, fun k => absurd k hb, fun _ => rfl, fun _ => rfl⟩
        · exact ⟨fun _ => rfl, fun _ => rfl, fun k => absurd k hb, fun _ => rfl⟩
        · exact ⟨fun _ => rfl, fun _ => rfl, fun _ => rfl, fun k => absurd k hb⟩
    · rw [form_kid3]
      simp only [Lv.nodes, nodesL] at h
      have hm := (form_ok z 4 x.nodes x (Nat.le_refl _) hx).min
      have := hm.n0
      exact ⟨zs_succ (ih x (by omega) hx).1, short_sh ⟨by simp only; omega, inc_min hm.b0, inc_min hm.b1, inc_min hm.b2, inc_min hm.b3⟩⟩
    · rw [form_kid hk]
      simp only [Lv.nodes, nodesL] at h
      have hi := ih x (by omega) hx
      have hj := ih y (by omega) hy
      split
      · exact hj
      · have hm := (form_ok z 4 x.nodes x (Nat.le_refl _) hx).min
        have := hm.n0; have := hm.b0; have := hm.b1; have := hm.b2; have := hm.b3
        exact ⟨zs_max hi.1 hj.1, short_sh ⟨by simp only; omega, by simp only; omega, by simp only; omega, by simp only; omega, by simp only; omega⟩⟩

/-- Which parameters are 0. -/
def Zof (z : Nat) (x0 x1 x2 x3 : Int) : Prop := (z.testBit 0 = true ↔ x0 = 0) ∧ (z.testBit 1 = true ↔ x1 = 0) ∧ (z.testBit 2 = true ↔ x2 = 0) ∧ (z.testBit 3 = true ↔ x3 = 0)
theorem zs_pos {z : Nat} {f : Fm} {x0 x1 x2 x3 : Int} (h : f.Zs z) (hz : Zof z x0 x1 x2 x3) (h0 : 0 ≤ x0) (h1 : 0 ≤ x1) (h2 : 0 ≤ x2) (h3 : 0 ≤ x3) : f.Pos x0 x1 x2 x3 := by
  obtain ⟨z0, z1, z2, z3⟩ := hz
  refine ⟨fun e => ?_, fun e => ?_, fun e => ?_, fun e => ?_⟩
  · have : x0 ≠ 0 := fun k => e (h.z0 (z0.2 k)); omega
  · have : x1 ≠ 0 := fun k => e (h.z1 (z1.2 k)); omega
  · have : x2 ≠ 0 := fun k => e (h.z2 (z2.2 k)); omega
  · have : x3 ≠ 0 := fun k => e (h.z3 (z3.2 k)); omega
theorem ev_nought {f : Fm} {x0 x1 x2 x3 : Int} (h : f.Min) (hs : f.Pos x0 x1 x2 x3) : f.ev x0 x1 x2 x3 = 0 ↔ f = Fm.nought := by
  have t0 := tt_ge h.b0 hs.p0
  have t1 := tt_ge h.b1 hs.p1
  have t2 := tt_ge h.b2 hs.p2
  have t3 := tt_ge h.b3 hs.p3
  obtain ⟨h0, h1, h2, h3, h4⟩ := h
  constructor
  · intro e
    have e := ev_le.1 (Int.le_of_eq e)
    obtain ⟨n, a, b, c, d⟩ := f
    simp only [Fm.nought, Fm.mk.injEq] at *
    omega
  · rintro rfl
    simp only [Fm.ev, Fm.nought, tt_none]
    rfl

theorem val_form (vs : List Int) (z : Nat) (hz : z < 16) (hzo : Zof z (parV vs 0) (parV vs 1) (parV vs 2) (parV vs 3)) : ∀ (fuel : Nat) (l : Lv), l.nodes ≤ fuel → l.formed 4 = true →
    l.val vs = (l.form z).ev (parV vs 0) (parV vs 1) (parV vs 2) (parV vs 3) := by
  have q0 := (parV_bd vs 0).1
  have q1 := (parV_bd vs 1).1
  have q2 := (parV_bd vs 2).1
  have q3 := (parV_bd vs 3).1
  intro fuel
  induction fuel with
  | zero => intro l h; have := nodes_pos l; omega
  | succ fuel ih =>
    intro l h hf
    cases l with
    | mk k n args =>
    rcases formed_num hf with ⟨rfl, h0, h1, rfl⟩ | ⟨rfl, h0, h1, rfl⟩ | ⟨rfl, rfl, x, rfl, hx⟩ | ⟨hk, rfl, x, y, rfl, hx, hy⟩
    · have e : (Lv.mk 1 n []).form z = ⟨n, -1, -1, -1, -1⟩ := by simp [Lv.form, formC]
      have e2 : (Lv.mk 1 n []).val vs = n := by simp [Lv.val, comb]
      rw [e, e2]
      simp only [Fm.ev, tt_none]
      omega
    · have e : (Lv.mk 2 n []).form z = if z.testBit n.toNat = true then Fm.nought else Fm.one n := by simp [Lv.form, formC]
      have e2 : (Lv.mk 2 n []).val vs = parV vs n := by simp [Lv.val, comb]
      rw [e, e2]
      have hn : n = 0 ∨ n = 1 ∨ n = 2 ∨ n = 3 := by omega
      obtain ⟨z0, z1, z2, z3⟩ := hzo
      split
      · rename_i hb
        have : (Fm.nought).ev (parV vs 0) (parV vs 1) (parV vs 2) (parV vs 3) = 0 := by simp only [Fm.ev, Fm.nought, tt_none]; rfl
        rw [this]
        rcases hn with rfl | rfl | rfl | rfl
        · exact z0.1 hb
        · exact z1.1 hb
        · exact z2.1 hb
        · exact z3.1 hb
      · rcases hn with rfl | rfl | rfl | rfl <;> simp [Fm.ev, Fm.one, tt] <;> omega
    · rw [form_kid3, val_kid3]
      simp only [Lv.nodes, nodesL] at h
      have hm := (form_ok z 4 x.nodes x (Nat.le_refl _) hx).min
      have hs := zs_pos (form_zs z hz x.nodes x (Nat.le_refl _) hx).1 hzo q0 q1 q2 q3
      rw [ev_succ hm hs, ih x (by omega) hx]
    · rw [form_kid hk, val_kid hk]
      simp only [Lv.nodes, nodesL] at h
      have hm := (form_ok z 4 x.nodes x (Nat.le_refl _) hx).min
      have hs := zs_pos (form_zs z hz x.nodes x (Nat.le_refl _) hx).1 hzo q0 q1 q2 q3
      have hm2 := (form_ok z 4 y.nodes y (Nat.le_refl _) hy).min
      have hs2 := zs_pos (form_zs z hz y.nodes y (Nat.le_refl _) hy).1 hzo q0 q1 q2 q3
      have e1 := ih x (by omega) hx
      have e2 := ih y (by omega) hy
      have hn : y.val vs = 0 ↔ (y.form z).same Fm.nought = true := by rw [e2, same_iff]; exact ev_nought hm2 hs2
      by_cases hc : k = 5 ∧ y.val vs = 0
      · rw [if_pos hc, if_pos ⟨hc.1, hn.1 hc.2⟩, ← e2, hc.2]
      · rw [if_neg hc, if_neg (fun q => hc ⟨q.1, hn.2 q.2⟩), ev_max hm hm2 hs hs2 q0 q1 q2 q3, e1, e2]

/-! Held of forms, held of values. -/
def zOf (x0 x1 x2 x3 : Int) : Nat := (if x0 = 0 then 1 else 0) + (if x1 = 0 then 2 else 0) + (if x2 = 0 then 4 else 0) + (if x3 = 0 then 8 else 0)
theorem zOf_is (x0 x1 x2 x3 : Int) : zOf x0 x1 x2 x3 < 16 ∧ Zof (zOf x0 x1 x2 x3) x0 x1 x2 x3 := by
  unfold zOf Zof
  by_cases h0 : x0 = 0 <;> by_cases h1 : x1 = 0 <;> by_cases h2 : x2 = 0 <;> by_cases h3 : x3 = 0 <;> simp only [h0, h1, h2, h3, if_true, if_false, iff_true, iff_false] <;> decide
theorem atMost_iff {f g : Fm} (hg : g.Min) : f.atMost g = true ↔ f.a0 ≤ g.a0 ∧ f.a1 ≤ g.a1 ∧ f.a2 ≤ g.a2 ∧ f.a3 ≤ g.a3 ∧ f.num ≤ max (max (max (max g.num (g.a0 + 1)) (g.a1 + 1)) (g.a2 + 1)) (g.a3 + 1) := by
  simp only [Fm.atMost, least_eq hg, decide_eq_true_eq]
theorem allZ_iff (t : Fm → Fm → Bool) (a b : Lv) : allZ t a b 16 = true ↔ ∀ z, z < 16 → t (a.form z) (b.form z) = true := by
  simp [allZ, List.all_eq_true]
theorem always_iff (t : Fm → Fm → Bool) (a b : Lv) : a.always t b = true ↔ a.right 4 = true ∧ b.right 4 = true ∧ ∀ z, z < 16 → t (a.form z) (b.form z) = true := by
  simp only [Lv.always, Bool.and_eq_true, allZ_iff]
theorem leq_sound {a b : Lv} (h : a.always Fm.atMost b = true) (vs : List Int) : a.val vs ≤ b.val vs := by
  obtain ⟨ha, hb, hz⟩ := (always_iff _ _ _).1 h
  obtain ⟨_, _, _, fa⟩ := right_parts ha
  obtain ⟨_, _, _, fb⟩ := right_parts hb
  have q0 := (parV_bd vs 0).1
  have q1 := (parV_bd vs 1).1
  have q2 := (parV_bd vs 2).1
  have q3 := (parV_bd vs 3).1
  obtain ⟨z16, zo⟩ := zOf_is (parV vs 0) (parV vs 1) (parV vs 2) (parV vs 3)
  generalize zOf (parV vs 0) (parV vs 1) (parV vs 2) (parV vs 3) = z at z16 zo
  rw [val_form vs z z16 zo a.nodes a (Nat.le_refl _) fa, val_form vs z z16 zo b.nodes b (Nat.le_refl _) fb]
  have hma := (form_ok z 4 a.nodes a (Nat.le_refl _) fa).min
  have hmb := (form_ok z 4 b.nodes b (Nat.le_refl _) fb).min
  have hsb := zs_pos (form_zs z z16 b.nodes b (Nat.le_refl _) fb).1 zo q0 q1 q2 q3
  obtain ⟨k0, k1, k2, k3, k4⟩ := (atMost_iff hmb).1 (hz z z16)
  have := tt_mono hma.b0 k0 q0
  have := tt_mono hma.b1 k1 q1
  have := tt_mono hma.b2 k2 q2
  have := tt_mono hma.b3 k3 q3
  have := tt_ge hmb.b0 hsb.p0
  have := tt_ge hmb.b1 hsb.p1
  have := tt_ge hmb.b2 hsb.p2
  have := tt_ge hmb.b3 hsb.p3
  have g := ev_le.1 (Int.le_refl ((b.form z).ev (parV vs 0) (parV vs 1) (parV vs 2) (parV vs 3)))
  refine ev_le.2 ?_
  omega

/-- The small values of the document's answer, by their number. -/
def s3 (i : Nat) : Int := if i = 0 then 0 else if i = 1 then 1 else 1000
def vecT (t : Nat) : List Int := [s3 (t / 27), s3 (t / 9 % 3), s3 (t / 3 % 3), s3 (t % 3)]
theorem vecT_at : ∀ i, i < 3 → ∀ j, j < 3 → ∀ k, k < 3 → ∀ m, m < 3 → vecT (27 * i + 9 * j + 3 * k + m) = [s3 i, s3 j, s3 k, s3 m] := by decide
def allT (a b : Lv) (n : Nat) : Bool := (List.range n).all fun t => decide (a.val (vecT t) ≤ b.val (vecT t))
def Lv.leqV (a b : Lv) : Bool := a.right 4 && (b.right 4 && allT a b 81)
/-- Each parameter of z is 0, the others are 1, but one that is 1000. -/
def cOf (z : Nat) (j i : Nat) : Nat := if z.testBit i = true then 0 else if i = j then 2 else 1
def vOf (z j : Nat) : List Int := [s3 (cOf z j 0), s3 (cOf z j 1), s3 (cOf z j 2), s3 (cOf z j 3)]
theorem cOf_lt (z j i : Nat) : cOf z j i < 3 := by unfold cOf; split; omega; split <;> omega
theorem vOf_in (z j : Nat) : ∃ t, t < 81 ∧ vecT t = vOf z j := by
  have h0 := cOf_lt z j 0
  have h1 := cOf_lt z j 1
  have h2 := cOf_lt z j 2
  have h3 := cOf_lt z j 3
  exact ⟨27 * cOf z j 0 + 9 * cOf z j 1 + 3 * cOf z j 2 + cOf z j 3, by omega, vecT_at _ h0 _ h1 _ h2 _ h3⟩
theorem s3_bd (i : Nat) : 0 ≤ s3 i ∧ s3 i ≤ 1000 := by unfold s3; split; omega; split <;> omega
theorem vOf_par (z j : Nat) : parV (vOf z j) 0 = s3 (cOf z j 0) ∧ parV (vOf z j) 1 = s3 (cOf z j 1) ∧ parV (vOf z j) 2 = s3 (cOf z j 2) ∧ parV (vOf z j) 3 = s3 (cOf z j 3) := by
  have h0 := s3_bd (cOf z j 0)
  have h1 := s3_bd (cOf z j 1)
  have h2 := s3_bd (cOf z j 2)
  have h3 := s3_bd (cOf z j 3)
  unfold vOf
  refine ⟨?_, ?_, ?_, ?_⟩ <;> simp [parV] <;> omega
theorem s3_zero (z j i : Nat) : z.testBit i = true ↔ s3 (cOf z j i) = 0 := by
  unfold cOf s3
  by_cases h : z.testBit i = true
  · simp [h]
  · by_cases k : i = j
    · subst k; simp [h]
    · simp [h, k]
theorem val_vOf (z j : Nat) (hz : z < 16) (l : Lv) (hf : l.formed 4 = true) : l.val (vOf z j) = (l.form z).ev (s3 (cOf z j 0)) (s3 (cOf z j 1)) (s3 (cOf z j 2)) (s3 (cOf z j 3)) := by
  obtain ⟨e0, e1, e2, e3⟩ := vOf_par z j
  have := val_form (vOf z j) z hz (by rw [e0, e1, e2, e3]; exact ⟨s3_zero z j 0, s3_zero z j 1, s3_zero z j 2, s3_zero z j 3⟩) l.nodes l (Nat.le_refl _) hf
  rw [e0, e1, e2, e3] at this
  exact this
theorem c_other {z j i : Nat} (h : i ≠ j) : s3 (cOf z j i) ≤ 1 := by unfold cOf s3; split; simp; split <;> simp_all
theorem c_this {z j : Nat} (h : ¬ z.testBit j = true) : s3 (cOf z j j) = 1000 := by unfold cOf s3; simp [h]
theorem tt_one {a x m : Int} (h : -1 ≤ a) (h2 : a ≤ m) (hm : 0 ≤ m) (hx : x ≤ 1) : tt a x ≤ m + 1 := by unfold tt; split <;> omega
theorem tt_one' {a x : Int} (h : -1 ≤ a) (hx : x ≤ 1) : tt a x ≤ a + 1 := by unfold tt; split <;> omega
theorem tt_big {a b : Int} (h : -1 ≤ b) (h2 : b < a) (ha : a ≤ 400) : tt b 1000 < tt a 1000 ∧ 1000 ≤ tt a 1000 := by unfold tt; split <;> split <;> omega
theorem ev_absurd {f g : Fm} {x0 x1 x2 x3 T : Int} (k : f.ev x0 x1 x2 x3 ≤ g.ev x0 x1 x2 x3) (h1 : T ≤ f.ev x0 x1 x2 x3) (h2 : g.num ≤ T - 1 ∧ tt g.a0 x0 ≤ T - 1 ∧ tt g.a1 x1 ≤ T - 1 ∧ tt g.a2 x2 ≤ T - 1 ∧ tt g.a3 x3 ≤ T - 1) : False := by
  have := ev_le.2 h2
  omega
theorem leq_complete {a b : Lv} (ha : a.right 4 = true) (hb : b.right 4 = true) (h : ∀ z j, a.val (vOf z j) ≤ b.val (vOf z j)) : a.always Fm.atMost b = true := by
  refine (always_iff _ _ _).2 ⟨ha, hb, fun z hz => ?_⟩
  obtain ⟨_, _, na, fa⟩ := right_parts ha
  obtain ⟨_, _, nb, fb⟩ := right_parts hb
  have oka := (form_ok z 4 a.nodes a (Nat.le_refl _) fa).mono (show (100 + a.nodes : Int) ≤ 164 by omega)
  have okb := (form_ok z 4 b.nodes b (Nat.le_refl _) fb).mono (show (100 + b.nodes : Int) ≤ 164 by omega)
  have za := (form_zs z hz a.nodes a (Nat.le_refl _) fa).1
  have key : ∀ j, (a.form z).ev (s3 (cOf z j 0)) (s3 (cOf z j 1)) (s3 (cOf z j 2)) (s3 (cOf z j 3)) ≤ (b.form z).ev (s3 (cOf z j 0)) (s3 (cOf z j 1)) (s3 (cOf z j 2)) (s3 (cOf z j 3)) := by
    intro j
    have := h z j
    rwa [val_vOf z j hz a fa, val_vOf z j hz b fb] at this
  generalize a.form z = f at *
  generalize b.form z = g at *
  rw [atMost_iff okb.min]
  have hn := okb.n0; have hn1 := okb.n1
  refine ⟨?_, ?_, ?_, ?_, ?_⟩
  · by_cases q : f.a0 ≤ g.a0
    · exact q
    · exfalso
      have hbit : ¬ z.testBit 0 = true := fun e => by have := za.z0 e; have := okb.b0; omega
      have k := key 0
      rw [c_this hbit] at k
      have := tt_big (a := f.a0) okb.b0 (by omega) (by have := oka.c0; omega)
      have := tt_one okb.b1 okb.c1 (by omega) (c_other (z := z) (j := 0) (i := 1) (by omega))
      have := tt_one okb.b2 okb.c2 (by omega) (c_other (z := z) (j := 0) (i := 2) (by omega))
      have := tt_one okb.b3 okb.c3 (by omega) (c_other (z := z) (j := 0) (i := 3) (by omega))
      have g1 := ev_le.1 (Int.le_refl (f.ev (s3 (cOf z 0 0)) (s3 (cOf z 0 1)) (s3 (cOf z 0 2)) (s3 (cOf z 0 3))))
      rw [c_this hbit] at g1
      exact ev_absurd (T := tt f.a0 1000) k (by omega) (by omega)
  · by_cases q : f.a1 ≤ g.a1
    · exact q
    · exfalso
      have hbit : ¬ z.testBit 1 = true := fun e => by have := za.z1 e; have := okb.b1; omega
      have k := key 1
      rw [c_this hbit] at k
      have := tt_big (a := f.a1) okb.b1 (by omega) (by have := oka.c1; omega)
      have := tt_one okb.b0 okb.c0 (by omega) (c_other (z := z) (j := 1) (i := 0) (by omega))
      have := tt_one okb.b2 okb.c2 (by omega) (c_other (z := z) (j := 1) (i := 2) (by omega))
      have := tt_one okb.b3 okb.c3 (by omega) (c_other (z := z) (j := 1) (i := 3) (by omega))
      have g1 := ev_le.1 (Int.le_refl (f.ev (s3 (cOf z 1 0)) (s3 (cOf z 1 1)) (s3 (cOf z 1 2)) (s3 (cOf z 1 3))))
      rw [c_this hbit] at g1
      exact ev_absurd (T := tt f.a1 1000) k (by omega) (by omega)
  · by_cases q : f.a2 ≤ g.a2
    · exact q
    · exfalso
      have hbit : ¬ z.testBit 2 = true := fun e => by have := za.z2 e; have := okb.b2; omega
      have k := key 2
      rw [c_this hbit] at k
      have := tt_big (a := f.a2) okb.b2 (by omega) (by have := oka.c2; omega)
      have := tt_one okb.b0 okb.c0 (by omega) (c_other (z := z) (j := 2) (i := 0) (by omega))
      have := tt_one okb.b1 okb.c1 (by omega) (c_other (z := z) (j := 2) (i := 1) (by omega))
      have := tt_one okb.b3 okb.c3 (by omega) (c_other (z := z) (j := 2) (i := 3) (by omega))
      have g1 := ev_le.1 (Int.le_refl (f.ev (s3 (cOf z 2 0)) (s3 (cOf z 2 1)) (s3 (cOf z 2 2)) (s3 (cOf z 2 3))))
      rw [c_this hbit] at g1
      exact ev_absurd (T := tt f.a2 1000) k (by omega) (by omega)
  · by_cases q : f.a3 ≤ g.a3
    · exact q
    · exfalso
      have hbit : ¬ z.testBit 3 = true := fun e => by have := za.z3 e; have := okb.b3; omega
      have k := key 3
      rw [c_this hbit] at k
      have := tt_big (a := f.a3) okb.b3 (by omega) (by have := oka.c3; omega)
      have := tt_one okb.b0 okb.c0 (by omega) (c_other (z := z) (j := 3) (i := 0) (by omega))
      have := tt_one okb.b1 okb.c1 (by omega) (c_other (z := z) (j := 3) (i := 1) (by omega))
      have := tt_one okb.b2 okb.c2 (by omega) (c_other (z := z) (j := 3) (i := 2) (by omega))
      have g1 := ev_le.1 (Int.le_refl (f.ev (s3 (cOf z 3 0)) (s3 (cOf z 3 1)) (s3 (cOf z 3 2)) (s3 (cOf z 3 3))))
      rw [c_this hbit] at g1
      exact ev_absurd (T := tt f.a3 1000) k (by omega) (by omega)
  · have k := key 4
    have := tt_one' okb.b0 (c_other (z := z) (j := 4) (i := 0) (by omega))
    have := tt_one' okb.b1 (c_other (z := z) (j := 4) (i := 1) (by omega))
    have := tt_one' okb.b2 (c_other (z := z) (j := 4) (i := 2) (by omega))
    have := tt_one' okb.b3 (c_other (z := z) (j := 4) (i := 3) (by omega))
    by_cases q : f.num ≤ max (max (max (max g.num (g.a0 + 1)) (g.a1 + 1)) (g.a2 + 1)) (g.a3 + 1)
    · exact q
    · exfalso
      have g1 := ev_le.1 (Int.le_refl (f.ev (s3 (cOf z 4 0)) (s3 (cOf z 4 1)) (s3 (cOf z 4 2)) (s3 (cOf z 4 3))))
      exact ev_absurd (T := f.num) k g1.1 (by omega)
theorem leqV_eq (a b : Lv) : a.leqV b = a.always Fm.atMost b := by
  rw [Bool.eq_iff_iff]
  constructor
  · intro h
    simp only [Lv.leqV, Bool.and_eq_true] at h
    obtain ⟨ha, hb, ht⟩ := h
    refine leq_complete ha hb fun z j => ?_
    obtain ⟨t, h1, h2⟩ := vOf_in z j
    simp only [allT, List.all_eq_true, List.mem_range, decide_eq_true_eq] at ht
    have := ht t h1
    rwa [h2] at this
  · intro h
    obtain ⟨ha, hb, _⟩ := (always_iff _ _ _).1 h
    simp only [Lv.leqV, Bool.and_eq_true]
    refine ⟨ha, hb, ?_⟩
    simp only [allT, List.all_eq_true, List.mem_range, decide_eq_true_eq]
    exact fun t _ => leq_sound h _
theorem leq_iff {a b : Lv} : a.always Fm.atMost b = true ↔ a.right 4 = true ∧ b.right 4 = true ∧ ∀ vs, a.val vs ≤ b.val vs :=
  ⟨fun h => ⟨((always_iff _ _ _).1 h).1, ((always_iff _ _ _).1 h).2.1, leq_sound h⟩, fun h => leq_complete h.1 h.2.1 fun z j => h.2.2 _⟩
theorem same_eq (a b : Lv) : a.always Fm.same b = (a.always Fm.atMost b && b.always Fm.atMost a) := by
  rw [Bool.eq_iff_iff, Bool.and_eq_true, always_iff, always_iff, always_iff]
  constructor
  · rintro ⟨ha, hb, h⟩
    obtain ⟨_, _, na, fa⟩ := right_parts ha
    obtain ⟨_, _, nb, fb⟩ := right_parts hb
    refine ⟨⟨ha, hb, fun z hz => ?_⟩, hb, ha, fun z hz => ?_⟩
    all_goals
      have e := (same_iff _ _).1 (h z hz)
      have okb := (form_ok z 4 b.nodes b (Nat.le_refl _) fb).min
      rw [e, atMost_iff okb]
      omega
  · rintro ⟨⟨ha, hb, h⟩, _, _, k⟩
    obtain ⟨_, _, na, fa⟩ := right_parts ha
    obtain ⟨_, _, nb, fb⟩ := right_parts hb
    refine ⟨ha, hb, fun z hz => (same_iff _ _).2 ?_⟩
    have oka := (form_ok z 4 a.nodes a (Nat.le_refl _) fa).min
    have okb := (form_ok z 4 b.nodes b (Nat.le_refl _) fb).min
    have h1 := (atMost_iff okb).1 (h z hz)
    have h2 := (atMost_iff oka).1 (k z hz)
    have sa := (form_zs z hz a.nodes a (Nat.le_refl _) fa).2
    have sb := (form_zs z hz b.nodes b (Nat.le_refl _) fb).2
    obtain ⟨oa, _, _, _, _⟩ := oka
    obtain ⟨ob, _, _, _, _⟩ := okb
    unfold Fm.Sh at sa sb
    generalize a.form z = f at *
    generalize b.form z = g at *
    obtain ⟨n, a0, a1, a2, a3⟩ := f
    obtain ⟨n', a0', a1', a2', a3'⟩ := g
    simp only [Fm.mk.injEq] at *
    omega
theorem numlv_right (n : Int) (h0 : 0 ≤ n) (h1 : n ≤ 100) : (Lv.mk 1 n []).right 4 = true := by
  simp [Lv.right, Lv.nodes, nodesL, Lv.formed, h0, h1]
theorem zero_eq (a : Lv) : a.always (fun f _ => f.same Fm.nought) a = a.always Fm.atMost (.mk 1 0 []) := by
  have hf : ∀ z, (Lv.mk 1 0 []).form z = Fm.nought := fun z => by simp [Lv.form, formC, Fm.nought]
  rw [Bool.eq_iff_iff, always_iff, always_iff]
  constructor
  · rintro ⟨ha, _, h⟩
    refine ⟨ha, numlv_right 0 (by omega) (by omega), fun z hz => ?_⟩
    rw [hf, (same_iff _ _).1 (h z hz)]
    rfl
  · rintro ⟨ha, _, h⟩
    obtain ⟨_, _, na, fa⟩ := right_parts ha
    refine ⟨ha, ha, fun z hz => (same_iff _ _).2 ?_⟩
    have oka := (form_ok z 4 a.nodes a (Nat.le_refl _) fa).min
    have h1 := h z hz
    rw [hf] at h1
    have h2 := (atMost_iff (nought_ok 0 (by omega)).min).1 h1
    obtain ⟨o0, o1, o2, o3, o4⟩ := oka
    generalize a.form z = f at *
    obtain ⟨n, a0, a1, a2, a3⟩ := f
    simp only [Fm.nought, Fm.mk.injEq] at *
    omega
theorem never_eq (a : Lv) : a.always (fun f _ => !f.same Fm.nought) a = (Lv.mk 1 1 []).always Fm.atMost a := by
  have hf : ∀ z, (Lv.mk 1 1 []).form z = ⟨1, -1, -1, -1, -1⟩ := fun z => by simp [Lv.form, formC]
  rw [Bool.eq_iff_iff, always_iff, always_iff]
  constructor
  · rintro ⟨ha, _, h⟩
    obtain ⟨_, _, na, fa⟩ := right_parts ha
    refine ⟨numlv_right 1 (by omega) (by omega), ha, fun z hz => ?_⟩
    have oka := (form_ok z 4 a.nodes a (Nat.le_refl _) fa).min
    have h1 := h z hz
    have h2 : ¬ a.form z = Fm.nought := fun e => by rw [e] at h1; exact absurd h1 (by decide)
    rw [hf, atMost_iff oka]
    obtain ⟨o0, o1, o2, o3, o4⟩ := oka
    generalize a.form z = f at *
    obtain ⟨n, a0, a1, a2, a3⟩ := f
    simp only [Fm.nought, Fm.mk.injEq] at *
    omega
  · rintro ⟨_, ha, h⟩
    obtain ⟨_, _, na, fa⟩ := right_parts ha
    refine ⟨ha, ha, fun z hz => ?_⟩
    have oka := (form_ok z 4 a.nodes a (Nat.le_refl _) fa).min
    have h1 := h z hz
    rw [hf, atMost_iff oka] at h1
    have h2 : ¬ (a.form z).same Fm.nought = true := fun e => by
      have e := (same_iff _ _).1 e
      rw [e] at h1
      simp [Fm.nought] at h1
    simpa using h2

end Go.Proofs.Ytifebfkkciaddaa
