/-
 Plain values: PvK, PvL, PvM, PvN, PvS, PvT, PvZ, PvU, PvV, PvW, PvX, PvY, PvQ, PvO.
-/
import Derived.LoopN
import Derived.RangeFuncFrom
import Derived.RangeFuncLeaves
import Derived.LaidEql
import Derived.OpenShut
import Derived.ShutString
import Derived.ChangeOld
import Derived.SliceStrings
import Derived.SizedLaws
import Derived.Test.YtnelciclibknpaaXTa
set_option linter.unusedVariables false
set_option linter.unusedSimpArgs false
namespace Go.Proofs.Ytnelciclibknpaa
open Go.RowKit
section
def slotOf : Operand → List Nat
 | .tmp t => [t]
 | _ => []
def reads (o : MO) : List Nat :=
 (match o.guard with
 | some (t, _) => [t]
 | none => []) ++ (opds o.op).flatMap slotOf
def writes (o : MO) : List Nat :=
 o.dst.toList ++ (match o.op with
 | .st (.tmp t) _ _ true => [t]
 | _ => [])
def adr : MOp → List Nat
 | .ld x _ _ | .ldo x _ _ _ | .st x _ _ _ => slotOf x
 | .app _ _ x y => slotOf x ++ slotOf y
 | .apps _ x _ => slotOf x
 | .call _ xs | .callm _ xs | .callmA _ xs _ | .callmE _ xs _ => xs.flatMap slotOf
 | .calv x xs | .calvm x xs => (x :: xs).flatMap slotOf
 | _ => []
def hk : MOp → Nat
 | .ld .. | .ldo .. | .call .. | .calv .. | .callm .. | .calvm .. | .callmA .. | .callmE .. => 1
 | .bx _ own | .bsl _ _ _ _ own => if own = true then 2 else 0
 | .al .. | .mks .. | .calln .. => 2
 | .st .. | .app .. | .apps .. => 3
 | _ => 0
def disj (a b : List Nat) : Bool := a.all fun t => !b.contains t
def away (y x : MO) : Bool :=
 match y.op, x.op with
 | .st (.tmp k) _ _ false, .ldo _ ks _ _ => ks.contains k && (y.guard.isNone && x.guard.isNone)
 | _, _ => false
def indep0 (y x : MO) : Bool :=
 disj (writes y) (reads x) && disj (writes y) (writes x) && disj (writes x) (reads y) && !(hk y.op == 3 && (hk x.op != 0 && !away y x)) && !(hk x.op == 3 && (hk y.op != 0 && !away x y))
theorem away_or {y x : MO} (h : (!(hk y.op == 3 && (hk x.op != 0 && !away y x))) = true) (h3 : hk y.op = 3) : hk x.op = 0 ∨ away y x = true := by
 by_cases h0 : hk x.op = 0
 ·exact .inl h0
 ·cases ha : away y x with
  | true => exact .inr rfl
  | false => simp [h3, ha, h0] at h
theorem away_inv {y x : MO} (h : away y x = true) : ∃ k v sz x' ks sz' ag, y.op = .st (.tmp k) v sz false ∧ x.op = .ldo x' ks sz' ag ∧ k ∈ ks ∧ y.guard = none ∧ x.guard = none := by
 unfold away at h
 split at h
 ·rename_i k v sz x' ks sz' ag h1 h2
  simp only [Bool.and_eq_true, List.contains_iff_mem, Option.isNone_iff_eq_none] at h
  exact ⟨k, v, sz, x', ks, sz', ag, h1, h2, h.1, h.2.1, h.2.2⟩
 ·cases h
def indep (y x : MO) : Bool := indep0 y x && (!y.op.free && !x.op.free)
theorem indep_inv {y x : MO} (h : indep y x = true) : indep0 y x = true ∧ y.op.free = false ∧ x.op.free = false := by
 simpa [indep] using h
theorem disj_spec {a b : List Nat} (h : disj a b = true) {t : Nat} (ha : t ∈ a) : t ∉ b := by
 have := List.all_eq_true.1 h t ha
 simpa using this
theorem ev_congr {s s' : St} {x : Operand} (h : ∀ t ∈ slotOf x, s'.s t = s.s t) : ev s' x = ev s x := by
 cases x with
 | tmp t => exact h t (by simp [slotOf])
 | _ => rfl
theorem evs_congr {s s' : St} {xs : List Operand} (h : ∀ t ∈ xs.flatMap slotOf, s'.s t = s.s t) : xs.map (ev s') = xs.map (ev s) := by
 apply List.map_congr_left
 intro x hx
 exact ev_congr fun t ht => h t (List.mem_flatMap.2 ⟨x, hx, ht⟩)
theorem parts_congr {s s' : St} : ∀ {ps : List (Nat × Nat × Operand)}, (∀ t ∈ (ps.map (·.2.2)).flatMap slotOf, s'.s t = s.s t) → partsP s' ps = partsP s ps
 | [], _ => rfl
 | (off, sz, x) :: r, h => by
  have e1 : ev s' x = ev s x := ev_congr fun t ht => h t (by simp [ht])
  have e2 := parts_congr (ps := r) fun t ht => h t (by simp only [List.map_cons, List.flatMap_cons, List.mem_append]; exact .inr ht)
  simp only [partsP, e1, e2]
theorem loadP_isP {p : PV} {sz : Nat} (h : isP p = true) (s s' : St) : loadP s p sz = loadP s' p sz := by
 cases p with
 | ptr c => rfl
 | fptr c => rfl
 | _ => cases h
theorem load_congr {s s' : St} {x : Operand} {sz : Nat} {cs : List PV} (he : ev s' x = ev s x) (hh : ∀ t ∈ slotOf x, ∀ id off, s.s t = .optr id off → s.H id ≠ none → s'.H id = s.H id) (h : loadP s (ev s x) sz = some cs) : loadP s' (ev s' x) sz = some cs := by
 rw [he]
 cases x with
 | tmp t =>
  generalize hp : ev s (.tmp t) = p at *
  cases p with
  | optr id off =>
   simp only [loadP] at h ⊢
   cases ho : s.H id with
   | none => simp [ho] at h
   | some o =>
    have := hh t (by simp [slotOf]) id off hp (by rw [ho]; simp)
    rw [this]
    exact h
  | _ => exact h
 | _ => simp [ev, loadP] at h
theorem storeP_congr {s s' : St} {x : Operand} {xs : List PV} {q : Nat × PObj} (he : ev s' x = ev s x) (hh : ∀ t ∈ slotOf x, ∀ id off, s.s t = .optr id off → s.H id ≠ none → s'.H id = s.H id) (h : storeP s (ev s x) xs = some q) : storeP s' (ev s' x) xs = some q := by
 rw [he]
 cases x with
 | tmp t =>
  generalize hp : ev s (.tmp t) = p at *
  cases p with
  | optr id off =>
   simp only [storeP] at h ⊢
   cases ho : s.H id with
   | none => simp [ho] at h
   | some o =>
    have := hh t (by simp [slotOf]) id off hp (by rw [ho]; simp)
    rw [this]
    exact h
  | _ => exact h
 | _ => simp [ev, storeP] at h
theorem oldOf_sc (s s' : St) (sz : Nat) (v : Value) : oldOf s sz (.sc v) = oldOf s' sz (.sc v) ∧ ∀ q, oldOf s sz (.sc v) = some q → q.1 = none := by
 cases v with
 | slice A n c =>
  cases A with
  | some ad => exact ⟨rfl, fun q h => by simp [oldOf] at h⟩
  | none =>
   cases n with
   | succ k => exact ⟨rfl, fun q h => by simp [oldOf] at h⟩
   | zero =>
    cases c with
    | succ k => exact ⟨rfl, fun q h => by simp [oldOf] at h⟩
    | zero => exact ⟨rfl, fun q h => by simp only [oldOf, Option.some.injEq] at h; rw [← h]⟩
 | _ => exact ⟨rfl, fun q h => by simp [oldOf] at h⟩
theorem rowOf_sc (s s' : St) (sz : Nat) (v : Value) : rowOf s sz (.sc v) = rowOf s' sz (.sc v) := by
 cases v with
 | slice A n c =>
  cases A with
  | some ad => rfl
  | none =>
   cases n with
   | succ k => rfl
   | zero => cases c <;> rfl
 | _ => rfl
theorem osl_heap {s s' : St} {x : Operand} (hh : ∀ t ∈ slotOf x, ∀ id : Nat, OwnAt (s.s t) id → s.H id ≠ none → s'.H id = s.H id) {id off len sz : Nat} (he : ev s x = .osl id off len sz) (hn : s.H id ≠ none) : s'.H id = s.H id := by
 cases x with
 | tmp t => exact hh t (by simp [slotOf]) id (.inr (.inl ⟨off, len, sz, he⟩)) hn
 | _ => simp [ev] at he
theorem ocap_heap {s s' : St} {x : Operand} (hh : ∀ t ∈ slotOf x, ∀ id : Nat, OwnAt (s.s t) id → s.H id ≠ none → s'.H id = s.H id) {id off len sz : Nat} (he : ev s x = .ocap id off len sz) (hn : s.H id ≠ none) : s'.H id = s.H id := by
 cases x with
 | tmp t => exact hh t (by simp [slotOf]) id (.inr (.inr ⟨off, len, sz, he⟩)) hn
 | _ => simp [ev] at he
theorem oldOf_congr {s s' : St} {x : Operand} {sz : Nat} {q : Option Nat × List PV × Nat} (he : ev s' x = ev s x) (hh : ∀ t ∈ slotOf x, ∀ id : Nat, OwnAt (s.s t) id → s.H id ≠ none → s'.H id = s.H id) (h : oldOf s sz (ev s x) = some q) : oldOf s' sz (ev s' x) = some q := by
 rw [he]
 have key := fun {id off len sz} => osl_heap (s := s) (s' := s') (x := x) hh (id := id) (off := off) (len := len) (sz := sz)
 have key2 := fun {id off len sz} => ocap_heap (s := s) (s' := s') (x := x) hh (id := id) (off := off) (len := len) (sz := sz)
 generalize ev s x = p at h key key2
 cases p with
 | csl sz' es => exact h
 | ocap id off len sz' =>
  simp only [oldOf] at h ⊢
  cases ho : s.H id with
  | none => simp [ho] at h
  | some o =>
   rw [key2 rfl (by rw [ho]; simp)]
   simpa only [ho] using h
 | osl id off len sz' =>
  cases off with
  | succ k => simp [oldOf] at h
  | zero =>
   simp only [oldOf] at h ⊢
   cases ho : s.H id with
   | none => simp [ho] at h
   | some o =>
    rw [key rfl (by rw [ho]; simp)]
    simpa only [ho] using h
 | sc v => rw [← (oldOf_sc s s' sz v).1]; exact h
 | _ => simp [oldOf] at h
theorem rowOf_congr {s s' : St} {x : Operand} {sz : Nat} {q : List PV} (he : ev s' x = ev s x) (hh : ∀ t ∈ slotOf x, ∀ id : Nat, OwnAt (s.s t) id → s.H id ≠ none → s'.H id = s.H id) (h : rowOf s sz (ev s x) = some q) : rowOf s' sz (ev s' x) = some q := by
 rw [he]
 have key := fun {id off len sz} => osl_heap (s := s) (s' := s') (x := x) hh (id := id) (off := off) (len := len) (sz := sz)
 generalize ev s x = p at h key
 cases p with
 | osl id off len sz' =>
  simp only [rowOf] at h ⊢
  cases ho : s.H id with
  | none => simp [ho] at h
  | some o =>
   rw [key rfl (by rw [ho]; simp)]
   simpa only [ho] using h
 | sc v => rw [← rowOf_sc s s' sz v]; exact h
 | sl sz es => exact h
 | _ => simp [rowOf] at h
theorem effM_congr {id : Nat} {o : MO} {s s' : St} {E : Eff} (hfr : o.op.free = false) (hr : ∀ t ∈ (opds o.op).flatMap slotOf, s'.s t = s.s t) (hh0 : ∀ t ∈ adr o.op, ∀ id : Nat, OwnAt (s.s t) id → s.H id ≠ none → s'.H id = s.H id)
  (h : effM id o s = some E) : effM id o s' = some E := by
 have hh : ∀ t ∈ adr o.op, ∀ id off, s.s t = .optr id off → s.H id ≠ none → s'.H id = s.H id := fun t ht id off e hn => hh0 t ht id (.inl ⟨off, e⟩) hn
 obtain ⟨dst, op, g⟩ := o
 have e1 : ∀ x ∈ opds op, ev s' x = ev s x := fun x hx => ev_congr fun t ht => hr t (List.mem_flatMap.2 ⟨x, hx, ht⟩)
 cases op with
 | al zero => exact h
 | bx x own =>
  have := e1 x (by simp [opds])
  simp only [effM, this] at h ⊢
  exact h
 | bsl sz len zero parts own =>
  have := parts_congr (s := s) (s' := s') (ps := parts) hr
  simp only [effM, this] at h ⊢
  exact h
 | mks sz bytes zero l c =>
  have h1 := e1 l (by simp [opds])
  have h2 := e1 c (by simp [opds])
  simp only [effM, h1, h2] at h ⊢
  exact h
 | st x v sz fz =>
  have h1 := e1 x (by simp [opds])
  have h2 := e1 v (by simp [opds])
  simp only [effM, h2] at h ⊢
  split at h
  ·rename_i hc
   rw [if_pos hc]
   simp only [Option.bind_eq_some_iff] at h
   obtain ⟨q, hq, h⟩ := h
   rw [storeP_congr h1 hh hq]
   simp only [Option.bind_some, h1]
   exact h
  ·cases h
 | ldf x sz ag =>
  have h1 := e1 x (by simp [opds])
  simp only [effM, val, h1] at h ⊢
  split at h
  ·rename_i hp
   rw [if_pos hp, loadP_isP hp s' s]
   exact h
  ·simp at h
 | ldo x ks sz ag =>
  have h1 := e1 x (by simp [opds])
  have h2 : ∀ k ∈ ks, s'.s k = s.s k := fun k hk => hr k (by simp only [opds, List.flatMap_cons, List.mem_append, List.mem_flatMap]; exact .inr ⟨.tmp k, List.mem_map.2 ⟨k, hk, rfl⟩, by simp [slotOf]⟩)
  simp only [effM, val, Option.map_eq_some_iff] at h ⊢
  obtain ⟨y, h, hE⟩ := h
  split at h
  ·rename_i hc
   have hc2 : ks.all (fun k => apartP (ev s' x) (s'.s k)) = true := by
    rw [List.all_eq_true] at hc ⊢
    intro k hk
    rw [h1, h2 k hk]
    exact hc k hk
   rw [if_pos hc2]
   rw [Option.bind_eq_some_iff] at h
   obtain ⟨cs, hcs, hy⟩ := h
   exact ⟨y, by rw [load_congr h1 hh hcs]; exact hy, hE⟩
  ·cases h
 | ld x sz ag =>
  have h1 := e1 x (by simp [opds])
  simp only [effM, val, Option.map_eq_some_iff, Option.bind_eq_some_iff] at h ⊢
  obtain ⟨y, ⟨cs, hcs, hy⟩, hE⟩ := h
  exact ⟨y, ⟨cs, load_congr h1 hh hcs, hy⟩, hE⟩
 | bld zero parts =>
  have := parts_congr (s := s) (s' := s') (ps := parts) hr
  simp only [effM, val, this] at h ⊢
  exact h
 | mkf f caps =>
  have := evs_congr (s := s) (s' := s') (xs := caps) hr
  simp only [effM, val, this] at h ⊢
  exact h
 | mm mx xs =>
  have := evs_congr (s := s) (s' := s') (xs := xs) hr
  simp only [effM, val, this] at h ⊢
  exact h
 | app sz bytes x y =>
  have h1 := e1 x (by simp [opds])
  have h2 := e1 y (by simp [opds])
  have hx : ∀ t ∈ slotOf x, ∀ id : Nat, OwnAt (s.s t) id → s.H id ≠ none → s'.H id = s.H id := fun t ht => hh0 t (by simp [adr, ht])
  have hy : ∀ t ∈ slotOf y, ∀ id : Nat, OwnAt (s.s t) id → s.H id ≠ none → s'.H id = s.H id := fun t ht => hh0 t (by simp [adr, ht])
  simp only [effM, appE, appR, Option.map_eq_some_iff, Option.bind_eq_some_iff] at h ⊢
  obtain ⟨q, ⟨q2, hq2, m, hm, q1, hq1, hq⟩, hE⟩ := h
  exact ⟨q, ⟨q2, rowOf_congr h2 hy hq2, m, by rw [h2]; exact hm, q1, oldOf_congr h1 hx hq1, by rw [h1]; exact hq⟩, hE⟩
 | apps bytes x y =>
  have h1 := e1 x (by simp [opds])
  have h2 := e1 y (by simp [opds])
  have hx : ∀ t ∈ slotOf x, ∀ id : Nat, OwnAt (s.s t) id → s.H id ≠ none → s'.H id = s.H id := fun t ht => hh0 t (by simp [adr, ht])
  simp only [effM, Option.map_eq_some_iff] at h ⊢
  obtain ⟨q, hq0, hE⟩ := h
  refine ⟨q, ?_, hE⟩
  rw [h2]
  unfold appS at hq0 ⊢
  split at hq0
  ·simp only [appR, Option.bind_eq_some_iff] at hq0 ⊢
   obtain ⟨q1, hq1, hq⟩ := hq0
   exact ⟨q1, oldOf_congr h1 hx hq1, by rw [h1]; exact hq⟩
  ·cases hq0
 | pick c y z =>
  have h1 := e1 c (by simp [opds])
  have h2 := e1 y (by simp [opds])
  have h3 := e1 z (by simp [opds])
  simp only [effM, val, h1, h2, h3] at h ⊢
  exact h
 | bin b x y =>
  have h1 := e1 x (by simp [opds])
  have h2 := e1 y (by simp [opds])
  simp only [effM, val, h1, h2] at h ⊢
  exact h
 | eqa ne t x y =>
  have h1 := e1 x (by simp [opds])
  have h2 := e1 y (by simp [opds])
  simp only [effM, val, h1, h2] at h ⊢
  exact h
 | ia x y sz tl =>
  have h1 := e1 x (by simp [opds])
  have h2 := e1 y (by simp [opds])
  simp only [effM, val, h1, h2] at h ⊢
  exact h
 | iaa x y l sz =>
  have h1 := e1 x (by simp [opds])
  have h2 := e1 y (by simp [opds])
  simp only [effM, val, h1, h2] at h ⊢
  exact h
 | ix x y l sz ag =>
  have h1 := e1 x (by simp [opds])
  have h2 := e1 y (by simp [opds])
  simp only [effM, val, h1, h2] at h ⊢
  exact h
 | ixs x y =>
  have h1 := e1 x (by simp [opds])
  have h2 := e1 y (by simp [opds])
  simp only [effM, val, h1, h2] at h ⊢
  exact h
 | mv x => have h1 := e1 x (by simp [opds]); simp only [effM, val, h1] at h ⊢; exact h
 | un b x => have h1 := e1 x (by simp [opds]); simp only [effM, val, h1] at h ⊢; exact h
 | nilc x => have h1 := e1 x (by simp [opds]); simp only [effM, val, h1] at h ⊢; exact h
 | fa x off => have h1 := e1 x (by simp [opds]); simp only [effM, val, h1] at h ⊢; exact h
 | fd x off sz ag => have h1 := e1 x (by simp [opds]); simp only [effM, val, h1] at h ⊢; exact h
 | len x str => have h1 := e1 x (by simp [opds]); simp only [effM, val, h1] at h ⊢; exact h
 | cvt c x => have h1 := e1 x (by simp [opds]); simp only [effM, val, h1] at h ⊢; exact h
 | ext x i => have h1 := e1 x (by simp [opds]); simp only [effM, val, h1] at h ⊢; exact h
 | slc x lo hi mx sz str =>
  have h1 := e1 x (by simp [opds])
  have h2 : ∀ (o : Option Operand) d, (∀ y ∈ o.toList, y ∈ opds (.slc x lo hi mx sz str)) → bndO s' d o = bndO s d o := fun o d ho => by
   cases o with
   | none => rfl
   | some y => simp only [bndO, e1 y (ho y (by simp))]
  have h3 : ∀ (o : Option Operand), (∀ y ∈ o.toList, y ∈ opds (.slc x lo hi mx sz str)) → capO s' o = capO s o := fun o ho => by
   cases o with
   | none => rfl
   | some y => simp only [capO, e1 y (ho y (by simp))]
  have g1 := h2 lo 0 (fun y hy => by simp only [opds, List.mem_cons, List.mem_append]; exact .inr (.inl hy))
  have g2 := h2 hi (slcLen (ev s x)) (fun y hy => by simp only [opds, List.mem_cons, List.mem_append]; exact .inr (.inr (.inl hy)))
  have g3 := h3 mx (fun y hy => by simp only [opds, List.mem_cons, List.mem_append]; exact .inr (.inr (.inr hy)))
  simp only [effM, val, slcP, h1, g1, g2, g3] at h ⊢
  exact h
 | rng x => simp [MOp.free] at hfr
 | nxt x => simp [MOp.free] at hfr
 | _ => simp [effM, val] at h
theorem callee_congr {s s' : St} {m : MOp} (hr : ∀ t ∈ (opds m).flatMap slotOf, s'.s t = s.s t) : calleeP s' m = calleeP s m := by
 cases m with
 | call f xs => simp only [calleeP]; rw [evs_congr (xs := xs) hr]
 | calv x xs =>
  have h1 : ev s' x = ev s x := ev_congr fun t ht => hr t (by simp [opds, ht])
  have h2 : xs.map (ev s') = xs.map (ev s) := evs_congr fun t ht => hr t (by simp only [opds, List.flatMap_cons, List.mem_append]; exact .inr ht)
  simp only [calleeP, h1, h2]
 | callm f xs => simp only [calleeP]; rw [evs_congr (xs := xs) hr]
 | callmA f xs k => simp only [calleeP]; rw [evs_congr (xs := xs) hr]
 | callmE f xs k => simp only [calleeP]; rw [evs_congr (xs := xs) fun t ht => hr t (by simp only [opds, List.flatMap_append, List.mem_append]; exact .inl ht)]
 | calln f xs => simp only [calleeP]; rw [evs_congr (xs := xs) hr]
 | calvm x xs =>
  have h1 : ev s' x = ev s x := ev_congr fun t ht => hr t (by simp [opds, ht])
  have h2 : xs.map (ev s') = xs.map (ev s) := evs_congr fun t ht => hr t (by simp only [opds, List.flatMap_cons, List.mem_append]; exact .inr ht)
  simp only [calleeP, h1, h2]
 | _ => rfl
def isN : MOp → Bool
 | .calln .. => true
 | _ => false
def hpO (id : Nat) : Option PObj → List (Nat × Option PObj)
 | some o => [(id, some o)]
 | none => []
theorem app_newO (s : St) (d : Option Nat) (r : PV) (id : Nat) (ob : Option PObj) : Eff.app ⟨slD d r, hpO id ob⟩ s = newO s d id r ob := by
 cases ob with
 | none => exact app_slD s d r
 | some o => exact (app_new s d r id o).trans (by cases d <;> rfl)
def DoesP (P : Program) (id : Nat) (o : MO) (s : St) (E : Eff) : Prop :=
 if o.op.isCall = true then (∃ f args r, isN o.op = false ∧ calleeP s o.op = some (f, args) ∧ CallV P o.op.lend f args s.H r ∧ E = ⟨slD o.dst r, []⟩) ∨ ∃ f xs r ob, o.op = .calln f xs ∧ NewV P f (xs.map (ev s)) id r ob ∧ E = ⟨slD o.dst r, hpO id ob⟩
 else effM id o s = some E
def DoesG (P : Program) (id : Nat) (o : MO) (s : St) (E : Eff) : Prop :=
 match o.guard with
 | none => DoesP P id o s E
 | some (t, want) => match s.s t with
  | .sc (.bool b) => if b = want then DoesP P id o s E else E = ⟨slD o.dst (.sc undef), []⟩
  | .sc (.tuple _) => E = ⟨slD o.dst (.sc undef), []⟩
  | _ => False
theorem opP_does {P : Program} {id : Nat} {o : MO} {K : St → Prop} {s : St} (hfr : o.op.free = false) : opP P true id o K s ↔ ∃ E, DoesP P id o s E ∧ K (E.app s) := by
 unfold opP DoesP
 by_cases hc : o.op.isCall = true
 ·rw [if_pos hc]
  simp only [if_pos hc]
  constructor
  ·intro h
   split at h
   ·rename_i hA
    rw [hA] at hfr
    cases hfr
   ·rename_i hA
    rw [hA] at hfr
    cases hfr
   ·rename_i f xs hA
    obtain ⟨r, ob, hp, hk⟩ := h
    exact ⟨_, .inr ⟨f, xs, r, ob, hA, hp, rfl⟩, by rw [app_newO]; exact hk⟩
   rename_i hn1 hn3 hn2
   have hn : isN o.op = false := by cases hop : o.op <;> first | rfl | exact absurd hop (hn2 _ _)
   split at h
   ·rename_i f args hf
    rcases h with ⟨r, hp, hk⟩ | ⟨h0, _⟩
    ·exact ⟨_, .inl ⟨f, args, r, hn, hf, hp, rfl⟩, by rw [app_slD]; exact hk⟩
    ·rw [hfr] at h0; cases h0
   ·obtain ⟨op, hop, _⟩ := h
    rw [hop] at hfr
    cases hfr
  ·rintro ⟨E, ⟨f, args, r, hn, hf, hp, rfl⟩ | ⟨f, xs, r, ob, hA, hp, rfl⟩, hk⟩
   ·rw [app_slD] at hk
    split
    ·rename_i hA
     rw [hA] at hfr
     cases hfr
    ·rename_i hA
     rw [hA] at hfr
     cases hfr
    ·rename_i hA
     rw [hA] at hn
     cases hn
    rw [hf]
    exact .inl ⟨r, hp, hk⟩
   ·rw [app_newO] at hk
    simp only [hA]
    exact ⟨r, ob, hp, hk⟩
 ·rw [if_neg hc]
  simp only [if_neg hc, stepM_eff]
  constructor
  ·intro h
   cases he : effM id o s with
   | none => simp [he] at h
   | some E => simp [he] at h; exact ⟨E, rfl, h⟩
  ·rintro ⟨E, he, hk⟩
   simp only [he, Option.map_some]
   exact hk
theorem opG_does {P : Program} {id : Nat} {o : MO} {K : St → Prop} {s : St} (hfr : o.op.free = false) : opG P true id o K s ↔ ∃ E, DoesG P id o s E ∧ K (E.app s) := by
 unfold opG DoesG
 cases hg : o.guard with
 | none => exact opP_does hfr
 | some q =>
  obtain ⟨t, want⟩ := q
  simp only []
  generalize s.s t = p
  cases p with
  | sc v =>
   cases v with
   | bool b =>
    simp only []
    by_cases hb : b = want
    ·simp only [if_pos hb]; exact opP_does hfr
    ·simp only [if_neg hb]
     constructor
     ·intro h; exact ⟨_, rfl, by rw [app_slD]; exact h⟩
     ·rintro ⟨E, rfl, h⟩; rw [app_slD] at h; exact h
   | tuple _ =>
    simp only []
    constructor
    ·intro h; exact ⟨_, rfl, by rw [app_slD]; exact h⟩
    ·rintro ⟨E, rfl, h⟩; rw [app_slD] at h; exact h
   | _ => simp
  | _ => simp
theorem brw_congr {H H' : Nat → Option PObj} {x : PV} (hi : (brw H x).top = true) (hh : ∀ id : Nat, OwnAt (x) id → H id ≠ none → H' id = H id) : brw H' x = brw H x := by
 cases x with
 | optr id off =>
  cases ho : H id with
  | none => simp [brw, ho, PV.top] at hi
  | some o => simp only [brw, hh id (.inl ⟨off, rfl⟩) (by rw [ho]; simp)]
 | osl id off len sz =>
  cases ho : H id with
  | none => simp [brw, ho, PV.top] at hi
  | some o => simp only [brw, hh id (.inr (.inl ⟨off, len, sz, rfl⟩)) (by rw [ho]; simp)]
 | _ => rfl
theorem caps_imm {H : Nat → Option PObj} : ∀ (xs : List PV), topL (xs.map (brw H)) = true → ∀ (H' : Nat → Option PObj), (∀ x ∈ xs, ∀ id : Nat, OwnAt (x) id → H id ≠ none → H' id = H id) → xs.map (brw H') = xs.map (brw H)
 | [], _, _, _ => rfl
 | x :: r, h, H', hh => by
  simp only [List.map_cons, topL, Bool.and_eq_true] at h ⊢
  rw [brw_congr h.1 (hh x (by simp)), caps_imm r h.2 H' fun y hy => hh y (by simp [hy])]
theorem callV_congr {P : Program} {s s' : St} {m : MOp} {f : FuncId} {args : List PV} {r : PV} (hc : calleeP s m = some (f, args)) (hh : ∀ t ∈ adr m, ∀ id : Nat, OwnAt (s.s t) id → s.H id ≠ none → s'.H id = s.H id)
  (h : CallV P m.lend f args s.H r) : CallV P m.lend f args s'.H r := by
 rcases h with h | ⟨h0, h1, h2, h3⟩
 ·exact .inl h
 ·cases m with
  | call g xs =>
   simp only [calleeP, Option.some.injEq, Prod.mk.injEq] at hc
   obtain ⟨rfl, rfl⟩ := hc
   have e : (xs.map (ev s)).map (brw s'.H) = (xs.map (ev s)).map (brw s.H) := by
    refine caps_imm _ h2 s'.H fun x hx id hid hn => ?_
    obtain ⟨y, hy, rfl⟩ := List.mem_map.1 hx
    cases y with
    | tmp t => exact hh t (List.mem_flatMap.2 ⟨_, hy, by simp [slotOf]⟩) id hid hn
    | _ =>
     rcases hid with ⟨_, e⟩ | ⟨_, _, _, e⟩ | ⟨_, _, _, e⟩ <;> simp [ev] at e
   exact .inr ⟨h0, h1, by rw [e]; exact h2, by rw [e]; exact h3⟩
  | callm g xs =>
   simp only [calleeP, Option.some.injEq, Prod.mk.injEq] at hc
   obtain ⟨rfl, rfl⟩ := hc
   have e : (xs.map (ev s)).map (brw s'.H) = (xs.map (ev s)).map (brw s.H) := by
    refine caps_imm _ h2 s'.H fun x hx id hid hn => ?_
    obtain ⟨y, hy, rfl⟩ := List.mem_map.1 hx
    cases y with
    | tmp t => exact hh t (List.mem_flatMap.2 ⟨_, hy, by simp [slotOf]⟩) id hid hn
    | _ =>
     rcases hid with ⟨_, e⟩ | ⟨_, _, _, e⟩ | ⟨_, _, _, e⟩ <;> simp [ev] at e
   exact .inr ⟨h0, h1, by rw [e]; exact h2, by rw [e]; exact h3⟩
  | callmA g xs k =>
   simp only [calleeP, Option.some.injEq, Prod.mk.injEq] at hc
   obtain ⟨rfl, rfl⟩ := hc
   have e : (xs.map (ev s)).map (brw s'.H) = (xs.map (ev s)).map (brw s.H) := by
    refine caps_imm _ h2 s'.H fun x hx id hid hn => ?_
    obtain ⟨y, hy, rfl⟩ := List.mem_map.1 hx
    cases y with
    | tmp t => exact hh t (List.mem_flatMap.2 ⟨_, hy, by simp [slotOf]⟩) id hid hn
    | _ =>
     rcases hid with ⟨_, e⟩ | ⟨_, _, _, e⟩ | ⟨_, _, _, e⟩ <;> simp [ev] at e
   exact .inr ⟨h0, h1, by rw [e]; exact h2, by rw [e]; exact h3⟩
  | callmE g xs k =>
   simp only [calleeP, Option.some.injEq, Prod.mk.injEq] at hc
   obtain ⟨rfl, rfl⟩ := hc
   have e : (xs.map (ev s)).map (brw s'.H) = (xs.map (ev s)).map (brw s.H) := by
    refine caps_imm _ h2 s'.H fun x hx id hid hn => ?_
    obtain ⟨y, hy, rfl⟩ := List.mem_map.1 hx
    cases y with
    | tmp t => exact hh t (List.mem_flatMap.2 ⟨_, hy, by simp [slotOf]⟩) id hid hn
    | _ =>
     rcases hid with ⟨_, e⟩ | ⟨_, _, _, e⟩ | ⟨_, _, _, e⟩ <;> simp [ev] at e
   exact .inr ⟨h0, h1, by rw [e]; exact h2, by rw [e]; exact h3⟩
  | _ => simp [MOp.lend] at h0
theorem DoesG_congr {P : Program} {id : Nat} {o : MO} {s s' : St} {E : Eff} (hfr : o.op.free = false) (hr : ∀ t ∈ reads o, s'.s t = s.s t) (hh : ∀ t ∈ adr o.op, ∀ id : Nat, OwnAt (s.s t) id → s.H id ≠ none → s'.H id = s.H id)
  (h : DoesG P id o s E) : DoesG P id o s' E := by
 have hr2 : ∀ t ∈ (opds o.op).flatMap slotOf, s'.s t = s.s t := fun t ht => hr t (by simp only [reads, List.mem_append]; exact .inr ht)
 have hP : DoesP P id o s E → DoesP P id o s' E := by
  intro hd
  unfold DoesP at hd ⊢
  split at hd
  ·rename_i hc
   rw [if_pos hc, callee_congr hr2]
   rcases hd with ⟨f, args, r, h0, h1, h2, h3⟩ | ⟨f, xs, r, ob, h1, h2, h3⟩
   ·exact .inl ⟨f, args, r, h0, h1, callV_congr h1 hh h2, h3⟩
   ·have e : xs.map (ev s') = xs.map (ev s) := evs_congr fun t ht => hr2 t (by rw [h1]; exact ht)
    exact .inr ⟨f, xs, r, ob, h1, by rw [e]; exact h2, h3⟩
  ·rename_i hc
   rw [if_neg hc]
   exact effM_congr hfr hr2 hh hd
 unfold DoesG at h ⊢
 cases hg : o.guard with
 | none => rw [hg] at h; exact hP h
 | some q =>
  obtain ⟨t, want⟩ := q
  rw [hg] at h
  have : s'.s t = s.s t := hr t (by simp [reads, hg])
  simp only [this] at h ⊢
  generalize s.s t = p at *
  cases p with
  | sc v =>
   cases v with
   | bool b =>
    simp only [] at h ⊢
    by_cases hb : b = want
    ·rw [if_pos hb] at h ⊢; exact hP h
    ·rw [if_neg hb] at h ⊢; exact h
   | _ => exact h
  | _ => exact h
theorem slD_mem {d : Option Nat} {x : PV} {q : Nat × PV} (h : q ∈ slD d x) : d = some q.1 := by
 cases d with
 | none => cases h
 | some t => simp [slD] at h; simp [h]
theorem appR_writes {s : St} {id sz bytes m : Nat} {p : PV} {new : List PV} {r : PV} {hs : List (Nat × Option PObj)} (hE : appR s id sz bytes p new m = some (r, hs)) : ∀ q ∈ hs, q.1 = id ∨ s.H q.1 ≠ none := by
 intro q hq
 simp only [appR, Option.bind_eq_some_iff] at hE
 obtain ⟨⟨oid, old, nn⟩, hold, hE⟩ := hE
 simp only [] at hE
 split at hE
 ·cases oid with
  | some j =>
   simp only [Option.some.injEq, Prod.mk.injEq] at hE
   obtain ⟨_, rfl⟩ := hE
   have hj : s.H j ≠ none := by
    skip
    cases p with
    | osl id' off len sz' =>
     cases off with
     | succ k => simp [oldOf] at hold
     | zero =>
      simp only [oldOf] at hold
      cases ho : s.H id' with
      | none => simp [ho] at hold
      | some o =>
       simp only [ho] at hold
       split at hold
       ·simp only [Option.some.injEq, Prod.mk.injEq] at hold
        rw [← hold.1, ho]
        simp
       ·cases hold
    | ocap id2 off2 n2 sz2 =>
     exfalso
     simp only [oldOf] at hold
     split at hold
     ·split at hold
      ·cases hold
      ·cases hold
     ·cases hold
    | csl sz2 es =>
     exfalso
     simp only [oldOf] at hold
     split at hold
     ·cases hold
     ·cases hold
    | sc v =>
     have := (oldOf_sc s s sz v).2 _ hold
     cases this
    | _ => simp [oldOf] at hold
   simp at hq
   rcases hq with rfl | rfl
   ·exact .inr hj
   ·exact .inl rfl
  | none =>
   simp only [] at hE
   split at hE
   ·split at hE
    ·simp only [Option.some.injEq, Prod.mk.injEq] at hE
     obtain ⟨_, rfl⟩ := hE
     simp at hq
    ·cases hE
   ·simp only [Option.some.injEq, Prod.mk.injEq] at hE
    obtain ⟨_, rfl⟩ := hE
    simp at hq
    rw [hq]
    exact .inl rfl
 ·cases hE
theorem does_writes {P : Program} {id : Nat} {o : MO} {s : St} {E : Eff} (hfr : o.op.free = false) (h : DoesG P id o s E) :
  (∀ q ∈ E.sl, q.1 ∈ writes o) ∧ (E.hp = [] ∨ (hk o.op = 2 ∧ ∃ ob, E.hp = [(id, some ob)]) ∨ (hk o.op = 3 ∧ ∀ q ∈ E.hp, q.1 = id ∨ s.H q.1 ≠ none)) := by
 have hD : ∀ {x : PV} {q : Nat × PV}, q ∈ slD o.dst x → q.1 ∈ writes o := by
  intro x q hq
  have := slD_mem hq
  simp [writes, this]
 have hskip : E = ⟨slD o.dst (.sc undef), []⟩ → (∀ q ∈ E.sl, q.1 ∈ writes o) ∧ (E.hp = [] ∨ (hk o.op = 2 ∧ ∃ ob, E.hp = [(id, some ob)]) ∨ (hk o.op = 3 ∧ ∀ q ∈ E.hp, q.1 = id ∨ s.H q.1 ≠ none)) := by
  rintro rfl
  exact ⟨fun q hq => hD hq, .inl rfl⟩
 have hP : DoesP P id o s E → (∀ q ∈ E.sl, q.1 ∈ writes o) ∧ (E.hp = [] ∨ (hk o.op = 2 ∧ ∃ ob, E.hp = [(id, some ob)]) ∨ (hk o.op = 3 ∧ ∀ q ∈ E.hp, q.1 = id ∨ s.H q.1 ≠ none)) := by
  intro hd
  unfold DoesP at hd
  split at hd
  ·rcases hd with ⟨f, args, r, _, _, _, rfl⟩ | ⟨f, xs, r, ob, hA, _, rfl⟩
   ·exact ⟨fun q hq => hD hq, .inl rfl⟩
   ·cases ob with
    | none => exact ⟨fun q hq => hD hq, .inl rfl⟩
    | some ob => exact ⟨fun q hq => hD hq, .inr (.inl ⟨by rw [hA]; rfl, ob, rfl⟩)⟩
  ·obtain ⟨dst, op, g⟩ := o
   cases op with
   | al zero =>
    simp only [effM, Option.some.injEq] at hd
    subst hd
    exact ⟨fun q hq => hD hq, .inr (.inl ⟨rfl, _, rfl⟩)⟩
   | bx x own =>
    simp only [effM] at hd
    split at hd
    ·split at hd
     ·rename_i hown; cases hd; exact ⟨fun q hq => hD hq, .inr (.inl ⟨by simp [hk, hown], _, rfl⟩)⟩
     ·cases hd; exact ⟨fun q hq => hD hq, .inl rfl⟩
    ·cases hd
   | bsl sz len zero parts own =>
    simp only [effM] at hd
    split at hd
    ·simp only [Option.bind_eq_some_iff, Option.map_eq_some_iff] at hd
     obtain ⟨_, _, _, _, hd⟩ := hd
     split at hd
     ·rename_i hown; subst hd; exact ⟨fun q hq => hD hq, .inr (.inl ⟨by simp [hk, hown], _, rfl⟩)⟩
     ·subst hd; exact ⟨fun q hq => hD hq, .inl rfl⟩
    ·cases hd
   | mks sz bytes zero l c =>
    simp only [effM] at hd
    split at hd
    ·split at hd
     ·cases hd; exact ⟨fun q hq => hD hq, .inr (.inl ⟨rfl, _, rfl⟩)⟩
     ·cases hd
    ·cases hd
   | st x v sz fz =>
    simp only [effM] at hd
    split at hd
    ·simp only [Option.bind_eq_some_iff] at hd
     obtain ⟨⟨j, ob⟩, hst, hd⟩ := hd
     obtain ⟨off, o0, _, hH, _, _⟩ := storeP_inv hst
     have hne : s.H j ≠ none := by rw [hH]; simp
     split at hd
     ·rename_i hfz
      split at hd
      ·cases hd
       refine ⟨fun q hq => ?_, .inr (.inr ⟨rfl, fun q hq => by simp at hq; rw [hq]; exact .inr hne⟩)⟩
       rcases List.mem_cons.1 hq with rfl | hq
       ·subst hfz
        simp [writes]
       ·exact hD hq
      ·cases hd
     ·cases hd
      exact ⟨fun q hq => hD hq, .inr (.inr ⟨rfl, fun q hq => by simp at hq; rw [hq]; exact .inr hne⟩)⟩
    ·cases hd
   | app sz bytes x y =>
    simp only [effM, Option.map_eq_some_iff] at hd
    obtain ⟨⟨r, hs⟩, hE, rfl⟩ := hd
    simp only [appE, Option.bind_eq_some_iff] at hE
    obtain ⟨_, _, _, _, hE⟩ := hE
    exact ⟨fun q hq => hD hq, .inr (.inr ⟨rfl, appR_writes hE⟩)⟩
   | apps bytes x y =>
    simp only [effM, Option.map_eq_some_iff] at hd
    obtain ⟨⟨r, hs⟩, hE, rfl⟩ := hd
    unfold appS at hE
    split at hE
    ·exact ⟨fun q hq => hD hq, .inr (.inr ⟨rfl, appR_writes hE⟩)⟩
    ·cases hE
   | rng x => simp [MOp.free] at hfr
   | nxt x => simp [MOp.free] at hfr
   | _ =>
    simp only [effM, Option.map_eq_some_iff] at hd
    obtain ⟨_, _, rfl⟩ := hd
    exact ⟨fun q hq => hD hq, .inl rfl⟩
 unfold DoesG at h
 split at h
 ·exact hP h
 ·split at h
  ·split at h
   ·exact hP h
   ·exact hskip h
  ·exact hskip h
  ·exact h.elim
theorem updL_out {f : Nat → Option PObj} {k : Nat} : ∀ {l : List (Nat × Option PObj)}, (∀ q ∈ l, q.1 ≠ k) → updL f l k = f k := by
 intro l
 induction l generalizing f with
 | nil => intro _; rfl
 | cons q r ih =>
  intro h
  obtain ⟨t, x⟩ := q
  simp only [updL]
  rw [ih (fun q hq => h q (by simp [hq]))]
  exact upd_ne _ _ (fun e => h (t, x) (by simp) e.symm)
theorem sets_out {f : Nat → PV} {t : Nat} : ∀ {l : List (Nat × PV)}, (∀ q ∈ l, q.1 ≠ t) → sets f l t = f t := by
 intro l
 induction l generalizing f with
 | nil => intro _; rfl
 | cons q r ih =>
  intro h
  obtain ⟨k, x⟩ := q
  simp only [sets]
  rw [ih (fun q hq => h q (by simp [hq]))]
  exact upd_ne _ _ (fun e => h (k, x) (by simp) e.symm)
theorem sets_upd {t : Nat} {x : PV} : ∀ {l : List (Nat × PV)} {f : Nat → PV}, (∀ q ∈ l, q.1 ≠ t) → sets (upd f t x) l = upd (sets f l) t x := by
 intro l
 induction l with
 | nil => intro f _; rfl
 | cons q r ih =>
  intro f h
  obtain ⟨k, y⟩ := q
  simp only [sets]
  rw [upd_comm f x y (fun e => h (k, y) (by simp) e.symm), ih (fun q hq => h q (by simp [hq]))]
theorem sets_comm : ∀ {l k : List (Nat × PV)} {f : Nat → PV}, (∀ q ∈ l, ∀ p ∈ k, p.1 ≠ q.1) → sets (sets f l) k = sets (sets f k) l := by
 intro l
 induction l with
 | nil => intro k f _; rfl
 | cons q r ih =>
  intro k f h
  obtain ⟨t, x⟩ := q
  simp only [sets]
  rw [ih (fun q hq p hp => h q (by simp [hq]) p hp), sets_upd (fun p hp => h (t, x) (by simp) p hp)]
theorem app_slot {E : Eff} {s : St} {t : Nat} (h : ∀ q ∈ E.sl, q.1 ≠ t) : (E.app s).s t = s.s t := sets_out h
theorem adr_sub (m : MOp) {t : Nat} (ht : t ∈ adr m) : t ∈ (opds m).flatMap slotOf := by
 cases m with
 | ld x sz ag => simpa [opds, adr] using ht
 | ldo x ks sz ag => simp only [opds, List.flatMap_cons, List.mem_append]; exact .inl ht
 | ldf x sz ag => simp [adr] at ht
 | st x v sz fz => simp only [opds, List.flatMap_cons, List.mem_append]; exact .inl ht
 | app sz bytes x y => simp only [opds, List.flatMap_cons, List.flatMap_nil, List.mem_append, List.append_nil]; exact List.mem_append.1 ht
 | apps bytes x y => simp only [opds, List.flatMap_cons, List.mem_append]; exact .inl ht
 | call f xs => simpa [opds, adr] using ht
 | calv x xs => simpa [opds, adr] using ht
 | callm f xs => simpa [opds, adr] using ht
 | callmA f xs k => simpa [opds, adr] using ht
 | callmE f xs k => simp only [opds, List.flatMap_append, List.mem_append]; exact .inl ht
 | calvm x xs => simpa [opds, adr] using ht
 | _ => simp [adr] at ht
theorem adr_hk (m : MOp) {t : Nat} (ht : t ∈ adr m) : hk m ≠ 0 := by
 cases m <;> first | (simp [hk]; done) | (simp [adr] at ht; done)
theorem st_eff {P : Program} {iy : Nat} {y : MO} {s : St} {E : Eff} {k sz : Nat} {v : Operand} (o : y.op = .st (.tmp k) v sz false) (g : y.guard = none) (h : DoesG P iy y s E) : ∃ j off ob, s.s k = .optr j off ∧ E.hp = [(j, some ob)] := by
 obtain ⟨dst, op, gd⟩ := y
 subst o
 subst g
 have h2 : effM iy ⟨dst, .st (.tmp k) v sz false, none⟩ s = some E := by
  have h1 : DoesP P iy ⟨dst, .st (.tmp k) v sz false, none⟩ s E := h
  unfold DoesP at h1
  rw [if_neg (by simp [MOp.isCall])] at h1
  exact h1
 simp only [effM] at h2
 split at h2
 ·simp only [Option.bind_eq_some_iff] at h2
  obtain ⟨⟨j, ob⟩, hst, h2⟩ := h2
  obtain ⟨off, o0, he, _, _, _⟩ := storeP_inv hst
  rw [if_neg (by simp)] at h2
  cases h2
  exact ⟨j, off, ob, he, rfl⟩
 ·cases h2
theorem ldo_eff {P : Program} {ix : Nat} {x : MO} {s : St} {E : Eff} {x' : Operand} {ks : List Nat} {sz : Nat} {ag : Bool} (o : x.op = .ldo x' ks sz ag) (g : x.guard = none) (h : DoesG P ix x s E) : (∀ k ∈ ks, apartP (ev s x') (s.s k) = true) ∧ E.hp = [] := by
 obtain ⟨dst, op, gd⟩ := x
 subst o
 subst g
 have h2 : effM ix ⟨dst, .ldo x' ks sz ag, none⟩ s = some E := by
  have h1 : DoesP P ix ⟨dst, .ldo x' ks sz ag, none⟩ s E := h
  unfold DoesP at h1
  rw [if_neg (by simp [MOp.isCall])] at h1
  exact h1
 simp only [effM, val, Option.map_eq_some_iff] at h2
 obtain ⟨y, h2, rfl⟩ := h2
 split at h2
 ·rename_i hc
  exact ⟨List.all_eq_true.1 hc, rfl⟩
 ·cases h2
theorem ldo_reads {x : MO} {x' : Operand} {ks : List Nat} {sz k : Nat} {ag : Bool} (o : x.op = .ldo x' ks sz ag) (hk : k ∈ ks) : k ∈ reads x := by
 simp only [reads, o, opds, List.mem_append, List.flatMap_cons, List.mem_flatMap]
 exact .inr (.inr ⟨.tmp k, List.mem_map.2 ⟨k, hk, rfl⟩, by simp [slotOf]⟩)
theorem adr_ev {s : St} {x' : Operand} {ks : List Nat} {sz t id : Nat} {ag : Bool} (ht : t ∈ adr (.ldo x' ks sz ag)) (he : OwnAt (s.s t) id) : OwnAt (ev s x') id := by
 cases x' with
 | tmp u =>
  simp only [adr, slotOf, List.mem_singleton] at ht
  subst ht
  exact he
 | _ => simp [adr, slotOf] at ht
theorem apart_ne {p : PV} {j off id : Nat} (h : apartP p (.optr j off) = true) (ho : OwnAt p id) : id ≠ j := by
 rcases ho with ⟨_, rfl⟩ | ⟨_, _, _, rfl⟩ | ⟨_, _, _, rfl⟩
 ·simpa [apartP] using h
 ·simp [apartP] at h
 ·simp [apartP] at h
theorem swap {P : Program} {y x : MO} {iy ix : Nat} {s : St} {Ey Ex : Eff} (hi : indep y x = true) (hne : iy ≠ ix) (hy : DoesG P iy y s Ey) (hx : DoesG P ix x (Ey.app s) Ex)
  (hA : ∀ t ∈ adr x.op, ¬ OwnAt (s.s t) iy) (hB : s.H ix = none) : DoesG P ix x s Ex ∧ DoesG P iy y (Ex.app s) Ey ∧ Ex.app (Ey.app s) = Ey.app (Ex.app s) := by
 obtain ⟨hi, fy, fx⟩ := indep_inv hi
 simp only [indep0, Bool.and_eq_true] at hi
 obtain ⟨⟨⟨⟨h1, h2⟩, h3⟩, h4⟩, h5⟩ := hi
 replace h4 : hk y.op = 3 → hk x.op = 0 ∨ away y x = true := away_or h4
 replace h5 : hk x.op = 3 → hk y.op = 0 ∨ away x y = true := away_or h5
 obtain ⟨wy, py⟩ := does_writes fy hy
 obtain ⟨wx, px⟩ := does_writes fx hx
 have r1 : ∀ t ∈ reads x, (Ey.app s).s t = s.s t := fun t ht => app_slot fun q hq e => disj_spec h1 (wy q hq) (by rw [e]; exact ht)
 have hsub : ∀ t ∈ adr x.op, t ∈ reads x := by
  intro t ht
  simp only [reads, List.mem_append]
  exact .inr (adr_sub _ ht)
 have hsuby : ∀ t ∈ adr y.op, t ∈ reads y := by
  intro t ht
  simp only [reads, List.mem_append]
  exact .inr (adr_sub _ ht)
 have hadr : ∀ m : MOp, ∀ t ∈ adr m, hk m ≠ 0 := fun m t ht => adr_hk m ht
 have d1 : DoesG P ix x s Ex := by
  refine DoesG_congr fx (fun t ht => (r1 t ht).symm) (fun t ht id he hn => ?_) hx
  have hx0 := hadr _ t ht
  rcases py with hp | ⟨_, ob, hp⟩ | ⟨h6, hp⟩
  ·simp only [Eff.app, hp, updL]
  ·have hid : id ≠ iy := fun e => hA t ht (by rw [r1 t (hsub t ht), e] at he; exact he)
   simp only [Eff.app, hp, updL, upd_ne _ _ hid]
  ·rcases h4 h6 with h | h
   ·exact absurd h hx0
   ·obtain ⟨k, v, sz, x', ks, sz', ag, o1, o2, hkm, g1, g2⟩ := away_inv h
    obtain ⟨j, off, ob, e1, e2⟩ := st_eff o1 g1 hy
    have e3 := (ldo_eff o2 g2 hx).1 k hkm
    rw [r1 k (ldo_reads o2 hkm), e1] at e3
    have hid := apart_ne e3 (by rw [o2] at ht; exact adr_ev ht he)
    simp only [Eff.app, e2, updL, upd_ne _ _ hid]
 obtain ⟨wx2, px2⟩ := does_writes fx d1
 have d2 : DoesG P iy y (Ex.app s) Ey := by
  refine DoesG_congr fy (fun t ht => app_slot fun q hq e => disj_spec h3 (wx q hq) (by rw [e]; exact ht)) (fun t ht id he hn => ?_) hy
  have hy0 := hadr _ t ht
  rcases px2 with hp | ⟨_, ob, hp⟩ | ⟨h6, hp⟩
  ·simp only [Eff.app, hp, updL]
  ·have hid : id ≠ ix := fun e => hn (by rw [e]; exact hB)
   simp only [Eff.app, hp, updL, upd_ne _ _ hid]
  ·rcases h5 h6 with h | h
   ·exact absurd h hy0
   ·obtain ⟨k, v, sz, x', ks, sz', ag, o1, o2, hkm, g1, g2⟩ := away_inv h
    obtain ⟨j, off, ob, e1, e2⟩ := st_eff o1 g1 d1
    have e3 := (ldo_eff o2 g2 hy).1 k hkm
    rw [e1] at e3
    have hid := apart_ne e3 (by rw [o2] at ht; exact adr_ev ht he)
    simp only [Eff.app, e2, updL, upd_ne _ _ hid]
 refine ⟨d1, d2, ?_⟩
 have hs : sets (sets s.s Ey.sl) Ex.sl = sets (sets s.s Ex.sl) Ey.sl := sets_comm fun q hq p hp e => disj_spec h2 (wy q hq) (by rw [← e]; exact wx p hp)
 have hH : (Ex.app (Ey.app s)).H = (Ey.app (Ex.app s)).H := by
  rcases py with hp | ⟨k1, ob, hp⟩ | ⟨h6, hp⟩
  ·simp only [Eff.app, hp, updL]
  ·rcases px2 with hq | ⟨_, ob', hq⟩ | ⟨h7, hq⟩
   ·simp only [Eff.app, hp, hq, updL]
   ·simp only [Eff.app, hp, hq, updL]
    exact upd_comm _ _ _ hne
   ·have : hk y.op = 0 ∨ hk y.op = 1 := by
     rcases h5 h7 with h | h
     ·exact .inl h
     ·obtain ⟨_, _, _, _, _, _, _, _, o2, _⟩ := away_inv h
      rw [o2]
      exact .inr rfl
    omega
  ·have h8 : hk x.op = 0 ∨ hk x.op = 1 := by
    rcases h4 h6 with h | h
    ·exact .inl h
    ·obtain ⟨_, _, _, _, _, _, _, _, o2, _⟩ := away_inv h
     rw [o2]
     exact .inr rfl
   rcases px2 with hq | ⟨k2, ob', hq⟩ | ⟨h7, hq⟩
   ·simp only [Eff.app, hq, updL]
   ·omega
   ·omega
 have e : ∀ u v : St, u.s = v.s → u.H = v.H → u.nx = v.nx → u = v := by
  rintro ⟨a, b, c⟩ ⟨a', b', c'⟩ rfl rfl rfl
  rfl
 exact e _ _ hs hH rfl
def ahead0 (y x : Nat × MO) : Bool :=
 match y.2.op, x.2.op with
 | .callmA _ _ k, .al _ => y.2.guard.isNone && (x.2.guard.isNone && (x.1 == y.1 + k && (disj x.2.dst.toList (reads y.2) && disj x.2.dst.toList y.2.dst.toList)))
 | _, _ => false
theorem ahead_swap {P : Program} {base : Nat} {iy ix : Nat} {my mx : MO} {K K2 : St → Prop} {s : St} (ha : ahead0 (iy, my) (ix, mx) = true) (hB : s.H (base + ix) = none)
  (hK : ∀ s', s'.H (base + ix) = none → K s' → opG P true (base + ix) mx K2 s') (h : opG P true (base + iy) my K s) : opG P true (base + ix) mx (opG P true (base + iy) my K2) s := by
 obtain ⟨dy, oy, gy⟩ := my
 obtain ⟨dx, ox, gx⟩ := mx
 unfold ahead0 at ha
 split at ha
 ·rename_i f xs k zero e1 e2
  simp only at e1 e2
  subst e1
  subst e2
  simp only [Bool.and_eq_true, Option.isNone_iff_eq_none, beq_iff_eq] at ha
  obtain ⟨rfl, rfl, rfl, hd1, hd2⟩ := ha
  have h1 : callA P (base + iy) k f (xs.map (ev s)) dy K s := h
  obtain ⟨_, h2⟩ := h1
  have hB' : s.H (base + iy + k) = none := by rw [Nat.add_assoc]; exact hB
  obtain ⟨Q2, h3, h4⟩ := h2 zero hB'
  show opG P true (base + iy) ⟨dy, .callmA f xs k, none⟩ K2 (newAt s dx (base + (iy + k)) (.optr (base + (iy + k)) 0) ⟨zero.map .sc, true⟩)
  have hev : xs.map (ev (newAt s dx (base + (iy + k)) (.optr (base + (iy + k)) 0) ⟨zero.map .sc, true⟩)) = xs.map (ev s) := evs_congr fun t ht => by
   cases dx with
   | none => rfl
   | some u =>
    have : t ≠ u := fun e => disj_spec hd1 (t := u) (by simp) (by rw [← e]; simp only [reads, List.mem_append]; exact .inr ht)
    simp only [newAt, put, upd, if_neg this]
  have hH : (newAt s dx (base + (iy + k)) (.optr (base + (iy + k)) 0) ⟨zero.map .sc, true⟩).H = upd s.H (base + iy + k) (some ⟨zero.map .sc, true⟩) := by cases dx <;> simp only [newAt, put, Nat.add_assoc]
  have hnx : (newAt s dx (base + (iy + k)) (.optr (base + (iy + k)) 0) ⟨zero.map .sc, true⟩).nx = s.nx := by cases dx <;> rfl
  show callA P (base + iy) k f (xs.map (ev (newAt s dx (base + (iy + k)) (.optr (base + (iy + k)) 0) ⟨zero.map .sc, true⟩))) dy K2 (newAt s dx (base + (iy + k)) (.optr (base + (iy + k)) 0) ⟨zero.map .sc, true⟩)
  rw [hev]
  refine ⟨⟨Q2, by rw [hH, hnx]; exact h3, fun H2 nx2 r hq hn => ?_⟩, fun zs hz => ?_⟩
  ·rw [hnx] at hn
   obtain ⟨H', h5, h6, h7⟩ := h4 H2 nx2 r hq hn
   have h8 := hK _ (by cases dy <;> exact (by rw [Nat.add_assoc] at h6; exact h6)) h7
   have h9 : K2 (newAt (put { s with H := H', nx := nx2 } dy r) dx (base + (iy + k)) (.optr (base + (iy + k)) 0) ⟨zero.map .sc, true⟩) := h8
   have e : newAt (put { s with H := H', nx := nx2 } dy r) dx (base + (iy + k)) (.optr (base + (iy + k)) 0) ⟨zero.map .sc, true⟩ = put { (newAt s dx (base + (iy + k)) (.optr (base + (iy + k)) 0) ⟨zero.map .sc, true⟩) with H := H2, nx := nx2 } dy r := by
    rw [h5, Nat.add_assoc]
    cases dx with
    | none => cases dy <;> rfl
    | some u =>
     cases dy with
     | none => rfl
     | some t =>
      have : u ≠ t := fun e => disj_spec hd2 (t := u) (by simp) (by simp [e])
      simp only [newAt, put]
      rw [upd_comm s.s r _ (fun e => this e.symm)]
   rw [e] at h9
   exact h9
  ·rw [hH] at hz
   simp [upd] at hz
 ·cases ha
def aheadE (y x : MO) : Bool :=
 match y.op with
 | .callmE _ _ _ => y.guard.isNone && (hk x.op == 0 && (!x.op.free && (disj (writes x) (reads y) && (disj (writes y) (reads x) && disj (writes x) (writes y)))))
 | _ => false
def isE : MOp → Bool
 | .callmE .. => true
 | _ => false
def ldoHas : MOp → Option Nat → Bool
 | .ldo _ ks _ _, some k => ks.contains k
 | _, _ => false
theorem ldoHas_inv {o : MOp} {k : Option Nat} (h : ldoHas o k = true) : ∃ x ks sz ag k', o = .ldo x ks sz ag ∧ k = some k' ∧ k' ∈ ks := by
 unfold ldoHas at h
 split at h
 ·rename_i x ks sz ag k'
  exact ⟨x, ks, sz, ag, k', rfl, rfl, by simpa using h⟩
 ·cases h
def aheadF (y x : MO) : Bool :=
 match x.op with
 | .callmE _ _ k => x.guard.isNone && (!y.op.free && ((hk y.op == 0 || (y.guard.isNone && ldoHas y.op k)) && (disj (writes x) (reads y) && (disj (writes y) (reads x) && disj (writes y) (writes x)))))
 | _ => false
def ahead (y x : Nat × MO) : Bool := ahead0 y x || (aheadE y.2 x.2 || aheadF y.2 x.2)
theorem adr_none {m : MOp} (h : hk m = 0) {t : Nat} (ht : t ∈ adr m) : False := adr_hk m ht h
theorem hp_none {P : Program} {id : Nat} {o : MO} {s : St} {E : Eff} (hfr : o.op.free = false) (h0 : hk o.op = 0) (h : DoesG P id o s E) : E.hp = [] := by
 rcases (does_writes hfr h).2 with h1 | ⟨h1, _⟩ | ⟨h1, _⟩
 ·exact h1
 ·omega
 ·omega
theorem does_det {P : Program} {id : Nat} {o : MO} {s : St} {E E' : Eff} (hfr : o.op.free = false) (h0 : hk o.op = 0) (h : DoesG P id o s E) (h' : DoesG P id o s E') : E = E' := by
 have hnc : ¬ o.op.isCall = true := by
  intro hc
  cases hop : o.op <;> simp [hop, MOp.isCall, MOp.free, hk] at hc hfr h0
 have hP : ∀ {E E' : Eff}, DoesP P id o s E → DoesP P id o s E' → E = E' := by
  intro E E' a b
  unfold DoesP at a b
  rw [if_neg hnc] at a b
  rw [a] at b
  exact Option.some.inj b
 unfold DoesG at h h'
 cases hg : o.guard with
 | none => rw [hg] at h h'; exact hP h h'
 | some q =>
  obtain ⟨t, want⟩ := q
  rw [hg] at h h'
  simp only at h h'
  generalize s.s t = p at h h'
  cases p with
  | sc v =>
   cases v with
   | bool b =>
    simp only [] at h h'
    by_cases hb : b = want
    ·rw [if_pos hb] at h h'; exact hP h h'
    ·rw [if_neg hb] at h h'; rw [h, h']
   | tuple _ => simp only [] at h h'; rw [h, h']
   | _ => exact h.elim
  | _ => exact h.elim
theorem app_hp {E : Eff} {s : St} (h : E.hp = []) : (E.app s).H = s.H := by simp only [Eff.app, h, updL]
theorem swap0 {P : Program} {y x : MO} {iy ix : Nat} {s : St} {Ey Ex : Eff} (hi : indep y x = true) (h0 : hk x.op = 0) (hy : DoesG P iy y s Ey) (hx : DoesG P ix x (Ey.app s) Ex) :
  DoesG P ix x s Ex ∧ DoesG P iy y (Ex.app s) Ey ∧ Ex.app (Ey.app s) = Ey.app (Ex.app s) := by
 obtain ⟨hi, fy, fx⟩ := indep_inv hi
 simp only [indep0, Bool.and_eq_true] at hi
 obtain ⟨⟨⟨⟨h1, h2⟩, h3⟩, h4⟩, h5⟩ := hi
 obtain ⟨wy, _⟩ := does_writes fy hy
 obtain ⟨wx, _⟩ := does_writes fx hx
 have hp := hp_none fx h0 hx
 have r1 : ∀ t ∈ reads x, (Ey.app s).s t = s.s t := fun t ht => app_slot fun q hq e => disj_spec h1 (wy q hq) (by rw [e]; exact ht)
 have d1 : DoesG P ix x s Ex := DoesG_congr fx (fun t ht => (r1 t ht).symm) (fun t ht => (adr_none h0 ht).elim) hx
 have d2 : DoesG P iy y (Ex.app s) Ey := DoesG_congr fy (fun t ht => app_slot fun q hq e => disj_spec h3 (wx q hq) (by rw [e]; exact ht)) (fun t ht id he hn => by rw [app_hp hp]) hy
 refine ⟨d1, d2, ?_⟩
 have hs : sets (sets s.s Ey.sl) Ex.sl = sets (sets s.s Ex.sl) Ey.sl := sets_comm fun q hq p hp e => disj_spec h2 (wy q hq) (by rw [← e]; exact wx p hp)
 have hH : (Ex.app (Ey.app s)).H = (Ey.app (Ex.app s)).H := by simp only [Eff.app, hp, updL]
 have e : ∀ u v : St, u.s = v.s → u.H = v.H → u.nx = v.nx → u = v := by
  rintro ⟨a, b, c⟩ ⟨a', b', c'⟩ rfl rfl rfl
  rfl
 exact e _ _ hs hH rfl
theorem sets_put {f : Nat → PV} {r : PV} {d : Nat} (sl : List (Nat × PV)) (h : ∀ q ∈ sl, q.1 ≠ d) : sets (upd f d r) sl = upd (sets f sl) d r := by
 have := sets_comm (l := [(d, r)]) (k := sl) (f := f) fun q hq p hp => by
  simp only [List.mem_singleton] at hq
  subst hq
  exact h p hp
 simpa only [sets] using this
theorem move_front0 {P : Program} {base : Nat} {x : Nat × MO} {l2 : List (Nat × MO)} {K : St → Prop} (h0 : hk x.2.op = 0) : ∀ (l1 : List (Nat × MO)) (s : St), (∀ y ∈ l1, indep y.2 x.2 = true ∨ aheadE y.2 x.2 = true) →
  runOps P true base (l1 ++ x :: l2) K s → runOps P true base (x :: (l1 ++ l2)) K s
 | [], s, _, h => h
 | y :: l1, s, hi, h => by
  obtain ⟨iy, my⟩ := y
  obtain ⟨ix, mx⟩ := x
  simp only at h0
  have ih := fun s' => move_front0 (P := P) (base := base) (x := (ix, mx)) (l2 := l2) (K := K) h0 l1 s' (fun y hy => hi y (by simp [hy]))
  rcases hi (iy, my) (by simp) with hi0 | ha0
  ·have hi0 : indep my mx = true := hi0
   simp only [List.cons_append, runOps] at h ⊢
   obtain ⟨_, fy, fx⟩ := indep_inv hi0
   obtain ⟨Ey, hy, h⟩ := (opG_does fy).1 h
   have h2 := ih (Ey.app s) h
   simp only [runOps] at h2
   obtain ⟨Ex, hx, h3⟩ := (opG_does fx).1 h2
   obtain ⟨s1, s2, s3⟩ := swap0 hi0 h0 hy hx
   refine (opG_does fx).2 ⟨Ex, s1, (opG_does fy).2 ⟨Ey, s2, ?_⟩⟩
   rw [← s3]
   exact h3
  ·obtain ⟨dy, oy, gy⟩ := my
   unfold aheadE at ha0
   split at ha0
   ·rename_i f xs k e1
    simp only at e1
    subst e1
    simp only [Bool.and_eq_true, Option.isNone_iff_eq_none, beq_iff_eq, Bool.not_eq_true'] at ha0
    obtain ⟨rfl, _, fx, hd1, hd2, hd3⟩ := ha0
    simp only [List.cons_append, runOps] at h ⊢
    have h1 : callE P f (xs.map (ev s)) (k.map s.s) dy (runOps P true base (l1 ++ (ix, mx) :: l2) K) s := h
    obtain ⟨Q, h3, ⟨H1, nx1, r1, hq1, hn1⟩, hfr, h4⟩ := h1
    have hread : ∀ (H' : Nat → Option PObj) (nx' : Nat) (r : PV), ∀ t ∈ reads mx, (put { s with H := H', nx := nx' } dy r).s t = s.s t := by
     intro H' nx' r t ht
     cases dy with
     | none => rfl
     | some u =>
      have : t ≠ u := fun e => disj_spec hd2 (t := t) (by simp [writes, e]) ht
      simp only [put, upd, if_neg this]
    have key : ∀ (H' : Nat → Option PObj) (nx' : Nat) (r : PV), Q H' nx' r → s.nx ≤ nx' → ∃ E, DoesG P (base + ix) mx s E ∧ runOps P true base (l1 ++ l2) K (E.app (put { s with H := H', nx := nx' } dy r)) := by
     intro H' nx' r hq hn
     have h5 := ih _ (h4 H' nx' r hq hn)
     simp only [runOps] at h5
     obtain ⟨E, h6, h7⟩ := (opG_does fx).1 h5
     exact ⟨E, DoesG_congr fx (fun t ht => (hread H' nx' r t ht).symm) (fun t ht => (adr_none h0 ht).elim) h6, h7⟩
    obtain ⟨E1, h5, _⟩ := key H1 nx1 r1 hq1 hn1
    refine (opG_does fx).2 ⟨E1, h5, ?_⟩
    have hp := hp_none fx h0 h5
    obtain ⟨wx, _⟩ := does_writes fx h5
    have hev : xs.map (ev (E1.app s)) = xs.map (ev s) := evs_congr fun t ht => app_slot fun q hq e => disj_spec hd1 (wx q hq) (by rw [e]; simp only [reads, opds, List.flatMap_append, List.mem_append]; exact .inr (.inl ht))
    have hk2 : k.map (E1.app s).s = k.map s.s := by
     cases k with
     | none => rfl
     | some t =>
      have : (E1.app s).s t = s.s t := app_slot fun q hq e => disj_spec hd1 (wx q hq) (by rw [e]; simp only [reads, opds, List.flatMap_append, List.mem_append]; exact .inr (.inr (by simp [slotOf])))
      simp only [Option.map_some, this]
    show callE P f (xs.map (ev (E1.app s))) (k.map (E1.app s).s) dy (runOps P true base (l1 ++ l2) K) (E1.app s)
    rw [hev, hk2]
    have hH : (E1.app s).H = s.H := app_hp hp
    have hnx : (E1.app s).nx = s.nx := rfl
    refine ⟨Q, by rw [hH, hnx]; exact h3, ⟨H1, nx1, r1, hq1, by rw [hnx]; exact hn1⟩, fun p hp2 H' nx' r hq j hj => by rw [hH] at hj ⊢; exact hfr p hp2 H' nx' r hq j hj, fun H' nx' r hq hn => ?_⟩
    rw [hnx] at hn
    obtain ⟨E2, h6, h7⟩ := key H' nx' r hq hn
    rw [← does_det fx h0 h5 h6] at h7
    have e : E1.app (put { s with H := H', nx := nx' } dy r) = put { E1.app s with H := H', nx := nx' } dy r := by
     cases dy with
     | none => simp only [put, Eff.app, hp, updL]
     | some u =>
      have hs : sets (upd s.s u r) E1.sl = upd (sets s.s E1.sl) u r := sets_put _ fun q hq e => disj_spec hd3 (wx q hq) (by simp [writes, e])
      simp only [put, Eff.app, hp, updL, hs]
    rw [e] at h7
    exact h7
   ·cases ha0
theorem put_app {E : Eff} {s : St} {H' : Nat → Option PObj} {nx' : Nat} {d : Option Nat} {r : PV} (hp : E.hp = []) (h : ∀ q ∈ E.sl, ∀ t, d = some t → q.1 ≠ t) : E.app (put { s with H := H', nx := nx' } d r) = put { E.app s with H := H', nx := nx' } d r := by
 cases d with
 | none => simp only [put, Eff.app, hp, updL]
 | some u =>
  have hs : sets (upd s.s u r) E.sl = upd (sets s.s E.sl) u r := sets_put _ fun q hq => h q hq u rfl
  simp only [put, Eff.app, hp, updL, hs]
theorem move_frontF {P : Program} {base : Nat} {x : Nat × MO} {l2 : List (Nat × MO)} {K : St → Prop} : ∀ (l1 : List (Nat × MO)) (s : St), (∀ y ∈ l1, aheadF y.2 x.2 = true) →
  runOps P true base (l1 ++ x :: l2) K s → runOps P true base (x :: (l1 ++ l2)) K s
 | [], s, _, h => h
 | y :: l1, s, hi, h => by
  obtain ⟨iy, my⟩ := y
  obtain ⟨ix, mx⟩ := x
  have ih := fun s' => move_frontF (P := P) (base := base) (x := (ix, mx)) (l2 := l2) (K := K) l1 s' (fun y hy => hi y (by simp [hy]))
  have ha0 := hi (iy, my) (by simp)
  obtain ⟨dx, ox, gx⟩ := mx
  unfold aheadF at ha0
  split at ha0
  ·rename_i f xs k e1
   simp only at e1
   subst e1
   simp only [Bool.and_eq_true, Option.isNone_iff_eq_none, Bool.not_eq_true'] at ha0
   obtain ⟨rfl, fy, hcase, hd1, hd2, hd3⟩ := ha0
   simp only [List.cons_append, runOps] at h ⊢
   obtain ⟨Ey, hy, h⟩ := (opG_does fy).1 h
   have h2 := ih (Ey.app s) h
   simp only [runOps] at h2
   obtain ⟨wy, py⟩ := does_writes fy hy
   have hp : Ey.hp = [] := by
    rcases Bool.or_eq_true_iff.1 hcase with h0 | h0
    ·exact hp_none fy (by simpa using h0) hy
    ·simp only [Bool.and_eq_true] at h0
     obtain ⟨x', ks, sz, ag, k', o1, _, _⟩ := ldoHas_inv h0.2
     have : hk my.op = 1 := by rw [o1]; rfl
     rcases py with h1 | ⟨h1, _⟩ | ⟨h1, _⟩
     ·exact h1
     ·omega
     ·omega
   have hH : (Ey.app s).H = s.H := app_hp hp
   have hslot : ∀ t ∈ reads ⟨dx, .callmE f xs k, none⟩, (Ey.app s).s t = s.s t := fun t ht => app_slot fun q hq e => disj_spec hd2 (wy q hq) (by rw [e]; exact ht)
   have hev : xs.map (ev (Ey.app s)) = xs.map (ev s) := evs_congr fun t ht => hslot t (by simp only [reads, opds, List.flatMap_append, List.mem_append]; exact .inr (.inl ht))
   have hk2 : k.map (Ey.app s).s = k.map s.s := by
    cases k with
    | none => rfl
    | some t => simp only [Option.map_some, hslot t (by simp only [reads, opds, List.flatMap_append, List.mem_append]; exact .inr (.inr (by simp [slotOf])))]
   have h3 : callE P f (xs.map (ev (Ey.app s))) (k.map (Ey.app s).s) dx (runOps P true base (l1 ++ l2) K) (Ey.app s) := h2
   rw [hev, hk2] at h3
   obtain ⟨Q, q1, q2, q3, q4⟩ := h3
   rw [hH] at q1
   show callE P f (xs.map (ev s)) (k.map s.s) dx (opG P true (base + iy) my (runOps P true base (l1 ++ l2) K)) s
   refine ⟨Q, q1, q2, fun p hp2 H' nx' r hq j hj => by have := q3 p hp2 H' nx' r hq j (by rw [hH]; exact hj); rwa [hH] at this, fun H' nx' r hq hn => ?_⟩
   refine (opG_does fy).2 ⟨Ey, ?_, ?_⟩
   ·refine DoesG_congr fy (fun t ht => ?_) (fun t ht id he hne => ?_) hy
    ·cases dx with
     | none => rfl
     | some u =>
      have : t ≠ u := fun e => disj_spec hd1 (t := t) (by simp [writes, e]) ht
      simp only [put, upd, if_neg this]
    ·have hHe : (put { s with H := H', nx := nx' } dx r).H = H' := by cases dx <;> rfl
     rw [hHe]
     rcases Bool.or_eq_true_iff.1 hcase with h0 | h0
     ·exact (adr_none (by simpa using h0) ht).elim
     ·simp only [Bool.and_eq_true, Option.isNone_iff_eq_none] at h0
      obtain ⟨g0, h0⟩ := h0
      obtain ⟨x', ks, sz, ag, k', o1, rfl, hkm⟩ := ldoHas_inv h0
      have e3 := (ldo_eff o1 g0 hy).1 k' hkm
      have hno : ¬ OwnAt (s.s k') id := by
       intro ho
       have ha := adr_ev (by rw [o1] at ht; exact ht) he
       rcases ho with ⟨off, e⟩ | ⟨_, _, _, e⟩ | ⟨_, _, _, e⟩
       ·rw [e] at e3
        exact apart_ne e3 ha rfl
       ·rw [e] at e3
        revert e3
        cases ev s x' <;> simp [apartP]
       ·rw [e] at e3
        revert e3
        cases ev s x' <;> simp [apartP]
      have := q3 (s.s k') rfl H' nx' r hq id (by rw [hH]; exact hne) hno
      rwa [hH] at this
   ·have h5 := q4 H' nx' r hq hn
    rw [put_app hp fun q hq t ht e => disj_spec hd3 (wy q hq) (by rw [e]; simp [writes, ht])]
    exact h5
  ·cases ha0
theorem move_front {P : Program} {base : Nat} {x : Nat × MO} {l2 : List (Nat × MO)} {K : St → Prop} : ∀ (l1 : List (Nat × MO)) (s : St), (∀ y ∈ l1, indep y.2 x.2 = true ∨ ahead y x = true) → (∀ y ∈ l1, y.1 ≠ x.1) →
  (∀ y ∈ l1, ∀ t ∈ adr x.2.op, ¬ OwnAt (s.s t) (base + y.1)) → s.H (base + x.1) = none → runOps P true base (l1 ++ x :: l2) K s → runOps P true base (x :: (l1 ++ l2)) K s
 | [], s, _, _, _, _, h => h
 | y :: l1, s, hi, hne, hA, hB, h => by
  obtain ⟨iy, my⟩ := y
  obtain ⟨ix, mx⟩ := x
  have hne0 : iy ≠ ix := hne (iy, my) (by simp)
  by_cases hE : isE mx.op = true
  ·refine move_frontF (x := (ix, mx)) ((iy, my) :: l1) s (fun y hy => ?_) h
   have hfree : mx.op.free = true := by cases hop : mx.op <;> simp [hop, isE, MOp.free] at hE ⊢
   have hh : hk mx.op = 1 := by cases hop : mx.op <;> simp [hop, isE, hk] at hE ⊢
   rcases hi y hy with h1 | h1
   ·have h1' : indep y.2 mx = true := h1
    rw [(indep_inv h1').2.2] at hfree
    cases hfree
   ·rcases Bool.or_eq_true_iff.1 h1 with h2 | h2
    ·exfalso
     unfold ahead0 at h2
     split at h2
     ·rename_i e2
      simp only at e2
      rw [e2] at hE
      cases hE
     ·cases h2
    ·rcases Bool.or_eq_true_iff.1 h2 with h2 | h2
     ·exfalso
      unfold aheadE at h2
      split at h2
      ·simp only [Bool.and_eq_true, beq_iff_eq] at h2
       have := h2.2.1
       omega
      ·cases h2
     ·exact h2
  have hnF : ∀ y, aheadF y mx = true → False := by
   intro y h1
   unfold aheadF at h1
   split at h1
   ·rename_i e1
    rw [e1] at hE
    exact hE rfl
   ·cases h1
  by_cases h00 : hk mx.op = 0
  ·refine move_front0 (x := (ix, mx)) h00 ((iy, my) :: l1) s (fun y hy => ?_) h
   rcases hi y hy with h1 | h1
   ·exact .inl h1
   ·refine .inr ?_
    rcases Bool.or_eq_true_iff.1 h1 with h2 | h2
    ·exfalso
     unfold ahead0 at h2
     split at h2
     ·rename_i e2
      simp only at e2
      rw [e2] at h00
      simp [hk] at h00
     ·cases h2
    ·rcases Bool.or_eq_true_iff.1 h2 with h2 | h2
     ·exact h2
     ·exact (hnF _ h2).elim
  rcases hi (iy, my) (by simp) with hi0 | ha0
  case inr =>
   replace ha0 : ahead0 (iy, my) (ix, mx) = true := by
    rcases Bool.or_eq_true_iff.1 ha0 with h2 | h2
    ·exact h2
    ·exfalso
     rcases Bool.or_eq_true_iff.1 h2 with h2 | h2
     case inr => exact hnF _ h2
     unfold aheadE at h2
     split at h2
     ·simp only [Bool.and_eq_true, beq_iff_eq] at h2
      exact h00 h2.2.1
     ·cases h2
   simp only [List.cons_append, runOps] at h ⊢
   refine ahead_swap ha0 hB (fun s' hB' hk => ?_) h
   have hal : adr mx.op = [] := by
    unfold ahead0 at ha0
    split at ha0
    ·rename_i e2
     simp only at e2
     rw [e2]
     rfl
    ·cases ha0
   have := move_front l1 s' (fun y hy => hi y (by simp [hy])) (fun y hy => hne y (by simp [hy])) (fun y hy t ht => by simp only [hal] at ht; cases ht) hB' hk
   simpa only [runOps] using this
  have hi0 : indep my mx = true := hi0
  simp only [List.cons_append, runOps] at h ⊢
  obtain ⟨_, fy, fx⟩ := indep_inv hi0
  obtain ⟨Ey, hy, h⟩ := (opG_does fy).1 h
  have hi1 := (indep_inv hi0).1
  simp only [indep0, Bool.and_eq_true] at hi1
  obtain ⟨⟨⟨⟨h1, _⟩, _⟩, _⟩, _⟩ := hi1
  obtain ⟨wy, py⟩ := does_writes fy hy
  have hsub : ∀ t ∈ adr mx.op, t ∈ reads mx := by
   intro t ht
   simp only [reads, List.mem_append]
   exact .inr (adr_sub _ ht)
  have hslot : ∀ t ∈ adr mx.op, (Ey.app s).s t = s.s t := fun t ht => app_slot fun q hq e => disj_spec h1 (wy q hq) (by rw [e]; exact hsub t ht)
  have hB2 : (Ey.app s).H (base + ix) = none := by
   rcases py with hp | ⟨_, ob, hp⟩ | ⟨_, hp⟩
   ·simp only [Eff.app, hp, updL]; exact hB
   ·simp only [Eff.app, hp, updL]
    rw [upd_ne _ _ (by omega)]
    exact hB
   ·simp only [Eff.app]
    rw [updL_out fun q hq e => ?_]
    ·exact hB
    ·rcases hp q hq with h9 | h9
     ·omega
     ·rw [e] at h9; exact h9 hB
  have h2 := move_front l1 (Ey.app s) (fun y hy => hi y (by simp [hy])) (fun y hy => hne y (by simp [hy])) (fun y hy t ht => by rw [hslot t ht]; exact hA y (by simp [hy]) t ht) hB2 h
  simp only [runOps] at h2
  obtain ⟨Ex, hx, h3⟩ := (opG_does fx).1 h2
  obtain ⟨s1, s2, s3⟩ := swap hi0 (by omega) hy hx (fun t ht => hA (iy, my) (by simp) t ht) hB
  refine (opG_does fx).2 ⟨Ex, s1, (opG_does fy).2 ⟨Ey, s2, ?_⟩⟩
  rw [← s3]
  exact h3
end
section
def Post (df : List Deferred) (w0 : World) (ok0 : Nat → Prop) (n : Nat) (V : Vw) (nx0 : Nat) (Q : Exit → St → Prop) : Exit → Act → World → Prop :=
 fun e a w => ∃ s rho, Q e s ∧ RelF df w0 ok0 n s rho a w ∧ V.Leq (viewOf w0 ok0 s.H rho w) ∧ (∀ id, id < nx0 → rho id = V.rho id) ∧ nx0 ≤ s.nx
theorem opG_sound {df : List Deferred} {P : Program} {pol : Pol} {w0 : World} {ok0 : Nat → Prop} {n i : Nat} {ops : Array Oper} {o : Oper} {a : Act} {s : St} {rho : Nat → Option Nat} {w : World} {m : MO} {id : Nat} {pure : Bool} {K : St → Prop} {next : Act → World → Prop} {Q : Exit → Act → World → Prop} {q : Option Nat} {N : Nat}
  (ho : ops[i]? = some o) (hmo : mo P pol ops n o = some m) (hr : RelF df w0 ok0 n s rho a w) (hid : rho id = none) (hlo : id < s.nx) (h : opG P pure id m K s)
  (hK : ∀ s' rho' a' w', K s' → RelF df w0 ok0 n s' rho' a' w' → (viewOf w0 ok0 s.H rho w).Leq (viewOf w0 ok0 s'.H rho' w') → (∀ k, k ≠ id → k < s.nx → rho' k = rho k) → s.nx ≤ s'.nx → next a' w') :
  wpOpIn (fnc q) N P ops Q i next a w := by
 obtain ⟨hm, hdst, hd, hg⟩ := mo_inv hmo
 unfold wpOpIn
 rw [ho]
 simp only []
 unfold opG at h
 cases hog : o.guard with
 | none =>
  rw [hog] at hg
  simp only [guardOf, Option.some.injEq] at hg
  rw [← hg] at h
  have hw : Region.wanted o (yielded ops a.tmps) = true := by simp [Region.wanted, hog]
  rw [if_pos hw]
  exact opP_sound hm hdst hd hr hid hlo h hK
 | some q1 =>
  obtain ⟨j, want⟩ := q1
  rw [hog] at hg
  simp only [guardOf, Option.bind_eq_some_iff] at hg
  obtain ⟨t, ht, hg⟩ := hg
  split at hg
  ·rename_i htn
   simp only [Option.some.injEq] at hg
   rw [← hg] at h
   simp only [] at h
   have hslot := hr.rel.slot t
   split at h
   ·rename_i b hb
    rw [hb] at hslot
    have e := hslot.sc_inv
    have hsz := hr.rel.size
    have hget : a.tmps[t]? = some (.bool b) := by
     have htl : t < a.tmps.size := by rw [hsz]; exact htn
     rw [Array.getD_eq_getD_getElem?, Array.getElem?_eq_getElem htl] at e
     rw [Array.getElem?_eq_getElem htl]
     simp at e
     rw [e]
    have hy : yielded ops a.tmps j = some b := by
     unfold yielded
     have : (ops[j]?).bind (·.dst) = some t := by simpa [Option.bind_eq_some_iff] using ht
     rw [this]
     simp [hget]
    by_cases hbw : b = want
    ·rw [if_pos hbw] at h
     have hw : Region.wanted o (yielded ops a.tmps) = true := by simp [Region.wanted, hog, hy, hbw]
     rw [if_pos hw]
     exact opP_sound hm hdst hd hr hid hlo h hK
    ·rw [if_neg hbw] at h
     have hw : ¬ Region.wanted o (yielded ops a.tmps) = true := by simp [Region.wanted, hog, hy, hbw]
     rw [if_neg hw]
     refine ⟨in_about, ?_⟩
     rw [← hdst]
     have hd2 : ∀ t, m.dst = some t → t < a.tmps.size := fun t ht => by rw [hr.rel.size]; exact hd t (by rw [← hdst]; exact ht)
     refine hK _ rho _ _ h ⟨⟨by rw [put_H]; exact hr.rel.heap, by rw [aput_size]; exact hr.rel.size, by rw [aput_defs]; exact hr.rel.defs, ?_⟩, by rw [put_nx]; exact hr.free⟩ (by rw [put_H]; exact Vw.Leq.refl _) (fun _ _ _ => rfl) (by rw [put_nx]; exact Nat.le_refl _)
     rw [put_H]
     exact put_slots hr.rel.slot hd2 (.sc undef)
   ·rename_i a0 hb
    rw [hb] at hslot
    have e := hslot.sc_inv
    have hsz := hr.rel.size
    have hget : a.tmps[t]? = some (.tuple a0) := by
     have htl : t < a.tmps.size := by rw [hsz]; exact htn
     rw [Array.getD_eq_getD_getElem?, Array.getElem?_eq_getElem htl] at e
     rw [Array.getElem?_eq_getElem htl]
     simp at e
     rw [e]
    have hy : yielded ops a.tmps j = none := by
     unfold yielded
     have : (ops[j]?).bind (·.dst) = some t := by simpa [Option.bind_eq_some_iff] using ht
     rw [this]
     simp [hget]
    have hw : ¬ Region.wanted o (yielded ops a.tmps) = true := by simp [Region.wanted, hog, hy]
    rw [if_neg hw]
    refine ⟨in_about, ?_⟩
    rw [← hdst]
    have hd2 : ∀ t, m.dst = some t → t < a.tmps.size := fun t ht => by rw [hr.rel.size]; exact hd t (by rw [← hdst]; exact ht)
    refine hK _ rho _ _ h ⟨⟨by rw [put_H]; exact hr.rel.heap, by rw [aput_size]; exact hr.rel.size, by rw [aput_defs]; exact hr.rel.defs, ?_⟩, by rw [put_nx]; exact hr.free⟩ (by rw [put_H]; exact Vw.Leq.refl _) (fun _ _ _ => rfl) (by rw [put_nx]; exact Nat.le_refl _)
    rw [put_H]
    exact put_slots hr.rel.slot hd2 (.sc undef)
   ·exact h.elim
  ·cases hg
def moL (P : Program) (pol : Pol) (ops : Array Oper) (n : Nat) : List Oper → Option (List MO)
 | [] => some []
 | o :: r => (mo P pol ops n o).bind fun m => (moL P pol ops n r).map (m :: ·)
def num {α : Type} : Nat → List α → List (Nat × α)
 | _, [] => []
 | k, x :: r => (k, x) :: num (k + 1) r
theorem num_mem {α : Type} : ∀ {l : List α} {k i : Nat} {x : α}, (i, x) ∈ num k l ↔ k ≤ i ∧ l[i - k]? = some x
 | [], k, i, x => by simp [num]
 | y :: r, k, i, x => by
  simp only [num, List.mem_cons, Prod.mk.injEq, num_mem (l := r)]
  constructor
  ·rintro (⟨rfl, rfl⟩ | ⟨h1, h2⟩)
   ·simp
   ·have : i - k = i - (k + 1) + 1 := by omega
    rw [this]
    exact ⟨by omega, by simpa using h2⟩
  ·rintro ⟨h1, h2⟩
   by_cases h : i = k
   ·subst h
    simp at h2
    exact .inl ⟨rfl, h2.symm⟩
   ·right
    have : i - k = i - (k + 1) + 1 := by omega
    rw [this] at h2
    exact ⟨by omega, by simpa using h2⟩
theorem num_sorted {α : Type} : ∀ {l : List α} {k : Nat}, (num k l).Pairwise (fun x y => x.1 < y.1)
 | [], k => .nil
 | y :: r, k => .cons (fun q hq => by
   obtain ⟨i, x⟩ := q
   have := (num_mem.1 hq).1
   show k < i
   omega) num_sorted
theorem num_map {α : Type} : ∀ {l : List α} {k : Nat}, (num k l).map (·.1) = List.range' k l.length
 | [], k => rfl
 | y :: r, k => by simp [num, num_map, List.range'_succ]
theorem num_length {α : Type} : ∀ {l : List α} {k : Nat}, (num k l).length = l.length
 | [], k => rfl
 | y :: r, k => by simp [num, num_length]
theorem moL_get {P : Program} {pol : Pol} {ops : Array Oper} {n : Nat} : ∀ {l : List Oper} {ms : List MO}, moL P pol ops n l = some ms →
  ms.length = l.length ∧ ∀ (i : Nat) (m : MO), ms[i]? = some m → ∃ o, l[i]? = some o ∧ mo P pol ops n o = some m
 | [], ms, h => by simp [moL] at h; subst h; simp
 | o :: r, ms, h => by
  simp only [moL, Option.bind_eq_some_iff, Option.map_eq_some_iff] at h
  obtain ⟨m, hm, ms', hms, rfl⟩ := h
  obtain ⟨h1, h2⟩ := moL_get hms
  refine ⟨by simp [h1], fun i m' hi => ?_⟩
  cases i with
  | zero => simp at hi; subst hi; exact ⟨o, by simp, hm⟩
  | succ i => simp at hi; obtain ⟨o', h3, h4⟩ := h2 i m' hi; exact ⟨o', by simpa using h3, h4⟩
theorem seq_sound {df : List Deferred} {P : Program} {pol : Pol} {w0 : World} {ok0 : Nat → Prop} {n base nx0 : Nat} {ops : Array Oper} {pure : Bool} {K : St → Prop} {V : Vw} {Q : Exit → St → Prop} {rd : Option Nat} {N : Nat} (hQ : ∀ s, K s → Q .normal s) :
  ∀ (l : List (Nat × MO)) (s : St) (rho : Nat → Option Nat) (a : Act) (w : World), (∀ q ∈ l, ∃ o, ops[q.1]? = some o ∧ mo P pol ops n o = some q.2) → l.Pairwise (fun x y => x.1 < y.1) → RelF df w0 ok0 n s rho a w →
   V.Leq (viewOf w0 ok0 s.H rho w) → (∀ id, id < nx0 → rho id = V.rho id) → nx0 ≤ base → nx0 ≤ s.nx → (∀ q ∈ l, rho (base + q.1) = none ∧ base + q.1 < s.nx) → runOps P pure base l K s →
   wpOpsIn (fnc rd) N P ops (Post df w0 ok0 n V nx0 Q) (l.map (·.1)) a w
 | [], s, rho, a, w, _, _, hr, hV, hlow, _, hn, _, h => ⟨s, rho, hQ s h, hr, hV, hlow, hn⟩
 | (i, m) :: l, s, rho, a, w, hl, hp, hr, hV, hlow, hb, hn, hf, h => by
  obtain ⟨o, ho, hmo⟩ := hl (i, m) (by simp)
  have hf0 := hf (i, m) (by simp)
  rw [List.map_cons, wpOpsIn_cons]
  simp only [runOps] at h
  refine opG_sound ho hmo hr hf0.1 hf0.2 h fun s' rho' a' w' hk hr' hV' hrho hnx => ?_
  refine seq_sound hQ l s' rho' a' w' (fun q hq => hl q (by simp [hq])) hp.of_cons hr' (hV.trans hV') (fun id hid => ?_) hb (by omega) (fun q hq => ?_) hk
  ·rw [hrho id (by omega) (by omega)]
   exact hlow id hid
  ·have h1 := hf q (by simp [hq])
   have h2 : i < q.1 := (List.pairwise_cons.1 hp).1 q hq
   refine ⟨?_, by omega⟩
   rw [hrho _ (by omega) h1.2]
   exact h1.1
def predsOf (o : Oper) : List Nat := (o.after.toList.filter fun e => Region.binds .any e).map (·.on)
def ancs (ops : List Oper) : List (List Nat) :=
 ops.foldl (fun acc o => acc ++ [(predsOf o ++ (predsOf o).flatMap fun p => acc.getD p []).eraseDups]) []
def regionOk (ops : Array Oper) (ms : List MO) : Bool :=
 let A := ancs ops.toList
 (List.range ops.size).all fun j =>
  match ops[j]?, ms[j]? with
  | some o, some m =>
   (predsOf o).all (fun p => decide (p < j)) && (A.getD j []).all (fun i => (predsOf o).contains i || (predsOf o).any fun p => (A.getD p []).contains i) &&
    (List.range j).all fun i => (A.getD j []).contains i || (match ms[i]? with | some y => indep y m || ahead (i, y) (j, m) | none => false)
  | _, _ => false
theorem regionOk_spec {ops : Array Oper} {ms : List MO} (h : regionOk ops ms = true) {j : Nat} {o : Oper} {m : MO} (ho : ops[j]? = some o) (hm : ms[j]? = some m) :
  (∀ p ∈ predsOf o, p < j) ∧ (∀ i ∈ (ancs ops.toList).getD j [], i ∈ predsOf o ∨ ∃ p ∈ predsOf o, i ∈ (ancs ops.toList).getD p []) ∧
   ∀ i y, i < j → ms[i]? = some y → i ∈ (ancs ops.toList).getD j [] ∨ (indep y m = true ∨ ahead (i, y) (j, m) = true) := by
 have hj : j < ops.size := (Array.getElem?_eq_some_iff.1 ho).1
 unfold regionOk at h
 have := List.all_eq_true.1 h j (List.mem_range.2 hj)
 rw [ho, hm] at this
 simp only [Bool.and_eq_true, List.all_eq_true, decide_eq_true_eq, Bool.or_eq_true, List.contains_iff_mem, List.any_eq_true, List.mem_range] at this
 obtain ⟨⟨h1, h2⟩, h3⟩ := this
 refine ⟨h1, h2, fun i y hi hy => ?_⟩
 have := h3 i hi
 rw [hy] at this
 simpa only [Bool.or_eq_true] using this
theorem drawn_sound {df : List Deferred} {P : Program} {pol : Pol} {w0 : World} {ok0 : Nat → Prop} {n base nx0 : Nat} {ops : Array Oper} {ms : List MO} {K : St → Prop} {V : Vw} {Q : Exit → St → Prop} {rd : Option Nat} {N : Nat} (hQ : ∀ s, K s → Q .normal s)
  (hok : regionOk ops ms = true) (hms : moL P pol ops n ops.toList = some ms) :
  ∀ (fuel : Nat) (listed : Array Bool) (l : List (Nat × MO)) (s : St) (rho : Nat → Option Nat) (a : Act) (w : World), listed.size = ops.size →
   (∀ i m, (i, m) ∈ l ↔ (listed.getD i true = false ∧ ms[i]? = some m)) → l.Pairwise (fun x y => x.1 < y.1) →
   (∀ p, listed.getD p false = true → ∀ i ∈ (ancs ops.toList).getD p [], listed.getD i false = true) → l.length ≤ fuel → RelF df w0 ok0 n s rho a w →
   V.Leq (viewOf w0 ok0 s.H rho w) → (∀ id, id < nx0 → rho id = V.rho id) → nx0 ≤ base → nx0 ≤ s.nx → (∀ q ∈ l, rho (base + q.1) = none ∧ base + q.1 < s.nx) → runOps P true base l K s →
   wpAnyIn (fnc rd) N P .any ops (Post df w0 ok0 n V nx0 Q) fuel listed a w := by
 have hlen := moL_get hms
 have hget : ∀ i m, ms[i]? = some m → ∃ o, ops[i]? = some o ∧ mo P pol ops n o = some m := fun i m hi => by
  obtain ⟨o, h1, h2⟩ := hlen.2 i m hi
  exact ⟨o, by simpa using h1, h2⟩
 have hgetm : ∀ i o, ops[i]? = some o → ∃ m, ms[i]? = some m := fun i o hi => by
  have h1 : i < ops.size := (Array.getElem?_eq_some_iff.1 hi).1
  have h2 : i < ms.length := by rw [hlen.1]; simpa using h1
  exact ⟨ms[i], List.getElem?_eq_getElem h2⟩
 have hempty : ∀ (listed : Array Bool) (l : List (Nat × MO)), listed.size = ops.size → (∀ i m, (i, m) ∈ l ↔ (listed.getD i true = false ∧ ms[i]? = some m)) → l.Pairwise (fun x y => x.1 < y.1) → Region.ready .any ops listed = [] → l = [] := by
  intro listed l hsz hmem hs hrdy
  cases l with
  | nil => rfl
  | cons q r =>
   obtain ⟨i, m⟩ := q
   obtain ⟨h1, h2⟩ := (hmem i m).1 (by simp)
   obtain ⟨o, ho, hmo⟩ := hget i m h2
   have hsp := regionOk_spec hok ho h2
   have : i ∈ Region.ready .any ops listed := by
    refine mem_ready.2 ⟨h1, o, ho, fun e he hb => ?_⟩
    have hp : e.on ∈ predsOf o := by
     unfold predsOf
     exact List.mem_map.2 ⟨e, List.mem_filter.2 ⟨by simpa using he, hb⟩, rfl⟩
    have hlt := hsp.1 _ hp
    have hi : i < ops.size := (Array.getElem?_eq_some_iff.1 ho).1
    cases hh : listed.getD e.on false with
    | true => rfl
    | false =>
     have hin : e.on < listed.size := by omega
     have h3 : listed.getD e.on true = false := by
      rw [Array.getD_eq_getD_getElem?, Array.getElem?_eq_getElem hin] at hh ⊢
      exact hh
     obtain ⟨m', hm'⟩ := hgetm e.on _ (Array.getElem?_eq_getElem (show e.on < ops.size by omega))
     have h4 := (hmem e.on m').2 ⟨h3, hm'⟩
     rcases List.mem_cons.1 h4 with h5 | h5
     ·simp only [Prod.mk.injEq] at h5
      omega
     ·have := (List.pairwise_cons.1 hs).1 _ h5
      simp only at this
      omega
   rw [hrdy] at this
   cases this
 intro fuel
 induction fuel with
 | zero =>
  intro listed l s rho a w hsz hmem hs hcl hlf hr hV hlow hb hn hf h
  have hl0 : l = [] := List.eq_nil_of_length_eq_zero (by omega)
  subst hl0
  refine ⟨?_, s, rho, hQ s h, hr, hV, hlow, hn⟩
  cases hrd : Region.ready .any ops listed with
  | nil => rfl
  | cons i r =>
   have hi : i ∈ Region.ready .any ops listed := by rw [hrd]; simp
   obtain ⟨h1, o, ho, _⟩ := mem_ready.1 hi
   obtain ⟨m, hm⟩ := hgetm i o ho
   have := (hmem i m).2 ⟨h1, hm⟩
   cases this
 | succ fuel ih =>
  intro listed l s rho a w hsz hmem hs hcl hlf hr hV hlow hb hn hf h
  refine ⟨fun hrd => ?_, fun i hi => ?_⟩
  ·have := hempty listed l hsz hmem hs hrd
   subst this
   exact ⟨s, rho, hQ s h, hr, hV, hlow, hn⟩
  ·obtain ⟨h1, o, ho, hpre⟩ := mem_ready.1 hi
   obtain ⟨m, hm⟩ := hgetm i o ho
   obtain ⟨o', ho', hmo⟩ := hget i m hm
   rw [ho] at ho'
   cases ho'
   have hin := (hmem i m).2 ⟨h1, hm⟩
   obtain ⟨l1, l2, rfl⟩ := List.append_of_mem hin
   obtain ⟨hs1, hs2, hs3⟩ := List.pairwise_append.1 hs
   have hsp := regionOk_spec hok ho hm
   have hanc : ∀ k ∈ (ancs ops.toList).getD i [], listed.getD k false = true := by
    intro k hk
    have hp : ∀ p ∈ predsOf o, listed.getD p false = true := by
     intro p hp
     unfold predsOf at hp
     obtain ⟨e, he, rfl⟩ := List.mem_map.1 hp
     obtain ⟨he1, he2⟩ := List.mem_filter.1 he
     exact hpre e (by simpa using he1) he2
    rcases hsp.2.1 k hk with h2 | ⟨p, hpp, h2⟩
    ·exact hp k h2
    ·exact hcl p (hp p hpp) k h2
   have hlt : ∀ y ∈ l1, y.1 < i := fun y hy => hs3 y hy (i, m) (by simp)
   have hind : ∀ y ∈ l1, indep y.2 m = true ∨ ahead y (i, m) = true := by
    intro y hy
    obtain ⟨k, my⟩ := y
    obtain ⟨h2, h3⟩ := (hmem k my).1 (by simp [hy])
    rcases hsp.2.2 k my (hlt _ hy) h3 with h4 | h4
    ·have h5 := hanc k h4
     have hk : k < listed.size := by
      have h6 := hlt _ hy
      have h7 : i < ops.size := (Array.getElem?_eq_some_iff.1 ho).1
      simp only at h6
      omega
     rw [Array.getD_eq_getD_getElem?, Array.getElem?_eq_getElem hk] at h2 h5
     simp at h2 h5
     rw [h2] at h5
     cases h5
    ·exact h4
   have hfi := hf (i, m) (by simp)
   have hHnone : s.H (base + i) = none := by
    cases hh : s.H (base + i) with
    | none => rfl
    | some ob =>
     obtain ⟨b, hb2, _⟩ := hr.rel.heap.own _ ob hh
     rw [hfi.1] at hb2
     cases hb2
   have hA : ∀ y ∈ l1, ∀ t ∈ adr m.op, ¬ OwnAt (s.s t) (base + y.1) := by
    intro y hy t _ e
    have := hr.rel.slot t
    have h3 := (hf y (by simp [hy])).1
    rcases e with ⟨off, e⟩ | ⟨off, len, sz, e⟩ | ⟨off, len, sz, e⟩
    ·rw [e] at this
     obtain ⟨b, _, hb2⟩ := this.optr_inv
     have h4 : rho (base + y.1) = some b := hb2
     rw [h3] at h4
     cases h4
    ·rw [e] at this
     obtain ⟨b, _, _, _, _, _, hb2, _⟩ := this.osl_inv
     have h4 : rho (base + y.1) = some b := hb2
     rw [h3] at h4
     cases h4
    ·rw [e] at this
     generalize a.tmps.getD t undef = u at this
     cases this with
     | ocap _ _ _ _ b _ _ _ _ hb2 =>
      have h4 : rho (base + y.1) = some b := hb2
      rw [h3] at h4
      cases h4
   have h2 := move_front (x := (i, m)) l1 s hind (fun y hy e => by have := hlt y hy; omega) hA hHnone h
   simp only [runOps] at h2
   refine opG_sound ho hmo hr hfi.1 hfi.2 h2 fun s' rho' a' w' hk hr' hV' hrho hnx => ?_
   have hil : i < listed.size := by
    have h7 : i < ops.size := (Array.getElem?_eq_some_iff.1 ho).1
    omega
   refine ih (listed.setIfInBounds i true) (l1 ++ l2) s' rho' a' w' (by simpa using hsz) (fun k mk => ?_) ?_ (fun p hp k hk2 => ?_) (by simp at hlf ⊢; omega) hr' (hV.trans hV') (fun id hid => ?_) hb (by omega) (fun q hq => ?_) hk
   ·by_cases hki : k = i
    ·subst hki
     constructor
     ·intro hmem2
      exfalso
      rcases List.mem_append.1 hmem2 with h5 | h5
      ·have := hlt _ h5; simp only at this; omega
      ·have := (List.pairwise_cons.1 hs2).1 _ h5; simp only at this; omega
     ·rintro ⟨h5, _⟩
      rw [Array.getD_eq_getD_getElem?, Array.getElem?_setIfInBounds_self] at h5
      simp [hil] at h5
    ·rw [getD_set_ne true (fun e => hki e.symm)]
     rw [← hmem k mk]
     simp only [List.mem_append, List.mem_cons, Prod.mk.injEq, hki, false_and, false_or]
   ·exact List.pairwise_append.2 ⟨hs1, hs2.of_cons, fun x hx y hy => hs3 x hx y (by simp [hy])⟩
   ·by_cases hpi : p = i
    ·subst hpi
     exact getD_set_true (hanc k hk2)
    ·rw [getD_set_ne false (fun e => hpi e.symm)] at hp
     exact getD_set_true (hcl p hp k hk2)
   ·rw [hrho id (by omega) (by omega)]
    exact hlow id hid
   ·have h3 := hf q (by simp only [List.mem_append, List.mem_cons]; rcases List.mem_append.1 hq with h5 | h5 <;> simp [h5])
    have hqi : q.1 ≠ i := by
     intro e
     rcases List.mem_append.1 hq with h5 | h5
     ·have := hlt _ h5; omega
     ·have := (List.pairwise_cons.1 hs2).1 _ h5; simp only at this; omega
    refine ⟨?_, by omega⟩
    rw [hrho _ (by omega) h3.2]
    exact h3.1
end
section
inductive MCode where
 | skip
 | ret
 | exit (id : Nat)
 | region (ms : List MO) (draw : Bool)
 | seq (a b : MCode)
 | cond (c : Operand) (a b : MCode)
 | block (id : Nat) (c : MCode)
 | blockZ (id t : Nat) (c : MCode)
 | loop (c : MCode)
 | rng (p d : Nat) (g : Operand) (c : MCode)
 deriving Inhabited
def codeP (P : Program) (pol : Pol) (n : Nat) : Code → Option MCode
 | .skip => some .skip
 | .label _ => some .skip
 | .ret => some .ret
 | .exit id => some (.exit id)
 | .region _ ops d => (moL P pol ops n ops.toList).bind fun ms => if d = true then (if regionOk ops ms = true then some (.region ms true) else none) else some (.region ms false)
 | .seq a b => (codeP P pol n a).bind fun x => (codeP P pol n b).map fun y => .seq x y
 | .cond c a b => (codeP P pol n a).bind fun x => (codeP P pol n b).map fun y => .cond c x y
 | .block id c => (codeP P pol n c).map fun x => match pol.tl.find? (fun z => z / 1000 == 2000 + id) with
  | some z => .blockZ id (z % 1000) x
  | none => .block id x
 | .loop c => (codeP P pol n c).map .loop
 | _ => none
def thenP (next : St → Prop) (Q : Exit → St → Prop) : Exit → St → Prop
 | .normal, s => next s
 | e, s => Q e s
def blockP (id : Nat) (Q : Exit → St → Prop) : Exit → St → Prop
 | .exit j, s => if j = id then Q .normal s else Q (.exit j) s
 | e, s => Q e s
def ZSt (t : Nat) (s s' : St) : Prop :=
 s'.nx = s.nx ∧ (∀ u, u ≠ t → s'.s u = s.s u) ∧ ∀ (df : List Deferred) (w0 : World) (ok0 : Nat → Prop) (n : Nat) (rho : Nat → Option Nat) (a : Act) (w : World), RelF df w0 ok0 n s rho a w →
  RelF df w0 ok0 n s' rho a w ∧ (viewOf w0 ok0 s.H rho w).Leq (viewOf w0 ok0 s'.H rho w)
def blockZP (id t : Nat) (Q : Exit → St → Prop) : Exit → St → Prop
 | .exit j, s => if j = id then ∃ s', ZSt t s s' ∧ Q .normal s' else Q (.exit j) s
 | e, s => Q e s
def contN (Q : Exit → St → Prop) : St → Prop := Q .normal
def PObj.isIt (o : PObj) : Bool := match o.cells with
 | [.itm _ _] => true
 | [.mkv _] => true
 | _ => false
def noIt (H : Nat → Option PObj) : Nat → Option PObj := fun id => match H id with
 | some o => if o.isIt = true then none else some o
 | none => none
def PSeq (P : Program) (f : FuncId) (caps xs : List PV) : Prop :=
 enters P f = true ∧ ∀ (V : Vw) (vals : List Value), (∀ b, V.ok b → b < V.w.heap.size) → RepL V caps vals →
  SeqStopsK (α := { y : PV × Value // y.1 ∈ xs ∧ Rep V y.1 y.2 }) Fence.wide 1 P f vals.toArray (fun y => #[y.1.2]) (fun A B => ∀ b, V.ok b → B.heap[b]? = A.heap[b]?)
   (fun ys => ys.map (·.1.1) = xs) (fun ys => ys.map (·.1.1) <+: xs) xs.length V.w
def rngQ (J : List PV → (Nat → Option PObj) → Nat → Prop) (xs pre : List PV) (f0 : Nat → PV) (Q : Exit → St → Prop) : Exit → St → Prop
 | .normal, s => J pre (noIt s.H) s.nx
 | .ret, s => pre <+: xs → Q .ret ⟨f0, noIt s.H, s.nx⟩
 | .exit i, s => pre <+: xs → Q (.exit i) ⟨f0, noIt s.H, s.nx⟩
 | _, _ => False
def pw (P : Program) : MCode → (Exit → St → Prop) → St → Prop
 | .skip, Q, s => Q .normal s
 | .ret, Q, s => Q .ret s
 | .exit id, Q, s => Q (.exit id) s
 | .region ms d, Q, s => runOps P d s.nx (num 0 ms) (contN Q) { s with nx := s.nx + ms.length }
 | .seq a b, Q, s => pw P a (thenP (pw P b Q) Q) s
 | .cond c a b, Q, s => match ev s c with
  | .sc (.bool t) => if t = true then pw P a Q s else pw P b Q s
  | _ => False
 | .block id c, Q, s => pw P c (blockP id Q) s
 | .blockZ id t c, Q, s => pw P c (blockZP id t Q) s
 | .loop c, Q, s => ∃ I : Nat → St → Prop, (∃ k, I k s) ∧ ∀ k s, I k s → pw P c (thenP (fun s' => ∃ k', k' < k ∧ I k' s') Q) s
 | .rng p d g c, Q, s => ∃ f caps xs, ev s g = .fn f caps ∧ PSeq P f caps xs ∧ ∃ J : List PV → (Nat → Option PObj) → Nat → Prop, J [] (noIt s.H) s.nx ∧
   (∀ pre x H nx, x ∈ xs → pre.length < xs.length → J pre H nx → s.nx ≤ nx → pw P c (rngQ J xs (pre ++ [x]) s.s Q) ⟨upd (upd s.s p x) d x, H, nx⟩) ∧
   ∀ H nx, J xs H nx → s.nx ≤ nx → Q .normal ⟨s.s, H, nx⟩
theorem RelF.drew {df : List Deferred} {w0 : World} {ok0 : Nat → Prop} {n : Nat} {s : St} {rho : Nat → Option Nat} {a : Act} {w : World} (h : RelF df w0 ok0 n s rho a w) :
  RelF df w0 ok0 n s rho a { w with drawn := w.drawn + 1 } ∧ (viewOf w0 ok0 s.H rho w).Leq (viewOf w0 ok0 s.H rho { w with drawn := w.drawn + 1 }) := by
 have hl : (viewOf w0 ok0 s.H rho w).Leq (viewOf w0 ok0 s.H rho { w with drawn := w.drawn + 1 }) :=
  ⟨fun b hb => hb, fun _ _ => rfl, fun _ _ h => h, fun _ _ c T fr _ hh => ⟨c, T, fr, hh, Nat.le_refl _⟩, Nat.le_refl _⟩
 refine ⟨⟨⟨⟨h.rel.heap.okb, h.rel.heap.bel.drew, fun id o ho => ?_, h.rel.heap.inj⟩, h.rel.size, h.rel.defs, fun t => (h.rel.slot t).mono hl⟩, h.free⟩, hl⟩
 obtain ⟨b, h1, h2, h3⟩ := h.rel.heap.own id o ho
 exact ⟨b, h1, h2, h3.mono hl rfl⟩
theorem pw_sound {df : List Deferred} {P : Program} {pol : Pol} {w0 : World} {ok0 : Nat → Prop} {n nx0 : Nat} {V : Vw} {rd : Option Nat} {N : Nat} (hm : P.follows .mixedOrders = true) : ∀ (c : Code) (mc : MCode), codeP P pol n c = some mc →
  ∀ (Q : Exit → St → Prop) (s : St) (rho : Nat → Option Nat) (a : Act) (w : World), pw P mc Q s → RelF df w0 ok0 n s rho a w → V.Leq (viewOf w0 ok0 s.H rho w) → (∀ id, id < nx0 → rho id = V.rho id) → nx0 ≤ s.nx →
   c.wpIn (fnc rd) N P (Post df w0 ok0 n V nx0 Q) a w := by
 intro c
 induction c with
 | skip =>
  intro mc hc Q s rho a w h hr hV hl hn
  simp only [codeP, Option.some.injEq] at hc; subst hc
  exact wpIn_skip ⟨s, rho, h, hr, hV, hl, hn⟩
 | label l =>
  intro mc hc Q s rho a w h hr hV hl hn
  simp only [codeP, Option.some.injEq] at hc; subst hc
  exact wpIn_label ⟨s, rho, h, hr, hV, hl, hn⟩
 | ret =>
  intro mc hc Q s rho a w h hr hV hl hn
  simp only [codeP, Option.some.injEq] at hc; subst hc
  exact wpIn_ret ⟨s, rho, h, hr, hV, hl, hn⟩
 | exit id =>
  intro mc hc Q s rho a w h hr hV hl hn
  simp only [codeP, Option.some.injEq] at hc; subst hc
  exact wpIn_exit ⟨s, rho, h, hr, hV, hl, hn⟩
 | region id ops d =>
  intro mc hc Q s rho a w h hr hV hl hn
  simp only [codeP, Option.bind_eq_some_iff] at hc
  obtain ⟨ms, hms, hc⟩ := hc
  have hml := moL_get hms
  have hlen : ms.length = ops.size := by rw [hml.1, Array.length_toList]
  have hmem : ∀ q ∈ num 0 ms, ∃ o, ops[q.1]? = some o ∧ mo P pol ops n o = some q.2 := by
   rintro ⟨i, m⟩ hq
   obtain ⟨_, h2⟩ := num_mem.1 hq
   obtain ⟨o, h3, h4⟩ := hml.2 i m (by simpa using h2)
   exact ⟨o, by simpa using h3, h4⟩
  have hidx : ∀ q ∈ num 0 ms, q.1 < ms.length := by
   rintro ⟨i, m⟩ hq
   obtain ⟨_, h2⟩ := num_mem.1 hq
   exact (List.getElem?_eq_some_iff.1 (by simpa using h2)).1
  have hr2 : RelF df w0 ok0 n { s with nx := s.nx + ms.length } rho a w := ⟨⟨hr.rel.heap, hr.rel.size, hr.rel.defs, hr.rel.slot⟩, fun id hid => hr.free id (by simp only at hid; omega)⟩
  have hfree : ∀ q ∈ num 0 ms, rho (s.nx + q.1) = none ∧ s.nx + q.1 < s.nx + ms.length := fun q hq => ⟨hr.free _ (by omega), by have := hidx q hq; omega⟩
  split at hc
  ·rename_i hd
   split at hc
   ·rename_i hok
    cases hc
    subst hd
    simp only [pw] at h
    obtain ⟨hr3, hl3⟩ := hr2.drew
    refine wpIn_region_any hm ?_
    refine drawn_sound (base := s.nx) (K := contN Q) (fun _ h => h) hok hms ops.size (Array.replicate ops.size false) (num 0 ms) _ rho a _ (by simp) (fun i m => ?_) num_sorted (fun p hp => ?_) (by rw [num_length]; omega) hr3 (hV.trans hl3) hl (by omega) (by show nx0 ≤ s.nx + ms.length; omega) hfree h
    ·rw [num_mem]
     simp only [Nat.zero_le, Nat.sub_zero, true_and]
     constructor
     ·intro hi
      have hil : i < ops.size := by rw [← hlen]; exact (List.getElem?_eq_some_iff.1 hi).1
      refine ⟨?_, hi⟩
      rw [Array.getD_eq_getD_getElem?, Array.getElem?_replicate, if_pos hil]
      rfl
     ·exact fun hi => hi.2
    ·rw [Array.getD_eq_getD_getElem?, Array.getElem?_replicate] at hp
     split at hp <;> simp at hp
   ·cases hc
  ·rename_i hd
   cases hc
   have hd' : d = false := by cases d <;> simp_all
   subst hd'
   simp only [pw] at h
   refine wpIn_region ?_
   have := seq_sound (rd := rd) (N := N) (P := P) (pol := pol) (w0 := w0) (ok0 := ok0) (n := n) (base := s.nx) (nx0 := nx0) (ops := ops) (V := V) (K := contN Q) (Q := Q) (fun _ h => h) (num 0 ms) _ rho a w hmem num_sorted hr2 hV hl (by omega) (by show nx0 ≤ s.nx + ms.length; omega) hfree h
   rw [num_map, hlen, ← List.range_eq_range'] at this
   exact this
 | seq x y ihx ihy =>
  intro mc hc Q s rho a w h hr hV hl hn
  simp only [codeP, Option.bind_eq_some_iff, Option.map_eq_some_iff] at hc
  obtain ⟨mx, hx, my, hy, rfl⟩ := hc
  simp only [pw] at h
  refine wpIn_seq (wpIn_mono (ihx mx hx _ s rho a w h hr hV hl hn) fun e a' w' hp => ?_)
  obtain ⟨s', rho', hq, hr', hV', hl', hn'⟩ := hp
  cases e with
  | normal => exact ihy my hy Q s' rho' a' w' hq hr' hV' hl' hn'
  | _ => exact ⟨s', rho', hq, hr', hV', hl', hn'⟩
 | cond c x y ihx ihy =>
  intro mc hc Q s rho a w h hr hV hl hn
  simp only [codeP, Option.bind_eq_some_iff, Option.map_eq_some_iff] at hc
  obtain ⟨mx, hx, my, hy, rfl⟩ := hc
  simp only [pw] at h
  have hcv := ev_rep hr.rel.slot c
  split at h
  ·rename_i t ht
   rw [ht] at hcv
   have e := hcv.sc_inv
   refine wpIn_cond e ?_
   cases t with
   | true => exact ihx mx hx Q s rho a w h hr hV hl hn
   | false => exact ihy my hy Q s rho a w h hr hV hl hn
  ·exact h.elim
 | block id c ih =>
  intro mc hc Q s rho a w h hr hV hl hn
  simp only [codeP, Option.map_eq_some_iff] at hc
  obtain ⟨mx, hx, hc⟩ := hc
  split at hc
  ·subst hc
   simp only [pw] at h
   refine wpIn_block (wpIn_mono (ih mx hx _ s rho a w h hr hV hl hn) fun e a' w' hp => ?_)
   obtain ⟨s', rho', hq, hr', hV', hl', hn'⟩ := hp
   cases e with
   | exit j =>
    simp only [Exit.inBlock]
    simp only [blockZP] at hq
    by_cases hj : j = id
    ·rw [if_pos hj] at hq ⊢
     obtain ⟨s2, ⟨hz1, hz2, hz3⟩, hq⟩ := hq
     obtain ⟨hr2, hV2⟩ := hz3 _ _ _ _ _ _ _ hr'
     exact ⟨s2, rho', hq, hr2, hV'.trans hV2, hl', by rw [hz1]; exact hn'⟩
    ·rw [if_neg hj] at hq ⊢; exact ⟨s', rho', hq, hr', hV', hl', hn'⟩
   | _ => exact ⟨s', rho', hq, hr', hV', hl', hn'⟩
  ·subst hc
   simp only [pw] at h
   refine wpIn_block (wpIn_mono (ih mx hx _ s rho a w h hr hV hl hn) fun e a' w' hp => ?_)
   obtain ⟨s', rho', hq, hr', hV', hl', hn'⟩ := hp
   cases e with
   | exit j =>
    simp only [Exit.inBlock]
    simp only [blockP] at hq
    by_cases hj : j = id
    ·rw [if_pos hj] at hq ⊢; exact ⟨s', rho', hq, hr', hV', hl', hn'⟩
    ·rw [if_neg hj] at hq ⊢; exact ⟨s', rho', hq, hr', hV', hl', hn'⟩
   | _ => exact ⟨s', rho', hq, hr', hV', hl', hn'⟩
 | loop c ih =>
  intro mc hc Q s rho a w h hr hV hl hn
  simp only [codeP, Option.map_eq_some_iff] at hc
  obtain ⟨mx, hx, rfl⟩ := hc
  simp only [pw] at h
  obtain ⟨I, ⟨k, hk⟩, hI⟩ := h
  have key : ∀ m k s rho a w, k < m → I k s → RelF df w0 ok0 n s rho a w → V.Leq (viewOf w0 ok0 s.H rho w) → (∀ id, id < nx0 → rho id = V.rho id) → nx0 ≤ s.nx → Code.roundsIn (fnc rd) N P c (Post df w0 ok0 n V nx0 Q) m a w := by
   intro m
   induction m with
   | zero => intro k s rho a w hkm; omega
   | succ m ihm =>
    intro k s rho a w hkm hk hr hV hl hn
    rw [roundsIn_succ]
    refine wpIn_mono (ih mx hx _ s rho a w (hI k s hk) hr hV hl hn) fun e a' w' hp => ?_
    obtain ⟨s', rho', hq, hr', hV', hl', hn'⟩ := hp
    cases e with
    | normal =>
     obtain ⟨k', hk', hI'⟩ := hq
     exact ihm k' s' rho' a' w' (by omega) hI' hr' hV' hl' hn'
    | _ => exact ⟨s', rho', hq, hr', hV', hl', hn'⟩
  exact wpIn_loop_rounds (k + 1) (key (k + 1) k s rho a w (by omega) hk hr hV hl hn)
 | _ => intro mc hc; simp [codeP] at hc
end
section
inductive RV where
 | tmp (t : Nat)
 | cell (t sz : Nat) (ag : Bool)
 deriving Inhabited
def resV (P : Program) : ResultVar → Option RV
 | .tmp t => some (.tmp t)
 | .cell a T => (P.underlying T).bind fun d => (szOf P T).map fun sz => .cell a sz (aggB d)
def resVs (P : Program) : List ResultVar → Option (List RV)
 | [] => some []
 | x :: r => (resV P x).bind fun y => (resVs P r).map (y :: ·)
def resP1 (s : St) : RV → Option PV
 | .tmp t => some (s.s t)
 | .cell t sz ag => (loadP s (s.s t) sz).bind fun cs => if ag = true then some (.agg cs) else if sz = 1 then cs.head? else none
def resPs (s : St) : List RV → Option (List PV)
 | [] => some []
 | x :: r => (resP1 s x).bind fun y => (resPs s r).map (y :: ·)
def resP (s : St) (rs : List RV) : Option PV := (resPs s rs).map fun xs => match xs with
 | [x] => x
 | xs => .tup xs
def resSem (tmps : Array Value) : ResultVar → Sem Value
 | .tmp t => pure (tmps.getD t undef)
 | .cell b t => do loadVar t (← asAddr (tmps.getD b undef))
theorem results_eq (fn : Func) (tmps : Array Value) : results fn tmps = (do
  let vs ← fn.results.mapM (resSem tmps)
  pure (if h : vs.size = 1 then vs[0] else .tuple vs)) := by
 unfold results
 congr 2
theorem res1_sound {df : List Deferred} {P : Program} {w0 : World} {ok0 : Nat → Prop} {n : Nat} {s : St} {rho : Nat → Option Nat} {a : Act} {w : World} (hr : Rel df w0 ok0 n s rho a w) {x : ResultVar} {y : RV} {r : PV} (hy : resV P x = some y) (h : resP1 s y = some r) :
  ∃ v, (resSem a.tmps x).run P w = .ok v w ∧ Rep (viewOf w0 ok0 s.H rho w) r v := by
 cases x with
 | tmp t =>
  simp only [resV, Option.some.injEq] at hy
  subst hy
  simp only [resP1, Option.some.injEq] at h
  subst h
  exact ⟨_, rfl, hr.slot t⟩
 | cell b T =>
  simp only [resV, Option.bind_eq_some_iff, Option.map_eq_some_iff] at hy
  obtain ⟨d, hd, sz, hz, rfl⟩ := hy
  simp only [resP1] at h
  obtain ⟨bl, off, u, e, h1, h2⟩ := loadVar_sound (P := P) hr.heap.owns (hr.slot b) hd hz h
  refine ⟨u, ?_, h2⟩
  simp only [resSem, Sem.run_bind, e, asAddr, Sem.run_pure, Result.andThen_ok]
  exact h1
theorem ress_sound {df : List Deferred} {P : Program} {w0 : World} {ok0 : Nat → Prop} {n : Nat} {s : St} {rho : Nat → Option Nat} {a : Act} {w : World} (hr : Rel df w0 ok0 n s rho a w) : ∀ (xs : List ResultVar) (ys : List RV) (rs : List PV), resVs P xs = some ys → resPs s ys = some rs →
  ∃ vs, (xs.mapM (resSem a.tmps)).run P w = .ok vs w ∧ RepL (viewOf w0 ok0 s.H rho w) rs vs
 | [], ys, rs, h1, h2 => by
  simp [resVs] at h1
  subst h1
  simp [resPs] at h2
  subst h2
  exact ⟨[], by simp, RepL.nil⟩
 | x :: xs, ys, rs, h1, h2 => by
  simp only [resVs, Option.bind_eq_some_iff, Option.map_eq_some_iff] at h1
  obtain ⟨y, hy, ys', hys, rfl⟩ := h1
  simp only [resPs, Option.bind_eq_some_iff, Option.map_eq_some_iff] at h2
  obtain ⟨r, hr1, rs', hrs, rfl⟩ := h2
  obtain ⟨v, h3, h4⟩ := res1_sound hr hy hr1
  obtain ⟨vs, h5, h6⟩ := ress_sound hr xs ys' rs' hys hrs
  refine ⟨v :: vs, ?_, RepL.cons h4 h6⟩
  simp only [List.mapM_cons, Sem.run_bind, h3, Result.andThen_ok, h5, Sem.run_pure]
theorem res_sound {df : List Deferred} {P : Program} {w0 : World} {ok0 : Nat → Prop} {n : Nat} {s : St} {rho : Nat → Option Nat} {a : Act} {w : World} {fn : Func} {ys : List RV} {r : PV} (hr : Rel df w0 ok0 n s rho a w) (hy : resVs P fn.results.toList = some ys) (h : resP s ys = some r) :
  ∃ v, (results fn a.tmps).run P w = .ok v w ∧ Rep (viewOf w0 ok0 s.H rho w) r v := by
 simp only [resP, Option.map_eq_some_iff] at h
 obtain ⟨rs, hrs, h⟩ := h
 obtain ⟨vs, h1, h2⟩ := ress_sound hr _ _ _ hy hrs
 have hlen := h2.1
 have hrun : (results fn a.tmps).run P w = .ok (if hh : vs.toArray.size = 1 then vs.toArray[0] else .tuple vs.toArray) w := by
  rw [results_eq, Array.mapM_eq_mapM_toList]
  simp only [Sem.run_bind, Sem.run_map, h1, Result.andThen_ok, Sem.run_pure]
 refine ⟨_, hrun, ?_⟩
 match rs, vs, h2, h with
 | [x], [v], h2, h =>
  subst h
  exact h2.2 0 x v rfl rfl
 | [], [], h2, h =>
  subst h
  exact .tup [] [] rfl h2.2
 | x :: y :: t, v :: u :: us, h2, h =>
  subst h
  have : (v :: u :: us).toArray.size ≠ 1 := by simp
  rw [dif_neg this]
  exact .tup _ _ h2.1 h2.2
 | [], v :: us, h2, _ => exact absurd h2.1 (by simp)
 | [x], [], h2, _ => exact absurd h2.1 (by simp)
 | [x], v :: u :: us, h2, _ => exact absurd h2.1 (by simp)
 | x :: y :: t, [], h2, _ => exact absurd h2.1 (by simp)
 | x :: y :: t, [v], h2, _ => exact absurd h2.1 (by simp)
def frz : Nat → (Nat → Option PObj) → PV → PV
 | 0, _, x => x
 | k + 1, H, .optr id off => match H id with
  | some o => .ptr ((o.cells.drop off).map (frz k H))
  | none => .optr id off
 | k + 1, H, .osl id off len sz => match H id with
  | some o => if off + len * sz ≤ o.cells.length then .sl sz (chunks sz len (((o.cells.drop off).take (len * sz)).map (frz k H))) else .osl id off len sz
  | none => .osl id off len sz
 | k + 1, H, .agg xs => .agg (xs.map (frz k H))
 | k + 1, H, .tup xs => .tup (xs.map (frz k H))
 | k + 1, H, .fn f xs => .fn f (xs.map (frz k H))
 | _ + 1, _, x => x
theorem map_repl {V V' : Vw} {f : PV → PV} {xs : List PV} {vs : List Value} (hf : ∀ x v, Rep V x v → Rep V' (f x) v) (h : RepL V xs vs) : RepL V' (xs.map f) vs :=
 ⟨by simp [h.1], fun i x v hx hv => by
  rw [List.getElem?_map] at hx
  cases hxi : xs[i]? with
  | none => simp [hxi] at hx
  | some y => simp [hxi] at hx; subst hx; exact hf _ _ (h.2 i y v hxi hv)⟩
def sig (args : List PV) : Nat → PV := fun t => args.getD t (.sc undef)
theorem start_rel {P : Program} {w0 : World} {ok0 : Nat → Prop} {H : Nat → Option PObj} {rho : Nat → Option Nat} {w : World} {n nx : Nat} {args : List PV} {vals : List Value} (hH : RelH w0 ok0 H rho w) (hf : ∀ id, nx ≤ id → rho id = none)
  (hv : RepL (viewOf w0 ok0 H rho w) args vals) (hn : args.length ≤ n) : RelF [] w0 ok0 n ⟨sig args, H, nx⟩ rho { tmps := vals.toArray ++ Array.replicate (n - vals.toArray.size) undef, defers := [] } w := by
 have hl := hv.1
 refine ⟨⟨hH, by simp; omega, rfl, fun t => ?_⟩, hf⟩
 unfold sig
 simp only [Array.getD_eq_getD_getElem?, List.getD_eq_getElem?_getD]
 by_cases ht : t < args.length
 ·have ht2 : t < vals.length := by omega
  rw [Array.getElem?_append_left (by simpa using ht2), List.getElem?_eq_getElem ht]
  simp only [List.getElem?_toArray, List.getElem?_eq_getElem ht2, Option.getD_some]
  exact hv.2 t _ _ (List.getElem?_eq_getElem ht) (List.getElem?_eq_getElem ht2)
 ·rw [List.getElem?_eq_none (by omega), Array.getElem?_append_right (by simp; omega), Array.getElem?_replicate]
  split <;> exact .sc undef
def Weak (x y : PV) : Prop := ∀ (V : Vw) (v : Value), Rep V x v → Rep V y v
theorem Weak.refl (x : PV) : Weak x x := fun _ _ h => h
theorem Weak.of_eq {x y : PV} (h : x = y) : Weak x y := h ▸ Weak.refl x
theorem Weak.trans {x y z : PV} (h : Weak x y) (k : Weak y z) : Weak x z := fun V v hv => k V v (h V v hv)
theorem Weak.nil (sz : Nat) : Weak (.sc (.slice none 0 0)) (.sl sz []) := fun V v h => by
 have e := h.sc_inv
 subst e
 exact .slNil sz none 0 (Nat.zero_le _)
def WeakL : List PV → List PV → Prop
 | [], [] => True
 | x :: xs, y :: ys => Weak x y ∧ WeakL xs ys
 | _, _ => False
theorem WeakL.refl : ∀ xs, WeakL xs xs
 | [] => trivial
 | x :: r => ⟨Weak.refl x, WeakL.refl r⟩
theorem WeakL.rep {V : Vw} : ∀ {xs ys : List PV} {vs : List Value}, WeakL xs ys → RepL V xs vs → RepL V ys vs
 | [], [], _, _, h => h
 | x :: xs, y :: ys, v :: vs, hw, h => by
  refine RepL.cons (hw.1 V v (h.2 0 x v rfl rfl)) (WeakL.rep hw.2 ⟨by simpa using h.1, fun i a b ha hb => h.2 (i + 1) a b (by simpa using ha) (by simpa using hb)⟩)
 | x :: xs, y :: ys, [], _, h => absurd h.1 (by simp)
 | [], y :: ys, _, hw, _ => hw.elim
 | x :: xs, [], _, hw, _ => hw.elim
theorem Weak.agg {xs ys : List PV} (h : WeakL xs ys) : Weak (.agg xs) (.agg ys) := fun V v hv => by
 obtain ⟨vs, rfl, hr⟩ := hv.agg_inv
 exact cells_rep (h.rep hr)
theorem Weak.tup {xs ys : List PV} (h : WeakL xs ys) : Weak (.tup xs) (.tup ys) := fun V v hv => by
 obtain ⟨vs, rfl, hr⟩ := hv.tup_inv
 have := h.rep hr
 exact .tup _ _ this.1 this.2
theorem Weak.ptr {xs ys : List PV} (h : WeakL xs ys) : Weak (.ptr xs) (.ptr ys) := fun V v hv => by
 obtain ⟨b, off, vs, rfl, hok, hr, hc⟩ := hv.ptr_inv
 exact .ptr_mk hok (h.rep hr) hc
theorem PPure.weak {P : Program} {f : FuncId} {args args' : List PV} {r r' : PV} (h : PPure P f args r) (ha : WeakL args' args) (hr : Weak r r') : PPure P f args' r' := by
 refine ⟨h.1, fun V nx vals hok hfree hv => (h.2 V nx vals hok hfree (ha.rep hv)).mono ?_⟩
 rintro e w' ⟨v, h1, h2, h3⟩
 exact ⟨v, h1, h2, hr _ _ h3⟩
structure FnIs (P : Program) (pol : Pol) (f : FuncId) (n : Nat) (mc : MCode) (rs : List RV) : Prop where
 follows : P.follows .mixedOrders = true
 is : ∃ fn c, P.funcs[f]? = some fn ∧ fn.body = some c ∧ fn.name ≠ "runtime.NumGoroutine" ∧ fn.ntmps = n ∧ codeP P pol n c = some mc ∧ resVs P fn.results.toList = some rs
theorem pw_wide {df : List Deferred} {P : Program} {pol : Pol} {w0 : World} {ok0 : Nat → Prop} {n nx0 : Nat} {V : Vw} (hm : P.follows .mixedOrders = true) (c : Code) (mc : MCode) (hc : codeP P pol n c = some mc)
  (Q : Exit → St → Prop) (s : St) (rho : Nat → Option Nat) (a : Act) (w : World) (h : pw P mc Q s) (hr : RelF df w0 ok0 n s rho a w) (hV : V.Leq (viewOf w0 ok0 s.H rho w)) (hl : ∀ id, id < nx0 → rho id = V.rho id) (hn : nx0 ≤ s.nx) :
  c.wp P (Post df w0 ok0 n V nx0 Q) a w := (wpIn_wide (n := 0)).1 (pw_sound (rd := none) hm c mc hc Q s rho a w h hr hV hl hn)
theorem FnIs.enters {P : Program} {pol : Pol} {f : FuncId} {n : Nat} {mc : MCode} {rs : List RV} (h : FnIs P pol f n mc rs) : enters P f = true := by
 obtain ⟨_, fn, c, h1, h2, h3, _⟩ := h
 simp [Go.Proofs.Ytnelciclibknpaa.enters, h1, h2, h3]
theorem mut_fn {P : Program} {pol : Pol} {f : FuncId} {n : Nat} {mc : MCode} {rs : List RV} {args : List PV} {H : Nat → Option PObj} {nx : Nat} {Q : (Nat → Option PObj) → Nat → PV → Prop} (hf : FnIs P pol f n mc rs) (hn : args.length ≤ n)
  (h : pw P mc (fun e s => (e = .normal ∨ e = .ret) ∧ ∃ r, resP s rs = some r ∧ Q s.H s.nx r) ⟨sig args, H, nx⟩) : PMut P f args H nx Q := by
 refine ⟨hf.enters, fun w0 ok0 rho w vals hH hfree hv => ?_⟩
 obtain ⟨hm, fn, c, h1, h2, h3, rfl, h5, h6⟩ := hf
 refine calls_of_wp h1 h2 ?_
 have hr := start_rel (P := P) hH hfree hv hn
 refine wp_mono (pw_wide (V := viewOf w0 ok0 H rho w) (nx0 := nx) hm c mc h5 _ _ rho _ w h hr (Vw.Leq.refl _) (fun _ _ => rfl) (Nat.le_refl _)) fun e a' w' hp => ?_
 obtain ⟨s', rho', ⟨he, r, hres, hQ⟩, hr', hV, hlow, hnx⟩ := hp
 obtain ⟨v, hrun, hrep⟩ := res_sound hr'.rel h6 hres
 have key : a'.defers = [] ∧ ∃ v, (results fn a'.tmps).run P w' = .ok v w' ∧ ∃ v' H' nx' r rho', Ending.returned v = .returned v' ∧ Q H' nx' r ∧ RelH w0 ok0 H' rho' w' ∧ (viewOf w0 ok0 H rho w).Leq (viewOf w0 ok0 H' rho' w') ∧
   nx ≤ nx' ∧ (∀ id, nx' ≤ id → rho' id = none) ∧ (∀ id, id < nx → rho' id = rho id) ∧ Rep (viewOf w0 ok0 H' rho' w') r v' :=
  ⟨hr'.rel.defs, v, hrun, v, s'.H, s'.nx, r, rho', rfl, hQ, hr'.rel.heap, hV, hnx, hr'.free, hlow, hrep⟩
 rcases he with rfl | rfl
 ·exact key
 ·exact key
theorem Weak.fn {f : FuncId} {xs ys : List PV} (h : WeakL xs ys) : Weak (.fn f xs) (.fn f ys) := fun V v hv => by
 cases hv with
 | fn _ _ vs hl hr =>
  have := h.rep ⟨hl, hr⟩
  exact .fn f _ _ this.1 this.2
theorem Weak.fptr (xs : List PV) : Weak (.fptr xs) (.ptr xs) := fun V v hv => by cases hv with | fptr _ _ _ h => exact h
theorem Weak.fsl (sz : Nat) (es : List (List PV)) : Weak (.fsl sz es) (.sl sz es) := fun V v hv => by cases hv with | fsl _ _ _ _ h => exact h
theorem Weak.sl {sz : Nat} {es es' : List (List PV)} (hl : es.length = es'.length) (hs : ∀ e ∈ es', e.length = sz) (h : WeakL es.flatten es'.flatten) : Weak (.sl sz es) (.sl sz es') := fun V v hv => by
 cases hv with
 | slNil _ A cap hc =>
  obtain rfl : es' = [] := List.eq_nil_of_length_eq_zero hl.symm
  exact .slNil sz A cap hc
 | sl _ _ b off len cap hlen hs0 h1 h2 hp =>
  exact .sl sz es' b off len cap (by omega) hs h1 h2 (Weak.ptr h V _ hp)
theorem WeakL.map {f g : PV → PV} (h : ∀ x, Weak (f x) (g x)) : ∀ xs : List PV, WeakL (xs.map f) (xs.map g)
 | [] => trivial
 | x :: r => ⟨h x, WeakL.map h r⟩
def frzF : Nat → (Nat → Option PObj) → PV → PV
 | 0, _, x => x
 | k + 1, H, .optr id off => match H id with
  | some o => .fptr ((o.cells.drop off).map (frzF k H))
  | none => .optr id off
 | k + 1, H, .osl id off len sz => match H id with
  | some o => if off + len * sz ≤ o.cells.length then .fsl sz (chunks sz len (((o.cells.drop off).take (len * sz)).map (frzF k H))) else .osl id off len sz
  | none => .osl id off len sz
 | k + 1, H, .agg xs => .agg (xs.map (frzF k H))
 | k + 1, H, .tup xs => .tup (xs.map (frzF k H))
 | k + 1, H, .fn f xs => .fn f (xs.map (frzF k H))
 | _ + 1, _, x => x
theorem frzF_sound {w0 : World} {ok0 : Nat → Prop} {H : Nat → Option PObj} {rho : Nat → Option Nat} {w : World} (hH : RelH w0 ok0 H rho w) : ∀ (k : Nat) (x : PV) (v : Value), Rep (viewOf w0 ok0 H rho w) x v → Rep (viewOf w0 ok0 noneOwn rho w) (frzF k H x) v := by
 intro k
 induction k with
 | zero => intro x v h; exact h.mono (none_leq ..)
 | succ k ih =>
  intro x v h
  cases x with
  | optr id off =>
   simp only [frzF]
   cases ho : H id with
   | none => exact h.mono (none_leq ..)
   | some o =>
    obtain ⟨b, rfl, hb⟩ := h.optr_inv
    obtain ⟨b', hb', hlow, hobj⟩ := hH.own id o ho
    have hb2 : rho id = some b := hb
    rw [hb2] at hb'
    cases hb'
    have hlt := hobj.lt
    obtain ⟨c, T, hh, hle, hwh, hrr⟩ := hobj.cells h.optr_shape
    refine .fptr _ _ (fun b' off' e => by cases e; exact ⟨c, T, hh⟩) ?_
    by_cases hoff : off ≤ o.cells.length
    ·obtain ⟨vs, h1, h2, h3⟩ := obj_cells ⟨c, T, hh, hle, hwh, hrr⟩ off (o.cells.length - off) (by omega)
     have e : (o.cells.drop off).take (o.cells.length - off) = o.cells.drop off := List.take_of_length_le (by simp)
     rw [e] at h1
     exact .ptr_mk ⟨.inr ⟨hlow, hlt⟩, fun id o ho => by cases ho⟩ (map_repl ih h1) h3
    ·have e : o.cells.drop off = [] := List.drop_eq_nil_of_le (by omega)
     show Rep _ (.ptr ((o.cells.drop off).map (frzF k H))) _
     rw [e]
     exact .ptr_mk (vs := []) ⟨.inr ⟨hlow, hlt⟩, fun id o ho => by cases ho⟩ RepL.nil (fun i u hu => by simp at hu)
  | osl id off len sz =>
   simp only [frzF]
   cases ho : H id with
   | none => exact h.mono (none_leq ..)
   | some o =>
    simp only []
    split
    ·rename_i hfit
     obtain ⟨b, cap, c0, T0, fr0, rfl, hb, h1, h2, hsh, _⟩ := h.osl_inv
     obtain ⟨b', hb', hlow, hobj⟩ := hH.own id o ho
     have hb2 : rho id = some b := hb
     rw [hb2] at hb'
     cases hb'
     have hlt := hobj.lt
     obtain ⟨c, T, hh, _⟩ := hobj.cells ⟨_, _, _, hsh⟩
     obtain ⟨vs, h3, h4, h5⟩ := obj_cells (hobj.cells ⟨_, _, _, hsh⟩) off (len * sz) hfit
     have hm := map_repl (f := frzF k H) ih h3
     obtain ⟨c1, c2, c3⟩ := chunks_spec sz len (((o.cells.drop off).take (len * sz)).map (frzF k H)) (by simp; omega)
     refine .fsl _ _ _ (fun b' off' len' cap' e _ => by cases e; exact ⟨c, T, hh⟩) ?_
     refine .sl sz _ b off len cap c2 c3 h1 h2 ?_
     rw [c1]
     exact .ptr_mk ⟨.inr ⟨hlow, hlt⟩, fun id o ho => by cases ho⟩ hm h5
    ·exact h.mono (none_leq ..)
  | agg xs =>
   obtain ⟨vs, rfl, hr⟩ := h.agg_inv
   exact cells_rep (map_repl ih hr)
  | tup xs =>
   obtain ⟨vs, rfl, hr⟩ := h.tup_inv
   have := map_repl (f := frzF k H) ih hr
   exact .tup _ _ this.1 this.2
  | fn f xs =>
   cases h with
   | fn _ _ vs hl hr =>
    have := map_repl (f := frzF k H) (V := viewOf w0 ok0 H rho w) (V' := viewOf w0 ok0 noneOwn rho w) ih ⟨hl, hr⟩
    exact .fn f _ _ this.1 this.2
  | oit id => exact h.mono (none_leq ..)
  | omp id => exact h.mono (none_leq ..)
  | mkv kv => cases h
  | itm b p => cases h
  | sc u => exact h.mono (none_leq ..)
  | csl sz es => exact h.mono (none_leq ..)
  | ocap id off len sz => exact h.mono (none_leq ..)
  | fptr cs => exact h.mono (none_leq ..)
  | fsl sz es => exact h.mono (none_leq ..)
  | ptr cs => exact h.mono (none_leq ..)
  | sl sz es => exact h.mono (none_leq ..)
theorem frzF_weak (H : Nat → Option PObj) : ∀ (k : Nat) (x : PV), Weak (frzF k H x) (frz k H x) := by
 intro k
 induction k with
 | zero => intro x; exact Weak.refl _
 | succ k ih =>
  intro x
  cases x with
  | optr id off =>
   simp only [frzF, frz]
   cases ho : H id with
   | none => exact Weak.refl _
   | some o => exact (Weak.fptr _).trans (Weak.ptr (WeakL.map ih _))
  | osl id off len sz =>
   simp only [frzF, frz]
   cases ho : H id with
   | none => exact Weak.refl _
   | some o =>
    simp only []
    split
    ·rename_i hfit
     obtain ⟨c1, c2, c3⟩ := chunks_spec sz len (((o.cells.drop off).take (len * sz)).map (frzF k H)) (by simp; omega)
     obtain ⟨d1, d2, d3⟩ := chunks_spec sz len (((o.cells.drop off).take (len * sz)).map (frz k H)) (by simp; omega)
     refine (Weak.fsl _ _).trans (Weak.sl (by omega) d3 ?_)
     rw [c1, d1]
     exact WeakL.map ih _
    ·exact Weak.refl _
  | agg xs => exact Weak.agg (WeakL.map ih _)
  | tup xs => exact Weak.tup (WeakL.map ih _)
  | fn f xs => exact Weak.fn (WeakL.map ih _)
  | _ => exact Weak.refl _
theorem pure_fn {P : Program} {pol : Pol} {f : FuncId} {n : Nat} {mc : MCode} {rs : List RV} {args : List PV} {r : PV} (hf : FnIs P pol f n mc rs) (hn : args.length ≤ n) (hi : r.imm = true)
  (h : ∀ nx, pw P mc (fun e s => (e = .normal ∨ e = .ret) ∧ ∃ r0, resP s rs = some r0 ∧ ∃ k, Weak (frzF k s.H r0) r) ⟨sig args, noneOwn, nx⟩) : PPure P f args r := by
 refine ⟨hf.enters, fun V nx vals hok hfree hv => ?_⟩
 obtain ⟨hm, fn, c, h1, h2, h3, rfl, h5, h6⟩ := hf
 refine calls_of_wp h1 h2 ?_
 have hH : RelH V.w V.ok noneOwn V.rho V.w := ⟨hok, Below.refl _ _, fun id o ho => (by cases ho), fun id id' b h => absurd rfl h⟩
 have hVleq : V.Leq (viewOf V.w V.ok noneOwn V.rho V.w) := ⟨fun b hb => ⟨.inl hb, fun id o ho => (by cases ho)⟩, fun _ _ => rfl, fun _ _ h => h, fun _ _ c T fr _ hh => ⟨c, T, fr, hh, Nat.le_refl _⟩, Nat.le_refl _⟩
 have hr := start_rel (P := P) hH hfree (hv.mono hVleq) hn
 refine wp_mono (pw_wide (V := V) (nx0 := nx) hm c mc h5 _ _ V.rho _ V.w (h nx) hr hVleq (fun _ _ => rfl) (Nat.le_refl _)) fun e a' w' hp => ?_
 obtain ⟨s', rho', ⟨he, r0, hres, k, hk⟩, hr', hV, hlow, hnx⟩ := hp
 obtain ⟨v, hrun, hrep⟩ := res_sound hr'.rel h6 hres
 have h7 := frzF_sound hr'.rel.heap k r0 v hrep
 have h8 := ((hk _ _ h7).imm hi V.rho)
 have h9 : Rep (grown V w') r v := by
  have hl : (⟨w', (viewOf V.w V.ok noneOwn rho' w').ok, V.rho⟩ : Vw).Leq (grown V w') :=
   ⟨fun b hb => And.left hb, fun _ _ => rfl, fun _ _ h => h, fun _ _ c T fr _ hh => ⟨c, T, fr, hh, Nat.le_refl _⟩, Nat.le_refl _⟩
  exact h8.mono hl
 have key : a'.defers = [] ∧ ∃ v, (results fn a'.tmps).run P w' = .ok v w' ∧ ∃ v', Ending.returned v = .returned v' ∧ Below V.w.heap.size V.w w' ∧ Rep (grown V w') r v' :=
  ⟨hr'.rel.defs, v, hrun, v, rfl, hr'.rel.heap.bel, h9⟩
 rcases he with rfl | rfl
 ·exact key
 ·exact key
end
section
universe u
theorem nr {α : Sort u} {a b : α} (h : a = b) : a = b := h
def condP (p : PV) (A B : St → Prop) (s : St) : Prop :=
 match p with
 | .sc (.bool t) => if t = true then A s else B s
 | _ => False
def guardK (p : PV) (want : Bool) (A K : St → Prop) (d : Option Nat) (s : St) : Prop :=
 match p with
 | .sc (.bool b) => if b = want then A s else K (put s d (.sc undef))
 | .sc (.tuple _) => K (put s d (.sc undef))
 | _ => False
def callP (P : Program) (pure : Bool) (lend : Bool) (f : FuncId) (args : List PV) (d : Option Nat) (K : St → Prop) (s : St) : Prop :=
 (∃ r, CallV P lend f args s.H r ∧ K (put s d r)) ∨ (pure = false ∧ ∃ Q, PMut P f args s.H s.nx Q ∧ ∀ H' nx' r, Q H' nx' r → s.nx ≤ nx' → K (put { s with H := H', nx := nx' } d r))
def calvP (P : Program) (pure : Bool) (p : PV) (args : List PV) (d : Option Nat) (K : St → Prop) (s : St) : Prop :=
 match p with
 | .fn f caps => callP P pure false f (args ++ caps) d K s
 | _ => False
def valP (o : Option PV) (d : Option Nat) (K : St → Prop) (s : St) : Prop :=
 match o with
 | some x => K (put s d x)
 | none => False
def storeK (q : Option (Nat × PObj)) (d : Option Nat) (K : St → Prop) (s : St) : Prop :=
 match q with
 | some (j, ob) => K (put { s with H := upd s.H j (some ob) } d (.sc undef))
 | none => False
def storeF (q : Option (Nat × PObj)) (t : Nat) (p : PV) (d : Option Nat) (K : St → Prop) (s : St) : Prop :=
 match p, q with
 | .optr _ 0, some (j, ob) => K (put { s with s := upd s.s t (.ptr ob.cells), H := upd s.H j none } d (.sc undef))
 | _, _ => False
def newP (q : Option (PV × PObj)) (id : Nat) (d : Option Nat) (K : St → Prop) (s : St) : Prop :=
 match q with
 | some (x, ob) => K (put { s with H := upd s.H id (some ob) } d x)
 | none => False
section
variable {P : Program} {b : Bool} {id base i : Nat} {d : Option Nat} {K : St → Prop} {s : St} {r : List (Nat × MO)} {o : MO}
theorem run_nil : runOps P b base [] K s = K s := nr rfl
theorem run_cons : runOps P b base ((i, o) :: r) K s = opG P b (base + i) o (runOps P b base r K) s := nr rfl
theorem num_nil {k : Nat} : num k ([] : List MO) = [] := nr rfl
theorem num_cons {k : Nat} {o : MO} {l : List MO} : num k (o :: l) = (k, o) :: num (k + 1) l := nr rfl
theorem put_some {t : Nat} {x : PV} : put s (some t) x = { s with s := upd s.s t x } := nr rfl
theorem put_none {x : PV} : put s none x = s := nr rfl
theorem ev_tmp {t : Nat} : ev s (.tmp t) = s.s t := nr rfl
theorem ev_const {v : Value} : ev s (.const v) = .sc v := nr rfl
theorem ev_func {f : FuncId} : ev s (.func f) = .fn f [] := nr rfl
theorem upd_get {α : Type} {f : Nat → α} {i j : Nat} {x : α} : upd f i x j = if j = i then x else f j := nr rfl
theorem g_some {m : MOp} {t : Nat} {w : Bool} : opG P b id ⟨d, m, some (t, w)⟩ K s = guardK (s.s t) w (opG P b id ⟨d, m, none⟩ K) K d s := by
 unfold opG guardK
 simp only []
 generalize s.s t = p
 cases p with
 | sc v => cases v <;> rfl
 | _ => rfl
theorem val_op {m : MOp} (h : m.isCall = false) (h2 : ∀ o : MO, o.op = m → ∀ s, stepM id o s = (val s m).map (put s o.dst)) : opG P b id ⟨d, m, none⟩ K s = valP (val s m) d K s := by
 have e : stepM id ⟨d, m, none⟩ s = (val s m).map (put s d) := h2 ⟨d, m, none⟩ rfl s
 have h' : ¬ (MO.op ⟨d, m, none⟩).isCall = true := by simp [h]
 unfold opG opP valP
 simp only []
 rw [if_neg h', e]
 cases val s m <;> rfl
theorem o_mv {x : Operand} : opG P b id ⟨d, .mv x, none⟩ K s = K (put s d (ev s x)) := nr rfl
def pickV (p q r : PV) : Option PV := match p with
 | .sc (.bool t) => some (if t then q else r)
 | _ => none
theorem o_pick {c x y : Operand} : opG P b id ⟨d, .pick c x y, none⟩ K s = valP (pickV (ev s c) (ev s x) (ev s y)) d K s := val_op rfl fun o h s => by simp only [stepM, h]
theorem o_bin {op : BinOp} {x y : Operand} : opG P b id ⟨d, .bin op x y, none⟩ K s = valP (binPV op (ev s x) (ev s y)) d K s := val_op rfl fun o h s => by simp only [stepM, h]
theorem o_eqa {ne : Bool} {t : ETy} {x y : Operand} : opG P b id ⟨d, .eqa ne t x y, none⟩ K s = valP ((eqE t (ev s x) (ev s y)).map fun (b : Bool) => PV.sc (.bool (if ne = true then !b else b))) d K s := val_op rfl fun o h s => by simp only [stepM, h]
theorem o_mm {mx : Bool} {xs : List Operand} : opG P b id ⟨d, .mm mx xs, none⟩ K s = valP (mmL mx (xs.map (ev s))) d K s := val_op rfl fun o h s => by simp only [stepM, h]
def appK (q : Option (PV × List (Nat × Option PObj))) (d : Option Nat) (K : St → Prop) (s : St) : Prop := match q with
 | some (r, hs) => K (put { s with H := updL s.H hs } d r)
 | none => False
theorem app_some {r : PV} {hs : List (Nat × Option PObj)} : appK (some (r, hs)) d K s = K (put { s with H := updL s.H hs } d r) := nr rfl
theorem o_app {sz bytes : Nat} {x y : Operand} : opG P b id ⟨d, .app sz bytes x y, none⟩ K s = appK (appE s id sz bytes (ev s x) (ev s y)) d K s := by
 unfold opG opP appK
 simp only [MOp.isCall, Bool.false_eq_true, if_false, stepM]
 cases appE s id sz bytes (ev s x) (ev s y) <;> rfl
theorem o_apps {bytes : Nat} {x y : Operand} : opG P b id ⟨d, .apps bytes x y, none⟩ K s = appK (appS s id bytes (ev s x) (ev s y)) d K s := by
 unfold opG opP appK
 simp only [MOp.isCall, Bool.false_eq_true, if_false, stepM]
 cases appS s id bytes (ev s x) (ev s y) <;> rfl
theorem o_un {op : UnOp} {x : Operand} : opG P b id ⟨d, .un op x, none⟩ K s = valP (unPV op (ev s x)) d K s := val_op rfl fun o h s => by simp only [stepM, h]
theorem o_ldf {x : Operand} {sz : Nat} {ag : Bool} : opG P b id ⟨d, .ldf x sz ag, none⟩ K s = valP (if isP (ev s x) = true then (loadP s (ev s x) sz).bind fun cs => if ag then some (.agg cs) else if sz = 1 then cs.head? else none else none) d K s := val_op rfl fun o h s => by simp only [stepM, h]
theorem o_ldo {x : Operand} {ks : List Nat} {sz : Nat} {ag : Bool} : opG P b id ⟨d, .ldo x ks sz ag, none⟩ K s = valP (if ks.all (fun k => apartP (ev s x) (s.s k)) = true then (loadP s (ev s x) sz).bind fun cs => if ag then some (.agg cs) else if sz = 1 then cs.head? else none else none) d K s := val_op rfl fun o h s => by simp only [stepM, h]
theorem o_ld {x : Operand} {sz : Nat} {ag : Bool} : opG P b id ⟨d, .ld x sz ag, none⟩ K s = valP ((loadP s (ev s x) sz).bind fun cs => if ag then some (.agg cs) else if sz = 1 then cs.head? else none) d K s := val_op rfl fun o h s => by simp only [stepM, h]
theorem o_bld {z : List Value} {ps : List (Nat × Nat × Operand)} : opG P b id ⟨d, .bld z ps, none⟩ K s = valP ((partsP s ps).bind fun qs => (fillP (z.map .sc) qs).map .agg) d K s := val_op rfl fun o h s => by simp only [stepM, h]
theorem o_len {x : Operand} {str : Bool} : opG P b id ⟨d, .len x str, none⟩ K s = valP ((lenPV str (ev s x)).map fun (n : Nat) => PV.sc (.int .i64 (n : Int))) d K s := val_op rfl fun o h s => by simp only [stepM, h]
theorem o_cvt {c : Cv} {x : Operand} : opG P b id ⟨d, .cvt c x, none⟩ K s = valP (cvP c (ev s x)) d K s := val_op rfl fun o h s => by simp only [stepM, h]
theorem o_slc {x : Operand} {lo hi mx : Option Operand} {sz : Nat} {str : Bool} : opG P b id ⟨d, .slc x lo hi mx sz str, none⟩ K s = valP (slcP s sz str lo hi mx (ev s x)) d K s := val_op rfl fun o h s => by simp only [stepM, h]
theorem slc_sl {sz : Nat} {l h : Int} {es : List (List PV)} (h0 : 0 ≤ l) (h1 : l ≤ h) (h2 : h ≤ es.length) : slcI sz false l h none (.sl sz es) = some (.sl sz ((es.drop l.toNat).take (h - l).toNat)) := by
 rw [slcI]; rw [if_pos ⟨rfl, rfl, h0, h1, h2⟩, if_pos rfl]
theorem slc_csl {sz : Nat} {l h : Int} {es : List (List PV)} (h0 : 0 ≤ l) (h1 : l ≤ h) (h2 : h ≤ es.length) : slcI sz false l h (some h) (.sl sz es) = some (.csl sz ((es.drop l.toNat).take (h - l).toNat)) := by
 rw [slcI]; rw [if_pos ⟨rfl, rfl, h0, h1, h2⟩, if_neg (by simp), if_pos rfl]
theorem slc_osl {sz id off len : Nat} {l h : Int} (h0 : 0 ≤ l) (h1 : l < h) (h2 : h ≤ len) : slcI sz false l h none (.osl id off len sz) = some (.osl id (off + l.toNat * sz) (h - l).toNat sz) := by
 rw [slcI]; rw [if_pos ⟨rfl, rfl, h0, Int.le_of_lt h1, h2⟩, if_pos rfl, if_neg (by omega)]
theorem slc_osl0 {sz id off len : Nat} {l h : Int} (h0 : 0 ≤ l) (h1 : l = h) (h2 : h ≤ len) : slcI sz false l h none (.osl id off len sz) = some (.sl sz []) := by
 rw [slcI]; rw [if_pos ⟨rfl, rfl, h0, by omega, h2⟩, if_pos rfl, if_pos h1]
theorem slc_ocap {sz id off len : Nat} {l h : Int} (h0 : 0 ≤ l) (h1 : l ≤ h) (h2 : h ≤ len) : slcI sz false l h (some h) (.osl id off len sz) = some (.ocap id (off + l.toNat * sz) (h - l).toNat sz) := by
 rw [slcI]; rw [if_pos ⟨rfl, rfl, h0, h1, h2⟩, if_neg (by simp), if_pos rfl]
theorem slc_str {sz : Nat} {l h : Int} {b : ByteArray} (h0 : 0 ≤ l) (h1 : l ≤ h) (h2 : h ≤ b.size) : slcI sz true l h none (.sc (.string b)) = some (.sc (.string (b.extract l.toNat h.toNat))) := by
 rw [slcI]; rw [if_pos ⟨rfl, rfl, h0, h1, h2⟩]
theorem o_mkf {f : FuncId} {xs : List Operand} : opG P b id ⟨d, .mkf f xs, none⟩ K s = K (put s d (.fn f (xs.map (ev s)))) := nr rfl
def nilcV (p : PV) : Option PV := match p with
 | .ptr c => some (.ptr c)
 | .optr id off => some (.optr id off)
 | _ => none
theorem o_nilc {x : Operand} : opG P b id ⟨d, .nilc x, none⟩ K s = valP (nilcV (ev s x)) d K s := val_op rfl fun o h s => by simp only [stepM, h]
def faV (p : PV) (off : Nat) : Option PV := match p with
 | .ptr c => if off ≤ c.length then some (.ptr (c.drop off)) else none
 | .optr id o => some (.optr id (o + off))
 | _ => none
theorem o_fa {x : Operand} {off : Nat} : opG P b id ⟨d, .fa x off, none⟩ K s = valP (faV (ev s x) off) d K s := val_op rfl fun o h s => by simp only [stepM, h]
def fdV (p : PV) (off sz : Nat) (ag : Bool) : Option PV := match p with
 | .agg c => if ag then (if off + sz ≤ c.length then some (.agg ((c.drop off).take sz)) else none) else c[off]?
 | _ => none
theorem o_fd {x : Operand} {off sz : Nat} {ag : Bool} : opG P b id ⟨d, .fd x off sz ag, none⟩ K s = valP (fdV (ev s x) off sz ag) d K s := val_op rfl fun o h s => by simp only [stepM, h]
def iaV (p q : PV) (sz : Nat) (tl : Bool) : Option PV := match p, q with
 | .sl sz' es, .sc (.int _ n) => if 0 ≤ n ∧ sz' = sz then (es[n.toNat]?).map (tailP tl es n) else none
 | .osl id off len sz', .sc (.int _ n) => if 0 ≤ n ∧ n < len ∧ sz' = sz then some (.optr id (off + n.toNat * sz)) else none
 | .fsl sz' es, .sc (.int _ n) => if 0 ≤ n ∧ sz' = sz then (es[n.toNat]?).map (tailF tl es n) else none
 | _, _ => none
theorem tailF_f {es : List (List PV)} {n : Int} : tailF false es n = .ptr := rfl
theorem tailF_t {es : List (List PV)} {n : Int} {c : List PV} : tailF true es n c = .fptr (es.drop n.toNat).flatten := rfl
theorem tailP_f {es : List (List PV)} {n : Int} : tailP false es n = .ptr := rfl
theorem tailP_t {es : List (List PV)} {n : Int} {c : List PV} : tailP true es n c = .ptr (es.drop n.toNat).flatten := rfl
theorem o_ia {x y : Operand} {sz : Nat} {tl : Bool} : opG P b id ⟨d, .ia x y sz tl, none⟩ K s = valP (iaV (ev s x) (ev s y) sz tl) d K s := val_op rfl fun o h s => by simp only [stepM, h]
def iaaV (p q : PV) (len sz : Nat) : Option PV := match p, q with
 | .ptr c, .sc (.int _ n) => if 0 ≤ n ∧ n < len ∧ n.toNat * sz ≤ c.length then some (.ptr (c.drop (n.toNat * sz))) else none
 | .optr id off, .sc (.int _ n) => if 0 ≤ n ∧ n < len then some (.optr id (off + n.toNat * sz)) else none
 | _, _ => none
theorem o_iaa {x y : Operand} {len sz : Nat} : opG P b id ⟨d, .iaa x y len sz, none⟩ K s = valP (iaaV (ev s x) (ev s y) len sz) d K s := val_op rfl fun o h s => by simp only [stepM, h]
def ixV (p q : PV) (len sz : Nat) (ag : Bool) : Option PV := match p, q with
 | .agg c, .sc (.int _ n) => if 0 ≤ n ∧ n < len then (if ag then (if n.toNat * sz + sz ≤ c.length then some (.agg ((c.drop (n.toNat * sz)).take sz)) else none) else c[n.toNat * sz]?) else none
 | _, _ => none
theorem o_ix {x y : Operand} {len sz : Nat} {ag : Bool} : opG P b id ⟨d, .ix x y len sz ag, none⟩ K s = valP (ixV (ev s x) (ev s y) len sz ag) d K s := val_op rfl fun o h s => by simp only [stepM, h]
def ixsV (p q : PV) : Option PV := match p, q with
 | .sc (.string b), .sc (.int _ n) => if 0 ≤ n then (b[n.toNat]?).map fun c => .sc (.int .u8 c.toNat) else none
 | _, _ => none
theorem o_ixs {x y : Operand} : opG P b id ⟨d, .ixs x y, none⟩ K s = valP (ixsV (ev s x) (ev s y)) d K s := val_op rfl fun o h s => by simp only [stepM, h]
def extV (p : PV) (i : Nat) : Option PV := match p with
 | .tup vs => vs[i]?
 | _ => none
theorem o_ext {x : Operand} {j : Nat} : opG P b id ⟨d, .ext x j, none⟩ K s = valP (extV (ev s x) j) d K s := val_op rfl fun o h s => by simp only [stepM, h]
theorem o_al {z : List Value} : opG P b id ⟨d, .al z, none⟩ K s = K (put { s with H := upd s.H id (some ⟨z.map .sc, true⟩) } d (.optr id 0)) := nr rfl
theorem o_bxf {x : Operand} : opG P b id ⟨d, .bx x false, none⟩ K s = valP (if (ev s x).good = true then some (.ptr (ev s x).cellsOf) else none) d K s := by
 unfold opG opP valP
 simp only [MOp.isCall, Bool.false_eq_true, if_false, stepM]
 by_cases h : (ev s x).good = true <;> simp [h]
theorem o_bxt {x : Operand} : opG P b id ⟨d, .bx x true, none⟩ K s = newP (if (ev s x).good = true then some (.optr id 0, ⟨(ev s x).cellsOf, true⟩) else none) id d K s := by
 unfold opG opP newP
 simp only [MOp.isCall, Bool.false_eq_true, if_false, stepM, if_true]
 by_cases h : (ev s x).good = true <;> simp [h, newAt]
theorem o_bsl {sz len : Nat} {z : List Value} {ps : List (Nat × Nat × Operand)} : opG P b id ⟨d, .bsl sz len z ps true, none⟩ K s = newP (if z.length = sz then (partsP s ps).bind fun qs => (fillP (zeros z len) qs).map fun cells => (.osl id 0 len sz, ⟨cells, true⟩) else none) id d K s := by
 unfold opG opP newP
 simp only [MOp.isCall, Bool.false_eq_true, if_false, stepM, if_true]
 by_cases h : z.length = sz
 ·rw [if_pos h, if_pos h]
  cases partsP s ps with
  | none => rfl
  | some qs =>
   simp only [Option.bind_some]
   cases fillP (zeros z len) qs <;> rfl
 ·rw [if_neg h, if_neg h]
theorem o_bslf {sz len : Nat} {z : List Value} {ps : List (Nat × Nat × Operand)} : opG P b id ⟨d, .bsl sz len z ps false, none⟩ K s = valP (if z.length = sz then (partsP s ps).bind fun qs => (fillP (zeros z len) qs).map fun cells => .sl sz (chunks sz len cells) else none) d K s := by
 unfold opG opP valP
 simp only [MOp.isCall, Bool.false_eq_true, if_false, stepM]
 by_cases h : z.length = sz
 ·rw [if_pos h, if_pos h]
  cases partsP s ps with
  | none => rfl
  | some qs =>
   simp only [Option.bind_some]
   cases fillP (zeros z len) qs <;> rfl
 ·rw [if_neg h, if_neg h]
def mksV (id sz bytes : Nat) (z : List Value) (p q : PV) : Option (PV × PObj) := match p, q with
 | .sc (.int _ n), .sc (.int _ m) => if 0 ≤ n ∧ n = m ∧ bytes * n ≤ 2 ^ 47 ∧ n ≤ 2 ^ 47 ∧ z.length = sz then some (.osl id 0 n.toNat sz, ⟨zeros z n.toNat, true⟩) else none
 | _, _ => none
theorem o_mks {sz bytes : Nat} {z : List Value} {x y : Operand} : opG P b id ⟨d, .mks sz bytes z x y, none⟩ K s = newP (mksV id sz bytes z (ev s x) (ev s y)) id d K s := by
 unfold opG opP newP mksV
 simp only [MOp.isCall, Bool.false_eq_true, if_false, stepM]
 generalize ev s x = p
 generalize ev s y = q
 cases p with
 | sc v =>
  cases v with
  | int k n =>
   cases q with
   | sc u =>
    cases u with
    | int k' m =>
     simp only []
     by_cases h : 0 ≤ n ∧ n = m ∧ bytes * n ≤ 2 ^ 47 ∧ n ≤ 2 ^ 47 ∧ z.length = sz
     ·rw [if_pos h, if_pos h]; rfl
     ·rw [if_neg h, if_neg h]
    | _ => rfl
   | _ => rfl
  | _ => rfl
 | _ => rfl
theorem o_st {x v : Operand} {sz : Nat} : opG P b id ⟨d, .st x v sz false, none⟩ K s = storeK (if (ev s v).cellsOf.length = sz ∧ (ev s v).cellsOf.all PV.one = true then storeP s (ev s x) (ev s v).cellsOf else none) d K s := by
 unfold opG opP storeK
 simp only [MOp.isCall, Bool.false_eq_true, if_false, stepM]
 by_cases h : (ev s v).cellsOf.length = sz ∧ (ev s v).cellsOf.all PV.one = true
 ·rw [if_pos h, if_pos h]
  cases storeP s (ev s x) (ev s v).cellsOf with
  | none => rfl
  | some q => rfl
 ·rw [if_neg h, if_neg h]
theorem o_stf {t : Nat} {v : Operand} {sz : Nat} : opG P b id ⟨d, .st (.tmp t) v sz true, none⟩ K s = storeF (if (ev s v).cellsOf.length = sz ∧ (ev s v).cellsOf.all PV.one = true then storeP s (s.s t) (ev s v).cellsOf else none) t (s.s t) d K s := by
 unfold opG opP storeF
 simp only [MOp.isCall, Bool.false_eq_true, if_false, stepM, if_true]
 by_cases h : (ev s v).cellsOf.length = sz ∧ (ev s v).cellsOf.all PV.one = true
 ·rw [if_pos h, if_pos h]
  have e : ev s (.tmp t) = s.s t := rfl
  rw [e]
  cases storeP s (s.s t) (ev s v).cellsOf with
  | none =>
   simp only [Option.bind_none]
   cases s.s t with
   | optr j off => cases off <;> rfl
   | _ => rfl
  | some q =>
   obtain ⟨j, ob⟩ := q
   simp only [Option.bind_some]
   cases s.s t with
   | optr j off => cases off <;> rfl
   | _ => rfl
 ·rw [if_neg h, if_neg h]
  cases s.s t with
  | optr j off => cases off <;> rfl
  | _ => rfl
theorem o_call {f : FuncId} {xs : List Operand} : opG P b id ⟨d, .call f xs, none⟩ K s = callP P b true f (xs.map (ev s)) d K s := nr rfl
def rngV (id : Nat) : PV → Option (PV × PObj)
 | .sc (.string b) => some (.oit id, .iter b 0)
 | _ => none
theorem o_rng {x : Operand} : opG P b id ⟨d, .rng x, none⟩ K s = newP (rngV id (ev s x)) id d K s := by
 unfold opG opP newP rngV
 simp only [MOp.isCall, Bool.false_eq_true, if_false, stepM]
 generalize ev s x = p
 cases p with
 | sc v => cases v <;> rfl
 | _ => rfl
theorem o_nxt {x : Operand} : opG P b id ⟨d, .nxt x, none⟩ K s = appK (nextP s (ev s x)) d K s := by
 unfold opG opP appK
 simp only [MOp.isCall, Bool.false_eq_true, if_false, stepM]
 cases nextP s (ev s x) <;> rfl
theorem next_is {k : Nat} : nextP s (.oit k) = nextO k (s.H k) := nr rfl
theorem next_iter {k : Nat} {sb : ByteArray} {p : Nat} : nextO k (some (.iter sb p)) = if p < sb.size then some (.tup [.sc (.bool true), .sc (.int .i64 (p : Int)), .sc (.int .i32 ((Utf8.decode sb p).1 : Int))], [(k, some (.iter sb (p + (Utf8.decode sb p).2)))]) else some (.tup [.sc (.bool false)], []) := nr rfl
theorem raw_no {m : MO} (h : ∀ op, m.op ≠ .raw op) : rawP P id m K s = False := by
 apply propext
 exact ⟨fun ⟨op, e, _⟩ => h op e, False.elim⟩
theorem o_callm {f : FuncId} {xs : List Operand} : opG P b id ⟨d, .callm f xs, none⟩ K s = callP P false true f (xs.map (ev s)) d K s := nr rfl
theorem o_callmE {f : FuncId} {xs : List Operand} : opG P b id ⟨d, .callmE f xs none, none⟩ K s = callE P f (xs.map (ev s)) none d K s := nr rfl
theorem o_callmF {f : FuncId} {xs : List Operand} {k : Nat} : opG P b id ⟨d, .callmE f xs (some k), none⟩ K s = callE P f (xs.map (ev s)) (some (s.s k)) d K s := nr rfl
theorem call_mutE {f : FuncId} {args : List PV} {Q : (Nat → Option PObj) → Nat → PV → Prop} (h : PMut P f args s.H s.nx Q) (h2 : ∃ H' nx' r, Q H' nx' r ∧ s.nx ≤ nx')
  (hk : ∀ H' nx' r, Q H' nx' r → s.nx ≤ nx' → K (put { s with H := H', nx := nx' } d r)) : callE P f args none d K s := ⟨Q, h, h2, (fun p hp => by cases hp), hk⟩
theorem o_callmA {f : FuncId} {xs : List Operand} {k : Nat} : opG P b id ⟨d, .callmA f xs k, none⟩ K s = callA P id k f (xs.map (ev s)) d K s := nr rfl
theorem o_calvm {x : Operand} {xs : List Operand} : opG P b id ⟨d, .calvm x xs, none⟩ K s = calvP P false (ev s x) (xs.map (ev s)) d K s := by
 unfold opG opP calvP
 simp only [MOp.isCall, if_true, calleeP]
 cases ev s x <;> first | rfl | exact raw_no fun op h => by cases h
theorem o_calv {x : Operand} {xs : List Operand} : opG P b id ⟨d, .calv x xs, none⟩ K s = calvP P b (ev s x) (xs.map (ev s)) d K s := by
 unfold opG opP calvP
 simp only [MOp.isCall, if_true, calleeP]
 cases ev s x <;> first | rfl | exact raw_no fun op h => by cases h
theorem val_some {x : PV} : valP (some x) d K s = K (put s d x) := nr rfl
theorem new_some {x : PV} {ob : PObj} : newP (some (x, ob)) id d K s = K (put { s with H := upd s.H id (some ob) } d x) := nr rfl
theorem st_some {j : Nat} {ob : PObj} : storeK (some (j, ob)) d K s = K (put { s with H := upd s.H j (some ob) } d (.sc undef)) := nr rfl
theorem stf_some {j k t : Nat} {ob : PObj} : storeF (some (j, ob)) t (.optr k 0) d K s = K (put { s with s := upd s.s t (.ptr ob.cells), H := upd s.H j none } d (.sc undef)) := nr rfl
theorem guard_tt {A K : St → Prop} : guardK (.sc (.bool true)) true A K d s = A s := nr rfl
theorem guard_ff {A K : St → Prop} : guardK (.sc (.bool false)) false A K d s = A s := nr rfl
theorem guard_tf {A K : St → Prop} : guardK (.sc (.bool true)) false A K d s = K (put s d (.sc undef)) := nr rfl
theorem guard_ft {A K : St → Prop} : guardK (.sc (.bool false)) true A K d s = K (put s d (.sc undef)) := nr rfl
theorem guard_un {A K : St → Prop} {w : Bool} : guardK (.sc undef) w A K d s = K (put s d (.sc undef)) := nr rfl
theorem cond_true {A B : St → Prop} : condP (.sc (.bool true)) A B s = A s := nr rfl
theorem cond_false {A B : St → Prop} : condP (.sc (.bool false)) A B s = B s := nr rfl
theorem calv_fn {f : FuncId} {caps xs : List PV} : calvP P b (.fn f caps) xs d K s = callP P b false f (xs ++ caps) d K s := nr rfl
theorem call_pure {lend : Bool} {f : FuncId} {args : List PV} {r : PV} (h : PPure P f args r) (hk : K (put s d r)) : callP P b lend f args d K s := .inl ⟨r, .inl h, hk⟩
theorem call_mut {lend : Bool} {f : FuncId} {args : List PV} {Q : (Nat → Option PObj) → Nat → PV → Prop} (h : PMut P f args s.H s.nx Q) (hk : ∀ H' nx' r, Q H' nx' r → s.nx ≤ nx' → K (put { s with H := H', nx := nx' } d r)) : callP P false lend f args d K s := .inr ⟨rfl, Q, h, hk⟩
variable {Q : Exit → St → Prop}
theorem c_skip : pw P .skip Q s = Q .normal s := nr rfl
theorem c_ret : pw P .ret Q s = Q .ret s := nr rfl
theorem c_exit {j : Nat} : pw P (.exit j) Q s = Q (.exit j) s := nr rfl
theorem c_seq {x y : MCode} : pw P (.seq x y) Q s = pw P x (thenP (pw P y Q) Q) s := nr rfl
theorem c_blockZ {j t : Nat} {x : MCode} : pw P (.blockZ j t x) Q s = pw P x (blockZP j t Q) s := nr rfl
theorem c_block {j : Nat} {x : MCode} : pw P (.block j x) Q s = pw P x (blockP j Q) s := nr rfl
theorem c_region {ms : List MO} {dr : Bool} : pw P (.region ms dr) Q s = runOps P dr s.nx (num 0 ms) (contN Q) { s with nx := s.nx + ms.length } := nr rfl
theorem c_cond {c : Operand} {x y : MCode} : pw P (.cond c x y) Q s = condP (ev s c) (pw P x Q) (pw P y Q) s := by
 simp only [pw, condP]
 all_goals (
 generalize ev s c = p
 cases p with
 | sc v => cases v <;> rfl
 | _ => rfl)
theorem c_cont : contN Q s = Q .normal s := nr rfl
theorem t_normal {next : St → Prop} : thenP next Q .normal s = next s := nr rfl
theorem t_ret {next : St → Prop} : thenP next Q .ret s = Q .ret s := nr rfl
theorem t_exit {next : St → Prop} {j : Nat} : thenP next Q (.exit j) s = Q (.exit j) s := nr rfl
theorem b_normal {j : Nat} : blockP j Q .normal s = Q .normal s := nr rfl
theorem b_ret {j : Nat} : blockP j Q .ret s = Q .ret s := nr rfl
theorem b_exit {j k : Nat} : blockP j Q (.exit k) s = if k = j then Q .normal s else Q (.exit k) s := nr rfl
theorem c_loop {c : MCode} (I : Nat → St → Prop) (k0 : Nat) (h0 : I k0 s) (h : ∀ k s, I k s → pw P c (thenP (fun s' => ∃ k', k' < k ∧ I k' s') Q) s) : pw P (.loop c) Q s := ⟨I, ⟨k0, h0⟩, h⟩
def finP (rs : List RV) (r : PV) (e : Exit) (s : St) : Prop := (e = .normal ∨ e = .ret) ∧ ∃ r0, resP s rs = some r0 ∧ ∃ k, Weak (frzF k s.H r0) r
theorem fin_tmp {t : Nat} {r : PV} {e : Exit} (he : e = .normal ∨ e = .ret) (h : s.s t = r) : finP [.tmp t] r e s := ⟨he, _, rfl, 0, .of_eq h⟩
theorem fin_ret {rs : List RV} {r r0 : PV} (k : Nat) (h : resP s rs = some r0) (h2 : Weak (frz k s.H r0) r) : finP rs r .ret s := ⟨.inr rfl, r0, h, k, (frzF_weak _ _ _).trans h2⟩
theorem fin_retF {rs : List RV} {r r0 : PV} (k : Nat) (h : resP s rs = some r0) (h2 : Weak (frzF k s.H r0) r) : finP rs r .ret s := ⟨.inr rfl, r0, h, k, h2⟩
end
mutual
def PV.bnd : PV → Prop
 | .sc _ => True
 | .ptr cs => bndL cs
 | .sl _ es => es.length ≤ 9223372036854775807 ∧ bndLL es
 | .fn _ cs => bndL cs
 | .agg cs => bndL cs
 | .tup cs => bndL cs
 | .optr .. => True
 | .osl .. => True
 | .oit .. => True
 | .omp .. => True
 | .itm .. => True
 | .mkv _ => True
 | .csl _ es => es.length ≤ 9223372036854775807 ∧ bndLL es
 | .ocap .. => True
 | .fptr cs => bndL cs
 | .fsl _ es => es.length ≤ 9223372036854775807 ∧ bndLL es
def bndL : List PV → Prop
 | [] => True
 | x :: r => x.bnd ∧ bndL r
def bndLL : List (List PV) → Prop
 | [] => True
 | x :: r => bndL x ∧ bndLL r
end
theorem bndL_get : ∀ {xs : List PV}, (∀ (i : Nat) (x : PV), xs[i]? = some x → x.bnd) → bndL xs
 | [], _ => trivial
 | x :: r, h => ⟨h 0 x rfl, bndL_get fun i y hy => h (i + 1) y (by simpa using hy)⟩
theorem bndL_append : ∀ {a b : List PV}, bndL (a ++ b) ↔ bndL a ∧ bndL b
 | [], b => by simp [bndL]
 | x :: r, b => by simp [bndL, bndL_append, and_assoc]
theorem bndLL_flatten : ∀ {es : List (List PV)}, bndLL es ↔ bndL es.flatten
 | [] => by simp [bndLL, bndL]
 | x :: r => by simp [bndLL, List.flatten_cons, bndL_append, bndLL_flatten]
theorem Rep.bnd {V : Vw} {x : PV} {v : Value} (h : Rep V x v) : x.bnd := by
 have key : ∀ (xs : List PV) (vs : List Value), vs.length = xs.length → (∀ (i : Nat) (x : PV) (v : Value), xs[i]? = some x → vs[i]? = some v → x.bnd) → bndL xs := by
  intro xs vs hl hx
  refine bndL_get fun i x hi => ?_
  have h1 := (List.getElem?_eq_some_iff.1 hi).1
  exact hx i x vs[i] hi (List.getElem?_eq_getElem (by omega))
 induction h with
 | sc v => trivial
 | ptr cells b off vs hok hl hc hr ih => exact key cells vs hl ih
 | slNil sz A cap h => exact ⟨by simp, trivial⟩
 | sl sz elems b off len cap hlen hs h1 h2 hp ih =>
  unfold maxLen at h2
  exact ⟨by omega, bndLL_flatten.2 ih⟩
 | fn f caps vs hl hr ih => exact key caps vs hl ih
 | agg cells vs hl hr ih => exact key cells vs hl ih
 | tup cells vs hl hr ih => exact key cells vs hl ih
 | csl sz elems A len h ih => exact ih
 | ocap id off len sz b A c T fr h hA h2 hh hc => trivial
 | fptr cells v hcl h ih => exact ih
 | fsl sz elems v hcl h ih => exact ih
 | optr id off b c T fr h hh => trivial
 | oit id b h => trivial
 | omp id b h => trivial
 | osl id off len sz cap b c T fr h h1 h2 hh hc => trivial
theorem pure_bnd {P : Program} {f : FuncId} {args : List PV} {r : PV} (he : enters P f = true) (h : bndL args → PPure P f args r) : PPure P f args r := by
 refine ⟨he, fun V nx vals hok hfree hv => ?_⟩
 have hb : bndL args := bndL_get fun i x hi => by
  obtain ⟨v, _, hr⟩ := hv.get hi
  exact hr.bnd
 exact (h hb).2 V nx vals hok hfree hv
theorem pure_by {P : Program} {pol : Pol} {f : FuncId} {n : Nat} {mc : MCode} {rs : List RV} {args : List PV} {r : PV} (hf : FnIs P pol f n mc rs) (hn : args.length ≤ n) (hi : r.imm = true)
  (h : bndL args → ∀ nx, pw P mc (finP rs r) ⟨sig args, noneOwn, nx⟩) : PPure P f args r := pure_bnd hf.enters fun hb => pure_fn hf hn hi (h hb)
def sigF : Nat → List PV → Nat → PV
 | _, [], _ => .sc undef
 | k, x :: r, j => if j = k then x else sigF (k + 1) r j
theorem sigF_nil {k j : Nat} : sigF k [] j = .sc undef := nr rfl
theorem sigF_cons {k j : Nat} {x : PV} {r : List PV} : sigF k (x :: r) j = if j = k then x else sigF (k + 1) r j := nr rfl
theorem sigF_eq : ∀ (args : List PV) (k j : Nat), k ≤ j → sigF k args j = args.getD (j - k) (.sc undef)
 | [], k, j, _ => by simp [sigF]
 | x :: r, k, j, h => by
  unfold sigF
  by_cases e : j = k
  ·subst e; simp
  ·rw [if_neg e, sigF_eq r (k + 1) j (by omega)]
   have : j - k = j - (k + 1) + 1 := by omega
   rw [this, List.getD_cons_succ]
theorem sig_eq {args : List PV} : sig args = sigF 0 args := by
 funext j
 rw [sigF_eq args 0 j (Nat.zero_le _)]
 rfl
theorem wrap64 {n : Int} (h : -9223372036854775808 ≤ n ∧ n ≤ 9223372036854775807) : IntKind.i64.wrap n = n := by
 rw [IntKind.wrap_i64]; omega
end
section
theorem opP_mono {P : Program} {pure : Bool} {id : Nat} {o : MO} {K K' : St → Prop} {s : St} (hk : ∀ s, K s → K' s) (h : opP P pure id o K s) : opP P pure id o K' s := by
 unfold opP at h ⊢
 split at h
 ·rename_i hc
  rw [if_pos hc]
  split at h
  ·obtain ⟨⟨Q, h1, h2⟩, h3⟩ := h
   refine ⟨⟨Q, h1, fun H' nx' r hq hn => hk _ (h2 H' nx' r hq hn)⟩, fun zs hz => ?_⟩
   obtain ⟨Q2, h4, h5⟩ := h3 zs hz
   refine ⟨Q2, h4, fun H2 nx2 r hq hn => ?_⟩
   obtain ⟨H', h6, h7, h8⟩ := h5 H2 nx2 r hq hn
   exact ⟨H', h6, h7, hk _ h8⟩
  ·obtain ⟨Q, h1, h2, h4, h3⟩ := h
   exact ⟨Q, h1, h2, h4, fun H' nx' r hq hn => hk _ (h3 H' nx' r hq hn)⟩
  ·obtain ⟨r, ob, h1, h2⟩ := h
   exact ⟨r, ob, h1, hk _ h2⟩
  split at h
  ·rcases h with ⟨r, h1, h2⟩ | ⟨h0, Q, h1, h2⟩
   ·exact .inl ⟨r, h1, hk _ h2⟩
   ·exact .inr ⟨h0, Q, h1, fun H' nx' r hq hn => hk _ (h2 H' nx' r hq hn)⟩
  ·obtain ⟨op, hop, h⟩ := h
   exact ⟨op, hop, fun df w0 ok0 n rho a w next Q q N h1 h2 h3 h4 h5 hn => h df w0 ok0 n rho a w next Q q N h1 h2 h3 h4 h5 fun H' nx' r rho' a' w' hK => hn H' nx' r rho' a' w' (hk _ hK)⟩
 ·rename_i hc
  rw [if_neg hc]
  split at h
  ·exact hk _ h
  ·exact h.elim
theorem opG_mono {P : Program} {pure : Bool} {id : Nat} {o : MO} {K K' : St → Prop} {s : St} (hk : ∀ s, K s → K' s) (h : opG P pure id o K s) : opG P pure id o K' s := by
 unfold opG at h ⊢
 split at h
 ·exact opP_mono hk h
 ·split at h
  ·split at h
   ·rename_i hb; rw [if_pos hb]; exact opP_mono hk h
   ·rename_i hb; rw [if_neg hb]; exact hk _ h
  ·exact hk _ h
  ·exact h.elim
theorem runOps_mono {P : Program} {pure : Bool} {base : Nat} {K K' : St → Prop} (hk : ∀ s, K s → K' s) : ∀ (l : List (Nat × MO)) (s : St), runOps P pure base l K s → runOps P pure base l K' s
 | [], s, h => hk s h
 | (i, o) :: l, s, h => opG_mono (fun s h => runOps_mono hk l s h) h
theorem pw_mono {P : Program} : ∀ (c : MCode) {Q Q' : Exit → St → Prop} {s : St}, (∀ e s, Q e s → Q' e s) → pw P c Q s → pw P c Q' s := by
 intro c
 induction c with
 | skip => intro Q Q' s hq h; exact hq _ _ h
 | ret => intro Q Q' s hq h; exact hq _ _ h
 | exit id => intro Q Q' s hq h; exact hq _ _ h
 | region ms d => intro Q Q' s hq h; exact runOps_mono (fun s h => hq _ _ h) _ _ h
 | seq a b iha ihb =>
  intro Q Q' s hq h
  refine iha (fun e s h => ?_) h
  cases e with
  | normal => exact ihb hq h
  | _ => exact hq _ _ h
 | cond c a b iha ihb =>
  intro Q Q' s hq h
  rw [c_cond] at h ⊢
  unfold condP at h ⊢
  split at h
  ·rename_i t _
   cases t with
   | true => exact iha hq h
   | false => exact ihb hq h
  ·exact h.elim
 | block id c ih =>
  intro Q Q' s hq h
  refine ih (fun e s h => ?_) h
  cases e with
  | exit j =>
   simp only [blockP] at h ⊢
   split at h
   ·rename_i hj; rw [if_pos hj]; exact hq _ _ h
   ·rename_i hj; rw [if_neg hj]; exact hq _ _ h
  | _ => exact hq _ _ h
 | blockZ id t c ih =>
  intro Q Q' s hq h
  refine ih (fun e s h => ?_) h
  cases e with
  | exit j =>
   simp only [blockZP] at h ⊢
   split at h
   ·rename_i hj; rw [if_pos hj]; exact h.imp fun _ h2 => ⟨h2.1, hq _ _ h2.2⟩
   ·rename_i hj; rw [if_neg hj]; exact hq _ _ h
  | _ => exact hq _ _ h
 | loop c ih =>
  intro Q Q' s hq h
  obtain ⟨I, h0, hI⟩ := h
  refine ⟨I, h0, fun k s hk => ih (fun e s h => ?_) (hI k s hk)⟩
  cases e with
  | normal => exact h
  | _ => exact hq _ _ h
 | rng p d g c ih =>
  intro Q Q' s hq h
  obtain ⟨f, caps, xs, h1, h2, J, h3, h4, h5⟩ := h
  refine ⟨f, caps, xs, h1, h2, J, h3, fun pre x H nx k1 k2 k3 k4 => ih (fun e s2 h => ?_) (h4 pre x H nx k1 k2 k3 k4), fun H nx k1 k2 => hq _ _ (h5 H nx k1 k2)⟩
  cases e with
  | normal => exact h
  | ret => exact fun hp => hq _ _ (h hp)
  | exit i => exact fun hp => hq _ _ (h hp)
  | _ => exact h
def roundsP (P : Program) (c : MCode) (Q : Exit → St → Prop) : Nat → St → Prop
 | 0, _ => False
 | n + 1, s => pw P c (thenP (roundsP P c Q n) Q) s
theorem rounds_next {P : Program} {c : MCode} {Q : Exit → St → Prop} {n : Nat} {s : St} : roundsP P c Q (n + 1) s = pw P c (thenP (roundsP P c Q n) Q) s := nr rfl
theorem c_rounds {P : Program} {c : MCode} {Q : Exit → St → Prop} {s : St} (n : Nat) (h : roundsP P c Q n s) : pw P (.loop c) Q s := by
 refine ⟨fun k s => roundsP P c Q k s, ⟨n, h⟩, fun k s hk => ?_⟩
 cases k with
 | zero => exact hk.elim
 | succ k =>
  refine pw_mono c (fun e s h => ?_) hk
  cases e with
  | normal => exact ⟨k, by omega, h⟩
  | _ => exact h
theorem id_ne {n k : Nat} (h : 0 < k) : (n = n + k) = False := by simp; omega
theorem id_ne' {n k : Nat} (h : 0 < k) : (n + k = n) = False := by simp; omega
theorem id_ne2 {n a b : Nat} (h : a ≠ b) : (n + a = n + b) = False := by simp; omega
end
section
theorem noIt_some {H : Nat → Option PObj} {id : Nat} {o : PObj} (h : noIt H id = some o) : H id = some o ∧ o.isIt = false := by
 unfold noIt at h
 cases hh : H id with
 | none => simp [hh] at h
 | some o' =>
  rw [hh] at h
  simp only at h
  split at h
  ·cases h
  ·rename_i hn
   cases h
   exact ⟨rfl, by simpa using hn⟩
theorem noIt_keep {H : Nat → Option PObj} {id : Nat} {o : PObj} (h : H id = some o) (ho : o.isIt = false) : noIt H id = some o := by
 unfold noIt
 rw [h]
 simp [ho]
theorem noIt_none {H : Nat → Option PObj} {id : Nat} (h : noIt H id ≠ none) : H id ≠ none := by
 obtain ⟨o, ho⟩ := Option.ne_none_iff_exists'.1 h
 rw [(noIt_some ho).1]
 simp
theorem noIt_leq {w0 : World} {ok0 : Nat → Prop} {H : Nat → Option PObj} {rho : Nat → Option Nat} {w : World} : (viewOf w0 ok0 H rho w).Leq (viewOf w0 ok0 (noIt H) rho w) :=
 ⟨fun b hb => ⟨hb.1, fun id o ho => hb.2 id o (noIt_some ho).1⟩, fun _ _ => rfl, fun _ _ h => h, fun _ _ c T fr _ hh => ⟨c, T, fr, hh, Nat.le_refl _⟩, Nat.le_refl _⟩
theorem RelH.noIt {w0 : World} {ok0 : Nat → Prop} {H : Nat → Option PObj} {rho : Nat → Option Nat} {w : World} (h : RelH w0 ok0 H rho w) : RelH w0 ok0 (noIt H) rho w :=
 ⟨h.okb, h.bel, fun id o ho => let ⟨b, h1, h2, h3⟩ := h.own id o (noIt_some ho).1; ⟨b, h1, h2, h3.mono noIt_leq rfl⟩, fun id id' b h1 h2 => h.inj id id' b (noIt_none h1) (noIt_none h2)⟩
theorem ObjAt.cellsNo {V : Vw} {b : Nat} {o : PObj} (h : ObjAt V b o) (ho : o.isIt = false) : CellsAt V b o := by
 rcases h with h | ⟨s, pos, rfl, _⟩ | ⟨kv, es, clk, rfl, _, _⟩
 ·exact h
 ·simp [PObj.isIt, PObj.iter] at ho
 ·simp [PObj.isIt, PObj.mp] at ho
theorem turn_rel {w0 : World} {ok0 : Nat → Prop} {H : Nat → Option PObj} {rho : Nat → Option Nat} {W W' : World} {row : Option Nat} (hH : RelH w0 ok0 H rho W) (hg : W.grownBy W' row)
  (hrow : ∀ r, row = some r → w0.heap.size ≤ r ∧ ∃ o : Obj, W.heap[r]? = some o ∧ o.isCells = false) (hown : ∀ id o b, H id = some o → rho id = some b → some b ≠ row) :
  RelH w0 ok0 H rho W' ∧ (viewOf w0 ok0 H rho W).LeqC (viewOf w0 ok0 H rho W') := by
 have hblk : ∀ (b : Nat) (o : Obj), W.heap[b]? = some o → some b ≠ row → W'.heap[b]? = some o := fun b o hb hne => (hg.block b (Array.getElem?_eq_some_iff.1 hb).1 hne).trans hb
 have hcell : ∀ (b : Nat) c T fr, W.heap[b]? = some (.cells c T fr) → some b ≠ row := fun b c T fr hb e => by
  obtain ⟨_, o, h1, h2⟩ := hrow b e.symm
  rw [hb] at h1
  cases h1
  simp [Obj.isCells] at h2
 have hleq : (viewOf w0 ok0 H rho W).LeqC (viewOf w0 ok0 H rho W') := by
  refine ⟨fun b hb => ⟨hb.1.imp id fun h => ⟨h.1, Nat.lt_of_lt_of_le h.2 hg.size⟩, hb.2⟩, fun b _ c T fr hh => hblk b _ hh (hcell b c T fr hh), fun _ _ h => h, fun id b c T fr _ hh => ⟨c, T, fr, hblk b _ hh (hcell b c T fr hh), Nat.le_refl _⟩⟩
 refine ⟨⟨hH.okb, hH.bel.grown hg hH.bel.size fun k hk => (hrow k hk).1, fun id o ho => ?_, hH.inj⟩, hleq⟩
 obtain ⟨b, h1, h2, h3⟩ := hH.own id o ho
 refine ⟨b, h1, h2, h3.monoC hleq ?_⟩
 exact hg.block b h3.lt (hown id o b ho h1)
def MarkOk (V : Vw) (df : List Deferred) (V' : Vw) : Prop :=
 df = [] ∨ ∃ D, df = [{ target := .collected D, args := #[] }] ∧ V.w.heap.size ≤ D ∧ V'.ok D ∧ V'.w.heap[D]? = some (.deferred (some []))
theorem MarkOk.mono {V V' V'' : Vw} {df : List Deferred} (h : MarkOk V df V') (hl : V'.Leq V'') : MarkOk V df V'' := by
 rcases h with h | ⟨D, h1, h2, h3, h4⟩
 ·exact .inl h
 ·exact .inr ⟨D, h1, h2, hl.ok D h3, (hl.blk D h3).trans h4⟩
def PostM (w0 : World) (ok0 : Nat → Prop) (n : Nat) (V : Vw) (nx0 : Nat) (Q : Exit → St → Prop) : Exit → Act → World → Prop :=
 fun e a w => ∃ s rho df, Q e s ∧ RelF df w0 ok0 n s rho a w ∧ MarkOk V df (viewOf w0 ok0 s.H rho w) ∧ V.Leq (viewOf w0 ok0 s.H rho w) ∧ (∀ id, id < nx0 → rho id = V.rho id) ∧ nx0 ≤ s.nx
theorem in_assign {P : Program} {l N p d : Nat} {ops : Array Oper} {o : Oper} {a : Act} {w : World} {id : Nat} {K : Act → World → Prop} {Q : Exit → Act → World → Prop} (ho : ops = #[o]) (h1 : o.op = .assign (.tmp p)) (h2 : o.dst = some d) (h3 : o.guard = none) (hK : K { a with tmps := a.tmps.setIfInBounds d (a.tmps.getD p undef) } w) :
  (Code.region id ops false).wpIn (Fence.wide.inRound l) N P (Exit.then K Q) a w := by
 subst ho
 refine wpIn_region ?_
 show wpOpsIn (fnc (some l)) N P #[o] _ [0] a w
 rw [wpOpsIn_cons]
 unfold wpOpIn
 have hw : Region.wanted o (yielded #[o] a.tmps) = true := by simp [Region.wanted, h3]
 show (if Region.wanted o (yielded #[o] a.tmps) = true then _ else _)
 rw [if_pos hw]
 change o.wpIn (fnc (some l)) N P a w _ _
 refine in_value (fun c e => by rw [h1] at e; cases e) (v := a.tmps.getD p undef) (w' := w) ?_ ?_
 ·unfold execOp
  rw [h1]
  rfl
 ·rw [h2]
  exact hK
theorem Rep.fn_inv {V : Vw} {f : FuncId} {caps : List PV} {v : Value} (h : Rep V (.fn f caps) v) : ∃ vs : List Value, v = .func (.func f) #[] vs.toArray ∧ RepL V caps vs := by
 cases h with
 | fn _ _ vs hl hr => exact ⟨vs, rfl, hl, hr⟩
set_option maxHeartbeats 2000000 in
theorem rng_sound {P : Program} {pol : Pol} {w0 : World} {ok0 : Nat → Prop} {n nx0 p d id : Nat} {V : Vw} {g : Operand} {ops : Array Oper} {o : Oper} {body : Code} {mb : MCode} {Q : Exit → St → Prop} {s : St} {rho : Nat → Option Nat} {a : Act} {w : World} (hm : P.follows .mixedOrders = true) (hb : codeP P pol n body = some mb)
  (ho : ops = #[o]) (ho1 : o.op = .assign (.tmp p)) (ho2 : o.dst = some d) (ho3 : o.guard = none) (hp : p < n) (hd : d < n) (h : pw P (.rng p d g mb) Q s) (hr : RelF [] w0 ok0 n s rho a w) (hV : V.Leq (viewOf w0 ok0 s.H rho w)) (hl : ∀ id, id < nx0 → rho id = V.rho id) (hn : nx0 ≤ s.nx) :
  (Code.rangeFunc g #[p] (.region id ops false) body).wpIn Fence.wide 2 P (PostM w0 ok0 n V nx0 Q) a w := by
 simp only [pw] at h
 obtain ⟨f, caps, xs, hgv, ⟨hen, hseq⟩, J, hJ0, hround, hdone⟩ := h
 have hge := ev_rep hr.rel.slot g
 rw [hgv] at hge
 obtain ⟨vs, hfe, hcap⟩ := hge.fn_inv
 have hH1 := hr.rel.heap.noIt
 have hl01 : (viewOf w0 ok0 s.H rho w).Leq (viewOf w0 ok0 (noIt s.H) rho w) := noIt_leq
 obtain ⟨V1, hV1⟩ : ∃ V1, V1 = viewOf w0 ok0 (noIt s.H) rho w := ⟨_, rfl⟩
 have hsz1 : V1.w = w := by rw [hV1]; rfl
 have hok1 : ∀ b, V1.ok b → b < w.heap.size := by
  rw [hV1]
  rintro b ⟨h1 | h1, _⟩
  ·have := hH1.okb b h1; have := hH1.bel.size; omega
  ·exact h1.2
 have hseq1 := hseq V1 vs (by rw [hsz1]; exact hok1) (by rw [hV1]; exact hcap.mono hl01)
 rw [hsz1] at hseq1
 have hsz := hr.rel.size
 have hd1 : a.defers = [] := hr.rel.defs
 have hslot1 : ∀ t, Rep V1 (s.s t) (a.tmps.getD t undef) := fun t => by rw [hV1]; exact (hr.rel.slot t).mono hl01
 have hV01 : V.Leq V1 := by rw [hV1]; exact hV.trans hl01
 -- what is known between the rounds
 let K : (Nat → Option PObj) → Nat → World → Prop := fun H nx W => ∃ rho', RelH w0 ok0 H rho' W ∧ V1.Leq (viewOf w0 ok0 H rho' W) ∧ (∀ id, nx ≤ id → rho' id = none) ∧ (∀ id, id < s.nx → rho' id = rho id) ∧ s.nx ≤ nx ∧ (∀ id o, H id = some o → o.isIt = false)
 have hK : ∀ H nx W W' row, K H nx W → W.grownBy W' row → (∀ r, row = some r → w.heap.size ≤ r ∧ ∃ o : Obj, W.heap[r]? = some o ∧ o.isCells = false) → K H nx W' := by
  rintro H nx W W' row ⟨rho', h1, h2, h3, h4, h5, h6⟩ hg hrow
  have hsw : w0.heap.size ≤ w.heap.size := hH1.bel.size
  obtain ⟨h7, h8⟩ := turn_rel h1 hg (fun r e => ⟨by have := (hrow r e).1; omega, (hrow r e).2⟩) (fun id o b hid hbb e => by
   obtain ⟨_, o', h9, h10⟩ := hrow b e.symm
   obtain ⟨b', h11, h12, h13⟩ := h1.own id o hid
   rw [hbb] at h11
   cases h11
   obtain ⟨c, T, hh, _⟩ := h13.cellsNo (h6 id o hid)
   have hh' : W.heap[b]? = some (.cells c T (0, 0)) := hh
   rw [hh'] at h9
   cases h9
   simp [Obj.isCells] at h10)
  refine ⟨rho', h7, ⟨fun b hb => h8.ok b (h2.ok b hb), fun b hb => ?_, h2.rho, fun id b c T fr hi hh => ?_, Nat.le_trans h2.sz hg.size⟩, h3, h4, h5, h6⟩
  ·have h9 := h2.blk b hb
   have hlt := hok1 b hb
   have hlt2 : b < W.heap.size := Nat.lt_of_lt_of_le hlt (by have := h2.sz; rw [hsz1] at this; exact this)
   refine (hg.block b hlt2 fun e => ?_).trans h9
   have := (hrow b e.symm).1
   omega
  ·obtain ⟨c', T', fr', h9, h10⟩ := h2.shp id b c T fr hi hh
   obtain ⟨c2, T2, fr2, h11, h12⟩ := h8.shp id b c' T' fr' (h2.rho id b hi) h9
   exact ⟨c2, T2, fr2, h11, Nat.le_trans h10 h12⟩
 let I : List { y : PV × Value // y.1 ∈ xs ∧ Rep V1 y.1 y.2 } → World → Prop := fun pre W => ∃ H nx, J (pre.map (·.1.1)) H nx ∧ K H nx W
 let Ix : Code → List { y : PV × Value // y.1 ∈ xs ∧ Rep V1 y.1 y.2 } → World → Prop := fun c pre W => ∃ H nx, (match c with
  | .ret => pre.map (·.1.1) <+: xs → Q .ret ⟨s.s, H, nx⟩
  | .exit i => pre.map (·.1.1) <+: xs → Q (.exit i) ⟨s.s, H, nx⟩
  | _ => False) ∧ K H nx W
 have hend : ∀ (D : Nat) (W : World) (H : Nat → Option PObj) (nx : Nat) (e : Exit), w.heap.size ≤ D → W.heap[D]? = some (.deferred (some [])) → K H nx W → Q e ⟨s.s, H, nx⟩ → PostM w0 ok0 n V nx0 Q e { a with defers := { target := .collected D, args := #[] } :: a.defers } W := by
  rintro D W H nx e hD hDW ⟨rho', h1, h2, h3, h4, h5, h6⟩ hQ
  have hsw : w0.heap.size ≤ w.heap.size := hH1.bel.size
  refine ⟨⟨s.s, H, nx⟩, rho', _, hQ, ⟨⟨h1, hsz, rfl, fun t => (hslot1 t).mono h2⟩, h3⟩, .inr ⟨D, by rw [hd1], Nat.le_trans hV.sz hD, ?_, hDW⟩, hV01.trans h2, fun id hid => (h4 id (by omega)).trans (hl id hid), by show nx0 ≤ nx; omega⟩
  refine ⟨.inr ⟨by omega, (Array.getElem?_eq_some_iff.1 hDW).1⟩, fun id o ho e => ?_⟩
  obtain ⟨b, h7, h8, h9⟩ := h1.own id o ho
  rw [e] at h7
  cases h7
  obtain ⟨c, T, hh, _⟩ := h9.cellsNo (h6 id o ho)
  have hh' : W.heap[D]? = some (.cells c T (0, 0)) := hh
  rw [hh'] at hDW
  cases hDW
 refine wpIn_rangeFunc_ownF (F := Fence.wide) (n := 2) rfl (by decide) hfe trivial (fun args w => run_enter hen w) hseq1 (fun h k b hb => (k b hb).trans (h b hb)) (fun W l o o' hlw hlo _ _ b hb => World.putObj_heap_other (by have := hok1 b hb; omega)) (Below.refl _ _) (fun _ => rfl)
  I Ix (fun pre W W' row ⟨H, nx, h1, h2⟩ hg hrow => ⟨H, nx, h1, hK H nx W W' row h2 hg hrow⟩) (fun c pre W W' row ⟨H, nx, h1, h2⟩ hg hrow => ⟨H, nx, h1, hK H nx W W' row h2 hg hrow⟩)
  ⟨noIt s.H, s.nx, hJ0, rho, hH1, by rw [hV1]; exact Vw.Leq.refl _, hr.free, fun _ _ => rfl, Nat.le_refl _, fun id o ho => (noIt_some ho).2⟩
  (fun x => { tmps := (a.tmps.setIfInBounds p x.1.2).setIfInBounds d x.1.2, defers := [] }) ?assign ?body ?done ?stop
 case assign =>
  intro l x W K hK
  refine in_assign ho ho1 ho2 ho3 ?_
  have e : (a.tmps.setIfInBounds p x.1.2).getD p undef = x.1.2 := by
   rw [Array.getD_eq_getD_getElem?, Array.getElem?_setIfInBounds_self_of_lt (by omega)]
   rfl
  simpa [e] using hK
 case body =>
  rintro l pre x W ⟨H, nx, hj, rho', h1, h2, h3, h4, h5, h6⟩ hlen
  have hrx : RelF [] w0 ok0 n ⟨upd (upd s.s p x.1.1) d x.1.1, H, nx⟩ rho' { tmps := (a.tmps.setIfInBounds p x.1.2).setIfInBounds d x.1.2, defers := [] } W := by
   refine ⟨⟨h1, by simp [hsz], rfl, fun t => ?_⟩, h3⟩
   show Rep _ (upd (upd s.s p x.1.1) d x.1.1 t) _
   have eu : upd (upd s.s p x.1.1) d x.1.1 t = if t = d ∨ t = p then x.1.1 else s.s t := by
    unfold upd
    by_cases h1 : t = d <;> by_cases h2 : t = p <;> simp [h1, h2]
   rw [eu]
   by_cases ht : t = d ∨ t = p
   ·rw [if_pos ht]
    have e : ((a.tmps.setIfInBounds p x.1.2).setIfInBounds d x.1.2).getD t undef = x.1.2 := by
     rw [Array.getD_eq_getD_getElem?]
     by_cases htd : t = d
     ·subst htd
      rw [Array.getElem?_setIfInBounds_self_of_lt (by simp; omega)]
      rfl
     ·rw [Array.getElem?_setIfInBounds_ne (fun e => htd e.symm)]
      obtain rfl : t = p := ht.resolve_left htd
      rw [Array.getElem?_setIfInBounds_self_of_lt (by omega)]
      rfl
    rw [e]
    exact x.2.2.mono h2
   ·rw [if_neg ht]
    have e : ((a.tmps.setIfInBounds p x.1.2).setIfInBounds d x.1.2).getD t undef = a.tmps.getD t undef := by
     rw [Array.getD_eq_getD_getElem?, Array.getElem?_setIfInBounds_ne (fun e => ht (.inl e.symm)), Array.getElem?_setIfInBounds_ne (fun e => ht (.inr e.symm)), ← Array.getD_eq_getD_getElem?]
    rw [e]
    exact (hslot1 t).mono h2
  have hbody := pw_sound (rd := some l) (N := 0) (V := viewOf w0 ok0 H rho' W) (nx0 := nx) hm body mb hb _ _ rho' _ W (hround (pre.map (·.1.1)) x.1.1 H nx x.2.1 (by simpa using hlen) hj h5) hrx (Vw.Leq.refl _) (fun _ _ => rfl) (Nat.le_refl _)
  refine wpIn_mono hbody ?_
  rintro e a' W' ⟨s2, rho2, hq, hr2, hV2, hlow2, hnx2⟩
  have hnx3 : nx ≤ s2.nx := hnx2
  have hko : KeepsOthers W W' := by
   refine ⟨hV2.sz, fun k o hk hoc => ?_⟩
   by_cases hk0 : k < w0.heap.size
   ·rw [hr2.rel.heap.bel.block k hk0, ← h1.bel.block k hk0]
    exact hk
   ·refine (hV2.blk k ⟨.inr ⟨by omega, (Array.getElem?_eq_some_iff.1 hk).1⟩, fun id o' ho' e => ?_⟩).trans hk
    obtain ⟨b, h7, h8, h9⟩ := h1.own id o' ho'
    rw [e] at h7
    cases h7
    obtain ⟨c, T, hh, _⟩ := h9.cellsNo (h6 id o' ho')
    have hh' : W.heap[k]? = some (.cells c T (0, 0)) := hh
    rw [hh'] at hk
    cases hk
    simp [Obj.isCells] at hoc
  have hkp : ∀ b, V1.ok b → W'.heap[b]? = W.heap[b]? := fun b hb => hV2.blk b (h2.ok b hb)
  have hKend : K (noIt s2.H) s2.nx W' := ⟨rho2, hr2.rel.heap.noIt, h2.trans (hV2.trans noIt_leq), hr2.free, fun id hid => (hlow2 id (by omega)).trans (h4 id hid), by omega, fun id o ho => (noIt_some ho).2⟩
  cases e with
  | normal => exact ⟨hko, hkp, noIt s2.H, s2.nx, by simpa [rngQ] using hq, hKend⟩
  | ret => exact ⟨hko, noIt s2.H, s2.nx, by simpa [rngQ] using hq, hKend⟩
  | exit i => exact ⟨hko, noIt s2.H, s2.nx, by simpa [rngQ] using hq, hKend⟩
  | goto t => exact hq.elim
  | panic ch => exact hq.elim
  | outgrown => exact hq.elim
 case done =>
  rintro D ys W hD hS ⟨H, nx, hj, hk⟩ hDW
  rw [hS] at hj
  have hnx : s.nx ≤ nx := by obtain ⟨_, _, _, _, _, h, _⟩ := hk; exact h
  exact hend D W H nx .normal hD hDW hk (hdone H nx hj hnx)
 case stop =>
  rintro D c pre W hD hSp ⟨H, nx, hj, hk⟩ hDW
  cases c with
  | ret => exact wpIn_ret (hend D W H nx .ret hD hDW hk (hj hSp))
  | exit i => exact wpIn_exit (hend D W H nx (.exit i) hD hDW hk (hj hSp))
  | _ => exact hj.elim
def roundD (p n : Nat) : Code → Option Nat
 | .region _ ops false => match ops.toList with
  | [o] => match o.op, o.dst, o.guard with
   | .assign (.tmp p'), some d, none => if p' = p ∧ p < n ∧ d < n then some d else none
   | _, _, _ => none
  | _ => none
 | _ => none
theorem roundD_inv {p n d : Nat} {c : Code} (h : roundD p n c = some d) : ∃ id ops o, c = .region id ops false ∧ ops = #[o] ∧ o.op = .assign (.tmp p) ∧ o.dst = some d ∧ o.guard = none ∧ p < n ∧ d < n := by
 unfold roundD at h
 split at h
 ·rename_i id ops
  split at h
  ·rename_i o ho
   split at h
   ·rename_i p' d' h1 h2 h3
    split at h
    ·rename_i hc
     cases h
     exact ⟨id, ops, o, rfl, Array.toList_inj.1 ho, by rw [h1, hc.1], h2, h3, hc.2.1, hc.2.2⟩
    ·cases h
   ·cases h
  ·cases h
 ·cases h
def codeR (P : Program) (pol : Pol) (n : Nat) : Code → Option MCode
 | .seq a b => match codeP P pol n a with
  | some x => (codeR P pol n b).map fun y => .seq x y
  | none => (codeR P pol n a).bind fun x => (codeP P pol n b).map fun y => .seq x y
 | .cond c a b => (codeR P pol n a).bind fun x => (codeR P pol n b).map fun y => .cond c x y
 | .block id c => (codeR P pol n c).map (.block id)
 | .rangeFunc g ps asg body => match ps.toList with
  | [p] => (roundD p n asg).bind fun d => (codeP P pol n body).map fun y => .rng p d g y
  | _ => none
 | c => codeP P pol n c
theorem pw_post {P : Program} {pol : Pol} {w0 : World} {ok0 : Nat → Prop} {n nx0 : Nat} {V : Vw} {df : List Deferred} (hm : P.follows .mixedOrders = true) {c : Code} {mc : MCode} (hc : codeP P pol n c = some mc) {Q : Exit → St → Prop} {s : St} {rho : Nat → Option Nat} {a : Act} {w : World}
  (h : pw P mc Q s) (hr : RelF df w0 ok0 n s rho a w) (hk : MarkOk V df (viewOf w0 ok0 s.H rho w)) (hV : V.Leq (viewOf w0 ok0 s.H rho w)) (hl : ∀ id, id < nx0 → rho id = V.rho id) (hn : nx0 ≤ s.nx) : c.wpIn Fence.wide 2 P (PostM w0 ok0 n V nx0 Q) a w := by
 refine wpIn_mono (pw_sound (rd := none) (N := 2) (V := viewOf w0 ok0 s.H rho w) (nx0 := nx0) hm c mc hc Q s rho a w h hr (Vw.Leq.refl _) (fun _ _ => rfl) hn) ?_
 rintro e a' w' ⟨s', rho', hq, hr', hV', hl', hn'⟩
 exact ⟨s', rho', df, hq, hr', hk.mono hV', hV.trans hV', fun id hid => (hl' id hid).trans (hl id hid), hn'⟩
theorem pwR_sound {P : Program} {pol : Pol} {w0 : World} {ok0 : Nat → Prop} {n nx0 : Nat} {V : Vw} (hm : P.follows .mixedOrders = true) : ∀ (c : Code) (mc : MCode), codeR P pol n c = some mc →
  ∀ (Q : Exit → St → Prop) (s : St) (rho : Nat → Option Nat) (a : Act) (w : World), pw P mc Q s → RelF [] w0 ok0 n s rho a w → V.Leq (viewOf w0 ok0 s.H rho w) → (∀ id, id < nx0 → rho id = V.rho id) → nx0 ≤ s.nx →
   c.wpIn Fence.wide 2 P (PostM w0 ok0 n V nx0 Q) a w := by
 intro c
 induction c with
 | seq x y ihx ihy =>
  intro mc hc Q s rho a w h hr hV hl hn
  simp only [codeR] at hc
  split at hc
  ·rename_i mx hx
   simp only [Option.map_eq_some_iff] at hc
   obtain ⟨my, hy, rfl⟩ := hc
   simp only [pw] at h
   refine wpIn_seq (wpIn_mono (pw_sound (rd := none) (N := 2) hm x mx hx _ s rho a w h hr hV hl hn) fun e a' w' hp => ?_)
   obtain ⟨s', rho', hq, hr', hV', hl', hn'⟩ := hp
   cases e with
   | normal => exact ihy my hy Q s' rho' a' w' hq hr' hV' hl' hn'
   | _ => exact ⟨s', rho', [], hq, hr', .inl rfl, hV', hl', hn'⟩
  ·simp only [Option.bind_eq_some_iff, Option.map_eq_some_iff] at hc
   obtain ⟨mx, hx, my, hy, rfl⟩ := hc
   simp only [pw] at h
   refine wpIn_seq (wpIn_mono (ihx mx hx _ s rho a w h hr hV hl hn) fun e a' w' hp => ?_)
   obtain ⟨s', rho', df, hq, hr', hk', hV', hl', hn'⟩ := hp
   cases e with
   | normal => exact pw_post hm hy hq hr' hk' hV' hl' hn'
   | _ => exact ⟨s', rho', df, hq, hr', hk', hV', hl', hn'⟩
 | cond c x y ihx ihy =>
  intro mc hc Q s rho a w h hr hV hl hn
  simp only [codeR, Option.bind_eq_some_iff, Option.map_eq_some_iff] at hc
  obtain ⟨mx, hx, my, hy, rfl⟩ := hc
  simp only [pw] at h
  have hcv := ev_rep hr.rel.slot c
  split at h
  ·rename_i t ht
   rw [ht] at hcv
   have e := hcv.sc_inv
   refine wpIn_cond e ?_
   cases t with
   | true => exact ihx mx hx Q s rho a w h hr hV hl hn
   | false => exact ihy my hy Q s rho a w h hr hV hl hn
  ·exact h.elim
 | block id c ih =>
  intro mc hc Q s rho a w h hr hV hl hn
  simp only [codeR, Option.map_eq_some_iff] at hc
  obtain ⟨mx, hx, rfl⟩ := hc
  simp only [pw] at h
  refine wpIn_block (wpIn_mono (ih mx hx _ s rho a w h hr hV hl hn) fun e a' w' hp => ?_)
  obtain ⟨s', rho', df, hq, hr', hk', hV', hl', hn'⟩ := hp
  cases e with
  | exit j =>
   simp only [Exit.inBlock]
   simp only [blockP] at hq
   by_cases hj : j = id
   ·rw [if_pos hj] at hq ⊢; exact ⟨s', rho', df, hq, hr', hk', hV', hl', hn'⟩
   ·rw [if_neg hj] at hq ⊢; exact ⟨s', rho', df, hq, hr', hk', hV', hl', hn'⟩
  | _ => exact ⟨s', rho', df, hq, hr', hk', hV', hl', hn'⟩
 | rangeFunc g ps asg body _ _ =>
  intro mc hc Q s rho a w h hr hV hl hn
  simp only [codeR] at hc
  split at hc
  ·rename_i p hps
   simp only [Option.bind_eq_some_iff, Option.map_eq_some_iff] at hc
   obtain ⟨d, hd, mb, hb, rfl⟩ := hc
   obtain ⟨id, ops, o, rfl, h1, h2, h3, h4, h5, h6⟩ := roundD_inv hd
   obtain rfl : ps = #[p] := Array.toList_inj.1 hps
   exact rng_sound hm hb h1 h2 h3 h4 h5 h6 h hr hV hl hn
  ·cases hc
 | _ =>
  intro mc hc Q s rho a w h hr hV hl hn
  exact pw_post hm (by simpa [codeR] using hc) h hr (.inl rfl) hV hl hn
structure FnIsR (P : Program) (pol : Pol) (f : FuncId) (n : Nat) (mc : MCode) (rs : List RV) : Prop where
 follows : P.follows .mixedOrders = true
 is : ∃ fn c, P.funcs[f]? = some fn ∧ fn.body = some c ∧ fn.name ≠ "runtime.NumGoroutine" ∧ fn.ntmps = n ∧ codeR P pol n c = some mc ∧ resVs P fn.results.toList = some rs
theorem FnIsR.enters {P : Program} {pol : Pol} {f : FuncId} {n : Nat} {mc : MCode} {rs : List RV} (h : FnIsR P pol f n mc rs) : enters P f = true := by
 obtain ⟨_, fn, c, h1, h2, h3, _⟩ := h
 simp [Go.Proofs.Ytnelciclibknpaa.enters, h1, h2, h3]
theorem mut_fnR {P : Program} {pol : Pol} {f : FuncId} {n : Nat} {mc : MCode} {rs : List RV} {args : List PV} {H : Nat → Option PObj} {nx : Nat} {Q : (Nat → Option PObj) → Nat → PV → Prop} (hf : FnIsR P pol f n mc rs) (hn : args.length ≤ n)
  (h : pw P mc (fun e s => (e = .normal ∨ e = .ret) ∧ ∃ r, resP s rs = some r ∧ Q s.H s.nx r) ⟨sig args, H, nx⟩) : PMut P f args H nx Q := by
 refine ⟨hf.enters, fun w0 ok0 rho w vals hH hfree hv => ?_⟩
 obtain ⟨hm, fn, c, h1, h2, h3, rfl, h5, h6⟩ := hf
 refine callsIn_wide.1 (callsIn_of_wp_marks (F := Fence.wide) (n := 2) h1 h2 trivial ?_)
 have hr := start_rel (P := P) hH hfree hv hn
 refine wpIn_mono (pwR_sound (V := viewOf w0 ok0 H rho w) (nx0 := nx) hm c mc h5 _ _ rho _ w h hr (Vw.Leq.refl _) (fun _ _ => rfl) (Nat.le_refl _)) fun e a' w' hp => ?_
 obtain ⟨s', rho', df, ⟨he, r, hres, hQ⟩, hr', hk, hV, hlow, hnx⟩ := hp
 have hdf := hr'.rel.defs
 have key : LeavesInM Fence.wide 2 P fn a'.tmps (fun e w' => ∃ v H' nx' r rho', e = .returned v ∧ Q H' nx' r ∧ RelH w0 ok0 H' rho' w' ∧ (viewOf w0 ok0 H rho w).Leq (viewOf w0 ok0 H' rho' w') ∧
   nx ≤ nx' ∧ (∀ id, nx' ≤ id → rho' id = none) ∧ (∀ id, id < nx → rho' id = rho id) ∧ Rep (viewOf w0 ok0 H' rho' w') r v) a'.defers .returning w' := by
  rw [hdf]
  rcases hk with rfl | ⟨D, rfl, hD, hDok, hDW⟩
  ·obtain ⟨v, hrun, hrep⟩ := res_sound hr'.rel h6 hres
   exact ⟨v, hrun, v, s'.H, s'.nx, r, rho', rfl, hQ, hr'.rel.heap, hV, hnx, hr'.free, hlow, hrep⟩
  ·have hDW' : w'.heap[D]? = some (.deferred (some [])) := hDW
   have hDs : w.heap.size ≤ D := hD
   have hsw : w0.heap.size ≤ w.heap.size := hH.bel.size
   obtain ⟨h7, h8⟩ := turn_rel hr'.rel.heap (grownBy_putObj' w' D (.deferred none)) (fun r e => by cases e; exact ⟨by omega, _, hDW', rfl⟩) (fun id o b hid hbb e => by cases e; exact hDok.2 id o hid hbb)
   have hrel : Rel [{ target := .collected D, args := #[] }] w0 ok0 fn.ntmps s' rho' a' (w'.putObj D (.deferred none)) := ⟨h7, hr'.rel.size, hdf, fun t => (hr'.rel.slot t).monoC h8⟩
   obtain ⟨v, hrun, hrep⟩ := res_sound hrel h6 hres
   have hV3 : (viewOf w0 ok0 H rho w).Leq (viewOf w0 ok0 s'.H rho' (w'.putObj D (.deferred none))) := by
    refine ⟨fun b hb => h8.ok b (hV.ok b hb), fun b hb => ?_, hV.rho, fun id b c T fr hi hh => ?_, ?_⟩
    ·have hlt : b < w.heap.size := by
      rcases hb.1 with h9 | h9
      ·have := hH.okb b h9; omega
      ·exact h9.2
     exact (World.putObj_heap_other (by omega)).trans (hV.blk b hb)
    ·obtain ⟨c', T', fr', h9, h10⟩ := hV.shp id b c T fr hi hh
     obtain ⟨c2, T2, fr2, h11, h12⟩ := h8.shp id b c' T' fr' (hV.rho id b hi) h9
     exact ⟨c2, T2, fr2, h11, Nat.le_trans h10 h12⟩
    ·show w.heap.size ≤ (w'.putObj D (.deferred none)).heap.size
     have h9 : w.heap.size ≤ w'.heap.size := hV.sz
     have h10 : w'.heap.size ≤ (w'.putObj D (.deferred none)).heap.size := (grownBy_putObj' w' D (.deferred none)).size
     omega
   exact ⟨by simp, .inl ⟨D, _, rfl, run_takeDeferred hDW', v, hrun, v, s'.H, s'.nx, r, rho', rfl, hQ, h7, hV3, hnx, hr'.free, hlow, hrep⟩⟩
 rcases he with rfl | rfl
 ·exact key
 ·exact key
end
section
universe u
def bitO : Option Nat → Nat
 | some t => 1 <<< t
 | none => 0
def wrO (o : MO) : Nat := bitO o.dst ||| (match o.op with
 | .st (.tmp t) _ _ true => 1 <<< t
 | _ => 0)
def wrL : List MO → Nat
 | [] => 0
 | o :: r => wrO o ||| wrL r
def wrC : MCode → Nat
 | .region ms _ => wrL ms
 | .seq a b => wrC a ||| wrC b
 | .cond _ a b => wrC a ||| wrC b
 | .block _ c => wrC c
 | .blockZ _ t c => wrC c ||| 1 <<< t
 | .loop c => wrC c
 | .rng _ _ _ _ => 0
 | _ => 0
def Fr (m : Nat) (s s' : St) : Prop := ∀ t, m.testBit t = false → s'.s t = s.s t
theorem Fr.refl {m : Nat} (s : St) : Fr m s s := fun _ _ => rfl
theorem Fr.trans {m : Nat} {a b c : St} (h : Fr m a b) (k : Fr m b c) : Fr m a c := fun t ht => (k t ht).trans (h t ht)
theorem Fr.left {m n : Nat} {a b : St} (h : Fr m a b) : Fr (m ||| n) a b := fun t ht => h t (by rw [Nat.testBit_or] at ht; simp at ht; exact ht.1)
theorem Fr.right {m n : Nat} {a b : St} (h : Fr n a b) : Fr (m ||| n) a b := fun t ht => h t (by rw [Nat.testBit_or] at ht; simp at ht; exact ht.2)
theorem bit_one {t k : Nat} : (1 <<< t).testBit k = decide (t = k) := by
 rw [Nat.one_shiftLeft, Nat.testBit_two_pow]
theorem put_fr {s : St} {d : Option Nat} {x : PV} {H : Nat → Option PObj} {nx : Nat} : Fr (bitO d) s (put { s with H := H, nx := nx } d x) := by
 intro t ht
 cases d with
 | none => rfl
 | some k =>
  simp only [bitO, bit_one, decide_eq_false_iff_not] at ht
  simp only [put, upd]
  rw [if_neg (fun e => ht e.symm)]
theorem put_fr' {s : St} {d : Option Nat} {x : PV} : Fr (bitO d) s (put s d x) := put_fr (s := s) (H := s.H) (nx := s.nx)
theorem step_fr {id : Nat} {o : MO} {s s' : St} (h : stepM id o s = some s') : Fr (wrO o) s s' := by
 unfold stepM at h
 unfold wrO
 split at h
 ·cases h; exact put_fr.left
 ·split at h
  ·split at h <;> cases h
   ·exact put_fr.left
   ·exact put_fr'.left
  ·cases h
 ·split at h
  ·simp only [Option.bind_eq_some_iff, Option.map_eq_some_iff] at h
   obtain ⟨_, _, _, _, h⟩ := h
   split at h <;> subst h
   ·exact put_fr.left
   ·exact put_fr'.left
  ·cases h
 ·split at h
  ·split at h
   ·cases h; exact put_fr.left
   ·cases h
  ·cases h
 ·rename_i x v sz fz hop
  split at h
  ·simp only [Option.bind_eq_some_iff] at h
   obtain ⟨⟨j, ob⟩, _, h⟩ := h
   split at h
   ·rename_i hfz
    split at h
    ·rename_i k _ _ _
     cases h
     rw [hop, hfz]
     simp only []
     intro t ht
     rw [Nat.testBit_or, bit_one] at ht
     simp at ht
     refine (put_fr (s := { s with s := upd s.s k (.ptr ob.cells) }) t (by simpa using ht.1)).trans ?_
     simp only [upd]
     rw [if_neg (fun e => ht.2 e.symm)]
    ·cases h
   ·cases h; exact put_fr.left
  ·cases h
 ·simp only [Option.map_eq_some_iff] at h
  obtain ⟨⟨_, _⟩, _, rfl⟩ := h
  exact put_fr.left
 ·simp only [Option.map_eq_some_iff] at h
  obtain ⟨⟨_, _⟩, _, rfl⟩ := h
  exact put_fr.left
 ·split at h
  ·cases h; exact put_fr.left
  ·cases h
 ·simp only [Option.map_eq_some_iff] at h
  obtain ⟨⟨_, _⟩, _, rfl⟩ := h
  exact put_fr.left
 ·simp only [Option.map_eq_some_iff] at h
  obtain ⟨_, _, rfl⟩ := h
  exact put_fr'.left
theorem opP_fr {P : Program} {pure : Bool} {id : Nat} {o : MO} {K : St → Prop} {s : St} (h : opP P pure id o K s) : opP P pure id o (fun s' => K s' ∧ Fr (wrO o) s s') s := by
 unfold opP at h ⊢
 split at h
 ·rename_i hc
  rw [if_pos hc]
  split at h
  ·obtain ⟨⟨Q, h1, h2⟩, h3⟩ := h
   refine ⟨⟨Q, h1, fun H' nx' r hq hn => ⟨h2 H' nx' r hq hn, put_fr.left⟩⟩, fun zs hz => ?_⟩
   obtain ⟨Q2, h4, h5⟩ := h3 zs hz
   refine ⟨Q2, h4, fun H2 nx2 r hq hn => ?_⟩
   obtain ⟨H', h6, h7, h8⟩ := h5 H2 nx2 r hq hn
   exact ⟨H', h6, h7, h8, put_fr.left⟩
  ·obtain ⟨Q, h1, h2, h4, h3⟩ := h
   exact ⟨Q, h1, h2, h4, fun H' nx' r hq hn => ⟨h3 H' nx' r hq hn, put_fr.left⟩⟩
  ·obtain ⟨r, ob, h1, h2⟩ := h
   exact ⟨r, ob, h1, h2, (put_fr (H := updO s.H id ob) (nx := s.nx)).left⟩
  split at h
  ·rcases h with ⟨r, h1, h2⟩ | ⟨h0, Q, h1, h2⟩
   ·exact .inl ⟨r, h1, h2, put_fr'.left⟩
   ·exact .inr ⟨h0, Q, h1, fun H' nx' r hq hn => ⟨h2 H' nx' r hq hn, put_fr.left⟩⟩
  ·obtain ⟨op, hop, h⟩ := h
   exact ⟨op, hop, fun df w0 ok0 n rho a w next Q q N h1 h2 h3 h4 h5 hn => h df w0 ok0 n rho a w next Q q N h1 h2 h3 h4 h5 fun H' nx' r rho' a' w' hK => hn H' nx' r rho' a' w' ⟨hK, put_fr.left⟩⟩
 ·rename_i hc
  rw [if_neg hc]
  split at h
  ·rename_i s' hs
   exact ⟨h, step_fr hs⟩
  ·exact h.elim
theorem opG_fr {P : Program} {pure : Bool} {id : Nat} {o : MO} {K : St → Prop} {s : St} (h : opG P pure id o K s) : opG P pure id o (fun s' => K s' ∧ Fr (wrO o) s s') s := by
 unfold opG at h ⊢
 split at h
 ·exact opP_fr h
 ·split at h
  ·split at h
   ·rename_i hb; rw [if_pos hb]; exact opP_fr h
   ·rename_i hb; rw [if_neg hb]; exact ⟨h, put_fr'.left⟩
  ·exact ⟨h, put_fr'.left⟩
  ·exact h.elim
theorem runOps_fr {P : Program} {pure : Bool} {base : Nat} {K : St → Prop} : ∀ (l : List (Nat × MO)) (s : St), runOps P pure base l K s → runOps P pure base l (fun s' => K s' ∧ Fr (wrL (l.map (·.2))) s s') s
 | [], s, h => ⟨h, Fr.refl s⟩
 | (i, o) :: l, s, h => opG_mono (fun s1 h1 => runOps_mono (fun s2 h2 => ⟨h2.1, (Fr.left h1.2).trans (Fr.right h2.2)⟩) l s1 (runOps_fr l s1 h1.1)) (opG_fr h)
theorem num_snd : ∀ (k : Nat) (l : List MO), (num k l).map (·.2) = l
 | _, [] => rfl
 | k, o :: l => by rw [num_cons, List.map_cons, num_snd (k + 1) l]
theorem pw_fr {P : Program} : ∀ (c : MCode) {Q : Exit → St → Prop} {s : St}, pw P c Q s → pw P c (fun e s' => Q e s' ∧ Fr (wrC c) s s') s := by
 intro c
 induction c with
 | skip => intro Q s h; exact ⟨h, Fr.refl s⟩
 | ret => intro Q s h; exact ⟨h, Fr.refl s⟩
 | exit id => intro Q s h; exact ⟨h, Fr.refl s⟩
 | region ms d =>
  intro Q s h
  rw [c_region] at h ⊢
  have := runOps_fr _ _ h
  rw [num_snd] at this
  exact runOps_mono (fun s' h' => ⟨h'.1, h'.2⟩) _ _ this
 | seq a b iha ihb =>
  intro Q s h
  rw [c_seq] at h ⊢
  refine pw_mono a (fun e s1 h1 => ?_) (iha h)
  cases e with
  | normal => exact pw_mono b (fun e2 s2 h2 => ⟨h2.1, (Fr.left h1.2).trans (Fr.right h2.2)⟩) (ihb h1.1)
  | _ => exact ⟨h1.1, Fr.left h1.2⟩
 | cond c a b iha ihb =>
  intro Q s h
  rw [c_cond] at h ⊢
  unfold condP at h ⊢
  split at h
  ·rename_i t _
   cases t with
   | true => exact pw_mono a (fun e s1 h1 => ⟨h1.1, Fr.left h1.2⟩) (iha h)
   | false => exact pw_mono b (fun e s1 h1 => ⟨h1.1, Fr.right h1.2⟩) (ihb h)
  ·exact h.elim
 | block id c ih =>
  intro Q s h
  rw [c_block] at h ⊢
  refine pw_mono c (fun e s1 h1 => ?_) (ih h)
  cases e with
  | exit j =>
   simp only [blockP] at h1 ⊢
   by_cases hj : j = id
   ·rw [if_pos hj] at h1 ⊢; exact h1
   ·rw [if_neg hj] at h1 ⊢; exact h1
  | _ => exact h1
 | blockZ id t c ih =>
  intro Q s h
  rw [c_blockZ] at h ⊢
  refine pw_mono c (fun e s1 h1 => ?_) (ih h)
  cases e with
  | exit j =>
   simp only [blockZP] at h1 ⊢
   by_cases hj : j = id
   ·rw [if_pos hj] at h1 ⊢
    obtain ⟨⟨s2, hz, hq⟩, hf⟩ := h1
    refine ⟨s2, hz, hq, fun u hu => ?_⟩
    have hu2 : (wrC c ||| 1 <<< t).testBit u = false := hu
    rw [Nat.testBit_or, bit_one] at hu2
    simp at hu2
    exact (hz.2.1 u (fun e => hu2.2 e.symm)).trans (hf u hu2.1)
   ·rw [if_neg hj] at h1 ⊢; exact ⟨h1.1, Fr.left h1.2⟩
  | _ => exact ⟨h1.1, Fr.left h1.2⟩
 | loop c ih =>
  intro Q s h
  obtain ⟨I, h0, hI⟩ := h
  refine ⟨fun k s' => I k s' ∧ Fr (wrC c) s s', h0.imp fun k hk => ⟨hk, Fr.refl s⟩, fun k s1 ⟨hk, hf⟩ => pw_mono c (fun e s2 h2 => ?_) (ih (hI k s1 hk))⟩
  cases e with
  | normal =>
   obtain ⟨⟨k', h3, h4⟩, h5⟩ := h2
   exact ⟨k', h3, h4, hf.trans h5⟩
  | _ => exact ⟨h2.1, hf.trans h2.2⟩
 | rng p d g c ih =>
  intro Q s h
  obtain ⟨f, caps, xs, h1, h2, J, h3, h4, h5⟩ := h
  have hfr : ∀ H nx, Fr (wrC (.rng p d g c)) s ⟨s.s, H, nx⟩ := fun H nx t _ => rfl
  refine ⟨f, caps, xs, h1, h2, J, h3, fun pre x H nx k1 k2 k3 k4 => pw_mono c (fun e s2 h => ?_) (h4 pre x H nx k1 k2 k3 k4), fun H nx k1 k2 => ⟨h5 H nx k1 k2, hfr _ _⟩⟩
  cases e with
  | normal => exact h
  | ret => exact fun hp => ⟨h hp, hfr _ _⟩
  | exit i => exact fun hp => ⟨h hp, hfr _ _⟩
  | _ => exact h
def ovr (W : Nat) (f g : Nat → PV) : Nat → PV := fun t => if W.testBit t = true then f t else g t
theorem ovr_get {W : Nat} {f g : Nat → PV} {t : Nat} : ovr W f g t = if (W >>> t) % 2 = 1 then f t else g t := by
 unfold ovr
 rw [Nat.testBit_eq_decide_div_mod_eq, Nat.shiftRight_eq_div_pow]
 simp
def Nx (I : Nat → (Nat → PV) → (Nat → Option PObj) → Nat → Prop) (k : Nat) (s : St) : Prop := ∃ k', k' < k ∧ I k' s.s s.H s.nx
theorem Nx.mk {I : Nat → (Nat → PV) → (Nat → Option PObj) → Nat → Prop} {k : Nat} {f : Nat → PV} {H : Nat → Option PObj} {nx : Nat} (k' : Nat) (h : k' < k) (hi : I k' f H nx) : Nx I k ⟨f, H, nx⟩ := ⟨k', h, hi⟩
theorem c_loopW {P : Program} {Q : Exit → St → Prop} {s : St} {c : MCode} (W : Nat) (hW : wrC c = W) (I : Nat → (Nat → PV) → (Nat → Option PObj) → Nat → Prop) (k0 : Nat) (h0 : I k0 s.s s.H s.nx)
  (h : ∀ k f H nx, I k f H nx → pw P c (thenP (Nx I k) Q) ⟨ovr W f s.s, H, nx⟩) : pw P (.loop c) Q s := by
 refine ⟨fun k s' => I k s'.s s'.H s'.nx ∧ Fr W s s', ⟨k0, h0, Fr.refl s⟩, fun k s1 ⟨hk, hf⟩ => ?_⟩
 have e : s1 = ⟨ovr W s1.s s.s, s1.H, s1.nx⟩ := by
  cases s1 with
  | mk s H nx =>
   simp only [St.mk.injEq, and_true]
   funext t
   unfold ovr
   split
   ·rfl
   ·rename_i ht; exact hf t (by simpa using ht)
 have h2 := h k s1.s s1.H s1.nx hk
 rw [← e] at h2
 refine pw_mono c (fun e s2 h3 => ?_) (pw_fr c h2)
 cases e with
 | normal =>
  obtain ⟨⟨k', h4, h5⟩, h6⟩ := h3
  rw [hW] at h6
  exact ⟨k', h4, h5, hf.trans h6⟩
 | _ => exact h3.1
theorem zlt {n : Nat} : (0 < n + 1) = True := by simp
theorem ite_neN {α : Sort u} {a b : Nat} {x y : α} (h : a ≠ b) : (if a = b then x else y) = y := if_neg h
theorem ite_eqN {α : Sort u} {a b : Nat} {x y : α} (h : a = b) : (if a = b then x else y) = x := if_pos h
theorem frz_tup1 {k : Nat} {H : Nat → Option PObj} {xs : List PV} : frz (k + 1) H (.tup xs) = .tup (xs.map (frz k H)) := rfl
theorem frz_sc1 {k : Nat} {H : Nat → Option PObj} {v : Value} : frz k H (.sc v) = .sc v := by cases k <;> rfl
theorem upd_gone {H : Nat → Option PObj} {i j : Nat} {x : Option PObj} {o : PObj} (h : H j = some o) (hij : j ≠ i) : upd H i x j = some o := by unfold upd; rw [if_neg hij, h]
section
variable {A B K : St → Prop} {s : St} {d : Option Nat}
theorem wJ {b : Bool} (ht : b = true → A s) (hf : b = false → B s) : condP (.sc (.bool b)) A B s := by
 cases b
 ·exact hf rfl
 ·exact ht rfl
theorem wI {p : Prop} [Decidable p] (ht : p → A s) (hf : ¬ p → B s) : condP (.sc (.bool (decide p))) A B s := by
 by_cases h : p
 ·rw [decide_eq_true h]; exact ht h
 ·rw [decide_eq_false h]; exact hf h
theorem wA {p : Prop} [Decidable p] (h : p) (ht : p → A s) : condP (.sc (.bool (decide p))) A B s := by rw [decide_eq_true h]; exact ht h
theorem wB {p : Prop} [Decidable p] (h : ¬ p) (hf : ¬ p → B s) : condP (.sc (.bool (decide p))) A B s := by rw [decide_eq_false h]; exact hf h
theorem wC {p : Prop} [Decidable p] {w : Bool} (h : p) (ht : p → (if true = w then A s else K (put s d (.sc undef)))) : guardK (.sc (.bool (decide p))) w A K d s := by rw [decide_eq_true h]; exact ht h
theorem wD {p : Prop} [Decidable p] {w : Bool} (h : ¬ p) (hf : ¬ p → (if false = w then A s else K (put s d (.sc undef)))) : guardK (.sc (.bool (decide p))) w A K d s := by rw [decide_eq_false h]; exact hf h
theorem wE {p : Prop} [Decidable p] (ht : ¬ p → A s) (hf : p → B s) : condP (.sc (.bool (decide (¬ p)))) A B s := wI ht fun h => hf (Decidable.not_not.1 h)
theorem wF {b : Bool} (ht : b = false → A s) (hf : b = true → B s) : condP (.sc (.bool (!b))) A B s := by
 cases b
 ·exact ht rfl
 ·exact hf rfl
theorem wL {b w : Bool} (ht : b = true → (if true = w then A s else K (put s d (.sc undef)))) (hf : b = false → (if false = w then A s else K (put s d (.sc undef)))) : guardK (.sc (.bool b)) w A K d s := by
 cases b
 ·exact hf rfl
 ·exact ht rfl
theorem wK {p : Prop} [Decidable p] {w : Bool} (ht : p → (if true = w then A s else K (put s d (.sc undef)))) (hf : ¬ p → (if false = w then A s else K (put s d (.sc undef)))) : guardK (.sc (.bool (decide p))) w A K d s := by
 by_cases h : p
 ·rw [decide_eq_true h]; exact ht h
 ·rw [decide_eq_false h]; exact hf h
theorem wG {p : Prop} [Decidable p] {w : Bool} (ht : ¬ p → (if true = w then A s else K (put s d (.sc undef)))) (hf : p → (if false = w then A s else K (put s d (.sc undef)))) : guardK (.sc (.bool (decide (¬ p)))) w A K d s := wK ht fun h => hf (Decidable.not_not.1 h)
theorem wH {b w : Bool} (ht : b = false → (if true = w then A s else K (put s d (.sc undef)))) (hf : b = true → (if false = w then A s else K (put s d (.sc undef)))) : guardK (.sc (.bool (!b))) w A K d s := by
 cases b
 ·exact ht rfl
 ·exact hf rfl
theorem call_id {P : Program} {b lend : Bool} {f : FuncId} {args : List PV} (h : callP P b lend f args d K s) : callP P b lend f args d K s := h
end
def less (G : Nat → Bool) (H : Nat → Option PObj) : Nat → Option PObj := fun id => if G id = true then none else H id
def frg (G : Nat → Bool) : Nat → (Nat → Option PObj) → PV → PV
 | 0, _, x => x
 | k + 1, H, .optr id off => if G id = true then (match H id with
  | some o => .ptr ((o.cells.drop off).map (frg G k H))
  | none => .optr id off) else .optr id off
 | k + 1, H, .osl id off len sz => if G id = true then (match H id with
  | some o => if off + len * sz ≤ o.cells.length then .sl sz (chunks sz len (((o.cells.drop off).take (len * sz)).map (frg G k H))) else .osl id off len sz
  | none => .osl id off len sz) else .osl id off len sz
 | k + 1, H, .agg xs => .agg (xs.map (frg G k H))
 | k + 1, H, .tup xs => .tup (xs.map (frg G k H))
 | k + 1, H, .fn f xs => .fn f (xs.map (frg G k H))
 | _ + 1, _, x => x
theorem less_leq (w0 : World) (ok0 : Nat → Prop) (G : Nat → Bool) (H : Nat → Option PObj) (rho : Nat → Option Nat) (w : World) : (viewOf w0 ok0 H rho w).Leq (viewOf w0 ok0 (less G H) rho w) :=
 ⟨fun b hb => ⟨hb.1, fun id o ho => hb.2 id o (by unfold less at ho; split at ho; cases ho; exact ho)⟩, fun _ _ => rfl, fun _ _ h => h, fun _ _ c T fr _ hh => ⟨c, T, fr, hh, Nat.le_refl _⟩, Nat.le_refl _⟩
theorem less_some {G : Nat → Bool} {H : Nat → Option PObj} {id : Nat} {o : PObj} (h : less G H id = some o) : G id = false ∧ H id = some o := by
 unfold less at h
 split at h
 ·cases h
 ·rename_i hg; exact ⟨by simpa using hg, h⟩
theorem less_rel {w0 : World} {ok0 : Nat → Prop} {G : Nat → Bool} {H : Nat → Option PObj} {rho : Nat → Option Nat} {w : World} (hH : RelH w0 ok0 H rho w) : RelH w0 ok0 (less G H) rho w :=
 ⟨hH.okb, hH.bel, fun id o ho => by
  obtain ⟨b, h1, h2, h3⟩ := hH.own id o (less_some ho).2
  exact ⟨b, h1, h2, h3.mono (less_leq ..) rfl⟩, fun id id' b h h' => hH.inj id id' b (by cases hq : less G H id with | none => exact absurd hq h | some o => rw [(less_some hq).2]; simp) (by cases hq : less G H id' with | none => exact absurd hq h' | some o => rw [(less_some hq).2]; simp)⟩
theorem q0 : type_of% @List.map_cons := @List.map_cons
theorem q1 : type_of% @List.map_nil := @List.map_nil
theorem q2 : type_of% @Option.map_some := @Option.map_some
theorem q3 : type_of% @Option.bind_some := @Option.bind_some
theorem q4 : type_of% @List.length_cons := @List.length_cons
theorem q5 : type_of% @List.length_nil := @List.length_nil
theorem q6 : type_of% @List.drop_succ_cons := @List.drop_succ_cons
theorem q7 : type_of% @List.drop_zero := @List.drop_zero
theorem q8 : type_of% @List.take_succ_cons := @List.take_succ_cons
theorem q9 : type_of% @List.take_zero := @List.take_zero
theorem q10 : type_of% @List.head?_cons := @List.head?_cons
theorem q11 : type_of% @List.cons_append := @List.cons_append
theorem q12 : type_of% @List.nil_append := @List.nil_append
theorem q13 : type_of% @List.all_cons := @List.all_cons
theorem q14 : type_of% @List.all_nil := @List.all_nil
theorem q15 : type_of% @Nat.zero_add := @Nat.zero_add
theorem q16 : type_of% @Nat.add_zero := @Nat.add_zero
theorem q17 : type_of% @Nat.le_refl := @Nat.le_refl
theorem q18 : type_of% @Nat.zero_le := @Nat.zero_le
theorem q19 : type_of% @Bool.false_eq_true := @Bool.false_eq_true
theorem q20 : type_of% @Bool.true_eq_false := @Bool.true_eq_false
theorem q21 : type_of% @Bool.and_true := @Bool.and_true
theorem q22 : type_of% @Bool.true_and := @Bool.true_and
theorem q23 : type_of% @and_self := @and_self
theorem q24 : type_of% @and_true := @and_true
theorem q25 : type_of% @true_and := @true_and
theorem q26 : type_of% @if_true := @if_true
theorem q27 : type_of% @if_false := @if_false
theorem q28 : type_of% @ite_true := @ite_true
theorem q29 : type_of% @ite_false := @ite_false
theorem q30 : type_of% @Int.toNat_natCast := @Int.toNat_natCast
theorem q31 : type_of% @Int.natCast_nonneg := @Int.natCast_nonneg
theorem q32 : type_of% @List.getElem?_map := @List.getElem?_map
theorem q33 : type_of% @ge_iff_le := @ge_iff_le
theorem q34 : type_of% @gt_iff_lt := @gt_iff_lt
theorem q35 : type_of% @Int.ofNat_le := @Int.ofNat_le
theorem q36 : type_of% @Int.ofNat_lt := @Int.ofNat_lt
theorem q37 : type_of% @decide_true := @decide_true
theorem q38 : type_of% @decide_false := @decide_false
theorem q39 : type_of% @Bool.not_true := @Bool.not_true
theorem q40 : type_of% @Bool.not_false := @Bool.not_false
theorem q41 : type_of% @List.length_map := @List.length_map
theorem q42 : type_of% @ne_eq := @ne_eq
theorem q43 : type_of% @not_true_eq_false := @not_true_eq_false
theorem q44 : type_of% @not_false_eq_true := @not_false_eq_true
theorem q45 : type_of% @Int.natCast_inj := @Int.natCast_inj
theorem q46 : type_of% @Int.natCast_eq_zero := @Int.natCast_eq_zero
theorem q47 : type_of% @List.getElem?_cons_zero := @List.getElem?_cons_zero
theorem q48 : type_of% @List.getElem?_cons_succ := @List.getElem?_cons_succ
theorem q49 : type_of% @Int.cast_ofNat_Int := @Int.cast_ofNat_Int
theorem q50 : type_of% @true_or := @true_or
theorem q51 : type_of% @or_true := @or_true
theorem q52 : type_of% @List.flatten_cons := @List.flatten_cons
theorem q53 : type_of% @List.flatten_nil := @List.flatten_nil
theorem q54 : type_of% @List.flatMap_append := @List.flatMap_append
theorem q55 : type_of% @List.flatMap_cons := @List.flatMap_cons
theorem q56 : type_of% @List.flatMap_nil := @List.flatMap_nil
theorem q57 : type_of% @eq_self := @eq_self
theorem q58 : type_of% @Bool.false_and := @Bool.false_and
theorem q59 : type_of% @Bool.and_false := @Bool.and_false
theorem q60 : type_of% @Bool.or_true := @Bool.or_true
theorem q61 : type_of% @Bool.true_or := @Bool.true_or
theorem q62 : type_of% @Bool.or_false := @Bool.or_false
theorem q63 : type_of% @Bool.false_or := @Bool.false_or
theorem q64 : type_of% @beq_self_eq_true := @beq_self_eq_true
theorem q65 : type_of% @Nat.lt_add_one := @Nat.lt_add_one
theorem q66 : type_of% @Nat.mul_one := @Nat.mul_one
theorem q67 : type_of% @Nat.one_mul := @Nat.one_mul
end
section
def Kept (p : Prop) : Prop := p
theorem Kept.mk {p : Prop} (h : p) : Kept p := h
theorem Kept.out {p : Prop} (h : Kept p) : p := h
def finM (rs : List RV) (Q : (Nat → Option PObj) → Nat → PV → Prop) (e : Exit) (s : St) : Prop := (e = .normal ∨ e = .ret) ∧ ∃ r, resP s rs = some r ∧ Q s.H s.nx r
theorem fin_mut {rs : List RV} {Q : (Nat → Option PObj) → Nat → PV → Prop} {e : Exit} {s : St} (r : PV) (he : e = .normal ∨ e = .ret) (h : resP s rs = some r) (hq : Q s.H s.nx r) : finM rs Q e s := ⟨he, r, h, hq⟩
theorem mut_bnd {P : Program} {f : FuncId} {args : List PV} {H : Nat → Option PObj} {nx : Nat} {Q : (Nat → Option PObj) → Nat → PV → Prop} (he : enters P f = true) (h : bndL args → PMut P f args H nx Q) : PMut P f args H nx Q := by
 refine ⟨he, fun w0 ok0 rho w vals hH hfree hv => ?_⟩
 have hb : bndL args := bndL_get fun i x hi => by
  obtain ⟨v, _, hr⟩ := hv.get hi
  exact hr.bnd
 exact (h hb).2 w0 ok0 rho w vals hH hfree hv
theorem mut_by {P : Program} {pol : Pol} {f : FuncId} {n : Nat} {mc : MCode} {rs : List RV} {args : List PV} {H : Nat → Option PObj} {nx : Nat} {Q : (Nat → Option PObj) → Nat → PV → Prop} (hf : FnIs P pol f n mc rs) (hn : args.length ≤ n)
  (h : bndL args → pw P mc (finM rs Q) ⟨sig args, H, nx⟩) : PMut P f args H nx Q := mut_bnd hf.enters fun hb => mut_fn hf hn (h hb)
theorem mut_byR {P : Program} {pol : Pol} {f : FuncId} {n : Nat} {mc : MCode} {rs : List RV} {args : List PV} {H : Nat → Option PObj} {nx : Nat} {Q : (Nat → Option PObj) → Nat → PV → Prop} (hf : FnIsR P pol f n mc rs) (hn : args.length ≤ n)
  (h : bndL args → pw P mc (finM rs Q) ⟨sig args, H, nx⟩) : PMut P f args H nx Q := mut_bnd hf.enters fun hb => mut_fnR hf hn (h hb)
theorem c_rng {P : Program} {p d : Nat} {g : Operand} {c : MCode} {Q : Exit → St → Prop} {s : St} {f : FuncId} {caps xs : List PV} (hseq : PSeq P f caps xs) (hg : ev s g = .fn f caps) (J : List PV → (Nat → Option PObj) → Nat → Prop)
  (h0 : J [] (noIt s.H) s.nx) (hr : ∀ pre x H nx, x ∈ xs → pre.length < xs.length → J pre H nx → s.nx ≤ nx → pw P c (rngQ J xs (pre ++ [x]) s.s Q) ⟨upd (upd s.s p x) d x, H, nx⟩)
  (hd : ∀ H nx, J xs H nx → s.nx ≤ nx → Q .normal ⟨s.s, H, nx⟩) : pw P (.rng p d g c) Q s := ⟨f, caps, xs, hg, hseq, J, h0, hr, hd⟩
theorem rq_normal {J : List PV → (Nat → Option PObj) → Nat → Prop} {xs pre : List PV} {f0 : Nat → PV} {Q : Exit → St → Prop} {s : St} (h : J pre (noIt s.H) s.nx) : rngQ J xs pre f0 Q .normal s := h
theorem rq_ret {J : List PV → (Nat → Option PObj) → Nat → Prop} {xs pre : List PV} {f0 : Nat → PV} {Q : Exit → St → Prop} {s : St} (h : pre <+: xs → Q .ret ⟨f0, noIt s.H, s.nx⟩) : rngQ J xs pre f0 Q .ret s := h
theorem PMut.mono {P : Program} {f : FuncId} {args : List PV} {H : Nat → Option PObj} {nx : Nat} {Q Q' : (Nat → Option PObj) → Nat → PV → Prop} (h : PMut P f args H nx Q) (hq : ∀ H' nx' r, Q H' nx' r → Q' H' nx' r) : PMut P f args H nx Q' := by
 refine ⟨h.1, fun w0 ok0 rho w vals hH hfree hv => (h.2 w0 ok0 rho w vals hH hfree hv).mono ?_⟩
 rintro e w' ⟨v, H', nx', r, rho', h1, h2, h3⟩
 exact ⟨v, H', nx', r, rho', h1, hq _ _ _ h2, h3⟩
theorem call_mutF {P : Program} {f : FuncId} {args : List PV} {p : PV} {d : Option Nat} {K : St → Prop} {s : St} {Q : (Nat → Option PObj) → Nat → PV → Prop} (h : PMut P f args s.H s.nx Q)
  (h2 : ∃ H' nx' r, Q H' nx' r ∧ s.nx ≤ nx' ∧ ∀ j : Nat, s.H j ≠ none → ¬ OwnAt p j → H' j = s.H j) (hf : ∀ H' nx' r, Q H' nx' r → ∀ j, j < s.nx → ¬ OwnAt p j → H' j = s.H j)
  (hk : ∀ H' nx' r, Q H' nx' r → s.nx ≤ nx' → K (put { s with H := H', nx := nx' } d r)) : callE P f args (some p) d K s := by
 refine ⟨fun H' nx' r => Q H' nx' r ∧ ∀ j : Nat, s.H j ≠ none → ¬ OwnAt p j → H' j = s.H j, ?_, ?_, ?_, fun H' nx' r hq hn => hk H' nx' r hq.1 hn⟩
 ·refine ⟨h.1, fun w0 ok0 rho w vals hH hfree hv => (h.2 w0 ok0 rho w vals hH hfree hv).mono ?_⟩
  rintro e w' ⟨v, H', nx', r, rho', h1, h2, h3⟩
  refine ⟨v, H', nx', r, rho', h1, ⟨h2, fun j hj hno => hf _ _ _ h2 j ?_ hno⟩, h3⟩
  obtain ⟨o, ho⟩ := Option.ne_none_iff_exists'.1 hj
  obtain ⟨b, hb, _⟩ := hH.own j o ho
  by_cases hlt : j < s.nx
  ·exact hlt
  ·rw [hfree j (by omega)] at hb
   cases hb
 ·obtain ⟨H', nx', r, q1, q2, q3⟩ := h2
  exact ⟨H', nx', r, ⟨q1, q3⟩, q2⟩
 ·rintro q rfl' H' nx' r hq
  cases rfl'
  exact hq.2
end
section
theorem PMut.pure {P : Program} {f : FuncId} {args : List PV} {r : PV} {Q : Nat → (Nat → Option PObj) → Nat → PV → Prop} (hi : r.imm = true) (h : ∀ nx, PMut P f args noneOwn nx (Q nx))
  (hq : ∀ nx H' nx' r0, Q nx H' nx' r0 → ∃ k, Weak (frzF k H' r0) r) : PPure P f args r := by
 refine ⟨(h 0).1, fun V nx vals hok hfree hv => ?_⟩
 have hH : RelH V.w V.ok noneOwn V.rho V.w := ⟨hok, Below.refl _ _, fun id o ho => (by cases ho), fun id id' b h => absurd rfl h⟩
 have hVleq : V.Leq (viewOf V.w V.ok noneOwn V.rho V.w) := ⟨fun b hb => ⟨.inl hb, fun id o ho => (by cases ho)⟩, fun _ _ => rfl, fun _ _ h => h, fun _ _ c T fr _ hh => ⟨c, T, fr, hh, Nat.le_refl _⟩, Nat.le_refl _⟩
 refine ((h nx).2 V.w V.ok V.rho V.w vals hH hfree (hv.mono hVleq)).mono ?_
 rintro e w' ⟨v, H', nx', r0, rho', rfl, hQ, hr', hV, hnx, hfree', hlow, hrep⟩
 obtain ⟨k, hk⟩ := hq nx H' nx' r0 hQ
 have h7 := frzF_sound hr' k r0 v hrep
 have h8 := ((hk _ _ h7).imm hi V.rho)
 have h9 : Rep (grown V w') r v := by
  have hl : (⟨w', (viewOf V.w V.ok noneOwn rho' w').ok, V.rho⟩ : Vw).Leq (grown V w') :=
   ⟨fun b hb => And.left hb, fun _ _ => rfl, fun _ _ h => h, fun _ _ c T fr _ hh => ⟨c, T, fr, hh, Nat.le_refl _⟩, Nat.le_refl _⟩
  exact h8.mono hl
 exact ⟨v, rfl, hr'.bel, h9⟩
end
section
theorem opG_raw {P : Program} {pure : Bool} {id : Nat} {d : Option Nat} {K : St → Prop} {s : St} {o : Oper}
  (h : ∀ (df : List Deferred) (w0 : World) (ok0 : Nat → Prop) (n : Nat) (rho : Nat → Option Nat) (a : Act) (w : World) (next : Act → World → Prop) (Q : Exit → Act → World → Prop) (q : Option Nat) (N : Nat),
   RelF df w0 ok0 n s rho a w → rho id = none → id < s.nx → (∀ t, d = some t → t < n) → o.dst = d →
   (∀ H' nx' r rho' a' w', K (put { s with H := H', nx := nx' } d r) → RelF df w0 ok0 n (put { s with H := H', nx := nx' } d r) rho' a' w' → (viewOf w0 ok0 s.H rho w).Leq (viewOf w0 ok0 H' rho' w') → (∀ k, k ≠ id → k < s.nx → rho' k = rho k) → s.nx ≤ nx' → next a' w') →
   o.wpIn (fnc q) N P a w next Q) : opG P pure id ⟨d, .raw o, none⟩ K s := ⟨o, rfl, h⟩
theorem opG_val {P : Program} {pure : Bool} {id : Nat} {d : Option Nat} {K : St → Prop} {s : St} {o : Oper} (hd : o.dst = d) (hnd : ∀ c, o.op ≠ .defer c)
  (h : ∀ (V : Vw) (ρ : Operand → Value), (∀ x, Rep V (ev s x) (ρ x)) → ∃ r v, (execOp ρ o).run P V.w = .ok (.value v) V.w ∧ Rep V r v ∧ K (put s d r)) : opG P pure id ⟨d, .raw o, none⟩ K s := by
 refine opG_raw fun df w0 ok0 n rho a w next Q q N hr hid hlo hdn hdst hn => ?_
 obtain ⟨r, v, h1, h2, h3⟩ := h (viewOf w0 ok0 s.H rho w) a.eval (fun x => ev_rep hr.rel.slot x)
 have h1' : (execOp a.eval o).run P w = .ok (.value v) w := h1
 refine in_value hnd h1' ?_
 have hd2 : ∀ t, d = some t → t < a.tmps.size := fun t ht => by rw [hr.rel.size]; exact hdn t ht
 rw [hdst]
 refine hn s.H s.nx r rho _ w h3 ⟨⟨by rw [put_H]; exact hr.rel.heap, by rw [aput_size]; exact hr.rel.size, by rw [aput_defs]; exact hr.rel.defs, ?_⟩, by rw [put_nx]; exact hr.free⟩ (Vw.Leq.refl _) (fun _ _ _ => rfl) (Nat.le_refl _)
 rw [put_H]
 exact put_slots hr.rel.slot hd2 h2
def ptrOf : PV → Option (Bool × List PV)
 | .ptr c => some (false, c)
 | .fptr c => some (true, c)
 | _ => none
def Meet (xs ys : List PV) : Prop := ∃ (V : Vw) (v : Value), Rep V (.ptr xs) v ∧ Rep V (.ptr ys) v
theorem run_sameAddr_own {P : Program} {w : World} {a b : Addr} {ca cb : Array Value} {ta tb : TypeId} {fr : Nat × Nat} (hne : a.block ≠ b.block) (hc : ca.size ≠ 0) (hc' : cb.size ≠ 0) (ha : w.heap[a.block]? = some (.cells ca ta (0, 0))) (hb : w.heap[b.block]? = some (.cells cb tb fr)) :
  (sameAddr a b).run P w = .ok false w := by
 obtain ⟨k, hk⟩ := Nat.exists_eq_succ_of_ne_zero hc
 obtain ⟨m, hm⟩ := Nat.exists_eq_succ_of_ne_zero hc'
 simp [sameAddr, hne, World.frozen?, ha, hb, noView, viewAt, World.shape?, mayBeOne, stringish, hk, hm]
theorem run_sameAddr_own' {P : Program} {w : World} {a b : Addr} {ca cb : Array Value} {ta tb : TypeId} {fr : Nat × Nat} (hne : a.block ≠ b.block) (hc : ca.size ≠ 0) (hc' : cb.size ≠ 0) (ha : w.heap[a.block]? = some (.cells ca ta fr)) (hb : w.heap[b.block]? = some (.cells cb tb (0, 0))) :
  (sameAddr a b).run P w = .ok false w := by
 obtain ⟨k, hk⟩ := Nat.exists_eq_succ_of_ne_zero hc
 obtain ⟨m, hm⟩ := Nat.exists_eq_succ_of_ne_zero hc'
 simp [sameAddr, hne, World.frozen?, ha, hb, noView, viewAt, World.shape?, mayBeOne, stringish, hk, hm]
theorem ptrOf_rep {V : Vw} {p : PV} {f : Bool} {cs : List PV} {v : Value} (hp : ptrOf p = some (f, cs)) (hc : cs ≠ []) (h : Rep V p v) :
  ∃ b off c T fr, v = .pointer (some ⟨b, off, none⟩) ∧ Rep V (.ptr cs) v ∧ V.w.heap[b]? = some (.cells c T fr) ∧ c.size ≠ 0 ∧ (f = true → fr = (0, 0)) := by
 have key : ∀ v, Rep V (.ptr cs) v → ∃ b off c T fr, v = .pointer (some ⟨b, off, none⟩) ∧ V.w.heap[b]? = some (.cells c T fr) ∧ c.size ≠ 0 := by
  intro v h
  obtain ⟨b, off, vs, rfl, hok, hr, hcc⟩ := h.ptr_inv
  have hl : 0 < vs.length := by rw [hr.1]; exact List.length_pos_iff.2 hc
  have h0 := hcc 0 vs[0] (List.getElem?_eq_getElem hl)
  unfold World.cell? at h0
  split at h0
  ·rename_i c T fr hh
   simp only [Option.isSome_none, Bool.false_eq_true, if_false] at h0
   refine ⟨b, off, c, T, fr, rfl, hh, ?_⟩
   have := (Array.getElem?_eq_some_iff.1 h0).1
   omega
  ·cases h0
 cases p with
 | ptr c =>
  simp only [ptrOf, Option.some.injEq, Prod.mk.injEq] at hp
  obtain ⟨rfl, rfl⟩ := hp
  obtain ⟨b, off, c', T, fr, e, h1, h2⟩ := key v h
  exact ⟨b, off, c', T, fr, e, h, h1, h2, fun h => by cases h⟩
 | fptr c =>
  simp only [ptrOf, Option.some.injEq, Prod.mk.injEq] at hp
  obtain ⟨rfl, rfl⟩ := hp
  cases h with
  | fptr _ _ hcl h =>
   obtain ⟨b, off, c', T, fr, e, h1, h2⟩ := key v h
   obtain ⟨c2, T2, h3⟩ := hcl b off e
   rw [h1] at h3
   cases h3
   exact ⟨b, off, c', T, (0, 0), e, h, h1, h2, fun _ => rfl⟩
 | _ => simp [ptrOf] at hp
theorem o_peq {P : Program} {pure : Bool} {id : Nat} {d : Option Nat} {K : St → Prop} {s : St} {o : Oper} {T e U : TypeId} {x y : Operand} {f g : Bool} {cs ds : List PV} {n : Nat}
  (hop : o.op = .binOp .eql T x y U) (hd : o.dst = d) (hu : P.underlying T = some (.pointer e)) (hz : szOf P e = some (n + 1))
  (hx : ptrOf (ev s x) = some (f, cs)) (hy : ptrOf (ev s y) = some (g, ds)) (hfg : (f || g) = true) (hc : cs ≠ []) (hc' : ds ≠ [])
  (hk : ∀ t : Bool, (t = true → Meet cs ds) → K (put s d (.sc (.bool t)))) : opG P pure id ⟨d, .raw o, none⟩ K s := by
 refine opG_val hd (fun c e => by rw [hop] at e; cases e) fun V ρ hρ => ?_
 obtain ⟨b, off, c, Tb, fr, e1, h1, h2, h3, h4⟩ := ptrOf_rep hx hc (hρ x)
 obtain ⟨b', off', c', Tb', fr', e1', h1', h2', h3', h4'⟩ := ptrOf_rep hy hc' (hρ y)
 have key : ∃ t : Bool, (sameAddr ⟨b, off, none⟩ ⟨b', off', none⟩).run P V.w = .ok t V.w ∧ (t = true → Meet cs ds) := by
  by_cases hb : b = b'
  ·subst hb
   by_cases ho : off = off'
   ·subst ho
    exact ⟨true, run_sameAddr_same _ _, fun _ => ⟨V, _, h1, by rw [e1, ← e1']; exact h1'⟩⟩
   ·refine ⟨false, ?_, fun h => by cases h⟩
    simp [sameAddr, ho]
  ·refine ⟨false, ?_, fun h => by cases h⟩
   cases f with
   | true =>
    rw [h4 rfl] at h2
    exact run_sameAddr_own hb h3 h3' h2 h2'
   | false =>
    cases g with
    | true =>
     rw [h4' rfl] at h2'
     exact run_sameAddr_own' hb h3 h3' h2 h2'
    | false => cases hfg
 obtain ⟨t, ht, hm⟩ := key
 refine ⟨.sc (.bool t), .bool t, ?_, .sc _, hk t hm⟩
 obtain ⟨dst, op, ty, pos, af, gd⟩ := o
 simp only at hop
 subst hop
 have h9 : ∀ k : Nat, (Op.equalIn (k + 1) T (.pointer (some ⟨b, off, none⟩)) (.pointer (some ⟨b', off', none⟩))).run P V.w = .ok t V.w := fun k => by
  simp [Op.equalIn, run_under hu, run_size hz, ht]
 simp only [execOp, e1, e1', eqGuard, binOp, Op.equal, Op.maxDepth, Sem.run_bind, h9, Result.andThen_ok, Sem.run_pure]
 simp [h9]
end
section
theorem run_nil_slice {P : Program} {w : World} {T e : TypeId} {A : Option Addr} {len cap : Nat} (hu : P.underlying T = some (.slice e)) :
  (Op.equal T (.slice A len cap) (.slice none 0 0)).run P w = .ok A.isNone w := by
 have h9 : ∀ k : Nat, (Op.equalIn (k + 1) T (.slice A len cap) (.slice none 0 0)).run P w = .ok A.isNone w := fun k => by
  cases A <;> simp [Op.equalIn, run_under hu]
 simp [Op.equal, Op.maxDepth, h9 9999]
def slN : PV → Option Nat
 | .sl _ es => some es.length
 | .osl _ _ n _ => some n
 | .sc (.slice none 0 0) => some 0
 | _ => none
theorem slN_rep {V : Vw} {p : PV} {n : Nat} {v : Value} (hp : slN p = some n) (h : Rep V p v) : ∃ A len cap, v = .slice A len cap ∧ (A = none → n = 0) := by
 cases p with
 | sl sz es =>
  simp only [slN, Option.some.injEq] at hp
  subst hp
  cases h with
  | slNil _ A cap => exact ⟨A, 0, cap, rfl, fun _ => rfl⟩
  | sl _ _ b off len cap => exact ⟨_, _, _, rfl, fun h => by cases h⟩
 | osl id off len sz =>
  obtain ⟨b, cap, _, _, _, rfl, _⟩ := h.osl_inv
  exact ⟨_, _, _, rfl, fun h => by cases h⟩
 | sc u =>
  cases h
  unfold slN at hp
  split at hp
  ·rename_i h0; cases h0
  ·rename_i h0; cases h0
  ·rename_i h0
   cases h0
   cases hp
   exact ⟨none, 0, 0, rfl, fun _ => rfl⟩
  ·cases hp
 | _ => simp [slN] at hp
theorem o_slnil {P : Program} {pure : Bool} {id : Nat} {d : Option Nat} {K : St → Prop} {s : St} {o : Oper} {T e U : TypeId} {x : Operand} {n : Nat}
  (hop : o.op = .binOp .eql T x (.const (.slice none 0 0)) U) (hd : o.dst = d) (hu : P.underlying T = some (.slice e)) (hx : slN (ev s x) = some n)
  (hk : ∀ t : Bool, (t = true → n = 0) → K (put s d (.sc (.bool t)))) : opG P pure id ⟨d, .raw o, none⟩ K s := by
 refine opG_val hd (fun c e => by rw [hop] at e; cases e) fun V ρ hρ => ?_
 obtain ⟨A, len, cap, e1, h1⟩ := slN_rep hx (hρ x)
 have e2 : ρ (.const (.slice none 0 0)) = .slice none 0 0 := (hρ (.const (.slice none 0 0))).sc_inv
 refine ⟨.sc (.bool A.isNone), .bool A.isNone, ?_, .sc _, hk A.isNone fun h => h1 (by simpa using h)⟩
 obtain ⟨dst, op, ty, pos, af, gd⟩ := o
 simp only at hop
 subst hop
 simp only [execOp, e1, e2, eqGuard, binOp, Sem.run_bind, run_nil_slice hu, Result.andThen_ok, Sem.run_pure]
 simp [run_nil_slice hu]
end
section
def frgF (G : Nat → Bool) : Nat → (Nat → Option PObj) → PV → PV
 | 0, _, x => x
 | k + 1, H, .optr id off => if G id = true then (match H id with
  | some o => .fptr ((o.cells.drop off).map (frgF G k H))
  | none => .optr id off) else .optr id off
 | k + 1, H, .osl id off len sz => if G id = true then (match H id with
  | some o => if off + len * sz ≤ o.cells.length then .fsl sz (chunks sz len (((o.cells.drop off).take (len * sz)).map (frgF G k H))) else .osl id off len sz
  | none => .osl id off len sz) else .osl id off len sz
 | k + 1, H, .agg xs => .agg (xs.map (frgF G k H))
 | k + 1, H, .tup xs => .tup (xs.map (frgF G k H))
 | k + 1, H, .fn f xs => .fn f (xs.map (frgF G k H))
 | _ + 1, _, x => x
theorem frgF_sound {w0 : World} {ok0 : Nat → Prop} {G : Nat → Bool} {H : Nat → Option PObj} {rho : Nat → Option Nat} {w : World} (hH : RelH w0 ok0 H rho w) : ∀ (k : Nat) (x : PV) (v : Value), Rep (viewOf w0 ok0 H rho w) x v → Rep (viewOf w0 ok0 (less G H) rho w) (frgF G k H x) v := by
 have hok : ∀ id b o, G id = true → H id = some o → rho id = some b → w0.heap.size ≤ b → b < w.heap.size → (viewOf w0 ok0 (less G H) rho w).ok b := by
  intro id b o hg ho hr h1 h2
  refine ⟨.inr ⟨h1, h2⟩, fun id' o' ho' e => ?_⟩
  obtain ⟨h3, h4⟩ := less_some ho'
  have := hH.inj id id' b (by rw [ho]; simp) (by rw [h4]; simp) hr e
  rw [this, h3] at hg
  cases hg
 intro k
 induction k with
 | zero => intro x v h; exact h.mono (less_leq ..)
 | succ k ih =>
  intro x v h
  cases x with
  | optr id off =>
   simp only [frgF]
   split
   ·rename_i hg
    cases ho : H id with
    | none => exact h.mono (less_leq ..)
    | some o =>
     obtain ⟨b, rfl, hb⟩ := h.optr_inv
     obtain ⟨b', hb', hlow, hobj⟩ := hH.own id o ho
     have hb2 : rho id = some b := hb
     rw [hb2] at hb'
     cases hb'
     have hlt := hobj.lt
     have hk := hok id b o hg ho hb2 hlow hlt
     obtain ⟨c, T, hh, hle, _, hrr⟩ := hobj.cells h.optr_shape
     refine .fptr _ _ (fun b' off' e => by cases e; exact ⟨c, T, hh⟩) ?_
     by_cases hoff : off ≤ o.cells.length
     ·obtain ⟨vs, h1, h2, h3⟩ := obj_cells ⟨c, T, hh, hle, by assumption, hrr⟩ off (o.cells.length - off) (by omega)
      have e : (o.cells.drop off).take (o.cells.length - off) = o.cells.drop off := List.take_of_length_le (by simp)
      rw [e] at h1
      exact .ptr_mk hk (map_repl ih h1) h3
     ·have e : o.cells.drop off = [] := List.drop_eq_nil_of_le (by omega)
      show Rep _ (.ptr ((o.cells.drop off).map (frgF G k H))) _
      rw [e]
      exact .ptr_mk (vs := []) hk RepL.nil (fun i u hu => by simp at hu)
   ·exact h.mono (less_leq ..)
  | osl id off len sz =>
   simp only [frgF]
   split
   ·rename_i hg
    cases ho : H id with
    | none => exact h.mono (less_leq ..)
    | some o =>
     simp only []
     split
     ·rename_i hfit
      obtain ⟨b, cap, c0, T0, fr0, rfl, hb, h1, h2, hsh, _⟩ := h.osl_inv
      obtain ⟨b', hb', hlow, hobj⟩ := hH.own id o ho
      have hb2 : rho id = some b := hb
      rw [hb2] at hb'
      cases hb'
      have hlt := hobj.lt
      have hk := hok id b o hg ho hb2 hlow hlt
      obtain ⟨vs, h3, h4, h5⟩ := obj_cells (hobj.cells ⟨_, _, _, hsh⟩) off (len * sz) hfit
      have hm := map_repl (f := frgF G k H) ih h3
      obtain ⟨c1, c2, c3⟩ := chunks_spec sz len (((o.cells.drop off).take (len * sz)).map (frgF G k H)) (by simp; omega)
      obtain ⟨c, T, hh, _⟩ := hobj.cells ⟨_, _, _, hsh⟩
      refine .fsl _ _ _ (fun b' off' len' cap' e _ => by cases e; exact ⟨c, T, hh⟩) ?_
      refine .sl sz _ b off len cap c2 c3 h1 h2 ?_
      rw [c1]
      exact .ptr_mk hk hm h5
     ·exact h.mono (less_leq ..)
   ·exact h.mono (less_leq ..)
  | agg xs =>
   obtain ⟨vs, rfl, hr⟩ := h.agg_inv
   exact cells_rep (map_repl ih hr)
  | tup xs =>
   obtain ⟨vs, rfl, hr⟩ := h.tup_inv
   have := map_repl (f := frgF G k H) ih hr
   exact .tup _ _ this.1 this.2
  | fn f xs =>
   cases h with
   | fn _ _ vs hl hr =>
    have := map_repl (f := frgF G k H) (V := viewOf w0 ok0 H rho w) (V' := viewOf w0 ok0 (less G H) rho w) ih ⟨hl, hr⟩
    exact .fn f _ _ this.1 this.2
  | oit id => exact h.mono (less_leq ..)
  | omp id => exact h.mono (less_leq ..)
  | mkv kv => cases h
  | itm b p => cases h
  | sc u => exact h.mono (less_leq ..)
  | csl sz es => exact h.mono (less_leq ..)
  | ocap id off len sz => exact h.mono (less_leq ..)
  | fptr cs => exact h.mono (less_leq ..)
  | fsl sz es => exact h.mono (less_leq ..)
  | ptr cs => exact h.mono (less_leq ..)
  | sl sz es => exact h.mono (less_leq ..)
def lessC (G : Nat → Bool) (k : Nat) (H : Nat → Option PObj) : Nat → Option PObj := fun id => if G id = true then none else (H id).map fun o => ⟨o.cells.map (frgF G k H), o.whole⟩
theorem lessC_some {G : Nat → Bool} {k : Nat} {H : Nat → Option PObj} {id : Nat} {o : PObj} (h : lessC G k H id = some o) : less G H id ≠ none ∧ ∃ o0, H id = some o0 ∧ o = ⟨o0.cells.map (frgF G k H), o0.whole⟩ := by
 unfold lessC at h
 split at h
 ·cases h
 ·rename_i hg
  rw [Option.map_eq_some_iff] at h
  obtain ⟨o0, h1, h2⟩ := h
  refine ⟨?_, o0, h1, h2.symm⟩
  unfold less
  rw [if_neg hg, h1]
  simp
theorem less_lessC (w0 : World) (ok0 : Nat → Prop) (G : Nat → Bool) (k : Nat) (H : Nat → Option PObj) (rho : Nat → Option Nat) (w : World) : (viewOf w0 ok0 (less G H) rho w).Leq (viewOf w0 ok0 (lessC G k H) rho w) :=
 ⟨fun b hb => ⟨hb.1, fun id o ho => by
  obtain ⟨h1, _⟩ := lessC_some ho
  obtain ⟨o2, h2⟩ := Option.ne_none_iff_exists'.1 h1
  exact hb.2 id o2 h2⟩, fun _ _ => rfl, fun _ _ h => h, fun _ _ c T fr _ hh => ⟨c, T, fr, hh, Nat.le_refl _⟩, Nat.le_refl _⟩
theorem lessC_rel {w0 : World} {ok0 : Nat → Prop} {G : Nat → Bool} {k : Nat} {H : Nat → Option PObj} {rho : Nat → Option Nat} {w : World} (hH : RelH w0 ok0 H rho w) : RelH w0 ok0 (lessC G k H) rho w := by
 refine ⟨hH.okb, hH.bel, fun id o ho => ?_, fun id id' b h h' => ?_⟩
 ·obtain ⟨_, o0, h0, rfl⟩ := lessC_some ho
  obtain ⟨b, h1, h2, h3⟩ := hH.own id o0 h0
  refine ⟨b, h1, h2, ?_⟩
  rcases h3 with ⟨c, T, hh, l1, l2, l3⟩ | ⟨s, pos, rfl, hh⟩ | ⟨kv, es, clk, rfl, hh, hm⟩
  ·refine .inl ⟨c, T, hh, by simpa using l1, fun e => by simpa using l2 e, fun i x v hx hv => ?_⟩
   rw [List.getElem?_map, Option.map_eq_some_iff] at hx
   obtain ⟨y, hy, rfl⟩ := hx
   exact (frgF_sound hH k y v (l3 i y v hy hv)).mono (less_lessC ..)
  ·refine .inr (.inl ⟨s, pos, ?_, hh⟩)
   cases k <;> rfl
  ·refine .inr (.inr ⟨kv, es, clk, ?_, hh, hm⟩)
   cases k <;> rfl
 ·have key : ∀ id, lessC G k H id ≠ none → H id ≠ none := fun id h => by
   obtain ⟨o, ho⟩ := Option.ne_none_iff_exists'.1 h
   obtain ⟨_, o0, h0, _⟩ := lessC_some ho
   rw [h0]
   simp
  exact hH.inj id id' b (key id h) (key id' h')
theorem WeakL.len : ∀ {xs ys : List PV}, WeakL xs ys → xs.length = ys.length
 | [], [], _ => rfl
 | x :: xs, y :: ys, h => by simp [WeakL.len h.2]
 | [], _ :: _, h => h.elim
 | _ :: _, [], h => h.elim
theorem WeakL.get : ∀ {xs ys : List PV} {i : Nat} {y : PV}, WeakL xs ys → ys[i]? = some y → ∃ x, xs[i]? = some x ∧ Weak x y
 | x :: xs, y :: ys, 0, z, h, hz => by simp at hz; subst hz; exact ⟨x, rfl, h.1⟩
 | x :: xs, y :: ys, i + 1, z, h, hz => by simpa using WeakL.get h.2 (by simpa using hz)
 | [], [], _, _, _, hz => by simp at hz
 | [], _ :: _, _, _, h, _ => h.elim
 | _ :: _, [], _, _, h, _ => h.elim
theorem ZSt.frg (t : Nat) (G : Nat → Bool) (k : Nat) (f : Nat → PV) (H : Nat → Option PObj) (nx : Nat) : ZSt t ⟨f, H, nx⟩ ⟨upd f t (frgF G k H (f t)), less G H, nx⟩ := by
 refine ⟨rfl, fun u hu => upd_ne _ _ hu, fun df w0 ok0 n rho a w hr => ⟨⟨⟨less_rel hr.rel.heap, hr.rel.size, hr.rel.defs, fun u => ?_⟩, hr.free⟩, less_leq ..⟩⟩
 by_cases h : u = t
 ·subst h
  show Rep _ (upd f u _ u) _
  rw [upd_same]
  exact frgF_sound hr.rel.heap k _ _ (hr.rel.slot u)
 ·show Rep _ (upd f t _ u) _
  rw [upd_ne _ _ h]
  exact (hr.rel.slot u).mono (less_leq ..)
end
section
set_option maxRecDepth 100000
open Go.ChangeShapes Go.WideShapes Go.ChangeAt Go.RowKit
theorem own : ownKnob Try.prog.godebug = none := by kernel_rfl
theorem laidOut : laidOutB Try.prog = true := by kernel_rfl
def allV (W : World) : Vw := ⟨W, fun b => b < W.heap.size, fun _ => none⟩
theorem rep_row {W : World} {x : Addr} {vs : List Value} {cs : List PV} (hl : vs.length = cs.length) (h0 : 0 < vs.length) (hcell : ∀ i (h : i < vs.length), W.cell? (x.add i) = some vs[i])
  (hr : ∀ (i : Nat) (c : PV) (v : Value), cs[i]? = some c → vs[i]? = some v → Rep (allV W) c v) : ∃ b off, x = ⟨b, off, none⟩ ∧ Rep (allV W) (.ptr cs) (.pointer (some ⟨b, off, none⟩)) := by
 obtain ⟨b, off, spot⟩ := x
 have h1 := hcell 0 h0
 have hspot : spot = none := by simpa [Addr.add] using World.cell?_spot h1
 subst hspot
 have hb : b < W.heap.size := by simpa [Addr.add] using World.block_lt_of_cell? W _ h1
 refine ⟨b, off, rfl, .ptr cs b off vs hb hl (fun i v hv => ?_) hr⟩
 obtain ⟨hj, rfl⟩ := List.getElem?_eq_some_iff.1 hv
 have := hcell i hj
 have e : (⟨b, off, none⟩ : Addr).add i = ⟨b, off + i, none⟩ := by unfold Addr.add; split <;> simp_all
 rwa [e] at this
section
variable {H : Type} {enc : TypeId × Value → H} {W : World} {a : Option Addr} {len cap : Nat} {d : DataW H} {p : List MemPlace}
end
section
variable {H : Type} (enc : TypeId × Value → H) (W : World) (sp : Nat → Bool) (hd : Bool)
def OpAt {α : Type} (n : Nat) (t : TypeId) (pvs : α → List PV) : Prop :=
 ∀ cs x, DataW.trod enc Try.prog W 0 sp hd n t cs = some x → ∃ a, RepL (allV W) (pvs a) cs
variable {enc W sp hd}
theorem op_zero {α : Type} {t : TypeId} {pvs : α → List PV} : OpAt enc W sp hd 0 t pvs := fun cs x h => by simp [DataW.trod] at h
theorem op_int {n : Nat} {t : TypeId} {k : IntKind} (ht : Try.prog.underlying t = some (.int k)) : OpAt enc W sp hd n t (fun z : Int => [.sc (.int k z)]) := fun cs x h => by
 obtain ⟨z, rfl, _⟩ := DataW.trod_int ht h
 exact ⟨z, RepL.cons (.sc _) RepL.nil⟩
theorem op_string {n : Nat} {t : TypeId} (ht : Try.prog.underlying t = some .string) : OpAt enc W sp hd n t (fun z : {s : ByteArray // s.size ≤ maxLen} => [.sc (.string z.1)]) := fun cs x h => by
 obtain ⟨z, rfl, _, hm⟩ := DataW.trod_string ht h
 exact ⟨⟨z, hm⟩, RepL.cons (.sc _) RepL.nil⟩
theorem addr_add2 (a : Addr) (i j : Nat) : (a.add i).add j = a.add (i + j) := by
 unfold Addr.add
 by_cases hi : i = 0 <;> by_cases hj : j = 0 <;> simp [hi, hj, Nat.add_assoc]
theorem op_rows {α : Type} {n c : Nat} {e : TypeId} {pvs : α → List PV} {a : Addr} (he : OpAt enc W sp hd n e pvs) (hc : Try.prog.cellsOf e = c) (h0 : 0 < c) (elems : List (DataW H × List MemPlace)) :
  ∀ k, k ≤ elems.length → (∀ i, i < k → (W.cells? 0 (a.add (i * c)) c).bind (DataW.trod enc Try.prog W 0 sp hd n e) = elems[i]?) →
   ∃ (zs : List α) (vs : List Value), zs.length = k ∧ vs.length = k * c ∧ (∀ q ∈ zs.map pvs, q.length = c) ∧ RepL (allV W) (zs.map pvs).flatten vs ∧ ∀ j, j < k * c → W.cell? (a.add j) = vs[j]? := by
 intro k
 induction k with
 | zero => intro _ _; exact ⟨[], [], rfl, by simp, by simp, RepL.nil, fun j hj => by omega⟩
 | succ k ih =>
  intro hk hel
  obtain ⟨zs, vs, h1, h2, h3, h4, h5⟩ := ih (by omega) fun i hi => hel i (by omega)
  have hlast := hel k (by omega)
  rw [List.getElem?_eq_getElem (show k < elems.length by omega), Option.bind_eq_some_iff] at hlast
  obtain ⟨cs, hcs, hx⟩ := hlast
  obtain ⟨z, hz⟩ := he cs _ hx
  obtain ⟨_, hl, hcell⟩ := World.cells?_some hcs
  have hsucc : (k + 1) * c = k * c + c := by rw [Nat.succ_mul]
  refine ⟨zs ++ [z], vs ++ cs, by simp [h1], by rw [List.length_append, h2, hl, hsucc], ?_, ?_, fun j hj => ?_⟩
  ·intro q hq
   simp only [List.map_append, List.mem_append] at hq
   rcases hq with hq | hq
   ·exact h3 q hq
   ·simp at hq; rw [hq, ← hz.1, hl]
  ·rw [List.map_append, List.flatten_append]
   refine h4.append ?_
   simpa using hz
  ·by_cases hj2 : j < k * c
   ·rw [List.getElem?_append_left (by omega)]; exact h5 j hj2
   ·rw [List.getElem?_append_right (by omega), h2]
    have := hcell (j - k * c) (by omega)
    rw [addr_add2] at this
    rwa [show k * c + (j - k * c) = j by omega] at this
theorem op_slice {α : Type} {n c : Nat} {t e : TypeId} {pvs : α → List PV} (ht : Try.prog.underlying t = some (.slice e)) (hc : Try.prog.cellsOf e = c) (h0 : 0 < c) (he : OpAt enc W sp hd n e pvs) : OpAt enc W sp hd (n + 1) t (fun l : List α => [.sl c (l.map pvs)]) := by
 intro cs x h
 rcases DataW.trod_slice ht h with ⟨rfl, _⟩ | ⟨a, len, cap, elems, rest, m, hm, rfl, _, _, hl, hcap, hlen, hel, _⟩
 ·exact ⟨[], RepL.cons (.slNil c none 0 (Nat.zero_le _)) RepL.nil⟩
 ·cases hm
  rw [hc] at hel
  obtain ⟨zs, vs, h1, h2, h3, h4, h5⟩ := op_rows he hc h0 elems len (by omega) hel
  refine ⟨zs, RepL.cons ?_ RepL.nil⟩
  by_cases hz : len = 0
  ·subst hz
   obtain rfl : zs = [] := List.eq_nil_of_length_eq_zero h1
   exact .slNil c _ _ hcap
  ·have hpos : 0 < len * c := Nat.mul_pos (by omega) h0
   obtain ⟨b, off, rfl, hp⟩ := rep_row (W := W) (x := a) (vs := vs) (cs := (zs.map pvs).flatten) h4.1 (by omega) (fun i hi => by rw [h5 i (by omega), List.getElem?_eq_getElem hi]) h4.2
   exact .sl c _ b off len cap (by simp [h1]) h3 hl hcap hp
theorem op_field {α : Type} {n c off : Nat} {T : TypeId} {fs : Array Field} {xs : List (DataW H × List MemPlace)} {cs : List Value} {pvs : α → List PV} {i : Nat} {f : Field}
  (hx : ∀ (i : Nat) (f : Field), fs[i]? = some f → DataW.trod enc Try.prog W 0 sp hd n f.type ((cs.drop f.offset).take (Try.prog.cellsOf f.type)) = xs[i]?) (hl : xs.length = fs.size)
  (hf : fs[i]? = some f) (hT : f.type = T) (ho : f.offset = off) (hc : Try.prog.cellsOf T = c) (h : OpAt enc W sp hd n T pvs) : ∃ a, RepL (allV W) (pvs a) ((cs.drop off).take c) := by
 have h1 := hx i f hf
 have hi : i < xs.length := by rw [hl]; exact (Array.getElem?_eq_some_iff.1 hf).1
 rw [List.getElem?_eq_getElem hi, hT, ho, hc] at h1
 exact h _ _ h1
theorem rep_split {V : Vw} {xs ys : List PV} {cs : List Value} {off c : Nat} (h : RepL V xs (cs.take off)) (k : RepL V ys ((cs.drop off).take c)) : RepL V (xs ++ ys) (cs.take (off + c)) := by
 rw [List.take_add]
 exact h.append k
end
theorem okW_struct {W : World} {r : Reach} {b : Nat} {t : TypeId} {v : Value} {fs : Array Field} (ht : Try.prog.underlying t = some (.struct fs)) (h : Value.okWide Try.prog W r b t v) : ∃ cs, v = .agg cs := by
 unfold Value.okWide at h
 rw [ht] at h
 obtain ⟨cs, h1, _⟩ := h
 exact ⟨cs, h1⟩
theorem trod_agg {α : Type} {H : Type} {enc : TypeId × Value → H} {W : World} {t : TypeId} {cs : Array Value} {d : DataW H} {p : List MemPlace} {pvs : α → List PV} (ho : ∀ n, OpAt enc W (fun _ => true) true n t pvs)
  (h : DataW.Trod enc Try.prog W 0 (fun _ => true) true t (.agg cs) d p) : ∃ a, Rep (allV W) (.agg (pvs a)) (.agg cs) := by
 obtain ⟨n, h⟩ := h
 obtain ⟨a, ha⟩ := ho n _ _ h
 have e : (Value.agg cs).cells.toList = cs.toList := rfl
 rw [e] at ha
 refine ⟨a, ?_⟩
 have := cells_rep ha
 simpa using this
theorem pure_run {f : FuncId} {args : List PV} {b : Bool} {vals : List Value} {W : World} (h : PPure Try.prog f args (.sc (.bool b))) (ha : RepL (allV W) args vals) :
  Calls Try.prog f vals.toArray W fun e W' => e = .returned (.bool b) ∧ Below W.heap.size W W' := by
 refine (h.2 (allV W) 0 vals (fun b h => h) (fun _ _ => rfl) ha).mono ?_
 rintro e W' ⟨v, rfl, hb, hr⟩
 cases hr.sc_inv
 exact ⟨rfl, hb⟩
end
end Go.Proofs.Ytnelciclibknpaa
