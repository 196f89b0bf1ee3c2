/-
  Which operations change places, and why.
-/
import Derived.Test.YtifebfkkciaddaaPvJ
set_option linter.unusedVariables false
set_option linter.unusedSimpArgs false
namespace Go.Proofs.Ytifebfkkciaddaa
open Go.RowKit

def slotOf : Operand → List Nat
  | .tmp t => [t]
  | _ => []
def reads (o : MO) : List Nat :=
  (match o.guard with
   | some (t, _) => [t]
   | none => []) ++ (opds o.op).flatMap slotOf
def writes (o : MO) : List Nat :=
  o.dst.toList ++ (match o.op with
   | .st (.tmp t) _ _ true => [t]
   | _ => [])
/-- The slots of addresses that are looked behind. -/
def adr : MOp → List Nat
  | .ld x _ _ | .st x _ _ _ => slotOf x
  | .app _ _ x y => slotOf x ++ slotOf y
  | .call _ xs => xs.flatMap slotOf
  | .calv x xs => (x :: xs).flatMap slotOf
  | _ => []
/-- 0: no memory; 1: reads it; 2: a new block; 3: writes it. -/
def hk : MOp → Nat
  | .ld .. | .call .. | .calv .. => 1
  | .al .. | .bx .. | .bsl .. | .mks .. => 2
  | .st .. | .app .. => 3
  | _ => 0
def disj (a b : List Nat) : Bool := a.all fun t => !b.contains t
def indep (y x : MO) : Bool :=
  disj (writes y) (reads x) && disj (writes y) (writes x) && disj (writes x) (reads y) && !(hk y.op == 3 && hk x.op != 0) && !(hk x.op == 3 && hk y.op != 0)

theorem disj_spec {a b : List Nat} (h : disj a b = true) {t : Nat} (ha : t ∈ a) : t ∉ b := by
  have := List.all_eq_true.1 h t ha
  simpa using this

theorem ev_congr {s s' : St} {x : Operand} (h : ∀ t ∈ slotOf x, s'.s t = s.s t) : ev s' x = ev s x := by
  cases x with
  | tmp t => exact h t (by simp [slotOf])
  | _ => rfl

theorem evs_congr {s s' : St} {xs : List Operand} (h : ∀ t ∈ xs.flatMap slotOf, s'.s t = s.s t) : xs.map (ev s') = xs.map (ev s) := by
  apply List.map_congr_left
  intro x hx
  exact ev_congr fun t ht => h t (List.mem_flatMap.2 ⟨x, hx, ht⟩)

theorem parts_congr {s s' : St} : ∀ {ps : List (Nat × Nat × Operand)}, (∀ t ∈ (ps.map (·.2.2)).flatMap slotOf, s'.s t = s.s t) → partsP s' ps = partsP s ps
  | [], _ => rfl
  | (off, sz, x) :: r, h => by
    have e1 : ev s' x = ev s x := ev_congr fun t ht => h t (by simp [ht])
    have e2 := parts_congr (ps := r) fun t ht => h t (by simp only [List.map_cons, List.flatMap_cons, List.mem_append]; exact .inr ht)
    simp only [partsP, e1, e2]

theorem load_congr {s s' : St} {x : Operand} {sz : Nat} {cs : List PV} (he : ev s' x = ev s x) (hh : ∀ t ∈ slotOf x, ∀ id off, s.s t = .optr id off → s.H id ≠ none → s'.H id = s.H id) (h : loadP s (ev s x) sz = some cs) : loadP s' (ev s' x) sz = some cs := by
  rw [he]
  cases x with
  | tmp t =>
    generalize hp : ev s (.tmp t) = p at *
    cases p with
    | optr id off =>
      simp only [loadP] at h ⊢
      cases ho : s.H id with
      | none => simp [ho] at h
      | some o =>
        have := hh t (by simp [slotOf]) id off hp (by rw [ho]; simp)
        rw [this]
        exact h
    | _ => exact h
  | _ => simp [ev, loadP] at h

theorem storeP_congr {s s' : St} {x : Operand} {xs : List PV} {q : Nat × PObj} (he : ev s' x = ev s x) (hh : ∀ t ∈ slotOf x, ∀ id off, s.s t = .optr id off → s.H id ≠ none → s'.H id = s.H id) (h : storeP s (ev s x) xs = some q) : storeP s' (ev s' x) xs = some q := by
  rw [he]
  cases x with
  | tmp t =>
    generalize hp : ev s (.tmp t) = p at *
    cases p with
    | optr id off =>
      simp only [storeP] at h ⊢
      cases ho : s.H id with
      | none => simp [ho] at h
      | some o =>
        have := hh t (by simp [slotOf]) id off hp (by rw [ho]; simp)
        rw [this]
        exact h
    | _ => exact h
  | _ => simp [ev, storeP] at h

theorem oldOf_sc (s s' : St) (sz : Nat) (v : Value) : oldOf s sz (.sc v) = oldOf s' sz (.sc v) ∧ ∀ q, oldOf s sz (.sc v) = some q → q.1 = none := by
  cases v with
  | slice A n c =>
    cases A with
    | some ad => exact ⟨rfl, fun q h => by simp [oldOf] at h⟩
    | none =>
      cases n with
      | succ k => exact ⟨rfl, fun q h => by simp [oldOf] at h⟩
      | zero =>
        cases c with
        | succ k => exact ⟨rfl, fun q h => by simp [oldOf] at h⟩
        | zero => exact ⟨rfl, fun q h => by simp only [oldOf, Option.some.injEq] at h; rw [← h]⟩
  | _ => exact ⟨rfl, fun q h => by simp [oldOf] at h⟩
theorem rowOf_sc (s s' : St) (sz : Nat) (v : Value) : rowOf s sz (.sc v) = rowOf s' sz (.sc v) := by
  cases v with
  | slice A n c =>
    cases A with
    | some ad => rfl
    | none =>
      cases n with
      | succ k => rfl
      | zero => cases c <;> rfl
  | _ => rfl

theorem osl_heap {s s' : St} {x : Operand} (hh : ∀ t ∈ slotOf x, ∀ id : Nat, ((∃ off, s.s t = .optr id off) ∨ ∃ off len sz, s.s t = .osl id off len sz) → s.H id ≠ none → s'.H id = s.H id) {id off len sz : Nat} (he : ev s x = .osl id off len sz) (hn : s.H id ≠ none) : s'.H id = s.H id := by
  cases x with
  | tmp t => exact hh t (by simp [slotOf]) id (.inr ⟨off, len, sz, he⟩) hn
  | _ => simp [ev] at he

theorem oldOf_congr {s s' : St} {x : Operand} {sz : Nat} {q : Option Nat × List PV × Nat} (he : ev s' x = ev s x) (hh : ∀ t ∈ slotOf x, ∀ id : Nat, ((∃ off, s.s t = .optr id off) ∨ ∃ off len sz, s.s t = .osl id off len sz) → s.H id ≠ none → s'.H id = s.H id) (h : oldOf s sz (ev s x) = some q) : oldOf s' sz (ev s' x) = some q := by
  rw [he]
  have key := fun {id off len sz} => osl_heap (s := s) (s' := s') (x := x) hh (id := id) (off := off) (len := len) (sz := sz)
  generalize ev s x = p at h key
  cases p with
  | osl id off len sz' =>
    cases off with
    | succ k => simp [oldOf] at h
    | zero =>
      simp only [oldOf] at h ⊢
      cases ho : s.H id with
      | none => simp [ho] at h
      | some o =>
        rw [key rfl (by rw [ho]; simp)]
        simpa only [ho] using h
  | sc v => rw [← (oldOf_sc s s' sz v).1]; exact h
  | _ => simp [oldOf] at h

theorem rowOf_congr {s s' : St} {x : Operand} {sz : Nat} {q : List PV} (he : ev s' x = ev s x) (hh : ∀ t ∈ slotOf x, ∀ id : Nat, ((∃ off, s.s t = .optr id off) ∨ ∃ off len sz, s.s t = .osl id off len sz) → s.H id ≠ none → s'.H id = s.H id) (h : rowOf s sz (ev s x) = some q) : rowOf s' sz (ev s' x) = some q := by
  rw [he]
  have key := fun {id off len sz} => osl_heap (s := s) (s' := s') (x := x) hh (id := id) (off := off) (len := len) (sz := sz)
  generalize ev s x = p at h key
  cases p with
  | osl id off len sz' =>
    simp only [rowOf] at h ⊢
    cases ho : s.H id with
    | none => simp [ho] at h
    | some o =>
      rw [key rfl (by rw [ho]; simp)]
      simpa only [ho] using h
  | sc v => rw [← rowOf_sc s s' sz v]; exact h
  | sl sz es => exact h
  | _ => simp [rowOf] at h

theorem effM_congr {id : Nat} {o : MO} {s s' : St} {E : Eff} (hr : ∀ t ∈ (opds o.op).flatMap slotOf, s'.s t = s.s t) (hh0 : ∀ t ∈ adr o.op, ∀ id : Nat, ((∃ off, s.s t = .optr id off) ∨ ∃ off len sz, s.s t = .osl id off len sz) → s.H id ≠ none → s'.H id = s.H id)
    (h : effM id o s = some E) : effM id o s' = some E := by
  have hh : ∀ t ∈ adr o.op, ∀ id off, s.s t = .optr id off → s.H id ≠ none → s'.H id = s.H id := fun t ht id off e hn => hh0 t ht id (.inl ⟨off, e⟩) hn
  obtain ⟨dst, op, g⟩ := o
  have e1 : ∀ x ∈ opds op, ev s' x = ev s x := fun x hx => ev_congr fun t ht => hr t (List.mem_flatMap.2 ⟨x, hx, ht⟩)
  cases op with
  | al zero => exact h
  | bx x own =>
    have := e1 x (by simp [opds])
    simp only [effM, this] at h ⊢
    exact h
  | bsl sz len zero parts own =>
    have := parts_congr (s := s) (s' := s') (ps := parts) hr
    simp only [effM, this] at h ⊢
    exact h
  | mks sz bytes zero l c =>
    have h1 := e1 l (by simp [opds])
    have h2 := e1 c (by simp [opds])
    simp only [effM, h1, h2] at h ⊢
    exact h
  | st x v sz fz =>
    have h1 := e1 x (by simp [opds])
    have h2 := e1 v (by simp [opds])
    simp only [effM, h2] at h ⊢
    split at h
    · rename_i hc
      rw [if_pos hc]
      simp only [Option.bind_eq_some_iff] at h
      obtain ⟨q, hq, h⟩ := h
      rw [storeP_congr h1 hh hq]
      simp only [Option.bind_some, h1]
      exact h
    · cases h
  | ld x sz ag =>
    have h1 := e1 x (by simp [opds])
    simp only [effM, val, Option.map_eq_some_iff, Option.bind_eq_some_iff] at h ⊢
    obtain ⟨y, ⟨cs, hcs, hy⟩, hE⟩ := h
    exact ⟨y, ⟨cs, load_congr h1 hh hcs, hy⟩, hE⟩
  | bld zero parts =>
    have := parts_congr (s := s) (s' := s') (ps := parts) hr
    simp only [effM, val, this] at h ⊢
    exact h
  | mkf f caps =>
    have := evs_congr (s := s) (s' := s') (xs := caps) hr
    simp only [effM, val, this] at h ⊢
    exact h
  | mm mx xs =>
    have := evs_congr (s := s) (s' := s') (xs := xs) hr
    simp only [effM, val, this] at h ⊢
    exact h
  | app sz bytes x y =>
    have h1 := e1 x (by simp [opds])
    have h2 := e1 y (by simp [opds])
    have hx : ∀ t ∈ slotOf x, ∀ id : Nat, ((∃ off, s.s t = .optr id off) ∨ ∃ off len sz, s.s t = .osl id off len sz) → s.H id ≠ none → s'.H id = s.H id := fun t ht => hh0 t (by simp [adr, ht])
    have hy : ∀ t ∈ slotOf y, ∀ id : Nat, ((∃ off, s.s t = .optr id off) ∨ ∃ off len sz, s.s t = .osl id off len sz) → s.H id ≠ none → s'.H id = s.H id := fun t ht => hh0 t (by simp [adr, ht])
    simp only [effM, appE, Option.map_eq_some_iff, Option.bind_eq_some_iff] at h ⊢
    obtain ⟨q, ⟨q1, hq1, q2, hq2, m, hm, hq⟩, hE⟩ := h
    exact ⟨q, ⟨q1, oldOf_congr h1 hx hq1, q2, rowOf_congr h2 hy hq2, m, by rw [h2]; exact hm, hq⟩, hE⟩
  | pick c y z =>
    have h1 := e1 c (by simp [opds])
    have h2 := e1 y (by simp [opds])
    have h3 := e1 z (by simp [opds])
    simp only [effM, val, h1, h2, h3] at h ⊢
    exact h
  | bin b x y =>
    have h1 := e1 x (by simp [opds])
    have h2 := e1 y (by simp [opds])
    simp only [effM, val, h1, h2] at h ⊢
    exact h
  | eqa ne t x y =>
    have h1 := e1 x (by simp [opds])
    have h2 := e1 y (by simp [opds])
    simp only [effM, val, h1, h2] at h ⊢
    exact h
  | ia x y sz =>
    have h1 := e1 x (by simp [opds])
    have h2 := e1 y (by simp [opds])
    simp only [effM, val, h1, h2] at h ⊢
    exact h
  | iaa x y l sz =>
    have h1 := e1 x (by simp [opds])
    have h2 := e1 y (by simp [opds])
    simp only [effM, val, h1, h2] at h ⊢
    exact h
  | ix x y l sz ag =>
    have h1 := e1 x (by simp [opds])
    have h2 := e1 y (by simp [opds])
    simp only [effM, val, h1, h2] at h ⊢
    exact h
  | ixs x y =>
    have h1 := e1 x (by simp [opds])
    have h2 := e1 y (by simp [opds])
    simp only [effM, val, h1, h2] at h ⊢
    exact h
  | mv x => have h1 := e1 x (by simp [opds]); simp only [effM, val, h1] at h ⊢; exact h
  | un b x => have h1 := e1 x (by simp [opds]); simp only [effM, val, h1] at h ⊢; exact h
  | nilc x => have h1 := e1 x (by simp [opds]); simp only [effM, val, h1] at h ⊢; exact h
  | fa x off => have h1 := e1 x (by simp [opds]); simp only [effM, val, h1] at h ⊢; exact h
  | fd x off sz ag => have h1 := e1 x (by simp [opds]); simp only [effM, val, h1] at h ⊢; exact h
  | len x str => have h1 := e1 x (by simp [opds]); simp only [effM, val, h1] at h ⊢; exact h
  | ext x i => have h1 := e1 x (by simp [opds]); simp only [effM, val, h1] at h ⊢; exact h
  | _ => simp [effM, val] at h

theorem callee_congr {s s' : St} {m : MOp} (hr : ∀ t ∈ (opds m).flatMap slotOf, s'.s t = s.s t) : calleeP s' m = calleeP s m := by
  cases m with
  | call f xs => simp only [calleeP]; rw [evs_congr (xs := xs) hr]
  | calv x xs =>
    have h1 : ev s' x = ev s x := ev_congr fun t ht => hr t (by simp [opds, ht])
    have h2 : xs.map (ev s') = xs.map (ev s) := evs_congr fun t ht => hr t (by simp only [opds, List.flatMap_cons, List.mem_append]; exact .inr ht)
    simp only [calleeP, h1, h2]
  | _ => rfl

def DoesP (P : Program) (id : Nat) (o : MO) (s : St) (E : Eff) : Prop :=
  if o.op.isCall = true then ∃ f args r, calleeP s o.op = some (f, args) ∧ CallV P o.op.lend f args s.H r ∧ E = ⟨slD o.dst r, []⟩
  else effM id o s = some E

def DoesG (P : Program) (id : Nat) (o : MO) (s : St) (E : Eff) : Prop :=
  match o.guard with
  | none => DoesP P id o s E
  | some (t, want) => match s.s t with
    | .sc (.bool b) => if b = want then DoesP P id o s E else E = ⟨slD o.dst (.sc undef), []⟩
    | .sc (.tuple _) => E = ⟨slD o.dst (.sc undef), []⟩
    | _ => False

theorem opP_does {P : Program} {id : Nat} {o : MO} {K : St → Prop} {s : St} : opP P true id o K s ↔ ∃ E, DoesP P id o s E ∧ K (E.app s) := by
  unfold opP DoesP
  by_cases hc : o.op.isCall = true
  · rw [if_pos hc]
    simp only [if_pos hc]
    constructor
    · intro h
      split at h
      · rename_i f args hf
        rcases h with ⟨r, hp, hk⟩ | ⟨h0, _⟩
        · exact ⟨_, ⟨f, args, r, hf, hp, rfl⟩, by rw [app_slD]; exact hk⟩
        · cases h0
      · exact h.elim
    · rintro ⟨E, ⟨f, args, r, hf, hp, rfl⟩, hk⟩
      rw [hf]
      rw [app_slD] at hk
      exact .inl ⟨r, hp, hk⟩
  · rw [if_neg hc]
    simp only [if_neg hc, stepM_eff]
    constructor
    · intro h
      cases he : effM id o s with
      | none => simp [he] at h
      | some E => simp [he] at h; exact ⟨E, rfl, h⟩
    · rintro ⟨E, he, hk⟩
      simp only [he, Option.map_some]
      exact hk

theorem opG_does {P : Program} {id : Nat} {o : MO} {K : St → Prop} {s : St} : opG P true id o K s ↔ ∃ E, DoesG P id o s E ∧ K (E.app s) := by
  unfold opG DoesG
  cases hg : o.guard with
  | none => exact opP_does
  | some q =>
    obtain ⟨t, want⟩ := q
    simp only []
    generalize s.s t = p
    cases p with
    | sc v =>
      cases v with
      | bool b =>
        simp only []
        by_cases hb : b = want
        · simp only [if_pos hb]; exact opP_does
        · simp only [if_neg hb]
          constructor
          · intro h; exact ⟨_, rfl, by rw [app_slD]; exact h⟩
          · rintro ⟨E, rfl, h⟩; rw [app_slD] at h; exact h
      | tuple _ =>
        simp only []
        constructor
        · intro h; exact ⟨_, rfl, by rw [app_slD]; exact h⟩
        · rintro ⟨E, rfl, h⟩; rw [app_slD] at h; exact h
      | _ => simp
    | _ => simp

theorem brw_congr {H H' : Nat → Option PObj} {x : PV} (hi : (brw H x).imm = true) (hh : ∀ id : Nat, ((∃ off, x = .optr id off) ∨ ∃ off len sz, x = .osl id off len sz) → H id ≠ none → H' id = H id) : brw H' x = brw H x := by
  cases x with
  | optr id off =>
    cases ho : H id with
    | none => simp [brw, ho, PV.imm] at hi
    | some o => simp only [brw, hh id (.inl ⟨off, rfl⟩) (by rw [ho]; simp)]
  | osl id off len sz =>
    cases ho : H id with
    | none => simp [brw, ho, PV.imm] at hi
    | some o => simp only [brw, hh id (.inr ⟨off, len, sz, rfl⟩) (by rw [ho]; simp)]
  | _ => rfl
theorem caps_imm {H : Nat → Option PObj} : ∀ (xs : List PV), immL (xs.map (brw H)) = true → ∀ (H' : Nat → Option PObj), (∀ x ∈ xs, ∀ id : Nat, ((∃ off, x = .optr id off) ∨ ∃ off len sz, x = .osl id off len sz) → H id ≠ none → H' id = H id) → xs.map (brw H') = xs.map (brw H)
  | [], _, _, _ => rfl
  | x :: r, h, H', hh => by
    simp only [List.map_cons, immL, Bool.and_eq_true] at h ⊢
    rw [brw_congr h.1 (hh x (by simp)), caps_imm r h.2 H' fun y hy => hh y (by simp [hy])]
theorem callV_congr {P : Program} {s s' : St} {m : MOp} {f : FuncId} {args : List PV} {r : PV} (hc : calleeP s m = some (f, args)) (hh : ∀ t ∈ adr m, ∀ id : Nat, ((∃ off, s.s t = .optr id off) ∨ ∃ off len sz, s.s t = .osl id off len sz) → s.H id ≠ none → s'.H id = s.H id)
    (h : CallV P m.lend f args s.H r) : CallV P m.lend f args s'.H r := by
  rcases h with h | ⟨h0, h1, h2, h3⟩
  · exact .inl h
  · cases m with
    | call g xs =>
      simp only [calleeP, Option.some.injEq, Prod.mk.injEq] at hc
      obtain ⟨rfl, rfl⟩ := hc
      have e : (xs.map (ev s)).map (brw s'.H) = (xs.map (ev s)).map (brw s.H) := by
        refine caps_imm _ h2 s'.H fun x hx id hid hn => ?_
        obtain ⟨y, hy, rfl⟩ := List.mem_map.1 hx
        cases y with
        | tmp t => exact hh t (List.mem_flatMap.2 ⟨_, hy, by simp [slotOf]⟩) id hid hn
        | _ =>
          rcases hid with ⟨_, e⟩ | ⟨_, _, _, e⟩ <;> simp [ev] at e
      exact .inr ⟨h0, h1, by rw [e]; exact h2, by rw [e]; exact h3⟩
    | _ => simp [MOp.lend] at h0

theorem DoesG_congr {P : Program} {id : Nat} {o : MO} {s s' : St} {E : Eff} (hr : ∀ t ∈ reads o, s'.s t = s.s t) (hh : ∀ t ∈ adr o.op, ∀ id : Nat, ((∃ off, s.s t = .optr id off) ∨ ∃ off len sz, s.s t = .osl id off len sz) → s.H id ≠ none → s'.H id = s.H id)
    (h : DoesG P id o s E) : DoesG P id o s' E := by
  have hr2 : ∀ t ∈ (opds o.op).flatMap slotOf, s'.s t = s.s t := fun t ht => hr t (by simp only [reads, List.mem_append]; exact .inr ht)
  have hP : DoesP P id o s E → DoesP P id o s' E := by
    intro hd
    unfold DoesP at hd ⊢
    split at hd
    · rename_i hc
      rw [if_pos hc, callee_congr hr2]
      obtain ⟨f, args, r, h1, h2, h3⟩ := hd
      exact ⟨f, args, r, h1, callV_congr h1 hh h2, h3⟩
    · rename_i hc
      rw [if_neg hc]
      exact effM_congr hr2 hh hd
  unfold DoesG at h ⊢
  cases hg : o.guard with
  | none => rw [hg] at h; exact hP h
  | some q =>
    obtain ⟨t, want⟩ := q
    rw [hg] at h
    have : s'.s t = s.s t := hr t (by simp [reads, hg])
    simp only [this] at h ⊢
    generalize s.s t = p at *
    cases p with
    | sc v =>
      cases v with
      | bool b =>
        simp only [] at h ⊢
        by_cases hb : b = want
        · rw [if_pos hb] at h ⊢; exact hP h
        · rw [if_neg hb] at h ⊢; exact h
      | _ => exact h
    | _ => exact h

theorem slD_mem {d : Option Nat} {x : PV} {q : Nat × PV} (h : q ∈ slD d x) : d = some q.1 := by
  cases d with
  | none => cases h
  | some t => simp [slD] at h; simp [h]

/-- What an effect writes. -/
theorem does_writes {P : Program} {id : Nat} {o : MO} {s : St} {E : Eff} (h : DoesG P id o s E) :
    (∀ q ∈ E.sl, q.1 ∈ writes o) ∧ (E.hp = [] ∨ (hk o.op = 2 ∧ ∃ ob, E.hp = [(id, some ob)]) ∨ (hk o.op = 3 ∧ ∀ q ∈ E.hp, q.1 = id ∨ s.H q.1 ≠ none)) := by
  have hD : ∀ {x : PV} {q : Nat × PV}, q ∈ slD o.dst x → q.1 ∈ writes o := by
    intro x q hq
    have := slD_mem hq
    simp [writes, this]
  have hskip : E = ⟨slD o.dst (.sc undef), []⟩ → (∀ q ∈ E.sl, q.1 ∈ writes o) ∧ (E.hp = [] ∨ (hk o.op = 2 ∧ ∃ ob, E.hp = [(id, some ob)]) ∨ (hk o.op = 3 ∧ ∀ q ∈ E.hp, q.1 = id ∨ s.H q.1 ≠ none)) := by
    rintro rfl
    exact ⟨fun q hq => hD hq, .inl rfl⟩
  have hP : DoesP P id o s E → (∀ q ∈ E.sl, q.1 ∈ writes o) ∧ (E.hp = [] ∨ (hk o.op = 2 ∧ ∃ ob, E.hp = [(id, some ob)]) ∨ (hk o.op = 3 ∧ ∀ q ∈ E.hp, q.1 = id ∨ s.H q.1 ≠ none)) := by
    intro hd
    unfold DoesP at hd
    split at hd
    · obtain ⟨f, args, r, _, _, rfl⟩ := hd
      exact ⟨fun q hq => hD hq, .inl rfl⟩
    · obtain ⟨dst, op, g⟩ := o
      cases op with
      | al zero =>
        simp only [effM, Option.some.injEq] at hd
        subst hd
        exact ⟨fun q hq => hD hq, .inr (.inl ⟨rfl, _, rfl⟩)⟩
      | bx x own =>
        simp only [effM] at hd
        split at hd
        · split at hd
          · cases hd; exact ⟨fun q hq => hD hq, .inr (.inl ⟨rfl, _, rfl⟩)⟩
          · cases hd; exact ⟨fun q hq => hD hq, .inl rfl⟩
        · cases hd
      | bsl sz len zero parts own =>
        simp only [effM] at hd
        split at hd
        · simp only [Option.bind_eq_some_iff, Option.map_eq_some_iff] at hd
          obtain ⟨_, _, _, _, hd⟩ := hd
          split at hd
          · subst hd; exact ⟨fun q hq => hD hq, .inr (.inl ⟨rfl, _, rfl⟩)⟩
          · subst hd; exact ⟨fun q hq => hD hq, .inl rfl⟩
        · cases hd
      | mks sz bytes zero l c =>
        simp only [effM] at hd
        split at hd
        · split at hd
          · cases hd; exact ⟨fun q hq => hD hq, .inr (.inl ⟨rfl, _, rfl⟩)⟩
          · cases hd
        · cases hd
      | st x v sz fz =>
        simp only [effM] at hd
        split at hd
        · simp only [Option.bind_eq_some_iff] at hd
          obtain ⟨⟨j, ob⟩, hst, hd⟩ := hd
          obtain ⟨off, o0, _, hH, _, _⟩ := storeP_inv hst
          have hne : s.H j ≠ none := by rw [hH]; simp
          split at hd
          · rename_i hfz
            split at hd
            · cases hd
              refine ⟨fun q hq => ?_, .inr (.inr ⟨rfl, fun q hq => by simp at hq; rw [hq]; exact .inr hne⟩)⟩
              rcases List.mem_cons.1 hq with rfl | hq
              · subst hfz
                simp [writes]
              · exact hD hq
            · cases hd
          · cases hd
            exact ⟨fun q hq => hD hq, .inr (.inr ⟨rfl, fun q hq => by simp at hq; rw [hq]; exact .inr hne⟩)⟩
        · cases hd
      | app sz bytes x y =>
        simp only [effM, Option.map_eq_some_iff] at hd
        obtain ⟨⟨r, hs⟩, hE, rfl⟩ := hd
        refine ⟨fun q hq => hD hq, .inr (.inr ⟨rfl, fun q hq => ?_⟩)⟩
        simp only [appE, Option.bind_eq_some_iff] at hE
        obtain ⟨⟨oid, old, nn⟩, hold, new, hnew, m, hm, hE⟩ := hE
        simp only [] at hE
        split at hE
        · cases oid with
          | some j =>
            simp only [Option.some.injEq, Prod.mk.injEq] at hE
            obtain ⟨_, rfl⟩ := hE
            have hj : s.H j ≠ none := by
              generalize ev s x = p at hold
              cases p with
              | osl id' off len sz' =>
                cases off with
                | succ k => simp [oldOf] at hold
                | zero =>
                  simp only [oldOf] at hold
                  cases ho : s.H id' with
                  | none => simp [ho] at hold
                  | some o =>
                    simp only [ho] at hold
                    split at hold
                    · simp only [Option.some.injEq, Prod.mk.injEq] at hold
                      rw [← hold.1, ho]
                      simp
                    · cases hold
              | sc v =>
                have := (oldOf_sc s s sz v).2 _ hold
                cases this
              | _ => simp [oldOf] at hold
            simp at hq
            rcases hq with rfl | rfl
            · exact .inr hj
            · exact .inl rfl
          | none =>
            simp only [] at hE
            split at hE
            · simp only [Option.some.injEq, Prod.mk.injEq] at hE
              obtain ⟨_, rfl⟩ := hE
              simp at hq
            · simp only [Option.some.injEq, Prod.mk.injEq] at hE
              obtain ⟨_, rfl⟩ := hE
              simp at hq
              rw [hq]
              exact .inl rfl
        · cases hE
      | _ =>
        simp only [effM, Option.map_eq_some_iff] at hd
        obtain ⟨_, _, rfl⟩ := hd
        exact ⟨fun q hq => hD hq, .inl rfl⟩
  unfold DoesG at h
  split at h
  · exact hP h
  · split at h
    · split at h
      · exact hP h
      · exact hskip h
    · exact hskip h
    · exact h.elim

theorem updL_out {f : Nat → Option PObj} {k : Nat} : ∀ {l : List (Nat × Option PObj)}, (∀ q ∈ l, q.1 ≠ k) → updL f l k = f k := by
  intro l
  induction l generalizing f with
  | nil => intro _; rfl
  | cons q r ih =>
    intro h
    obtain ⟨t, x⟩ := q
    simp only [updL]
    rw [ih (fun q hq => h q (by simp [hq]))]
    exact upd_ne _ _ (fun e => h (t, x) (by simp) e.symm)

theorem sets_out {f : Nat → PV} {t : Nat} : ∀ {l : List (Nat × PV)}, (∀ q ∈ l, q.1 ≠ t) → sets f l t = f t := by
  intro l
  induction l generalizing f with
  | nil => intro _; rfl
  | cons q r ih =>
    intro h
    obtain ⟨k, x⟩ := q
    simp only [sets]
    rw [ih (fun q hq => h q (by simp [hq]))]
    exact upd_ne _ _ (fun e => h (k, x) (by simp) e.symm)

theorem sets_upd {t : Nat} {x : PV} : ∀ {l : List (Nat × PV)} {f : Nat → PV}, (∀ q ∈ l, q.1 ≠ t) → sets (upd f t x) l = upd (sets f l) t x := by
  intro l
  induction l with
  | nil => intro f _; rfl
  | cons q r ih =>
    intro f h
    obtain ⟨k, y⟩ := q
    simp only [sets]
    rw [upd_comm f x y (fun e => h (k, y) (by simp) e.symm), ih (fun q hq => h q (by simp [hq]))]

theorem sets_comm : ∀ {l k : List (Nat × PV)} {f : Nat → PV}, (∀ q ∈ l, ∀ p ∈ k, p.1 ≠ q.1) → sets (sets f l) k = sets (sets f k) l := by
  intro l
  induction l with
  | nil => intro k f _; rfl
  | cons q r ih =>
    intro k f h
    obtain ⟨t, x⟩ := q
    simp only [sets]
    rw [ih (fun q hq p hp => h q (by simp [hq]) p hp), sets_upd (fun p hp => h (t, x) (by simp) p hp)]

theorem app_slot {E : Eff} {s : St} {t : Nat} (h : ∀ q ∈ E.sl, q.1 ≠ t) : (E.app s).s t = s.s t := sets_out h

theorem adr_sub (m : MOp) {t : Nat} (ht : t ∈ adr m) : t ∈ (opds m).flatMap slotOf := by
  cases m with
  | ld x sz ag => simpa [opds, adr] using ht
  | st x v sz fz => simp only [opds, List.flatMap_cons, List.mem_append]; exact .inl ht
  | app sz bytes x y => simp only [opds, List.flatMap_cons, List.flatMap_nil, List.mem_append, List.append_nil]; exact List.mem_append.1 ht
  | call f xs => simpa [opds, adr] using ht
  | calv x xs => simpa [opds, adr] using ht
  | _ => simp [adr] at ht
theorem adr_hk (m : MOp) {t : Nat} (ht : t ∈ adr m) : hk m ≠ 0 := by
  cases m <;> first | (simp [hk]; done) | (simp [adr] at ht; done)

/-- Two that don't mind each other. -/
theorem swap {P : Program} {y x : MO} {iy ix : Nat} {s : St} {Ey Ex : Eff} (hi : indep y x = true) (hne : iy ≠ ix) (hy : DoesG P iy y s Ey) (hx : DoesG P ix x (Ey.app s) Ex)
    (hA : ∀ t ∈ adr x.op, ¬ ((∃ off, s.s t = .optr iy off) ∨ ∃ off len sz, s.s t = .osl iy off len sz)) (hB : s.H ix = none) : DoesG P ix x s Ex ∧ DoesG P iy y (Ex.app s) Ey ∧ Ex.app (Ey.app s) = Ey.app (Ex.app s) := by
  simp only [indep, Bool.and_eq_true, Bool.not_eq_true', Bool.and_eq_false_imp, beq_iff_eq, bne_eq_false_iff_eq] at hi
  obtain ⟨⟨⟨⟨h1, h2⟩, h3⟩, h4⟩, h5⟩ := hi
  obtain ⟨wy, py⟩ := does_writes hy
  obtain ⟨wx, px⟩ := does_writes hx
  have r1 : ∀ t ∈ reads x, (Ey.app s).s t = s.s t := fun t ht => app_slot fun q hq e => disj_spec h1 (wy q hq) (by rw [e]; exact ht)
  have hsub : ∀ t ∈ adr x.op, t ∈ reads x := by
    intro t ht
    simp only [reads, List.mem_append]
    exact .inr (adr_sub _ ht)
  have hsuby : ∀ t ∈ adr y.op, t ∈ reads y := by
    intro t ht
    simp only [reads, List.mem_append]
    exact .inr (adr_sub _ ht)
  have hadr : ∀ m : MOp, ∀ t ∈ adr m, hk m ≠ 0 := fun m t ht => adr_hk m ht
  have d1 : DoesG P ix x s Ex := by
    refine DoesG_congr (fun t ht => (r1 t ht).symm) (fun t ht id he hn => ?_) hx
    have hx0 := hadr _ t ht
    rcases py with hp | ⟨_, ob, hp⟩ | ⟨h6, hp⟩
    · simp only [Eff.app, hp, updL]
    · have hid : id ≠ iy := fun e => hA t ht (by rw [r1 t (hsub t ht), e] at he; exact he)
      simp only [Eff.app, hp, updL, upd_ne _ _ hid]
    · exact absurd (h4 h6) hx0
  obtain ⟨wx2, px2⟩ := does_writes d1
  have d2 : DoesG P iy y (Ex.app s) Ey := by
    refine DoesG_congr (fun t ht => app_slot fun q hq e => disj_spec h3 (wx q hq) (by rw [e]; exact ht)) (fun t ht id he hn => ?_) hy
    have hy0 := hadr _ t ht
    rcases px2 with hp | ⟨_, ob, hp⟩ | ⟨h6, hp⟩
    · simp only [Eff.app, hp, updL]
    · have hid : id ≠ ix := fun e => hn (by rw [e]; exact hB)
      simp only [Eff.app, hp, updL, upd_ne _ _ hid]
    · exact absurd (h5 h6) hy0
  refine ⟨d1, d2, ?_⟩
  have hs : sets (sets s.s Ey.sl) Ex.sl = sets (sets s.s Ex.sl) Ey.sl := sets_comm fun q hq p hp e => disj_spec h2 (wy q hq) (by rw [← e]; exact wx p hp)
  have hH : (Ex.app (Ey.app s)).H = (Ey.app (Ex.app s)).H := by
    rcases py with hp | ⟨k1, ob, hp⟩ | ⟨h6, hp⟩
    · simp only [Eff.app, hp, updL]
    · rcases px2 with hq | ⟨_, ob', hq⟩ | ⟨h7, hq⟩
      · simp only [Eff.app, hp, hq, updL]
      · simp only [Eff.app, hp, hq, updL]
        exact upd_comm _ _ _ hne
      · have := h5 h7
        omega
    · have h8 := h4 h6
      rcases px2 with hq | ⟨k2, ob', hq⟩ | ⟨h7, hq⟩
      · simp only [Eff.app, hq, updL]
      · omega
      · omega
  have e : ∀ u v : St, u.s = v.s → u.H = v.H → u.nx = v.nx → u = v := by
    rintro ⟨a, b, c⟩ ⟨a', b', c'⟩ rfl rfl rfl
    rfl
  exact e _ _ hs hH rfl

theorem move_front {P : Program} {base : Nat} {x : Nat × MO} {l2 : List (Nat × MO)} {K : St → Prop} : ∀ (l1 : List (Nat × MO)) (s : St), (∀ y ∈ l1, indep y.2 x.2 = true) → (∀ y ∈ l1, y.1 ≠ x.1) →
    (∀ y ∈ l1, ∀ t ∈ adr x.2.op, ¬ ((∃ off, s.s t = .optr (base + y.1) off) ∨ ∃ off len sz, s.s t = .osl (base + y.1) off len sz)) → s.H (base + x.1) = none → runOps P true base (l1 ++ x :: l2) K s → runOps P true base (x :: (l1 ++ l2)) K s
  | [], s, _, _, _, _, h => h
  | y :: l1, s, hi, hne, hA, hB, h => by
    obtain ⟨iy, my⟩ := y
    obtain ⟨ix, mx⟩ := x
    have hi0 : indep my mx = true := hi (iy, my) (by simp)
    have hne0 : iy ≠ ix := hne (iy, my) (by simp)
    simp only [List.cons_append, runOps] at h ⊢
    obtain ⟨Ey, hy, h⟩ := opG_does.1 h
    have hi1 := hi0
    simp only [indep, Bool.and_eq_true] at hi1
    obtain ⟨⟨⟨⟨h1, _⟩, _⟩, _⟩, _⟩ := hi1
    obtain ⟨wy, py⟩ := does_writes hy
    have hsub : ∀ t ∈ adr mx.op, t ∈ reads mx := by
      intro t ht
      simp only [reads, List.mem_append]
      exact .inr (adr_sub _ ht)
    have hslot : ∀ t ∈ adr mx.op, (Ey.app s).s t = s.s t := fun t ht => app_slot fun q hq e => disj_spec h1 (wy q hq) (by rw [e]; exact hsub t ht)
    have hB2 : (Ey.app s).H (base + ix) = none := by
      rcases py with hp | ⟨_, ob, hp⟩ | ⟨_, hp⟩
      · simp only [Eff.app, hp, updL]; exact hB
      · simp only [Eff.app, hp, updL]
        rw [upd_ne _ _ (by omega)]
        exact hB
      · simp only [Eff.app]
        rw [updL_out fun q hq e => ?_]
        · exact hB
        · rcases hp q hq with h9 | h9
          · omega
          · rw [e] at h9; exact h9 hB
    have h2 := move_front l1 (Ey.app s) (fun y hy => hi y (by simp [hy])) (fun y hy => hne y (by simp [hy])) (fun y hy t ht => by rw [hslot t ht]; exact hA y (by simp [hy]) t ht) hB2 h
    simp only [runOps] at h2
    obtain ⟨Ex, hx, h3⟩ := opG_does.1 h2
    obtain ⟨s1, s2, s3⟩ := swap hi0 (by omega) hy hx (fun t ht => hA (iy, my) (by simp) t ht) hB
    refine opG_does.2 ⟨Ex, s1, opG_does.2 ⟨Ey, s2, ?_⟩⟩
    rw [← s3]
    exact h3

end Go.Proofs.Ytifebfkkciaddaa
