/-
  Functions over plain values: their results.
-/
import Derived.Test.YtifebfkkciaddaaPvM
set_option linter.unusedVariables false
set_option linter.unusedSimpArgs false
namespace Go.Proofs.Ytifebfkkciaddaa
open Go.RowKit

inductive RV where
  | tmp (t : Nat)
  | cell (t sz : Nat) (ag : Bool)
  deriving Inhabited

def resV (P : Program) : ResultVar → Option RV
  | .tmp t => some (.tmp t)
  | .cell a T => (P.underlying T).bind fun d => (szOf P T).map fun sz => .cell a sz (aggB d)
def resVs (P : Program) : List ResultVar → Option (List RV)
  | [] => some []
  | x :: r => (resV P x).bind fun y => (resVs P r).map (y :: ·)

def resP1 (s : St) : RV → Option PV
  | .tmp t => some (s.s t)
  | .cell t sz ag => (loadP s (s.s t) sz).bind fun cs => if ag = true then some (.agg cs) else if sz = 1 then cs.head? else none
def resPs (s : St) : List RV → Option (List PV)
  | [] => some []
  | x :: r => (resP1 s x).bind fun y => (resPs s r).map (y :: ·)
def resP (s : St) (rs : List RV) : Option PV := (resPs s rs).map fun xs => match xs with
  | [x] => x
  | xs => .tup xs

def resSem (tmps : Array Value) : ResultVar → Sem Value
  | .tmp t => pure (tmps.getD t undef)
  | .cell b t => do loadVar t (← asAddr (tmps.getD b undef))

theorem results_eq (fn : Func) (tmps : Array Value) : results fn tmps = (do
    let vs ← fn.results.mapM (resSem tmps)
    pure (if h : vs.size = 1 then vs[0] else .tuple vs)) := by
  unfold results
  congr 2

theorem res1_sound {P : Program} {w0 : World} {ok0 : Nat → Prop} {n : Nat} {s : St} {rho : Nat → Option Nat} {a : Act} {w : World} (hr : Rel w0 ok0 n s rho a w) {x : ResultVar} {y : RV} {r : PV} (hy : resV P x = some y) (h : resP1 s y = some r) :
    ∃ v, (resSem a.tmps x).run P w = .ok v w ∧ Rep (viewOf w0 ok0 s.H rho w) r v := by
  cases x with
  | tmp t =>
    simp only [resV, Option.some.injEq] at hy
    subst hy
    simp only [resP1, Option.some.injEq] at h
    subst h
    exact ⟨_, rfl, hr.slot t⟩
  | cell b T =>
    simp only [resV, Option.bind_eq_some_iff, Option.map_eq_some_iff] at hy
    obtain ⟨d, hd, sz, hz, rfl⟩ := hy
    simp only [resP1] at h
    obtain ⟨bl, off, u, e, h1, h2⟩ := loadVar_sound (P := P) hr.heap.owns (hr.slot b) hd hz h
    refine ⟨u, ?_, h2⟩
    simp only [resSem, Sem.run_bind, e, asAddr, Sem.run_pure, Result.andThen_ok]
    exact h1

theorem ress_sound {P : Program} {w0 : World} {ok0 : Nat → Prop} {n : Nat} {s : St} {rho : Nat → Option Nat} {a : Act} {w : World} (hr : Rel w0 ok0 n s rho a w) : ∀ (xs : List ResultVar) (ys : List RV) (rs : List PV), resVs P xs = some ys → resPs s ys = some rs →
    ∃ vs, (xs.mapM (resSem a.tmps)).run P w = .ok vs w ∧ RepL (viewOf w0 ok0 s.H rho w) rs vs
  | [], ys, rs, h1, h2 => by
    simp [resVs] at h1
    subst h1
    simp [resPs] at h2
    subst h2
    exact ⟨[], by simp, RepL.nil⟩
  | x :: xs, ys, rs, h1, h2 => by
    simp only [resVs, Option.bind_eq_some_iff, Option.map_eq_some_iff] at h1
    obtain ⟨y, hy, ys', hys, rfl⟩ := h1
    simp only [resPs, Option.bind_eq_some_iff, Option.map_eq_some_iff] at h2
    obtain ⟨r, hr1, rs', hrs, rfl⟩ := h2
    obtain ⟨v, h3, h4⟩ := res1_sound hr hy hr1
    obtain ⟨vs, h5, h6⟩ := ress_sound hr xs ys' rs' hys hrs
    refine ⟨v :: vs, ?_, RepL.cons h4 h6⟩
    simp only [List.mapM_cons, Sem.run_bind, h3, Result.andThen_ok, h5, Sem.run_pure]

theorem res_sound {P : Program} {w0 : World} {ok0 : Nat → Prop} {n : Nat} {s : St} {rho : Nat → Option Nat} {a : Act} {w : World} {fn : Func} {ys : List RV} {r : PV} (hr : Rel w0 ok0 n s rho a w) (hy : resVs P fn.results.toList = some ys) (h : resP s ys = some r) :
    ∃ v, (results fn a.tmps).run P w = .ok v w ∧ Rep (viewOf w0 ok0 s.H rho w) r v := by
  simp only [resP, Option.map_eq_some_iff] at h
  obtain ⟨rs, hrs, h⟩ := h
  obtain ⟨vs, h1, h2⟩ := ress_sound hr _ _ _ hy hrs
  have hlen := h2.1
  have hrun : (results fn a.tmps).run P w = .ok (if hh : vs.toArray.size = 1 then vs.toArray[0] else .tuple vs.toArray) w := by
    rw [results_eq, Array.mapM_eq_mapM_toList]
    simp only [Sem.run_bind, Sem.run_map, h1, Result.andThen_ok, Sem.run_pure]
  refine ⟨_, hrun, ?_⟩
  match rs, vs, h2, h with
  | [x], [v], h2, h =>
    subst h
    exact h2.2 0 x v rfl rfl
  | [], [], h2, h =>
    subst h
    exact .tup [] [] rfl h2.2
  | x :: y :: t, v :: u :: us, h2, h =>
    subst h
    have : (v :: u :: us).toArray.size ≠ 1 := by simp
    rw [dif_neg this]
    exact .tup _ _ h2.1 h2.2
  | [], v :: us, h2, _ => exact absurd h2.1 (by simp)
  | [x], [], h2, _ => exact absurd h2.1 (by simp)
  | [x], v :: u :: us, h2, _ => exact absurd h2.1 (by simp)
  | x :: y :: t, [], h2, _ => exact absurd h2.1 (by simp)
  | x :: y :: t, [v], h2, _ => exact absurd h2.1 (by simp)

/-! What is answered is nobody's own any more. -/
def frz : Nat → (Nat → Option PObj) → PV → PV
  | 0, _, x => x
  | k + 1, H, .optr id off => match H id with
    | some o => .ptr ((o.cells.drop off).map (frz k H))
    | none => .optr id off
  | k + 1, H, .osl id off len sz => match H id with
    | some o => if off + len * sz ≤ o.cells.length then .sl sz (chunks sz len (((o.cells.drop off).take (len * sz)).map (frz k H))) else .osl id off len sz
    | none => .osl id off len sz
  | k + 1, H, .agg xs => .agg (xs.map (frz k H))
  | k + 1, H, .tup xs => .tup (xs.map (frz k H))
  | k + 1, H, .fn f xs => .fn f (xs.map (frz k H))
  | _ + 1, _, x => x

theorem map_repl {V V' : Vw} {f : PV → PV} {xs : List PV} {vs : List Value} (hf : ∀ x v, Rep V x v → Rep V' (f x) v) (h : RepL V xs vs) : RepL V' (xs.map f) vs :=
  ⟨by simp [h.1], fun i x v hx hv => by
    rw [List.getElem?_map] at hx
    cases hxi : xs[i]? with
    | none => simp [hxi] at hx
    | some y => simp [hxi] at hx; subst hx; exact hf _ _ (h.2 i y v hxi hv)⟩

theorem frz_sound {w0 : World} {ok0 : Nat → Prop} {H : Nat → Option PObj} {rho : Nat → Option Nat} {w : World} (hH : RelH w0 ok0 H rho w) : ∀ (k : Nat) (x : PV) (v : Value), Rep (viewOf w0 ok0 H rho w) x v → Rep (viewOf w0 ok0 noneOwn rho w) (frz k H x) v := by
  intro k
  induction k with
  | zero => intro x v h; exact h.mono (none_leq ..)
  | succ k ih =>
    intro x v h
    cases x with
    | optr id off =>
      simp only [frz]
      cases ho : H id with
      | none => exact h.mono (none_leq ..)
      | some o =>
        obtain ⟨b, rfl, hb⟩ := h.optr_inv
        obtain ⟨b', hb', hlow, hobj⟩ := hH.own id o ho
        have hb2 : rho id = some b := hb
        rw [hb2] at hb'
        cases hb'
        have hlt := hobj.lt
        obtain ⟨c, T, hh, hle, _, hrr⟩ := hobj
        by_cases hoff : off ≤ o.cells.length
        · obtain ⟨vs, h1, h2, h3⟩ := obj_cells ⟨c, T, hh, hle, by assumption, hrr⟩ off (o.cells.length - off) (by omega)
          have e : (o.cells.drop off).take (o.cells.length - off) = o.cells.drop off := List.take_of_length_le (by simp)
          rw [e] at h1
          exact .ptr_mk ⟨.inr ⟨hlow, hlt⟩, fun id o ho => by cases ho⟩ (map_repl ih h1) h3
        · have e : o.cells.drop off = [] := List.drop_eq_nil_of_le (by omega)
          show Rep _ (.ptr ((o.cells.drop off).map (frz k H))) _
          rw [e]
          exact .ptr_mk (vs := []) ⟨.inr ⟨hlow, hlt⟩, fun id o ho => by cases ho⟩ RepL.nil (fun i u hu => by simp at hu)
    | osl id off len sz =>
      simp only [frz]
      cases ho : H id with
      | none => exact h.mono (none_leq ..)
      | some o =>
        simp only []
        split
        · rename_i hfit
          obtain ⟨b, cap, c0, T0, fr0, rfl, hb, h1, h2, _, _⟩ := h.osl_inv
          obtain ⟨b', hb', hlow, hobj⟩ := hH.own id o ho
          have hb2 : rho id = some b := hb
          rw [hb2] at hb'
          cases hb'
          have hlt := hobj.lt
          obtain ⟨vs, h3, h4, h5⟩ := obj_cells hobj off (len * sz) hfit
          have hm := map_repl (f := frz k H) ih h3
          obtain ⟨c1, c2, c3⟩ := chunks_spec sz len (((o.cells.drop off).take (len * sz)).map (frz k H)) (by simp; omega)
          refine .sl sz _ b off len cap c2 c3 h1 h2 ?_
          rw [c1]
          exact .ptr_mk ⟨.inr ⟨hlow, hlt⟩, fun id o ho => by cases ho⟩ hm h5
        · exact h.mono (none_leq ..)
    | agg xs =>
      obtain ⟨vs, rfl, hr⟩ := h.agg_inv
      exact cells_rep (map_repl ih hr)
    | tup xs =>
      obtain ⟨vs, rfl, hr⟩ := h.tup_inv
      have := map_repl (f := frz k H) ih hr
      exact .tup _ _ this.1 this.2
    | fn f xs =>
      cases h with
      | fn _ _ vs hl hr =>
        have := map_repl (f := frz k H) (V := viewOf w0 ok0 H rho w) (V' := viewOf w0 ok0 noneOwn rho w) ih ⟨hl, hr⟩
        exact .fn f _ _ this.1 this.2
    | sc u => exact h.mono (none_leq ..)
    | ptr cs => exact h.mono (none_leq ..)
    | sl sz es => exact h.mono (none_leq ..)

def sig (args : List PV) : Nat → PV := fun t => args.getD t (.sc undef)

theorem start_rel {P : Program} {w0 : World} {ok0 : Nat → Prop} {H : Nat → Option PObj} {rho : Nat → Option Nat} {w : World} {n nx : Nat} {args : List PV} {vals : List Value} (hH : RelH w0 ok0 H rho w) (hf : ∀ id, nx ≤ id → rho id = none)
    (hv : RepL (viewOf w0 ok0 H rho w) args vals) (hn : args.length ≤ n) : RelF w0 ok0 n ⟨sig args, H, nx⟩ rho { tmps := vals.toArray ++ Array.replicate (n - vals.toArray.size) undef, defers := [] } w := by
  have hl := hv.1
  refine ⟨⟨hH, by simp; omega, rfl, fun t => ?_⟩, hf⟩
  unfold sig
  simp only [Array.getD_eq_getD_getElem?, List.getD_eq_getElem?_getD]
  by_cases ht : t < args.length
  · have ht2 : t < vals.length := by omega
    rw [Array.getElem?_append_left (by simpa using ht2), List.getElem?_eq_getElem ht]
    simp only [List.getElem?_toArray, List.getElem?_eq_getElem ht2, Option.getD_some]
    exact hv.2 t _ _ (List.getElem?_eq_getElem ht) (List.getElem?_eq_getElem ht2)
  · rw [List.getElem?_eq_none (by omega), Array.getElem?_append_right (by simp; omega), Array.getElem?_replicate]
    split <;> exact .sc undef

/-- Whatever the one stands for the other stands for. -/
def Weak (x y : PV) : Prop := ∀ (V : Vw) (v : Value), Rep V x v → Rep V y v
theorem Weak.refl (x : PV) : Weak x x := fun _ _ h => h
theorem Weak.of_eq {x y : PV} (h : x = y) : Weak x y := h ▸ Weak.refl x
theorem Weak.trans {x y z : PV} (h : Weak x y) (k : Weak y z) : Weak x z := fun V v hv => k V v (h V v hv)
theorem Weak.nil (sz : Nat) : Weak (.sc (.slice none 0 0)) (.sl sz []) := fun V v h => by
  have e := h.sc_inv
  subst e
  exact .slNil sz none 0 (Nat.zero_le _)
def WeakL : List PV → List PV → Prop
  | [], [] => True
  | x :: xs, y :: ys => Weak x y ∧ WeakL xs ys
  | _, _ => False
theorem WeakL.refl : ∀ xs, WeakL xs xs
  | [] => trivial
  | x :: r => ⟨Weak.refl x, WeakL.refl r⟩
theorem WeakL.rep {V : Vw} : ∀ {xs ys : List PV} {vs : List Value}, WeakL xs ys → RepL V xs vs → RepL V ys vs
  | [], [], _, _, h => h
  | x :: xs, y :: ys, v :: vs, hw, h => by
    refine RepL.cons (hw.1 V v (h.2 0 x v rfl rfl)) (WeakL.rep hw.2 ⟨by simpa using h.1, fun i a b ha hb => h.2 (i + 1) a b (by simpa using ha) (by simpa using hb)⟩)
  | x :: xs, y :: ys, [], _, h => absurd h.1 (by simp)
  | [], y :: ys, _, hw, _ => hw.elim
  | x :: xs, [], _, hw, _ => hw.elim
theorem Weak.agg {xs ys : List PV} (h : WeakL xs ys) : Weak (.agg xs) (.agg ys) := fun V v hv => by
  obtain ⟨vs, rfl, hr⟩ := hv.agg_inv
  exact cells_rep (h.rep hr)
theorem Weak.tup {xs ys : List PV} (h : WeakL xs ys) : Weak (.tup xs) (.tup ys) := fun V v hv => by
  obtain ⟨vs, rfl, hr⟩ := hv.tup_inv
  have := h.rep hr
  exact .tup _ _ this.1 this.2
theorem Weak.ptr {xs ys : List PV} (h : WeakL xs ys) : Weak (.ptr xs) (.ptr ys) := fun V v hv => by
  obtain ⟨b, off, vs, rfl, hok, hr, hc⟩ := hv.ptr_inv
  exact .ptr_mk hok (h.rep hr) hc
theorem PPure.weak {P : Program} {f : FuncId} {args args' : List PV} {r r' : PV} (h : PPure P f args r) (ha : WeakL args' args) (hr : Weak r r') : PPure P f args' r' := by
  refine ⟨h.1, fun V nx vals hok hfree hv => (h.2 V nx vals hok hfree (ha.rep hv)).mono ?_⟩
  rintro e w' ⟨v, h1, h2, h3⟩
  exact ⟨v, h1, h2, hr _ _ h3⟩

/-- What is known of a function's text. -/
structure FnIs (P : Program) (pol : Pol) (f : FuncId) (n : Nat) (mc : MCode) (rs : List RV) : Prop where
  follows : P.follows .mixedOrders = true
  is : ∃ fn c, P.funcs[f]? = some fn ∧ fn.body = some c ∧ fn.name ≠ "runtime.NumGoroutine" ∧ fn.ntmps = n ∧ codeP P pol n c = some mc ∧ resVs P fn.results.toList = some rs

theorem FnIs.enters {P : Program} {pol : Pol} {f : FuncId} {n : Nat} {mc : MCode} {rs : List RV} (h : FnIs P pol f n mc rs) : enters P f = true := by
  obtain ⟨_, fn, c, h1, h2, h3, _⟩ := h
  simp [Go.Proofs.Ytifebfkkciaddaa.enters, h1, h2, h3]

theorem mut_fn {P : Program} {pol : Pol} {f : FuncId} {n : Nat} {mc : MCode} {rs : List RV} {args : List PV} {H : Nat → Option PObj} {nx : Nat} {Q : (Nat → Option PObj) → Nat → PV → Prop} (hf : FnIs P pol f n mc rs) (hn : args.length ≤ n)
    (h : pw P mc (fun e s => (e = .normal ∨ e = .ret) ∧ ∃ r, resP s rs = some r ∧ Q s.H s.nx r) ⟨sig args, H, nx⟩) : PMut P f args H nx Q := by
  refine ⟨hf.enters, fun w0 ok0 rho w vals hH hfree hv => ?_⟩
  obtain ⟨hm, fn, c, h1, h2, h3, rfl, h5, h6⟩ := hf
  refine calls_of_wp h1 h2 ?_
  have hr := start_rel (P := P) hH hfree hv hn
  refine wp_mono (pw_sound (V := viewOf w0 ok0 H rho w) (nx0 := nx) hm c mc h5 _ _ rho _ w h hr (Vw.Leq.refl _) (fun _ _ => rfl) (Nat.le_refl _)) fun e a' w' hp => ?_
  obtain ⟨s', rho', ⟨he, r, hres, hQ⟩, hr', hV, hlow, hnx⟩ := hp
  obtain ⟨v, hrun, hrep⟩ := res_sound hr'.rel h6 hres
  have key : a'.defers = [] ∧ ∃ v, (results fn a'.tmps).run P w' = .ok v w' ∧ ∃ v' H' nx' r rho', Ending.returned v = .returned v' ∧ Q H' nx' r ∧ RelH w0 ok0 H' rho' w' ∧ (viewOf w0 ok0 H rho w).Leq (viewOf w0 ok0 H' rho' w') ∧
      nx ≤ nx' ∧ (∀ id, nx' ≤ id → rho' id = none) ∧ (∀ id, id < nx → rho' id = rho id) ∧ Rep (viewOf w0 ok0 H' rho' w') r v' :=
    ⟨hr'.rel.defs, v, hrun, v, s'.H, s'.nx, r, rho', rfl, hQ, hr'.rel.heap, hV, hnx, hr'.free, hlow, hrep⟩
  rcases he with rfl | rfl
  · exact key
  · exact key

theorem pure_fn {P : Program} {pol : Pol} {f : FuncId} {n : Nat} {mc : MCode} {rs : List RV} {args : List PV} {r : PV} (hf : FnIs P pol f n mc rs) (hn : args.length ≤ n) (hi : r.imm = true)
    (h : ∀ nx, pw P mc (fun e s => (e = .normal ∨ e = .ret) ∧ ∃ r0, resP s rs = some r0 ∧ ∃ k, Weak (frz k s.H r0) r) ⟨sig args, noneOwn, nx⟩) : PPure P f args r := by
  refine ⟨hf.enters, fun V nx vals hok hfree hv => ?_⟩
  obtain ⟨hm, fn, c, h1, h2, h3, rfl, h5, h6⟩ := hf
  refine calls_of_wp h1 h2 ?_
  have hH : RelH V.w V.ok noneOwn V.rho V.w := ⟨hok, Below.refl _ _, fun id o ho => (by cases ho), fun id id' b h => absurd rfl h⟩
  have hVleq : V.Leq (viewOf V.w V.ok noneOwn V.rho V.w) := ⟨fun b hb => ⟨.inl hb, fun id o ho => (by cases ho)⟩, fun _ _ _ => rfl, fun _ _ h => h, fun _ _ c T fr _ hh => ⟨c, T, fr, hh, Nat.le_refl _⟩⟩
  have hr := start_rel (P := P) hH hfree (hv.mono hVleq) hn
  refine wp_mono (pw_sound (V := V) (nx0 := nx) hm c mc h5 _ _ V.rho _ V.w (h nx) hr hVleq (fun _ _ => rfl) (Nat.le_refl _)) fun e a' w' hp => ?_
  obtain ⟨s', rho', ⟨he, r0, hres, k, hk⟩, hr', hV, hlow, hnx⟩ := hp
  obtain ⟨v, hrun, hrep⟩ := res_sound hr'.rel h6 hres
  have h7 := frz_sound hr'.rel.heap k r0 v hrep
  have h8 := ((hk _ _ h7).imm hi V.rho)
  have h9 : Rep (grown V w') r v := by
    have hl : (⟨w', (viewOf V.w V.ok noneOwn rho' w').ok, V.rho⟩ : Vw).Leq (grown V w') :=
      ⟨fun b hb => And.left hb, fun _ _ _ => rfl, fun _ _ h => h, fun _ _ c T fr _ hh => ⟨c, T, fr, hh, Nat.le_refl _⟩⟩
    exact h8.mono hl
  have key : a'.defers = [] ∧ ∃ v, (results fn a'.tmps).run P w' = .ok v w' ∧ ∃ v', Ending.returned v = .returned v' ∧ Below V.w.heap.size V.w w' ∧ Rep (grown V w') r v' :=
    ⟨hr'.rel.defs, v, hrun, v, rfl, hr'.rel.heap.bel, h9⟩
  rcases he with rfl | rfl
  · exact key
  · exact key

end Go.Proofs.Ytifebfkkciaddaa
