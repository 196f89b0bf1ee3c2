/-
  Plain values: TmN, TmO, TmQ, TmU, TmT, TmG, TmV, TqA, TqB, TmR, TmX, TmY, TmZ, Tm1, Tm2, DeA, DeB, LvM, LvS, TnA, TnB.
-/
import Derived.Lib.SlicesS
import Derived.Laws.Strings
import Derived.Test.YtnoilfjeamffnaaXNa
import Derived.Test.YtnoilfjeamffnaaXNb
import Derived.Test.YtnoilfjeamffnaaXNc
import Derived.Test.YtnoilfjeamffnaaXNd
set_option linter.unusedVariables false
set_option linter.unusedSimpArgs false
namespace Go.Proofs.Ytnoilfjeamffnaa
open Go.RowKit
attribute [local go_sem ↓] c_seq c_region c_cond c_block c_ret c_skip c_exit c_cont t_normal t_ret t_exit b_normal b_ret b_exit run_nil run_cons g_some o_mv o_pick o_bin o_un o_ld o_ldf o_bld o_len o_mkf o_nilc o_fa o_fd o_ia o_iaa o_ix o_ixs o_ext o_al o_bxf o_bxt o_bsl o_bslf o_mks o_st o_stf o_call o_rng o_nxt o_callm o_callmA o_calvm o_calv cond_true cond_false upd_get sigF_cons o_eqa o_mm o_app o_slc
attribute [local go_sem] num_nil num_cons isP chunks rngV next_is next_iter val_some new_some st_some stf_some guard_tt guard_ff guard_tf guard_ft guard_un calv_fn put_some put_none ev_tmp ev_const ev_func sig_eq sigF_nil q0 q1 nilcV faV fdV iaV iaaV ixV ixsV extV mksV loadP storeP lenPV binPV unPV intBin partsP fillP zeros PV.good PV.cellsOf PV.one q2 q3 q4 q5 q6 q7 q8 q9 q10 q11 q12 q13 q14 q15 q16 q17 q18 q19 q20 q21 q22 q23 q24 q25 q26 q27 q28 q29 q30 q31 q32 q33 q34 q35 q36 q37 q38 wrap64 app_some mmL mmV mm2 eqE eqParts eqInt eqBool eqStr partV q39 q40 pickV q41 q42 q43 q44 q45 q46 q47 q48 q49 appE oldOf rowOf updL q50 q51 q52 q53 zlt ovr_get ite_neN ite_eqN q54 q55 q56 q57 q58 q59 q60 q61 q62 q63 q64 q65 q66 q67 tailP_f tailP_t tailF_f tailF_t slcP bndO capO slcLen intOf Option.isSome_none Option.isNone_none Option.isSome_some Option.isNone_some nilP slc_sl slc_csl slc_osl slc_osl0 slc_ocap slc_str List.append_nil List.length_append resP resPs resP1 PV.sc.injEq Value.bool.injEq Value.int.injEq
section
set_option maxRecDepth 20000
attribute [local go_sem] pv_len pv_take Nat.add_assoc tm_len tm_take pv_one tm_one tpvB_len tpvB_take tpvB_one pvB_len pvB_take pvB_one id_ne id_ne' id_ne2 List.append_assoc
def ptrB (f : Bool) (cs : List PV) : PV := if f = true then .fptr cs else .ptr cs
theorem lenPV_slB {f : Bool} {sz : Nat} {es : List (List PV)} : lenPV false (slB f sz es) = some es.length := by cases f <;> rfl
attribute [local go_sem] lenPV_slB
theorem iaV_slB_f {f : Bool} {sz : Nat} {es : List (List PV)} {k : IntKind} {n : Int} : iaV (slB f sz es) (.sc (.int k n)) sz false = if 0 ≤ n then (es[n.toNat]?).map .ptr else none := by
  cases f <;> (simp only [slB, Bool.false_eq_true, if_false, if_true, iaV, and_true]; rfl)
attribute [local go_sem] iaV_slB_f
theorem iaV_slB_t {f : Bool} {sz : Nat} {es : List (List PV)} {k : IntKind} {n : Int} : iaV (slB f sz es) (.sc (.int k n)) sz true = if 0 ≤ n then (es[n.toNat]?).map (fun _ => ptrB f (es.drop n.toNat).flatten) else none := by
  cases f <;> (simp only [slB, Bool.false_eq_true, if_false, if_true, iaV, and_true]; rfl)
attribute [local go_sem] iaV_slB_t
theorem ptrOf_B {f : Bool} {cs : List PV} : ptrOf (ptrB f cs) = some (f, cs) := by cases f <;> rfl
theorem slB_bnd {f : Bool} {sz : Nat} {es : List (List PV)} : (slB f sz es).bnd ↔ es.length ≤ 9223372036854775807 ∧ bndLL es := by cases f <;> rfl
theorem sc_eq {V : Vw} {a b v : Value} (h : Rep V (.sc a) v) (k : Rep V (.sc b) v) : a = b := by
  cases h; cases k; rfl
theorem repl_cons {V : Vw} {x : PV} {xs : List PV} {vs : List Value} (h : RepL V (x :: xs) vs) : ∃ v r, vs = v :: r ∧ Rep V x v ∧ RepL V xs r := by
  match vs, h with
  | v :: r, h => exact ⟨v, r, rfl, h.2 0 x v rfl rfl, by simpa using h.1, fun i a b ha hb => h.2 (i + 1) a b (by simpa using ha) (by simpa using hb)⟩
  | [], h => exact absurd h.1 (by simp)
theorem ptr_both {V : Vw} {xs ys : List PV} {v : Value} (h : Rep V (.ptr xs) v) (k : Rep V (.ptr ys) v) (hl : xs.length = ys.length) : ∃ vs, RepL V xs vs ∧ RepL V ys vs := by
  obtain ⟨b, off, vs, rfl, _, h1, h2⟩ := h.ptr_inv
  obtain ⟨b', off', us, e, _, k1, k2⟩ := k.ptr_inv
  cases e
  have : vs = us := by
    apply List.ext_getElem (by rw [h1.1, k1.1, hl])
    intro i hi hj
    have a := h2 i vs[i] (List.getElem?_eq_getElem hi)
    have c := k2 i us[i] (List.getElem?_eq_getElem hj)
    rw [a] at c
    exact Option.some.inj c
  subst this
  exact ⟨vs, h1, k1⟩
theorem sl_both {α : Type} {V : Vw} {f : α → List PV} {sz : Nat} {xs ys : List α} {v : Value} (hf : ∀ x, (f x).length = sz) (h : Rep V (.sl sz (xs.map f)) v) (k : Rep V (.sl sz (ys.map f)) v) :
    xs.length = ys.length ∧ ∃ vs, RepL V (xs.map f).flatten vs ∧ RepL V (ys.map f).flatten vs := by
  have hl : ∀ {zs : List α} {A : Option Addr} {len cap : Nat}, Rep V (.sl sz (zs.map f)) (.slice A len cap) → zs.length = len := by
    intro zs A len cap h
    generalize he : zs.map f = es at h
    cases h with
    | slNil => simpa using he
    | sl _ _ b off len cap hlen => rw [← he] at hlen; simpa using hlen
  have hv : ∃ A len cap, v = .slice A len cap := by
    generalize xs.map f = es at h
    cases h with
    | slNil _ A cap => exact ⟨_, _, _, rfl⟩
    | sl _ _ b off len cap => exact ⟨_, _, _, rfl⟩
  obtain ⟨A, len, cap, rfl⟩ := hv
  have e := (hl h).trans (hl k).symm
  refine ⟨e, ?_⟩
  by_cases h0 : xs = []
  · subst h0
    obtain rfl : ys = [] := List.eq_nil_of_length_eq_zero (by simpa using e.symm)
    exact ⟨[], RepL.nil, RepL.nil⟩
  · have h1 : ∃ b off, A = some ⟨b, off, none⟩ ∧ Rep V (.ptr (xs.map f).flatten) (.pointer (some ⟨b, off, none⟩)) := by
      generalize he : xs.map f = es at h
      cases h with
      | slNil => exact absurd (by simpa using he) h0
      | sl _ _ b off len cap _ _ _ _ hp => exact ⟨b, off, rfl, hp⟩
    obtain ⟨b, off, rfl, hp⟩ := h1
    have h2 : Rep V (.ptr (ys.map f).flatten) (.pointer (some ⟨b, off, none⟩)) := by
      generalize he : ys.map f = es at k
      cases k with
      | slNil => exact absurd (List.eq_nil_of_length_eq_zero (by rw [e]; simpa using he)) h0
      | sl _ _ b off len cap _ _ _ _ hp => exact hp
    have hfl : ∀ zs : List α, (zs.map f).flatten.length = zs.length * sz := fun zs => by
      rw [← List.flatMap_def]
      exact flat_lenG f sz hf zs
    exact ptr_both hp h2 (by rw [hfl, hfl, e])
theorem rows_both {α : Type} {V : Vw} {f : α → List PV} {sz : Nat} (hf : ∀ x, (f x).length = sz) : ∀ (xs ys : List α), xs.length = ys.length → (∀ x ∈ xs, ∀ y vs, RepL V (f x) vs → RepL V (f y) vs → x = y) → ∀ vs, RepL V (xs.map f).flatten vs → RepL V (ys.map f).flatten vs → xs = ys
  | [], [], _, _, _, _, _ => rfl
  | x :: r, y :: s, hl, hx, vs, h, k => by
    simp only [List.map_cons, List.flatten_cons] at h k
    have h1 := h.take sz
    have k1 := k.take sz
    have h2 := h.drop sz
    have k2 := k.drop sz
    rw [List.take_left' (hf x)] at h1
    rw [List.take_left' (hf y)] at k1
    rw [List.drop_left' (hf x)] at h2
    rw [List.drop_left' (hf y)] at k2
    rw [hx x (by simp) y _ h1 k1, rows_both hf r s (by simpa using hl) (fun z hz => hx z (by simp [hz])) _ h2 k2]
  | [], _ :: _, hl, _, _, _, _ => by simp at hl
  | _ :: _, [], hl, _, _, _, _ => by simp at hl
theorem lv_both {V : Vw} : ∀ (fuel : Nat) (x : Lv), x.nodes ≤ fuel → ∀ (y : Lv) vs, RepL V x.pv vs → RepL V y.pv vs → x = y := by
  intro fuel
  induction fuel with
  | zero => intro x h; have := nodes_pos x; omega
  | succ fuel ih =>
    intro x hx y vs h k
    cases x with
    | mk a n args =>
    cases y with
    | mk b m args' =>
    simp only [Lv.nodes] at hx
    simp only [Lv.pv] at h k
    obtain ⟨v0, r0, rfl, h0, h⟩ := repl_cons h
    obtain ⟨v1, r1, rfl, h1, h⟩ := repl_cons h
    obtain ⟨v2, r2, rfl, h2, h⟩ := repl_cons h
    obtain ⟨_, _, e, k0, k⟩ := repl_cons k
    cases e
    obtain ⟨_, _, e, k1, k⟩ := repl_cons k
    cases e
    obtain ⟨_, _, e, k2, k⟩ := repl_cons k
    cases e
    cases sc_eq h0 k0
    cases sc_eq h1 k1
    obtain ⟨hl, vs, p, q⟩ := sl_both pv_len h2 k2
    rw [rows_both pv_len args args' hl (fun z hz => ih z (by
      obtain ⟨i, hi, rfl⟩ := List.getElem_of_mem hz
      have := nodesL_mem args i hi
      omega)) vs p q]
theorem tm_both {V : Vw} : ∀ (fuel : Nat) (x : Tm), x.size ≤ fuel → ∀ (y : Tm) vs, RepL V x.pv vs → RepL V y.pv vs → x = y := by
  intro fuel
  induction fuel with
  | zero => intro x h; have := size_pos x; omega
  | succ fuel ih =>
    intro x hx y vs h k
    cases x with
    | mk a n s ls args =>
    cases y with
    | mk b m s' ls' args' =>
    simp only [Tm.size] at hx
    simp only [Tm.pv] at h k
    obtain ⟨v0, r0, rfl, h0, h⟩ := repl_cons h
    obtain ⟨v1, r1, rfl, h1, h⟩ := repl_cons h
    obtain ⟨v2, r2, rfl, h2, h⟩ := repl_cons h
    obtain ⟨v3, r3, rfl, h3, h⟩ := repl_cons h
    obtain ⟨v4, r4, rfl, h4, h⟩ := repl_cons h
    obtain ⟨_, _, e, k0, k⟩ := repl_cons k
    cases e
    obtain ⟨_, _, e, k1, k⟩ := repl_cons k
    cases e
    obtain ⟨_, _, e, k2, k⟩ := repl_cons k
    cases e
    obtain ⟨_, _, e, k3, k⟩ := repl_cons k
    cases e
    obtain ⟨_, _, e, k4, k⟩ := repl_cons k
    cases e
    cases sc_eq h0 k0
    cases sc_eq h1 k1
    cases sc_eq h2 k2
    obtain ⟨hl, vs, p, q⟩ := sl_both pv_len h3 k3
    rw [rows_both pv_len ls ls' hl (fun z hz => lv_both z.nodes z (Nat.le_refl _)) vs p q]
    obtain ⟨hl, vs, p, q⟩ := sl_both tm_len h4 k4
    rw [rows_both tm_len args args' hl (fun z hz => ih z (by
      obtain ⟨i, hi, rfl⟩ := List.getElem_of_mem hz
      have := sizeL_mem args i hi
      omega)) vs p q]
theorem meet_lvs {f g : Bool} {xs ys : List Lv} (hl : xs.length = ys.length) (h : Meet (xs.map (Lv.pvB f)).flatten (ys.map (Lv.pvB g)).flatten) : xs = ys := by
  obtain ⟨V, v, p, q⟩ := h
  have p' := Weak.ptr (WeakL.rows xs fun x _ => lv_weak' f x) V v p
  have q' := Weak.ptr (WeakL.rows ys fun x _ => lv_weak' g x) V v q
  have hfl : ∀ zs : List Lv, (zs.map Lv.pv).flatten.length = zs.length * 3 := fun zs => by
    rw [← List.flatMap_def]
    exact flat_lenG _ 3 pv_len zs
  obtain ⟨vs, h1, h2⟩ := ptr_both p' q' (by rw [hfl, hfl, hl])
  exact rows_both pv_len xs ys hl (fun z hz => lv_both z.nodes z (Nat.le_refl _)) vs h1 h2
theorem meet_tms {f g : Bool} {xs ys : List Tm} (hl : xs.length = ys.length) (h : Meet (xs.map (Tm.pvB f)).flatten (ys.map (Tm.pvB g)).flatten) : xs = ys := by
  obtain ⟨V, v, p, q⟩ := h
  have p' := Weak.ptr (WeakL.rows xs fun x _ => tm_weak f x) V v p
  have q' := Weak.ptr (WeakL.rows ys fun x _ => tm_weak g x) V v q
  have hfl : ∀ zs : List Tm, (zs.map Tm.pv).flatten.length = zs.length * 5 := fun zs => by
    rw [← List.flatMap_def]
    exact flat_lenG _ 5 tm_len zs
  obtain ⟨vs, h1, h2⟩ := ptr_both p' q' (by rw [hfl, hfl, hl])
  exact rows_both tm_len xs ys hl (fun z hz => tm_both z.size z (Nat.le_refl _)) vs h1 h2
theorem sameL_refl (xs : List Lv) : sameL xs xs = true := (sameL_iff xs xs rfl).2 rfl
theorem flat_ne {α : Type} {f : α → List PV} {sz : Nat} (hf : ∀ x, (f x).length = sz + 1) {xs : List α} (h : 0 < xs.length) : (xs.map f).flatten ≠ [] := by
  match xs, h with
  | x :: r, _ =>
    intro e
    have := hf x
    simp only [List.map_cons, List.flatten_cons, List.append_eq_nil_iff] at e
    rw [e.1] at this
    simp at this
set_option maxHeartbeats 8000000 in
theorem sameLevels_p (f g : Bool) (hfg : (f || g) = true) : ∀ (fuel : Nat) (xs ys : List Lv), nodesL xs < fuel → PPure Try.prog F.term_sameLevels [slB f 3 (xs.map (Lv.pvB f)), slB g 3 (ys.map (Lv.pvB g))] (.sc (.bool (decide (xs.length = ys.length) && sameL xs ys))) := by
  intro fuel
  induction fuel with
  | zero => intro xs ys h; omega
  | succ fuel ih =>
    intro xs ys hf
    refine pure_by is_term_sameLevels (by simp) rfl fun hb nx => ?_
    have hb0 : xs.length ≤ 9223372036854775807 ∧ ys.length ≤ 9223372036854775807 := by simp [bndL, slB_bnd] at hb; exact ⟨hb.1.1, hb.2.1⟩
    by_cases hl : xs.length = ys.length
    · by_cases h0 : xs.length = 0
      · obtain rfl : xs = [] := List.eq_nil_of_length_eq_zero h0
        obtain rfl : ys = [] := List.eq_nil_of_length_eq_zero hl.symm
        clear ih
        repeat' (first | ((with_reducible first | refine wA (by omega) ?_ | refine wB (by omega) ?_ | refine wC (by omega) ?_ | refine wD (by omega) ?_ | refine wE ?_ ?_ | refine wF ?_ ?_ | refine wG ?_ ?_ | refine wH ?_ ?_ | refine wI ?_ ?_ | refine wJ ?_ ?_ | refine wK ?_ ?_ | refine wL ?_ ?_) <;> intro _) | simp (maxSteps := 1000000) (disch := omega) only [↓c_seq, ↓c_region, ↓c_cond, ↓c_block, ↓c_ret, ↓c_skip, ↓c_exit, ↓c_cont, ↓t_normal, ↓t_ret, ↓t_exit, ↓b_normal, ↓b_ret, ↓b_exit, ↓run_nil, ↓run_cons, num_nil, num_cons, ↓g_some, ↓o_mv, ↓o_pick, ↓o_bin, ↓o_un, ↓o_ld, ↓o_ldf, isP, ↓o_bld, ↓o_len, ↓o_mkf, ↓o_nilc, ↓o_fa, ↓o_fd, ↓o_ia, ↓o_iaa, ↓o_ix, ↓o_ixs, ↓o_ext, ↓o_al, ↓o_bxf, ↓o_bxt, ↓o_bsl, ↓o_bslf, chunks, ↓o_mks, ↓o_st, ↓o_stf, ↓o_call, ↓o_rng, ↓o_nxt, rngV, next_is, next_iter, ↓o_callm, ↓o_callmA, ↓o_calvm, ↓o_calv, val_some, new_some, st_some, stf_some, guard_tt, guard_ff, guard_tf, guard_ft, guard_un, ↓cond_true, ↓cond_false, calv_fn, put_some, put_none, ev_tmp, ev_const, ev_func, ↓upd_get, sig_eq, sigF_nil, ↓sigF_cons, q0, q1, nilcV, faV, fdV, iaaV, ixV, ixsV, extV, mksV, loadP, storeP, binPV, unPV, intBin, partsP, fillP, zeros, PV.good, PV.cellsOf, PV.one, q2, q3, q4, q5, q6, q7, q8, q9, q10, q11, q12, q13, q14, Nat.reduceAdd, Nat.reduceMul, Nat.reduceSub, Nat.reduceLeDiff, Nat.reduceEqDiff, Nat.reduceBEq, q15, q16, q17, q18, ↓reduceIte, reduceCtorEq, q19, q20, q21, q22, q23, q24, q25, q26, q27, q28, q29, q30, q31, q32, q33, q34, q35, q36, q37, q38, wrap64, ↓o_eqa, ↓o_mm, ↓o_app, app_some, mmL, mmV, mm2, eqE, eqParts, eqInt, eqBool, eqStr, partV, q39, q40, pickV, q41, Int.reduceEq, Int.reduceLE, Int.reduceLT, Int.reduceAdd, Int.reduceSub, Int.reduceNeg, Int.reduceToNat, Int.reduceNe, q42, q43, q44, q45, q46, q47, q48, q49, appE, oldOf, rowOf, updL, q50, q51, q52, q53, Nat.reducePow, zlt, ovr_get, Nat.reduceShiftRight, Nat.reduceMod, ite_neN, ite_eqN, q54, q55, q56, q57, q58, q59, q60, q61, q62, q63, q64, q65, q66, q67, tailP_f, tailP_t, tailF_f, tailF_t, ↓o_slc, slcP, bndO, capO, slcLen, intOf, Option.isSome_none, Option.isNone_none, Option.isSome_some, Option.isNone_some, nilP, slc_sl, slc_csl, slc_osl, slc_osl0, slc_ocap, slc_str, pv_len, pv_take, Nat.add_assoc, tm_len, tm_take, pv_one, tm_one, tpvB_len, tpvB_take, tpvB_one, pvB_len, pvB_take, pvB_one, List.length_append, id_ne, id_ne', id_ne2, List.append_nil, List.append_assoc, lenPV_slB, iaV_slB_f, iaV_slB_t, mc_term_sameLevels, *])
        refine c_rounds 1 ?_
        repeat' (first | ((with_reducible first | refine wA (by omega) ?_ | refine wB (by omega) ?_ | refine wC (by omega) ?_ | refine wD (by omega) ?_ | refine wE ?_ ?_ | refine wF ?_ ?_ | refine wG ?_ ?_ | refine wH ?_ ?_ | refine wI ?_ ?_ | refine wJ ?_ ?_ | refine wK ?_ ?_ | refine wL ?_ ?_) <;> intro _) | simp (maxSteps := 1000000) (disch := omega) only [↓c_seq, ↓c_region, ↓c_cond, ↓c_block, ↓c_ret, ↓c_skip, ↓c_exit, ↓c_cont, ↓t_normal, ↓t_ret, ↓t_exit, ↓b_normal, ↓b_ret, ↓b_exit, ↓run_nil, ↓run_cons, num_nil, num_cons, ↓g_some, ↓o_mv, ↓o_pick, ↓o_bin, ↓o_un, ↓o_ld, ↓o_ldf, isP, ↓o_bld, ↓o_len, ↓o_mkf, ↓o_nilc, ↓o_fa, ↓o_fd, ↓o_ia, ↓o_iaa, ↓o_ix, ↓o_ixs, ↓o_ext, ↓o_al, ↓o_bxf, ↓o_bxt, ↓o_bsl, ↓o_bslf, chunks, ↓o_mks, ↓o_st, ↓o_stf, ↓o_call, ↓o_rng, ↓o_nxt, rngV, next_is, next_iter, ↓o_callm, ↓o_callmA, ↓o_calvm, ↓o_calv, val_some, new_some, st_some, stf_some, guard_tt, guard_ff, guard_tf, guard_ft, guard_un, ↓cond_true, ↓cond_false, calv_fn, put_some, put_none, ev_tmp, ev_const, ev_func, ↓upd_get, sig_eq, sigF_nil, ↓sigF_cons, q0, q1, nilcV, faV, fdV, iaaV, ixV, ixsV, extV, mksV, loadP, storeP, binPV, unPV, intBin, partsP, fillP, zeros, PV.good, PV.cellsOf, PV.one, q2, q3, q4, q5, q6, q7, q8, q9, q10, q11, q12, q13, q14, Nat.reduceAdd, Nat.reduceMul, Nat.reduceSub, Nat.reduceLeDiff, Nat.reduceEqDiff, Nat.reduceBEq, q15, q16, q17, q18, ↓reduceIte, reduceCtorEq, q19, q20, q21, q22, q23, q24, q25, q26, q27, q28, q29, q30, q31, q32, q33, q34, q35, q36, q37, q38, wrap64, ↓o_eqa, ↓o_mm, ↓o_app, app_some, mmL, mmV, mm2, eqE, eqParts, eqInt, eqBool, eqStr, partV, q39, q40, pickV, q41, Int.reduceEq, Int.reduceLE, Int.reduceLT, Int.reduceAdd, Int.reduceSub, Int.reduceNeg, Int.reduceToNat, Int.reduceNe, q42, q43, q44, q45, q46, q47, q48, q49, appE, oldOf, rowOf, updL, q50, q51, q52, q53, Nat.reducePow, zlt, ovr_get, Nat.reduceShiftRight, Nat.reduceMod, ite_neN, ite_eqN, q54, q55, q56, q57, q58, q59, q60, q61, q62, q63, q64, q65, q66, q67, tailP_f, tailP_t, tailF_f, tailF_t, ↓o_slc, slcP, bndO, capO, slcLen, intOf, Option.isSome_none, Option.isNone_none, Option.isSome_some, Option.isNone_some, nilP, slc_sl, slc_csl, slc_osl, slc_osl0, slc_ocap, slc_str, pv_len, pv_take, Nat.add_assoc, tm_len, tm_take, pv_one, tm_one, tpvB_len, tpvB_take, tpvB_one, pvB_len, pvB_take, pvB_one, List.length_append, id_ne, id_ne', id_ne2, List.append_nil, List.append_assoc, lenPV_slB, iaV_slB_f, iaV_slB_t, rounds_next, *])
        refine fin_tmp (.inr rfl) ?_
        simp [upd, sameL]
      · have h00 : 0 < xs.length := by omega
        have eg : xs[0]? = some xs[0] := List.getElem?_eq_getElem h00
        have eg2 : ys[0]? = some ys[0] := List.getElem?_eq_getElem (by omega)
        repeat' (first | ((with_reducible first | refine wA (by omega) ?_ | refine wB (by omega) ?_ | refine wC (by omega) ?_ | refine wD (by omega) ?_ | refine wE ?_ ?_ | refine wF ?_ ?_ | refine wG ?_ ?_ | refine wH ?_ ?_ | refine wI ?_ ?_ | refine wJ ?_ ?_ | refine wK ?_ ?_ | refine wL ?_ ?_) <;> intro _) | simp (maxSteps := 1000000) (disch := omega) only [↓c_seq, ↓c_region, ↓c_cond, ↓c_block, ↓c_ret, ↓c_skip, ↓c_exit, ↓c_cont, ↓t_normal, ↓t_ret, ↓t_exit, ↓b_normal, ↓b_ret, ↓b_exit, ↓run_nil, ↓run_cons, num_nil, num_cons, ↓g_some, ↓o_mv, ↓o_pick, ↓o_bin, ↓o_un, ↓o_ld, ↓o_ldf, isP, ↓o_bld, ↓o_len, ↓o_mkf, ↓o_nilc, ↓o_fa, ↓o_fd, ↓o_ia, ↓o_iaa, ↓o_ix, ↓o_ixs, ↓o_ext, ↓o_al, ↓o_bxf, ↓o_bxt, ↓o_bsl, ↓o_bslf, chunks, ↓o_mks, ↓o_st, ↓o_stf, ↓o_call, ↓o_rng, ↓o_nxt, rngV, next_is, next_iter, ↓o_callm, ↓o_callmA, ↓o_calvm, ↓o_calv, val_some, new_some, st_some, stf_some, guard_tt, guard_ff, guard_tf, guard_ft, guard_un, ↓cond_true, ↓cond_false, calv_fn, put_some, put_none, ev_tmp, ev_const, ev_func, ↓upd_get, sig_eq, sigF_nil, ↓sigF_cons, q0, q1, nilcV, faV, fdV, iaaV, ixV, ixsV, extV, mksV, loadP, storeP, binPV, unPV, intBin, partsP, fillP, zeros, PV.good, PV.cellsOf, PV.one, q2, q3, q4, q5, q6, q7, q8, q9, q10, q11, q12, q13, q14, Nat.reduceAdd, Nat.reduceMul, Nat.reduceSub, Nat.reduceLeDiff, Nat.reduceEqDiff, Nat.reduceBEq, q15, q16, q17, q18, ↓reduceIte, reduceCtorEq, q19, q20, q21, q22, q23, q24, q25, q26, q27, q28, q29, q30, q31, q32, q33, q34, q35, q36, q37, q38, wrap64, ↓o_eqa, ↓o_mm, ↓o_app, app_some, mmL, mmV, mm2, eqE, eqParts, eqInt, eqBool, eqStr, partV, q39, q40, pickV, q41, Int.reduceEq, Int.reduceLE, Int.reduceLT, Int.reduceAdd, Int.reduceSub, Int.reduceNeg, Int.reduceToNat, Int.reduceNe, q42, q43, q44, q45, q46, q47, q48, q49, appE, oldOf, rowOf, updL, q50, q51, q52, q53, Nat.reducePow, zlt, ovr_get, Nat.reduceShiftRight, Nat.reduceMod, ite_neN, ite_eqN, q54, q55, q56, q57, q58, q59, q60, q61, q62, q63, q64, q65, q66, q67, tailP_f, tailP_t, tailF_f, tailF_t, ↓o_slc, slcP, bndO, capO, slcLen, intOf, Option.isSome_none, Option.isNone_none, Option.isSome_some, Option.isNone_some, nilP, slc_sl, slc_csl, slc_osl, slc_osl0, slc_ocap, slc_str, pv_len, pv_take, Nat.add_assoc, tm_len, tm_take, pv_one, tm_one, tpvB_len, tpvB_take, tpvB_one, pvB_len, pvB_take, pvB_one, List.length_append, id_ne, id_ne', id_ne2, List.append_nil, List.append_assoc, lenPV_slB, iaV_slB_f, iaV_slB_t, mc_term_sameLevels, *])
        refine o_peq (f := f) (g := g) (cs := (xs.map (Lv.pvB f)).flatten) (ds := (ys.map (Lv.pvB g)).flatten) (n := 2) rfl rfl Try.underlying94 (by kernel_rfl) (by (simp (disch := omega) only [go_sem, Nat.reduceMul, Nat.reduceSub, Nat.reduceShiftRight, Nat.reduceMod, Nat.reduceEqDiff, Nat.reduceAdd, ↓reduceIte, Nat.reduceLeDiff, ev_tmp, ptrOf_B])) (by (simp (disch := omega) only [go_sem, Nat.reduceMul, Nat.reduceSub, Nat.reduceShiftRight, Nat.reduceMod, Nat.reduceEqDiff, Nat.reduceAdd, ↓reduceIte, Nat.reduceLeDiff, ev_tmp, ptrOf_B])) hfg (flat_ne (pvB_len f) h00) (flat_ne (pvB_len g) (by omega)) fun t ht => ?_
        cases t with
        | true =>
          obtain rfl := meet_lvs hl (ht rfl)
          have hrf := sameL_refl xs
          clear ih ht
          repeat' (first | ((with_reducible first | refine wA (by omega) ?_ | refine wB (by omega) ?_ | refine wC (by omega) ?_ | refine wD (by omega) ?_ | refine wE ?_ ?_ | refine wF ?_ ?_ | refine wG ?_ ?_ | refine wH ?_ ?_ | refine wI ?_ ?_ | refine wJ ?_ ?_ | refine wK ?_ ?_ | refine wL ?_ ?_) <;> intro _) | simp (maxSteps := 1000000) (disch := omega) only [↓c_seq, ↓c_region, ↓c_cond, ↓c_block, ↓c_ret, ↓c_skip, ↓c_exit, ↓c_cont, ↓t_normal, ↓t_ret, ↓t_exit, ↓b_normal, ↓b_ret, ↓b_exit, ↓run_nil, ↓run_cons, num_nil, num_cons, ↓g_some, ↓o_mv, ↓o_pick, ↓o_bin, ↓o_un, ↓o_ld, ↓o_ldf, isP, ↓o_bld, ↓o_len, ↓o_mkf, ↓o_nilc, ↓o_fa, ↓o_fd, ↓o_ia, ↓o_iaa, ↓o_ix, ↓o_ixs, ↓o_ext, ↓o_al, ↓o_bxf, ↓o_bxt, ↓o_bsl, ↓o_bslf, chunks, ↓o_mks, ↓o_st, ↓o_stf, ↓o_call, ↓o_rng, ↓o_nxt, rngV, next_is, next_iter, ↓o_callm, ↓o_callmA, ↓o_calvm, ↓o_calv, val_some, new_some, st_some, stf_some, guard_tt, guard_ff, guard_tf, guard_ft, guard_un, ↓cond_true, ↓cond_false, calv_fn, put_some, put_none, ev_tmp, ev_const, ev_func, ↓upd_get, sig_eq, sigF_nil, ↓sigF_cons, q0, q1, nilcV, faV, fdV, iaaV, ixV, ixsV, extV, mksV, loadP, storeP, binPV, unPV, intBin, partsP, fillP, zeros, PV.good, PV.cellsOf, PV.one, q2, q3, q4, q5, q6, q7, q8, q9, q10, q11, q12, q13, q14, Nat.reduceAdd, Nat.reduceMul, Nat.reduceSub, Nat.reduceLeDiff, Nat.reduceEqDiff, Nat.reduceBEq, q15, q16, q17, q18, ↓reduceIte, reduceCtorEq, q19, q20, q21, q22, q23, q24, q25, q26, q27, q28, q29, q30, q31, q32, q33, q34, q35, q36, q37, q38, wrap64, ↓o_eqa, ↓o_mm, ↓o_app, app_some, mmL, mmV, mm2, eqE, eqParts, eqInt, eqBool, eqStr, partV, q39, q40, pickV, q41, Int.reduceEq, Int.reduceLE, Int.reduceLT, Int.reduceAdd, Int.reduceSub, Int.reduceNeg, Int.reduceToNat, Int.reduceNe, q42, q43, q44, q45, q46, q47, q48, q49, appE, oldOf, rowOf, updL, q50, q51, q52, q53, Nat.reducePow, zlt, ovr_get, Nat.reduceShiftRight, Nat.reduceMod, ite_neN, ite_eqN, q54, q55, q56, q57, q58, q59, q60, q61, q62, q63, q64, q65, q66, q67, tailP_f, tailP_t, tailF_f, tailF_t, ↓o_slc, slcP, bndO, capO, slcLen, intOf, Option.isSome_none, Option.isNone_none, Option.isSome_some, Option.isNone_some, nilP, slc_sl, slc_csl, slc_osl, slc_osl0, slc_ocap, slc_str, pv_len, pv_take, Nat.add_assoc, tm_len, tm_take, pv_one, tm_one, tpvB_len, tpvB_take, tpvB_one, pvB_len, pvB_take, pvB_one, List.length_append, id_ne, id_ne', id_ne2, List.append_nil, List.append_assoc, lenPV_slB, iaV_slB_f, iaV_slB_t, *])
          refine fin_tmp (.inr rfl) ?_
          simp [upd, hrf]
        | false =>
          clear ht eg eg2
          repeat' (first | ((with_reducible first | refine wA (by omega) ?_ | refine wB (by omega) ?_ | refine wC (by omega) ?_ | refine wD (by omega) ?_ | refine wE ?_ ?_ | refine wF ?_ ?_ | refine wG ?_ ?_ | refine wH ?_ ?_ | refine wI ?_ ?_ | refine wJ ?_ ?_ | refine wK ?_ ?_ | refine wL ?_ ?_) <;> intro _) | simp (maxSteps := 1000000) (disch := omega) only [↓c_seq, ↓c_region, ↓c_cond, ↓c_block, ↓c_ret, ↓c_skip, ↓c_exit, ↓c_cont, ↓t_normal, ↓t_ret, ↓t_exit, ↓b_normal, ↓b_ret, ↓b_exit, ↓run_nil, ↓run_cons, num_nil, num_cons, ↓g_some, ↓o_mv, ↓o_pick, ↓o_bin, ↓o_un, ↓o_ld, ↓o_ldf, isP, ↓o_bld, ↓o_len, ↓o_mkf, ↓o_nilc, ↓o_fa, ↓o_fd, ↓o_ia, ↓o_iaa, ↓o_ix, ↓o_ixs, ↓o_ext, ↓o_al, ↓o_bxf, ↓o_bxt, ↓o_bsl, ↓o_bslf, chunks, ↓o_mks, ↓o_st, ↓o_stf, ↓o_call, ↓o_rng, ↓o_nxt, rngV, next_is, next_iter, ↓o_callm, ↓o_callmA, ↓o_calvm, ↓o_calv, val_some, new_some, st_some, stf_some, guard_tt, guard_ff, guard_tf, guard_ft, guard_un, ↓cond_true, ↓cond_false, calv_fn, put_some, put_none, ev_tmp, ev_const, ev_func, ↓upd_get, sig_eq, sigF_nil, ↓sigF_cons, q0, q1, nilcV, faV, fdV, iaaV, ixV, ixsV, extV, mksV, loadP, storeP, binPV, unPV, intBin, partsP, fillP, zeros, PV.good, PV.cellsOf, PV.one, q2, q3, q4, q5, q6, q7, q8, q9, q10, q11, q12, q13, q14, Nat.reduceAdd, Nat.reduceMul, Nat.reduceSub, Nat.reduceLeDiff, Nat.reduceEqDiff, Nat.reduceBEq, q15, q16, q17, q18, ↓reduceIte, reduceCtorEq, q19, q20, q21, q22, q23, q24, q25, q26, q27, q28, q29, q30, q31, q32, q33, q34, q35, q36, q37, q38, wrap64, ↓o_eqa, ↓o_mm, ↓o_app, app_some, mmL, mmV, mm2, eqE, eqParts, eqInt, eqBool, eqStr, partV, q39, q40, pickV, q41, Int.reduceEq, Int.reduceLE, Int.reduceLT, Int.reduceAdd, Int.reduceSub, Int.reduceNeg, Int.reduceToNat, Int.reduceNe, q42, q43, q44, q45, q46, q47, q48, q49, appE, oldOf, rowOf, updL, q50, q51, q52, q53, Nat.reducePow, zlt, ovr_get, Nat.reduceShiftRight, Nat.reduceMod, ite_neN, ite_eqN, q54, q55, q56, q57, q58, q59, q60, q61, q62, q63, q64, q65, q66, q67, tailP_f, tailP_t, tailF_f, tailF_t, ↓o_slc, slcP, bndO, capO, slcLen, intOf, Option.isSome_none, Option.isNone_none, Option.isSome_some, Option.isNone_some, nilP, slc_sl, slc_csl, slc_osl, slc_osl0, slc_ocap, slc_str, pv_len, pv_take, Nat.add_assoc, tm_len, tm_take, pv_one, tm_one, tpvB_len, tpvB_take, tpvB_one, pvB_len, pvB_take, pvB_one, List.length_append, id_ne, id_ne', id_ne2, List.append_nil, List.append_assoc, lenPV_slB, iaV_slB_f, iaV_slB_t, *])
          refine c_loopW 36893488147410714672 (by kernel_rfl) (fun j F H m => ∃ i : Nat, j = xs.length - i ∧ i ≤ xs.length ∧ F 23 = .sc (.int .i64 i) ∧ sameL (xs.take i) (ys.take i) = true) _ ⟨0, rfl, cE1, cE1, rfl⟩ ?_
          rintro _ F H m ⟨i, rfl, hi, e23, hs⟩
          by_cases hlt : i < xs.length
          · have hlt2 : i < ys.length := by omega
            have eg : xs[i]? = some xs[i] := List.getElem?_eq_getElem hlt
            have eg2 : ys[i]? = some ys[i] := List.getElem?_eq_getElem hlt2
            have hn := nodesL_mem xs i hlt
            have ht := sameL_take xs ys i hlt hlt2
            have hq := sameL_false xs ys i hlt hlt2
            generalize xs[i] = x at *
            generalize ys[i] = y at *
            cases x with
            | mk k1 n1 a1 =>
            cases y with
            | mk k2 n2 a2 =>
            simp only [Lv.nodes] at hn
            simp only [Lv.same] at ht hq
            have hc := ih a1 a2 (by omega)
            have ht' := Kept.mk ht
            have hq' := Kept.mk hq
            have hl' := Kept.mk hl
            clear ih ht hq
            repeat' (first | ((with_reducible first | refine wA (by omega) ?_ | refine wB (by omega) ?_ | refine wC (by omega) ?_ | refine wD (by omega) ?_ | refine wE ?_ ?_ | refine wF ?_ ?_ | refine wG ?_ ?_ | refine wH ?_ ?_ | refine wI ?_ ?_ | refine wJ ?_ ?_ | refine wK ?_ ?_ | refine wL ?_ ?_) <;> intro _) | (((with_reducible refine call_id ?_); (first | (refine call_pure (hc) ?_)))) | simp (maxSteps := 1000000) (disch := omega) only [↓c_seq, ↓c_region, ↓c_cond, ↓c_block, ↓c_ret, ↓c_skip, ↓c_exit, ↓c_cont, ↓t_normal, ↓t_ret, ↓t_exit, ↓b_normal, ↓b_ret, ↓b_exit, ↓run_nil, ↓run_cons, num_nil, num_cons, ↓g_some, ↓o_mv, ↓o_pick, ↓o_bin, ↓o_un, ↓o_ld, ↓o_ldf, isP, ↓o_bld, ↓o_len, ↓o_mkf, ↓o_nilc, ↓o_fa, ↓o_fd, ↓o_ia, ↓o_iaa, ↓o_ix, ↓o_ixs, ↓o_ext, ↓o_al, ↓o_bxf, ↓o_bxt, ↓o_bsl, ↓o_bslf, chunks, ↓o_mks, ↓o_st, ↓o_stf, ↓o_call, ↓o_rng, ↓o_nxt, rngV, next_is, next_iter, ↓o_callm, ↓o_callmA, ↓o_calvm, ↓o_calv, val_some, new_some, st_some, stf_some, guard_tt, guard_ff, guard_tf, guard_ft, guard_un, ↓cond_true, ↓cond_false, calv_fn, put_some, put_none, ev_tmp, ev_const, ev_func, ↓upd_get, sig_eq, sigF_nil, ↓sigF_cons, q0, q1, nilcV, faV, fdV, iaaV, ixV, ixsV, extV, mksV, loadP, storeP, binPV, unPV, intBin, partsP, fillP, zeros, PV.good, PV.cellsOf, PV.one, q2, q3, q4, q5, q6, q7, q8, q9, q10, q11, q12, q13, q14, Nat.reduceAdd, Nat.reduceMul, Nat.reduceSub, Nat.reduceLeDiff, Nat.reduceEqDiff, Nat.reduceBEq, q15, q16, q17, q18, ↓reduceIte, reduceCtorEq, q19, q20, q21, q22, q23, q24, q25, q26, q27, q28, q29, q30, q31, q32, q33, q34, q35, q36, q37, q38, wrap64, ↓o_eqa, ↓o_mm, ↓o_app, app_some, mmL, mmV, mm2, eqE, eqParts, eqInt, eqBool, eqStr, partV, q39, q40, pickV, q41, Int.reduceEq, Int.reduceLE, Int.reduceLT, Int.reduceAdd, Int.reduceSub, Int.reduceNeg, Int.reduceToNat, Int.reduceNe, q42, q43, q44, q45, q46, q47, q48, q49, appE, oldOf, rowOf, updL, q50, q51, q52, q53, Nat.reducePow, zlt, ovr_get, Nat.reduceShiftRight, Nat.reduceMod, ite_neN, ite_eqN, q54, q55, q56, q57, q58, q59, q60, q61, q62, q63, q64, q65, q66, q67, tailP_f, tailP_t, tailF_f, tailF_t, ↓o_slc, slcP, bndO, capO, slcLen, intOf, Option.isSome_none, Option.isNone_none, Option.isSome_some, Option.isNone_some, nilP, slc_sl, slc_csl, slc_osl, slc_osl0, slc_ocap, slc_str, pv_len, pv_take, Nat.add_assoc, tm_len, tm_take, pv_one, tm_one, tpvB_len, tpvB_take, tpvB_one, pvB_len, pvB_take, pvB_one, List.length_append, id_ne, id_ne', id_ne2, List.append_nil, List.append_assoc, lenPV_slB, iaV_slB_f, iaV_slB_t, Lv.pvB, *])
            all_goals (try (have hqq := hq'.out (by simp [*]); refine fin_tmp (.inr rfl) ?_; simp [upd, hqq]; done))
            refine Nx.mk (xs.length - (i + 1)) cE1 ⟨i + 1, cE1, cE1, cE1, by rw [ht'.out]; simp [*]⟩
          · obtain rfl : i = xs.length := by omega
            have e : ys.take xs.length = ys := List.take_of_length_le (by omega)
            rw [List.take_length, e] at hs
            clear ih
            repeat' (first | ((with_reducible first | refine wA (by omega) ?_ | refine wB (by omega) ?_ | refine wC (by omega) ?_ | refine wD (by omega) ?_ | refine wE ?_ ?_ | refine wF ?_ ?_ | refine wG ?_ ?_ | refine wH ?_ ?_ | refine wI ?_ ?_ | refine wJ ?_ ?_ | refine wK ?_ ?_ | refine wL ?_ ?_) <;> intro _) | simp (maxSteps := 1000000) (disch := omega) only [↓c_seq, ↓c_region, ↓c_cond, ↓c_block, ↓c_ret, ↓c_skip, ↓c_exit, ↓c_cont, ↓t_normal, ↓t_ret, ↓t_exit, ↓b_normal, ↓b_ret, ↓b_exit, ↓run_nil, ↓run_cons, num_nil, num_cons, ↓g_some, ↓o_mv, ↓o_pick, ↓o_bin, ↓o_un, ↓o_ld, ↓o_ldf, isP, ↓o_bld, ↓o_len, ↓o_mkf, ↓o_nilc, ↓o_fa, ↓o_fd, ↓o_ia, ↓o_iaa, ↓o_ix, ↓o_ixs, ↓o_ext, ↓o_al, ↓o_bxf, ↓o_bxt, ↓o_bsl, ↓o_bslf, chunks, ↓o_mks, ↓o_st, ↓o_stf, ↓o_call, ↓o_rng, ↓o_nxt, rngV, next_is, next_iter, ↓o_callm, ↓o_callmA, ↓o_calvm, ↓o_calv, val_some, new_some, st_some, stf_some, guard_tt, guard_ff, guard_tf, guard_ft, guard_un, ↓cond_true, ↓cond_false, calv_fn, put_some, put_none, ev_tmp, ev_const, ev_func, ↓upd_get, sig_eq, sigF_nil, ↓sigF_cons, q0, q1, nilcV, faV, fdV, iaaV, ixV, ixsV, extV, mksV, loadP, storeP, binPV, unPV, intBin, partsP, fillP, zeros, PV.good, PV.cellsOf, PV.one, q2, q3, q4, q5, q6, q7, q8, q9, q10, q11, q12, q13, q14, Nat.reduceAdd, Nat.reduceMul, Nat.reduceSub, Nat.reduceLeDiff, Nat.reduceEqDiff, Nat.reduceBEq, q15, q16, q17, q18, ↓reduceIte, reduceCtorEq, q19, q20, q21, q22, q23, q24, q25, q26, q27, q28, q29, q30, q31, q32, q33, q34, q35, q36, q37, q38, wrap64, ↓o_eqa, ↓o_mm, ↓o_app, app_some, mmL, mmV, mm2, eqE, eqParts, eqInt, eqBool, eqStr, partV, q39, q40, pickV, q41, Int.reduceEq, Int.reduceLE, Int.reduceLT, Int.reduceAdd, Int.reduceSub, Int.reduceNeg, Int.reduceToNat, Int.reduceNe, q42, q43, q44, q45, q46, q47, q48, q49, appE, oldOf, rowOf, updL, q50, q51, q52, q53, Nat.reducePow, zlt, ovr_get, Nat.reduceShiftRight, Nat.reduceMod, ite_neN, ite_eqN, q54, q55, q56, q57, q58, q59, q60, q61, q62, q63, q64, q65, q66, q67, tailP_f, tailP_t, tailF_f, tailF_t, ↓o_slc, slcP, bndO, capO, slcLen, intOf, Option.isSome_none, Option.isNone_none, Option.isSome_some, Option.isNone_some, nilP, slc_sl, slc_csl, slc_osl, slc_osl0, slc_ocap, slc_str, pv_len, pv_take, Nat.add_assoc, tm_len, tm_take, pv_one, tm_one, tpvB_len, tpvB_take, tpvB_one, pvB_len, pvB_take, pvB_one, List.length_append, id_ne, id_ne', id_ne2, List.append_nil, List.append_assoc, lenPV_slB, iaV_slB_f, iaV_slB_t, *])
            refine fin_tmp (.inr rfl) ?_
            simp [upd, hs]
    · repeat' (first | ((with_reducible first | refine wA (by omega) ?_ | refine wB (by omega) ?_ | refine wC (by omega) ?_ | refine wD (by omega) ?_ | refine wE ?_ ?_ | refine wF ?_ ?_ | refine wG ?_ ?_ | refine wH ?_ ?_ | refine wI ?_ ?_ | refine wJ ?_ ?_ | refine wK ?_ ?_ | refine wL ?_ ?_) <;> intro _) | simp (maxSteps := 1000000) (disch := omega) only [↓c_seq, ↓c_region, ↓c_cond, ↓c_block, ↓c_ret, ↓c_skip, ↓c_exit, ↓c_cont, ↓t_normal, ↓t_ret, ↓t_exit, ↓b_normal, ↓b_ret, ↓b_exit, ↓run_nil, ↓run_cons, num_nil, num_cons, ↓g_some, ↓o_mv, ↓o_pick, ↓o_bin, ↓o_un, ↓o_ld, ↓o_ldf, isP, ↓o_bld, ↓o_len, ↓o_mkf, ↓o_nilc, ↓o_fa, ↓o_fd, ↓o_ia, ↓o_iaa, ↓o_ix, ↓o_ixs, ↓o_ext, ↓o_al, ↓o_bxf, ↓o_bxt, ↓o_bsl, ↓o_bslf, chunks, ↓o_mks, ↓o_st, ↓o_stf, ↓o_call, ↓o_rng, ↓o_nxt, rngV, next_is, next_iter, ↓o_callm, ↓o_callmA, ↓o_calvm, ↓o_calv, val_some, new_some, st_some, stf_some, guard_tt, guard_ff, guard_tf, guard_ft, guard_un, ↓cond_true, ↓cond_false, calv_fn, put_some, put_none, ev_tmp, ev_const, ev_func, ↓upd_get, sig_eq, sigF_nil, ↓sigF_cons, q0, q1, nilcV, faV, fdV, iaaV, ixV, ixsV, extV, mksV, loadP, storeP, binPV, unPV, intBin, partsP, fillP, zeros, PV.good, PV.cellsOf, PV.one, q2, q3, q4, q5, q6, q7, q8, q9, q10, q11, q12, q13, q14, Nat.reduceAdd, Nat.reduceMul, Nat.reduceSub, Nat.reduceLeDiff, Nat.reduceEqDiff, Nat.reduceBEq, q15, q16, q17, q18, ↓reduceIte, reduceCtorEq, q19, q20, q21, q22, q23, q24, q25, q26, q27, q28, q29, q30, q31, q32, q33, q34, q35, q36, q37, q38, wrap64, ↓o_eqa, ↓o_mm, ↓o_app, app_some, mmL, mmV, mm2, eqE, eqParts, eqInt, eqBool, eqStr, partV, q39, q40, pickV, q41, Int.reduceEq, Int.reduceLE, Int.reduceLT, Int.reduceAdd, Int.reduceSub, Int.reduceNeg, Int.reduceToNat, Int.reduceNe, q42, q43, q44, q45, q46, q47, q48, q49, appE, oldOf, rowOf, updL, q50, q51, q52, q53, Nat.reducePow, zlt, ovr_get, Nat.reduceShiftRight, Nat.reduceMod, ite_neN, ite_eqN, q54, q55, q56, q57, q58, q59, q60, q61, q62, q63, q64, q65, q66, q67, tailP_f, tailP_t, tailF_f, tailF_t, ↓o_slc, slcP, bndO, capO, slcLen, intOf, Option.isSome_none, Option.isNone_none, Option.isSome_some, Option.isNone_some, nilP, slc_sl, slc_csl, slc_osl, slc_osl0, slc_ocap, slc_str, pv_len, pv_take, Nat.add_assoc, tm_len, tm_take, pv_one, tm_one, tpvB_len, tpvB_take, tpvB_one, pvB_len, pvB_take, pvB_one, List.length_append, id_ne, id_ne', id_ne2, List.append_nil, List.append_assoc, lenPV_slB, iaV_slB_f, iaV_slB_t, mc_term_sameLevels, *])
      all_goals (refine fin_tmp (.inr rfl) ?_; simp [upd, *])
end
section
set_option maxRecDepth 20000
attribute [local go_sem] pv_len pv_take Nat.add_assoc tm_len tm_take pv_one tm_one tpvB_len tpvB_take tpvB_one pvB_len pvB_take pvB_one id_ne id_ne' id_ne2 List.append_assoc lenPV_slB iaV_slB_f iaV_slB_t
mutual
theorem tsame_iff : ∀ a b : Tm, a.same b = true ↔ a = b
  | .mk k n s ls xs, .mk k' n' s' ls' ys => by
    simp only [Tm.same, Bool.and_eq_true, decide_eq_true_eq, Tm.mk.injEq]
    constructor
    · rintro ⟨h1, h2, h3, h4, h5, h6, h7⟩
      refine ⟨h1, h2, ?_, (sameL_iff ls ls' (by simpa using h4)).1 h6, (sameT_iff xs ys (by simpa using h5)).1 h7⟩
      unfold sameB at h3
      exact (Lib.bytes_beq_iff s s').1 h3
    · rintro ⟨h1, h2, h3, h4, h5⟩
      subst h3; subst h4; subst h5
      refine ⟨h1, h2, ?_, by simp, by simp, sameL_refl ls, (sameT_iff xs xs rfl).2 rfl⟩
      unfold sameB
      exact (Lib.bytes_beq_iff s s).2 rfl
theorem sameT_iff : ∀ xs ys : List Tm, xs.length = ys.length → (sameT xs ys = true ↔ xs = ys)
  | [], [], _ => by simp [sameT]
  | x :: xs, y :: ys, h => by
    simp only [sameT, Bool.and_eq_true, List.cons.injEq]
    rw [tsame_iff x y, sameT_iff xs ys (by simpa using h)]
  | [], y :: ys, h => by simp at h
  | x :: xs, [], h => by simp at h
end
theorem sameT_refl (xs : List Tm) : sameT xs xs = true := (sameT_iff xs xs rfl).2 rfl
set_option maxHeartbeats 16000000 in
theorem term_same_p (f g : Bool) (hfg : (f || g) = true) : ∀ (fuel : Nat) (a b : Tm), a.size ≤ fuel → PPure Try.prog F.term_same [.ptr (a.pvB f), .ptr (b.pvB g)] (.sc (.bool (a.same b))) := by
  intro fuel
  induction fuel with
  | zero => intro l _ h; have := size_pos l; omega
  | succ fuel ih =>
    intro a b hf
    cases a with
    | mk k n s ls xs =>
    cases b with
    | mk k' n' s' ls' ys =>
    simp only [Tm.size] at hf
    refine pure_by is_term_same (by simp) rfl fun hb nx => ?_
    have hb0 : (xs.length ≤ 9223372036854775807 ∧ ys.length ≤ 9223372036854775807) := by simp [Tm.pvB, bndL, PV.bnd, slB_bnd] at hb; omega
    have hc1 := sameLevels_p f g hfg _ ls ls' (Nat.lt_succ_self _)
    by_cases h0 : xs.length = 0
    · obtain rfl : xs = [] := List.eq_nil_of_length_eq_zero h0
      clear ih
      repeat' (first | ((with_reducible first | refine wA (by omega) ?_ | refine wB (by omega) ?_ | refine wC (by omega) ?_ | refine wD (by omega) ?_ | refine wE ?_ ?_ | refine wF ?_ ?_ | refine wG ?_ ?_ | refine wH ?_ ?_ | refine wI ?_ ?_ | refine wJ ?_ ?_ | refine wK ?_ ?_ | refine wL ?_ ?_) <;> intro _) | (((with_reducible refine call_id ?_); (first | (refine call_pure (hc1) ?_)))) | simp (maxSteps := 1000000) (disch := omega) only [↓c_seq, ↓c_region, ↓c_cond, ↓c_block, ↓c_ret, ↓c_skip, ↓c_exit, ↓c_cont, ↓t_normal, ↓t_ret, ↓t_exit, ↓b_normal, ↓b_ret, ↓b_exit, ↓run_nil, ↓run_cons, num_nil, num_cons, ↓g_some, ↓o_mv, ↓o_pick, ↓o_bin, ↓o_un, ↓o_ld, ↓o_ldf, isP, ↓o_bld, ↓o_len, ↓o_mkf, ↓o_nilc, ↓o_fa, ↓o_fd, ↓o_ia, ↓o_iaa, ↓o_ix, ↓o_ixs, ↓o_ext, ↓o_al, ↓o_bxf, ↓o_bxt, ↓o_bsl, ↓o_bslf, chunks, ↓o_mks, ↓o_st, ↓o_stf, ↓o_call, ↓o_rng, ↓o_nxt, rngV, next_is, next_iter, ↓o_callm, ↓o_callmA, ↓o_calvm, ↓o_calv, val_some, new_some, st_some, stf_some, guard_tt, guard_ff, guard_tf, guard_ft, guard_un, ↓cond_true, ↓cond_false, calv_fn, put_some, put_none, ev_tmp, ev_const, ev_func, ↓upd_get, sig_eq, sigF_nil, ↓sigF_cons, q0, q1, nilcV, faV, fdV, iaaV, ixV, ixsV, extV, mksV, loadP, storeP, binPV, unPV, intBin, partsP, fillP, zeros, PV.good, PV.cellsOf, PV.one, q2, q3, q4, q5, q6, q7, q8, q9, q10, q11, q12, q13, q14, Nat.reduceAdd, Nat.reduceMul, Nat.reduceSub, Nat.reduceLeDiff, Nat.reduceEqDiff, Nat.reduceBEq, q15, q16, q17, q18, ↓reduceIte, reduceCtorEq, q19, q20, q21, q22, q23, q24, q25, q26, q27, q28, q29, q30, q31, q32, q33, q34, q35, q36, q37, q38, wrap64, ↓o_eqa, ↓o_mm, ↓o_app, app_some, mmL, mmV, mm2, eqE, eqParts, eqInt, eqBool, eqStr, partV, q39, q40, pickV, q41, Int.reduceEq, Int.reduceLE, Int.reduceLT, Int.reduceAdd, Int.reduceSub, Int.reduceNeg, Int.reduceToNat, Int.reduceNe, q42, q43, q44, q45, q46, q47, q48, q49, appE, oldOf, rowOf, updL, q50, q51, q52, q53, Nat.reducePow, zlt, ovr_get, Nat.reduceShiftRight, Nat.reduceMod, ite_neN, ite_eqN, q54, q55, q56, q57, q58, q59, q60, q61, q62, q63, q64, q65, q66, q67, tailP_f, tailP_t, tailF_f, tailF_t, ↓o_slc, slcP, bndO, capO, slcLen, intOf, Option.isSome_none, Option.isNone_none, Option.isSome_some, Option.isNone_some, nilP, slc_sl, slc_csl, slc_osl, slc_osl0, slc_ocap, slc_str, pv_len, pv_take, Nat.add_assoc, tm_len, tm_take, pv_one, tm_one, tpvB_len, tpvB_take, tpvB_one, pvB_len, pvB_take, pvB_one, List.length_append, id_ne, id_ne', id_ne2, List.append_nil, List.append_assoc, lenPV_slB, iaV_slB_f, iaV_slB_t, mc_term_same, Tm.pvB, strBin, fold_sameB, *])
      all_goals (try (refine fin_tmp (.inr rfl) ?_; simp [upd, Tm.same, sameT, *]; done))
      · rename_i q
        refine fin_tmp (.inr rfl) ?_
        have q' : ¬ ([] : List Tm).length = ys.length := by simp at q ⊢; omega
        simp only [Tm.same, decide_eq_false q']
        simp [upd]
      · rename_i q
        refine fin_tmp (.inr rfl) ?_
        have q' : (decide (ls.length = ls'.length) && (decide (([] : List Tm).length = ys.length) && (sameL ls ls' && sameT [] ys))) = false := by
          rw [Bool.and_eq_false_iff] at q ⊢
          rcases q with q | q
          · exact .inl q
          · right; simp [q]
        simp only [Tm.same, q']
        simp [upd]
      · rename_i u5 u4 u3 u2 u1 u0
        obtain rfl : ys = [] := List.eq_nil_of_length_eq_zero (by omega)
        clear u0 u2
        refine c_rounds 1 ?_
        repeat' (first | ((with_reducible first | refine wA (by omega) ?_ | refine wB (by omega) ?_ | refine wC (by omega) ?_ | refine wD (by omega) ?_ | refine wE ?_ ?_ | refine wF ?_ ?_ | refine wG ?_ ?_ | refine wH ?_ ?_ | refine wI ?_ ?_ | refine wJ ?_ ?_ | refine wK ?_ ?_ | refine wL ?_ ?_) <;> intro _) | simp (maxSteps := 1000000) (disch := omega) only [↓c_seq, ↓c_region, ↓c_cond, ↓c_block, ↓c_ret, ↓c_skip, ↓c_exit, ↓c_cont, ↓t_normal, ↓t_ret, ↓t_exit, ↓b_normal, ↓b_ret, ↓b_exit, ↓run_nil, ↓run_cons, num_nil, num_cons, ↓g_some, ↓o_mv, ↓o_pick, ↓o_bin, ↓o_un, ↓o_ld, ↓o_ldf, isP, ↓o_bld, ↓o_len, ↓o_mkf, ↓o_nilc, ↓o_fa, ↓o_fd, ↓o_ia, ↓o_iaa, ↓o_ix, ↓o_ixs, ↓o_ext, ↓o_al, ↓o_bxf, ↓o_bxt, ↓o_bsl, ↓o_bslf, chunks, ↓o_mks, ↓o_st, ↓o_stf, ↓o_call, ↓o_rng, ↓o_nxt, rngV, next_is, next_iter, ↓o_callm, ↓o_callmA, ↓o_calvm, ↓o_calv, val_some, new_some, st_some, stf_some, guard_tt, guard_ff, guard_tf, guard_ft, guard_un, ↓cond_true, ↓cond_false, calv_fn, put_some, put_none, ev_tmp, ev_const, ev_func, ↓upd_get, sig_eq, sigF_nil, ↓sigF_cons, q0, q1, nilcV, faV, fdV, iaaV, ixV, ixsV, extV, mksV, loadP, storeP, binPV, unPV, intBin, partsP, fillP, zeros, PV.good, PV.cellsOf, PV.one, q2, q3, q4, q5, q6, q7, q8, q9, q10, q11, q12, q13, q14, Nat.reduceAdd, Nat.reduceMul, Nat.reduceSub, Nat.reduceLeDiff, Nat.reduceEqDiff, Nat.reduceBEq, q15, q16, q17, q18, ↓reduceIte, reduceCtorEq, q19, q20, q21, q22, q23, q24, q25, q26, q27, q28, q29, q30, q31, q32, q33, q34, q35, q36, q37, q38, wrap64, ↓o_eqa, ↓o_mm, ↓o_app, app_some, mmL, mmV, mm2, eqE, eqParts, eqInt, eqBool, eqStr, partV, q39, q40, pickV, q41, Int.reduceEq, Int.reduceLE, Int.reduceLT, Int.reduceAdd, Int.reduceSub, Int.reduceNeg, Int.reduceToNat, Int.reduceNe, q42, q43, q44, q45, q46, q47, q48, q49, appE, oldOf, rowOf, updL, q50, q51, q52, q53, Nat.reducePow, zlt, ovr_get, Nat.reduceShiftRight, Nat.reduceMod, ite_neN, ite_eqN, q54, q55, q56, q57, q58, q59, q60, q61, q62, q63, q64, q65, q66, q67, tailP_f, tailP_t, tailF_f, tailF_t, ↓o_slc, slcP, bndO, capO, slcLen, intOf, Option.isSome_none, Option.isNone_none, Option.isSome_some, Option.isNone_some, nilP, slc_sl, slc_csl, slc_osl, slc_osl0, slc_ocap, slc_str, pv_len, pv_take, Nat.add_assoc, tm_len, tm_take, pv_one, tm_one, tpvB_len, tpvB_take, tpvB_one, pvB_len, pvB_take, pvB_one, List.length_append, id_ne, id_ne', id_ne2, List.append_nil, List.append_assoc, lenPV_slB, iaV_slB_f, iaV_slB_t, rounds_next, *])
        refine fin_tmp (.inr rfl) ?_
        simp only [Bool.and_eq_true, decide_eq_true_eq] at u1
        simp [upd, Tm.same, sameT, *]
    · have h00 : 0 < xs.length := by omega
      have eg : xs[0]? = some xs[0] := List.getElem?_eq_getElem h00
      by_cases hl : xs.length = ys.length
      · have eg2 : ys[0]? = some ys[0] := List.getElem?_eq_getElem (by omega)
        have ih' := Kept.mk ih
        clear ih
        repeat' (first | ((with_reducible first | refine wA (by omega) ?_ | refine wB (by omega) ?_ | refine wC (by omega) ?_ | refine wD (by omega) ?_ | refine wE ?_ ?_ | refine wF ?_ ?_ | refine wG ?_ ?_ | refine wH ?_ ?_ | refine wI ?_ ?_ | refine wJ ?_ ?_ | refine wK ?_ ?_ | refine wL ?_ ?_) <;> intro _) | (((with_reducible refine call_id ?_); (first | (refine call_pure (hc1) ?_)))) | simp (maxSteps := 1000000) (disch := omega) only [↓c_seq, ↓c_region, ↓c_cond, ↓c_block, ↓c_ret, ↓c_skip, ↓c_exit, ↓c_cont, ↓t_normal, ↓t_ret, ↓t_exit, ↓b_normal, ↓b_ret, ↓b_exit, ↓run_nil, ↓run_cons, num_nil, num_cons, ↓g_some, ↓o_mv, ↓o_pick, ↓o_bin, ↓o_un, ↓o_ld, ↓o_ldf, isP, ↓o_bld, ↓o_len, ↓o_mkf, ↓o_nilc, ↓o_fa, ↓o_fd, ↓o_ia, ↓o_iaa, ↓o_ix, ↓o_ixs, ↓o_ext, ↓o_al, ↓o_bxf, ↓o_bxt, ↓o_bsl, ↓o_bslf, chunks, ↓o_mks, ↓o_st, ↓o_stf, ↓o_call, ↓o_rng, ↓o_nxt, rngV, next_is, next_iter, ↓o_callm, ↓o_callmA, ↓o_calvm, ↓o_calv, val_some, new_some, st_some, stf_some, guard_tt, guard_ff, guard_tf, guard_ft, guard_un, ↓cond_true, ↓cond_false, calv_fn, put_some, put_none, ev_tmp, ev_const, ev_func, ↓upd_get, sig_eq, sigF_nil, ↓sigF_cons, q0, q1, nilcV, faV, fdV, iaaV, ixV, ixsV, extV, mksV, loadP, storeP, binPV, unPV, intBin, partsP, fillP, zeros, PV.good, PV.cellsOf, PV.one, q2, q3, q4, q5, q6, q7, q8, q9, q10, q11, q12, q13, q14, Nat.reduceAdd, Nat.reduceMul, Nat.reduceSub, Nat.reduceLeDiff, Nat.reduceEqDiff, Nat.reduceBEq, q15, q16, q17, q18, ↓reduceIte, reduceCtorEq, q19, q20, q21, q22, q23, q24, q25, q26, q27, q28, q29, q30, q31, q32, q33, q34, q35, q36, q37, q38, wrap64, ↓o_eqa, ↓o_mm, ↓o_app, app_some, mmL, mmV, mm2, eqE, eqParts, eqInt, eqBool, eqStr, partV, q39, q40, pickV, q41, Int.reduceEq, Int.reduceLE, Int.reduceLT, Int.reduceAdd, Int.reduceSub, Int.reduceNeg, Int.reduceToNat, Int.reduceNe, q42, q43, q44, q45, q46, q47, q48, q49, appE, oldOf, rowOf, updL, q50, q51, q52, q53, Nat.reducePow, zlt, ovr_get, Nat.reduceShiftRight, Nat.reduceMod, ite_neN, ite_eqN, q54, q55, q56, q57, q58, q59, q60, q61, q62, q63, q64, q65, q66, q67, tailP_f, tailP_t, tailF_f, tailF_t, ↓o_slc, slcP, bndO, capO, slcLen, intOf, Option.isSome_none, Option.isNone_none, Option.isSome_some, Option.isNone_some, nilP, slc_sl, slc_csl, slc_osl, slc_osl0, slc_ocap, slc_str, pv_len, pv_take, Nat.add_assoc, tm_len, tm_take, pv_one, tm_one, tpvB_len, tpvB_take, tpvB_one, pvB_len, pvB_take, pvB_one, List.length_append, id_ne, id_ne', id_ne2, List.append_nil, List.append_assoc, lenPV_slB, iaV_slB_f, iaV_slB_t, mc_term_same, Tm.pvB, strBin, fold_sameB, *])
        all_goals (try (refine fin_tmp (.inr rfl) ?_; simp [upd, Tm.same, sameT, *]; done))
        · rename_i q
          refine fin_tmp (.inr rfl) ?_
          have q' : (decide (ls.length = ls'.length) && (decide (xs.length = ys.length) && (sameL ls ls' && sameT xs ys))) = false := by
            rw [Bool.and_eq_false_iff] at q ⊢
            rcases q with q | q
            · exact .inl q
            · right; simp [q]
          simp only [Tm.same, q']
          simp [upd]
        · rename_i u4 u3 u2 u1 u0
          clear u0
          simp only [Bool.and_eq_true, decide_eq_true_eq] at u1
          have hall : Kept (sameT xs ys = true → (Tm.mk k' n' s ls xs).same (Tm.mk k' n' s' ls' ys) = true) := Kept.mk fun h => by simp [Tm.same, *]
          have hno : Kept (sameT xs ys = false → (Tm.mk k' n' s ls xs).same (Tm.mk k' n' s' ls' ys) = false) := Kept.mk fun h => by simp [Tm.same, *]
          refine o_peq (f := f) (g := g) (cs := (xs.map (Tm.pvB f)).flatten) (ds := (ys.map (Tm.pvB g)).flatten) (n := 4) rfl rfl Try.underlying60 (by kernel_rfl) (by (simp (disch := omega) only [go_sem, Nat.reduceMul, Nat.reduceSub, Nat.reduceShiftRight, Nat.reduceMod, Nat.reduceEqDiff, Nat.reduceAdd, ↓reduceIte, Nat.reduceLeDiff, ev_tmp, ptrOf_B])) (by (simp (disch := omega) only [go_sem, Nat.reduceMul, Nat.reduceSub, Nat.reduceShiftRight, Nat.reduceMod, Nat.reduceEqDiff, Nat.reduceAdd, ↓reduceIte, Nat.reduceLeDiff, ev_tmp, ptrOf_B])) hfg (flat_ne (tpvB_len f) h00) (flat_ne (tpvB_len g) (by omega)) fun t ht => ?_
          clear u1 u2 hc1
          cases t with
          | true =>
            have hx := meet_tms hl (ht rfl)
            have hrf := hall.out (by rw [hx]; exact sameT_refl ys)
            clear ih' ht hall hno hx
            repeat' (first | ((with_reducible first | refine wA (by omega) ?_ | refine wB (by omega) ?_ | refine wC (by omega) ?_ | refine wD (by omega) ?_ | refine wE ?_ ?_ | refine wF ?_ ?_ | refine wG ?_ ?_ | refine wH ?_ ?_ | refine wI ?_ ?_ | refine wJ ?_ ?_ | refine wK ?_ ?_ | refine wL ?_ ?_) <;> intro _) | simp (maxSteps := 1000000) (disch := omega) only [↓c_seq, ↓c_region, ↓c_cond, ↓c_block, ↓c_ret, ↓c_skip, ↓c_exit, ↓c_cont, ↓t_normal, ↓t_ret, ↓t_exit, ↓b_normal, ↓b_ret, ↓b_exit, ↓run_nil, ↓run_cons, num_nil, num_cons, ↓g_some, ↓o_mv, ↓o_pick, ↓o_bin, ↓o_un, ↓o_ld, ↓o_ldf, isP, ↓o_bld, ↓o_len, ↓o_mkf, ↓o_nilc, ↓o_fa, ↓o_fd, ↓o_ia, ↓o_iaa, ↓o_ix, ↓o_ixs, ↓o_ext, ↓o_al, ↓o_bxf, ↓o_bxt, ↓o_bsl, ↓o_bslf, chunks, ↓o_mks, ↓o_st, ↓o_stf, ↓o_call, ↓o_rng, ↓o_nxt, rngV, next_is, next_iter, ↓o_callm, ↓o_callmA, ↓o_calvm, ↓o_calv, val_some, new_some, st_some, stf_some, guard_tt, guard_ff, guard_tf, guard_ft, guard_un, ↓cond_true, ↓cond_false, calv_fn, put_some, put_none, ev_tmp, ev_const, ev_func, ↓upd_get, sig_eq, sigF_nil, ↓sigF_cons, q0, q1, nilcV, faV, fdV, iaaV, ixV, ixsV, extV, mksV, loadP, storeP, binPV, unPV, intBin, partsP, fillP, zeros, PV.good, PV.cellsOf, PV.one, q2, q3, q4, q5, q6, q7, q8, q9, q10, q11, q12, q13, q14, Nat.reduceAdd, Nat.reduceMul, Nat.reduceSub, Nat.reduceLeDiff, Nat.reduceEqDiff, Nat.reduceBEq, q15, q16, q17, q18, ↓reduceIte, reduceCtorEq, q19, q20, q21, q22, q23, q24, q25, q26, q27, q28, q29, q30, q31, q32, q33, q34, q35, q36, q37, q38, wrap64, ↓o_eqa, ↓o_mm, ↓o_app, app_some, mmL, mmV, mm2, eqE, eqParts, eqInt, eqBool, eqStr, partV, q39, q40, pickV, q41, Int.reduceEq, Int.reduceLE, Int.reduceLT, Int.reduceAdd, Int.reduceSub, Int.reduceNeg, Int.reduceToNat, Int.reduceNe, q42, q43, q44, q45, q46, q47, q48, q49, appE, oldOf, rowOf, updL, q50, q51, q52, q53, Nat.reducePow, zlt, ovr_get, Nat.reduceShiftRight, Nat.reduceMod, ite_neN, ite_eqN, q54, q55, q56, q57, q58, q59, q60, q61, q62, q63, q64, q65, q66, q67, tailP_f, tailP_t, tailF_f, tailF_t, ↓o_slc, slcP, bndO, capO, slcLen, intOf, Option.isSome_none, Option.isNone_none, Option.isSome_some, Option.isNone_some, nilP, slc_sl, slc_csl, slc_osl, slc_osl0, slc_ocap, slc_str, pv_len, pv_take, Nat.add_assoc, tm_len, tm_take, pv_one, tm_one, tpvB_len, tpvB_take, tpvB_one, pvB_len, pvB_take, pvB_one, List.length_append, id_ne, id_ne', id_ne2, List.append_nil, List.append_assoc, lenPV_slB, iaV_slB_f, iaV_slB_t, *])
            refine fin_tmp (.inr rfl) ?_
            simp [upd, hrf]
          | false =>
            clear ht eg eg2
            repeat' (first | ((with_reducible first | refine wA (by omega) ?_ | refine wB (by omega) ?_ | refine wC (by omega) ?_ | refine wD (by omega) ?_ | refine wE ?_ ?_ | refine wF ?_ ?_ | refine wG ?_ ?_ | refine wH ?_ ?_ | refine wI ?_ ?_ | refine wJ ?_ ?_ | refine wK ?_ ?_ | refine wL ?_ ?_) <;> intro _) | simp (maxSteps := 1000000) (disch := omega) only [↓c_seq, ↓c_region, ↓c_cond, ↓c_block, ↓c_ret, ↓c_skip, ↓c_exit, ↓c_cont, ↓t_normal, ↓t_ret, ↓t_exit, ↓b_normal, ↓b_ret, ↓b_exit, ↓run_nil, ↓run_cons, num_nil, num_cons, ↓g_some, ↓o_mv, ↓o_pick, ↓o_bin, ↓o_un, ↓o_ld, ↓o_ldf, isP, ↓o_bld, ↓o_len, ↓o_mkf, ↓o_nilc, ↓o_fa, ↓o_fd, ↓o_ia, ↓o_iaa, ↓o_ix, ↓o_ixs, ↓o_ext, ↓o_al, ↓o_bxf, ↓o_bxt, ↓o_bsl, ↓o_bslf, chunks, ↓o_mks, ↓o_st, ↓o_stf, ↓o_call, ↓o_rng, ↓o_nxt, rngV, next_is, next_iter, ↓o_callm, ↓o_callmA, ↓o_calvm, ↓o_calv, val_some, new_some, st_some, stf_some, guard_tt, guard_ff, guard_tf, guard_ft, guard_un, ↓cond_true, ↓cond_false, calv_fn, put_some, put_none, ev_tmp, ev_const, ev_func, ↓upd_get, sig_eq, sigF_nil, ↓sigF_cons, q0, q1, nilcV, faV, fdV, iaaV, ixV, ixsV, extV, mksV, loadP, storeP, binPV, unPV, intBin, partsP, fillP, zeros, PV.good, PV.cellsOf, PV.one, q2, q3, q4, q5, q6, q7, q8, q9, q10, q11, q12, q13, q14, Nat.reduceAdd, Nat.reduceMul, Nat.reduceSub, Nat.reduceLeDiff, Nat.reduceEqDiff, Nat.reduceBEq, q15, q16, q17, q18, ↓reduceIte, reduceCtorEq, q19, q20, q21, q22, q23, q24, q25, q26, q27, q28, q29, q30, q31, q32, q33, q34, q35, q36, q37, q38, wrap64, ↓o_eqa, ↓o_mm, ↓o_app, app_some, mmL, mmV, mm2, eqE, eqParts, eqInt, eqBool, eqStr, partV, q39, q40, pickV, q41, Int.reduceEq, Int.reduceLE, Int.reduceLT, Int.reduceAdd, Int.reduceSub, Int.reduceNeg, Int.reduceToNat, Int.reduceNe, q42, q43, q44, q45, q46, q47, q48, q49, appE, oldOf, rowOf, updL, q50, q51, q52, q53, Nat.reducePow, zlt, ovr_get, Nat.reduceShiftRight, Nat.reduceMod, ite_neN, ite_eqN, q54, q55, q56, q57, q58, q59, q60, q61, q62, q63, q64, q65, q66, q67, tailP_f, tailP_t, tailF_f, tailF_t, ↓o_slc, slcP, bndO, capO, slcLen, intOf, Option.isSome_none, Option.isNone_none, Option.isSome_some, Option.isNone_some, nilP, slc_sl, slc_csl, slc_osl, slc_osl0, slc_ocap, slc_str, pv_len, pv_take, Nat.add_assoc, tm_len, tm_take, pv_one, tm_one, tpvB_len, tpvB_take, tpvB_one, pvB_len, pvB_take, pvB_one, List.length_append, id_ne, id_ne', id_ne2, List.append_nil, List.append_assoc, lenPV_slB, iaV_slB_f, iaV_slB_t, *])
            refine c_loopW 20282332232399215087680070090800 (by kernel_rfl) (fun j F H m => ∃ i : Nat, j = xs.length - i ∧ i ≤ xs.length ∧ F 86 = .sc (.int .i64 i) ∧ sameT (xs.take i) (ys.take i) = true) _ ⟨0, rfl, Nat.zero_le _, by simp [upd], rfl⟩ ?_
            rintro _ F H m ⟨i, rfl, hi, e86, hs⟩
            by_cases hlt : i < xs.length
            · have hlt2 : i < ys.length := by omega
              have eg : xs[i]? = some xs[i] := List.getElem?_eq_getElem hlt
              have eg2 : ys[i]? = some ys[i] := List.getElem?_eq_getElem hlt2
              have hn := sizeL_mem xs i hlt
              have ht := sameT_take xs ys i hlt hlt2
              have hq := sameT_false xs ys i hlt hlt2
              have hc := ih'.out xs[i] ys[i] (by omega)
              have ht' := Kept.mk ht
              have hq' := Kept.mk hq
              have hl' := Kept.mk hl
              clear ih' ht hq
              repeat' (first | ((with_reducible first | refine wA (by omega) ?_ | refine wB (by omega) ?_ | refine wC (by omega) ?_ | refine wD (by omega) ?_ | refine wE ?_ ?_ | refine wF ?_ ?_ | refine wG ?_ ?_ | refine wH ?_ ?_ | refine wI ?_ ?_ | refine wJ ?_ ?_ | refine wK ?_ ?_ | refine wL ?_ ?_) <;> intro _) | (((with_reducible refine call_id ?_); (first | (refine call_pure (hc) ?_)))) | simp (maxSteps := 1000000) (disch := omega) only [↓c_seq, ↓c_region, ↓c_cond, ↓c_block, ↓c_ret, ↓c_skip, ↓c_exit, ↓c_cont, ↓t_normal, ↓t_ret, ↓t_exit, ↓b_normal, ↓b_ret, ↓b_exit, ↓run_nil, ↓run_cons, num_nil, num_cons, ↓g_some, ↓o_mv, ↓o_pick, ↓o_bin, ↓o_un, ↓o_ld, ↓o_ldf, isP, ↓o_bld, ↓o_len, ↓o_mkf, ↓o_nilc, ↓o_fa, ↓o_fd, ↓o_ia, ↓o_iaa, ↓o_ix, ↓o_ixs, ↓o_ext, ↓o_al, ↓o_bxf, ↓o_bxt, ↓o_bsl, ↓o_bslf, chunks, ↓o_mks, ↓o_st, ↓o_stf, ↓o_call, ↓o_rng, ↓o_nxt, rngV, next_is, next_iter, ↓o_callm, ↓o_callmA, ↓o_calvm, ↓o_calv, val_some, new_some, st_some, stf_some, guard_tt, guard_ff, guard_tf, guard_ft, guard_un, ↓cond_true, ↓cond_false, calv_fn, put_some, put_none, ev_tmp, ev_const, ev_func, ↓upd_get, sig_eq, sigF_nil, ↓sigF_cons, q0, q1, nilcV, faV, fdV, iaaV, ixV, ixsV, extV, mksV, loadP, storeP, binPV, unPV, intBin, partsP, fillP, zeros, PV.good, PV.cellsOf, PV.one, q2, q3, q4, q5, q6, q7, q8, q9, q10, q11, q12, q13, q14, Nat.reduceAdd, Nat.reduceMul, Nat.reduceSub, Nat.reduceLeDiff, Nat.reduceEqDiff, Nat.reduceBEq, q15, q16, q17, q18, ↓reduceIte, reduceCtorEq, q19, q20, q21, q22, q23, q24, q25, q26, q27, q28, q29, q30, q31, q32, q33, q34, q35, q36, q37, q38, wrap64, ↓o_eqa, ↓o_mm, ↓o_app, app_some, mmL, mmV, mm2, eqE, eqParts, eqInt, eqBool, eqStr, partV, q39, q40, pickV, q41, Int.reduceEq, Int.reduceLE, Int.reduceLT, Int.reduceAdd, Int.reduceSub, Int.reduceNeg, Int.reduceToNat, Int.reduceNe, q42, q43, q44, q45, q46, q47, q48, q49, appE, oldOf, rowOf, updL, q50, q51, q52, q53, Nat.reducePow, zlt, ovr_get, Nat.reduceShiftRight, Nat.reduceMod, ite_neN, ite_eqN, q54, q55, q56, q57, q58, q59, q60, q61, q62, q63, q64, q65, q66, q67, tailP_f, tailP_t, tailF_f, tailF_t, ↓o_slc, slcP, bndO, capO, slcLen, intOf, Option.isSome_none, Option.isNone_none, Option.isSome_some, Option.isNone_some, nilP, slc_sl, slc_csl, slc_osl, slc_osl0, slc_ocap, slc_str, pv_len, pv_take, Nat.add_assoc, tm_len, tm_take, pv_one, tm_one, tpvB_len, tpvB_take, tpvB_one, pvB_len, pvB_take, pvB_one, List.length_append, id_ne, id_ne', id_ne2, List.append_nil, List.append_assoc, lenPV_slB, iaV_slB_f, iaV_slB_t, *])
              · rename_i q
                have hqq := hno.out (hq'.out q)
                refine fin_tmp (.inr rfl) ?_
                simp [upd, hqq]
              · rename_i q
                refine Nx.mk (xs.length - (i + 1)) cE1 ⟨i + 1, cE1, cE1, cE1, by rw [ht'.out, hs, q]; rfl⟩
            · obtain rfl : i = xs.length := by omega
              have e : ys.take xs.length = ys := List.take_of_length_le (by omega)
              rw [List.take_length, e] at hs
              have hrf := hall.out hs
              clear ih' hall hno
              repeat' (first | ((with_reducible first | refine wA (by omega) ?_ | refine wB (by omega) ?_ | refine wC (by omega) ?_ | refine wD (by omega) ?_ | refine wE ?_ ?_ | refine wF ?_ ?_ | refine wG ?_ ?_ | refine wH ?_ ?_ | refine wI ?_ ?_ | refine wJ ?_ ?_ | refine wK ?_ ?_ | refine wL ?_ ?_) <;> intro _) | simp (maxSteps := 1000000) (disch := omega) only [↓c_seq, ↓c_region, ↓c_cond, ↓c_block, ↓c_ret, ↓c_skip, ↓c_exit, ↓c_cont, ↓t_normal, ↓t_ret, ↓t_exit, ↓b_normal, ↓b_ret, ↓b_exit, ↓run_nil, ↓run_cons, num_nil, num_cons, ↓g_some, ↓o_mv, ↓o_pick, ↓o_bin, ↓o_un, ↓o_ld, ↓o_ldf, isP, ↓o_bld, ↓o_len, ↓o_mkf, ↓o_nilc, ↓o_fa, ↓o_fd, ↓o_ia, ↓o_iaa, ↓o_ix, ↓o_ixs, ↓o_ext, ↓o_al, ↓o_bxf, ↓o_bxt, ↓o_bsl, ↓o_bslf, chunks, ↓o_mks, ↓o_st, ↓o_stf, ↓o_call, ↓o_rng, ↓o_nxt, rngV, next_is, next_iter, ↓o_callm, ↓o_callmA, ↓o_calvm, ↓o_calv, val_some, new_some, st_some, stf_some, guard_tt, guard_ff, guard_tf, guard_ft, guard_un, ↓cond_true, ↓cond_false, calv_fn, put_some, put_none, ev_tmp, ev_const, ev_func, ↓upd_get, sig_eq, sigF_nil, ↓sigF_cons, q0, q1, nilcV, faV, fdV, iaaV, ixV, ixsV, extV, mksV, loadP, storeP, binPV, unPV, intBin, partsP, fillP, zeros, PV.good, PV.cellsOf, PV.one, q2, q3, q4, q5, q6, q7, q8, q9, q10, q11, q12, q13, q14, Nat.reduceAdd, Nat.reduceMul, Nat.reduceSub, Nat.reduceLeDiff, Nat.reduceEqDiff, Nat.reduceBEq, q15, q16, q17, q18, ↓reduceIte, reduceCtorEq, q19, q20, q21, q22, q23, q24, q25, q26, q27, q28, q29, q30, q31, q32, q33, q34, q35, q36, q37, q38, wrap64, ↓o_eqa, ↓o_mm, ↓o_app, app_some, mmL, mmV, mm2, eqE, eqParts, eqInt, eqBool, eqStr, partV, q39, q40, pickV, q41, Int.reduceEq, Int.reduceLE, Int.reduceLT, Int.reduceAdd, Int.reduceSub, Int.reduceNeg, Int.reduceToNat, Int.reduceNe, q42, q43, q44, q45, q46, q47, q48, q49, appE, oldOf, rowOf, updL, q50, q51, q52, q53, Nat.reducePow, zlt, ovr_get, Nat.reduceShiftRight, Nat.reduceMod, ite_neN, ite_eqN, q54, q55, q56, q57, q58, q59, q60, q61, q62, q63, q64, q65, q66, q67, tailP_f, tailP_t, tailF_f, tailF_t, ↓o_slc, slcP, bndO, capO, slcLen, intOf, Option.isSome_none, Option.isNone_none, Option.isSome_some, Option.isNone_some, nilP, slc_sl, slc_csl, slc_osl, slc_osl0, slc_ocap, slc_str, pv_len, pv_take, Nat.add_assoc, tm_len, tm_take, pv_one, tm_one, tpvB_len, tpvB_take, tpvB_one, pvB_len, pvB_take, pvB_one, List.length_append, id_ne, id_ne', id_ne2, List.append_nil, List.append_assoc, lenPV_slB, iaV_slB_f, iaV_slB_t, *])
              refine fin_tmp (.inr rfl) ?_
              simp [upd, hrf]
      · clear ih
        repeat' (first | ((with_reducible first | refine wA (by omega) ?_ | refine wB (by omega) ?_ | refine wC (by omega) ?_ | refine wD (by omega) ?_ | refine wE ?_ ?_ | refine wF ?_ ?_ | refine wG ?_ ?_ | refine wH ?_ ?_ | refine wI ?_ ?_ | refine wJ ?_ ?_ | refine wK ?_ ?_ | refine wL ?_ ?_) <;> intro _) | (((with_reducible refine call_id ?_); (first | (refine call_pure (hc1) ?_)))) | simp (maxSteps := 1000000) (disch := omega) only [↓c_seq, ↓c_region, ↓c_cond, ↓c_block, ↓c_ret, ↓c_skip, ↓c_exit, ↓c_cont, ↓t_normal, ↓t_ret, ↓t_exit, ↓b_normal, ↓b_ret, ↓b_exit, ↓run_nil, ↓run_cons, num_nil, num_cons, ↓g_some, ↓o_mv, ↓o_pick, ↓o_bin, ↓o_un, ↓o_ld, ↓o_ldf, isP, ↓o_bld, ↓o_len, ↓o_mkf, ↓o_nilc, ↓o_fa, ↓o_fd, ↓o_ia, ↓o_iaa, ↓o_ix, ↓o_ixs, ↓o_ext, ↓o_al, ↓o_bxf, ↓o_bxt, ↓o_bsl, ↓o_bslf, chunks, ↓o_mks, ↓o_st, ↓o_stf, ↓o_call, ↓o_rng, ↓o_nxt, rngV, next_is, next_iter, ↓o_callm, ↓o_callmA, ↓o_calvm, ↓o_calv, val_some, new_some, st_some, stf_some, guard_tt, guard_ff, guard_tf, guard_ft, guard_un, ↓cond_true, ↓cond_false, calv_fn, put_some, put_none, ev_tmp, ev_const, ev_func, ↓upd_get, sig_eq, sigF_nil, ↓sigF_cons, q0, q1, nilcV, faV, fdV, iaaV, ixV, ixsV, extV, mksV, loadP, storeP, binPV, unPV, intBin, partsP, fillP, zeros, PV.good, PV.cellsOf, PV.one, q2, q3, q4, q5, q6, q7, q8, q9, q10, q11, q12, q13, q14, Nat.reduceAdd, Nat.reduceMul, Nat.reduceSub, Nat.reduceLeDiff, Nat.reduceEqDiff, Nat.reduceBEq, q15, q16, q17, q18, ↓reduceIte, reduceCtorEq, q19, q20, q21, q22, q23, q24, q25, q26, q27, q28, q29, q30, q31, q32, q33, q34, q35, q36, q37, q38, wrap64, ↓o_eqa, ↓o_mm, ↓o_app, app_some, mmL, mmV, mm2, eqE, eqParts, eqInt, eqBool, eqStr, partV, q39, q40, pickV, q41, Int.reduceEq, Int.reduceLE, Int.reduceLT, Int.reduceAdd, Int.reduceSub, Int.reduceNeg, Int.reduceToNat, Int.reduceNe, q42, q43, q44, q45, q46, q47, q48, q49, appE, oldOf, rowOf, updL, q50, q51, q52, q53, Nat.reducePow, zlt, ovr_get, Nat.reduceShiftRight, Nat.reduceMod, ite_neN, ite_eqN, q54, q55, q56, q57, q58, q59, q60, q61, q62, q63, q64, q65, q66, q67, tailP_f, tailP_t, tailF_f, tailF_t, ↓o_slc, slcP, bndO, capO, slcLen, intOf, Option.isSome_none, Option.isNone_none, Option.isSome_some, Option.isNone_some, nilP, slc_sl, slc_csl, slc_osl, slc_osl0, slc_ocap, slc_str, pv_len, pv_take, Nat.add_assoc, tm_len, tm_take, pv_one, tm_one, tpvB_len, tpvB_take, tpvB_one, pvB_len, pvB_take, pvB_one, List.length_append, id_ne, id_ne', id_ne2, List.append_nil, List.append_assoc, lenPV_slB, iaV_slB_f, iaV_slB_t, mc_term_same, Tm.pvB, strBin, fold_sameB, *])
        all_goals (try (refine fin_tmp (.inr rfl) ?_; simp [upd, Tm.same, sameT, *]; done))
end
section
set_option maxRecDepth 20000
attribute [local go_sem] pv_len pv_take Nat.add_assoc tm_len tm_take pv_one tm_one tpvB_len tpvB_take tpvB_one pvB_len pvB_take pvB_one id_ne id_ne' id_ne2 List.append_assoc
abbrev emp : ByteArray := ⟨#[]⟩
theorem tm_take_app (l : Tm) (r : List PV) : (l.pv ++ r).take 5 = l.pv := List.take_left' (tm_len l)
attribute [local go_sem] tm_take_app
theorem tm_drop_app (l : Tm) (r : List PV) : (l.pv ++ r).drop 5 = r := List.drop_left' (tm_len l)
attribute [local go_sem] tm_drop_app
end
section
theorem tlNodes_p : ∀ (fuel : Nat) (l : Lv) (most : Nat), l.nodes ≤ fuel ∨ most ≤ fuel → 1 ≤ most → most ≤ 3000 →
    PPure Try.prog F.term_levelNodes [.ptr l.pv, .sc (.int .i64 most)] (.sc (.int .i64 (min l.nodes most : Nat))) := by
  intro fuel
  induction fuel with
  | zero => intro l most h h1; have := nodes_pos l; omega
  | succ fuel ih =>
    intro l most hf h1 h2
    cases l with
    | mk k n args =>
    simp only [Lv.nodes] at hf
    refine pure_by is_term_levelNodes (by simp) rfl fun hb nx => ?_
    have hb0 : args.length ≤ 9223372036854775807 := by simp [Lv.pv, bndL, PV.bnd] at hb; exact hb.1
    simp (maxSteps := 1000000) (disch := omega) only [go_sem, Nat.reduceAdd, Nat.reduceMul, Nat.reduceSub, Nat.reduceLeDiff, Nat.reduceEqDiff, Nat.reduceBEq, ↓reduceIte, reduceCtorEq, Int.reduceEq, Int.reduceLE, Int.reduceLT, Int.reduceAdd, Int.reduceSub, Int.reduceNeg, Int.reduceToNat, Int.reduceNe, Nat.reducePow, Nat.reduceShiftRight, Nat.reduceMod, mc_term_levelNodes, Lv.pv]
    refine c_loop (fun j s => ∃ i t : Nat, j = args.length - i ∧ i ≤ args.length ∧ t = min (1 + nodesL (args.take i)) most ∧ s.s 0 = .ptr (Lv.mk k n args).pv ∧ s.s 1 = .sc (.int .i64 most) ∧ s.s 5 = .sc (.int .i64 t) ∧ s.s 11 = .sc (.int .i64 args.length) ∧ s.s 12 = .sc (.int .i64 i)) _ ⟨0, 1, rfl, by omega, by simp [nodesL]; omega, by simp [upd, sigF, sig_eq, Lv.pv]⟩ ?_
    rintro _ s ⟨i, t, rfl, hi, ht, e0, e1, e5, e11, e12⟩
    simp (maxSteps := 1000000) (disch := omega) only [go_sem, Nat.reduceAdd, Nat.reduceMul, Nat.reduceSub, Nat.reduceLeDiff, Nat.reduceEqDiff, Nat.reduceBEq, ↓reduceIte, reduceCtorEq, Int.reduceEq, Int.reduceLE, Int.reduceLT, Int.reduceAdd, Int.reduceSub, Int.reduceNeg, Int.reduceToNat, Int.reduceNe, Nat.reducePow, Nat.reduceShiftRight, Nat.reduceMod, Lv.pv, e0, e1, e5, e11, e12]
    by_cases hlt : i < args.length
    · have hs := nodesL_take_succ args i hlt
      have hp := nodes_pos args[i]
      simp (maxSteps := 1000000) (disch := omega) only [go_sem, Nat.reduceAdd, Nat.reduceMul, Nat.reduceSub, Nat.reduceLeDiff, Nat.reduceEqDiff, Nat.reduceBEq, ↓reduceIte, reduceCtorEq, Int.reduceEq, Int.reduceLE, Int.reduceLT, Int.reduceAdd, Int.reduceSub, Int.reduceNeg, Int.reduceToNat, Int.reduceNe, Nat.reducePow, Nat.reduceShiftRight, Nat.reduceMod, hlt, Lv.pv, e0, e1, e5, e11, e12]
      by_cases hfull : most ≤ t
      · simp (maxSteps := 1000000) (disch := omega) only [go_sem, Nat.reduceAdd, Nat.reduceMul, Nat.reduceSub, Nat.reduceLeDiff, Nat.reduceEqDiff, Nat.reduceBEq, ↓reduceIte, reduceCtorEq, Int.reduceEq, Int.reduceLE, Int.reduceLT, Int.reduceAdd, Int.reduceSub, Int.reduceNeg, Int.reduceToNat, Int.reduceNe, Nat.reducePow, Nat.reduceShiftRight, Nat.reduceMod, hfull, Lv.pv, e0, e1, e5, e11, e12]
        refine fin_tmp (.inr rfl) ?_
        have := nodesL_take_le args i
        simp only [go_sem, Nat.reduceAdd, Nat.reduceMul, Nat.reduceSub, Nat.reduceLeDiff, Nat.reduceEqDiff, Nat.reduceBEq, ↓reduceIte, reduceCtorEq, Int.reduceEq, Int.reduceLE, Int.reduceLT, Int.reduceAdd, Int.reduceSub, Int.reduceNeg, Int.reduceToNat, Int.reduceNe, Nat.reducePow, Nat.reduceShiftRight, Nat.reduceMod, Lv.nodes, PV.sc.injEq, Value.int.injEq]
        omega
      · have em : ((most : Int) - t) = ((most - t : Nat) : Int) := by omega
        have eg : args[i]? = some args[i] := List.getElem?_eq_getElem hlt
        simp (maxSteps := 1000000) (disch := omega) only [go_sem, Nat.reduceAdd, Nat.reduceMul, Nat.reduceSub, Nat.reduceLeDiff, Nat.reduceEqDiff, Nat.reduceBEq, ↓reduceIte, reduceCtorEq, Int.reduceEq, Int.reduceLE, Int.reduceLT, Int.reduceAdd, Int.reduceSub, Int.reduceNeg, Int.reduceToNat, Int.reduceNe, Nat.reducePow, Nat.reduceShiftRight, Nat.reduceMod, hfull, Lv.pv, e0, e1, e5, e11, e12, em, eg]
        refine call_pure (ih args[i] (most - t) (by have := nodesL_mem args i hlt; omega) (by omega) (by omega)) ?_
        simp (maxSteps := 1000000) (disch := omega) only [go_sem, Nat.reduceAdd, Nat.reduceMul, Nat.reduceSub, Nat.reduceLeDiff, Nat.reduceEqDiff, Nat.reduceBEq, ↓reduceIte, reduceCtorEq, Int.reduceEq, Int.reduceLE, Int.reduceLT, Int.reduceAdd, Int.reduceSub, Int.reduceNeg, Int.reduceToNat, Int.reduceNe, Nat.reducePow, Nat.reduceShiftRight, Nat.reduceMod, hfull, Lv.pv, e0, e1, e5, e11, e12, em, eg]
        exact ⟨args.length - (i + 1), by omega, i + 1, t + min args[i].nodes (most - t), rfl, by omega, by omega, by simp, by simp⟩
    · simp (maxSteps := 1000000) (disch := omega) only [go_sem, Nat.reduceAdd, Nat.reduceMul, Nat.reduceSub, Nat.reduceLeDiff, Nat.reduceEqDiff, Nat.reduceBEq, ↓reduceIte, reduceCtorEq, Int.reduceEq, Int.reduceLE, Int.reduceLT, Int.reduceAdd, Int.reduceSub, Int.reduceNeg, Int.reduceToNat, Int.reduceNe, Nat.reducePow, Nat.reduceShiftRight, Nat.reduceMod, hlt, Lv.pv, e0, e1, e5, e11, e12]
      refine fin_tmp (.inr rfl) ?_
      have hj : i = args.length := by omega
      subst hj
      rw [List.take_length] at ht
      simp only [go_sem, Nat.reduceAdd, Nat.reduceMul, Nat.reduceSub, Nat.reduceLeDiff, Nat.reduceEqDiff, Nat.reduceBEq, ↓reduceIte, reduceCtorEq, Int.reduceEq, Int.reduceLE, Int.reduceLT, Int.reduceAdd, Int.reduceSub, Int.reduceNeg, Int.reduceToNat, Int.reduceNe, Nat.reducePow, Nat.reduceShiftRight, Nat.reduceMod, Lv.nodes, PV.sc.injEq, Value.int.injEq]
      omega
end
section
set_option maxRecDepth 20000
attribute [local go_sem] pv_len pv_take tm_len tm_take pv_one tm_one id_ne id_ne' id_ne2
set_option maxRecDepth 100000 in
set_option maxHeartbeats 4000000 in
theorem all_seq (t : Tm) : PSeq Try.prog F.term_all_1 [.ptr [.ptr t.pv]] (t.pre.map nodePV) := by
  refine ⟨is_term_all_1.enters, fun V vals hok hv => ?_⟩
  intro l J Jx W hW _ _ hY h0
  have hdd : ∀ k : Nat, (Fence.wide.depth.isSome = true → 1 ≤ k) := fun k h => by cases h
  obtain ⟨v1, hv1, hr1⟩ := hv.get (i := 0) (x := .ptr [.ptr t.pv]) rfl
  have hvals : vals = [v1] := by
    have h1 := hv.1
    match vals, h1, hv1 with
    | [x], _, h => simp at h; rw [h]
  subst hvals
  obtain ⟨b, off, vs, rfl, hokb, hr, hc⟩ := hr1.ptr_inv
  obtain ⟨p, hp1, hrep⟩ := hr.get (i := 0) (x := .ptr t.pv) rfl
  have hkeep : ∀ b, V.ok b → W.heap[b]? = V.w.heap[b]? := fun b hb => hW.block b (hok b hb)
  have hcell : W.cell? ⟨b, off, none⟩ = some p := (World.cell?_of_block (w := V.w) (w' := W) (a := ⟨b, off, none⟩) (hkeep b hokb)).trans (hc 0 p hp1)
  have hw := walkNodes0 V (t.pre.map nodePV) l (t.pre.map nodePV).length J Jx (fun m pre x W hj hl => YieldAt.any rfl m (hY pre x W hj hl)) t.size t (Nat.le_refl _) 0 p [] W hrep (fun u hu => List.mem_map_of_mem hu) hkeep h0 (by simp)
  refine callsIn_of_wp Try.func88 rfl trivial ?_ rfl
  simp only [Try.ntmps88, List.size_toArray, List.length_cons, List.length_nil, Nat.reduceAdd, Nat.reduceSub, Array.replicate_succ, Array.replicate_zero, List.push_toArray, List.append_toArray, List.nil_append, List.cons_append]
  gi_wp2_with (refine ⟨trivial, ?_⟩; refine hw.mono ?_; clear hw; rintro e W1 (⟨rfl, ys, h1, h2, h3⟩ | ⟨rfl, ys, h1, h2⟩))
  · go_end0
    exact ⟨⟨_, rfl⟩, .inl ⟨ys, h1, by simpa using h2⟩⟩
  · go_end0
    exact ⟨⟨_, rfl⟩, .inr ⟨ys, h1, by simpa using h2⟩⟩
theorem all_p (t : Tm) : PPure Try.prog F.term_all [.ptr t.pv] (.fn F.term_all_1 [.ptr [.ptr t.pv]]) := by
  refine pure_by is_term_all (by simp) (by simp [PV.imm, immL, tm_imm]) fun hb nx => ?_
  repeat' (first | ((with_reducible first | refine wA (by omega) ?_ | refine wB (by omega) ?_ | refine wC (by omega) ?_ | refine wD (by omega) ?_ | refine wE ?_ ?_ | refine wF ?_ ?_ | refine wG ?_ ?_ | refine wH ?_ ?_ | refine wI ?_ ?_ | refine wJ ?_ ?_ | refine wK ?_ ?_ | refine wL ?_ ?_) <;> intro _) | simp (maxSteps := 1000000) (disch := omega) only [go_sem, Nat.reduceAdd, Nat.reduceMul, Nat.reduceSub, Nat.reduceLeDiff, Nat.reduceEqDiff, Nat.reduceBEq, ↓reduceIte, reduceCtorEq, Int.reduceEq, Int.reduceLE, Int.reduceLT, Int.reduceAdd, Int.reduceSub, Int.reduceNeg, Int.reduceToNat, Int.reduceNe, Nat.reducePow, Nat.reduceShiftRight, Nat.reduceMod, mc_term_all, *])
  exact fin_tmp (.inr rfl) (by simp [upd])
mutual
theorem Lv.pv_inj : ∀ a b : Lv, a.pv = b.pv → a = b
  | .mk k n args, .mk k' n' args', h => by
    simp only [Lv.pv, List.cons.injEq, PV.sc.injEq, Value.int.injEq, PV.sl.injEq, true_and, and_true] at h
    rw [h.1, h.2.1, pvL_inj args args' h.2.2]
theorem pvL_inj : ∀ a b : List Lv, a.map Lv.pv = b.map Lv.pv → a = b
  | [], [], _ => rfl
  | [], y :: s, h => by simp at h
  | x :: r, [], h => by simp at h
  | x :: r, y :: s, h => by
    simp only [List.map_cons, List.cons.injEq] at h
    rw [Lv.pv_inj x y h.1, pvL_inj r s h.2]
end
def Tm.wt : Tm → Nat
  | .mk _ _ _ ls _ => 1 + (ls.map fun l => min l.nodes 2001).sum
def Tm.own : Tm → Nat
  | .mk _ _ _ ls _ => 1 + nodesL ls
theorem wt_of_pv {a b : Tm} (h : nodePV a = nodePV b) : a.wt = b.wt := by
  cases a; cases b
  simp only [nodePV, Tm.pv, PV.ptr.injEq, List.cons.injEq, PV.sl.injEq, true_and, and_true] at h
  simp only [Tm.wt]
  rw [pvL_inj _ _ h.2.2.2.1]
def wts (us : List Tm) : Nat := (us.map Tm.wt).sum
theorem wts_of_pv : ∀ {us vs : List Tm}, us.map nodePV = vs.map nodePV → wts us = wts vs
  | [], [], _ => rfl
  | [], _ :: _, h => by simp at h
  | _ :: _, [], h => by simp at h
  | a :: us, b :: vs, h => by
    simp only [List.map_cons, List.cons.injEq] at h
    have := wts_of_pv h.2
    simp only [wts, List.map_cons, List.sum_cons] at this ⊢
    rw [wt_of_pv h.1, this]
theorem mins_le : ∀ ls : List Lv, (ls.map fun l => min l.nodes 2001).sum ≤ nodesL ls
  | [] => by simp [nodesL]
  | x :: r => by have := mins_le r; simp only [List.map_cons, List.sum_cons, nodesL]; omega
theorem mins_eq : ∀ ls : List Lv, (ls.map fun l => min l.nodes 2001).sum ≤ 2000 → (ls.map fun l => min l.nodes 2001).sum = nodesL ls
  | [], _ => by simp [nodesL]
  | x :: r, h => by
    simp only [List.map_cons, List.sum_cons, nodesL] at h ⊢
    have := mins_eq r (by omega)
    omega
theorem wt_le (t : Tm) : t.wt ≤ t.own := by
  cases t
  simp only [Tm.wt, Tm.own]
  have := mins_le ‹List Lv›
  omega
theorem wt_eq (t : Tm) (h : t.wt ≤ 2000) : t.wt = t.own := by
  cases t
  rename_i ls _
  simp only [Tm.wt, Tm.own] at h ⊢
  have := mins_eq ls (by omega)
  omega
theorem wts_le : ∀ us : List Tm, wts us ≤ (us.map Tm.own).sum
  | [] => by simp [wts]
  | x :: r => by have := wts_le r; have := wt_le x; simp only [wts, List.map_cons, List.sum_cons] at *; omega
theorem wts_eq : ∀ us : List Tm, wts us ≤ 2000 → wts us = (us.map Tm.own).sum
  | [], _ => by simp [wts]
  | x :: r, h => by
    simp only [wts, List.map_cons, List.sum_cons] at h ⊢
    have h1 := wts_eq r (by simp only [wts]; omega)
    have h2 := wt_eq x (by omega)
    simp only [wts] at h1
    omega
mutual
theorem own_pre : ∀ t : Tm, (t.pre.map Tm.own).sum = t.nodes
  | .mk k n s ls args => by
    simp only [Tm.pre, List.map_cons, List.sum_cons, Tm.own, Tm.nodes, own_preL args]
    omega
theorem own_preL : ∀ ts : List Tm, ((preL ts).map Tm.own).sum = nodesT ts
  | [] => by simp [preL, nodesT]
  | x :: r => by simp only [preL, List.map_append, List.sum_append, nodesT, own_pre x, own_preL r]
end
theorem wts_prefix {us vs : List Tm} (h : us.map nodePV <+: vs.map nodePV) : wts us ≤ wts vs := by
  obtain ⟨z, hz⟩ := h
  have h1 : us.map nodePV = (vs.take us.length).map nodePV := by
    rw [List.map_take, ← hz, List.take_left' (by simp)]
  rw [wts_of_pv h1]
  have h2 : wts vs = wts (vs.take us.length) + wts (vs.drop us.length) := by
    simp only [wts]
    rw [← List.sum_append, ← List.map_append, List.take_append_drop]
  omega
def minsL (ls : List Lv) : Nat := (ls.map fun l => min l.nodes 2001).sum
theorem minsL_take (ls : List Lv) (i : Nat) (h : i < ls.length) : minsL (ls.take (i + 1)) = minsL (ls.take i) + min ls[i].nodes 2001 := by
  unfold minsL
  rw [List.take_succ_eq_append_getElem h, List.map_append, List.sum_append]
  simp
theorem own_mem {us : List Tm} {u : Tm} (h : u ∈ us) : u.own ≤ (us.map Tm.own).sum := by
  obtain ⟨a, b, rfl⟩ := List.append_of_mem h
  simp only [List.map_append, List.map_cons, List.sum_append, List.sum_cons]
  omega
theorem minsL_take_le (ls : List Lv) (i : Nat) : minsL (ls.take i) ≤ nodesL ls := Nat.le_trans (mins_le (ls.take i)) (nodesL_take_le ls i)
theorem len_nodesL' : ∀ ls : List Lv, ls.length ≤ nodesL ls
  | [] => by simp [nodesL]
  | x :: r => by have := len_nodesL' r; have := nodes_pos x; simp only [List.length_cons, nodesL]; omega
set_option maxHeartbeats 4000000 in
theorem Nodes_m (t : Tm) (hm : t.nodes ≤ 2 ^ 40) (H : Nat → Option PObj) (nx : Nat) : PMut Try.prog F.term_Nodes [.agg t.pv] H nx (fun H' nx' r => r = .sc (.int .i64 (min t.nodes 2001 : Nat))) := by
  refine mut_byR is_term_Nodes (by simp) fun hb => ?_
  clear hb
  repeat' (first | ((with_reducible first | refine wA (by omega) ?_ | refine wB (by omega) ?_ | refine wC (by omega) ?_ | refine wD (by omega) ?_ | refine wE ?_ ?_ | refine wF ?_ ?_ | refine wG ?_ ?_ | refine wH ?_ ?_ | refine wI ?_ ?_ | refine wJ ?_ ?_ | refine wK ?_ ?_ | refine wL ?_ ?_) <;> intro _) | (((with_reducible refine call_id ?_); (first | (refine call_pure (all_p t) ?_)))) | simp (maxSteps := 1000000) (disch := omega) only [go_sem, Nat.reduceAdd, Nat.reduceMul, Nat.reduceSub, Nat.reduceLeDiff, Nat.reduceEqDiff, Nat.reduceBEq, ↓reduceIte, reduceCtorEq, Int.reduceEq, Int.reduceLE, Int.reduceLT, Int.reduceAdd, Int.reduceSub, Int.reduceNeg, Int.reduceToNat, Int.reduceNe, Nat.reducePow, Nat.reduceShiftRight, Nat.reduceMod, mc_term_Nodes, *])
  refine c_rng (all_seq t) (by simp [ev, upd]) (fun pre H' m => ∃ us : List Tm, pre = us.map nodePV ∧ wts us ≤ 2000 ∧ H' (nx + 1) = some ⟨[.sc (.int .i64 0)], true⟩ ∧ H' (nx + 2) = some ⟨[.sc (.int .i64 (wts us : Nat))], true⟩)
    ⟨[], rfl, by simp [wts], noIt_keep (by simp [upd]) rfl, noIt_keep (by simp [upd, wts]) rfl⟩ ?round ?done
  case round =>
    rintro pre x H' m hx hlen ⟨us, rfl, hw, h1, h2⟩ hnx
    obtain ⟨u, hu, rfl⟩ := List.mem_map.1 hx
    have hown := own_mem hu
    rw [own_pre] at hown
    have hus : (us.map nodePV ++ [nodePV u]) = (us ++ [u]).map nodePV := by simp
    rw [hus]
    have hwu : wts (us ++ [u]) = wts us + u.wt := by simp [wts]
    clear hx hlen hu hus
    cases u with
    | mk k n s ls args =>
    simp only [Tm.own] at hown
    have hll := len_nodesL' ls
    have hmn := mins_le ls
    simp only [Tm.wt] at hwu
    simp only [nodePV]
    repeat' (first | ((with_reducible first | refine wA (by omega) ?_ | refine wB (by omega) ?_ | refine wC (by omega) ?_ | refine wD (by omega) ?_ | refine wE ?_ ?_ | refine wF ?_ ?_ | refine wG ?_ ?_ | refine wH ?_ ?_ | refine wI ?_ ?_ | refine wJ ?_ ?_ | refine wK ?_ ?_ | refine wL ?_ ?_) <;> intro _) | simp (maxSteps := 1000000) (disch := omega) only [go_sem, Nat.reduceAdd, Nat.reduceMul, Nat.reduceSub, Nat.reduceLeDiff, Nat.reduceEqDiff, Nat.reduceBEq, ↓reduceIte, reduceCtorEq, Int.reduceEq, Int.reduceLE, Int.reduceLT, Int.reduceAdd, Int.reduceSub, Int.reduceNeg, Int.reduceToNat, Int.reduceNe, Nat.reducePow, Nat.reduceShiftRight, Nat.reduceMod, Tm.pv, h1, h2, *])
    refine c_loopW 268402720 (by kernel_rfl) (fun j f H2 m2 => ∃ i : Nat, j = ls.length - i ∧ i ≤ ls.length ∧ f 15 = .sc (.int .i64 i) ∧ H2 (nx + 1) = some ⟨[.sc (.int .i64 0)], true⟩ ∧ H2 (nx + 2) = some ⟨[.sc (.int .i64 ((wts us : Nat) + 1 + (minsL (ls.take i) : Nat)))], true⟩) _ ⟨0, rfl, cE1, cE1, by simp [upd, h1], by simp [upd, minsL]⟩ ?_
    rintro _ f H2 m2 ⟨i, rfl, hi, e15, g1, g2⟩
    have hmi := minsL_take_le ls i
    by_cases hlt : i < ls.length
    · have eg : ls[i]? = some ls[i] := List.getElem?_eq_getElem hlt
      have hst := minsL_take ls i hlt
      clear hwu hmn
      repeat' (first | ((with_reducible first | refine wA (by omega) ?_ | refine wB (by omega) ?_ | refine wC (by omega) ?_ | refine wD (by omega) ?_ | refine wE ?_ ?_ | refine wF ?_ ?_ | refine wG ?_ ?_ | refine wH ?_ ?_ | refine wI ?_ ?_ | refine wJ ?_ ?_ | refine wK ?_ ?_ | refine wL ?_ ?_) <;> intro _) | (((with_reducible refine call_id ?_); (first | (refine call_pure (tlNodes_p 2001 ls[i] 2001 (.inr (by omega)) (by omega) (by omega)) ?_)))) | simp (maxSteps := 1000000) (disch := omega) only [go_sem, Nat.reduceAdd, Nat.reduceMul, Nat.reduceSub, Nat.reduceLeDiff, Nat.reduceEqDiff, Nat.reduceBEq, ↓reduceIte, reduceCtorEq, Int.reduceEq, Int.reduceLE, Int.reduceLT, Int.reduceAdd, Int.reduceSub, Int.reduceNeg, Int.reduceToNat, Int.reduceNe, Nat.reducePow, Nat.reduceShiftRight, Nat.reduceMod, Tm.pv, *])
      refine Nx.mk (ls.length - (i + 1)) cE1 ⟨i + 1, rfl, cE1, cE1, by simp [upd, g1], ?_⟩
      simp only [upd, if_true, Option.some.injEq, PObj.mk.injEq, and_true, List.cons.injEq, PV.sc.injEq, Value.int.injEq]
      refine ⟨trivial, ?_⟩
      rw [hst]
      omega
    · obtain rfl : i = ls.length := by omega
      rw [List.take_length] at g2 hmi
      clear hlt hi
      by_cases hgt : 2000 < wts us + 1 + minsL ls
      · repeat' (first | ((with_reducible first | refine wA (by omega) ?_ | refine wB (by omega) ?_ | refine wC (by omega) ?_ | refine wD (by omega) ?_ | refine wE ?_ ?_ | refine wF ?_ ?_ | refine wG ?_ ?_ | refine wH ?_ ?_ | refine wI ?_ ?_ | refine wJ ?_ ?_ | refine wK ?_ ?_ | refine wL ?_ ?_) <;> intro _) | simp (maxSteps := 1000000) (disch := omega) only [go_sem, Nat.reduceAdd, Nat.reduceMul, Nat.reduceSub, Nat.reduceLeDiff, Nat.reduceEqDiff, Nat.reduceBEq, ↓reduceIte, reduceCtorEq, Int.reduceEq, Int.reduceLE, Int.reduceLT, Int.reduceAdd, Int.reduceSub, Int.reduceNeg, Int.reduceToNat, Int.reduceNe, Nat.reducePow, Nat.reduceShiftRight, Nat.reduceMod, *])
        refine rq_ret fun hp => ?_
        have hle := wts_prefix hp
        have he := wts_le t.pre
        rw [own_pre] at he
        have hmin : min t.nodes 2001 = 2001 := by unfold minsL at hgt; omega
        have hq := noIt_keep (H := upd H2 (nx + 1) (some ⟨[.sc (.int .i64 2001)], true⟩)) (id := nx + 1) (upd_same _ _ _) rfl
        rw [hmin]
        generalize noIt (upd H2 (nx + 1) (some ⟨[.sc (.int .i64 2001)], true⟩)) = H3 at hq ⊢
        clear hwu hmn hgt hp hle he hmin hown hll hm
        simp (maxSteps := 1000000) (disch := omega) only [go_sem, Nat.reduceAdd, Nat.reduceMul, Nat.reduceSub, Nat.reduceLeDiff, Nat.reduceEqDiff, Nat.reduceBEq, ↓reduceIte, reduceCtorEq, Int.reduceEq, Int.reduceLE, Int.reduceLT, Int.reduceAdd, Int.reduceSub, Int.reduceNeg, Int.reduceToNat, Int.reduceNe, Nat.reducePow, Nat.reduceShiftRight, Nat.reduceMod, hq]
        exact fin_mut (.sc (.int .i64 2001)) (.inr rfl) (by (simp (disch := omega) only [go_sem, Nat.reduceMul, Nat.reduceSub, Nat.reduceShiftRight, Nat.reduceMod, Nat.reduceEqDiff, Nat.reduceAdd, ↓reduceIte, Nat.reduceLeDiff, hq]); all_goals rfl) (by simp)
      · repeat' (first | ((with_reducible first | refine wA (by omega) ?_ | refine wB (by omega) ?_ | refine wC (by omega) ?_ | refine wD (by omega) ?_ | refine wE ?_ ?_ | refine wF ?_ ?_ | refine wG ?_ ?_ | refine wH ?_ ?_ | refine wI ?_ ?_ | refine wJ ?_ ?_ | refine wK ?_ ?_ | refine wL ?_ ?_) <;> intro _) | simp (maxSteps := 1000000) (disch := omega) only [go_sem, Nat.reduceAdd, Nat.reduceMul, Nat.reduceSub, Nat.reduceLeDiff, Nat.reduceEqDiff, Nat.reduceBEq, ↓reduceIte, reduceCtorEq, Int.reduceEq, Int.reduceLE, Int.reduceLT, Int.reduceAdd, Int.reduceSub, Int.reduceNeg, Int.reduceToNat, Int.reduceNe, Nat.reducePow, Nat.reduceShiftRight, Nat.reduceMod, *])
        refine rq_normal ⟨us ++ [.mk k n s ls args], rfl, ?_, noIt_keep g1 rfl, ?_⟩
        · rw [hwu]
          unfold minsL at hgt
          omega
        · rw [hwu]
          refine noIt_keep (g2.trans ?_) rfl
          have e : ((wts us + (1 + (ls.map fun l => min l.nodes 2001).sum) : Nat) : Int) = (wts us : Int) + 1 + (minsL ls : Nat) := by unfold minsL; omega
          rw [e]
  case done =>
    rintro H' m ⟨us, hus, hw, h1, h2⟩ hnx
    rw [← wts_of_pv hus] at hw h2
    have he := wts_eq t.pre hw
    rw [own_pre] at he
    rw [he] at hw h2
    clear he hus hm
    repeat' (first | ((with_reducible first | refine wA (by omega) ?_ | refine wB (by omega) ?_ | refine wC (by omega) ?_ | refine wD (by omega) ?_ | refine wE ?_ ?_ | refine wF ?_ ?_ | refine wG ?_ ?_ | refine wH ?_ ?_ | refine wI ?_ ?_ | refine wJ ?_ ?_ | refine wK ?_ ?_ | refine wL ?_ ?_) <;> intro _) | simp (maxSteps := 1000000) (disch := omega) only [go_sem, Nat.reduceAdd, Nat.reduceMul, Nat.reduceSub, Nat.reduceLeDiff, Nat.reduceEqDiff, Nat.reduceBEq, ↓reduceIte, reduceCtorEq, Int.reduceEq, Int.reduceLE, Int.reduceLT, Int.reduceAdd, Int.reduceSub, Int.reduceNeg, Int.reduceToNat, Int.reduceNe, Nat.reducePow, Nat.reduceShiftRight, Nat.reduceMod, h1, h2, *])
    refine fin_mut (.sc (.int .i64 t.nodes)) (.inr rfl) (by (simp (disch := omega) only [go_sem, Nat.reduceMul, Nat.reduceSub, Nat.reduceShiftRight, Nat.reduceMod, Nat.reduceEqDiff, Nat.reduceAdd, ↓reduceIte, Nat.reduceLeDiff, h1, h2]); all_goals rfl) ?_
    show PV.sc (.int .i64 (t.nodes : Int)) = _
    have : min t.nodes 2001 = t.nodes := by omega
    rw [this]
theorem tNodes_p (t : Tm) (hm : t.nodes ≤ 2 ^ 40) : PPure Try.prog F.term_Nodes [.agg t.pv] (.sc (.int .i64 (min t.nodes 2001 : Nat))) := by
  refine PMut.pure rfl (fun nx => Nodes_m t hm noneOwn nx) fun nx H' nx' r0 h => ?_
  subst h
  exact ⟨0, .refl _⟩
end
section
set_option maxRecDepth 20000
attribute [local go_sem] pv_len pv_take Nat.add_assoc tm_len tm_take
mutual
def Tm.mass : Tm → Nat
  | .mk _ _ s ls args => 1 + s.size / 16 + (nodesL ls + massT args)
def massT : List Tm → Nat
  | [] => 0
  | x :: r => x.mass + massT r
end
mutual
def Tm.fits : Tm → Prop
  | .mk _ _ s _ args => s.size ≤ 9223372036854775807 ∧ fitsT args
def fitsT : List Tm → Prop
  | [] => True
  | x :: r => x.fits ∧ fitsT r
end
theorem fitsT_mem : ∀ (ts : List Tm) (k : Nat) (h : k < ts.length), fitsT ts → ts[k].fits
  | x :: r, 0, h, hf => by simpa using hf.1
  | x :: r, k + 1, h, hf => by simpa using fitsT_mem r k (by simpa using h) hf.2
theorem massT_take_succ : ∀ (ts : List Tm) (k : Nat) (h : k < ts.length), massT (ts.take (k + 1)) = massT (ts.take k) + ts[k].mass
  | x :: r, 0, h => by simp [massT]
  | x :: r, k + 1, h => by
    have := massT_take_succ r k (by simpa using h)
    simp only [List.take_succ_cons, massT, List.getElem_cons_succ, this]
    omega
theorem massT_append : ∀ a b : List Tm, massT (a ++ b) = massT a + massT b
  | [], b => by simp [massT]
  | x :: r, b => by simp only [List.cons_append, massT, massT_append r b]; omega
theorem massT_take_le (ts : List Tm) (k : Nat) : massT (ts.take k) ≤ massT ts := by
  have h := massT_append (ts.take k) (ts.drop k)
  rw [List.take_append_drop] at h
  omega
set_option maxHeartbeats 8000000 in
theorem Mass_p (most : Nat) (hm : most ≤ 1000000) : ∀ (fuel : Nat) (t : Tm), t.size ≤ fuel → t.fits →
    PPure Try.prog F.ref00_Nodes [.agg t.pv, .sc (.int .i64 most)] (.sc (.int .i64 (min t.mass (most + 1) : Nat))) := by
  intro fuel
  induction fuel with
  | zero => intro t h _; have := size_pos t; omega
  | succ fuel ih =>
    intro t hf hfit
    cases t with
    | mk k n s ls args =>
    simp only [Tm.size] at hf
    refine pure_by is_ref00_Nodes (by simp) rfl fun hb nx => ?_
    have hb0 : ls.length ≤ 9223372036854775807 ∧ args.length ≤ 9223372036854775807 := by simp [Tm.pv, bndL, PV.bnd] at hb; exact ⟨hb.1.1, hb.2.1⟩
    have hsz := hfit.1
    have hfits := Kept.mk hfit.2
    clear hfit
    have htd : Int.tdiv (s.size : Int) 16 = ((s.size / 16 : Nat) : Int) := by rw [Int.tdiv_eq_ediv_of_nonneg (by omega)]; omega
    repeat' (first | ((with_reducible first | refine wA (by omega) ?_ | refine wB (by omega) ?_ | refine wC (by omega) ?_ | refine wD (by omega) ?_ | refine wE ?_ ?_ | refine wF ?_ ?_ | refine wG ?_ ?_ | refine wH ?_ ?_ | refine wI ?_ ?_ | refine wJ ?_ ?_ | refine wK ?_ ?_ | refine wL ?_ ?_) <;> intro _) | simp (maxSteps := 1000000) (disch := omega) only [go_sem, Nat.reduceAdd, Nat.reduceMul, Nat.reduceSub, Nat.reduceLeDiff, Nat.reduceEqDiff, Nat.reduceBEq, ↓reduceIte, reduceCtorEq, Int.reduceEq, Int.reduceLE, Int.reduceLT, Int.reduceAdd, Int.reduceSub, Int.reduceNeg, Int.reduceToNat, Int.reduceNe, Nat.reducePow, Nat.reduceShiftRight, Nat.reduceMod, mc_ref00_Nodes, Tm.pv, htd, *])
    refine c_loopW 17179861088 (by kernel_rfl) (fun j f H m => ∃ i t : Nat, j = ls.length - i ∧ i ≤ ls.length ∧ min t (most + 1) = min (1 + s.size / 16 + nodesL (ls.take i)) (most + 1) ∧ t ≤ 2 * most + 1 + s.size / 16 ∧ f 5 = .sc (.int .i64 t) ∧ f 6 = .sc (.int .i64 i)) _ ⟨0, 1 + s.size / 16, rfl, cE1, by simp [nodesL], by omega, cE1, cE1⟩ ?_
    rintro _ f H m ⟨i, t, rfl, hi, ht, ht2, e5, e6⟩
    by_cases hgo : i < ls.length ∧ t ≤ most
    · obtain ⟨hlt, hfull⟩ := hgo
      have eg : ls[i]? = some ls[i] := List.getElem?_eq_getElem hlt
      have hs := nodesL_take_succ ls i hlt
      repeat' (first | ((with_reducible first | refine wA (by omega) ?_ | refine wB (by omega) ?_ | refine wC (by omega) ?_ | refine wD (by omega) ?_ | refine wE ?_ ?_ | refine wF ?_ ?_ | refine wG ?_ ?_ | refine wH ?_ ?_ | refine wI ?_ ?_ | refine wJ ?_ ?_ | refine wK ?_ ?_ | refine wL ?_ ?_) <;> intro _) | (((with_reducible refine call_id ?_); (first | (refine call_pure (LevelNodes_p most hm ls[i].nodes ls[i] (Nat.le_refl _)) ?_)))) | simp (maxSteps := 1000000) (disch := omega) only [go_sem, Nat.reduceAdd, Nat.reduceMul, Nat.reduceSub, Nat.reduceLeDiff, Nat.reduceEqDiff, Nat.reduceBEq, ↓reduceIte, reduceCtorEq, Int.reduceEq, Int.reduceLE, Int.reduceLT, Int.reduceAdd, Int.reduceSub, Int.reduceNeg, Int.reduceToNat, Int.reduceNe, Nat.reducePow, Nat.reduceShiftRight, Nat.reduceMod, Tm.pv, *])
      exact Nx.mk (ls.length - (i + 1)) cE1 ⟨i + 1, t + min ls[i].nodes (most + 1), rfl, cE1, by omega, by omega, cE1, cE1⟩
    · have hfin : min t (most + 1) = min (1 + s.size / 16 + nodesL ls) (most + 1) := by
        by_cases h : i < ls.length
        · have := nodesL_take_le ls i; omega
        · have e : ls.take i = ls := List.take_of_length_le (by omega)
          rw [e] at ht
          exact ht
      have hor : (i < ls.length ∧ most < t) ∨ ¬ i < ls.length := by omega
      clear hgo ht
      rcases hor with ⟨h, h'⟩ | h
      all_goals
        repeat' (first | ((with_reducible first | refine wA (by omega) ?_ | refine wB (by omega) ?_ | refine wC (by omega) ?_ | refine wD (by omega) ?_ | refine wE ?_ ?_ | refine wF ?_ ?_ | refine wG ?_ ?_ | refine wH ?_ ?_ | refine wI ?_ ?_ | refine wJ ?_ ?_ | refine wK ?_ ?_ | refine wL ?_ ?_) <;> intro _) | simp (maxSteps := 1000000) (disch := omega) only [go_sem, Nat.reduceAdd, Nat.reduceMul, Nat.reduceSub, Nat.reduceLeDiff, Nat.reduceEqDiff, Nat.reduceBEq, ↓reduceIte, reduceCtorEq, Int.reduceEq, Int.reduceLE, Int.reduceLT, Int.reduceAdd, Int.reduceSub, Int.reduceNeg, Int.reduceToNat, Int.reduceNe, Nat.reducePow, Nat.reduceShiftRight, Nat.reduceMod, Tm.pv, *])
        refine c_loopW 36028779839094944 (by kernel_rfl) (fun j f H m => ∃ i2 t2 : Nat, j = args.length - i2 ∧ i2 ≤ args.length ∧ min t2 (most + 1) = min (1 + s.size / 16 + (nodesL ls + massT (args.take i2))) (most + 1) ∧ t2 ≤ 2 * most + 1 + s.size / 16 ∧ f 5 = .sc (.int .i64 t2) ∧ f 7 = .sc (.int .i64 i2)) _ ⟨0, t, rfl, cE1, by simp [massT]; omega, cE1, cE1, cE1⟩ ?_
        rintro _ f2 H2 m2 ⟨i2, t2, rfl, hi2, ht3, ht4, e5', e7⟩
        by_cases hgo : i2 < args.length ∧ t2 ≤ most
        · obtain ⟨hlt, hfull⟩ := hgo
          have eg : args[i2]? = some args[i2] := List.getElem?_eq_getElem hlt
          have hs := massT_take_succ args i2 hlt
          have hsz := sizeL_mem args i2 hlt
          repeat' (first | ((with_reducible first | refine wA (by omega) ?_ | refine wB (by omega) ?_ | refine wC (by omega) ?_ | refine wD (by omega) ?_ | refine wE ?_ ?_ | refine wF ?_ ?_ | refine wG ?_ ?_ | refine wH ?_ ?_ | refine wI ?_ ?_ | refine wJ ?_ ?_ | refine wK ?_ ?_ | refine wL ?_ ?_) <;> intro _) | (((with_reducible refine call_id ?_); (first | (refine call_pure (ih args[i2] (by omega) (fitsT_mem args i2 hlt hfits.out)) ?_)))) | simp (maxSteps := 1000000) (disch := omega) only [go_sem, Nat.reduceAdd, Nat.reduceMul, Nat.reduceSub, Nat.reduceLeDiff, Nat.reduceEqDiff, Nat.reduceBEq, ↓reduceIte, reduceCtorEq, Int.reduceEq, Int.reduceLE, Int.reduceLT, Int.reduceAdd, Int.reduceSub, Int.reduceNeg, Int.reduceToNat, Int.reduceNe, Nat.reducePow, Nat.reduceShiftRight, Nat.reduceMod, Tm.pv, *])
          exact Nx.mk (args.length - (i2 + 1)) cE1 ⟨i2 + 1, t2 + min args[i2].mass (most + 1), rfl, cE1, by omega, by omega, cE1, cE1⟩
        · have hfin2 : min t2 (most + 1) = min (1 + s.size / 16 + (nodesL ls + massT args)) (most + 1) := by
            by_cases h : i2 < args.length
            · have := massT_take_le args i2; omega
            · have e : args.take i2 = args := List.take_of_length_le (by omega)
              rw [e] at ht3
              exact ht3
          have hor : (i2 < args.length ∧ most < t2) ∨ ¬ i2 < args.length := by omega
          clear hgo ht3
          rcases hor with ⟨h2, h2'⟩ | h2
          all_goals
            repeat' (first | ((with_reducible first | refine wA (by omega) ?_ | refine wB (by omega) ?_ | refine wC (by omega) ?_ | refine wD (by omega) ?_ | refine wE ?_ ?_ | refine wF ?_ ?_ | refine wG ?_ ?_ | refine wH ?_ ?_ | refine wI ?_ ?_ | refine wJ ?_ ?_ | refine wK ?_ ?_ | refine wL ?_ ?_) <;> intro _) | simp (maxSteps := 1000000) (disch := omega) only [go_sem, Nat.reduceAdd, Nat.reduceMul, Nat.reduceSub, Nat.reduceLeDiff, Nat.reduceEqDiff, Nat.reduceBEq, ↓reduceIte, reduceCtorEq, Int.reduceEq, Int.reduceLE, Int.reduceLT, Int.reduceAdd, Int.reduceSub, Int.reduceNeg, Int.reduceToNat, Int.reduceNe, Nat.reducePow, Nat.reduceShiftRight, Nat.reduceMod, Tm.pv, *])
            refine fin_tmp (.inr rfl) ?_
            simp (disch := omega) only [go_sem, Nat.reduceMul, Nat.reduceSub, Nat.reduceShiftRight, Nat.reduceMod, Nat.reduceEqDiff, Nat.reduceAdd, ↓reduceIte, Nat.reduceLeDiff, Tm.mass, *]
            omega
end
section
set_option maxRecDepth 20000
attribute [local go_sem] pv_len pv_take Nat.add_assoc tm_len tm_take pv_one tm_one
set_option maxHeartbeats 4000000 in
theorem tRight_p (t : Tm) (hm : t.nodes ≤ 2 ^ 40) (np bound : Int) : PPure Try.prog F.term_Right [.agg t.pv, .sc (.int .i64 np), .sc (.int .i64 bound)] (.sc (.bool (t.right np bound))) := by
  refine pure_by is_term_Right (by simp) rfl fun hb nx => ?_
  have hs := size_nodes t
  have c1 := tNodes_p t hm
  by_cases hn : t.nodes ≤ 2000
  · by_cases hbn : 0 ≤ bound
    · have c2 := (formed_parts np t.size).1 t (min bound 1125899906842624) (Nat.le_refl _) (by omega) (by omega)
      have e1 : ((min t.nodes 2001 : Nat) : Int) = t.nodes := by omega
      rw [e1] at c1
      unfold Tm.right
      clear hs e1 hm
      repeat' (first | ((with_reducible first | refine wA (by omega) ?_ | refine wB (by omega) ?_ | refine wC (by omega) ?_ | refine wD (by omega) ?_ | refine wE ?_ ?_ | refine wF ?_ ?_ | refine wG ?_ ?_ | refine wH ?_ ?_ | refine wI ?_ ?_ | refine wJ ?_ ?_ | refine wK ?_ ?_ | refine wL ?_ ?_) <;> intro _) | (((with_reducible refine call_id ?_); (first | (refine call_pure (c1) ?_) | (refine call_pure (c2) ?_)))) | simp (maxSteps := 1000000) (disch := omega) only [go_sem, Nat.reduceAdd, Nat.reduceMul, Nat.reduceSub, Nat.reduceLeDiff, Nat.reduceEqDiff, Nat.reduceBEq, ↓reduceIte, reduceCtorEq, Int.reduceEq, Int.reduceLE, Int.reduceLT, Int.reduceAdd, Int.reduceSub, Int.reduceNeg, Int.reduceToNat, Int.reduceNe, Nat.reducePow, Nat.reduceShiftRight, Nat.reduceMod, mc_term_Right, *])
      all_goals (refine fin_tmp (.inr rfl) ?_; simp [upd, *]; try omega)
    · unfold Tm.right
      clear hs hm
      repeat' (first | ((with_reducible first | refine wA (by omega) ?_ | refine wB (by omega) ?_ | refine wC (by omega) ?_ | refine wD (by omega) ?_ | refine wE ?_ ?_ | refine wF ?_ ?_ | refine wG ?_ ?_ | refine wH ?_ ?_ | refine wI ?_ ?_ | refine wJ ?_ ?_ | refine wK ?_ ?_ | refine wL ?_ ?_) <;> intro _) | (((with_reducible refine call_id ?_); (first | (refine call_pure (c1) ?_)))) | simp (maxSteps := 1000000) (disch := omega) only [go_sem, Nat.reduceAdd, Nat.reduceMul, Nat.reduceSub, Nat.reduceLeDiff, Nat.reduceEqDiff, Nat.reduceBEq, ↓reduceIte, reduceCtorEq, Int.reduceEq, Int.reduceLE, Int.reduceLT, Int.reduceAdd, Int.reduceSub, Int.reduceNeg, Int.reduceToNat, Int.reduceNe, Nat.reducePow, Nat.reduceShiftRight, Nat.reduceMod, mc_term_Right, *])
      all_goals (refine fin_tmp (.inr rfl) ?_; simp [upd, *]; try omega)
  · unfold Tm.right
    have e1 : ((min t.nodes 2001 : Nat) : Int) = 2001 := by omega
    rw [e1] at c1
    clear hs hm e1
    repeat' (first | ((with_reducible first | refine wA (by omega) ?_ | refine wB (by omega) ?_ | refine wC (by omega) ?_ | refine wD (by omega) ?_ | refine wE ?_ ?_ | refine wF ?_ ?_ | refine wG ?_ ?_ | refine wH ?_ ?_ | refine wI ?_ ?_ | refine wJ ?_ ?_ | refine wK ?_ ?_ | refine wL ?_ ?_) <;> intro _) | (((with_reducible refine call_id ?_); (first | (refine call_pure (c1) ?_)))) | simp (maxSteps := 1000000) (disch := omega) only [go_sem, Nat.reduceAdd, Nat.reduceMul, Nat.reduceSub, Nat.reduceLeDiff, Nat.reduceEqDiff, Nat.reduceBEq, ↓reduceIte, reduceCtorEq, Int.reduceEq, Int.reduceLE, Int.reduceLT, Int.reduceAdd, Int.reduceSub, Int.reduceNeg, Int.reduceToNat, Int.reduceNe, Nat.reducePow, Nat.reduceShiftRight, Nat.reduceMod, mc_term_Right, *])
    all_goals (refine fin_tmp (.inr rfl) ?_; simp [upd, *]; try omega)
theorem tSame_p (a b : Tm) (f g : Bool) (hfg : (f || g) = true) : PPure Try.prog F.term_Same [.agg (a.pvB f), .agg (b.pvB g)] (.sc (.bool (a.same b))) := by
  refine pure_by is_term_Same (by simp) rfl fun hb nx => ?_
  repeat' (first | ((with_reducible first | refine wA (by omega) ?_ | refine wB (by omega) ?_ | refine wC (by omega) ?_ | refine wD (by omega) ?_ | refine wE ?_ ?_ | refine wF ?_ ?_ | refine wG ?_ ?_ | refine wH ?_ ?_ | refine wI ?_ ?_ | refine wJ ?_ ?_ | refine wK ?_ ?_ | refine wL ?_ ?_) <;> intro _) | (((with_reducible refine call_id ?_); (first | (refine call_pure (term_same_p f g hfg a.size a b (Nat.le_refl _)) ?_)))) | simp (maxSteps := 1000000) (disch := omega) only [go_sem, Nat.reduceAdd, Nat.reduceMul, Nat.reduceSub, Nat.reduceLeDiff, Nat.reduceEqDiff, Nat.reduceBEq, ↓reduceIte, reduceCtorEq, Int.reduceEq, Int.reduceLE, Int.reduceLT, Int.reduceAdd, Int.reduceSub, Int.reduceNeg, Int.reduceToNat, Int.reduceNe, Nat.reducePow, Nat.reduceShiftRight, Nat.reduceMod, mc_term_Same, *])
  all_goals (refine fin_tmp (.inr rfl) ?_; simp [upd])
end
section
set_option maxRecDepth 20000
attribute [local go_sem] pv_len pv_take tm_len tm_take pv_one tm_one id_ne id_ne' id_ne2
mutual
def Tm.vis (np : Int) : Int → Tm → Nat
  | k, .mk kind n s ls args => 1 + (if ((kind = 4 ∨ kind = 5 ∨ kind = 6) ∧ hasB n s ls args 0 0 2 = true) ∨ (kind = 7 ∧ hasB n s ls args 0 0 3 = true) then visA np k kind args.length 0 args else 0)
def visA (np : Int) : Int → Int → Nat → Nat → List Tm → Nat
  | _, _, _, _, [] => 0
  | k, kind, len, i, x :: r => x.vis np (k + deepB kind len i) + (if x.formed np (k + deepB kind len i) = true then visA np k kind len (i + 1) r else 0)
end
theorem vis_pos (np k : Int) (t : Tm) : 0 < t.vis np k := by
  cases t
  simp only [Tm.vis]
  omega
set_option maxHeartbeats 16000000 in
theorem formedV_p (np : Int) : ∀ (fuel : Nat) (t : Tm) (k : Int), t.vis np k ≤ fuel → 0 ≤ k → k + t.vis np k ≤ 2 ^ 60 → PPure Try.prog F.term_formed [.ptr t.pv, .sc (.int .i64 np), .sc (.int .i64 k)] (.sc (.bool (t.formed np k))) := by
  intro fuel
  induction fuel with
  | zero => intro t k h; have := vis_pos np k t; omega
  | succ fuel ih =>
    have hparts : ∀ (kind n : Int) (s : ByteArray) (ls : List Lv) (args : List Tm) (k : Int), visA np k kind args.length 0 args ≤ fuel → 0 ≤ k → k + visA np k kind args.length 0 args + 1 ≤ 2 ^ 60 →
        PPure Try.prog F.term_parts [.ptr (Tm.mk kind n s ls args).pv, .sc (.int .i64 np), .sc (.int .i64 k)] (.sc (.bool (formedA np k kind args.length 0 args))) := by
      intro kind n s ls args k hsz h0 h1
      have hih := Kept.mk ih
      clear ih
      refine pure_by is_term_parts (by simp) rfl fun hb nx => ?_
      have hb0 : args.length ≤ 9223372036854775807 := by simp [Tm.pv, bndL, PV.bnd] at hb; exact hb.2.1
      clear hb
      repeat' (first | ((with_reducible first | refine wA (by omega) ?_ | refine wB (by omega) ?_ | refine wC (by omega) ?_ | refine wD (by omega) ?_ | refine wE ?_ ?_ | refine wF ?_ ?_ | refine wG ?_ ?_ | refine wH ?_ ?_ | refine wI ?_ ?_ | refine wJ ?_ ?_ | refine wK ?_ ?_ | refine wL ?_ ?_) <;> intro _) | simp (maxSteps := 1000000) (disch := omega) only [go_sem, Nat.reduceAdd, Nat.reduceMul, Nat.reduceSub, Nat.reduceLeDiff, Nat.reduceEqDiff, Nat.reduceBEq, ↓reduceIte, reduceCtorEq, Int.reduceEq, Int.reduceLE, Int.reduceLT, Int.reduceAdd, Int.reduceSub, Int.reduceNeg, Int.reduceToNat, Int.reduceNe, Nat.reducePow, Nat.reduceShiftRight, Nat.reduceMod, mc_term_parts, Tm.pv, *])
      refine c_loopW 2147475648 (by kernel_rfl) (fun j f H m => ∃ i : Nat, j = args.length - i ∧ i ≤ args.length ∧ f 13 = .sc (.int .i64 i) ∧ Kept (formedA np k kind args.length 0 args = formedA np k kind args.length i (args.drop i)) ∧ visA np k kind args.length i (args.drop i) ≤ visA np k kind args.length 0 args) _ ⟨0, rfl, cE1, cE1, Kept.mk (by rw [List.drop_zero]), by rw [List.drop_zero]; exact Nat.le_refl _⟩ ?_
      rintro _ f H m ⟨i, rfl, hi, e13, hs, hv⟩
      by_cases hlt : i < args.length
      · have eg : args[i]? = some args[i] := List.getElem?_eq_getElem hlt
        have hd := deep_bd kind args.length i
        have hst : Kept (formedA np k kind args.length i (args.drop i) = (args[i].formed np (k + deepB kind args.length i) && formedA np k kind args.length (i + 1) (args.drop (i + 1)))) := Kept.mk (by rw [List.drop_eq_getElem_cons hlt]; rfl)
        have hvs : visA np k kind args.length i (args.drop i) = args[i].vis np (k + deepB kind args.length i) + (if args[i].formed np (k + deepB kind args.length i) = true then visA np k kind args.length (i + 1) (args.drop (i + 1)) else 0) := by rw [List.drop_eq_getElem_cons hlt]; rfl
        have hc1 := deeper_p (.mk kind n s ls args) i
        have hc2 := hc1 kind n s ls args rfl
        simp only [Tm.pv] at hc2
        have hc3 := hih.out args[i] (k + deepB kind args.length i) (by omega) (by omega) (by omega)
        clear hc1
        cases hf : args[i].formed np (k + deepB kind args.length i) with
        | false =>
          have e : formedA np k kind args.length 0 args = false := by rw [hs.out, hst.out, hf]; rfl
          rw [e]
          rw [hf] at hc3
          clear hs hst hvs hv hf e
          repeat' (first | ((with_reducible first | refine wA (by omega) ?_ | refine wB (by omega) ?_ | refine wC (by omega) ?_ | refine wD (by omega) ?_ | refine wE ?_ ?_ | refine wF ?_ ?_ | refine wG ?_ ?_ | refine wH ?_ ?_ | refine wI ?_ ?_ | refine wJ ?_ ?_ | refine wK ?_ ?_ | refine wL ?_ ?_) <;> intro _) | (((with_reducible refine call_id ?_); (first | (refine call_pure (hc2) ?_) | (refine call_pure (hc3) ?_)))) | simp (maxSteps := 1000000) (disch := omega) only [go_sem, Nat.reduceAdd, Nat.reduceMul, Nat.reduceSub, Nat.reduceLeDiff, Nat.reduceEqDiff, Nat.reduceBEq, ↓reduceIte, reduceCtorEq, Int.reduceEq, Int.reduceLE, Int.reduceLT, Int.reduceAdd, Int.reduceSub, Int.reduceNeg, Int.reduceToNat, Int.reduceNe, Nat.reducePow, Nat.reduceShiftRight, Nat.reduceMod, Tm.pv, *])
          all_goals (exact fin_tmp (.inr rfl) cE3)
        | true =>
          have hs2 : Kept (formedA np k kind args.length 0 args = formedA np k kind args.length (i + 1) (args.drop (i + 1))) := Kept.mk (by rw [hs.out, hst.out, hf]; rfl)
          rw [hf, if_pos rfl] at hvs
          rw [hf] at hc3
          have hv2 : visA np k kind args.length (i + 1) (args.drop (i + 1)) ≤ visA np k kind args.length 0 args := by omega
          clear hs hst hvs hf
          repeat' (first | ((with_reducible first | refine wA (by omega) ?_ | refine wB (by omega) ?_ | refine wC (by omega) ?_ | refine wD (by omega) ?_ | refine wE ?_ ?_ | refine wF ?_ ?_ | refine wG ?_ ?_ | refine wH ?_ ?_ | refine wI ?_ ?_ | refine wJ ?_ ?_ | refine wK ?_ ?_ | refine wL ?_ ?_) <;> intro _) | (((with_reducible refine call_id ?_); (first | (refine call_pure (hc2) ?_) | (refine call_pure (hc3) ?_)))) | simp (maxSteps := 1000000) (disch := omega) only [go_sem, Nat.reduceAdd, Nat.reduceMul, Nat.reduceSub, Nat.reduceLeDiff, Nat.reduceEqDiff, Nat.reduceBEq, ↓reduceIte, reduceCtorEq, Int.reduceEq, Int.reduceLE, Int.reduceLT, Int.reduceAdd, Int.reduceSub, Int.reduceNeg, Int.reduceToNat, Int.reduceNe, Nat.reducePow, Nat.reduceShiftRight, Nat.reduceMod, Tm.pv, *])
          exact Nx.mk (args.length - (i + 1)) cE1 ⟨i + 1, rfl, cE1, by simp [upd], hs2, hv2⟩
      · obtain rfl : i = args.length := by omega
        have h2 := hs.out
        rw [List.drop_length, formedA] at h2
        rw [h2]
        clear hs h2
        repeat' (first | ((with_reducible first | refine wA (by omega) ?_ | refine wB (by omega) ?_ | refine wC (by omega) ?_ | refine wD (by omega) ?_ | refine wE ?_ ?_ | refine wF ?_ ?_ | refine wG ?_ ?_ | refine wH ?_ ?_ | refine wI ?_ ?_ | refine wJ ?_ ?_ | refine wK ?_ ?_ | refine wL ?_ ?_) <;> intro _) | simp (maxSteps := 1000000) (disch := omega) only [go_sem, Nat.reduceAdd, Nat.reduceMul, Nat.reduceSub, Nat.reduceLeDiff, Nat.reduceEqDiff, Nat.reduceBEq, ↓reduceIte, reduceCtorEq, Int.reduceEq, Int.reduceLE, Int.reduceLT, Int.reduceAdd, Int.reduceSub, Int.reduceNeg, Int.reduceToNat, Int.reduceNe, Nat.reducePow, Nat.reduceShiftRight, Nat.reduceMod, Tm.pv, *])
        all_goals (exact fin_tmp (.inr rfl) cE3)
    intro t k hsz h0 h1
    cases t with
    | mk kind n s ls args =>
    simp only [Tm.vis] at hsz h1
    have c1 := has_p kind n s ls args
    have c2 := constant_p kind n s ls args np
    have c3 : ((kind = 4 ∨ kind = 5 ∨ kind = 6) ∧ hasB n s ls args 0 0 2 = true) ∨ (kind = 7 ∧ hasB n s ls args 0 0 3 = true) → PPure Try.prog F.term_parts [.ptr (Tm.mk kind n s ls args).pv, .sc (.int .i64 np), .sc (.int .i64 k)] (.sc (.bool (formedA np k kind args.length 0 args))) := fun h => by
      rw [if_pos h] at hsz h1
      exact hparts kind n s ls args k (by omega) h0 (by omega)
    simp only [Tm.pv] at c1 c2 c3
    clear ih hparts hsz
    refine pure_by is_term_formed (by simp) rfl fun hb nx => ?_
    clear hb
    by_cases k1 : kind = 1
    · subst k1
      clear c3
      repeat' (first | ((with_reducible first | refine wA (by omega) ?_ | refine wB (by omega) ?_ | refine wC (by omega) ?_ | refine wD (by omega) ?_ | refine wE ?_ ?_ | refine wF ?_ ?_ | refine wG ?_ ?_ | refine wH ?_ ?_ | refine wI ?_ ?_ | refine wJ ?_ ?_ | refine wK ?_ ?_ | refine wL ?_ ?_) <;> intro _) | (((with_reducible refine call_id ?_); (first | (refine call_pure (c1 n 0 0) ?_)))) | simp (maxSteps := 1000000) (disch := omega) only [go_sem, Nat.reduceAdd, Nat.reduceMul, Nat.reduceSub, Nat.reduceLeDiff, Nat.reduceEqDiff, Nat.reduceBEq, ↓reduceIte, reduceCtorEq, Int.reduceEq, Int.reduceLE, Int.reduceLT, Int.reduceAdd, Int.reduceSub, Int.reduceNeg, Int.reduceToNat, Int.reduceNe, Nat.reducePow, Nat.reduceShiftRight, Nat.reduceMod, mc_term_formed, Tm.pv, *])
      all_goals (refine fin_tmp (.inr rfl) ?_; simp [upd, Tm.formed, headR, *]; try omega)
    by_cases k2 : kind = 2
    · subst k2
      clear c3
      by_cases h2 : hasB n s ls args 0 1 0 = true
      · have hl : ls.length = 1 := by
          simp only [hasB, Bool.and_eq_true, decide_eq_true_eq] at h2
          omega
        match ls, hl with
        | [l], _ =>
          repeat' (first | ((with_reducible first | refine wA (by omega) ?_ | refine wB (by omega) ?_ | refine wC (by omega) ?_ | refine wD (by omega) ?_ | refine wE ?_ ?_ | refine wF ?_ ?_ | refine wG ?_ ?_ | refine wH ?_ ?_ | refine wI ?_ ?_ | refine wJ ?_ ?_ | refine wK ?_ ?_ | refine wL ?_ ?_) <;> intro _) | (((with_reducible refine call_id ?_); (first | (refine call_pure (c1 0 1 0) ?_) | (refine call_pure (Right_p l np) ?_)))) | simp (maxSteps := 1000000) (disch := omega) only [go_sem, Nat.reduceAdd, Nat.reduceMul, Nat.reduceSub, Nat.reduceLeDiff, Nat.reduceEqDiff, Nat.reduceBEq, ↓reduceIte, reduceCtorEq, Int.reduceEq, Int.reduceLE, Int.reduceLT, Int.reduceAdd, Int.reduceSub, Int.reduceNeg, Int.reduceToNat, Int.reduceNe, Nat.reducePow, Nat.reduceShiftRight, Nat.reduceMod, mc_term_formed, Tm.pv, *])
          all_goals (refine fin_tmp (.inr rfl) ?_; simp [upd, Tm.formed, headR, *]; try omega)
      · repeat' (first | ((with_reducible first | refine wA (by omega) ?_ | refine wB (by omega) ?_ | refine wC (by omega) ?_ | refine wD (by omega) ?_ | refine wE ?_ ?_ | refine wF ?_ ?_ | refine wG ?_ ?_ | refine wH ?_ ?_ | refine wI ?_ ?_ | refine wJ ?_ ?_ | refine wK ?_ ?_ | refine wL ?_ ?_) <;> intro _) | (((with_reducible refine call_id ?_); (first | (refine call_pure (c1 0 1 0) ?_)))) | simp (maxSteps := 1000000) (disch := omega) only [go_sem, Nat.reduceAdd, Nat.reduceMul, Nat.reduceSub, Nat.reduceLeDiff, Nat.reduceEqDiff, Nat.reduceBEq, ↓reduceIte, reduceCtorEq, Int.reduceEq, Int.reduceLE, Int.reduceLT, Int.reduceAdd, Int.reduceSub, Int.reduceNeg, Int.reduceToNat, Int.reduceNe, Nat.reducePow, Nat.reduceShiftRight, Nat.reduceMod, mc_term_formed, Tm.pv, *])
        all_goals (refine fin_tmp (.inr rfl) ?_; simp [upd, Tm.formed, headR, *]; try omega)
    by_cases k3 : kind = 3
    · subst k3
      clear c3
      repeat' (first | ((with_reducible first | refine wA (by omega) ?_ | refine wB (by omega) ?_ | refine wC (by omega) ?_ | refine wD (by omega) ?_ | refine wE ?_ ?_ | refine wF ?_ ?_ | refine wG ?_ ?_ | refine wH ?_ ?_ | refine wI ?_ ?_ | refine wJ ?_ ?_ | refine wK ?_ ?_ | refine wL ?_ ?_) <;> intro _) | (((with_reducible refine call_id ?_); (first | (refine call_pure (c2) ?_)))) | simp (maxSteps := 1000000) (disch := omega) only [go_sem, Nat.reduceAdd, Nat.reduceMul, Nat.reduceSub, Nat.reduceLeDiff, Nat.reduceEqDiff, Nat.reduceBEq, ↓reduceIte, reduceCtorEq, Int.reduceEq, Int.reduceLE, Int.reduceLT, Int.reduceAdd, Int.reduceSub, Int.reduceNeg, Int.reduceToNat, Int.reduceNe, Nat.reducePow, Nat.reduceShiftRight, Nat.reduceMod, mc_term_formed, Tm.pv, *])
      all_goals (refine fin_tmp (.inr rfl) ?_; simp [upd, Tm.formed, headR, *]; try omega)
    by_cases k456 : kind = 4 ∨ kind = 5 ∨ kind = 6
    · by_cases h2 : hasB n s ls args 0 0 2 = true
      · have c4 := c3 (.inl ⟨k456, h2⟩)
        have c5 := c1 0 0 2
        rw [h2] at c5
        clear c3 c1 c2
        rcases k456 with rfl | rfl | rfl
        all_goals
          repeat' (first | ((with_reducible first | refine wA (by omega) ?_ | refine wB (by omega) ?_ | refine wC (by omega) ?_ | refine wD (by omega) ?_ | refine wE ?_ ?_ | refine wF ?_ ?_ | refine wG ?_ ?_ | refine wH ?_ ?_ | refine wI ?_ ?_ | refine wJ ?_ ?_ | refine wK ?_ ?_ | refine wL ?_ ?_) <;> intro _) | (((with_reducible refine call_id ?_); (first | (refine call_pure (c5) ?_) | (refine call_pure (c4) ?_)))) | simp (maxSteps := 1000000) (disch := omega) only [go_sem, Nat.reduceAdd, Nat.reduceMul, Nat.reduceSub, Nat.reduceLeDiff, Nat.reduceEqDiff, Nat.reduceBEq, ↓reduceIte, reduceCtorEq, Int.reduceEq, Int.reduceLE, Int.reduceLT, Int.reduceAdd, Int.reduceSub, Int.reduceNeg, Int.reduceToNat, Int.reduceNe, Nat.reducePow, Nat.reduceShiftRight, Nat.reduceMod, mc_term_formed, Tm.pv, *])
          all_goals (refine fin_tmp (.inr rfl) ?_; simp [upd, Tm.formed, headR, *]; try omega)
      · have c5 := c1 0 0 2
        rw [Bool.not_eq_true] at h2
        rw [h2] at c5
        clear c3 c1 c2
        rcases k456 with rfl | rfl | rfl
        all_goals
          repeat' (first | ((with_reducible first | refine wA (by omega) ?_ | refine wB (by omega) ?_ | refine wC (by omega) ?_ | refine wD (by omega) ?_ | refine wE ?_ ?_ | refine wF ?_ ?_ | refine wG ?_ ?_ | refine wH ?_ ?_ | refine wI ?_ ?_ | refine wJ ?_ ?_ | refine wK ?_ ?_ | refine wL ?_ ?_) <;> intro _) | (((with_reducible refine call_id ?_); (first | (refine call_pure (c5) ?_)))) | simp (maxSteps := 1000000) (disch := omega) only [go_sem, Nat.reduceAdd, Nat.reduceMul, Nat.reduceSub, Nat.reduceLeDiff, Nat.reduceEqDiff, Nat.reduceBEq, ↓reduceIte, reduceCtorEq, Int.reduceEq, Int.reduceLE, Int.reduceLT, Int.reduceAdd, Int.reduceSub, Int.reduceNeg, Int.reduceToNat, Int.reduceNe, Nat.reducePow, Nat.reduceShiftRight, Nat.reduceMod, mc_term_formed, Tm.pv, *])
          all_goals (refine fin_tmp (.inr rfl) ?_; simp [upd, Tm.formed, headR, *]; try omega)
    have k4 : kind ≠ 4 := fun h => k456 (.inl h)
    have k5 : kind ≠ 5 := fun h => k456 (.inr (.inl h))
    have k6 : kind ≠ 6 := fun h => k456 (.inr (.inr h))
    by_cases k7 : kind = 7
    · subst k7
      by_cases h2 : hasB n s ls args 0 0 3 = true
      · have c4 := c3 (.inr ⟨rfl, h2⟩)
        have c5 := c1 0 0 3
        rw [h2] at c5
        clear c3 c1 c2
        repeat' (first | ((with_reducible first | refine wA (by omega) ?_ | refine wB (by omega) ?_ | refine wC (by omega) ?_ | refine wD (by omega) ?_ | refine wE ?_ ?_ | refine wF ?_ ?_ | refine wG ?_ ?_ | refine wH ?_ ?_ | refine wI ?_ ?_ | refine wJ ?_ ?_ | refine wK ?_ ?_ | refine wL ?_ ?_) <;> intro _) | (((with_reducible refine call_id ?_); (first | (refine call_pure (c5) ?_) | (refine call_pure (c4) ?_)))) | simp (maxSteps := 1000000) (disch := omega) only [go_sem, Nat.reduceAdd, Nat.reduceMul, Nat.reduceSub, Nat.reduceLeDiff, Nat.reduceEqDiff, Nat.reduceBEq, ↓reduceIte, reduceCtorEq, Int.reduceEq, Int.reduceLE, Int.reduceLT, Int.reduceAdd, Int.reduceSub, Int.reduceNeg, Int.reduceToNat, Int.reduceNe, Nat.reducePow, Nat.reduceShiftRight, Nat.reduceMod, mc_term_formed, Tm.pv, *])
        all_goals (refine fin_tmp (.inr rfl) ?_; simp [upd, Tm.formed, headR, *]; try omega)
      · have c5 := c1 0 0 3
        rw [Bool.not_eq_true] at h2
        rw [h2] at c5
        clear c3 c1 c2
        repeat' (first | ((with_reducible first | refine wA (by omega) ?_ | refine wB (by omega) ?_ | refine wC (by omega) ?_ | refine wD (by omega) ?_ | refine wE ?_ ?_ | refine wF ?_ ?_ | refine wG ?_ ?_ | refine wH ?_ ?_ | refine wI ?_ ?_ | refine wJ ?_ ?_ | refine wK ?_ ?_ | refine wL ?_ ?_) <;> intro _) | (((with_reducible refine call_id ?_); (first | (refine call_pure (c5) ?_)))) | simp (maxSteps := 1000000) (disch := omega) only [go_sem, Nat.reduceAdd, Nat.reduceMul, Nat.reduceSub, Nat.reduceLeDiff, Nat.reduceEqDiff, Nat.reduceBEq, ↓reduceIte, reduceCtorEq, Int.reduceEq, Int.reduceLE, Int.reduceLT, Int.reduceAdd, Int.reduceSub, Int.reduceNeg, Int.reduceToNat, Int.reduceNe, Nat.reducePow, Nat.reduceShiftRight, Nat.reduceMod, mc_term_formed, Tm.pv, *])
        all_goals (refine fin_tmp (.inr rfl) ?_; simp [upd, Tm.formed, headR, *]; try omega)
    clear c1 c2 c3
    repeat' (first | ((with_reducible first | refine wA (by omega) ?_ | refine wB (by omega) ?_ | refine wC (by omega) ?_ | refine wD (by omega) ?_ | refine wE ?_ ?_ | refine wF ?_ ?_ | refine wG ?_ ?_ | refine wH ?_ ?_ | refine wI ?_ ?_ | refine wJ ?_ ?_ | refine wK ?_ ?_ | refine wL ?_ ?_) <;> intro _) | simp (maxSteps := 1000000) (disch := omega) only [go_sem, Nat.reduceAdd, Nat.reduceMul, Nat.reduceSub, Nat.reduceLeDiff, Nat.reduceEqDiff, Nat.reduceBEq, ↓reduceIte, reduceCtorEq, Int.reduceEq, Int.reduceLE, Int.reduceLT, Int.reduceAdd, Int.reduceSub, Int.reduceNeg, Int.reduceToNat, Int.reduceNe, Nat.reducePow, Nat.reduceShiftRight, Nat.reduceMod, mc_term_formed, Tm.pv, *])
    all_goals (refine fin_tmp (.inr rfl) ?_; simp [upd, Tm.formed, headR, *]; try omega)
end
section
set_option maxRecDepth 20000
attribute [local go_sem] pv_len pv_take tm_len tm_take pv_one tm_one id_ne id_ne' id_ne2
def Tm.nlv : Tm → Nat
  | .mk _ _ _ ls _ => ls.length
theorem nlv_of_pv {a b : Tm} (h : nodePV a = nodePV b) : a.nlv = b.nlv := by
  cases a; cases b
  simp only [nodePV, Tm.pv, PV.ptr.injEq, List.cons.injEq, PV.sl.injEq, true_and, and_true] at h
  simp only [Tm.nlv]
  rw [pvL_inj _ _ h.2.2.2.1]
def HasBad (us : List Tm) : Prop := ∃ p u, p ≤ 2000 ∧ us[p]? = some u ∧ 2 ^ 40 < u.nlv
theorem bad_prefix {us vs : List Tm} (h : us.map nodePV <+: vs.map nodePV) (hb : HasBad us) : HasBad vs := by
  obtain ⟨p, u, hp, hu, hn⟩ := hb
  obtain ⟨z, hz⟩ := h
  have h1 : (vs.map nodePV)[p]? = some (nodePV u) := by
    rw [← hz, List.getElem?_append_left (by rw [List.length_map]; exact (List.getElem?_eq_some_iff.1 hu).1), List.getElem?_map, hu]
    rfl
  rw [List.getElem?_map] at h1
  cases hv : vs[p]? with
  | none => rw [hv] at h1; cases h1
  | some v =>
    rw [hv] at h1
    simp only [Option.map_some, Option.some.injEq] at h1
    exact ⟨p, v, hp, hv, by rw [nlv_of_pv h1]; exact hn⟩
theorem bad_app {us vs : List Tm} (hb : HasBad us) : HasBad (us ++ vs) := by
  obtain ⟨p, u, hp, hu, hn⟩ := hb
  exact ⟨p, u, hp, by rw [List.getElem?_append_left (List.getElem?_eq_some_iff.1 hu).1]; exact hu, hn⟩
theorem bad_last {us : List Tm} {u : Tm} (h : us.length ≤ 2000) (hn : 2 ^ 40 < u.nlv) : HasBad (us ++ [u]) := ⟨us.length, u, h, by simp, hn⟩
theorem len_wts : ∀ us : List Tm, us.length ≤ wts us
  | [] => by simp [wts]
  | .mk k n s ls args :: r => by
    have := len_wts r
    simp only [wts, List.map_cons, List.sum_cons, List.length_cons, Tm.wt] at *
    omega
theorem minsL_len : ∀ ls : List Lv, minsL ls ≤ 2001 * ls.length
  | [] => by simp [minsL]
  | x :: r => by
    have := minsL_len r
    simp only [minsL, List.map_cons, List.sum_cons, List.length_cons] at *
    omega
mutual
theorem bnd_pre : ∀ t : Tm, bndL t.pv → ∀ u ∈ t.pre, u.nlv ≤ 9223372036854775807
  | .mk k n s ls args, h, u, hu => by
    simp only [Tm.pv, bndL, PV.bnd, List.length_map] at h
    simp only [Tm.pre, List.mem_cons] at hu
    rcases hu with rfl | hu
    · exact h.2.2.2.1.1
    · exact bnd_preL args h.2.2.2.2.1.2 u hu
theorem bnd_preL : ∀ ts : List Tm, bndLL (ts.map Tm.pv) → ∀ u ∈ preL ts, u.nlv ≤ 9223372036854775807
  | [], _, u, hu => by cases hu
  | x :: r, h, u, hu => by
    simp only [List.map_cons, bndLL] at h
    simp only [preL, List.mem_append] at hu
    rcases hu with hu | hu
    · exact bnd_pre x h.1 u hu
    · exact bnd_preL r h.2 u hu
end
set_option maxHeartbeats 8000000 in
theorem NodesG_m (t : Tm) (H : Nat → Option PObj) (nx : Nat) : PMut Try.prog F.term_Nodes [.agg t.pv] H nx (fun H' nx' r => ∃ v : Int, r = .sc (.int .i64 v) ∧ (v = (min t.nodes 2001 : Nat) ∨ HasBad t.pre)) := by
  refine mut_byR is_term_Nodes (by simp) fun hb => ?_
  have hbd := bnd_pre t (by simp only [bndL, PV.bnd] at hb; exact hb.1)
  clear hb
  repeat' (first | ((with_reducible first | refine wA (by omega) ?_ | refine wB (by omega) ?_ | refine wC (by omega) ?_ | refine wD (by omega) ?_ | refine wE ?_ ?_ | refine wF ?_ ?_ | refine wG ?_ ?_ | refine wH ?_ ?_ | refine wI ?_ ?_ | refine wJ ?_ ?_ | refine wK ?_ ?_ | refine wL ?_ ?_) <;> intro _) | (((with_reducible refine call_id ?_); (first | (refine call_pure (all_p t) ?_)))) | simp (maxSteps := 1000000) (disch := omega) only [go_sem, Nat.reduceAdd, Nat.reduceMul, Nat.reduceSub, Nat.reduceLeDiff, Nat.reduceEqDiff, Nat.reduceBEq, ↓reduceIte, reduceCtorEq, Int.reduceEq, Int.reduceLE, Int.reduceLT, Int.reduceAdd, Int.reduceSub, Int.reduceNeg, Int.reduceToNat, Int.reduceNe, Nat.reducePow, Nat.reduceShiftRight, Nat.reduceMod, mc_term_Nodes, *])
  refine c_rng (all_seq t) (by simp [ev, upd]) (fun pre H' m => ∃ (us : List Tm) (v : Int), pre = us.map nodePV ∧ H' (nx + 1) = some ⟨[.sc (.int .i64 0)], true⟩ ∧ H' (nx + 2) = some ⟨[.sc (.int .i64 v)], true⟩ ∧ ((wts us ≤ 2000 ∧ v = wts us) ∨ HasBad us))
    ⟨[], 0, rfl, noIt_keep (by simp [upd]) rfl, noIt_keep (by simp [upd]) rfl, .inl (by simp [wts])⟩ ?round ?done
  case round =>
    rintro pre x H' m hx hlen ⟨us, v, rfl, h1, h2, hor⟩ hnx
    obtain ⟨u, hu, rfl⟩ := List.mem_map.1 hx
    have hub := hbd u hu
    have hus : (us.map nodePV ++ [nodePV u]) = (us ++ [u]).map nodePV := by simp
    rw [hus]
    have hwu : wts (us ++ [u]) = wts us + u.wt := by simp [wts]
    clear hx hlen hu hus hbd
    by_cases hgood : (wts us ≤ 2000 ∧ v = wts us) ∧ u.nlv ≤ 2 ^ 40
    · obtain ⟨⟨hw, rfl⟩, hl40⟩ := hgood
      clear hor hub
      cases u with
      | mk k n s ls args =>
      simp only [Tm.nlv] at hl40
      have hmn := minsL_len ls
      simp only [Tm.wt] at hwu
      simp only [nodePV]
      repeat' (first | ((with_reducible first | refine wA (by omega) ?_ | refine wB (by omega) ?_ | refine wC (by omega) ?_ | refine wD (by omega) ?_ | refine wE ?_ ?_ | refine wF ?_ ?_ | refine wG ?_ ?_ | refine wH ?_ ?_ | refine wI ?_ ?_ | refine wJ ?_ ?_ | refine wK ?_ ?_ | refine wL ?_ ?_) <;> intro _) | simp (maxSteps := 1000000) (disch := omega) only [go_sem, Nat.reduceAdd, Nat.reduceMul, Nat.reduceSub, Nat.reduceLeDiff, Nat.reduceEqDiff, Nat.reduceBEq, ↓reduceIte, reduceCtorEq, Int.reduceEq, Int.reduceLE, Int.reduceLT, Int.reduceAdd, Int.reduceSub, Int.reduceNeg, Int.reduceToNat, Int.reduceNe, Nat.reducePow, Nat.reduceShiftRight, Nat.reduceMod, Tm.pv, h1, h2, *])
      refine c_loopW 268402720 (by kernel_rfl) (fun j f H2 m2 => ∃ i : Nat, j = ls.length - i ∧ i ≤ ls.length ∧ f 15 = .sc (.int .i64 i) ∧ H2 (nx + 1) = some ⟨[.sc (.int .i64 0)], true⟩ ∧ H2 (nx + 2) = some ⟨[.sc (.int .i64 ((wts us : Nat) + 1 + (minsL (ls.take i) : Nat)))], true⟩) _ ⟨0, rfl, cE1, cE1, by simp [upd, h1], by simp [upd, minsL]⟩ ?_
      rintro _ f H2 m2 ⟨i, rfl, hi, e15, g1, g2⟩
      have hmi : minsL (ls.take i) ≤ 2001 * i := Nat.le_trans (minsL_len _) (Nat.mul_le_mul_left _ (by rw [List.length_take]; omega))
      by_cases hlt : i < ls.length
      · have eg : ls[i]? = some ls[i] := List.getElem?_eq_getElem hlt
        have hst := minsL_take ls i hlt
        clear hwu hmn
        repeat' (first | ((with_reducible first | refine wA (by omega) ?_ | refine wB (by omega) ?_ | refine wC (by omega) ?_ | refine wD (by omega) ?_ | refine wE ?_ ?_ | refine wF ?_ ?_ | refine wG ?_ ?_ | refine wH ?_ ?_ | refine wI ?_ ?_ | refine wJ ?_ ?_ | refine wK ?_ ?_ | refine wL ?_ ?_) <;> intro _) | (((with_reducible refine call_id ?_); (first | (refine call_pure (tlNodes_p 2001 ls[i] 2001 (.inr (by omega)) (by omega) (by omega)) ?_)))) | simp (maxSteps := 1000000) (disch := omega) only [go_sem, Nat.reduceAdd, Nat.reduceMul, Nat.reduceSub, Nat.reduceLeDiff, Nat.reduceEqDiff, Nat.reduceBEq, ↓reduceIte, reduceCtorEq, Int.reduceEq, Int.reduceLE, Int.reduceLT, Int.reduceAdd, Int.reduceSub, Int.reduceNeg, Int.reduceToNat, Int.reduceNe, Nat.reducePow, Nat.reduceShiftRight, Nat.reduceMod, Tm.pv, *])
        refine Nx.mk (ls.length - (i + 1)) cE1 ⟨i + 1, rfl, cE1, cE1, by simp [upd, g1], ?_⟩
        simp only [upd, if_true, Option.some.injEq, PObj.mk.injEq, and_true, List.cons.injEq, PV.sc.injEq, Value.int.injEq]
        refine ⟨trivial, ?_⟩
        rw [hst]
        omega
      · obtain rfl : i = ls.length := by omega
        rw [List.take_length] at g2 hmi
        clear hlt hi
        by_cases hgt : 2000 < wts us + 1 + minsL ls
        · repeat' (first | ((with_reducible first | refine wA (by omega) ?_ | refine wB (by omega) ?_ | refine wC (by omega) ?_ | refine wD (by omega) ?_ | refine wE ?_ ?_ | refine wF ?_ ?_ | refine wG ?_ ?_ | refine wH ?_ ?_ | refine wI ?_ ?_ | refine wJ ?_ ?_ | refine wK ?_ ?_ | refine wL ?_ ?_) <;> intro _) | simp (maxSteps := 1000000) (disch := omega) only [go_sem, Nat.reduceAdd, Nat.reduceMul, Nat.reduceSub, Nat.reduceLeDiff, Nat.reduceEqDiff, Nat.reduceBEq, ↓reduceIte, reduceCtorEq, Int.reduceEq, Int.reduceLE, Int.reduceLT, Int.reduceAdd, Int.reduceSub, Int.reduceNeg, Int.reduceToNat, Int.reduceNe, Nat.reducePow, Nat.reduceShiftRight, Nat.reduceMod, *])
          refine rq_ret fun hp => ?_
          have hle := wts_prefix hp
          have he := wts_le t.pre
          rw [own_pre] at he
          have hmin : min t.nodes 2001 = 2001 := by unfold minsL at hgt; omega
          have hq := noIt_keep (H := upd H2 (nx + 1) (some ⟨[.sc (.int .i64 2001)], true⟩)) (id := nx + 1) (upd_same _ _ _) rfl
          rw [hmin]
          generalize noIt (upd H2 (nx + 1) (some ⟨[.sc (.int .i64 2001)], true⟩)) = H3 at hq ⊢
          clear hwu hmn hgt hp hle he hmin
          simp (maxSteps := 1000000) (disch := omega) only [go_sem, Nat.reduceAdd, Nat.reduceMul, Nat.reduceSub, Nat.reduceLeDiff, Nat.reduceEqDiff, Nat.reduceBEq, ↓reduceIte, reduceCtorEq, Int.reduceEq, Int.reduceLE, Int.reduceLT, Int.reduceAdd, Int.reduceSub, Int.reduceNeg, Int.reduceToNat, Int.reduceNe, Nat.reducePow, Nat.reduceShiftRight, Nat.reduceMod, hq]
          exact fin_mut (.sc (.int .i64 2001)) (.inr rfl) (by (simp (disch := omega) only [go_sem, Nat.reduceMul, Nat.reduceSub, Nat.reduceShiftRight, Nat.reduceMod, Nat.reduceEqDiff, Nat.reduceAdd, ↓reduceIte, Nat.reduceLeDiff, hq]); all_goals rfl) ⟨2001, rfl, .inl rfl⟩
        · repeat' (first | ((with_reducible first | refine wA (by omega) ?_ | refine wB (by omega) ?_ | refine wC (by omega) ?_ | refine wD (by omega) ?_ | refine wE ?_ ?_ | refine wF ?_ ?_ | refine wG ?_ ?_ | refine wH ?_ ?_ | refine wI ?_ ?_ | refine wJ ?_ ?_ | refine wK ?_ ?_ | refine wL ?_ ?_) <;> intro _) | simp (maxSteps := 1000000) (disch := omega) only [go_sem, Nat.reduceAdd, Nat.reduceMul, Nat.reduceSub, Nat.reduceLeDiff, Nat.reduceEqDiff, Nat.reduceBEq, ↓reduceIte, reduceCtorEq, Int.reduceEq, Int.reduceLE, Int.reduceLT, Int.reduceAdd, Int.reduceSub, Int.reduceNeg, Int.reduceToNat, Int.reduceNe, Nat.reducePow, Nat.reduceShiftRight, Nat.reduceMod, *])
          refine rq_normal ⟨us ++ [.mk k n s ls args], _, rfl, noIt_keep g1 rfl, noIt_keep g2 rfl, .inl ⟨?_, ?_⟩⟩
          · rw [hwu]
            unfold minsL at hgt
            omega
          · rw [hwu]
            unfold minsL
            omega
    · have hbad : HasBad (us ++ [u]) := by
        rcases hor with h | h
        · exact bad_last (Nat.le_trans (len_wts us) h.1) (Nat.lt_of_not_le fun h2 => hgood ⟨h, h2⟩)
        · exact bad_app h
      clear hor hgood hwu
      cases u with
      | mk k n s ls args =>
      simp only [Tm.nlv] at hub
      simp only [nodePV]
      repeat' (first | ((with_reducible first | refine wA (by omega) ?_ | refine wB (by omega) ?_ | refine wC (by omega) ?_ | refine wD (by omega) ?_ | refine wE ?_ ?_ | refine wF ?_ ?_ | refine wG ?_ ?_ | refine wH ?_ ?_ | refine wI ?_ ?_ | refine wJ ?_ ?_ | refine wK ?_ ?_ | refine wL ?_ ?_) <;> intro _) | simp (maxSteps := 1000000) (disch := omega) only [go_sem, Nat.reduceAdd, Nat.reduceMul, Nat.reduceSub, Nat.reduceLeDiff, Nat.reduceEqDiff, Nat.reduceBEq, ↓reduceIte, reduceCtorEq, Int.reduceEq, Int.reduceLE, Int.reduceLT, Int.reduceAdd, Int.reduceSub, Int.reduceNeg, Int.reduceToNat, Int.reduceNe, Nat.reducePow, Nat.reduceShiftRight, Nat.reduceMod, Tm.pv, h1, h2, *])
      refine c_loopW 268402720 (by kernel_rfl) (fun j f H2 m2 => ∃ (i : Nat) (w : Int), j = ls.length - i ∧ i ≤ ls.length ∧ f 15 = .sc (.int .i64 i) ∧ H2 (nx + 1) = some ⟨[.sc (.int .i64 0)], true⟩ ∧ H2 (nx + 2) = some ⟨[.sc (.int .i64 w)], true⟩) _ ⟨0, IntKind.i64.wrap (v + 1), rfl, cE1, cE1, by simp [upd, h1], by simp [upd]⟩ ?_
      rintro _ f H2 m2 ⟨i, w, rfl, hi, e15, g1, g2⟩
      by_cases hlt : i < ls.length
      · have eg : ls[i]? = some ls[i] := List.getElem?_eq_getElem hlt
        repeat' (first | ((with_reducible first | refine wA (by omega) ?_ | refine wB (by omega) ?_ | refine wC (by omega) ?_ | refine wD (by omega) ?_ | refine wE ?_ ?_ | refine wF ?_ ?_ | refine wG ?_ ?_ | refine wH ?_ ?_ | refine wI ?_ ?_ | refine wJ ?_ ?_ | refine wK ?_ ?_ | refine wL ?_ ?_) <;> intro _) | (((with_reducible refine call_id ?_); (first | (refine call_pure (tlNodes_p 2001 ls[i] 2001 (.inr (by omega)) (by omega) (by omega)) ?_)))) | simp (maxSteps := 1000000) (disch := omega) only [go_sem, Nat.reduceAdd, Nat.reduceMul, Nat.reduceSub, Nat.reduceLeDiff, Nat.reduceEqDiff, Nat.reduceBEq, ↓reduceIte, reduceCtorEq, Int.reduceEq, Int.reduceLE, Int.reduceLT, Int.reduceAdd, Int.reduceSub, Int.reduceNeg, Int.reduceToNat, Int.reduceNe, Nat.reducePow, Nat.reduceShiftRight, Nat.reduceMod, Tm.pv, *])
        exact Nx.mk (ls.length - (i + 1)) cE1 ⟨i + 1, IntKind.i64.wrap (w + (min ls[i].nodes 2001 : Nat)), rfl, cE1, cE1, by simp [upd, g1], by simp [upd]⟩
      · obtain rfl : i = ls.length := by omega
        clear hlt hi
        by_cases hgt : 2000 < w
        · repeat' (first | ((with_reducible first | refine wA (by omega) ?_ | refine wB (by omega) ?_ | refine wC (by omega) ?_ | refine wD (by omega) ?_ | refine wE ?_ ?_ | refine wF ?_ ?_ | refine wG ?_ ?_ | refine wH ?_ ?_ | refine wI ?_ ?_ | refine wJ ?_ ?_ | refine wK ?_ ?_ | refine wL ?_ ?_) <;> intro _) | simp (maxSteps := 1000000) (disch := omega) only [go_sem, Nat.reduceAdd, Nat.reduceMul, Nat.reduceSub, Nat.reduceLeDiff, Nat.reduceEqDiff, Nat.reduceBEq, ↓reduceIte, reduceCtorEq, Int.reduceEq, Int.reduceLE, Int.reduceLT, Int.reduceAdd, Int.reduceSub, Int.reduceNeg, Int.reduceToNat, Int.reduceNe, Nat.reducePow, Nat.reduceShiftRight, Nat.reduceMod, *])
          refine rq_ret fun hp => ?_
          have hbad2 := bad_prefix hp hbad
          have hq := noIt_keep (H := upd H2 (nx + 1) (some ⟨[.sc (.int .i64 2001)], true⟩)) (id := nx + 1) (upd_same _ _ _) rfl
          generalize noIt (upd H2 (nx + 1) (some ⟨[.sc (.int .i64 2001)], true⟩)) = H3 at hq ⊢
          clear hgt hp hbad
          simp (maxSteps := 1000000) (disch := omega) only [go_sem, Nat.reduceAdd, Nat.reduceMul, Nat.reduceSub, Nat.reduceLeDiff, Nat.reduceEqDiff, Nat.reduceBEq, ↓reduceIte, reduceCtorEq, Int.reduceEq, Int.reduceLE, Int.reduceLT, Int.reduceAdd, Int.reduceSub, Int.reduceNeg, Int.reduceToNat, Int.reduceNe, Nat.reducePow, Nat.reduceShiftRight, Nat.reduceMod, hq]
          exact fin_mut (.sc (.int .i64 2001)) (.inr rfl) (by (simp (disch := omega) only [go_sem, Nat.reduceMul, Nat.reduceSub, Nat.reduceShiftRight, Nat.reduceMod, Nat.reduceEqDiff, Nat.reduceAdd, ↓reduceIte, Nat.reduceLeDiff, hq]); all_goals rfl) ⟨2001, rfl, .inr hbad2⟩
        · repeat' (first | ((with_reducible first | refine wA (by omega) ?_ | refine wB (by omega) ?_ | refine wC (by omega) ?_ | refine wD (by omega) ?_ | refine wE ?_ ?_ | refine wF ?_ ?_ | refine wG ?_ ?_ | refine wH ?_ ?_ | refine wI ?_ ?_ | refine wJ ?_ ?_ | refine wK ?_ ?_ | refine wL ?_ ?_) <;> intro _) | simp (maxSteps := 1000000) (disch := omega) only [go_sem, Nat.reduceAdd, Nat.reduceMul, Nat.reduceSub, Nat.reduceLeDiff, Nat.reduceEqDiff, Nat.reduceBEq, ↓reduceIte, reduceCtorEq, Int.reduceEq, Int.reduceLE, Int.reduceLT, Int.reduceAdd, Int.reduceSub, Int.reduceNeg, Int.reduceToNat, Int.reduceNe, Nat.reducePow, Nat.reduceShiftRight, Nat.reduceMod, *])
          exact rq_normal ⟨us ++ [.mk k n s ls args], w, rfl, noIt_keep g1 rfl, noIt_keep g2 rfl, .inr hbad⟩
  case done =>
    rintro H' m ⟨us, v, hus, h1, h2, hor⟩ hnx
    have hor2 : v = (min t.nodes 2001 : Nat) ∨ HasBad t.pre := by
      rcases hor with ⟨hw, hv⟩ | hor
      · rw [← wts_of_pv hus] at hw hv
        have he := wts_eq t.pre hw
        rw [own_pre] at he
        exact .inl (by omega)
      · exact .inr (bad_prefix (by rw [hus]; exact ⟨[], by simp⟩) hor)
    clear hor hus hbd
    repeat' (first | ((with_reducible first | refine wA (by omega) ?_ | refine wB (by omega) ?_ | refine wC (by omega) ?_ | refine wD (by omega) ?_ | refine wE ?_ ?_ | refine wF ?_ ?_ | refine wG ?_ ?_ | refine wH ?_ ?_ | refine wI ?_ ?_ | refine wJ ?_ ?_ | refine wK ?_ ?_ | refine wL ?_ ?_) <;> intro _) | simp (maxSteps := 1000000) (disch := omega) only [go_sem, Nat.reduceAdd, Nat.reduceMul, Nat.reduceSub, Nat.reduceLeDiff, Nat.reduceEqDiff, Nat.reduceBEq, ↓reduceIte, reduceCtorEq, Int.reduceEq, Int.reduceLE, Int.reduceLT, Int.reduceAdd, Int.reduceSub, Int.reduceNeg, Int.reduceToNat, Int.reduceNe, Nat.reducePow, Nat.reduceShiftRight, Nat.reduceMod, h1, h2, *])
    exact fin_mut (.sc (.int .i64 v)) (.inr rfl) (by (simp (disch := omega) only [go_sem, Nat.reduceMul, Nat.reduceSub, Nat.reduceShiftRight, Nat.reduceMod, Nat.reduceEqDiff, Nat.reduceAdd, ↓reduceIte, Nat.reduceLeDiff, h1, h2]); all_goals rfl) ⟨v, rfl, hor2⟩
theorem bad_no_formed {np k kind n : Int} {s : ByteArray} {ls : List Lv} {args : List Tm} (h : 4 < ls.length) : (Tm.mk kind n s ls args).formed np k = false ∧ (Tm.mk kind n s ls args).vis np k = 1 := by
  have h0 : ∀ a c, hasB n s ls args a 0 c = false := fun a c => by
    have : ls ≠ [] := fun e => by rw [e] at h; simp at h
    simp [hasB, this]
  have h1 : hasB n s ls args 0 1 0 = false := by
    have : ¬ ((ls.length : Int) = 1) := by omega
    simp [hasB, this]
  have h2 : constB n s ls args np = false := by
    have : ¬ ls.length ≤ 4 := by omega
    simp [constB, this]
  simp [Tm.formed, Tm.vis, h0, h1, h2]
mutual
theorem vis_pre (np : Int) : ∀ (t : Tm) (k : Int), t.vis np k ≤ t.pre.length
  | .mk kind n s ls args, k => by
    have := vis_preA np args k kind args.length 0
    simp only [Tm.vis, Tm.pre, List.length_cons]
    split <;> omega
theorem vis_preA (np : Int) : ∀ (ts : List Tm) (k kind : Int) (len i : Nat), visA np k kind len i ts ≤ (preL ts).length
  | [], _, _, _, _ => by simp [visA]
  | x :: r, k, kind, len, i => by
    have h1 := vis_pre np x (k + deepB kind len i)
    have h2 := vis_preA np r k kind len (i + 1)
    simp only [visA, preL, List.length_append]
    split <;> omega
end
mutual
theorem bad_vis (np : Int) : ∀ (t : Tm) (k : Int) (p : Nat) (u : Tm), t.pre[p]? = some u → 4 < u.nlv → t.formed np k = false ∧ t.vis np k ≤ p + 1
  | .mk kind n s ls args, k, 0, u, h, hb => by
    simp only [Tm.pre, List.getElem?_cons_zero, Option.some.injEq] at h
    subst h
    have := bad_no_formed (np := np) (k := k) (kind := kind) (n := n) (s := s) (args := args) hb
    exact ⟨this.1, by omega⟩
  | .mk kind n s ls args, k, p + 1, u, h, hb => by
    simp only [Tm.pre, List.getElem?_cons_succ] at h
    have h2 := bad_visA np args k kind args.length 0 p u h hb
    have h3 : 0 < args.length := by
      cases args with
      | nil => simp [preL] at h
      | cons => simp
    have h4 : ¬ ((args.length : Int) = 0) := by omega
    have h5 : ¬ (args.length = 0) := by omega
    constructor
    · simp [Tm.formed, hasB, constB, h4, h5, h2.1]
    · simp only [Tm.vis]
      split <;> omega
theorem bad_visA (np : Int) : ∀ (ts : List Tm) (k kind : Int) (len i p : Nat) (u : Tm), (preL ts)[p]? = some u → 4 < u.nlv → formedA np k kind len i ts = false ∧ visA np k kind len i ts ≤ p + 1
  | [], _, _, _, _, p, u, h, _ => by simp [preL] at h
  | x :: r, k, kind, len, i, p, u, h, hb => by
    simp only [preL] at h
    by_cases hp : p < x.pre.length
    · rw [List.getElem?_append_left hp] at h
      have h1 := bad_vis np x (k + deepB kind len i) p u h hb
      simp only [formedA, visA, h1.1, Bool.false_and]
      exact ⟨trivial, by simp only [Bool.false_eq_true, if_false]; omega⟩
    · rw [List.getElem?_append_right (by omega)] at h
      have h1 := bad_visA np r k kind len (i + 1) (p - x.pre.length) u h hb
      have h2 := vis_pre np x (k + deepB kind len i)
      simp only [formedA, visA, h1.1, Bool.and_false]
      refine ⟨trivial, ?_⟩
      split <;> omega
end
mutual
theorem pre_nodes : ∀ t : Tm, t.pre.length ≤ t.nodes
  | .mk k n s ls args => by
    have := pre_nodesA args
    simp only [Tm.pre, List.length_cons, Tm.nodes]
    omega
theorem pre_nodesA : ∀ ts : List Tm, (preL ts).length ≤ nodesT ts
  | [] => by simp [preL, nodesT]
  | x :: r => by
    have := pre_nodes x
    have := pre_nodesA r
    simp only [preL, List.length_append, nodesT]
    omega
end
set_option maxHeartbeats 4000000 in
theorem tRightG_p (t : Tm) (np bound : Int) : PPure Try.prog F.term_Right [.agg t.pv, .sc (.int .i64 np), .sc (.int .i64 bound)] (.sc (.bool (t.right np bound))) := by
  refine PMut.pure (Q := fun _ _ _ r => r = .sc (.bool (t.right np bound))) rfl (fun nx => ?_) fun nx H' nx' r0 h => ?_
  rotate_left
  · rw [h]
    exact ⟨0, .refl _⟩
  refine mut_by is_term_Right (by simp) fun hb => ?_
  clear hb
  by_cases hpre : 0 ≤ np ∧ np ≤ 4 ∧ 0 ≤ bound
  · obtain ⟨p1, p2, p3⟩ := hpre
    repeat' (first | ((with_reducible first | refine wA (by omega) ?_ | refine wB (by omega) ?_ | refine wC (by omega) ?_ | refine wD (by omega) ?_ | refine wE ?_ ?_ | refine wF ?_ ?_ | refine wG ?_ ?_ | refine wH ?_ ?_ | refine wI ?_ ?_ | refine wJ ?_ ?_ | refine wK ?_ ?_ | refine wL ?_ ?_) <;> intro _) | simp (maxSteps := 1000000) (disch := omega) only [go_sem, Nat.reduceAdd, Nat.reduceMul, Nat.reduceSub, Nat.reduceLeDiff, Nat.reduceEqDiff, Nat.reduceBEq, ↓reduceIte, reduceCtorEq, Int.reduceEq, Int.reduceLE, Int.reduceLT, Int.reduceAdd, Int.reduceSub, Int.reduceNeg, Int.reduceToNat, Int.reduceNe, Nat.reducePow, Nat.reduceShiftRight, Nat.reduceMod, mc_term_Right, *])
    refine call_mut (NodesG_m t _ _) ?_
    rintro H' nx' r ⟨v, rfl, hv⟩ -
    by_cases hv2 : v ≤ 2000
    · have hk : t.vis np (min bound 1125899906842624) ≤ 2001 ∧ (t.nodes ≤ 2000 ∨ t.formed np (min bound 1125899906842624) = false) := by
        rcases hv with rfl | ⟨p, u, hp, hu, hn⟩
        · have h1 := vis_pre np t (min bound 1125899906842624)
          have h2 := pre_nodes t
          exact ⟨by omega, .inl (by omega)⟩
        · have h1 := bad_vis np t (min bound 1125899906842624) p u hu (by omega)
          exact ⟨by omega, .inr h1.1⟩
      have c2 := formedV_p np 2001 t (min bound 1125899906842624) hk.1 (by omega) (by omega)
      have e : t.right np bound = t.formed np (min bound 1125899906842624) := by
        unfold Tm.right
        rcases hk.2 with h | h
        · simp [h, p1, p2, p3]
        · simp [h]
      rw [e]
      clear hk hv e
      repeat' (first | ((with_reducible first | refine wA (by omega) ?_ | refine wB (by omega) ?_ | refine wC (by omega) ?_ | refine wD (by omega) ?_ | refine wE ?_ ?_ | refine wF ?_ ?_ | refine wG ?_ ?_ | refine wH ?_ ?_ | refine wI ?_ ?_ | refine wJ ?_ ?_ | refine wK ?_ ?_ | refine wL ?_ ?_) <;> intro _) | (((with_reducible refine call_id ?_); (first | (refine call_pure (c2) ?_)))) | simp (maxSteps := 1000000) (disch := omega) only [go_sem, Nat.reduceAdd, Nat.reduceMul, Nat.reduceSub, Nat.reduceLeDiff, Nat.reduceEqDiff, Nat.reduceBEq, ↓reduceIte, reduceCtorEq, Int.reduceEq, Int.reduceLE, Int.reduceLT, Int.reduceAdd, Int.reduceSub, Int.reduceNeg, Int.reduceToNat, Int.reduceNe, Nat.reducePow, Nat.reduceShiftRight, Nat.reduceMod, *])
      all_goals exact fin_mut (.sc (.bool (t.formed np (min bound 1125899906842624)))) (.inr rfl) cE2 rfl
    · have e : t.right np bound = false := by
        rcases hv with rfl | ⟨p, u, hp, hu, hn⟩
        · have : ¬ t.nodes ≤ 2000 := by omega
          simp [Tm.right, this]
        · simp [Tm.right, (bad_vis np t (min bound 1125899906842624) p u hu (by omega)).1]
      rw [e]
      clear hv e
      repeat' (first | ((with_reducible first | refine wA (by omega) ?_ | refine wB (by omega) ?_ | refine wC (by omega) ?_ | refine wD (by omega) ?_ | refine wE ?_ ?_ | refine wF ?_ ?_ | refine wG ?_ ?_ | refine wH ?_ ?_ | refine wI ?_ ?_ | refine wJ ?_ ?_ | refine wK ?_ ?_ | refine wL ?_ ?_) <;> intro _) | simp (maxSteps := 1000000) (disch := omega) only [go_sem, Nat.reduceAdd, Nat.reduceMul, Nat.reduceSub, Nat.reduceLeDiff, Nat.reduceEqDiff, Nat.reduceBEq, ↓reduceIte, reduceCtorEq, Int.reduceEq, Int.reduceLE, Int.reduceLT, Int.reduceAdd, Int.reduceSub, Int.reduceNeg, Int.reduceToNat, Int.reduceNe, Nat.reducePow, Nat.reduceShiftRight, Nat.reduceMod, *])
      all_goals exact fin_mut (.sc (.bool false)) (.inr rfl) cE2 rfl
  · have e : t.right np bound = false := by
      unfold Tm.right
      by_cases h1 : 0 ≤ np
      · by_cases h2 : np ≤ 4
        · have : ¬ 0 ≤ bound := fun h => hpre ⟨h1, h2, h⟩
          simp [this]
        · simp [h2]
      · simp [h1]
    rw [e]
    clear e
    have h9 : np < 0 ∨ (0 ≤ np ∧ 4 < np) ∨ (0 ≤ np ∧ np ≤ 4 ∧ bound < 0) := by omega
    clear hpre
    rcases h9 with h | ⟨h, h2⟩ | ⟨h, h2, h3⟩
    all_goals
      repeat' (first | ((with_reducible first | refine wA (by omega) ?_ | refine wB (by omega) ?_ | refine wC (by omega) ?_ | refine wD (by omega) ?_ | refine wE ?_ ?_ | refine wF ?_ ?_ | refine wG ?_ ?_ | refine wH ?_ ?_ | refine wI ?_ ?_ | refine wJ ?_ ?_ | refine wK ?_ ?_ | refine wL ?_ ?_) <;> intro _) | simp (maxSteps := 1000000) (disch := omega) only [go_sem, Nat.reduceAdd, Nat.reduceMul, Nat.reduceSub, Nat.reduceLeDiff, Nat.reduceEqDiff, Nat.reduceBEq, ↓reduceIte, reduceCtorEq, Int.reduceEq, Int.reduceLE, Int.reduceLT, Int.reduceAdd, Int.reduceSub, Int.reduceNeg, Int.reduceToNat, Int.reduceNe, Nat.reducePow, Nat.reduceShiftRight, Nat.reduceMod, mc_term_Right, *])
      all_goals exact fin_mut (.sc (.bool false)) (.inr rfl) cE2 rfl
end
section
set_option maxRecDepth 20000
attribute [local go_sem] pv_len pv_take Nat.add_assoc tm_len tm_take pv_one tm_one tpvB_len tpvB_take tpvB_one pvB_len pvB_take pvB_one id_ne id_ne' id_ne2 List.append_assoc
mutual
def Tm.lift (by_ : Int) : Int → Tm → Tm
  | frm, .mk k n s ls args => .mk k (if k = 1 ∧ frm ≤ n then n + by_ else n) s ls (liftA by_ frm k args.length 0 args)
def liftA (by_ : Int) : Int → Int → Nat → Nat → List Tm → List Tm
  | _, _, _, _, [] => []
  | frm, kind, len, i, x :: r => x.lift by_ (frm + deepB kind len i) :: liftA by_ frm kind len (i + 1) r
end
end
section
set_option maxRecDepth 20000
attribute [local go_sem] pv_len pv_take Nat.add_assoc tm_len tm_take pv_one tm_one tpvB_len tpvB_take tpvB_one pvB_len pvB_take pvB_one id_ne id_ne' id_ne2 List.append_assoc
theorem frgF_sc (G : Nat → Bool) (k : Nat) (H : Nat → Option PObj) (v : Value) : frgF G k H (.sc v) = .sc v := by cases k <;> rfl
theorem frgF_imm (G : Nat → Bool) (H : Nat → Option PObj) : ∀ (k : Nat) (x : PV), x.imm = true → frgF G k H x = x := by
  intro k
  induction k with
  | zero => intro x _; rfl
  | succ k ih =>
    have hl : ∀ xs : List PV, immL xs = true → xs.map (frgF G k H) = xs := by
      intro xs
      induction xs with
      | nil => intro _; rfl
      | cons x r ihr =>
        intro h
        simp only [immL, Bool.and_eq_true] at h
        rw [List.map_cons, ih x h.1, ihr h.2]
    intro x hx
    cases x with
    | agg xs => simp only [PV.imm] at hx; simp only [frgF, hl xs hx]
    | tup xs => simp only [PV.imm] at hx; simp only [frgF, hl xs hx]
    | fn f xs => simp only [PV.imm] at hx; simp only [frgF, hl xs hx]
    | optr id off => simp [PV.imm] at hx
    | osl id off len sz => simp [PV.imm] at hx
    | _ => rfl
theorem frgF_immL (G : Nat → Bool) (H : Nat → Option PObj) (k : Nat) : ∀ xs : List PV, immL xs = true → xs.map (frgF G k H) = xs
  | [], _ => rfl
  | x :: r, h => by
    simp only [immL, Bool.and_eq_true] at h
    rw [List.map_cons, frgF_imm G H k x h.1, frgF_immL G H k r h.2]
mutual
theorem OwnT.frg {H : Nat → Option PObj} {G : Nat → Bool} : ∀ (t : Tm) (lo m : Nat) (cs : List PV), OwnT H lo m cs t → (∀ j, lo ≤ j → j < m → G j = true) → ∀ k, t.size ≤ k → WeakL (cs.map (frgF G k H)) (t.pvB true)
  | .mk kind n s ls args, lo, m, cs, h, hG, k, hk => by
    simp only [OwnT] at h
    obtain ⟨a, b, rfl, ha, hb⟩ := h
    simp only [Tm.size] at hk
    obtain ⟨k, rfl⟩ : ∃ k', k = k' + 1 := ⟨k - 1, by omega⟩
    rw [Tm.pvB]
    simp only [List.map_cons, List.map_nil]
    refine ⟨.of_eq (frgF_sc _ _ _ _), .of_eq (frgF_sc _ _ _ _), .of_eq (frgF_sc _ _ _ _), ?_, ?_, trivial⟩
    · rcases ha with ⟨rfl, rfl⟩ | rfl
      · exact .trans (.of_eq (frgF_sc _ _ _ _)) (Weak.nilF 3)
      · exact .refl _
    · rcases hb with ⟨rfl, rfl⟩ | ⟨id, cells, w, h1, h2, rfl, h4, h5⟩
      · exact .trans (.of_eq (frgF_sc _ _ _ _)) (Weak.nilF 5)
      · have hl := OwnTs.len args cells h5
        have hw := OwnTs.frg args (id + 1) m cells h5 (fun j a b => hG j (by omega) b) k (by omega)
        simp only [frgF, hG id h1 h2, if_true, h4, List.drop_zero]
        rw [if_pos (by omega), List.take_of_length_le (by omega)]
        refine Weak.fslW (by rw [chunks_length, List.length_map]) (fun e he => ?_) ?_
        · obtain ⟨t, _, rfl⟩ := List.mem_map.1 he
          exact tpvB_len true t
        · rw [chunks_flatten 5 args.length _ (by rw [List.length_map, hl])]
          exact hw
theorem OwnTs.frg {H : Nat → Option PObj} {G : Nat → Bool} : ∀ (ts : List Tm) (lo m : Nat) (cs : List PV), OwnTs H lo m cs ts → (∀ j, lo ≤ j → j < m → G j = true) → ∀ k, sizeL ts ≤ k → WeakL (cs.map (frgF G k H)) (ts.map (Tm.pvB true)).flatten
  | [], _, _, cs, h, _, _, _ => by
    simp only [OwnTs] at h
    subst h
    trivial
  | t :: r, lo, m, cs, h, hG, k, hk => by
    simp only [OwnTs] at h
    obtain ⟨c, cr, mid, rfl, g1, g2, h1, h2⟩ := h
    simp only [sizeL] at hk
    simp only [List.map_append, List.map_cons, List.flatten_cons]
    exact (OwnT.frg t lo mid c h1 (fun j a b => hG j a (by omega)) k (by omega)).append (OwnTs.frg r mid m cr h2 (fun j a b => hG j (by omega) b) k (by omega))
end
theorem OwnW.frg {H : Nat → Option PObj} {G : Nat → Bool} {lo m : Nat} (hG : ∀ j, lo ≤ j → j < m → G j = true) : ∀ (ts : List Tm) (cs : List PV), OwnW H lo m cs ts → ∀ k, sizeL ts ≤ k → WeakL (cs.map (frgF G k H)) (ts.map (Tm.pvB true)).flatten
  | [], cs, h, _, _ => by cases h; trivial
  | t :: r, cs, ⟨c, cr, e, h1, h2⟩, k, hk => by
    subst e
    simp only [sizeL] at hk
    simp only [List.map_append, List.map_cons, List.flatten_cons]
    exact (OwnT.frg t _ _ c h1 hG k (by omega)).append (OwnW.frg hG r cr h2 k (by omega))
theorem WeakL.trans : ∀ {xs ys zs : List PV}, WeakL xs ys → WeakL ys zs → WeakL xs zs
  | [], [], [], _, _ => trivial
  | _ :: _, _ :: _, _ :: _, h, k => ⟨h.1.trans k.1, WeakL.trans h.2 k.2⟩
  | [], _ :: _, _, h, _ => h.elim
  | _ :: _, [], _, h, _ => h.elim
  | [], [], _ :: _, _, k => k.elim
  | _ :: _, _ :: _, [], _, k => k.elim
theorem isIt_len {o : PObj} (h : o.cells.length ≠ 1) : o.isIt = false := by
  unfold PObj.isIt
  split
  · rename_i e; rw [e] at h; simp at h
  · rename_i e; rw [e] at h; simp at h
  · rfl
end
section
set_option maxRecDepth 20000
attribute [local go_sem] pv_len pv_take Nat.add_assoc tm_len tm_take pv_one tm_one tpvB_len tpvB_take tpvB_one pvB_len pvB_take pvB_one id_ne id_ne' id_ne2 List.append_assoc
theorem RowAt.one {H : Nat → Option PObj} {lo m sz : Nat} {a : PV} {cells : List PV} {n : Nat} (h : RowAt H lo m sz a cells n) : PV.one a = true := by
  rcases h with ⟨_, rfl⟩ | ⟨_, _, _, rfl, _⟩ <;> rfl
end
section
set_option maxRecDepth 20000
attribute [local go_sem] pv_len pv_take Nat.add_assoc tm_len tm_take pv_one tm_one id_ne id_ne' id_ne2 List.append_assoc
def zeroT : List PV := [.sc (.int .i64 0), .sc (.int .i64 0), .sc (.string ⟨#[]⟩), .sc (.slice none 0 0), .sc (.slice none 0 0)]
end
section
set_option maxRecDepth 20000
attribute [local go_sem] pv_len pv_take Nat.add_assoc tm_len tm_take pv_one tm_one id_ne id_ne' id_ne2 List.append_assoc
def insts (bys : List Lv) : List Lv → Option (List Lv)
  | [] => some []
  | x :: r => match x.instV bys, insts bys r with
    | some y, some ys => some (y :: ys)
    | _, _ => none
mutual
def Tm.putL (bys : List Lv) : Tm → Option Tm
  | .mk k n s ls args => match insts bys ls, putLs bys args with
    | some ls', some args' => some (.mk k n s ls' args')
    | _, _ => none
def putLs (bys : List Lv) : List Tm → Option (List Tm)
  | [] => some []
  | x :: r => match x.putL bys, putLs bys r with
    | some y, some ys => some (y :: ys)
    | _, _ => none
end
theorem insts_snoc (bys : List Lv) (x : Lv) : ∀ xs ys, insts bys xs = some ys → insts bys (xs ++ [x]) = (x.instV bys).map fun y => ys ++ [y]
  | [], ys, h => by
    simp only [insts, Option.some.injEq] at h
    subst h
    simp only [List.nil_append, insts]
    cases x.instV bys <;> rfl
  | a :: r, ys, h => by
    simp only [insts] at h
    cases ha : a.instV bys with
    | none => rw [ha] at h; simp at h
    | some y =>
      cases hr : insts bys r with
      | none => rw [ha, hr] at h; simp at h
      | some zs =>
        rw [ha, hr] at h
        simp only [Option.some.injEq] at h
        subst h
        simp only [List.cons_append, insts, ha, insts_snoc bys x r zs hr]
        cases x.instV bys <;> rfl
theorem insts_none (bys : List Lv) : ∀ (xs : List Lv) (i : Nat) (h : i < xs.length), xs[i].instV bys = none → insts bys xs = none
  | x :: r, 0, h, e => by
    have e' : x.instV bys = none := e
    simp only [insts, e']
  | x :: r, i + 1, h, e => by
    have := insts_none bys r i (by simpa using h) (by simpa using e)
    simp only [insts, this]
    cases x.instV bys <;> rfl
theorem putLs_snoc (bys : List Lv) (x : Tm) : ∀ xs ys, putLs bys xs = some ys → putLs bys (xs ++ [x]) = (x.putL bys).map fun y => ys ++ [y]
  | [], ys, h => by
    simp only [putLs, Option.some.injEq] at h
    subst h
    simp only [List.nil_append, putLs]
    cases x.putL bys <;> rfl
  | a :: r, ys, h => by
    simp only [putLs] at h
    cases ha : a.putL bys with
    | none => rw [ha] at h; simp at h
    | some y =>
      cases hr : putLs bys r with
      | none => rw [ha, hr] at h; simp at h
      | some zs =>
        rw [ha, hr] at h
        simp only [Option.some.injEq] at h
        subst h
        simp only [List.cons_append, putLs, ha, putLs_snoc bys x r zs hr]
        cases x.putL bys <;> rfl
theorem putLs_none (bys : List Lv) : ∀ (xs : List Tm) (i : Nat) (h : i < xs.length), xs[i].putL bys = none → putLs bys xs = none
  | x :: r, 0, h, e => by
    have e' : x.putL bys = none := e
    simp only [putLs, e']
  | x :: r, i + 1, h, e => by
    have := putLs_none bys r i (by simpa using h) (by simpa using e)
    simp only [putLs, this]
    cases x.putL bys <;> rfl
def optT : Option Tm → PV
  | some t => .tup [.agg t.pv, .sc (.bool true)]
  | none => .tup [.agg zeroT, .sc (.bool false)]
theorem optT_imm (o : Option Tm) : (optT o).imm = true := by cases o <;> simp [optT, PV.imm, immL, tm_imm, zeroT]
def levelsR (t : Tm) (bys : List Lv) : Option Tm :=
  if t.right bys.length 1125899906842624 = true then (match t.putL bys with
    | some u => if u.nodes ≤ 2000 then some u else none
    | none => none) else none
end
section
set_option maxRecDepth 20000
attribute [local go_sem] pv_len pv_take id_ne id_ne' id_ne2 List.append_assoc
def txt (s : ByteArray) : List PV := [.sc (.string s)]
theorem txt_len (s : ByteArray) : (txt s).length = 1 := rfl
theorem txt_inj {a b : ByteArray} (h : a.toList = b.toList) : a = b := by
  rw [ByteArray.toList_eq, ByteArray.toList_eq] at h
  cases a; cases b
  simp only [ByteArray.mk.injEq]
  exact Array.toList_inj.1 h
theorem SameTexts_p (xs ys : List ByteArray) : PPure Try.prog F.ref00_SameTexts [.sl 1 (xs.map txt), .sl 1 (ys.map txt)] (.sc (.bool (decide (xs = ys)))) := by
  refine pure_by is_ref00_SameTexts (by simp) rfl fun hb nx => ?_
  have hb0 : xs.length ≤ 9223372036854775807 ∧ ys.length ≤ 9223372036854775807 := by simp [bndL, PV.bnd] at hb; exact ⟨hb.1.1, hb.2.1⟩
  by_cases hl : xs.length = ys.length
  · repeat' (first | ((with_reducible first | refine wA (by omega) ?_ | refine wB (by omega) ?_ | refine wC (by omega) ?_ | refine wD (by omega) ?_ | refine wE ?_ ?_ | refine wF ?_ ?_ | refine wG ?_ ?_ | refine wH ?_ ?_ | refine wI ?_ ?_ | refine wJ ?_ ?_ | refine wK ?_ ?_ | refine wL ?_ ?_) <;> intro _) | simp (maxSteps := 1000000) (disch := omega) only [go_sem, Nat.reduceAdd, Nat.reduceMul, Nat.reduceSub, Nat.reduceLeDiff, Nat.reduceEqDiff, Nat.reduceBEq, ↓reduceIte, reduceCtorEq, Int.reduceEq, Int.reduceLE, Int.reduceLT, Int.reduceAdd, Int.reduceSub, Int.reduceNeg, Int.reduceToNat, Int.reduceNe, Nat.reducePow, Nat.reduceShiftRight, Nat.reduceMod, mc_ref00_SameTexts, *])
    refine c_loopW 67106864 (by kernel_rfl) (fun j f H m => ∃ i : Nat, j = xs.length - i ∧ i ≤ xs.length ∧ f 5 = .sc (.int .i64 i) ∧ Kept (xs.take i = ys.take i)) _ ⟨0, rfl, cE1, cE1, Kept.mk rfl⟩ ?_
    rintro _ f H m ⟨i, rfl, hi, e5, hs⟩
    by_cases hlt : i < xs.length
    · have eg : xs[i]? = some xs[i] := List.getElem?_eq_getElem hlt
      have hlt2 : i < ys.length := by omega
      have eg2 : ys[i]? = some ys[i] := List.getElem?_eq_getElem hlt2
      by_cases he : xs[i] = ys[i]
      · have hb : strBin .neq xs[i] ys[i] = some (.bool false) := by simp [strBin, he]
        have hs2 : Kept (xs.take (i + 1) = ys.take (i + 1)) := Kept.mk (by rw [List.take_succ_eq_append_getElem hlt, List.take_succ_eq_append_getElem hlt2, hs.out, he])
        clear he
        repeat' (first | ((with_reducible first | refine wA (by omega) ?_ | refine wB (by omega) ?_ | refine wC (by omega) ?_ | refine wD (by omega) ?_ | refine wE ?_ ?_ | refine wF ?_ ?_ | refine wG ?_ ?_ | refine wH ?_ ?_ | refine wI ?_ ?_ | refine wJ ?_ ?_ | refine wK ?_ ?_ | refine wL ?_ ?_) <;> intro _) | simp (maxSteps := 1000000) (disch := omega) only [go_sem, Nat.reduceAdd, Nat.reduceMul, Nat.reduceSub, Nat.reduceLeDiff, Nat.reduceEqDiff, Nat.reduceBEq, ↓reduceIte, reduceCtorEq, Int.reduceEq, Int.reduceLE, Int.reduceLT, Int.reduceAdd, Int.reduceSub, Int.reduceNeg, Int.reduceToNat, Int.reduceNe, Nat.reducePow, Nat.reduceShiftRight, Nat.reduceMod, txt, hb, *])
        exact Nx.mk (xs.length - (i + 1)) cE1 ⟨i + 1, cE1, cE1, cE1, hs2⟩
      · have hb : strBin .neq xs[i] ys[i] = some (.bool true) := by
          have : ¬ xs[i].toList = ys[i].toList := fun h => he (txt_inj h)
          simp [strBin, this]
        have hr : decide (xs = ys) = false := decide_eq_false fun h => he (by subst h; rfl)
        clear he
        rw [hr]
        repeat' (first | ((with_reducible first | refine wA (by omega) ?_ | refine wB (by omega) ?_ | refine wC (by omega) ?_ | refine wD (by omega) ?_ | refine wE ?_ ?_ | refine wF ?_ ?_ | refine wG ?_ ?_ | refine wH ?_ ?_ | refine wI ?_ ?_ | refine wJ ?_ ?_ | refine wK ?_ ?_ | refine wL ?_ ?_) <;> intro _) | simp (maxSteps := 1000000) (disch := omega) only [go_sem, Nat.reduceAdd, Nat.reduceMul, Nat.reduceSub, Nat.reduceLeDiff, Nat.reduceEqDiff, Nat.reduceBEq, ↓reduceIte, reduceCtorEq, Int.reduceEq, Int.reduceLE, Int.reduceLT, Int.reduceAdd, Int.reduceSub, Int.reduceNeg, Int.reduceToNat, Int.reduceNe, Nat.reducePow, Nat.reduceShiftRight, Nat.reduceMod, txt, hb, *])
        all_goals (refine fin_tmp (.inr rfl) ?_; simp [upd])
    · obtain rfl : i = xs.length := by omega
      have hr : xs = ys := by
        have := hs.out
        rw [List.take_length, hl, List.take_length] at this
        exact this
      rw [decide_eq_true hr]
      clear hr
      repeat' (first | ((with_reducible first | refine wA (by omega) ?_ | refine wB (by omega) ?_ | refine wC (by omega) ?_ | refine wD (by omega) ?_ | refine wE ?_ ?_ | refine wF ?_ ?_ | refine wG ?_ ?_ | refine wH ?_ ?_ | refine wI ?_ ?_ | refine wJ ?_ ?_ | refine wK ?_ ?_ | refine wL ?_ ?_) <;> intro _) | simp (maxSteps := 1000000) (disch := omega) only [go_sem, Nat.reduceAdd, Nat.reduceMul, Nat.reduceSub, Nat.reduceLeDiff, Nat.reduceEqDiff, Nat.reduceBEq, ↓reduceIte, reduceCtorEq, Int.reduceEq, Int.reduceLE, Int.reduceLT, Int.reduceAdd, Int.reduceSub, Int.reduceNeg, Int.reduceToNat, Int.reduceNe, Nat.reducePow, Nat.reduceShiftRight, Nat.reduceMod, txt, *])
      all_goals (refine fin_tmp (.inr rfl) ?_; simp [upd])
  · have hr : decide (xs = ys) = false := decide_eq_false fun h => hl (by rw [h])
    rw [hr]
    clear hr
    repeat' (first | ((with_reducible first | refine wA (by omega) ?_ | refine wB (by omega) ?_ | refine wC (by omega) ?_ | refine wD (by omega) ?_ | refine wE ?_ ?_ | refine wF ?_ ?_ | refine wG ?_ ?_ | refine wH ?_ ?_ | refine wI ?_ ?_ | refine wJ ?_ ?_ | refine wK ?_ ?_ | refine wL ?_ ?_) <;> intro _) | simp (maxSteps := 1000000) (disch := omega) only [go_sem, Nat.reduceAdd, Nat.reduceMul, Nat.reduceSub, Nat.reduceLeDiff, Nat.reduceEqDiff, Nat.reduceBEq, ↓reduceIte, reduceCtorEq, Int.reduceEq, Int.reduceLE, Int.reduceLT, Int.reduceAdd, Int.reduceSub, Int.reduceNeg, Int.reduceToNat, Int.reduceNe, Nat.reducePow, Nat.reduceShiftRight, Nat.reduceMod, mc_ref00_SameTexts, *])
    all_goals (refine fin_tmp (.inr rfl) ?_; simp [upd])
end
section
set_option maxRecDepth 20000
attribute [local go_sem] pv_len pv_take Nat.add_assoc tm_len tm_take pv_one tm_one id_ne id_ne' id_ne2 List.append_assoc tm_take_app tm_drop_app
structure Ent where
  kind : Int
  params : Int
  name : ByteArray
  typ : Tm
  val : Tm
  height : Int
  family : ByteArray
  fixed : Int
  index : Int
  fields : Int
  ctors : List ByteArray
def Ent.pv (e : Ent) : List PV := .sc (.int .i64 e.kind) :: .sc (.int .i64 e.params) :: .sc (.string e.name) :: (e.typ.pv ++ (e.val.pv ++ [.sc (.int .i64 e.height), .sc (.string e.family), .sc (.int .i64 e.fixed), .sc (.int .i64 e.index), .sc (.int .i64 e.fields), .sl 1 (e.ctors.map txt)]))
theorem ent_len (e : Ent) : e.pv.length = 19 := by simp [Ent.pv, tm_len]
attribute [local go_sem] ent_len
theorem ent_take (e : Ent) : e.pv.take 19 = e.pv := List.take_of_length_le (by rw [ent_len]; omega)
attribute [local go_sem] ent_take
theorem ent_one (e : Ent) : e.pv.all PV.one = true := by simp [Ent.pv, tm_one, PV.one]
attribute [local go_sem] ent_one
theorem tm_d6 (t : Tm) (r : List PV) : (t.pv ++ r).drop 6 = r.drop 1 := by rw [show 6 = 5 + 1 by rfl, ← List.drop_drop, List.drop_left' (tm_len t)]
attribute [local go_sem] tm_d6
theorem tm_d7 (t : Tm) (r : List PV) : (t.pv ++ r).drop 7 = r.drop 2 := by rw [show 7 = 5 + 2 by rfl, ← List.drop_drop, List.drop_left' (tm_len t)]
attribute [local go_sem] tm_d7
theorem tm_d8 (t : Tm) (r : List PV) : (t.pv ++ r).drop 8 = r.drop 3 := by rw [show 8 = 5 + 3 by rfl, ← List.drop_drop, List.drop_left' (tm_len t)]
attribute [local go_sem] tm_d8
theorem tm_d9 (t : Tm) (r : List PV) : (t.pv ++ r).drop 9 = r.drop 4 := by rw [show 9 = 5 + 4 by rfl, ← List.drop_drop, List.drop_left' (tm_len t)]
attribute [local go_sem] tm_d9
theorem tm_d10 (t : Tm) (r : List PV) : (t.pv ++ r).drop 10 = r.drop 5 := by rw [show 10 = 5 + 5 by rfl, ← List.drop_drop, List.drop_left' (tm_len t)]
attribute [local go_sem] tm_d10
theorem tm_d11 (t : Tm) (r : List PV) : (t.pv ++ r).drop 11 = r.drop 6 := by rw [show 11 = 5 + 6 by rfl, ← List.drop_drop, List.drop_left' (tm_len t)]
theorem tm_d12 (t : Tm) (r : List PV) : (t.pv ++ r).drop 12 = r.drop 7 := by rw [show 12 = 5 + 7 by rfl, ← List.drop_drop, List.drop_left' (tm_len t)]
theorem tm_d13 (t : Tm) (r : List PV) : (t.pv ++ r).drop 13 = r.drop 8 := by rw [show 13 = 5 + 8 by rfl, ← List.drop_drop, List.drop_left' (tm_len t)]
theorem tm_d14 (t : Tm) (r : List PV) : (t.pv ++ r).drop 14 = r.drop 9 := by rw [show 14 = 5 + 9 by rfl, ← List.drop_drop, List.drop_left' (tm_len t)]
theorem tm_d15 (t : Tm) (r : List PV) : (t.pv ++ r).drop 15 = r.drop 10 := by rw [show 15 = 5 + 10 by rfl, ← List.drop_drop, List.drop_left' (tm_len t)]
mutual
theorem dlv_false : ∀ l : Lv, l.pvB false = l.pv
  | .mk k n args => by simp only [Lv.pvB, Lv.pv, slB, dlvs_false args]; rfl
theorem dlvs_false : ∀ ls : List Lv, ls.map (Lv.pvB false) = ls.map Lv.pv
  | [] => rfl
  | x :: r => by rw [List.map_cons, List.map_cons, dlv_false x, dlvs_false r]
end
mutual
theorem dtv_false : ∀ t : Tm, t.pvB false = t.pv
  | .mk k n s ls args => by simp only [Tm.pvB, Tm.pv, slB, dlvs_false ls, dtvs_false args]; rfl
theorem dtvs_false : ∀ ts : List Tm, ts.map (Tm.pvB false) = ts.map Tm.pv
  | [] => rfl
  | x :: r => by rw [List.map_cons, List.map_cons, dtv_false x, dtvs_false r]
end
def noTm : Tm := .mk 0 0 emp [] []
def noughtB (t : Tm) : Bool := t.same noTm
def valueB (e : Ent) : Bool := if e.kind = 2 ∨ e.kind = 3 ∨ e.kind = 4 then e.val.right e.params 0 else if e.kind = 6 then noughtB e.val || e.val.right (min (e.params + 1) 4) 0 else noughtB e.val
def heightB (e : Ent) : Bool := if e.kind = 2 then decide (1 ≤ e.height) && decide (e.height ≤ 1048576) else decide (e.height = 0)
theorem nought_p (t : Tm) : PPure Try.prog F.decl_nought [.agg t.pv] (.sc (.bool (noughtB t))) := by
  refine pure_by is_decl_nought (by simp) rfl fun hb nx => ?_
  clear hb
  have c1 : PPure Try.prog F.term_Same [.agg t.pv, .agg [.sc (.int .i64 0), .sc (.int .i64 0), .sc (.string ⟨#[]⟩), .sc (.slice none 0 0), .sc (.slice none 0 0)]] (.sc (.bool (noughtB t))) := by
    have h := tSame_p t noTm false true rfl
    refine h.weak ⟨.of_eq (by rw [dtv_false]), ?_, trivial⟩ (.refl _)
    simp only [noTm, Tm.pvB, List.map_nil]
    exact Weak.agg ⟨.refl _, .refl _, .refl _, .nilB true 3, .nilB true 5, trivial⟩
  repeat' (first | ((with_reducible first | refine wA (by omega) ?_ | refine wB (by omega) ?_ | refine wC (by omega) ?_ | refine wD (by omega) ?_ | refine wE ?_ ?_ | refine wF ?_ ?_ | refine wG ?_ ?_ | refine wH ?_ ?_ | refine wI ?_ ?_ | refine wJ ?_ ?_ | refine wK ?_ ?_ | refine wL ?_ ?_) <;> intro _) | (((with_reducible refine call_id ?_); (first | (refine call_pure (c1) ?_)))) | simp (maxSteps := 1000000) (disch := omega) only [go_sem, Nat.reduceAdd, Nat.reduceMul, Nat.reduceSub, Nat.reduceLeDiff, Nat.reduceEqDiff, Nat.reduceBEq, ↓reduceIte, reduceCtorEq, Int.reduceEq, Int.reduceLE, Int.reduceLT, Int.reduceAdd, Int.reduceSub, Int.reduceNeg, Int.reduceToNat, Int.reduceNe, Nat.reducePow, Nat.reduceShiftRight, Nat.reduceMod, mc_decl_nought, *])
  all_goals (exact fin_tmp (.inr rfl) cE3)
theorem height_p (e : Ent) : PPure Try.prog F.decl_height [.ptr e.pv] (.sc (.bool (heightB e))) := by
  obtain ⟨kind, params, name, typ, val, height, family, fixed, index, fields, ctors⟩ := e
  refine pure_by is_decl_height (by simp) rfl fun hb nx => ?_
  clear hb
  simp only [heightB]
  repeat' (first | ((with_reducible first | refine wA (by omega) ?_ | refine wB (by omega) ?_ | refine wC (by omega) ?_ | refine wD (by omega) ?_ | refine wE ?_ ?_ | refine wF ?_ ?_ | refine wG ?_ ?_ | refine wH ?_ ?_ | refine wI ?_ ?_ | refine wJ ?_ ?_ | refine wK ?_ ?_ | refine wL ?_ ?_) <;> intro _) | simp (maxSteps := 1000000) (disch := omega) only [go_sem, Nat.reduceAdd, Nat.reduceMul, Nat.reduceSub, Nat.reduceLeDiff, Nat.reduceEqDiff, Nat.reduceBEq, ↓reduceIte, reduceCtorEq, Int.reduceEq, Int.reduceLE, Int.reduceLT, Int.reduceAdd, Int.reduceSub, Int.reduceNeg, Int.reduceToNat, Int.reduceNe, Nat.reducePow, Nat.reduceShiftRight, Nat.reduceMod, mc_decl_height, Ent.pv, tm_d11, tm_d12, tm_d13, tm_d14, tm_d15, *])
  all_goals (refine fin_tmp (.inr rfl) ?_; simp [upd, *] <;> omega)
end
section
set_option maxRecDepth 20000
attribute [local go_sem] pv_len pv_take Nat.add_assoc tm_len tm_take pv_one tm_one id_ne id_ne' id_ne2 List.append_assoc tm_take_app tm_drop_app tm_d6 tm_d7 tm_d8 tm_d9 tm_d10 tm_d11 tm_d12 tm_d13 tm_d14 tm_d15 ent_len ent_take ent_one
theorem value_p (e : Ent) (hp : 0 ≤ e.params ∧ e.params ≤ 4) : PPure Try.prog F.decl_value [.ptr e.pv] (.sc (.bool (valueB e))) := by
  obtain ⟨kind, params, name, typ, val, height, family, fixed, index, fields, ctors⟩ := e
  refine pure_by is_decl_value (by simp) rfl fun hb nx => ?_
  clear hb
  simp only [valueB]
  simp only at hp
  have c1 := tRightG_p val params 0
  have c2 := nought_p val
  have c3 := tRightG_p val (min (params + 1) 4) 0
  by_cases k234 : kind = 2 ∨ kind = 3 ∨ kind = 4
  · rw [if_pos k234]
    rcases k234 with rfl | rfl | rfl
    all_goals
      repeat' (first | ((with_reducible first | refine wA (by omega) ?_ | refine wB (by omega) ?_ | refine wC (by omega) ?_ | refine wD (by omega) ?_ | refine wE ?_ ?_ | refine wF ?_ ?_ | refine wG ?_ ?_ | refine wH ?_ ?_ | refine wI ?_ ?_ | refine wJ ?_ ?_ | refine wK ?_ ?_ | refine wL ?_ ?_) <;> intro _) | (((with_reducible refine call_id ?_); (first | (refine call_pure (c1) ?_)))) | simp (maxSteps := 1000000) (disch := omega) only [go_sem, Nat.reduceAdd, Nat.reduceMul, Nat.reduceSub, Nat.reduceLeDiff, Nat.reduceEqDiff, Nat.reduceBEq, ↓reduceIte, reduceCtorEq, Int.reduceEq, Int.reduceLE, Int.reduceLT, Int.reduceAdd, Int.reduceSub, Int.reduceNeg, Int.reduceToNat, Int.reduceNe, Nat.reducePow, Nat.reduceShiftRight, Nat.reduceMod, mc_decl_value, Ent.pv, *])
      all_goals (exact fin_tmp (.inr rfl) cE3)
  · rw [if_neg k234]
    have k2 : kind ≠ 2 := fun h => k234 (.inl h)
    have k3 : kind ≠ 3 := fun h => k234 (.inr (.inl h))
    have k4 : kind ≠ 4 := fun h => k234 (.inr (.inr h))
    clear k234
    by_cases k6 : kind = 6
    · subst k6
      rw [if_pos rfl]
      cases hn : noughtB val with
      | true =>
        rw [hn] at c2
        clear hn
        repeat' (first | ((with_reducible first | refine wA (by omega) ?_ | refine wB (by omega) ?_ | refine wC (by omega) ?_ | refine wD (by omega) ?_ | refine wE ?_ ?_ | refine wF ?_ ?_ | refine wG ?_ ?_ | refine wH ?_ ?_ | refine wI ?_ ?_ | refine wJ ?_ ?_ | refine wK ?_ ?_ | refine wL ?_ ?_) <;> intro _) | (((with_reducible refine call_id ?_); (first | (refine call_pure (c2) ?_)))) | simp (maxSteps := 1000000) (disch := omega) only [go_sem, Nat.reduceAdd, Nat.reduceMul, Nat.reduceSub, Nat.reduceLeDiff, Nat.reduceEqDiff, Nat.reduceBEq, ↓reduceIte, reduceCtorEq, Int.reduceEq, Int.reduceLE, Int.reduceLT, Int.reduceAdd, Int.reduceSub, Int.reduceNeg, Int.reduceToNat, Int.reduceNe, Nat.reducePow, Nat.reduceShiftRight, Nat.reduceMod, mc_decl_value, Ent.pv, *])
        all_goals (exact fin_tmp (.inr rfl) cE3)
      | false =>
        rw [hn] at c2
        clear hn
        repeat' (first | ((with_reducible first | refine wA (by omega) ?_ | refine wB (by omega) ?_ | refine wC (by omega) ?_ | refine wD (by omega) ?_ | refine wE ?_ ?_ | refine wF ?_ ?_ | refine wG ?_ ?_ | refine wH ?_ ?_ | refine wI ?_ ?_ | refine wJ ?_ ?_ | refine wK ?_ ?_ | refine wL ?_ ?_) <;> intro _) | (((with_reducible refine call_id ?_); (first | (refine call_pure (c2) ?_) | (refine call_pure (c3) ?_)))) | simp (maxSteps := 1000000) (disch := omega) only [go_sem, Nat.reduceAdd, Nat.reduceMul, Nat.reduceSub, Nat.reduceLeDiff, Nat.reduceEqDiff, Nat.reduceBEq, ↓reduceIte, reduceCtorEq, Int.reduceEq, Int.reduceLE, Int.reduceLT, Int.reduceAdd, Int.reduceSub, Int.reduceNeg, Int.reduceToNat, Int.reduceNe, Nat.reducePow, Nat.reduceShiftRight, Nat.reduceMod, mc_decl_value, Ent.pv, *])
        all_goals (exact fin_tmp (.inr rfl) cE3)
    · rw [if_neg k6]
      repeat' (first | ((with_reducible first | refine wA (by omega) ?_ | refine wB (by omega) ?_ | refine wC (by omega) ?_ | refine wD (by omega) ?_ | refine wE ?_ ?_ | refine wF ?_ ?_ | refine wG ?_ ?_ | refine wH ?_ ?_ | refine wI ?_ ?_ | refine wJ ?_ ?_ | refine wK ?_ ?_ | refine wL ?_ ?_) <;> intro _) | (((with_reducible refine call_id ?_); (first | (refine call_pure (c2) ?_)))) | simp (maxSteps := 1000000) (disch := omega) only [go_sem, Nat.reduceAdd, Nat.reduceMul, Nat.reduceSub, Nat.reduceLeDiff, Nat.reduceEqDiff, Nat.reduceBEq, ↓reduceIte, reduceCtorEq, Int.reduceEq, Int.reduceLE, Int.reduceLT, Int.reduceAdd, Int.reduceSub, Int.reduceNeg, Int.reduceToNat, Int.reduceNe, Nat.reducePow, Nat.reduceShiftRight, Nat.reduceMod, mc_decl_value, Ent.pv, *])
      all_goals (exact fin_tmp (.inr rfl) cE3)
def spanB (n most : Int) : Bool := decide (0 ≤ n) && decide (n ≤ most)
def most1 (kind : Int) : Int := if kind = 6 ∨ kind = 7 then 32 else if kind = 5 then 16 else 0
def most2 (kind : Int) : Int := if kind = 6 ∨ kind = 7 then 32 else 0
def familyB (e : Ent) : Bool := (spanB e.fixed (most1 e.kind) && (spanB e.index (most2 e.kind) && spanB e.fields (most2 e.kind))) && (if e.kind = 6 ∨ e.kind = 7 then nameB e.family else noS e.family)
set_option maxHeartbeats 4000000 in
theorem family_p (e : Ent) : PPure Try.prog F.decl_family [.ptr e.pv] (.sc (.bool (familyB e))) := by
  obtain ⟨kind, params, name, typ, val, height, family, fixed, index, fields, ctors⟩ := e
  refine pure_by is_decl_family (by simp) rfl fun hb nx => ?_
  clear hb
  simp only [familyB]
  have c1 := name_Right_p family
  by_cases k6 : kind = 6
  · subst k6
    repeat' (first | ((with_reducible first | refine wA (by omega) ?_ | refine wB (by omega) ?_ | refine wC (by omega) ?_ | refine wD (by omega) ?_ | refine wE ?_ ?_ | refine wF ?_ ?_ | refine wG ?_ ?_ | refine wH ?_ ?_ | refine wI ?_ ?_ | refine wJ ?_ ?_ | refine wK ?_ ?_ | refine wL ?_ ?_) <;> intro _) | simp (maxSteps := 1000000) (disch := omega) only [go_sem, Nat.reduceAdd, Nat.reduceMul, Nat.reduceSub, Nat.reduceLeDiff, Nat.reduceEqDiff, Nat.reduceBEq, ↓reduceIte, reduceCtorEq, Int.reduceEq, Int.reduceLE, Int.reduceLT, Int.reduceAdd, Int.reduceSub, Int.reduceNeg, Int.reduceToNat, Int.reduceNe, Nat.reducePow, Nat.reduceShiftRight, Nat.reduceMod, mc_decl_family, Ent.pv, *])
    refine c_rounds 4 ?_
    repeat' (first | ((with_reducible first | refine wA (by omega) ?_ | refine wB (by omega) ?_ | refine wC (by omega) ?_ | refine wD (by omega) ?_ | refine wE ?_ ?_ | refine wF ?_ ?_ | refine wG ?_ ?_ | refine wH ?_ ?_ | refine wI ?_ ?_ | refine wJ ?_ ?_ | refine wK ?_ ?_ | refine wL ?_ ?_) <;> intro _) | (((with_reducible refine call_id ?_); (first | (refine call_pure (c1) ?_)))) | simp (maxSteps := 1000000) (disch := omega) only [go_sem, Nat.reduceAdd, Nat.reduceMul, Nat.reduceSub, Nat.reduceLeDiff, Nat.reduceEqDiff, Nat.reduceBEq, ↓reduceIte, reduceCtorEq, Int.reduceEq, Int.reduceLE, Int.reduceLT, Int.reduceAdd, Int.reduceSub, Int.reduceNeg, Int.reduceToNat, Int.reduceNe, Nat.reducePow, Nat.reduceShiftRight, Nat.reduceMod, rounds_next, *])
    all_goals (refine fin_tmp (.inr rfl) ?_; simp [upd, spanB, most1, most2, *] <;> omega)
  by_cases k7 : kind = 7
  · subst k7
    repeat' (first | ((with_reducible first | refine wA (by omega) ?_ | refine wB (by omega) ?_ | refine wC (by omega) ?_ | refine wD (by omega) ?_ | refine wE ?_ ?_ | refine wF ?_ ?_ | refine wG ?_ ?_ | refine wH ?_ ?_ | refine wI ?_ ?_ | refine wJ ?_ ?_ | refine wK ?_ ?_ | refine wL ?_ ?_) <;> intro _) | simp (maxSteps := 1000000) (disch := omega) only [go_sem, Nat.reduceAdd, Nat.reduceMul, Nat.reduceSub, Nat.reduceLeDiff, Nat.reduceEqDiff, Nat.reduceBEq, ↓reduceIte, reduceCtorEq, Int.reduceEq, Int.reduceLE, Int.reduceLT, Int.reduceAdd, Int.reduceSub, Int.reduceNeg, Int.reduceToNat, Int.reduceNe, Nat.reducePow, Nat.reduceShiftRight, Nat.reduceMod, mc_decl_family, Ent.pv, *])
    refine c_rounds 4 ?_
    repeat' (first | ((with_reducible first | refine wA (by omega) ?_ | refine wB (by omega) ?_ | refine wC (by omega) ?_ | refine wD (by omega) ?_ | refine wE ?_ ?_ | refine wF ?_ ?_ | refine wG ?_ ?_ | refine wH ?_ ?_ | refine wI ?_ ?_ | refine wJ ?_ ?_ | refine wK ?_ ?_ | refine wL ?_ ?_) <;> intro _) | (((with_reducible refine call_id ?_); (first | (refine call_pure (c1) ?_)))) | simp (maxSteps := 1000000) (disch := omega) only [go_sem, Nat.reduceAdd, Nat.reduceMul, Nat.reduceSub, Nat.reduceLeDiff, Nat.reduceEqDiff, Nat.reduceBEq, ↓reduceIte, reduceCtorEq, Int.reduceEq, Int.reduceLE, Int.reduceLT, Int.reduceAdd, Int.reduceSub, Int.reduceNeg, Int.reduceToNat, Int.reduceNe, Nat.reducePow, Nat.reduceShiftRight, Nat.reduceMod, rounds_next, *])
    all_goals (refine fin_tmp (.inr rfl) ?_; simp [upd, spanB, most1, most2, *] <;> omega)
  by_cases k5 : kind = 5
  · subst k5
    repeat' (first | ((with_reducible first | refine wA (by omega) ?_ | refine wB (by omega) ?_ | refine wC (by omega) ?_ | refine wD (by omega) ?_ | refine wE ?_ ?_ | refine wF ?_ ?_ | refine wG ?_ ?_ | refine wH ?_ ?_ | refine wI ?_ ?_ | refine wJ ?_ ?_ | refine wK ?_ ?_ | refine wL ?_ ?_) <;> intro _) | simp (maxSteps := 1000000) (disch := omega) only [go_sem, Nat.reduceAdd, Nat.reduceMul, Nat.reduceSub, Nat.reduceLeDiff, Nat.reduceEqDiff, Nat.reduceBEq, ↓reduceIte, reduceCtorEq, Int.reduceEq, Int.reduceLE, Int.reduceLT, Int.reduceAdd, Int.reduceSub, Int.reduceNeg, Int.reduceToNat, Int.reduceNe, Nat.reducePow, Nat.reduceShiftRight, Nat.reduceMod, mc_decl_family, Ent.pv, strBin, fold_noS, *])
    refine c_rounds 4 ?_
    repeat' (first | ((with_reducible first | refine wA (by omega) ?_ | refine wB (by omega) ?_ | refine wC (by omega) ?_ | refine wD (by omega) ?_ | refine wE ?_ ?_ | refine wF ?_ ?_ | refine wG ?_ ?_ | refine wH ?_ ?_ | refine wI ?_ ?_ | refine wJ ?_ ?_ | refine wK ?_ ?_ | refine wL ?_ ?_) <;> intro _) | simp (maxSteps := 1000000) (disch := omega) only [go_sem, Nat.reduceAdd, Nat.reduceMul, Nat.reduceSub, Nat.reduceLeDiff, Nat.reduceEqDiff, Nat.reduceBEq, ↓reduceIte, reduceCtorEq, Int.reduceEq, Int.reduceLE, Int.reduceLT, Int.reduceAdd, Int.reduceSub, Int.reduceNeg, Int.reduceToNat, Int.reduceNe, Nat.reducePow, Nat.reduceShiftRight, Nat.reduceMod, rounds_next, strBin, fold_noS, *])
    all_goals (refine fin_tmp (.inr rfl) ?_; simp [upd, spanB, most1, most2, *] <;> omega)
  · repeat' (first | ((with_reducible first | refine wA (by omega) ?_ | refine wB (by omega) ?_ | refine wC (by omega) ?_ | refine wD (by omega) ?_ | refine wE ?_ ?_ | refine wF ?_ ?_ | refine wG ?_ ?_ | refine wH ?_ ?_ | refine wI ?_ ?_ | refine wJ ?_ ?_ | refine wK ?_ ?_ | refine wL ?_ ?_) <;> intro _) | simp (maxSteps := 1000000) (disch := omega) only [go_sem, Nat.reduceAdd, Nat.reduceMul, Nat.reduceSub, Nat.reduceLeDiff, Nat.reduceEqDiff, Nat.reduceBEq, ↓reduceIte, reduceCtorEq, Int.reduceEq, Int.reduceLE, Int.reduceLT, Int.reduceAdd, Int.reduceSub, Int.reduceNeg, Int.reduceToNat, Int.reduceNe, Nat.reducePow, Nat.reduceShiftRight, Nat.reduceMod, mc_decl_family, Ent.pv, strBin, fold_noS, *])
    refine c_rounds 4 ?_
    repeat' (first | ((with_reducible first | refine wA (by omega) ?_ | refine wB (by omega) ?_ | refine wC (by omega) ?_ | refine wD (by omega) ?_ | refine wE ?_ ?_ | refine wF ?_ ?_ | refine wG ?_ ?_ | refine wH ?_ ?_ | refine wI ?_ ?_ | refine wJ ?_ ?_ | refine wK ?_ ?_ | refine wL ?_ ?_) <;> intro _) | simp (maxSteps := 1000000) (disch := omega) only [go_sem, Nat.reduceAdd, Nat.reduceMul, Nat.reduceSub, Nat.reduceLeDiff, Nat.reduceEqDiff, Nat.reduceBEq, ↓reduceIte, reduceCtorEq, Int.reduceEq, Int.reduceLE, Int.reduceLT, Int.reduceAdd, Int.reduceSub, Int.reduceNeg, Int.reduceToNat, Int.reduceNe, Nat.reducePow, Nat.reduceShiftRight, Nat.reduceMod, rounds_next, strBin, fold_noS, *])
    all_goals (refine fin_tmp (.inr rfl) ?_; simp [upd, spanB, most1, most2, *] <;> omega)
def idxF {α : Type} (p : α → Bool) : List α → Nat → Int
  | [], _ => -1
  | x :: r, i => if p x = true then (i : Int) else idxF p r (i + 1)
theorem idxF_any {α : Type} (p : α → Bool) : ∀ (xs : List α) (i : Nat), decide (0 ≤ idxF p xs i) = xs.any p
  | [], i => by simp [idxF]
  | x :: r, i => by
    simp only [idxF, List.any_cons]
    by_cases h : p x = true
    · simp [h]
    · rw [Bool.not_eq_true] at h
      simpa [h] using idxF_any p r (i + 1)
theorem wrong_p (s : ByteArray) : PPure Try.prog F.decl_ctors_1 [.sc (.string s)] (.sc (.bool (!nameB s))) := by
  refine pure_by is_decl_ctors_1 (by simp) rfl fun hb nx => ?_
  clear hb
  have c1 := name_Right_p s
  repeat' (first | ((with_reducible first | refine wA (by omega) ?_ | refine wB (by omega) ?_ | refine wC (by omega) ?_ | refine wD (by omega) ?_ | refine wE ?_ ?_ | refine wF ?_ ?_ | refine wG ?_ ?_ | refine wH ?_ ?_ | refine wI ?_ ?_ | refine wJ ?_ ?_ | refine wK ?_ ?_ | refine wL ?_ ?_) <;> intro _) | (((with_reducible refine call_id ?_); (first | (refine call_pure (c1) ?_)))) | simp (maxSteps := 1000000) (disch := omega) only [go_sem, Nat.reduceAdd, Nat.reduceMul, Nat.reduceSub, Nat.reduceLeDiff, Nat.reduceEqDiff, Nat.reduceBEq, ↓reduceIte, reduceCtorEq, Int.reduceEq, Int.reduceLE, Int.reduceLT, Int.reduceAdd, Int.reduceSub, Int.reduceNeg, Int.reduceToNat, Int.reduceNe, Nat.reducePow, Nat.reduceShiftRight, Nat.reduceMod, mc_decl_ctors_1, *])
  all_goals (exact fin_tmp (.inr rfl) cE3)
theorem indexW_p (xs : List ByteArray) : PPure Try.prog F.slices_IndexFunc_string_string [.sl 1 (xs.map txt), .fn F.decl_ctors_1 []] (.sc (.int .i64 (idxF (fun s => !nameB s) xs 0))) := by
  refine pure_by is_slices_IndexFunc_string_string (by simp) rfl fun hb nx => ?_
  have hb0 : xs.length ≤ 9223372036854775807 := by simp [bndL, PV.bnd] at hb; exact hb.1
  clear hb
  repeat' (first | ((with_reducible first | refine wA (by omega) ?_ | refine wB (by omega) ?_ | refine wC (by omega) ?_ | refine wD (by omega) ?_ | refine wE ?_ ?_ | refine wF ?_ ?_ | refine wG ?_ ?_ | refine wH ?_ ?_ | refine wI ?_ ?_ | refine wJ ?_ ?_ | refine wK ?_ ?_ | refine wL ?_ ?_) <;> intro _) | simp (maxSteps := 1000000) (disch := omega) only [go_sem, Nat.reduceAdd, Nat.reduceMul, Nat.reduceSub, Nat.reduceLeDiff, Nat.reduceEqDiff, Nat.reduceBEq, ↓reduceIte, reduceCtorEq, Int.reduceEq, Int.reduceLE, Int.reduceLT, Int.reduceAdd, Int.reduceSub, Int.reduceNeg, Int.reduceToNat, Int.reduceNe, Nat.reducePow, Nat.reduceShiftRight, Nat.reduceMod, mc_slices_IndexFunc_string_string, *])
  refine c_loopW 524080 (by kernel_rfl) (fun j f H m => ∃ i : Nat, j = xs.length - i ∧ i ≤ xs.length ∧ f 8 = .sc (.int .i64 i) ∧ Kept (idxF (fun s => !nameB s) xs 0 = idxF (fun s => !nameB s) (xs.drop i) i)) _ ⟨0, rfl, Nat.zero_le _, cE1, Kept.mk (by rw [List.drop_zero])⟩ ?_
  rintro _ f H m ⟨i, rfl, hi, e8, hs⟩
  by_cases hlt : i < xs.length
  · have eg : xs[i]? = some xs[i] := List.getElem?_eq_getElem hlt
    have c1 := wrong_p xs[i]
    have hs2 := hs.out
    rw [List.drop_eq_getElem_cons hlt, idxF] at hs2
    cases hx : !nameB xs[i] with
    | true =>
      rw [hx] at c1 hs2
      rw [hs2]
      clear hs hs2 hx
      repeat' (first | ((with_reducible first | refine wA (by omega) ?_ | refine wB (by omega) ?_ | refine wC (by omega) ?_ | refine wD (by omega) ?_ | refine wE ?_ ?_ | refine wF ?_ ?_ | refine wG ?_ ?_ | refine wH ?_ ?_ | refine wI ?_ ?_ | refine wJ ?_ ?_ | refine wK ?_ ?_ | refine wL ?_ ?_) <;> intro _) | (((with_reducible refine call_id ?_); (first | (refine call_pure (c1) ?_)))) | simp (maxSteps := 1000000) (disch := omega) only [go_sem, Nat.reduceAdd, Nat.reduceMul, Nat.reduceSub, Nat.reduceLeDiff, Nat.reduceEqDiff, Nat.reduceBEq, ↓reduceIte, reduceCtorEq, Int.reduceEq, Int.reduceLE, Int.reduceLT, Int.reduceAdd, Int.reduceSub, Int.reduceNeg, Int.reduceToNat, Int.reduceNe, Nat.reducePow, Nat.reduceShiftRight, Nat.reduceMod, txt, *])
      all_goals (exact fin_tmp (.inr rfl) cE3)
    | false =>
      rw [hx] at c1 hs2
      have hs3 := Kept.mk hs2
      clear hs hs2 hx
      repeat' (first | ((with_reducible first | refine wA (by omega) ?_ | refine wB (by omega) ?_ | refine wC (by omega) ?_ | refine wD (by omega) ?_ | refine wE ?_ ?_ | refine wF ?_ ?_ | refine wG ?_ ?_ | refine wH ?_ ?_ | refine wI ?_ ?_ | refine wJ ?_ ?_ | refine wK ?_ ?_ | refine wL ?_ ?_) <;> intro _) | (((with_reducible refine call_id ?_); (first | (refine call_pure (c1) ?_)))) | simp (maxSteps := 1000000) (disch := omega) only [go_sem, Nat.reduceAdd, Nat.reduceMul, Nat.reduceSub, Nat.reduceLeDiff, Nat.reduceEqDiff, Nat.reduceBEq, ↓reduceIte, reduceCtorEq, Int.reduceEq, Int.reduceLE, Int.reduceLT, Int.reduceAdd, Int.reduceSub, Int.reduceNeg, Int.reduceToNat, Int.reduceNe, Nat.reducePow, Nat.reduceShiftRight, Nat.reduceMod, txt, *])
      exact Nx.mk (xs.length - (i + 1)) cE1 ⟨i + 1, rfl, cE1, by simp [upd], hs3⟩
  · obtain rfl : i = xs.length := by omega
    have hs2 := hs.out
    rw [List.drop_length, idxF] at hs2
    rw [hs2]
    clear hs hs2
    repeat' (first | ((with_reducible first | refine wA (by omega) ?_ | refine wB (by omega) ?_ | refine wC (by omega) ?_ | refine wD (by omega) ?_ | refine wE ?_ ?_ | refine wF ?_ ?_ | refine wG ?_ ?_ | refine wH ?_ ?_ | refine wI ?_ ?_ | refine wJ ?_ ?_ | refine wK ?_ ?_ | refine wL ?_ ?_) <;> intro _) | simp (maxSteps := 1000000) (disch := omega) only [go_sem, Nat.reduceAdd, Nat.reduceMul, Nat.reduceSub, Nat.reduceLeDiff, Nat.reduceEqDiff, Nat.reduceBEq, ↓reduceIte, reduceCtorEq, Int.reduceEq, Int.reduceLE, Int.reduceLT, Int.reduceAdd, Int.reduceSub, Int.reduceNeg, Int.reduceToNat, Int.reduceNe, Nat.reducePow, Nat.reduceShiftRight, Nat.reduceMod, *])
    all_goals (exact fin_tmp (.inr rfl) cE3)
theorem containsW_p (xs : List ByteArray) : PPure Try.prog F.slices_ContainsFunc_string_string [.sl 1 (xs.map txt), .fn F.decl_ctors_1 []] (.sc (.bool (xs.any fun s => !nameB s))) := by
  refine pure_by is_slices_ContainsFunc_string_string (by simp) rfl fun hb nx => ?_
  clear hb
  have c1 := indexW_p xs
  rw [← idxF_any _ xs 0]
  repeat' (first | ((with_reducible first | refine wA (by omega) ?_ | refine wB (by omega) ?_ | refine wC (by omega) ?_ | refine wD (by omega) ?_ | refine wE ?_ ?_ | refine wF ?_ ?_ | refine wG ?_ ?_ | refine wH ?_ ?_ | refine wI ?_ ?_ | refine wJ ?_ ?_ | refine wK ?_ ?_ | refine wL ?_ ?_) <;> intro _) | (((with_reducible refine call_id ?_); (first | (refine call_pure (c1) ?_)))) | simp (maxSteps := 1000000) (disch := omega) only [go_sem, Nat.reduceAdd, Nat.reduceMul, Nat.reduceSub, Nat.reduceLeDiff, Nat.reduceEqDiff, Nat.reduceBEq, ↓reduceIte, reduceCtorEq, Int.reduceEq, Int.reduceLE, Int.reduceLT, Int.reduceAdd, Int.reduceSub, Int.reduceNeg, Int.reduceToNat, Int.reduceNe, Nat.reducePow, Nat.reduceShiftRight, Nat.reduceMod, mc_slices_ContainsFunc_string_string, *])
  all_goals (exact fin_tmp (.inr rfl) cE3)
def ctorsB (e : Ent) : Bool := if e.kind = 5 ∨ e.kind = 7 then decide (e.ctors.length ≤ 8) && e.ctors.all nameB else decide (e.ctors.length = 0)
theorem any_all (xs : List ByteArray) : (xs.any fun s => !nameB s) = !(xs.all nameB) := by
  induction xs with
  | nil => rfl
  | cons x r ih => simp only [List.any_cons, List.all_cons, ih, Bool.not_and]
theorem ctors_p (e : Ent) : PPure Try.prog F.decl_ctors [.ptr e.pv] (.sc (.bool (ctorsB e))) := by
  obtain ⟨kind, params, name, typ, val, height, family, fixed, index, fields, ctors⟩ := e
  refine pure_by is_decl_ctors (by simp) rfl fun hb nx => ?_
  clear hb
  simp only [ctorsB]
  have c1 := containsW_p ctors
  rw [any_all] at c1
  by_cases k5 : kind = 5
  · subst k5
    rw [if_pos (.inl rfl)]
    repeat' (first | ((with_reducible first | refine wA (by omega) ?_ | refine wB (by omega) ?_ | refine wC (by omega) ?_ | refine wD (by omega) ?_ | refine wE ?_ ?_ | refine wF ?_ ?_ | refine wG ?_ ?_ | refine wH ?_ ?_ | refine wI ?_ ?_ | refine wJ ?_ ?_ | refine wK ?_ ?_ | refine wL ?_ ?_) <;> intro _) | (((with_reducible refine call_id ?_); (first | (refine call_pure (c1) ?_)))) | simp (maxSteps := 1000000) (disch := omega) only [go_sem, Nat.reduceAdd, Nat.reduceMul, Nat.reduceSub, Nat.reduceLeDiff, Nat.reduceEqDiff, Nat.reduceBEq, ↓reduceIte, reduceCtorEq, Int.reduceEq, Int.reduceLE, Int.reduceLT, Int.reduceAdd, Int.reduceSub, Int.reduceNeg, Int.reduceToNat, Int.reduceNe, Nat.reducePow, Nat.reduceShiftRight, Nat.reduceMod, mc_decl_ctors, Ent.pv, *])
    all_goals (refine fin_tmp (.inr rfl) ?_; simp [upd, *] <;> omega)
  by_cases k7 : kind = 7
  · subst k7
    rw [if_pos (.inr rfl)]
    repeat' (first | ((with_reducible first | refine wA (by omega) ?_ | refine wB (by omega) ?_ | refine wC (by omega) ?_ | refine wD (by omega) ?_ | refine wE ?_ ?_ | refine wF ?_ ?_ | refine wG ?_ ?_ | refine wH ?_ ?_ | refine wI ?_ ?_ | refine wJ ?_ ?_ | refine wK ?_ ?_ | refine wL ?_ ?_) <;> intro _) | (((with_reducible refine call_id ?_); (first | (refine call_pure (c1) ?_)))) | simp (maxSteps := 1000000) (disch := omega) only [go_sem, Nat.reduceAdd, Nat.reduceMul, Nat.reduceSub, Nat.reduceLeDiff, Nat.reduceEqDiff, Nat.reduceBEq, ↓reduceIte, reduceCtorEq, Int.reduceEq, Int.reduceLE, Int.reduceLT, Int.reduceAdd, Int.reduceSub, Int.reduceNeg, Int.reduceToNat, Int.reduceNe, Nat.reducePow, Nat.reduceShiftRight, Nat.reduceMod, mc_decl_ctors, Ent.pv, *])
    all_goals (refine fin_tmp (.inr rfl) ?_; simp [upd, *] <;> omega)
  · rw [if_neg (fun h => h.elim k5 k7)]
    repeat' (first | ((with_reducible first | refine wA (by omega) ?_ | refine wB (by omega) ?_ | refine wC (by omega) ?_ | refine wD (by omega) ?_ | refine wE ?_ ?_ | refine wF ?_ ?_ | refine wG ?_ ?_ | refine wH ?_ ?_ | refine wI ?_ ?_ | refine wJ ?_ ?_ | refine wK ?_ ?_ | refine wL ?_ ?_) <;> intro _) | simp (maxSteps := 1000000) (disch := omega) only [go_sem, Nat.reduceAdd, Nat.reduceMul, Nat.reduceSub, Nat.reduceLeDiff, Nat.reduceEqDiff, Nat.reduceBEq, ↓reduceIte, reduceCtorEq, Int.reduceEq, Int.reduceLE, Int.reduceLT, Int.reduceAdd, Int.reduceSub, Int.reduceNeg, Int.reduceToNat, Int.reduceNe, Nat.reducePow, Nat.reduceShiftRight, Nat.reduceMod, mc_decl_ctors, Ent.pv, *])
    all_goals (refine fin_tmp (.inr rfl) ?_; simp [upd, *] <;> omega)
def Ent.right (e : Ent) : Bool := decide (1 ≤ e.kind) && (decide (e.kind ≤ 7) && (nameB e.name && (decide (0 ≤ e.params) && (decide (e.params ≤ 4) && (e.typ.right e.params 0 && (valueB e && (heightB e && (familyB e && ctorsB e))))))))
set_option maxHeartbeats 8000000 in
theorem eRight_p (e : Ent) : PPure Try.prog F.decl_Right [.agg e.pv] (.sc (.bool e.right)) := by
  refine pure_by is_decl_Right (by simp) rfl fun hb nx => ?_
  clear hb
  have c1 := name_Right_p e.name
  have c2 := tRightG_p e.typ e.params 0
  have c4 := height_p e
  have c5 := family_p e
  have c6 := ctors_p e
  by_cases hp : 0 ≤ e.params ∧ e.params ≤ 4
  rotate_left
  · have hf : e.right = false := by
      simp only [Ent.right]
      by_cases h0 : 0 ≤ e.params
      · have : ¬ e.params ≤ 4 := fun h4 => hp ⟨h0, h4⟩
        simp [this]
      · simp [h0]
    rw [hf]
    have h9 : e.params < 0 ∨ (0 ≤ e.params ∧ 4 < e.params) := by omega
    clear hf hp c2 c4 c5 c6
    obtain ⟨kind, params, name, typ, val, height, family, fixed, index, fields, ctors⟩ := e
    simp only [Ent.pv] at c1 h9 ⊢
    rcases h9 with h | ⟨h, h2⟩
    all_goals
      cases hn : nameB name with
      | false =>
        rw [hn] at c1
        clear hn
        repeat' (first | ((with_reducible first | refine wA (by omega) ?_ | refine wB (by omega) ?_ | refine wC (by omega) ?_ | refine wD (by omega) ?_ | refine wE ?_ ?_ | refine wF ?_ ?_ | refine wG ?_ ?_ | refine wH ?_ ?_ | refine wI ?_ ?_ | refine wJ ?_ ?_ | refine wK ?_ ?_ | refine wL ?_ ?_) <;> intro _) | (((with_reducible refine call_id ?_); (first | (refine call_pure (c1) ?_)))) | simp (maxSteps := 1000000) (disch := omega) only [go_sem, Nat.reduceAdd, Nat.reduceMul, Nat.reduceSub, Nat.reduceLeDiff, Nat.reduceEqDiff, Nat.reduceBEq, ↓reduceIte, reduceCtorEq, Int.reduceEq, Int.reduceLE, Int.reduceLT, Int.reduceAdd, Int.reduceSub, Int.reduceNeg, Int.reduceToNat, Int.reduceNe, Nat.reducePow, Nat.reduceShiftRight, Nat.reduceMod, mc_decl_Right, *])
        all_goals (exact fin_tmp (.inr rfl) cE3)
      | true =>
        rw [hn] at c1
        clear hn
        repeat' (first | ((with_reducible first | refine wA (by omega) ?_ | refine wB (by omega) ?_ | refine wC (by omega) ?_ | refine wD (by omega) ?_ | refine wE ?_ ?_ | refine wF ?_ ?_ | refine wG ?_ ?_ | refine wH ?_ ?_ | refine wI ?_ ?_ | refine wJ ?_ ?_ | refine wK ?_ ?_ | refine wL ?_ ?_) <;> intro _) | (((with_reducible refine call_id ?_); (first | (refine call_pure (c1) ?_)))) | simp (maxSteps := 1000000) (disch := omega) only [go_sem, Nat.reduceAdd, Nat.reduceMul, Nat.reduceSub, Nat.reduceLeDiff, Nat.reduceEqDiff, Nat.reduceBEq, ↓reduceIte, reduceCtorEq, Int.reduceEq, Int.reduceLE, Int.reduceLT, Int.reduceAdd, Int.reduceSub, Int.reduceNeg, Int.reduceToNat, Int.reduceNe, Nat.reducePow, Nat.reduceShiftRight, Nat.reduceMod, mc_decl_Right, *])
        all_goals (exact fin_tmp (.inr rfl) cE3)
  have c3 := value_p e hp
  simp only [Ent.right]
  generalize valueB e = b3 at c3
  generalize heightB e = b4 at c4
  generalize familyB e = b5 at c5
  generalize ctorsB e = b6 at c6
  obtain ⟨kind, params, name, typ, val, height, family, fixed, index, fields, ctors⟩ := e
  simp only [Ent.pv] at c1 c2 c3 c4 c5 c6 hp ⊢
  generalize nameB name = b1 at c1
  generalize typ.right params 0 = b2 at c2
  cases b1 with
  | false =>
    repeat' (first | ((with_reducible first | refine wA (by omega) ?_ | refine wB (by omega) ?_ | refine wC (by omega) ?_ | refine wD (by omega) ?_ | refine wE ?_ ?_ | refine wF ?_ ?_ | refine wG ?_ ?_ | refine wH ?_ ?_ | refine wI ?_ ?_ | refine wJ ?_ ?_ | refine wK ?_ ?_ | refine wL ?_ ?_) <;> intro _) | (((with_reducible refine call_id ?_); (first | (refine call_pure (c1) ?_)))) | simp (maxSteps := 1000000) (disch := omega) only [go_sem, Nat.reduceAdd, Nat.reduceMul, Nat.reduceSub, Nat.reduceLeDiff, Nat.reduceEqDiff, Nat.reduceBEq, ↓reduceIte, reduceCtorEq, Int.reduceEq, Int.reduceLE, Int.reduceLT, Int.reduceAdd, Int.reduceSub, Int.reduceNeg, Int.reduceToNat, Int.reduceNe, Nat.reducePow, Nat.reduceShiftRight, Nat.reduceMod, mc_decl_Right, *])
    all_goals (refine fin_tmp (.inr rfl) ?_; simp [upd, *] <;> (intros; omega))
  | true =>
  cases b2 with
  | false =>
    repeat' (first | ((with_reducible first | refine wA (by omega) ?_ | refine wB (by omega) ?_ | refine wC (by omega) ?_ | refine wD (by omega) ?_ | refine wE ?_ ?_ | refine wF ?_ ?_ | refine wG ?_ ?_ | refine wH ?_ ?_ | refine wI ?_ ?_ | refine wJ ?_ ?_ | refine wK ?_ ?_ | refine wL ?_ ?_) <;> intro _) | (((with_reducible refine call_id ?_); (first | (refine call_pure (c1) ?_) | (refine call_pure (c2) ?_)))) | simp (maxSteps := 1000000) (disch := omega) only [go_sem, Nat.reduceAdd, Nat.reduceMul, Nat.reduceSub, Nat.reduceLeDiff, Nat.reduceEqDiff, Nat.reduceBEq, ↓reduceIte, reduceCtorEq, Int.reduceEq, Int.reduceLE, Int.reduceLT, Int.reduceAdd, Int.reduceSub, Int.reduceNeg, Int.reduceToNat, Int.reduceNe, Nat.reducePow, Nat.reduceShiftRight, Nat.reduceMod, mc_decl_Right, *])
    all_goals (refine fin_tmp (.inr rfl) ?_; simp [upd, *] <;> (intros; omega))
  | true =>
  cases b3 with
  | false =>
    repeat' (first | ((with_reducible first | refine wA (by omega) ?_ | refine wB (by omega) ?_ | refine wC (by omega) ?_ | refine wD (by omega) ?_ | refine wE ?_ ?_ | refine wF ?_ ?_ | refine wG ?_ ?_ | refine wH ?_ ?_ | refine wI ?_ ?_ | refine wJ ?_ ?_ | refine wK ?_ ?_ | refine wL ?_ ?_) <;> intro _) | (((with_reducible refine call_id ?_); (first | (refine call_pure (c1) ?_) | (refine call_pure (c2) ?_) | (refine call_pure (c3) ?_)))) | simp (maxSteps := 1000000) (disch := omega) only [go_sem, Nat.reduceAdd, Nat.reduceMul, Nat.reduceSub, Nat.reduceLeDiff, Nat.reduceEqDiff, Nat.reduceBEq, ↓reduceIte, reduceCtorEq, Int.reduceEq, Int.reduceLE, Int.reduceLT, Int.reduceAdd, Int.reduceSub, Int.reduceNeg, Int.reduceToNat, Int.reduceNe, Nat.reducePow, Nat.reduceShiftRight, Nat.reduceMod, mc_decl_Right, *])
    all_goals (refine fin_tmp (.inr rfl) ?_; simp [upd, *] <;> (intros; omega))
  | true =>
  cases b4 with
  | false =>
    repeat' (first | ((with_reducible first | refine wA (by omega) ?_ | refine wB (by omega) ?_ | refine wC (by omega) ?_ | refine wD (by omega) ?_ | refine wE ?_ ?_ | refine wF ?_ ?_ | refine wG ?_ ?_ | refine wH ?_ ?_ | refine wI ?_ ?_ | refine wJ ?_ ?_ | refine wK ?_ ?_ | refine wL ?_ ?_) <;> intro _) | (((with_reducible refine call_id ?_); (first | (refine call_pure (c1) ?_) | (refine call_pure (c2) ?_) | (refine call_pure (c3) ?_) | (refine call_pure (c4) ?_)))) | simp (maxSteps := 1000000) (disch := omega) only [go_sem, Nat.reduceAdd, Nat.reduceMul, Nat.reduceSub, Nat.reduceLeDiff, Nat.reduceEqDiff, Nat.reduceBEq, ↓reduceIte, reduceCtorEq, Int.reduceEq, Int.reduceLE, Int.reduceLT, Int.reduceAdd, Int.reduceSub, Int.reduceNeg, Int.reduceToNat, Int.reduceNe, Nat.reducePow, Nat.reduceShiftRight, Nat.reduceMod, mc_decl_Right, *])
    all_goals (refine fin_tmp (.inr rfl) ?_; simp [upd, *] <;> (intros; omega))
  | true =>
  cases b5 with
  | false =>
    repeat' (first | ((with_reducible first | refine wA (by omega) ?_ | refine wB (by omega) ?_ | refine wC (by omega) ?_ | refine wD (by omega) ?_ | refine wE ?_ ?_ | refine wF ?_ ?_ | refine wG ?_ ?_ | refine wH ?_ ?_ | refine wI ?_ ?_ | refine wJ ?_ ?_ | refine wK ?_ ?_ | refine wL ?_ ?_) <;> intro _) | (((with_reducible refine call_id ?_); (first | (refine call_pure (c1) ?_) | (refine call_pure (c2) ?_) | (refine call_pure (c3) ?_) | (refine call_pure (c4) ?_) | (refine call_pure (c5) ?_)))) | simp (maxSteps := 1000000) (disch := omega) only [go_sem, Nat.reduceAdd, Nat.reduceMul, Nat.reduceSub, Nat.reduceLeDiff, Nat.reduceEqDiff, Nat.reduceBEq, ↓reduceIte, reduceCtorEq, Int.reduceEq, Int.reduceLE, Int.reduceLT, Int.reduceAdd, Int.reduceSub, Int.reduceNeg, Int.reduceToNat, Int.reduceNe, Nat.reducePow, Nat.reduceShiftRight, Nat.reduceMod, mc_decl_Right, *])
    all_goals (refine fin_tmp (.inr rfl) ?_; simp [upd, *] <;> (intros; omega))
  | true =>
  cases b6 with
  | false =>
    repeat' (first | ((with_reducible first | refine wA (by omega) ?_ | refine wB (by omega) ?_ | refine wC (by omega) ?_ | refine wD (by omega) ?_ | refine wE ?_ ?_ | refine wF ?_ ?_ | refine wG ?_ ?_ | refine wH ?_ ?_ | refine wI ?_ ?_ | refine wJ ?_ ?_ | refine wK ?_ ?_ | refine wL ?_ ?_) <;> intro _) | (((with_reducible refine call_id ?_); (first | (refine call_pure (c1) ?_) | (refine call_pure (c2) ?_) | (refine call_pure (c3) ?_) | (refine call_pure (c4) ?_) | (refine call_pure (c5) ?_) | (refine call_pure (c6) ?_)))) | simp (maxSteps := 1000000) (disch := omega) only [go_sem, Nat.reduceAdd, Nat.reduceMul, Nat.reduceSub, Nat.reduceLeDiff, Nat.reduceEqDiff, Nat.reduceBEq, ↓reduceIte, reduceCtorEq, Int.reduceEq, Int.reduceLE, Int.reduceLT, Int.reduceAdd, Int.reduceSub, Int.reduceNeg, Int.reduceToNat, Int.reduceNe, Nat.reducePow, Nat.reduceShiftRight, Nat.reduceMod, mc_decl_Right, *])
    all_goals (refine fin_tmp (.inr rfl) ?_; simp [upd, *] <;> (intros; omega))
  | true =>
    repeat' (first | ((with_reducible first | refine wA (by omega) ?_ | refine wB (by omega) ?_ | refine wC (by omega) ?_ | refine wD (by omega) ?_ | refine wE ?_ ?_ | refine wF ?_ ?_ | refine wG ?_ ?_ | refine wH ?_ ?_ | refine wI ?_ ?_ | refine wJ ?_ ?_ | refine wK ?_ ?_ | refine wL ?_ ?_) <;> intro _) | (((with_reducible refine call_id ?_); (first | (refine call_pure (c1) ?_) | (refine call_pure (c2) ?_) | (refine call_pure (c3) ?_) | (refine call_pure (c4) ?_) | (refine call_pure (c5) ?_) | (refine call_pure (c6) ?_)))) | simp (maxSteps := 1000000) (disch := omega) only [go_sem, Nat.reduceAdd, Nat.reduceMul, Nat.reduceSub, Nat.reduceLeDiff, Nat.reduceEqDiff, Nat.reduceBEq, ↓reduceIte, reduceCtorEq, Int.reduceEq, Int.reduceLE, Int.reduceLT, Int.reduceAdd, Int.reduceSub, Int.reduceNeg, Int.reduceToNat, Int.reduceNe, Nat.reducePow, Nat.reduceShiftRight, Nat.reduceMod, mc_decl_Right, *])
    all_goals (refine fin_tmp (.inr rfl) ?_; simp [upd, *] <;> (intros; omega))
end
section
attribute [local go_sem] pv_len pv_take id_ne id_ne' id_ne2 rounds_next Nat.add_assoc pv_take_app pv_one
def p0 : Lv := .mk 2 0 []
def p1 : Lv := .mk 2 1 []
theorem PPure.is {f : FuncId} {args : List PV} {r r' : PV} (h : PPure Try.prog f args r) (e : r = r') : PPure Try.prog f args r' := e ▸ h
end
section
set_option maxRecDepth 20000
attribute [local go_sem] pv_len pv_take id_ne id_ne' id_ne2 Nat.add_assoc pv_one pv_take_app
theorem inst_grown (bys : List Lv) (hb : ∀ b ∈ bys, b.nodes ≤ 64) : ∀ (fuel : Nat) (l : Lv), l.nodes ≤ fuel → l.formed bys.length = true → l.grown bys = (l.inst bys).nodes := by
  intro fuel
  induction fuel with
  | zero => intro l h; have := nodes_pos l; omega
  | succ fuel ih =>
    intro l hf hr
    cases l with
    | mk k n args =>
    simp only [Lv.nodes] at hf
    by_cases hk : k = 2
    · subst hk
      obtain ⟨h0, h1, rfl⟩ := par_of hr
      have hmem : bys.getD n.toNat (.mk 1 0 []) ∈ bys := by
        have h3 : n.toNat < bys.length := by omega
        simp [List.getD, List.getElem?_eq_getElem h3, List.getElem_mem]
      have := hb _ hmem
      simp only [Lv.grown, Lv.inst, if_true]
      omega
    · have key : ∀ xs : List Lv, (∀ x ∈ xs, x ∈ args) → grownL bys xs = nodesL (instL bys xs) := by
        intro xs
        induction xs with
        | nil => intro _; rfl
        | cons x r ihr =>
          intro h
          have h1 : x.nodes ≤ nodesL args := by
            obtain ⟨i, hi, e⟩ := List.getElem_of_mem (h x (by simp))
            rw [← e]; exact nodesL_mem args i hi
          simp only [grownL, instL, nodesL]
          rw [ih x (by omega) (formed_kid hr x (h x (by simp))), ihr fun y hy => h y (by simp [hy])]
      simp only [Lv.grown, Lv.inst, if_neg hk, Lv.nodes, key args fun _ h => h]
theorem instV_eq (l : Lv) (bys : List Lv) : l.instV bys = l.instR bys := by
  unfold Lv.instV Lv.instR
  by_cases h1 : l.right bys.length = true
  · by_cases h2 : bys.all (Lv.right 4) = true
    · obtain ⟨_, _, _, hf⟩ := right_parts h1
      have hb : ∀ b ∈ bys, b.nodes ≤ 64 := fun b hb => (right_parts (List.all_eq_true.1 h2 b hb)).2.2.1
      rw [← inst_grown bys hb l.nodes l (Nat.le_refl _) hf]
      simp [h1, h2]
    · simp only [Bool.not_eq_true] at h2
      simp [h1, h2]
  · simp only [Bool.not_eq_true] at h1
    simp [h1]
end
section
set_option maxRecDepth 20000
attribute [local go_sem] pv_len pv_take Nat.add_assoc tm_len tm_take pv_one tm_one id_ne id_ne' id_ne2 List.append_assoc
def FixL (nx : Nat) (cs : List PV) : Prop := ∀ (G : Nat → Bool) (k : Nat) (H : Nat → Option PObj), (∀ j, j < nx → G j = false) → cs.map (frgF G k H) = cs
theorem FixL.mono {nx nx' : Nat} {cs : List PV} (h : FixL nx cs) (hn : nx ≤ nx') : FixL nx' cs := fun G k H hG => h G k H fun j hj => hG j (Nat.lt_of_lt_of_le hj hn)
theorem FixL.imm {nx : Nat} {cs : List PV} (h : immL cs = true) : FixL nx cs := fun G k H _ => frgF_immL G H k cs h
theorem FixL.nil {nx : Nat} : FixL nx [] := fun _ _ _ _ => rfl
theorem FixL.append {nx : Nat} {cs ds : List PV} (h : FixL nx cs) (g : FixL nx ds) : FixL nx (cs ++ ds) := fun G k H hG => by rw [List.map_append, h G k H hG, g G k H hG]
theorem FixL.cons {nx : Nat} {c : PV} {ds : List PV} (h : c.imm = true) (g : FixL nx ds) : FixL nx (c :: ds) := fun G k H hG => by rw [List.map_cons, frgF_imm G H k c h, g G k H hG]
theorem frgF_osl {G : Nat → Bool} {id : Nat} (h : G id = false) (k : Nat) (H : Nat → Option PObj) (off n sz : Nat) : frgF G k H (.osl id off n sz) = .osl id off n sz := by
  cases k with
  | zero => rfl
  | succ k => simp [frgF, h]
theorem FixL.osl {nx id off n sz : Nat} {ds : List PV} (h : id < nx) (g : FixL nx ds) : FixL nx (.osl id off n sz :: ds) := fun G k H hG => by rw [List.map_cons, frgF_osl (hG id h), g G k H hG]
theorem tell_low {P : Program} {f : FuncId} {args : List PV} {H : Nat → Option PObj} {nx : Nat} {Q Q2 : (Nat → Option PObj) → Nat → PV → Prop} (kp : Nat → Bool) (id : Nat) (hid : id < nx) (hkp : ∀ j, kp j = true → j ≠ id ∧ j < nx) (h : PMut P f args H nx Q)
    (hq : ∀ H' nx' r, Q H' nx' r → r.imm = true ∧ (∀ j o, kp j = true → H' j = some o → o.isIt = false ∧ FixL nx o.cells) ∧ ∃ (res : Option (List PV)) (k : Nat),
      (∀ cs', res = some cs' → ∃ cs, H' id = some ⟨cs, true⟩ ∧ cs.length ≠ 1 ∧ WeakL (cs.map (frgF (fun j => decide (nx ≤ j)) k H')) cs') ∧
      ∀ H2 : Nat → Option PObj, (∀ j, kp j = true → H2 j = H' j) → H2 id = res.map (fun c => ⟨c, true⟩) → Q2 H2 nx' r) : PMut P f args H nx Q2 := by
  refine PMut.become h fun H' nx' r hQ => ?_
  obtain ⟨hr, h1, res, k, h2, h3⟩ := hq H' nx' r hQ
  refine ⟨fun j => decide (nx ≤ j), k, fun j => if j = id then res.map (fun c => ⟨c, true⟩) else if kp j = true then H' j else none, r, fun j o2 hj => ?_, .of_eq (frgF_imm _ _ _ _ hr), h3 _ (fun j hj => by simp [(hkp j hj).1, hj]) (by simp)⟩
  by_cases he : j = id
  · subst he
    simp only [if_true] at hj
    cases res with
    | none => simp at hj
    | some cs' =>
      simp only [Option.map_some, Option.some.injEq] at hj
      subst hj
      obtain ⟨cs, g1, g2, g3⟩ := h2 cs' rfl
      exact ⟨⟨cs.map (frgF (fun j => decide (nx ≤ j)) k H'), true⟩, by simp [lessC, Nat.not_le.2 hid, g1], isIt_len (by simpa using g2), rfl, g3⟩
  · simp only [he, if_false] at hj
    split at hj
    · rename_i hk
      obtain ⟨h6, h7⟩ := hkp j hk
      obtain ⟨h8, h9⟩ := h1 j o2 hk hj
      refine ⟨o2, ?_, h8, rfl, .refl _⟩
      have := h9 (fun j => decide (nx ≤ j)) k H' (fun j hj => by simp; omega)
      simp only [lessC, Nat.not_le.2 h7, decide_false, Bool.false_eq_true, if_false, hj, Option.map_some, this]
    · cases hj
def RowP (H : Nat → Option PObj) (lo m sz : Nat) (a : PV) (es : List (List PV)) : Prop := (es = [] ∧ a = .sc (.slice none 0 0)) ∨ ∃ id, lo ≤ id ∧ id < m ∧ a = .osl id 0 es.length sz ∧ H id = some ⟨es.flatten, true⟩
def HalfP (H : Nat → Option PObj) (lo m sz : Nat) (a : PV) (done : List PV) (z : List Value) (r n : Nat) : Prop := (n = 0 ∧ a = .sc (.slice none 0 0)) ∨ ∃ id, lo ≤ id ∧ id < m ∧ a = .osl id 0 n sz ∧ H id = some ⟨done ++ zeros z r, true⟩
def leads : PV → Nat → Bool
  | .osl i _ _ _, j => decide (j = i)
  | _, _ => false
theorem HalfP.row {H : Nat → Option PObj} {lo m sz : Nat} {a : PV} {es : List (List PV)} {z : List Value} {n : Nat} (h : HalfP H lo m sz a es.flatten z 0 n) (hn : es.length = n) : RowP H lo m sz a es := by
  rcases h with ⟨h1, h2⟩ | ⟨id, h1, h2, h3, h4⟩
  · exact .inl ⟨List.eq_nil_of_length_eq_zero (by omega), h2⟩
  · exact .inr ⟨id, h1, h2, by rw [hn]; exact h3, by simpa [zeros] using h4⟩
theorem RowP.mono {H H' : Nat → Option PObj} {lo m m' sz : Nat} {a : PV} {es : List (List PV)} (h : RowP H lo m sz a es) (hm : m ≤ m') (hH : ∀ j, lo ≤ j → j < m → leads a j = true → H' j = H j) : RowP H' lo m' sz a es := by
  rcases h with h | ⟨id, h1, h2, rfl, h4⟩
  · exact .inl h
  · exact .inr ⟨id, h1, by omega, rfl, by rw [hH id h1 h2 (by simp [leads]), h4]⟩
theorem HalfP.mono {H H' : Nat → Option PObj} {lo m m' sz : Nat} {a : PV} {done : List PV} {z : List Value} {r n : Nat} (h : HalfP H lo m sz a done z r n) (hm : m ≤ m') (hH : ∀ j, lo ≤ j → j < m → leads a j = true → H' j = H j) : HalfP H' lo m' sz a done z r n := by
  rcases h with h | ⟨id, h1, h2, rfl, h4⟩
  · exact .inl h
  · exact .inr ⟨id, h1, by omega, rfl, by rw [hH id h1 h2 (by simp [leads]), h4]⟩
theorem RowP.fix {H : Nat → Option PObj} {lo m sz : Nat} {a : PV} {es : List (List PV)} (h : RowP H lo m sz a es) {nx : Nat} (hm : m ≤ nx) {ds : List PV} (hd : FixL nx ds) : FixL nx (a :: ds) := by
  rcases h with ⟨_, rfl⟩ | ⟨id, h1, h2, rfl, h4⟩
  · exact .cons rfl hd
  · exact .osl (by omega) hd
theorem RowP.lead {H : Nat → Option PObj} {lo m sz : Nat} {a : PV} {es : List (List PV)} (h : RowP H lo m sz a es) (hl : es.flatten.length ≠ 1) (hi : immL es.flatten = true) {j : Nat} (hj : leads a j = true) (nx : Nat) :
    lo ≤ j ∧ j < m ∧ ∀ o, H j = some o → o.isIt = false ∧ FixL nx o.cells := by
  rcases h with ⟨_, rfl⟩ | ⟨id, h1, h2, rfl, h4⟩
  · cases hj
  · obtain rfl : j = id := by simpa [leads] using hj
    refine ⟨h1, h2, fun o ho => ?_⟩
    rw [h4] at ho
    cases ho
    exact ⟨isIt_len hl, .imm hi⟩
theorem RowP.frg {H : Nat → Option PObj} {lo m sz : Nat} {a : PV} {es : List (List PV)} (h : RowP H lo m sz a es) (hs : ∀ e ∈ es, e.length = sz) (G : Nat → Bool) (hG : ∀ j, lo ≤ j → G j = true) : Weak (frgF G 1 H a) (.sl sz es) := by
  rcases h with ⟨rfl, rfl⟩ | ⟨id, h1, h2, rfl, h4⟩
  · exact .nil sz
  · have hl : es.flatten.length = es.length * sz := by
      clear h4
      induction es with
      | nil => simp
      | cons e r ih =>
        rw [List.flatten_cons, List.length_append, ih (fun x hx => hs x (by simp [hx])), hs e (by simp), List.length_cons, Nat.succ_mul]
        omega
    simp only [frgF, hG id h1, if_true, h4, List.drop_zero]
    rw [if_pos (by omega), List.take_of_length_le (by omega)]
    refine .trans (Weak.fslW (es' := es) (by rw [chunks_length]) hs ?_) (Weak.fsl sz es)
    rw [List.map_id', chunks_flatten sz es.length _ (by omega)]
    exact .refl _
end
section
set_option maxRecDepth 20000
attribute [local go_sem] pv_len pv_take Nat.add_assoc tm_len tm_take pv_one tm_one id_ne id_ne' id_ne2 List.append_assoc
theorem flat3_ne1 (ls : List Lv) : (ls.map Lv.pv).flatten.length ≠ 1 := by
  have : (ls.map Lv.pv).flatten.length = ls.length * 3 := by
    induction ls with
    | nil => rfl
    | cons t r ih => rw [List.map_cons, List.flatten_cons, List.length_append, pv_len, ih, List.length_cons, Nat.succ_mul]; omega
  omega
theorem zeros_imm : ∀ (n : Nat), immL (zeros [.int .i64 0, .int .i64 0, .string ⟨#[]⟩, .slice none 0 0, .slice none 0 0] n) = true
  | 0 => rfl
  | n + 1 => by simp only [zeros, immL_append, zeros_imm n]; rfl
theorem tms_immF (ts : List Tm) : immL (ts.flatMap Tm.pv) = true := by rw [List.flatMap_def]; exact tms_imm ts
theorem lvs_immF : ∀ ls : List Lv, immL (ls.map Lv.pv).flatten = true
  | [] => rfl
  | t :: r => by simp only [List.map_cons, List.flatten_cons, immL_append, pv_imm t, lvs_immF r]; rfl
def putRaw (bys : List Lv) (kind n : Int) (s : ByteArray) (ls : List Lv) (args : List Tm) (H : Nat → Option PObj) (nx id : Nat) (p q : List PV) (kp : Nat → Bool) (H' : Nat → Option PObj) (nx' : Nat) (r : PV) : Prop :=
  nx ≤ nx' ∧ (∀ j, kp j = true → H' j = H j) ∧ (((Tm.mk kind n s ls args).putL bys = none ∧ r = .sc (.bool false)) ∨ ∃ ls' args' a b, insts bys ls = some ls' ∧ putLs bys args = some args' ∧ r = .sc (.bool true) ∧
    H' id = some ⟨p ++ (.sc (.int .i64 kind) :: .sc (.int .i64 n) :: .sc (.string s) :: a :: b :: q), true⟩ ∧ RowP H' nx nx' 3 a (ls'.map Lv.pv) ∧ RowP H' nx nx' 5 b (args'.map Tm.pv))
set_option maxHeartbeats 16000000 in
theorem putLevels_p (bys : List Lv) : ∀ (fuel : Nat) (t : Tm), t.size ≤ fuel → t.nodes ≤ 2 ^ 40 → ∀ (H : Nat → Option PObj) (nx id off : Nat) (p q : List PV) (kp : Nat → Bool), H id = some ⟨p ++ (zero5 ++ q), true⟩ → id < nx → p.length = off → immL p = true → immL q = true →
    (∀ j, kp j = true → j ≠ id ∧ j < nx ∧ ∀ o, H j = some o → o.isIt = false ∧ FixL nx o.cells) →
    PMut Try.prog F.term_putLevels [.optr id off, .ptr t.pv, .sl 3 (bys.map Lv.pv)] H nx (fun H' nx' r => nx ≤ nx' ∧ (∀ j, kp j = true → H' j = H j) ∧ ((t.putL bys = none ∧ r = .sc (.bool false)) ∨ ∃ y, t.putL bys = some y ∧ r = .sc (.bool true) ∧ H' id = some ⟨p ++ (y.pv ++ q), true⟩)) := by
  intro fuel
  induction fuel with
  | zero => intro t h; have := size_pos t; omega
  | succ fuel ih =>
    intro t hf hm H nx id off p q kp hH hid hoff hpi hqi hkp
    cases t with
    | mk kind n s ls args =>
    simp only [Tm.size] at hf
    simp only [Tm.nodes] at hm
    have hkpk := Kept.mk hkp
    have hpik := Kept.mk hpi
    have hqik := Kept.mk hqi
    refine tell_low (Q := putRaw bys kind n s ls args H nx id p q kp) kp id hid (fun j hj => ⟨(hkp j hj).1, (hkp j hj).2.1⟩) ?walk ?tell
    case tell =>
      clear ih
      rintro H' nx' r ⟨h1, h2, h3⟩
      have hfix : ∀ j o, kp j = true → H' j = some o → o.isIt = false ∧ FixL nx o.cells := fun j o hj ho => (hkp j hj).2.2 o ((h2 j hj).symm.trans ho)
      rcases h3 with ⟨h3, rfl⟩ | ⟨ls', args', a, b, h3, h4, rfl, h5, h6, h7⟩
      · exact ⟨rfl, hfix, none, 0, (fun _ h => by cases h), fun H2 g1 g2 => ⟨h1, fun j hj => (g1 j hj).trans (h2 j hj), .inl ⟨h3, rfl⟩⟩⟩
      · have hput : (Tm.mk kind n s ls args).putL bys = some (.mk kind n s ls' args') := by simp only [Tm.putL, h3, h4]
        refine ⟨rfl, hfix, some (p ++ ((Tm.mk kind n s ls' args').pv ++ q)), 1, fun cs' e => ?_, fun H2 g1 g2 => ⟨h1, fun j hj => (g1 j hj).trans (h2 j hj), .inr ⟨_, hput, rfl, g2⟩⟩⟩
        cases e
        refine ⟨_, h5, by simp; omega, ?_⟩
        rw [List.map_append, frgF_immL _ _ _ p hpi]
        refine (WeakL.refl _).append ?_
        simp only [List.map_cons, frgF_sc, Tm.pv, List.cons_append, List.nil_append]
        rw [frgF_immL _ _ _ q hqi]
        refine ⟨.refl _, .refl _, .refl _, h6.frg (fun e he => ?_) _ (fun j hj => by simpa using hj), h7.frg (fun e he => ?_) _ (fun j hj => by simpa using hj), .refl _⟩
        · obtain ⟨x, _, rfl⟩ := List.mem_map.1 he; exact pv_len x
        · obtain ⟨x, _, rfl⟩ := List.mem_map.1 he; exact tm_len x
    case walk =>
    clear hkp hpi hqi
    refine mut_by is_term_putLevels (by simp) fun hb => ?_
    have hb0 : ls.length ≤ 9223372036854775807 ∧ args.length ≤ 9223372036854775807 := by simp [Tm.pv, bndL, PV.bnd] at hb; omega
    clear hb
    rw [zero5] at hH
    have at0 : ∀ x, List.take off (p ++ x) = p := fun x => List.take_left' hoff
    have at1 : ∀ x i, List.take (off + i) (p ++ x) = p ++ List.take i x := fun x i => at_take p x off i hoff
    have at2 : ∀ x i, List.drop (off + i) (p ++ x) = List.drop i x := fun x i => at_drop p x off i hoff
    have at3 : off + 1 ≤ off + (q.length + 5) ∧ off + 2 ≤ off + (q.length + 5) ∧ off + 3 ≤ off + (q.length + 5) ∧ off + 4 ≤ off + (q.length + 5) ∧ off + 5 ≤ off + (q.length + 5) := by omega
    have at4 : ∀ x, List.drop off (p ++ x) = x := fun x => List.drop_left' hoff
    have hla := len_nodesT args
    have hll := len_nodesL ls
    have hz1 : 80 * (args.length : Int) ≤ 2 ^ 47 := by omega
    have hz2 : (args.length : Int) ≤ 2 ^ 47 := by omega
    have hz3 : 40 * (ls.length : Int) ≤ 2 ^ 47 := by omega
    have hz4 : (ls.length : Int) ≤ 2 ^ 47 := by omega
    have hkp2 := Kept.mk fun j (hj : kp j = true) => (⟨(hkpk.out j hj).1, (hkpk.out j hj).2.1⟩ : j ≠ id ∧ j < nx)
    have ihk := Kept.mk ih
    clear ih
    by_cases hl0 : ls.length = 0
    · obtain rfl : ls = [] := List.eq_nil_of_length_eq_zero hl0
      repeat' (first | ((with_reducible first | refine wA (by omega) ?_ | refine wB (by omega) ?_ | refine wC (by omega) ?_ | refine wD (by omega) ?_ | refine wE ?_ ?_ | refine wF ?_ ?_ | refine wG ?_ ?_ | refine wH ?_ ?_ | refine wI ?_ ?_ | refine wJ ?_ ?_ | refine wK ?_ ?_ | refine wL ?_ ?_) <;> intro _) | simp (maxSteps := 1000000) (disch := omega) only [go_sem, Nat.reduceAdd, Nat.reduceMul, Nat.reduceSub, Nat.reduceLeDiff, Nat.reduceEqDiff, Nat.reduceBEq, ↓reduceIte, reduceCtorEq, Int.reduceEq, Int.reduceLE, Int.reduceLT, Int.reduceAdd, Int.reduceSub, Int.reduceNeg, Int.reduceToNat, Int.reduceNe, Nat.reducePow, Nat.reduceShiftRight, Nat.reduceMod, mc_term_putLevels, Tm.pv, at0, at1, at2, at3, at4, List.take_succ_cons, List.drop_succ_cons, List.take_zero, List.drop_zero, List.cons_append, List.nil_append, hz1, hz2, hz3, hz4, and_self, *])
      refine c_loopW 151115722948229019468736 (by kernel_rfl) (fun j f H2 m => f 52 = .sc (.int .i64 0) ∧ nx ≤ m ∧ Kept (∀ j, kp j = true → H2 j = H j) ∧ H2 id = some ⟨p ++ (.sc (.int .i64 kind) :: .sc (.int .i64 n) :: .sc (.string s) :: .sc (.slice none 0 0) :: .sc (.slice none 0 0) :: q), true⟩) 0 ⟨cE1, Nat.le_add_right _ _, Kept.mk (fun j hj => by have := hkp2.out j hj; simp [upd, this.1]), upd_same _ _ _⟩ ?_
      clear hl0 hH
      rintro _ f H2 m ⟨e52, hm2, hkk, hHi⟩
      have hysk : Kept (insts bys [] = some []) := Kept.mk rfl
      have hrow : RowP H2 nx m 3 (.sc (.slice none 0 0)) (([] : List Lv).map Lv.pv) := .inl ⟨rfl, rfl⟩
      by_cases ha0 : args.length = 0
      · obtain rfl : args = [] := List.eq_nil_of_length_eq_zero ha0
        have hrk := Kept.mk hrow
        clear hrow ihk
        repeat' (first | ((with_reducible first | refine wA (by omega) ?_ | refine wB (by omega) ?_ | refine wC (by omega) ?_ | refine wD (by omega) ?_ | refine wE ?_ ?_ | refine wF ?_ ?_ | refine wG ?_ ?_ | refine wH ?_ ?_ | refine wI ?_ ?_ | refine wJ ?_ ?_ | refine wK ?_ ?_ | refine wL ?_ ?_) <;> intro _) | simp (maxSteps := 1000000) (disch := omega) only [go_sem, Nat.reduceAdd, Nat.reduceMul, Nat.reduceSub, Nat.reduceLeDiff, Nat.reduceEqDiff, Nat.reduceBEq, ↓reduceIte, reduceCtorEq, Int.reduceEq, Int.reduceLE, Int.reduceLT, Int.reduceAdd, Int.reduceSub, Int.reduceNeg, Int.reduceToNat, Int.reduceNe, Nat.reducePow, Nat.reduceShiftRight, Nat.reduceMod, at0, at1, at2, at3, at4, List.take_succ_cons, List.drop_succ_cons, List.take_zero, List.drop_zero, List.cons_append, List.nil_append, hz1, hz2, hz3, hz4, and_self, *])
        refine c_rounds 1 ?_
        repeat' (first | ((with_reducible first | refine wA (by omega) ?_ | refine wB (by omega) ?_ | refine wC (by omega) ?_ | refine wD (by omega) ?_ | refine wE ?_ ?_ | refine wF ?_ ?_ | refine wG ?_ ?_ | refine wH ?_ ?_ | refine wI ?_ ?_ | refine wJ ?_ ?_ | refine wK ?_ ?_ | refine wL ?_ ?_) <;> intro _) | simp (maxSteps := 1000000) (disch := omega) only [go_sem, Nat.reduceAdd, Nat.reduceMul, Nat.reduceSub, Nat.reduceLeDiff, Nat.reduceEqDiff, Nat.reduceBEq, ↓reduceIte, reduceCtorEq, Int.reduceEq, Int.reduceLE, Int.reduceLT, Int.reduceAdd, Int.reduceSub, Int.reduceNeg, Int.reduceToNat, Int.reduceNe, Nat.reducePow, Nat.reduceShiftRight, Nat.reduceMod, rounds_next, *])
        exact fin_mut (.sc (.bool true)) (.inr rfl) cE2 (show putRaw bys kind n s [] [] H nx id p q kp _ _ _ from ⟨Nat.le_trans hm2 (Nat.le_add_right _ _), hkk.out, .inr ⟨([] : List Lv), [], (.sc (.slice none 0 0)), .sc (.slice none 0 0), hysk.out, rfl, rfl, hHi, hrk.out.mono (Nat.le_add_right _ _) (fun _ _ _ _ => rfl), .inl ⟨rfl, rfl⟩⟩⟩)
      · have ha00 : 0 < args.length := by omega
        have hrk := Kept.mk hrow
        clear hrow
        repeat' (first | ((with_reducible first | refine wA (by omega) ?_ | refine wB (by omega) ?_ | refine wC (by omega) ?_ | refine wD (by omega) ?_ | refine wE ?_ ?_ | refine wF ?_ ?_ | refine wG ?_ ?_ | refine wH ?_ ?_ | refine wI ?_ ?_ | refine wJ ?_ ?_ | refine wK ?_ ?_ | refine wL ?_ ?_) <;> intro _) | simp (maxSteps := 1000000) (disch := omega) only [go_sem, Nat.reduceAdd, Nat.reduceMul, Nat.reduceSub, Nat.reduceLeDiff, Nat.reduceEqDiff, Nat.reduceBEq, ↓reduceIte, reduceCtorEq, Int.reduceEq, Int.reduceLE, Int.reduceLT, Int.reduceAdd, Int.reduceSub, Int.reduceNeg, Int.reduceToNat, Int.reduceNe, Nat.reducePow, Nat.reduceShiftRight, Nat.reduceMod, at0, at1, at2, at3, at4, List.take_succ_cons, List.drop_succ_cons, List.take_zero, List.drop_zero, List.cons_append, List.nil_append, hz1, hz2, hz3, hz4, and_self, *])
        refine c_loopW 83076591280232213527812754179621952 (by kernel_rfl) (fun j f H3 m3 => ∃ (i2 : Nat) (zs : List Tm), j = args.length - i2 ∧ i2 ≤ args.length ∧ f 97 = .sc (.int .i64 i2) ∧ m + 13 < m3 ∧ Kept (putLs bys (args.take i2) = some zs) ∧ Kept (zs.length = i2) ∧ Kept (∀ j, kp j = true → H3 j = H j) ∧
          H3 id = some ⟨p ++ (.sc (.int .i64 kind) :: .sc (.int .i64 n) :: .sc (.string s) :: (.sc (.slice none 0 0)) :: .osl (m + 13) 0 args.length 5 :: q), true⟩ ∧ Kept (H3 (m + 13) = some ⟨zs.flatMap Tm.pv ++ zeros [.int .i64 0, .int .i64 0, .string ⟨#[]⟩, .slice none 0 0, .slice none 0 0] (args.length - i2), true⟩) ∧ Kept (RowP H3 nx m 3 (.sc (.slice none 0 0)) (([] : List Lv).map Lv.pv))) _
          ⟨0, [], rfl, cE1, cE1, Nat.add_lt_add_left (by omega) _, Kept.mk rfl, Kept.mk rfl, Kept.mk (fun j hj => by have h1 := hkp2.out j hj; exact ((upd_ne _ _ h1.1).trans (upd_ne _ _ (show j ≠ m + 13 by omega))).trans (hkk.out j hj)), upd_same _ _ _, Kept.mk ((upd_ne _ _ (show m + 13 ≠ id by omega)).trans ((upd_same _ _ _).trans rfl)), Kept.mk (hrk.out.mono (Nat.le_refl _) fun j g1 g2 _ => (upd_ne _ _ (show j ≠ id by omega)).trans (upd_ne _ _ (show j ≠ m + 13 by omega)))⟩ ?_
        clear hkk hrk hHi
        rintro _ f3 H3 m3 ⟨i2, zs, rfl, hi2, e97, hm3, hzs, hzl, hkk, hHi, hHb, hrk⟩
        by_cases hlt2 : i2 < args.length
        · have eg : args[i2]? = some args[i2] := List.getElem?_eq_getElem hlt2
          have hn := nodesT_mem args i2 hlt2
          have hs := sizeL_mem args i2 hlt2
          repeat' (first | ((with_reducible first | refine wA (by omega) ?_ | refine wB (by omega) ?_ | refine wC (by omega) ?_ | refine wD (by omega) ?_ | refine wE ?_ ?_ | refine wF ?_ ?_ | refine wG ?_ ?_ | refine wH ?_ ?_ | refine wI ?_ ?_ | refine wJ ?_ ?_ | refine wK ?_ ?_ | refine wL ?_ ?_) <;> intro _) | simp (maxSteps := 1000000) (disch := omega) only [go_sem, Nat.reduceAdd, Nat.reduceMul, Nat.reduceSub, Nat.reduceLeDiff, Nat.reduceEqDiff, Nat.reduceBEq, ↓reduceIte, reduceCtorEq, Int.reduceEq, Int.reduceLE, Int.reduceLT, Int.reduceAdd, Int.reduceSub, Int.reduceNeg, Int.reduceToNat, Int.reduceNe, Nat.reducePow, Nat.reduceShiftRight, Nat.reduceMod, at0, at1, at2, at3, at4, List.take_succ_cons, List.drop_succ_cons, List.take_zero, List.drop_zero, List.cons_append, List.nil_append, hz1, hz2, hz3, hz4, and_self, *])
          obtain ⟨r, hr⟩ : ∃ r, args.length - i2 = r + 1 := ⟨args.length - i2 - 1, by omega⟩
          have hHb2 := hHb.out
          rw [hr] at hHb2
          refine call_mut (ihk.out args[i2] (by omega) (by omega) _ _ (m + 13) (i2 * 5) (zs.flatMap Tm.pv) (zeros [.int .i64 0, .int .i64 0, .string ⟨#[]⟩, .slice none 0 0, .slice none 0 0] r) (fun j => kp j || decide (j = id) || leads (.sc (.slice none 0 0)) j) hHb2 (Nat.lt_of_lt_of_le hm3 (Nat.le_add_right _ _)) (by rw [flat_lenG _ 5 tm_len, hzl.out]) (tms_immF zs) (zeros_imm r) ?kp) ?_
          case kp =>
            intro j hj
            simp only [Bool.or_eq_true, decide_eq_true_eq] at hj
            rcases hj with (hj | rfl) | hj
            · have h1 := hkpk.out j hj
              refine ⟨by omega, Nat.lt_of_lt_of_le (by omega : j < m3) (Nat.le_add_right _ _), fun o ho => ?_⟩
              have h2 := h1.2.2 o ((hkk.out j hj).symm.trans ho)
              exact ⟨h2.1, h2.2.mono (Nat.le_trans (by omega : nx ≤ m3) (Nat.le_add_right _ _))⟩
            · refine ⟨by omega, Nat.lt_of_lt_of_le (by omega : j < m3) (Nat.le_add_right _ _), fun o ho => ?_⟩
              have ho2 := hHi.symm.trans ho
              cases ho2
              refine ⟨isIt_len (by simp; omega), ?_⟩
              exact (FixL.imm hpik.out).append (.cons rfl (.cons rfl (.cons rfl (hrk.out.fix (Nat.le_trans (by omega : m ≤ m3) (Nat.le_add_right _ _)) (.osl (Nat.lt_of_lt_of_le hm3 (Nat.le_add_right _ _)) (.imm hqik.out))))))
            · have h1 := hrk.out.lead (flat3_ne1 _) (lvs_immF _) hj (m3 + 15)
              refine ⟨by omega, Nat.lt_of_lt_of_le (by omega : j < m3) (Nat.le_add_right _ _), fun o ho => (hrk.out.lead (flat3_ne1 _) (lvs_immF _) hj _).2.2 o ho⟩
          rintro H' nx' r' ⟨hn1, hk1, hcase⟩ -
          have hn2 : m3 ≤ nx' := Nat.le_trans (Nat.le_add_right _ _) hn1
          have hkk' : Kept (∀ j, kp j = true → H' j = H j) := Kept.mk fun j hj => (hk1 j (by simp [hj])).trans (hkk.out j hj)
          have hHi' : H' id = _ := (hk1 id (by simp)).trans hHi
          have hrk' : Kept (RowP H' nx m 3 (.sc (.slice none 0 0)) (([] : List Lv).map Lv.pv)) := Kept.mk (hrk.out.mono (Nat.le_refl _) fun j g1 g2 g3 => hk1 j (by simp [g3]))
          rcases hcase with ⟨hno, rfl⟩ | ⟨y, hy, rfl, hrow'⟩
          · have hnok : Kept ((Tm.mk kind n s [] args).putL bys = none) := Kept.mk (by
              simp only [Tm.putL, putLs_none bys args i2 hlt2 hno]
              cases insts bys [] <;> rfl)
            clear hno hk1 hkk hHi hrk hHb hHb2 ihk hn1
            repeat' (first | ((with_reducible first | refine wA (by omega) ?_ | refine wB (by omega) ?_ | refine wC (by omega) ?_ | refine wD (by omega) ?_ | refine wE ?_ ?_ | refine wF ?_ ?_ | refine wG ?_ ?_ | refine wH ?_ ?_ | refine wI ?_ ?_ | refine wJ ?_ ?_ | refine wK ?_ ?_ | refine wL ?_ ?_) <;> intro _) | simp (maxSteps := 1000000) (disch := omega) only [go_sem, Nat.reduceAdd, Nat.reduceMul, Nat.reduceSub, Nat.reduceLeDiff, Nat.reduceEqDiff, Nat.reduceBEq, ↓reduceIte, reduceCtorEq, Int.reduceEq, Int.reduceLE, Int.reduceLT, Int.reduceAdd, Int.reduceSub, Int.reduceNeg, Int.reduceToNat, Int.reduceNe, Nat.reducePow, Nat.reduceShiftRight, Nat.reduceMod, at0, at1, at2, at3, at4, List.take_succ_cons, List.drop_succ_cons, List.take_zero, List.drop_zero, List.cons_append, List.nil_append, hz1, hz2, hz3, hz4, and_self, *])
            exact fin_mut (.sc (.bool false)) (.inr rfl) cE2 (show putRaw bys kind n s [] args H nx id p q kp _ _ _ from ⟨Nat.le_trans (by omega : nx ≤ nx') (Nat.le_add_right _ _), hkk'.out, .inl ⟨hnok.out, rfl⟩⟩)
          · have hsn := putLs_snoc bys args[i2] (args.take i2) zs hzs.out
            rw [hy, Option.map_some] at hsn
            have hzs2 : Kept (putLs bys (args.take (i2 + 1)) = some (zs ++ [y])) := Kept.mk (by rw [List.take_succ_eq_append_getElem hlt2]; exact hsn)
            have hrowk : Kept (H' (m + 13) = some ⟨(zs ++ [y]).flatMap Tm.pv ++ zeros [.int .i64 0, .int .i64 0, .string ⟨#[]⟩, .slice none 0 0, .slice none 0 0] (args.length - (i2 + 1)), true⟩) := Kept.mk (by
              rw [hrow', show args.length - (i2 + 1) = r by omega, List.flatMap_append]
              simp)
            clear hy hsn hk1 hkk hHi hrk hHb hHb2 ihk hn1 hrow' hzs
            repeat' (first | ((with_reducible first | refine wA (by omega) ?_ | refine wB (by omega) ?_ | refine wC (by omega) ?_ | refine wD (by omega) ?_ | refine wE ?_ ?_ | refine wF ?_ ?_ | refine wG ?_ ?_ | refine wH ?_ ?_ | refine wI ?_ ?_ | refine wJ ?_ ?_ | refine wK ?_ ?_ | refine wL ?_ ?_) <;> intro _) | simp (maxSteps := 1000000) (disch := omega) only [go_sem, Nat.reduceAdd, Nat.reduceMul, Nat.reduceSub, Nat.reduceLeDiff, Nat.reduceEqDiff, Nat.reduceBEq, ↓reduceIte, reduceCtorEq, Int.reduceEq, Int.reduceLE, Int.reduceLT, Int.reduceAdd, Int.reduceSub, Int.reduceNeg, Int.reduceToNat, Int.reduceNe, Nat.reducePow, Nat.reduceShiftRight, Nat.reduceMod, at0, at1, at2, at3, at4, List.take_succ_cons, List.drop_succ_cons, List.take_zero, List.drop_zero, List.cons_append, List.nil_append, hz1, hz2, hz3, hz4, and_self, *])
            exact Nx.mk (args.length - (i2 + 1)) cE1 ⟨i2 + 1, zs ++ [y], rfl, cE1, cE1, Nat.lt_of_lt_of_le (by omega : m + 13 < nx') (Nat.le_add_right _ _), hzs2, Kept.mk (by simp [hzl.out]), hkk', hHi', hrowk, hrk'⟩
        · obtain rfl : i2 = args.length := by omega
          have hzs' := hzs.out
          rw [List.take_length] at hzs'
          have hzk := Kept.mk hzs'
          have hHb' : Kept (H3 (m + 13) = some ⟨zs.flatMap Tm.pv, true⟩) := Kept.mk (by rw [hHb.out, Nat.sub_self]; simp [zeros])
          clear hzs' hzs hHb ihk
          repeat' (first | ((with_reducible first | refine wA (by omega) ?_ | refine wB (by omega) ?_ | refine wC (by omega) ?_ | refine wD (by omega) ?_ | refine wE ?_ ?_ | refine wF ?_ ?_ | refine wG ?_ ?_ | refine wH ?_ ?_ | refine wI ?_ ?_ | refine wJ ?_ ?_ | refine wK ?_ ?_ | refine wL ?_ ?_) <;> intro _) | simp (maxSteps := 1000000) (disch := omega) only [go_sem, Nat.reduceAdd, Nat.reduceMul, Nat.reduceSub, Nat.reduceLeDiff, Nat.reduceEqDiff, Nat.reduceBEq, ↓reduceIte, reduceCtorEq, Int.reduceEq, Int.reduceLE, Int.reduceLT, Int.reduceAdd, Int.reduceSub, Int.reduceNeg, Int.reduceToNat, Int.reduceNe, Nat.reducePow, Nat.reduceShiftRight, Nat.reduceMod, at0, at1, at2, at3, at4, List.take_succ_cons, List.drop_succ_cons, List.take_zero, List.drop_zero, List.cons_append, List.nil_append, hz1, hz2, hz3, hz4, and_self, *])
          exact fin_mut (.sc (.bool true)) (.inr rfl) cE2 (show putRaw bys kind n s [] args H nx id p q kp _ _ _ from ⟨Nat.le_trans (by omega : nx ≤ m3) (Nat.le_add_right _ _), hkk.out, .inr ⟨([] : List Lv), zs, (.sc (.slice none 0 0)), .osl (m + 13) 0 args.length 5, hysk.out, hzk.out, rfl, hHi, hrk.out.mono (Nat.le_trans (by omega : m ≤ m3) (Nat.le_add_right _ _)) (fun _ _ _ _ => rfl), .inr ⟨m + 13, by omega, Nat.lt_of_lt_of_le hm3 (Nat.le_add_right _ _), by rw [List.length_map, hzl.out], hHb'.out.trans (by rw [List.flatMap_def])⟩⟩⟩)
    · have hl00 : 0 < ls.length := by omega
      repeat' (first | ((with_reducible first | refine wA (by omega) ?_ | refine wB (by omega) ?_ | refine wC (by omega) ?_ | refine wD (by omega) ?_ | refine wE ?_ ?_ | refine wF ?_ ?_ | refine wG ?_ ?_ | refine wH ?_ ?_ | refine wI ?_ ?_ | refine wJ ?_ ?_ | refine wK ?_ ?_ | refine wL ?_ ?_) <;> intro _) | simp (maxSteps := 1000000) (disch := omega) only [go_sem, Nat.reduceAdd, Nat.reduceMul, Nat.reduceSub, Nat.reduceLeDiff, Nat.reduceEqDiff, Nat.reduceBEq, ↓reduceIte, reduceCtorEq, Int.reduceEq, Int.reduceLE, Int.reduceLT, Int.reduceAdd, Int.reduceSub, Int.reduceNeg, Int.reduceToNat, Int.reduceNe, Nat.reducePow, Nat.reduceShiftRight, Nat.reduceMod, mc_term_putLevels, Tm.pv, at0, at1, at2, at3, at4, List.take_succ_cons, List.drop_succ_cons, List.take_zero, List.drop_zero, List.cons_append, List.nil_append, hz1, hz2, hz3, hz4, and_self, *])
      refine c_loopW 151115722948229019468736 (by kernel_rfl) (fun j f H2 m => ∃ (i : Nat) (ys : List Lv) (a : PV), j = ls.length - i ∧ i ≤ ls.length ∧ f 52 = .sc (.int .i64 i) ∧ nx ≤ m ∧ Kept (insts bys (ls.take i) = some ys) ∧ Kept (ys.length = i) ∧ Kept (∀ j, kp j = true → H2 j = H j) ∧
        H2 id = some ⟨p ++ (.sc (.int .i64 kind) :: .sc (.int .i64 n) :: .sc (.string s) :: a :: .sc (.slice none 0 0) :: q), true⟩ ∧ ∃ idr, nx ≤ idr ∧ idr < m ∧ a = .osl idr 0 ls.length 3 ∧ H2 idr = some ⟨halfG Lv.pv z3 ys (ls.length - i), true⟩) _ ⟨0, [], _, rfl, cE1, cE1, Nat.le_add_right _ _, Kept.mk rfl, Kept.mk rfl, Kept.mk (fun j hj => by have := hkp2.out j hj; simp [upd, this.1]; try omega), upd_same _ _ _, _, Nat.le_add_right _ _, Nat.add_lt_add_left (by omega) _, rfl, (upd_ne _ _ (show nx + 37 ≠ id by omega)).trans ((upd_same _ _ _).trans rfl)⟩ ?_
      clear hl0 hH
      rintro _ f H2 m ⟨i, ys, _, rfl, hi, e52, hm2, hys, hyl, hkk, hHi, idr, hr1, hr2, rfl, hr3⟩
      by_cases hlt : i < ls.length
      · have eg : ls[i]? = some ls[i] := List.getElem?_eq_getElem hlt
        have c1 := Inst_p ls[i] bys
        rw [← instV_eq] at c1
        simp only [lvs] at c1
        cases hv : ls[i].instV bys with
        | none =>
          have hnok : Kept ((Tm.mk kind n s ls args).putL bys = none) := Kept.mk (by simp only [Tm.putL, insts_none bys ls i hlt hv])
          rw [hv] at c1
          simp only [instPV] at c1
          clear ihk hv
          repeat' (first | ((with_reducible first | refine wA (by omega) ?_ | refine wB (by omega) ?_ | refine wC (by omega) ?_ | refine wD (by omega) ?_ | refine wE ?_ ?_ | refine wF ?_ ?_ | refine wG ?_ ?_ | refine wH ?_ ?_ | refine wI ?_ ?_ | refine wJ ?_ ?_ | refine wK ?_ ?_ | refine wL ?_ ?_) <;> intro _) | (((with_reducible refine call_id ?_); (first | (refine call_pure (c1) ?_)))) | simp (maxSteps := 1000000) (disch := omega) only [go_sem, Nat.reduceAdd, Nat.reduceMul, Nat.reduceSub, Nat.reduceLeDiff, Nat.reduceEqDiff, Nat.reduceBEq, ↓reduceIte, reduceCtorEq, Int.reduceEq, Int.reduceLE, Int.reduceLT, Int.reduceAdd, Int.reduceSub, Int.reduceNeg, Int.reduceToNat, Int.reduceNe, Nat.reducePow, Nat.reduceShiftRight, Nat.reduceMod, at0, at1, at2, at3, at4, List.take_succ_cons, List.drop_succ_cons, List.take_zero, List.drop_zero, List.cons_append, List.nil_append, hz1, hz2, hz3, hz4, and_self, *])
          exact fin_mut (.sc (.bool false)) (.inr rfl) cE2 (show putRaw bys kind n s ls args H nx id p q kp _ _ _ from ⟨Nat.le_trans hm2 (Nat.le_add_right _ _), (fun j hj => by have h1 := hkp2.out j hj; have h2 := hkk.out j hj; simp [upd, show j ≠ m + 15 by omega, h2]), .inl ⟨hnok.out, rfl⟩⟩)
        | some y =>
          rw [hv] at c1
          simp only [instPV] at c1
          have hsn := insts_snoc bys ls[i] (ls.take i) ys hys.out
          rw [hv, Option.map_some] at hsn
          have hys2 : Kept (insts bys (ls.take (i + 1)) = some (ys ++ [y])) := Kept.mk (by rw [List.take_succ_eq_append_getElem hlt]; exact hsn)
          have hhl := halfG_len (g := Lv.pv) pv_len (rfl : z3.length = 3) ys (ls.length - i)
          rw [hyl.out] at hhl
          have hhs := halfG_set' (g := Lv.pv) pv_len (rfl : z3.length = 3) ys i ls.length y hlt hyl.out
          have hle : i * 3 + 3 ≤ i * 3 + (ls.length - i) * 3 := by omega
          clear ihk hv hsn hys
          repeat' (first | ((with_reducible first | refine wA (by omega) ?_ | refine wB (by omega) ?_ | refine wC (by omega) ?_ | refine wD (by omega) ?_ | refine wE ?_ ?_ | refine wF ?_ ?_ | refine wG ?_ ?_ | refine wH ?_ ?_ | refine wI ?_ ?_ | refine wJ ?_ ?_ | refine wK ?_ ?_ | refine wL ?_ ?_) <;> intro _) | (((with_reducible refine call_id ?_); (first | (refine call_pure (c1) ?_)))) | simp (maxSteps := 1000000) (disch := omega) only [go_sem, Nat.reduceAdd, Nat.reduceMul, Nat.reduceSub, Nat.reduceLeDiff, Nat.reduceEqDiff, Nat.reduceBEq, ↓reduceIte, reduceCtorEq, Int.reduceEq, Int.reduceLE, Int.reduceLT, Int.reduceAdd, Int.reduceSub, Int.reduceNeg, Int.reduceToNat, Int.reduceNe, Nat.reducePow, Nat.reduceShiftRight, Nat.reduceMod, at0, at1, at2, at3, at4, List.take_succ_cons, List.drop_succ_cons, List.take_zero, List.drop_zero, List.cons_append, List.nil_append, hz1, hz2, hz3, hz4, and_self, *])
          exact Nx.mk (ls.length - (i + 1)) cE1 ⟨i + 1, ys ++ [y], _, rfl, cE1, cE1, Nat.le_trans hm2 (Nat.le_add_right _ _), hys2, Kept.mk (by simp [hyl.out]), Kept.mk (fun j hj => by have h1 := hkp2.out j hj; have h2 := hkk.out j hj; simp [upd, show j ≠ m + 15 by omega, show j ≠ idr by omega, h2]), by (simp [upd, show id ≠ m + 15 by omega, show id ≠ idr by omega]; exact hHi), idr, hr1, Nat.lt_of_lt_of_le hr2 (Nat.le_add_right _ _), rfl, upd_same _ _ _⟩
      · obtain rfl : i = ls.length := by omega
        have hys' := hys.out
        rw [List.take_length] at hys'
        have hysk := Kept.mk hys'
        have hrow : RowP H2 nx m 3 (.osl idr 0 ls.length 3) (ys.map Lv.pv) := .inr ⟨idr, hr1, hr2, by rw [List.length_map, hyl.out], by rw [hr3, Nat.sub_self, halfG, List.flatMap_def]; simp [zeros]⟩
        clear hys hys' hr3
        by_cases ha0 : args.length = 0
        · obtain rfl : args = [] := List.eq_nil_of_length_eq_zero ha0
          have hrk := Kept.mk hrow
          clear hrow ihk
          repeat' (first | ((with_reducible first | refine wA (by omega) ?_ | refine wB (by omega) ?_ | refine wC (by omega) ?_ | refine wD (by omega) ?_ | refine wE ?_ ?_ | refine wF ?_ ?_ | refine wG ?_ ?_ | refine wH ?_ ?_ | refine wI ?_ ?_ | refine wJ ?_ ?_ | refine wK ?_ ?_ | refine wL ?_ ?_) <;> intro _) | simp (maxSteps := 1000000) (disch := omega) only [go_sem, Nat.reduceAdd, Nat.reduceMul, Nat.reduceSub, Nat.reduceLeDiff, Nat.reduceEqDiff, Nat.reduceBEq, ↓reduceIte, reduceCtorEq, Int.reduceEq, Int.reduceLE, Int.reduceLT, Int.reduceAdd, Int.reduceSub, Int.reduceNeg, Int.reduceToNat, Int.reduceNe, Nat.reducePow, Nat.reduceShiftRight, Nat.reduceMod, at0, at1, at2, at3, at4, List.take_succ_cons, List.drop_succ_cons, List.take_zero, List.drop_zero, List.cons_append, List.nil_append, hz1, hz2, hz3, hz4, and_self, *])
          refine c_rounds 1 ?_
          repeat' (first | ((with_reducible first | refine wA (by omega) ?_ | refine wB (by omega) ?_ | refine wC (by omega) ?_ | refine wD (by omega) ?_ | refine wE ?_ ?_ | refine wF ?_ ?_ | refine wG ?_ ?_ | refine wH ?_ ?_ | refine wI ?_ ?_ | refine wJ ?_ ?_ | refine wK ?_ ?_ | refine wL ?_ ?_) <;> intro _) | simp (maxSteps := 1000000) (disch := omega) only [go_sem, Nat.reduceAdd, Nat.reduceMul, Nat.reduceSub, Nat.reduceLeDiff, Nat.reduceEqDiff, Nat.reduceBEq, ↓reduceIte, reduceCtorEq, Int.reduceEq, Int.reduceLE, Int.reduceLT, Int.reduceAdd, Int.reduceSub, Int.reduceNeg, Int.reduceToNat, Int.reduceNe, Nat.reducePow, Nat.reduceShiftRight, Nat.reduceMod, rounds_next, *])
          exact fin_mut (.sc (.bool true)) (.inr rfl) cE2 (show putRaw bys kind n s ls [] H nx id p q kp _ _ _ from ⟨Nat.le_trans hm2 (Nat.le_add_right _ _), hkk.out, .inr ⟨ys, [], (.osl idr 0 ls.length 3), .sc (.slice none 0 0), hysk.out, rfl, rfl, hHi, hrk.out.mono (Nat.le_add_right _ _) (fun _ _ _ _ => rfl), .inl ⟨rfl, rfl⟩⟩⟩)
        · have ha00 : 0 < args.length := by omega
          have hrk := Kept.mk hrow
          clear hrow
          repeat' (first | ((with_reducible first | refine wA (by omega) ?_ | refine wB (by omega) ?_ | refine wC (by omega) ?_ | refine wD (by omega) ?_ | refine wE ?_ ?_ | refine wF ?_ ?_ | refine wG ?_ ?_ | refine wH ?_ ?_ | refine wI ?_ ?_ | refine wJ ?_ ?_ | refine wK ?_ ?_ | refine wL ?_ ?_) <;> intro _) | simp (maxSteps := 1000000) (disch := omega) only [go_sem, Nat.reduceAdd, Nat.reduceMul, Nat.reduceSub, Nat.reduceLeDiff, Nat.reduceEqDiff, Nat.reduceBEq, ↓reduceIte, reduceCtorEq, Int.reduceEq, Int.reduceLE, Int.reduceLT, Int.reduceAdd, Int.reduceSub, Int.reduceNeg, Int.reduceToNat, Int.reduceNe, Nat.reducePow, Nat.reduceShiftRight, Nat.reduceMod, at0, at1, at2, at3, at4, List.take_succ_cons, List.drop_succ_cons, List.take_zero, List.drop_zero, List.cons_append, List.nil_append, hz1, hz2, hz3, hz4, and_self, *])
          refine c_loopW 83076591280232213527812754179621952 (by kernel_rfl) (fun j f H3 m3 => ∃ (i2 : Nat) (zs : List Tm), j = args.length - i2 ∧ i2 ≤ args.length ∧ f 97 = .sc (.int .i64 i2) ∧ m + 13 < m3 ∧ Kept (putLs bys (args.take i2) = some zs) ∧ Kept (zs.length = i2) ∧ Kept (∀ j, kp j = true → H3 j = H j) ∧
            H3 id = some ⟨p ++ (.sc (.int .i64 kind) :: .sc (.int .i64 n) :: .sc (.string s) :: (.osl idr 0 ls.length 3) :: .osl (m + 13) 0 args.length 5 :: q), true⟩ ∧ Kept (H3 (m + 13) = some ⟨zs.flatMap Tm.pv ++ zeros [.int .i64 0, .int .i64 0, .string ⟨#[]⟩, .slice none 0 0, .slice none 0 0] (args.length - i2), true⟩) ∧ Kept (RowP H3 nx m 3 (.osl idr 0 ls.length 3) (ys.map Lv.pv))) _
            ⟨0, [], rfl, cE1, cE1, Nat.add_lt_add_left (by omega) _, Kept.mk rfl, Kept.mk rfl, Kept.mk (fun j hj => by have h1 := hkp2.out j hj; exact ((upd_ne _ _ h1.1).trans (upd_ne _ _ (show j ≠ m + 13 by omega))).trans (hkk.out j hj)), upd_same _ _ _, Kept.mk ((upd_ne _ _ (show m + 13 ≠ id by omega)).trans ((upd_same _ _ _).trans rfl)), Kept.mk (hrk.out.mono (Nat.le_refl _) fun j g1 g2 _ => (upd_ne _ _ (show j ≠ id by omega)).trans (upd_ne _ _ (show j ≠ m + 13 by omega)))⟩ ?_
          clear hkk hrk hHi
          rintro _ f3 H3 m3 ⟨i2, zs, rfl, hi2, e97, hm3, hzs, hzl, hkk, hHi, hHb, hrk⟩
          by_cases hlt2 : i2 < args.length
          · have eg : args[i2]? = some args[i2] := List.getElem?_eq_getElem hlt2
            have hn := nodesT_mem args i2 hlt2
            have hs := sizeL_mem args i2 hlt2
            repeat' (first | ((with_reducible first | refine wA (by omega) ?_ | refine wB (by omega) ?_ | refine wC (by omega) ?_ | refine wD (by omega) ?_ | refine wE ?_ ?_ | refine wF ?_ ?_ | refine wG ?_ ?_ | refine wH ?_ ?_ | refine wI ?_ ?_ | refine wJ ?_ ?_ | refine wK ?_ ?_ | refine wL ?_ ?_) <;> intro _) | simp (maxSteps := 1000000) (disch := omega) only [go_sem, Nat.reduceAdd, Nat.reduceMul, Nat.reduceSub, Nat.reduceLeDiff, Nat.reduceEqDiff, Nat.reduceBEq, ↓reduceIte, reduceCtorEq, Int.reduceEq, Int.reduceLE, Int.reduceLT, Int.reduceAdd, Int.reduceSub, Int.reduceNeg, Int.reduceToNat, Int.reduceNe, Nat.reducePow, Nat.reduceShiftRight, Nat.reduceMod, at0, at1, at2, at3, at4, List.take_succ_cons, List.drop_succ_cons, List.take_zero, List.drop_zero, List.cons_append, List.nil_append, hz1, hz2, hz3, hz4, and_self, *])
            obtain ⟨r, hr⟩ : ∃ r, args.length - i2 = r + 1 := ⟨args.length - i2 - 1, by omega⟩
            have hHb2 := hHb.out
            rw [hr] at hHb2
            refine call_mut (ihk.out args[i2] (by omega) (by omega) _ _ (m + 13) (i2 * 5) (zs.flatMap Tm.pv) (zeros [.int .i64 0, .int .i64 0, .string ⟨#[]⟩, .slice none 0 0, .slice none 0 0] r) (fun j => kp j || decide (j = id) || leads (.osl idr 0 ls.length 3) j) hHb2 (Nat.lt_of_lt_of_le hm3 (Nat.le_add_right _ _)) (by rw [flat_lenG _ 5 tm_len, hzl.out]) (tms_immF zs) (zeros_imm r) ?kp) ?_
            case kp =>
              intro j hj
              simp only [Bool.or_eq_true, decide_eq_true_eq] at hj
              rcases hj with (hj | rfl) | hj
              · have h1 := hkpk.out j hj
                refine ⟨by omega, Nat.lt_of_lt_of_le (by omega : j < m3) (Nat.le_add_right _ _), fun o ho => ?_⟩
                have h2 := h1.2.2 o ((hkk.out j hj).symm.trans ho)
                exact ⟨h2.1, h2.2.mono (Nat.le_trans (by omega : nx ≤ m3) (Nat.le_add_right _ _))⟩
              · refine ⟨by omega, Nat.lt_of_lt_of_le (by omega : j < m3) (Nat.le_add_right _ _), fun o ho => ?_⟩
                have ho2 := hHi.symm.trans ho
                cases ho2
                refine ⟨isIt_len (by simp; omega), ?_⟩
                exact (FixL.imm hpik.out).append (.cons rfl (.cons rfl (.cons rfl (hrk.out.fix (Nat.le_trans (by omega : m ≤ m3) (Nat.le_add_right _ _)) (.osl (Nat.lt_of_lt_of_le hm3 (Nat.le_add_right _ _)) (.imm hqik.out))))))
              · have h1 := hrk.out.lead (flat3_ne1 _) (lvs_immF _) hj (m3 + 15)
                refine ⟨by omega, Nat.lt_of_lt_of_le (by omega : j < m3) (Nat.le_add_right _ _), fun o ho => (hrk.out.lead (flat3_ne1 _) (lvs_immF _) hj _).2.2 o ho⟩
            rintro H' nx' r' ⟨hn1, hk1, hcase⟩ -
            have hn2 : m3 ≤ nx' := Nat.le_trans (Nat.le_add_right _ _) hn1
            have hkk' : Kept (∀ j, kp j = true → H' j = H j) := Kept.mk fun j hj => (hk1 j (by simp [hj])).trans (hkk.out j hj)
            have hHi' : H' id = _ := (hk1 id (by simp)).trans hHi
            have hrk' : Kept (RowP H' nx m 3 (.osl idr 0 ls.length 3) (ys.map Lv.pv)) := Kept.mk (hrk.out.mono (Nat.le_refl _) fun j g1 g2 g3 => hk1 j (by simp [g3]))
            rcases hcase with ⟨hno, rfl⟩ | ⟨y, hy, rfl, hrow'⟩
            · have hnok : Kept ((Tm.mk kind n s ls args).putL bys = none) := Kept.mk (by
                simp only [Tm.putL, putLs_none bys args i2 hlt2 hno]
                cases insts bys ls <;> rfl)
              clear hno hk1 hkk hHi hrk hHb hHb2 ihk hn1
              repeat' (first | ((with_reducible first | refine wA (by omega) ?_ | refine wB (by omega) ?_ | refine wC (by omega) ?_ | refine wD (by omega) ?_ | refine wE ?_ ?_ | refine wF ?_ ?_ | refine wG ?_ ?_ | refine wH ?_ ?_ | refine wI ?_ ?_ | refine wJ ?_ ?_ | refine wK ?_ ?_ | refine wL ?_ ?_) <;> intro _) | simp (maxSteps := 1000000) (disch := omega) only [go_sem, Nat.reduceAdd, Nat.reduceMul, Nat.reduceSub, Nat.reduceLeDiff, Nat.reduceEqDiff, Nat.reduceBEq, ↓reduceIte, reduceCtorEq, Int.reduceEq, Int.reduceLE, Int.reduceLT, Int.reduceAdd, Int.reduceSub, Int.reduceNeg, Int.reduceToNat, Int.reduceNe, Nat.reducePow, Nat.reduceShiftRight, Nat.reduceMod, at0, at1, at2, at3, at4, List.take_succ_cons, List.drop_succ_cons, List.take_zero, List.drop_zero, List.cons_append, List.nil_append, hz1, hz2, hz3, hz4, and_self, *])
              exact fin_mut (.sc (.bool false)) (.inr rfl) cE2 (show putRaw bys kind n s ls args H nx id p q kp _ _ _ from ⟨Nat.le_trans (by omega : nx ≤ nx') (Nat.le_add_right _ _), hkk'.out, .inl ⟨hnok.out, rfl⟩⟩)
            · have hsn := putLs_snoc bys args[i2] (args.take i2) zs hzs.out
              rw [hy, Option.map_some] at hsn
              have hzs2 : Kept (putLs bys (args.take (i2 + 1)) = some (zs ++ [y])) := Kept.mk (by rw [List.take_succ_eq_append_getElem hlt2]; exact hsn)
              have hrowk : Kept (H' (m + 13) = some ⟨(zs ++ [y]).flatMap Tm.pv ++ zeros [.int .i64 0, .int .i64 0, .string ⟨#[]⟩, .slice none 0 0, .slice none 0 0] (args.length - (i2 + 1)), true⟩) := Kept.mk (by
                rw [hrow', show args.length - (i2 + 1) = r by omega, List.flatMap_append]
                simp)
              clear hy hsn hk1 hkk hHi hrk hHb hHb2 ihk hn1 hrow' hzs
              repeat' (first | ((with_reducible first | refine wA (by omega) ?_ | refine wB (by omega) ?_ | refine wC (by omega) ?_ | refine wD (by omega) ?_ | refine wE ?_ ?_ | refine wF ?_ ?_ | refine wG ?_ ?_ | refine wH ?_ ?_ | refine wI ?_ ?_ | refine wJ ?_ ?_ | refine wK ?_ ?_ | refine wL ?_ ?_) <;> intro _) | simp (maxSteps := 1000000) (disch := omega) only [go_sem, Nat.reduceAdd, Nat.reduceMul, Nat.reduceSub, Nat.reduceLeDiff, Nat.reduceEqDiff, Nat.reduceBEq, ↓reduceIte, reduceCtorEq, Int.reduceEq, Int.reduceLE, Int.reduceLT, Int.reduceAdd, Int.reduceSub, Int.reduceNeg, Int.reduceToNat, Int.reduceNe, Nat.reducePow, Nat.reduceShiftRight, Nat.reduceMod, at0, at1, at2, at3, at4, List.take_succ_cons, List.drop_succ_cons, List.take_zero, List.drop_zero, List.cons_append, List.nil_append, hz1, hz2, hz3, hz4, and_self, *])
              exact Nx.mk (args.length - (i2 + 1)) cE1 ⟨i2 + 1, zs ++ [y], rfl, cE1, cE1, Nat.lt_of_lt_of_le (by omega : m + 13 < nx') (Nat.le_add_right _ _), hzs2, Kept.mk (by simp [hzl.out]), hkk', hHi', hrowk, hrk'⟩
          · obtain rfl : i2 = args.length := by omega
            have hzs' := hzs.out
            rw [List.take_length] at hzs'
            have hzk := Kept.mk hzs'
            have hHb' : Kept (H3 (m + 13) = some ⟨zs.flatMap Tm.pv, true⟩) := Kept.mk (by rw [hHb.out, Nat.sub_self]; simp [zeros])
            clear hzs' hzs hHb ihk
            repeat' (first | ((with_reducible first | refine wA (by omega) ?_ | refine wB (by omega) ?_ | refine wC (by omega) ?_ | refine wD (by omega) ?_ | refine wE ?_ ?_ | refine wF ?_ ?_ | refine wG ?_ ?_ | refine wH ?_ ?_ | refine wI ?_ ?_ | refine wJ ?_ ?_ | refine wK ?_ ?_ | refine wL ?_ ?_) <;> intro _) | simp (maxSteps := 1000000) (disch := omega) only [go_sem, Nat.reduceAdd, Nat.reduceMul, Nat.reduceSub, Nat.reduceLeDiff, Nat.reduceEqDiff, Nat.reduceBEq, ↓reduceIte, reduceCtorEq, Int.reduceEq, Int.reduceLE, Int.reduceLT, Int.reduceAdd, Int.reduceSub, Int.reduceNeg, Int.reduceToNat, Int.reduceNe, Nat.reducePow, Nat.reduceShiftRight, Nat.reduceMod, at0, at1, at2, at3, at4, List.take_succ_cons, List.drop_succ_cons, List.take_zero, List.drop_zero, List.cons_append, List.nil_append, hz1, hz2, hz3, hz4, and_self, *])
            exact fin_mut (.sc (.bool true)) (.inr rfl) cE2 (show putRaw bys kind n s ls args H nx id p q kp _ _ _ from ⟨Nat.le_trans (by omega : nx ≤ m3) (Nat.le_add_right _ _), hkk.out, .inr ⟨ys, zs, (.osl idr 0 ls.length 3), .osl (m + 13) 0 args.length 5, hysk.out, hzk.out, rfl, hHi, hrk.out.mono (Nat.le_trans (by omega : m ≤ m3) (Nat.le_add_right _ _)) (fun _ _ _ _ => rfl), .inr ⟨m + 13, by omega, Nat.lt_of_lt_of_le hm3 (Nat.le_add_right _ _), by rw [List.length_map, hzl.out], hHb'.out.trans (by rw [List.flatMap_def])⟩⟩⟩)
end
end Go.Proofs.Ytnoilfjeamffnaa
