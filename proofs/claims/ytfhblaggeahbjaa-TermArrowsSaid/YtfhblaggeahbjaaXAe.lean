/-
  Plain values: TmN, TmO, TmQ, TmR, TmS, TmU, TmT, TmG, TmV, TmX, TmY, TmZ, Tm1, LvM, LvS, TnA, TnC.
-/
import Derived.Lib.SlicesS
import Derived.RangeFuncKeeps
import Derived.RangeFuncBound
import Derived.RangeFuncLeaves
import Derived.TacticsInMore
import Derived.Test.YtfhblaggeahbjaaXAa
import Derived.Test.YtfhblaggeahbjaaXAb
import Derived.Test.YtfhblaggeahbjaaXAc
import Derived.Test.YtfhblaggeahbjaaXAd
set_option linter.unusedVariables false
set_option linter.unusedSimpArgs false
namespace Go.Proofs.Ytfhblaggeahbjaa
open Go.RowKit
attribute [local go_sem ↓] c_seq c_region c_cond c_block c_ret c_skip c_exit c_cont t_normal t_ret t_exit b_normal b_ret b_exit run_nil run_cons g_some o_mv o_pick o_bin o_un o_ld o_bld o_len o_mkf o_nilc o_fa o_fd o_ia o_iaa o_ix o_ixs o_ext o_al o_bxf o_bxt o_bsl o_bslf o_mks o_st o_stf o_call o_rng o_nxt o_callm o_calvm o_calv cond_true cond_false upd_get sigF_cons o_eqa o_mm o_app o_slc
attribute [local go_sem] num_nil num_cons chunks rngV next_is next_iter val_some new_some st_some stf_some guard_tt guard_ff guard_tf guard_ft guard_un calv_fn put_some put_none ev_tmp ev_const ev_func sig_eq sigF_nil q0 q1 nilcV faV fdV iaV iaaV ixV ixsV extV mksV loadP storeP lenPV binPV unPV intBin partsP fillP zeros PV.good PV.cellsOf PV.one q2 q3 q4 q5 q6 q7 q8 q9 q10 q11 q12 q13 q14 q15 q16 q17 q18 q19 q20 q21 q22 q23 q24 q25 q26 q27 q28 q29 q30 q31 q32 q33 q34 q35 q36 q37 q38 wrap64 app_some mmL mmV mm2 eqE eqParts eqInt eqBool eqStr partV q39 q40 pickV q41 q42 q43 q44 q45 q46 q47 q48 q49 appE oldOf rowOf updL q50 q51 q52 q53 zlt ovr_get ite_neN ite_eqN q54 q55 q56 q57 q58 q59 q60 q61 q62 q63 q64 q65 q66 q67 tailP_f tailP_t tailF_f tailF_t slcP bndO capO slcLen intOf Option.isSome_none Option.isNone_none Option.isSome_some Option.isNone_some nilP slc_sl slc_csl slc_osl slc_osl0 slc_ocap slc_str List.append_nil List.length_append resP resPs resP1 PV.sc.injEq Value.bool.injEq Value.int.injEq
section
set_option maxRecDepth 20000
attribute [local go_sem] pv_len pv_take Nat.add_assoc tm_len tm_take pv_one tm_one tpvB_len tpvB_take tpvB_one pvB_len pvB_take pvB_one id_ne id_ne' id_ne2 List.append_assoc
def ptrB (f : Bool) (cs : List PV) : PV := if f = true then .fptr cs else .ptr cs
theorem lenPV_slB {f : Bool} {sz : Nat} {es : List (List PV)} : lenPV false (slB f sz es) = some es.length := by cases f <;> rfl
attribute [local go_sem] lenPV_slB
theorem iaV_slB_f {f : Bool} {sz : Nat} {es : List (List PV)} {k : IntKind} {n : Int} : iaV (slB f sz es) (.sc (.int k n)) sz false = if 0 ≤ n then (es[n.toNat]?).map .ptr else none := by
  cases f <;> (simp only [slB, Bool.false_eq_true, if_false, if_true, iaV, and_true]; rfl)
attribute [local go_sem] iaV_slB_f
theorem iaV_slB_t {f : Bool} {sz : Nat} {es : List (List PV)} {k : IntKind} {n : Int} : iaV (slB f sz es) (.sc (.int k n)) sz true = if 0 ≤ n then (es[n.toNat]?).map (fun _ => ptrB f (es.drop n.toNat).flatten) else none := by
  cases f <;> (simp only [slB, Bool.false_eq_true, if_false, if_true, iaV, and_true]; rfl)
attribute [local go_sem] iaV_slB_t
theorem ptrOf_B {f : Bool} {cs : List PV} : ptrOf (ptrB f cs) = some (f, cs) := by cases f <;> rfl
theorem slB_bnd {f : Bool} {sz : Nat} {es : List (List PV)} : (slB f sz es).bnd ↔ es.length ≤ 9223372036854775807 ∧ bndLL es := by cases f <;> rfl
theorem sc_eq {V : Vw} {a b v : Value} (h : Rep V (.sc a) v) (k : Rep V (.sc b) v) : a = b := by
  cases h; cases k; rfl
theorem repl_cons {V : Vw} {x : PV} {xs : List PV} {vs : List Value} (h : RepL V (x :: xs) vs) : ∃ v r, vs = v :: r ∧ Rep V x v ∧ RepL V xs r := by
  match vs, h with
  | v :: r, h => exact ⟨v, r, rfl, h.2 0 x v rfl rfl, by simpa using h.1, fun i a b ha hb => h.2 (i + 1) a b (by simpa using ha) (by simpa using hb)⟩
  | [], h => exact absurd h.1 (by simp)
theorem ptr_both {V : Vw} {xs ys : List PV} {v : Value} (h : Rep V (.ptr xs) v) (k : Rep V (.ptr ys) v) (hl : xs.length = ys.length) : ∃ vs, RepL V xs vs ∧ RepL V ys vs := by
  obtain ⟨b, off, vs, rfl, _, h1, h2⟩ := h.ptr_inv
  obtain ⟨b', off', us, e, _, k1, k2⟩ := k.ptr_inv
  cases e
  have : vs = us := by
    apply List.ext_getElem (by rw [h1.1, k1.1, hl])
    intro i hi hj
    have a := h2 i vs[i] (List.getElem?_eq_getElem hi)
    have c := k2 i us[i] (List.getElem?_eq_getElem hj)
    rw [a] at c
    exact Option.some.inj c
  subst this
  exact ⟨vs, h1, k1⟩
theorem sl_both {α : Type} {V : Vw} {f : α → List PV} {sz : Nat} {xs ys : List α} {v : Value} (hf : ∀ x, (f x).length = sz) (h : Rep V (.sl sz (xs.map f)) v) (k : Rep V (.sl sz (ys.map f)) v) :
    xs.length = ys.length ∧ ∃ vs, RepL V (xs.map f).flatten vs ∧ RepL V (ys.map f).flatten vs := by
  have hl : ∀ {zs : List α} {A : Option Addr} {len cap : Nat}, Rep V (.sl sz (zs.map f)) (.slice A len cap) → zs.length = len := by
    intro zs A len cap h
    generalize he : zs.map f = es at h
    cases h with
    | slNil => simpa using he
    | sl _ _ b off len cap hlen => rw [← he] at hlen; simpa using hlen
  have hv : ∃ A len cap, v = .slice A len cap := by
    generalize xs.map f = es at h
    cases h with
    | slNil _ A cap => exact ⟨_, _, _, rfl⟩
    | sl _ _ b off len cap => exact ⟨_, _, _, rfl⟩
  obtain ⟨A, len, cap, rfl⟩ := hv
  have e := (hl h).trans (hl k).symm
  refine ⟨e, ?_⟩
  by_cases h0 : xs = []
  · subst h0
    obtain rfl : ys = [] := List.eq_nil_of_length_eq_zero (by simpa using e.symm)
    exact ⟨[], RepL.nil, RepL.nil⟩
  · have h1 : ∃ b off, A = some ⟨b, off, none⟩ ∧ Rep V (.ptr (xs.map f).flatten) (.pointer (some ⟨b, off, none⟩)) := by
      generalize he : xs.map f = es at h
      cases h with
      | slNil => exact absurd (by simpa using he) h0
      | sl _ _ b off len cap _ _ _ _ hp => exact ⟨b, off, rfl, hp⟩
    obtain ⟨b, off, rfl, hp⟩ := h1
    have h2 : Rep V (.ptr (ys.map f).flatten) (.pointer (some ⟨b, off, none⟩)) := by
      generalize he : ys.map f = es at k
      cases k with
      | slNil => exact absurd (List.eq_nil_of_length_eq_zero (by rw [e]; simpa using he)) h0
      | sl _ _ b off len cap _ _ _ _ hp => exact hp
    have hfl : ∀ zs : List α, (zs.map f).flatten.length = zs.length * sz := fun zs => by
      rw [← List.flatMap_def]
      exact flat_lenG f sz hf zs
    exact ptr_both hp h2 (by rw [hfl, hfl, e])
theorem rows_both {α : Type} {V : Vw} {f : α → List PV} {sz : Nat} (hf : ∀ x, (f x).length = sz) : ∀ (xs ys : List α), xs.length = ys.length → (∀ x ∈ xs, ∀ y vs, RepL V (f x) vs → RepL V (f y) vs → x = y) → ∀ vs, RepL V (xs.map f).flatten vs → RepL V (ys.map f).flatten vs → xs = ys
  | [], [], _, _, _, _, _ => rfl
  | x :: r, y :: s, hl, hx, vs, h, k => by
    simp only [List.map_cons, List.flatten_cons] at h k
    have h1 := h.take sz
    have k1 := k.take sz
    have h2 := h.drop sz
    have k2 := k.drop sz
    rw [List.take_left' (hf x)] at h1
    rw [List.take_left' (hf y)] at k1
    rw [List.drop_left' (hf x)] at h2
    rw [List.drop_left' (hf y)] at k2
    rw [hx x (by simp) y _ h1 k1, rows_both hf r s (by simpa using hl) (fun z hz => hx z (by simp [hz])) _ h2 k2]
  | [], _ :: _, hl, _, _, _, _ => by simp at hl
  | _ :: _, [], hl, _, _, _, _ => by simp at hl
theorem lv_both {V : Vw} : ∀ (fuel : Nat) (x : Lv), x.nodes ≤ fuel → ∀ (y : Lv) vs, RepL V x.pv vs → RepL V y.pv vs → x = y := by
  intro fuel
  induction fuel with
  | zero => intro x h; have := nodes_pos x; omega
  | succ fuel ih =>
    intro x hx y vs h k
    cases x with
    | mk a n args =>
    cases y with
    | mk b m args' =>
    simp only [Lv.nodes] at hx
    simp only [Lv.pv] at h k
    obtain ⟨v0, r0, rfl, h0, h⟩ := repl_cons h
    obtain ⟨v1, r1, rfl, h1, h⟩ := repl_cons h
    obtain ⟨v2, r2, rfl, h2, h⟩ := repl_cons h
    obtain ⟨_, _, e, k0, k⟩ := repl_cons k
    cases e
    obtain ⟨_, _, e, k1, k⟩ := repl_cons k
    cases e
    obtain ⟨_, _, e, k2, k⟩ := repl_cons k
    cases e
    cases sc_eq h0 k0
    cases sc_eq h1 k1
    obtain ⟨hl, vs, p, q⟩ := sl_both pv_len h2 k2
    rw [rows_both pv_len args args' hl (fun z hz => ih z (by
      obtain ⟨i, hi, rfl⟩ := List.getElem_of_mem hz
      have := nodesL_mem args i hi
      omega)) vs p q]
theorem tm_both {V : Vw} : ∀ (fuel : Nat) (x : Tm), x.size ≤ fuel → ∀ (y : Tm) vs, RepL V x.pv vs → RepL V y.pv vs → x = y := by
  intro fuel
  induction fuel with
  | zero => intro x h; have := size_pos x; omega
  | succ fuel ih =>
    intro x hx y vs h k
    cases x with
    | mk a n s ls args =>
    cases y with
    | mk b m s' ls' args' =>
    simp only [Tm.size] at hx
    simp only [Tm.pv] at h k
    obtain ⟨v0, r0, rfl, h0, h⟩ := repl_cons h
    obtain ⟨v1, r1, rfl, h1, h⟩ := repl_cons h
    obtain ⟨v2, r2, rfl, h2, h⟩ := repl_cons h
    obtain ⟨v3, r3, rfl, h3, h⟩ := repl_cons h
    obtain ⟨v4, r4, rfl, h4, h⟩ := repl_cons h
    obtain ⟨_, _, e, k0, k⟩ := repl_cons k
    cases e
    obtain ⟨_, _, e, k1, k⟩ := repl_cons k
    cases e
    obtain ⟨_, _, e, k2, k⟩ := repl_cons k
    cases e
    obtain ⟨_, _, e, k3, k⟩ := repl_cons k
    cases e
    obtain ⟨_, _, e, k4, k⟩ := repl_cons k
    cases e
    cases sc_eq h0 k0
    cases sc_eq h1 k1
    cases sc_eq h2 k2
    obtain ⟨hl, vs, p, q⟩ := sl_both pv_len h3 k3
    rw [rows_both pv_len ls ls' hl (fun z hz => lv_both z.nodes z (Nat.le_refl _)) vs p q]
    obtain ⟨hl, vs, p, q⟩ := sl_both tm_len h4 k4
    rw [rows_both tm_len args args' hl (fun z hz => ih z (by
      obtain ⟨i, hi, rfl⟩ := List.getElem_of_mem hz
      have := sizeL_mem args i hi
      omega)) vs p q]
theorem meet_lvs {f g : Bool} {xs ys : List Lv} (hl : xs.length = ys.length) (h : Meet (xs.map (Lv.pvB f)).flatten (ys.map (Lv.pvB g)).flatten) : xs = ys := by
  obtain ⟨V, v, p, q⟩ := h
  have p' := Weak.ptr (WeakL.rows xs fun x _ => lv_weak' f x) V v p
  have q' := Weak.ptr (WeakL.rows ys fun x _ => lv_weak' g x) V v q
  have hfl : ∀ zs : List Lv, (zs.map Lv.pv).flatten.length = zs.length * 3 := fun zs => by
    rw [← List.flatMap_def]
    exact flat_lenG _ 3 pv_len zs
  obtain ⟨vs, h1, h2⟩ := ptr_both p' q' (by rw [hfl, hfl, hl])
  exact rows_both pv_len xs ys hl (fun z hz => lv_both z.nodes z (Nat.le_refl _)) vs h1 h2
theorem meet_tms {f g : Bool} {xs ys : List Tm} (hl : xs.length = ys.length) (h : Meet (xs.map (Tm.pvB f)).flatten (ys.map (Tm.pvB g)).flatten) : xs = ys := by
  obtain ⟨V, v, p, q⟩ := h
  have p' := Weak.ptr (WeakL.rows xs fun x _ => tm_weak f x) V v p
  have q' := Weak.ptr (WeakL.rows ys fun x _ => tm_weak g x) V v q
  have hfl : ∀ zs : List Tm, (zs.map Tm.pv).flatten.length = zs.length * 5 := fun zs => by
    rw [← List.flatMap_def]
    exact flat_lenG _ 5 tm_len zs
  obtain ⟨vs, h1, h2⟩ := ptr_both p' q' (by rw [hfl, hfl, hl])
  exact rows_both tm_len xs ys hl (fun z hz => tm_both z.size z (Nat.le_refl _)) vs h1 h2
theorem sameL_refl (xs : List Lv) : sameL xs xs = true := (sameL_iff xs xs rfl).2 rfl
theorem flat_ne {α : Type} {f : α → List PV} {sz : Nat} (hf : ∀ x, (f x).length = sz + 1) {xs : List α} (h : 0 < xs.length) : (xs.map f).flatten ≠ [] := by
  match xs, h with
  | x :: r, _ =>
    intro e
    have := hf x
    simp only [List.map_cons, List.flatten_cons, List.append_eq_nil_iff] at e
    rw [e.1] at this
    simp at this
set_option maxHeartbeats 8000000 in
theorem sameLevels_p (f g : Bool) (hfg : (f || g) = true) : ∀ (fuel : Nat) (xs ys : List Lv), nodesL xs < fuel → PPure Try.prog F.term_sameLevels [slB f 3 (xs.map (Lv.pvB f)), slB g 3 (ys.map (Lv.pvB g))] (.sc (.bool (decide (xs.length = ys.length) && sameL xs ys))) := by
  intro fuel
  induction fuel with
  | zero => intro xs ys h; omega
  | succ fuel ih =>
    intro xs ys hf
    refine pure_by is_term_sameLevels (by simp) rfl fun hb nx => ?_
    have hb0 : xs.length ≤ 9223372036854775807 ∧ ys.length ≤ 9223372036854775807 := by simp [bndL, slB_bnd] at hb; exact ⟨hb.1.1, hb.2.1⟩
    by_cases hl : xs.length = ys.length
    · by_cases h0 : xs.length = 0
      · obtain rfl : xs = [] := List.eq_nil_of_length_eq_zero h0
        obtain rfl : ys = [] := List.eq_nil_of_length_eq_zero hl.symm
        clear ih
        repeat' (first | ((with_reducible first | refine cond_pos (by omega) ?_ | refine cond_neg (by omega) ?_ | refine guard_pos (by omega) ?_ | refine guard_neg (by omega) ?_ | refine cond_ifn ?_ ?_ | refine cond_waysn ?_ ?_ | refine guard_ifn ?_ ?_ | refine guard_waysn ?_ ?_ | refine cond_if ?_ ?_ | refine cond_ways ?_ ?_ | refine guard_if ?_ ?_ | refine guard_ways ?_ ?_) <;> intro _) | simp (maxSteps := 1000000) (disch := omega) only [↓c_seq, ↓c_region, ↓c_cond, ↓c_block, ↓c_ret, ↓c_skip, ↓c_exit, ↓c_cont, ↓t_normal, ↓t_ret, ↓t_exit, ↓b_normal, ↓b_ret, ↓b_exit, ↓run_nil, ↓run_cons, num_nil, num_cons, ↓g_some, ↓o_mv, ↓o_pick, ↓o_bin, ↓o_un, ↓o_ld, ↓o_bld, ↓o_len, ↓o_mkf, ↓o_nilc, ↓o_fa, ↓o_fd, ↓o_ia, ↓o_iaa, ↓o_ix, ↓o_ixs, ↓o_ext, ↓o_al, ↓o_bxf, ↓o_bxt, ↓o_bsl, ↓o_bslf, chunks, ↓o_mks, ↓o_st, ↓o_stf, ↓o_call, ↓o_rng, ↓o_nxt, rngV, next_is, next_iter, ↓o_callm, ↓o_calvm, ↓o_calv, val_some, new_some, st_some, stf_some, guard_tt, guard_ff, guard_tf, guard_ft, guard_un, ↓cond_true, ↓cond_false, calv_fn, put_some, put_none, ev_tmp, ev_const, ev_func, ↓upd_get, sig_eq, sigF_nil, ↓sigF_cons, q0, q1, nilcV, faV, fdV, iaaV, ixV, ixsV, extV, mksV, loadP, storeP, binPV, unPV, intBin, partsP, fillP, zeros, PV.good, PV.cellsOf, PV.one, q2, q3, q4, q5, q6, q7, q8, q9, q10, q11, q12, q13, q14, Nat.reduceAdd, Nat.reduceMul, Nat.reduceSub, Nat.reduceLeDiff, Nat.reduceEqDiff, Nat.reduceBEq, q15, q16, q17, q18, ↓reduceIte, reduceCtorEq, q19, q20, q21, q22, q23, q24, q25, q26, q27, q28, q29, q30, q31, q32, q33, q34, q35, q36, q37, q38, wrap64, ↓o_eqa, ↓o_mm, ↓o_app, app_some, mmL, mmV, mm2, eqE, eqParts, eqInt, eqBool, eqStr, partV, q39, q40, pickV, q41, Int.reduceEq, Int.reduceLE, Int.reduceLT, Int.reduceAdd, Int.reduceSub, Int.reduceNeg, Int.reduceToNat, Int.reduceNe, q42, q43, q44, q45, q46, q47, q48, q49, appE, oldOf, rowOf, updL, q50, q51, q52, q53, Nat.reducePow, zlt, ovr_get, Nat.reduceShiftRight, Nat.reduceMod, ite_neN, ite_eqN, q54, q55, q56, q57, q58, q59, q60, q61, q62, q63, q64, q65, q66, q67, tailP_f, tailP_t, tailF_f, tailF_t, ↓o_slc, slcP, bndO, capO, slcLen, intOf, Option.isSome_none, Option.isNone_none, Option.isSome_some, Option.isNone_some, nilP, slc_sl, slc_csl, slc_osl, slc_osl0, slc_ocap, slc_str, pv_len, pv_take, Nat.add_assoc, tm_len, tm_take, pv_one, tm_one, tpvB_len, tpvB_take, tpvB_one, pvB_len, pvB_take, pvB_one, List.length_append, id_ne, id_ne', id_ne2, List.append_nil, List.append_assoc, lenPV_slB, iaV_slB_f, iaV_slB_t, mc_term_sameLevels, *])
        refine c_rounds 1 ?_
        repeat' (first | ((with_reducible first | refine cond_pos (by omega) ?_ | refine cond_neg (by omega) ?_ | refine guard_pos (by omega) ?_ | refine guard_neg (by omega) ?_ | refine cond_ifn ?_ ?_ | refine cond_waysn ?_ ?_ | refine guard_ifn ?_ ?_ | refine guard_waysn ?_ ?_ | refine cond_if ?_ ?_ | refine cond_ways ?_ ?_ | refine guard_if ?_ ?_ | refine guard_ways ?_ ?_) <;> intro _) | simp (maxSteps := 1000000) (disch := omega) only [↓c_seq, ↓c_region, ↓c_cond, ↓c_block, ↓c_ret, ↓c_skip, ↓c_exit, ↓c_cont, ↓t_normal, ↓t_ret, ↓t_exit, ↓b_normal, ↓b_ret, ↓b_exit, ↓run_nil, ↓run_cons, num_nil, num_cons, ↓g_some, ↓o_mv, ↓o_pick, ↓o_bin, ↓o_un, ↓o_ld, ↓o_bld, ↓o_len, ↓o_mkf, ↓o_nilc, ↓o_fa, ↓o_fd, ↓o_ia, ↓o_iaa, ↓o_ix, ↓o_ixs, ↓o_ext, ↓o_al, ↓o_bxf, ↓o_bxt, ↓o_bsl, ↓o_bslf, chunks, ↓o_mks, ↓o_st, ↓o_stf, ↓o_call, ↓o_rng, ↓o_nxt, rngV, next_is, next_iter, ↓o_callm, ↓o_calvm, ↓o_calv, val_some, new_some, st_some, stf_some, guard_tt, guard_ff, guard_tf, guard_ft, guard_un, ↓cond_true, ↓cond_false, calv_fn, put_some, put_none, ev_tmp, ev_const, ev_func, ↓upd_get, sig_eq, sigF_nil, ↓sigF_cons, q0, q1, nilcV, faV, fdV, iaaV, ixV, ixsV, extV, mksV, loadP, storeP, binPV, unPV, intBin, partsP, fillP, zeros, PV.good, PV.cellsOf, PV.one, q2, q3, q4, q5, q6, q7, q8, q9, q10, q11, q12, q13, q14, Nat.reduceAdd, Nat.reduceMul, Nat.reduceSub, Nat.reduceLeDiff, Nat.reduceEqDiff, Nat.reduceBEq, q15, q16, q17, q18, ↓reduceIte, reduceCtorEq, q19, q20, q21, q22, q23, q24, q25, q26, q27, q28, q29, q30, q31, q32, q33, q34, q35, q36, q37, q38, wrap64, ↓o_eqa, ↓o_mm, ↓o_app, app_some, mmL, mmV, mm2, eqE, eqParts, eqInt, eqBool, eqStr, partV, q39, q40, pickV, q41, Int.reduceEq, Int.reduceLE, Int.reduceLT, Int.reduceAdd, Int.reduceSub, Int.reduceNeg, Int.reduceToNat, Int.reduceNe, q42, q43, q44, q45, q46, q47, q48, q49, appE, oldOf, rowOf, updL, q50, q51, q52, q53, Nat.reducePow, zlt, ovr_get, Nat.reduceShiftRight, Nat.reduceMod, ite_neN, ite_eqN, q54, q55, q56, q57, q58, q59, q60, q61, q62, q63, q64, q65, q66, q67, tailP_f, tailP_t, tailF_f, tailF_t, ↓o_slc, slcP, bndO, capO, slcLen, intOf, Option.isSome_none, Option.isNone_none, Option.isSome_some, Option.isNone_some, nilP, slc_sl, slc_csl, slc_osl, slc_osl0, slc_ocap, slc_str, pv_len, pv_take, Nat.add_assoc, tm_len, tm_take, pv_one, tm_one, tpvB_len, tpvB_take, tpvB_one, pvB_len, pvB_take, pvB_one, List.length_append, id_ne, id_ne', id_ne2, List.append_nil, List.append_assoc, lenPV_slB, iaV_slB_f, iaV_slB_t, rounds_next, *])
        refine fin_tmp (.inr rfl) ?_
        simp [upd, sameL]
      · have h00 : 0 < xs.length := by omega
        have eg : xs[0]? = some xs[0] := List.getElem?_eq_getElem h00
        have eg2 : ys[0]? = some ys[0] := List.getElem?_eq_getElem (by omega)
        repeat' (first | ((with_reducible first | refine cond_pos (by omega) ?_ | refine cond_neg (by omega) ?_ | refine guard_pos (by omega) ?_ | refine guard_neg (by omega) ?_ | refine cond_ifn ?_ ?_ | refine cond_waysn ?_ ?_ | refine guard_ifn ?_ ?_ | refine guard_waysn ?_ ?_ | refine cond_if ?_ ?_ | refine cond_ways ?_ ?_ | refine guard_if ?_ ?_ | refine guard_ways ?_ ?_) <;> intro _) | simp (maxSteps := 1000000) (disch := omega) only [↓c_seq, ↓c_region, ↓c_cond, ↓c_block, ↓c_ret, ↓c_skip, ↓c_exit, ↓c_cont, ↓t_normal, ↓t_ret, ↓t_exit, ↓b_normal, ↓b_ret, ↓b_exit, ↓run_nil, ↓run_cons, num_nil, num_cons, ↓g_some, ↓o_mv, ↓o_pick, ↓o_bin, ↓o_un, ↓o_ld, ↓o_bld, ↓o_len, ↓o_mkf, ↓o_nilc, ↓o_fa, ↓o_fd, ↓o_ia, ↓o_iaa, ↓o_ix, ↓o_ixs, ↓o_ext, ↓o_al, ↓o_bxf, ↓o_bxt, ↓o_bsl, ↓o_bslf, chunks, ↓o_mks, ↓o_st, ↓o_stf, ↓o_call, ↓o_rng, ↓o_nxt, rngV, next_is, next_iter, ↓o_callm, ↓o_calvm, ↓o_calv, val_some, new_some, st_some, stf_some, guard_tt, guard_ff, guard_tf, guard_ft, guard_un, ↓cond_true, ↓cond_false, calv_fn, put_some, put_none, ev_tmp, ev_const, ev_func, ↓upd_get, sig_eq, sigF_nil, ↓sigF_cons, q0, q1, nilcV, faV, fdV, iaaV, ixV, ixsV, extV, mksV, loadP, storeP, binPV, unPV, intBin, partsP, fillP, zeros, PV.good, PV.cellsOf, PV.one, q2, q3, q4, q5, q6, q7, q8, q9, q10, q11, q12, q13, q14, Nat.reduceAdd, Nat.reduceMul, Nat.reduceSub, Nat.reduceLeDiff, Nat.reduceEqDiff, Nat.reduceBEq, q15, q16, q17, q18, ↓reduceIte, reduceCtorEq, q19, q20, q21, q22, q23, q24, q25, q26, q27, q28, q29, q30, q31, q32, q33, q34, q35, q36, q37, q38, wrap64, ↓o_eqa, ↓o_mm, ↓o_app, app_some, mmL, mmV, mm2, eqE, eqParts, eqInt, eqBool, eqStr, partV, q39, q40, pickV, q41, Int.reduceEq, Int.reduceLE, Int.reduceLT, Int.reduceAdd, Int.reduceSub, Int.reduceNeg, Int.reduceToNat, Int.reduceNe, q42, q43, q44, q45, q46, q47, q48, q49, appE, oldOf, rowOf, updL, q50, q51, q52, q53, Nat.reducePow, zlt, ovr_get, Nat.reduceShiftRight, Nat.reduceMod, ite_neN, ite_eqN, q54, q55, q56, q57, q58, q59, q60, q61, q62, q63, q64, q65, q66, q67, tailP_f, tailP_t, tailF_f, tailF_t, ↓o_slc, slcP, bndO, capO, slcLen, intOf, Option.isSome_none, Option.isNone_none, Option.isSome_some, Option.isNone_some, nilP, slc_sl, slc_csl, slc_osl, slc_osl0, slc_ocap, slc_str, pv_len, pv_take, Nat.add_assoc, tm_len, tm_take, pv_one, tm_one, tpvB_len, tpvB_take, tpvB_one, pvB_len, pvB_take, pvB_one, List.length_append, id_ne, id_ne', id_ne2, List.append_nil, List.append_assoc, lenPV_slB, iaV_slB_f, iaV_slB_t, mc_term_sameLevels, *])
        refine o_peq (f := f) (g := g) (cs := (xs.map (Lv.pvB f)).flatten) (ds := (ys.map (Lv.pvB g)).flatten) (n := 2) rfl rfl Try.underlying91 (by kernel_rfl) (by (simp (disch := omega) only [go_sem, Nat.reduceMul, Nat.reduceSub, Nat.reduceShiftRight, Nat.reduceMod, Nat.reduceEqDiff, Nat.reduceAdd, ↓reduceIte, Nat.reduceLeDiff, ev_tmp, ptrOf_B])) (by (simp (disch := omega) only [go_sem, Nat.reduceMul, Nat.reduceSub, Nat.reduceShiftRight, Nat.reduceMod, Nat.reduceEqDiff, Nat.reduceAdd, ↓reduceIte, Nat.reduceLeDiff, ev_tmp, ptrOf_B])) hfg (flat_ne (pvB_len f) h00) (flat_ne (pvB_len g) (by omega)) fun t ht => ?_
        cases t with
        | true =>
          obtain rfl := meet_lvs hl (ht rfl)
          have hrf := sameL_refl xs
          clear ih ht
          repeat' (first | ((with_reducible first | refine cond_pos (by omega) ?_ | refine cond_neg (by omega) ?_ | refine guard_pos (by omega) ?_ | refine guard_neg (by omega) ?_ | refine cond_ifn ?_ ?_ | refine cond_waysn ?_ ?_ | refine guard_ifn ?_ ?_ | refine guard_waysn ?_ ?_ | refine cond_if ?_ ?_ | refine cond_ways ?_ ?_ | refine guard_if ?_ ?_ | refine guard_ways ?_ ?_) <;> intro _) | simp (maxSteps := 1000000) (disch := omega) only [↓c_seq, ↓c_region, ↓c_cond, ↓c_block, ↓c_ret, ↓c_skip, ↓c_exit, ↓c_cont, ↓t_normal, ↓t_ret, ↓t_exit, ↓b_normal, ↓b_ret, ↓b_exit, ↓run_nil, ↓run_cons, num_nil, num_cons, ↓g_some, ↓o_mv, ↓o_pick, ↓o_bin, ↓o_un, ↓o_ld, ↓o_bld, ↓o_len, ↓o_mkf, ↓o_nilc, ↓o_fa, ↓o_fd, ↓o_ia, ↓o_iaa, ↓o_ix, ↓o_ixs, ↓o_ext, ↓o_al, ↓o_bxf, ↓o_bxt, ↓o_bsl, ↓o_bslf, chunks, ↓o_mks, ↓o_st, ↓o_stf, ↓o_call, ↓o_rng, ↓o_nxt, rngV, next_is, next_iter, ↓o_callm, ↓o_calvm, ↓o_calv, val_some, new_some, st_some, stf_some, guard_tt, guard_ff, guard_tf, guard_ft, guard_un, ↓cond_true, ↓cond_false, calv_fn, put_some, put_none, ev_tmp, ev_const, ev_func, ↓upd_get, sig_eq, sigF_nil, ↓sigF_cons, q0, q1, nilcV, faV, fdV, iaaV, ixV, ixsV, extV, mksV, loadP, storeP, binPV, unPV, intBin, partsP, fillP, zeros, PV.good, PV.cellsOf, PV.one, q2, q3, q4, q5, q6, q7, q8, q9, q10, q11, q12, q13, q14, Nat.reduceAdd, Nat.reduceMul, Nat.reduceSub, Nat.reduceLeDiff, Nat.reduceEqDiff, Nat.reduceBEq, q15, q16, q17, q18, ↓reduceIte, reduceCtorEq, q19, q20, q21, q22, q23, q24, q25, q26, q27, q28, q29, q30, q31, q32, q33, q34, q35, q36, q37, q38, wrap64, ↓o_eqa, ↓o_mm, ↓o_app, app_some, mmL, mmV, mm2, eqE, eqParts, eqInt, eqBool, eqStr, partV, q39, q40, pickV, q41, Int.reduceEq, Int.reduceLE, Int.reduceLT, Int.reduceAdd, Int.reduceSub, Int.reduceNeg, Int.reduceToNat, Int.reduceNe, q42, q43, q44, q45, q46, q47, q48, q49, appE, oldOf, rowOf, updL, q50, q51, q52, q53, Nat.reducePow, zlt, ovr_get, Nat.reduceShiftRight, Nat.reduceMod, ite_neN, ite_eqN, q54, q55, q56, q57, q58, q59, q60, q61, q62, q63, q64, q65, q66, q67, tailP_f, tailP_t, tailF_f, tailF_t, ↓o_slc, slcP, bndO, capO, slcLen, intOf, Option.isSome_none, Option.isNone_none, Option.isSome_some, Option.isNone_some, nilP, slc_sl, slc_csl, slc_osl, slc_osl0, slc_ocap, slc_str, pv_len, pv_take, Nat.add_assoc, tm_len, tm_take, pv_one, tm_one, tpvB_len, tpvB_take, tpvB_one, pvB_len, pvB_take, pvB_one, List.length_append, id_ne, id_ne', id_ne2, List.append_nil, List.append_assoc, lenPV_slB, iaV_slB_f, iaV_slB_t, *])
          refine fin_tmp (.inr rfl) ?_
          simp [upd, hrf]
        | false =>
          clear ht eg eg2
          repeat' (first | ((with_reducible first | refine cond_pos (by omega) ?_ | refine cond_neg (by omega) ?_ | refine guard_pos (by omega) ?_ | refine guard_neg (by omega) ?_ | refine cond_ifn ?_ ?_ | refine cond_waysn ?_ ?_ | refine guard_ifn ?_ ?_ | refine guard_waysn ?_ ?_ | refine cond_if ?_ ?_ | refine cond_ways ?_ ?_ | refine guard_if ?_ ?_ | refine guard_ways ?_ ?_) <;> intro _) | simp (maxSteps := 1000000) (disch := omega) only [↓c_seq, ↓c_region, ↓c_cond, ↓c_block, ↓c_ret, ↓c_skip, ↓c_exit, ↓c_cont, ↓t_normal, ↓t_ret, ↓t_exit, ↓b_normal, ↓b_ret, ↓b_exit, ↓run_nil, ↓run_cons, num_nil, num_cons, ↓g_some, ↓o_mv, ↓o_pick, ↓o_bin, ↓o_un, ↓o_ld, ↓o_bld, ↓o_len, ↓o_mkf, ↓o_nilc, ↓o_fa, ↓o_fd, ↓o_ia, ↓o_iaa, ↓o_ix, ↓o_ixs, ↓o_ext, ↓o_al, ↓o_bxf, ↓o_bxt, ↓o_bsl, ↓o_bslf, chunks, ↓o_mks, ↓o_st, ↓o_stf, ↓o_call, ↓o_rng, ↓o_nxt, rngV, next_is, next_iter, ↓o_callm, ↓o_calvm, ↓o_calv, val_some, new_some, st_some, stf_some, guard_tt, guard_ff, guard_tf, guard_ft, guard_un, ↓cond_true, ↓cond_false, calv_fn, put_some, put_none, ev_tmp, ev_const, ev_func, ↓upd_get, sig_eq, sigF_nil, ↓sigF_cons, q0, q1, nilcV, faV, fdV, iaaV, ixV, ixsV, extV, mksV, loadP, storeP, binPV, unPV, intBin, partsP, fillP, zeros, PV.good, PV.cellsOf, PV.one, q2, q3, q4, q5, q6, q7, q8, q9, q10, q11, q12, q13, q14, Nat.reduceAdd, Nat.reduceMul, Nat.reduceSub, Nat.reduceLeDiff, Nat.reduceEqDiff, Nat.reduceBEq, q15, q16, q17, q18, ↓reduceIte, reduceCtorEq, q19, q20, q21, q22, q23, q24, q25, q26, q27, q28, q29, q30, q31, q32, q33, q34, q35, q36, q37, q38, wrap64, ↓o_eqa, ↓o_mm, ↓o_app, app_some, mmL, mmV, mm2, eqE, eqParts, eqInt, eqBool, eqStr, partV, q39, q40, pickV, q41, Int.reduceEq, Int.reduceLE, Int.reduceLT, Int.reduceAdd, Int.reduceSub, Int.reduceNeg, Int.reduceToNat, Int.reduceNe, q42, q43, q44, q45, q46, q47, q48, q49, appE, oldOf, rowOf, updL, q50, q51, q52, q53, Nat.reducePow, zlt, ovr_get, Nat.reduceShiftRight, Nat.reduceMod, ite_neN, ite_eqN, q54, q55, q56, q57, q58, q59, q60, q61, q62, q63, q64, q65, q66, q67, tailP_f, tailP_t, tailF_f, tailF_t, ↓o_slc, slcP, bndO, capO, slcLen, intOf, Option.isSome_none, Option.isNone_none, Option.isSome_some, Option.isNone_some, nilP, slc_sl, slc_csl, slc_osl, slc_osl0, slc_ocap, slc_str, pv_len, pv_take, Nat.add_assoc, tm_len, tm_take, pv_one, tm_one, tpvB_len, tpvB_take, tpvB_one, pvB_len, pvB_take, pvB_one, List.length_append, id_ne, id_ne', id_ne2, List.append_nil, List.append_assoc, lenPV_slB, iaV_slB_f, iaV_slB_t, *])
          refine c_loopW 36893488147410714672 (by kernel_rfl) (fun j F H m => ∃ i : Nat, j = xs.length - i ∧ i ≤ xs.length ∧ F 23 = .sc (.int .i64 i) ∧ sameL (xs.take i) (ys.take i) = true) _ ⟨0, rfl, (by first | assumption | omega | rfl | (simp (disch := omega) only [go_sem, Nat.reduceMul, Nat.reduceSub, Nat.reduceShiftRight, Nat.reduceMod, Nat.reduceEqDiff, Nat.reduceAdd, ↓reduceIte, Nat.reduceLeDiff, *] <;> omega)), (by first | assumption | omega | rfl | (simp (disch := omega) only [go_sem, Nat.reduceMul, Nat.reduceSub, Nat.reduceShiftRight, Nat.reduceMod, Nat.reduceEqDiff, Nat.reduceAdd, ↓reduceIte, Nat.reduceLeDiff, *] <;> omega)), rfl⟩ ?_
          rintro _ F H m ⟨i, rfl, hi, e23, hs⟩
          by_cases hlt : i < xs.length
          · have hlt2 : i < ys.length := by omega
            have eg : xs[i]? = some xs[i] := List.getElem?_eq_getElem hlt
            have eg2 : ys[i]? = some ys[i] := List.getElem?_eq_getElem hlt2
            have hn := nodesL_mem xs i hlt
            have ht := sameL_take xs ys i hlt hlt2
            have hq := sameL_false xs ys i hlt hlt2
            generalize xs[i] = x at *
            generalize ys[i] = y at *
            cases x with
            | mk k1 n1 a1 =>
            cases y with
            | mk k2 n2 a2 =>
            simp only [Lv.nodes] at hn
            simp only [Lv.same] at ht hq
            have hc := ih a1 a2 (by omega)
            have ht' := Kept.mk ht
            have hq' := Kept.mk hq
            have hl' := Kept.mk hl
            clear ih ht hq
            repeat' (first | ((with_reducible first | refine cond_pos (by omega) ?_ | refine cond_neg (by omega) ?_ | refine guard_pos (by omega) ?_ | refine guard_neg (by omega) ?_ | refine cond_ifn ?_ ?_ | refine cond_waysn ?_ ?_ | refine guard_ifn ?_ ?_ | refine guard_waysn ?_ ?_ | refine cond_if ?_ ?_ | refine cond_ways ?_ ?_ | refine guard_if ?_ ?_ | refine guard_ways ?_ ?_) <;> intro _) | (((with_reducible refine call_id ?_); (first | (refine call_pure (hc) ?_)))) | simp (maxSteps := 1000000) (disch := omega) only [↓c_seq, ↓c_region, ↓c_cond, ↓c_block, ↓c_ret, ↓c_skip, ↓c_exit, ↓c_cont, ↓t_normal, ↓t_ret, ↓t_exit, ↓b_normal, ↓b_ret, ↓b_exit, ↓run_nil, ↓run_cons, num_nil, num_cons, ↓g_some, ↓o_mv, ↓o_pick, ↓o_bin, ↓o_un, ↓o_ld, ↓o_bld, ↓o_len, ↓o_mkf, ↓o_nilc, ↓o_fa, ↓o_fd, ↓o_ia, ↓o_iaa, ↓o_ix, ↓o_ixs, ↓o_ext, ↓o_al, ↓o_bxf, ↓o_bxt, ↓o_bsl, ↓o_bslf, chunks, ↓o_mks, ↓o_st, ↓o_stf, ↓o_call, ↓o_rng, ↓o_nxt, rngV, next_is, next_iter, ↓o_callm, ↓o_calvm, ↓o_calv, val_some, new_some, st_some, stf_some, guard_tt, guard_ff, guard_tf, guard_ft, guard_un, ↓cond_true, ↓cond_false, calv_fn, put_some, put_none, ev_tmp, ev_const, ev_func, ↓upd_get, sig_eq, sigF_nil, ↓sigF_cons, q0, q1, nilcV, faV, fdV, iaaV, ixV, ixsV, extV, mksV, loadP, storeP, binPV, unPV, intBin, partsP, fillP, zeros, PV.good, PV.cellsOf, PV.one, q2, q3, q4, q5, q6, q7, q8, q9, q10, q11, q12, q13, q14, Nat.reduceAdd, Nat.reduceMul, Nat.reduceSub, Nat.reduceLeDiff, Nat.reduceEqDiff, Nat.reduceBEq, q15, q16, q17, q18, ↓reduceIte, reduceCtorEq, q19, q20, q21, q22, q23, q24, q25, q26, q27, q28, q29, q30, q31, q32, q33, q34, q35, q36, q37, q38, wrap64, ↓o_eqa, ↓o_mm, ↓o_app, app_some, mmL, mmV, mm2, eqE, eqParts, eqInt, eqBool, eqStr, partV, q39, q40, pickV, q41, Int.reduceEq, Int.reduceLE, Int.reduceLT, Int.reduceAdd, Int.reduceSub, Int.reduceNeg, Int.reduceToNat, Int.reduceNe, q42, q43, q44, q45, q46, q47, q48, q49, appE, oldOf, rowOf, updL, q50, q51, q52, q53, Nat.reducePow, zlt, ovr_get, Nat.reduceShiftRight, Nat.reduceMod, ite_neN, ite_eqN, q54, q55, q56, q57, q58, q59, q60, q61, q62, q63, q64, q65, q66, q67, tailP_f, tailP_t, tailF_f, tailF_t, ↓o_slc, slcP, bndO, capO, slcLen, intOf, Option.isSome_none, Option.isNone_none, Option.isSome_some, Option.isNone_some, nilP, slc_sl, slc_csl, slc_osl, slc_osl0, slc_ocap, slc_str, pv_len, pv_take, Nat.add_assoc, tm_len, tm_take, pv_one, tm_one, tpvB_len, tpvB_take, tpvB_one, pvB_len, pvB_take, pvB_one, List.length_append, id_ne, id_ne', id_ne2, List.append_nil, List.append_assoc, lenPV_slB, iaV_slB_f, iaV_slB_t, Lv.pvB, *])
            all_goals (try (have hqq := hq'.out (by simp [*]); refine fin_tmp (.inr rfl) ?_; simp [upd, hqq]; done))
            refine Nx.mk (xs.length - (i + 1)) (by first | assumption | omega | rfl | (simp (disch := omega) only [go_sem, Nat.reduceMul, Nat.reduceSub, Nat.reduceShiftRight, Nat.reduceMod, Nat.reduceEqDiff, Nat.reduceAdd, ↓reduceIte, Nat.reduceLeDiff, *] <;> omega)) ⟨i + 1, (by first | assumption | omega | rfl | (simp (disch := omega) only [go_sem, Nat.reduceMul, Nat.reduceSub, Nat.reduceShiftRight, Nat.reduceMod, Nat.reduceEqDiff, Nat.reduceAdd, ↓reduceIte, Nat.reduceLeDiff, *] <;> omega)), (by first | assumption | omega | rfl | (simp (disch := omega) only [go_sem, Nat.reduceMul, Nat.reduceSub, Nat.reduceShiftRight, Nat.reduceMod, Nat.reduceEqDiff, Nat.reduceAdd, ↓reduceIte, Nat.reduceLeDiff, *] <;> omega)), (by first | assumption | omega | rfl | (simp (disch := omega) only [go_sem, Nat.reduceMul, Nat.reduceSub, Nat.reduceShiftRight, Nat.reduceMod, Nat.reduceEqDiff, Nat.reduceAdd, ↓reduceIte, Nat.reduceLeDiff, *] <;> omega)), by rw [ht'.out]; simp [*]⟩
          · obtain rfl : i = xs.length := by omega
            have e : ys.take xs.length = ys := List.take_of_length_le (by omega)
            rw [List.take_length, e] at hs
            clear ih
            repeat' (first | ((with_reducible first | refine cond_pos (by omega) ?_ | refine cond_neg (by omega) ?_ | refine guard_pos (by omega) ?_ | refine guard_neg (by omega) ?_ | refine cond_ifn ?_ ?_ | refine cond_waysn ?_ ?_ | refine guard_ifn ?_ ?_ | refine guard_waysn ?_ ?_ | refine cond_if ?_ ?_ | refine cond_ways ?_ ?_ | refine guard_if ?_ ?_ | refine guard_ways ?_ ?_) <;> intro _) | simp (maxSteps := 1000000) (disch := omega) only [↓c_seq, ↓c_region, ↓c_cond, ↓c_block, ↓c_ret, ↓c_skip, ↓c_exit, ↓c_cont, ↓t_normal, ↓t_ret, ↓t_exit, ↓b_normal, ↓b_ret, ↓b_exit, ↓run_nil, ↓run_cons, num_nil, num_cons, ↓g_some, ↓o_mv, ↓o_pick, ↓o_bin, ↓o_un, ↓o_ld, ↓o_bld, ↓o_len, ↓o_mkf, ↓o_nilc, ↓o_fa, ↓o_fd, ↓o_ia, ↓o_iaa, ↓o_ix, ↓o_ixs, ↓o_ext, ↓o_al, ↓o_bxf, ↓o_bxt, ↓o_bsl, ↓o_bslf, chunks, ↓o_mks, ↓o_st, ↓o_stf, ↓o_call, ↓o_rng, ↓o_nxt, rngV, next_is, next_iter, ↓o_callm, ↓o_calvm, ↓o_calv, val_some, new_some, st_some, stf_some, guard_tt, guard_ff, guard_tf, guard_ft, guard_un, ↓cond_true, ↓cond_false, calv_fn, put_some, put_none, ev_tmp, ev_const, ev_func, ↓upd_get, sig_eq, sigF_nil, ↓sigF_cons, q0, q1, nilcV, faV, fdV, iaaV, ixV, ixsV, extV, mksV, loadP, storeP, binPV, unPV, intBin, partsP, fillP, zeros, PV.good, PV.cellsOf, PV.one, q2, q3, q4, q5, q6, q7, q8, q9, q10, q11, q12, q13, q14, Nat.reduceAdd, Nat.reduceMul, Nat.reduceSub, Nat.reduceLeDiff, Nat.reduceEqDiff, Nat.reduceBEq, q15, q16, q17, q18, ↓reduceIte, reduceCtorEq, q19, q20, q21, q22, q23, q24, q25, q26, q27, q28, q29, q30, q31, q32, q33, q34, q35, q36, q37, q38, wrap64, ↓o_eqa, ↓o_mm, ↓o_app, app_some, mmL, mmV, mm2, eqE, eqParts, eqInt, eqBool, eqStr, partV, q39, q40, pickV, q41, Int.reduceEq, Int.reduceLE, Int.reduceLT, Int.reduceAdd, Int.reduceSub, Int.reduceNeg, Int.reduceToNat, Int.reduceNe, q42, q43, q44, q45, q46, q47, q48, q49, appE, oldOf, rowOf, updL, q50, q51, q52, q53, Nat.reducePow, zlt, ovr_get, Nat.reduceShiftRight, Nat.reduceMod, ite_neN, ite_eqN, q54, q55, q56, q57, q58, q59, q60, q61, q62, q63, q64, q65, q66, q67, tailP_f, tailP_t, tailF_f, tailF_t, ↓o_slc, slcP, bndO, capO, slcLen, intOf, Option.isSome_none, Option.isNone_none, Option.isSome_some, Option.isNone_some, nilP, slc_sl, slc_csl, slc_osl, slc_osl0, slc_ocap, slc_str, pv_len, pv_take, Nat.add_assoc, tm_len, tm_take, pv_one, tm_one, tpvB_len, tpvB_take, tpvB_one, pvB_len, pvB_take, pvB_one, List.length_append, id_ne, id_ne', id_ne2, List.append_nil, List.append_assoc, lenPV_slB, iaV_slB_f, iaV_slB_t, *])
            refine fin_tmp (.inr rfl) ?_
            simp [upd, hs]
    · repeat' (first | ((with_reducible first | refine cond_pos (by omega) ?_ | refine cond_neg (by omega) ?_ | refine guard_pos (by omega) ?_ | refine guard_neg (by omega) ?_ | refine cond_ifn ?_ ?_ | refine cond_waysn ?_ ?_ | refine guard_ifn ?_ ?_ | refine guard_waysn ?_ ?_ | refine cond_if ?_ ?_ | refine cond_ways ?_ ?_ | refine guard_if ?_ ?_ | refine guard_ways ?_ ?_) <;> intro _) | simp (maxSteps := 1000000) (disch := omega) only [↓c_seq, ↓c_region, ↓c_cond, ↓c_block, ↓c_ret, ↓c_skip, ↓c_exit, ↓c_cont, ↓t_normal, ↓t_ret, ↓t_exit, ↓b_normal, ↓b_ret, ↓b_exit, ↓run_nil, ↓run_cons, num_nil, num_cons, ↓g_some, ↓o_mv, ↓o_pick, ↓o_bin, ↓o_un, ↓o_ld, ↓o_bld, ↓o_len, ↓o_mkf, ↓o_nilc, ↓o_fa, ↓o_fd, ↓o_ia, ↓o_iaa, ↓o_ix, ↓o_ixs, ↓o_ext, ↓o_al, ↓o_bxf, ↓o_bxt, ↓o_bsl, ↓o_bslf, chunks, ↓o_mks, ↓o_st, ↓o_stf, ↓o_call, ↓o_rng, ↓o_nxt, rngV, next_is, next_iter, ↓o_callm, ↓o_calvm, ↓o_calv, val_some, new_some, st_some, stf_some, guard_tt, guard_ff, guard_tf, guard_ft, guard_un, ↓cond_true, ↓cond_false, calv_fn, put_some, put_none, ev_tmp, ev_const, ev_func, ↓upd_get, sig_eq, sigF_nil, ↓sigF_cons, q0, q1, nilcV, faV, fdV, iaaV, ixV, ixsV, extV, mksV, loadP, storeP, binPV, unPV, intBin, partsP, fillP, zeros, PV.good, PV.cellsOf, PV.one, q2, q3, q4, q5, q6, q7, q8, q9, q10, q11, q12, q13, q14, Nat.reduceAdd, Nat.reduceMul, Nat.reduceSub, Nat.reduceLeDiff, Nat.reduceEqDiff, Nat.reduceBEq, q15, q16, q17, q18, ↓reduceIte, reduceCtorEq, q19, q20, q21, q22, q23, q24, q25, q26, q27, q28, q29, q30, q31, q32, q33, q34, q35, q36, q37, q38, wrap64, ↓o_eqa, ↓o_mm, ↓o_app, app_some, mmL, mmV, mm2, eqE, eqParts, eqInt, eqBool, eqStr, partV, q39, q40, pickV, q41, Int.reduceEq, Int.reduceLE, Int.reduceLT, Int.reduceAdd, Int.reduceSub, Int.reduceNeg, Int.reduceToNat, Int.reduceNe, q42, q43, q44, q45, q46, q47, q48, q49, appE, oldOf, rowOf, updL, q50, q51, q52, q53, Nat.reducePow, zlt, ovr_get, Nat.reduceShiftRight, Nat.reduceMod, ite_neN, ite_eqN, q54, q55, q56, q57, q58, q59, q60, q61, q62, q63, q64, q65, q66, q67, tailP_f, tailP_t, tailF_f, tailF_t, ↓o_slc, slcP, bndO, capO, slcLen, intOf, Option.isSome_none, Option.isNone_none, Option.isSome_some, Option.isNone_some, nilP, slc_sl, slc_csl, slc_osl, slc_osl0, slc_ocap, slc_str, pv_len, pv_take, Nat.add_assoc, tm_len, tm_take, pv_one, tm_one, tpvB_len, tpvB_take, tpvB_one, pvB_len, pvB_take, pvB_one, List.length_append, id_ne, id_ne', id_ne2, List.append_nil, List.append_assoc, lenPV_slB, iaV_slB_f, iaV_slB_t, mc_term_sameLevels, *])
      all_goals (refine fin_tmp (.inr rfl) ?_; simp [upd, *])
end
section
set_option maxRecDepth 20000
attribute [local go_sem] pv_len pv_take Nat.add_assoc tm_len tm_take pv_one tm_one tpvB_len tpvB_take tpvB_one pvB_len pvB_take pvB_one id_ne id_ne' id_ne2 List.append_assoc lenPV_slB iaV_slB_f iaV_slB_t
mutual
theorem tsame_iff : ∀ a b : Tm, a.same b = true ↔ a = b
  | .mk k n s ls xs, .mk k' n' s' ls' ys => by
    simp only [Tm.same, Bool.and_eq_true, decide_eq_true_eq, Tm.mk.injEq]
    constructor
    · rintro ⟨h1, h2, h3, h4, h5, h6, h7⟩
      refine ⟨h1, h2, ?_, (sameL_iff ls ls' (by simpa using h4)).1 h6, (sameT_iff xs ys (by simpa using h5)).1 h7⟩
      unfold sameB at h3
      exact (Lib.bytes_beq_iff s s').1 h3
    · rintro ⟨h1, h2, h3, h4, h5⟩
      subst h3; subst h4; subst h5
      refine ⟨h1, h2, ?_, by simp, by simp, sameL_refl ls, (sameT_iff xs xs rfl).2 rfl⟩
      unfold sameB
      exact (Lib.bytes_beq_iff s s).2 rfl
theorem sameT_iff : ∀ xs ys : List Tm, xs.length = ys.length → (sameT xs ys = true ↔ xs = ys)
  | [], [], _ => by simp [sameT]
  | x :: xs, y :: ys, h => by
    simp only [sameT, Bool.and_eq_true, List.cons.injEq]
    rw [tsame_iff x y, sameT_iff xs ys (by simpa using h)]
  | [], y :: ys, h => by simp at h
  | x :: xs, [], h => by simp at h
end
theorem sameT_refl (xs : List Tm) : sameT xs xs = true := (sameT_iff xs xs rfl).2 rfl
set_option maxHeartbeats 16000000 in
theorem term_same_p (f g : Bool) (hfg : (f || g) = true) : ∀ (fuel : Nat) (a b : Tm), a.size ≤ fuel → PPure Try.prog F.term_same [.ptr (a.pvB f), .ptr (b.pvB g)] (.sc (.bool (a.same b))) := by
  intro fuel
  induction fuel with
  | zero => intro l _ h; have := size_pos l; omega
  | succ fuel ih =>
    intro a b hf
    cases a with
    | mk k n s ls xs =>
    cases b with
    | mk k' n' s' ls' ys =>
    simp only [Tm.size] at hf
    refine pure_by is_term_same (by simp) rfl fun hb nx => ?_
    have hb0 : (xs.length ≤ 9223372036854775807 ∧ ys.length ≤ 9223372036854775807) := by simp [Tm.pvB, bndL, PV.bnd, slB_bnd] at hb; omega
    have hc1 := sameLevels_p f g hfg _ ls ls' (Nat.lt_succ_self _)
    by_cases h0 : xs.length = 0
    · obtain rfl : xs = [] := List.eq_nil_of_length_eq_zero h0
      clear ih
      repeat' (first | ((with_reducible first | refine cond_pos (by omega) ?_ | refine cond_neg (by omega) ?_ | refine guard_pos (by omega) ?_ | refine guard_neg (by omega) ?_ | refine cond_ifn ?_ ?_ | refine cond_waysn ?_ ?_ | refine guard_ifn ?_ ?_ | refine guard_waysn ?_ ?_ | refine cond_if ?_ ?_ | refine cond_ways ?_ ?_ | refine guard_if ?_ ?_ | refine guard_ways ?_ ?_) <;> intro _) | (((with_reducible refine call_id ?_); (first | (refine call_pure (hc1) ?_)))) | simp (maxSteps := 1000000) (disch := omega) only [↓c_seq, ↓c_region, ↓c_cond, ↓c_block, ↓c_ret, ↓c_skip, ↓c_exit, ↓c_cont, ↓t_normal, ↓t_ret, ↓t_exit, ↓b_normal, ↓b_ret, ↓b_exit, ↓run_nil, ↓run_cons, num_nil, num_cons, ↓g_some, ↓o_mv, ↓o_pick, ↓o_bin, ↓o_un, ↓o_ld, ↓o_bld, ↓o_len, ↓o_mkf, ↓o_nilc, ↓o_fa, ↓o_fd, ↓o_ia, ↓o_iaa, ↓o_ix, ↓o_ixs, ↓o_ext, ↓o_al, ↓o_bxf, ↓o_bxt, ↓o_bsl, ↓o_bslf, chunks, ↓o_mks, ↓o_st, ↓o_stf, ↓o_call, ↓o_rng, ↓o_nxt, rngV, next_is, next_iter, ↓o_callm, ↓o_calvm, ↓o_calv, val_some, new_some, st_some, stf_some, guard_tt, guard_ff, guard_tf, guard_ft, guard_un, ↓cond_true, ↓cond_false, calv_fn, put_some, put_none, ev_tmp, ev_const, ev_func, ↓upd_get, sig_eq, sigF_nil, ↓sigF_cons, q0, q1, nilcV, faV, fdV, iaaV, ixV, ixsV, extV, mksV, loadP, storeP, binPV, unPV, intBin, partsP, fillP, zeros, PV.good, PV.cellsOf, PV.one, q2, q3, q4, q5, q6, q7, q8, q9, q10, q11, q12, q13, q14, Nat.reduceAdd, Nat.reduceMul, Nat.reduceSub, Nat.reduceLeDiff, Nat.reduceEqDiff, Nat.reduceBEq, q15, q16, q17, q18, ↓reduceIte, reduceCtorEq, q19, q20, q21, q22, q23, q24, q25, q26, q27, q28, q29, q30, q31, q32, q33, q34, q35, q36, q37, q38, wrap64, ↓o_eqa, ↓o_mm, ↓o_app, app_some, mmL, mmV, mm2, eqE, eqParts, eqInt, eqBool, eqStr, partV, q39, q40, pickV, q41, Int.reduceEq, Int.reduceLE, Int.reduceLT, Int.reduceAdd, Int.reduceSub, Int.reduceNeg, Int.reduceToNat, Int.reduceNe, q42, q43, q44, q45, q46, q47, q48, q49, appE, oldOf, rowOf, updL, q50, q51, q52, q53, Nat.reducePow, zlt, ovr_get, Nat.reduceShiftRight, Nat.reduceMod, ite_neN, ite_eqN, q54, q55, q56, q57, q58, q59, q60, q61, q62, q63, q64, q65, q66, q67, tailP_f, tailP_t, tailF_f, tailF_t, ↓o_slc, slcP, bndO, capO, slcLen, intOf, Option.isSome_none, Option.isNone_none, Option.isSome_some, Option.isNone_some, nilP, slc_sl, slc_csl, slc_osl, slc_osl0, slc_ocap, slc_str, pv_len, pv_take, Nat.add_assoc, tm_len, tm_take, pv_one, tm_one, tpvB_len, tpvB_take, tpvB_one, pvB_len, pvB_take, pvB_one, List.length_append, id_ne, id_ne', id_ne2, List.append_nil, List.append_assoc, lenPV_slB, iaV_slB_f, iaV_slB_t, mc_term_same, Tm.pvB, strBin, fold_sameB, *])
      all_goals (try (refine fin_tmp (.inr rfl) ?_; simp [upd, Tm.same, sameT, *]; done))
      · rename_i q
        refine fin_tmp (.inr rfl) ?_
        have q' : ¬ ([] : List Tm).length = ys.length := by simp at q ⊢; omega
        simp only [Tm.same, decide_eq_false q']
        simp [upd]
      · rename_i q
        refine fin_tmp (.inr rfl) ?_
        have q' : (decide (ls.length = ls'.length) && (decide (([] : List Tm).length = ys.length) && (sameL ls ls' && sameT [] ys))) = false := by
          rw [Bool.and_eq_false_iff] at q ⊢
          rcases q with q | q
          · exact .inl q
          · right; simp [q]
        simp only [Tm.same, q']
        simp [upd]
      · rename_i u5 u4 u3 u2 u1 u0
        obtain rfl : ys = [] := List.eq_nil_of_length_eq_zero (by omega)
        clear u0 u2
        refine c_rounds 1 ?_
        repeat' (first | ((with_reducible first | refine cond_pos (by omega) ?_ | refine cond_neg (by omega) ?_ | refine guard_pos (by omega) ?_ | refine guard_neg (by omega) ?_ | refine cond_ifn ?_ ?_ | refine cond_waysn ?_ ?_ | refine guard_ifn ?_ ?_ | refine guard_waysn ?_ ?_ | refine cond_if ?_ ?_ | refine cond_ways ?_ ?_ | refine guard_if ?_ ?_ | refine guard_ways ?_ ?_) <;> intro _) | simp (maxSteps := 1000000) (disch := omega) only [↓c_seq, ↓c_region, ↓c_cond, ↓c_block, ↓c_ret, ↓c_skip, ↓c_exit, ↓c_cont, ↓t_normal, ↓t_ret, ↓t_exit, ↓b_normal, ↓b_ret, ↓b_exit, ↓run_nil, ↓run_cons, num_nil, num_cons, ↓g_some, ↓o_mv, ↓o_pick, ↓o_bin, ↓o_un, ↓o_ld, ↓o_bld, ↓o_len, ↓o_mkf, ↓o_nilc, ↓o_fa, ↓o_fd, ↓o_ia, ↓o_iaa, ↓o_ix, ↓o_ixs, ↓o_ext, ↓o_al, ↓o_bxf, ↓o_bxt, ↓o_bsl, ↓o_bslf, chunks, ↓o_mks, ↓o_st, ↓o_stf, ↓o_call, ↓o_rng, ↓o_nxt, rngV, next_is, next_iter, ↓o_callm, ↓o_calvm, ↓o_calv, val_some, new_some, st_some, stf_some, guard_tt, guard_ff, guard_tf, guard_ft, guard_un, ↓cond_true, ↓cond_false, calv_fn, put_some, put_none, ev_tmp, ev_const, ev_func, ↓upd_get, sig_eq, sigF_nil, ↓sigF_cons, q0, q1, nilcV, faV, fdV, iaaV, ixV, ixsV, extV, mksV, loadP, storeP, binPV, unPV, intBin, partsP, fillP, zeros, PV.good, PV.cellsOf, PV.one, q2, q3, q4, q5, q6, q7, q8, q9, q10, q11, q12, q13, q14, Nat.reduceAdd, Nat.reduceMul, Nat.reduceSub, Nat.reduceLeDiff, Nat.reduceEqDiff, Nat.reduceBEq, q15, q16, q17, q18, ↓reduceIte, reduceCtorEq, q19, q20, q21, q22, q23, q24, q25, q26, q27, q28, q29, q30, q31, q32, q33, q34, q35, q36, q37, q38, wrap64, ↓o_eqa, ↓o_mm, ↓o_app, app_some, mmL, mmV, mm2, eqE, eqParts, eqInt, eqBool, eqStr, partV, q39, q40, pickV, q41, Int.reduceEq, Int.reduceLE, Int.reduceLT, Int.reduceAdd, Int.reduceSub, Int.reduceNeg, Int.reduceToNat, Int.reduceNe, q42, q43, q44, q45, q46, q47, q48, q49, appE, oldOf, rowOf, updL, q50, q51, q52, q53, Nat.reducePow, zlt, ovr_get, Nat.reduceShiftRight, Nat.reduceMod, ite_neN, ite_eqN, q54, q55, q56, q57, q58, q59, q60, q61, q62, q63, q64, q65, q66, q67, tailP_f, tailP_t, tailF_f, tailF_t, ↓o_slc, slcP, bndO, capO, slcLen, intOf, Option.isSome_none, Option.isNone_none, Option.isSome_some, Option.isNone_some, nilP, slc_sl, slc_csl, slc_osl, slc_osl0, slc_ocap, slc_str, pv_len, pv_take, Nat.add_assoc, tm_len, tm_take, pv_one, tm_one, tpvB_len, tpvB_take, tpvB_one, pvB_len, pvB_take, pvB_one, List.length_append, id_ne, id_ne', id_ne2, List.append_nil, List.append_assoc, lenPV_slB, iaV_slB_f, iaV_slB_t, rounds_next, *])
        refine fin_tmp (.inr rfl) ?_
        simp only [Bool.and_eq_true, decide_eq_true_eq] at u1
        simp [upd, Tm.same, sameT, *]
    · have h00 : 0 < xs.length := by omega
      have eg : xs[0]? = some xs[0] := List.getElem?_eq_getElem h00
      by_cases hl : xs.length = ys.length
      · have eg2 : ys[0]? = some ys[0] := List.getElem?_eq_getElem (by omega)
        have ih' := Kept.mk ih
        clear ih
        repeat' (first | ((with_reducible first | refine cond_pos (by omega) ?_ | refine cond_neg (by omega) ?_ | refine guard_pos (by omega) ?_ | refine guard_neg (by omega) ?_ | refine cond_ifn ?_ ?_ | refine cond_waysn ?_ ?_ | refine guard_ifn ?_ ?_ | refine guard_waysn ?_ ?_ | refine cond_if ?_ ?_ | refine cond_ways ?_ ?_ | refine guard_if ?_ ?_ | refine guard_ways ?_ ?_) <;> intro _) | (((with_reducible refine call_id ?_); (first | (refine call_pure (hc1) ?_)))) | simp (maxSteps := 1000000) (disch := omega) only [↓c_seq, ↓c_region, ↓c_cond, ↓c_block, ↓c_ret, ↓c_skip, ↓c_exit, ↓c_cont, ↓t_normal, ↓t_ret, ↓t_exit, ↓b_normal, ↓b_ret, ↓b_exit, ↓run_nil, ↓run_cons, num_nil, num_cons, ↓g_some, ↓o_mv, ↓o_pick, ↓o_bin, ↓o_un, ↓o_ld, ↓o_bld, ↓o_len, ↓o_mkf, ↓o_nilc, ↓o_fa, ↓o_fd, ↓o_ia, ↓o_iaa, ↓o_ix, ↓o_ixs, ↓o_ext, ↓o_al, ↓o_bxf, ↓o_bxt, ↓o_bsl, ↓o_bslf, chunks, ↓o_mks, ↓o_st, ↓o_stf, ↓o_call, ↓o_rng, ↓o_nxt, rngV, next_is, next_iter, ↓o_callm, ↓o_calvm, ↓o_calv, val_some, new_some, st_some, stf_some, guard_tt, guard_ff, guard_tf, guard_ft, guard_un, ↓cond_true, ↓cond_false, calv_fn, put_some, put_none, ev_tmp, ev_const, ev_func, ↓upd_get, sig_eq, sigF_nil, ↓sigF_cons, q0, q1, nilcV, faV, fdV, iaaV, ixV, ixsV, extV, mksV, loadP, storeP, binPV, unPV, intBin, partsP, fillP, zeros, PV.good, PV.cellsOf, PV.one, q2, q3, q4, q5, q6, q7, q8, q9, q10, q11, q12, q13, q14, Nat.reduceAdd, Nat.reduceMul, Nat.reduceSub, Nat.reduceLeDiff, Nat.reduceEqDiff, Nat.reduceBEq, q15, q16, q17, q18, ↓reduceIte, reduceCtorEq, q19, q20, q21, q22, q23, q24, q25, q26, q27, q28, q29, q30, q31, q32, q33, q34, q35, q36, q37, q38, wrap64, ↓o_eqa, ↓o_mm, ↓o_app, app_some, mmL, mmV, mm2, eqE, eqParts, eqInt, eqBool, eqStr, partV, q39, q40, pickV, q41, Int.reduceEq, Int.reduceLE, Int.reduceLT, Int.reduceAdd, Int.reduceSub, Int.reduceNeg, Int.reduceToNat, Int.reduceNe, q42, q43, q44, q45, q46, q47, q48, q49, appE, oldOf, rowOf, updL, q50, q51, q52, q53, Nat.reducePow, zlt, ovr_get, Nat.reduceShiftRight, Nat.reduceMod, ite_neN, ite_eqN, q54, q55, q56, q57, q58, q59, q60, q61, q62, q63, q64, q65, q66, q67, tailP_f, tailP_t, tailF_f, tailF_t, ↓o_slc, slcP, bndO, capO, slcLen, intOf, Option.isSome_none, Option.isNone_none, Option.isSome_some, Option.isNone_some, nilP, slc_sl, slc_csl, slc_osl, slc_osl0, slc_ocap, slc_str, pv_len, pv_take, Nat.add_assoc, tm_len, tm_take, pv_one, tm_one, tpvB_len, tpvB_take, tpvB_one, pvB_len, pvB_take, pvB_one, List.length_append, id_ne, id_ne', id_ne2, List.append_nil, List.append_assoc, lenPV_slB, iaV_slB_f, iaV_slB_t, mc_term_same, Tm.pvB, strBin, fold_sameB, *])
        all_goals (try (refine fin_tmp (.inr rfl) ?_; simp [upd, Tm.same, sameT, *]; done))
        · rename_i q
          refine fin_tmp (.inr rfl) ?_
          have q' : (decide (ls.length = ls'.length) && (decide (xs.length = ys.length) && (sameL ls ls' && sameT xs ys))) = false := by
            rw [Bool.and_eq_false_iff] at q ⊢
            rcases q with q | q
            · exact .inl q
            · right; simp [q]
          simp only [Tm.same, q']
          simp [upd]
        · rename_i u4 u3 u2 u1 u0
          clear u0
          simp only [Bool.and_eq_true, decide_eq_true_eq] at u1
          have hall : Kept (sameT xs ys = true → (Tm.mk k' n' s ls xs).same (Tm.mk k' n' s' ls' ys) = true) := Kept.mk fun h => by simp [Tm.same, *]
          have hno : Kept (sameT xs ys = false → (Tm.mk k' n' s ls xs).same (Tm.mk k' n' s' ls' ys) = false) := Kept.mk fun h => by simp [Tm.same, *]
          refine o_peq (f := f) (g := g) (cs := (xs.map (Tm.pvB f)).flatten) (ds := (ys.map (Tm.pvB g)).flatten) (n := 4) rfl rfl Try.underlying73 (by kernel_rfl) (by (simp (disch := omega) only [go_sem, Nat.reduceMul, Nat.reduceSub, Nat.reduceShiftRight, Nat.reduceMod, Nat.reduceEqDiff, Nat.reduceAdd, ↓reduceIte, Nat.reduceLeDiff, ev_tmp, ptrOf_B])) (by (simp (disch := omega) only [go_sem, Nat.reduceMul, Nat.reduceSub, Nat.reduceShiftRight, Nat.reduceMod, Nat.reduceEqDiff, Nat.reduceAdd, ↓reduceIte, Nat.reduceLeDiff, ev_tmp, ptrOf_B])) hfg (flat_ne (tpvB_len f) h00) (flat_ne (tpvB_len g) (by omega)) fun t ht => ?_
          clear u1 u2 hc1
          cases t with
          | true =>
            have hx := meet_tms hl (ht rfl)
            have hrf := hall.out (by rw [hx]; exact sameT_refl ys)
            clear ih' ht hall hno hx
            repeat' (first | ((with_reducible first | refine cond_pos (by omega) ?_ | refine cond_neg (by omega) ?_ | refine guard_pos (by omega) ?_ | refine guard_neg (by omega) ?_ | refine cond_ifn ?_ ?_ | refine cond_waysn ?_ ?_ | refine guard_ifn ?_ ?_ | refine guard_waysn ?_ ?_ | refine cond_if ?_ ?_ | refine cond_ways ?_ ?_ | refine guard_if ?_ ?_ | refine guard_ways ?_ ?_) <;> intro _) | simp (maxSteps := 1000000) (disch := omega) only [↓c_seq, ↓c_region, ↓c_cond, ↓c_block, ↓c_ret, ↓c_skip, ↓c_exit, ↓c_cont, ↓t_normal, ↓t_ret, ↓t_exit, ↓b_normal, ↓b_ret, ↓b_exit, ↓run_nil, ↓run_cons, num_nil, num_cons, ↓g_some, ↓o_mv, ↓o_pick, ↓o_bin, ↓o_un, ↓o_ld, ↓o_bld, ↓o_len, ↓o_mkf, ↓o_nilc, ↓o_fa, ↓o_fd, ↓o_ia, ↓o_iaa, ↓o_ix, ↓o_ixs, ↓o_ext, ↓o_al, ↓o_bxf, ↓o_bxt, ↓o_bsl, ↓o_bslf, chunks, ↓o_mks, ↓o_st, ↓o_stf, ↓o_call, ↓o_rng, ↓o_nxt, rngV, next_is, next_iter, ↓o_callm, ↓o_calvm, ↓o_calv, val_some, new_some, st_some, stf_some, guard_tt, guard_ff, guard_tf, guard_ft, guard_un, ↓cond_true, ↓cond_false, calv_fn, put_some, put_none, ev_tmp, ev_const, ev_func, ↓upd_get, sig_eq, sigF_nil, ↓sigF_cons, q0, q1, nilcV, faV, fdV, iaaV, ixV, ixsV, extV, mksV, loadP, storeP, binPV, unPV, intBin, partsP, fillP, zeros, PV.good, PV.cellsOf, PV.one, q2, q3, q4, q5, q6, q7, q8, q9, q10, q11, q12, q13, q14, Nat.reduceAdd, Nat.reduceMul, Nat.reduceSub, Nat.reduceLeDiff, Nat.reduceEqDiff, Nat.reduceBEq, q15, q16, q17, q18, ↓reduceIte, reduceCtorEq, q19, q20, q21, q22, q23, q24, q25, q26, q27, q28, q29, q30, q31, q32, q33, q34, q35, q36, q37, q38, wrap64, ↓o_eqa, ↓o_mm, ↓o_app, app_some, mmL, mmV, mm2, eqE, eqParts, eqInt, eqBool, eqStr, partV, q39, q40, pickV, q41, Int.reduceEq, Int.reduceLE, Int.reduceLT, Int.reduceAdd, Int.reduceSub, Int.reduceNeg, Int.reduceToNat, Int.reduceNe, q42, q43, q44, q45, q46, q47, q48, q49, appE, oldOf, rowOf, updL, q50, q51, q52, q53, Nat.reducePow, zlt, ovr_get, Nat.reduceShiftRight, Nat.reduceMod, ite_neN, ite_eqN, q54, q55, q56, q57, q58, q59, q60, q61, q62, q63, q64, q65, q66, q67, tailP_f, tailP_t, tailF_f, tailF_t, ↓o_slc, slcP, bndO, capO, slcLen, intOf, Option.isSome_none, Option.isNone_none, Option.isSome_some, Option.isNone_some, nilP, slc_sl, slc_csl, slc_osl, slc_osl0, slc_ocap, slc_str, pv_len, pv_take, Nat.add_assoc, tm_len, tm_take, pv_one, tm_one, tpvB_len, tpvB_take, tpvB_one, pvB_len, pvB_take, pvB_one, List.length_append, id_ne, id_ne', id_ne2, List.append_nil, List.append_assoc, lenPV_slB, iaV_slB_f, iaV_slB_t, *])
            refine fin_tmp (.inr rfl) ?_
            simp [upd, hrf]
          | false =>
            clear ht eg eg2
            repeat' (first | ((with_reducible first | refine cond_pos (by omega) ?_ | refine cond_neg (by omega) ?_ | refine guard_pos (by omega) ?_ | refine guard_neg (by omega) ?_ | refine cond_ifn ?_ ?_ | refine cond_waysn ?_ ?_ | refine guard_ifn ?_ ?_ | refine guard_waysn ?_ ?_ | refine cond_if ?_ ?_ | refine cond_ways ?_ ?_ | refine guard_if ?_ ?_ | refine guard_ways ?_ ?_) <;> intro _) | simp (maxSteps := 1000000) (disch := omega) only [↓c_seq, ↓c_region, ↓c_cond, ↓c_block, ↓c_ret, ↓c_skip, ↓c_exit, ↓c_cont, ↓t_normal, ↓t_ret, ↓t_exit, ↓b_normal, ↓b_ret, ↓b_exit, ↓run_nil, ↓run_cons, num_nil, num_cons, ↓g_some, ↓o_mv, ↓o_pick, ↓o_bin, ↓o_un, ↓o_ld, ↓o_bld, ↓o_len, ↓o_mkf, ↓o_nilc, ↓o_fa, ↓o_fd, ↓o_ia, ↓o_iaa, ↓o_ix, ↓o_ixs, ↓o_ext, ↓o_al, ↓o_bxf, ↓o_bxt, ↓o_bsl, ↓o_bslf, chunks, ↓o_mks, ↓o_st, ↓o_stf, ↓o_call, ↓o_rng, ↓o_nxt, rngV, next_is, next_iter, ↓o_callm, ↓o_calvm, ↓o_calv, val_some, new_some, st_some, stf_some, guard_tt, guard_ff, guard_tf, guard_ft, guard_un, ↓cond_true, ↓cond_false, calv_fn, put_some, put_none, ev_tmp, ev_const, ev_func, ↓upd_get, sig_eq, sigF_nil, ↓sigF_cons, q0, q1, nilcV, faV, fdV, iaaV, ixV, ixsV, extV, mksV, loadP, storeP, binPV, unPV, intBin, partsP, fillP, zeros, PV.good, PV.cellsOf, PV.one, q2, q3, q4, q5, q6, q7, q8, q9, q10, q11, q12, q13, q14, Nat.reduceAdd, Nat.reduceMul, Nat.reduceSub, Nat.reduceLeDiff, Nat.reduceEqDiff, Nat.reduceBEq, q15, q16, q17, q18, ↓reduceIte, reduceCtorEq, q19, q20, q21, q22, q23, q24, q25, q26, q27, q28, q29, q30, q31, q32, q33, q34, q35, q36, q37, q38, wrap64, ↓o_eqa, ↓o_mm, ↓o_app, app_some, mmL, mmV, mm2, eqE, eqParts, eqInt, eqBool, eqStr, partV, q39, q40, pickV, q41, Int.reduceEq, Int.reduceLE, Int.reduceLT, Int.reduceAdd, Int.reduceSub, Int.reduceNeg, Int.reduceToNat, Int.reduceNe, q42, q43, q44, q45, q46, q47, q48, q49, appE, oldOf, rowOf, updL, q50, q51, q52, q53, Nat.reducePow, zlt, ovr_get, Nat.reduceShiftRight, Nat.reduceMod, ite_neN, ite_eqN, q54, q55, q56, q57, q58, q59, q60, q61, q62, q63, q64, q65, q66, q67, tailP_f, tailP_t, tailF_f, tailF_t, ↓o_slc, slcP, bndO, capO, slcLen, intOf, Option.isSome_none, Option.isNone_none, Option.isSome_some, Option.isNone_some, nilP, slc_sl, slc_csl, slc_osl, slc_osl0, slc_ocap, slc_str, pv_len, pv_take, Nat.add_assoc, tm_len, tm_take, pv_one, tm_one, tpvB_len, tpvB_take, tpvB_one, pvB_len, pvB_take, pvB_one, List.length_append, id_ne, id_ne', id_ne2, List.append_nil, List.append_assoc, lenPV_slB, iaV_slB_f, iaV_slB_t, *])
            refine c_loopW 20282332232399215087680070090800 (by kernel_rfl) (fun j F H m => ∃ i : Nat, j = xs.length - i ∧ i ≤ xs.length ∧ F 86 = .sc (.int .i64 i) ∧ sameT (xs.take i) (ys.take i) = true) _ ⟨0, rfl, Nat.zero_le _, by simp [upd], rfl⟩ ?_
            rintro _ F H m ⟨i, rfl, hi, e86, hs⟩
            by_cases hlt : i < xs.length
            · have hlt2 : i < ys.length := by omega
              have eg : xs[i]? = some xs[i] := List.getElem?_eq_getElem hlt
              have eg2 : ys[i]? = some ys[i] := List.getElem?_eq_getElem hlt2
              have hn := sizeL_mem xs i hlt
              have ht := sameT_take xs ys i hlt hlt2
              have hq := sameT_false xs ys i hlt hlt2
              have hc := ih'.out xs[i] ys[i] (by omega)
              have ht' := Kept.mk ht
              have hq' := Kept.mk hq
              have hl' := Kept.mk hl
              clear ih' ht hq
              repeat' (first | ((with_reducible first | refine cond_pos (by omega) ?_ | refine cond_neg (by omega) ?_ | refine guard_pos (by omega) ?_ | refine guard_neg (by omega) ?_ | refine cond_ifn ?_ ?_ | refine cond_waysn ?_ ?_ | refine guard_ifn ?_ ?_ | refine guard_waysn ?_ ?_ | refine cond_if ?_ ?_ | refine cond_ways ?_ ?_ | refine guard_if ?_ ?_ | refine guard_ways ?_ ?_) <;> intro _) | (((with_reducible refine call_id ?_); (first | (refine call_pure (hc) ?_)))) | simp (maxSteps := 1000000) (disch := omega) only [↓c_seq, ↓c_region, ↓c_cond, ↓c_block, ↓c_ret, ↓c_skip, ↓c_exit, ↓c_cont, ↓t_normal, ↓t_ret, ↓t_exit, ↓b_normal, ↓b_ret, ↓b_exit, ↓run_nil, ↓run_cons, num_nil, num_cons, ↓g_some, ↓o_mv, ↓o_pick, ↓o_bin, ↓o_un, ↓o_ld, ↓o_bld, ↓o_len, ↓o_mkf, ↓o_nilc, ↓o_fa, ↓o_fd, ↓o_ia, ↓o_iaa, ↓o_ix, ↓o_ixs, ↓o_ext, ↓o_al, ↓o_bxf, ↓o_bxt, ↓o_bsl, ↓o_bslf, chunks, ↓o_mks, ↓o_st, ↓o_stf, ↓o_call, ↓o_rng, ↓o_nxt, rngV, next_is, next_iter, ↓o_callm, ↓o_calvm, ↓o_calv, val_some, new_some, st_some, stf_some, guard_tt, guard_ff, guard_tf, guard_ft, guard_un, ↓cond_true, ↓cond_false, calv_fn, put_some, put_none, ev_tmp, ev_const, ev_func, ↓upd_get, sig_eq, sigF_nil, ↓sigF_cons, q0, q1, nilcV, faV, fdV, iaaV, ixV, ixsV, extV, mksV, loadP, storeP, binPV, unPV, intBin, partsP, fillP, zeros, PV.good, PV.cellsOf, PV.one, q2, q3, q4, q5, q6, q7, q8, q9, q10, q11, q12, q13, q14, Nat.reduceAdd, Nat.reduceMul, Nat.reduceSub, Nat.reduceLeDiff, Nat.reduceEqDiff, Nat.reduceBEq, q15, q16, q17, q18, ↓reduceIte, reduceCtorEq, q19, q20, q21, q22, q23, q24, q25, q26, q27, q28, q29, q30, q31, q32, q33, q34, q35, q36, q37, q38, wrap64, ↓o_eqa, ↓o_mm, ↓o_app, app_some, mmL, mmV, mm2, eqE, eqParts, eqInt, eqBool, eqStr, partV, q39, q40, pickV, q41, Int.reduceEq, Int.reduceLE, Int.reduceLT, Int.reduceAdd, Int.reduceSub, Int.reduceNeg, Int.reduceToNat, Int.reduceNe, q42, q43, q44, q45, q46, q47, q48, q49, appE, oldOf, rowOf, updL, q50, q51, q52, q53, Nat.reducePow, zlt, ovr_get, Nat.reduceShiftRight, Nat.reduceMod, ite_neN, ite_eqN, q54, q55, q56, q57, q58, q59, q60, q61, q62, q63, q64, q65, q66, q67, tailP_f, tailP_t, tailF_f, tailF_t, ↓o_slc, slcP, bndO, capO, slcLen, intOf, Option.isSome_none, Option.isNone_none, Option.isSome_some, Option.isNone_some, nilP, slc_sl, slc_csl, slc_osl, slc_osl0, slc_ocap, slc_str, pv_len, pv_take, Nat.add_assoc, tm_len, tm_take, pv_one, tm_one, tpvB_len, tpvB_take, tpvB_one, pvB_len, pvB_take, pvB_one, List.length_append, id_ne, id_ne', id_ne2, List.append_nil, List.append_assoc, lenPV_slB, iaV_slB_f, iaV_slB_t, *])
              · rename_i q
                have hqq := hno.out (hq'.out q)
                refine fin_tmp (.inr rfl) ?_
                simp [upd, hqq]
              · rename_i q
                refine Nx.mk (xs.length - (i + 1)) (by first | assumption | omega | rfl | (simp (disch := omega) only [go_sem, Nat.reduceMul, Nat.reduceSub, Nat.reduceShiftRight, Nat.reduceMod, Nat.reduceEqDiff, Nat.reduceAdd, ↓reduceIte, Nat.reduceLeDiff, *] <;> omega)) ⟨i + 1, (by first | assumption | omega | rfl | (simp (disch := omega) only [go_sem, Nat.reduceMul, Nat.reduceSub, Nat.reduceShiftRight, Nat.reduceMod, Nat.reduceEqDiff, Nat.reduceAdd, ↓reduceIte, Nat.reduceLeDiff, *] <;> omega)), (by first | assumption | omega | rfl | (simp (disch := omega) only [go_sem, Nat.reduceMul, Nat.reduceSub, Nat.reduceShiftRight, Nat.reduceMod, Nat.reduceEqDiff, Nat.reduceAdd, ↓reduceIte, Nat.reduceLeDiff, *] <;> omega)), (by first | assumption | omega | rfl | (simp (disch := omega) only [go_sem, Nat.reduceMul, Nat.reduceSub, Nat.reduceShiftRight, Nat.reduceMod, Nat.reduceEqDiff, Nat.reduceAdd, ↓reduceIte, Nat.reduceLeDiff, *] <;> omega)), by rw [ht'.out, hs, q]; rfl⟩
            · obtain rfl : i = xs.length := by omega
              have e : ys.take xs.length = ys := List.take_of_length_le (by omega)
              rw [List.take_length, e] at hs
              have hrf := hall.out hs
              clear ih' hall hno
              repeat' (first | ((with_reducible first | refine cond_pos (by omega) ?_ | refine cond_neg (by omega) ?_ | refine guard_pos (by omega) ?_ | refine guard_neg (by omega) ?_ | refine cond_ifn ?_ ?_ | refine cond_waysn ?_ ?_ | refine guard_ifn ?_ ?_ | refine guard_waysn ?_ ?_ | refine cond_if ?_ ?_ | refine cond_ways ?_ ?_ | refine guard_if ?_ ?_ | refine guard_ways ?_ ?_) <;> intro _) | simp (maxSteps := 1000000) (disch := omega) only [↓c_seq, ↓c_region, ↓c_cond, ↓c_block, ↓c_ret, ↓c_skip, ↓c_exit, ↓c_cont, ↓t_normal, ↓t_ret, ↓t_exit, ↓b_normal, ↓b_ret, ↓b_exit, ↓run_nil, ↓run_cons, num_nil, num_cons, ↓g_some, ↓o_mv, ↓o_pick, ↓o_bin, ↓o_un, ↓o_ld, ↓o_bld, ↓o_len, ↓o_mkf, ↓o_nilc, ↓o_fa, ↓o_fd, ↓o_ia, ↓o_iaa, ↓o_ix, ↓o_ixs, ↓o_ext, ↓o_al, ↓o_bxf, ↓o_bxt, ↓o_bsl, ↓o_bslf, chunks, ↓o_mks, ↓o_st, ↓o_stf, ↓o_call, ↓o_rng, ↓o_nxt, rngV, next_is, next_iter, ↓o_callm, ↓o_calvm, ↓o_calv, val_some, new_some, st_some, stf_some, guard_tt, guard_ff, guard_tf, guard_ft, guard_un, ↓cond_true, ↓cond_false, calv_fn, put_some, put_none, ev_tmp, ev_const, ev_func, ↓upd_get, sig_eq, sigF_nil, ↓sigF_cons, q0, q1, nilcV, faV, fdV, iaaV, ixV, ixsV, extV, mksV, loadP, storeP, binPV, unPV, intBin, partsP, fillP, zeros, PV.good, PV.cellsOf, PV.one, q2, q3, q4, q5, q6, q7, q8, q9, q10, q11, q12, q13, q14, Nat.reduceAdd, Nat.reduceMul, Nat.reduceSub, Nat.reduceLeDiff, Nat.reduceEqDiff, Nat.reduceBEq, q15, q16, q17, q18, ↓reduceIte, reduceCtorEq, q19, q20, q21, q22, q23, q24, q25, q26, q27, q28, q29, q30, q31, q32, q33, q34, q35, q36, q37, q38, wrap64, ↓o_eqa, ↓o_mm, ↓o_app, app_some, mmL, mmV, mm2, eqE, eqParts, eqInt, eqBool, eqStr, partV, q39, q40, pickV, q41, Int.reduceEq, Int.reduceLE, Int.reduceLT, Int.reduceAdd, Int.reduceSub, Int.reduceNeg, Int.reduceToNat, Int.reduceNe, q42, q43, q44, q45, q46, q47, q48, q49, appE, oldOf, rowOf, updL, q50, q51, q52, q53, Nat.reducePow, zlt, ovr_get, Nat.reduceShiftRight, Nat.reduceMod, ite_neN, ite_eqN, q54, q55, q56, q57, q58, q59, q60, q61, q62, q63, q64, q65, q66, q67, tailP_f, tailP_t, tailF_f, tailF_t, ↓o_slc, slcP, bndO, capO, slcLen, intOf, Option.isSome_none, Option.isNone_none, Option.isSome_some, Option.isNone_some, nilP, slc_sl, slc_csl, slc_osl, slc_osl0, slc_ocap, slc_str, pv_len, pv_take, Nat.add_assoc, tm_len, tm_take, pv_one, tm_one, tpvB_len, tpvB_take, tpvB_one, pvB_len, pvB_take, pvB_one, List.length_append, id_ne, id_ne', id_ne2, List.append_nil, List.append_assoc, lenPV_slB, iaV_slB_f, iaV_slB_t, *])
              refine fin_tmp (.inr rfl) ?_
              simp [upd, hrf]
      · clear ih
        repeat' (first | ((with_reducible first | refine cond_pos (by omega) ?_ | refine cond_neg (by omega) ?_ | refine guard_pos (by omega) ?_ | refine guard_neg (by omega) ?_ | refine cond_ifn ?_ ?_ | refine cond_waysn ?_ ?_ | refine guard_ifn ?_ ?_ | refine guard_waysn ?_ ?_ | refine cond_if ?_ ?_ | refine cond_ways ?_ ?_ | refine guard_if ?_ ?_ | refine guard_ways ?_ ?_) <;> intro _) | (((with_reducible refine call_id ?_); (first | (refine call_pure (hc1) ?_)))) | simp (maxSteps := 1000000) (disch := omega) only [↓c_seq, ↓c_region, ↓c_cond, ↓c_block, ↓c_ret, ↓c_skip, ↓c_exit, ↓c_cont, ↓t_normal, ↓t_ret, ↓t_exit, ↓b_normal, ↓b_ret, ↓b_exit, ↓run_nil, ↓run_cons, num_nil, num_cons, ↓g_some, ↓o_mv, ↓o_pick, ↓o_bin, ↓o_un, ↓o_ld, ↓o_bld, ↓o_len, ↓o_mkf, ↓o_nilc, ↓o_fa, ↓o_fd, ↓o_ia, ↓o_iaa, ↓o_ix, ↓o_ixs, ↓o_ext, ↓o_al, ↓o_bxf, ↓o_bxt, ↓o_bsl, ↓o_bslf, chunks, ↓o_mks, ↓o_st, ↓o_stf, ↓o_call, ↓o_rng, ↓o_nxt, rngV, next_is, next_iter, ↓o_callm, ↓o_calvm, ↓o_calv, val_some, new_some, st_some, stf_some, guard_tt, guard_ff, guard_tf, guard_ft, guard_un, ↓cond_true, ↓cond_false, calv_fn, put_some, put_none, ev_tmp, ev_const, ev_func, ↓upd_get, sig_eq, sigF_nil, ↓sigF_cons, q0, q1, nilcV, faV, fdV, iaaV, ixV, ixsV, extV, mksV, loadP, storeP, binPV, unPV, intBin, partsP, fillP, zeros, PV.good, PV.cellsOf, PV.one, q2, q3, q4, q5, q6, q7, q8, q9, q10, q11, q12, q13, q14, Nat.reduceAdd, Nat.reduceMul, Nat.reduceSub, Nat.reduceLeDiff, Nat.reduceEqDiff, Nat.reduceBEq, q15, q16, q17, q18, ↓reduceIte, reduceCtorEq, q19, q20, q21, q22, q23, q24, q25, q26, q27, q28, q29, q30, q31, q32, q33, q34, q35, q36, q37, q38, wrap64, ↓o_eqa, ↓o_mm, ↓o_app, app_some, mmL, mmV, mm2, eqE, eqParts, eqInt, eqBool, eqStr, partV, q39, q40, pickV, q41, Int.reduceEq, Int.reduceLE, Int.reduceLT, Int.reduceAdd, Int.reduceSub, Int.reduceNeg, Int.reduceToNat, Int.reduceNe, q42, q43, q44, q45, q46, q47, q48, q49, appE, oldOf, rowOf, updL, q50, q51, q52, q53, Nat.reducePow, zlt, ovr_get, Nat.reduceShiftRight, Nat.reduceMod, ite_neN, ite_eqN, q54, q55, q56, q57, q58, q59, q60, q61, q62, q63, q64, q65, q66, q67, tailP_f, tailP_t, tailF_f, tailF_t, ↓o_slc, slcP, bndO, capO, slcLen, intOf, Option.isSome_none, Option.isNone_none, Option.isSome_some, Option.isNone_some, nilP, slc_sl, slc_csl, slc_osl, slc_osl0, slc_ocap, slc_str, pv_len, pv_take, Nat.add_assoc, tm_len, tm_take, pv_one, tm_one, tpvB_len, tpvB_take, tpvB_one, pvB_len, pvB_take, pvB_one, List.length_append, id_ne, id_ne', id_ne2, List.append_nil, List.append_assoc, lenPV_slB, iaV_slB_f, iaV_slB_t, mc_term_same, Tm.pvB, strBin, fold_sameB, *])
        all_goals (try (refine fin_tmp (.inr rfl) ?_; simp [upd, Tm.same, sameT, *]; done))
end
section
set_option maxRecDepth 20000
attribute [local go_sem] pv_len pv_take Nat.add_assoc tm_len tm_take pv_one tm_one tpvB_len tpvB_take tpvB_one pvB_len pvB_take pvB_one id_ne id_ne' id_ne2 List.append_assoc
abbrev emp : ByteArray := ⟨#[]⟩
theorem tm_take_app (l : Tm) (r : List PV) : (l.pv ++ r).take 5 = l.pv := List.take_left' (tm_len l)
attribute [local go_sem] tm_take_app
theorem tm_drop_app (l : Tm) (r : List PV) : (l.pv ++ r).drop 5 = r := List.drop_left' (tm_len l)
attribute [local go_sem] tm_drop_app
theorem tm_take10 (l : Tm) (r : List PV) : (l.pv ++ r).take 10 = l.pv ++ r.take 5 := by
  rw [List.take_append, tm_len, List.take_of_length_le (by rw [tm_len]; omega)]
attribute [local go_sem] tm_take10
theorem tm_drop10 (l : Tm) (r : List PV) : (l.pv ++ r).drop 10 = r.drop 5 := by
  rw [show (10 : Nat) = 5 + 5 from rfl, ← List.drop_drop, tm_drop_app]
attribute [local go_sem] tm_drop10
theorem tm_drop15 (l : Tm) (r : List PV) : (l.pv ++ r).drop 15 = r.drop 10 := by
  rw [show (15 : Nat) = 5 + 10 from rfl, ← List.drop_drop, tm_drop_app]
attribute [local go_sem] tm_drop15
theorem tm_drop (l : Tm) : l.pv.drop 5 = [] := List.drop_eq_nil_of_le (by rw [tm_len]; omega)
attribute [local go_sem] tm_drop
theorem frz_tpv (k : Nat) (H : Nat → Option PObj) (t : Tm) : t.pv.map (frz k H) = t.pv := by
  cases t
  simp [Tm.pv, frz_sc, frz_sl]
theorem frz_agg_tpv (k : Nat) (H : Nat → Option PObj) (t : Tm) : frz k H (.agg t.pv) = .agg t.pv := by
  cases k with
  | zero => rfl
  | succ k => show PV.agg (t.pv.map (frz k H)) = _; rw [frz_tpv]
theorem tmade_p (k : Int) (args : List Tm) : PPure Try.prog F.term_made [.sc (.int .i64 k), .sl 5 (args.map Tm.pv)] (.agg (Tm.mk k 0 emp [] args).pv) := by
  refine pure_by is_term_made (by simp) (by simp [PV.imm, tm_imm]) fun hb nx => ?_
  repeat' (first | ((with_reducible first | refine cond_pos (by omega) ?_ | refine cond_neg (by omega) ?_ | refine guard_pos (by omega) ?_ | refine guard_neg (by omega) ?_ | refine cond_ifn ?_ ?_ | refine cond_waysn ?_ ?_ | refine guard_ifn ?_ ?_ | refine guard_waysn ?_ ?_ | refine cond_if ?_ ?_ | refine cond_ways ?_ ?_ | refine guard_if ?_ ?_ | refine guard_ways ?_ ?_) <;> intro _) | simp (maxSteps := 1000000) (disch := omega) only [go_sem, Nat.reduceAdd, Nat.reduceMul, Nat.reduceSub, Nat.reduceLeDiff, Nat.reduceEqDiff, Nat.reduceBEq, ↓reduceIte, reduceCtorEq, Int.reduceEq, Int.reduceLE, Int.reduceLT, Int.reduceAdd, Int.reduceSub, Int.reduceNeg, Int.reduceToNat, Int.reduceNe, Nat.reducePow, Nat.reduceShiftRight, Nat.reduceMod, mc_term_made, *])
  refine fin_ret (r0 := .agg [.sc (.int .i64 k), .sc (.int .i64 0), .sc (.string ⟨#[]⟩), .sc (.slice none 0 0), .sl 5 (args.map Tm.pv)]) 2 (by (simp (disch := omega) only [go_sem, Nat.reduceMul, Nat.reduceSub, Nat.reduceShiftRight, Nat.reduceMod, Nat.reduceEqDiff, Nat.reduceAdd, ↓reduceIte, Nat.reduceLeDiff, *]); all_goals rfl) ?_
  rw [frz_agg1]
  simp only [List.map_cons, List.map_nil, frz_sc1, Tm.pv]
  exact Weak.agg ⟨.refl _, .refl _, .refl _, .nil 3, .of_eq (frz_sl _ _ _ _), trivial⟩
theorem tmade_p2 (k : Int) (x y : Tm) : PPure Try.prog F.term_made [.sc (.int .i64 k), .sl 5 [x.pv, y.pv]] (.agg (Tm.mk k 0 emp [] [x, y]).pv) := tmade_p k [x, y]
theorem tmade_p3 (k : Int) (x y z : Tm) : PPure Try.prog F.term_made [.sc (.int .i64 k), .sl 5 [x.pv, y.pv, z.pv]] (.agg (Tm.mk k 0 emp [] [x, y, z]).pv) := tmade_p k [x, y, z]
theorem Var_p (n : Int) : PPure Try.prog F.term_Var [.sc (.int .i64 n)] (.agg (Tm.mk 1 n emp [] []).pv) := by
  refine pure_by is_term_Var (by simp) (by simp [PV.imm, tm_imm]) fun hb nx => ?_
  repeat' (first | ((with_reducible first | refine cond_pos (by omega) ?_ | refine cond_neg (by omega) ?_ | refine guard_pos (by omega) ?_ | refine guard_neg (by omega) ?_ | refine cond_ifn ?_ ?_ | refine cond_waysn ?_ ?_ | refine guard_ifn ?_ ?_ | refine guard_waysn ?_ ?_ | refine cond_if ?_ ?_ | refine cond_ways ?_ ?_ | refine guard_if ?_ ?_ | refine guard_ways ?_ ?_) <;> intro _) | simp (maxSteps := 1000000) (disch := omega) only [go_sem, Nat.reduceAdd, Nat.reduceMul, Nat.reduceSub, Nat.reduceLeDiff, Nat.reduceEqDiff, Nat.reduceBEq, ↓reduceIte, reduceCtorEq, Int.reduceEq, Int.reduceLE, Int.reduceLT, Int.reduceAdd, Int.reduceSub, Int.reduceNeg, Int.reduceToNat, Int.reduceNe, Nat.reducePow, Nat.reduceShiftRight, Nat.reduceMod, mc_term_Var, *])
  refine fin_ret (r0 := .agg [.sc (.int .i64 1), .sc (.int .i64 n), .sc (.string ⟨#[]⟩), .sc (.slice none 0 0), .sc (.slice none 0 0)]) 2 (by (simp (disch := omega) only [go_sem, Nat.reduceMul, Nat.reduceSub, Nat.reduceShiftRight, Nat.reduceMod, Nat.reduceEqDiff, Nat.reduceAdd, ↓reduceIte, Nat.reduceLeDiff, *]); all_goals rfl) ?_
  rw [frz_agg1]
  simp only [List.map_cons, List.map_nil, frz_sc1, Tm.pv]
  exact Weak.agg ⟨.refl _, .refl _, .refl _, .nil 3, .nil 5, trivial⟩
theorem Const_p (s : ByteArray) (ls : List Lv) (hl : nodesL ls ≤ 2 ^ 40) : PPure Try.prog F.term_Const [.sc (.string s), .sl 3 (ls.map Lv.pv)] (.agg (Tm.mk 3 0 s ls []).pv) := by
  refine pure_by is_term_Const (by simp) (by simp [PV.imm, tm_imm]) fun hb nx => ?_
  repeat' (first | ((with_reducible first | refine cond_pos (by omega) ?_ | refine cond_neg (by omega) ?_ | refine guard_pos (by omega) ?_ | refine guard_neg (by omega) ?_ | refine cond_ifn ?_ ?_ | refine cond_waysn ?_ ?_ | refine guard_ifn ?_ ?_ | refine guard_waysn ?_ ?_ | refine cond_if ?_ ?_ | refine cond_ways ?_ ?_ | refine guard_if ?_ ?_ | refine guard_ways ?_ ?_) <;> intro _) | (((with_reducible refine call_id ?_); (first | (refine call_pure (cloneLevels_p ls hl) ?_)))) | simp (maxSteps := 1000000) (disch := omega) only [go_sem, Nat.reduceAdd, Nat.reduceMul, Nat.reduceSub, Nat.reduceLeDiff, Nat.reduceEqDiff, Nat.reduceBEq, ↓reduceIte, reduceCtorEq, Int.reduceEq, Int.reduceLE, Int.reduceLT, Int.reduceAdd, Int.reduceSub, Int.reduceNeg, Int.reduceToNat, Int.reduceNe, Nat.reducePow, Nat.reduceShiftRight, Nat.reduceMod, mc_term_Const, *])
  refine fin_ret (r0 := .agg [.sc (.int .i64 3), .sc (.int .i64 0), .sc (.string s), .sl 3 (ls.map Lv.pv), .sc (.slice none 0 0)]) 2 (by (simp (disch := omega) only [go_sem, Nat.reduceMul, Nat.reduceSub, Nat.reduceShiftRight, Nat.reduceMod, Nat.reduceEqDiff, Nat.reduceAdd, ↓reduceIte, Nat.reduceLeDiff, *]); all_goals rfl) ?_
  rw [frz_agg1]
  simp only [List.map_cons, List.map_nil, frz_sc1, frz_sl, Tm.pv]
  exact Weak.agg ⟨.refl _, .refl _, .refl _, .refl _, .nil 5, trivial⟩
theorem Sort_p (l : Lv) (hl : l.nodes ≤ 2 ^ 40) : PPure Try.prog F.term_Sort [.agg l.pv] (.agg (Tm.mk 2 0 emp [l] []).pv) := by
  refine pure_by is_term_Sort (by simp) (by simp [PV.imm, tm_imm]) fun hb nx => ?_
  have hc := cloneLevels_p [l] (by simp only [nodesL]; omega)
  simp only [List.map_cons, List.map_nil] at hc
  repeat' (first | ((with_reducible first | refine cond_pos (by omega) ?_ | refine cond_neg (by omega) ?_ | refine guard_pos (by omega) ?_ | refine guard_neg (by omega) ?_ | refine cond_ifn ?_ ?_ | refine cond_waysn ?_ ?_ | refine guard_ifn ?_ ?_ | refine guard_waysn ?_ ?_ | refine cond_if ?_ ?_ | refine cond_ways ?_ ?_ | refine guard_if ?_ ?_ | refine guard_ways ?_ ?_) <;> intro _) | (((with_reducible refine call_id ?_); (first | (refine call_pure (hc) ?_)))) | simp (maxSteps := 1000000) (disch := omega) only [go_sem, Nat.reduceAdd, Nat.reduceMul, Nat.reduceSub, Nat.reduceLeDiff, Nat.reduceEqDiff, Nat.reduceBEq, ↓reduceIte, reduceCtorEq, Int.reduceEq, Int.reduceLE, Int.reduceLT, Int.reduceAdd, Int.reduceSub, Int.reduceNeg, Int.reduceToNat, Int.reduceNe, Nat.reducePow, Nat.reduceShiftRight, Nat.reduceMod, mc_term_Sort, *])
  refine fin_ret (r0 := .agg [.sc (.int .i64 2), .sc (.int .i64 0), .sc (.string ⟨#[]⟩), .sl 3 [l.pv], .sc (.slice none 0 0)]) 2 (by (simp (disch := omega) only [go_sem, Nat.reduceMul, Nat.reduceSub, Nat.reduceShiftRight, Nat.reduceMod, Nat.reduceEqDiff, Nat.reduceAdd, ↓reduceIte, Nat.reduceLeDiff, *]); all_goals rfl) ?_
  rw [frz_agg1]
  simp only [List.map_cons, List.map_nil, frz_sc1, frz_sl, Tm.pv]
  exact Weak.agg ⟨.refl _, .refl _, .refl _, .refl _, .nil 5, trivial⟩
theorem clone_p2 (t : Tm) (hm : t.nodes ≤ 2 ^ 40) : PPure Try.prog F.term_clone [.ptr t.pv] (.agg t.pv) := (clone_pF2 t hm).weak (WeakL.refl _) (tm_agg true t)
def appT (f : Tm) (xs : List Tm) : Tm := xs.foldl (fun o x => .mk 4 0 emp [] [o, x]) f
theorem appT_take (f : Tm) (xs : List Tm) (i : Nat) (h : i < xs.length) : appT f (xs.take (i + 1)) = .mk 4 0 emp [] [appT f (xs.take i), xs[i]] := by
  rw [List.take_succ_eq_append_getElem h]
  simp only [appT, List.foldl_append, List.foldl_cons, List.foldl_nil]
set_option maxHeartbeats 4000000 in
theorem App_p (f : Tm) (xs : List Tm) (hf : f.nodes ≤ 2 ^ 40) (hx : ∀ x ∈ xs, x.nodes ≤ 2 ^ 40) : PPure Try.prog F.term_App [.agg f.pv, .sl 5 (xs.map Tm.pv)] (.agg (appT f xs).pv) := by
  refine pure_by is_term_App (by simp) (by simp [PV.imm, tm_imm]) fun hb nx => ?_
  have hb0 : xs.length ≤ 9223372036854775807 := by simp [bndL, PV.bnd] at hb; exact hb.2.1
  repeat' (first | ((with_reducible first | refine cond_pos (by omega) ?_ | refine cond_neg (by omega) ?_ | refine guard_pos (by omega) ?_ | refine guard_neg (by omega) ?_ | refine cond_ifn ?_ ?_ | refine cond_waysn ?_ ?_ | refine guard_ifn ?_ ?_ | refine guard_waysn ?_ ?_ | refine cond_if ?_ ?_ | refine cond_ways ?_ ?_ | refine guard_if ?_ ?_ | refine guard_ways ?_ ?_) <;> intro _) | (((with_reducible refine call_id ?_); (first | (refine call_pure (clone_p2 f hf) ?_)))) | simp (maxSteps := 1000000) (disch := omega) only [go_sem, Nat.reduceAdd, Nat.reduceMul, Nat.reduceSub, Nat.reduceLeDiff, Nat.reduceEqDiff, Nat.reduceBEq, ↓reduceIte, reduceCtorEq, Int.reduceEq, Int.reduceLE, Int.reduceLT, Int.reduceAdd, Int.reduceSub, Int.reduceNeg, Int.reduceToNat, Int.reduceNe, Nat.reducePow, Nat.reduceShiftRight, Nat.reduceMod, mc_term_App, *])
  refine c_loopW 2096192 (by kernel_rfl) (fun j F H m => ∃ i : Nat, j = xs.length - i ∧ i ≤ xs.length ∧ F 10 = .sc (.int .i64 i) ∧ nx + 5 ≤ m ∧ H (nx + 1) = some ⟨[.sc (.int .i64 0), .sc (.int .i64 0), .sc (.string ⟨#[]⟩), .sc (.slice none 0 0), .sc (.slice none 0 0)], true⟩ ∧ H (nx + 3) = some ⟨(appT f (xs.take i)).pv, true⟩) _ ⟨0, rfl, Nat.zero_le _, rfl, (by first | assumption | omega | rfl | (simp (disch := omega) only [go_sem, Nat.reduceMul, Nat.reduceSub, Nat.reduceShiftRight, Nat.reduceMod, Nat.reduceEqDiff, Nat.reduceAdd, ↓reduceIte, Nat.reduceLeDiff, *] <;> omega)), (by first | assumption | omega | rfl | (simp (disch := omega) only [go_sem, Nat.reduceMul, Nat.reduceSub, Nat.reduceShiftRight, Nat.reduceMod, Nat.reduceEqDiff, Nat.reduceAdd, ↓reduceIte, Nat.reduceLeDiff, *] <;> omega)), by simp [upd, appT]⟩ ?_
  rintro _ F H m ⟨i, rfl, hi, e10, hm, hH1, hH3⟩
  by_cases hlt : i < xs.length
  · have eg : xs[i]? = some xs[i] := List.getElem?_eq_getElem hlt
    have ha := appT_take f xs i hlt
    have hc := tmade_p2 4 (appT f (xs.take i)) xs[i]
    rw [← ha] at hc
    clear ha
    repeat' (first | ((with_reducible first | refine cond_pos (by omega) ?_ | refine cond_neg (by omega) ?_ | refine guard_pos (by omega) ?_ | refine guard_neg (by omega) ?_ | refine cond_ifn ?_ ?_ | refine cond_waysn ?_ ?_ | refine guard_ifn ?_ ?_ | refine guard_waysn ?_ ?_ | refine cond_if ?_ ?_ | refine cond_ways ?_ ?_ | refine guard_if ?_ ?_ | refine guard_ways ?_ ?_) <;> intro _) | (((with_reducible refine call_id ?_); (first | (refine call_pure (clone_p2 xs[i] (hx _ (List.getElem_mem hlt))) ?_) | (refine call_pure (hc) ?_)))) | simp (maxSteps := 1000000) (disch := omega) only [go_sem, Nat.reduceAdd, Nat.reduceMul, Nat.reduceSub, Nat.reduceLeDiff, Nat.reduceEqDiff, Nat.reduceBEq, ↓reduceIte, reduceCtorEq, Int.reduceEq, Int.reduceLE, Int.reduceLT, Int.reduceAdd, Int.reduceSub, Int.reduceNeg, Int.reduceToNat, Int.reduceNe, Nat.reducePow, Nat.reduceShiftRight, Nat.reduceMod, *])
    refine Nx.mk (xs.length - (i + 1)) (by first | assumption | omega | rfl | (simp (disch := omega) only [go_sem, Nat.reduceMul, Nat.reduceSub, Nat.reduceShiftRight, Nat.reduceMod, Nat.reduceEqDiff, Nat.reduceAdd, ↓reduceIte, Nat.reduceLeDiff, *] <;> omega)) ⟨i + 1, (by first | assumption | omega | rfl | (simp (disch := omega) only [go_sem, Nat.reduceMul, Nat.reduceSub, Nat.reduceShiftRight, Nat.reduceMod, Nat.reduceEqDiff, Nat.reduceAdd, ↓reduceIte, Nat.reduceLeDiff, *] <;> omega)), (by first | assumption | omega | rfl | (simp (disch := omega) only [go_sem, Nat.reduceMul, Nat.reduceSub, Nat.reduceShiftRight, Nat.reduceMod, Nat.reduceEqDiff, Nat.reduceAdd, ↓reduceIte, Nat.reduceLeDiff, *] <;> omega)), (by first | assumption | omega | rfl | (simp (disch := omega) only [go_sem, Nat.reduceMul, Nat.reduceSub, Nat.reduceShiftRight, Nat.reduceMod, Nat.reduceEqDiff, Nat.reduceAdd, ↓reduceIte, Nat.reduceLeDiff, *] <;> omega)), (by first | assumption | omega | rfl | (simp (disch := omega) only [go_sem, Nat.reduceMul, Nat.reduceSub, Nat.reduceShiftRight, Nat.reduceMod, Nat.reduceEqDiff, Nat.reduceAdd, ↓reduceIte, Nat.reduceLeDiff, *] <;> omega)), (by first | assumption | omega | rfl | (simp (disch := omega) only [go_sem, Nat.reduceMul, Nat.reduceSub, Nat.reduceShiftRight, Nat.reduceMod, Nat.reduceEqDiff, Nat.reduceAdd, ↓reduceIte, Nat.reduceLeDiff, *] <;> omega)), (by first | assumption | omega | rfl | (simp (disch := omega) only [go_sem, Nat.reduceMul, Nat.reduceSub, Nat.reduceShiftRight, Nat.reduceMod, Nat.reduceEqDiff, Nat.reduceAdd, ↓reduceIte, Nat.reduceLeDiff, *] <;> omega))⟩
  · obtain rfl : i = xs.length := by omega
    rw [List.take_length] at hH3
    repeat' (first | ((with_reducible first | refine cond_pos (by omega) ?_ | refine cond_neg (by omega) ?_ | refine guard_pos (by omega) ?_ | refine guard_neg (by omega) ?_ | refine cond_ifn ?_ ?_ | refine cond_waysn ?_ ?_ | refine guard_ifn ?_ ?_ | refine guard_waysn ?_ ?_ | refine cond_if ?_ ?_ | refine cond_ways ?_ ?_ | refine guard_if ?_ ?_ | refine guard_ways ?_ ?_) <;> intro _) | simp (maxSteps := 1000000) (disch := omega) only [go_sem, Nat.reduceAdd, Nat.reduceMul, Nat.reduceSub, Nat.reduceLeDiff, Nat.reduceEqDiff, Nat.reduceBEq, ↓reduceIte, reduceCtorEq, Int.reduceEq, Int.reduceLE, Int.reduceLT, Int.reduceAdd, Int.reduceSub, Int.reduceNeg, Int.reduceToNat, Int.reduceNe, Nat.reducePow, Nat.reduceShiftRight, Nat.reduceMod, *])
    refine fin_ret (r0 := .agg (appT f xs).pv) 1 (by (simp (disch := omega) only [go_sem, Nat.reduceMul, Nat.reduceSub, Nat.reduceShiftRight, Nat.reduceMod, Nat.reduceEqDiff, Nat.reduceAdd, ↓reduceIte, Nat.reduceLeDiff, *]); all_goals rfl) ?_
    exact .of_eq (frz_agg_tpv _ _ _)
def boundT (k : Int) (b : Tm) (xs : List Tm) : Tm := xs.foldr (fun x o => .mk k 0 emp [] [x, o]) b
theorem boundT_drop (k : Int) (b : Tm) (xs : List Tm) (i : Nat) (h : i < xs.length) : boundT k b (xs.drop i) = .mk k 0 emp [] [xs[i], boundT k b (xs.drop (i + 1))] := by
  rw [List.drop_eq_getElem_cons h]
  rfl
set_option maxHeartbeats 4000000 in
theorem bound_p (k : Int) (b : Tm) (xs : List Tm) (hf : b.nodes ≤ 2 ^ 40) (hx : ∀ x ∈ xs, x.nodes ≤ 2 ^ 40) : PPure Try.prog F.term_bound [.sc (.int .i64 k), .agg b.pv, .sl 5 (xs.map Tm.pv)] (.agg (boundT k b xs).pv) := by
  refine pure_by is_term_bound (by simp) (by simp [PV.imm, tm_imm]) fun hb nx => ?_
  have hb0 : xs.length ≤ 9223372036854775807 := by simp [bndL, PV.bnd] at hb; exact hb.2.1
  repeat' (first | ((with_reducible first | refine cond_pos (by omega) ?_ | refine cond_neg (by omega) ?_ | refine guard_pos (by omega) ?_ | refine guard_neg (by omega) ?_ | refine cond_ifn ?_ ?_ | refine cond_waysn ?_ ?_ | refine guard_ifn ?_ ?_ | refine guard_waysn ?_ ?_ | refine cond_if ?_ ?_ | refine cond_ways ?_ ?_ | refine guard_if ?_ ?_ | refine guard_ways ?_ ?_) <;> intro _) | (((with_reducible refine call_id ?_); (first | (refine call_pure (clone_p2 b hf) ?_)))) | simp (maxSteps := 1000000) (disch := omega) only [go_sem, Nat.reduceAdd, Nat.reduceMul, Nat.reduceSub, Nat.reduceLeDiff, Nat.reduceEqDiff, Nat.reduceBEq, ↓reduceIte, reduceCtorEq, Int.reduceEq, Int.reduceLE, Int.reduceLT, Int.reduceAdd, Int.reduceSub, Int.reduceNeg, Int.reduceToNat, Int.reduceNe, Nat.reducePow, Nat.reduceShiftRight, Nat.reduceMod, mc_term_bound, *])
  refine c_loopW 33546496 (by kernel_rfl) (fun j F H m => j ≤ xs.length ∧ F 8 = .sc (.int .i64 ((j : Int) - 1)) ∧ nx + 5 ≤ m ∧ H (nx + 1) = some ⟨[.sc (.int .i64 0), .sc (.int .i64 0), .sc (.string ⟨#[]⟩), .sc (.slice none 0 0), .sc (.slice none 0 0)], true⟩ ∧ H (nx + 3) = some ⟨(boundT k b (xs.drop j)).pv, true⟩) xs.length ⟨Nat.le_refl _, (by first | assumption | omega | rfl | (simp (disch := omega) only [go_sem, Nat.reduceMul, Nat.reduceSub, Nat.reduceShiftRight, Nat.reduceMod, Nat.reduceEqDiff, Nat.reduceAdd, ↓reduceIte, Nat.reduceLeDiff, *] <;> omega)), (by first | assumption | omega | rfl | (simp (disch := omega) only [go_sem, Nat.reduceMul, Nat.reduceSub, Nat.reduceShiftRight, Nat.reduceMod, Nat.reduceEqDiff, Nat.reduceAdd, ↓reduceIte, Nat.reduceLeDiff, *] <;> omega)), (by first | assumption | omega | rfl | (simp (disch := omega) only [go_sem, Nat.reduceMul, Nat.reduceSub, Nat.reduceShiftRight, Nat.reduceMod, Nat.reduceEqDiff, Nat.reduceAdd, ↓reduceIte, Nat.reduceLeDiff, *] <;> omega)), by rw [List.drop_length]; simp [upd, boundT]⟩ ?_
  rintro j F H m ⟨hj, e8, hm, hH1, hH3⟩
  by_cases hlt : 0 < j
  · obtain ⟨j, rfl⟩ : ∃ i, j = i + 1 := ⟨j - 1, by omega⟩
    have hlt' : j < xs.length := by omega
    have eg : xs[j]? = some xs[j] := List.getElem?_eq_getElem hlt'
    have ha := boundT_drop k b xs j hlt'
    have hc := tmade_p2 k xs[j] (boundT k b (xs.drop (j + 1)))
    have hz : (((j + 1 : Nat) : Int) - 1) = (j : Int) := by omega
    rw [hz] at e8
    rw [← ha] at hc
    clear ha hz
    repeat' (first | ((with_reducible first | refine cond_pos (by omega) ?_ | refine cond_neg (by omega) ?_ | refine guard_pos (by omega) ?_ | refine guard_neg (by omega) ?_ | refine cond_ifn ?_ ?_ | refine cond_waysn ?_ ?_ | refine guard_ifn ?_ ?_ | refine guard_waysn ?_ ?_ | refine cond_if ?_ ?_ | refine cond_ways ?_ ?_ | refine guard_if ?_ ?_ | refine guard_ways ?_ ?_) <;> intro _) | (((with_reducible refine call_id ?_); (first | (refine call_pure (clone_p2 xs[j] (hx _ (List.getElem_mem hlt'))) ?_) | (refine call_pure (hc) ?_)))) | simp (maxSteps := 1000000) (disch := omega) only [go_sem, Nat.reduceAdd, Nat.reduceMul, Nat.reduceSub, Nat.reduceLeDiff, Nat.reduceEqDiff, Nat.reduceBEq, ↓reduceIte, reduceCtorEq, Int.reduceEq, Int.reduceLE, Int.reduceLT, Int.reduceAdd, Int.reduceSub, Int.reduceNeg, Int.reduceToNat, Int.reduceNe, Nat.reducePow, Nat.reduceShiftRight, Nat.reduceMod, *])
    refine Nx.mk j (by first | assumption | omega | rfl | (simp (disch := omega) only [go_sem, Nat.reduceMul, Nat.reduceSub, Nat.reduceShiftRight, Nat.reduceMod, Nat.reduceEqDiff, Nat.reduceAdd, ↓reduceIte, Nat.reduceLeDiff, *] <;> omega)) ⟨(by first | assumption | omega | rfl | (simp (disch := omega) only [go_sem, Nat.reduceMul, Nat.reduceSub, Nat.reduceShiftRight, Nat.reduceMod, Nat.reduceEqDiff, Nat.reduceAdd, ↓reduceIte, Nat.reduceLeDiff, *] <;> omega)), (by first | assumption | omega | rfl | (simp (disch := omega) only [go_sem, Nat.reduceMul, Nat.reduceSub, Nat.reduceShiftRight, Nat.reduceMod, Nat.reduceEqDiff, Nat.reduceAdd, ↓reduceIte, Nat.reduceLeDiff, *] <;> omega)), (by first | assumption | omega | rfl | (simp (disch := omega) only [go_sem, Nat.reduceMul, Nat.reduceSub, Nat.reduceShiftRight, Nat.reduceMod, Nat.reduceEqDiff, Nat.reduceAdd, ↓reduceIte, Nat.reduceLeDiff, *] <;> omega)), (by first | assumption | omega | rfl | (simp (disch := omega) only [go_sem, Nat.reduceMul, Nat.reduceSub, Nat.reduceShiftRight, Nat.reduceMod, Nat.reduceEqDiff, Nat.reduceAdd, ↓reduceIte, Nat.reduceLeDiff, *] <;> omega)), (by first | assumption | omega | rfl | (simp (disch := omega) only [go_sem, Nat.reduceMul, Nat.reduceSub, Nat.reduceShiftRight, Nat.reduceMod, Nat.reduceEqDiff, Nat.reduceAdd, ↓reduceIte, Nat.reduceLeDiff, *] <;> omega))⟩
  · obtain rfl : j = 0 := by omega
    rw [List.drop_zero] at hH3
    repeat' (first | ((with_reducible first | refine cond_pos (by omega) ?_ | refine cond_neg (by omega) ?_ | refine guard_pos (by omega) ?_ | refine guard_neg (by omega) ?_ | refine cond_ifn ?_ ?_ | refine cond_waysn ?_ ?_ | refine guard_ifn ?_ ?_ | refine guard_waysn ?_ ?_ | refine cond_if ?_ ?_ | refine cond_ways ?_ ?_ | refine guard_if ?_ ?_ | refine guard_ways ?_ ?_) <;> intro _) | simp (maxSteps := 1000000) (disch := omega) only [go_sem, Nat.reduceAdd, Nat.reduceMul, Nat.reduceSub, Nat.reduceLeDiff, Nat.reduceEqDiff, Nat.reduceBEq, ↓reduceIte, reduceCtorEq, Int.reduceEq, Int.reduceLE, Int.reduceLT, Int.reduceAdd, Int.reduceSub, Int.reduceNeg, Int.reduceToNat, Int.reduceNe, Nat.reducePow, Nat.reduceShiftRight, Nat.reduceMod, *])
    refine fin_ret (r0 := .agg (boundT k b xs).pv) 1 (by (simp (disch := omega) only [go_sem, Nat.reduceMul, Nat.reduceSub, Nat.reduceShiftRight, Nat.reduceMod, Nat.reduceEqDiff, Nat.reduceAdd, ↓reduceIte, Nat.reduceLeDiff, *]); all_goals rfl) ?_
    exact .of_eq (frz_agg_tpv _ _ _)
theorem Lam_p (b : Tm) (xs : List Tm) (hf : b.nodes ≤ 2 ^ 40) (hx : ∀ x ∈ xs, x.nodes ≤ 2 ^ 40) : PPure Try.prog F.term_Lam [.agg b.pv, .sl 5 (xs.map Tm.pv)] (.agg (boundT 5 b xs).pv) := by
  refine pure_by is_term_Lam (by simp) (by simp [PV.imm, tm_imm]) fun hb nx => ?_
  repeat' (first | ((with_reducible first | refine cond_pos (by omega) ?_ | refine cond_neg (by omega) ?_ | refine guard_pos (by omega) ?_ | refine guard_neg (by omega) ?_ | refine cond_ifn ?_ ?_ | refine cond_waysn ?_ ?_ | refine guard_ifn ?_ ?_ | refine guard_waysn ?_ ?_ | refine cond_if ?_ ?_ | refine cond_ways ?_ ?_ | refine guard_if ?_ ?_ | refine guard_ways ?_ ?_) <;> intro _) | (((with_reducible refine call_id ?_); (first | (refine call_pure (bound_p 5 b xs hf hx) ?_)))) | simp (maxSteps := 1000000) (disch := omega) only [go_sem, Nat.reduceAdd, Nat.reduceMul, Nat.reduceSub, Nat.reduceLeDiff, Nat.reduceEqDiff, Nat.reduceBEq, ↓reduceIte, reduceCtorEq, Int.reduceEq, Int.reduceLE, Int.reduceLT, Int.reduceAdd, Int.reduceSub, Int.reduceNeg, Int.reduceToNat, Int.reduceNe, Nat.reducePow, Nat.reduceShiftRight, Nat.reduceMod, mc_term_Lam, *])
  refine fin_ret (r0 := .agg (boundT 5 b xs).pv) 1 (by (simp (disch := omega) only [go_sem, Nat.reduceMul, Nat.reduceSub, Nat.reduceShiftRight, Nat.reduceMod, Nat.reduceEqDiff, Nat.reduceAdd, ↓reduceIte, Nat.reduceLeDiff, *]); all_goals rfl) ?_
  exact .of_eq (frz_agg_tpv _ _ _)
theorem Pi_p (b : Tm) (xs : List Tm) (hf : b.nodes ≤ 2 ^ 40) (hx : ∀ x ∈ xs, x.nodes ≤ 2 ^ 40) : PPure Try.prog F.term_Pi [.agg b.pv, .sl 5 (xs.map Tm.pv)] (.agg (boundT 6 b xs).pv) := by
  refine pure_by is_term_Pi (by simp) (by simp [PV.imm, tm_imm]) fun hb nx => ?_
  repeat' (first | ((with_reducible first | refine cond_pos (by omega) ?_ | refine cond_neg (by omega) ?_ | refine guard_pos (by omega) ?_ | refine guard_neg (by omega) ?_ | refine cond_ifn ?_ ?_ | refine cond_waysn ?_ ?_ | refine guard_ifn ?_ ?_ | refine guard_waysn ?_ ?_ | refine cond_if ?_ ?_ | refine cond_ways ?_ ?_ | refine guard_if ?_ ?_ | refine guard_ways ?_ ?_) <;> intro _) | (((with_reducible refine call_id ?_); (first | (refine call_pure (bound_p 6 b xs hf hx) ?_)))) | simp (maxSteps := 1000000) (disch := omega) only [go_sem, Nat.reduceAdd, Nat.reduceMul, Nat.reduceSub, Nat.reduceLeDiff, Nat.reduceEqDiff, Nat.reduceBEq, ↓reduceIte, reduceCtorEq, Int.reduceEq, Int.reduceLE, Int.reduceLT, Int.reduceAdd, Int.reduceSub, Int.reduceNeg, Int.reduceToNat, Int.reduceNe, Nat.reducePow, Nat.reduceShiftRight, Nat.reduceMod, mc_term_Pi, *])
  refine fin_ret (r0 := .agg (boundT 6 b xs).pv) 1 (by (simp (disch := omega) only [go_sem, Nat.reduceMul, Nat.reduceSub, Nat.reduceShiftRight, Nat.reduceMod, Nat.reduceEqDiff, Nat.reduceAdd, ↓reduceIte, Nat.reduceLeDiff, *]); all_goals rfl) ?_
  exact .of_eq (frz_agg_tpv _ _ _)
theorem Let_p (a b c : Tm) (ha : a.nodes ≤ 2 ^ 40) (hb2 : b.nodes ≤ 2 ^ 40) (hc : c.nodes ≤ 2 ^ 40) : PPure Try.prog F.term_Let [.agg a.pv, .agg b.pv, .agg c.pv] (.agg (Tm.mk 7 0 emp [] [a, b, c]).pv) := by
  refine pure_by is_term_Let (by simp) (by simp [PV.imm, tm_imm]) fun hb nx => ?_
  repeat' (first | ((with_reducible first | refine cond_pos (by omega) ?_ | refine cond_neg (by omega) ?_ | refine guard_pos (by omega) ?_ | refine guard_neg (by omega) ?_ | refine cond_ifn ?_ ?_ | refine cond_waysn ?_ ?_ | refine guard_ifn ?_ ?_ | refine guard_waysn ?_ ?_ | refine cond_if ?_ ?_ | refine cond_ways ?_ ?_ | refine guard_if ?_ ?_ | refine guard_ways ?_ ?_) <;> intro _) | (((with_reducible refine call_id ?_); (first | (refine call_pure (clone_p2 a ha) ?_) | (refine call_pure (clone_p2 b hb2) ?_) | (refine call_pure (clone_p2 c hc) ?_) | (refine call_pure (tmade_p3 7 a b c) ?_)))) | simp (maxSteps := 1000000) (disch := omega) only [go_sem, Nat.reduceAdd, Nat.reduceMul, Nat.reduceSub, Nat.reduceLeDiff, Nat.reduceEqDiff, Nat.reduceBEq, ↓reduceIte, reduceCtorEq, Int.reduceEq, Int.reduceLE, Int.reduceLT, Int.reduceAdd, Int.reduceSub, Int.reduceNeg, Int.reduceToNat, Int.reduceNe, Nat.reducePow, Nat.reduceShiftRight, Nat.reduceMod, mc_term_Let, *])
  refine fin_ret (r0 := .agg (Tm.mk 7 0 emp [] [a, b, c]).pv) 1 (by (simp (disch := omega) only [go_sem, Nat.reduceMul, Nat.reduceSub, Nat.reduceShiftRight, Nat.reduceMod, Nat.reduceEqDiff, Nat.reduceAdd, ↓reduceIte, Nat.reduceLeDiff, *]); all_goals rfl) ?_
  exact .of_eq (frz_agg_tpv _ _ _)
end
section
set_option maxRecDepth 20000
attribute [local go_sem] pv_len pv_take Nat.add_assoc tm_len tm_take pv_one tm_one tpvB_len tpvB_take tpvB_one pvB_len pvB_take pvB_one id_ne id_ne' id_ne2 List.append_assoc
mutual
def Tm.lift (by_ : Int) : Int → Tm → Tm
  | frm, .mk k n s ls args => .mk k (if k = 1 ∧ frm ≤ n then n + by_ else n) s ls (liftA by_ frm k args.length 0 args)
def liftA (by_ : Int) : Int → Int → Nat → Nat → List Tm → List Tm
  | _, _, _, _, [] => []
  | frm, kind, len, i, x :: r => x.lift by_ (frm + deepB kind len i) :: liftA by_ frm kind len (i + 1) r
end
theorem liftA_len (b frm kind : Int) (len : Nat) : ∀ (xs : List Tm) (i : Nat), (liftA b frm kind len i xs).length = xs.length
  | [], _ => by simp [liftA]
  | x :: r, i => by simp only [liftA, List.length_cons, liftA_len b frm kind len r]
theorem liftA_at (b frm kind : Int) (len : Nat) : ∀ (xs : List Tm) (i j : Nat), (liftA b frm kind len i xs)[j]? = (xs[j]?).map fun x => x.lift b (frm + deepB kind len (i + j))
  | [], _, _ => by simp [liftA]
  | x :: r, i, 0 => by simp [liftA]
  | x :: r, i, j + 1 => by
    simp only [liftA, List.getElem?_cons_succ, liftA_at b frm kind len r (i + 1) j]
    rw [show i + 1 + j = i + (j + 1) by omega]
theorem liftA_get (b frm kind : Int) (args : List Tm) (i : Nat) (h : i < args.length) : (liftA b frm kind args.length 0 args).take i ++ args[i].lift b (frm + deepB kind args.length i) :: args.drop (i + 1) = (liftA b frm kind args.length 0 args).take (i + 1) ++ args.drop (i + 1) := by
  have h2 : i < (liftA b frm kind args.length 0 args).length := by rw [liftA_len]; exact h
  have h3 := liftA_at b frm kind args.length args 0 i
  rw [List.getElem?_eq_getElem h2, List.getElem?_eq_getElem h, Nat.zero_add] at h3
  simp only [Option.map_some, Option.some.injEq] at h3
  rw [List.take_succ_eq_append_getElem h2, h3]
  simp
theorem deeper_o (kind n : Int) (s : ByteArray) (a : PV) (id2 len : Nat) (hl : len ≤ 2 ^ 40) (q : List PV) (i : Nat) (hi : i < len) : PPure Try.prog F.term_deeper [.ptr (.sc (.int .i64 kind) :: .sc (.int .i64 n) :: .sc (.string s) :: a :: .osl id2 0 len 5 :: q), .sc (.int .i64 i)] (.sc (.int .i64 (deepB kind len i))) := by
  refine pure_by is_term_deeper (by simp) rfl fun hb nx => ?_
  repeat' (first | ((with_reducible first | refine cond_pos (by omega) ?_ | refine cond_neg (by omega) ?_ | refine guard_pos (by omega) ?_ | refine guard_neg (by omega) ?_ | refine cond_ifn ?_ ?_ | refine cond_waysn ?_ ?_ | refine guard_ifn ?_ ?_ | refine guard_waysn ?_ ?_ | refine cond_if ?_ ?_ | refine cond_ways ?_ ?_ | refine guard_if ?_ ?_ | refine guard_ways ?_ ?_) <;> intro _) | simp (maxSteps := 1000000) (disch := omega) only [go_sem, Nat.reduceAdd, Nat.reduceMul, Nat.reduceSub, Nat.reduceLeDiff, Nat.reduceEqDiff, Nat.reduceBEq, ↓reduceIte, reduceCtorEq, Int.reduceEq, Int.reduceLE, Int.reduceLT, Int.reduceAdd, Int.reduceSub, Int.reduceNeg, Int.reduceToNat, Int.reduceNe, Nat.reducePow, Nat.reduceShiftRight, Nat.reduceMod, mc_term_deeper, *])
  all_goals (refine fin_tmp (.inr rfl) ?_; simp [upd, deepB, *]; try omega)
set_option maxHeartbeats 16000000 in
theorem raise_p (np by_ : Int) (hby : 0 ≤ by_ ∧ by_ ≤ 2 ^ 50) : ∀ (fuel : Nat) (t : Tm) (k frm : Int), t.size ≤ fuel → t.nodes ≤ 2 ^ 40 → 0 ≤ k → k + t.size ≤ 2 ^ 60 → t.formed np k = true → 0 ≤ frm → frm + t.size ≤ 2 ^ 60 →
    ∀ (H : Nat → Option PObj) (nx id off : Nat) (p cs q : List PV) (w : Bool) (lo m : Nat), H id = some ⟨p ++ (cs ++ q), w⟩ → id < nx → (id < lo ∨ m ≤ id) → lo ≤ m → m ≤ nx → p.length = off → OwnT H lo m cs t →
    PMut Try.prog F.term_raise [.optr id off, .sc (.int .i64 by_), .sc (.int .i64 frm)] H nx (fun H' nx' r => r = .tup [] ∧ nx ≤ nx' ∧ ∃ cs', H' id = some ⟨p ++ (cs' ++ q), w⟩ ∧ OwnT H' lo m cs' (t.lift by_ frm) ∧ ∀ j, j ≠ id → (j < lo ∨ m ≤ j) → j < nx → H' j = H j) := by
  intro fuel
  induction fuel with
  | zero => intro t k frm h; have := size_pos t; omega
  | succ fuel ih =>
    intro t k frm hf hm hk0 hk1 hfm hfr0 hfr1 H nx id off p cs q w lo m hH hid hout hlm hmn hoff ho
    cases t with
    | mk kind n s ls args =>
    simp only [Tm.size] at hf hk1 hfr1
    simp only [Tm.nodes] at hm
    have hA := Kept.mk (formed_args np k kind n s ls args hfm)
    have hc := formed_cases np k kind n s ls args hfm
    simp only [OwnT] at ho
    obtain ⟨a, b, rfl, ha, hb⟩ := ho
    have key : ∀ (H' : Nat → Option PObj) (nx' : Nat) (n' : Int), args = [] → nx ≤ nx' → n' = (if kind = 1 ∧ frm ≤ n then n + by_ else n) → H' id = some ⟨p ++ (.sc (.int .i64 kind) :: .sc (.int .i64 n') :: .sc (.string s) :: a :: b :: q), w⟩ → (∀ j, j ≠ id → j < nx → H' j = H j) →
        nx ≤ nx' ∧ ∃ cs', H' id = some ⟨p ++ (cs' ++ q), w⟩ ∧ OwnT H' lo m cs' ((Tm.mk kind n s ls args).lift by_ frm) ∧ ∀ j, j ≠ id → (j < lo ∨ m ≤ j) → j < nx → H' j = H j := by
      rintro H' nx' n' rfl g1 rfl g2 g3
      refine ⟨g1, [.sc (.int .i64 kind), .sc (.int .i64 _), .sc (.string s), a, b], g2, ?_, fun j h1 h2 h3 => g3 j h1 h3⟩
      simp only [Tm.lift, liftA, OwnT]
      refine ⟨a, b, rfl, ha, ?_⟩
      rcases hb with hb | ⟨id2, cells, w2, h1, h2, h3, h4, h5⟩
      · exact .inl ⟨trivial, hb.2⟩
      · exact .inr ⟨id2, cells, w2, h1, h2, h3, by rw [g3 id2 (by omega) (by omega), h4], by simpa only [OwnTs] using h5⟩
    have key' := Kept.mk key
    clear key
    have hb' := Kept.mk hb
    clear hb
    have hout' := Kept.mk hout
    have ha' := Kept.mk ha
    clear ha hout
    have at0 : ∀ x, List.take off (p ++ x) = p := fun x => List.take_left' hoff
    have at1 : ∀ x i, List.take (off + i) (p ++ x) = p ++ List.take i x := fun x i => at_take p x off i hoff
    have at2 : ∀ x i, List.drop (off + i) (p ++ x) = List.drop i x := fun x i => at_drop p x off i hoff
    have at4 : ∀ x, List.drop off (p ++ x) = x := fun x => List.drop_left' hoff
    have at3 : off + 1 ≤ off + (q.length + 5) ∧ off + 2 ≤ off + (q.length + 5) ∧ off + 3 ≤ off + (q.length + 5) ∧ off + 4 ≤ off + (q.length + 5) ∧ off + 5 ≤ off + (q.length + 5) := by omega
    refine mut_by is_term_raise (by simp) fun hbd => ?_
    clear hbd
    by_cases hz : args.length = 0
    · obtain rfl : args = [] := List.eq_nil_of_length_eq_zero hz
      clear ih
      have hn : kind = 1 → 0 ≤ n ∧ n < k := fun e => by rcases hc with h | h | h | h <;> omega
      clear hc
      have hbb : b = .sc (.slice none 0 0) ∨ ∃ id2, b = .osl id2 0 0 5 := by
        rcases hb'.out with ⟨_, h⟩ | ⟨id2, _, _, _, _, h, _⟩
        · exact .inl h
        · exact .inr ⟨id2, h⟩
      clear hb'
      by_cases k1 : kind = 1
      · subst k1
        have hn2 := hn rfl
        clear hn
        by_cases hfn : frm ≤ n
        · rcases hbb with rfl | ⟨id2, rfl⟩
          all_goals
            repeat' (first | ((with_reducible first | refine cond_pos (by omega) ?_ | refine cond_neg (by omega) ?_ | refine guard_pos (by omega) ?_ | refine guard_neg (by omega) ?_ | refine cond_ifn ?_ ?_ | refine cond_waysn ?_ ?_ | refine guard_ifn ?_ ?_ | refine guard_waysn ?_ ?_ | refine cond_if ?_ ?_ | refine cond_ways ?_ ?_ | refine guard_if ?_ ?_ | refine guard_ways ?_ ?_) <;> intro _) | simp (maxSteps := 1000000) (disch := omega) only [go_sem, Nat.reduceAdd, Nat.reduceMul, Nat.reduceSub, Nat.reduceLeDiff, Nat.reduceEqDiff, Nat.reduceBEq, ↓reduceIte, reduceCtorEq, Int.reduceEq, Int.reduceLE, Int.reduceLT, Int.reduceAdd, Int.reduceSub, Int.reduceNeg, Int.reduceToNat, Int.reduceNe, Nat.reducePow, Nat.reduceShiftRight, Nat.reduceMod, mc_term_raise, at0, at1, at2, at3, List.take_succ_cons, List.drop_succ_cons, List.take_zero, List.drop_zero, List.cons_append, List.nil_append, *])
            refine c_rounds 1 ?_
            repeat' (first | ((with_reducible first | refine cond_pos (by omega) ?_ | refine cond_neg (by omega) ?_ | refine guard_pos (by omega) ?_ | refine guard_neg (by omega) ?_ | refine cond_ifn ?_ ?_ | refine cond_waysn ?_ ?_ | refine guard_ifn ?_ ?_ | refine guard_waysn ?_ ?_ | refine cond_if ?_ ?_ | refine cond_ways ?_ ?_ | refine guard_if ?_ ?_ | refine guard_ways ?_ ?_) <;> intro _) | simp (maxSteps := 1000000) (disch := omega) only [go_sem, Nat.reduceAdd, Nat.reduceMul, Nat.reduceSub, Nat.reduceLeDiff, Nat.reduceEqDiff, Nat.reduceBEq, ↓reduceIte, reduceCtorEq, Int.reduceEq, Int.reduceLE, Int.reduceLT, Int.reduceAdd, Int.reduceSub, Int.reduceNeg, Int.reduceToNat, Int.reduceNe, Nat.reducePow, Nat.reduceShiftRight, Nat.reduceMod, rounds_next, *])
            refine fin_mut (.tup []) (.inl rfl) rfl ⟨rfl, key'.out _ _ (n + by_) rfl (Nat.le_add_right _ _) (by simp [hfn]) ?_ fun j h1 h2 => ?_⟩
            · simp [upd]
            · simp [upd, h1]
        · rcases hbb with rfl | ⟨id2, rfl⟩
          all_goals
            repeat' (first | ((with_reducible first | refine cond_pos (by omega) ?_ | refine cond_neg (by omega) ?_ | refine guard_pos (by omega) ?_ | refine guard_neg (by omega) ?_ | refine cond_ifn ?_ ?_ | refine cond_waysn ?_ ?_ | refine guard_ifn ?_ ?_ | refine guard_waysn ?_ ?_ | refine cond_if ?_ ?_ | refine cond_ways ?_ ?_ | refine guard_if ?_ ?_ | refine guard_ways ?_ ?_) <;> intro _) | simp (maxSteps := 1000000) (disch := omega) only [go_sem, Nat.reduceAdd, Nat.reduceMul, Nat.reduceSub, Nat.reduceLeDiff, Nat.reduceEqDiff, Nat.reduceBEq, ↓reduceIte, reduceCtorEq, Int.reduceEq, Int.reduceLE, Int.reduceLT, Int.reduceAdd, Int.reduceSub, Int.reduceNeg, Int.reduceToNat, Int.reduceNe, Nat.reducePow, Nat.reduceShiftRight, Nat.reduceMod, mc_term_raise, at0, at1, at2, at3, List.take_succ_cons, List.drop_succ_cons, List.take_zero, List.drop_zero, List.cons_append, List.nil_append, *])
            refine c_rounds 1 ?_
            repeat' (first | ((with_reducible first | refine cond_pos (by omega) ?_ | refine cond_neg (by omega) ?_ | refine guard_pos (by omega) ?_ | refine guard_neg (by omega) ?_ | refine cond_ifn ?_ ?_ | refine cond_waysn ?_ ?_ | refine guard_ifn ?_ ?_ | refine guard_waysn ?_ ?_ | refine cond_if ?_ ?_ | refine cond_ways ?_ ?_ | refine guard_if ?_ ?_ | refine guard_ways ?_ ?_) <;> intro _) | simp (maxSteps := 1000000) (disch := omega) only [go_sem, Nat.reduceAdd, Nat.reduceMul, Nat.reduceSub, Nat.reduceLeDiff, Nat.reduceEqDiff, Nat.reduceBEq, ↓reduceIte, reduceCtorEq, Int.reduceEq, Int.reduceLE, Int.reduceLT, Int.reduceAdd, Int.reduceSub, Int.reduceNeg, Int.reduceToNat, Int.reduceNe, Nat.reducePow, Nat.reduceShiftRight, Nat.reduceMod, rounds_next, *])
            refine fin_mut (.tup []) (.inl rfl) rfl ⟨rfl, key'.out _ _ n rfl (Nat.le_add_right _ _) (by simp [hfn]) ?_ fun j h1 h2 => ?_⟩
            · simpa [upd] using hH
            · simp [upd, h1]
      · rcases hbb with rfl | ⟨id2, rfl⟩
        all_goals
          repeat' (first | ((with_reducible first | refine cond_pos (by omega) ?_ | refine cond_neg (by omega) ?_ | refine guard_pos (by omega) ?_ | refine guard_neg (by omega) ?_ | refine cond_ifn ?_ ?_ | refine cond_waysn ?_ ?_ | refine guard_ifn ?_ ?_ | refine guard_waysn ?_ ?_ | refine cond_if ?_ ?_ | refine cond_ways ?_ ?_ | refine guard_if ?_ ?_ | refine guard_ways ?_ ?_) <;> intro _) | simp (maxSteps := 1000000) (disch := omega) only [go_sem, Nat.reduceAdd, Nat.reduceMul, Nat.reduceSub, Nat.reduceLeDiff, Nat.reduceEqDiff, Nat.reduceBEq, ↓reduceIte, reduceCtorEq, Int.reduceEq, Int.reduceLE, Int.reduceLT, Int.reduceAdd, Int.reduceSub, Int.reduceNeg, Int.reduceToNat, Int.reduceNe, Nat.reducePow, Nat.reduceShiftRight, Nat.reduceMod, mc_term_raise, at0, at1, at2, at3, List.take_succ_cons, List.drop_succ_cons, List.take_zero, List.drop_zero, List.cons_append, List.nil_append, *])
          refine c_rounds 1 ?_
          repeat' (first | ((with_reducible first | refine cond_pos (by omega) ?_ | refine cond_neg (by omega) ?_ | refine guard_pos (by omega) ?_ | refine guard_neg (by omega) ?_ | refine cond_ifn ?_ ?_ | refine cond_waysn ?_ ?_ | refine guard_ifn ?_ ?_ | refine guard_waysn ?_ ?_ | refine cond_if ?_ ?_ | refine cond_ways ?_ ?_ | refine guard_if ?_ ?_ | refine guard_ways ?_ ?_) <;> intro _) | simp (maxSteps := 1000000) (disch := omega) only [go_sem, Nat.reduceAdd, Nat.reduceMul, Nat.reduceSub, Nat.reduceLeDiff, Nat.reduceEqDiff, Nat.reduceBEq, ↓reduceIte, reduceCtorEq, Int.reduceEq, Int.reduceLE, Int.reduceLT, Int.reduceAdd, Int.reduceSub, Int.reduceNeg, Int.reduceToNat, Int.reduceNe, Nat.reducePow, Nat.reduceShiftRight, Nat.reduceMod, rounds_next, *])
          refine fin_mut (.tup []) (.inl rfl) rfl ⟨rfl, key'.out _ _ n rfl (Nat.le_add_right _ _) (by simp [k1]) ?_ fun j h1 h2 => ?_⟩
          · simpa [upd] using hH
          · simp [upd, h1]
    · clear key'
      have k1 : kind ≠ 1 := by
        rintro rfl
        rcases hc with h | h | h | h
        · rw [h.2.2.2] at hz; exact hz rfl
        · omega
        · omega
        · omega
      clear hc
      obtain ⟨id2, cells, w2, h1, h2, rfl, h4, h5⟩ := hb'.out.resolve_left fun h => hz (by rw [h.1]; rfl)
      clear hb'
      have h5' := Kept.mk h5
      clear h5
      have hla := len_nodesT args
      repeat' (first | ((with_reducible first | refine cond_pos (by omega) ?_ | refine cond_neg (by omega) ?_ | refine guard_pos (by omega) ?_ | refine guard_neg (by omega) ?_ | refine cond_ifn ?_ ?_ | refine cond_waysn ?_ ?_ | refine guard_ifn ?_ ?_ | refine guard_waysn ?_ ?_ | refine cond_if ?_ ?_ | refine cond_ways ?_ ?_ | refine guard_if ?_ ?_ | refine guard_ways ?_ ?_) <;> intro _) | simp (maxSteps := 1000000) (disch := omega) only [go_sem, Nat.reduceAdd, Nat.reduceMul, Nat.reduceSub, Nat.reduceLeDiff, Nat.reduceEqDiff, Nat.reduceBEq, ↓reduceIte, reduceCtorEq, Int.reduceEq, Int.reduceLE, Int.reduceLT, Int.reduceAdd, Int.reduceSub, Int.reduceNeg, Int.reduceToNat, Int.reduceNe, Nat.reducePow, Nat.reduceShiftRight, Nat.reduceMod, mc_term_raise, at0, at1, at2, at3, List.take_succ_cons, List.drop_succ_cons, List.take_zero, List.drop_zero, List.cons_append, List.nil_append, *])
      have hid2 : id ≠ id2 := by have := hout'.out; omega
      refine c_loopW 1125891316908096 (by kernel_rfl) (fun j f H2 m2 => ∃ (i : Nat) (cells' : List PV), j = args.length - i ∧ i ≤ args.length ∧ f 33 = .sc (.int .i64 i) ∧ nx ≤ m2 ∧ H2 id = some ⟨p ++ .sc (.int .i64 kind) :: .sc (.int .i64 n) :: .sc (.string s) :: a :: .osl id2 0 args.length 5 :: q, w⟩ ∧ H2 id2 = some ⟨cells', w2⟩ ∧
        Kept (OwnTs H2 (id2 + 1) m cells' ((liftA by_ frm kind args.length 0 args).take i ++ args.drop i)) ∧ Kept (∀ j', j' ≠ id → (j' < lo ∨ m ≤ j') → j' < nx → H2 j' = H j')) _ ⟨0, cells, rfl, (by first | assumption | omega | rfl | (simp (disch := omega) only [go_sem, Nat.reduceMul, Nat.reduceSub, Nat.reduceShiftRight, Nat.reduceMod, Nat.reduceEqDiff, Nat.reduceAdd, ↓reduceIte, Nat.reduceLeDiff, *] <;> omega)), (by first | assumption | omega | rfl | (simp (disch := omega) only [go_sem, Nat.reduceMul, Nat.reduceSub, Nat.reduceShiftRight, Nat.reduceMod, Nat.reduceEqDiff, Nat.reduceAdd, ↓reduceIte, Nat.reduceLeDiff, *] <;> omega)), ?mm, ?g1, ?g2, Kept.mk (by simpa using h5'.out), Kept.mk fun _ _ _ _ => rfl⟩ ?_
      case mm => exact Nat.le_add_right _ _
      case g1 => simpa using hH
      case g2 => exact h4
      clear h5' h4 hH
      rintro _ f H2 m2 ⟨i, cells', rfl, hi, e33, hm2, hHi, hHb, ho, hk⟩
      have hlen := liftA_len by_ frm kind args.length args 0
      by_cases hlt : i < args.length
      · have hn := nodesT_mem args i hlt
        have hs := sizeL_mem args i hlt
        have hd := deep_bd kind args.length i
        have hfi := formedA_mem np k kind args.length args 0 i hlt hA.out
        rw [Nat.zero_add] at hfi
        have hfi' := Kept.mk hfi
        clear hfi
        obtain ⟨p', c, q', a', b', rfl, hpl, ha1, ha2, ha3, k1', k2', k3'⟩ := OwnTs.at _ _ _ i (by simp [hlen]; omega) ho.out (by omega)
        have hL1 : ((liftA by_ frm kind args.length 0 args).take i ++ args.drop i).take i = (liftA by_ frm kind args.length 0 args).take i := List.take_left' (by simp [hlen]; omega)
        have hL2 : ((liftA by_ frm kind args.length 0 args).take i ++ args.drop i)[i]'(by simp [hlen]; omega) = args[i] := by
          rw [List.getElem_append_right (by simp [hlen]; omega)]
          simp [hlen, Nat.min_eq_left hi]
        have hL3 : ((liftA by_ frm kind args.length 0 args).take i ++ args.drop i).drop (i + 1) = args.drop (i + 1) := by
          rw [← List.drop_drop, List.drop_left' (by simp [hlen]; omega), List.drop_drop, Nat.add_comm]
        rw [hL1] at k1'
        rw [hL2] at k2'
        rw [hL3] at k3'
        have k1k := Kept.mk k1'
        have k2k := Kept.mk k2'
        have k3k := Kept.mk k3'
        clear k1' k2' k3' hL1 hL2 hL3 ho
        have hcl := k2k.out.len
        have hql := k3k.out.len
        rw [List.length_drop] at hql
        have hfit : i * 5 + 5 ≤ p'.length + (c.length + q'.length) := by omega
        repeat' (first | ((with_reducible first | refine cond_pos (by omega) ?_ | refine cond_neg (by omega) ?_ | refine guard_pos (by omega) ?_ | refine guard_neg (by omega) ?_ | refine cond_ifn ?_ ?_ | refine cond_waysn ?_ ?_ | refine guard_ifn ?_ ?_ | refine guard_waysn ?_ ?_ | refine cond_if ?_ ?_ | refine cond_ways ?_ ?_ | refine guard_if ?_ ?_ | refine guard_ways ?_ ?_) <;> intro _) | simp (maxSteps := 1000000) (disch := omega) only [go_sem, Nat.reduceAdd, Nat.reduceMul, Nat.reduceSub, Nat.reduceLeDiff, Nat.reduceEqDiff, Nat.reduceBEq, ↓reduceIte, reduceCtorEq, Int.reduceEq, Int.reduceLE, Int.reduceLT, Int.reduceAdd, Int.reduceSub, Int.reduceNeg, Int.reduceToNat, Int.reduceNe, Nat.reducePow, Nat.reduceShiftRight, Nat.reduceMod, at0, at1, at2, at3, at4, List.take_succ_cons, List.drop_succ_cons, List.take_zero, List.drop_zero, List.cons_append, List.nil_append, *])
        refine call_lendT (deeper_o kind n s a id2 args.length (by omega) q i hlt) (by simp [brw, hHi, at4, hoff]) rfl rfl ?_
        repeat' (first | ((with_reducible first | refine cond_pos (by omega) ?_ | refine cond_neg (by omega) ?_ | refine guard_pos (by omega) ?_ | refine guard_neg (by omega) ?_ | refine cond_ifn ?_ ?_ | refine cond_waysn ?_ ?_ | refine guard_ifn ?_ ?_ | refine guard_waysn ?_ ?_ | refine cond_if ?_ ?_ | refine cond_ways ?_ ?_ | refine guard_if ?_ ?_ | refine guard_ways ?_ ?_) <;> intro _) | simp (maxSteps := 1000000) (disch := omega) only [go_sem, Nat.reduceAdd, Nat.reduceMul, Nat.reduceSub, Nat.reduceLeDiff, Nat.reduceEqDiff, Nat.reduceBEq, ↓reduceIte, reduceCtorEq, Int.reduceEq, Int.reduceLE, Int.reduceLT, Int.reduceAdd, Int.reduceSub, Int.reduceNeg, Int.reduceToNat, Int.reduceNe, Nat.reducePow, Nat.reduceShiftRight, Nat.reduceMod, at0, at1, at2, at3, at4, List.take_succ_cons, List.drop_succ_cons, List.take_zero, List.drop_zero, List.cons_append, List.nil_append, *])
        refine call_mut (ih args[i] (k + deepB kind args.length i) (frm + deepB kind args.length i) (by omega) (by omega) (by omega) (by omega) hfi'.out (by omega) (by omega) _ _ id2 (i * 5) p' c q' w2 a' b' hHb (Nat.lt_of_lt_of_le (by omega : id2 < m2) (Nat.le_add_right _ _)) (.inl (by omega)) ha2 (Nat.le_trans (by omega : b' ≤ m2) (Nat.le_add_right _ _)) hpl k2k.out) ?_
        rintro H' nx' r' ⟨-, hn1, c', hc1, hc2, hc4⟩ -
        have hn2 : m2 ≤ nx' := Nat.le_trans (Nat.le_add_right _ _) hn1
        have hc3 : ∀ j, j ≠ id2 → (j < a' ∨ b' ≤ j) → j < m2 → H' j = H2 j := fun j g1 g2 g3 => hc4 j g1 g2 (Nat.lt_of_lt_of_le g3 (Nat.le_add_right _ _))
        have hHi' : H' id = _ := (hc3 id hid2 (by have := hout'.out; omega) (by omega)).trans hHi
        have ho' : Kept (OwnTs H' (id2 + 1) m (p' ++ (c' ++ q')) ((liftA by_ frm kind args.length 0 args).take (i + 1) ++ args.drop (i + 1))) := Kept.mk (by
          rw [← liftA_get by_ frm kind args i hlt]
          refine OwnTs.append _ _ _ _ _ (k1k.out.mono _ _ _ _ _ _ (Nat.le_refl _) (Nat.le_refl _) fun j g1 g2 => hc3 j (by omega) (.inl g2) (by omega)) ?_ ha1 (by omega)
          simp only [OwnTs]
          exact ⟨c', q', b', rfl, ha2, ha3, hc2, k3k.out.mono _ _ _ _ _ _ (Nat.le_refl _) (Nat.le_refl _) fun j g1 g2 => hc3 j (by omega) (.inr g1) (by omega)⟩)
        have hk' : Kept (∀ j', j' ≠ id → (j' < lo ∨ m ≤ j') → j' < nx → H' j' = H j') := Kept.mk fun j' g1 g2 g3 => by rw [hc3 j' (by omega) (by omega) (by omega), hk.out j' g1 g2 g3]
        clear ih hk hc3 hc4 hc2 hn1 hHi hHb k1k k2k k3k hfi' hA
        repeat' (first | ((with_reducible first | refine cond_pos (by omega) ?_ | refine cond_neg (by omega) ?_ | refine guard_pos (by omega) ?_ | refine guard_neg (by omega) ?_ | refine cond_ifn ?_ ?_ | refine cond_waysn ?_ ?_ | refine guard_ifn ?_ ?_ | refine guard_waysn ?_ ?_ | refine cond_if ?_ ?_ | refine cond_ways ?_ ?_ | refine guard_if ?_ ?_ | refine guard_ways ?_ ?_) <;> intro _) | simp (maxSteps := 1000000) (disch := omega) only [go_sem, Nat.reduceAdd, Nat.reduceMul, Nat.reduceSub, Nat.reduceLeDiff, Nat.reduceEqDiff, Nat.reduceBEq, ↓reduceIte, reduceCtorEq, Int.reduceEq, Int.reduceLE, Int.reduceLT, Int.reduceAdd, Int.reduceSub, Int.reduceNeg, Int.reduceToNat, Int.reduceNe, Nat.reducePow, Nat.reduceShiftRight, Nat.reduceMod, *])
        refine Nx.mk (args.length - (i + 1)) (by first | assumption | omega | rfl | (simp (disch := omega) only [go_sem, Nat.reduceMul, Nat.reduceSub, Nat.reduceShiftRight, Nat.reduceMod, Nat.reduceEqDiff, Nat.reduceAdd, ↓reduceIte, Nat.reduceLeDiff, *] <;> omega)) ⟨i + 1, _, rfl, (by first | assumption | omega | rfl | (simp (disch := omega) only [go_sem, Nat.reduceMul, Nat.reduceSub, Nat.reduceShiftRight, Nat.reduceMod, Nat.reduceEqDiff, Nat.reduceAdd, ↓reduceIte, Nat.reduceLeDiff, *] <;> omega)), (by first | assumption | omega | rfl | (simp (disch := omega) only [go_sem, Nat.reduceMul, Nat.reduceSub, Nat.reduceShiftRight, Nat.reduceMod, Nat.reduceEqDiff, Nat.reduceAdd, ↓reduceIte, Nat.reduceLeDiff, *] <;> omega)), Nat.le_trans (by omega : nx ≤ nx') (Nat.le_add_right _ _), hHi', hc1, ho', hk'⟩
      · obtain rfl : i = args.length := by omega
        have hoo := ho.out
        rw [List.take_of_length_le (by omega), List.drop_length, List.append_nil] at hoo
        have ho2 := Kept.mk hoo
        clear ho hoo ih
        repeat' (first | ((with_reducible first | refine cond_pos (by omega) ?_ | refine cond_neg (by omega) ?_ | refine guard_pos (by omega) ?_ | refine guard_neg (by omega) ?_ | refine cond_ifn ?_ ?_ | refine cond_waysn ?_ ?_ | refine guard_ifn ?_ ?_ | refine guard_waysn ?_ ?_ | refine cond_if ?_ ?_ | refine cond_ways ?_ ?_ | refine guard_if ?_ ?_ | refine guard_ways ?_ ?_) <;> intro _) | simp (maxSteps := 1000000) (disch := omega) only [go_sem, Nat.reduceAdd, Nat.reduceMul, Nat.reduceSub, Nat.reduceLeDiff, Nat.reduceEqDiff, Nat.reduceBEq, ↓reduceIte, reduceCtorEq, Int.reduceEq, Int.reduceLE, Int.reduceLT, Int.reduceAdd, Int.reduceSub, Int.reduceNeg, Int.reduceToNat, Int.reduceNe, Nat.reducePow, Nat.reduceShiftRight, Nat.reduceMod, *])
        refine fin_mut (.tup []) (.inl rfl) rfl ⟨rfl, Nat.le_trans hm2 (Nat.le_add_right _ _), [.sc (.int .i64 kind), .sc (.int .i64 n), .sc (.string s), a, .osl id2 0 args.length 5], hHi, ?fin, hk.out⟩
        simp only [Tm.lift, OwnT]
        exact ⟨a, _, by rw [if_neg (fun h => k1 h.1)], ha'.out, .inr ⟨id2, _, w2, h1, h2, by rw [hlen], hHb, ho2.out⟩⟩
end
section
mutual
def Tm.pre : Tm → List Tm
  | .mk k n s ls args => .mk k n s ls args :: preL args
def preL : List Tm → List Tm
  | [] => []
  | t :: r => t.pre ++ preL r
end
theorem preL_append : ∀ xs ys : List Tm, preL (xs ++ ys) = preL xs ++ preL ys
  | [], ys => by simp [preL]
  | x :: r, ys => by simp [preL, preL_append r ys]
theorem preL_take (args : List Tm) (i : Nat) (h : i < args.length) : preL (args.take (i + 1)) = preL (args.take i) ++ args[i].pre := by
  rw [List.take_succ_eq_append_getElem h, preL_append]
  simp [preL]
def nodePV (t : Tm) : PV := .ptr t.pv
theorem sl_part {V : Vw} {sz : Nat} {es : List (List PV)} {v : Value} (h : Rep V (.sl sz es) v) :
    ∃ A cap, v = .slice A es.length cap ∧ es.length ≤ maxLen ∧ ∀ i x, es[i]? = some x → ∃ b off, A = some ⟨b, off, none⟩ ∧ Rep V (.ptr x) (.pointer (some ⟨b, off + i * sz, none⟩)) := by
  cases h with
  | slNil _ A cap hc => exact ⟨A, cap, rfl, Nat.zero_le _, fun i x hx => by simp at hx⟩
  | sl _ _ b off len cap hlen hs h1 h2 hp =>
    refine ⟨some ⟨b, off, none⟩, cap, by rw [hlen], by omega, fun i x hx => ⟨b, off, rfl, ?_⟩⟩
    obtain ⟨b', off', vs, e, hok, hr, hc⟩ := hp.ptr_inv
    cases e
    have hil : i < es.length := (List.getElem?_eq_some_iff.1 hx).1
    have hex : es[i] = x := (List.getElem?_eq_some_iff.1 hx).2
    have hx5 : x.length = sz := hs x (hex ▸ List.getElem_mem hil)
    have key : ∀ (es : List (List PV)) (i : Nat) (x : List PV), (∀ e ∈ es, e.length = sz) → es[i]? = some x → (es.flatten.drop (i * sz)).take sz = x := by
      intro es
      induction es with
      | nil => intro i x _ h; simp at h
      | cons e r ih =>
        intro i x hs h
        have he : e.length = sz := hs e (by simp)
        cases i with
        | zero =>
          simp only [List.getElem?_cons_zero, Option.some.injEq] at h
          subst h
          simp [← he]
        | succ i =>
          rw [List.flatten_cons, Nat.succ_mul, Nat.add_comm, ← List.drop_drop, show sz = e.length from he.symm, List.drop_left, he]
          exact ih i x (fun y hy => hs y (by simp [hy])) (by simpa using h)
    have h3 := (hr.drop (i * sz)).take sz
    rw [key es i x hs hx] at h3
    refine .ptr_mk hok h3 fun j u hu => ?_
    rw [List.getElem?_take] at hu
    split at hu
    · rw [List.getElem?_drop] at hu
      have := hc _ u hu
      rw [show off + i * sz + j = off + (i * sz + j) by omega]
      exact this
    · cases hu
theorem rounds_key {F : Fence} {n : Nat} {P : Program} {c : Code} {Q : Exit → Act → World → Prop} {N : Nat} (I : Nat → Act → World → Prop) (hstep : ∀ i a W, i < N → I i a W → c.wpIn F n P (Exit.then (I (i + 1)) Q) a W)
    (hend : ∀ a W, I N a W → c.wpIn F n P (Exit.then (fun _ _ => False) Q) a W) : ∀ k i a W, i + k = N → I i a W → Code.roundsIn F n P c Q (k + 1) a W := by
  intro k
  induction k with
  | zero =>
    intro i a W hi h
    obtain rfl : i = N := by omega
    exact hend a W h
  | succ k ih =>
    intro i a W hi h
    rw [roundsIn_succ]
    refine wpIn_mono (hstep i a W (by omega) h) fun e a' W' hp => ?_
    cases e with
    | normal => exact ih (i + 1) a' W' (by omega) hp
    | _ => exact hp
abbrev El (V : Vw) (xs : List PV) := { y : PV × Value // y.1 ∈ xs ∧ Rep V y.1 y.2 }
theorem RoundIn.any {Fc : Fence} (hd : Fc.depth = none) {m m' : Nat} {P : Program} {l : Nat} {f : FuncId} {tmps : Array Value} {assign body : Code} {w : World} {R : Ending → World → Prop}
    (h : RoundIn Fc m P l f tmps assign body w R) : RoundIn Fc m' P l f tmps assign body w R := ⟨h.1, fun c cs _ => h.2 c cs (fun d h => by rw [hd] at h; cases h)⟩
theorem YieldAt.any {Fc : Fence} (hd : Fc.depth = none) {m : Nat} (m' : Nat) {P : Program} {l : Nat} {args : Array Value} {W : World} {R : Ending → World → Prop} (h : YieldAt Fc m P l args W R) : YieldAt Fc m' P l args W R := by
  obtain ⟨fn, tmps, assign, body, hy, hR⟩ := h
  exact ⟨fn, tmps, assign, body, hy, RoundIn.any hd hR⟩
set_option maxRecDepth 100000 in
set_option maxHeartbeats 4000000 in
theorem walkNodes0 (V : Vw) (xs : List PV) (l N : Nat) (J Jx : List (El V xs) → World → Prop)
    (hY : ∀ m pre (x : El V xs) W, J pre W → pre.length < N → YieldAt Fence.wide m Try.prog l #[x.1.2] W fun e W' => (e = .returned (.bool true) ∧ J (pre ++ [x]) W' ∧ ∀ b, V.ok b → W'.heap[b]? = W.heap[b]?) ∨ (e = .returned (.bool false) ∧ Jx (pre ++ [x]) W')) :
    ∀ (fuel : Nat) (t : Tm), t.size ≤ fuel → ∀ (n : Nat) (p : Value) (pre : List (El V xs)) (W : World), Rep V (.ptr t.pv) p → (∀ u ∈ t.pre, nodePV u ∈ xs) → (∀ b, V.ok b → W.heap[b]? = V.w.heap[b]?) → J pre W → pre.length + t.pre.length ≤ N →
      CallsIn Fence.wide n Try.prog F.term_walk #[p, .func (.yield l) #[] #[]] W fun e W' =>
        (e = .returned (.bool true) ∧ ∃ ys : List (El V xs), ys.map (·.1.1) = t.pre.map nodePV ∧ J (pre ++ ys) W' ∧ ∀ b, V.ok b → W'.heap[b]? = V.w.heap[b]?) ∨
        (e = .returned (.bool false) ∧ ∃ ys : List (El V xs), ys.map (·.1.1) <+: t.pre.map nodePV ∧ Jx (pre ++ ys) W') := by
  have hdd : ∀ k : Nat, (Fence.wide.depth.isSome = true → 1 ≤ k) := fun k h => by cases h
  intro fuel
  induction fuel with
  | zero => intro t h; have := size_pos t; omega
  | succ fuel ih =>
    intro t hf n p pre W hp hxs hW hJ hN
    cases t with
    | mk k nn s ls args =>
    simp only [Tm.size] at hf
    simp only [Tm.pre, List.length_cons] at hN
    have hp0 := hp
    obtain ⟨b, off, vs, rfl, hok, hr, hc⟩ := hp.ptr_inv
    obtain ⟨v4, hv4, hr4⟩ := hr.get (i := 4) (x := .sl 5 (args.map Tm.pv)) (by rw [Tm.pv]; rfl)
    obtain ⟨A, cap, rfl, hmax, hpart⟩ := sl_part hr4
    rw [List.length_map] at hmax
    have hcell : ∀ W' : World, (∀ b, V.ok b → W'.heap[b]? = V.w.heap[b]?) → W'.cell? ⟨b, off + 4, none⟩ = some (.slice A (args.map Tm.pv).length cap) := fun W' h => (World.cell?_of_block (w := V.w) (w' := W') (a := ⟨b, off + 4, none⟩) (h b hok)).trans (hc 4 _ hv4)
    have hY0 := hY (n - 1) pre ⟨(nodePV (.mk k nn s ls args), .pointer (some ⟨b, off, none⟩)), hxs _ (by simp [Tm.pre]), hp0⟩ W hJ (by omega)
    obtain ⟨fn, tmps, assign, body, hy, hR⟩ := YieldAt.mono (R' := fun e W1 => (e = .returned (.bool true) ∧ W1.cell? ⟨b, off + 4, none⟩ = some (.slice A (args.map Tm.pv).length cap) ∧ (∃ ys : List (El V xs), ys.map (·.1.1) = [nodePV (.mk k nn s ls args)] ∧ J (pre ++ ys) W1) ∧ ∀ b, V.ok b → W1.heap[b]? = V.w.heap[b]?) ∨
      (e = .returned (.bool false) ∧ ∃ ys : List (El V xs), ys.map (·.1.1) = [nodePV (.mk k nn s ls args)] ∧ Jx (pre ++ ys) W1)) hY0 (fun e W1 h => h.elim (fun ⟨he, h1, h2⟩ => .inl ⟨he, hcell W1 fun b hb => (h2 b hb).trans (hW b hb), ⟨_, rfl, h1⟩, fun b hb => (h2 b hb).trans (hW b hb)⟩) fun ⟨he, h1⟩ => .inr ⟨he, _, rfl, h1⟩)
    clear hY0
    refine callsIn_of_wp Try.func116 rfl trivial ?_ rfl
    simp only [Try.ntmps116, List.size_toArray, List.length_cons, List.length_nil, Nat.reduceAdd, Nat.reduceSub, Array.replicate_succ, Array.replicate_zero, List.push_toArray, List.append_toArray, List.nil_append, List.cons_append]
    gi_wp2_with ((try refine ⟨hdd _, ?_⟩); refine hR.mono ?_; clear hR; rintro e W1 (⟨rfl, c4, hj1, hk1⟩ | ⟨rfl, hx1⟩))
    · refine wpIn_loop_rounds (args.length + 1) (rounds_key (N := args.length) (fun i a W => ∃ x2 x3 x4 x5 x6 x7 x8 x9 x10 x11 x12 x13 x16 x17 x18 x19 x20 x21 x22 x23 x24 x25 x26 x27, a = ⟨#[.pointer (some ⟨b, off, none⟩), .func (.yield l) #[] #[], x2, x3, x4, x5, x6, x7, x8, x9, x10, x11, x12, x13, .int .i64 (args.length : Int), .int .i64 (i : Int), x16, x17, x18, x19, x20, x21, x22, x23, x24, x25, x26, x27], []⟩ ∧ (∃ ys : List (El V xs), ys.map (·.1.1) = (Tm.mk k nn s ls args :: preL (args.take i)).map nodePV ∧ J (pre ++ ys) W) ∧ ∀ b, V.ok b → W.heap[b]? = V.w.heap[b]?) ?step ?fin args.length 0 _ _ (by omega) ?init)
      case init =>
        obtain ⟨ys, h1, h2⟩ := hj1
        exact ⟨_, _, _, _, _, _, _, _, _, _, _, _, _, _, _, _, _, _, _, _, _, _, _, _, rfl, ⟨ys, by simpa [preL] using h1, h2⟩, hk1⟩
      case step =>
        rintro i a W2 hi ⟨x2, x3, x4, x5, x6, x7, x8, x9, x10, x11, x12, x13, x16, x17, x18, x19, x20, x21, x22, x23, x24, x25, x26, x27, rfl, ⟨ys, hys, hj⟩, hk⟩
        obtain ⟨b2, off2, rfl, hpi⟩ := hpart i args[i].pv (by simp [hi])
        have c42 := hcell W2 hk
        rw [List.length_map] at c42
        have hni := sizeL_mem args i hi
        have hlen : ys.length = 1 + (preL (args.take i)).length := by
          have := congrArg List.length hys
          simpa [Nat.add_comm] using this
        have h1 : preL args = preL (args.take i) ++ (args[i].pre ++ preL (args.drop (i + 1))) := by rw [← List.append_assoc, ← preL_take args i hi, ← preL_append, List.take_append_drop]
        have ih1 := ih args[i] (by omega) (n - 1) _ (pre ++ ys) W2 hpi (fun u hu => hxs u (by rw [Tm.pre, h1]; simp [hu])) hk hj (by rw [h1] at hN; simp only [List.length_append] at hN ⊢; omega)
        clear ih
        gi_wp2_with (refine ⟨trivial, hdd _, ?_⟩; refine ih1.mono ?_; clear ih1; rintro e W3 (⟨rfl, ys3, hy3, hj3, hk3⟩ | ⟨rfl, ys3, hy3, hx3⟩))
        · have e1 : ((i + 1 : Nat) : Int) = RowKit.wrap64 ((i : Int) + 1) := by
            have : args.length ≤ 9223372036854775807 := hmax
            unfold RowKit.wrap64
            omega
          rw [e1]
          refine ⟨_, _, _, _, _, _, _, _, _, _, _, _, _, _, _, _, _, _, _, _, _, _, _, _, rfl, ⟨ys ++ ys3, ?_, by rw [← List.append_assoc]; exact hj3⟩, hk3⟩
          rw [List.map_append, hys, hy3, preL_take args i hi]
          simp
        · go_ret
          refine .inr ⟨rfl, ys ++ ys3, ?_, by rw [← List.append_assoc]; exact hx3⟩
          rw [List.map_append, hys, Tm.pre]
          rw [h1]
          obtain ⟨z, hz⟩ := hy3
          exact ⟨z ++ (preL (args.drop (i + 1))).map nodePV, by simp [← hz]⟩
      case fin =>
        rintro a W2 ⟨x2, x3, x4, x5, x6, x7, x8, x9, x10, x11, x12, x13, x16, x17, x18, x19, x20, x21, x22, x23, x24, x25, x26, x27, rfl, ⟨ys, hys, hj⟩, hk⟩
        rw [List.take_length] at hys
        gi_wp2
        go_ret
        exact .inl ⟨rfl, ys, by rw [hys, Tm.pre], hj, hk⟩
    · obtain ⟨ys, h1, h2⟩ := hx1
      go_ret
      exact .inr ⟨rfl, ys, by rw [h1, Tm.pre]; exact ⟨(preL args).map nodePV, by simp⟩, h2⟩
end
section
theorem tlNodes_p : ∀ (fuel : Nat) (l : Lv) (most : Nat), l.nodes ≤ fuel ∨ most ≤ fuel → 1 ≤ most → most ≤ 3000 →
    PPure Try.prog F.term_levelNodes [.ptr l.pv, .sc (.int .i64 most)] (.sc (.int .i64 (min l.nodes most : Nat))) := by
  intro fuel
  induction fuel with
  | zero => intro l most h h1; have := nodes_pos l; omega
  | succ fuel ih =>
    intro l most hf h1 h2
    cases l with
    | mk k n args =>
    simp only [Lv.nodes] at hf
    refine pure_by is_term_levelNodes (by simp) rfl fun hb nx => ?_
    have hb0 : args.length ≤ 9223372036854775807 := by simp [Lv.pv, bndL, PV.bnd] at hb; exact hb.1
    simp (maxSteps := 1000000) (disch := omega) only [go_sem, Nat.reduceAdd, Nat.reduceMul, Nat.reduceSub, Nat.reduceLeDiff, Nat.reduceEqDiff, Nat.reduceBEq, ↓reduceIte, reduceCtorEq, Int.reduceEq, Int.reduceLE, Int.reduceLT, Int.reduceAdd, Int.reduceSub, Int.reduceNeg, Int.reduceToNat, Int.reduceNe, Nat.reducePow, Nat.reduceShiftRight, Nat.reduceMod, mc_term_levelNodes, Lv.pv]
    refine c_loop (fun j s => ∃ i t : Nat, j = args.length - i ∧ i ≤ args.length ∧ t = min (1 + nodesL (args.take i)) most ∧ s.s 0 = .ptr (Lv.mk k n args).pv ∧ s.s 1 = .sc (.int .i64 most) ∧ s.s 5 = .sc (.int .i64 t) ∧ s.s 11 = .sc (.int .i64 args.length) ∧ s.s 12 = .sc (.int .i64 i)) _ ⟨0, 1, rfl, by omega, by simp [nodesL]; omega, by simp [upd, sigF, sig_eq, Lv.pv]⟩ ?_
    rintro _ s ⟨i, t, rfl, hi, ht, e0, e1, e5, e11, e12⟩
    simp (maxSteps := 1000000) (disch := omega) only [go_sem, Nat.reduceAdd, Nat.reduceMul, Nat.reduceSub, Nat.reduceLeDiff, Nat.reduceEqDiff, Nat.reduceBEq, ↓reduceIte, reduceCtorEq, Int.reduceEq, Int.reduceLE, Int.reduceLT, Int.reduceAdd, Int.reduceSub, Int.reduceNeg, Int.reduceToNat, Int.reduceNe, Nat.reducePow, Nat.reduceShiftRight, Nat.reduceMod, Lv.pv, e0, e1, e5, e11, e12]
    by_cases hlt : i < args.length
    · have hs := nodesL_take_succ args i hlt
      have hp := nodes_pos args[i]
      simp (maxSteps := 1000000) (disch := omega) only [go_sem, Nat.reduceAdd, Nat.reduceMul, Nat.reduceSub, Nat.reduceLeDiff, Nat.reduceEqDiff, Nat.reduceBEq, ↓reduceIte, reduceCtorEq, Int.reduceEq, Int.reduceLE, Int.reduceLT, Int.reduceAdd, Int.reduceSub, Int.reduceNeg, Int.reduceToNat, Int.reduceNe, Nat.reducePow, Nat.reduceShiftRight, Nat.reduceMod, hlt, Lv.pv, e0, e1, e5, e11, e12]
      by_cases hfull : most ≤ t
      · simp (maxSteps := 1000000) (disch := omega) only [go_sem, Nat.reduceAdd, Nat.reduceMul, Nat.reduceSub, Nat.reduceLeDiff, Nat.reduceEqDiff, Nat.reduceBEq, ↓reduceIte, reduceCtorEq, Int.reduceEq, Int.reduceLE, Int.reduceLT, Int.reduceAdd, Int.reduceSub, Int.reduceNeg, Int.reduceToNat, Int.reduceNe, Nat.reducePow, Nat.reduceShiftRight, Nat.reduceMod, hfull, Lv.pv, e0, e1, e5, e11, e12]
        refine fin_tmp (.inr rfl) ?_
        have := nodesL_take_le args i
        simp only [go_sem, Nat.reduceAdd, Nat.reduceMul, Nat.reduceSub, Nat.reduceLeDiff, Nat.reduceEqDiff, Nat.reduceBEq, ↓reduceIte, reduceCtorEq, Int.reduceEq, Int.reduceLE, Int.reduceLT, Int.reduceAdd, Int.reduceSub, Int.reduceNeg, Int.reduceToNat, Int.reduceNe, Nat.reducePow, Nat.reduceShiftRight, Nat.reduceMod, Lv.nodes, PV.sc.injEq, Value.int.injEq]
        omega
      · have em : ((most : Int) - t) = ((most - t : Nat) : Int) := by omega
        have eg : args[i]? = some args[i] := List.getElem?_eq_getElem hlt
        simp (maxSteps := 1000000) (disch := omega) only [go_sem, Nat.reduceAdd, Nat.reduceMul, Nat.reduceSub, Nat.reduceLeDiff, Nat.reduceEqDiff, Nat.reduceBEq, ↓reduceIte, reduceCtorEq, Int.reduceEq, Int.reduceLE, Int.reduceLT, Int.reduceAdd, Int.reduceSub, Int.reduceNeg, Int.reduceToNat, Int.reduceNe, Nat.reducePow, Nat.reduceShiftRight, Nat.reduceMod, hfull, Lv.pv, e0, e1, e5, e11, e12, em, eg]
        refine call_pure (ih args[i] (most - t) (by have := nodesL_mem args i hlt; omega) (by omega) (by omega)) ?_
        simp (maxSteps := 1000000) (disch := omega) only [go_sem, Nat.reduceAdd, Nat.reduceMul, Nat.reduceSub, Nat.reduceLeDiff, Nat.reduceEqDiff, Nat.reduceBEq, ↓reduceIte, reduceCtorEq, Int.reduceEq, Int.reduceLE, Int.reduceLT, Int.reduceAdd, Int.reduceSub, Int.reduceNeg, Int.reduceToNat, Int.reduceNe, Nat.reducePow, Nat.reduceShiftRight, Nat.reduceMod, hfull, Lv.pv, e0, e1, e5, e11, e12, em, eg]
        exact ⟨args.length - (i + 1), by omega, i + 1, t + min args[i].nodes (most - t), rfl, by omega, by omega, by simp, by simp⟩
    · simp (maxSteps := 1000000) (disch := omega) only [go_sem, Nat.reduceAdd, Nat.reduceMul, Nat.reduceSub, Nat.reduceLeDiff, Nat.reduceEqDiff, Nat.reduceBEq, ↓reduceIte, reduceCtorEq, Int.reduceEq, Int.reduceLE, Int.reduceLT, Int.reduceAdd, Int.reduceSub, Int.reduceNeg, Int.reduceToNat, Int.reduceNe, Nat.reducePow, Nat.reduceShiftRight, Nat.reduceMod, hlt, Lv.pv, e0, e1, e5, e11, e12]
      refine fin_tmp (.inr rfl) ?_
      have hj : i = args.length := by omega
      subst hj
      rw [List.take_length] at ht
      simp only [go_sem, Nat.reduceAdd, Nat.reduceMul, Nat.reduceSub, Nat.reduceLeDiff, Nat.reduceEqDiff, Nat.reduceBEq, ↓reduceIte, reduceCtorEq, Int.reduceEq, Int.reduceLE, Int.reduceLT, Int.reduceAdd, Int.reduceSub, Int.reduceNeg, Int.reduceToNat, Int.reduceNe, Nat.reducePow, Nat.reduceShiftRight, Nat.reduceMod, Lv.nodes, PV.sc.injEq, Value.int.injEq]
      omega
end
section
set_option maxRecDepth 20000
attribute [local go_sem] pv_len pv_take tm_len tm_take pv_one tm_one id_ne id_ne' id_ne2
set_option maxRecDepth 100000 in
set_option maxHeartbeats 4000000 in
theorem all_seq (t : Tm) : PSeq Try.prog F.term_all_1 [.ptr [.ptr t.pv]] (t.pre.map nodePV) := by
  refine ⟨is_term_all_1.enters, fun V vals hok hv => ?_⟩
  intro l J Jx W hW _ _ hY h0
  have hdd : ∀ k : Nat, (Fence.wide.depth.isSome = true → 1 ≤ k) := fun k h => by cases h
  obtain ⟨v1, hv1, hr1⟩ := hv.get (i := 0) (x := .ptr [.ptr t.pv]) rfl
  have hvals : vals = [v1] := by
    have h1 := hv.1
    match vals, h1, hv1 with
    | [x], _, h => simp at h; rw [h]
  subst hvals
  obtain ⟨b, off, vs, rfl, hokb, hr, hc⟩ := hr1.ptr_inv
  obtain ⟨p, hp1, hrep⟩ := hr.get (i := 0) (x := .ptr t.pv) rfl
  have hkeep : ∀ b, V.ok b → W.heap[b]? = V.w.heap[b]? := fun b hb => hW.block b (hok b hb)
  have hcell : W.cell? ⟨b, off, none⟩ = some p := (World.cell?_of_block (w := V.w) (w' := W) (a := ⟨b, off, none⟩) (hkeep b hokb)).trans (hc 0 p hp1)
  have hw := walkNodes0 V (t.pre.map nodePV) l (t.pre.map nodePV).length J Jx (fun m pre x W hj hl => YieldAt.any rfl m (hY pre x W hj hl)) t.size t (Nat.le_refl _) 0 p [] W hrep (fun u hu => List.mem_map_of_mem hu) hkeep h0 (by simp)
  refine callsIn_of_wp Try.func115 rfl trivial ?_ rfl
  simp only [Try.ntmps115, List.size_toArray, List.length_cons, List.length_nil, Nat.reduceAdd, Nat.reduceSub, Array.replicate_succ, Array.replicate_zero, List.push_toArray, List.append_toArray, List.nil_append, List.cons_append]
  gi_wp2_with (refine ⟨trivial, ?_⟩; refine hw.mono ?_; clear hw; rintro e W1 (⟨rfl, ys, h1, h2, h3⟩ | ⟨rfl, ys, h1, h2⟩))
  · go_end0
    exact ⟨⟨_, rfl⟩, .inl ⟨ys, h1, by simpa using h2⟩⟩
  · go_end0
    exact ⟨⟨_, rfl⟩, .inr ⟨ys, h1, by simpa using h2⟩⟩
theorem all_p (t : Tm) : PPure Try.prog F.term_all [.ptr t.pv] (.fn F.term_all_1 [.ptr [.ptr t.pv]]) := by
  refine pure_by is_term_all (by simp) (by simp [PV.imm, immL, tm_imm]) fun hb nx => ?_
  repeat' (first | ((with_reducible first | refine cond_pos (by omega) ?_ | refine cond_neg (by omega) ?_ | refine guard_pos (by omega) ?_ | refine guard_neg (by omega) ?_ | refine cond_ifn ?_ ?_ | refine cond_waysn ?_ ?_ | refine guard_ifn ?_ ?_ | refine guard_waysn ?_ ?_ | refine cond_if ?_ ?_ | refine cond_ways ?_ ?_ | refine guard_if ?_ ?_ | refine guard_ways ?_ ?_) <;> intro _) | simp (maxSteps := 1000000) (disch := omega) only [go_sem, Nat.reduceAdd, Nat.reduceMul, Nat.reduceSub, Nat.reduceLeDiff, Nat.reduceEqDiff, Nat.reduceBEq, ↓reduceIte, reduceCtorEq, Int.reduceEq, Int.reduceLE, Int.reduceLT, Int.reduceAdd, Int.reduceSub, Int.reduceNeg, Int.reduceToNat, Int.reduceNe, Nat.reducePow, Nat.reduceShiftRight, Nat.reduceMod, mc_term_all, *])
  exact fin_tmp (.inr rfl) (by simp [upd])
mutual
theorem Lv.pv_inj : ∀ a b : Lv, a.pv = b.pv → a = b
  | .mk k n args, .mk k' n' args', h => by
    simp only [Lv.pv, List.cons.injEq, PV.sc.injEq, Value.int.injEq, PV.sl.injEq, true_and, and_true] at h
    rw [h.1, h.2.1, pvL_inj args args' h.2.2]
theorem pvL_inj : ∀ a b : List Lv, a.map Lv.pv = b.map Lv.pv → a = b
  | [], [], _ => rfl
  | [], y :: s, h => by simp at h
  | x :: r, [], h => by simp at h
  | x :: r, y :: s, h => by
    simp only [List.map_cons, List.cons.injEq] at h
    rw [Lv.pv_inj x y h.1, pvL_inj r s h.2]
end
def Tm.wt : Tm → Nat
  | .mk _ _ _ ls _ => 1 + (ls.map fun l => min l.nodes 2001).sum
def Tm.own : Tm → Nat
  | .mk _ _ _ ls _ => 1 + nodesL ls
theorem wt_of_pv {a b : Tm} (h : nodePV a = nodePV b) : a.wt = b.wt := by
  cases a; cases b
  simp only [nodePV, Tm.pv, PV.ptr.injEq, List.cons.injEq, PV.sl.injEq, true_and, and_true] at h
  simp only [Tm.wt]
  rw [pvL_inj _ _ h.2.2.2.1]
def wts (us : List Tm) : Nat := (us.map Tm.wt).sum
theorem wts_of_pv : ∀ {us vs : List Tm}, us.map nodePV = vs.map nodePV → wts us = wts vs
  | [], [], _ => rfl
  | [], _ :: _, h => by simp at h
  | _ :: _, [], h => by simp at h
  | a :: us, b :: vs, h => by
    simp only [List.map_cons, List.cons.injEq] at h
    have := wts_of_pv h.2
    simp only [wts, List.map_cons, List.sum_cons] at this ⊢
    rw [wt_of_pv h.1, this]
theorem mins_le : ∀ ls : List Lv, (ls.map fun l => min l.nodes 2001).sum ≤ nodesL ls
  | [] => by simp [nodesL]
  | x :: r => by have := mins_le r; simp only [List.map_cons, List.sum_cons, nodesL]; omega
theorem mins_eq : ∀ ls : List Lv, (ls.map fun l => min l.nodes 2001).sum ≤ 2000 → (ls.map fun l => min l.nodes 2001).sum = nodesL ls
  | [], _ => by simp [nodesL]
  | x :: r, h => by
    simp only [List.map_cons, List.sum_cons, nodesL] at h ⊢
    have := mins_eq r (by omega)
    omega
theorem wt_le (t : Tm) : t.wt ≤ t.own := by
  cases t
  simp only [Tm.wt, Tm.own]
  have := mins_le ‹List Lv›
  omega
theorem wt_eq (t : Tm) (h : t.wt ≤ 2000) : t.wt = t.own := by
  cases t
  rename_i ls _
  simp only [Tm.wt, Tm.own] at h ⊢
  have := mins_eq ls (by omega)
  omega
theorem wts_le : ∀ us : List Tm, wts us ≤ (us.map Tm.own).sum
  | [] => by simp [wts]
  | x :: r => by have := wts_le r; have := wt_le x; simp only [wts, List.map_cons, List.sum_cons] at *; omega
theorem wts_eq : ∀ us : List Tm, wts us ≤ 2000 → wts us = (us.map Tm.own).sum
  | [], _ => by simp [wts]
  | x :: r, h => by
    simp only [wts, List.map_cons, List.sum_cons] at h ⊢
    have h1 := wts_eq r (by simp only [wts]; omega)
    have h2 := wt_eq x (by omega)
    simp only [wts] at h1
    omega
mutual
theorem own_pre : ∀ t : Tm, (t.pre.map Tm.own).sum = t.nodes
  | .mk k n s ls args => by
    simp only [Tm.pre, List.map_cons, List.sum_cons, Tm.own, Tm.nodes, own_preL args]
    omega
theorem own_preL : ∀ ts : List Tm, ((preL ts).map Tm.own).sum = nodesT ts
  | [] => by simp [preL, nodesT]
  | x :: r => by simp only [preL, List.map_append, List.sum_append, nodesT, own_pre x, own_preL r]
end
theorem wts_prefix {us vs : List Tm} (h : us.map nodePV <+: vs.map nodePV) : wts us ≤ wts vs := by
  obtain ⟨z, hz⟩ := h
  have h1 : us.map nodePV = (vs.take us.length).map nodePV := by
    rw [List.map_take, ← hz, List.take_left' (by simp)]
  rw [wts_of_pv h1]
  have h2 : wts vs = wts (vs.take us.length) + wts (vs.drop us.length) := by
    simp only [wts]
    rw [← List.sum_append, ← List.map_append, List.take_append_drop]
  omega
def minsL (ls : List Lv) : Nat := (ls.map fun l => min l.nodes 2001).sum
theorem minsL_take (ls : List Lv) (i : Nat) (h : i < ls.length) : minsL (ls.take (i + 1)) = minsL (ls.take i) + min ls[i].nodes 2001 := by
  unfold minsL
  rw [List.take_succ_eq_append_getElem h, List.map_append, List.sum_append]
  simp
theorem own_mem {us : List Tm} {u : Tm} (h : u ∈ us) : u.own ≤ (us.map Tm.own).sum := by
  obtain ⟨a, b, rfl⟩ := List.append_of_mem h
  simp only [List.map_append, List.map_cons, List.sum_append, List.sum_cons]
  omega
theorem minsL_take_le (ls : List Lv) (i : Nat) : minsL (ls.take i) ≤ nodesL ls := Nat.le_trans (mins_le (ls.take i)) (nodesL_take_le ls i)
theorem len_nodesL' : ∀ ls : List Lv, ls.length ≤ nodesL ls
  | [] => by simp [nodesL]
  | x :: r => by have := len_nodesL' r; have := nodes_pos x; simp only [List.length_cons, nodesL]; omega
set_option maxHeartbeats 4000000 in
theorem Nodes_m (t : Tm) (hm : t.nodes ≤ 2 ^ 40) (H : Nat → Option PObj) (nx : Nat) : PMut Try.prog F.term_Nodes [.agg t.pv] H nx (fun H' nx' r => r = .sc (.int .i64 (min t.nodes 2001 : Nat))) := by
  refine mut_byR is_term_Nodes (by simp) fun hb => ?_
  clear hb
  repeat' (first | ((with_reducible first | refine cond_pos (by omega) ?_ | refine cond_neg (by omega) ?_ | refine guard_pos (by omega) ?_ | refine guard_neg (by omega) ?_ | refine cond_ifn ?_ ?_ | refine cond_waysn ?_ ?_ | refine guard_ifn ?_ ?_ | refine guard_waysn ?_ ?_ | refine cond_if ?_ ?_ | refine cond_ways ?_ ?_ | refine guard_if ?_ ?_ | refine guard_ways ?_ ?_) <;> intro _) | (((with_reducible refine call_id ?_); (first | (refine call_pure (all_p t) ?_)))) | simp (maxSteps := 1000000) (disch := omega) only [go_sem, Nat.reduceAdd, Nat.reduceMul, Nat.reduceSub, Nat.reduceLeDiff, Nat.reduceEqDiff, Nat.reduceBEq, ↓reduceIte, reduceCtorEq, Int.reduceEq, Int.reduceLE, Int.reduceLT, Int.reduceAdd, Int.reduceSub, Int.reduceNeg, Int.reduceToNat, Int.reduceNe, Nat.reducePow, Nat.reduceShiftRight, Nat.reduceMod, mc_term_Nodes, *])
  refine c_rng (all_seq t) (by simp [ev, upd]) (fun pre H' m => ∃ us : List Tm, pre = us.map nodePV ∧ wts us ≤ 2000 ∧ H' (nx + 1) = some ⟨[.sc (.int .i64 0)], true⟩ ∧ H' (nx + 2) = some ⟨[.sc (.int .i64 (wts us : Nat))], true⟩)
    ⟨[], rfl, by simp [wts], noIt_keep (by simp [upd]) rfl, noIt_keep (by simp [upd, wts]) rfl⟩ ?round ?done
  case round =>
    rintro pre x H' m hx hlen ⟨us, rfl, hw, h1, h2⟩ hnx
    obtain ⟨u, hu, rfl⟩ := List.mem_map.1 hx
    have hown := own_mem hu
    rw [own_pre] at hown
    have hus : (us.map nodePV ++ [nodePV u]) = (us ++ [u]).map nodePV := by simp
    rw [hus]
    have hwu : wts (us ++ [u]) = wts us + u.wt := by simp [wts]
    clear hx hlen hu hus
    cases u with
    | mk k n s ls args =>
    simp only [Tm.own] at hown
    have hll := len_nodesL' ls
    have hmn := mins_le ls
    simp only [Tm.wt] at hwu
    simp only [nodePV]
    repeat' (first | ((with_reducible first | refine cond_pos (by omega) ?_ | refine cond_neg (by omega) ?_ | refine guard_pos (by omega) ?_ | refine guard_neg (by omega) ?_ | refine cond_ifn ?_ ?_ | refine cond_waysn ?_ ?_ | refine guard_ifn ?_ ?_ | refine guard_waysn ?_ ?_ | refine cond_if ?_ ?_ | refine cond_ways ?_ ?_ | refine guard_if ?_ ?_ | refine guard_ways ?_ ?_) <;> intro _) | simp (maxSteps := 1000000) (disch := omega) only [go_sem, Nat.reduceAdd, Nat.reduceMul, Nat.reduceSub, Nat.reduceLeDiff, Nat.reduceEqDiff, Nat.reduceBEq, ↓reduceIte, reduceCtorEq, Int.reduceEq, Int.reduceLE, Int.reduceLT, Int.reduceAdd, Int.reduceSub, Int.reduceNeg, Int.reduceToNat, Int.reduceNe, Nat.reducePow, Nat.reduceShiftRight, Nat.reduceMod, Tm.pv, h1, h2, *])
    refine c_loopW 268402720 (by kernel_rfl) (fun j f H2 m2 => ∃ i : Nat, j = ls.length - i ∧ i ≤ ls.length ∧ f 15 = .sc (.int .i64 i) ∧ H2 (nx + 1) = some ⟨[.sc (.int .i64 0)], true⟩ ∧ H2 (nx + 2) = some ⟨[.sc (.int .i64 ((wts us : Nat) + 1 + (minsL (ls.take i) : Nat)))], true⟩) _ ⟨0, rfl, (by first | assumption | omega | rfl | (simp (disch := omega) only [go_sem, Nat.reduceMul, Nat.reduceSub, Nat.reduceShiftRight, Nat.reduceMod, Nat.reduceEqDiff, Nat.reduceAdd, ↓reduceIte, Nat.reduceLeDiff, *] <;> omega)), (by first | assumption | omega | rfl | (simp (disch := omega) only [go_sem, Nat.reduceMul, Nat.reduceSub, Nat.reduceShiftRight, Nat.reduceMod, Nat.reduceEqDiff, Nat.reduceAdd, ↓reduceIte, Nat.reduceLeDiff, *] <;> omega)), by simp [upd, h1], by simp [upd, minsL]⟩ ?_
    rintro _ f H2 m2 ⟨i, rfl, hi, e15, g1, g2⟩
    have hmi := minsL_take_le ls i
    by_cases hlt : i < ls.length
    · have eg : ls[i]? = some ls[i] := List.getElem?_eq_getElem hlt
      have hst := minsL_take ls i hlt
      clear hwu hmn
      repeat' (first | ((with_reducible first | refine cond_pos (by omega) ?_ | refine cond_neg (by omega) ?_ | refine guard_pos (by omega) ?_ | refine guard_neg (by omega) ?_ | refine cond_ifn ?_ ?_ | refine cond_waysn ?_ ?_ | refine guard_ifn ?_ ?_ | refine guard_waysn ?_ ?_ | refine cond_if ?_ ?_ | refine cond_ways ?_ ?_ | refine guard_if ?_ ?_ | refine guard_ways ?_ ?_) <;> intro _) | (((with_reducible refine call_id ?_); (first | (refine call_pure (tlNodes_p 2001 ls[i] 2001 (.inr (by omega)) (by omega) (by omega)) ?_)))) | simp (maxSteps := 1000000) (disch := omega) only [go_sem, Nat.reduceAdd, Nat.reduceMul, Nat.reduceSub, Nat.reduceLeDiff, Nat.reduceEqDiff, Nat.reduceBEq, ↓reduceIte, reduceCtorEq, Int.reduceEq, Int.reduceLE, Int.reduceLT, Int.reduceAdd, Int.reduceSub, Int.reduceNeg, Int.reduceToNat, Int.reduceNe, Nat.reducePow, Nat.reduceShiftRight, Nat.reduceMod, Tm.pv, *])
      refine Nx.mk (ls.length - (i + 1)) (by first | assumption | omega | rfl | (simp (disch := omega) only [go_sem, Nat.reduceMul, Nat.reduceSub, Nat.reduceShiftRight, Nat.reduceMod, Nat.reduceEqDiff, Nat.reduceAdd, ↓reduceIte, Nat.reduceLeDiff, *] <;> omega)) ⟨i + 1, rfl, (by first | assumption | omega | rfl | (simp (disch := omega) only [go_sem, Nat.reduceMul, Nat.reduceSub, Nat.reduceShiftRight, Nat.reduceMod, Nat.reduceEqDiff, Nat.reduceAdd, ↓reduceIte, Nat.reduceLeDiff, *] <;> omega)), (by first | assumption | omega | rfl | (simp (disch := omega) only [go_sem, Nat.reduceMul, Nat.reduceSub, Nat.reduceShiftRight, Nat.reduceMod, Nat.reduceEqDiff, Nat.reduceAdd, ↓reduceIte, Nat.reduceLeDiff, *] <;> omega)), by simp [upd, g1], ?_⟩
      simp only [upd, if_true, Option.some.injEq, PObj.mk.injEq, and_true, List.cons.injEq, PV.sc.injEq, Value.int.injEq]
      refine ⟨trivial, ?_⟩
      rw [hst]
      omega
    · obtain rfl : i = ls.length := by omega
      rw [List.take_length] at g2 hmi
      clear hlt hi
      by_cases hgt : 2000 < wts us + 1 + minsL ls
      · repeat' (first | ((with_reducible first | refine cond_pos (by omega) ?_ | refine cond_neg (by omega) ?_ | refine guard_pos (by omega) ?_ | refine guard_neg (by omega) ?_ | refine cond_ifn ?_ ?_ | refine cond_waysn ?_ ?_ | refine guard_ifn ?_ ?_ | refine guard_waysn ?_ ?_ | refine cond_if ?_ ?_ | refine cond_ways ?_ ?_ | refine guard_if ?_ ?_ | refine guard_ways ?_ ?_) <;> intro _) | simp (maxSteps := 1000000) (disch := omega) only [go_sem, Nat.reduceAdd, Nat.reduceMul, Nat.reduceSub, Nat.reduceLeDiff, Nat.reduceEqDiff, Nat.reduceBEq, ↓reduceIte, reduceCtorEq, Int.reduceEq, Int.reduceLE, Int.reduceLT, Int.reduceAdd, Int.reduceSub, Int.reduceNeg, Int.reduceToNat, Int.reduceNe, Nat.reducePow, Nat.reduceShiftRight, Nat.reduceMod, *])
        refine rq_ret fun hp => ?_
        have hle := wts_prefix hp
        have he := wts_le t.pre
        rw [own_pre] at he
        have hmin : min t.nodes 2001 = 2001 := by unfold minsL at hgt; omega
        have hq := noIt_keep (H := upd H2 (nx + 1) (some ⟨[.sc (.int .i64 2001)], true⟩)) (id := nx + 1) (upd_same _ _ _) rfl
        rw [hmin]
        generalize noIt (upd H2 (nx + 1) (some ⟨[.sc (.int .i64 2001)], true⟩)) = H3 at hq ⊢
        clear hwu hmn hgt hp hle he hmin hown hll hm
        simp (maxSteps := 1000000) (disch := omega) only [go_sem, Nat.reduceAdd, Nat.reduceMul, Nat.reduceSub, Nat.reduceLeDiff, Nat.reduceEqDiff, Nat.reduceBEq, ↓reduceIte, reduceCtorEq, Int.reduceEq, Int.reduceLE, Int.reduceLT, Int.reduceAdd, Int.reduceSub, Int.reduceNeg, Int.reduceToNat, Int.reduceNe, Nat.reducePow, Nat.reduceShiftRight, Nat.reduceMod, hq]
        exact fin_mut (.sc (.int .i64 2001)) (.inr rfl) (by (simp (disch := omega) only [go_sem, Nat.reduceMul, Nat.reduceSub, Nat.reduceShiftRight, Nat.reduceMod, Nat.reduceEqDiff, Nat.reduceAdd, ↓reduceIte, Nat.reduceLeDiff, hq]); all_goals rfl) (by simp)
      · repeat' (first | ((with_reducible first | refine cond_pos (by omega) ?_ | refine cond_neg (by omega) ?_ | refine guard_pos (by omega) ?_ | refine guard_neg (by omega) ?_ | refine cond_ifn ?_ ?_ | refine cond_waysn ?_ ?_ | refine guard_ifn ?_ ?_ | refine guard_waysn ?_ ?_ | refine cond_if ?_ ?_ | refine cond_ways ?_ ?_ | refine guard_if ?_ ?_ | refine guard_ways ?_ ?_) <;> intro _) | simp (maxSteps := 1000000) (disch := omega) only [go_sem, Nat.reduceAdd, Nat.reduceMul, Nat.reduceSub, Nat.reduceLeDiff, Nat.reduceEqDiff, Nat.reduceBEq, ↓reduceIte, reduceCtorEq, Int.reduceEq, Int.reduceLE, Int.reduceLT, Int.reduceAdd, Int.reduceSub, Int.reduceNeg, Int.reduceToNat, Int.reduceNe, Nat.reducePow, Nat.reduceShiftRight, Nat.reduceMod, *])
        refine rq_normal ⟨us ++ [.mk k n s ls args], rfl, ?_, noIt_keep g1 rfl, ?_⟩
        · rw [hwu]
          unfold minsL at hgt
          omega
        · rw [hwu]
          refine noIt_keep (g2.trans ?_) rfl
          have e : ((wts us + (1 + (ls.map fun l => min l.nodes 2001).sum) : Nat) : Int) = (wts us : Int) + 1 + (minsL ls : Nat) := by unfold minsL; omega
          rw [e]
  case done =>
    rintro H' m ⟨us, hus, hw, h1, h2⟩ hnx
    rw [← wts_of_pv hus] at hw h2
    have he := wts_eq t.pre hw
    rw [own_pre] at he
    rw [he] at hw h2
    clear he hus hm
    repeat' (first | ((with_reducible first | refine cond_pos (by omega) ?_ | refine cond_neg (by omega) ?_ | refine guard_pos (by omega) ?_ | refine guard_neg (by omega) ?_ | refine cond_ifn ?_ ?_ | refine cond_waysn ?_ ?_ | refine guard_ifn ?_ ?_ | refine guard_waysn ?_ ?_ | refine cond_if ?_ ?_ | refine cond_ways ?_ ?_ | refine guard_if ?_ ?_ | refine guard_ways ?_ ?_) <;> intro _) | simp (maxSteps := 1000000) (disch := omega) only [go_sem, Nat.reduceAdd, Nat.reduceMul, Nat.reduceSub, Nat.reduceLeDiff, Nat.reduceEqDiff, Nat.reduceBEq, ↓reduceIte, reduceCtorEq, Int.reduceEq, Int.reduceLE, Int.reduceLT, Int.reduceAdd, Int.reduceSub, Int.reduceNeg, Int.reduceToNat, Int.reduceNe, Nat.reducePow, Nat.reduceShiftRight, Nat.reduceMod, h1, h2, *])
    refine fin_mut (.sc (.int .i64 t.nodes)) (.inr rfl) (by (simp (disch := omega) only [go_sem, Nat.reduceMul, Nat.reduceSub, Nat.reduceShiftRight, Nat.reduceMod, Nat.reduceEqDiff, Nat.reduceAdd, ↓reduceIte, Nat.reduceLeDiff, h1, h2]); all_goals rfl) ?_
    show PV.sc (.int .i64 (t.nodes : Int)) = _
    have : min t.nodes 2001 = t.nodes := by omega
    rw [this]
theorem tNodes_p (t : Tm) (hm : t.nodes ≤ 2 ^ 40) : PPure Try.prog F.term_Nodes [.agg t.pv] (.sc (.int .i64 (min t.nodes 2001 : Nat))) := by
  refine PMut.pure rfl (fun nx => Nodes_m t hm noneOwn nx) fun nx H' nx' r0 h => ?_
  subst h
  exact ⟨0, .refl _⟩
end
section
set_option maxRecDepth 20000
attribute [local go_sem] pv_len pv_take Nat.add_assoc tm_len tm_take
mutual
def Tm.mass : Tm → Nat
  | .mk _ _ s ls args => 1 + s.size / 16 + (nodesL ls + massT args)
def massT : List Tm → Nat
  | [] => 0
  | x :: r => x.mass + massT r
end
mutual
def Tm.fits : Tm → Prop
  | .mk _ _ s _ args => s.size ≤ 9223372036854775807 ∧ fitsT args
def fitsT : List Tm → Prop
  | [] => True
  | x :: r => x.fits ∧ fitsT r
end
theorem fitsT_mem : ∀ (ts : List Tm) (k : Nat) (h : k < ts.length), fitsT ts → ts[k].fits
  | x :: r, 0, h, hf => by simpa using hf.1
  | x :: r, k + 1, h, hf => by simpa using fitsT_mem r k (by simpa using h) hf.2
theorem massT_take_succ : ∀ (ts : List Tm) (k : Nat) (h : k < ts.length), massT (ts.take (k + 1)) = massT (ts.take k) + ts[k].mass
  | x :: r, 0, h => by simp [massT]
  | x :: r, k + 1, h => by
    have := massT_take_succ r k (by simpa using h)
    simp only [List.take_succ_cons, massT, List.getElem_cons_succ, this]
    omega
theorem massT_append : ∀ a b : List Tm, massT (a ++ b) = massT a + massT b
  | [], b => by simp [massT]
  | x :: r, b => by simp only [List.cons_append, massT, massT_append r b]; omega
theorem massT_take_le (ts : List Tm) (k : Nat) : massT (ts.take k) ≤ massT ts := by
  have h := massT_append (ts.take k) (ts.drop k)
  rw [List.take_append_drop] at h
  omega
set_option maxHeartbeats 8000000 in
theorem Mass_p (most : Nat) (hm : most ≤ 1000000) : ∀ (fuel : Nat) (t : Tm), t.size ≤ fuel → t.fits →
    PPure Try.prog F.ref00_Nodes [.agg t.pv, .sc (.int .i64 most)] (.sc (.int .i64 (min t.mass (most + 1) : Nat))) := by
  intro fuel
  induction fuel with
  | zero => intro t h _; have := size_pos t; omega
  | succ fuel ih =>
    intro t hf hfit
    cases t with
    | mk k n s ls args =>
    simp only [Tm.size] at hf
    refine pure_by is_ref00_Nodes (by simp) rfl fun hb nx => ?_
    have hb0 : ls.length ≤ 9223372036854775807 ∧ args.length ≤ 9223372036854775807 := by simp [Tm.pv, bndL, PV.bnd] at hb; exact ⟨hb.1.1, hb.2.1⟩
    have hsz := hfit.1
    have hfits := Kept.mk hfit.2
    clear hfit
    have htd : Int.tdiv (s.size : Int) 16 = ((s.size / 16 : Nat) : Int) := by rw [Int.tdiv_eq_ediv_of_nonneg (by omega)]; omega
    repeat' (first | ((with_reducible first | refine cond_pos (by omega) ?_ | refine cond_neg (by omega) ?_ | refine guard_pos (by omega) ?_ | refine guard_neg (by omega) ?_ | refine cond_ifn ?_ ?_ | refine cond_waysn ?_ ?_ | refine guard_ifn ?_ ?_ | refine guard_waysn ?_ ?_ | refine cond_if ?_ ?_ | refine cond_ways ?_ ?_ | refine guard_if ?_ ?_ | refine guard_ways ?_ ?_) <;> intro _) | simp (maxSteps := 1000000) (disch := omega) only [go_sem, Nat.reduceAdd, Nat.reduceMul, Nat.reduceSub, Nat.reduceLeDiff, Nat.reduceEqDiff, Nat.reduceBEq, ↓reduceIte, reduceCtorEq, Int.reduceEq, Int.reduceLE, Int.reduceLT, Int.reduceAdd, Int.reduceSub, Int.reduceNeg, Int.reduceToNat, Int.reduceNe, Nat.reducePow, Nat.reduceShiftRight, Nat.reduceMod, mc_ref00_Nodes, Tm.pv, htd, *])
    refine c_loopW 17179861088 (by kernel_rfl) (fun j f H m => ∃ i t : Nat, j = ls.length - i ∧ i ≤ ls.length ∧ min t (most + 1) = min (1 + s.size / 16 + nodesL (ls.take i)) (most + 1) ∧ t ≤ 2 * most + 1 + s.size / 16 ∧ f 5 = .sc (.int .i64 t) ∧ f 6 = .sc (.int .i64 i)) _ ⟨0, 1 + s.size / 16, rfl, (by first | assumption | omega | rfl | (simp (disch := omega) only [go_sem, Nat.reduceMul, Nat.reduceSub, Nat.reduceShiftRight, Nat.reduceMod, Nat.reduceEqDiff, Nat.reduceAdd, ↓reduceIte, Nat.reduceLeDiff, *] <;> omega)), by simp [nodesL], by omega, (by first | assumption | omega | rfl | (simp (disch := omega) only [go_sem, Nat.reduceMul, Nat.reduceSub, Nat.reduceShiftRight, Nat.reduceMod, Nat.reduceEqDiff, Nat.reduceAdd, ↓reduceIte, Nat.reduceLeDiff, *] <;> omega)), (by first | assumption | omega | rfl | (simp (disch := omega) only [go_sem, Nat.reduceMul, Nat.reduceSub, Nat.reduceShiftRight, Nat.reduceMod, Nat.reduceEqDiff, Nat.reduceAdd, ↓reduceIte, Nat.reduceLeDiff, *] <;> omega))⟩ ?_
    rintro _ f H m ⟨i, t, rfl, hi, ht, ht2, e5, e6⟩
    by_cases hgo : i < ls.length ∧ t ≤ most
    · obtain ⟨hlt, hfull⟩ := hgo
      have eg : ls[i]? = some ls[i] := List.getElem?_eq_getElem hlt
      have hs := nodesL_take_succ ls i hlt
      repeat' (first | ((with_reducible first | refine cond_pos (by omega) ?_ | refine cond_neg (by omega) ?_ | refine guard_pos (by omega) ?_ | refine guard_neg (by omega) ?_ | refine cond_ifn ?_ ?_ | refine cond_waysn ?_ ?_ | refine guard_ifn ?_ ?_ | refine guard_waysn ?_ ?_ | refine cond_if ?_ ?_ | refine cond_ways ?_ ?_ | refine guard_if ?_ ?_ | refine guard_ways ?_ ?_) <;> intro _) | (((with_reducible refine call_id ?_); (first | (refine call_pure (LevelNodes_p most hm ls[i].nodes ls[i] (Nat.le_refl _)) ?_)))) | simp (maxSteps := 1000000) (disch := omega) only [go_sem, Nat.reduceAdd, Nat.reduceMul, Nat.reduceSub, Nat.reduceLeDiff, Nat.reduceEqDiff, Nat.reduceBEq, ↓reduceIte, reduceCtorEq, Int.reduceEq, Int.reduceLE, Int.reduceLT, Int.reduceAdd, Int.reduceSub, Int.reduceNeg, Int.reduceToNat, Int.reduceNe, Nat.reducePow, Nat.reduceShiftRight, Nat.reduceMod, Tm.pv, *])
      exact Nx.mk (ls.length - (i + 1)) (by first | assumption | omega | rfl | (simp (disch := omega) only [go_sem, Nat.reduceMul, Nat.reduceSub, Nat.reduceShiftRight, Nat.reduceMod, Nat.reduceEqDiff, Nat.reduceAdd, ↓reduceIte, Nat.reduceLeDiff, *] <;> omega)) ⟨i + 1, t + min ls[i].nodes (most + 1), rfl, (by first | assumption | omega | rfl | (simp (disch := omega) only [go_sem, Nat.reduceMul, Nat.reduceSub, Nat.reduceShiftRight, Nat.reduceMod, Nat.reduceEqDiff, Nat.reduceAdd, ↓reduceIte, Nat.reduceLeDiff, *] <;> omega)), by omega, by omega, (by first | assumption | omega | rfl | (simp (disch := omega) only [go_sem, Nat.reduceMul, Nat.reduceSub, Nat.reduceShiftRight, Nat.reduceMod, Nat.reduceEqDiff, Nat.reduceAdd, ↓reduceIte, Nat.reduceLeDiff, *] <;> omega)), (by first | assumption | omega | rfl | (simp (disch := omega) only [go_sem, Nat.reduceMul, Nat.reduceSub, Nat.reduceShiftRight, Nat.reduceMod, Nat.reduceEqDiff, Nat.reduceAdd, ↓reduceIte, Nat.reduceLeDiff, *] <;> omega))⟩
    · have hfin : min t (most + 1) = min (1 + s.size / 16 + nodesL ls) (most + 1) := by
        by_cases h : i < ls.length
        · have := nodesL_take_le ls i; omega
        · have e : ls.take i = ls := List.take_of_length_le (by omega)
          rw [e] at ht
          exact ht
      have hor : (i < ls.length ∧ most < t) ∨ ¬ i < ls.length := by omega
      clear hgo ht
      rcases hor with ⟨h, h'⟩ | h
      all_goals
        repeat' (first | ((with_reducible first | refine cond_pos (by omega) ?_ | refine cond_neg (by omega) ?_ | refine guard_pos (by omega) ?_ | refine guard_neg (by omega) ?_ | refine cond_ifn ?_ ?_ | refine cond_waysn ?_ ?_ | refine guard_ifn ?_ ?_ | refine guard_waysn ?_ ?_ | refine cond_if ?_ ?_ | refine cond_ways ?_ ?_ | refine guard_if ?_ ?_ | refine guard_ways ?_ ?_) <;> intro _) | simp (maxSteps := 1000000) (disch := omega) only [go_sem, Nat.reduceAdd, Nat.reduceMul, Nat.reduceSub, Nat.reduceLeDiff, Nat.reduceEqDiff, Nat.reduceBEq, ↓reduceIte, reduceCtorEq, Int.reduceEq, Int.reduceLE, Int.reduceLT, Int.reduceAdd, Int.reduceSub, Int.reduceNeg, Int.reduceToNat, Int.reduceNe, Nat.reducePow, Nat.reduceShiftRight, Nat.reduceMod, Tm.pv, *])
        refine c_loopW 36028779839094944 (by kernel_rfl) (fun j f H m => ∃ i2 t2 : Nat, j = args.length - i2 ∧ i2 ≤ args.length ∧ min t2 (most + 1) = min (1 + s.size / 16 + (nodesL ls + massT (args.take i2))) (most + 1) ∧ t2 ≤ 2 * most + 1 + s.size / 16 ∧ f 5 = .sc (.int .i64 t2) ∧ f 7 = .sc (.int .i64 i2)) _ ⟨0, t, rfl, (by first | assumption | omega | rfl | (simp (disch := omega) only [go_sem, Nat.reduceMul, Nat.reduceSub, Nat.reduceShiftRight, Nat.reduceMod, Nat.reduceEqDiff, Nat.reduceAdd, ↓reduceIte, Nat.reduceLeDiff, *] <;> omega)), by simp [massT]; omega, (by first | assumption | omega | rfl | (simp (disch := omega) only [go_sem, Nat.reduceMul, Nat.reduceSub, Nat.reduceShiftRight, Nat.reduceMod, Nat.reduceEqDiff, Nat.reduceAdd, ↓reduceIte, Nat.reduceLeDiff, *] <;> omega)), (by first | assumption | omega | rfl | (simp (disch := omega) only [go_sem, Nat.reduceMul, Nat.reduceSub, Nat.reduceShiftRight, Nat.reduceMod, Nat.reduceEqDiff, Nat.reduceAdd, ↓reduceIte, Nat.reduceLeDiff, *] <;> omega)), (by first | assumption | omega | rfl | (simp (disch := omega) only [go_sem, Nat.reduceMul, Nat.reduceSub, Nat.reduceShiftRight, Nat.reduceMod, Nat.reduceEqDiff, Nat.reduceAdd, ↓reduceIte, Nat.reduceLeDiff, *] <;> omega))⟩ ?_
        rintro _ f2 H2 m2 ⟨i2, t2, rfl, hi2, ht3, ht4, e5', e7⟩
        by_cases hgo : i2 < args.length ∧ t2 ≤ most
        · obtain ⟨hlt, hfull⟩ := hgo
          have eg : args[i2]? = some args[i2] := List.getElem?_eq_getElem hlt
          have hs := massT_take_succ args i2 hlt
          have hsz := sizeL_mem args i2 hlt
          repeat' (first | ((with_reducible first | refine cond_pos (by omega) ?_ | refine cond_neg (by omega) ?_ | refine guard_pos (by omega) ?_ | refine guard_neg (by omega) ?_ | refine cond_ifn ?_ ?_ | refine cond_waysn ?_ ?_ | refine guard_ifn ?_ ?_ | refine guard_waysn ?_ ?_ | refine cond_if ?_ ?_ | refine cond_ways ?_ ?_ | refine guard_if ?_ ?_ | refine guard_ways ?_ ?_) <;> intro _) | (((with_reducible refine call_id ?_); (first | (refine call_pure (ih args[i2] (by omega) (fitsT_mem args i2 hlt hfits.out)) ?_)))) | simp (maxSteps := 1000000) (disch := omega) only [go_sem, Nat.reduceAdd, Nat.reduceMul, Nat.reduceSub, Nat.reduceLeDiff, Nat.reduceEqDiff, Nat.reduceBEq, ↓reduceIte, reduceCtorEq, Int.reduceEq, Int.reduceLE, Int.reduceLT, Int.reduceAdd, Int.reduceSub, Int.reduceNeg, Int.reduceToNat, Int.reduceNe, Nat.reducePow, Nat.reduceShiftRight, Nat.reduceMod, Tm.pv, *])
          exact Nx.mk (args.length - (i2 + 1)) (by first | assumption | omega | rfl | (simp (disch := omega) only [go_sem, Nat.reduceMul, Nat.reduceSub, Nat.reduceShiftRight, Nat.reduceMod, Nat.reduceEqDiff, Nat.reduceAdd, ↓reduceIte, Nat.reduceLeDiff, *] <;> omega)) ⟨i2 + 1, t2 + min args[i2].mass (most + 1), rfl, (by first | assumption | omega | rfl | (simp (disch := omega) only [go_sem, Nat.reduceMul, Nat.reduceSub, Nat.reduceShiftRight, Nat.reduceMod, Nat.reduceEqDiff, Nat.reduceAdd, ↓reduceIte, Nat.reduceLeDiff, *] <;> omega)), by omega, by omega, (by first | assumption | omega | rfl | (simp (disch := omega) only [go_sem, Nat.reduceMul, Nat.reduceSub, Nat.reduceShiftRight, Nat.reduceMod, Nat.reduceEqDiff, Nat.reduceAdd, ↓reduceIte, Nat.reduceLeDiff, *] <;> omega)), (by first | assumption | omega | rfl | (simp (disch := omega) only [go_sem, Nat.reduceMul, Nat.reduceSub, Nat.reduceShiftRight, Nat.reduceMod, Nat.reduceEqDiff, Nat.reduceAdd, ↓reduceIte, Nat.reduceLeDiff, *] <;> omega))⟩
        · have hfin2 : min t2 (most + 1) = min (1 + s.size / 16 + (nodesL ls + massT args)) (most + 1) := by
            by_cases h : i2 < args.length
            · have := massT_take_le args i2; omega
            · have e : args.take i2 = args := List.take_of_length_le (by omega)
              rw [e] at ht3
              exact ht3
          have hor : (i2 < args.length ∧ most < t2) ∨ ¬ i2 < args.length := by omega
          clear hgo ht3
          rcases hor with ⟨h2, h2'⟩ | h2
          all_goals
            repeat' (first | ((with_reducible first | refine cond_pos (by omega) ?_ | refine cond_neg (by omega) ?_ | refine guard_pos (by omega) ?_ | refine guard_neg (by omega) ?_ | refine cond_ifn ?_ ?_ | refine cond_waysn ?_ ?_ | refine guard_ifn ?_ ?_ | refine guard_waysn ?_ ?_ | refine cond_if ?_ ?_ | refine cond_ways ?_ ?_ | refine guard_if ?_ ?_ | refine guard_ways ?_ ?_) <;> intro _) | simp (maxSteps := 1000000) (disch := omega) only [go_sem, Nat.reduceAdd, Nat.reduceMul, Nat.reduceSub, Nat.reduceLeDiff, Nat.reduceEqDiff, Nat.reduceBEq, ↓reduceIte, reduceCtorEq, Int.reduceEq, Int.reduceLE, Int.reduceLT, Int.reduceAdd, Int.reduceSub, Int.reduceNeg, Int.reduceToNat, Int.reduceNe, Nat.reducePow, Nat.reduceShiftRight, Nat.reduceMod, Tm.pv, *])
            refine fin_tmp (.inr rfl) ?_
            simp (disch := omega) only [go_sem, Nat.reduceMul, Nat.reduceSub, Nat.reduceShiftRight, Nat.reduceMod, Nat.reduceEqDiff, Nat.reduceAdd, ↓reduceIte, Nat.reduceLeDiff, Tm.mass, *]
            omega
end
section
set_option maxRecDepth 20000
attribute [local go_sem] pv_len pv_take Nat.add_assoc tm_len tm_take pv_one tm_one
set_option maxHeartbeats 4000000 in
theorem tRight_p (t : Tm) (hm : t.nodes ≤ 2 ^ 40) (np bound : Int) : PPure Try.prog F.term_Right [.agg t.pv, .sc (.int .i64 np), .sc (.int .i64 bound)] (.sc (.bool (t.right np bound))) := by
  refine pure_by is_term_Right (by simp) rfl fun hb nx => ?_
  have hs := size_nodes t
  have c1 := tNodes_p t hm
  by_cases hn : t.nodes ≤ 2000
  · by_cases hbn : 0 ≤ bound
    · have c2 := (formed_parts np t.size).1 t (min bound 1125899906842624) (Nat.le_refl _) (by omega) (by omega)
      have e1 : ((min t.nodes 2001 : Nat) : Int) = t.nodes := by omega
      rw [e1] at c1
      unfold Tm.right
      clear hs e1 hm
      repeat' (first | ((with_reducible first | refine cond_pos (by omega) ?_ | refine cond_neg (by omega) ?_ | refine guard_pos (by omega) ?_ | refine guard_neg (by omega) ?_ | refine cond_ifn ?_ ?_ | refine cond_waysn ?_ ?_ | refine guard_ifn ?_ ?_ | refine guard_waysn ?_ ?_ | refine cond_if ?_ ?_ | refine cond_ways ?_ ?_ | refine guard_if ?_ ?_ | refine guard_ways ?_ ?_) <;> intro _) | (((with_reducible refine call_id ?_); (first | (refine call_pure (c1) ?_) | (refine call_pure (c2) ?_)))) | simp (maxSteps := 1000000) (disch := omega) only [go_sem, Nat.reduceAdd, Nat.reduceMul, Nat.reduceSub, Nat.reduceLeDiff, Nat.reduceEqDiff, Nat.reduceBEq, ↓reduceIte, reduceCtorEq, Int.reduceEq, Int.reduceLE, Int.reduceLT, Int.reduceAdd, Int.reduceSub, Int.reduceNeg, Int.reduceToNat, Int.reduceNe, Nat.reducePow, Nat.reduceShiftRight, Nat.reduceMod, mc_term_Right, *])
      all_goals (refine fin_tmp (.inr rfl) ?_; simp [upd, *]; try omega)
    · unfold Tm.right
      clear hs hm
      repeat' (first | ((with_reducible first | refine cond_pos (by omega) ?_ | refine cond_neg (by omega) ?_ | refine guard_pos (by omega) ?_ | refine guard_neg (by omega) ?_ | refine cond_ifn ?_ ?_ | refine cond_waysn ?_ ?_ | refine guard_ifn ?_ ?_ | refine guard_waysn ?_ ?_ | refine cond_if ?_ ?_ | refine cond_ways ?_ ?_ | refine guard_if ?_ ?_ | refine guard_ways ?_ ?_) <;> intro _) | (((with_reducible refine call_id ?_); (first | (refine call_pure (c1) ?_)))) | simp (maxSteps := 1000000) (disch := omega) only [go_sem, Nat.reduceAdd, Nat.reduceMul, Nat.reduceSub, Nat.reduceLeDiff, Nat.reduceEqDiff, Nat.reduceBEq, ↓reduceIte, reduceCtorEq, Int.reduceEq, Int.reduceLE, Int.reduceLT, Int.reduceAdd, Int.reduceSub, Int.reduceNeg, Int.reduceToNat, Int.reduceNe, Nat.reducePow, Nat.reduceShiftRight, Nat.reduceMod, mc_term_Right, *])
      all_goals (refine fin_tmp (.inr rfl) ?_; simp [upd, *]; try omega)
  · unfold Tm.right
    have e1 : ((min t.nodes 2001 : Nat) : Int) = 2001 := by omega
    rw [e1] at c1
    clear hs hm e1
    repeat' (first | ((with_reducible first | refine cond_pos (by omega) ?_ | refine cond_neg (by omega) ?_ | refine guard_pos (by omega) ?_ | refine guard_neg (by omega) ?_ | refine cond_ifn ?_ ?_ | refine cond_waysn ?_ ?_ | refine guard_ifn ?_ ?_ | refine guard_waysn ?_ ?_ | refine cond_if ?_ ?_ | refine cond_ways ?_ ?_ | refine guard_if ?_ ?_ | refine guard_ways ?_ ?_) <;> intro _) | (((with_reducible refine call_id ?_); (first | (refine call_pure (c1) ?_)))) | simp (maxSteps := 1000000) (disch := omega) only [go_sem, Nat.reduceAdd, Nat.reduceMul, Nat.reduceSub, Nat.reduceLeDiff, Nat.reduceEqDiff, Nat.reduceBEq, ↓reduceIte, reduceCtorEq, Int.reduceEq, Int.reduceLE, Int.reduceLT, Int.reduceAdd, Int.reduceSub, Int.reduceNeg, Int.reduceToNat, Int.reduceNe, Nat.reducePow, Nat.reduceShiftRight, Nat.reduceMod, mc_term_Right, *])
    all_goals (refine fin_tmp (.inr rfl) ?_; simp [upd, *]; try omega)
theorem tLoose_p (t : Tm) (hm : t.nodes ≤ 2 ^ 40) : PPure Try.prog F.term_Loose [.agg t.pv] (.sc (.int .i64 (looseT t))) := by
  refine pure_by is_term_Loose (by simp) rfl fun hb nx => ?_
  have c1 := tRight_p t hm 4 1125899906842624
  by_cases hr : t.right 4 1125899906842624 = true
  · have hf := right_formed hr
    have hs := size_nodes t
    have c2 := term_loose_p 4 t.size t _ (Nat.le_refl _) (by omega) (by omega) hf.1
    rw [hr] at c1
    clear hf hs hm
    repeat' (first | ((with_reducible first | refine cond_pos (by omega) ?_ | refine cond_neg (by omega) ?_ | refine guard_pos (by omega) ?_ | refine guard_neg (by omega) ?_ | refine cond_ifn ?_ ?_ | refine cond_waysn ?_ ?_ | refine guard_ifn ?_ ?_ | refine guard_waysn ?_ ?_ | refine cond_if ?_ ?_ | refine cond_ways ?_ ?_ | refine guard_if ?_ ?_ | refine guard_ways ?_ ?_) <;> intro _) | (((with_reducible refine call_id ?_); (first | (refine call_pure (c1) ?_) | (refine call_pure (c2) ?_)))) | simp (maxSteps := 1000000) (disch := omega) only [go_sem, Nat.reduceAdd, Nat.reduceMul, Nat.reduceSub, Nat.reduceLeDiff, Nat.reduceEqDiff, Nat.reduceBEq, ↓reduceIte, reduceCtorEq, Int.reduceEq, Int.reduceLE, Int.reduceLT, Int.reduceAdd, Int.reduceSub, Int.reduceNeg, Int.reduceToNat, Int.reduceNe, Nat.reducePow, Nat.reduceShiftRight, Nat.reduceMod, mc_term_Loose, *])
    all_goals (refine fin_tmp (.inr rfl) ?_; simp [upd, looseT, *])
  · rw [Bool.not_eq_true] at hr
    rw [hr] at c1
    repeat' (first | ((with_reducible first | refine cond_pos (by omega) ?_ | refine cond_neg (by omega) ?_ | refine guard_pos (by omega) ?_ | refine guard_neg (by omega) ?_ | refine cond_ifn ?_ ?_ | refine cond_waysn ?_ ?_ | refine guard_ifn ?_ ?_ | refine guard_waysn ?_ ?_ | refine cond_if ?_ ?_ | refine cond_ways ?_ ?_ | refine guard_if ?_ ?_ | refine guard_ways ?_ ?_) <;> intro _) | (((with_reducible refine call_id ?_); (first | (refine call_pure (c1) ?_)))) | simp (maxSteps := 1000000) (disch := omega) only [go_sem, Nat.reduceAdd, Nat.reduceMul, Nat.reduceSub, Nat.reduceLeDiff, Nat.reduceEqDiff, Nat.reduceBEq, ↓reduceIte, reduceCtorEq, Int.reduceEq, Int.reduceLE, Int.reduceLT, Int.reduceAdd, Int.reduceSub, Int.reduceNeg, Int.reduceToNat, Int.reduceNe, Nat.reducePow, Nat.reduceShiftRight, Nat.reduceMod, mc_term_Loose, *])
    all_goals (refine fin_tmp (.inr rfl) ?_; simp [upd, looseT, *])
theorem applied_p (kind n : Int) (s : ByteArray) (ls : List Lv) (args : List Tm) : PPure Try.prog F.term_applied [.ptr (Tm.mk kind n s ls args).pv] (.sc (.bool (decide (kind = 4) && decide (args.length = 2)))) := by
  refine pure_by is_term_applied (by simp) rfl fun hb nx => ?_
  have hb0 : args.length ≤ 9223372036854775807 := by simp [Tm.pv, bndL, PV.bnd] at hb; exact hb.2.1
  repeat' (first | ((with_reducible first | refine cond_pos (by omega) ?_ | refine cond_neg (by omega) ?_ | refine guard_pos (by omega) ?_ | refine guard_neg (by omega) ?_ | refine cond_ifn ?_ ?_ | refine cond_waysn ?_ ?_ | refine guard_ifn ?_ ?_ | refine guard_waysn ?_ ?_ | refine cond_if ?_ ?_ | refine cond_ways ?_ ?_ | refine guard_if ?_ ?_ | refine guard_ways ?_ ?_) <;> intro _) | simp (maxSteps := 1000000) (disch := omega) only [go_sem, Nat.reduceAdd, Nat.reduceMul, Nat.reduceSub, Nat.reduceLeDiff, Nat.reduceEqDiff, Nat.reduceBEq, ↓reduceIte, reduceCtorEq, Int.reduceEq, Int.reduceLE, Int.reduceLT, Int.reduceAdd, Int.reduceSub, Int.reduceNeg, Int.reduceToNat, Int.reduceNe, Nat.reducePow, Nat.reduceShiftRight, Nat.reduceMod, mc_term_applied, Tm.pv, *])
  all_goals (refine fin_tmp (.inr rfl) ?_; simp [upd, *] <;> omega)
theorem u_p : PPure Try.prog F.law04_u [] (.agg (Lv.mk 2 0 []).pv) := by
  refine pure_by is_law04_u (by simp) (by simp [PV.imm, pv_imm]) fun hb nx => ?_
  repeat' (first | ((with_reducible first | refine cond_pos (by omega) ?_ | refine cond_neg (by omega) ?_ | refine guard_pos (by omega) ?_ | refine guard_neg (by omega) ?_ | refine cond_ifn ?_ ?_ | refine cond_waysn ?_ ?_ | refine guard_ifn ?_ ?_ | refine guard_waysn ?_ ?_ | refine cond_if ?_ ?_ | refine cond_ways ?_ ?_ | refine guard_if ?_ ?_ | refine guard_ways ?_ ?_) <;> intro _) | simp (maxSteps := 1000000) (disch := omega) only [go_sem, Nat.reduceAdd, Nat.reduceMul, Nat.reduceSub, Nat.reduceLeDiff, Nat.reduceEqDiff, Nat.reduceBEq, ↓reduceIte, reduceCtorEq, Int.reduceEq, Int.reduceLE, Int.reduceLT, Int.reduceAdd, Int.reduceSub, Int.reduceNeg, Int.reduceToNat, Int.reduceNe, Nat.reducePow, Nat.reduceShiftRight, Nat.reduceMod, mc_law04_u, *])
  refine fin_ret (r0 := .agg [.sc (.int .i64 2), .sc (.int .i64 0), .sc (.slice none 0 0)]) 0 (by (simp (disch := omega) only [go_sem, Nat.reduceMul, Nat.reduceSub, Nat.reduceShiftRight, Nat.reduceMod, Nat.reduceEqDiff, Nat.reduceAdd, ↓reduceIte, Nat.reduceLeDiff, *]); all_goals rfl) ?_
  rw [Lv.pv]
  exact Weak.agg (xs := [.sc (.int .i64 2), .sc (.int .i64 0), .sc (.slice none 0 0)]) (ys := [.sc (.int .i64 2), .sc (.int .i64 0), .sl 3 []]) ⟨.refl _, .refl _, .nil 3, trivial⟩
theorem zero_p : PPure Try.prog F.law04_zero [] (.agg (Lv.mk 1 0 []).pv) := by
  refine pure_by is_law04_zero (by simp) (by simp [PV.imm, pv_imm]) fun hb nx => ?_
  repeat' (first | ((with_reducible first | refine cond_pos (by omega) ?_ | refine cond_neg (by omega) ?_ | refine guard_pos (by omega) ?_ | refine guard_neg (by omega) ?_ | refine cond_ifn ?_ ?_ | refine cond_waysn ?_ ?_ | refine guard_ifn ?_ ?_ | refine guard_waysn ?_ ?_ | refine cond_if ?_ ?_ | refine cond_ways ?_ ?_ | refine guard_if ?_ ?_ | refine guard_ways ?_ ?_) <;> intro _) | simp (maxSteps := 1000000) (disch := omega) only [go_sem, Nat.reduceAdd, Nat.reduceMul, Nat.reduceSub, Nat.reduceLeDiff, Nat.reduceEqDiff, Nat.reduceBEq, ↓reduceIte, reduceCtorEq, Int.reduceEq, Int.reduceLE, Int.reduceLT, Int.reduceAdd, Int.reduceSub, Int.reduceNeg, Int.reduceToNat, Int.reduceNe, Nat.reducePow, Nat.reduceShiftRight, Nat.reduceMod, mc_law04_zero, *])
  refine fin_ret (r0 := .agg [.sc (.int .i64 1), .sc (.int .i64 0), .sc (.slice none 0 0)]) 0 (by (simp (disch := omega) only [go_sem, Nat.reduceMul, Nat.reduceSub, Nat.reduceShiftRight, Nat.reduceMod, Nat.reduceEqDiff, Nat.reduceAdd, ↓reduceIte, Nat.reduceLeDiff, *]); all_goals rfl) ?_
  rw [Lv.pv]
  exact Weak.agg (xs := [.sc (.int .i64 1), .sc (.int .i64 0), .sc (.slice none 0 0)]) (ys := [.sc (.int .i64 1), .sc (.int .i64 0), .sl 3 []]) ⟨.refl _, .refl _, .nil 3, trivial⟩
theorem tSame_p (a b : Tm) (f g : Bool) (hfg : (f || g) = true) : PPure Try.prog F.term_Same [.agg (a.pvB f), .agg (b.pvB g)] (.sc (.bool (a.same b))) := by
  refine pure_by is_term_Same (by simp) rfl fun hb nx => ?_
  repeat' (first | ((with_reducible first | refine cond_pos (by omega) ?_ | refine cond_neg (by omega) ?_ | refine guard_pos (by omega) ?_ | refine guard_neg (by omega) ?_ | refine cond_ifn ?_ ?_ | refine cond_waysn ?_ ?_ | refine guard_ifn ?_ ?_ | refine guard_waysn ?_ ?_ | refine cond_if ?_ ?_ | refine cond_ways ?_ ?_ | refine guard_if ?_ ?_ | refine guard_ways ?_ ?_) <;> intro _) | (((with_reducible refine call_id ?_); (first | (refine call_pure (term_same_p f g hfg a.size a b (Nat.le_refl _)) ?_)))) | simp (maxSteps := 1000000) (disch := omega) only [go_sem, Nat.reduceAdd, Nat.reduceMul, Nat.reduceSub, Nat.reduceLeDiff, Nat.reduceEqDiff, Nat.reduceBEq, ↓reduceIte, reduceCtorEq, Int.reduceEq, Int.reduceLE, Int.reduceLT, Int.reduceAdd, Int.reduceSub, Int.reduceNeg, Int.reduceToNat, Int.reduceNe, Nat.reducePow, Nat.reduceShiftRight, Nat.reduceMod, mc_term_Same, *])
  all_goals (refine fin_tmp (.inr rfl) ?_; simp [upd])
theorem Great_p (t : Tm) (hf : t.fits) : PPure Try.prog F.law04_Great [.agg t.pv] (.sc (.bool (decide (2500 < t.mass)))) := by
  refine pure_by is_law04_Great (by simp) rfl fun hb nx => ?_
  have c1 := Mass_p 2500 (by omega) t.size t (Nat.le_refl _) hf
  repeat' (first | ((with_reducible first | refine cond_pos (by omega) ?_ | refine cond_neg (by omega) ?_ | refine guard_pos (by omega) ?_ | refine guard_neg (by omega) ?_ | refine cond_ifn ?_ ?_ | refine cond_waysn ?_ ?_ | refine guard_ifn ?_ ?_ | refine guard_waysn ?_ ?_ | refine cond_if ?_ ?_ | refine cond_ways ?_ ?_ | refine guard_if ?_ ?_ | refine guard_ways ?_ ?_) <;> intro _) | (((with_reducible refine call_id ?_); (first | (refine call_pure (c1) ?_)))) | simp (maxSteps := 1000000) (disch := omega) only [go_sem, Nat.reduceAdd, Nat.reduceMul, Nat.reduceSub, Nat.reduceLeDiff, Nat.reduceEqDiff, Nat.reduceBEq, ↓reduceIte, reduceCtorEq, Int.reduceEq, Int.reduceLE, Int.reduceLT, Int.reduceAdd, Int.reduceSub, Int.reduceNeg, Int.reduceToNat, Int.reduceNe, Nat.reducePow, Nat.reduceShiftRight, Nat.reduceMod, mc_law04_Great, *])
  all_goals (refine fin_tmp (.inr rfl) ?_; simp [upd, *] <;> omega)
end
section
set_option maxRecDepth 20000
attribute [local go_sem] pv_len pv_take Nat.add_assoc tm_len tm_take pv_one tm_one tpvB_len tpvB_take tpvB_one pvB_len pvB_take pvB_one id_ne id_ne' id_ne2 List.append_assoc
theorem frgF_sc (G : Nat → Bool) (k : Nat) (H : Nat → Option PObj) (v : Value) : frgF G k H (.sc v) = .sc v := by cases k <;> rfl
theorem frgF_imm (G : Nat → Bool) (H : Nat → Option PObj) : ∀ (k : Nat) (x : PV), x.imm = true → frgF G k H x = x := by
  intro k
  induction k with
  | zero => intro x _; rfl
  | succ k ih =>
    have hl : ∀ xs : List PV, immL xs = true → xs.map (frgF G k H) = xs := by
      intro xs
      induction xs with
      | nil => intro _; rfl
      | cons x r ihr =>
        intro h
        simp only [immL, Bool.and_eq_true] at h
        rw [List.map_cons, ih x h.1, ihr h.2]
    intro x hx
    cases x with
    | agg xs => simp only [PV.imm] at hx; simp only [frgF, hl xs hx]
    | tup xs => simp only [PV.imm] at hx; simp only [frgF, hl xs hx]
    | fn f xs => simp only [PV.imm] at hx; simp only [frgF, hl xs hx]
    | optr id off => simp [PV.imm] at hx
    | osl id off len sz => simp [PV.imm] at hx
    | _ => rfl
theorem frgF_immL (G : Nat → Bool) (H : Nat → Option PObj) (k : Nat) : ∀ xs : List PV, immL xs = true → xs.map (frgF G k H) = xs
  | [], _ => rfl
  | x :: r, h => by
    simp only [immL, Bool.and_eq_true] at h
    rw [List.map_cons, frgF_imm G H k x h.1, frgF_immL G H k r h.2]
mutual
theorem OwnT.frg {H : Nat → Option PObj} {G : Nat → Bool} : ∀ (t : Tm) (lo m : Nat) (cs : List PV), OwnT H lo m cs t → (∀ j, lo ≤ j → j < m → G j = true) → ∀ k, t.size ≤ k → WeakL (cs.map (frgF G k H)) (t.pvB true)
  | .mk kind n s ls args, lo, m, cs, h, hG, k, hk => by
    simp only [OwnT] at h
    obtain ⟨a, b, rfl, ha, hb⟩ := h
    simp only [Tm.size] at hk
    obtain ⟨k, rfl⟩ : ∃ k', k = k' + 1 := ⟨k - 1, by omega⟩
    rw [Tm.pvB]
    simp only [List.map_cons, List.map_nil]
    refine ⟨.of_eq (frgF_sc _ _ _ _), .of_eq (frgF_sc _ _ _ _), .of_eq (frgF_sc _ _ _ _), ?_, ?_, trivial⟩
    · rcases ha with ⟨rfl, rfl⟩ | rfl
      · exact .trans (.of_eq (frgF_sc _ _ _ _)) (Weak.nilF 3)
      · exact .refl _
    · rcases hb with ⟨rfl, rfl⟩ | ⟨id, cells, w, h1, h2, rfl, h4, h5⟩
      · exact .trans (.of_eq (frgF_sc _ _ _ _)) (Weak.nilF 5)
      · have hl := OwnTs.len args cells h5
        have hw := OwnTs.frg args (id + 1) m cells h5 (fun j a b => hG j (by omega) b) k (by omega)
        simp only [frgF, hG id h1 h2, if_true, h4, List.drop_zero]
        rw [if_pos (by omega), List.take_of_length_le (by omega)]
        refine Weak.fslW (by rw [chunks_length, List.length_map]) (fun e he => ?_) ?_
        · obtain ⟨t, _, rfl⟩ := List.mem_map.1 he
          exact tpvB_len true t
        · rw [chunks_flatten 5 args.length _ (by rw [List.length_map, hl])]
          exact hw
theorem OwnTs.frg {H : Nat → Option PObj} {G : Nat → Bool} : ∀ (ts : List Tm) (lo m : Nat) (cs : List PV), OwnTs H lo m cs ts → (∀ j, lo ≤ j → j < m → G j = true) → ∀ k, sizeL ts ≤ k → WeakL (cs.map (frgF G k H)) (ts.map (Tm.pvB true)).flatten
  | [], _, _, cs, h, _, _, _ => by
    simp only [OwnTs] at h
    subst h
    trivial
  | t :: r, lo, m, cs, h, hG, k, hk => by
    simp only [OwnTs] at h
    obtain ⟨c, cr, mid, rfl, g1, g2, h1, h2⟩ := h
    simp only [sizeL] at hk
    simp only [List.map_append, List.map_cons, List.flatten_cons]
    exact (OwnT.frg t lo mid c h1 (fun j a b => hG j a (by omega)) k (by omega)).append (OwnTs.frg r mid m cr h2 (fun j a b => hG j (by omega) b) k (by omega))
end
theorem OwnW.frg {H : Nat → Option PObj} {G : Nat → Bool} {lo m : Nat} (hG : ∀ j, lo ≤ j → j < m → G j = true) : ∀ (ts : List Tm) (cs : List PV), OwnW H lo m cs ts → ∀ k, sizeL ts ≤ k → WeakL (cs.map (frgF G k H)) (ts.map (Tm.pvB true)).flatten
  | [], cs, h, _, _ => by cases h; trivial
  | t :: r, cs, ⟨c, cr, e, h1, h2⟩, k, hk => by
    subst e
    simp only [sizeL] at hk
    simp only [List.map_append, List.map_cons, List.flatten_cons]
    exact (OwnT.frg t _ _ c h1 hG k (by omega)).append (OwnW.frg hG r cr h2 k (by omega))
theorem WeakL.trans : ∀ {xs ys zs : List PV}, WeakL xs ys → WeakL ys zs → WeakL xs zs
  | [], [], [], _, _ => trivial
  | _ :: _, _ :: _, _ :: _, h, k => ⟨h.1.trans k.1, WeakL.trans h.2 k.2⟩
  | [], _ :: _, _, h, _ => h.elim
  | _ :: _, [], _, h, _ => h.elim
  | [], [], _ :: _, _, k => k.elim
  | _ :: _, _ :: _, [], _, k => k.elim
theorem isIt_len {o : PObj} (h : o.cells.length ≠ 1) : o.isIt = false := by
  unfold PObj.isIt
  split
  · rename_i e; rw [e] at h; simp at h
  · rfl
theorem tell_term {P : Program} {f : FuncId} {args : List PV} {H : Nat → Option PObj} {nx : Nat} {Q : (Nat → Option PObj) → Nat → PV → Prop} (kp : Nat → Bool) (t : Tm) (id : Nat) (h : PMut P f args H nx Q)
    (hq : ∀ H' nx' r, Q H' nx' r → r.imm = true ∧ ∃ lo m cs, H' id = some ⟨cs, true⟩ ∧ OwnT H' lo m cs t ∧ (id < lo ∨ m ≤ id) ∧ (∀ j, kp j = true → j ≠ id ∧ (j < lo ∨ m ≤ j)) ∧ ∀ j o, kp j = true → H' j = some o → o.isIt = false ∧ immL o.cells = true) :
    PMut P f args H nx (fun H' nx' r => ∃ H'', Q H'' nx' r ∧ H' id = some ⟨t.pv, true⟩ ∧ ∀ j, kp j = true → H' j = H'' j) := by
  refine PMut.become h fun H' nx' r hQ => ?_
  obtain ⟨hr, lo, m, cs, h1, h2, h3, h4, h5⟩ := hq H' nx' r hQ
  have hl := h2.len
  refine ⟨fun j => decide (lo ≤ j) && decide (j < m), t.size, fun j => if j = id then some ⟨t.pv, true⟩ else if kp j = true then H' j else none, r, fun j o2 hj => ?_, .of_eq (frgF_imm _ _ _ _ hr), H', hQ, by simp, fun j hj => by simp [(h4 j hj).1, hj]⟩
  by_cases he : j = id
  · subst he
    simp only [if_true, Option.some.injEq] at hj
    subst hj
    have hg : (decide (lo ≤ j) && decide (j < m)) = false := by
      rcases h3 with h | h
      · simp [show ¬ lo ≤ j by omega]
      · simp [show ¬ j < m by omega]
    refine ⟨⟨cs.map (frgF (fun j => decide (lo ≤ j) && decide (j < m)) t.size H'), true⟩, by simp [lessC, hg, h1], isIt_len (by simp [hl]), rfl, ?_⟩
    exact (h2.frg _ _ _ _ (fun j a b => by simp [a, b]) _ (Nat.le_refl _)).trans (tm_weak true t)
  · simp only [he, if_false] at hj
    split at hj
    · rename_i hk
      obtain ⟨h6, h7⟩ := h4 j hk
      obtain ⟨h8, h9⟩ := h5 j o2 hk hj
      have hg : (decide (lo ≤ j) && decide (j < m)) = false := by
        rcases h7 with h | h
        · simp [show ¬ lo ≤ j by omega]
        · simp [show ¬ j < m by omega]
      refine ⟨o2, ?_, h8, rfl, .refl _⟩
      simp only [lessC, hg, Bool.false_eq_true, if_false, hj, Option.map_some, frgF_immL _ _ _ _ h9]
    · cases hj
set_option maxHeartbeats 2000000 in
theorem raise_told (np by_ : Int) (hby : 0 ≤ by_ ∧ by_ ≤ 2 ^ 50) (t : Tm) (k frm : Int) (hm : t.nodes ≤ 2 ^ 40) (hk0 : 0 ≤ k) (hk1 : k + t.size ≤ 2 ^ 60) (hf : t.formed np k = true) (h0 : 0 ≤ frm) (h1 : frm + t.size ≤ 2 ^ 60)
    (kp : Nat → Bool) (H : Nat → Option PObj) (nx id lo m : Nat) (cs : List PV) (hH : H id = some ⟨cs, true⟩) (hid : id < nx) (hout : id < lo ∨ m ≤ id) (hlm : lo ≤ m) (hmn : m ≤ nx) (ho : OwnT H lo m cs t)
    (hkp : ∀ j, kp j = true → j < nx ∧ j ≠ id ∧ (j < lo ∨ m ≤ j) ∧ ∀ o, H j = some o → o.isIt = false ∧ immL o.cells = true) :
    PMut Try.prog F.term_raise [.optr id 0, .sc (.int .i64 by_), .sc (.int .i64 frm)] H nx (fun H' nx' r => nx ≤ nx' ∧ H' id = some ⟨(t.lift by_ frm).pv, true⟩ ∧ ∀ j, kp j = true → H' j = H j) := by
  have hr := raise_p np by_ hby t.size t k frm (Nat.le_refl _) hm hk0 hk1 hf h0 h1 H nx id 0 [] cs [] true lo m (by simpa using hH) hid hout hlm hmn rfl ho
  refine PMut.mono (tell_term kp (t.lift by_ frm) id (Q := fun H' nx' r => r = .tup [] ∧ nx ≤ nx' ∧ ∃ cs', H' id = some ⟨cs', true⟩ ∧ OwnT H' lo m cs' (t.lift by_ frm) ∧ ∀ j, j ≠ id → (j < lo ∨ m ≤ j) → j < nx → H' j = H j) ?_ ?_) ?_
  · simpa using hr
  · rintro H' nx' r ⟨rfl, g1, cs', g2, g3, g4⟩
    refine ⟨rfl, lo, m, cs', g2, g3, hout, fun j hj => ⟨(hkp j hj).2.1, (hkp j hj).2.2.1⟩, fun j o hj ho => ?_⟩
    have := hkp j hj
    exact this.2.2.2 o ((g4 j this.2.1 this.2.2.1 this.1).symm.trans ho)
  · rintro H' nx' r ⟨H'', ⟨_, g1, cs', g2, g3, g4⟩, g5, g6⟩
    refine ⟨g1, g5, fun j hj => (g6 j hj).trans ?_⟩
    have := hkp j hj
    exact g4 j this.2.1 this.2.2.1 this.1
end
section
set_option maxRecDepth 20000
attribute [local go_sem] pv_len pv_take Nat.add_assoc tm_len tm_take pv_one tm_one tpvB_len tpvB_take tpvB_one pvB_len pvB_take pvB_one id_ne id_ne' id_ne2 List.append_assoc
theorem RowAt.one {H : Nat → Option PObj} {lo m sz : Nat} {a : PV} {cells : List PV} {n : Nat} (h : RowAt H lo m sz a cells n) : PV.one a = true := by
  rcases h with ⟨_, rfl⟩ | ⟨_, _, _, rfl, _⟩ <;> rfl
set_option maxHeartbeats 8000000 in
theorem Lift_p (np by_ : Int) (hby : 0 ≤ by_ ∧ by_ ≤ 2 ^ 50) : ∀ (fuel : Nat) (t : Tm) (k frm : Int), t.size ≤ fuel → t.nodes ≤ 2 ^ 40 → 0 ≤ k → k + t.size ≤ 2 ^ 60 → t.formed np k = true → 0 ≤ frm → frm + t.size ≤ 2 ^ 60 →
    PPure Try.prog F.ref04_Lift [.agg t.pv, .sc (.int .i64 by_), .sc (.int .i64 frm)] (.agg (t.lift by_ frm).pv) := by
  intro fuel
  induction fuel with
  | zero => intro t k frm h; have := size_pos t; omega
  | succ fuel ih =>
    intro t k frm hf hm hk0 hk1 hfm hfr0 hfr1
    cases t with
    | mk kind n s ls args =>
    have hCT := fun H nx => CopyTerm_m kind n s ls args hm H nx
    simp only [Tm.size] at hf hk1 hfr1
    simp only [Tm.nodes] at hm
    have hA := Kept.mk (formed_args np k kind n s ls args hfm)
    have hc := formed_cases np k kind n s ls args hfm
    have hdp : Kept (∀ i : Nat, i < args.length → deepB kind args.length i = if ((kind = 5 ∨ kind = 6) ∧ (i : Int) = 1) ∨ (kind = 7 ∧ (i : Int) = 2) then 1 else 0) := .mk fun i hi => by
      unfold deepB
      rcases hc with h | h | h | h
      · rw [h.2.2.2] at hi; simp at hi
      · rw [h.2] at hi; simp at hi
      · split <;> split <;> omega
      · split <;> split <;> omega
    have hn : kind = 1 → 0 ≤ n ∧ n < k ∧ args = [] := fun e => by
      rcases hc with h | h | h | h
      · exact ⟨h.2.1, h.2.2.1, h.2.2.2⟩
      · omega
      · omega
      · omega
    clear hc
    refine pure_by is_ref04_Lift (by simp) (by simp [PV.imm, tm_imm]) fun hb nx => ?_
    have hb0 : ls.length ≤ 9223372036854775807 ∧ args.length ≤ 9223372036854775807 := by simp [Tm.pv, bndL, PV.bnd] at hb; exact ⟨hb.1.1, hb.2.1⟩
    rw [Tm.pv] at hCT
    repeat' (first | ((with_reducible first | refine cond_pos (by omega) ?_ | refine cond_neg (by omega) ?_ | refine guard_pos (by omega) ?_ | refine guard_neg (by omega) ?_ | refine cond_ifn ?_ ?_ | refine cond_waysn ?_ ?_ | refine guard_ifn ?_ ?_ | refine guard_waysn ?_ ?_ | refine cond_if ?_ ?_ | refine cond_ways ?_ ?_ | refine guard_if ?_ ?_ | refine guard_ways ?_ ?_) <;> intro _) | simp (maxSteps := 1000000) (disch := omega) only [go_sem, Nat.reduceAdd, Nat.reduceMul, Nat.reduceSub, Nat.reduceLeDiff, Nat.reduceEqDiff, Nat.reduceBEq, ↓reduceIte, reduceCtorEq, Int.reduceEq, Int.reduceLE, Int.reduceLT, Int.reduceAdd, Int.reduceSub, Int.reduceNeg, Int.reduceToNat, Int.reduceNe, Nat.reducePow, Nat.reduceShiftRight, Nat.reduceMod, mc_ref04_Lift, Tm.pv, *])
    refine call_mut (hCT _ _) ?_
    rintro H' nx' r' ⟨hn1, a, b, mid, rfl, hra, hrb, hm1, hm2, hk⟩ -
    have hsa : a = .sc (.slice none 0 0) ∨ ∃ id1, a = .osl id1 0 ls.length 3 := by
      rcases hra with ⟨_, h⟩ | ⟨id1, _, _, h, _⟩
      · exact .inl h
      · exact .inr ⟨id1, h⟩
    have hsb : b = .sc (.slice none 0 0) ∨ ∃ id2, b = .osl id2 0 args.length 5 := by
      rcases hrb with ⟨_, h⟩ | ⟨id2, _, _, h, _⟩
      · exact .inl h
      · exact .inr ⟨id2, h⟩
    obtain ⟨a0, ha0⟩ : ∃ a0, a0 = a := ⟨_, rfl⟩
    obtain ⟨b0, hb0'⟩ : ∃ b0, b0 = b := ⟨_, rfl⟩
    rw [← ha0] at hra
    rw [← hb0'] at hrb
    have hrak : Kept (RowAt H' (nx + 6) mid 3 a0 (ls.flatMap (Lv.pvB true)) ls.length) := Kept.mk hra
    have hrbk : Kept (RowAt H' mid nx' 5 b0 (args.flatMap (Tm.pvB true)) args.length) := Kept.mk hrb
    have hz1 : H' (nx + 1) = some ⟨[.sc (.int .i64 0), .sc (.int .i64 0), .sc (.string ⟨#[]⟩), .sc (.slice none 0 0), .sc (.slice none 0 0)], true⟩ := (hk (nx + 1) (by show nx + 1 < nx + 6; omega)).trans (by simp [upd])
    have hm1' : nx + 6 ≤ mid := hm1
    have ihk := Kept.mk ih
    clear hra hrb hk ih hn1 hm1
    have hn' : ∃ n', n' = (if kind = 1 ∧ frm ≤ n then n + by_ else n) := ⟨_, rfl⟩
    obtain ⟨n', hn'⟩ := hn'
    have hnk := Kept.mk hn'
    have hbd : -9223372036854775808 ≤ n + by_ ∧ n + by_ ≤ 9223372036854775807 ∨ kind ≠ 1 := by
      by_cases e : kind = 1
      · have := hn e; omega
      · exact .inr e
    have hpath : ((1 ≤ kind ∧ kind ≤ 1) ∧ frm ≤ n ∧ n' = n + by_ ∧ -9223372036854775808 ≤ n' ∧ n' ≤ 9223372036854775807) ∨ ((1 ≤ kind ∧ kind ≤ 1) ∧ ¬ frm ≤ n ∧ n' = n) ∨ (kind ≠ 1 ∧ n' = n) := by
      by_cases e : kind = 1
      · by_cases e2 : frm ≤ n
        · rw [if_pos ⟨e, e2⟩] at hn'; exact .inl ⟨by omega, e2, hn', by omega, by omega⟩
        · rw [if_neg (fun h => e2 h.2)] at hn'; exact .inr (.inl ⟨by omega, e2, hn'⟩)
      · rw [if_neg (fun h => e h.1)] at hn'; exact .inr (.inr ⟨e, hn'⟩)
    have hn0 : Kept (kind = 1 → args.length = 0) := Kept.mk fun e => by rw [(hn e).2.2]; rfl
    clear hn' hbd hn
    rcases hsa with rfl | ⟨id1, rfl⟩ <;> rcases hsb with rfl | ⟨id2, rfl⟩ <;> rcases hpath with ⟨e1, e2, e3, e4, e5⟩ | ⟨e1, e2, e3⟩ | ⟨e1, e3⟩
    all_goals
      have e6 : Kept (n' = n') := Kept.mk rfl
      first
        | (have e7 : n + by_ = n' := e3.symm
           have e9 : True := trivial
           have e8 := e4
           clear e3)
        | (have e7 : n ≤ n' ∧ n' ≤ n := ⟨by omega, by omega⟩
           clear e3)
      repeat' (first | ((with_reducible first | refine cond_pos (by omega) ?_ | refine cond_neg (by omega) ?_ | refine guard_pos (by omega) ?_ | refine guard_neg (by omega) ?_ | refine cond_ifn ?_ ?_ | refine cond_waysn ?_ ?_ | refine guard_ifn ?_ ?_ | refine guard_waysn ?_ ?_ | refine cond_if ?_ ?_ | refine cond_ways ?_ ?_ | refine guard_if ?_ ?_ | refine guard_ways ?_ ?_) <;> intro _) | simp (maxSteps := 1000000) (disch := omega) only [go_sem, Nat.reduceAdd, Nat.reduceMul, Nat.reduceSub, Nat.reduceLeDiff, Nat.reduceEqDiff, Nat.reduceBEq, ↓reduceIte, reduceCtorEq, Int.reduceEq, Int.reduceLE, Int.reduceLT, Int.reduceAdd, Int.reduceSub, Int.reduceNeg, Int.reduceToNat, Int.reduceNe, Nat.reducePow, Nat.reduceShiftRight, Nat.reduceMod, Tm.pv, *])
    all_goals
      refine c_loopW 4503599560262400 (by kernel_rfl) (fun j f H2 m2 => ∃ i : Nat, j = args.length - i ∧ i ≤ args.length ∧ f 8 = .sc (.int .i64 i) ∧ nx' ≤ m2 ∧ H2 (nx + 1) = some ⟨[.sc (.int .i64 0), .sc (.int .i64 0), .sc (.string ⟨#[]⟩), .sc (.slice none 0 0), .sc (.slice none 0 0)], true⟩ ∧ H2 (nx + 4) = some ⟨[.sc (.int .i64 kind), .sc (.int .i64 n'), .sc (.string s), a0, b0], true⟩ ∧
        Kept (RowAt H2 (nx + 6) mid 3 a0 (ls.flatMap (Lv.pvB true)) ls.length) ∧ Kept (RowAt H2 mid nx' 5 b0 (((liftA by_ frm kind args.length 0 args).take i).flatMap Tm.pv ++ (args.drop i).flatMap (Tm.pvB true)) args.length)) _ ⟨0, rfl, (by first | assumption | omega | rfl | (simp (disch := omega) only [go_sem, Nat.reduceMul, Nat.reduceSub, Nat.reduceShiftRight, Nat.reduceMod, Nat.reduceEqDiff, Nat.reduceAdd, ↓reduceIte, Nat.reduceLeDiff, *] <;> omega)), (by first | assumption | omega | rfl | (simp (disch := omega) only [go_sem, Nat.reduceMul, Nat.reduceSub, Nat.reduceShiftRight, Nat.reduceMod, Nat.reduceEqDiff, Nat.reduceAdd, ↓reduceIte, Nat.reduceLeDiff, *] <;> omega)), ?mm, ?g1, ?g2, ?g3, ?g4⟩ ?_
      case mm => first | exact Nat.le_refl _ | exact Nat.le_add_right _ _ | omega
      case g1 => simp [upd, hz1]
      case g2 => first | (simp [upd, *]; done) | (simp [upd, *]; omega)
      case g3 => exact Kept.mk (hrak.out.low (Nat.le_refl _) (Nat.le_refl _) fun id h1 h2 => by simp [upd, show id ≠ nx + 4 by omega])
      case g4 => exact Kept.mk (by simpa using hrbk.out.low (Nat.le_refl _) (Nat.le_refl _) fun id h1 h2 => by simp [upd, show id ≠ nx + 4 by omega])
      clear hz1 hrak hrbk hCT
      rintro _ f H2 m2 ⟨i, rfl, hi, e8', hm2', g1, g2, g3, g4⟩
      have hlen := liftA_len by_ frm kind args.length args 0
      by_cases hlt : i < args.length
      · rcases g4.out with ⟨h0, _⟩ | ⟨idb, x1, x2, x3, x4⟩
        · omega
        rw [hb0'] at x3
        first
          | (cases x3; done)
          | exact absurd (hn0.out (by omega)) (by omega)
          | (cases x3
             have eg : args[i]? = some args[i] := List.getElem?_eq_getElem hlt
             have hnn := nodesT_mem args i hlt
             have hs := sizeL_mem args i hlt
             have hd := deep_bd kind args.length i
             have hfi := formedA_mem np k kind args.length args 0 i hlt hA.out
             rw [Nat.zero_add] at hfi
             have hc3 := ihk.out args[i] (k + deepB kind args.length i) (frm + deepB kind args.length i) (by omega) (by omega) (by omega) (by omega) hfi (by omega) (by omega)
             have hc1 := binds_p kind i (by omega)
             have hdi := hdp.out i hlt
             have hgl := liftA_at by_ frm kind args.length args 0 i
             rw [eg, Nat.zero_add, Option.map_some] at hgl
             have hli : i < (liftA by_ frm kind args.length 0 args).length := by omega
             have hgi : (liftA by_ frm kind args.length 0 args)[i] = args[i].lift by_ (frm + deepB kind args.length i) := by
               rw [List.getElem?_eq_getElem hli] at hgl
               exact Option.some.inj hgl
             have hpl : (((liftA by_ frm kind args.length 0 args).take i).flatMap Tm.pv).length = i * 5 := by rw [flat_lenG _ 5 tm_len, List.length_take, Nat.min_eq_left (by omega)]
             have hq : (args.drop i).flatMap (Tm.pvB true) = args[i].pvB true ++ (args.drop (i + 1)).flatMap (Tm.pvB true) := by rw [List.drop_eq_getElem_cons hlt]; rfl
             have hql : ((args.drop (i + 1)).flatMap (Tm.pvB true)).length = (args.length - (i + 1)) * 5 := by rw [flat_lenG _ 5 (tpvB_len true), List.length_drop]
             have hnx : ((liftA by_ frm kind args.length 0 args).take (i + 1)).flatMap Tm.pv = ((liftA by_ frm kind args.length 0 args).take i).flatMap Tm.pv ++ (args[i].lift by_ (frm + deepB kind args.length i)).pv := by rw [List.take_succ_eq_append_getElem hli, hgi]; simp
             rw [hq] at x4
             obtain ⟨P, hP⟩ : ∃ P, P = ((liftA by_ frm kind args.length 0 args).take i).flatMap Tm.pv := ⟨_, rfl⟩
             obtain ⟨R, hR⟩ : ∃ R, R = (args.drop (i + 1)).flatMap (Tm.pvB true) := ⟨_, rfl⟩
             rw [← hP] at hpl x4 hnx
             rw [← hR] at hql x4
             have hcells : P ++ ((args[i].lift by_ (frm + deepB kind args.length i)).pv ++ R) = ((liftA by_ frm kind args.length 0 args).take (i + 1)).flatMap Tm.pv ++ (args.drop (i + 1)).flatMap (Tm.pvB true) := by rw [hnx, ← hR, List.append_assoc]
             have atP : ∀ x, List.take (i * 5) (P ++ x) = P := fun x => List.take_left' hpl
             have atD : ∀ x, List.drop (i * 5 + 5) (P ++ (args[i].pvB true ++ x)) = x := fun x => (at_drop P _ (i * 5) 5 hpl).trans (List.drop_left' (tpvB_len true _))
             have hfit : i * 5 + 5 ≤ P.length + (5 + R.length) := by omega
             have hfit2 : i * 5 + 5 ≤ i * 5 + (5 + (args.length - (i + 1)) * 5) := by omega
             clear hnx hq hP hR hgi hgl hfi g4 hA hdp ihk hlen hli hk0 hk1 hnn hs hf
             by_cases hbd : ((kind = 5 ∨ kind = 6) ∧ (i : Int) = 1) ∨ (kind = 7 ∧ (i : Int) = 2)
             · rw [if_pos hbd] at hdi
               rw [hdi] at hc3 hcells
               rw [decide_eq_true hbd] at hc1
               clear hbd hd hdi
               have hcells := Kept.mk hcells
               repeat' (first | ((with_reducible first | refine cond_pos (by omega) ?_ | refine cond_neg (by omega) ?_ | refine guard_pos (by omega) ?_ | refine guard_neg (by omega) ?_ | refine cond_ifn ?_ ?_ | refine cond_waysn ?_ ?_ | refine guard_ifn ?_ ?_ | refine guard_waysn ?_ ?_ | refine cond_if ?_ ?_ | refine cond_ways ?_ ?_ | refine guard_if ?_ ?_ | refine guard_ways ?_ ?_) <;> intro _) | (((with_reducible refine call_id ?_); (first | (refine call_pure (hc1) ?_) | (refine call_pure (hc3) ?_)))) | simp (maxSteps := 1000000) (disch := omega) only [go_sem, Nat.reduceAdd, Nat.reduceMul, Nat.reduceSub, Nat.reduceLeDiff, Nat.reduceEqDiff, Nat.reduceBEq, ↓reduceIte, reduceCtorEq, Int.reduceEq, Int.reduceLE, Int.reduceLT, Int.reduceAdd, Int.reduceSub, Int.reduceNeg, Int.reduceToNat, Int.reduceNe, Nat.reducePow, Nat.reduceShiftRight, Nat.reduceMod, Tm.pv, atP, atD, *])
               refine Nx.mk (args.length - (i + 1)) (by first | assumption | omega | rfl | (simp (disch := omega) only [go_sem, Nat.reduceMul, Nat.reduceSub, Nat.reduceShiftRight, Nat.reduceMod, Nat.reduceEqDiff, Nat.reduceAdd, ↓reduceIte, Nat.reduceLeDiff, *] <;> omega)) ⟨i + 1, rfl, (by first | assumption | omega | rfl | (simp (disch := omega) only [go_sem, Nat.reduceMul, Nat.reduceSub, Nat.reduceShiftRight, Nat.reduceMod, Nat.reduceEqDiff, Nat.reduceAdd, ↓reduceIte, Nat.reduceLeDiff, *] <;> omega)), (by first | assumption | omega | rfl | (simp (disch := omega) only [go_sem, Nat.reduceMul, Nat.reduceSub, Nat.reduceShiftRight, Nat.reduceMod, Nat.reduceEqDiff, Nat.reduceAdd, ↓reduceIte, Nat.reduceLeDiff, *] <;> omega)), ?_, ?_, ?_, ?_, ?_⟩
               · first | exact Nat.le_trans hm2' (Nat.le_add_right _ _) | omega
               · exact (upd_ne _ _ (by omega)).trans g1
               · refine (upd_ne _ _ (by omega)).trans ?_
                 first | exact g2 | (rw [g2, ha0, hb0'])
               · have g3' := g3.out
                 rw [ha0] at g3'
                 refine Kept.mk (g3'.low (Nat.le_refl _) (Nat.le_refl _) fun id h1 h2 => ?_)
                 exact upd_ne _ _ (by omega)
               · exact Kept.mk (Or.inr ⟨_, x1, x2, by first | rfl | exact hb0', by first | (simp [upd]; done) | (rw [← hcells.out]; simp [upd]; done)⟩)
             · rw [if_neg hbd] at hdi
               rw [hdi, Int.add_zero] at hc3 hcells
               rw [decide_eq_false hbd] at hc1
               clear hbd hd hdi
               have hcells := Kept.mk hcells
               repeat' (first | ((with_reducible first | refine cond_pos (by omega) ?_ | refine cond_neg (by omega) ?_ | refine guard_pos (by omega) ?_ | refine guard_neg (by omega) ?_ | refine cond_ifn ?_ ?_ | refine cond_waysn ?_ ?_ | refine guard_ifn ?_ ?_ | refine guard_waysn ?_ ?_ | refine cond_if ?_ ?_ | refine cond_ways ?_ ?_ | refine guard_if ?_ ?_ | refine guard_ways ?_ ?_) <;> intro _) | (((with_reducible refine call_id ?_); (first | (refine call_pure (hc1) ?_) | (refine call_pure (hc3) ?_)))) | simp (maxSteps := 1000000) (disch := omega) only [go_sem, Nat.reduceAdd, Nat.reduceMul, Nat.reduceSub, Nat.reduceLeDiff, Nat.reduceEqDiff, Nat.reduceBEq, ↓reduceIte, reduceCtorEq, Int.reduceEq, Int.reduceLE, Int.reduceLT, Int.reduceAdd, Int.reduceSub, Int.reduceNeg, Int.reduceToNat, Int.reduceNe, Nat.reducePow, Nat.reduceShiftRight, Nat.reduceMod, Tm.pv, atP, atD, *])
               refine Nx.mk (args.length - (i + 1)) (by first | assumption | omega | rfl | (simp (disch := omega) only [go_sem, Nat.reduceMul, Nat.reduceSub, Nat.reduceShiftRight, Nat.reduceMod, Nat.reduceEqDiff, Nat.reduceAdd, ↓reduceIte, Nat.reduceLeDiff, *] <;> omega)) ⟨i + 1, rfl, (by first | assumption | omega | rfl | (simp (disch := omega) only [go_sem, Nat.reduceMul, Nat.reduceSub, Nat.reduceShiftRight, Nat.reduceMod, Nat.reduceEqDiff, Nat.reduceAdd, ↓reduceIte, Nat.reduceLeDiff, *] <;> omega)), (by first | assumption | omega | rfl | (simp (disch := omega) only [go_sem, Nat.reduceMul, Nat.reduceSub, Nat.reduceShiftRight, Nat.reduceMod, Nat.reduceEqDiff, Nat.reduceAdd, ↓reduceIte, Nat.reduceLeDiff, *] <;> omega)), ?_, ?_, ?_, ?_, ?_⟩
               · first | exact Nat.le_trans hm2' (Nat.le_add_right _ _) | omega
               · exact (upd_ne _ _ (by omega)).trans g1
               · refine (upd_ne _ _ (by omega)).trans ?_
                 first | exact g2 | (rw [g2, ha0, hb0'])
               · have g3' := g3.out
                 rw [ha0] at g3'
                 refine Kept.mk (g3'.low (Nat.le_refl _) (Nat.le_refl _) fun id h1 h2 => ?_)
                 exact upd_ne _ _ (by omega)
               · exact Kept.mk (Or.inr ⟨_, x1, x2, by first | rfl | exact hb0', by first | (simp [upd]; done) | (rw [← hcells.out]; simp [upd]; done)⟩))
      · obtain rfl : i = args.length := by omega
        have g4' := g4.out
        rw [List.take_of_length_le (by omega), List.drop_length, List.flatMap_nil, List.append_nil] at g4'
        have g4k := Kept.mk g4'
        clear g4 g4' hlt hi
        repeat' (first | ((with_reducible first | refine cond_pos (by omega) ?_ | refine cond_neg (by omega) ?_ | refine guard_pos (by omega) ?_ | refine guard_neg (by omega) ?_ | refine cond_ifn ?_ ?_ | refine cond_waysn ?_ ?_ | refine guard_ifn ?_ ?_ | refine guard_waysn ?_ ?_ | refine cond_if ?_ ?_ | refine cond_ways ?_ ?_ | refine guard_if ?_ ?_ | refine guard_ways ?_ ?_) <;> intro _) | simp (maxSteps := 1000000) (disch := omega) only [go_sem, Nat.reduceAdd, Nat.reduceMul, Nat.reduceSub, Nat.reduceLeDiff, Nat.reduceEqDiff, Nat.reduceBEq, ↓reduceIte, reduceCtorEq, Int.reduceEq, Int.reduceLE, Int.reduceLT, Int.reduceAdd, Int.reduceSub, Int.reduceNeg, Int.reduceToNat, Int.reduceNe, Nat.reducePow, Nat.reduceShiftRight, Nat.reduceMod, Tm.pv, *])
        refine fin_ret (r0 := .agg [.sc (.int .i64 kind), .sc (.int .i64 n'), .sc (.string s), a0, b0]) 2 (by (simp (disch := omega) only [go_sem, Nat.reduceMul, Nat.reduceSub, Nat.reduceShiftRight, Nat.reduceMod, Nat.reduceEqDiff, Nat.reduceAdd, ↓reduceIte, Nat.reduceLeDiff, *]); all_goals rfl) ?_
        rw [frz_agg1]
        have g5 : RowAt H2 mid nx' 5 b0 ((liftA by_ frm kind args.length 0 args).flatMap Tm.pv) (liftA by_ frm kind args.length 0 args).length := by rw [hlen]; exact g4k.out
        have hHe : ∀ id, nx + 1 < id → upd H2 (nx + 1) none id = H2 id := fun id h => upd_ne _ _ (by omega)
        have hw2 : frz 1 (upd H2 (nx + 1) none) (PV.sc (.int .i64 n')) = .sc (.int .i64 (if kind = 1 ∧ frm ≤ n then n + by_ else n)) := by rw [frz_sc, ← hnk.out]
        have hw : Weak (.agg ([PV.sc (.int .i64 kind), .sc (.int .i64 n'), .sc (.string s), a0, b0].map (frz 1 (upd H2 (nx + 1) none)))) (.agg ((Tm.mk kind n s ls args).lift by_ frm).pv) := by
          simp only [List.map_cons, List.map_nil, Tm.lift, Tm.pv]
          exact Weak.agg ⟨.of_eq (frz_sc _ _ _), .of_eq hw2, .of_eq (frz_sc _ _ _), (Weak.row (Lv.pvB true) 3 (pvB_len true) (g3.out.low (Nat.le_refl _) (Nat.le_refl _) fun id h1 h2 => hHe id (by omega))).trans (slB_rows false pv_len ls fun x _ => lv_weak' true x), Weak.row Tm.pv 5 tm_len (g5.low (Nat.le_refl _) (Nat.le_refl _) fun id h1 h2 => hHe id (by omega)), trivial⟩
        first
          | exact hw
          | exact hw.trans (.of_eq (by rw [show kind = 1 by omega]))
end
section
set_option maxRecDepth 20000
attribute [local go_sem] pv_len pv_take Nat.add_assoc tm_len tm_take pv_one tm_one id_ne id_ne' id_ne2 List.append_assoc
def arrL (to : Tm) (n : Nat) : Nat → List Tm → Tm
  | _, [] => to.lift n 0
  | i, x :: r => .mk 6 0 emp [] [x.lift i 0, arrL to n (i + 1) r]
def arrP (to : Tm) (n : Nat) : Nat → List Tm → List PV
  | _, [] => (to.lift n 0).pv
  | i, x :: r => [.sc (.int .i64 6), .sc (.int .i64 0), .sc (.string ⟨#[]⟩), .sc (.slice none 0 0), .sl 5 [(x.lift i 0).pv, arrP to n (i + 1) r]]
theorem arrP_len (to : Tm) (n : Nat) : ∀ (i : Nat) (xs : List Tm), (arrP to n i xs).length = 5
  | _, [] => tm_len _
  | _, _ :: _ => rfl
attribute [local go_sem] arrP_len
theorem arrP_take (to : Tm) (n i : Nat) (xs : List Tm) : (arrP to n i xs).take 5 = arrP to n i xs := List.take_of_length_le (by rw [arrP_len]; omega)
attribute [local go_sem] arrP_take
theorem arrP_one (to : Tm) (n : Nat) : ∀ (i : Nat) (xs : List Tm), (arrP to n i xs).all PV.one = true
  | _, [] => tm_one _
  | _, _ :: _ => rfl
attribute [local go_sem] arrP_one
theorem arrP_weak (to : Tm) (n : Nat) : ∀ (i : Nat) (xs : List Tm), WeakL (arrP to n i xs) (arrL to n i xs).pv
  | _, [] => .refl _
  | i, x :: r => by
    simp only [arrP, arrL, Tm.pv, List.map_cons, List.map_nil, emp]
    refine ⟨.refl _, .refl _, .refl _, .nil 3, Weak.sl rfl (fun e he => ?_) ?_, trivial⟩
    · simp only [List.mem_cons, List.not_mem_nil, or_false] at he
      rcases he with rfl | rfl <;> exact tm_len _
    · simp only [List.flatten_cons, List.flatten_nil]
      exact (WeakL.refl _).append ((arrP_weak to n (i + 1) r).append (.refl _))
def arrowOk (to : Tm) (xs : List Tm) : Bool := to.right 4 1125899906842624 && xs.all (fun x => x.right 4 1125899906842624) && decide (to.nodes + xs.length + nodesT xs ≤ 2000)
def zeroT : List PV := [.sc (.int .i64 0), .sc (.int .i64 0), .sc (.string ⟨#[]⟩), .sc (.slice none 0 0), .sc (.slice none 0 0)]
def arrowR (to : Tm) (xs : List Tm) : PV := if arrowOk to xs = true then .tup [.agg (arrL to xs.length 0 xs).pv, .sc (.bool true)] else .tup [.agg zeroT, .sc (.bool false)]
set_option maxHeartbeats 8000000 in
theorem ref04_Arrow_p (to : Tm) (xs : List Tm) (hl : xs.length ≤ 1000) : PPure Try.prog F.ref04_Arrow [.agg to.pv, .sl 5 (xs.map Tm.pv)] (arrowR to xs) := by
  refine pure_by is_ref04_Arrow (by simp) (by unfold arrowR; split <;> simp [PV.imm, immL, tm_imm, zeroT]) fun hb nx => ?_
  have c1 := ref_Nodes_p 2000 (by omega) to.size to (Nat.le_refl _)
  have c2 := ref04_Any_p to 4
  repeat' (first | ((with_reducible first | refine cond_pos (by omega) ?_ | refine cond_neg (by omega) ?_ | refine guard_pos (by omega) ?_ | refine guard_neg (by omega) ?_ | refine cond_ifn ?_ ?_ | refine cond_waysn ?_ ?_ | refine guard_ifn ?_ ?_ | refine guard_waysn ?_ ?_ | refine cond_if ?_ ?_ | refine cond_ways ?_ ?_ | refine guard_if ?_ ?_ | refine guard_ways ?_ ?_) <;> intro _) | (((with_reducible refine call_id ?_); (first | (refine call_pure (c1) ?_) | (refine call_pure (c2) ?_)))) | simp (maxSteps := 1000000) (disch := omega) only [go_sem, Nat.reduceAdd, Nat.reduceMul, Nat.reduceSub, Nat.reduceLeDiff, Nat.reduceEqDiff, Nat.reduceBEq, ↓reduceIte, reduceCtorEq, Int.reduceEq, Int.reduceLE, Int.reduceLT, Int.reduceAdd, Int.reduceSub, Int.reduceNeg, Int.reduceToNat, Int.reduceNe, Nat.reducePow, Nat.reduceShiftRight, Nat.reduceMod, mc_ref04_Arrow, *])
  refine c_loopW 8796092760512 (by kernel_rfl) (fun j f H m => ∃ (i v : Nat) (b : Bool), j = xs.length - i ∧ i ≤ xs.length ∧ f 8 = .sc (.int .i64 i) ∧ f 6 = .sc (.int .i64 v) ∧ f 7 = .sc (.bool b) ∧ v ≤ 4002 + 1000 ∧ Kept (b = (to.right 4 1125899906842624 && (xs.take i).all (fun x => x.right 4 1125899906842624))) ∧
    Kept ((v ≤ 2000 → v = to.nodes + xs.length + nodesT (xs.take i)) ∧ (to.nodes + xs.length + nodesT (xs.take i) ≤ 2000 → v = to.nodes + xs.length + nodesT (xs.take i))) ∧ H (nx + 1) = some ⟨zeroT, true⟩ ∧ nx + 2 ≤ m) _ ⟨0, min to.nodes 2001 + xs.length, _, rfl, (by first | assumption | omega | rfl | (simp (disch := omega) only [go_sem, Nat.reduceMul, Nat.reduceSub, Nat.reduceShiftRight, Nat.reduceMod, Nat.reduceEqDiff, Nat.reduceAdd, ↓reduceIte, Nat.reduceLeDiff, *] <;> omega)), (by first | assumption | omega | rfl | (simp (disch := omega) only [go_sem, Nat.reduceMul, Nat.reduceSub, Nat.reduceShiftRight, Nat.reduceMod, Nat.reduceEqDiff, Nat.reduceAdd, ↓reduceIte, Nat.reduceLeDiff, *] <;> omega)), (by first | assumption | omega | rfl | (simp (disch := omega) only [go_sem, Nat.reduceMul, Nat.reduceSub, Nat.reduceShiftRight, Nat.reduceMod, Nat.reduceEqDiff, Nat.reduceAdd, ↓reduceIte, Nat.reduceLeDiff, *] <;> omega)), (by first | assumption | omega | rfl | (simp (disch := omega) only [go_sem, Nat.reduceMul, Nat.reduceSub, Nat.reduceShiftRight, Nat.reduceMod, Nat.reduceEqDiff, Nat.reduceAdd, ↓reduceIte, Nat.reduceLeDiff, *] <;> omega)), ?_, Kept.mk ?_, Kept.mk ?_, ?_, ?_⟩ ?_
  · omega
  · simp
  · simp only [List.take_zero, nodesT]; omega
  · simp [upd, zeroT]
  · first | omega | exact Nat.le_add_right _ _ | (simp only [Nat.add_assoc]; exact Nat.add_le_add_left (by omega) _)
  have hfail : ∀ i v b, i ≤ xs.length → Kept (b = (to.right 4 1125899906842624 && (xs.take i).all (fun x => x.right 4 1125899906842624))) → Kept ((v ≤ 2000 → v = to.nodes + xs.length + nodesT (xs.take i)) ∧ (to.nodes + xs.length + nodesT (xs.take i) ≤ 2000 → v = to.nodes + xs.length + nodesT (xs.take i))) → (b = false ∨ 2000 < v) → arrowR to xs = .tup [.agg zeroT, .sc (.bool false)] := by
    intro i v b hi hb hs h
    unfold arrowR
    rw [if_neg]
    intro hok
    simp only [arrowOk, Bool.and_eq_true, decide_eq_true_eq] at hok
    obtain ⟨⟨h1, h2⟩, h3⟩ := hok
    rcases h with rfl | h
    · have := hb.out
      rw [h1, Bool.true_and] at this
      have h4 : (xs.take i).all (fun x => x.right 4 1125899906842624) = true := by
        rw [List.all_eq_true] at h2 ⊢
        exact fun x hx => h2 x (List.mem_of_mem_take hx)
      rw [h4] at this
      cases this
    · have := hs.out.2
      have := nodesT_take_le xs i
      omega
  rintro _ f H m ⟨i, v, b, rfl, hi, e8, e6, e7, hv, hb2, hs, hH, hm⟩
  have hff := Kept.mk (hfail i v b hi hb2 hs)
  have hsk := hs.out
  unfold zeroT at hH
  by_cases hlt : i < xs.length
  · by_cases hv2 : v ≤ 2000
    · have eg : xs[i]? = some xs[i] := List.getElem?_eq_getElem hlt
      have c3 := ref_Nodes_p 2000 (by omega) xs[i].size xs[i] (Nat.le_refl _)
      have c4 := ref04_Any_p xs[i] 4
      have hst := nodesT_take_succ xs i hlt
      have hal : (xs.take (i + 1)).all (fun x => x.right 4 1125899906842624) = ((xs.take i).all (fun x => x.right 4 1125899906842624) && xs[i].right 4 1125899906842624) := by rw [List.take_succ_eq_append_getElem hlt, List.all_append]; simp
      have hstk := Kept.mk hst
      have halk := Kept.mk hal
      clear c1 c2 hst hal hsk hfail hff
      cases hbb : b
      · rw [hbb] at e7 hb2
        repeat' (first | ((with_reducible first | refine cond_pos (by omega) ?_ | refine cond_neg (by omega) ?_ | refine guard_pos (by omega) ?_ | refine guard_neg (by omega) ?_ | refine cond_ifn ?_ ?_ | refine cond_waysn ?_ ?_ | refine guard_ifn ?_ ?_ | refine guard_waysn ?_ ?_ | refine cond_if ?_ ?_ | refine cond_ways ?_ ?_ | refine guard_if ?_ ?_ | refine guard_ways ?_ ?_) <;> intro _) | (((with_reducible refine call_id ?_); (first | (refine call_pure (c3) ?_) | (refine call_pure (c4) ?_)))) | simp (maxSteps := 1000000) (disch := omega) only [go_sem, Nat.reduceAdd, Nat.reduceMul, Nat.reduceSub, Nat.reduceLeDiff, Nat.reduceEqDiff, Nat.reduceBEq, ↓reduceIte, reduceCtorEq, Int.reduceEq, Int.reduceLE, Int.reduceLT, Int.reduceAdd, Int.reduceSub, Int.reduceNeg, Int.reduceToNat, Int.reduceNe, Nat.reducePow, Nat.reduceShiftRight, Nat.reduceMod, *])
        refine Nx.mk (xs.length - (i + 1)) (by first | assumption | omega | rfl | (simp (disch := omega) only [go_sem, Nat.reduceMul, Nat.reduceSub, Nat.reduceShiftRight, Nat.reduceMod, Nat.reduceEqDiff, Nat.reduceAdd, ↓reduceIte, Nat.reduceLeDiff, *] <;> omega)) ⟨i + 1, v + min xs[i].nodes 2001, false, rfl, (by first | assumption | omega | rfl | (simp (disch := omega) only [go_sem, Nat.reduceMul, Nat.reduceSub, Nat.reduceShiftRight, Nat.reduceMod, Nat.reduceEqDiff, Nat.reduceAdd, ↓reduceIte, Nat.reduceLeDiff, *] <;> omega)), (by first | assumption | omega | rfl | (simp (disch := omega) only [go_sem, Nat.reduceMul, Nat.reduceSub, Nat.reduceShiftRight, Nat.reduceMod, Nat.reduceEqDiff, Nat.reduceAdd, ↓reduceIte, Nat.reduceLeDiff, *] <;> omega)), by simp [upd], (by first | assumption | omega | rfl | (simp (disch := omega) only [go_sem, Nat.reduceMul, Nat.reduceSub, Nat.reduceShiftRight, Nat.reduceMod, Nat.reduceEqDiff, Nat.reduceAdd, ↓reduceIte, Nat.reduceLeDiff, *] <;> omega)), by omega, Kept.mk ?_, Kept.mk ?_, by simpa [zeroT] using hH, (by first | assumption | omega | rfl | (simp (disch := omega) only [go_sem, Nat.reduceMul, Nat.reduceSub, Nat.reduceShiftRight, Nat.reduceMod, Nat.reduceEqDiff, Nat.reduceAdd, ↓reduceIte, Nat.reduceLeDiff, *] <;> omega))⟩
        · rw [halk.out, ← Bool.and_assoc, ← hb2.out]; rfl
        · have := hs.out; have := hstk.out; omega
      · rw [hbb] at e7 hb2
        repeat' (first | ((with_reducible first | refine cond_pos (by omega) ?_ | refine cond_neg (by omega) ?_ | refine guard_pos (by omega) ?_ | refine guard_neg (by omega) ?_ | refine cond_ifn ?_ ?_ | refine cond_waysn ?_ ?_ | refine guard_ifn ?_ ?_ | refine guard_waysn ?_ ?_ | refine cond_if ?_ ?_ | refine cond_ways ?_ ?_ | refine guard_if ?_ ?_ | refine guard_ways ?_ ?_) <;> intro _) | (((with_reducible refine call_id ?_); (first | (refine call_pure (c3) ?_) | (refine call_pure (c4) ?_)))) | simp (maxSteps := 1000000) (disch := omega) only [go_sem, Nat.reduceAdd, Nat.reduceMul, Nat.reduceSub, Nat.reduceLeDiff, Nat.reduceEqDiff, Nat.reduceBEq, ↓reduceIte, reduceCtorEq, Int.reduceEq, Int.reduceLE, Int.reduceLT, Int.reduceAdd, Int.reduceSub, Int.reduceNeg, Int.reduceToNat, Int.reduceNe, Nat.reducePow, Nat.reduceShiftRight, Nat.reduceMod, *])
        refine Nx.mk (xs.length - (i + 1)) (by first | assumption | omega | rfl | (simp (disch := omega) only [go_sem, Nat.reduceMul, Nat.reduceSub, Nat.reduceShiftRight, Nat.reduceMod, Nat.reduceEqDiff, Nat.reduceAdd, ↓reduceIte, Nat.reduceLeDiff, *] <;> omega)) ⟨i + 1, v + min xs[i].nodes 2001, xs[i].right 4 1125899906842624, rfl, (by first | assumption | omega | rfl | (simp (disch := omega) only [go_sem, Nat.reduceMul, Nat.reduceSub, Nat.reduceShiftRight, Nat.reduceMod, Nat.reduceEqDiff, Nat.reduceAdd, ↓reduceIte, Nat.reduceLeDiff, *] <;> omega)), (by first | assumption | omega | rfl | (simp (disch := omega) only [go_sem, Nat.reduceMul, Nat.reduceSub, Nat.reduceShiftRight, Nat.reduceMod, Nat.reduceEqDiff, Nat.reduceAdd, ↓reduceIte, Nat.reduceLeDiff, *] <;> omega)), by simp [upd], by simp [upd], by omega, Kept.mk ?_, Kept.mk ?_, by simpa [zeroT] using hH, (by first | assumption | omega | rfl | (simp (disch := omega) only [go_sem, Nat.reduceMul, Nat.reduceSub, Nat.reduceShiftRight, Nat.reduceMod, Nat.reduceEqDiff, Nat.reduceAdd, ↓reduceIte, Nat.reduceLeDiff, *] <;> omega))⟩
        · rw [halk.out, ← Bool.and_assoc, ← hb2.out]; rfl
        · have := hs.out; have := hstk.out; omega
    · have hr := hff.out (.inr (by omega))
      clear c1 c2 hff hfail hsk
      rw [hr]
      cases hbb : b
      all_goals
        rw [hbb] at e7
        repeat' (first | ((with_reducible first | refine cond_pos (by omega) ?_ | refine cond_neg (by omega) ?_ | refine guard_pos (by omega) ?_ | refine guard_neg (by omega) ?_ | refine cond_ifn ?_ ?_ | refine cond_waysn ?_ ?_ | refine guard_ifn ?_ ?_ | refine guard_waysn ?_ ?_ | refine cond_if ?_ ?_ | refine cond_ways ?_ ?_ | refine guard_if ?_ ?_ | refine guard_ways ?_ ?_) <;> intro _) | simp (maxSteps := 1000000) (disch := omega) only [go_sem, Nat.reduceAdd, Nat.reduceMul, Nat.reduceSub, Nat.reduceLeDiff, Nat.reduceEqDiff, Nat.reduceBEq, ↓reduceIte, reduceCtorEq, Int.reduceEq, Int.reduceLE, Int.reduceLT, Int.reduceAdd, Int.reduceSub, Int.reduceNeg, Int.reduceToNat, Int.reduceNe, Nat.reducePow, Nat.reduceShiftRight, Nat.reduceMod, *])
        refine fin_ret (r0 := .tup [.agg zeroT, .sc (.bool false)]) 2 (by (simp (disch := omega) only [go_sem, Nat.reduceMul, Nat.reduceSub, Nat.reduceShiftRight, Nat.reduceMod, Nat.reduceEqDiff, Nat.reduceAdd, ↓reduceIte, Nat.reduceLeDiff, *]); all_goals rfl) ?_
        exact .of_eq (by simp [frz, zeroT, frz_sc])
  · obtain rfl : i = xs.length := by omega
    rw [List.take_length] at hsk
    by_cases hbad : b = false ∨ 2000 < v
    · have hr := hff.out hbad
      clear c1 c2 hff hfail hsk
      rw [hr]
      cases hbb : b
      · rw [hbb] at e7
        repeat' (first | ((with_reducible first | refine cond_pos (by omega) ?_ | refine cond_neg (by omega) ?_ | refine guard_pos (by omega) ?_ | refine guard_neg (by omega) ?_ | refine cond_ifn ?_ ?_ | refine cond_waysn ?_ ?_ | refine guard_ifn ?_ ?_ | refine guard_waysn ?_ ?_ | refine cond_if ?_ ?_ | refine cond_ways ?_ ?_ | refine guard_if ?_ ?_ | refine guard_ways ?_ ?_) <;> intro _) | simp (maxSteps := 1000000) (disch := omega) only [go_sem, Nat.reduceAdd, Nat.reduceMul, Nat.reduceSub, Nat.reduceLeDiff, Nat.reduceEqDiff, Nat.reduceBEq, ↓reduceIte, reduceCtorEq, Int.reduceEq, Int.reduceLE, Int.reduceLT, Int.reduceAdd, Int.reduceSub, Int.reduceNeg, Int.reduceToNat, Int.reduceNe, Nat.reducePow, Nat.reduceShiftRight, Nat.reduceMod, *])
        refine fin_ret (r0 := .tup [.agg zeroT, .sc (.bool false)]) 2 (by (simp (disch := omega) only [go_sem, Nat.reduceMul, Nat.reduceSub, Nat.reduceShiftRight, Nat.reduceMod, Nat.reduceEqDiff, Nat.reduceAdd, ↓reduceIte, Nat.reduceLeDiff, *]); all_goals rfl) ?_
        exact .of_eq (by simp [frz, zeroT, frz_sc])
      · rw [hbb] at e7
        have hv3 : 2000 < v := by rcases hbad with h | h <;> simp_all
        clear hbad
        repeat' (first | ((with_reducible first | refine cond_pos (by omega) ?_ | refine cond_neg (by omega) ?_ | refine guard_pos (by omega) ?_ | refine guard_neg (by omega) ?_ | refine cond_ifn ?_ ?_ | refine cond_waysn ?_ ?_ | refine guard_ifn ?_ ?_ | refine guard_waysn ?_ ?_ | refine cond_if ?_ ?_ | refine cond_ways ?_ ?_ | refine guard_if ?_ ?_ | refine guard_ways ?_ ?_) <;> intro _) | simp (maxSteps := 1000000) (disch := omega) only [go_sem, Nat.reduceAdd, Nat.reduceMul, Nat.reduceSub, Nat.reduceLeDiff, Nat.reduceEqDiff, Nat.reduceBEq, ↓reduceIte, reduceCtorEq, Int.reduceEq, Int.reduceLE, Int.reduceLT, Int.reduceAdd, Int.reduceSub, Int.reduceNeg, Int.reduceToNat, Int.reduceNe, Nat.reducePow, Nat.reduceShiftRight, Nat.reduceMod, *])
        refine fin_ret (r0 := .tup [.agg zeroT, .sc (.bool false)]) 2 (by (simp (disch := omega) only [go_sem, Nat.reduceMul, Nat.reduceSub, Nat.reduceShiftRight, Nat.reduceMod, Nat.reduceEqDiff, Nat.reduceAdd, ↓reduceIte, Nat.reduceLeDiff, *]); all_goals rfl) ?_
        exact .of_eq (by simp [frz, zeroT, frz_sc])
    · have hbt : b = true := by cases b <;> simp_all
      have hv3 : v ≤ 2000 := by omega
      have hb3 := hb2.out
      rw [List.take_length, hbt] at hb3
      have hb4 := hb3.symm
      rw [Bool.and_eq_true, List.all_eq_true] at hb4
      obtain ⟨hb5, hb6⟩ := hb4
      have htot : to.nodes + xs.length + nodesT xs ≤ 2000 := by have := hsk.1 hv3; omega
      have hr : arrowR to xs = .tup [.agg (arrL to xs.length 0 xs).pv, .sc (.bool true)] := by
        unfold arrowR
        rw [if_pos]
        simp only [arrowOk, Bool.and_eq_true, decide_eq_true_eq]
        exact ⟨⟨hb5, List.all_eq_true.2 hb6⟩, htot⟩
      have hsz : ∀ t : Tm, t.right 4 1125899906842624 = true → t.formed 4 1125899906842624 = true ∧ t.nodes ≤ 2000 ∧ t.size ≤ t.nodes := fun t h => by
        have h1 := right_formed h
        exact ⟨by simpa using h1.1, h1.2.2.2.2, size_nodes t⟩
      have h1 := hsz to hb5
      have c5 := Lift_p 4 xs.length ⟨by omega, by omega⟩ to.size to 1125899906842624 0 (Nat.le_refl _) (by omega) (by omega) (by omega) h1.1 (by omega) (by omega)
      have hszk := Kept.mk hsz
      have hb6k := Kept.mk hb6
      rw [hr]
      rw [hbt] at e7
      clear c1 c2 hff hfail hsk hbad hb3 hb6 hsz hb2 hs hr h1
      repeat' (first | ((with_reducible first | refine cond_pos (by omega) ?_ | refine cond_neg (by omega) ?_ | refine guard_pos (by omega) ?_ | refine guard_neg (by omega) ?_ | refine cond_ifn ?_ ?_ | refine cond_waysn ?_ ?_ | refine guard_ifn ?_ ?_ | refine guard_waysn ?_ ?_ | refine cond_if ?_ ?_ | refine cond_ways ?_ ?_ | refine guard_if ?_ ?_ | refine guard_ways ?_ ?_) <;> intro _) | (((with_reducible refine call_id ?_); (first | (refine call_pure (c5) ?_)))) | simp (maxSteps := 1000000) (disch := omega) only [go_sem, Nat.reduceAdd, Nat.reduceMul, Nat.reduceSub, Nat.reduceLeDiff, Nat.reduceEqDiff, Nat.reduceBEq, ↓reduceIte, reduceCtorEq, Int.reduceEq, Int.reduceLE, Int.reduceLT, Int.reduceAdd, Int.reduceSub, Int.reduceNeg, Int.reduceToNat, Int.reduceNe, Nat.reducePow, Nat.reduceShiftRight, Nat.reduceMod, *])
      refine c_loopW 1180447505529335448576 (by kernel_rfl) (fun j f H2 m2 => j ≤ xs.length ∧ f 10 = .sc (.int .i64 ((j : Int) - 1)) ∧ H2 (nx + 1) = some ⟨zeroT, true⟩ ∧ H2 (m + 18) = some ⟨arrP to xs.length j (xs.drop j), true⟩ ∧ m + 24 ≤ m2) xs.length ⟨Nat.le_refl _, (by first | assumption | omega | rfl | (simp (disch := omega) only [go_sem, Nat.reduceMul, Nat.reduceSub, Nat.reduceShiftRight, Nat.reduceMod, Nat.reduceEqDiff, Nat.reduceAdd, ↓reduceIte, Nat.reduceLeDiff, *] <;> omega)), ?_, ?_, Nat.le_refl _⟩ ?_
      · exact (upd_ne _ _ (by omega)).trans ((upd_ne _ _ (by omega)).trans hH)
      · rw [List.drop_length]; simp [upd, arrP]
      clear c5 hH e6 e7 e8
      rintro j f2 H2 m2 ⟨hj, e10, hH1, hH2, hm2⟩
      unfold zeroT at hH1
      cases j with
      | zero =>
        rw [List.drop_zero] at hH2
        repeat' (first | ((with_reducible first | refine cond_pos (by omega) ?_ | refine cond_neg (by omega) ?_ | refine guard_pos (by omega) ?_ | refine guard_neg (by omega) ?_ | refine cond_ifn ?_ ?_ | refine cond_waysn ?_ ?_ | refine guard_ifn ?_ ?_ | refine guard_waysn ?_ ?_ | refine cond_if ?_ ?_ | refine cond_ways ?_ ?_ | refine guard_if ?_ ?_ | refine guard_ways ?_ ?_) <;> intro _) | simp (maxSteps := 1000000) (disch := omega) only [go_sem, Nat.reduceAdd, Nat.reduceMul, Nat.reduceSub, Nat.reduceLeDiff, Nat.reduceEqDiff, Nat.reduceBEq, ↓reduceIte, reduceCtorEq, Int.reduceEq, Int.reduceLE, Int.reduceLT, Int.reduceAdd, Int.reduceSub, Int.reduceNeg, Int.reduceToNat, Int.reduceNe, Nat.reducePow, Nat.reduceShiftRight, Nat.reduceMod, *])
        refine fin_ret (r0 := .tup [.agg (arrP to xs.length 0 xs), .sc (.bool true)]) 1 (by (simp (disch := omega) only [go_sem, Nat.reduceMul, Nat.reduceSub, Nat.reduceShiftRight, Nat.reduceMod, Nat.reduceEqDiff, Nat.reduceAdd, ↓reduceIte, Nat.reduceLeDiff, *]); all_goals rfl) ?_
        exact Weak.tup (xs := [.agg (arrP to xs.length 0 xs), .sc (.bool true)]) ⟨.agg (arrP_weak _ _ _ _), .refl _, trivial⟩
      | succ j =>
        have e11 : ((j + 1 : Nat) : Int) - 1 = (j : Int) := by omega
        rw [e11] at e10
        have eg : xs[j]? = some xs[j] := List.getElem?_eq_getElem hj
        have hdp : xs.drop j = xs[j] :: xs.drop (j + 1) := List.drop_eq_getElem_cons hj
        have h1 := hszk.out xs[j] (hb6k.out _ (List.getElem_mem hj))
        have c6 := Lift_p 4 j ⟨by omega, by omega⟩ xs[j].size xs[j] 1125899906842624 0 (Nat.le_refl _) (by omega) (by omega) (by omega) h1.1 (by omega) (by omega)
        have hdpk := Kept.mk hdp
        clear h1 hdp e11
        repeat' (first | ((with_reducible first | refine cond_pos (by omega) ?_ | refine cond_neg (by omega) ?_ | refine guard_pos (by omega) ?_ | refine guard_neg (by omega) ?_ | refine cond_ifn ?_ ?_ | refine cond_waysn ?_ ?_ | refine guard_ifn ?_ ?_ | refine guard_waysn ?_ ?_ | refine cond_if ?_ ?_ | refine cond_ways ?_ ?_ | refine guard_if ?_ ?_ | refine guard_ways ?_ ?_) <;> intro _) | (((with_reducible refine call_id ?_); (first | (refine call_pure (c6) ?_)))) | simp (maxSteps := 1000000) (disch := omega) only [go_sem, Nat.reduceAdd, Nat.reduceMul, Nat.reduceSub, Nat.reduceLeDiff, Nat.reduceEqDiff, Nat.reduceBEq, ↓reduceIte, reduceCtorEq, Int.reduceEq, Int.reduceLE, Int.reduceLT, Int.reduceAdd, Int.reduceSub, Int.reduceNeg, Int.reduceToNat, Int.reduceNe, Nat.reducePow, Nat.reduceShiftRight, Nat.reduceMod, *])
        refine Nx.mk j (by first | assumption | omega | rfl | (simp (disch := omega) only [go_sem, Nat.reduceMul, Nat.reduceSub, Nat.reduceShiftRight, Nat.reduceMod, Nat.reduceEqDiff, Nat.reduceAdd, ↓reduceIte, Nat.reduceLeDiff, *] <;> omega)) ⟨by omega, by simp [upd], ?_, ?_, ?_⟩
        · exact (upd_ne _ _ (by omega)).trans hH1
        · have hA : ∀ X, List.take 5 ((xs[j].lift j 0).pv ++ X) = (xs[j].lift j 0).pv := fun X => List.take_left' (tm_len _)
          have hB : ∀ X, List.take 5 (arrP to xs.length (j + 1) (List.drop (j + 1) xs) ++ X) = arrP to xs.length (j + 1) (List.drop (j + 1) xs) := fun X => List.take_left' (arrP_len _ _ _ _)
          have hC : ∀ X, List.drop 5 ((xs[j].lift j 0).pv ++ X) = X := fun X => List.drop_left' (tm_len _)
          rw [hdpk.out]
          simp [upd, arrP, hA, hB, hC, arrP_len]
        · exact Nat.le_trans hm2 (by first | omega | exact Nat.le_add_right _ _)
end
section
set_option maxRecDepth 20000
attribute [local go_sem] pv_len pv_take Nat.add_assoc tm_len tm_take pv_one tm_one id_ne id_ne' id_ne2 List.append_assoc
def insts (bys : List Lv) : List Lv → Option (List Lv)
  | [] => some []
  | x :: r => match x.instV bys, insts bys r with
    | some y, some ys => some (y :: ys)
    | _, _ => none
mutual
def Tm.putL (bys : List Lv) : Tm → Option Tm
  | .mk k n s ls args => match insts bys ls, putLs bys args with
    | some ls', some args' => some (.mk k n s ls' args')
    | _, _ => none
def putLs (bys : List Lv) : List Tm → Option (List Tm)
  | [] => some []
  | x :: r => match x.putL bys, putLs bys r with
    | some y, some ys => some (y :: ys)
    | _, _ => none
end
theorem insts_snoc (bys : List Lv) (x : Lv) : ∀ xs ys, insts bys xs = some ys → insts bys (xs ++ [x]) = (x.instV bys).map fun y => ys ++ [y]
  | [], ys, h => by
    simp only [insts, Option.some.injEq] at h
    subst h
    simp only [List.nil_append, insts]
    cases x.instV bys <;> rfl
  | a :: r, ys, h => by
    simp only [insts] at h
    cases ha : a.instV bys with
    | none => rw [ha] at h; simp at h
    | some y =>
      cases hr : insts bys r with
      | none => rw [ha, hr] at h; simp at h
      | some zs =>
        rw [ha, hr] at h
        simp only [Option.some.injEq] at h
        subst h
        simp only [List.cons_append, insts, ha, insts_snoc bys x r zs hr]
        cases x.instV bys <;> rfl
theorem insts_none (bys : List Lv) : ∀ (xs : List Lv) (i : Nat) (h : i < xs.length), xs[i].instV bys = none → insts bys xs = none
  | x :: r, 0, h, e => by
    have e' : x.instV bys = none := e
    simp only [insts, e']
  | x :: r, i + 1, h, e => by
    have := insts_none bys r i (by simpa using h) (by simpa using e)
    simp only [insts, this]
    cases x.instV bys <;> rfl
theorem putLs_snoc (bys : List Lv) (x : Tm) : ∀ xs ys, putLs bys xs = some ys → putLs bys (xs ++ [x]) = (x.putL bys).map fun y => ys ++ [y]
  | [], ys, h => by
    simp only [putLs, Option.some.injEq] at h
    subst h
    simp only [List.nil_append, putLs]
    cases x.putL bys <;> rfl
  | a :: r, ys, h => by
    simp only [putLs] at h
    cases ha : a.putL bys with
    | none => rw [ha] at h; simp at h
    | some y =>
      cases hr : putLs bys r with
      | none => rw [ha, hr] at h; simp at h
      | some zs =>
        rw [ha, hr] at h
        simp only [Option.some.injEq] at h
        subst h
        simp only [List.cons_append, putLs, ha, putLs_snoc bys x r zs hr]
        cases x.putL bys <;> rfl
theorem putLs_none (bys : List Lv) : ∀ (xs : List Tm) (i : Nat) (h : i < xs.length), xs[i].putL bys = none → putLs bys xs = none
  | x :: r, 0, h, e => by
    have e' : x.putL bys = none := e
    simp only [putLs, e']
  | x :: r, i + 1, h, e => by
    have := putLs_none bys r i (by simpa using h) (by simpa using e)
    simp only [putLs, this]
    cases x.putL bys <;> rfl
def optT : Option Tm → PV
  | some t => .tup [.agg t.pv, .sc (.bool true)]
  | none => .tup [.agg zeroT, .sc (.bool false)]
theorem optT_imm (o : Option Tm) : (optT o).imm = true := by cases o <;> simp [optT, PV.imm, immL, tm_imm, zeroT]
def levelsR (t : Tm) (bys : List Lv) : Option Tm :=
  if t.right bys.length 1125899906842624 = true then (match t.putL bys with
    | some u => if u.nodes ≤ 2000 then some u else none
    | none => none) else none
end
section
attribute [local go_sem] pv_len pv_take id_ne id_ne' id_ne2 rounds_next Nat.add_assoc pv_take_app pv_one
def p0 : Lv := .mk 2 0 []
def p1 : Lv := .mk 2 1 []
theorem PPure.is {f : FuncId} {args : List PV} {r r' : PV} (h : PPure Try.prog f args r) (e : r = r') : PPure Try.prog f args r' := e ▸ h
end
section
set_option maxRecDepth 20000
attribute [local go_sem] pv_len pv_take id_ne id_ne' id_ne2 Nat.add_assoc pv_one pv_take_app
theorem inst_grown (bys : List Lv) (hb : ∀ b ∈ bys, b.nodes ≤ 64) : ∀ (fuel : Nat) (l : Lv), l.nodes ≤ fuel → l.formed bys.length = true → l.grown bys = (l.inst bys).nodes := by
  intro fuel
  induction fuel with
  | zero => intro l h; have := nodes_pos l; omega
  | succ fuel ih =>
    intro l hf hr
    cases l with
    | mk k n args =>
    simp only [Lv.nodes] at hf
    by_cases hk : k = 2
    · subst hk
      obtain ⟨h0, h1, rfl⟩ := par_of hr
      have hmem : bys.getD n.toNat (.mk 1 0 []) ∈ bys := by
        have h3 : n.toNat < bys.length := by omega
        simp [List.getD, List.getElem?_eq_getElem h3, List.getElem_mem]
      have := hb _ hmem
      simp only [Lv.grown, Lv.inst, if_true]
      omega
    · have key : ∀ xs : List Lv, (∀ x ∈ xs, x ∈ args) → grownL bys xs = nodesL (instL bys xs) := by
        intro xs
        induction xs with
        | nil => intro _; rfl
        | cons x r ihr =>
          intro h
          have h1 : x.nodes ≤ nodesL args := by
            obtain ⟨i, hi, e⟩ := List.getElem_of_mem (h x (by simp))
            rw [← e]; exact nodesL_mem args i hi
          simp only [grownL, instL, nodesL]
          rw [ih x (by omega) (formed_kid hr x (h x (by simp))), ihr fun y hy => h y (by simp [hy])]
      simp only [Lv.grown, Lv.inst, if_neg hk, Lv.nodes, key args fun _ h => h]
theorem instV_eq (l : Lv) (bys : List Lv) : l.instV bys = l.instR bys := by
  unfold Lv.instV Lv.instR
  by_cases h1 : l.right bys.length = true
  · by_cases h2 : bys.all (Lv.right 4) = true
    · obtain ⟨_, _, _, hf⟩ := right_parts h1
      have hb : ∀ b ∈ bys, b.nodes ≤ 64 := fun b hb => (right_parts (List.all_eq_true.1 h2 b hb)).2.2.1
      rw [← inst_grown bys hb l.nodes l (Nat.le_refl _) hf]
      simp [h1, h2]
    · simp only [Bool.not_eq_true] at h2
      simp [h1, h2]
  · simp only [Bool.not_eq_true] at h1
    simp [h1]
end
section
set_option maxRecDepth 20000
attribute [local go_sem] pv_len pv_take Nat.add_assoc tm_len tm_take pv_one tm_one id_ne id_ne' id_ne2 List.append_assoc
def FixL (nx : Nat) (cs : List PV) : Prop := ∀ (G : Nat → Bool) (k : Nat) (H : Nat → Option PObj), (∀ j, j < nx → G j = false) → cs.map (frgF G k H) = cs
theorem FixL.mono {nx nx' : Nat} {cs : List PV} (h : FixL nx cs) (hn : nx ≤ nx') : FixL nx' cs := fun G k H hG => h G k H fun j hj => hG j (Nat.lt_of_lt_of_le hj hn)
theorem FixL.imm {nx : Nat} {cs : List PV} (h : immL cs = true) : FixL nx cs := fun G k H _ => frgF_immL G H k cs h
theorem FixL.nil {nx : Nat} : FixL nx [] := fun _ _ _ _ => rfl
theorem FixL.append {nx : Nat} {cs ds : List PV} (h : FixL nx cs) (g : FixL nx ds) : FixL nx (cs ++ ds) := fun G k H hG => by rw [List.map_append, h G k H hG, g G k H hG]
theorem FixL.cons {nx : Nat} {c : PV} {ds : List PV} (h : c.imm = true) (g : FixL nx ds) : FixL nx (c :: ds) := fun G k H hG => by rw [List.map_cons, frgF_imm G H k c h, g G k H hG]
theorem frgF_osl {G : Nat → Bool} {id : Nat} (h : G id = false) (k : Nat) (H : Nat → Option PObj) (off n sz : Nat) : frgF G k H (.osl id off n sz) = .osl id off n sz := by
  cases k with
  | zero => rfl
  | succ k => simp [frgF, h]
theorem FixL.osl {nx id off n sz : Nat} {ds : List PV} (h : id < nx) (g : FixL nx ds) : FixL nx (.osl id off n sz :: ds) := fun G k H hG => by rw [List.map_cons, frgF_osl (hG id h), g G k H hG]
theorem tell_low {P : Program} {f : FuncId} {args : List PV} {H : Nat → Option PObj} {nx : Nat} {Q Q2 : (Nat → Option PObj) → Nat → PV → Prop} (kp : Nat → Bool) (id : Nat) (hid : id < nx) (hkp : ∀ j, kp j = true → j ≠ id ∧ j < nx) (h : PMut P f args H nx Q)
    (hq : ∀ H' nx' r, Q H' nx' r → r.imm = true ∧ (∀ j o, kp j = true → H' j = some o → o.isIt = false ∧ FixL nx o.cells) ∧ ∃ (res : Option (List PV)) (k : Nat),
      (∀ cs', res = some cs' → ∃ cs, H' id = some ⟨cs, true⟩ ∧ cs.length ≠ 1 ∧ WeakL (cs.map (frgF (fun j => decide (nx ≤ j)) k H')) cs') ∧
      ∀ H2 : Nat → Option PObj, (∀ j, kp j = true → H2 j = H' j) → H2 id = res.map (fun c => ⟨c, true⟩) → Q2 H2 nx' r) : PMut P f args H nx Q2 := by
  refine PMut.become h fun H' nx' r hQ => ?_
  obtain ⟨hr, h1, res, k, h2, h3⟩ := hq H' nx' r hQ
  refine ⟨fun j => decide (nx ≤ j), k, fun j => if j = id then res.map (fun c => ⟨c, true⟩) else if kp j = true then H' j else none, r, fun j o2 hj => ?_, .of_eq (frgF_imm _ _ _ _ hr), h3 _ (fun j hj => by simp [(hkp j hj).1, hj]) (by simp)⟩
  by_cases he : j = id
  · subst he
    simp only [if_true] at hj
    cases res with
    | none => simp at hj
    | some cs' =>
      simp only [Option.map_some, Option.some.injEq] at hj
      subst hj
      obtain ⟨cs, g1, g2, g3⟩ := h2 cs' rfl
      exact ⟨⟨cs.map (frgF (fun j => decide (nx ≤ j)) k H'), true⟩, by simp [lessC, Nat.not_le.2 hid, g1], isIt_len (by simpa using g2), rfl, g3⟩
  · simp only [he, if_false] at hj
    split at hj
    · rename_i hk
      obtain ⟨h6, h7⟩ := hkp j hk
      obtain ⟨h8, h9⟩ := h1 j o2 hk hj
      refine ⟨o2, ?_, h8, rfl, .refl _⟩
      have := h9 (fun j => decide (nx ≤ j)) k H' (fun j hj => by simp; omega)
      simp only [lessC, Nat.not_le.2 h7, decide_false, Bool.false_eq_true, if_false, hj, Option.map_some, this]
    · cases hj
def RowP (H : Nat → Option PObj) (lo m sz : Nat) (a : PV) (es : List (List PV)) : Prop := (es = [] ∧ a = .sc (.slice none 0 0)) ∨ ∃ id, lo ≤ id ∧ id < m ∧ a = .osl id 0 es.length sz ∧ H id = some ⟨es.flatten, true⟩
def HalfP (H : Nat → Option PObj) (lo m sz : Nat) (a : PV) (done : List PV) (z : List Value) (r n : Nat) : Prop := (n = 0 ∧ a = .sc (.slice none 0 0)) ∨ ∃ id, lo ≤ id ∧ id < m ∧ a = .osl id 0 n sz ∧ H id = some ⟨done ++ zeros z r, true⟩
def leads : PV → Nat → Bool
  | .osl i _ _ _, j => decide (j = i)
  | _, _ => false
theorem HalfP.row {H : Nat → Option PObj} {lo m sz : Nat} {a : PV} {es : List (List PV)} {z : List Value} {n : Nat} (h : HalfP H lo m sz a es.flatten z 0 n) (hn : es.length = n) : RowP H lo m sz a es := by
  rcases h with ⟨h1, h2⟩ | ⟨id, h1, h2, h3, h4⟩
  · exact .inl ⟨List.eq_nil_of_length_eq_zero (by omega), h2⟩
  · exact .inr ⟨id, h1, h2, by rw [hn]; exact h3, by simpa [zeros] using h4⟩
theorem RowP.mono {H H' : Nat → Option PObj} {lo m m' sz : Nat} {a : PV} {es : List (List PV)} (h : RowP H lo m sz a es) (hm : m ≤ m') (hH : ∀ j, lo ≤ j → j < m → leads a j = true → H' j = H j) : RowP H' lo m' sz a es := by
  rcases h with h | ⟨id, h1, h2, rfl, h4⟩
  · exact .inl h
  · exact .inr ⟨id, h1, by omega, rfl, by rw [hH id h1 h2 (by simp [leads]), h4]⟩
theorem HalfP.mono {H H' : Nat → Option PObj} {lo m m' sz : Nat} {a : PV} {done : List PV} {z : List Value} {r n : Nat} (h : HalfP H lo m sz a done z r n) (hm : m ≤ m') (hH : ∀ j, lo ≤ j → j < m → leads a j = true → H' j = H j) : HalfP H' lo m' sz a done z r n := by
  rcases h with h | ⟨id, h1, h2, rfl, h4⟩
  · exact .inl h
  · exact .inr ⟨id, h1, by omega, rfl, by rw [hH id h1 h2 (by simp [leads]), h4]⟩
theorem RowP.fix {H : Nat → Option PObj} {lo m sz : Nat} {a : PV} {es : List (List PV)} (h : RowP H lo m sz a es) {nx : Nat} (hm : m ≤ nx) {ds : List PV} (hd : FixL nx ds) : FixL nx (a :: ds) := by
  rcases h with ⟨_, rfl⟩ | ⟨id, h1, h2, rfl, h4⟩
  · exact .cons rfl hd
  · exact .osl (by omega) hd
theorem RowP.lead {H : Nat → Option PObj} {lo m sz : Nat} {a : PV} {es : List (List PV)} (h : RowP H lo m sz a es) (hl : es.flatten.length ≠ 1) (hi : immL es.flatten = true) {j : Nat} (hj : leads a j = true) (nx : Nat) :
    lo ≤ j ∧ j < m ∧ ∀ o, H j = some o → o.isIt = false ∧ FixL nx o.cells := by
  rcases h with ⟨_, rfl⟩ | ⟨id, h1, h2, rfl, h4⟩
  · cases hj
  · obtain rfl : j = id := by simpa [leads] using hj
    refine ⟨h1, h2, fun o ho => ?_⟩
    rw [h4] at ho
    cases ho
    exact ⟨isIt_len hl, .imm hi⟩
theorem RowP.frg {H : Nat → Option PObj} {lo m sz : Nat} {a : PV} {es : List (List PV)} (h : RowP H lo m sz a es) (hs : ∀ e ∈ es, e.length = sz) (G : Nat → Bool) (hG : ∀ j, lo ≤ j → G j = true) : Weak (frgF G 1 H a) (.sl sz es) := by
  rcases h with ⟨rfl, rfl⟩ | ⟨id, h1, h2, rfl, h4⟩
  · exact .nil sz
  · have hl : es.flatten.length = es.length * sz := by
      clear h4
      induction es with
      | nil => simp
      | cons e r ih =>
        rw [List.flatten_cons, List.length_append, ih (fun x hx => hs x (by simp [hx])), hs e (by simp), List.length_cons, Nat.succ_mul]
        omega
    simp only [frgF, hG id h1, if_true, h4, List.drop_zero]
    rw [if_pos (by omega), List.take_of_length_le (by omega)]
    refine .trans (Weak.fslW (es' := es) (by rw [chunks_length]) hs ?_) (Weak.fsl sz es)
    rw [List.map_id', chunks_flatten sz es.length _ (by omega)]
    exact .refl _
end
section
set_option maxRecDepth 20000
attribute [local go_sem] pv_len pv_take Nat.add_assoc tm_len tm_take pv_one tm_one tpvB_len tpvB_take tpvB_one pvB_len pvB_take pvB_one id_ne id_ne' id_ne2 List.append_assoc tm_take_app tm_drop_app tm_take10 tm_drop10 tm_drop15 tm_drop
set_option maxHeartbeats 16000000 in
theorem term_Arrow_p (to : Tm) (xs : List Tm) (hl : xs.length ≤ 1000) (hto : to.nodes ≤ 2 ^ 40) (hxs : ∀ x ∈ xs, x.nodes ≤ 2 ^ 40) : PPure Try.prog F.term_Arrow [.agg to.pv, .sl 5 (xs.map Tm.pv)] (arrowR to xs) := by
  refine pure_by is_term_Arrow (by simp) (by unfold arrowR; split <;> simp [PV.imm, immL, tm_imm, zeroT]) fun hb nx => ?_
  clear hb
  have c1 := tNodes_p to hto
  have c2 := tRight_p to hto 4 1125899906842624
  have hxk := Kept.mk fun i (h : i < xs.length) => hxs _ (List.getElem_mem h)
  clear hxs
  cases hr : to.right 4 1125899906842624 with
  | false =>
    have hres : arrowR to xs = .tup [.agg zeroT, .sc (.bool false)] := by unfold arrowR; rw [if_neg (by simp [arrowOk, hr])]
    rw [hr] at c2
    rw [hres]
    clear hres
    by_cases h0 : xs.length = 0
    · repeat' (first | ((with_reducible first | refine cond_pos (by omega) ?_ | refine cond_neg (by omega) ?_ | refine guard_pos (by omega) ?_ | refine guard_neg (by omega) ?_ | refine cond_ifn ?_ ?_ | refine cond_waysn ?_ ?_ | refine guard_ifn ?_ ?_ | refine guard_waysn ?_ ?_ | refine cond_if ?_ ?_ | refine cond_ways ?_ ?_ | refine guard_if ?_ ?_ | refine guard_ways ?_ ?_) <;> intro _) | (((with_reducible refine call_id ?_); (first | (refine call_pure (c1) ?_) | (refine call_pure (c2) ?_)))) | simp (maxSteps := 1000000) (disch := omega) only [go_sem, Nat.reduceAdd, Nat.reduceMul, Nat.reduceSub, Nat.reduceLeDiff, Nat.reduceEqDiff, Nat.reduceBEq, ↓reduceIte, reduceCtorEq, Int.reduceEq, Int.reduceLE, Int.reduceLT, Int.reduceAdd, Int.reduceSub, Int.reduceNeg, Int.reduceToNat, Int.reduceNe, Nat.reducePow, Nat.reduceShiftRight, Nat.reduceMod, mc_term_Arrow, *])
      refine c_rounds 1 ?_
      repeat' (first | ((with_reducible first | refine cond_pos (by omega) ?_ | refine cond_neg (by omega) ?_ | refine guard_pos (by omega) ?_ | refine guard_neg (by omega) ?_ | refine cond_ifn ?_ ?_ | refine cond_waysn ?_ ?_ | refine guard_ifn ?_ ?_ | refine guard_waysn ?_ ?_ | refine cond_if ?_ ?_ | refine cond_ways ?_ ?_ | refine guard_if ?_ ?_ | refine guard_ways ?_ ?_) <;> intro _) | simp (maxSteps := 1000000) (disch := omega) only [go_sem, Nat.reduceAdd, Nat.reduceMul, Nat.reduceSub, Nat.reduceLeDiff, Nat.reduceEqDiff, Nat.reduceBEq, ↓reduceIte, reduceCtorEq, Int.reduceEq, Int.reduceLE, Int.reduceLT, Int.reduceAdd, Int.reduceSub, Int.reduceNeg, Int.reduceToNat, Int.reduceNe, Nat.reducePow, Nat.reduceShiftRight, Nat.reduceMod, rounds_next, *])
      refine fin_ret (r0 := .tup [.agg zeroT, .sc (.bool false)]) 2 (by (simp (disch := omega) only [go_sem, Nat.reduceMul, Nat.reduceSub, Nat.reduceShiftRight, Nat.reduceMod, Nat.reduceEqDiff, Nat.reduceAdd, ↓reduceIte, Nat.reduceLeDiff, *]); all_goals rfl) ?_
      exact .of_eq (by simp [frz, zeroT, frz_sc])
    · have h00 : 0 < xs.length := by omega
      have eg : xs[0]? = some xs[0] := List.getElem?_eq_getElem h00
      have c3 := tNodes_p xs[0] (hxk.out 0 h00)
      repeat' (first | ((with_reducible first | refine cond_pos (by omega) ?_ | refine cond_neg (by omega) ?_ | refine guard_pos (by omega) ?_ | refine guard_neg (by omega) ?_ | refine cond_ifn ?_ ?_ | refine cond_waysn ?_ ?_ | refine guard_ifn ?_ ?_ | refine guard_waysn ?_ ?_ | refine cond_if ?_ ?_ | refine cond_ways ?_ ?_ | refine guard_if ?_ ?_ | refine guard_ways ?_ ?_) <;> intro _) | (((with_reducible refine call_id ?_); (first | (refine call_pure (c1) ?_) | (refine call_pure (c2) ?_)))) | simp (maxSteps := 1000000) (disch := omega) only [go_sem, Nat.reduceAdd, Nat.reduceMul, Nat.reduceSub, Nat.reduceLeDiff, Nat.reduceEqDiff, Nat.reduceBEq, ↓reduceIte, reduceCtorEq, Int.reduceEq, Int.reduceLE, Int.reduceLT, Int.reduceAdd, Int.reduceSub, Int.reduceNeg, Int.reduceToNat, Int.reduceNe, Nat.reducePow, Nat.reduceShiftRight, Nat.reduceMod, mc_term_Arrow, *])
      refine c_rounds 1 ?_
      repeat' (first | ((with_reducible first | refine cond_pos (by omega) ?_ | refine cond_neg (by omega) ?_ | refine guard_pos (by omega) ?_ | refine guard_neg (by omega) ?_ | refine cond_ifn ?_ ?_ | refine cond_waysn ?_ ?_ | refine guard_ifn ?_ ?_ | refine guard_waysn ?_ ?_ | refine cond_if ?_ ?_ | refine cond_ways ?_ ?_ | refine guard_if ?_ ?_ | refine guard_ways ?_ ?_) <;> intro _) | (((with_reducible refine call_id ?_); (first | (refine call_pure (c3) ?_)))) | simp (maxSteps := 1000000) (disch := omega) only [go_sem, Nat.reduceAdd, Nat.reduceMul, Nat.reduceSub, Nat.reduceLeDiff, Nat.reduceEqDiff, Nat.reduceBEq, ↓reduceIte, reduceCtorEq, Int.reduceEq, Int.reduceLE, Int.reduceLT, Int.reduceAdd, Int.reduceSub, Int.reduceNeg, Int.reduceToNat, Int.reduceNe, Nat.reducePow, Nat.reduceShiftRight, Nat.reduceMod, rounds_next, *])
      refine fin_ret (r0 := .tup [.agg zeroT, .sc (.bool false)]) 2 (by (simp (disch := omega) only [go_sem, Nat.reduceMul, Nat.reduceSub, Nat.reduceShiftRight, Nat.reduceMod, Nat.reduceEqDiff, Nat.reduceAdd, ↓reduceIte, Nat.reduceLeDiff, *]); all_goals rfl) ?_
      exact .of_eq (by simp [frz, zeroT, frz_sc])
  | true =>
  rw [hr] at c2
  have hrf := right_formed hr
  have hmin : min to.nodes 2001 = to.nodes := by omega
  rw [hmin] at c1
  have hrk := Kept.mk hr
  have hb5 : to.formed 4 1125899906842624 = true ∧ to.nodes ≤ 2000 := ⟨by simpa using hrf.1, hrf.2.2.2.2⟩
  clear hr hrf hmin
  repeat' (first | ((with_reducible first | refine cond_pos (by omega) ?_ | refine cond_neg (by omega) ?_ | refine guard_pos (by omega) ?_ | refine guard_neg (by omega) ?_ | refine cond_ifn ?_ ?_ | refine cond_waysn ?_ ?_ | refine guard_ifn ?_ ?_ | refine guard_waysn ?_ ?_ | refine cond_if ?_ ?_ | refine cond_ways ?_ ?_ | refine guard_if ?_ ?_ | refine guard_ways ?_ ?_) <;> intro _) | (((with_reducible refine call_id ?_); (first | (refine call_pure (c1) ?_) | (refine call_pure (c2) ?_)))) | simp (maxSteps := 1000000) (disch := omega) only [go_sem, Nat.reduceAdd, Nat.reduceMul, Nat.reduceSub, Nat.reduceLeDiff, Nat.reduceEqDiff, Nat.reduceBEq, ↓reduceIte, reduceCtorEq, Int.reduceEq, Int.reduceLE, Int.reduceLT, Int.reduceAdd, Int.reduceSub, Int.reduceNeg, Int.reduceToNat, Int.reduceNe, Nat.reducePow, Nat.reduceShiftRight, Nat.reduceMod, mc_term_Arrow, *])
  refine c_loopW 140737486258528 (by kernel_rfl) (fun j f H m => ∃ (i v : Nat), j = xs.length - i ∧ i ≤ xs.length ∧ f 21 = .sc (.int .i64 i) ∧ f 6 = .sc (.int .i64 v) ∧ v ≤ 3000 ∧ (0 < i → v ≤ 2000) ∧ Kept ((xs.take i).all (fun x => x.right 4 1125899906842624) = true ∧ v = to.nodes + xs.length + nodesT (xs.take i)) ∧
    H (nx + 1) = some ⟨zeroT, true⟩ ∧ nx + 2 ≤ m) _ ⟨0, to.nodes + xs.length, rfl, (by first | assumption | omega | rfl | (simp (disch := omega) only [go_sem, Nat.reduceMul, Nat.reduceSub, Nat.reduceShiftRight, Nat.reduceMod, Nat.reduceEqDiff, Nat.reduceAdd, ↓reduceIte, Nat.reduceLeDiff, *] <;> omega)), (by first | assumption | omega | rfl | (simp (disch := omega) only [go_sem, Nat.reduceMul, Nat.reduceSub, Nat.reduceShiftRight, Nat.reduceMod, Nat.reduceEqDiff, Nat.reduceAdd, ↓reduceIte, Nat.reduceLeDiff, *] <;> omega)), (by first | assumption | omega | rfl | (simp (disch := omega) only [go_sem, Nat.reduceMul, Nat.reduceSub, Nat.reduceShiftRight, Nat.reduceMod, Nat.reduceEqDiff, Nat.reduceAdd, ↓reduceIte, Nat.reduceLeDiff, *] <;> omega)), (by first | assumption | omega | rfl | (simp (disch := omega) only [go_sem, Nat.reduceMul, Nat.reduceSub, Nat.reduceShiftRight, Nat.reduceMod, Nat.reduceEqDiff, Nat.reduceAdd, ↓reduceIte, Nat.reduceLeDiff, *] <;> omega)), ?g1, Kept.mk ⟨rfl, by simp [nodesT]⟩, ?g3, ?g4⟩ ?_
  case g1 => intro h; omega
  case g3 => simp [upd, zeroT]
  case g4 => first | omega | exact Nat.le_add_right _ _ | (simp only [Nat.add_assoc]; exact Nat.add_le_add_left (by omega) _)
  clear c1 c2
  rintro _ f H m ⟨i, v, rfl, hi, e21, e6, hv, hv0, hs, hH1, hm⟩
  unfold zeroT at hH1
  have hbad : ∀ i (h : i < xs.length), xs[i].right 4 1125899906842624 = false → arrowR to xs = .tup [.agg zeroT, .sc (.bool false)] := fun i h e => by
    unfold arrowR
    rw [if_neg]
    intro hok
    simp only [arrowOk, Bool.and_eq_true, List.all_eq_true] at hok
    have := hok.1.2 _ (List.getElem_mem h)
    rw [e] at this
    cases this
  by_cases hlt : i < xs.length
  · have eg : xs[i]? = some xs[i] := List.getElem?_eq_getElem hlt
    have c3 := tNodes_p xs[i] (hxk.out i hlt)
    have c4 := tRight_p xs[i] (hxk.out i hlt) 4 1125899906842624
    have hst := nodesT_take_succ xs i hlt
    have hal : (xs.take (i + 1)).all (fun x => x.right 4 1125899906842624) = ((xs.take i).all (fun x => x.right 4 1125899906842624) && xs[i].right 4 1125899906842624) := by rw [List.take_succ_eq_append_getElem hlt, List.all_append]; simp
    have hstk := Kept.mk hst
    have halk := Kept.mk hal
    have htl := nodesT_take_le xs (i + 1)
    have htlk := Kept.mk htl
    cases hx : xs[i].right 4 1125899906842624 with
    | false =>
      rw [hbad i hlt hx]
      rw [hx] at c4
      clear hbad hst hal htl halk hx hv0
      repeat' (first | ((with_reducible first | refine cond_pos (by omega) ?_ | refine cond_neg (by omega) ?_ | refine guard_pos (by omega) ?_ | refine guard_neg (by omega) ?_ | refine cond_ifn ?_ ?_ | refine cond_waysn ?_ ?_ | refine guard_ifn ?_ ?_ | refine guard_waysn ?_ ?_ | refine cond_if ?_ ?_ | refine cond_ways ?_ ?_ | refine guard_if ?_ ?_ | refine guard_ways ?_ ?_) <;> intro _) | (((with_reducible refine call_id ?_); (first | (refine call_pure (c3) ?_) | (refine call_pure (c4) ?_)))) | simp (maxSteps := 1000000) (disch := omega) only [go_sem, Nat.reduceAdd, Nat.reduceMul, Nat.reduceSub, Nat.reduceLeDiff, Nat.reduceEqDiff, Nat.reduceBEq, ↓reduceIte, reduceCtorEq, Int.reduceEq, Int.reduceLE, Int.reduceLT, Int.reduceAdd, Int.reduceSub, Int.reduceNeg, Int.reduceToNat, Int.reduceNe, Nat.reducePow, Nat.reduceShiftRight, Nat.reduceMod, *])
      all_goals
        refine fin_ret (r0 := .tup [.agg zeroT, .sc (.bool false)]) 2 (by (simp (disch := omega) only [go_sem, Nat.reduceMul, Nat.reduceSub, Nat.reduceShiftRight, Nat.reduceMod, Nat.reduceEqDiff, Nat.reduceAdd, ↓reduceIte, Nat.reduceLeDiff, *]); all_goals rfl) ?_
        exact .of_eq (by simp [frz, zeroT, frz_sc])
    | true =>
      have hxf := right_formed hx
      have hmin : min xs[i].nodes 2001 = xs[i].nodes := by omega
      rw [hmin] at c3
      rw [hx] at c4
      have hbig : 2000 < v + xs[i].nodes → arrowR to xs = .tup [.agg zeroT, .sc (.bool false)] := fun h => by
        unfold arrowR
        rw [if_neg]
        intro hok
        simp only [arrowOk, Bool.and_eq_true, decide_eq_true_eq] at hok
        have := hok.2
        have := hs.out.2
        omega
      have hxn : xs[i].nodes ≤ 2000 := hxf.2.2.2.2
      have hxk2 := Kept.mk hx
      by_cases hgt : 2000 < v + xs[i].nodes
      · rw [hbig hgt]
        clear hbad hst hal htl halk hx hv0 hbig hxf hmin
        repeat' (first | ((with_reducible first | refine cond_pos (by omega) ?_ | refine cond_neg (by omega) ?_ | refine guard_pos (by omega) ?_ | refine guard_neg (by omega) ?_ | refine cond_ifn ?_ ?_ | refine cond_waysn ?_ ?_ | refine guard_ifn ?_ ?_ | refine guard_waysn ?_ ?_ | refine cond_if ?_ ?_ | refine cond_ways ?_ ?_ | refine guard_if ?_ ?_ | refine guard_ways ?_ ?_) <;> intro _) | (((with_reducible refine call_id ?_); (first | (refine call_pure (c3) ?_) | (refine call_pure (c4) ?_)))) | simp (maxSteps := 1000000) (disch := omega) only [go_sem, Nat.reduceAdd, Nat.reduceMul, Nat.reduceSub, Nat.reduceLeDiff, Nat.reduceEqDiff, Nat.reduceBEq, ↓reduceIte, reduceCtorEq, Int.reduceEq, Int.reduceLE, Int.reduceLT, Int.reduceAdd, Int.reduceSub, Int.reduceNeg, Int.reduceToNat, Int.reduceNe, Nat.reducePow, Nat.reduceShiftRight, Nat.reduceMod, *])
        all_goals
          refine fin_ret (r0 := .tup [.agg zeroT, .sc (.bool false)]) 2 (by (simp (disch := omega) only [go_sem, Nat.reduceMul, Nat.reduceSub, Nat.reduceShiftRight, Nat.reduceMod, Nat.reduceEqDiff, Nat.reduceAdd, ↓reduceIte, Nat.reduceLeDiff, *]); all_goals rfl) ?_
          exact .of_eq (by simp [frz, zeroT, frz_sc])
      · clear hbad hst hal htl hx hv0 hbig hxf hmin
        repeat' (first | ((with_reducible first | refine cond_pos (by omega) ?_ | refine cond_neg (by omega) ?_ | refine guard_pos (by omega) ?_ | refine guard_neg (by omega) ?_ | refine cond_ifn ?_ ?_ | refine cond_waysn ?_ ?_ | refine guard_ifn ?_ ?_ | refine guard_waysn ?_ ?_ | refine cond_if ?_ ?_ | refine cond_ways ?_ ?_ | refine guard_if ?_ ?_ | refine guard_ways ?_ ?_) <;> intro _) | (((with_reducible refine call_id ?_); (first | (refine call_pure (c3) ?_) | (refine call_pure (c4) ?_)))) | simp (maxSteps := 1000000) (disch := omega) only [go_sem, Nat.reduceAdd, Nat.reduceMul, Nat.reduceSub, Nat.reduceLeDiff, Nat.reduceEqDiff, Nat.reduceBEq, ↓reduceIte, reduceCtorEq, Int.reduceEq, Int.reduceLE, Int.reduceLT, Int.reduceAdd, Int.reduceSub, Int.reduceNeg, Int.reduceToNat, Int.reduceNe, Nat.reducePow, Nat.reduceShiftRight, Nat.reduceMod, *])
        refine Nx.mk (xs.length - (i + 1)) (by first | assumption | omega | rfl | (simp (disch := omega) only [go_sem, Nat.reduceMul, Nat.reduceSub, Nat.reduceShiftRight, Nat.reduceMod, Nat.reduceEqDiff, Nat.reduceAdd, ↓reduceIte, Nat.reduceLeDiff, *] <;> omega)) ⟨i + 1, v + xs[i].nodes, rfl, (by first | assumption | omega | rfl | (simp (disch := omega) only [go_sem, Nat.reduceMul, Nat.reduceSub, Nat.reduceShiftRight, Nat.reduceMod, Nat.reduceEqDiff, Nat.reduceAdd, ↓reduceIte, Nat.reduceLeDiff, *] <;> omega)), (by first | assumption | omega | rfl | (simp (disch := omega) only [go_sem, Nat.reduceMul, Nat.reduceSub, Nat.reduceShiftRight, Nat.reduceMod, Nat.reduceEqDiff, Nat.reduceAdd, ↓reduceIte, Nat.reduceLeDiff, *] <;> omega)), by simp [upd], by omega, fun _ => by omega, Kept.mk ⟨?_, ?_⟩, by simpa [zeroT] using hH1, (by first | assumption | omega | rfl | (simp (disch := omega) only [go_sem, Nat.reduceMul, Nat.reduceSub, Nat.reduceShiftRight, Nat.reduceMod, Nat.reduceEqDiff, Nat.reduceAdd, ↓reduceIte, Nat.reduceLeDiff, *] <;> omega))⟩
        · rw [halk.out, hs.out.1, hxk2.out]; rfl
        · have := hs.out.2; have := hstk.out; omega
  · obtain rfl : i = xs.length := by omega
    clear hbad
    have hs2 := hs.out
    rw [List.take_length] at hs2
    have hv3 : v ≤ 2000 := by
      by_cases h0 : 0 < xs.length
      · exact hv0 h0
      · have h1 : xs = [] := List.eq_nil_of_length_eq_zero (by omega)
        have h2 := hs2.2
        rw [h1] at h2
        simp only [nodesT, List.length_nil] at h2
        omega
    have hb6 := List.all_eq_true.1 hs2.1
    have hr : arrowR to xs = .tup [.agg (arrL to xs.length 0 xs).pv, .sc (.bool true)] := by
      unfold arrowR
      rw [if_pos]
      simp only [arrowOk, Bool.and_eq_true, decide_eq_true_eq]
      exact ⟨⟨hrk.out, hs2.1⟩, by omega⟩
    have hsz : ∀ i (h : i < xs.length), xs[i].formed 4 1125899906842624 = true ∧ xs[i].nodes ≤ 2000 ∧ xs[i].size ≤ xs[i].nodes := fun i h => by
      have h1 := right_formed (hb6 _ (List.getElem_mem h))
      exact ⟨by simpa using h1.1, h1.2.2.2.2, size_nodes _⟩
    have hszk := Kept.mk hsz
    have hts := size_nodes to
    rw [hr]
    clear hr hs hs2 hb6 hsz hv0 hrk
    repeat' (first | ((with_reducible first | refine cond_pos (by omega) ?_ | refine cond_neg (by omega) ?_ | refine guard_pos (by omega) ?_ | refine guard_neg (by omega) ?_ | refine cond_ifn ?_ ?_ | refine cond_waysn ?_ ?_ | refine guard_ifn ?_ ?_ | refine guard_waysn ?_ ?_ | refine cond_if ?_ ?_ | refine cond_ways ?_ ?_ | refine guard_if ?_ ?_ | refine guard_ways ?_ ?_) <;> intro _) | simp (maxSteps := 1000000) (disch := omega) only [go_sem, Nat.reduceAdd, Nat.reduceMul, Nat.reduceSub, Nat.reduceLeDiff, Nat.reduceEqDiff, Nat.reduceBEq, ↓reduceIte, reduceCtorEq, Int.reduceEq, Int.reduceLE, Int.reduceLT, Int.reduceAdd, Int.reduceSub, Int.reduceNeg, Int.reduceToNat, Int.reduceNe, Nat.reducePow, Nat.reduceShiftRight, Nat.reduceMod, *])
    refine call_mut (clone_m to hto _ _) ?_
    rintro H' nx' r' ⟨hn1, cs, rfl, hc2, hc4⟩ -
    have hlen := hc2.len
    have hone := hc2.one
    have htk : List.take 5 cs = cs := List.take_of_length_le (by omega)
    have hH1' : H' (nx + 1) = some ⟨zeroT, true⟩ := (hc4 (nx + 1) (by first | omega | exact Nat.lt_of_lt_of_le (by omega : nx + 1 < m) (Nat.le_add_right _ _))).trans (by simpa [zeroT] using hH1)
    have hn2 : m + 6 ≤ nx' := hn1
    have hc2k : Kept (OwnT H' (m + 6) nx' cs to) := Kept.mk hc2
    have hH1k := Kept.mk hH1'
    clear hn1 hc2 hc4 hH1 hH1' e6 e21
    repeat' (first | ((with_reducible first | refine cond_pos (by omega) ?_ | refine cond_neg (by omega) ?_ | refine guard_pos (by omega) ?_ | refine guard_neg (by omega) ?_ | refine cond_ifn ?_ ?_ | refine cond_waysn ?_ ?_ | refine guard_ifn ?_ ?_ | refine guard_waysn ?_ ?_ | refine cond_if ?_ ?_ | refine cond_ways ?_ ?_ | refine guard_if ?_ ?_ | refine guard_ways ?_ ?_) <;> intro _) | simp (maxSteps := 1000000) (disch := omega) only [go_sem, Nat.reduceAdd, Nat.reduceMul, Nat.reduceSub, Nat.reduceLeDiff, Nat.reduceEqDiff, Nat.reduceBEq, ↓reduceIte, reduceCtorEq, Int.reduceEq, Int.reduceLE, Int.reduceLT, Int.reduceAdd, Int.reduceSub, Int.reduceNeg, Int.reduceToNat, Int.reduceNe, Nat.reducePow, Nat.reduceShiftRight, Nat.reduceMod, hlen, htk, hone, *])
    refine call_mut (raise_told 4 xs.length ⟨by omega, by omega⟩ to 1125899906842624 0 hto (by omega) (by omega) hb5.1 (by omega) (by omega) (fun j => decide (j = nx + 1)) _ _ (m + 4) (m + 6) nx' cs (upd_same _ _ _) (Nat.lt_of_lt_of_le (by omega : m + 4 < nx') (Nat.le_add_right _ _)) (.inl (by omega)) hn2 (Nat.le_add_right _ _) (hc2k.out.mono _ _ _ _ _ _ (Nat.le_refl _) (Nat.le_refl _) fun j (g1 : m + 6 ≤ j) g2 => (upd_ne _ _ (show j ≠ m + 4 by omega)).trans (upd_ne _ _ (show j ≠ m + 4 by omega))) ?kp) ?_
    case kp =>
      intro j hj
      obtain rfl : j = nx + 1 := by simpa using hj
      refine ⟨Nat.lt_of_lt_of_le (by omega : nx + 1 < nx') (Nat.le_add_right _ _), by omega, .inl (by omega), fun o ho => ?_⟩
      have ho' := ((upd_ne _ _ (show nx + 1 ≠ m + 4 by omega)).trans (upd_ne _ _ (show nx + 1 ≠ m + 4 by omega))).symm.trans ho
      rw [hH1k.out] at ho'
      cases ho'
      exact ⟨rfl, rfl⟩
    rintro H3 nx3 r3 ⟨hn3, hc3, hc4⟩ -
    have hn4 : nx' ≤ nx3 := Nat.le_trans (Nat.le_add_right _ _) hn3
    have hH1'' : H3 (nx + 1) = some ⟨zeroT, true⟩ := (hc4 (nx + 1) (by simp)).trans (((upd_ne _ _ (show nx + 1 ≠ m + 4 by omega)).trans (upd_ne _ _ (show nx + 1 ≠ m + 4 by omega))).trans hH1k.out)
    clear hn3 hc4 hc2k hH1k hlen hone htk hts hb5
    have hcn := Kept.mk hn4
    repeat' (first | ((with_reducible first | refine cond_pos (by omega) ?_ | refine cond_neg (by omega) ?_ | refine guard_pos (by omega) ?_ | refine guard_neg (by omega) ?_ | refine cond_ifn ?_ ?_ | refine cond_waysn ?_ ?_ | refine guard_ifn ?_ ?_ | refine guard_waysn ?_ ?_ | refine cond_if ?_ ?_ | refine cond_ways ?_ ?_ | refine guard_if ?_ ?_ | refine guard_ways ?_ ?_) <;> intro _) | simp (maxSteps := 1000000) (disch := omega) only [go_sem, Nat.reduceAdd, Nat.reduceMul, Nat.reduceSub, Nat.reduceLeDiff, Nat.reduceEqDiff, Nat.reduceBEq, ↓reduceIte, reduceCtorEq, Int.reduceEq, Int.reduceLE, Int.reduceLT, Int.reduceAdd, Int.reduceSub, Int.reduceNeg, Int.reduceToNat, Int.reduceNe, Nat.reducePow, Nat.reduceShiftRight, Nat.reduceMod, *])
    refine c_loopW 2361039126246746754048 (by kernel_rfl) (fun j f4 H4 m4 => j ≤ xs.length ∧ f4 10 = .sc (.int .i64 ((j : Int) - 1)) ∧ H4 (nx + 1) = some ⟨zeroT, true⟩ ∧ H4 (m + 4) = some ⟨(arrL to xs.length j (xs.drop j)).pv, true⟩ ∧ m + 6 ≤ m4) xs.length ⟨Nat.le_refl _, (by first | assumption | omega | rfl | (simp (disch := omega) only [go_sem, Nat.reduceMul, Nat.reduceSub, Nat.reduceShiftRight, Nat.reduceMod, Nat.reduceEqDiff, Nat.reduceAdd, ↓reduceIte, Nat.reduceLeDiff, *] <;> omega)), hH1'', ?g1, ?g2⟩ ?_
    case g1 => rw [List.drop_length]; exact hc3
    case g2 => exact Nat.le_trans (by omega : m + 6 ≤ nx3) (Nat.le_add_right _ _)
    clear hc3 hH1'' hn4 hcn
    rintro j f4 H4 m4 ⟨hj, e10, hH1, hH9, hm4⟩
    unfold zeroT at hH1
    cases j with
    | zero =>
      rw [List.drop_zero] at hH9
      repeat' (first | ((with_reducible first | refine cond_pos (by omega) ?_ | refine cond_neg (by omega) ?_ | refine guard_pos (by omega) ?_ | refine guard_neg (by omega) ?_ | refine cond_ifn ?_ ?_ | refine cond_waysn ?_ ?_ | refine guard_ifn ?_ ?_ | refine guard_waysn ?_ ?_ | refine cond_if ?_ ?_ | refine cond_ways ?_ ?_ | refine guard_if ?_ ?_ | refine guard_ways ?_ ?_) <;> intro _) | simp (maxSteps := 1000000) (disch := omega) only [go_sem, Nat.reduceAdd, Nat.reduceMul, Nat.reduceSub, Nat.reduceLeDiff, Nat.reduceEqDiff, Nat.reduceBEq, ↓reduceIte, reduceCtorEq, Int.reduceEq, Int.reduceLE, Int.reduceLT, Int.reduceAdd, Int.reduceSub, Int.reduceNeg, Int.reduceToNat, Int.reduceNe, Nat.reducePow, Nat.reduceShiftRight, Nat.reduceMod, *])
      refine fin_ret (r0 := .tup [.agg (arrL to xs.length 0 xs).pv, .sc (.bool true)]) 1 (by (simp (disch := omega) only [go_sem, Nat.reduceMul, Nat.reduceSub, Nat.reduceShiftRight, Nat.reduceMod, Nat.reduceEqDiff, Nat.reduceAdd, ↓reduceIte, Nat.reduceLeDiff, *]); all_goals rfl) ?_
      exact .of_eq (by rw [frz_tup1]; rfl)
    | succ j =>
      have e11 : ((j + 1 : Nat) : Int) - 1 = (j : Int) := by omega
      rw [e11] at e10
      have eg : xs[j]? = some xs[j] := List.getElem?_eq_getElem hj
      have hdp : xs.drop j = xs[j] :: xs.drop (j + 1) := List.drop_eq_getElem_cons hj
      have hdpk := Kept.mk hdp
      have hxs := hszk.out j hj
      have hxn := hxk.out j hj
      have hH9k := Kept.mk hH9
      clear hdp e11 hH9
      repeat' (first | ((with_reducible first | refine cond_pos (by omega) ?_ | refine cond_neg (by omega) ?_ | refine guard_pos (by omega) ?_ | refine guard_neg (by omega) ?_ | refine cond_ifn ?_ ?_ | refine cond_waysn ?_ ?_ | refine guard_ifn ?_ ?_ | refine guard_waysn ?_ ?_ | refine cond_if ?_ ?_ | refine cond_ways ?_ ?_ | refine guard_if ?_ ?_ | refine guard_ways ?_ ?_) <;> intro _) | simp (maxSteps := 1000000) (disch := omega) only [go_sem, Nat.reduceAdd, Nat.reduceMul, Nat.reduceSub, Nat.reduceLeDiff, Nat.reduceEqDiff, Nat.reduceBEq, ↓reduceIte, reduceCtorEq, Int.reduceEq, Int.reduceLE, Int.reduceLT, Int.reduceAdd, Int.reduceSub, Int.reduceNeg, Int.reduceToNat, Int.reduceNe, Nat.reducePow, Nat.reduceShiftRight, Nat.reduceMod, *])
      refine call_mut (clone_m xs[j] hxn _ _) ?_
      rintro H5 nx5 r5 ⟨hn5, cs5, rfl, hc5, hk5⟩ -
      have hlen := hc5.len
      have hone := hc5.one
      have htk : List.take 5 cs5 = cs5 := List.take_of_length_le (by omega)
      have hn6 : m4 + 8 ≤ nx5 := hn5
      have hc5k : Kept (OwnT H5 (m4 + 8) nx5 cs5 xs[j]) := Kept.mk hc5
      have hH1b : H5 (nx + 1) = _ := (hk5 (nx + 1) (show nx + 1 < m4 + 8 by omega)).trans hH1
      have hH9b : H5 (m + 4) = _ := (hk5 (m + 4) (show m + 4 < m4 + 8 by omega)).trans hH9k.out
      have hH1c := Kept.mk hH1b
      have hH9c := Kept.mk hH9b
      clear hn5 hc5 hk5 hH1 hH1b hH9b hH9k
      repeat' (first | ((with_reducible first | refine cond_pos (by omega) ?_ | refine cond_neg (by omega) ?_ | refine guard_pos (by omega) ?_ | refine guard_neg (by omega) ?_ | refine cond_ifn ?_ ?_ | refine cond_waysn ?_ ?_ | refine guard_ifn ?_ ?_ | refine guard_waysn ?_ ?_ | refine cond_if ?_ ?_ | refine cond_ways ?_ ?_ | refine guard_if ?_ ?_ | refine guard_ways ?_ ?_) <;> intro _) | simp (maxSteps := 1000000) (disch := omega) only [go_sem, Nat.reduceAdd, Nat.reduceMul, Nat.reduceSub, Nat.reduceLeDiff, Nat.reduceEqDiff, Nat.reduceBEq, ↓reduceIte, reduceCtorEq, Int.reduceEq, Int.reduceLE, Int.reduceLT, Int.reduceAdd, Int.reduceSub, Int.reduceNeg, Int.reduceToNat, Int.reduceNe, Nat.reducePow, Nat.reduceShiftRight, Nat.reduceMod, hlen, htk, hone, *])
      refine call_mut (raise_told 4 j ⟨by omega, by omega⟩ xs[j] 1125899906842624 0 hxn (by omega) (by omega) hxs.1 (by omega) (by omega) (fun j' => decide (j' = nx + 1) || decide (j' = m + 4)) _ _ (m4 + 6) (m4 + 8) nx5 cs5 (upd_same _ _ _) (Nat.lt_of_lt_of_le (by omega : m4 + 6 < nx5) (Nat.le_add_right _ _)) (.inl (by omega)) hn6 (Nat.le_add_right _ _) (hc5k.out.mono _ _ _ _ _ _ (Nat.le_refl _) (Nat.le_refl _) fun j (g1 : m4 + 8 ≤ j) g2 => (upd_ne _ _ (show j ≠ m4 + 6 by omega)).trans (upd_ne _ _ (show j ≠ m4 + 6 by omega))) ?kp) ?_
      case kp =>
        intro j' hj'
        simp only [Bool.or_eq_true, decide_eq_true_eq] at hj'
        rcases hj' with rfl | rfl
        · refine ⟨Nat.lt_of_lt_of_le (by omega : nx + 1 < nx5) (Nat.le_add_right _ _), by omega, .inl (by omega), fun o ho => ?_⟩
          have ho' := ((upd_ne _ _ (show nx + 1 ≠ m4 + 6 by omega)).trans (upd_ne _ _ (show nx + 1 ≠ m4 + 6 by omega))).symm.trans ho
          rw [hH1c.out] at ho'
          cases ho'
          exact ⟨rfl, rfl⟩
        · refine ⟨Nat.lt_of_lt_of_le (by omega : m + 4 < nx5) (Nat.le_add_right _ _), by omega, .inl (by omega), fun o ho => ?_⟩
          have ho' := ((upd_ne _ _ (show m + 4 ≠ m4 + 6 by omega)).trans (upd_ne _ _ (show m + 4 ≠ m4 + 6 by omega))).symm.trans ho
          rw [hH9c.out] at ho'
          cases ho'
          exact ⟨isIt_len (by rw [tm_len]; omega), tm_imm _⟩
      rintro H7 nx7 r7 ⟨hn7, hc7, hk7⟩ -
      have hn8 : nx5 ≤ nx7 := Nat.le_trans (Nat.le_add_right _ _) hn7
      have hH1d : H7 (nx + 1) = _ := (hk7 (nx + 1) (by simp)).trans (((upd_ne _ _ (show nx + 1 ≠ m4 + 6 by omega)).trans (upd_ne _ _ (show nx + 1 ≠ m4 + 6 by omega))).trans hH1c.out)
      have hH9d : H7 (m + 4) = _ := (hk7 (m + 4) (by simp)).trans (((upd_ne _ _ (show m + 4 ≠ m4 + 6 by omega)).trans (upd_ne _ _ (show m + 4 ≠ m4 + 6 by omega))).trans hH9c.out)
      have hmk := tmade_p2 6 (xs[j].lift j 0) (arrL to xs.length (j + 1) (xs.drop (j + 1)))
      have hH1e := Kept.mk hH1d
      have hgoal : Kept (Tm.mk 6 0 emp [] [xs[j].lift j 0, arrL to xs.length (j + 1) (xs.drop (j + 1))] = arrL to xs.length j (xs.drop j)) := Kept.mk (by rw [hdpk.out]; rfl)
      rw [hgoal.out] at hmk
      clear hn7 hk7 hc5k hH1c hH9c hlen hone htk hH1d
      repeat' (first | ((with_reducible first | refine cond_pos (by omega) ?_ | refine cond_neg (by omega) ?_ | refine guard_pos (by omega) ?_ | refine guard_neg (by omega) ?_ | refine cond_ifn ?_ ?_ | refine cond_waysn ?_ ?_ | refine guard_ifn ?_ ?_ | refine guard_waysn ?_ ?_ | refine cond_if ?_ ?_ | refine cond_ways ?_ ?_ | refine guard_if ?_ ?_ | refine guard_ways ?_ ?_) <;> intro _) | (((with_reducible refine call_id ?_); (first | (refine call_pure (hmk) ?_)))) | simp (maxSteps := 1000000) (disch := omega) only [go_sem, Nat.reduceAdd, Nat.reduceMul, Nat.reduceSub, Nat.reduceLeDiff, Nat.reduceEqDiff, Nat.reduceBEq, ↓reduceIte, reduceCtorEq, Int.reduceEq, Int.reduceLE, Int.reduceLT, Int.reduceAdd, Int.reduceSub, Int.reduceNeg, Int.reduceToNat, Int.reduceNe, Nat.reducePow, Nat.reduceShiftRight, Nat.reduceMod, *])
      refine Nx.mk j (by first | assumption | omega | rfl | (simp (disch := omega) only [go_sem, Nat.reduceMul, Nat.reduceSub, Nat.reduceShiftRight, Nat.reduceMod, Nat.reduceEqDiff, Nat.reduceAdd, ↓reduceIte, Nat.reduceLeDiff, *] <;> omega)) ⟨by omega, by simp [upd], ?_, ?_, ?_⟩
      · exact (upd_ne _ _ (by omega)).trans hH1e.out
      · exact upd_same _ _ _
      · exact Nat.le_trans (by omega : m + 6 ≤ nx7) (Nat.le_add_right _ _)
end
end Go.Proofs.Ytfhblaggeahbjaa
