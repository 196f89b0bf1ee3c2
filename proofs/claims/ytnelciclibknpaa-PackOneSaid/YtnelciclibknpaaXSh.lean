/-
  Plain values: TmO, TmQ, TmR, TmS, TmU, TmT, TmV, TmX, TmW, TmY, LvM, TnA, PkT, PkU, PkV, PkW, PkX, TqA, TqB, Tm2, DeA, DeB, DeE, PkY.
-/
import Derived.Lib.SlicesS
import Derived.RangeFuncKeeps
import Derived.RangeFuncBound
import Derived.RangeFuncLeaves
import Derived.TacticsInMore
import Derived.Laws.Strings
import Derived.Test.YtnelciclibknpaaXSa
import Derived.Test.YtnelciclibknpaaXSb
import Derived.Test.YtnelciclibknpaaXSc
import Derived.Test.YtnelciclibknpaaXSd
import Derived.Test.YtnelciclibknpaaXSe
import Derived.Test.YtnelciclibknpaaXSf
import Derived.Test.YtnelciclibknpaaXSg
set_option linter.unusedVariables false
set_option linter.unusedSimpArgs false
namespace Go.Proofs.Ytnelciclibknpaa
open Go.RowKit
attribute [local go_sem ↓] c_seq c_region c_cond c_block c_ret c_skip c_exit c_cont t_normal t_ret t_exit b_normal b_ret b_exit run_nil run_cons g_some o_mv o_pick o_bin o_un o_ld o_ldf o_bld o_len o_mkf o_nilc o_fa o_fd o_ia o_iaa o_ix o_ixs o_ext o_al o_bxf o_bxt o_bsl o_bslf o_mks o_st o_stf o_call o_rng o_nxt o_callm o_callmA o_calvm o_calv cond_true cond_false upd_get sigF_cons o_eqa o_mm o_app o_slc o_apps o_cvt
attribute [local go_sem] num_nil num_cons isP chunks rngV next_is next_iter val_some new_some st_some stf_some guard_tt guard_ff guard_tf guard_ft guard_un calv_fn put_some put_none ev_tmp ev_const ev_func sig_eq sigF_nil q0 q1 nilcV faV fdV iaV iaaV ixV ixsV extV mksV loadP storeP lenPV binPV unPV intBin partsP fillP zeros PV.good PV.cellsOf PV.one q2 q3 q4 q5 q6 q7 q8 q9 q10 q11 q12 q13 q14 q15 q16 q17 q18 q19 q20 q21 q22 q23 q24 q25 q26 q27 q28 q29 q30 q31 q32 q33 q34 q35 q36 q37 q38 wrap64 app_some mmL mmV mm2 eqE eqParts eqInt eqBool eqStr partV q39 q40 pickV q41 q42 q43 q44 q45 q46 q47 q48 q49 appE oldOf rowOf updL q50 q51 q52 q53 zlt ovr_get ite_neN ite_eqN q54 q55 q56 q57 q58 q59 q60 q61 q62 q63 q64 q65 q66 q67 tailP_f tailP_t tailF_f tailF_t slcP bndO capO slcLen intOf Option.isSome_none Option.isNone_none Option.isSome_some Option.isNone_some nilP slc_sl slc_csl slc_osl slc_osl0 slc_ocap slc_str appR appS cvP shiftB false_or List.append_nil List.length_append resP resPs resP1 PV.sc.injEq Value.bool.injEq Value.int.injEq
section
set_option maxRecDepth 20000
attribute [local go_sem] pv_len pv_take Nat.add_assoc tm_len tm_take pv_one tm_one tpvB_len tpvB_take tpvB_one pvB_len pvB_take pvB_one id_ne id_ne' id_ne2 List.append_assoc lenPV_slB iaV_slB_f iaV_slB_t
mutual
theorem tsame_iff : ∀ a b : Tm, a.same b = true ↔ a = b
  | .mk k n s ls xs, .mk k' n' s' ls' ys => by
    simp only [Tm.same, Bool.and_eq_true, decide_eq_true_eq, Tm.mk.injEq]
    constructor
    · rintro ⟨h1, h2, h3, h4, h5, h6, h7⟩
      refine ⟨h1, h2, ?_, (sameL_iff ls ls' (by simpa using h4)).1 h6, (sameT_iff xs ys (by simpa using h5)).1 h7⟩
      unfold sameB at h3
      exact (Lib.bytes_beq_iff s s').1 h3
    · rintro ⟨h1, h2, h3, h4, h5⟩
      subst h3; subst h4; subst h5
      refine ⟨h1, h2, ?_, by simp, by simp, sameL_refl ls, (sameT_iff xs xs rfl).2 rfl⟩
      unfold sameB
      exact (Lib.bytes_beq_iff s s).2 rfl
theorem sameT_iff : ∀ xs ys : List Tm, xs.length = ys.length → (sameT xs ys = true ↔ xs = ys)
  | [], [], _ => by simp [sameT]
  | x :: xs, y :: ys, h => by
    simp only [sameT, Bool.and_eq_true, List.cons.injEq]
    rw [tsame_iff x y, sameT_iff xs ys (by simpa using h)]
  | [], y :: ys, h => by simp at h
  | x :: xs, [], h => by simp at h
end
theorem sameT_refl (xs : List Tm) : sameT xs xs = true := (sameT_iff xs xs rfl).2 rfl
set_option maxHeartbeats 16000000 in
theorem term_same_p (f g : Bool) (hfg : (f || g) = true) : ∀ (fuel : Nat) (a b : Tm), a.size ≤ fuel → PPure Try.prog F.term_same [.ptr (a.pvB f), .ptr (b.pvB g)] (.sc (.bool (a.same b))) := by
  intro fuel
  induction fuel with
  | zero => intro l _ h; have := size_pos l; omega
  | succ fuel ih =>
    intro a b hf
    cases a with
    | mk k n s ls xs =>
    cases b with
    | mk k' n' s' ls' ys =>
    simp only [Tm.size] at hf
    refine pure_by is_term_same (by simp) rfl fun hb nx => ?_
    have hb0 : (xs.length ≤ 9223372036854775807 ∧ ys.length ≤ 9223372036854775807) := by simp [Tm.pvB, bndL, PV.bnd, slB_bnd] at hb; omega
    have hc1 := sameLevels_p f g hfg _ ls ls' (Nat.lt_succ_self _)
    by_cases h0 : xs.length = 0
    · obtain rfl : xs = [] := List.eq_nil_of_length_eq_zero h0
      clear ih
      repeat' (first | ((with_reducible first | refine wA (by omega) ?_ | refine wB (by omega) ?_ | refine wC (by omega) ?_ | refine wD (by omega) ?_ | refine wE ?_ ?_ | refine wF ?_ ?_ | refine wG ?_ ?_ | refine wH ?_ ?_ | refine wI ?_ ?_ | refine wJ ?_ ?_ | refine wK ?_ ?_ | refine wL ?_ ?_) <;> intro _) | (((with_reducible refine call_id ?_); (first | (refine call_pure (hc1) ?_)))) | simp (maxSteps := 1000000) (disch := omega) only [↓c_seq, ↓c_region, ↓c_cond, ↓c_block, ↓c_ret, ↓c_skip, ↓c_exit, ↓c_cont, ↓t_normal, ↓t_ret, ↓t_exit, ↓b_normal, ↓b_ret, ↓b_exit, ↓run_nil, ↓run_cons, num_nil, num_cons, ↓g_some, ↓o_mv, ↓o_pick, ↓o_bin, ↓o_un, ↓o_ld, ↓o_ldf, isP, ↓o_bld, ↓o_len, ↓o_mkf, ↓o_nilc, ↓o_fa, ↓o_fd, ↓o_ia, ↓o_iaa, ↓o_ix, ↓o_ixs, ↓o_ext, ↓o_al, ↓o_bxf, ↓o_bxt, ↓o_bsl, ↓o_bslf, chunks, ↓o_mks, ↓o_st, ↓o_stf, ↓o_call, ↓o_rng, ↓o_nxt, rngV, next_is, next_iter, ↓o_callm, ↓o_callmA, ↓o_calvm, ↓o_calv, val_some, new_some, st_some, stf_some, guard_tt, guard_ff, guard_tf, guard_ft, guard_un, ↓cond_true, ↓cond_false, calv_fn, put_some, put_none, ev_tmp, ev_const, ev_func, ↓upd_get, sig_eq, sigF_nil, ↓sigF_cons, q0, q1, nilcV, faV, fdV, iaaV, ixV, ixsV, extV, mksV, loadP, storeP, binPV, unPV, intBin, partsP, fillP, zeros, PV.good, PV.cellsOf, PV.one, q2, q3, q4, q5, q6, q7, q8, q9, q10, q11, q12, q13, q14, Nat.reduceAdd, Nat.reduceMul, Nat.reduceSub, Nat.reduceLeDiff, Nat.reduceEqDiff, Nat.reduceBEq, q15, q16, q17, q18, ↓reduceIte, reduceCtorEq, q19, q20, q21, q22, q23, q24, q25, q26, q27, q28, q29, q30, q31, q32, q33, q34, q35, q36, q37, q38, wrap64, ↓o_eqa, ↓o_mm, ↓o_app, app_some, mmL, mmV, mm2, eqE, eqParts, eqInt, eqBool, eqStr, partV, q39, q40, pickV, q41, Int.reduceEq, Int.reduceLE, Int.reduceLT, Int.reduceAdd, Int.reduceSub, Int.reduceNeg, Int.reduceToNat, Int.reduceNe, q42, q43, q44, q45, q46, q47, q48, q49, appE, oldOf, rowOf, updL, q50, q51, q52, q53, Nat.reducePow, zlt, ovr_get, Nat.reduceShiftRight, Nat.reduceMod, ite_neN, ite_eqN, q54, q55, q56, q57, q58, q59, q60, q61, q62, q63, q64, q65, q66, q67, tailP_f, tailP_t, tailF_f, tailF_t, ↓o_slc, slcP, bndO, capO, slcLen, intOf, Option.isSome_none, Option.isNone_none, Option.isSome_some, Option.isNone_some, nilP, slc_sl, slc_csl, slc_osl, slc_osl0, slc_ocap, slc_str, appR, appS, ↓o_apps, ↓o_cvt, cvP, shiftB, false_or, pv_len, pv_take, Nat.add_assoc, tm_len, tm_take, pv_one, tm_one, tpvB_len, tpvB_take, tpvB_one, pvB_len, pvB_take, pvB_one, List.length_append, id_ne, id_ne', id_ne2, List.append_nil, List.append_assoc, lenPV_slB, iaV_slB_f, iaV_slB_t, mc_term_same, Tm.pvB, strBin, fold_sameB, *])
      all_goals (try (refine fin_tmp (.inr rfl) ?_; simp [upd, Tm.same, sameT, *]; done))
      · rename_i q
        refine fin_tmp (.inr rfl) ?_
        have q' : ¬ ([] : List Tm).length = ys.length := by simp at q ⊢; omega
        simp only [Tm.same, decide_eq_false q']
        simp [upd]
      · rename_i q
        refine fin_tmp (.inr rfl) ?_
        have q' : (decide (ls.length = ls'.length) && (decide (([] : List Tm).length = ys.length) && (sameL ls ls' && sameT [] ys))) = false := by
          rw [Bool.and_eq_false_iff] at q ⊢
          rcases q with q | q
          · exact .inl q
          · right; simp [q]
        simp only [Tm.same, q']
        simp [upd]
      · rename_i u5 u4 u3 u2 u1 u0
        obtain rfl : ys = [] := List.eq_nil_of_length_eq_zero (by omega)
        clear u0 u2
        refine c_rounds 1 ?_
        repeat' (first | ((with_reducible first | refine wA (by omega) ?_ | refine wB (by omega) ?_ | refine wC (by omega) ?_ | refine wD (by omega) ?_ | refine wE ?_ ?_ | refine wF ?_ ?_ | refine wG ?_ ?_ | refine wH ?_ ?_ | refine wI ?_ ?_ | refine wJ ?_ ?_ | refine wK ?_ ?_ | refine wL ?_ ?_) <;> intro _) | simp (maxSteps := 1000000) (disch := omega) only [↓c_seq, ↓c_region, ↓c_cond, ↓c_block, ↓c_ret, ↓c_skip, ↓c_exit, ↓c_cont, ↓t_normal, ↓t_ret, ↓t_exit, ↓b_normal, ↓b_ret, ↓b_exit, ↓run_nil, ↓run_cons, num_nil, num_cons, ↓g_some, ↓o_mv, ↓o_pick, ↓o_bin, ↓o_un, ↓o_ld, ↓o_ldf, isP, ↓o_bld, ↓o_len, ↓o_mkf, ↓o_nilc, ↓o_fa, ↓o_fd, ↓o_ia, ↓o_iaa, ↓o_ix, ↓o_ixs, ↓o_ext, ↓o_al, ↓o_bxf, ↓o_bxt, ↓o_bsl, ↓o_bslf, chunks, ↓o_mks, ↓o_st, ↓o_stf, ↓o_call, ↓o_rng, ↓o_nxt, rngV, next_is, next_iter, ↓o_callm, ↓o_callmA, ↓o_calvm, ↓o_calv, val_some, new_some, st_some, stf_some, guard_tt, guard_ff, guard_tf, guard_ft, guard_un, ↓cond_true, ↓cond_false, calv_fn, put_some, put_none, ev_tmp, ev_const, ev_func, ↓upd_get, sig_eq, sigF_nil, ↓sigF_cons, q0, q1, nilcV, faV, fdV, iaaV, ixV, ixsV, extV, mksV, loadP, storeP, binPV, unPV, intBin, partsP, fillP, zeros, PV.good, PV.cellsOf, PV.one, q2, q3, q4, q5, q6, q7, q8, q9, q10, q11, q12, q13, q14, Nat.reduceAdd, Nat.reduceMul, Nat.reduceSub, Nat.reduceLeDiff, Nat.reduceEqDiff, Nat.reduceBEq, q15, q16, q17, q18, ↓reduceIte, reduceCtorEq, q19, q20, q21, q22, q23, q24, q25, q26, q27, q28, q29, q30, q31, q32, q33, q34, q35, q36, q37, q38, wrap64, ↓o_eqa, ↓o_mm, ↓o_app, app_some, mmL, mmV, mm2, eqE, eqParts, eqInt, eqBool, eqStr, partV, q39, q40, pickV, q41, Int.reduceEq, Int.reduceLE, Int.reduceLT, Int.reduceAdd, Int.reduceSub, Int.reduceNeg, Int.reduceToNat, Int.reduceNe, q42, q43, q44, q45, q46, q47, q48, q49, appE, oldOf, rowOf, updL, q50, q51, q52, q53, Nat.reducePow, zlt, ovr_get, Nat.reduceShiftRight, Nat.reduceMod, ite_neN, ite_eqN, q54, q55, q56, q57, q58, q59, q60, q61, q62, q63, q64, q65, q66, q67, tailP_f, tailP_t, tailF_f, tailF_t, ↓o_slc, slcP, bndO, capO, slcLen, intOf, Option.isSome_none, Option.isNone_none, Option.isSome_some, Option.isNone_some, nilP, slc_sl, slc_csl, slc_osl, slc_osl0, slc_ocap, slc_str, appR, appS, ↓o_apps, ↓o_cvt, cvP, shiftB, false_or, pv_len, pv_take, Nat.add_assoc, tm_len, tm_take, pv_one, tm_one, tpvB_len, tpvB_take, tpvB_one, pvB_len, pvB_take, pvB_one, List.length_append, id_ne, id_ne', id_ne2, List.append_nil, List.append_assoc, lenPV_slB, iaV_slB_f, iaV_slB_t, rounds_next, *])
        refine fin_tmp (.inr rfl) ?_
        simp only [Bool.and_eq_true, decide_eq_true_eq] at u1
        simp [upd, Tm.same, sameT, *]
    · have h00 : 0 < xs.length := by omega
      have eg : xs[0]? = some xs[0] := List.getElem?_eq_getElem h00
      by_cases hl : xs.length = ys.length
      · have eg2 : ys[0]? = some ys[0] := List.getElem?_eq_getElem (by omega)
        have ih' := Kept.mk ih
        clear ih
        repeat' (first | ((with_reducible first | refine wA (by omega) ?_ | refine wB (by omega) ?_ | refine wC (by omega) ?_ | refine wD (by omega) ?_ | refine wE ?_ ?_ | refine wF ?_ ?_ | refine wG ?_ ?_ | refine wH ?_ ?_ | refine wI ?_ ?_ | refine wJ ?_ ?_ | refine wK ?_ ?_ | refine wL ?_ ?_) <;> intro _) | (((with_reducible refine call_id ?_); (first | (refine call_pure (hc1) ?_)))) | simp (maxSteps := 1000000) (disch := omega) only [↓c_seq, ↓c_region, ↓c_cond, ↓c_block, ↓c_ret, ↓c_skip, ↓c_exit, ↓c_cont, ↓t_normal, ↓t_ret, ↓t_exit, ↓b_normal, ↓b_ret, ↓b_exit, ↓run_nil, ↓run_cons, num_nil, num_cons, ↓g_some, ↓o_mv, ↓o_pick, ↓o_bin, ↓o_un, ↓o_ld, ↓o_ldf, isP, ↓o_bld, ↓o_len, ↓o_mkf, ↓o_nilc, ↓o_fa, ↓o_fd, ↓o_ia, ↓o_iaa, ↓o_ix, ↓o_ixs, ↓o_ext, ↓o_al, ↓o_bxf, ↓o_bxt, ↓o_bsl, ↓o_bslf, chunks, ↓o_mks, ↓o_st, ↓o_stf, ↓o_call, ↓o_rng, ↓o_nxt, rngV, next_is, next_iter, ↓o_callm, ↓o_callmA, ↓o_calvm, ↓o_calv, val_some, new_some, st_some, stf_some, guard_tt, guard_ff, guard_tf, guard_ft, guard_un, ↓cond_true, ↓cond_false, calv_fn, put_some, put_none, ev_tmp, ev_const, ev_func, ↓upd_get, sig_eq, sigF_nil, ↓sigF_cons, q0, q1, nilcV, faV, fdV, iaaV, ixV, ixsV, extV, mksV, loadP, storeP, binPV, unPV, intBin, partsP, fillP, zeros, PV.good, PV.cellsOf, PV.one, q2, q3, q4, q5, q6, q7, q8, q9, q10, q11, q12, q13, q14, Nat.reduceAdd, Nat.reduceMul, Nat.reduceSub, Nat.reduceLeDiff, Nat.reduceEqDiff, Nat.reduceBEq, q15, q16, q17, q18, ↓reduceIte, reduceCtorEq, q19, q20, q21, q22, q23, q24, q25, q26, q27, q28, q29, q30, q31, q32, q33, q34, q35, q36, q37, q38, wrap64, ↓o_eqa, ↓o_mm, ↓o_app, app_some, mmL, mmV, mm2, eqE, eqParts, eqInt, eqBool, eqStr, partV, q39, q40, pickV, q41, Int.reduceEq, Int.reduceLE, Int.reduceLT, Int.reduceAdd, Int.reduceSub, Int.reduceNeg, Int.reduceToNat, Int.reduceNe, q42, q43, q44, q45, q46, q47, q48, q49, appE, oldOf, rowOf, updL, q50, q51, q52, q53, Nat.reducePow, zlt, ovr_get, Nat.reduceShiftRight, Nat.reduceMod, ite_neN, ite_eqN, q54, q55, q56, q57, q58, q59, q60, q61, q62, q63, q64, q65, q66, q67, tailP_f, tailP_t, tailF_f, tailF_t, ↓o_slc, slcP, bndO, capO, slcLen, intOf, Option.isSome_none, Option.isNone_none, Option.isSome_some, Option.isNone_some, nilP, slc_sl, slc_csl, slc_osl, slc_osl0, slc_ocap, slc_str, appR, appS, ↓o_apps, ↓o_cvt, cvP, shiftB, false_or, pv_len, pv_take, Nat.add_assoc, tm_len, tm_take, pv_one, tm_one, tpvB_len, tpvB_take, tpvB_one, pvB_len, pvB_take, pvB_one, List.length_append, id_ne, id_ne', id_ne2, List.append_nil, List.append_assoc, lenPV_slB, iaV_slB_f, iaV_slB_t, mc_term_same, Tm.pvB, strBin, fold_sameB, *])
        all_goals (try (refine fin_tmp (.inr rfl) ?_; simp [upd, Tm.same, sameT, *]; done))
        · rename_i q
          refine fin_tmp (.inr rfl) ?_
          have q' : (decide (ls.length = ls'.length) && (decide (xs.length = ys.length) && (sameL ls ls' && sameT xs ys))) = false := by
            rw [Bool.and_eq_false_iff] at q ⊢
            rcases q with q | q
            · exact .inl q
            · right; simp [q]
          simp only [Tm.same, q']
          simp [upd]
        · rename_i u4 u3 u2 u1 u0
          clear u0
          simp only [Bool.and_eq_true, decide_eq_true_eq] at u1
          have hall : Kept (sameT xs ys = true → (Tm.mk k' n' s ls xs).same (Tm.mk k' n' s' ls' ys) = true) := Kept.mk fun h => by simp [Tm.same, *]
          have hno : Kept (sameT xs ys = false → (Tm.mk k' n' s ls xs).same (Tm.mk k' n' s' ls' ys) = false) := Kept.mk fun h => by simp [Tm.same, *]
          refine o_peq (f := f) (g := g) (cs := (xs.map (Tm.pvB f)).flatten) (ds := (ys.map (Tm.pvB g)).flatten) (n := 4) rfl rfl Try.underlying67 (by kernel_rfl) (by (simp (disch := omega) only [go_sem, seval, ev_tmp, ptrOf_B])) (by (simp (disch := omega) only [go_sem, seval, ev_tmp, ptrOf_B])) hfg (flat_ne (tpvB_len f) h00) (flat_ne (tpvB_len g) (by omega)) fun t ht => ?_
          clear u1 u2 hc1
          cases t with
          | true =>
            have hx := meet_tms hl (ht rfl)
            have hrf := hall.out (by rw [hx]; exact sameT_refl ys)
            clear ih' ht hall hno hx
            repeat' (first | ((with_reducible first | refine wA (by omega) ?_ | refine wB (by omega) ?_ | refine wC (by omega) ?_ | refine wD (by omega) ?_ | refine wE ?_ ?_ | refine wF ?_ ?_ | refine wG ?_ ?_ | refine wH ?_ ?_ | refine wI ?_ ?_ | refine wJ ?_ ?_ | refine wK ?_ ?_ | refine wL ?_ ?_) <;> intro _) | simp (maxSteps := 1000000) (disch := omega) only [↓c_seq, ↓c_region, ↓c_cond, ↓c_block, ↓c_ret, ↓c_skip, ↓c_exit, ↓c_cont, ↓t_normal, ↓t_ret, ↓t_exit, ↓b_normal, ↓b_ret, ↓b_exit, ↓run_nil, ↓run_cons, num_nil, num_cons, ↓g_some, ↓o_mv, ↓o_pick, ↓o_bin, ↓o_un, ↓o_ld, ↓o_ldf, isP, ↓o_bld, ↓o_len, ↓o_mkf, ↓o_nilc, ↓o_fa, ↓o_fd, ↓o_ia, ↓o_iaa, ↓o_ix, ↓o_ixs, ↓o_ext, ↓o_al, ↓o_bxf, ↓o_bxt, ↓o_bsl, ↓o_bslf, chunks, ↓o_mks, ↓o_st, ↓o_stf, ↓o_call, ↓o_rng, ↓o_nxt, rngV, next_is, next_iter, ↓o_callm, ↓o_callmA, ↓o_calvm, ↓o_calv, val_some, new_some, st_some, stf_some, guard_tt, guard_ff, guard_tf, guard_ft, guard_un, ↓cond_true, ↓cond_false, calv_fn, put_some, put_none, ev_tmp, ev_const, ev_func, ↓upd_get, sig_eq, sigF_nil, ↓sigF_cons, q0, q1, nilcV, faV, fdV, iaaV, ixV, ixsV, extV, mksV, loadP, storeP, binPV, unPV, intBin, partsP, fillP, zeros, PV.good, PV.cellsOf, PV.one, q2, q3, q4, q5, q6, q7, q8, q9, q10, q11, q12, q13, q14, Nat.reduceAdd, Nat.reduceMul, Nat.reduceSub, Nat.reduceLeDiff, Nat.reduceEqDiff, Nat.reduceBEq, q15, q16, q17, q18, ↓reduceIte, reduceCtorEq, q19, q20, q21, q22, q23, q24, q25, q26, q27, q28, q29, q30, q31, q32, q33, q34, q35, q36, q37, q38, wrap64, ↓o_eqa, ↓o_mm, ↓o_app, app_some, mmL, mmV, mm2, eqE, eqParts, eqInt, eqBool, eqStr, partV, q39, q40, pickV, q41, Int.reduceEq, Int.reduceLE, Int.reduceLT, Int.reduceAdd, Int.reduceSub, Int.reduceNeg, Int.reduceToNat, Int.reduceNe, q42, q43, q44, q45, q46, q47, q48, q49, appE, oldOf, rowOf, updL, q50, q51, q52, q53, Nat.reducePow, zlt, ovr_get, Nat.reduceShiftRight, Nat.reduceMod, ite_neN, ite_eqN, q54, q55, q56, q57, q58, q59, q60, q61, q62, q63, q64, q65, q66, q67, tailP_f, tailP_t, tailF_f, tailF_t, ↓o_slc, slcP, bndO, capO, slcLen, intOf, Option.isSome_none, Option.isNone_none, Option.isSome_some, Option.isNone_some, nilP, slc_sl, slc_csl, slc_osl, slc_osl0, slc_ocap, slc_str, appR, appS, ↓o_apps, ↓o_cvt, cvP, shiftB, false_or, pv_len, pv_take, Nat.add_assoc, tm_len, tm_take, pv_one, tm_one, tpvB_len, tpvB_take, tpvB_one, pvB_len, pvB_take, pvB_one, List.length_append, id_ne, id_ne', id_ne2, List.append_nil, List.append_assoc, lenPV_slB, iaV_slB_f, iaV_slB_t, *])
            refine fin_tmp (.inr rfl) ?_
            simp [upd, hrf]
          | false =>
            clear ht eg eg2
            repeat' (first | ((with_reducible first | refine wA (by omega) ?_ | refine wB (by omega) ?_ | refine wC (by omega) ?_ | refine wD (by omega) ?_ | refine wE ?_ ?_ | refine wF ?_ ?_ | refine wG ?_ ?_ | refine wH ?_ ?_ | refine wI ?_ ?_ | refine wJ ?_ ?_ | refine wK ?_ ?_ | refine wL ?_ ?_) <;> intro _) | simp (maxSteps := 1000000) (disch := omega) only [↓c_seq, ↓c_region, ↓c_cond, ↓c_block, ↓c_ret, ↓c_skip, ↓c_exit, ↓c_cont, ↓t_normal, ↓t_ret, ↓t_exit, ↓b_normal, ↓b_ret, ↓b_exit, ↓run_nil, ↓run_cons, num_nil, num_cons, ↓g_some, ↓o_mv, ↓o_pick, ↓o_bin, ↓o_un, ↓o_ld, ↓o_ldf, isP, ↓o_bld, ↓o_len, ↓o_mkf, ↓o_nilc, ↓o_fa, ↓o_fd, ↓o_ia, ↓o_iaa, ↓o_ix, ↓o_ixs, ↓o_ext, ↓o_al, ↓o_bxf, ↓o_bxt, ↓o_bsl, ↓o_bslf, chunks, ↓o_mks, ↓o_st, ↓o_stf, ↓o_call, ↓o_rng, ↓o_nxt, rngV, next_is, next_iter, ↓o_callm, ↓o_callmA, ↓o_calvm, ↓o_calv, val_some, new_some, st_some, stf_some, guard_tt, guard_ff, guard_tf, guard_ft, guard_un, ↓cond_true, ↓cond_false, calv_fn, put_some, put_none, ev_tmp, ev_const, ev_func, ↓upd_get, sig_eq, sigF_nil, ↓sigF_cons, q0, q1, nilcV, faV, fdV, iaaV, ixV, ixsV, extV, mksV, loadP, storeP, binPV, unPV, intBin, partsP, fillP, zeros, PV.good, PV.cellsOf, PV.one, q2, q3, q4, q5, q6, q7, q8, q9, q10, q11, q12, q13, q14, Nat.reduceAdd, Nat.reduceMul, Nat.reduceSub, Nat.reduceLeDiff, Nat.reduceEqDiff, Nat.reduceBEq, q15, q16, q17, q18, ↓reduceIte, reduceCtorEq, q19, q20, q21, q22, q23, q24, q25, q26, q27, q28, q29, q30, q31, q32, q33, q34, q35, q36, q37, q38, wrap64, ↓o_eqa, ↓o_mm, ↓o_app, app_some, mmL, mmV, mm2, eqE, eqParts, eqInt, eqBool, eqStr, partV, q39, q40, pickV, q41, Int.reduceEq, Int.reduceLE, Int.reduceLT, Int.reduceAdd, Int.reduceSub, Int.reduceNeg, Int.reduceToNat, Int.reduceNe, q42, q43, q44, q45, q46, q47, q48, q49, appE, oldOf, rowOf, updL, q50, q51, q52, q53, Nat.reducePow, zlt, ovr_get, Nat.reduceShiftRight, Nat.reduceMod, ite_neN, ite_eqN, q54, q55, q56, q57, q58, q59, q60, q61, q62, q63, q64, q65, q66, q67, tailP_f, tailP_t, tailF_f, tailF_t, ↓o_slc, slcP, bndO, capO, slcLen, intOf, Option.isSome_none, Option.isNone_none, Option.isSome_some, Option.isNone_some, nilP, slc_sl, slc_csl, slc_osl, slc_osl0, slc_ocap, slc_str, appR, appS, ↓o_apps, ↓o_cvt, cvP, shiftB, false_or, pv_len, pv_take, Nat.add_assoc, tm_len, tm_take, pv_one, tm_one, tpvB_len, tpvB_take, tpvB_one, pvB_len, pvB_take, pvB_one, List.length_append, id_ne, id_ne', id_ne2, List.append_nil, List.append_assoc, lenPV_slB, iaV_slB_f, iaV_slB_t, *])
            refine c_loopW 20282332232399215087680070090800 (by kernel_rfl) (fun j F H m => ∃ i : Nat, j = xs.length - i ∧ i ≤ xs.length ∧ F 86 = .sc (.int .i64 i) ∧ sameT (xs.take i) (ys.take i) = true) _ ⟨0, rfl, Nat.zero_le _, by simp [upd], rfl⟩ ?_
            rintro _ F H m ⟨i, rfl, hi, e86, hs⟩
            by_cases hlt : i < xs.length
            · have hlt2 : i < ys.length := by omega
              have eg : xs[i]? = some xs[i] := List.getElem?_eq_getElem hlt
              have eg2 : ys[i]? = some ys[i] := List.getElem?_eq_getElem hlt2
              have hn := sizeL_mem xs i hlt
              have ht := sameT_take xs ys i hlt hlt2
              have hq := sameT_false xs ys i hlt hlt2
              have hc := ih'.out xs[i] ys[i] (by omega)
              have ht' := Kept.mk ht
              have hq' := Kept.mk hq
              have hl' := Kept.mk hl
              clear ih' ht hq
              repeat' (first | ((with_reducible first | refine wA (by omega) ?_ | refine wB (by omega) ?_ | refine wC (by omega) ?_ | refine wD (by omega) ?_ | refine wE ?_ ?_ | refine wF ?_ ?_ | refine wG ?_ ?_ | refine wH ?_ ?_ | refine wI ?_ ?_ | refine wJ ?_ ?_ | refine wK ?_ ?_ | refine wL ?_ ?_) <;> intro _) | (((with_reducible refine call_id ?_); (first | (refine call_pure (hc) ?_)))) | simp (maxSteps := 1000000) (disch := omega) only [↓c_seq, ↓c_region, ↓c_cond, ↓c_block, ↓c_ret, ↓c_skip, ↓c_exit, ↓c_cont, ↓t_normal, ↓t_ret, ↓t_exit, ↓b_normal, ↓b_ret, ↓b_exit, ↓run_nil, ↓run_cons, num_nil, num_cons, ↓g_some, ↓o_mv, ↓o_pick, ↓o_bin, ↓o_un, ↓o_ld, ↓o_ldf, isP, ↓o_bld, ↓o_len, ↓o_mkf, ↓o_nilc, ↓o_fa, ↓o_fd, ↓o_ia, ↓o_iaa, ↓o_ix, ↓o_ixs, ↓o_ext, ↓o_al, ↓o_bxf, ↓o_bxt, ↓o_bsl, ↓o_bslf, chunks, ↓o_mks, ↓o_st, ↓o_stf, ↓o_call, ↓o_rng, ↓o_nxt, rngV, next_is, next_iter, ↓o_callm, ↓o_callmA, ↓o_calvm, ↓o_calv, val_some, new_some, st_some, stf_some, guard_tt, guard_ff, guard_tf, guard_ft, guard_un, ↓cond_true, ↓cond_false, calv_fn, put_some, put_none, ev_tmp, ev_const, ev_func, ↓upd_get, sig_eq, sigF_nil, ↓sigF_cons, q0, q1, nilcV, faV, fdV, iaaV, ixV, ixsV, extV, mksV, loadP, storeP, binPV, unPV, intBin, partsP, fillP, zeros, PV.good, PV.cellsOf, PV.one, q2, q3, q4, q5, q6, q7, q8, q9, q10, q11, q12, q13, q14, Nat.reduceAdd, Nat.reduceMul, Nat.reduceSub, Nat.reduceLeDiff, Nat.reduceEqDiff, Nat.reduceBEq, q15, q16, q17, q18, ↓reduceIte, reduceCtorEq, q19, q20, q21, q22, q23, q24, q25, q26, q27, q28, q29, q30, q31, q32, q33, q34, q35, q36, q37, q38, wrap64, ↓o_eqa, ↓o_mm, ↓o_app, app_some, mmL, mmV, mm2, eqE, eqParts, eqInt, eqBool, eqStr, partV, q39, q40, pickV, q41, Int.reduceEq, Int.reduceLE, Int.reduceLT, Int.reduceAdd, Int.reduceSub, Int.reduceNeg, Int.reduceToNat, Int.reduceNe, q42, q43, q44, q45, q46, q47, q48, q49, appE, oldOf, rowOf, updL, q50, q51, q52, q53, Nat.reducePow, zlt, ovr_get, Nat.reduceShiftRight, Nat.reduceMod, ite_neN, ite_eqN, q54, q55, q56, q57, q58, q59, q60, q61, q62, q63, q64, q65, q66, q67, tailP_f, tailP_t, tailF_f, tailF_t, ↓o_slc, slcP, bndO, capO, slcLen, intOf, Option.isSome_none, Option.isNone_none, Option.isSome_some, Option.isNone_some, nilP, slc_sl, slc_csl, slc_osl, slc_osl0, slc_ocap, slc_str, appR, appS, ↓o_apps, ↓o_cvt, cvP, shiftB, false_or, pv_len, pv_take, Nat.add_assoc, tm_len, tm_take, pv_one, tm_one, tpvB_len, tpvB_take, tpvB_one, pvB_len, pvB_take, pvB_one, List.length_append, id_ne, id_ne', id_ne2, List.append_nil, List.append_assoc, lenPV_slB, iaV_slB_f, iaV_slB_t, *])
              · rename_i q
                have hqq := hno.out (hq'.out q)
                refine fin_tmp (.inr rfl) ?_
                simp [upd, hqq]
              · rename_i q
                refine Nx.mk (xs.length - (i + 1)) cE1 ⟨i + 1, cE1, cE1, cE1, by rw [ht'.out, hs, q]; rfl⟩
            · obtain rfl : i = xs.length := by omega
              have e : ys.take xs.length = ys := List.take_of_length_le (by omega)
              rw [List.take_length, e] at hs
              have hrf := hall.out hs
              clear ih' hall hno
              repeat' (first | ((with_reducible first | refine wA (by omega) ?_ | refine wB (by omega) ?_ | refine wC (by omega) ?_ | refine wD (by omega) ?_ | refine wE ?_ ?_ | refine wF ?_ ?_ | refine wG ?_ ?_ | refine wH ?_ ?_ | refine wI ?_ ?_ | refine wJ ?_ ?_ | refine wK ?_ ?_ | refine wL ?_ ?_) <;> intro _) | simp (maxSteps := 1000000) (disch := omega) only [↓c_seq, ↓c_region, ↓c_cond, ↓c_block, ↓c_ret, ↓c_skip, ↓c_exit, ↓c_cont, ↓t_normal, ↓t_ret, ↓t_exit, ↓b_normal, ↓b_ret, ↓b_exit, ↓run_nil, ↓run_cons, num_nil, num_cons, ↓g_some, ↓o_mv, ↓o_pick, ↓o_bin, ↓o_un, ↓o_ld, ↓o_ldf, isP, ↓o_bld, ↓o_len, ↓o_mkf, ↓o_nilc, ↓o_fa, ↓o_fd, ↓o_ia, ↓o_iaa, ↓o_ix, ↓o_ixs, ↓o_ext, ↓o_al, ↓o_bxf, ↓o_bxt, ↓o_bsl, ↓o_bslf, chunks, ↓o_mks, ↓o_st, ↓o_stf, ↓o_call, ↓o_rng, ↓o_nxt, rngV, next_is, next_iter, ↓o_callm, ↓o_callmA, ↓o_calvm, ↓o_calv, val_some, new_some, st_some, stf_some, guard_tt, guard_ff, guard_tf, guard_ft, guard_un, ↓cond_true, ↓cond_false, calv_fn, put_some, put_none, ev_tmp, ev_const, ev_func, ↓upd_get, sig_eq, sigF_nil, ↓sigF_cons, q0, q1, nilcV, faV, fdV, iaaV, ixV, ixsV, extV, mksV, loadP, storeP, binPV, unPV, intBin, partsP, fillP, zeros, PV.good, PV.cellsOf, PV.one, q2, q3, q4, q5, q6, q7, q8, q9, q10, q11, q12, q13, q14, Nat.reduceAdd, Nat.reduceMul, Nat.reduceSub, Nat.reduceLeDiff, Nat.reduceEqDiff, Nat.reduceBEq, q15, q16, q17, q18, ↓reduceIte, reduceCtorEq, q19, q20, q21, q22, q23, q24, q25, q26, q27, q28, q29, q30, q31, q32, q33, q34, q35, q36, q37, q38, wrap64, ↓o_eqa, ↓o_mm, ↓o_app, app_some, mmL, mmV, mm2, eqE, eqParts, eqInt, eqBool, eqStr, partV, q39, q40, pickV, q41, Int.reduceEq, Int.reduceLE, Int.reduceLT, Int.reduceAdd, Int.reduceSub, Int.reduceNeg, Int.reduceToNat, Int.reduceNe, q42, q43, q44, q45, q46, q47, q48, q49, appE, oldOf, rowOf, updL, q50, q51, q52, q53, Nat.reducePow, zlt, ovr_get, Nat.reduceShiftRight, Nat.reduceMod, ite_neN, ite_eqN, q54, q55, q56, q57, q58, q59, q60, q61, q62, q63, q64, q65, q66, q67, tailP_f, tailP_t, tailF_f, tailF_t, ↓o_slc, slcP, bndO, capO, slcLen, intOf, Option.isSome_none, Option.isNone_none, Option.isSome_some, Option.isNone_some, nilP, slc_sl, slc_csl, slc_osl, slc_osl0, slc_ocap, slc_str, appR, appS, ↓o_apps, ↓o_cvt, cvP, shiftB, false_or, pv_len, pv_take, Nat.add_assoc, tm_len, tm_take, pv_one, tm_one, tpvB_len, tpvB_take, tpvB_one, pvB_len, pvB_take, pvB_one, List.length_append, id_ne, id_ne', id_ne2, List.append_nil, List.append_assoc, lenPV_slB, iaV_slB_f, iaV_slB_t, *])
              refine fin_tmp (.inr rfl) ?_
              simp [upd, hrf]
      · clear ih
        repeat' (first | ((with_reducible first | refine wA (by omega) ?_ | refine wB (by omega) ?_ | refine wC (by omega) ?_ | refine wD (by omega) ?_ | refine wE ?_ ?_ | refine wF ?_ ?_ | refine wG ?_ ?_ | refine wH ?_ ?_ | refine wI ?_ ?_ | refine wJ ?_ ?_ | refine wK ?_ ?_ | refine wL ?_ ?_) <;> intro _) | (((with_reducible refine call_id ?_); (first | (refine call_pure (hc1) ?_)))) | simp (maxSteps := 1000000) (disch := omega) only [↓c_seq, ↓c_region, ↓c_cond, ↓c_block, ↓c_ret, ↓c_skip, ↓c_exit, ↓c_cont, ↓t_normal, ↓t_ret, ↓t_exit, ↓b_normal, ↓b_ret, ↓b_exit, ↓run_nil, ↓run_cons, num_nil, num_cons, ↓g_some, ↓o_mv, ↓o_pick, ↓o_bin, ↓o_un, ↓o_ld, ↓o_ldf, isP, ↓o_bld, ↓o_len, ↓o_mkf, ↓o_nilc, ↓o_fa, ↓o_fd, ↓o_ia, ↓o_iaa, ↓o_ix, ↓o_ixs, ↓o_ext, ↓o_al, ↓o_bxf, ↓o_bxt, ↓o_bsl, ↓o_bslf, chunks, ↓o_mks, ↓o_st, ↓o_stf, ↓o_call, ↓o_rng, ↓o_nxt, rngV, next_is, next_iter, ↓o_callm, ↓o_callmA, ↓o_calvm, ↓o_calv, val_some, new_some, st_some, stf_some, guard_tt, guard_ff, guard_tf, guard_ft, guard_un, ↓cond_true, ↓cond_false, calv_fn, put_some, put_none, ev_tmp, ev_const, ev_func, ↓upd_get, sig_eq, sigF_nil, ↓sigF_cons, q0, q1, nilcV, faV, fdV, iaaV, ixV, ixsV, extV, mksV, loadP, storeP, binPV, unPV, intBin, partsP, fillP, zeros, PV.good, PV.cellsOf, PV.one, q2, q3, q4, q5, q6, q7, q8, q9, q10, q11, q12, q13, q14, Nat.reduceAdd, Nat.reduceMul, Nat.reduceSub, Nat.reduceLeDiff, Nat.reduceEqDiff, Nat.reduceBEq, q15, q16, q17, q18, ↓reduceIte, reduceCtorEq, q19, q20, q21, q22, q23, q24, q25, q26, q27, q28, q29, q30, q31, q32, q33, q34, q35, q36, q37, q38, wrap64, ↓o_eqa, ↓o_mm, ↓o_app, app_some, mmL, mmV, mm2, eqE, eqParts, eqInt, eqBool, eqStr, partV, q39, q40, pickV, q41, Int.reduceEq, Int.reduceLE, Int.reduceLT, Int.reduceAdd, Int.reduceSub, Int.reduceNeg, Int.reduceToNat, Int.reduceNe, q42, q43, q44, q45, q46, q47, q48, q49, appE, oldOf, rowOf, updL, q50, q51, q52, q53, Nat.reducePow, zlt, ovr_get, Nat.reduceShiftRight, Nat.reduceMod, ite_neN, ite_eqN, q54, q55, q56, q57, q58, q59, q60, q61, q62, q63, q64, q65, q66, q67, tailP_f, tailP_t, tailF_f, tailF_t, ↓o_slc, slcP, bndO, capO, slcLen, intOf, Option.isSome_none, Option.isNone_none, Option.isSome_some, Option.isNone_some, nilP, slc_sl, slc_csl, slc_osl, slc_osl0, slc_ocap, slc_str, appR, appS, ↓o_apps, ↓o_cvt, cvP, shiftB, false_or, pv_len, pv_take, Nat.add_assoc, tm_len, tm_take, pv_one, tm_one, tpvB_len, tpvB_take, tpvB_one, pvB_len, pvB_take, pvB_one, List.length_append, id_ne, id_ne', id_ne2, List.append_nil, List.append_assoc, lenPV_slB, iaV_slB_f, iaV_slB_t, mc_term_same, Tm.pvB, strBin, fold_sameB, *])
        all_goals (try (refine fin_tmp (.inr rfl) ?_; simp [upd, Tm.same, sameT, *]; done))
end
section
set_option maxRecDepth 20000
attribute [local go_sem] pv_len pv_take Nat.add_assoc tm_len tm_take pv_one tm_one tpvB_len tpvB_take tpvB_one pvB_len pvB_take pvB_one id_ne id_ne' id_ne2 List.append_assoc
abbrev emp : ByteArray := ⟨#[]⟩
theorem tm_take_app (l : Tm) (r : List PV) : (l.pv ++ r).take 5 = l.pv := List.take_left' (tm_len l)
attribute [local go_sem] tm_take_app
theorem tm_drop_app (l : Tm) (r : List PV) : (l.pv ++ r).drop 5 = r := List.drop_left' (tm_len l)
attribute [local go_sem] tm_drop_app
end
section
set_option maxRecDepth 20000
attribute [local go_sem] pv_len pv_take Nat.add_assoc tm_len tm_take pv_one tm_one tpvB_len tpvB_take tpvB_one pvB_len pvB_take pvB_one id_ne id_ne' id_ne2 List.append_assoc
mutual
def Tm.lift (by_ : Int) : Int → Tm → Tm
  | frm, .mk k n s ls args => .mk k (if k = 1 ∧ frm ≤ n then n + by_ else n) s ls (liftA by_ frm k args.length 0 args)
def liftA (by_ : Int) : Int → Int → Nat → Nat → List Tm → List Tm
  | _, _, _, _, [] => []
  | frm, kind, len, i, x :: r => x.lift by_ (frm + deepB kind len i) :: liftA by_ frm kind len (i + 1) r
end
end
section
mutual
def Tm.pre : Tm → List Tm
  | .mk k n s ls args => .mk k n s ls args :: preL args
def preL : List Tm → List Tm
  | [] => []
  | t :: r => t.pre ++ preL r
end
theorem preL_append : ∀ xs ys : List Tm, preL (xs ++ ys) = preL xs ++ preL ys
  | [], ys => by simp [preL]
  | x :: r, ys => by simp [preL, preL_append r ys]
theorem preL_take (args : List Tm) (i : Nat) (h : i < args.length) : preL (args.take (i + 1)) = preL (args.take i) ++ args[i].pre := by
  rw [List.take_succ_eq_append_getElem h, preL_append]
  simp [preL]
def nodePV (t : Tm) : PV := .ptr t.pv
theorem sl_part {V : Vw} {sz : Nat} {es : List (List PV)} {v : Value} (h : Rep V (.sl sz es) v) :
    ∃ A cap, v = .slice A es.length cap ∧ es.length ≤ maxLen ∧ ∀ i x, es[i]? = some x → ∃ b off, A = some ⟨b, off, none⟩ ∧ Rep V (.ptr x) (.pointer (some ⟨b, off + i * sz, none⟩)) := by
  cases h with
  | slNil _ A cap hc => exact ⟨A, cap, rfl, Nat.zero_le _, fun i x hx => by simp at hx⟩
  | sl _ _ b off len cap hlen hs h1 h2 hp =>
    refine ⟨some ⟨b, off, none⟩, cap, by rw [hlen], by omega, fun i x hx => ⟨b, off, rfl, ?_⟩⟩
    obtain ⟨b', off', vs, e, hok, hr, hc⟩ := hp.ptr_inv
    cases e
    have hil : i < es.length := (List.getElem?_eq_some_iff.1 hx).1
    have hex : es[i] = x := (List.getElem?_eq_some_iff.1 hx).2
    have hx5 : x.length = sz := hs x (hex ▸ List.getElem_mem hil)
    have key : ∀ (es : List (List PV)) (i : Nat) (x : List PV), (∀ e ∈ es, e.length = sz) → es[i]? = some x → (es.flatten.drop (i * sz)).take sz = x := by
      intro es
      induction es with
      | nil => intro i x _ h; simp at h
      | cons e r ih =>
        intro i x hs h
        have he : e.length = sz := hs e (by simp)
        cases i with
        | zero =>
          simp only [List.getElem?_cons_zero, Option.some.injEq] at h
          subst h
          simp [← he]
        | succ i =>
          rw [List.flatten_cons, Nat.succ_mul, Nat.add_comm, ← List.drop_drop, show sz = e.length from he.symm, List.drop_left, he]
          exact ih i x (fun y hy => hs y (by simp [hy])) (by simpa using h)
    have h3 := (hr.drop (i * sz)).take sz
    rw [key es i x hs hx] at h3
    refine .ptr_mk hok h3 fun j u hu => ?_
    rw [List.getElem?_take] at hu
    split at hu
    · rw [List.getElem?_drop] at hu
      have := hc _ u hu
      rw [show off + i * sz + j = off + (i * sz + j) by omega]
      exact this
    · cases hu
theorem rounds_key {F : Fence} {n : Nat} {P : Program} {c : Code} {Q : Exit → Act → World → Prop} {N : Nat} (I : Nat → Act → World → Prop) (hstep : ∀ i a W, i < N → I i a W → c.wpIn F n P (Exit.then (I (i + 1)) Q) a W)
    (hend : ∀ a W, I N a W → c.wpIn F n P (Exit.then (fun _ _ => False) Q) a W) : ∀ k i a W, i + k = N → I i a W → Code.roundsIn F n P c Q (k + 1) a W := by
  intro k
  induction k with
  | zero =>
    intro i a W hi h
    obtain rfl : i = N := by omega
    exact hend a W h
  | succ k ih =>
    intro i a W hi h
    rw [roundsIn_succ]
    refine wpIn_mono (hstep i a W (by omega) h) fun e a' W' hp => ?_
    cases e with
    | normal => exact ih (i + 1) a' W' (by omega) hp
    | _ => exact hp
abbrev El (V : Vw) (xs : List PV) := { y : PV × Value // y.1 ∈ xs ∧ Rep V y.1 y.2 }
theorem RoundIn.any {Fc : Fence} (hd : Fc.depth = none) {m m' : Nat} {P : Program} {l : Nat} {f : FuncId} {tmps : Array Value} {assign body : Code} {w : World} {R : Ending → World → Prop}
    (h : RoundIn Fc m P l f tmps assign body w R) : RoundIn Fc m' P l f tmps assign body w R := ⟨h.1, fun c cs _ => h.2 c cs (fun d h => by rw [hd] at h; cases h)⟩
theorem YieldAt.any {Fc : Fence} (hd : Fc.depth = none) {m : Nat} (m' : Nat) {P : Program} {l : Nat} {args : Array Value} {W : World} {R : Ending → World → Prop} (h : YieldAt Fc m P l args W R) : YieldAt Fc m' P l args W R := by
  obtain ⟨fn, tmps, assign, body, hy, hR⟩ := h
  exact ⟨fn, tmps, assign, body, hy, RoundIn.any hd hR⟩
set_option maxRecDepth 100000 in
set_option maxHeartbeats 4000000 in
theorem walkNodes0 (V : Vw) (xs : List PV) (l N : Nat) (J Jx : List (El V xs) → World → Prop)
    (hY : ∀ m pre (x : El V xs) W, J pre W → pre.length < N → YieldAt Fence.wide m Try.prog l #[x.1.2] W fun e W' => (e = .returned (.bool true) ∧ J (pre ++ [x]) W' ∧ ∀ b, V.ok b → W'.heap[b]? = W.heap[b]?) ∨ (e = .returned (.bool false) ∧ Jx (pre ++ [x]) W')) :
    ∀ (fuel : Nat) (t : Tm), t.size ≤ fuel → ∀ (n : Nat) (p : Value) (pre : List (El V xs)) (W : World), Rep V (.ptr t.pv) p → (∀ u ∈ t.pre, nodePV u ∈ xs) → (∀ b, V.ok b → W.heap[b]? = V.w.heap[b]?) → J pre W → pre.length + t.pre.length ≤ N →
      CallsIn Fence.wide n Try.prog F.term_walk #[p, .func (.yield l) #[] #[]] W fun e W' =>
        (e = .returned (.bool true) ∧ ∃ ys : List (El V xs), ys.map (·.1.1) = t.pre.map nodePV ∧ J (pre ++ ys) W' ∧ ∀ b, V.ok b → W'.heap[b]? = V.w.heap[b]?) ∨
        (e = .returned (.bool false) ∧ ∃ ys : List (El V xs), ys.map (·.1.1) <+: t.pre.map nodePV ∧ Jx (pre ++ ys) W') := by
  have hdd : ∀ k : Nat, (Fence.wide.depth.isSome = true → 1 ≤ k) := fun k h => by cases h
  intro fuel
  induction fuel with
  | zero => intro t h; have := size_pos t; omega
  | succ fuel ih =>
    intro t hf n p pre W hp hxs hW hJ hN
    cases t with
    | mk k nn s ls args =>
    simp only [Tm.size] at hf
    simp only [Tm.pre, List.length_cons] at hN
    have hp0 := hp
    obtain ⟨b, off, vs, rfl, hok, hr, hc⟩ := hp.ptr_inv
    obtain ⟨v4, hv4, hr4⟩ := hr.get (i := 4) (x := .sl 5 (args.map Tm.pv)) (by rw [Tm.pv]; rfl)
    obtain ⟨A, cap, rfl, hmax, hpart⟩ := sl_part hr4
    rw [List.length_map] at hmax
    have hcell : ∀ W' : World, (∀ b, V.ok b → W'.heap[b]? = V.w.heap[b]?) → W'.cell? ⟨b, off + 4, none⟩ = some (.slice A (args.map Tm.pv).length cap) := fun W' h => (World.cell?_of_block (w := V.w) (w' := W') (a := ⟨b, off + 4, none⟩) (h b hok)).trans (hc 4 _ hv4)
    have hY0 := hY (n - 1) pre ⟨(nodePV (.mk k nn s ls args), .pointer (some ⟨b, off, none⟩)), hxs _ (by simp [Tm.pre]), hp0⟩ W hJ (by omega)
    obtain ⟨fn, tmps, assign, body, hy, hR⟩ := YieldAt.mono (R' := fun e W1 => (e = .returned (.bool true) ∧ W1.cell? ⟨b, off + 4, none⟩ = some (.slice A (args.map Tm.pv).length cap) ∧ (∃ ys : List (El V xs), ys.map (·.1.1) = [nodePV (.mk k nn s ls args)] ∧ J (pre ++ ys) W1) ∧ ∀ b, V.ok b → W1.heap[b]? = V.w.heap[b]?) ∨
      (e = .returned (.bool false) ∧ ∃ ys : List (El V xs), ys.map (·.1.1) = [nodePV (.mk k nn s ls args)] ∧ Jx (pre ++ ys) W1)) hY0 (fun e W1 h => h.elim (fun ⟨he, h1, h2⟩ => .inl ⟨he, hcell W1 fun b hb => (h2 b hb).trans (hW b hb), ⟨_, rfl, h1⟩, fun b hb => (h2 b hb).trans (hW b hb)⟩) fun ⟨he, h1⟩ => .inr ⟨he, _, rfl, h1⟩)
    clear hY0
    refine callsIn_of_wp Try.func96 rfl trivial ?_ rfl
    simp only [Try.ntmps96, List.size_toArray, List.length_cons, List.length_nil, Nat.reduceAdd, Nat.reduceSub, Array.replicate_succ, Array.replicate_zero, List.push_toArray, List.append_toArray, List.nil_append, List.cons_append]
    gi_wp2_with ((try refine ⟨hdd _, ?_⟩); refine hR.mono ?_; clear hR; rintro e W1 (⟨rfl, c4, hj1, hk1⟩ | ⟨rfl, hx1⟩))
    · refine wpIn_loop_rounds (args.length + 1) (rounds_key (N := args.length) (fun i a W => ∃ x2 x3 x4 x5 x6 x7 x8 x9 x10 x11 x12 x13 x16 x17 x18 x19 x20 x21 x22 x23 x24 x25 x26 x27, a = ⟨#[.pointer (some ⟨b, off, none⟩), .func (.yield l) #[] #[], x2, x3, x4, x5, x6, x7, x8, x9, x10, x11, x12, x13, .int .i64 (args.length : Int), .int .i64 (i : Int), x16, x17, x18, x19, x20, x21, x22, x23, x24, x25, x26, x27], []⟩ ∧ (∃ ys : List (El V xs), ys.map (·.1.1) = (Tm.mk k nn s ls args :: preL (args.take i)).map nodePV ∧ J (pre ++ ys) W) ∧ ∀ b, V.ok b → W.heap[b]? = V.w.heap[b]?) ?step ?fin args.length 0 _ _ (by omega) ?init)
      case init =>
        obtain ⟨ys, h1, h2⟩ := hj1
        exact ⟨_, _, _, _, _, _, _, _, _, _, _, _, _, _, _, _, _, _, _, _, _, _, _, _, rfl, ⟨ys, by simpa [preL] using h1, h2⟩, hk1⟩
      case step =>
        rintro i a W2 hi ⟨x2, x3, x4, x5, x6, x7, x8, x9, x10, x11, x12, x13, x16, x17, x18, x19, x20, x21, x22, x23, x24, x25, x26, x27, rfl, ⟨ys, hys, hj⟩, hk⟩
        obtain ⟨b2, off2, rfl, hpi⟩ := hpart i args[i].pv (by simp [hi])
        have c42 := hcell W2 hk
        rw [List.length_map] at c42
        have hni := sizeL_mem args i hi
        have hlen : ys.length = 1 + (preL (args.take i)).length := by
          have := congrArg List.length hys
          simpa [Nat.add_comm] using this
        have h1 : preL args = preL (args.take i) ++ (args[i].pre ++ preL (args.drop (i + 1))) := by rw [← List.append_assoc, ← preL_take args i hi, ← preL_append, List.take_append_drop]
        have ih1 := ih args[i] (by omega) (n - 1) _ (pre ++ ys) W2 hpi (fun u hu => hxs u (by rw [Tm.pre, h1]; simp [hu])) hk hj (by rw [h1] at hN; simp only [List.length_append] at hN ⊢; omega)
        clear ih
        gi_wp2_with (refine ⟨trivial, hdd _, ?_⟩; refine ih1.mono ?_; clear ih1; rintro e W3 (⟨rfl, ys3, hy3, hj3, hk3⟩ | ⟨rfl, ys3, hy3, hx3⟩))
        · have e1 : ((i + 1 : Nat) : Int) = RowKit.wrap64 ((i : Int) + 1) := by
            have : args.length ≤ 9223372036854775807 := hmax
            unfold RowKit.wrap64
            omega
          rw [e1]
          refine ⟨_, _, _, _, _, _, _, _, _, _, _, _, _, _, _, _, _, _, _, _, _, _, _, _, rfl, ⟨ys ++ ys3, ?_, by rw [← List.append_assoc]; exact hj3⟩, hk3⟩
          rw [List.map_append, hys, hy3, preL_take args i hi]
          simp
        · go_ret
          refine .inr ⟨rfl, ys ++ ys3, ?_, by rw [← List.append_assoc]; exact hx3⟩
          rw [List.map_append, hys, Tm.pre]
          rw [h1]
          obtain ⟨z, hz⟩ := hy3
          exact ⟨z ++ (preL (args.drop (i + 1))).map nodePV, by simp [← hz]⟩
      case fin =>
        rintro a W2 ⟨x2, x3, x4, x5, x6, x7, x8, x9, x10, x11, x12, x13, x16, x17, x18, x19, x20, x21, x22, x23, x24, x25, x26, x27, rfl, ⟨ys, hys, hj⟩, hk⟩
        rw [List.take_length] at hys
        gi_wp2
        go_ret
        exact .inl ⟨rfl, ys, by rw [hys, Tm.pre], hj, hk⟩
    · obtain ⟨ys, h1, h2⟩ := hx1
      go_ret
      exact .inr ⟨rfl, ys, by rw [h1, Tm.pre]; exact ⟨(preL args).map nodePV, by simp⟩, h2⟩
end
section
theorem tlNodes_p : ∀ (fuel : Nat) (l : Lv) (most : Nat), l.nodes ≤ fuel ∨ most ≤ fuel → 1 ≤ most → most ≤ 3000 →
    PPure Try.prog F.term_levelNodes [.ptr l.pv, .sc (.int .i64 most)] (.sc (.int .i64 (min l.nodes most : Nat))) := by
  intro fuel
  induction fuel with
  | zero => intro l most h h1; have := nodes_pos l; omega
  | succ fuel ih =>
    intro l most hf h1 h2
    cases l with
    | mk k n args =>
    simp only [Lv.nodes] at hf
    refine pure_by is_term_levelNodes (by simp) rfl fun hb nx => ?_
    have hb0 : args.length ≤ 9223372036854775807 := by simp [Lv.pv, bndL, PV.bnd] at hb; exact hb.1
    simp (maxSteps := 1000000) (disch := omega) only [go_sem, seval, mc_term_levelNodes, Lv.pv]
    refine c_loop (fun j s => ∃ i t : Nat, j = args.length - i ∧ i ≤ args.length ∧ t = min (1 + nodesL (args.take i)) most ∧ s.s 0 = .ptr (Lv.mk k n args).pv ∧ s.s 1 = .sc (.int .i64 most) ∧ s.s 5 = .sc (.int .i64 t) ∧ s.s 11 = .sc (.int .i64 args.length) ∧ s.s 12 = .sc (.int .i64 i)) _ ⟨0, 1, rfl, by omega, by simp [nodesL]; omega, by simp [upd, sigF, sig_eq, Lv.pv]⟩ ?_
    rintro _ s ⟨i, t, rfl, hi, ht, e0, e1, e5, e11, e12⟩
    simp (maxSteps := 1000000) (disch := omega) only [go_sem, seval, Lv.pv, e0, e1, e5, e11, e12]
    by_cases hlt : i < args.length
    · have hs := nodesL_take_succ args i hlt
      have hp := nodes_pos args[i]
      simp (maxSteps := 1000000) (disch := omega) only [go_sem, seval, hlt, Lv.pv, e0, e1, e5, e11, e12]
      by_cases hfull : most ≤ t
      · simp (maxSteps := 1000000) (disch := omega) only [go_sem, seval, hfull, Lv.pv, e0, e1, e5, e11, e12]
        refine fin_tmp (.inr rfl) ?_
        have := nodesL_take_le args i
        simp only [go_sem, seval, Lv.nodes, PV.sc.injEq, Value.int.injEq]
        omega
      · have em : ((most : Int) - t) = ((most - t : Nat) : Int) := by omega
        have eg : args[i]? = some args[i] := List.getElem?_eq_getElem hlt
        simp (maxSteps := 1000000) (disch := omega) only [go_sem, seval, hfull, Lv.pv, e0, e1, e5, e11, e12, em, eg]
        refine call_pure (ih args[i] (most - t) (by have := nodesL_mem args i hlt; omega) (by omega) (by omega)) ?_
        simp (maxSteps := 1000000) (disch := omega) only [go_sem, seval, hfull, Lv.pv, e0, e1, e5, e11, e12, em, eg]
        exact ⟨args.length - (i + 1), by omega, i + 1, t + min args[i].nodes (most - t), rfl, by omega, by omega, by simp, by simp⟩
    · simp (maxSteps := 1000000) (disch := omega) only [go_sem, seval, hlt, Lv.pv, e0, e1, e5, e11, e12]
      refine fin_tmp (.inr rfl) ?_
      have hj : i = args.length := by omega
      subst hj
      rw [List.take_length] at ht
      simp only [go_sem, seval, Lv.nodes, PV.sc.injEq, Value.int.injEq]
      omega
end
section
set_option maxRecDepth 20000
attribute [local go_sem] pv_len pv_take tm_len tm_take pv_one tm_one id_ne id_ne' id_ne2
set_option maxRecDepth 100000 in
set_option maxHeartbeats 4000000 in
theorem all_seq (t : Tm) : PSeq Try.prog F.term_all_1 [.ptr [.ptr t.pv]] (t.pre.map nodePV) := by
  refine ⟨is_term_all_1.enters, fun V vals hok hv => ?_⟩
  intro l J Jx W hW _ _ hY h0
  have hdd : ∀ k : Nat, (Fence.wide.depth.isSome = true → 1 ≤ k) := fun k h => by cases h
  obtain ⟨v1, hv1, hr1⟩ := hv.get (i := 0) (x := .ptr [.ptr t.pv]) rfl
  have hvals : vals = [v1] := by
    have h1 := hv.1
    match vals, h1, hv1 with
    | [x], _, h => simp at h; rw [h]
  subst hvals
  obtain ⟨b, off, vs, rfl, hokb, hr, hc⟩ := hr1.ptr_inv
  obtain ⟨p, hp1, hrep⟩ := hr.get (i := 0) (x := .ptr t.pv) rfl
  have hkeep : ∀ b, V.ok b → W.heap[b]? = V.w.heap[b]? := fun b hb => hW.block b (hok b hb)
  have hcell : W.cell? ⟨b, off, none⟩ = some p := (World.cell?_of_block (w := V.w) (w' := W) (a := ⟨b, off, none⟩) (hkeep b hokb)).trans (hc 0 p hp1)
  have hw := walkNodes0 V (t.pre.map nodePV) l (t.pre.map nodePV).length J Jx (fun m pre x W hj hl => YieldAt.any rfl m (hY pre x W hj hl)) t.size t (Nat.le_refl _) 0 p [] W hrep (fun u hu => List.mem_map_of_mem hu) hkeep h0 (by simp)
  refine callsIn_of_wp Try.func95 rfl trivial ?_ rfl
  simp only [Try.ntmps95, List.size_toArray, List.length_cons, List.length_nil, Nat.reduceAdd, Nat.reduceSub, Array.replicate_succ, Array.replicate_zero, List.push_toArray, List.append_toArray, List.nil_append, List.cons_append]
  gi_wp2_with (refine ⟨trivial, ?_⟩; refine hw.mono ?_; clear hw; rintro e W1 (⟨rfl, ys, h1, h2, h3⟩ | ⟨rfl, ys, h1, h2⟩))
  · go_end0
    exact ⟨⟨_, rfl⟩, .inl ⟨ys, h1, by simpa using h2⟩⟩
  · go_end0
    exact ⟨⟨_, rfl⟩, .inr ⟨ys, h1, by simpa using h2⟩⟩
theorem all_p (t : Tm) : PPure Try.prog F.term_all [.ptr t.pv] (.fn F.term_all_1 [.ptr [.ptr t.pv]]) := by
  refine pure_by is_term_all (by simp) (by simp [PV.imm, immL, tm_imm]) fun hb nx => ?_
  repeat' (first | ((with_reducible first | refine wA (by omega) ?_ | refine wB (by omega) ?_ | refine wC (by omega) ?_ | refine wD (by omega) ?_ | refine wE ?_ ?_ | refine wF ?_ ?_ | refine wG ?_ ?_ | refine wH ?_ ?_ | refine wI ?_ ?_ | refine wJ ?_ ?_ | refine wK ?_ ?_ | refine wL ?_ ?_) <;> intro _) | simp (maxSteps := 1000000) (disch := omega) only [go_sem, seval, mc_term_all, *])
  exact fin_tmp (.inr rfl) (by simp [upd])
mutual
theorem Lv.pv_inj : ∀ a b : Lv, a.pv = b.pv → a = b
  | .mk k n args, .mk k' n' args', h => by
    simp only [Lv.pv, List.cons.injEq, PV.sc.injEq, Value.int.injEq, PV.sl.injEq, true_and, and_true] at h
    rw [h.1, h.2.1, pvL_inj args args' h.2.2]
theorem pvL_inj : ∀ a b : List Lv, a.map Lv.pv = b.map Lv.pv → a = b
  | [], [], _ => rfl
  | [], y :: s, h => by simp at h
  | x :: r, [], h => by simp at h
  | x :: r, y :: s, h => by
    simp only [List.map_cons, List.cons.injEq] at h
    rw [Lv.pv_inj x y h.1, pvL_inj r s h.2]
end
def Tm.wt : Tm → Nat
  | .mk _ _ _ ls _ => 1 + (ls.map fun l => min l.nodes 2001).sum
def Tm.own : Tm → Nat
  | .mk _ _ _ ls _ => 1 + nodesL ls
theorem wt_of_pv {a b : Tm} (h : nodePV a = nodePV b) : a.wt = b.wt := by
  cases a; cases b
  simp only [nodePV, Tm.pv, PV.ptr.injEq, List.cons.injEq, PV.sl.injEq, true_and, and_true] at h
  simp only [Tm.wt]
  rw [pvL_inj _ _ h.2.2.2.1]
def wts (us : List Tm) : Nat := (us.map Tm.wt).sum
theorem wts_of_pv : ∀ {us vs : List Tm}, us.map nodePV = vs.map nodePV → wts us = wts vs
  | [], [], _ => rfl
  | [], _ :: _, h => by simp at h
  | _ :: _, [], h => by simp at h
  | a :: us, b :: vs, h => by
    simp only [List.map_cons, List.cons.injEq] at h
    have := wts_of_pv h.2
    simp only [wts, List.map_cons, List.sum_cons] at this ⊢
    rw [wt_of_pv h.1, this]
theorem mins_le : ∀ ls : List Lv, (ls.map fun l => min l.nodes 2001).sum ≤ nodesL ls
  | [] => by simp [nodesL]
  | x :: r => by have := mins_le r; simp only [List.map_cons, List.sum_cons, nodesL]; omega
theorem mins_eq : ∀ ls : List Lv, (ls.map fun l => min l.nodes 2001).sum ≤ 2000 → (ls.map fun l => min l.nodes 2001).sum = nodesL ls
  | [], _ => by simp [nodesL]
  | x :: r, h => by
    simp only [List.map_cons, List.sum_cons, nodesL] at h ⊢
    have := mins_eq r (by omega)
    omega
theorem wt_le (t : Tm) : t.wt ≤ t.own := by
  cases t
  simp only [Tm.wt, Tm.own]
  have := mins_le ‹List Lv›
  omega
theorem wt_eq (t : Tm) (h : t.wt ≤ 2000) : t.wt = t.own := by
  cases t
  rename_i ls _
  simp only [Tm.wt, Tm.own] at h ⊢
  have := mins_eq ls (by omega)
  omega
theorem wts_le : ∀ us : List Tm, wts us ≤ (us.map Tm.own).sum
  | [] => by simp [wts]
  | x :: r => by have := wts_le r; have := wt_le x; simp only [wts, List.map_cons, List.sum_cons] at *; omega
theorem wts_eq : ∀ us : List Tm, wts us ≤ 2000 → wts us = (us.map Tm.own).sum
  | [], _ => by simp [wts]
  | x :: r, h => by
    simp only [wts, List.map_cons, List.sum_cons] at h ⊢
    have h1 := wts_eq r (by simp only [wts]; omega)
    have h2 := wt_eq x (by omega)
    simp only [wts] at h1
    omega
mutual
theorem own_pre : ∀ t : Tm, (t.pre.map Tm.own).sum = t.nodes
  | .mk k n s ls args => by
    simp only [Tm.pre, List.map_cons, List.sum_cons, Tm.own, Tm.nodes, own_preL args]
    omega
theorem own_preL : ∀ ts : List Tm, ((preL ts).map Tm.own).sum = nodesT ts
  | [] => by simp [preL, nodesT]
  | x :: r => by simp only [preL, List.map_append, List.sum_append, nodesT, own_pre x, own_preL r]
end
theorem wts_prefix {us vs : List Tm} (h : us.map nodePV <+: vs.map nodePV) : wts us ≤ wts vs := by
  obtain ⟨z, hz⟩ := h
  have h1 : us.map nodePV = (vs.take us.length).map nodePV := by
    rw [List.map_take, ← hz, List.take_left' (by simp)]
  rw [wts_of_pv h1]
  have h2 : wts vs = wts (vs.take us.length) + wts (vs.drop us.length) := by
    simp only [wts]
    rw [← List.sum_append, ← List.map_append, List.take_append_drop]
  omega
def minsL (ls : List Lv) : Nat := (ls.map fun l => min l.nodes 2001).sum
theorem minsL_take (ls : List Lv) (i : Nat) (h : i < ls.length) : minsL (ls.take (i + 1)) = minsL (ls.take i) + min ls[i].nodes 2001 := by
  unfold minsL
  rw [List.take_succ_eq_append_getElem h, List.map_append, List.sum_append]
  simp
end
section
set_option maxRecDepth 20000
attribute [local go_sem] pv_len pv_take Nat.add_assoc tm_len tm_take pv_one tm_one
theorem tSame_p (a b : Tm) (f g : Bool) (hfg : (f || g) = true) : PPure Try.prog F.term_Same [.agg (a.pvB f), .agg (b.pvB g)] (.sc (.bool (a.same b))) := by
  refine pure_by is_term_Same (by simp) rfl fun hb nx => ?_
  repeat' (first | ((with_reducible first | refine wA (by omega) ?_ | refine wB (by omega) ?_ | refine wC (by omega) ?_ | refine wD (by omega) ?_ | refine wE ?_ ?_ | refine wF ?_ ?_ | refine wG ?_ ?_ | refine wH ?_ ?_ | refine wI ?_ ?_ | refine wJ ?_ ?_ | refine wK ?_ ?_ | refine wL ?_ ?_) <;> intro _) | (((with_reducible refine call_id ?_); (first | (refine call_pure (term_same_p f g hfg a.size a b (Nat.le_refl _)) ?_)))) | simp (maxSteps := 1000000) (disch := omega) only [go_sem, seval, mc_term_Same, *])
  all_goals (refine fin_tmp (.inr rfl) ?_; simp [upd])
end
section
set_option maxRecDepth 20000
attribute [local go_sem] pv_len pv_take Nat.add_assoc tm_len tm_take pv_one tm_one tpvB_len tpvB_take tpvB_one pvB_len pvB_take pvB_one id_ne id_ne' id_ne2 List.append_assoc
theorem frgF_sc (G : Nat → Bool) (k : Nat) (H : Nat → Option PObj) (v : Value) : frgF G k H (.sc v) = .sc v := by cases k <;> rfl
theorem frgF_imm (G : Nat → Bool) (H : Nat → Option PObj) : ∀ (k : Nat) (x : PV), x.imm = true → frgF G k H x = x := by
  intro k
  induction k with
  | zero => intro x _; rfl
  | succ k ih =>
    have hl : ∀ xs : List PV, immL xs = true → xs.map (frgF G k H) = xs := by
      intro xs
      induction xs with
      | nil => intro _; rfl
      | cons x r ihr =>
        intro h
        simp only [immL, Bool.and_eq_true] at h
        rw [List.map_cons, ih x h.1, ihr h.2]
    intro x hx
    cases x with
    | agg xs => simp only [PV.imm] at hx; simp only [frgF, hl xs hx]
    | tup xs => simp only [PV.imm] at hx; simp only [frgF, hl xs hx]
    | fn f xs => simp only [PV.imm] at hx; simp only [frgF, hl xs hx]
    | optr id off => simp [PV.imm] at hx
    | osl id off len sz => simp [PV.imm] at hx
    | _ => rfl
theorem frgF_immL (G : Nat → Bool) (H : Nat → Option PObj) (k : Nat) : ∀ xs : List PV, immL xs = true → xs.map (frgF G k H) = xs
  | [], _ => rfl
  | x :: r, h => by
    simp only [immL, Bool.and_eq_true] at h
    rw [List.map_cons, frgF_imm G H k x h.1, frgF_immL G H k r h.2]
mutual
theorem OwnT.frg {H : Nat → Option PObj} {G : Nat → Bool} : ∀ (t : Tm) (lo m : Nat) (cs : List PV), OwnT H lo m cs t → (∀ j, lo ≤ j → j < m → G j = true) → ∀ k, t.size ≤ k → WeakL (cs.map (frgF G k H)) (t.pvB true)
  | .mk kind n s ls args, lo, m, cs, h, hG, k, hk => by
    simp only [OwnT] at h
    obtain ⟨a, b, rfl, ha, hb⟩ := h
    simp only [Tm.size] at hk
    obtain ⟨k, rfl⟩ : ∃ k', k = k' + 1 := ⟨k - 1, by omega⟩
    rw [Tm.pvB]
    simp only [List.map_cons, List.map_nil]
    refine ⟨.of_eq (frgF_sc _ _ _ _), .of_eq (frgF_sc _ _ _ _), .of_eq (frgF_sc _ _ _ _), ?_, ?_, trivial⟩
    · rcases ha with ⟨rfl, rfl⟩ | rfl
      · exact .trans (.of_eq (frgF_sc _ _ _ _)) (Weak.nilF 3)
      · exact .refl _
    · rcases hb with ⟨rfl, rfl⟩ | ⟨id, cells, w, h1, h2, rfl, h4, h5⟩
      · exact .trans (.of_eq (frgF_sc _ _ _ _)) (Weak.nilF 5)
      · have hl := OwnTs.len args cells h5
        have hw := OwnTs.frg args (id + 1) m cells h5 (fun j a b => hG j (by omega) b) k (by omega)
        simp only [frgF, hG id h1 h2, if_true, h4, List.drop_zero]
        rw [if_pos (by omega), List.take_of_length_le (by omega)]
        refine Weak.fslW (by rw [chunks_length, List.length_map]) (fun e he => ?_) ?_
        · obtain ⟨t, _, rfl⟩ := List.mem_map.1 he
          exact tpvB_len true t
        · rw [chunks_flatten 5 args.length _ (by rw [List.length_map, hl])]
          exact hw
theorem OwnTs.frg {H : Nat → Option PObj} {G : Nat → Bool} : ∀ (ts : List Tm) (lo m : Nat) (cs : List PV), OwnTs H lo m cs ts → (∀ j, lo ≤ j → j < m → G j = true) → ∀ k, sizeL ts ≤ k → WeakL (cs.map (frgF G k H)) (ts.map (Tm.pvB true)).flatten
  | [], _, _, cs, h, _, _, _ => by
    simp only [OwnTs] at h
    subst h
    trivial
  | t :: r, lo, m, cs, h, hG, k, hk => by
    simp only [OwnTs] at h
    obtain ⟨c, cr, mid, rfl, g1, g2, h1, h2⟩ := h
    simp only [sizeL] at hk
    simp only [List.map_append, List.map_cons, List.flatten_cons]
    exact (OwnT.frg t lo mid c h1 (fun j a b => hG j a (by omega)) k (by omega)).append (OwnTs.frg r mid m cr h2 (fun j a b => hG j (by omega) b) k (by omega))
end
theorem OwnW.frg {H : Nat → Option PObj} {G : Nat → Bool} {lo m : Nat} (hG : ∀ j, lo ≤ j → j < m → G j = true) : ∀ (ts : List Tm) (cs : List PV), OwnW H lo m cs ts → ∀ k, sizeL ts ≤ k → WeakL (cs.map (frgF G k H)) (ts.map (Tm.pvB true)).flatten
  | [], cs, h, _, _ => by cases h; trivial
  | t :: r, cs, ⟨c, cr, e, h1, h2⟩, k, hk => by
    subst e
    simp only [sizeL] at hk
    simp only [List.map_append, List.map_cons, List.flatten_cons]
    exact (OwnT.frg t _ _ c h1 hG k (by omega)).append (OwnW.frg hG r cr h2 k (by omega))
theorem WeakL.trans : ∀ {xs ys zs : List PV}, WeakL xs ys → WeakL ys zs → WeakL xs zs
  | [], [], [], _, _ => trivial
  | _ :: _, _ :: _, _ :: _, h, k => ⟨h.1.trans k.1, WeakL.trans h.2 k.2⟩
  | [], _ :: _, _, h, _ => h.elim
  | _ :: _, [], _, h, _ => h.elim
  | [], [], _ :: _, _, k => k.elim
  | _ :: _, _ :: _, [], _, k => k.elim
theorem isIt_len {o : PObj} (h : o.cells.length ≠ 1) : o.isIt = false := by
  unfold PObj.isIt
  split
  · rename_i e; rw [e] at h; simp at h
  · rename_i e; rw [e] at h; simp at h
  · rfl
end
section
set_option maxRecDepth 20000
attribute [local go_sem] pv_len pv_take Nat.add_assoc tm_len tm_take pv_one tm_one tpvB_len tpvB_take tpvB_one pvB_len pvB_take pvB_one id_ne id_ne' id_ne2 List.append_assoc
theorem RowAt.low {H H' : Nat → Option PObj} {lo lo' m m' sz : Nat} {a : PV} {cells : List PV} {n : Nat} (h : RowAt H lo m sz a cells n) (hl : lo' ≤ lo) (hm : m ≤ m') (hH : ∀ id, lo < id → id < m → H' id = H id) : RowAt H' lo' m' sz a cells n := by
  rcases h with h | ⟨id, h1, h2, h3, h4⟩
  · exact .inl h
  · exact .inr ⟨id, by omega, by omega, h3, by rw [hH id h1 h2, h4]⟩
end
section
set_option maxRecDepth 20000
attribute [local go_sem] pv_len pv_take Nat.add_assoc tm_len tm_take pv_one tm_one tpvB_len tpvB_take tpvB_one pvB_len pvB_take pvB_one id_ne id_ne' id_ne2 List.append_assoc
theorem RowAt.one {H : Nat → Option PObj} {lo m sz : Nat} {a : PV} {cells : List PV} {n : Nat} (h : RowAt H lo m sz a cells n) : PV.one a = true := by
  rcases h with ⟨_, rfl⟩ | ⟨_, _, _, rfl, _⟩ <;> rfl
end
section
attribute [local go_sem] pv_len pv_take id_ne id_ne' id_ne2 rounds_next Nat.add_assoc pv_one
def p0 : Lv := .mk 2 0 []
def p1 : Lv := .mk 2 1 []
theorem PPure.is {f : FuncId} {args : List PV} {r r' : PV} (h : PPure Try.prog f args r) (e : r = r') : PPure Try.prog f args r' := e ▸ h
end
section
set_option maxRecDepth 20000
attribute [local go_sem] pv_len pv_take Nat.add_assoc tm_len tm_take pv_one tm_one id_ne id_ne' id_ne2 List.append_assoc
def FixL (nx : Nat) (cs : List PV) : Prop := ∀ (G : Nat → Bool) (k : Nat) (H : Nat → Option PObj), (∀ j, j < nx → G j = false) → cs.map (frgF G k H) = cs
theorem FixL.mono {nx nx' : Nat} {cs : List PV} (h : FixL nx cs) (hn : nx ≤ nx') : FixL nx' cs := fun G k H hG => h G k H fun j hj => hG j (Nat.lt_of_lt_of_le hj hn)
theorem FixL.imm {nx : Nat} {cs : List PV} (h : immL cs = true) : FixL nx cs := fun G k H _ => frgF_immL G H k cs h
theorem FixL.nil {nx : Nat} : FixL nx [] := fun _ _ _ _ => rfl
theorem FixL.append {nx : Nat} {cs ds : List PV} (h : FixL nx cs) (g : FixL nx ds) : FixL nx (cs ++ ds) := fun G k H hG => by rw [List.map_append, h G k H hG, g G k H hG]
theorem FixL.cons {nx : Nat} {c : PV} {ds : List PV} (h : c.imm = true) (g : FixL nx ds) : FixL nx (c :: ds) := fun G k H hG => by rw [List.map_cons, frgF_imm G H k c h, g G k H hG]
theorem frgF_osl {G : Nat → Bool} {id : Nat} (h : G id = false) (k : Nat) (H : Nat → Option PObj) (off n sz : Nat) : frgF G k H (.osl id off n sz) = .osl id off n sz := by
  cases k with
  | zero => rfl
  | succ k => simp [frgF, h]
theorem FixL.osl {nx id off n sz : Nat} {ds : List PV} (h : id < nx) (g : FixL nx ds) : FixL nx (.osl id off n sz :: ds) := fun G k H hG => by rw [List.map_cons, frgF_osl (hG id h), g G k H hG]
def RowP (H : Nat → Option PObj) (lo m sz : Nat) (a : PV) (es : List (List PV)) : Prop := (es = [] ∧ a = .sc (.slice none 0 0)) ∨ ∃ id, lo ≤ id ∧ id < m ∧ a = .osl id 0 es.length sz ∧ H id = some ⟨es.flatten, true⟩
def HalfP (H : Nat → Option PObj) (lo m sz : Nat) (a : PV) (done : List PV) (z : List Value) (r n : Nat) : Prop := (n = 0 ∧ a = .sc (.slice none 0 0)) ∨ ∃ id, lo ≤ id ∧ id < m ∧ a = .osl id 0 n sz ∧ H id = some ⟨done ++ zeros z r, true⟩
def leads : PV → Nat → Bool
  | .osl i _ _ _, j => decide (j = i)
  | _, _ => false
theorem HalfP.row {H : Nat → Option PObj} {lo m sz : Nat} {a : PV} {es : List (List PV)} {z : List Value} {n : Nat} (h : HalfP H lo m sz a es.flatten z 0 n) (hn : es.length = n) : RowP H lo m sz a es := by
  rcases h with ⟨h1, h2⟩ | ⟨id, h1, h2, h3, h4⟩
  · exact .inl ⟨List.eq_nil_of_length_eq_zero (by omega), h2⟩
  · exact .inr ⟨id, h1, h2, by rw [hn]; exact h3, by simpa [zeros] using h4⟩
theorem RowP.mono {H H' : Nat → Option PObj} {lo m m' sz : Nat} {a : PV} {es : List (List PV)} (h : RowP H lo m sz a es) (hm : m ≤ m') (hH : ∀ j, lo ≤ j → j < m → leads a j = true → H' j = H j) : RowP H' lo m' sz a es := by
  rcases h with h | ⟨id, h1, h2, rfl, h4⟩
  · exact .inl h
  · exact .inr ⟨id, h1, by omega, rfl, by rw [hH id h1 h2 (by simp [leads]), h4]⟩
theorem HalfP.mono {H H' : Nat → Option PObj} {lo m m' sz : Nat} {a : PV} {done : List PV} {z : List Value} {r n : Nat} (h : HalfP H lo m sz a done z r n) (hm : m ≤ m') (hH : ∀ j, lo ≤ j → j < m → leads a j = true → H' j = H j) : HalfP H' lo m' sz a done z r n := by
  rcases h with h | ⟨id, h1, h2, rfl, h4⟩
  · exact .inl h
  · exact .inr ⟨id, h1, by omega, rfl, by rw [hH id h1 h2 (by simp [leads]), h4]⟩
theorem RowP.lead {H : Nat → Option PObj} {lo m sz : Nat} {a : PV} {es : List (List PV)} (h : RowP H lo m sz a es) (hl : es.flatten.length ≠ 1) (hi : immL es.flatten = true) {j : Nat} (hj : leads a j = true) (nx : Nat) :
    lo ≤ j ∧ j < m ∧ ∀ o, H j = some o → o.isIt = false ∧ FixL nx o.cells := by
  rcases h with ⟨_, rfl⟩ | ⟨id, h1, h2, rfl, h4⟩
  · cases hj
  · obtain rfl : j = id := by simpa [leads] using hj
    refine ⟨h1, h2, fun o ho => ?_⟩
    rw [h4] at ho
    cases ho
    exact ⟨isIt_len hl, .imm hi⟩
theorem RowP.frg {H : Nat → Option PObj} {lo m sz : Nat} {a : PV} {es : List (List PV)} (h : RowP H lo m sz a es) (hs : ∀ e ∈ es, e.length = sz) (G : Nat → Bool) (hG : ∀ j, lo ≤ j → G j = true) : Weak (frgF G 1 H a) (.sl sz es) := by
  rcases h with ⟨rfl, rfl⟩ | ⟨id, h1, h2, rfl, h4⟩
  · exact .nil sz
  · have hl : es.flatten.length = es.length * sz := by
      clear h4
      induction es with
      | nil => simp
      | cons e r ih =>
        rw [List.flatten_cons, List.length_append, ih (fun x hx => hs x (by simp [hx])), hs e (by simp), List.length_cons, Nat.succ_mul]
        omega
    simp only [frgF, hG id h1, if_true, h4, List.drop_zero]
    rw [if_pos (by omega), List.take_of_length_le (by omega)]
    refine .trans (Weak.fslW (es' := es) (by rw [chunks_length]) hs ?_) (Weak.fsl sz es)
    rw [List.map_id', chunks_flatten sz es.length _ (by omega)]
    exact .refl _
end
section
theorem frg_fix {V : Vw} {nx : Nat} (hfree : ∀ id, nx ≤ id → V.rho id = none) : ∀ (k : Nat) (x : PV) (v : Value), Rep V x v → ∀ (G : Nat → Bool) (H : Nat → Option PObj), (∀ j, j < nx → G j = false) → frgF G k H x = x := by
  have low : ∀ id b, V.rho id = some b → id < nx := fun id b h => by
    by_cases hlt : id < nx
    · exact hlt
    · rw [hfree id (by omega)] at h
      cases h
  have many : ∀ {k : Nat}, (∀ (x : PV) (v : Value), Rep V x v → ∀ (G : Nat → Bool) (H : Nat → Option PObj), (∀ j, j < nx → G j = false) → frgF G k H x = x) →
      ∀ {xs : List PV} {vs : List Value}, RepL V xs vs → ∀ (G : Nat → Bool) (H : Nat → Option PObj), (∀ j, j < nx → G j = false) → xs.map (frgF G k H) = xs := by
    intro k ih xs vs hr G H hG
    refine (List.map_congr_left fun x hx => ?_).trans (List.map_id xs)
    obtain ⟨i, hi, rfl⟩ := List.mem_iff_getElem.1 hx
    have hiv : i < vs.length := hr.1 ▸ hi
    exact ih _ _ (hr.2 i _ _ (List.getElem?_eq_getElem hi) (List.getElem?_eq_getElem hiv)) G H hG
  intro k
  induction k with
  | zero => intro x v h G H hG; rfl
  | succ k ih =>
    intro x v h G H hG
    cases x with
    | optr id off =>
      obtain ⟨b, rfl, hb⟩ := h.optr_inv
      simp [frgF, hG id (low id b hb)]
    | osl id off len sz =>
      obtain ⟨b, cap, c0, T0, fr0, rfl, hb, _⟩ := h.osl_inv
      simp [frgF, hG id (low id b hb)]
    | agg xs =>
      obtain ⟨vs, rfl, hr⟩ := h.agg_inv
      simp only [frgF, many ih hr G H hG]
    | tup xs =>
      obtain ⟨vs, rfl, hr⟩ := h.tup_inv
      simp only [frgF, many ih hr G H hG]
    | fn f xs =>
      cases h with
      | fn _ _ vs hl hr => simp only [frgF, many ih ⟨hl, hr⟩ G H hG]
    | _ => rfl
theorem relH_fix {w0 : World} {ok0 : Nat → Prop} {H : Nat → Option PObj} {rho : Nat → Option Nat} {w : World} {nx : Nat} (hH : RelH w0 ok0 H rho w) (hfree : ∀ id, nx ≤ id → rho id = none) : ∀ j o, H j = some o → FixL nx o.cells := by
  intro j o hj G k H' hG
  obtain ⟨b, h1, h2, h3⟩ := hH.own j o hj
  rcases h3 with ⟨c, T, hh, l1, l2, l3⟩ | ⟨s, pos, rfl, hh⟩ | ⟨kv, es, clk, rfl, hh, hm⟩
  · refine (List.map_congr_left fun x hx => ?_).trans (List.map_id _)
    obtain ⟨i, hi, rfl⟩ := List.mem_iff_getElem.1 hx
    obtain ⟨v, hv⟩ : ∃ v, c[i]? = some v := ⟨_, Array.getElem?_eq_getElem (by omega)⟩
    exact frg_fix hfree k _ v (l3 i _ v (List.getElem?_eq_getElem hi) hv) G H' hG
  · cases k <;> rfl
  · cases k <;> rfl
theorem PMut.start {P : Program} {f : FuncId} {args : List PV} {H : Nat → Option PObj} {nx : Nat} {Q : (Nat → Option PObj) → Nat → PV → Prop} (he : enters P f = true)
    (h : (∀ j o, H j = some o → j < nx ∧ FixL nx o.cells) → PMut P f args H nx Q) : PMut P f args H nx Q := by
  refine ⟨he, fun w0 ok0 rho w vals hH hfree hv => (h fun j o hj => ⟨?_, relH_fix hH hfree j o hj⟩).2 w0 ok0 rho w vals hH hfree hv⟩
  obtain ⟨b, hb, _⟩ := hH.own j o hj
  by_cases hlt : j < nx
  · exact hlt
  · rw [hfree j (by omega)] at hb
    cases hb
theorem toldL_leq {w0 : World} {ok0 : Nat → Prop} {H H2 : Nat → Option PObj} {rho : Nat → Option Nat} {w : World} (ht : ∀ id o2, H2 id = some o2 → H id = some o2) : (viewOf w0 ok0 H rho w).Leq (viewOf w0 ok0 H2 rho w) :=
  ⟨fun b hb => ⟨hb.1, fun id o2 ho => hb.2 id o2 (ht id o2 ho)⟩, fun _ _ => rfl, fun _ _ h => h, fun _ _ c T fr _ hh => ⟨c, T, fr, hh, Nat.le_refl _⟩, Nat.le_refl _⟩
theorem toldL_rel {w0 : World} {ok0 : Nat → Prop} {H H2 : Nat → Option PObj} {rho : Nat → Option Nat} {w : World} (ht : ∀ id o2, H2 id = some o2 → H id = some o2) (hH : RelH w0 ok0 H rho w) : RelH w0 ok0 H2 rho w := by
  refine ⟨hH.okb, hH.bel, fun id o2 ho => ?_, fun id id' b h h' => ?_⟩
  · obtain ⟨b, h1, h2, h3⟩ := hH.own id o2 (ht id o2 ho)
    exact ⟨b, h1, h2, h3.mono (toldL_leq ht) rfl⟩
  · have key : ∀ id, H2 id ≠ none → H id ≠ none := fun id h => by
      obtain ⟨o2, ho⟩ := Option.ne_none_iff_exists'.1 h
      rw [ht id o2 ho]
      simp
    exact hH.inj id id' b (key id h) (key id' h')
theorem PMut.tell {P : Program} {f : FuncId} {args : List PV} {H : Nat → Option PObj} {nx : Nat} {Q Q2 : (Nat → Option PObj) → Nat → PV → Prop} (h : PMut P f args H nx Q)
    (hq : ∀ H' nx' r, Q H' nx' r → (∀ j o, j < nx → H' j = some o → FixL nx o.cells) ∧ ∃ k r2, Weak (frgF (fun j => decide (nx ≤ j)) k H' r) r2 ∧ Q2 (fun j => if j < nx then H' j else none) nx' r2) : PMut P f args H nx Q2 := by
  refine ⟨h.1, fun w0 ok0 rho w vals hH hfree hv => (h.2 w0 ok0 rho w vals hH hfree hv).mono ?_⟩
  rintro e w' ⟨v, H', nx', r, rho', h1, h2, h3, h4, h5, h6, h7, h8⟩
  obtain ⟨g1, k, r2, g2, g3⟩ := hq H' nx' r h2
  have ht : ∀ id o2, (fun j => if j < nx then H' j else none) id = some o2 → lessC (fun j => decide (nx ≤ j)) k H' id = some o2 := by
    intro id o2 ho
    have ho : (if id < nx then H' id else none) = some o2 := ho
    split at ho
    · rename_i hlt
      have := g1 id o2 hlt ho (fun j => decide (nx ≤ j)) k H' (fun j hj => by simp; omega)
      simp only [lessC, Nat.not_le.2 hlt, decide_false, Bool.false_eq_true, if_false, ho, Option.map_some, this]
    · cases ho
  exact ⟨v, _, nx', r2, rho', h1, g3, toldL_rel ht (lessC_rel h3), ((h4.trans (less_leq ..)).trans (less_lessC ..)).trans (toldL_leq ht), h5, h6, h7, (g2 _ _ ((frgF_sound h3 k r v h8).mono (less_lessC ..))).mono (toldL_leq ht)⟩
end
section
set_option maxRecDepth 20000
attribute [local go_sem] Nat.add_assoc id_ne id_ne' id_ne2 List.append_assoc pv_len pv_take pv_one
def repF {α : Type} (g : RS → α × RS) : Nat → RS → List α × RS
  | 0, s => ([], s)
  | n + 1, s => ((repF g n s).1 ++ [(g (repF g n s).2).1], (g (repF g n s).2).2)
theorem repF_len {α : Type} (g : RS → α × RS) : ∀ (n : Nat) (s : RS), (repF g n s).1.length = n
  | 0, s => rfl
  | n + 1, s => by simp [repF, repF_len g n s]
def levelF : Nat → RS → Lv × RS
  | 0, s => (.mk 0 0 [], roomF (numF s).2)
  | f + 1, s =>
    if (roomF (numF s).2).bad = true then (.mk 0 0 [], roomF (numF s).2)
    else if (numF s).1 = 1 ∨ (numF s).1 = 2 then (.mk (numF s).1 (numF (roomF (numF s).2)).1 [], (numF (roomF (numF s).2)).2)
    else if (numF s).1 = 3 then (.mk 3 0 (repF (levelF f) 1 (roomF (numF s).2)).1, (repF (levelF f) 1 (roomF (numF s).2)).2)
    else if (numF s).1 = 4 ∨ (numF s).1 = 5 then (.mk (numF s).1 0 (repF (levelF f) 2 (roomF (numF s).2)).1, (repF (levelF f) 2 (roomF (numF s).2)).2)
    else (.mk (numF s).1 0 [], ⟨(roomF (numF s).2).l, (roomF (numF s).2).nodes, true⟩)
def Rdy (fuel : Nat) (s : RS) : Prop := s.bad = true ∨ (0 ≤ s.nodes ∧ s.nodes ≤ 2000 ∧ 2001 ≤ (fuel : Int) + s.nodes)
theorem numF_nodes (s : RS) : (numF s).2.nodes = s.nodes := by unfold numF; split <;> rfl
theorem numF_bad (s : RS) (h : (numF s).2.bad = false) : s.bad = false ∧ (Plain.tk s.l).2 ≠ 0 := by
  unfold numF at h
  split at h
  · cases h
  · rename_i h0; exact ⟨h, h0⟩
theorem nameF_nodes (s : RS) : (nameF s).2.nodes = s.nodes := by unfold nameF; split <;> rfl
theorem nameF_bad (s : RS) (h : (nameF s).2.bad = false) : s.bad = false := by
  unfold nameF at h
  split at h
  · cases h
  · exact h
theorem roomF_bad (s : RS) (h : (roomF s).bad = false) : s.bad = false ∧ (roomF s).nodes ≤ 2000 := by
  unfold roomF at h ⊢
  simp only [Bool.or_eq_false_iff, decide_eq_false_iff_not] at h
  exact ⟨h.1, by have := h.2; show IntKind.i64.wrap (s.nodes + 1) ≤ 2000; omega⟩
theorem roomF_nodes (s : RS) (h0 : 0 ≤ s.nodes) (h1 : s.nodes ≤ 2000) : (roomF s).nodes = s.nodes + 1 := by
  unfold roomF
  simp only
  rw [IntKind.wrap_i64]
  omega
theorem room_step {fuel : Nat} {s : RS} (h : Rdy fuel s) (hb : (roomF (numF s).2).bad = false) : s.bad = false ∧ 0 ≤ s.nodes ∧ (roomF (numF s).2).nodes = s.nodes + 1 ∧ s.nodes + 1 ≤ 2000 ∧ 2001 ≤ (fuel : Int) + s.nodes := by
  obtain ⟨h1, h2⟩ := roomF_bad _ hb
  obtain ⟨h3, -⟩ := numF_bad s h1
  rcases h with h | ⟨g1, g2, g3⟩
  · rw [h3] at h; cases h
  · have := roomF_nodes (numF s).2 (by rw [numF_nodes]; exact g1) (by rw [numF_nodes]; exact g2)
    rw [numF_nodes] at this
    exact ⟨h3, g1, this, by omega, g3⟩
def Step (s s' : RS) : Prop := s'.bad = true ∨ (s.bad = false ∧ s.nodes ≤ s'.nodes ∧ s'.nodes ≤ 2000)
theorem Step.rdy {fuel : Nat} {s s' : RS} (h : Step s s') (hr : Rdy fuel s) : Rdy fuel s' := by
  rcases h with h | ⟨h1, h2, h3⟩
  · exact .inl h
  · rcases hr with g | ⟨g1, g2, g3⟩
    · rw [h1] at g; cases g
    · exact .inr ⟨by omega, h3, by omega⟩
theorem Step.trans {s s' s2 : RS} (h : Step s s') (g : Step s' s2) : Step s s2 := by
  rcases g with g | ⟨g1, g2, g3⟩
  · exact .inl g
  · rcases h with h | ⟨h1, h2, h3⟩
    · rw [h] at g1; cases g1
    · exact .inr ⟨h1, by omega, g3⟩
theorem Step.num {s : RS} (h : s.bad = false → s.nodes ≤ 2000) : Step s (numF s).2 := by
  cases hb : (numF s).2.bad with
  | true => exact .inl hb
  | false => exact .inr ⟨(numF_bad s hb).1, by rw [numF_nodes]; omega, by rw [numF_nodes]; exact h (numF_bad s hb).1⟩
theorem Step.name {s : RS} (h : s.bad = false → s.nodes ≤ 2000) : Step s (nameF s).2 := by
  cases hb : (nameF s).2.bad with
  | true => exact .inl hb
  | false => exact .inr ⟨nameF_bad s hb, by rw [nameF_nodes]; omega, by rw [nameF_nodes]; exact h (nameF_bad s hb)⟩
theorem Rdy.top {fuel : Nat} {s : RS} (h : Rdy fuel s) (hb : s.bad = false) : s.nodes ≤ 2000 := by
  rcases h with h | h
  · rw [hb] at h; cases h
  · exact h.2.1
theorem rep_step {α : Type} {g : RS → α × RS} {fuel : Nat} (hg : ∀ s, Rdy fuel s → Step s (g s).2) : ∀ (n : Nat) (s : RS), Rdy fuel s → Step s (repF g n s).2
  | 0, s, h => by
    cases hb : s.bad with
    | true => exact .inl hb
    | false => exact .inr ⟨hb, Int.le_refl _, h.top hb⟩
  | n + 1, s, h => by
    have h1 := rep_step hg n s h
    exact h1.trans (hg _ (h1.rdy h))
theorem level_step : ∀ (fuel : Nat) (s : RS), Rdy fuel s → Step s (levelF fuel s).2
  | 0, s, h => by
    cases hb : (roomF (numF s).2).bad with
    | true => exact .inl hb
    | false =>
      obtain ⟨h1, h2, h3, h4, h5⟩ := room_step h hb
      omega
  | f + 1, s, h => by
    unfold levelF
    cases hb : (roomF (numF s).2).bad with
    | true => rw [if_pos rfl]; exact .inl hb
    | false =>
      rw [if_neg (by simp)]
      obtain ⟨h1, h2, h3, h4, h5⟩ := room_step h hb
      have hs : Step s (roomF (numF s).2) := .inr ⟨h1, by omega, by omega⟩
      have hr : Rdy f (roomF (numF s).2) := .inr ⟨by omega, by omega, by omega⟩
      split
      · exact hs.trans (.num fun _ => by omega)
      · split
        · exact hs.trans (rep_step (level_step f) 1 _ hr)
        · split
          · exact hs.trans (rep_step (level_step f) 2 _ hr)
          · exact .inl rfl
theorem rep_shrink {α : Type} {g : RS → α × RS} (hg : ∀ s, (g s).2.l.length ≤ s.l.length) : ∀ (n : Nat) (s : RS), (repF g n s).2.l.length ≤ s.l.length
  | 0, s => Nat.le_refl _
  | n + 1, s => Nat.le_trans (hg _) (rep_shrink hg n s)
theorem roomF_l (s : RS) : (roomF s).l = s.l := rfl
theorem level_shrink : ∀ (fuel : Nat) (s : RS), (levelF fuel s).2.l.length ≤ s.l.length
  | 0, s => numF_len s
  | f + 1, s => by
    have h1 := numF_len s
    have h2 := numF_len (roomF (numF s).2)
    have h3 := rep_shrink (level_shrink f) 1 (roomF (numF s).2)
    have h4 := rep_shrink (level_shrink f) 2 (roomF (numF s).2)
    rw [roomF_l] at h2 h3 h4
    unfold levelF
    (repeat' split) <;> simp only [roomF_l] <;> omega
def LRow {α : Type} (f : α → List PV) (sz : Nat) (H : Nat → Option PObj) (lo m : Nat) (a : PV) (xs : List α) : Prop := (xs = [] ∧ a = .sc (.slice none 0 0)) ∨ ∃ id w, lo ≤ id ∧ id < m ∧ a = .osl id 0 xs.length sz ∧ H id = some ⟨xs.flatMap f, w⟩
theorem LRow.frg {α : Type} {f : α → List PV} {sz : Nat} (hf : ∀ x, (f x).length = sz) {H : Nat → Option PObj} {lo m : Nat} {a : PV} {xs : List α} (h : LRow f sz H lo m a xs) (G : Nat → Bool) (hG : ∀ j, lo ≤ j → G j = true) : Weak (frgF G 1 H a) (.sl sz (xs.map f)) := by
  rcases h with ⟨rfl, rfl⟩ | ⟨id, w, h1, h2, rfl, h4⟩
  · exact .nil sz
  · have hl : (xs.flatMap f).length = xs.length * sz := flat_lenG f sz hf xs
    simp only [frgF, hG id h1, if_true, h4, List.drop_zero]
    rw [if_pos (by omega), List.take_of_length_le (by omega)]
    refine .trans (Weak.fslW (es' := xs.map f) (by rw [chunks_length, List.length_map]) (fun e he => ?_) ?_) (Weak.fsl sz _)
    · obtain ⟨x, _, rfl⟩ := List.mem_map.1 he; exact hf x
    · rw [List.map_id', chunks_flatten sz xs.length _ (by omega), List.flatMap_def]
      exact .refl _
theorem LRow.weak {α : Type} {f : α → List PV} {sz : Nat} {H H' : Nat → Option PObj} {lo m m' : Nat} {a : PV} {xs : List α} (h : LRow f sz H lo m a xs) (hm : m ≤ m') (hH : ∀ j, lo ≤ j → j < m → H' j = H j) : LRow f sz H' lo m' a xs := by
  rcases h with h | ⟨id, w, h1, h2, h3, h4⟩
  · exact .inl h
  · exact .inr ⟨id, w, h1, by omega, h3, by rw [hH id h1 h2, h4]⟩
theorem rdC_imm (s : RS) : immL (rdC s) = true := by simp [rdC, immL, rowB_imm, PV.imm]
theorem rd_tell {f : FuncId} {args : List PV} {H : Nat → Option PObj} {nx rid : Nat} {w : Bool} {s : RS} {x : PV} (he : enters Try.prog f = true) (hr : rid < nx)
    (h : PMut Try.prog f args H nx (fun H' nx' r => nx ≤ nx' ∧ (∃ k, Weak (frgF (fun j => decide (nx ≤ j)) k H' r) x) ∧ H' rid = some ⟨rdC s, w⟩ ∧ ∀ j, j < nx → j ≠ rid → H' j = H j)) :
    PMut Try.prog f args H nx (RdQ H nx rid w s x) := by
  refine PMut.start he fun hlow => PMut.tell h ?_
  rintro H' nx' r ⟨h1, ⟨k, h2⟩, h3, h4⟩
  refine ⟨fun j o hj ho => ?_, k, x, h2, h1, rfl, ?_, fun j g1 g2 => ?_⟩
  · by_cases e : j = rid
    · subst e
      rw [h3] at ho
      cases ho
      exact FixL.imm (rdC_imm s)
    · rw [h4 j hj e] at ho
      exact (hlow j o ho).2
  · simp only [hr, if_true]; exact h3
  · simp only [g1, if_true]; exact h4 j g1 g2
set_option maxHeartbeats 8000000 in
theorem levels_m {fuel : Nat} {g : RS → Lv × RS} (hgs : ∀ s, Rdy fuel s → Step s (g s).2) (hgl : ∀ s, (g s).2.l.length ≤ s.l.length)
    (hg : ∀ s, Rdy fuel s → s.l.length ≤ 2 ^ 40 → ∀ (rid : Nat) (w : Bool) (H : Nat → Option PObj) (nx : Nat), rid < nx → H rid = some ⟨rdC s, w⟩ → PMut Try.prog F.pack_reader_level [.optr rid 0] H nx (RdQ H nx rid w (g s).2 (.agg (g s).1.pv)))
    (n : Nat) (hn : n ≤ 10) (s : RS) (hs : Rdy fuel s) (hl : s.l.length ≤ 2 ^ 40) (rid : Nat) (w : Bool) (H : Nat → Option PObj) (nx : Nat) (hr : rid < nx) (hH : H rid = some ⟨rdC s, w⟩) :
    PMut Try.prog F.pack_reader_levels [.optr rid 0, .sc (.int .i64 n)] H nx (RdQ H nx rid w (repF g n s).2 (.sl 3 ((repF g n s).1.map Lv.pv))) := by
  refine rd_tell is_pack_reader_levels.enters hr ?_
  refine mut_by is_pack_reader_levels (by simp) fun hb => ?_
  clear hb
  repeat' (first | ((with_reducible first | refine wA (by omega) ?_ | refine wB (by omega) ?_ | refine wC (by omega) ?_ | refine wD (by omega) ?_ | refine wE ?_ ?_ | refine wF ?_ ?_ | refine wG ?_ ?_ | refine wH ?_ ?_ | refine wI ?_ ?_ | refine wJ ?_ ?_ | refine wK ?_ ?_ | refine wL ?_ ?_) <;> intro _) | simp (maxSteps := 1000000) (disch := omega) only [go_sem, seval, mc_pack_reader_levels, *])
  refine c_loopW 32672 (by kernel_rfl) (fun j f H2 m => ∃ i : Nat, j = n - i ∧ i ≤ n ∧ f 7 = .sc (.int .i64 i) ∧ nx ≤ m ∧ Kept (LRow Lv.pv 3 H2 nx m (f 5) (repF g i s).1) ∧ H2 rid = some ⟨rdC (repF g i s).2, w⟩ ∧ Kept (∀ j, j < nx → j ≠ rid → H2 j = H j)) _ ⟨0, rfl, Nat.zero_le _, cE1, cE1, ?rr, hH, Kept.mk fun _ _ _ => rfl⟩ ?_
  case rr => refine Kept.mk (.inl ⟨rfl, cE1⟩)
  rintro _ f H2 m ⟨i, rfl, hi, e7, hm, hrow, hrd, hk⟩
  by_cases hlt : i < n
  · have hst := rep_step hgs i s hs
    have hll := rep_shrink hgl i s
    have c1 := hg (repF g i s).2 (hst.rdy hs) (by omega) rid w
    repeat' (first | ((with_reducible first | refine wA (by omega) ?_ | refine wB (by omega) ?_ | refine wC (by omega) ?_ | refine wD (by omega) ?_ | refine wE ?_ ?_ | refine wF ?_ ?_ | refine wG ?_ ?_ | refine wH ?_ ?_ | refine wI ?_ ?_ | refine wJ ?_ ?_ | refine wK ?_ ?_ | refine wL ?_ ?_) <;> intro _) | simp (maxSteps := 1000000) (disch := omega) only [go_sem, seval, *])
    refine call_mut (c1 H2 _ (Nat.lt_of_lt_of_le hr (Nat.le_trans hm (Nat.le_add_right _ _))) hrd) ?_
    rintro H3 m3 r3 ⟨g1', rfl, g3, g4'⟩ -
    have hm3 : m + 7 ≤ m3 := g1'
    have g1 : m ≤ m3 := Nat.le_trans (Nat.le_add_right _ _) g1'
    have g4 : Kept (∀ j, j < m → j ≠ rid → H3 j = H2 j) := fun j h1 h2 => g4' j (Nat.lt_of_lt_of_le h1 (Nat.le_add_right _ _)) h2
    have hlen := repF_len g i s
    have hE1 : (repF g (i + 1) s).1 = (repF g i s).1 ++ [(g (repF g i s).2).1] := rfl
    have hE2 : (repF g (i + 1) s).2 = (g (repF g i s).2).2 := rfl
    rw [← hE2] at g3
    generalize (g (repF g i s).2).1 = x at *
    clear c1 hst hll g1' g4'
    have hrm : rid < m := Nat.lt_of_lt_of_le hr hm
    obtain ⟨h0, e5⟩ | ⟨id, w', h1, h2, e5, h4⟩ := hrow
    · have hi0 : i = 0 := by rw [← hlen, h0]; rfl
      subst hi0
      repeat' (first | ((with_reducible first | refine wA (by omega) ?_ | refine wB (by omega) ?_ | refine wC (by omega) ?_ | refine wD (by omega) ?_ | refine wE ?_ ?_ | refine wF ?_ ?_ | refine wG ?_ ?_ | refine wH ?_ ?_ | refine wI ?_ ?_ | refine wJ ?_ ?_ | refine wK ?_ ?_ | refine wL ?_ ?_) <;> intro _) | simp (maxSteps := 1000000) (disch := omega) only [go_sem, seval, *])
      refine Nx.mk (n - 1) cE1 ⟨1, rfl, cE1, cE1, ?mm, ?rr, ?hh, ?kk⟩
      case mm => exact Nat.le_trans hm (Nat.le_trans g1 (Nat.le_add_right _ _))
      case rr =>
        refine Kept.mk (.inr ⟨m + 5, false, by omega, by omega, cE1, ?_⟩)
        rw [upd_same]
        simp [hE1, h0]
      case hh => rw [upd_ne _ _ (show rid ≠ m + 5 by omega)]; exact g3
      case kk => exact Kept.mk fun j k1 k2 => by rw [upd_ne _ _ (show j ≠ m + 5 by omega), g4 j (Nat.lt_of_lt_of_le k1 hm) k2]; exact hk j k1 k2
    · have h5 : H3 id = some ⟨(repF g i s).1.flatMap Lv.pv, w'⟩ := by rw [g4 id h2 (fun e => by omega)]; exact h4
      have hfl : ((repF g i s).1.flatMap Lv.pv).length = i * 3 := by rw [flat_lenG _ 3 pv_len, hlen]
      have hz : (i + 1) * 40 ≤ 140737488355328 ∧ i ≤ 4611686018427387903 := by omega
      rw [hlen] at e5
      clear h4
      repeat' (first | ((with_reducible first | refine wA (by omega) ?_ | refine wB (by omega) ?_ | refine wC (by omega) ?_ | refine wD (by omega) ?_ | refine wE ?_ ?_ | refine wF ?_ ?_ | refine wG ?_ ?_ | refine wH ?_ ?_ | refine wI ?_ ?_ | refine wJ ?_ ?_ | refine wK ?_ ?_ | refine wL ?_ ?_) <;> intro _) | simp (maxSteps := 1000000) (disch := omega) only [go_sem, seval, *])
      refine Nx.mk (n - (i + 1)) cE1 ⟨i + 1, rfl, cE1, cE1, ?mm, ?rr, ?hh, ?kk⟩
      case mm => exact Nat.le_trans hm (Nat.le_trans g1 (Nat.le_add_right _ _))
      case rr =>
        refine Kept.mk (.inr ⟨m + 5, false, by omega, by omega, ?_, ?_⟩)
        · simp only [upd_get, Nat.reduceEqDiff, ↓reduceIte]
          rw [hE1, List.length_append, hlen]; rfl
        · rw [upd_same]
          simp [hE1]
      case hh => rw [upd_ne _ _ (show rid ≠ m + 5 by omega), upd_ne _ _ (show rid ≠ id by omega)]; exact g3
      case kk => exact Kept.mk fun j k1 k2 => by rw [upd_ne _ _ (show j ≠ m + 5 by omega), upd_ne _ _ (show j ≠ id by omega), g4 j (Nat.lt_of_lt_of_le k1 hm) k2]; exact hk j k1 k2
  · obtain rfl : i = n := by omega
    repeat' (first | ((with_reducible first | refine wA (by omega) ?_ | refine wB (by omega) ?_ | refine wC (by omega) ?_ | refine wD (by omega) ?_ | refine wE ?_ ?_ | refine wF ?_ ?_ | refine wG ?_ ?_ | refine wH ?_ ?_ | refine wI ?_ ?_ | refine wJ ?_ ?_ | refine wK ?_ ?_ | refine wL ?_ ?_) <;> intro _) | simp (maxSteps := 1000000) (disch := omega) only [go_sem, seval, *])
    refine fin_mut (f 5) (.inr rfl) cE2 ⟨Nat.le_trans hm (Nat.le_add_right _ _), ⟨1, hrow.out.frg pv_len _ fun j hj => by simpa using hj⟩, hrd, hk⟩
end
section
set_option maxRecDepth 20000
attribute [local go_sem] Nat.add_assoc id_ne id_ne' id_ne2 List.append_assoc pv_len pv_take pv_one
theorem upd_out {α : Type} {f : Nat → α} {k j : Nat} {x : α} {y : α} (h : j ≠ k) (g : f j = y) : upd f k x j = y := by rw [upd_ne _ _ h]; exact g
theorem lv0_weak (k n : Int) : Weak (.agg [.sc (.int .i64 k), .sc (.int .i64 n), .sc (.slice none 0 0)]) (.agg (Lv.mk k n []).pv) := by
  simp only [Lv.pv]
  exact Weak.agg ⟨.refl _, .refl _, .nil 3, trivial⟩
set_option maxHeartbeats 16000000 in
theorem level_m : ∀ (fuel : Nat) (s : RS), Rdy fuel s → s.l.length ≤ 2 ^ 40 → ∀ (rid : Nat) (w : Bool) (H : Nat → Option PObj) (nx : Nat), rid < nx → H rid = some ⟨rdC s, w⟩ →
    PMut Try.prog F.pack_reader_level [.optr rid 0] H nx (RdQ H nx rid w (levelF fuel s).2 (.agg (levelF fuel s).1.pv)) := by
  intro fuel
  induction fuel with
  | zero =>
    intro s hs hl rid w H nx hr hH
    refine rd_tell is_pack_reader_level.enters hr ?_
    refine mut_by is_pack_reader_level (by simp) fun hb => ?_
    clear hb
    have hbad : (roomF (numF s).2).bad = true := by
      cases hb : (roomF (numF s).2).bad with
      | true => rfl
      | false => obtain ⟨h1, h2, h3, h4, h5⟩ := room_step hs hb; omega
    unfold levelF
    simp only
    have hl1 : (numF s).2.l.length ≤ 2 ^ 40 := Nat.le_trans (numF_len s) hl
    repeat' (first | ((with_reducible first | refine wA (by omega) ?_ | refine wB (by omega) ?_ | refine wC (by omega) ?_ | refine wD (by omega) ?_ | refine wE ?_ ?_ | refine wF ?_ ?_ | refine wG ?_ ?_ | refine wH ?_ ?_ | refine wI ?_ ?_ | refine wJ ?_ ?_ | refine wK ?_ ?_ | refine wL ?_ ?_) <;> intro _) | simp (maxSteps := 1000000) (disch := omega) only [go_sem, seval, mc_pack_reader_level, *])
    refine call_mut (number_m s hl rid w _ _ (Nat.lt_of_lt_of_le hr (Nat.le_add_right _ _)) (upd_out (by omega) hH)) ?_
    rintro H1 m1 r1 ⟨hm1', rfl, g1, k1'⟩ -
    have hm1 : nx + 6 ≤ m1 := hm1'
    have b1 : H1 nx = some ⟨[.sc (.int .i64 0), .sc (.int .i64 0), .sc (.slice none 0 0)], true⟩ := (k1' nx (Nat.lt_add_of_pos_right (by decide)) (by omega)).trans (upd_same _ _ _)
    have k1 : Kept (∀ j, j < nx → j ≠ rid → H1 j = H j) := fun j e1 e2 => (k1' j (Nat.lt_of_lt_of_le e1 (Nat.le_add_right _ _)) e2).trans (upd_ne _ _ (by omega))
    clear hm1' k1' hH
    generalize (numF s).1 = k at *
    generalize (numF s).2 = s1 at *
    repeat' (first | ((with_reducible first | refine wA (by omega) ?_ | refine wB (by omega) ?_ | refine wC (by omega) ?_ | refine wD (by omega) ?_ | refine wE ?_ ?_ | refine wF ?_ ?_ | refine wG ?_ ?_ | refine wH ?_ ?_ | refine wI ?_ ?_ | refine wJ ?_ ?_ | refine wK ?_ ?_ | refine wL ?_ ?_) <;> intro _) | simp (maxSteps := 1000000) (disch := omega) only [go_sem, seval, *])
    refine call_mut (room_m s1 rid w _ _ (show rid < _ from Nat.lt_of_lt_of_le (show rid < m1 by omega) (Nat.le_add_right _ _)) (upd_out (by omega) (upd_out (by omega) g1))) ?_
    rintro H2 m2 r2 ⟨hm2', rfl, g2, k2'⟩ -
    have hm2 : m1 ≤ m2 := Nat.le_trans (Nat.le_add_right _ _) hm2'
    have b2 : H2 nx = some ⟨[.sc (.int .i64 0), .sc (.int .i64 0), .sc (.slice none 0 0)], true⟩ := (k2' nx (Nat.lt_of_lt_of_le (show nx < m1 by omega) (Nat.le_add_right _ _)) (by omega)).trans (upd_out (by omega) (upd_out (by omega) b1))
    have b3 : H2 (nx + 4) = some ⟨[.sc (.int .i64 k), .sc (.int .i64 0), .sc (.slice none 0 0)], true⟩ := (k2' (nx + 4) (Nat.lt_of_lt_of_le (show nx + 4 < m1 by omega) (Nat.le_add_right _ _)) (by omega)).trans (upd_same _ _ _)
    have k2 : Kept (∀ j, j < nx → j ≠ rid → H2 j = H j) := fun j e1 e2 => (k2' j (Nat.lt_of_lt_of_le (show j < m1 by omega) (Nat.le_add_right _ _)) e2).trans (upd_out (by omega) (upd_out (by omega) (k1 j e1 e2)))
    clear hm2' k2' k1 b1 g1
    have hl2 : (roomF s1).l.length ≤ 2 ^ 40 := hl1
    rw [hbad]
    generalize roomF s1 = s2 at *
    clear hl1
    repeat' (first | ((with_reducible first | refine wA (by omega) ?_ | refine wB (by omega) ?_ | refine wC (by omega) ?_ | refine wD (by omega) ?_ | refine wE ?_ ?_ | refine wF ?_ ?_ | refine wG ?_ ?_ | refine wH ?_ ?_ | refine wI ?_ ?_ | refine wJ ?_ ?_ | refine wK ?_ ?_ | refine wL ?_ ?_) <;> intro _) | simp (maxSteps := 1000000) (disch := omega) only [go_sem, seval, *])
    refine fin_mut (.agg [.sc (.int .i64 0), .sc (.int .i64 0), .sc (.slice none 0 0)]) (.inr rfl) cE2 ⟨Nat.le_trans (Nat.le_trans (Nat.le_trans (Nat.le_add_right _ _) hm1) hm2) (Nat.le_add_right _ _), ⟨0, lv0_weak 0 0⟩, upd_out (by omega) g2, fun j e1 e2 => upd_out (by omega) (k2 j e1 e2)⟩
  | succ fuel ih =>
  intro s hs hl rid w H nx hr hH
  refine rd_tell is_pack_reader_level.enters hr ?_
  refine mut_by is_pack_reader_level (by simp) fun hb => ?_
  clear hb
  unfold levelF
  cases hbad : (roomF (numF s).2).bad with
  | true =>
    rw [if_pos rfl]
    simp only
    have hl1 : (numF s).2.l.length ≤ 2 ^ 40 := Nat.le_trans (numF_len s) hl
    repeat' (first | ((with_reducible first | refine wA (by omega) ?_ | refine wB (by omega) ?_ | refine wC (by omega) ?_ | refine wD (by omega) ?_ | refine wE ?_ ?_ | refine wF ?_ ?_ | refine wG ?_ ?_ | refine wH ?_ ?_ | refine wI ?_ ?_ | refine wJ ?_ ?_ | refine wK ?_ ?_ | refine wL ?_ ?_) <;> intro _) | simp (maxSteps := 1000000) (disch := omega) only [go_sem, seval, mc_pack_reader_level, *])
    refine call_mut (number_m s hl rid w _ _ (Nat.lt_of_lt_of_le hr (Nat.le_add_right _ _)) (upd_out (by omega) hH)) ?_
    rintro H1 m1 r1 ⟨hm1', rfl, g1, k1'⟩ -
    have hm1 : nx + 6 ≤ m1 := hm1'
    have b1 : H1 nx = some ⟨[.sc (.int .i64 0), .sc (.int .i64 0), .sc (.slice none 0 0)], true⟩ := (k1' nx (Nat.lt_add_of_pos_right (by decide)) (by omega)).trans (upd_same _ _ _)
    have k1 : Kept (∀ j, j < nx → j ≠ rid → H1 j = H j) := fun j e1 e2 => (k1' j (Nat.lt_of_lt_of_le e1 (Nat.le_add_right _ _)) e2).trans (upd_ne _ _ (by omega))
    clear hm1' k1' hH
    generalize (numF s).1 = k at *
    generalize (numF s).2 = s1 at *
    repeat' (first | ((with_reducible first | refine wA (by omega) ?_ | refine wB (by omega) ?_ | refine wC (by omega) ?_ | refine wD (by omega) ?_ | refine wE ?_ ?_ | refine wF ?_ ?_ | refine wG ?_ ?_ | refine wH ?_ ?_ | refine wI ?_ ?_ | refine wJ ?_ ?_ | refine wK ?_ ?_ | refine wL ?_ ?_) <;> intro _) | simp (maxSteps := 1000000) (disch := omega) only [go_sem, seval, *])
    refine call_mut (room_m s1 rid w _ _ (show rid < _ from Nat.lt_of_lt_of_le (show rid < m1 by omega) (Nat.le_add_right _ _)) (upd_out (by omega) (upd_out (by omega) g1))) ?_
    rintro H2 m2 r2 ⟨hm2', rfl, g2, k2'⟩ -
    have hm2 : m1 ≤ m2 := Nat.le_trans (Nat.le_add_right _ _) hm2'
    have b2 : H2 nx = some ⟨[.sc (.int .i64 0), .sc (.int .i64 0), .sc (.slice none 0 0)], true⟩ := (k2' nx (Nat.lt_of_lt_of_le (show nx < m1 by omega) (Nat.le_add_right _ _)) (by omega)).trans (upd_out (by omega) (upd_out (by omega) b1))
    have b3 : H2 (nx + 4) = some ⟨[.sc (.int .i64 k), .sc (.int .i64 0), .sc (.slice none 0 0)], true⟩ := (k2' (nx + 4) (Nat.lt_of_lt_of_le (show nx + 4 < m1 by omega) (Nat.le_add_right _ _)) (by omega)).trans (upd_same _ _ _)
    have k2 : Kept (∀ j, j < nx → j ≠ rid → H2 j = H j) := fun j e1 e2 => (k2' j (Nat.lt_of_lt_of_le (show j < m1 by omega) (Nat.le_add_right _ _)) e2).trans (upd_out (by omega) (upd_out (by omega) (k1 j e1 e2)))
    clear hm2' k2' k1 b1 g1
    have hl2 : (roomF s1).l.length ≤ 2 ^ 40 := hl1
    rw [hbad]
    generalize roomF s1 = s2 at *
    clear hl1
    repeat' (first | ((with_reducible first | refine wA (by omega) ?_ | refine wB (by omega) ?_ | refine wC (by omega) ?_ | refine wD (by omega) ?_ | refine wE ?_ ?_ | refine wF ?_ ?_ | refine wG ?_ ?_ | refine wH ?_ ?_ | refine wI ?_ ?_ | refine wJ ?_ ?_ | refine wK ?_ ?_ | refine wL ?_ ?_) <;> intro _) | simp (maxSteps := 1000000) (disch := omega) only [go_sem, seval, *])
    refine fin_mut (.agg [.sc (.int .i64 0), .sc (.int .i64 0), .sc (.slice none 0 0)]) (.inr rfl) cE2 ⟨Nat.le_trans (Nat.le_trans (Nat.le_trans (Nat.le_add_right _ _) hm1) hm2) (Nat.le_add_right _ _), ⟨0, lv0_weak 0 0⟩, upd_out (by omega) g2, fun j e1 e2 => upd_out (by omega) (k2 j e1 e2)⟩
  | false =>
    rw [if_neg (by simp)]
    obtain ⟨-, n0, n1, n2, n3⟩ := room_step hs hbad
    have hrdy : Rdy fuel (roomF (numF s).2) := .inr ⟨by omega, by omega, by omega⟩
    clear n0 n1 n2 n3
    have hl1 : (numF s).2.l.length ≤ 2 ^ 40 := Nat.le_trans (numF_len s) hl
    repeat' (first | ((with_reducible first | refine wA (by omega) ?_ | refine wB (by omega) ?_ | refine wC (by omega) ?_ | refine wD (by omega) ?_ | refine wE ?_ ?_ | refine wF ?_ ?_ | refine wG ?_ ?_ | refine wH ?_ ?_ | refine wI ?_ ?_ | refine wJ ?_ ?_ | refine wK ?_ ?_ | refine wL ?_ ?_) <;> intro _) | simp (maxSteps := 1000000) (disch := omega) only [go_sem, seval, mc_pack_reader_level, *])
    refine call_mut (number_m s hl rid w _ _ (Nat.lt_of_lt_of_le hr (Nat.le_add_right _ _)) (upd_out (by omega) hH)) ?_
    rintro H1 m1 r1 ⟨hm1', rfl, g1, k1'⟩ -
    have hm1 : nx + 6 ≤ m1 := hm1'
    have b1 : H1 nx = some ⟨[.sc (.int .i64 0), .sc (.int .i64 0), .sc (.slice none 0 0)], true⟩ := (k1' nx (Nat.lt_add_of_pos_right (by decide)) (by omega)).trans (upd_same _ _ _)
    have k1 : Kept (∀ j, j < nx → j ≠ rid → H1 j = H j) := fun j e1 e2 => (k1' j (Nat.lt_of_lt_of_le e1 (Nat.le_add_right _ _)) e2).trans (upd_ne _ _ (by omega))
    clear hm1' k1' hH
    generalize (numF s).1 = k at *
    generalize (numF s).2 = s1 at *
    repeat' (first | ((with_reducible first | refine wA (by omega) ?_ | refine wB (by omega) ?_ | refine wC (by omega) ?_ | refine wD (by omega) ?_ | refine wE ?_ ?_ | refine wF ?_ ?_ | refine wG ?_ ?_ | refine wH ?_ ?_ | refine wI ?_ ?_ | refine wJ ?_ ?_ | refine wK ?_ ?_ | refine wL ?_ ?_) <;> intro _) | simp (maxSteps := 1000000) (disch := omega) only [go_sem, seval, *])
    refine call_mut (room_m s1 rid w _ _ (show rid < _ from Nat.lt_of_lt_of_le (show rid < m1 by omega) (Nat.le_add_right _ _)) (upd_out (by omega) (upd_out (by omega) g1))) ?_
    rintro H2 m2 r2 ⟨hm2', rfl, g2, k2'⟩ -
    have hm2 : m1 ≤ m2 := Nat.le_trans (Nat.le_add_right _ _) hm2'
    have b2 : H2 nx = some ⟨[.sc (.int .i64 0), .sc (.int .i64 0), .sc (.slice none 0 0)], true⟩ := (k2' nx (Nat.lt_of_lt_of_le (show nx < m1 by omega) (Nat.le_add_right _ _)) (by omega)).trans (upd_out (by omega) (upd_out (by omega) b1))
    have b3 : H2 (nx + 4) = some ⟨[.sc (.int .i64 k), .sc (.int .i64 0), .sc (.slice none 0 0)], true⟩ := (k2' (nx + 4) (Nat.lt_of_lt_of_le (show nx + 4 < m1 by omega) (Nat.le_add_right _ _)) (by omega)).trans (upd_same _ _ _)
    have k2 : Kept (∀ j, j < nx → j ≠ rid → H2 j = H j) := fun j e1 e2 => (k2' j (Nat.lt_of_lt_of_le (show j < m1 by omega) (Nat.le_add_right _ _)) e2).trans (upd_out (by omega) (upd_out (by omega) (k1 j e1 e2)))
    clear hm2' k2' k1 b1 g1
    have hl2 : (roomF s1).l.length ≤ 2 ^ 40 := hl1
    rw [hbad]
    generalize roomF s1 = s2 at *
    clear hl1
    obtain rfl | rfl | rfl | rfl | rfl | ⟨h1, h2, h3, h4, h5⟩ : k = 1 ∨ k = 2 ∨ k = 3 ∨ k = 4 ∨ k = 5 ∨ (k ≠ 1 ∧ k ≠ 2 ∧ k ≠ 3 ∧ k ≠ 4 ∧ k ≠ 5) := by omega
    · rw [if_pos (.inl rfl)]
      simp only
      repeat' (first | ((with_reducible first | refine wA (by omega) ?_ | refine wB (by omega) ?_ | refine wC (by omega) ?_ | refine wD (by omega) ?_ | refine wE ?_ ?_ | refine wF ?_ ?_ | refine wG ?_ ?_ | refine wH ?_ ?_ | refine wI ?_ ?_ | refine wJ ?_ ?_ | refine wK ?_ ?_ | refine wL ?_ ?_) <;> intro _) | simp (maxSteps := 1000000) (disch := omega) only [go_sem, seval, *])
      refine call_mut (number_m s2 hl2 rid w _ _ (Nat.lt_of_lt_of_le (show rid < m2 by omega) (Nat.le_add_right _ _)) g2) ?_
      rintro H3 m3 r3 ⟨hm3', rfl, g3, k3'⟩ -
      have hm3 : m2 ≤ m3 := Nat.le_trans (Nat.le_add_right _ _) hm3'
      have b5 : H3 nx = some ⟨[.sc (.int .i64 0), .sc (.int .i64 0), .sc (.slice none 0 0)], true⟩ := (k3' nx (Nat.lt_of_lt_of_le (show nx < m2 by omega) (Nat.le_add_right _ _)) (by omega)).trans b2
      have b6 : H3 (nx + 4) = some ⟨[.sc (.int .i64 (1 : Nat)), .sc (.int .i64 0), .sc (.slice none 0 0)], true⟩ := (k3' (nx + 4) (Nat.lt_of_lt_of_le (show nx + 4 < m2 by omega) (Nat.le_add_right _ _)) (by omega)).trans b3
      have k3 : Kept (∀ j, j < nx → j ≠ rid → H3 j = H j) := fun j e1 e2 => (k3' j (Nat.lt_of_lt_of_le (show j < m2 by omega) (Nat.le_add_right _ _)) e2).trans (k2 j e1 e2)
      clear hm3' k3' k2 b2 b3 g2
      repeat' (first | ((with_reducible first | refine wA (by omega) ?_ | refine wB (by omega) ?_ | refine wC (by omega) ?_ | refine wD (by omega) ?_ | refine wE ?_ ?_ | refine wF ?_ ?_ | refine wG ?_ ?_ | refine wH ?_ ?_ | refine wI ?_ ?_ | refine wJ ?_ ?_ | refine wK ?_ ?_ | refine wL ?_ ?_) <;> intro _) | simp (maxSteps := 1000000) (disch := omega) only [go_sem, seval, *])
      refine fin_mut (.agg [.sc (.int .i64 (1 : Nat)), .sc (.int .i64 ((numF s2).1 : Nat)), .sc (.slice none 0 0)]) (.inr rfl) cE2 ⟨by simp only [Nat.add_assoc]; exact Nat.le_trans (by omega) (Nat.le_add_right _ _), ⟨0, lv0_weak _ _⟩, upd_out (by omega) (upd_out (by omega) g3), fun j e1 e2 => upd_out (by omega) (upd_out (by omega) (k3 j e1 e2))⟩
    · rw [if_pos (.inr rfl)]
      simp only
      repeat' (first | ((with_reducible first | refine wA (by omega) ?_ | refine wB (by omega) ?_ | refine wC (by omega) ?_ | refine wD (by omega) ?_ | refine wE ?_ ?_ | refine wF ?_ ?_ | refine wG ?_ ?_ | refine wH ?_ ?_ | refine wI ?_ ?_ | refine wJ ?_ ?_ | refine wK ?_ ?_ | refine wL ?_ ?_) <;> intro _) | simp (maxSteps := 1000000) (disch := omega) only [go_sem, seval, *])
      refine call_mut (number_m s2 hl2 rid w _ _ (Nat.lt_of_lt_of_le (show rid < m2 by omega) (Nat.le_add_right _ _)) g2) ?_
      rintro H3 m3 r3 ⟨hm3', rfl, g3, k3'⟩ -
      have hm3 : m2 ≤ m3 := Nat.le_trans (Nat.le_add_right _ _) hm3'
      have b5 : H3 nx = some ⟨[.sc (.int .i64 0), .sc (.int .i64 0), .sc (.slice none 0 0)], true⟩ := (k3' nx (Nat.lt_of_lt_of_le (show nx < m2 by omega) (Nat.le_add_right _ _)) (by omega)).trans b2
      have b6 : H3 (nx + 4) = some ⟨[.sc (.int .i64 (2 : Nat)), .sc (.int .i64 0), .sc (.slice none 0 0)], true⟩ := (k3' (nx + 4) (Nat.lt_of_lt_of_le (show nx + 4 < m2 by omega) (Nat.le_add_right _ _)) (by omega)).trans b3
      have k3 : Kept (∀ j, j < nx → j ≠ rid → H3 j = H j) := fun j e1 e2 => (k3' j (Nat.lt_of_lt_of_le (show j < m2 by omega) (Nat.le_add_right _ _)) e2).trans (k2 j e1 e2)
      clear hm3' k3' k2 b2 b3 g2
      repeat' (first | ((with_reducible first | refine wA (by omega) ?_ | refine wB (by omega) ?_ | refine wC (by omega) ?_ | refine wD (by omega) ?_ | refine wE ?_ ?_ | refine wF ?_ ?_ | refine wG ?_ ?_ | refine wH ?_ ?_ | refine wI ?_ ?_ | refine wJ ?_ ?_ | refine wK ?_ ?_ | refine wL ?_ ?_) <;> intro _) | simp (maxSteps := 1000000) (disch := omega) only [go_sem, seval, *])
      refine fin_mut (.agg [.sc (.int .i64 (2 : Nat)), .sc (.int .i64 ((numF s2).1 : Nat)), .sc (.slice none 0 0)]) (.inr rfl) cE2 ⟨by simp only [Nat.add_assoc]; exact Nat.le_trans (by omega) (Nat.le_add_right _ _), ⟨0, lv0_weak _ _⟩, upd_out (by omega) (upd_out (by omega) g3), fun j e1 e2 => upd_out (by omega) (upd_out (by omega) (k3 j e1 e2))⟩
    · rw [if_neg (by decide), if_pos rfl]
      simp only
      repeat' (first | ((with_reducible first | refine wA (by omega) ?_ | refine wB (by omega) ?_ | refine wC (by omega) ?_ | refine wD (by omega) ?_ | refine wE ?_ ?_ | refine wF ?_ ?_ | refine wG ?_ ?_ | refine wH ?_ ?_ | refine wI ?_ ?_ | refine wJ ?_ ?_ | refine wK ?_ ?_ | refine wL ?_ ?_) <;> intro _) | simp (maxSteps := 1000000) (disch := omega) only [go_sem, seval, *])
      refine call_mut (levels_m (level_step fuel) (level_shrink fuel) ih 1 (by decide) s2 hrdy hl2 rid w _ _ (Nat.lt_of_lt_of_le (show rid < m2 by omega) (Nat.le_add_right _ _)) g2) ?_
      rintro H3 m3 r3 ⟨hm3', rfl, g3, k3'⟩ -
      have hm3 : m2 ≤ m3 := Nat.le_trans (Nat.le_add_right _ _) hm3'
      have b5 : H3 nx = some ⟨[.sc (.int .i64 0), .sc (.int .i64 0), .sc (.slice none 0 0)], true⟩ := (k3' nx (Nat.lt_of_lt_of_le (show nx < m2 by omega) (Nat.le_add_right _ _)) (by omega)).trans b2
      have b6 : H3 (nx + 4) = some ⟨[.sc (.int .i64 (3 : Nat)), .sc (.int .i64 0), .sc (.slice none 0 0)], true⟩ := (k3' (nx + 4) (Nat.lt_of_lt_of_le (show nx + 4 < m2 by omega) (Nat.le_add_right _ _)) (by omega)).trans b3
      have k3 : Kept (∀ j, j < nx → j ≠ rid → H3 j = H j) := fun j e1 e2 => (k3' j (Nat.lt_of_lt_of_le (show j < m2 by omega) (Nat.le_add_right _ _)) e2).trans (k2 j e1 e2)
      clear hm3' k3' k2 b2 b3 g2
      repeat' (first | ((with_reducible first | refine wA (by omega) ?_ | refine wB (by omega) ?_ | refine wC (by omega) ?_ | refine wD (by omega) ?_ | refine wE ?_ ?_ | refine wF ?_ ?_ | refine wG ?_ ?_ | refine wH ?_ ?_ | refine wI ?_ ?_ | refine wJ ?_ ?_ | refine wK ?_ ?_ | refine wL ?_ ?_) <;> intro _) | simp (maxSteps := 1000000) (disch := omega) only [go_sem, seval, *])
      refine fin_mut (.agg [.sc (.int .i64 (3 : Nat)), .sc (.int .i64 0), .sl 3 ((repF (levelF fuel) 1 s2).1.map Lv.pv)]) (.inr rfl) cE2 ⟨by simp only [Nat.add_assoc]; exact Nat.le_trans (by omega) (Nat.le_add_right _ _), ⟨0, .of_eq (by simp only [frgF, Lv.pv]; rfl)⟩, upd_out (by omega) (upd_out (by omega) g3), fun j e1 e2 => upd_out (by omega) (upd_out (by omega) (k3 j e1 e2))⟩
    · rw [if_neg (by decide), if_neg (by decide), if_pos (.inl rfl)]
      simp only
      repeat' (first | ((with_reducible first | refine wA (by omega) ?_ | refine wB (by omega) ?_ | refine wC (by omega) ?_ | refine wD (by omega) ?_ | refine wE ?_ ?_ | refine wF ?_ ?_ | refine wG ?_ ?_ | refine wH ?_ ?_ | refine wI ?_ ?_ | refine wJ ?_ ?_ | refine wK ?_ ?_ | refine wL ?_ ?_) <;> intro _) | simp (maxSteps := 1000000) (disch := omega) only [go_sem, seval, *])
      refine call_mut (levels_m (level_step fuel) (level_shrink fuel) ih 2 (by decide) s2 hrdy hl2 rid w _ _ (Nat.lt_of_lt_of_le (show rid < m2 by omega) (Nat.le_add_right _ _)) g2) ?_
      rintro H3 m3 r3 ⟨hm3', rfl, g3, k3'⟩ -
      have hm3 : m2 ≤ m3 := Nat.le_trans (Nat.le_add_right _ _) hm3'
      have b5 : H3 nx = some ⟨[.sc (.int .i64 0), .sc (.int .i64 0), .sc (.slice none 0 0)], true⟩ := (k3' nx (Nat.lt_of_lt_of_le (show nx < m2 by omega) (Nat.le_add_right _ _)) (by omega)).trans b2
      have b6 : H3 (nx + 4) = some ⟨[.sc (.int .i64 (4 : Nat)), .sc (.int .i64 0), .sc (.slice none 0 0)], true⟩ := (k3' (nx + 4) (Nat.lt_of_lt_of_le (show nx + 4 < m2 by omega) (Nat.le_add_right _ _)) (by omega)).trans b3
      have k3 : Kept (∀ j, j < nx → j ≠ rid → H3 j = H j) := fun j e1 e2 => (k3' j (Nat.lt_of_lt_of_le (show j < m2 by omega) (Nat.le_add_right _ _)) e2).trans (k2 j e1 e2)
      clear hm3' k3' k2 b2 b3 g2
      repeat' (first | ((with_reducible first | refine wA (by omega) ?_ | refine wB (by omega) ?_ | refine wC (by omega) ?_ | refine wD (by omega) ?_ | refine wE ?_ ?_ | refine wF ?_ ?_ | refine wG ?_ ?_ | refine wH ?_ ?_ | refine wI ?_ ?_ | refine wJ ?_ ?_ | refine wK ?_ ?_ | refine wL ?_ ?_) <;> intro _) | simp (maxSteps := 1000000) (disch := omega) only [go_sem, seval, *])
      refine fin_mut (.agg [.sc (.int .i64 (4 : Nat)), .sc (.int .i64 0), .sl 3 ((repF (levelF fuel) 2 s2).1.map Lv.pv)]) (.inr rfl) cE2 ⟨by simp only [Nat.add_assoc]; exact Nat.le_trans (by omega) (Nat.le_add_right _ _), ⟨0, .of_eq (by simp only [frgF, Lv.pv]; rfl)⟩, upd_out (by omega) (upd_out (by omega) g3), fun j e1 e2 => upd_out (by omega) (upd_out (by omega) (k3 j e1 e2))⟩
    · rw [if_neg (by decide), if_neg (by decide), if_pos (.inr rfl)]
      simp only
      repeat' (first | ((with_reducible first | refine wA (by omega) ?_ | refine wB (by omega) ?_ | refine wC (by omega) ?_ | refine wD (by omega) ?_ | refine wE ?_ ?_ | refine wF ?_ ?_ | refine wG ?_ ?_ | refine wH ?_ ?_ | refine wI ?_ ?_ | refine wJ ?_ ?_ | refine wK ?_ ?_ | refine wL ?_ ?_) <;> intro _) | simp (maxSteps := 1000000) (disch := omega) only [go_sem, seval, *])
      refine call_mut (levels_m (level_step fuel) (level_shrink fuel) ih 2 (by decide) s2 hrdy hl2 rid w _ _ (Nat.lt_of_lt_of_le (show rid < m2 by omega) (Nat.le_add_right _ _)) g2) ?_
      rintro H3 m3 r3 ⟨hm3', rfl, g3, k3'⟩ -
      have hm3 : m2 ≤ m3 := Nat.le_trans (Nat.le_add_right _ _) hm3'
      have b5 : H3 nx = some ⟨[.sc (.int .i64 0), .sc (.int .i64 0), .sc (.slice none 0 0)], true⟩ := (k3' nx (Nat.lt_of_lt_of_le (show nx < m2 by omega) (Nat.le_add_right _ _)) (by omega)).trans b2
      have b6 : H3 (nx + 4) = some ⟨[.sc (.int .i64 (5 : Nat)), .sc (.int .i64 0), .sc (.slice none 0 0)], true⟩ := (k3' (nx + 4) (Nat.lt_of_lt_of_le (show nx + 4 < m2 by omega) (Nat.le_add_right _ _)) (by omega)).trans b3
      have k3 : Kept (∀ j, j < nx → j ≠ rid → H3 j = H j) := fun j e1 e2 => (k3' j (Nat.lt_of_lt_of_le (show j < m2 by omega) (Nat.le_add_right _ _)) e2).trans (k2 j e1 e2)
      clear hm3' k3' k2 b2 b3 g2
      repeat' (first | ((with_reducible first | refine wA (by omega) ?_ | refine wB (by omega) ?_ | refine wC (by omega) ?_ | refine wD (by omega) ?_ | refine wE ?_ ?_ | refine wF ?_ ?_ | refine wG ?_ ?_ | refine wH ?_ ?_ | refine wI ?_ ?_ | refine wJ ?_ ?_ | refine wK ?_ ?_ | refine wL ?_ ?_) <;> intro _) | simp (maxSteps := 1000000) (disch := omega) only [go_sem, seval, *])
      refine fin_mut (.agg [.sc (.int .i64 (5 : Nat)), .sc (.int .i64 0), .sl 3 ((repF (levelF fuel) 2 s2).1.map Lv.pv)]) (.inr rfl) cE2 ⟨by simp only [Nat.add_assoc]; exact Nat.le_trans (by omega) (Nat.le_add_right _ _), ⟨0, .of_eq (by simp only [frgF, Lv.pv]; rfl)⟩, upd_out (by omega) (upd_out (by omega) g3), fun j e1 e2 => upd_out (by omega) (upd_out (by omega) (k3 j e1 e2))⟩
    · rw [if_neg (by omega), if_neg h3, if_neg (by omega)]
      simp only
      obtain ⟨l2, no2, ba2⟩ := s2
      simp only [rdC] at g2
      repeat' (first | ((with_reducible first | refine wA (by omega) ?_ | refine wB (by omega) ?_ | refine wC (by omega) ?_ | refine wD (by omega) ?_ | refine wE ?_ ?_ | refine wF ?_ ?_ | refine wG ?_ ?_ | refine wH ?_ ?_ | refine wI ?_ ?_ | refine wJ ?_ ?_ | refine wK ?_ ?_ | refine wL ?_ ?_) <;> intro _) | simp (maxSteps := 1000000) (disch := omega) only [go_sem, seval, *])
      refine fin_mut (.agg [.sc (.int .i64 (k : Nat)), .sc (.int .i64 0), .sc (.slice none 0 0)]) (.inr rfl) cE2 ⟨by simp only [Nat.add_assoc]; exact Nat.le_trans (by omega) (Nat.le_add_right _ _), ⟨0, lv0_weak _ _⟩, ?_, fun j e1 e2 => ?_⟩
      · simp [upd, rdC, show rid ≠ nx by omega]
      · simp only [upd, e2, show j ≠ nx by omega, if_false]; exact k2 j e1 e2
end
section
set_option maxRecDepth 20000
attribute [local go_sem] Nat.add_assoc id_ne id_ne' id_ne2 List.append_assoc tm_len tm_take tm_one
def noStr : ByteArray := ⟨#[]⟩
def termF : Nat → RS → Tm × RS
  | 0, s => (.mk 0 0 noStr [] [], roomF (numF s).2)
  | f + 1, s =>
    if (roomF (numF s).2).bad = true then (.mk 0 0 noStr [] [], roomF (numF s).2)
    else if (numF s).1 = 1 then (.mk 1 (numF (roomF (numF s).2)).1 noStr [] [], (numF (roomF (numF s).2)).2)
    else if (numF s).1 = 2 then (.mk 2 0 noStr (repF (levelF f) 1 (roomF (numF s).2)).1 [], (repF (levelF f) 1 (roomF (numF s).2)).2)
    else if (numF s).1 = 3 then
      (.mk 3 0 (nameF (roomF (numF s).2)).1 (repF (levelF f) (min (numF (nameF (roomF (numF s).2)).2).1 5) (numF (nameF (roomF (numF s).2)).2).2).1 [],
        (repF (levelF f) (min (numF (nameF (roomF (numF s).2)).2).1 5) (numF (nameF (roomF (numF s).2)).2).2).2)
    else if (numF s).1 = 4 ∨ (numF s).1 = 5 ∨ (numF s).1 = 6 then (.mk (numF s).1 0 noStr [] (repF (termF f) 2 (roomF (numF s).2)).1, (repF (termF f) 2 (roomF (numF s).2)).2)
    else if (numF s).1 = 7 then (.mk 7 0 noStr [] (repF (termF f) 3 (roomF (numF s).2)).1, (repF (termF f) 3 (roomF (numF s).2)).2)
    else (.mk (numF s).1 0 noStr [] [], ⟨(roomF (numF s).2).l, (roomF (numF s).2).nodes, true⟩)
theorem term_step : ∀ (fuel : Nat) (s : RS), Rdy fuel s → Step s (termF fuel s).2
  | 0, s, h => by
    cases hb : (roomF (numF s).2).bad with
    | true => exact .inl hb
    | false =>
      obtain ⟨h1, h2, h3, h4, h5⟩ := room_step h hb
      omega
  | f + 1, s, h => by
    unfold termF
    cases hb : (roomF (numF s).2).bad with
    | true => rw [if_pos rfl]; exact .inl hb
    | false =>
      rw [if_neg (by simp)]
      obtain ⟨h1, h2, h3, h4, h5⟩ := room_step h hb
      have hs : Step s (roomF (numF s).2) := .inr ⟨h1, by omega, by omega⟩
      have hr : Rdy f (roomF (numF s).2) := .inr ⟨by omega, by omega, by omega⟩
      split
      · exact hs.trans (.num fun _ => by omega)
      split
      · exact hs.trans (rep_step (level_step f) 1 _ hr)
      split
      · have n1 : Step (roomF (numF s).2) (nameF (roomF (numF s).2)).2 := .name hr.top
        have n2 : Step (nameF (roomF (numF s).2)).2 (numF (nameF (roomF (numF s).2)).2).2 := .num (n1.rdy hr).top
        exact hs.trans (n1.trans (n2.trans (rep_step (level_step f) _ _ (n2.rdy (n1.rdy hr)))))
      split
      · exact hs.trans (rep_step (term_step f) 2 _ hr)
      split
      · exact hs.trans (rep_step (term_step f) 3 _ hr)
      · exact .inl rfl
theorem term_shrink : ∀ (fuel : Nat) (s : RS), (termF fuel s).2.l.length ≤ s.l.length
  | 0, s => numF_len s
  | f + 1, s => by
    have h1 := numF_len s
    have h2 := numF_len (roomF (numF s).2)
    have h3 := rep_shrink (level_shrink f) 1 (roomF (numF s).2)
    have h4 := rep_shrink (term_shrink f) 2 (roomF (numF s).2)
    have h5 := rep_shrink (term_shrink f) 3 (roomF (numF s).2)
    have h6 := nameF_len (roomF (numF s).2)
    have h7 := numF_len (nameF (roomF (numF s).2)).2
    have h8 := rep_shrink (level_shrink f) (min (numF (nameF (roomF (numF s).2)).2).1 5) (numF (nameF (roomF (numF s).2)).2).2
    rw [roomF_l] at h2 h3 h4 h5 h6
    unfold termF
    (repeat' split) <;> simp only [roomF_l] <;> omega
set_option maxHeartbeats 8000000 in
theorem terms_m {fuel : Nat} {g : RS → Tm × RS} (hgs : ∀ s, Rdy fuel s → Step s (g s).2) (hgl : ∀ s, (g s).2.l.length ≤ s.l.length)
    (hg : ∀ s, Rdy fuel s → s.l.length ≤ 2 ^ 40 → ∀ (rid : Nat) (w : Bool) (H : Nat → Option PObj) (nx : Nat), rid < nx → H rid = some ⟨rdC s, w⟩ → PMut Try.prog F.pack_reader_term [.optr rid 0] H nx (RdQ H nx rid w (g s).2 (.agg (g s).1.pv)))
    (n : Nat) (hn : n ≤ 10) (s : RS) (hs : Rdy fuel s) (hl : s.l.length ≤ 2 ^ 40) (rid : Nat) (w : Bool) (H : Nat → Option PObj) (nx : Nat) (hr : rid < nx) (hH : H rid = some ⟨rdC s, w⟩) :
    PMut Try.prog F.pack_reader_terms [.optr rid 0, .sc (.int .i64 n)] H nx (RdQ H nx rid w (repF g n s).2 (.sl 5 ((repF g n s).1.map Tm.pv))) := by
  refine rd_tell is_pack_reader_terms.enters hr ?_
  refine mut_by is_pack_reader_terms (by simp) fun hb => ?_
  clear hb
  repeat' (first | ((with_reducible first | refine wA (by omega) ?_ | refine wB (by omega) ?_ | refine wC (by omega) ?_ | refine wD (by omega) ?_ | refine wE ?_ ?_ | refine wF ?_ ?_ | refine wG ?_ ?_ | refine wH ?_ ?_ | refine wI ?_ ?_ | refine wJ ?_ ?_ | refine wK ?_ ?_ | refine wL ?_ ?_) <;> intro _) | simp (maxSteps := 1000000) (disch := omega) only [go_sem, seval, mc_pack_reader_terms, *])
  refine c_loopW 32672 (by kernel_rfl) (fun j f H2 m => ∃ i : Nat, j = n - i ∧ i ≤ n ∧ f 7 = .sc (.int .i64 i) ∧ nx ≤ m ∧ Kept (LRow Tm.pv 5 H2 nx m (f 5) (repF g i s).1) ∧ H2 rid = some ⟨rdC (repF g i s).2, w⟩ ∧ Kept (∀ j, j < nx → j ≠ rid → H2 j = H j)) _ ⟨0, rfl, Nat.zero_le _, cE1, cE1, ?rr, hH, Kept.mk fun _ _ _ => rfl⟩ ?_
  case rr => refine Kept.mk (.inl ⟨rfl, cE1⟩)
  rintro _ f H2 m ⟨i, rfl, hi, e7, hm, hrow, hrd, hk⟩
  by_cases hlt : i < n
  · have hst := rep_step hgs i s hs
    have hll := rep_shrink hgl i s
    have c1 := hg (repF g i s).2 (hst.rdy hs) (by omega) rid w
    repeat' (first | ((with_reducible first | refine wA (by omega) ?_ | refine wB (by omega) ?_ | refine wC (by omega) ?_ | refine wD (by omega) ?_ | refine wE ?_ ?_ | refine wF ?_ ?_ | refine wG ?_ ?_ | refine wH ?_ ?_ | refine wI ?_ ?_ | refine wJ ?_ ?_ | refine wK ?_ ?_ | refine wL ?_ ?_) <;> intro _) | simp (maxSteps := 1000000) (disch := omega) only [go_sem, seval, *])
    refine call_mut (c1 H2 _ (Nat.lt_of_lt_of_le hr (Nat.le_trans hm (Nat.le_add_right _ _))) hrd) ?_
    rintro H3 m3 r3 ⟨g1', rfl, g3, g4'⟩ -
    have hm3 : m + 7 ≤ m3 := g1'
    have g1 : m ≤ m3 := Nat.le_trans (Nat.le_add_right _ _) g1'
    have g4 : Kept (∀ j, j < m → j ≠ rid → H3 j = H2 j) := fun j h1 h2 => g4' j (Nat.lt_of_lt_of_le h1 (Nat.le_add_right _ _)) h2
    have hlen := repF_len g i s
    have hE1 : (repF g (i + 1) s).1 = (repF g i s).1 ++ [(g (repF g i s).2).1] := rfl
    have hE2 : (repF g (i + 1) s).2 = (g (repF g i s).2).2 := rfl
    rw [← hE2] at g3
    generalize (g (repF g i s).2).1 = x at *
    clear c1 hst hll g1' g4'
    have hrm : rid < m := Nat.lt_of_lt_of_le hr hm
    obtain ⟨h0, e5⟩ | ⟨id, w', h1, h2, e5, h4⟩ := hrow
    · have hi0 : i = 0 := by rw [← hlen, h0]; rfl
      subst hi0
      repeat' (first | ((with_reducible first | refine wA (by omega) ?_ | refine wB (by omega) ?_ | refine wC (by omega) ?_ | refine wD (by omega) ?_ | refine wE ?_ ?_ | refine wF ?_ ?_ | refine wG ?_ ?_ | refine wH ?_ ?_ | refine wI ?_ ?_ | refine wJ ?_ ?_ | refine wK ?_ ?_ | refine wL ?_ ?_) <;> intro _) | simp (maxSteps := 1000000) (disch := omega) only [go_sem, seval, *])
      refine Nx.mk (n - 1) cE1 ⟨1, rfl, cE1, cE1, ?mm, ?rr, ?hh, ?kk⟩
      case mm => exact Nat.le_trans hm (Nat.le_trans g1 (Nat.le_add_right _ _))
      case rr =>
        refine Kept.mk (.inr ⟨m + 5, false, by omega, by omega, cE1, ?_⟩)
        rw [upd_same]
        simp [hE1, h0]
      case hh => rw [upd_ne _ _ (show rid ≠ m + 5 by omega)]; exact g3
      case kk => exact Kept.mk fun j k1 k2 => by rw [upd_ne _ _ (show j ≠ m + 5 by omega), g4 j (Nat.lt_of_lt_of_le k1 hm) k2]; exact hk j k1 k2
    · have h5 : H3 id = some ⟨(repF g i s).1.flatMap Tm.pv, w'⟩ := by rw [g4 id h2 (fun e => by omega)]; exact h4
      have hfl : ((repF g i s).1.flatMap Tm.pv).length = i * 5 := by rw [flat_lenG _ 5 tm_len, hlen]
      have hz : (i + 1) * 80 ≤ 140737488355328 ∧ i ≤ 4611686018427387903 := by omega
      rw [hlen] at e5
      clear h4
      repeat' (first | ((with_reducible first | refine wA (by omega) ?_ | refine wB (by omega) ?_ | refine wC (by omega) ?_ | refine wD (by omega) ?_ | refine wE ?_ ?_ | refine wF ?_ ?_ | refine wG ?_ ?_ | refine wH ?_ ?_ | refine wI ?_ ?_ | refine wJ ?_ ?_ | refine wK ?_ ?_ | refine wL ?_ ?_) <;> intro _) | simp (maxSteps := 1000000) (disch := omega) only [go_sem, seval, *])
      refine Nx.mk (n - (i + 1)) cE1 ⟨i + 1, rfl, cE1, cE1, ?mm, ?rr, ?hh, ?kk⟩
      case mm => exact Nat.le_trans hm (Nat.le_trans g1 (Nat.le_add_right _ _))
      case rr =>
        refine Kept.mk (.inr ⟨m + 5, false, by omega, by omega, ?_, ?_⟩)
        · simp only [upd_get, Nat.reduceEqDiff, ↓reduceIte]
          rw [hE1, List.length_append, hlen]; rfl
        · rw [upd_same]
          simp [hE1]
      case hh => rw [upd_ne _ _ (show rid ≠ m + 5 by omega), upd_ne _ _ (show rid ≠ id by omega)]; exact g3
      case kk => exact Kept.mk fun j k1 k2 => by rw [upd_ne _ _ (show j ≠ m + 5 by omega), upd_ne _ _ (show j ≠ id by omega), g4 j (Nat.lt_of_lt_of_le k1 hm) k2]; exact hk j k1 k2
  · obtain rfl : i = n := by omega
    repeat' (first | ((with_reducible first | refine wA (by omega) ?_ | refine wB (by omega) ?_ | refine wC (by omega) ?_ | refine wD (by omega) ?_ | refine wE ?_ ?_ | refine wF ?_ ?_ | refine wG ?_ ?_ | refine wH ?_ ?_ | refine wI ?_ ?_ | refine wJ ?_ ?_ | refine wK ?_ ?_ | refine wL ?_ ?_) <;> intro _) | simp (maxSteps := 1000000) (disch := omega) only [go_sem, seval, *])
    refine fin_mut (f 5) (.inr rfl) cE2 ⟨Nat.le_trans hm (Nat.le_add_right _ _), ⟨1, hrow.out.frg tm_len _ fun j hj => by simpa using hj⟩, hrd, hk⟩
end
section
set_option maxRecDepth 20000
attribute [local go_sem] Nat.add_assoc id_ne id_ne' id_ne2 List.append_assoc tm_len tm_take tm_one
theorem tm0_weak (k n : Int) (s : ByteArray) (ls : List Lv) (args : List Tm) {a b : PV} (ha : Weak a (.sl 3 (ls.map Lv.pv))) (hb : Weak b (.sl 5 (args.map Tm.pv))) : Weak (.agg [.sc (.int .i64 k), .sc (.int .i64 n), .sc (.string s), a, b]) (.agg (Tm.mk k n s ls args).pv) := by
  simp only [Tm.pv]
  exact Weak.agg ⟨.refl _, .refl _, .refl _, ha, hb, trivial⟩
set_option maxHeartbeats 32000000 in
theorem term_m : ∀ (fuel : Nat) (s : RS), Rdy fuel s → s.l.length ≤ 2 ^ 40 → ∀ (rid : Nat) (w : Bool) (H : Nat → Option PObj) (nx : Nat), rid < nx → H rid = some ⟨rdC s, w⟩ →
    PMut Try.prog F.pack_reader_term [.optr rid 0] H nx (RdQ H nx rid w (termF fuel s).2 (.agg (termF fuel s).1.pv)) := by
  intro fuel
  induction fuel with
  | zero =>
    intro s hs hl rid w H nx hr hH
    refine rd_tell is_pack_reader_term.enters hr ?_
    refine mut_by is_pack_reader_term (by simp) fun hb => ?_
    clear hb
    have hbad : (roomF (numF s).2).bad = true := by
      cases hb : (roomF (numF s).2).bad with
      | true => rfl
      | false => obtain ⟨h1, h2, h3, h4, h5⟩ := room_step hs hb; omega
    unfold termF
    simp only
    have hl1 : (numF s).2.l.length ≤ 2 ^ 40 := Nat.le_trans (numF_len s) hl
    repeat' (first | ((with_reducible first | refine wA (by omega) ?_ | refine wB (by omega) ?_ | refine wC (by omega) ?_ | refine wD (by omega) ?_ | refine wE ?_ ?_ | refine wF ?_ ?_ | refine wG ?_ ?_ | refine wH ?_ ?_ | refine wI ?_ ?_ | refine wJ ?_ ?_ | refine wK ?_ ?_ | refine wL ?_ ?_) <;> intro _) | simp (maxSteps := 1000000) (disch := omega) only [go_sem, seval, mc_pack_reader_term, *])
    refine call_mut (number_m s hl rid w _ _ (Nat.lt_of_lt_of_le hr (Nat.le_add_right _ _)) (upd_out (by omega) hH)) ?_
    rintro H1 m1 r1 ⟨hm1', rfl, g1, k1'⟩ -
    have hm1 : nx + 6 ≤ m1 := hm1'
    have b1 : H1 nx = some ⟨[.sc (.int .i64 0), .sc (.int .i64 0), .sc (.string ⟨#[]⟩), .sc (.slice none 0 0), .sc (.slice none 0 0)], true⟩ := (k1' nx (Nat.lt_add_of_pos_right (by decide)) (by omega)).trans (upd_same _ _ _)
    have k1 : Kept (∀ j, j < nx → j ≠ rid → H1 j = H j) := fun j e1 e2 => (k1' j (Nat.lt_of_lt_of_le e1 (Nat.le_add_right _ _)) e2).trans (upd_ne _ _ (by omega))
    clear hm1' k1' hH
    generalize (numF s).1 = k at *
    generalize (numF s).2 = s1 at *
    repeat' (first | ((with_reducible first | refine wA (by omega) ?_ | refine wB (by omega) ?_ | refine wC (by omega) ?_ | refine wD (by omega) ?_ | refine wE ?_ ?_ | refine wF ?_ ?_ | refine wG ?_ ?_ | refine wH ?_ ?_ | refine wI ?_ ?_ | refine wJ ?_ ?_ | refine wK ?_ ?_ | refine wL ?_ ?_) <;> intro _) | simp (maxSteps := 1000000) (disch := omega) only [go_sem, seval, *])
    refine call_mut (room_m s1 rid w _ _ (show rid < _ from Nat.lt_of_lt_of_le (show rid < m1 by omega) (Nat.le_add_right _ _)) (upd_out (by omega) (upd_out (by omega) g1))) ?_
    rintro H2 m2 r2 ⟨hm2', rfl, g2, k2'⟩ -
    have hm2 : m1 ≤ m2 := Nat.le_trans (Nat.le_add_right _ _) hm2'
    have b2 : H2 nx = some ⟨[.sc (.int .i64 0), .sc (.int .i64 0), .sc (.string ⟨#[]⟩), .sc (.slice none 0 0), .sc (.slice none 0 0)], true⟩ := (k2' nx (Nat.lt_of_lt_of_le (show nx < m1 by omega) (Nat.le_add_right _ _)) (by omega)).trans (upd_out (by omega) (upd_out (by omega) b1))
    have b3 : H2 (nx + 4) = some ⟨[.sc (.int .i64 k), .sc (.int .i64 0), .sc (.string ⟨#[]⟩), .sc (.slice none 0 0), .sc (.slice none 0 0)], true⟩ := (k2' (nx + 4) (Nat.lt_of_lt_of_le (show nx + 4 < m1 by omega) (Nat.le_add_right _ _)) (by omega)).trans (upd_same _ _ _)
    have k2 : Kept (∀ j, j < nx → j ≠ rid → H2 j = H j) := fun j e1 e2 => (k2' j (Nat.lt_of_lt_of_le (show j < m1 by omega) (Nat.le_add_right _ _)) e2).trans (upd_out (by omega) (upd_out (by omega) (k1 j e1 e2)))
    clear hm2' k2' k1 b1 g1
    have hl2 : (roomF s1).l.length ≤ 2 ^ 40 := hl1
    rw [hbad]
    generalize roomF s1 = s2 at *
    clear hl1
    repeat' (first | ((with_reducible first | refine wA (by omega) ?_ | refine wB (by omega) ?_ | refine wC (by omega) ?_ | refine wD (by omega) ?_ | refine wE ?_ ?_ | refine wF ?_ ?_ | refine wG ?_ ?_ | refine wH ?_ ?_ | refine wI ?_ ?_ | refine wJ ?_ ?_ | refine wK ?_ ?_ | refine wL ?_ ?_) <;> intro _) | simp (maxSteps := 1000000) (disch := omega) only [go_sem, seval, *])
    refine fin_mut (.agg [.sc (.int .i64 0), .sc (.int .i64 0), .sc (.string ⟨#[]⟩), .sc (.slice none 0 0), .sc (.slice none 0 0)]) (.inr rfl) cE2 ⟨Nat.le_trans (Nat.le_trans (Nat.le_trans (Nat.le_add_right _ _) hm1) hm2) (Nat.le_add_right _ _), ⟨0, tm0_weak 0 0 _ [] [] (.nil 3) (.nil 5)⟩, upd_out (by omega) g2, fun j e1 e2 => upd_out (by omega) (k2 j e1 e2)⟩
  | succ fuel ih =>
  intro s hs hl rid w H nx hr hH
  refine rd_tell is_pack_reader_term.enters hr ?_
  refine mut_by is_pack_reader_term (by simp) fun hb => ?_
  clear hb
  unfold termF
  cases hbad : (roomF (numF s).2).bad with
  | true =>
    rw [if_pos rfl]
    simp only
    have hl1 : (numF s).2.l.length ≤ 2 ^ 40 := Nat.le_trans (numF_len s) hl
    repeat' (first | ((with_reducible first | refine wA (by omega) ?_ | refine wB (by omega) ?_ | refine wC (by omega) ?_ | refine wD (by omega) ?_ | refine wE ?_ ?_ | refine wF ?_ ?_ | refine wG ?_ ?_ | refine wH ?_ ?_ | refine wI ?_ ?_ | refine wJ ?_ ?_ | refine wK ?_ ?_ | refine wL ?_ ?_) <;> intro _) | simp (maxSteps := 1000000) (disch := omega) only [go_sem, seval, mc_pack_reader_term, *])
    refine call_mut (number_m s hl rid w _ _ (Nat.lt_of_lt_of_le hr (Nat.le_add_right _ _)) (upd_out (by omega) hH)) ?_
    rintro H1 m1 r1 ⟨hm1', rfl, g1, k1'⟩ -
    have hm1 : nx + 6 ≤ m1 := hm1'
    have b1 : H1 nx = some ⟨[.sc (.int .i64 0), .sc (.int .i64 0), .sc (.string ⟨#[]⟩), .sc (.slice none 0 0), .sc (.slice none 0 0)], true⟩ := (k1' nx (Nat.lt_add_of_pos_right (by decide)) (by omega)).trans (upd_same _ _ _)
    have k1 : Kept (∀ j, j < nx → j ≠ rid → H1 j = H j) := fun j e1 e2 => (k1' j (Nat.lt_of_lt_of_le e1 (Nat.le_add_right _ _)) e2).trans (upd_ne _ _ (by omega))
    clear hm1' k1' hH
    generalize (numF s).1 = k at *
    generalize (numF s).2 = s1 at *
    repeat' (first | ((with_reducible first | refine wA (by omega) ?_ | refine wB (by omega) ?_ | refine wC (by omega) ?_ | refine wD (by omega) ?_ | refine wE ?_ ?_ | refine wF ?_ ?_ | refine wG ?_ ?_ | refine wH ?_ ?_ | refine wI ?_ ?_ | refine wJ ?_ ?_ | refine wK ?_ ?_ | refine wL ?_ ?_) <;> intro _) | simp (maxSteps := 1000000) (disch := omega) only [go_sem, seval, *])
    refine call_mut (room_m s1 rid w _ _ (show rid < _ from Nat.lt_of_lt_of_le (show rid < m1 by omega) (Nat.le_add_right _ _)) (upd_out (by omega) (upd_out (by omega) g1))) ?_
    rintro H2 m2 r2 ⟨hm2', rfl, g2, k2'⟩ -
    have hm2 : m1 ≤ m2 := Nat.le_trans (Nat.le_add_right _ _) hm2'
    have b2 : H2 nx = some ⟨[.sc (.int .i64 0), .sc (.int .i64 0), .sc (.string ⟨#[]⟩), .sc (.slice none 0 0), .sc (.slice none 0 0)], true⟩ := (k2' nx (Nat.lt_of_lt_of_le (show nx < m1 by omega) (Nat.le_add_right _ _)) (by omega)).trans (upd_out (by omega) (upd_out (by omega) b1))
    have b3 : H2 (nx + 4) = some ⟨[.sc (.int .i64 k), .sc (.int .i64 0), .sc (.string ⟨#[]⟩), .sc (.slice none 0 0), .sc (.slice none 0 0)], true⟩ := (k2' (nx + 4) (Nat.lt_of_lt_of_le (show nx + 4 < m1 by omega) (Nat.le_add_right _ _)) (by omega)).trans (upd_same _ _ _)
    have k2 : Kept (∀ j, j < nx → j ≠ rid → H2 j = H j) := fun j e1 e2 => (k2' j (Nat.lt_of_lt_of_le (show j < m1 by omega) (Nat.le_add_right _ _)) e2).trans (upd_out (by omega) (upd_out (by omega) (k1 j e1 e2)))
    clear hm2' k2' k1 b1 g1
    have hl2 : (roomF s1).l.length ≤ 2 ^ 40 := hl1
    rw [hbad]
    generalize roomF s1 = s2 at *
    clear hl1
    repeat' (first | ((with_reducible first | refine wA (by omega) ?_ | refine wB (by omega) ?_ | refine wC (by omega) ?_ | refine wD (by omega) ?_ | refine wE ?_ ?_ | refine wF ?_ ?_ | refine wG ?_ ?_ | refine wH ?_ ?_ | refine wI ?_ ?_ | refine wJ ?_ ?_ | refine wK ?_ ?_ | refine wL ?_ ?_) <;> intro _) | simp (maxSteps := 1000000) (disch := omega) only [go_sem, seval, *])
    refine fin_mut (.agg [.sc (.int .i64 0), .sc (.int .i64 0), .sc (.string ⟨#[]⟩), .sc (.slice none 0 0), .sc (.slice none 0 0)]) (.inr rfl) cE2 ⟨Nat.le_trans (Nat.le_trans (Nat.le_trans (Nat.le_add_right _ _) hm1) hm2) (Nat.le_add_right _ _), ⟨0, tm0_weak 0 0 _ [] [] (.nil 3) (.nil 5)⟩, upd_out (by omega) g2, fun j e1 e2 => upd_out (by omega) (k2 j e1 e2)⟩
  | false =>
    rw [if_neg (by simp)]
    obtain ⟨-, n0, n1, n2, n3⟩ := room_step hs hbad
    have hrdy : Rdy fuel (roomF (numF s).2) := .inr ⟨by omega, by omega, by omega⟩
    clear n0 n1 n2 n3
    have hl1 : (numF s).2.l.length ≤ 2 ^ 40 := Nat.le_trans (numF_len s) hl
    repeat' (first | ((with_reducible first | refine wA (by omega) ?_ | refine wB (by omega) ?_ | refine wC (by omega) ?_ | refine wD (by omega) ?_ | refine wE ?_ ?_ | refine wF ?_ ?_ | refine wG ?_ ?_ | refine wH ?_ ?_ | refine wI ?_ ?_ | refine wJ ?_ ?_ | refine wK ?_ ?_ | refine wL ?_ ?_) <;> intro _) | simp (maxSteps := 1000000) (disch := omega) only [go_sem, seval, mc_pack_reader_term, *])
    refine call_mut (number_m s hl rid w _ _ (Nat.lt_of_lt_of_le hr (Nat.le_add_right _ _)) (upd_out (by omega) hH)) ?_
    rintro H1 m1 r1 ⟨hm1', rfl, g1, k1'⟩ -
    have hm1 : nx + 6 ≤ m1 := hm1'
    have b1 : H1 nx = some ⟨[.sc (.int .i64 0), .sc (.int .i64 0), .sc (.string ⟨#[]⟩), .sc (.slice none 0 0), .sc (.slice none 0 0)], true⟩ := (k1' nx (Nat.lt_add_of_pos_right (by decide)) (by omega)).trans (upd_same _ _ _)
    have k1 : Kept (∀ j, j < nx → j ≠ rid → H1 j = H j) := fun j e1 e2 => (k1' j (Nat.lt_of_lt_of_le e1 (Nat.le_add_right _ _)) e2).trans (upd_ne _ _ (by omega))
    clear hm1' k1' hH
    generalize (numF s).1 = k at *
    generalize (numF s).2 = s1 at *
    repeat' (first | ((with_reducible first | refine wA (by omega) ?_ | refine wB (by omega) ?_ | refine wC (by omega) ?_ | refine wD (by omega) ?_ | refine wE ?_ ?_ | refine wF ?_ ?_ | refine wG ?_ ?_ | refine wH ?_ ?_ | refine wI ?_ ?_ | refine wJ ?_ ?_ | refine wK ?_ ?_ | refine wL ?_ ?_) <;> intro _) | simp (maxSteps := 1000000) (disch := omega) only [go_sem, seval, *])
    refine call_mut (room_m s1 rid w _ _ (show rid < _ from Nat.lt_of_lt_of_le (show rid < m1 by omega) (Nat.le_add_right _ _)) (upd_out (by omega) (upd_out (by omega) g1))) ?_
    rintro H2 m2 r2 ⟨hm2', rfl, g2, k2'⟩ -
    have hm2 : m1 ≤ m2 := Nat.le_trans (Nat.le_add_right _ _) hm2'
    have b2 : H2 nx = some ⟨[.sc (.int .i64 0), .sc (.int .i64 0), .sc (.string ⟨#[]⟩), .sc (.slice none 0 0), .sc (.slice none 0 0)], true⟩ := (k2' nx (Nat.lt_of_lt_of_le (show nx < m1 by omega) (Nat.le_add_right _ _)) (by omega)).trans (upd_out (by omega) (upd_out (by omega) b1))
    have b3 : H2 (nx + 4) = some ⟨[.sc (.int .i64 k), .sc (.int .i64 0), .sc (.string ⟨#[]⟩), .sc (.slice none 0 0), .sc (.slice none 0 0)], true⟩ := (k2' (nx + 4) (Nat.lt_of_lt_of_le (show nx + 4 < m1 by omega) (Nat.le_add_right _ _)) (by omega)).trans (upd_same _ _ _)
    have k2 : Kept (∀ j, j < nx → j ≠ rid → H2 j = H j) := fun j e1 e2 => (k2' j (Nat.lt_of_lt_of_le (show j < m1 by omega) (Nat.le_add_right _ _)) e2).trans (upd_out (by omega) (upd_out (by omega) (k1 j e1 e2)))
    clear hm2' k2' k1 b1 g1
    have hl2 : (roomF s1).l.length ≤ 2 ^ 40 := hl1
    rw [hbad]
    generalize roomF s1 = s2 at *
    clear hl1
    obtain rfl | rfl | rfl | rfl | rfl | rfl | rfl | ⟨h1, h2, h3, h4, h5, h6, h7⟩ : k = 1 ∨ k = 2 ∨ k = 3 ∨ k = 4 ∨ k = 5 ∨ k = 6 ∨ k = 7 ∨ (k ≠ 1 ∧ k ≠ 2 ∧ k ≠ 3 ∧ k ≠ 4 ∧ k ≠ 5 ∧ k ≠ 6 ∧ k ≠ 7) := by omega
    · rw [if_pos rfl]
      simp only
      have c2 := b3
      clear b3
      repeat' (first | ((with_reducible first | refine wA (by omega) ?_ | refine wB (by omega) ?_ | refine wC (by omega) ?_ | refine wD (by omega) ?_ | refine wE ?_ ?_ | refine wF ?_ ?_ | refine wG ?_ ?_ | refine wH ?_ ?_ | refine wI ?_ ?_ | refine wJ ?_ ?_ | refine wK ?_ ?_ | refine wL ?_ ?_) <;> intro _) | simp (maxSteps := 1000000) (disch := omega) only [go_sem, seval, *])
      refine call_mut (number_m s2 hl2 rid w _ _ (Nat.lt_of_lt_of_le (show rid < m2 by omega) (Nat.le_add_right _ _)) (g2)) ?_
      rintro H3 m3 r3 ⟨hm3', rfl, g3, k3'⟩ -
      have hm3 : m2 ≤ m3 := Nat.le_trans (Nat.le_add_right _ _) hm3'
      have b3 : H3 nx = some ⟨[.sc (.int .i64 0), .sc (.int .i64 0), .sc (.string ⟨#[]⟩), .sc (.slice none 0 0), .sc (.slice none 0 0)], true⟩ := (k3' nx (Nat.lt_of_lt_of_le (show nx < m2 by omega) (Nat.le_add_right _ _)) (by omega)).trans (b2)
      have c3 : H3 (nx + 4) = some ⟨[.sc (.int .i64 (1 : Nat)), .sc (.int .i64 0), .sc (.string ⟨#[]⟩), .sc (.slice none 0 0), .sc (.slice none 0 0)], true⟩ := (k3' (nx + 4) (Nat.lt_of_lt_of_le (show nx + 4 < m2 by omega) (Nat.le_add_right _ _)) (by omega)).trans c2
      have k3 : Kept (∀ j, j < nx → j ≠ rid → H3 j = H j) := fun j e1 e2 => (k3' j (Nat.lt_of_lt_of_le (show j < m2 by omega) (Nat.le_add_right _ _)) e2).trans (k2 j e1 e2)
      clear hm3' k3' k2 b2 c2 g2
      repeat' (first | ((with_reducible first | refine wA (by omega) ?_ | refine wB (by omega) ?_ | refine wC (by omega) ?_ | refine wD (by omega) ?_ | refine wE ?_ ?_ | refine wF ?_ ?_ | refine wG ?_ ?_ | refine wH ?_ ?_ | refine wI ?_ ?_ | refine wJ ?_ ?_ | refine wK ?_ ?_ | refine wL ?_ ?_) <;> intro _) | simp (maxSteps := 1000000) (disch := omega) only [go_sem, seval, *])
      refine fin_mut (.agg [.sc (.int .i64 (1 : Nat)), .sc (.int .i64 ((numF s2).1 : Nat)), .sc (.string ⟨#[]⟩), .sc (.slice none 0 0), .sc (.slice none 0 0)]) (.inr rfl) cE2 ⟨by simp only [Nat.add_assoc]; exact Nat.le_trans (by omega) (Nat.le_add_right _ _), ⟨0, tm0_weak _ _ _ [] [] (.nil 3) (.nil 5)⟩, upd_out (by omega) (upd_out (by omega) g3), fun j e1 e2 => upd_out (by omega) (upd_out (by omega) (k3 j e1 e2))⟩
    · rw [if_neg (by decide), if_pos rfl]
      simp only
      have c2 := b3
      clear b3
      repeat' (first | ((with_reducible first | refine wA (by omega) ?_ | refine wB (by omega) ?_ | refine wC (by omega) ?_ | refine wD (by omega) ?_ | refine wE ?_ ?_ | refine wF ?_ ?_ | refine wG ?_ ?_ | refine wH ?_ ?_ | refine wI ?_ ?_ | refine wJ ?_ ?_ | refine wK ?_ ?_ | refine wL ?_ ?_) <;> intro _) | simp (maxSteps := 1000000) (disch := omega) only [go_sem, seval, *])
      refine call_mut (levels_m (level_step fuel) (level_shrink fuel) (level_m fuel) 1 (by decide) s2 hrdy hl2 rid w _ _ (Nat.lt_of_lt_of_le (show rid < m2 by omega) (Nat.le_add_right _ _)) (g2)) ?_
      rintro H3 m3 r3 ⟨hm3', rfl, g3, k3'⟩ -
      have hm3 : m2 ≤ m3 := Nat.le_trans (Nat.le_add_right _ _) hm3'
      have b3 : H3 nx = some ⟨[.sc (.int .i64 0), .sc (.int .i64 0), .sc (.string ⟨#[]⟩), .sc (.slice none 0 0), .sc (.slice none 0 0)], true⟩ := (k3' nx (Nat.lt_of_lt_of_le (show nx < m2 by omega) (Nat.le_add_right _ _)) (by omega)).trans (b2)
      have c3 : H3 (nx + 4) = some ⟨[.sc (.int .i64 (2 : Nat)), .sc (.int .i64 0), .sc (.string ⟨#[]⟩), .sc (.slice none 0 0), .sc (.slice none 0 0)], true⟩ := (k3' (nx + 4) (Nat.lt_of_lt_of_le (show nx + 4 < m2 by omega) (Nat.le_add_right _ _)) (by omega)).trans c2
      have k3 : Kept (∀ j, j < nx → j ≠ rid → H3 j = H j) := fun j e1 e2 => (k3' j (Nat.lt_of_lt_of_le (show j < m2 by omega) (Nat.le_add_right _ _)) e2).trans (k2 j e1 e2)
      clear hm3' k3' k2 b2 c2 g2
      repeat' (first | ((with_reducible first | refine wA (by omega) ?_ | refine wB (by omega) ?_ | refine wC (by omega) ?_ | refine wD (by omega) ?_ | refine wE ?_ ?_ | refine wF ?_ ?_ | refine wG ?_ ?_ | refine wH ?_ ?_ | refine wI ?_ ?_ | refine wJ ?_ ?_ | refine wK ?_ ?_ | refine wL ?_ ?_) <;> intro _) | simp (maxSteps := 1000000) (disch := omega) only [go_sem, seval, *])
      refine fin_mut (.agg [.sc (.int .i64 (2 : Nat)), .sc (.int .i64 0), .sc (.string ⟨#[]⟩), .sl 3 ((repF (levelF fuel) 1 s2).1.map Lv.pv), .sc (.slice none 0 0)]) (.inr rfl) cE2 ⟨by simp only [Nat.add_assoc]; exact Nat.le_trans (by omega) (Nat.le_add_right _ _), ⟨0, tm0_weak _ _ _ _ [] (.refl _) (.nil 5)⟩, upd_out (by omega) (upd_out (by omega) g3), fun j e1 e2 => upd_out (by omega) (upd_out (by omega) (k3 j e1 e2))⟩
    · rw [if_neg (by decide), if_neg (by decide), if_pos rfl]
      simp only
      have c2 := b3
      clear b3
      have n1 : Step s2 (nameF s2).2 := .name hrdy.top
      have hrdy3 := n1.rdy hrdy
      have n2 : Step (nameF s2).2 (numF (nameF s2).2).2 := .num hrdy3.top
      have hrdy4 := n2.rdy hrdy3
      have hl3 : (nameF s2).2.l.length ≤ 2 ^ 40 := Nat.le_trans (nameF_len s2) hl2
      have hl4 : (numF (nameF s2).2).2.l.length ≤ 2 ^ 40 := Nat.le_trans (numF_len _) hl3
      clear n1 n2
      repeat' (first | ((with_reducible first | refine wA (by omega) ?_ | refine wB (by omega) ?_ | refine wC (by omega) ?_ | refine wD (by omega) ?_ | refine wE ?_ ?_ | refine wF ?_ ?_ | refine wG ?_ ?_ | refine wH ?_ ?_ | refine wI ?_ ?_ | refine wJ ?_ ?_ | refine wK ?_ ?_ | refine wL ?_ ?_) <;> intro _) | simp (maxSteps := 1000000) (disch := omega) only [go_sem, seval, *])
      refine call_mut (name_m s2 hl2 rid w _ _ (Nat.lt_of_lt_of_le (show rid < m2 by omega) (Nat.le_add_right _ _)) (g2)) ?_
      rintro H3 m3 r3 ⟨hm3', rfl, g3, k3'⟩ -
      have hm3 : m2 ≤ m3 := Nat.le_trans (Nat.le_add_right _ _) hm3'
      have b3 : H3 nx = some ⟨[.sc (.int .i64 0), .sc (.int .i64 0), .sc (.string ⟨#[]⟩), .sc (.slice none 0 0), .sc (.slice none 0 0)], true⟩ := (k3' nx (Nat.lt_of_lt_of_le (show nx < m2 by omega) (Nat.le_add_right _ _)) (by omega)).trans (b2)
      have c3 : H3 (nx + 4) = some ⟨[.sc (.int .i64 (3 : Nat)), .sc (.int .i64 0), .sc (.string ⟨#[]⟩), .sc (.slice none 0 0), .sc (.slice none 0 0)], true⟩ := (k3' (nx + 4) (Nat.lt_of_lt_of_le (show nx + 4 < m2 by omega) (Nat.le_add_right _ _)) (by omega)).trans c2
      have k3 : Kept (∀ j, j < nx → j ≠ rid → H3 j = H j) := fun j e1 e2 => (k3' j (Nat.lt_of_lt_of_le (show j < m2 by omega) (Nat.le_add_right _ _)) e2).trans (k2 j e1 e2)
      clear hm3' k3' k2 b2 c2 g2
      repeat' (first | ((with_reducible first | refine wA (by omega) ?_ | refine wB (by omega) ?_ | refine wC (by omega) ?_ | refine wD (by omega) ?_ | refine wE ?_ ?_ | refine wF ?_ ?_ | refine wG ?_ ?_ | refine wH ?_ ?_ | refine wI ?_ ?_ | refine wJ ?_ ?_ | refine wK ?_ ?_ | refine wL ?_ ?_) <;> intro _) | simp (maxSteps := 1000000) (disch := omega) only [go_sem, seval, *])
      refine call_mut (number_m (nameF s2).2 hl3 rid w _ _ (Nat.lt_of_lt_of_le (show rid < m3 by omega) (Nat.le_add_right _ _)) (upd_out (by omega) (g3))) ?_
      rintro H4 m4 r4 ⟨hm4', rfl, g4, k4'⟩ -
      have hm4 : m3 ≤ m4 := Nat.le_trans (Nat.le_add_right _ _) hm4'
      have b4 : H4 nx = some ⟨[.sc (.int .i64 0), .sc (.int .i64 0), .sc (.string ⟨#[]⟩), .sc (.slice none 0 0), .sc (.slice none 0 0)], true⟩ := (k4' nx (Nat.lt_of_lt_of_le (show nx < m3 by omega) (Nat.le_add_right _ _)) (by omega)).trans (upd_out (by omega) (b3))
      have c4 : H4 (nx + 4) = some ⟨[.sc (.int .i64 (3 : Nat)), .sc (.int .i64 0), .sc (.string (nameF s2).1), .sc (.slice none 0 0), .sc (.slice none 0 0)], true⟩ := (k4' (nx + 4) (Nat.lt_of_lt_of_le (show nx + 4 < m3 by omega) (Nat.le_add_right _ _)) (by omega)).trans (upd_same _ _ _)
      have k4 : Kept (∀ j, j < nx → j ≠ rid → H4 j = H j) := fun j e1 e2 => (k4' j (Nat.lt_of_lt_of_le (show j < m3 by omega) (Nat.le_add_right _ _)) e2).trans (upd_out (by omega) (k3 j e1 e2))
      clear hm4' k4' k3 b3 c3 g3
      have hmin : min (((numF (nameF s2).2).1 : Nat) : Int) 5 = ((min (numF (nameF s2).2).1 5 : Nat) : Int) := by omega
      generalize (numF (nameF s2).2).1 = c at *
      generalize (numF (nameF s2).2).2 = s4 at *
      generalize (nameF s2).1 = nm at *
      repeat' (first | ((with_reducible first | refine wA (by omega) ?_ | refine wB (by omega) ?_ | refine wC (by omega) ?_ | refine wD (by omega) ?_ | refine wE ?_ ?_ | refine wF ?_ ?_ | refine wG ?_ ?_ | refine wH ?_ ?_ | refine wI ?_ ?_ | refine wJ ?_ ?_ | refine wK ?_ ?_ | refine wL ?_ ?_) <;> intro _) | simp (maxSteps := 1000000) (disch := omega) only [go_sem, seval, *])
      refine call_mut (levels_m (level_step fuel) (level_shrink fuel) (level_m fuel) (min c 5) (by omega) s4 hrdy4 hl4 rid w _ _ (Nat.lt_of_lt_of_le (show rid < m4 by omega) (Nat.le_refl _)) g4) ?_
      rintro H5 m5 r5 ⟨hm5', rfl, g5, k5'⟩ -
      have hm5 : m4 ≤ m5 := hm5'
      have b5 : H5 nx = some ⟨[.sc (.int .i64 0), .sc (.int .i64 0), .sc (.string ⟨#[]⟩), .sc (.slice none 0 0), .sc (.slice none 0 0)], true⟩ := (k5' nx (Nat.lt_of_lt_of_le (show nx < m4 by omega) (Nat.le_refl _)) (by omega)).trans (b4)
      have c5 : H5 (nx + 4) = some ⟨[.sc (.int .i64 (3 : Nat)), .sc (.int .i64 0), .sc (.string nm), .sc (.slice none 0 0), .sc (.slice none 0 0)], true⟩ := (k5' (nx + 4) (Nat.lt_of_lt_of_le (show nx + 4 < m4 by omega) (Nat.le_refl _)) (by omega)).trans c4
      have k5 : Kept (∀ j, j < nx → j ≠ rid → H5 j = H j) := fun j e1 e2 => (k5' j (Nat.lt_of_lt_of_le (show j < m4 by omega) (Nat.le_refl _)) e2).trans (k4 j e1 e2)
      clear hm5' k5' k4 b4 c4 g4
      repeat' (first | ((with_reducible first | refine wA (by omega) ?_ | refine wB (by omega) ?_ | refine wC (by omega) ?_ | refine wD (by omega) ?_ | refine wE ?_ ?_ | refine wF ?_ ?_ | refine wG ?_ ?_ | refine wH ?_ ?_ | refine wI ?_ ?_ | refine wJ ?_ ?_ | refine wK ?_ ?_ | refine wL ?_ ?_) <;> intro _) | simp (maxSteps := 1000000) (disch := omega) only [go_sem, seval, *])
      refine fin_mut (.agg [.sc (.int .i64 (3 : Nat)), .sc (.int .i64 0), .sc (.string nm), .sl 3 ((repF (levelF fuel) (min c 5) s4).1.map Lv.pv), .sc (.slice none 0 0)]) (.inr rfl) cE2 ⟨by simp only [Nat.add_assoc]; exact Nat.le_trans (by omega) (Nat.le_add_right _ _), ⟨0, tm0_weak _ _ _ _ [] (.refl _) (.nil 5)⟩, upd_out (by omega) (upd_out (by omega) g5), fun j e1 e2 => upd_out (by omega) (upd_out (by omega) (k5 j e1 e2))⟩
    · rw [if_neg (by decide), if_neg (by decide), if_neg (by decide), if_pos (.inl rfl)]
      simp only
      have c2 := b3
      clear b3
      repeat' (first | ((with_reducible first | refine wA (by omega) ?_ | refine wB (by omega) ?_ | refine wC (by omega) ?_ | refine wD (by omega) ?_ | refine wE ?_ ?_ | refine wF ?_ ?_ | refine wG ?_ ?_ | refine wH ?_ ?_ | refine wI ?_ ?_ | refine wJ ?_ ?_ | refine wK ?_ ?_ | refine wL ?_ ?_) <;> intro _) | simp (maxSteps := 1000000) (disch := omega) only [go_sem, seval, *])
      refine call_mut (terms_m (term_step fuel) (term_shrink fuel) ih 2 (by decide) s2 hrdy hl2 rid w _ _ (Nat.lt_of_lt_of_le (show rid < m2 by omega) (Nat.le_add_right _ _)) (g2)) ?_
      rintro H3 m3 r3 ⟨hm3', rfl, g3, k3'⟩ -
      have hm3 : m2 ≤ m3 := Nat.le_trans (Nat.le_add_right _ _) hm3'
      have b3 : H3 nx = some ⟨[.sc (.int .i64 0), .sc (.int .i64 0), .sc (.string ⟨#[]⟩), .sc (.slice none 0 0), .sc (.slice none 0 0)], true⟩ := (k3' nx (Nat.lt_of_lt_of_le (show nx < m2 by omega) (Nat.le_add_right _ _)) (by omega)).trans (b2)
      have c3 : H3 (nx + 4) = some ⟨[.sc (.int .i64 (4 : Nat)), .sc (.int .i64 0), .sc (.string ⟨#[]⟩), .sc (.slice none 0 0), .sc (.slice none 0 0)], true⟩ := (k3' (nx + 4) (Nat.lt_of_lt_of_le (show nx + 4 < m2 by omega) (Nat.le_add_right _ _)) (by omega)).trans c2
      have k3 : Kept (∀ j, j < nx → j ≠ rid → H3 j = H j) := fun j e1 e2 => (k3' j (Nat.lt_of_lt_of_le (show j < m2 by omega) (Nat.le_add_right _ _)) e2).trans (k2 j e1 e2)
      clear hm3' k3' k2 b2 c2 g2
      repeat' (first | ((with_reducible first | refine wA (by omega) ?_ | refine wB (by omega) ?_ | refine wC (by omega) ?_ | refine wD (by omega) ?_ | refine wE ?_ ?_ | refine wF ?_ ?_ | refine wG ?_ ?_ | refine wH ?_ ?_ | refine wI ?_ ?_ | refine wJ ?_ ?_ | refine wK ?_ ?_ | refine wL ?_ ?_) <;> intro _) | simp (maxSteps := 1000000) (disch := omega) only [go_sem, seval, *])
      refine fin_mut (.agg [.sc (.int .i64 (4 : Nat)), .sc (.int .i64 0), .sc (.string ⟨#[]⟩), .sc (.slice none 0 0), .sl 5 ((repF (termF fuel) 2 s2).1.map Tm.pv)]) (.inr rfl) cE2 ⟨by simp only [Nat.add_assoc]; exact Nat.le_trans (by omega) (Nat.le_add_right _ _), ⟨0, tm0_weak _ _ _ [] _ (.nil 3) (.refl _)⟩, upd_out (by omega) (upd_out (by omega) g3), fun j e1 e2 => upd_out (by omega) (upd_out (by omega) (k3 j e1 e2))⟩
    · rw [if_neg (by decide), if_neg (by decide), if_neg (by decide), if_pos (.inr (.inl rfl))]
      simp only
      have c2 := b3
      clear b3
      repeat' (first | ((with_reducible first | refine wA (by omega) ?_ | refine wB (by omega) ?_ | refine wC (by omega) ?_ | refine wD (by omega) ?_ | refine wE ?_ ?_ | refine wF ?_ ?_ | refine wG ?_ ?_ | refine wH ?_ ?_ | refine wI ?_ ?_ | refine wJ ?_ ?_ | refine wK ?_ ?_ | refine wL ?_ ?_) <;> intro _) | simp (maxSteps := 1000000) (disch := omega) only [go_sem, seval, *])
      refine call_mut (terms_m (term_step fuel) (term_shrink fuel) ih 2 (by decide) s2 hrdy hl2 rid w _ _ (Nat.lt_of_lt_of_le (show rid < m2 by omega) (Nat.le_add_right _ _)) (g2)) ?_
      rintro H3 m3 r3 ⟨hm3', rfl, g3, k3'⟩ -
      have hm3 : m2 ≤ m3 := Nat.le_trans (Nat.le_add_right _ _) hm3'
      have b3 : H3 nx = some ⟨[.sc (.int .i64 0), .sc (.int .i64 0), .sc (.string ⟨#[]⟩), .sc (.slice none 0 0), .sc (.slice none 0 0)], true⟩ := (k3' nx (Nat.lt_of_lt_of_le (show nx < m2 by omega) (Nat.le_add_right _ _)) (by omega)).trans (b2)
      have c3 : H3 (nx + 4) = some ⟨[.sc (.int .i64 (5 : Nat)), .sc (.int .i64 0), .sc (.string ⟨#[]⟩), .sc (.slice none 0 0), .sc (.slice none 0 0)], true⟩ := (k3' (nx + 4) (Nat.lt_of_lt_of_le (show nx + 4 < m2 by omega) (Nat.le_add_right _ _)) (by omega)).trans c2
      have k3 : Kept (∀ j, j < nx → j ≠ rid → H3 j = H j) := fun j e1 e2 => (k3' j (Nat.lt_of_lt_of_le (show j < m2 by omega) (Nat.le_add_right _ _)) e2).trans (k2 j e1 e2)
      clear hm3' k3' k2 b2 c2 g2
      repeat' (first | ((with_reducible first | refine wA (by omega) ?_ | refine wB (by omega) ?_ | refine wC (by omega) ?_ | refine wD (by omega) ?_ | refine wE ?_ ?_ | refine wF ?_ ?_ | refine wG ?_ ?_ | refine wH ?_ ?_ | refine wI ?_ ?_ | refine wJ ?_ ?_ | refine wK ?_ ?_ | refine wL ?_ ?_) <;> intro _) | simp (maxSteps := 1000000) (disch := omega) only [go_sem, seval, *])
      refine fin_mut (.agg [.sc (.int .i64 (5 : Nat)), .sc (.int .i64 0), .sc (.string ⟨#[]⟩), .sc (.slice none 0 0), .sl 5 ((repF (termF fuel) 2 s2).1.map Tm.pv)]) (.inr rfl) cE2 ⟨by simp only [Nat.add_assoc]; exact Nat.le_trans (by omega) (Nat.le_add_right _ _), ⟨0, tm0_weak _ _ _ [] _ (.nil 3) (.refl _)⟩, upd_out (by omega) (upd_out (by omega) g3), fun j e1 e2 => upd_out (by omega) (upd_out (by omega) (k3 j e1 e2))⟩
    · rw [if_neg (by decide), if_neg (by decide), if_neg (by decide), if_pos (.inr (.inr rfl))]
      simp only
      have c2 := b3
      clear b3
      repeat' (first | ((with_reducible first | refine wA (by omega) ?_ | refine wB (by omega) ?_ | refine wC (by omega) ?_ | refine wD (by omega) ?_ | refine wE ?_ ?_ | refine wF ?_ ?_ | refine wG ?_ ?_ | refine wH ?_ ?_ | refine wI ?_ ?_ | refine wJ ?_ ?_ | refine wK ?_ ?_ | refine wL ?_ ?_) <;> intro _) | simp (maxSteps := 1000000) (disch := omega) only [go_sem, seval, *])
      refine call_mut (terms_m (term_step fuel) (term_shrink fuel) ih 2 (by decide) s2 hrdy hl2 rid w _ _ (Nat.lt_of_lt_of_le (show rid < m2 by omega) (Nat.le_add_right _ _)) (g2)) ?_
      rintro H3 m3 r3 ⟨hm3', rfl, g3, k3'⟩ -
      have hm3 : m2 ≤ m3 := Nat.le_trans (Nat.le_add_right _ _) hm3'
      have b3 : H3 nx = some ⟨[.sc (.int .i64 0), .sc (.int .i64 0), .sc (.string ⟨#[]⟩), .sc (.slice none 0 0), .sc (.slice none 0 0)], true⟩ := (k3' nx (Nat.lt_of_lt_of_le (show nx < m2 by omega) (Nat.le_add_right _ _)) (by omega)).trans (b2)
      have c3 : H3 (nx + 4) = some ⟨[.sc (.int .i64 (6 : Nat)), .sc (.int .i64 0), .sc (.string ⟨#[]⟩), .sc (.slice none 0 0), .sc (.slice none 0 0)], true⟩ := (k3' (nx + 4) (Nat.lt_of_lt_of_le (show nx + 4 < m2 by omega) (Nat.le_add_right _ _)) (by omega)).trans c2
      have k3 : Kept (∀ j, j < nx → j ≠ rid → H3 j = H j) := fun j e1 e2 => (k3' j (Nat.lt_of_lt_of_le (show j < m2 by omega) (Nat.le_add_right _ _)) e2).trans (k2 j e1 e2)
      clear hm3' k3' k2 b2 c2 g2
      repeat' (first | ((with_reducible first | refine wA (by omega) ?_ | refine wB (by omega) ?_ | refine wC (by omega) ?_ | refine wD (by omega) ?_ | refine wE ?_ ?_ | refine wF ?_ ?_ | refine wG ?_ ?_ | refine wH ?_ ?_ | refine wI ?_ ?_ | refine wJ ?_ ?_ | refine wK ?_ ?_ | refine wL ?_ ?_) <;> intro _) | simp (maxSteps := 1000000) (disch := omega) only [go_sem, seval, *])
      refine fin_mut (.agg [.sc (.int .i64 (6 : Nat)), .sc (.int .i64 0), .sc (.string ⟨#[]⟩), .sc (.slice none 0 0), .sl 5 ((repF (termF fuel) 2 s2).1.map Tm.pv)]) (.inr rfl) cE2 ⟨by simp only [Nat.add_assoc]; exact Nat.le_trans (by omega) (Nat.le_add_right _ _), ⟨0, tm0_weak _ _ _ [] _ (.nil 3) (.refl _)⟩, upd_out (by omega) (upd_out (by omega) g3), fun j e1 e2 => upd_out (by omega) (upd_out (by omega) (k3 j e1 e2))⟩
    · rw [if_neg (by decide), if_neg (by decide), if_neg (by decide), if_neg (by decide), if_pos rfl]
      simp only
      have c2 := b3
      clear b3
      repeat' (first | ((with_reducible first | refine wA (by omega) ?_ | refine wB (by omega) ?_ | refine wC (by omega) ?_ | refine wD (by omega) ?_ | refine wE ?_ ?_ | refine wF ?_ ?_ | refine wG ?_ ?_ | refine wH ?_ ?_ | refine wI ?_ ?_ | refine wJ ?_ ?_ | refine wK ?_ ?_ | refine wL ?_ ?_) <;> intro _) | simp (maxSteps := 1000000) (disch := omega) only [go_sem, seval, *])
      refine call_mut (terms_m (term_step fuel) (term_shrink fuel) ih 3 (by decide) s2 hrdy hl2 rid w _ _ (Nat.lt_of_lt_of_le (show rid < m2 by omega) (Nat.le_add_right _ _)) (g2)) ?_
      rintro H3 m3 r3 ⟨hm3', rfl, g3, k3'⟩ -
      have hm3 : m2 ≤ m3 := Nat.le_trans (Nat.le_add_right _ _) hm3'
      have b3 : H3 nx = some ⟨[.sc (.int .i64 0), .sc (.int .i64 0), .sc (.string ⟨#[]⟩), .sc (.slice none 0 0), .sc (.slice none 0 0)], true⟩ := (k3' nx (Nat.lt_of_lt_of_le (show nx < m2 by omega) (Nat.le_add_right _ _)) (by omega)).trans (b2)
      have c3 : H3 (nx + 4) = some ⟨[.sc (.int .i64 (7 : Nat)), .sc (.int .i64 0), .sc (.string ⟨#[]⟩), .sc (.slice none 0 0), .sc (.slice none 0 0)], true⟩ := (k3' (nx + 4) (Nat.lt_of_lt_of_le (show nx + 4 < m2 by omega) (Nat.le_add_right _ _)) (by omega)).trans c2
      have k3 : Kept (∀ j, j < nx → j ≠ rid → H3 j = H j) := fun j e1 e2 => (k3' j (Nat.lt_of_lt_of_le (show j < m2 by omega) (Nat.le_add_right _ _)) e2).trans (k2 j e1 e2)
      clear hm3' k3' k2 b2 c2 g2
      repeat' (first | ((with_reducible first | refine wA (by omega) ?_ | refine wB (by omega) ?_ | refine wC (by omega) ?_ | refine wD (by omega) ?_ | refine wE ?_ ?_ | refine wF ?_ ?_ | refine wG ?_ ?_ | refine wH ?_ ?_ | refine wI ?_ ?_ | refine wJ ?_ ?_ | refine wK ?_ ?_ | refine wL ?_ ?_) <;> intro _) | simp (maxSteps := 1000000) (disch := omega) only [go_sem, seval, *])
      refine fin_mut (.agg [.sc (.int .i64 (7 : Nat)), .sc (.int .i64 0), .sc (.string ⟨#[]⟩), .sc (.slice none 0 0), .sl 5 ((repF (termF fuel) 3 s2).1.map Tm.pv)]) (.inr rfl) cE2 ⟨by simp only [Nat.add_assoc]; exact Nat.le_trans (by omega) (Nat.le_add_right _ _), ⟨0, tm0_weak _ _ _ [] _ (.nil 3) (.refl _)⟩, upd_out (by omega) (upd_out (by omega) g3), fun j e1 e2 => upd_out (by omega) (upd_out (by omega) (k3 j e1 e2))⟩
    · rw [if_neg h1, if_neg h2, if_neg h3, if_neg (by omega), if_neg h7]
      simp only
      obtain ⟨l2, no2, ba2⟩ := s2
      simp only [rdC] at g2
      repeat' (first | ((with_reducible first | refine wA (by omega) ?_ | refine wB (by omega) ?_ | refine wC (by omega) ?_ | refine wD (by omega) ?_ | refine wE ?_ ?_ | refine wF ?_ ?_ | refine wG ?_ ?_ | refine wH ?_ ?_ | refine wI ?_ ?_ | refine wJ ?_ ?_ | refine wK ?_ ?_ | refine wL ?_ ?_) <;> intro _) | simp (maxSteps := 1000000) (disch := omega) only [go_sem, seval, *])
      refine fin_mut (.agg [.sc (.int .i64 (k : Nat)), .sc (.int .i64 0), .sc (.string ⟨#[]⟩), .sc (.slice none 0 0), .sc (.slice none 0 0)]) (.inr rfl) cE2 ⟨by simp only [Nat.add_assoc]; exact Nat.le_trans (by omega) (Nat.le_add_right _ _), ⟨0, tm0_weak _ _ _ [] [] (.nil 3) (.nil 5)⟩, ?_, fun j e1 e2 => ?_⟩
      · simp [upd, rdC, show rid ≠ nx by omega]
      · simp only [upd, e2, show j ≠ nx by omega, if_false]; exact k2 j e1 e2
end
section
set_option maxRecDepth 20000
attribute [local go_sem] pv_len pv_take tm_len tm_take pv_one tm_one id_ne id_ne' id_ne2
mutual
def Tm.vis (np : Int) : Int → Tm → Nat
  | k, .mk kind n s ls args => 1 + (if ((kind = 4 ∨ kind = 5 ∨ kind = 6) ∧ hasB n s ls args 0 0 2 = true) ∨ (kind = 7 ∧ hasB n s ls args 0 0 3 = true) then visA np k kind args.length 0 args else 0)
def visA (np : Int) : Int → Int → Nat → Nat → List Tm → Nat
  | _, _, _, _, [] => 0
  | k, kind, len, i, x :: r => x.vis np (k + deepB kind len i) + (if x.formed np (k + deepB kind len i) = true then visA np k kind len (i + 1) r else 0)
end
theorem vis_pos (np k : Int) (t : Tm) : 0 < t.vis np k := by
  cases t
  simp only [Tm.vis]
  omega
set_option maxHeartbeats 16000000 in
theorem formedV_p (np : Int) : ∀ (fuel : Nat) (t : Tm) (k : Int), t.vis np k ≤ fuel → 0 ≤ k → k + t.vis np k ≤ 2 ^ 60 → PPure Try.prog F.term_formed [.ptr t.pv, .sc (.int .i64 np), .sc (.int .i64 k)] (.sc (.bool (t.formed np k))) := by
  intro fuel
  induction fuel with
  | zero => intro t k h; have := vis_pos np k t; omega
  | succ fuel ih =>
    have hparts : ∀ (kind n : Int) (s : ByteArray) (ls : List Lv) (args : List Tm) (k : Int), visA np k kind args.length 0 args ≤ fuel → 0 ≤ k → k + visA np k kind args.length 0 args + 1 ≤ 2 ^ 60 →
        PPure Try.prog F.term_parts [.ptr (Tm.mk kind n s ls args).pv, .sc (.int .i64 np), .sc (.int .i64 k)] (.sc (.bool (formedA np k kind args.length 0 args))) := by
      intro kind n s ls args k hsz h0 h1
      have hih := Kept.mk ih
      clear ih
      refine pure_by is_term_parts (by simp) rfl fun hb nx => ?_
      have hb0 : args.length ≤ 9223372036854775807 := by simp [Tm.pv, bndL, PV.bnd] at hb; exact hb.2.1
      clear hb
      repeat' (first | ((with_reducible first | refine wA (by omega) ?_ | refine wB (by omega) ?_ | refine wC (by omega) ?_ | refine wD (by omega) ?_ | refine wE ?_ ?_ | refine wF ?_ ?_ | refine wG ?_ ?_ | refine wH ?_ ?_ | refine wI ?_ ?_ | refine wJ ?_ ?_ | refine wK ?_ ?_ | refine wL ?_ ?_) <;> intro _) | simp (maxSteps := 1000000) (disch := omega) only [go_sem, seval, mc_term_parts, Tm.pv, *])
      refine c_loopW 2147475648 (by kernel_rfl) (fun j f H m => ∃ i : Nat, j = args.length - i ∧ i ≤ args.length ∧ f 13 = .sc (.int .i64 i) ∧ Kept (formedA np k kind args.length 0 args = formedA np k kind args.length i (args.drop i)) ∧ visA np k kind args.length i (args.drop i) ≤ visA np k kind args.length 0 args) _ ⟨0, rfl, cE1, cE1, Kept.mk (by rw [List.drop_zero]), by rw [List.drop_zero]; exact Nat.le_refl _⟩ ?_
      rintro _ f H m ⟨i, rfl, hi, e13, hs, hv⟩
      by_cases hlt : i < args.length
      · have eg : args[i]? = some args[i] := List.getElem?_eq_getElem hlt
        have hd := deep_bd kind args.length i
        have hst : Kept (formedA np k kind args.length i (args.drop i) = (args[i].formed np (k + deepB kind args.length i) && formedA np k kind args.length (i + 1) (args.drop (i + 1)))) := Kept.mk (by rw [List.drop_eq_getElem_cons hlt]; rfl)
        have hvs : visA np k kind args.length i (args.drop i) = args[i].vis np (k + deepB kind args.length i) + (if args[i].formed np (k + deepB kind args.length i) = true then visA np k kind args.length (i + 1) (args.drop (i + 1)) else 0) := by rw [List.drop_eq_getElem_cons hlt]; rfl
        have hc1 := deeper_p (.mk kind n s ls args) i
        have hc2 := hc1 kind n s ls args rfl
        simp only [Tm.pv] at hc2
        have hc3 := hih.out args[i] (k + deepB kind args.length i) (by omega) (by omega) (by omega)
        clear hc1
        cases hf : args[i].formed np (k + deepB kind args.length i) with
        | false =>
          have e : formedA np k kind args.length 0 args = false := by rw [hs.out, hst.out, hf]; rfl
          rw [e]
          rw [hf] at hc3
          clear hs hst hvs hv hf e
          repeat' (first | ((with_reducible first | refine wA (by omega) ?_ | refine wB (by omega) ?_ | refine wC (by omega) ?_ | refine wD (by omega) ?_ | refine wE ?_ ?_ | refine wF ?_ ?_ | refine wG ?_ ?_ | refine wH ?_ ?_ | refine wI ?_ ?_ | refine wJ ?_ ?_ | refine wK ?_ ?_ | refine wL ?_ ?_) <;> intro _) | (((with_reducible refine call_id ?_); (first | (refine call_pure (hc2) ?_) | (refine call_pure (hc3) ?_)))) | simp (maxSteps := 1000000) (disch := omega) only [go_sem, seval, Tm.pv, *])
          all_goals (exact fin_tmp (.inr rfl) cE3)
        | true =>
          have hs2 : Kept (formedA np k kind args.length 0 args = formedA np k kind args.length (i + 1) (args.drop (i + 1))) := Kept.mk (by rw [hs.out, hst.out, hf]; rfl)
          rw [hf, if_pos rfl] at hvs
          rw [hf] at hc3
          have hv2 : visA np k kind args.length (i + 1) (args.drop (i + 1)) ≤ visA np k kind args.length 0 args := by omega
          clear hs hst hvs hf
          repeat' (first | ((with_reducible first | refine wA (by omega) ?_ | refine wB (by omega) ?_ | refine wC (by omega) ?_ | refine wD (by omega) ?_ | refine wE ?_ ?_ | refine wF ?_ ?_ | refine wG ?_ ?_ | refine wH ?_ ?_ | refine wI ?_ ?_ | refine wJ ?_ ?_ | refine wK ?_ ?_ | refine wL ?_ ?_) <;> intro _) | (((with_reducible refine call_id ?_); (first | (refine call_pure (hc2) ?_) | (refine call_pure (hc3) ?_)))) | simp (maxSteps := 1000000) (disch := omega) only [go_sem, seval, Tm.pv, *])
          exact Nx.mk (args.length - (i + 1)) cE1 ⟨i + 1, rfl, cE1, by simp [upd], hs2, hv2⟩
      · obtain rfl : i = args.length := by omega
        have h2 := hs.out
        rw [List.drop_length, formedA] at h2
        rw [h2]
        clear hs h2
        repeat' (first | ((with_reducible first | refine wA (by omega) ?_ | refine wB (by omega) ?_ | refine wC (by omega) ?_ | refine wD (by omega) ?_ | refine wE ?_ ?_ | refine wF ?_ ?_ | refine wG ?_ ?_ | refine wH ?_ ?_ | refine wI ?_ ?_ | refine wJ ?_ ?_ | refine wK ?_ ?_ | refine wL ?_ ?_) <;> intro _) | simp (maxSteps := 1000000) (disch := omega) only [go_sem, seval, Tm.pv, *])
        all_goals (exact fin_tmp (.inr rfl) cE3)
    intro t k hsz h0 h1
    cases t with
    | mk kind n s ls args =>
    simp only [Tm.vis] at hsz h1
    have c1 := has_p kind n s ls args
    have c2 := constant_p kind n s ls args np
    have c3 : ((kind = 4 ∨ kind = 5 ∨ kind = 6) ∧ hasB n s ls args 0 0 2 = true) ∨ (kind = 7 ∧ hasB n s ls args 0 0 3 = true) → PPure Try.prog F.term_parts [.ptr (Tm.mk kind n s ls args).pv, .sc (.int .i64 np), .sc (.int .i64 k)] (.sc (.bool (formedA np k kind args.length 0 args))) := fun h => by
      rw [if_pos h] at hsz h1
      exact hparts kind n s ls args k (by omega) h0 (by omega)
    simp only [Tm.pv] at c1 c2 c3
    clear ih hparts hsz
    refine pure_by is_term_formed (by simp) rfl fun hb nx => ?_
    clear hb
    by_cases k1 : kind = 1
    · subst k1
      clear c3
      repeat' (first | ((with_reducible first | refine wA (by omega) ?_ | refine wB (by omega) ?_ | refine wC (by omega) ?_ | refine wD (by omega) ?_ | refine wE ?_ ?_ | refine wF ?_ ?_ | refine wG ?_ ?_ | refine wH ?_ ?_ | refine wI ?_ ?_ | refine wJ ?_ ?_ | refine wK ?_ ?_ | refine wL ?_ ?_) <;> intro _) | (((with_reducible refine call_id ?_); (first | (refine call_pure (c1 n 0 0) ?_)))) | simp (maxSteps := 1000000) (disch := omega) only [go_sem, seval, mc_term_formed, Tm.pv, *])
      all_goals (refine fin_tmp (.inr rfl) ?_; simp [upd, Tm.formed, headR, *]; try omega)
    by_cases k2 : kind = 2
    · subst k2
      clear c3
      by_cases h2 : hasB n s ls args 0 1 0 = true
      · have hl : ls.length = 1 := by
          simp only [hasB, Bool.and_eq_true, decide_eq_true_eq] at h2
          omega
        match ls, hl with
        | [l], _ =>
          repeat' (first | ((with_reducible first | refine wA (by omega) ?_ | refine wB (by omega) ?_ | refine wC (by omega) ?_ | refine wD (by omega) ?_ | refine wE ?_ ?_ | refine wF ?_ ?_ | refine wG ?_ ?_ | refine wH ?_ ?_ | refine wI ?_ ?_ | refine wJ ?_ ?_ | refine wK ?_ ?_ | refine wL ?_ ?_) <;> intro _) | (((with_reducible refine call_id ?_); (first | (refine call_pure (c1 0 1 0) ?_) | (refine call_pure (Right_p l np) ?_)))) | simp (maxSteps := 1000000) (disch := omega) only [go_sem, seval, mc_term_formed, Tm.pv, *])
          all_goals (refine fin_tmp (.inr rfl) ?_; simp [upd, Tm.formed, headR, *]; try omega)
      · repeat' (first | ((with_reducible first | refine wA (by omega) ?_ | refine wB (by omega) ?_ | refine wC (by omega) ?_ | refine wD (by omega) ?_ | refine wE ?_ ?_ | refine wF ?_ ?_ | refine wG ?_ ?_ | refine wH ?_ ?_ | refine wI ?_ ?_ | refine wJ ?_ ?_ | refine wK ?_ ?_ | refine wL ?_ ?_) <;> intro _) | (((with_reducible refine call_id ?_); (first | (refine call_pure (c1 0 1 0) ?_)))) | simp (maxSteps := 1000000) (disch := omega) only [go_sem, seval, mc_term_formed, Tm.pv, *])
        all_goals (refine fin_tmp (.inr rfl) ?_; simp [upd, Tm.formed, headR, *]; try omega)
    by_cases k3 : kind = 3
    · subst k3
      clear c3
      repeat' (first | ((with_reducible first | refine wA (by omega) ?_ | refine wB (by omega) ?_ | refine wC (by omega) ?_ | refine wD (by omega) ?_ | refine wE ?_ ?_ | refine wF ?_ ?_ | refine wG ?_ ?_ | refine wH ?_ ?_ | refine wI ?_ ?_ | refine wJ ?_ ?_ | refine wK ?_ ?_ | refine wL ?_ ?_) <;> intro _) | (((with_reducible refine call_id ?_); (first | (refine call_pure (c2) ?_)))) | simp (maxSteps := 1000000) (disch := omega) only [go_sem, seval, mc_term_formed, Tm.pv, *])
      all_goals (refine fin_tmp (.inr rfl) ?_; simp [upd, Tm.formed, headR, *]; try omega)
    by_cases k456 : kind = 4 ∨ kind = 5 ∨ kind = 6
    · by_cases h2 : hasB n s ls args 0 0 2 = true
      · have c4 := c3 (.inl ⟨k456, h2⟩)
        have c5 := c1 0 0 2
        rw [h2] at c5
        clear c3 c1 c2
        rcases k456 with rfl | rfl | rfl
        all_goals
          repeat' (first | ((with_reducible first | refine wA (by omega) ?_ | refine wB (by omega) ?_ | refine wC (by omega) ?_ | refine wD (by omega) ?_ | refine wE ?_ ?_ | refine wF ?_ ?_ | refine wG ?_ ?_ | refine wH ?_ ?_ | refine wI ?_ ?_ | refine wJ ?_ ?_ | refine wK ?_ ?_ | refine wL ?_ ?_) <;> intro _) | (((with_reducible refine call_id ?_); (first | (refine call_pure (c5) ?_) | (refine call_pure (c4) ?_)))) | simp (maxSteps := 1000000) (disch := omega) only [go_sem, seval, mc_term_formed, Tm.pv, *])
          all_goals (refine fin_tmp (.inr rfl) ?_; simp [upd, Tm.formed, headR, *]; try omega)
      · have c5 := c1 0 0 2
        rw [Bool.not_eq_true] at h2
        rw [h2] at c5
        clear c3 c1 c2
        rcases k456 with rfl | rfl | rfl
        all_goals
          repeat' (first | ((with_reducible first | refine wA (by omega) ?_ | refine wB (by omega) ?_ | refine wC (by omega) ?_ | refine wD (by omega) ?_ | refine wE ?_ ?_ | refine wF ?_ ?_ | refine wG ?_ ?_ | refine wH ?_ ?_ | refine wI ?_ ?_ | refine wJ ?_ ?_ | refine wK ?_ ?_ | refine wL ?_ ?_) <;> intro _) | (((with_reducible refine call_id ?_); (first | (refine call_pure (c5) ?_)))) | simp (maxSteps := 1000000) (disch := omega) only [go_sem, seval, mc_term_formed, Tm.pv, *])
          all_goals (refine fin_tmp (.inr rfl) ?_; simp [upd, Tm.formed, headR, *]; try omega)
    have k4 : kind ≠ 4 := fun h => k456 (.inl h)
    have k5 : kind ≠ 5 := fun h => k456 (.inr (.inl h))
    have k6 : kind ≠ 6 := fun h => k456 (.inr (.inr h))
    by_cases k7 : kind = 7
    · subst k7
      by_cases h2 : hasB n s ls args 0 0 3 = true
      · have c4 := c3 (.inr ⟨rfl, h2⟩)
        have c5 := c1 0 0 3
        rw [h2] at c5
        clear c3 c1 c2
        repeat' (first | ((with_reducible first | refine wA (by omega) ?_ | refine wB (by omega) ?_ | refine wC (by omega) ?_ | refine wD (by omega) ?_ | refine wE ?_ ?_ | refine wF ?_ ?_ | refine wG ?_ ?_ | refine wH ?_ ?_ | refine wI ?_ ?_ | refine wJ ?_ ?_ | refine wK ?_ ?_ | refine wL ?_ ?_) <;> intro _) | (((with_reducible refine call_id ?_); (first | (refine call_pure (c5) ?_) | (refine call_pure (c4) ?_)))) | simp (maxSteps := 1000000) (disch := omega) only [go_sem, seval, mc_term_formed, Tm.pv, *])
        all_goals (refine fin_tmp (.inr rfl) ?_; simp [upd, Tm.formed, headR, *]; try omega)
      · have c5 := c1 0 0 3
        rw [Bool.not_eq_true] at h2
        rw [h2] at c5
        clear c3 c1 c2
        repeat' (first | ((with_reducible first | refine wA (by omega) ?_ | refine wB (by omega) ?_ | refine wC (by omega) ?_ | refine wD (by omega) ?_ | refine wE ?_ ?_ | refine wF ?_ ?_ | refine wG ?_ ?_ | refine wH ?_ ?_ | refine wI ?_ ?_ | refine wJ ?_ ?_ | refine wK ?_ ?_ | refine wL ?_ ?_) <;> intro _) | (((with_reducible refine call_id ?_); (first | (refine call_pure (c5) ?_)))) | simp (maxSteps := 1000000) (disch := omega) only [go_sem, seval, mc_term_formed, Tm.pv, *])
        all_goals (refine fin_tmp (.inr rfl) ?_; simp [upd, Tm.formed, headR, *]; try omega)
    clear c1 c2 c3
    repeat' (first | ((with_reducible first | refine wA (by omega) ?_ | refine wB (by omega) ?_ | refine wC (by omega) ?_ | refine wD (by omega) ?_ | refine wE ?_ ?_ | refine wF ?_ ?_ | refine wG ?_ ?_ | refine wH ?_ ?_ | refine wI ?_ ?_ | refine wJ ?_ ?_ | refine wK ?_ ?_ | refine wL ?_ ?_) <;> intro _) | simp (maxSteps := 1000000) (disch := omega) only [go_sem, seval, mc_term_formed, Tm.pv, *])
    all_goals (refine fin_tmp (.inr rfl) ?_; simp [upd, Tm.formed, headR, *]; try omega)
end
section
set_option maxRecDepth 20000
attribute [local go_sem] pv_len pv_take tm_len tm_take pv_one tm_one id_ne id_ne' id_ne2
def Tm.nlv : Tm → Nat
  | .mk _ _ _ ls _ => ls.length
theorem nlv_of_pv {a b : Tm} (h : nodePV a = nodePV b) : a.nlv = b.nlv := by
  cases a; cases b
  simp only [nodePV, Tm.pv, PV.ptr.injEq, List.cons.injEq, PV.sl.injEq, true_and, and_true] at h
  simp only [Tm.nlv]
  rw [pvL_inj _ _ h.2.2.2.1]
def HasBad (us : List Tm) : Prop := ∃ p u, p ≤ 2000 ∧ us[p]? = some u ∧ 2 ^ 40 < u.nlv
theorem bad_prefix {us vs : List Tm} (h : us.map nodePV <+: vs.map nodePV) (hb : HasBad us) : HasBad vs := by
  obtain ⟨p, u, hp, hu, hn⟩ := hb
  obtain ⟨z, hz⟩ := h
  have h1 : (vs.map nodePV)[p]? = some (nodePV u) := by
    rw [← hz, List.getElem?_append_left (by rw [List.length_map]; exact (List.getElem?_eq_some_iff.1 hu).1), List.getElem?_map, hu]
    rfl
  rw [List.getElem?_map] at h1
  cases hv : vs[p]? with
  | none => rw [hv] at h1; cases h1
  | some v =>
    rw [hv] at h1
    simp only [Option.map_some, Option.some.injEq] at h1
    exact ⟨p, v, hp, hv, by rw [nlv_of_pv h1]; exact hn⟩
theorem bad_app {us vs : List Tm} (hb : HasBad us) : HasBad (us ++ vs) := by
  obtain ⟨p, u, hp, hu, hn⟩ := hb
  exact ⟨p, u, hp, by rw [List.getElem?_append_left (List.getElem?_eq_some_iff.1 hu).1]; exact hu, hn⟩
theorem bad_last {us : List Tm} {u : Tm} (h : us.length ≤ 2000) (hn : 2 ^ 40 < u.nlv) : HasBad (us ++ [u]) := ⟨us.length, u, h, by simp, hn⟩
theorem len_wts : ∀ us : List Tm, us.length ≤ wts us
  | [] => by simp [wts]
  | .mk k n s ls args :: r => by
    have := len_wts r
    simp only [wts, List.map_cons, List.sum_cons, List.length_cons, Tm.wt] at *
    omega
theorem minsL_len : ∀ ls : List Lv, minsL ls ≤ 2001 * ls.length
  | [] => by simp [minsL]
  | x :: r => by
    have := minsL_len r
    simp only [minsL, List.map_cons, List.sum_cons, List.length_cons] at *
    omega
mutual
theorem bnd_pre : ∀ t : Tm, bndL t.pv → ∀ u ∈ t.pre, u.nlv ≤ 9223372036854775807
  | .mk k n s ls args, h, u, hu => by
    simp only [Tm.pv, bndL, PV.bnd, List.length_map] at h
    simp only [Tm.pre, List.mem_cons] at hu
    rcases hu with rfl | hu
    · exact h.2.2.2.1.1
    · exact bnd_preL args h.2.2.2.2.1.2 u hu
theorem bnd_preL : ∀ ts : List Tm, bndLL (ts.map Tm.pv) → ∀ u ∈ preL ts, u.nlv ≤ 9223372036854775807
  | [], _, u, hu => by cases hu
  | x :: r, h, u, hu => by
    simp only [List.map_cons, bndLL] at h
    simp only [preL, List.mem_append] at hu
    rcases hu with hu | hu
    · exact bnd_pre x h.1 u hu
    · exact bnd_preL r h.2 u hu
end
set_option maxHeartbeats 8000000 in
theorem NodesG_m (t : Tm) (H : Nat → Option PObj) (nx : Nat) : PMut Try.prog F.term_Nodes [.agg t.pv] H nx (fun H' nx' r => ∃ v : Int, r = .sc (.int .i64 v) ∧ (v = (min t.nodes 2001 : Nat) ∨ HasBad t.pre)) := by
  refine mut_byR is_term_Nodes (by simp) fun hb => ?_
  have hbd := bnd_pre t (by simp only [bndL, PV.bnd] at hb; exact hb.1)
  clear hb
  repeat' (first | ((with_reducible first | refine wA (by omega) ?_ | refine wB (by omega) ?_ | refine wC (by omega) ?_ | refine wD (by omega) ?_ | refine wE ?_ ?_ | refine wF ?_ ?_ | refine wG ?_ ?_ | refine wH ?_ ?_ | refine wI ?_ ?_ | refine wJ ?_ ?_ | refine wK ?_ ?_ | refine wL ?_ ?_) <;> intro _) | (((with_reducible refine call_id ?_); (first | (refine call_pure (all_p t) ?_)))) | simp (maxSteps := 1000000) (disch := omega) only [go_sem, seval, mc_term_Nodes, *])
  refine c_rng (all_seq t) (by simp [ev, upd]) (fun pre H' m => ∃ (us : List Tm) (v : Int), pre = us.map nodePV ∧ H' (nx + 1) = some ⟨[.sc (.int .i64 0)], true⟩ ∧ H' (nx + 2) = some ⟨[.sc (.int .i64 v)], true⟩ ∧ ((wts us ≤ 2000 ∧ v = wts us) ∨ HasBad us))
    ⟨[], 0, rfl, noIt_keep (by simp [upd]) rfl, noIt_keep (by simp [upd]) rfl, .inl (by simp [wts])⟩ ?round ?done
  case round =>
    rintro pre x H' m hx hlen ⟨us, v, rfl, h1, h2, hor⟩ hnx
    obtain ⟨u, hu, rfl⟩ := List.mem_map.1 hx
    have hub := hbd u hu
    have hus : (us.map nodePV ++ [nodePV u]) = (us ++ [u]).map nodePV := by simp
    rw [hus]
    have hwu : wts (us ++ [u]) = wts us + u.wt := by simp [wts]
    clear hx hlen hu hus hbd
    by_cases hgood : (wts us ≤ 2000 ∧ v = wts us) ∧ u.nlv ≤ 2 ^ 40
    · obtain ⟨⟨hw, rfl⟩, hl40⟩ := hgood
      clear hor hub
      cases u with
      | mk k n s ls args =>
      simp only [Tm.nlv] at hl40
      have hmn := minsL_len ls
      simp only [Tm.wt] at hwu
      simp only [nodePV]
      repeat' (first | ((with_reducible first | refine wA (by omega) ?_ | refine wB (by omega) ?_ | refine wC (by omega) ?_ | refine wD (by omega) ?_ | refine wE ?_ ?_ | refine wF ?_ ?_ | refine wG ?_ ?_ | refine wH ?_ ?_ | refine wI ?_ ?_ | refine wJ ?_ ?_ | refine wK ?_ ?_ | refine wL ?_ ?_) <;> intro _) | simp (maxSteps := 1000000) (disch := omega) only [go_sem, seval, Tm.pv, h1, h2, *])
      refine c_loopW 268402720 (by kernel_rfl) (fun j f H2 m2 => ∃ i : Nat, j = ls.length - i ∧ i ≤ ls.length ∧ f 15 = .sc (.int .i64 i) ∧ H2 (nx + 1) = some ⟨[.sc (.int .i64 0)], true⟩ ∧ H2 (nx + 2) = some ⟨[.sc (.int .i64 ((wts us : Nat) + 1 + (minsL (ls.take i) : Nat)))], true⟩) _ ⟨0, rfl, cE1, cE1, by simp [upd, h1], by simp [upd, minsL]⟩ ?_
      rintro _ f H2 m2 ⟨i, rfl, hi, e15, g1, g2⟩
      have hmi : minsL (ls.take i) ≤ 2001 * i := Nat.le_trans (minsL_len _) (Nat.mul_le_mul_left _ (by rw [List.length_take]; omega))
      by_cases hlt : i < ls.length
      · have eg : ls[i]? = some ls[i] := List.getElem?_eq_getElem hlt
        have hst := minsL_take ls i hlt
        clear hwu hmn
        repeat' (first | ((with_reducible first | refine wA (by omega) ?_ | refine wB (by omega) ?_ | refine wC (by omega) ?_ | refine wD (by omega) ?_ | refine wE ?_ ?_ | refine wF ?_ ?_ | refine wG ?_ ?_ | refine wH ?_ ?_ | refine wI ?_ ?_ | refine wJ ?_ ?_ | refine wK ?_ ?_ | refine wL ?_ ?_) <;> intro _) | (((with_reducible refine call_id ?_); (first | (refine call_pure (tlNodes_p 2001 ls[i] 2001 (.inr (by omega)) (by omega) (by omega)) ?_)))) | simp (maxSteps := 1000000) (disch := omega) only [go_sem, seval, Tm.pv, *])
        refine Nx.mk (ls.length - (i + 1)) cE1 ⟨i + 1, rfl, cE1, cE1, by simp [upd, g1], ?_⟩
        simp only [upd, if_true, Option.some.injEq, PObj.mk.injEq, and_true, List.cons.injEq, PV.sc.injEq, Value.int.injEq]
        refine ⟨trivial, ?_⟩
        rw [hst]
        omega
      · obtain rfl : i = ls.length := by omega
        rw [List.take_length] at g2 hmi
        clear hlt hi
        by_cases hgt : 2000 < wts us + 1 + minsL ls
        · repeat' (first | ((with_reducible first | refine wA (by omega) ?_ | refine wB (by omega) ?_ | refine wC (by omega) ?_ | refine wD (by omega) ?_ | refine wE ?_ ?_ | refine wF ?_ ?_ | refine wG ?_ ?_ | refine wH ?_ ?_ | refine wI ?_ ?_ | refine wJ ?_ ?_ | refine wK ?_ ?_ | refine wL ?_ ?_) <;> intro _) | simp (maxSteps := 1000000) (disch := omega) only [go_sem, seval, *])
          refine rq_ret fun hp => ?_
          have hle := wts_prefix hp
          have he := wts_le t.pre
          rw [own_pre] at he
          have hmin : min t.nodes 2001 = 2001 := by unfold minsL at hgt; omega
          have hq := noIt_keep (H := upd H2 (nx + 1) (some ⟨[.sc (.int .i64 2001)], true⟩)) (id := nx + 1) (upd_same _ _ _) rfl
          rw [hmin]
          generalize noIt (upd H2 (nx + 1) (some ⟨[.sc (.int .i64 2001)], true⟩)) = H3 at hq ⊢
          clear hwu hmn hgt hp hle he hmin
          simp (maxSteps := 1000000) (disch := omega) only [go_sem, seval, hq]
          exact fin_mut (.sc (.int .i64 2001)) (.inr rfl) (by (simp (disch := omega) only [go_sem, seval, hq]); all_goals rfl) ⟨2001, rfl, .inl rfl⟩
        · repeat' (first | ((with_reducible first | refine wA (by omega) ?_ | refine wB (by omega) ?_ | refine wC (by omega) ?_ | refine wD (by omega) ?_ | refine wE ?_ ?_ | refine wF ?_ ?_ | refine wG ?_ ?_ | refine wH ?_ ?_ | refine wI ?_ ?_ | refine wJ ?_ ?_ | refine wK ?_ ?_ | refine wL ?_ ?_) <;> intro _) | simp (maxSteps := 1000000) (disch := omega) only [go_sem, seval, *])
          refine rq_normal ⟨us ++ [.mk k n s ls args], _, rfl, noIt_keep g1 rfl, noIt_keep g2 rfl, .inl ⟨?_, ?_⟩⟩
          · rw [hwu]
            unfold minsL at hgt
            omega
          · rw [hwu]
            unfold minsL
            omega
    · have hbad : HasBad (us ++ [u]) := by
        rcases hor with h | h
        · exact bad_last (Nat.le_trans (len_wts us) h.1) (Nat.lt_of_not_le fun h2 => hgood ⟨h, h2⟩)
        · exact bad_app h
      clear hor hgood hwu
      cases u with
      | mk k n s ls args =>
      simp only [Tm.nlv] at hub
      simp only [nodePV]
      repeat' (first | ((with_reducible first | refine wA (by omega) ?_ | refine wB (by omega) ?_ | refine wC (by omega) ?_ | refine wD (by omega) ?_ | refine wE ?_ ?_ | refine wF ?_ ?_ | refine wG ?_ ?_ | refine wH ?_ ?_ | refine wI ?_ ?_ | refine wJ ?_ ?_ | refine wK ?_ ?_ | refine wL ?_ ?_) <;> intro _) | simp (maxSteps := 1000000) (disch := omega) only [go_sem, seval, Tm.pv, h1, h2, *])
      refine c_loopW 268402720 (by kernel_rfl) (fun j f H2 m2 => ∃ (i : Nat) (w : Int), j = ls.length - i ∧ i ≤ ls.length ∧ f 15 = .sc (.int .i64 i) ∧ H2 (nx + 1) = some ⟨[.sc (.int .i64 0)], true⟩ ∧ H2 (nx + 2) = some ⟨[.sc (.int .i64 w)], true⟩) _ ⟨0, IntKind.i64.wrap (v + 1), rfl, cE1, cE1, by simp [upd, h1], by simp [upd]⟩ ?_
      rintro _ f H2 m2 ⟨i, w, rfl, hi, e15, g1, g2⟩
      by_cases hlt : i < ls.length
      · have eg : ls[i]? = some ls[i] := List.getElem?_eq_getElem hlt
        repeat' (first | ((with_reducible first | refine wA (by omega) ?_ | refine wB (by omega) ?_ | refine wC (by omega) ?_ | refine wD (by omega) ?_ | refine wE ?_ ?_ | refine wF ?_ ?_ | refine wG ?_ ?_ | refine wH ?_ ?_ | refine wI ?_ ?_ | refine wJ ?_ ?_ | refine wK ?_ ?_ | refine wL ?_ ?_) <;> intro _) | (((with_reducible refine call_id ?_); (first | (refine call_pure (tlNodes_p 2001 ls[i] 2001 (.inr (by omega)) (by omega) (by omega)) ?_)))) | simp (maxSteps := 1000000) (disch := omega) only [go_sem, seval, Tm.pv, *])
        exact Nx.mk (ls.length - (i + 1)) cE1 ⟨i + 1, IntKind.i64.wrap (w + (min ls[i].nodes 2001 : Nat)), rfl, cE1, cE1, by simp [upd, g1], by simp [upd]⟩
      · obtain rfl : i = ls.length := by omega
        clear hlt hi
        by_cases hgt : 2000 < w
        · repeat' (first | ((with_reducible first | refine wA (by omega) ?_ | refine wB (by omega) ?_ | refine wC (by omega) ?_ | refine wD (by omega) ?_ | refine wE ?_ ?_ | refine wF ?_ ?_ | refine wG ?_ ?_ | refine wH ?_ ?_ | refine wI ?_ ?_ | refine wJ ?_ ?_ | refine wK ?_ ?_ | refine wL ?_ ?_) <;> intro _) | simp (maxSteps := 1000000) (disch := omega) only [go_sem, seval, *])
          refine rq_ret fun hp => ?_
          have hbad2 := bad_prefix hp hbad
          have hq := noIt_keep (H := upd H2 (nx + 1) (some ⟨[.sc (.int .i64 2001)], true⟩)) (id := nx + 1) (upd_same _ _ _) rfl
          generalize noIt (upd H2 (nx + 1) (some ⟨[.sc (.int .i64 2001)], true⟩)) = H3 at hq ⊢
          clear hgt hp hbad
          simp (maxSteps := 1000000) (disch := omega) only [go_sem, seval, hq]
          exact fin_mut (.sc (.int .i64 2001)) (.inr rfl) (by (simp (disch := omega) only [go_sem, seval, hq]); all_goals rfl) ⟨2001, rfl, .inr hbad2⟩
        · repeat' (first | ((with_reducible first | refine wA (by omega) ?_ | refine wB (by omega) ?_ | refine wC (by omega) ?_ | refine wD (by omega) ?_ | refine wE ?_ ?_ | refine wF ?_ ?_ | refine wG ?_ ?_ | refine wH ?_ ?_ | refine wI ?_ ?_ | refine wJ ?_ ?_ | refine wK ?_ ?_ | refine wL ?_ ?_) <;> intro _) | simp (maxSteps := 1000000) (disch := omega) only [go_sem, seval, *])
          exact rq_normal ⟨us ++ [.mk k n s ls args], w, rfl, noIt_keep g1 rfl, noIt_keep g2 rfl, .inr hbad⟩
  case done =>
    rintro H' m ⟨us, v, hus, h1, h2, hor⟩ hnx
    have hor2 : v = (min t.nodes 2001 : Nat) ∨ HasBad t.pre := by
      rcases hor with ⟨hw, hv⟩ | hor
      · rw [← wts_of_pv hus] at hw hv
        have he := wts_eq t.pre hw
        rw [own_pre] at he
        exact .inl (by omega)
      · exact .inr (bad_prefix (by rw [hus]; exact ⟨[], by simp⟩) hor)
    clear hor hus hbd
    repeat' (first | ((with_reducible first | refine wA (by omega) ?_ | refine wB (by omega) ?_ | refine wC (by omega) ?_ | refine wD (by omega) ?_ | refine wE ?_ ?_ | refine wF ?_ ?_ | refine wG ?_ ?_ | refine wH ?_ ?_ | refine wI ?_ ?_ | refine wJ ?_ ?_ | refine wK ?_ ?_ | refine wL ?_ ?_) <;> intro _) | simp (maxSteps := 1000000) (disch := omega) only [go_sem, seval, h1, h2, *])
    exact fin_mut (.sc (.int .i64 v)) (.inr rfl) (by (simp (disch := omega) only [go_sem, seval, h1, h2]); all_goals rfl) ⟨v, rfl, hor2⟩
theorem bad_no_formed {np k kind n : Int} {s : ByteArray} {ls : List Lv} {args : List Tm} (h : 4 < ls.length) : (Tm.mk kind n s ls args).formed np k = false ∧ (Tm.mk kind n s ls args).vis np k = 1 := by
  have h0 : ∀ a c, hasB n s ls args a 0 c = false := fun a c => by
    have : ls ≠ [] := fun e => by rw [e] at h; simp at h
    simp [hasB, this]
  have h1 : hasB n s ls args 0 1 0 = false := by
    have : ¬ ((ls.length : Int) = 1) := by omega
    simp [hasB, this]
  have h2 : constB n s ls args np = false := by
    have : ¬ ls.length ≤ 4 := by omega
    simp [constB, this]
  simp [Tm.formed, Tm.vis, h0, h1, h2]
mutual
theorem vis_pre (np : Int) : ∀ (t : Tm) (k : Int), t.vis np k ≤ t.pre.length
  | .mk kind n s ls args, k => by
    have := vis_preA np args k kind args.length 0
    simp only [Tm.vis, Tm.pre, List.length_cons]
    split <;> omega
theorem vis_preA (np : Int) : ∀ (ts : List Tm) (k kind : Int) (len i : Nat), visA np k kind len i ts ≤ (preL ts).length
  | [], _, _, _, _ => by simp [visA]
  | x :: r, k, kind, len, i => by
    have h1 := vis_pre np x (k + deepB kind len i)
    have h2 := vis_preA np r k kind len (i + 1)
    simp only [visA, preL, List.length_append]
    split <;> omega
end
mutual
theorem bad_vis (np : Int) : ∀ (t : Tm) (k : Int) (p : Nat) (u : Tm), t.pre[p]? = some u → 4 < u.nlv → t.formed np k = false ∧ t.vis np k ≤ p + 1
  | .mk kind n s ls args, k, 0, u, h, hb => by
    simp only [Tm.pre, List.getElem?_cons_zero, Option.some.injEq] at h
    subst h
    have := bad_no_formed (np := np) (k := k) (kind := kind) (n := n) (s := s) (args := args) hb
    exact ⟨this.1, by omega⟩
  | .mk kind n s ls args, k, p + 1, u, h, hb => by
    simp only [Tm.pre, List.getElem?_cons_succ] at h
    have h2 := bad_visA np args k kind args.length 0 p u h hb
    have h3 : 0 < args.length := by
      cases args with
      | nil => simp [preL] at h
      | cons => simp
    have h4 : ¬ ((args.length : Int) = 0) := by omega
    have h5 : ¬ (args.length = 0) := by omega
    constructor
    · simp [Tm.formed, hasB, constB, h4, h5, h2.1]
    · simp only [Tm.vis]
      split <;> omega
theorem bad_visA (np : Int) : ∀ (ts : List Tm) (k kind : Int) (len i p : Nat) (u : Tm), (preL ts)[p]? = some u → 4 < u.nlv → formedA np k kind len i ts = false ∧ visA np k kind len i ts ≤ p + 1
  | [], _, _, _, _, p, u, h, _ => by simp [preL] at h
  | x :: r, k, kind, len, i, p, u, h, hb => by
    simp only [preL] at h
    by_cases hp : p < x.pre.length
    · rw [List.getElem?_append_left hp] at h
      have h1 := bad_vis np x (k + deepB kind len i) p u h hb
      simp only [formedA, visA, h1.1, Bool.false_and]
      exact ⟨trivial, by simp only [Bool.false_eq_true, if_false]; omega⟩
    · rw [List.getElem?_append_right (by omega)] at h
      have h1 := bad_visA np r k kind len (i + 1) (p - x.pre.length) u h hb
      have h2 := vis_pre np x (k + deepB kind len i)
      simp only [formedA, visA, h1.1, Bool.and_false]
      refine ⟨trivial, ?_⟩
      split <;> omega
end
mutual
theorem pre_nodes : ∀ t : Tm, t.pre.length ≤ t.nodes
  | .mk k n s ls args => by
    have := pre_nodesA args
    simp only [Tm.pre, List.length_cons, Tm.nodes]
    omega
theorem pre_nodesA : ∀ ts : List Tm, (preL ts).length ≤ nodesT ts
  | [] => by simp [preL, nodesT]
  | x :: r => by
    have := pre_nodes x
    have := pre_nodesA r
    simp only [preL, List.length_append, nodesT]
    omega
end
set_option maxHeartbeats 4000000 in
theorem tRightG_p (t : Tm) (np bound : Int) : PPure Try.prog F.term_Right [.agg t.pv, .sc (.int .i64 np), .sc (.int .i64 bound)] (.sc (.bool (t.right np bound))) := by
  refine PMut.pure (Q := fun _ _ _ r => r = .sc (.bool (t.right np bound))) rfl (fun nx => ?_) fun nx H' nx' r0 h => ?_
  rotate_left
  · rw [h]
    exact ⟨0, .refl _⟩
  refine mut_by is_term_Right (by simp) fun hb => ?_
  clear hb
  by_cases hpre : 0 ≤ np ∧ np ≤ 4 ∧ 0 ≤ bound
  · obtain ⟨p1, p2, p3⟩ := hpre
    repeat' (first | ((with_reducible first | refine wA (by omega) ?_ | refine wB (by omega) ?_ | refine wC (by omega) ?_ | refine wD (by omega) ?_ | refine wE ?_ ?_ | refine wF ?_ ?_ | refine wG ?_ ?_ | refine wH ?_ ?_ | refine wI ?_ ?_ | refine wJ ?_ ?_ | refine wK ?_ ?_ | refine wL ?_ ?_) <;> intro _) | simp (maxSteps := 1000000) (disch := omega) only [go_sem, seval, mc_term_Right, *])
    refine call_mut (NodesG_m t _ _) ?_
    rintro H' nx' r ⟨v, rfl, hv⟩ -
    by_cases hv2 : v ≤ 2000
    · have hk : t.vis np (min bound 1125899906842624) ≤ 2001 ∧ (t.nodes ≤ 2000 ∨ t.formed np (min bound 1125899906842624) = false) := by
        rcases hv with rfl | ⟨p, u, hp, hu, hn⟩
        · have h1 := vis_pre np t (min bound 1125899906842624)
          have h2 := pre_nodes t
          exact ⟨by omega, .inl (by omega)⟩
        · have h1 := bad_vis np t (min bound 1125899906842624) p u hu (by omega)
          exact ⟨by omega, .inr h1.1⟩
      have c2 := formedV_p np 2001 t (min bound 1125899906842624) hk.1 (by omega) (by omega)
      have e : t.right np bound = t.formed np (min bound 1125899906842624) := by
        unfold Tm.right
        rcases hk.2 with h | h
        · simp [h, p1, p2, p3]
        · simp [h]
      rw [e]
      clear hk hv e
      repeat' (first | ((with_reducible first | refine wA (by omega) ?_ | refine wB (by omega) ?_ | refine wC (by omega) ?_ | refine wD (by omega) ?_ | refine wE ?_ ?_ | refine wF ?_ ?_ | refine wG ?_ ?_ | refine wH ?_ ?_ | refine wI ?_ ?_ | refine wJ ?_ ?_ | refine wK ?_ ?_ | refine wL ?_ ?_) <;> intro _) | (((with_reducible refine call_id ?_); (first | (refine call_pure (c2) ?_)))) | simp (maxSteps := 1000000) (disch := omega) only [go_sem, seval, *])
      all_goals exact fin_mut (.sc (.bool (t.formed np (min bound 1125899906842624)))) (.inr rfl) cE2 rfl
    · have e : t.right np bound = false := by
        rcases hv with rfl | ⟨p, u, hp, hu, hn⟩
        · have : ¬ t.nodes ≤ 2000 := by omega
          simp [Tm.right, this]
        · simp [Tm.right, (bad_vis np t (min bound 1125899906842624) p u hu (by omega)).1]
      rw [e]
      clear hv e
      repeat' (first | ((with_reducible first | refine wA (by omega) ?_ | refine wB (by omega) ?_ | refine wC (by omega) ?_ | refine wD (by omega) ?_ | refine wE ?_ ?_ | refine wF ?_ ?_ | refine wG ?_ ?_ | refine wH ?_ ?_ | refine wI ?_ ?_ | refine wJ ?_ ?_ | refine wK ?_ ?_ | refine wL ?_ ?_) <;> intro _) | simp (maxSteps := 1000000) (disch := omega) only [go_sem, seval, *])
      all_goals exact fin_mut (.sc (.bool false)) (.inr rfl) cE2 rfl
  · have e : t.right np bound = false := by
      unfold Tm.right
      by_cases h1 : 0 ≤ np
      · by_cases h2 : np ≤ 4
        · have : ¬ 0 ≤ bound := fun h => hpre ⟨h1, h2, h⟩
          simp [this]
        · simp [h2]
      · simp [h1]
    rw [e]
    clear e
    have h9 : np < 0 ∨ (0 ≤ np ∧ 4 < np) ∨ (0 ≤ np ∧ np ≤ 4 ∧ bound < 0) := by omega
    clear hpre
    rcases h9 with h | ⟨h, h2⟩ | ⟨h, h2, h3⟩
    all_goals
      repeat' (first | ((with_reducible first | refine wA (by omega) ?_ | refine wB (by omega) ?_ | refine wC (by omega) ?_ | refine wD (by omega) ?_ | refine wE ?_ ?_ | refine wF ?_ ?_ | refine wG ?_ ?_ | refine wH ?_ ?_ | refine wI ?_ ?_ | refine wJ ?_ ?_ | refine wK ?_ ?_ | refine wL ?_ ?_) <;> intro _) | simp (maxSteps := 1000000) (disch := omega) only [go_sem, seval, mc_term_Right, *])
      all_goals exact fin_mut (.sc (.bool false)) (.inr rfl) cE2 rfl
end
section
set_option maxRecDepth 20000
attribute [local go_sem] pv_len pv_take id_ne id_ne' id_ne2 List.append_assoc
def txt (s : ByteArray) : List PV := [.sc (.string s)]
end
section
set_option maxRecDepth 20000
attribute [local go_sem] pv_len pv_take Nat.add_assoc tm_len tm_take pv_one tm_one id_ne id_ne' id_ne2 List.append_assoc tm_take_app tm_drop_app
structure Ent where
  kind : Int
  params : Int
  name : ByteArray
  typ : Tm
  val : Tm
  height : Int
  family : ByteArray
  fixed : Int
  index : Int
  fields : Int
  ctors : List ByteArray
def Ent.pv (e : Ent) : List PV := .sc (.int .i64 e.kind) :: .sc (.int .i64 e.params) :: .sc (.string e.name) :: (e.typ.pv ++ (e.val.pv ++ [.sc (.int .i64 e.height), .sc (.string e.family), .sc (.int .i64 e.fixed), .sc (.int .i64 e.index), .sc (.int .i64 e.fields), .sl 1 (e.ctors.map txt)]))
theorem ent_len (e : Ent) : e.pv.length = 19 := by simp [Ent.pv, tm_len]
attribute [local go_sem] ent_len
theorem ent_take (e : Ent) : e.pv.take 19 = e.pv := List.take_of_length_le (by rw [ent_len]; omega)
attribute [local go_sem] ent_take
theorem ent_one (e : Ent) : e.pv.all PV.one = true := by simp [Ent.pv, tm_one, PV.one]
attribute [local go_sem] ent_one
theorem tm_d6 (t : Tm) (r : List PV) : (t.pv ++ r).drop 6 = r.drop 1 := by rw [show 6 = 5 + 1 by rfl, ← List.drop_drop, List.drop_left' (tm_len t)]
attribute [local go_sem] tm_d6
theorem tm_d7 (t : Tm) (r : List PV) : (t.pv ++ r).drop 7 = r.drop 2 := by rw [show 7 = 5 + 2 by rfl, ← List.drop_drop, List.drop_left' (tm_len t)]
attribute [local go_sem] tm_d7
theorem tm_d8 (t : Tm) (r : List PV) : (t.pv ++ r).drop 8 = r.drop 3 := by rw [show 8 = 5 + 3 by rfl, ← List.drop_drop, List.drop_left' (tm_len t)]
attribute [local go_sem] tm_d8
theorem tm_d9 (t : Tm) (r : List PV) : (t.pv ++ r).drop 9 = r.drop 4 := by rw [show 9 = 5 + 4 by rfl, ← List.drop_drop, List.drop_left' (tm_len t)]
attribute [local go_sem] tm_d9
theorem tm_d10 (t : Tm) (r : List PV) : (t.pv ++ r).drop 10 = r.drop 5 := by rw [show 10 = 5 + 5 by rfl, ← List.drop_drop, List.drop_left' (tm_len t)]
attribute [local go_sem] tm_d10
theorem tm_d11 (t : Tm) (r : List PV) : (t.pv ++ r).drop 11 = r.drop 6 := by rw [show 11 = 5 + 6 by rfl, ← List.drop_drop, List.drop_left' (tm_len t)]
theorem tm_d12 (t : Tm) (r : List PV) : (t.pv ++ r).drop 12 = r.drop 7 := by rw [show 12 = 5 + 7 by rfl, ← List.drop_drop, List.drop_left' (tm_len t)]
theorem tm_d13 (t : Tm) (r : List PV) : (t.pv ++ r).drop 13 = r.drop 8 := by rw [show 13 = 5 + 8 by rfl, ← List.drop_drop, List.drop_left' (tm_len t)]
theorem tm_d14 (t : Tm) (r : List PV) : (t.pv ++ r).drop 14 = r.drop 9 := by rw [show 14 = 5 + 9 by rfl, ← List.drop_drop, List.drop_left' (tm_len t)]
theorem tm_d15 (t : Tm) (r : List PV) : (t.pv ++ r).drop 15 = r.drop 10 := by rw [show 15 = 5 + 10 by rfl, ← List.drop_drop, List.drop_left' (tm_len t)]
mutual
theorem dlv_false : ∀ l : Lv, l.pvB false = l.pv
  | .mk k n args => by simp only [Lv.pvB, Lv.pv, slB, dlvs_false args]; rfl
theorem dlvs_false : ∀ ls : List Lv, ls.map (Lv.pvB false) = ls.map Lv.pv
  | [] => rfl
  | x :: r => by rw [List.map_cons, List.map_cons, dlv_false x, dlvs_false r]
end
mutual
theorem dtv_false : ∀ t : Tm, t.pvB false = t.pv
  | .mk k n s ls args => by simp only [Tm.pvB, Tm.pv, slB, dlvs_false ls, dtvs_false args]; rfl
theorem dtvs_false : ∀ ts : List Tm, ts.map (Tm.pvB false) = ts.map Tm.pv
  | [] => rfl
  | x :: r => by rw [List.map_cons, List.map_cons, dtv_false x, dtvs_false r]
end
def noTm : Tm := .mk 0 0 emp [] []
def noughtB (t : Tm) : Bool := t.same noTm
def valueB (e : Ent) : Bool := if e.kind = 2 ∨ e.kind = 3 ∨ e.kind = 4 then e.val.right e.params 0 else if e.kind = 6 then noughtB e.val || e.val.right (min (e.params + 1) 4) 0 else noughtB e.val
def heightB (e : Ent) : Bool := if e.kind = 2 then decide (1 ≤ e.height) && decide (e.height ≤ 1048576) else decide (e.height = 0)
end
section
set_option maxRecDepth 20000
attribute [local go_sem] pv_len pv_take Nat.add_assoc tm_len tm_take pv_one tm_one id_ne id_ne' id_ne2 List.append_assoc tm_take_app tm_drop_app tm_d6 tm_d7 tm_d8 tm_d9 tm_d10 tm_d11 tm_d12 tm_d13 tm_d14 tm_d15 ent_len ent_take ent_one
def spanB (n most : Int) : Bool := decide (0 ≤ n) && decide (n ≤ most)
def most1 (kind : Int) : Int := if kind = 6 ∨ kind = 7 then 32 else if kind = 5 then 16 else 0
def most2 (kind : Int) : Int := if kind = 6 ∨ kind = 7 then 32 else 0
def familyB (e : Ent) : Bool := (spanB e.fixed (most1 e.kind) && (spanB e.index (most2 e.kind) && spanB e.fields (most2 e.kind))) && (if e.kind = 6 ∨ e.kind = 7 then nameB e.family else noS e.family)
def ctorsB (e : Ent) : Bool := if e.kind = 5 ∨ e.kind = 7 then decide (e.ctors.length ≤ 8) && e.ctors.all nameB else decide (e.ctors.length = 0)
def Ent.right (e : Ent) : Bool := decide (1 ≤ e.kind) && (decide (e.kind ≤ 7) && (nameB e.name && (decide (0 ≤ e.params) && (decide (e.params ≤ 4) && (e.typ.right e.params 0 && (valueB e && (heightB e && (familyB e && ctorsB e))))))))
end
section
set_option maxRecDepth 20000
attribute [local go_sem] pv_len pv_take Nat.add_assoc tm_len tm_take pv_one tm_one id_ne id_ne' id_ne2 List.append_assoc tm_take_app tm_drop_app tm_d6 tm_d7 tm_d8 tm_d9 tm_d10 tm_d11 tm_d12 tm_d13 tm_d14 tm_d15 ent_len ent_take ent_one
structure Ctr where
  name : ByteArray
  typ : Tm
def Ctr.pv (c : Ctr) : List PV := .sc (.string c.name) :: c.typ.pv
theorem ctr_len (c : Ctr) : c.pv.length = 6 := by simp [Ctr.pv, tm_len]
structure Dcl where
  kind : Int
  params : Int
  name : ByteArray
  typ : Tm
  val : Tm
  fixed : Int
  ctors : List Ctr
def Dcl.pv (d : Dcl) : List PV := .sc (.int .i64 d.kind) :: .sc (.int .i64 d.params) :: .sc (.string d.name) :: (d.typ.pv ++ (d.val.pv ++ [.sc (.int .i64 d.fixed), .sl 6 (d.ctors.map Ctr.pv)]))
theorem dcl_len (d : Dcl) : d.pv.length = 15 := by simp [Dcl.pv, tm_len]
theorem dcl_take (d : Dcl) : d.pv.take 15 = d.pv := List.take_of_length_le (by rw [dcl_len]; omega)
theorem noValue_p (d : Dcl) : PPure Try.prog F.pack_noValue [.ptr d.pv] (.sc (.bool (noughtB d.val))) := by
  obtain ⟨kind, params, name, typ, val, fixed, ctors⟩ := d
  refine pure_by is_pack_noValue (by simp) rfl fun hb nx => ?_
  clear hb
  have c1 : PPure Try.prog F.term_Same [.agg val.pv, .agg [.sc (.int .i64 0), .sc (.int .i64 0), .sc (.string ⟨#[]⟩), .sc (.slice none 0 0), .sc (.slice none 0 0)]] (.sc (.bool (noughtB val))) := by
    have h := tSame_p val noTm false true rfl
    refine h.weak ⟨.of_eq (by rw [dtv_false]), ?_, trivial⟩ (.refl _)
    simp only [noTm, Tm.pvB, List.map_nil]
    exact Weak.agg ⟨.refl _, .refl _, .refl _, .nilB true 3, .nilB true 5, trivial⟩
  repeat' (first | ((with_reducible first | refine wA (by omega) ?_ | refine wB (by omega) ?_ | refine wC (by omega) ?_ | refine wD (by omega) ?_ | refine wE ?_ ?_ | refine wF ?_ ?_ | refine wG ?_ ?_ | refine wH ?_ ?_ | refine wI ?_ ?_ | refine wJ ?_ ?_ | refine wK ?_ ?_ | refine wL ?_ ?_) <;> intro _) | (((with_reducible refine call_id ?_); (first | (refine call_pure (c1) ?_)))) | simp (maxSteps := 1000000) (disch := omega) only [go_sem, seval, mc_pack_noValue, Dcl.pv, *])
  all_goals (exact fin_tmp (.inr rfl) cE3)
def noFamB (d : Dcl) : Bool := decide (d.fixed = 0) && decide (d.ctors.length = 0)
theorem noFamily_p (d : Dcl) : PPure Try.prog F.pack_noFamily [.ptr d.pv] (.sc (.bool (noFamB d))) := by
  obtain ⟨kind, params, name, typ, val, fixed, ctors⟩ := d
  refine pure_by is_pack_noFamily (by simp) rfl fun hb nx => ?_
  clear hb
  simp only [noFamB]
  repeat' (first | ((with_reducible first | refine wA (by omega) ?_ | refine wB (by omega) ?_ | refine wC (by omega) ?_ | refine wD (by omega) ?_ | refine wE ?_ ?_ | refine wF ?_ ?_ | refine wG ?_ ?_ | refine wH ?_ ?_ | refine wI ?_ ?_ | refine wJ ?_ ?_ | refine wK ?_ ?_ | refine wL ?_ ?_) <;> intro _) | simp (maxSteps := 1000000) (disch := omega) only [go_sem, seval, mc_pack_noFamily, Dcl.pv, *])
  all_goals (refine fin_tmp (.inr rfl) ?_; simp [upd, *] <;> (intros; omega))
def ctrB (params : Int) (c : Ctr) : Bool := nameB c.name && c.typ.right params 0
def famB (d : Dcl) : Bool := spanB d.fixed 16 && (decide (d.ctors.length ≤ 8) && d.ctors.all (ctrB d.params))
set_option maxHeartbeats 4000000 in
theorem pfamily_p (d : Dcl) : PPure Try.prog F.pack_family [.ptr d.pv] (.sc (.bool (famB d))) := by
  obtain ⟨kind, params, name, typ, val, fixed, ctors⟩ := d
  refine pure_by is_pack_family (by simp) rfl fun hb nx => ?_
  clear hb
  simp only [famB, spanB]
  by_cases h : 0 ≤ fixed ∧ fixed ≤ 16 ∧ ctors.length ≤ 8
  · obtain ⟨h0, h1, h2⟩ := h
    rw [decide_eq_true h0, decide_eq_true h1, decide_eq_true h2]
    simp only [Bool.true_and]
    repeat' (first | ((with_reducible first | refine wA (by omega) ?_ | refine wB (by omega) ?_ | refine wC (by omega) ?_ | refine wD (by omega) ?_ | refine wE ?_ ?_ | refine wF ?_ ?_ | refine wG ?_ ?_ | refine wH ?_ ?_ | refine wI ?_ ?_ | refine wJ ?_ ?_ | refine wK ?_ ?_ | refine wL ?_ ?_) <;> intro _) | simp (maxSteps := 1000000) (disch := omega) only [go_sem, seval, mc_pack_family, Dcl.pv, *])
    refine c_loopW 576460751766552588 (by kernel_rfl) (fun j f H m => ∃ i : Nat, j = ctors.length - i ∧ i ≤ ctors.length ∧ f 29 = .sc (.int .i64 i) ∧ Kept ((ctors.take i).all (ctrB params) = true)) _ ⟨0, rfl, Nat.zero_le _, cE1, Kept.mk rfl⟩ ?_
    rintro _ f H m ⟨i, rfl, hi, e29, hs⟩
    by_cases hlt : i < ctors.length
    · have eg : ctors[i]? = some ctors[i] := List.getElem?_eq_getElem hlt
      have c1 := name_Right_p ctors[i].name
      have c2 := tRightG_p ctors[i].typ params 0
      cases hc : ctrB params ctors[i] with
      | false =>
        have e : ctors.all (ctrB params) = false := by
          rw [Bool.eq_false_iff]
          intro h
          have := List.all_eq_true.1 h _ (List.getElem_mem hlt)
          rw [hc] at this
          cases this
        rw [e]
        clear e hs
        cases hn : nameB ctors[i].name with
        | false =>
          rw [hn] at c1
          clear hn hc c2
          repeat' (first | ((with_reducible first | refine wA (by omega) ?_ | refine wB (by omega) ?_ | refine wC (by omega) ?_ | refine wD (by omega) ?_ | refine wE ?_ ?_ | refine wF ?_ ?_ | refine wG ?_ ?_ | refine wH ?_ ?_ | refine wI ?_ ?_ | refine wJ ?_ ?_ | refine wK ?_ ?_ | refine wL ?_ ?_) <;> intro _) | (((with_reducible refine call_id ?_); (first | (refine call_pure (c1) ?_)))) | simp (maxSteps := 1000000) (disch := omega) only [go_sem, seval, Ctr.pv, *])
          all_goals (exact fin_tmp (.inr rfl) cE3)
        | true =>
          have hr : ctors[i].typ.right params 0 = false := by simpa [ctrB, hn] using hc
          rw [hn] at c1
          rw [hr] at c2
          clear hn hc hr
          repeat' (first | ((with_reducible first | refine wA (by omega) ?_ | refine wB (by omega) ?_ | refine wC (by omega) ?_ | refine wD (by omega) ?_ | refine wE ?_ ?_ | refine wF ?_ ?_ | refine wG ?_ ?_ | refine wH ?_ ?_ | refine wI ?_ ?_ | refine wJ ?_ ?_ | refine wK ?_ ?_ | refine wL ?_ ?_) <;> intro _) | (((with_reducible refine call_id ?_); (first | (refine call_pure (c1) ?_) | (refine call_pure (c2) ?_)))) | simp (maxSteps := 1000000) (disch := omega) only [go_sem, seval, Ctr.pv, *])
          all_goals (exact fin_tmp (.inr rfl) cE3)
      | true =>
        have h3 : nameB ctors[i].name = true ∧ ctors[i].typ.right params 0 = true := by simpa [ctrB] using hc
        rw [h3.1] at c1
        rw [h3.2] at c2
        have hs2 : Kept ((ctors.take (i + 1)).all (ctrB params) = true) := Kept.mk (by rw [List.take_succ_eq_append_getElem hlt, List.all_append, hs.out, List.all_cons, hc]; rfl)
        clear h3 hc hs
        repeat' (first | ((with_reducible first | refine wA (by omega) ?_ | refine wB (by omega) ?_ | refine wC (by omega) ?_ | refine wD (by omega) ?_ | refine wE ?_ ?_ | refine wF ?_ ?_ | refine wG ?_ ?_ | refine wH ?_ ?_ | refine wI ?_ ?_ | refine wJ ?_ ?_ | refine wK ?_ ?_ | refine wL ?_ ?_) <;> intro _) | (((with_reducible refine call_id ?_); (first | (refine call_pure (c1) ?_) | (refine call_pure (c2) ?_)))) | simp (maxSteps := 1000000) (disch := omega) only [go_sem, seval, Ctr.pv, *])
        exact Nx.mk (ctors.length - (i + 1)) cE1 ⟨i + 1, rfl, cE1, by simp [upd], hs2⟩
    · obtain rfl : i = ctors.length := by omega
      have h3 := hs.out
      rw [List.take_length] at h3
      rw [h3]
      clear hs h3
      repeat' (first | ((with_reducible first | refine wA (by omega) ?_ | refine wB (by omega) ?_ | refine wC (by omega) ?_ | refine wD (by omega) ?_ | refine wE ?_ ?_ | refine wF ?_ ?_ | refine wG ?_ ?_ | refine wH ?_ ?_ | refine wI ?_ ?_ | refine wJ ?_ ?_ | refine wK ?_ ?_ | refine wL ?_ ?_) <;> intro _) | simp (maxSteps := 1000000) (disch := omega) only [go_sem, seval, *])
      all_goals (exact fin_tmp (.inr rfl) cE3)
  · have e : (decide (0 ≤ fixed) && decide (fixed ≤ 16) && (decide (ctors.length ≤ 8) && ctors.all (ctrB params))) = false := by
      rw [Bool.eq_false_iff]
      intro h2
      simp only [Bool.and_eq_true, decide_eq_true_eq] at h2
      exact h ⟨h2.1.1, h2.1.2, h2.2.1⟩
    rw [e]
    clear e
    have h9 : fixed < 0 ∨ (0 ≤ fixed ∧ 16 < fixed) ∨ (0 ≤ fixed ∧ fixed ≤ 16 ∧ 8 < ctors.length) := by omega
    clear h
    rcases h9 with h | ⟨h, h2⟩ | ⟨h, h2, h3⟩
    all_goals
      repeat' (first | ((with_reducible first | refine wA (by omega) ?_ | refine wB (by omega) ?_ | refine wC (by omega) ?_ | refine wD (by omega) ?_ | refine wE ?_ ?_ | refine wF ?_ ?_ | refine wG ?_ ?_ | refine wH ?_ ?_ | refine wI ?_ ?_ | refine wJ ?_ ?_ | refine wK ?_ ?_ | refine wL ?_ ?_) <;> intro _) | simp (maxSteps := 1000000) (disch := omega) only [go_sem, seval, mc_pack_family, Dcl.pv, *])
      all_goals (exact fin_tmp (.inr rfl) cE3)
def Dcl.formed (d : Dcl) : Bool := decide (0 ≤ d.params) && (decide (d.params ≤ 4) && (nameB d.name && (d.typ.right d.params 0 && (if d.kind = 1 then noughtB d.val && noFamB d else if d.kind = 2 ∨ d.kind = 3 ∨ d.kind = 4 then d.val.right d.params 0 && noFamB d else if d.kind = 5 then noughtB d.val && famB d else false))))
set_option maxHeartbeats 16000000 in
theorem formed11_p (d : Dcl) : PPure Try.prog F.pack_Formed [.agg d.pv] (.sc (.bool d.formed)) := by
  refine pure_by is_pack_Formed (by simp) rfl fun hb nx => ?_
  clear hb
  have c1 := name_Right_p d.name
  have c2 := tRightG_p d.typ d.params 0
  have c3 := noValue_p d
  have c4 := noFamily_p d
  have c5 := pfamily_p d
  have c6 := tRightG_p d.val d.params 0
  simp only [Dcl.formed]
  generalize noughtB d.val = b3 at c3
  generalize noFamB d = b4 at c4
  generalize famB d = b5 at c5
  obtain ⟨kind, params, name, typ, val, fixed, ctors⟩ := d
  simp only [Dcl.pv] at c1 c2 c3 c4 c5 c6 ⊢
  generalize nameB name = b1 at c1
  generalize typ.right params 0 = b2 at c2
  generalize val.right params 0 = b6 at c6
  by_cases hp : 0 ≤ params ∧ params ≤ 4
  rotate_left
  · have h9 : params < 0 ∨ (0 ≤ params ∧ 4 < params) := by omega
    clear hp c2 c3 c4 c5 c6
    rcases h9 with h | ⟨h, h2⟩
    all_goals
      cases b1
      all_goals
        repeat' (first | ((with_reducible first | refine wA (by omega) ?_ | refine wB (by omega) ?_ | refine wC (by omega) ?_ | refine wD (by omega) ?_ | refine wE ?_ ?_ | refine wF ?_ ?_ | refine wG ?_ ?_ | refine wH ?_ ?_ | refine wI ?_ ?_ | refine wJ ?_ ?_ | refine wK ?_ ?_ | refine wL ?_ ?_) <;> intro _) | (((with_reducible refine call_id ?_); (first | (refine call_pure (c1) ?_)))) | simp (maxSteps := 1000000) (disch := omega) only [go_sem, seval, mc_pack_Formed, *])
        all_goals (refine fin_tmp (.inr rfl) ?_; simp [upd, *] <;> (intros; omega))
  obtain ⟨h0, h4⟩ := hp
  cases b1 with
  | false =>
    repeat' (first | ((with_reducible first | refine wA (by omega) ?_ | refine wB (by omega) ?_ | refine wC (by omega) ?_ | refine wD (by omega) ?_ | refine wE ?_ ?_ | refine wF ?_ ?_ | refine wG ?_ ?_ | refine wH ?_ ?_ | refine wI ?_ ?_ | refine wJ ?_ ?_ | refine wK ?_ ?_ | refine wL ?_ ?_) <;> intro _) | (((with_reducible refine call_id ?_); (first | (refine call_pure (c1) ?_)))) | simp (maxSteps := 1000000) (disch := omega) only [go_sem, seval, mc_pack_Formed, *])
    all_goals (refine fin_tmp (.inr rfl) ?_; simp [upd, *] <;> (intros; omega))
  | true =>
  cases b2 with
  | false =>
    repeat' (first | ((with_reducible first | refine wA (by omega) ?_ | refine wB (by omega) ?_ | refine wC (by omega) ?_ | refine wD (by omega) ?_ | refine wE ?_ ?_ | refine wF ?_ ?_ | refine wG ?_ ?_ | refine wH ?_ ?_ | refine wI ?_ ?_ | refine wJ ?_ ?_ | refine wK ?_ ?_ | refine wL ?_ ?_) <;> intro _) | (((with_reducible refine call_id ?_); (first | (refine call_pure (c1) ?_) | (refine call_pure (c2) ?_)))) | simp (maxSteps := 1000000) (disch := omega) only [go_sem, seval, mc_pack_Formed, *])
    all_goals (refine fin_tmp (.inr rfl) ?_; simp [upd, *] <;> (intros; omega))
  | true =>
  have hk : kind = 1 ∨ (kind = 2 ∨ kind = 3 ∨ kind = 4) ∨ kind = 5 ∨ (kind ≠ 1 ∧ kind ≠ 2 ∧ kind ≠ 3 ∧ kind ≠ 4 ∧ kind ≠ 5) := by omega
  rcases hk with rfl | (rfl | rfl | rfl) | rfl | ⟨k1, k2, k3, k4, k5⟩
  · cases b3
    all_goals
      repeat' (first | ((with_reducible first | refine wA (by omega) ?_ | refine wB (by omega) ?_ | refine wC (by omega) ?_ | refine wD (by omega) ?_ | refine wE ?_ ?_ | refine wF ?_ ?_ | refine wG ?_ ?_ | refine wH ?_ ?_ | refine wI ?_ ?_ | refine wJ ?_ ?_ | refine wK ?_ ?_ | refine wL ?_ ?_) <;> intro _) | (((with_reducible refine call_id ?_); (first | (refine call_pure (c1) ?_) | (refine call_pure (c2) ?_) | (refine call_pure (c3) ?_) | (refine call_pure (c4) ?_)))) | simp (maxSteps := 1000000) (disch := omega) only [go_sem, seval, mc_pack_Formed, *])
      all_goals (refine fin_tmp (.inr rfl) ?_; simp [upd, *] <;> (intros; omega))
  · cases b6
    all_goals
      repeat' (first | ((with_reducible first | refine wA (by omega) ?_ | refine wB (by omega) ?_ | refine wC (by omega) ?_ | refine wD (by omega) ?_ | refine wE ?_ ?_ | refine wF ?_ ?_ | refine wG ?_ ?_ | refine wH ?_ ?_ | refine wI ?_ ?_ | refine wJ ?_ ?_ | refine wK ?_ ?_ | refine wL ?_ ?_) <;> intro _) | (((with_reducible refine call_id ?_); (first | (refine call_pure (c1) ?_) | (refine call_pure (c2) ?_) | (refine call_pure (c6) ?_) | (refine call_pure (c4) ?_)))) | simp (maxSteps := 1000000) (disch := omega) only [go_sem, seval, mc_pack_Formed, *])
      all_goals (refine fin_tmp (.inr rfl) ?_; simp [upd, *] <;> (intros; omega))
  · cases b6
    all_goals
      repeat' (first | ((with_reducible first | refine wA (by omega) ?_ | refine wB (by omega) ?_ | refine wC (by omega) ?_ | refine wD (by omega) ?_ | refine wE ?_ ?_ | refine wF ?_ ?_ | refine wG ?_ ?_ | refine wH ?_ ?_ | refine wI ?_ ?_ | refine wJ ?_ ?_ | refine wK ?_ ?_ | refine wL ?_ ?_) <;> intro _) | (((with_reducible refine call_id ?_); (first | (refine call_pure (c1) ?_) | (refine call_pure (c2) ?_) | (refine call_pure (c6) ?_) | (refine call_pure (c4) ?_)))) | simp (maxSteps := 1000000) (disch := omega) only [go_sem, seval, mc_pack_Formed, *])
      all_goals (refine fin_tmp (.inr rfl) ?_; simp [upd, *] <;> (intros; omega))
  · cases b6
    all_goals
      repeat' (first | ((with_reducible first | refine wA (by omega) ?_ | refine wB (by omega) ?_ | refine wC (by omega) ?_ | refine wD (by omega) ?_ | refine wE ?_ ?_ | refine wF ?_ ?_ | refine wG ?_ ?_ | refine wH ?_ ?_ | refine wI ?_ ?_ | refine wJ ?_ ?_ | refine wK ?_ ?_ | refine wL ?_ ?_) <;> intro _) | (((with_reducible refine call_id ?_); (first | (refine call_pure (c1) ?_) | (refine call_pure (c2) ?_) | (refine call_pure (c6) ?_) | (refine call_pure (c4) ?_)))) | simp (maxSteps := 1000000) (disch := omega) only [go_sem, seval, mc_pack_Formed, *])
      all_goals (refine fin_tmp (.inr rfl) ?_; simp [upd, *] <;> (intros; omega))
  · cases b3
    all_goals
      repeat' (first | ((with_reducible first | refine wA (by omega) ?_ | refine wB (by omega) ?_ | refine wC (by omega) ?_ | refine wD (by omega) ?_ | refine wE ?_ ?_ | refine wF ?_ ?_ | refine wG ?_ ?_ | refine wH ?_ ?_ | refine wI ?_ ?_ | refine wJ ?_ ?_ | refine wK ?_ ?_ | refine wL ?_ ?_) <;> intro _) | (((with_reducible refine call_id ?_); (first | (refine call_pure (c1) ?_) | (refine call_pure (c2) ?_) | (refine call_pure (c3) ?_) | (refine call_pure (c5) ?_)))) | simp (maxSteps := 1000000) (disch := omega) only [go_sem, seval, mc_pack_Formed, *])
      all_goals (refine fin_tmp (.inr rfl) ?_; simp [upd, *] <;> (intros; omega))
  · repeat' (first | ((with_reducible first | refine wA (by omega) ?_ | refine wB (by omega) ?_ | refine wC (by omega) ?_ | refine wD (by omega) ?_ | refine wE ?_ ?_ | refine wF ?_ ?_ | refine wG ?_ ?_ | refine wH ?_ ?_ | refine wI ?_ ?_ | refine wJ ?_ ?_ | refine wK ?_ ?_ | refine wL ?_ ?_) <;> intro _) | (((with_reducible refine call_id ?_); (first | (refine call_pure (c1) ?_) | (refine call_pure (c2) ?_)))) | simp (maxSteps := 1000000) (disch := omega) only [go_sem, seval, mc_pack_Formed, *])
    all_goals (refine fin_tmp (.inr rfl) ?_; simp [upd, *] <;> (intros; omega))
end
section
set_option maxRecDepth 20000
attribute [local go_sem] Nat.add_assoc id_ne id_ne' id_ne2 List.append_assoc tm_len tm_take tm_one tm_take_app tm_drop_app tm_d6 tm_d7 tm_d8 tm_d9 tm_d10 tm_d11 tm_d12 tm_d13 tm_d14 tm_d15 o_callmF List.all_append
theorem o_ldoR {P : Program} {b : Bool} {id : Nat} {d : Option Nat} {K : St → Prop} {s : St} {x : Operand} {k sz : Nat} {ag : Bool} : opG P b id ⟨d, .ldo x [k] sz ag, none⟩ K s = valP (if apartP (ev s x) (s.s k) = true then (loadP s (ev s x) sz).bind fun cs => if ag then some (.agg cs) else if sz = 1 then cs.head? else none else none) d K s := by
  rw [o_ldo]
  simp only [List.all_cons, List.all_nil, Bool.and_true]
attribute [local go_sem] o_ldoR
theorem apartR {i j a b : Nat} : apartP (.optr i a) (.optr j b) = decide (i ≠ j) := rfl
attribute [local go_sem] apartR
theorem call_rdF {f : FuncId} {rid : Nat} {w : Bool} {s' : RS} {x : PV} {d : Option Nat} {K : St → Prop} {st : St} (h : PMut Try.prog f [.optr rid 0] st.H st.nx (RdQ st.H st.nx rid w s' x))
    (hk : ∀ H' nx' r, RdQ st.H st.nx rid w s' x H' nx' r → st.nx ≤ nx' → K (put { st with H := H', nx := nx' } d r)) : callE Try.prog f [.optr rid 0] (some (.optr rid 0)) d K st :=
  call_mutF h ⟨upd st.H rid (some ⟨rdC s', w⟩), st.nx, x, ⟨Nat.le_refl _, rfl, upd_same _ _ _, fun j _ h2 => upd_ne _ _ h2⟩, Nat.le_refl _, fun j _ hno => upd_ne _ _ fun e => hno (by subst e; exact .inl ⟨0, rfl⟩)⟩
    (fun H' nx' r hq j hj hno => hq.2.2.2 j hj fun e => hno (by subst e; exact .inl ⟨0, rfl⟩)) hk
def wholeF (s : RS) : Tm × RS := termF 2001 ⟨s.l, 0, s.bad⟩
theorem whole_rdy (s : RS) : Rdy 2001 ⟨s.l, 0, s.bad⟩ := .inr ⟨Int.le_refl _, by show (0 : Int) ≤ 2000; omega, by show (2001 : Int) ≤ 2001 + 0; omega⟩
theorem whole_shrink (s : RS) : (wholeF s).2.l.length ≤ s.l.length := term_shrink 2001 _
set_option maxHeartbeats 8000000 in
theorem whole_m (s : RS) (hl : s.l.length ≤ 2 ^ 40) (rid : Nat) (w : Bool) (H : Nat → Option PObj) (nx : Nat) (hr : rid < nx) (hH : H rid = some ⟨rdC s, w⟩) :
    PMut Try.prog F.pack_reader_whole [.optr rid 0] H nx (RdQ H nx rid w (wholeF s).2 (.agg (wholeF s).1.pv)) := by
  obtain ⟨l, nodes, bad⟩ := s
  have hrd := whole_rdy ⟨l, nodes, bad⟩
  refine mut_by is_pack_reader_whole (by simp) fun hb => ?_
  clear hb
  simp only [rdC] at hH
  unfold wholeF
  have hlen := tm_len (termF 2001 ⟨l, 0, bad⟩).1
  repeat' (first | ((with_reducible first | refine wA (by omega) ?_ | refine wB (by omega) ?_ | refine wC (by omega) ?_ | refine wD (by omega) ?_ | refine wE ?_ ?_ | refine wF ?_ ?_ | refine wG ?_ ?_ | refine wH ?_ ?_ | refine wI ?_ ?_ | refine wJ ?_ ?_ | refine wK ?_ ?_ | refine wL ?_ ?_) <;> intro _) | simp (maxSteps := 1000000) (disch := omega) only [go_sem, seval, mc_pack_reader_whole, *])
  refine call_mut (term_m 2001 ⟨l, 0, bad⟩ hrd hl rid w _ _ (Nat.lt_of_lt_of_le hr (Nat.le_add_right _ _)) (by simp [upd, rdC])) ?_
  rintro H1 m1 r1 ⟨hm1', rfl, g1, k1'⟩ -
  have hm1 : nx + 8 ≤ m1 := hm1'
  have b1 : H1 nx = some ⟨[.sc (.int .i64 0), .sc (.int .i64 0), .sc (.string ⟨#[]⟩), .sc (.slice none 0 0), .sc (.slice none 0 0)], true⟩ := (k1' nx (Nat.lt_add_of_pos_right (by decide)) (by omega)).trans (by simp [upd, show nx ≠ rid by omega])
  have k1 : Kept (∀ j, j < nx → j ≠ rid → H1 j = H j) := fun j e1 e2 => (k1' j (Nat.lt_of_lt_of_le e1 (Nat.le_add_right _ _)) e2).trans (by simp [upd, e2, show j ≠ nx by omega])
  clear hm1' k1' hH
  generalize (termF 2001 ⟨l, 0, bad⟩).1 = t at *
  repeat' (first | ((with_reducible first | refine wA (by omega) ?_ | refine wB (by omega) ?_ | refine wC (by omega) ?_ | refine wD (by omega) ?_ | refine wE ?_ ?_ | refine wF ?_ ?_ | refine wG ?_ ?_ | refine wH ?_ ?_ | refine wI ?_ ?_ | refine wJ ?_ ?_ | refine wK ?_ ?_ | refine wL ?_ ?_) <;> intro _) | simp (maxSteps := 1000000) (disch := omega) only [go_sem, seval, *])
  refine fin_mut (.agg t.pv) (.inr rfl) cE2 ⟨Nat.le_trans (show nx ≤ m1 by omega) (Nat.le_refl _), rfl, upd_out (by omega) g1, fun j e1 e2 => upd_out (by omega) (k1 j e1 e2)⟩
end
end Go.Proofs.Ytnelciclibknpaa
