/-
  Plain values: ToL, TpA, TqC, TqE.
-/
import Derived.Test.YtfhblaggeahbjaaXSa
import Derived.Test.YtfhblaggeahbjaaXSb
import Derived.Test.YtfhblaggeahbjaaXSc
import Derived.Test.YtfhblaggeahbjaaXSd
import Derived.Test.YtfhblaggeahbjaaXSe
import Derived.Test.YtfhblaggeahbjaaXSf
set_option linter.unusedVariables false
set_option linter.unusedSimpArgs false
namespace Go.Proofs.Ytfhblaggeahbjaa
open Go.RowKit
attribute [local go_sem ↓] c_seq c_region c_cond c_block c_ret c_skip c_exit c_cont t_normal t_ret t_exit b_normal b_ret b_exit run_nil run_cons g_some o_mv o_pick o_bin o_un o_ld o_ldf o_bld o_len o_mkf o_nilc o_fa o_fd o_ia o_iaa o_ix o_ixs o_ext o_al o_bxf o_bxt o_bsl o_bslf o_mks o_st o_stf o_call o_rng o_nxt o_callm o_calvm o_calv cond_true cond_false upd_get sigF_cons o_eqa o_mm o_app o_slc
attribute [local go_sem] num_nil num_cons isP chunks rngV next_is next_iter val_some new_some st_some stf_some guard_tt guard_ff guard_tf guard_ft guard_un calv_fn put_some put_none ev_tmp ev_const ev_func sig_eq sigF_nil q0 q1 nilcV faV fdV iaV iaaV ixV ixsV extV mksV loadP storeP lenPV binPV unPV intBin partsP fillP zeros PV.good PV.cellsOf PV.one q2 q3 q4 q5 q6 q7 q8 q9 q10 q11 q12 q13 q14 q15 q16 q17 q18 q19 q20 q21 q22 q23 q24 q25 q26 q27 q28 q29 q30 q31 q32 q33 q34 q35 q36 q37 q38 wrap64 app_some mmL mmV mm2 eqE eqParts eqInt eqBool eqStr partV q39 q40 pickV q41 q42 q43 q44 q45 q46 q47 q48 q49 appE oldOf rowOf updL q50 q51 q52 q53 zlt ovr_get ite_neN ite_eqN q54 q55 q56 q57 q58 q59 q60 q61 q62 q63 q64 q65 q66 q67 tailP_f tailP_t tailF_f tailF_t slcP bndO capO slcLen intOf Option.isSome_none Option.isNone_none Option.isSome_some Option.isNone_some nilP slc_sl slc_csl slc_osl slc_osl0 slc_ocap slc_str List.append_nil List.length_append resP resPs resP1 PV.sc.injEq Value.bool.injEq Value.int.injEq
section
set_option maxRecDepth 20000
attribute [local go_sem] pv_len pv_take Nat.add_assoc tm_len tm_take pv_one tm_one tpvB_len tpvB_take tpvB_one pvB_len pvB_take pvB_one id_ne id_ne' id_ne2 List.append_assoc tm_take_app tm_drop_app tm_take10 tm_drop10 tm_drop15 tm_drop
theorem constant6_p (s : ByteArray) : PPure Try.prog F.law06_constant [.sc (.string s)] (.agg (conT s).pv) := by
  refine pure_by is_law06_constant (by simp) (by simp [PV.imm, tm_imm]) fun hb nx => ?_
  repeat' (first | ((with_reducible first | refine cond_pos (by omega) ?_ | refine cond_neg (by omega) ?_ | refine guard_pos (by omega) ?_ | refine guard_neg (by omega) ?_ | refine cond_ifn ?_ ?_ | refine cond_waysn ?_ ?_ | refine guard_ifn ?_ ?_ | refine guard_waysn ?_ ?_ | refine cond_if ?_ ?_ | refine cond_ways ?_ ?_ | refine guard_if ?_ ?_ | refine guard_ways ?_ ?_) <;> intro _) | simp (maxSteps := 1000000) (disch := omega) only [go_sem, Nat.reduceAdd, Nat.reduceMul, Nat.reduceSub, Nat.reduceLeDiff, Nat.reduceEqDiff, Nat.reduceBEq, ↓reduceIte, reduceCtorEq, Int.reduceEq, Int.reduceLE, Int.reduceLT, Int.reduceAdd, Int.reduceSub, Int.reduceNeg, Int.reduceToNat, Int.reduceNe, Nat.reducePow, Nat.reduceShiftRight, Nat.reduceMod, mc_law06_constant, *])
  refine fin_ret (r0 := .agg [.sc (.int .i64 3), .sc (.int .i64 0), .sc (.string s), .sc (.slice none 0 0), .sc (.slice none 0 0)]) 2 (by (simp (disch := omega) only [go_sem, Nat.reduceMul, Nat.reduceSub, Nat.reduceShiftRight, Nat.reduceMod, Nat.reduceEqDiff, Nat.reduceAdd, ↓reduceIte, Nat.reduceLeDiff, *]); all_goals rfl) ?_
  rw [frz_agg1]
  simp only [List.map_cons, List.map_nil, frz_sc1, Tm.pv, conT]
  exact Weak.agg ⟨.refl _, .refl _, .refl _, .nil 3, .nil 5, trivial⟩
theorem variable6_p (n : Int) : PPure Try.prog F.law06_variable [.sc (.int .i64 n)] (.agg (varT n).pv) := by
  refine pure_by is_law06_variable (by simp) (by simp [PV.imm, tm_imm]) fun hb nx => ?_
  repeat' (first | ((with_reducible first | refine cond_pos (by omega) ?_ | refine cond_neg (by omega) ?_ | refine guard_pos (by omega) ?_ | refine guard_neg (by omega) ?_ | refine cond_ifn ?_ ?_ | refine cond_waysn ?_ ?_ | refine guard_ifn ?_ ?_ | refine guard_waysn ?_ ?_ | refine cond_if ?_ ?_ | refine cond_ways ?_ ?_ | refine guard_if ?_ ?_ | refine guard_ways ?_ ?_) <;> intro _) | simp (maxSteps := 1000000) (disch := omega) only [go_sem, Nat.reduceAdd, Nat.reduceMul, Nat.reduceSub, Nat.reduceLeDiff, Nat.reduceEqDiff, Nat.reduceBEq, ↓reduceIte, reduceCtorEq, Int.reduceEq, Int.reduceLE, Int.reduceLT, Int.reduceAdd, Int.reduceSub, Int.reduceNeg, Int.reduceToNat, Int.reduceNe, Nat.reducePow, Nat.reduceShiftRight, Nat.reduceMod, mc_law06_variable, *])
  refine fin_ret (r0 := .agg [.sc (.int .i64 1), .sc (.int .i64 n), .sc (.string ⟨#[]⟩), .sc (.slice none 0 0), .sc (.slice none 0 0)]) 2 (by (simp (disch := omega) only [go_sem, Nat.reduceMul, Nat.reduceSub, Nat.reduceShiftRight, Nat.reduceMod, Nat.reduceEqDiff, Nat.reduceAdd, ↓reduceIte, Nat.reduceLeDiff, *]); all_goals rfl) ?_
  rw [frz_agg1]
  simp only [List.map_cons, List.map_nil, frz_sc1, Tm.pv, varT]
  exact Weak.agg ⟨.refl _, .refl _, .refl _, .nil 3, .nil 5, trivial⟩
def app6 (x y : Tm) : Tm := .mk 4 0 emp [] [x, y]
def lam6 (x y : Tm) : Tm := .mk 5 0 emp [] [x, y]
theorem app6_p (x y : Tm) : PPure Try.prog F.law06_app [.agg x.pv, .agg y.pv] (.agg (app6 x y).pv) := by
  refine pure_by is_law06_app (by simp) (by simp [PV.imm, tm_imm]) fun hb nx => ?_
  repeat' (first | ((with_reducible first | refine cond_pos (by omega) ?_ | refine cond_neg (by omega) ?_ | refine guard_pos (by omega) ?_ | refine guard_neg (by omega) ?_ | refine cond_ifn ?_ ?_ | refine cond_waysn ?_ ?_ | refine guard_ifn ?_ ?_ | refine guard_waysn ?_ ?_ | refine cond_if ?_ ?_ | refine cond_ways ?_ ?_ | refine guard_if ?_ ?_ | refine guard_ways ?_ ?_) <;> intro _) | simp (maxSteps := 1000000) (disch := omega) only [go_sem, Nat.reduceAdd, Nat.reduceMul, Nat.reduceSub, Nat.reduceLeDiff, Nat.reduceEqDiff, Nat.reduceBEq, ↓reduceIte, reduceCtorEq, Int.reduceEq, Int.reduceLE, Int.reduceLT, Int.reduceAdd, Int.reduceSub, Int.reduceNeg, Int.reduceToNat, Int.reduceNe, Nat.reducePow, Nat.reduceShiftRight, Nat.reduceMod, mc_law06_app, *])
  refine fin_ret (r0 := .agg [.sc (.int .i64 4), .sc (.int .i64 0), .sc (.string ⟨#[]⟩), .sc (.slice none 0 0), .sl 5 [x.pv, y.pv]]) 2 (by (simp (disch := omega) only [go_sem, Nat.reduceMul, Nat.reduceSub, Nat.reduceShiftRight, Nat.reduceMod, Nat.reduceEqDiff, Nat.reduceAdd, ↓reduceIte, Nat.reduceLeDiff, *]); all_goals rfl) ?_
  rw [frz_agg1]
  simp only [List.map_cons, List.map_nil, frz_sc1, frz_sl, Tm.pv, app6]
  exact Weak.agg ⟨.refl _, .refl _, .refl _, .nil 3, .refl _, trivial⟩
theorem lam6_p (x y : Tm) : PPure Try.prog F.law06_lam [.agg x.pv, .agg y.pv] (.agg (lam6 x y).pv) := by
  refine pure_by is_law06_lam (by simp) (by simp [PV.imm, tm_imm]) fun hb nx => ?_
  repeat' (first | ((with_reducible first | refine cond_pos (by omega) ?_ | refine cond_neg (by omega) ?_ | refine guard_pos (by omega) ?_ | refine guard_neg (by omega) ?_ | refine cond_ifn ?_ ?_ | refine cond_waysn ?_ ?_ | refine guard_ifn ?_ ?_ | refine guard_waysn ?_ ?_ | refine cond_if ?_ ?_ | refine cond_ways ?_ ?_ | refine guard_if ?_ ?_ | refine guard_ways ?_ ?_) <;> intro _) | simp (maxSteps := 1000000) (disch := omega) only [go_sem, Nat.reduceAdd, Nat.reduceMul, Nat.reduceSub, Nat.reduceLeDiff, Nat.reduceEqDiff, Nat.reduceBEq, ↓reduceIte, reduceCtorEq, Int.reduceEq, Int.reduceLE, Int.reduceLT, Int.reduceAdd, Int.reduceSub, Int.reduceNeg, Int.reduceToNat, Int.reduceNe, Nat.reducePow, Nat.reduceShiftRight, Nat.reduceMod, mc_law06_lam, *])
  refine fin_ret (r0 := .agg [.sc (.int .i64 5), .sc (.int .i64 0), .sc (.string ⟨#[]⟩), .sc (.slice none 0 0), .sl 5 [x.pv, y.pv]]) 2 (by (simp (disch := omega) only [go_sem, Nat.reduceMul, Nat.reduceSub, Nat.reduceShiftRight, Nat.reduceMod, Nat.reduceEqDiff, Nat.reduceAdd, ↓reduceIte, Nat.reduceLeDiff, *]); all_goals rfl) ?_
  rw [frz_agg1]
  simp only [List.map_cons, List.map_nil, frz_sc1, frz_sl, Tm.pv, lam6]
  exact Weak.agg ⟨.refl _, .refl _, .refl _, .nil 3, .refl _, trivial⟩
def A6 : Tm := conT bA
def B6 : Tm := conT bB
def W0 : Tm := varT 0
def W1 : Tm := varT 1
def W3 : Tm := varT 3
def W4 : Tm := varT 4
def W10 : Tm := app6 W1 W0
def AB6 : Tm := app6 A6 B6
def W01 : Tm := app6 W0 W1
def Z6 : Tm := lam6 W0 W01
def W04 : Tm := app6 W0 W4
def Y6 : Tm := lam6 W3 W04
def AA6 : Tm := lam6 A6 A6
def R6 : Tm := lam6 W0 W1
theorem e6_r1 : W10.right 4 1125899906842624 = true := by simp [Tm.right, Tm.formed, formedA, hasB, constB, headR, Lv.right, Lv.formed, formedL, Lv.nodes, nodesL, Tm.nodes, nodesT, deepB, noS_emp, nb_A, nb_B, W10, app6, W1, W0, varT]
theorem e6_r2 : A6.right 4 1125899906842624 = true := by simp [Tm.right, Tm.formed, formedA, hasB, constB, headR, Lv.right, Lv.formed, formedL, Lv.nodes, nodesL, Tm.nodes, nodesT, deepB, noS_emp, nb_A, nb_B, A6, conT]
theorem e6_r3 : B6.right 4 1125899906842624 = true := by simp [Tm.right, Tm.formed, formedA, hasB, constB, headR, Lv.right, Lv.formed, formedL, Lv.nodes, nodesL, Tm.nodes, nodesT, deepB, noS_emp, nb_A, nb_B, B6, conT]
theorem e6_r4 : AB6.right 4 1125899906842624 = true := by simp [Tm.right, Tm.formed, formedA, hasB, constB, headR, Lv.right, Lv.formed, formedL, Lv.nodes, nodesL, Tm.nodes, nodesT, deepB, noS_emp, nb_A, nb_B, AB6, app6, A6, B6, conT]
theorem e6_r5 : Z6.right 4 1125899906842624 = true := by simp [Tm.right, Tm.formed, formedA, hasB, constB, headR, Lv.right, Lv.formed, formedL, Lv.nodes, nodesL, Tm.nodes, nodesT, deepB, noS_emp, nb_A, nb_B, Z6, W01, lam6, app6, W1, W0, varT]
theorem e6_r6 : W3.right 4 1125899906842624 = true := by simp [Tm.right, Tm.formed, formedA, hasB, constB, headR, Lv.right, Lv.formed, formedL, Lv.nodes, nodesL, Tm.nodes, nodesT, deepB, noS_emp, nb_A, nb_B, W3, varT]
theorem e6_r7 : W1.right 4 1125899906842624 = true := by simp [Tm.right, Tm.formed, formedA, hasB, constB, headR, Lv.right, Lv.formed, formedL, Lv.nodes, nodesL, Tm.nodes, nodesT, deepB, noS_emp, nb_A, nb_B, W1, varT]
theorem e6_r8 : AA6.right 4 1125899906842624 = true := by simp [Tm.right, Tm.formed, formedA, hasB, constB, headR, Lv.right, Lv.formed, formedL, Lv.nodes, nodesL, Tm.nodes, nodesT, deepB, noS_emp, nb_A, nb_B, AA6, lam6, A6, conT]
theorem e6_r9 : W0.right 4 1125899906842624 = true := by simp [Tm.right, Tm.formed, formedA, hasB, constB, headR, Lv.right, Lv.formed, formedL, Lv.nodes, nodesL, Tm.nodes, nodesT, deepB, noS_emp, nb_A, nb_B, W0, varT]
theorem e6_r10 : Y6.right 4 1125899906842624 = true := by simp [Tm.right, Tm.formed, formedA, hasB, constB, headR, Lv.right, Lv.formed, formedL, Lv.nodes, nodesL, Tm.nodes, nodesT, deepB, noS_emp, nb_A, nb_B, Y6, W04, lam6, app6, W3, W4, W0, varT]
theorem bAB : bA ≠ bB := by decide
theorem e6_inst : instR W10 [A6, B6] = some AB6 := by
  unfold instR
  rw [if_pos ⟨e6_r1, by simp [e6_r2, e6_r3]⟩]
  rfl
theorem e6_abs : absR AB6 [bA, bB] = some W10 := by
  unfold absR
  rw [if_pos e6_r4]
  have : AB6.fill (absL [bA, bB]) 0 = some W10 := by
    simp [AB6, app6, A6, B6, conT, Tm.fill, fillA, absL, firstAt, bAB, Tm.lift, liftA, varT, W10, W1, W0, deepB]
  rw [this]
  show (if W10.nodes ≤ 2000 then some W10 else none) = some W10
  exact if_pos (by decide)
theorem e6_lift : liftR Z6 3 0 = some Y6 := by
  unfold liftR
  rw [if_pos ⟨by decide, by decide, by decide, by decide, e6_r5⟩]
  simp [Z6, W01, lam6, app6, W1, W0, varT, Tm.lift, liftA, deepB, Y6, W04, W3, W4]
theorem e6_low : lowR W3 2 = some W1 := by
  unfold lowR
  rw [if_pos ⟨by decide, by decide, e6_r6⟩]
  rfl
theorem e6_low2 : lowR W1 2 = none := by
  unfold lowR
  rw [if_pos ⟨by decide, by decide, e6_r7⟩]
  rfl
theorem e6_repl : replR AA6 bA W0 = some R6 := by
  unfold replR
  rw [if_pos ⟨e6_r8, e6_r9⟩]
  have : AA6.fill (swapL bA W0) 0 = some R6 := by
    simp [AA6, lam6, A6, conT, Tm.fill, fillA, swapL, Tm.lift, liftA, varT, W0, W1, R6, deepB]
  rw [this]
  show (if R6.nodes ≤ 2000 then some R6 else none) = some R6
  exact if_pos (by decide)
theorem e6_count : countR Y6 3 = 2 := by
  unfold countR
  rw [if_pos ⟨by decide, e6_r10⟩]
  simp [Y6, W04, lam6, app6, W3, W4, W0, varT, Tm.cnt, cntA, varL, deepB]
theorem e6_occ : occR AB6 bA = true := by
  unfold occR
  rw [e6_r4]
  simp [AB6, app6, A6, B6, conT, Tm.cnt, cntA, conL, bAB.symm]
theorem e6_occ2 : occR AB6 ⟨#[99]⟩ = false := by
  unfold occR
  rw [e6_r4]
  simp [AB6, app6, A6, B6, conT, Tm.cnt, cntA, conL, bA, bB]
theorem same6 (x : Tm) : PPure Try.prog F.ref00_SameTerm [.agg x.pv, .agg x.pv] (.sc (.bool true)) := by
  have := SameTerm_p x.size x x (Nat.le_refl _)
  rwa [(tsame_iff x x).2 rfl] at this
set_option maxHeartbeats 8000000 in
theorem alive6_p : PPure Try.prog F.law06_alive [] (.sc (.bool true)) := by
  have c1 : PPure Try.prog F.law06_constant [.sc (.string ⟨#[97]⟩)] (.agg A6.pv) := constant6_p bA
  have c2 : PPure Try.prog F.law06_constant [.sc (.string ⟨#[98]⟩)] (.agg B6.pv) := constant6_p bB
  have c3 : PPure Try.prog F.law06_variable [.sc (.int .i64 0)] (.agg W0.pv) := variable6_p 0
  have c4 : PPure Try.prog F.law06_variable [.sc (.int .i64 1)] (.agg W1.pv) := variable6_p 1
  have c5 : PPure Try.prog F.law06_variable [.sc (.int .i64 3)] (.agg W3.pv) := variable6_p 3
  have c6 : PPure Try.prog F.law06_variable [.sc (.int .i64 4)] (.agg W4.pv) := variable6_p 4
  have c7 : PPure Try.prog F.law06_app [.agg W1.pv, .agg W0.pv] (.agg W10.pv) := app6_p W1 W0
  have c8 : PPure Try.prog F.law06_app [.agg A6.pv, .agg B6.pv] (.agg AB6.pv) := app6_p A6 B6
  have c9 : PPure Try.prog F.law06_app [.agg W0.pv, .agg W1.pv] (.agg W01.pv) := app6_p W0 W1
  have c10 : PPure Try.prog F.law06_app [.agg W0.pv, .agg W4.pv] (.agg W04.pv) := app6_p W0 W4
  have c11 : PPure Try.prog F.law06_lam [.agg W0.pv, .agg W01.pv] (.agg Z6.pv) := lam6_p W0 W01
  have c12 : PPure Try.prog F.law06_lam [.agg W3.pv, .agg W04.pv] (.agg Y6.pv) := lam6_p W3 W04
  have c13 : PPure Try.prog F.law06_lam [.agg A6.pv, .agg A6.pv] (.agg AA6.pv) := lam6_p A6 A6
  have c14 : PPure Try.prog F.law06_lam [.agg W0.pv, .agg W1.pv] (.agg R6.pv) := lam6_p W0 W1
  have c15 : PPure Try.prog F.bind_Inst [.agg W10.pv, .sl 5 [A6.pv, B6.pv]] (.tup [.agg AB6.pv, .sc (.bool true)]) := by
    have := bind_Inst_p W10 [A6, B6] (by decide)
    rw [e6_inst] at this
    exact this
  have c16 : PPure Try.prog F.bind_Abstract [.agg AB6.pv, .sl 1 [[.sc (.string ⟨#[97]⟩)], [.sc (.string ⟨#[98]⟩)]]] (.tup [.agg W10.pv, .sc (.bool true)]) := by
    have := bind_Abstract_p AB6 [bA, bB] (by decide)
    rw [e6_abs] at this
    exact this
  have c17 : PPure Try.prog F.bind_Lift [.agg Z6.pv, .sc (.int .i64 3), .sc (.int .i64 0)] (.tup [.agg Y6.pv, .sc (.bool true)]) := by
    have := bind_Lift_p Z6 3 0
    rw [e6_lift] at this
    exact this
  have c18 : PPure Try.prog F.bind_Lower [.agg W3.pv, .sc (.int .i64 2)] (.tup [.agg [.sc (.int .i64 1), .sc (.int .i64 1), .sc (.string ⟨#[]⟩), .sl 3 [], .sl 5 []], .sc (.bool true)]) := by
    have := bind_Lower_p W3 2
    rw [e6_low] at this
    have e : W1.pv = [.sc (.int .i64 1), .sc (.int .i64 1), .sc (.string ⟨#[]⟩), .sl 3 [], .sl 5 []] := by simp [W1, varT, Tm.pv]
    simp only [optT, e] at this
    exact this
  have c19 : PPure Try.prog F.bind_Lower [.agg W1.pv, .sc (.int .i64 2)] (.tup [.agg [.sc (.int .i64 0), .sc (.int .i64 0), .sc (.string ⟨#[]⟩), .sc (.slice none 0 0), .sc (.slice none 0 0)], .sc (.bool false)]) := by
    have := bind_Lower_p W1 2
    rw [e6_low2] at this
    exact this
  have c20 : PPure Try.prog F.bind_Replace [.agg AA6.pv, .sc (.string ⟨#[97]⟩), .agg W0.pv] (.tup [.agg R6.pv, .sc (.bool true)]) := by
    have := bind_Replace_p AA6 bA W0
    rw [e6_repl] at this
    exact this
  have c21 : PPure Try.prog F.bind_Uses [.agg Y6.pv, .sc (.int .i64 3)] (.sc (.bool true)) := by
    have := bind_Uses_p Y6 3
    rw [e6_count] at this
    exact this
  have c22 : PPure Try.prog F.bind_Count [.agg Y6.pv, .sc (.int .i64 3)] (.sc (.int .i64 2)) := by
    have := bind_Count_p Y6 3
    rw [e6_count] at this
    exact this
  have c23 : PPure Try.prog F.bind_Occurs [.agg AB6.pv, .sc (.string ⟨#[97]⟩)] (.sc (.bool true)) := by
    have := bind_Occurs_p AB6 bA
    rw [e6_occ] at this
    exact this
  have c24 : PPure Try.prog F.bind_Occurs [.agg AB6.pv, .sc (.string ⟨#[99]⟩)] (.sc (.bool false)) := by
    have := bind_Occurs_p AB6 ⟨#[99]⟩
    rw [e6_occ2] at this
    exact this
  refine pure_by is_law06_alive (by simp) rfl fun hb nx => ?_
  clear hb
  repeat' (first | ((with_reducible first | refine cond_pos (by omega) ?_ | refine cond_neg (by omega) ?_ | refine guard_pos (by omega) ?_ | refine guard_neg (by omega) ?_ | refine cond_ifn ?_ ?_ | refine cond_waysn ?_ ?_ | refine guard_ifn ?_ ?_ | refine guard_waysn ?_ ?_ | refine cond_if ?_ ?_ | refine cond_ways ?_ ?_ | refine guard_if ?_ ?_ | refine guard_ways ?_ ?_) <;> intro _) | (((with_reducible refine call_id ?_); (first | (refine call_pure (c1) ?_) | (refine call_pure (c2) ?_) | (refine call_pure (c3) ?_) | (refine call_pure (c4) ?_) | (refine call_pure (c5) ?_) | (refine call_pure (c6) ?_) | (refine call_pure (c7) ?_) | (refine call_pure (c8) ?_) | (refine call_pure (c9) ?_) | (refine call_pure (c10) ?_) | (refine call_pure (c11) ?_) | (refine call_pure (c12) ?_) | (refine call_pure (c13) ?_) | (refine call_pure (c14) ?_) | (refine call_pure (c15) ?_) | (refine call_pure (c16) ?_) | (refine call_pure (c17) ?_) | (refine call_pure (c18) ?_) | (refine call_pure (c19) ?_) | (refine call_pure (c20) ?_) | (refine call_pure (c21) ?_) | (refine call_pure (c22) ?_) | (refine call_pure (c23) ?_) | (refine call_pure (c24) ?_) | (refine call_pure (same6 AB6) ?_) | (refine call_pure (same6 W10) ?_) | (refine call_pure (same6 Y6) ?_) | (refine call_pure (same6 R6) ?_)))) | simp (maxSteps := 1000000) (disch := omega) only [go_sem, Nat.reduceAdd, Nat.reduceMul, Nat.reduceSub, Nat.reduceLeDiff, Nat.reduceEqDiff, Nat.reduceBEq, ↓reduceIte, reduceCtorEq, Int.reduceEq, Int.reduceLE, Int.reduceLT, Int.reduceAdd, Int.reduceSub, Int.reduceNeg, Int.reduceToNat, Int.reduceNe, Nat.reducePow, Nat.reduceShiftRight, Nat.reduceMod, mc_law06_alive, strBin, beq_self_eq_true, *])
  all_goals (refine fin_tmp (.inr rfl) ?_; simp [upd])
def minsT (xs : List Tm) : Nat := (xs.map fun x => min x.mass 2501).sum
theorem minsT_take (xs : List Tm) (i : Nat) (h : i < xs.length) : minsT (xs.take (i + 1)) = minsT (xs.take i) + min xs[i].mass 2501 := by
  unfold minsT
  rw [List.take_succ_eq_append_getElem h, List.map_append, List.sum_append]
  simp
theorem minsT_take_le (xs : List Tm) (i : Nat) : minsT (xs.take i) ≤ minsT xs := by
  have : minsT xs = minsT (xs.take i) + minsT (xs.drop i) := by
    unfold minsT
    rw [← List.sum_append, ← List.map_append, List.take_append_drop]
  omega
def great6 (t : Tm) (xs : List Tm) : Bool := decide (20 < xs.length ∨ 2500 < t.mass ∨ 4000 < minsT xs)
set_option maxHeartbeats 16000000 in
theorem great6_p (t : Tm) (ht : t.fits) (xs : List Tm) (hx : ∀ x ∈ xs, x.fits) : PPure Try.prog F.law06_great [.agg t.pv, .sl 5 (xs.map Tm.pv)] (.sc (.bool (great6 t xs))) := by
  refine pure_by is_law06_great (by simp) rfl fun hb nx => ?_
  have hb0 : xs.length ≤ 9223372036854775807 := by simp [bndL, PV.bnd] at hb; exact hb.2.1
  clear hb
  have cG := Great_p t ht
  by_cases h1 : 20 < xs.length
  · have e : great6 t xs = true := decide_eq_true (.inl h1)
    rw [e]
    clear e
    repeat' (first | ((with_reducible first | refine cond_pos (by omega) ?_ | refine cond_neg (by omega) ?_ | refine guard_pos (by omega) ?_ | refine guard_neg (by omega) ?_ | refine cond_ifn ?_ ?_ | refine cond_waysn ?_ ?_ | refine guard_ifn ?_ ?_ | refine guard_waysn ?_ ?_ | refine cond_if ?_ ?_ | refine cond_ways ?_ ?_ | refine guard_if ?_ ?_ | refine guard_ways ?_ ?_) <;> intro _) | (((with_reducible refine call_id ?_); (first | (refine call_pure (cG) ?_)))) | simp (maxSteps := 1000000) (disch := omega) only [go_sem, Nat.reduceAdd, Nat.reduceMul, Nat.reduceSub, Nat.reduceLeDiff, Nat.reduceEqDiff, Nat.reduceBEq, ↓reduceIte, reduceCtorEq, Int.reduceEq, Int.reduceLE, Int.reduceLT, Int.reduceAdd, Int.reduceSub, Int.reduceNeg, Int.reduceToNat, Int.reduceNe, Nat.reducePow, Nat.reduceShiftRight, Nat.reduceMod, mc_law06_great, *])
    all_goals (refine fin_tmp (.inr rfl) ?_; (first | rfl | (simp (disch := omega) only [go_sem, Nat.reduceMul, Nat.reduceSub, Nat.reduceShiftRight, Nat.reduceMod, Nat.reduceEqDiff, Nat.reduceAdd, ↓reduceIte, Nat.reduceLeDiff, *]; done) | (simp [upd, *]; done) | (simp [upd, *]; omega)))
  by_cases h2 : 2500 < t.mass
  · have e : great6 t xs = true := decide_eq_true (.inr (.inl h2))
    rw [decide_eq_true h2] at cG
    rw [e]
    clear e
    repeat' (first | ((with_reducible first | refine cond_pos (by omega) ?_ | refine cond_neg (by omega) ?_ | refine guard_pos (by omega) ?_ | refine guard_neg (by omega) ?_ | refine cond_ifn ?_ ?_ | refine cond_waysn ?_ ?_ | refine guard_ifn ?_ ?_ | refine guard_waysn ?_ ?_ | refine cond_if ?_ ?_ | refine cond_ways ?_ ?_ | refine guard_if ?_ ?_ | refine guard_ways ?_ ?_) <;> intro _) | (((with_reducible refine call_id ?_); (first | (refine call_pure (cG) ?_)))) | simp (maxSteps := 1000000) (disch := omega) only [go_sem, Nat.reduceAdd, Nat.reduceMul, Nat.reduceSub, Nat.reduceLeDiff, Nat.reduceEqDiff, Nat.reduceBEq, ↓reduceIte, reduceCtorEq, Int.reduceEq, Int.reduceLE, Int.reduceLT, Int.reduceAdd, Int.reduceSub, Int.reduceNeg, Int.reduceToNat, Int.reduceNe, Nat.reducePow, Nat.reduceShiftRight, Nat.reduceMod, mc_law06_great, *])
    all_goals (refine fin_tmp (.inr rfl) ?_; (first | rfl | (simp (disch := omega) only [go_sem, Nat.reduceMul, Nat.reduceSub, Nat.reduceShiftRight, Nat.reduceMod, Nat.reduceEqDiff, Nat.reduceAdd, ↓reduceIte, Nat.reduceLeDiff, *]; done) | (simp [upd, *]; done) | (simp [upd, *]; omega)))
  rw [decide_eq_false h2] at cG
  have hxk := Kept.mk fun i (h : i < xs.length) => hx _ (List.getElem_mem h)
  clear hx
  repeat' (first | ((with_reducible first | refine cond_pos (by omega) ?_ | refine cond_neg (by omega) ?_ | refine guard_pos (by omega) ?_ | refine guard_neg (by omega) ?_ | refine cond_ifn ?_ ?_ | refine cond_waysn ?_ ?_ | refine guard_ifn ?_ ?_ | refine guard_waysn ?_ ?_ | refine cond_if ?_ ?_ | refine cond_ways ?_ ?_ | refine guard_if ?_ ?_ | refine guard_ways ?_ ?_) <;> intro _) | (((with_reducible refine call_id ?_); (first | (refine call_pure (cG) ?_)))) | simp (maxSteps := 1000000) (disch := omega) only [go_sem, Nat.reduceAdd, Nat.reduceMul, Nat.reduceSub, Nat.reduceLeDiff, Nat.reduceEqDiff, Nat.reduceBEq, ↓reduceIte, reduceCtorEq, Int.reduceEq, Int.reduceLE, Int.reduceLT, Int.reduceAdd, Int.reduceSub, Int.reduceNeg, Int.reduceToNat, Int.reduceNe, Nat.reducePow, Nat.reduceShiftRight, Nat.reduceMod, mc_law06_great, *])
  clear cG
  refine c_loopW 536854640 (by kernel_rfl) (fun j f H m => ∃ (i v : Nat), j = xs.length - i ∧ i ≤ xs.length ∧ f 6 = .sc (.int .i64 i) ∧ f 5 = .sc (.int .i64 v) ∧ v ≤ 4000 ∧ Kept (v = minsT (xs.take i))) _ ⟨0, 0, rfl, Nat.zero_le _, (by first | assumption | omega | rfl | (simp (disch := omega) only [go_sem, Nat.reduceMul, Nat.reduceSub, Nat.reduceShiftRight, Nat.reduceMod, Nat.reduceEqDiff, Nat.reduceAdd, ↓reduceIte, Nat.reduceLeDiff, *] <;> omega)), (by first | assumption | omega | rfl | (simp (disch := omega) only [go_sem, Nat.reduceMul, Nat.reduceSub, Nat.reduceShiftRight, Nat.reduceMod, Nat.reduceEqDiff, Nat.reduceAdd, ↓reduceIte, Nat.reduceLeDiff, *] <;> omega)), by omega, Kept.mk rfl⟩ ?_
  rintro _ f H m ⟨i, v, rfl, hi, e6, e5, hv, hvk⟩
  by_cases hlt : i < xs.length
  · have eg : xs[i]? = some xs[i] := List.getElem?_eq_getElem hlt
    have c1 := Mass_p 2500 (by omega) xs[i].size xs[i] (Nat.le_refl _) (hxk.out i hlt)
    have hst := minsT_take xs i hlt
    have hle := minsT_take_le xs (i + 1)
    have hvk2 : Kept (v + min xs[i].mass 2501 = minsT (xs.take (i + 1))) := Kept.mk (by have := hvk.out; omega)
    by_cases hgt : 4000 < v + min xs[i].mass 2501
    · have e : great6 t xs = true := decide_eq_true (.inr (.inr (by have := hvk2.out; omega)))
      rw [e]
      clear e hst hle hvk hvk2
      repeat' (first | ((with_reducible first | refine cond_pos (by omega) ?_ | refine cond_neg (by omega) ?_ | refine guard_pos (by omega) ?_ | refine guard_neg (by omega) ?_ | refine cond_ifn ?_ ?_ | refine cond_waysn ?_ ?_ | refine guard_ifn ?_ ?_ | refine guard_waysn ?_ ?_ | refine cond_if ?_ ?_ | refine cond_ways ?_ ?_ | refine guard_if ?_ ?_ | refine guard_ways ?_ ?_) <;> intro _) | (((with_reducible refine call_id ?_); (first | (refine call_pure (c1) ?_)))) | simp (maxSteps := 1000000) (disch := omega) only [go_sem, Nat.reduceAdd, Nat.reduceMul, Nat.reduceSub, Nat.reduceLeDiff, Nat.reduceEqDiff, Nat.reduceBEq, ↓reduceIte, reduceCtorEq, Int.reduceEq, Int.reduceLE, Int.reduceLT, Int.reduceAdd, Int.reduceSub, Int.reduceNeg, Int.reduceToNat, Int.reduceNe, Nat.reducePow, Nat.reduceShiftRight, Nat.reduceMod, *])
      all_goals (refine fin_tmp (.inr rfl) ?_; (first | rfl | (simp (disch := omega) only [go_sem, Nat.reduceMul, Nat.reduceSub, Nat.reduceShiftRight, Nat.reduceMod, Nat.reduceEqDiff, Nat.reduceAdd, ↓reduceIte, Nat.reduceLeDiff, *]; done) | (simp [upd, *]; done) | (simp [upd, *]; omega)))
    · clear hst hle hvk
      repeat' (first | ((with_reducible first | refine cond_pos (by omega) ?_ | refine cond_neg (by omega) ?_ | refine guard_pos (by omega) ?_ | refine guard_neg (by omega) ?_ | refine cond_ifn ?_ ?_ | refine cond_waysn ?_ ?_ | refine guard_ifn ?_ ?_ | refine guard_waysn ?_ ?_ | refine cond_if ?_ ?_ | refine cond_ways ?_ ?_ | refine guard_if ?_ ?_ | refine guard_ways ?_ ?_) <;> intro _) | (((with_reducible refine call_id ?_); (first | (refine call_pure (c1) ?_)))) | simp (maxSteps := 1000000) (disch := omega) only [go_sem, Nat.reduceAdd, Nat.reduceMul, Nat.reduceSub, Nat.reduceLeDiff, Nat.reduceEqDiff, Nat.reduceBEq, ↓reduceIte, reduceCtorEq, Int.reduceEq, Int.reduceLE, Int.reduceLT, Int.reduceAdd, Int.reduceSub, Int.reduceNeg, Int.reduceToNat, Int.reduceNe, Nat.reducePow, Nat.reduceShiftRight, Nat.reduceMod, *])
      exact Nx.mk (xs.length - (i + 1)) (by first | assumption | omega | rfl | (simp (disch := omega) only [go_sem, Nat.reduceMul, Nat.reduceSub, Nat.reduceShiftRight, Nat.reduceMod, Nat.reduceEqDiff, Nat.reduceAdd, ↓reduceIte, Nat.reduceLeDiff, *] <;> omega)) ⟨i + 1, v + min xs[i].mass 2501, rfl, (by first | assumption | omega | rfl | (simp (disch := omega) only [go_sem, Nat.reduceMul, Nat.reduceSub, Nat.reduceShiftRight, Nat.reduceMod, Nat.reduceEqDiff, Nat.reduceAdd, ↓reduceIte, Nat.reduceLeDiff, *] <;> omega)), by simp [upd], by simp [upd], by omega, hvk2⟩
  · obtain rfl : i = xs.length := by omega
    have hv2 := hvk.out
    rw [List.take_length] at hv2
    have e : great6 t xs = false := decide_eq_false (by omega)
    rw [e]
    clear e hv2 hvk
    repeat' (first | ((with_reducible first | refine cond_pos (by omega) ?_ | refine cond_neg (by omega) ?_ | refine guard_pos (by omega) ?_ | refine guard_neg (by omega) ?_ | refine cond_ifn ?_ ?_ | refine cond_waysn ?_ ?_ | refine guard_ifn ?_ ?_ | refine guard_waysn ?_ ?_ | refine cond_if ?_ ?_ | refine cond_ways ?_ ?_ | refine guard_if ?_ ?_ | refine guard_ways ?_ ?_) <;> intro _) | simp (maxSteps := 1000000) (disch := omega) only [go_sem, Nat.reduceAdd, Nat.reduceMul, Nat.reduceSub, Nat.reduceLeDiff, Nat.reduceEqDiff, Nat.reduceBEq, ↓reduceIte, reduceCtorEq, Int.reduceEq, Int.reduceLE, Int.reduceLT, Int.reduceAdd, Int.reduceSub, Int.reduceNeg, Int.reduceToNat, Int.reduceNe, Nat.reducePow, Nat.reduceShiftRight, Nat.reduceMod, *])
    all_goals (refine fin_tmp (.inr rfl) ?_; (first | rfl | (simp (disch := omega) only [go_sem, Nat.reduceMul, Nat.reduceSub, Nat.reduceShiftRight, Nat.reduceMod, Nat.reduceEqDiff, Nat.reduceAdd, ↓reduceIte, Nat.reduceLeDiff, *]; done) | (simp [upd, *]; done) | (simp [upd, *]; omega)))
end
section
set_option maxRecDepth 20000
attribute [local go_sem] pv_len pv_take Nat.add_assoc tm_len tm_take pv_one tm_one tpvB_len tpvB_take tpvB_one pvB_len pvB_take pvB_one id_ne id_ne' id_ne2 List.append_assoc tm_take_app tm_drop_app tm_take10 tm_drop10 tm_drop15 tm_drop
theorem looseT_right {t : Tm} (h : t.right 4 1125899906842624 = true) : looseT t = t.loose ∧ 0 ≤ t.loose := ⟨if_pos h, (loose_bd 4 t _ (by omega) (right_far h).1).1⟩
end
section
set_option maxRecDepth 20000
theorem instR_some {t y : Tm} {xs : List Tm} (h : instR t xs = some y) : t.right 4 1125899906842624 = true ∧ xs.all (fun x => x.right 4 1125899906842624) = true ∧ t.fill (instL6 xs) 0 = some y ∧ y.nodes ≤ 2000 := by
  unfold instR at h
  split at h
  · rename_i hr
    unfold cap2 at h
    cases hf : t.fill (instL6 xs) 0 with
    | none => rw [hf] at h; cases h
    | some z =>
      rw [hf, Option.bind_some] at h
      split at h
      · cases h
        exact ⟨hr.1, hr.2, rfl, by assumption⟩
      · cases h
  · cases h
theorem liftR_some {t y : Tm} {by_ frm : Int} (h : liftR t by_ frm = some y) : t.right 4 1125899906842624 = true ∧ y = t.lift by_ frm := by
  unfold liftR at h
  split at h
  · rename_i hr
    cases h
    exact ⟨hr.2.2.2.2, rfl⟩
  · cases h
theorem steps_same {t a b both up first x : Tm} (h1 : instR t [a, b] = some both) (h2 : liftR b 1 0 = some up) (h3 : instR t [up] = some first) (h4 : instR first [a] = some x) : both = x := by
  have e := inst_steps a b t 0 (by omega)
  rw [(instR_some h1).2.2.1, ← (liftR_some h2).2, (instR_some h3).2.2.1, Option.bind_some, (instR_some h4).2.2.1] at e
  cases e
  rfl
theorem looseT_bd (t : Tm) : 0 ≤ looseT t ∧ looseT t ≤ 1125899906842624 := by
  unfold looseT
  split
  · rename_i hr
    exact loose_bd 4 t _ (by omega) (right_far hr).1
  · exact ⟨by omega, by omega⟩
theorem steps_loose {t a b both : Tm} (h1 : instR t [a, b] = some both) : looseT both ≤ max (max (looseT t - 2) (looseT a)) (looseT b) := by
  obtain ⟨hr, hx, hf, hn⟩ := instR_some h1
  have h0 := (looseT_bd a).1
  unfold looseT at h0 ⊢
  by_cases hb : both.right 4 1125899906842624 = true
  · simp only [List.all_cons, List.all_nil, Bool.and_true, Bool.and_eq_true] at hx
    have ha0 := (looseT_right hx.1).2
    rw [if_pos hb, if_pos hr, if_pos hx.1, if_pos hx.2]
    have := inst_loose 4 [a, b] 1125899906842624 (fun x hm => by
      simp only [List.mem_cons, List.not_mem_nil, or_false] at hm
      rcases hm with rfl | rfl
      · exact (right_far hx.1).1
      · exact (right_far hx.2).1) (max (max (t.loose - 2) a.loose) b.loose) (by omega) (fun x hm => by
      simp only [List.mem_cons, List.not_mem_nil, or_false] at hm
      rcases hm with rfl | rfl <;> omega) t both 0 (by omega) (by simp only [List.length_cons, List.length_nil]; omega) hf
    omega
  · rw [if_neg hb]
    omega
end
section
set_option maxRecDepth 20000
attribute [local go_sem] pv_len pv_take Nat.add_assoc tm_len tm_take pv_one tm_one tpvB_len tpvB_take tpvB_one pvB_len pvB_take pvB_one id_ne id_ne' id_ne2 List.append_assoc tm_take_app tm_drop_app tm_take10 tm_drop10 tm_drop15 tm_drop
def Z0 : Tm := .mk 0 0 emp [] []
theorem Z0_wrong : Z0.right 4 1125899906842624 = false := by simp [Z0, Tm.right, Tm.formed]
theorem zero_weak : WeakL [.sc (.int .i64 0), .sc (.int .i64 0), .sc (.string ⟨#[]⟩), .sc (.slice none 0 0), .sc (.slice none 0 0)] Z0.pv := by
  simp only [Z0, Tm.pv, List.map_nil]
  exact ⟨.refl _, .refl _, .refl _, .nil 3, .nil 5, trivial⟩
theorem inst_zero (t : Tm) : PPure Try.prog F.bind_Inst [.agg t.pv, .sl 5 [[.sc (.int .i64 0), .sc (.int .i64 0), .sc (.string ⟨#[]⟩), .sc (.slice none 0 0), .sc (.slice none 0 0)]]] (.tup [.agg [.sc (.int .i64 0), .sc (.int .i64 0), .sc (.string ⟨#[]⟩), .sc (.slice none 0 0), .sc (.slice none 0 0)], .sc (.bool false)]) := by
  have h := bind_Inst_p t [Z0] (by simp)
  have e : instR t [Z0] = none := if_neg fun h => by
    have := h.2
    simp [Z0_wrong] at this
  rw [e] at h
  simp only [optT, zeroT, List.map_cons, List.map_nil] at h
  refine h.weak ⟨.refl _, ?_, trivial⟩ (.refl _)
  refine Weak.sl rfl (fun x hx => ?_) ?_
  · simp only [List.mem_singleton] at hx
    subst hx
    exact tm_len _
  · simpa using zero_weak
theorem inst_of_zero (a : Tm) : PPure Try.prog F.bind_Inst [.agg [.sc (.int .i64 0), .sc (.int .i64 0), .sc (.string ⟨#[]⟩), .sc (.slice none 0 0), .sc (.slice none 0 0)], .sl 5 [a.pv]] (.tup [.agg [.sc (.int .i64 0), .sc (.int .i64 0), .sc (.string ⟨#[]⟩), .sc (.slice none 0 0), .sc (.slice none 0 0)], .sc (.bool false)]) := by
  have h := bind_Inst_p Z0 [a] (by simp)
  have e : instR Z0 [a] = none := if_neg fun h => by
    have := h.1
    simp [Z0_wrong] at this
  rw [e] at h
  simp only [optT, zeroT, List.map_cons, List.map_nil] at h
  exact h.weak ⟨Weak.agg zero_weak, .refl _, trivial⟩ (.refl _)
set_option maxRecDepth 100000 in
set_option maxHeartbeats 16000000 in
theorem BindSteps_p (t a b : {t : Tm // t.fits}) : PPure Try.prog F.law06_BindSteps [.agg t.1.pv, .agg a.1.pv, .agg b.1.pv] (.sc (.bool true)) := by
  obtain ⟨t, ht⟩ := t
  obtain ⟨a, hfa⟩ := a
  obtain ⟨b, hfb⟩ := b
  show PPure Try.prog F.law06_BindSteps [.agg t.pv, .agg a.pv, .agg b.pv] (.sc (.bool true))
  refine pure_by is_law06_BindSteps (by simp) rfl fun hb nx => ?_
  clear hb
  have hl := alive6_p
  have cG := great6_p t ht [a, b] (by simp [hfa, hfb])
  simp only [List.map_cons, List.map_nil] at cG
  cases hg : great6 t [a, b] with
  | true =>
    rw [hg] at cG
    clear hg
    repeat' (first | ((with_reducible first | refine cond_pos (by omega) ?_ | refine cond_neg (by omega) ?_ | refine guard_pos (by omega) ?_ | refine guard_neg (by omega) ?_ | refine cond_ifn ?_ ?_ | refine cond_waysn ?_ ?_ | refine guard_ifn ?_ ?_ | refine guard_waysn ?_ ?_ | refine cond_if ?_ ?_ | refine cond_ways ?_ ?_ | refine guard_if ?_ ?_ | refine guard_ways ?_ ?_) <;> intro _) | (((with_reducible refine call_id ?_); (first | (refine call_pure (hl) ?_) | (refine call_pure (cG) ?_)))) | simp (maxSteps := 1000000) (disch := omega) only [go_sem, Nat.reduceAdd, Nat.reduceMul, Nat.reduceSub, Nat.reduceLeDiff, Nat.reduceEqDiff, Nat.reduceBEq, ↓reduceIte, reduceCtorEq, Int.reduceEq, Int.reduceLE, Int.reduceLT, Int.reduceAdd, Int.reduceSub, Int.reduceNeg, Int.reduceToNat, Int.reduceNe, Nat.reducePow, Nat.reduceShiftRight, Nat.reduceMod, mc_law06_BindSteps, *])
    all_goals (refine fin_tmp (.inr rfl) ?_; (first | rfl | (simp (disch := omega) only [go_sem, Nat.reduceMul, Nat.reduceSub, Nat.reduceShiftRight, Nat.reduceMod, Nat.reduceEqDiff, Nat.reduceAdd, ↓reduceIte, Nat.reduceLeDiff, *]; done) | (simp [upd, *]; done) | (simp [upd, *]; omega)))
  | false =>
  rw [hg] at cG
  clear hg ht hfa hfb
  have c1 := bind_Inst_p t [a, b] (by simp)
  have c2 := bind_Lift_p b 1 0
  have c5 := ref04_Loose_p t
  have c6 := ref04_Loose_p a
  have c7 := ref04_Loose_p b
  have hbt := looseT_bd t
  have hba := looseT_bd a
  have hbb := looseT_bd b
  simp only [List.map_cons, List.map_nil] at c1
  cases ho : instR t [a, b] with
  | none =>
    rw [ho] at c1
    clear ho c5 c6 c7 hbt hba hbb
    cases hu : liftR b 1 0 with
    | none =>
      rw [hu] at c2
      have c3 := inst_zero t
      have c4 := inst_of_zero a
      simp only [optT, zeroT] at c1 c2
      clear hu
      repeat' (first | ((with_reducible first | refine cond_pos (by omega) ?_ | refine cond_neg (by omega) ?_ | refine guard_pos (by omega) ?_ | refine guard_neg (by omega) ?_ | refine cond_ifn ?_ ?_ | refine cond_waysn ?_ ?_ | refine guard_ifn ?_ ?_ | refine guard_waysn ?_ ?_ | refine cond_if ?_ ?_ | refine cond_ways ?_ ?_ | refine guard_if ?_ ?_ | refine guard_ways ?_ ?_) <;> intro _) | (((with_reducible refine call_id ?_); (first | (refine call_pure (hl) ?_) | (refine call_pure (cG) ?_) | (refine call_pure (c1) ?_) | (refine call_pure (c2) ?_) | (refine call_pure (c3) ?_) | (refine call_pure (c4) ?_)))) | simp (maxSteps := 1000000) (disch := omega) only [go_sem, Nat.reduceAdd, Nat.reduceMul, Nat.reduceSub, Nat.reduceLeDiff, Nat.reduceEqDiff, Nat.reduceBEq, ↓reduceIte, reduceCtorEq, Int.reduceEq, Int.reduceLE, Int.reduceLT, Int.reduceAdd, Int.reduceSub, Int.reduceNeg, Int.reduceToNat, Int.reduceNe, Nat.reducePow, Nat.reduceShiftRight, Nat.reduceMod, mc_law06_BindSteps, *])
      all_goals (refine fin_tmp (.inr rfl) ?_; (first | rfl | (simp (disch := omega) only [go_sem, Nat.reduceMul, Nat.reduceSub, Nat.reduceShiftRight, Nat.reduceMod, Nat.reduceEqDiff, Nat.reduceAdd, ↓reduceIte, Nat.reduceLeDiff, *]; done) | (simp [upd, *]; done) | (simp [upd, *]; omega)))
    | some up =>
      rw [hu] at c2
      have c3 := bind_Inst_p t [up] (by simp)
      simp only [List.map_cons, List.map_nil] at c3
      cases hf : instR t [up] with
      | none =>
        rw [hf] at c3
        have c4 := inst_of_zero a
        simp only [optT, zeroT] at c1 c2 c3
        clear hu hf
        repeat' (first | ((with_reducible first | refine cond_pos (by omega) ?_ | refine cond_neg (by omega) ?_ | refine guard_pos (by omega) ?_ | refine guard_neg (by omega) ?_ | refine cond_ifn ?_ ?_ | refine cond_waysn ?_ ?_ | refine guard_ifn ?_ ?_ | refine guard_waysn ?_ ?_ | refine cond_if ?_ ?_ | refine cond_ways ?_ ?_ | refine guard_if ?_ ?_ | refine guard_ways ?_ ?_) <;> intro _) | (((with_reducible refine call_id ?_); (first | (refine call_pure (hl) ?_) | (refine call_pure (cG) ?_) | (refine call_pure (c1) ?_) | (refine call_pure (c2) ?_) | (refine call_pure (c3) ?_) | (refine call_pure (c4) ?_)))) | simp (maxSteps := 1000000) (disch := omega) only [go_sem, Nat.reduceAdd, Nat.reduceMul, Nat.reduceSub, Nat.reduceLeDiff, Nat.reduceEqDiff, Nat.reduceBEq, ↓reduceIte, reduceCtorEq, Int.reduceEq, Int.reduceLE, Int.reduceLT, Int.reduceAdd, Int.reduceSub, Int.reduceNeg, Int.reduceToNat, Int.reduceNe, Nat.reducePow, Nat.reduceShiftRight, Nat.reduceMod, mc_law06_BindSteps, *])
        all_goals (refine fin_tmp (.inr rfl) ?_; (first | rfl | (simp (disch := omega) only [go_sem, Nat.reduceMul, Nat.reduceSub, Nat.reduceShiftRight, Nat.reduceMod, Nat.reduceEqDiff, Nat.reduceAdd, ↓reduceIte, Nat.reduceLeDiff, *]; done) | (simp [upd, *]; done) | (simp [upd, *]; omega)))
      | some first =>
        rw [hf] at c3
        have c4 := bind_Inst_p first [a] (by simp)
        simp only [List.map_cons, List.map_nil] at c4
        cases hx : instR first [a] with
        | none =>
          rw [hx] at c4
          simp only [optT, zeroT] at c1 c2 c3 c4
          clear hu hf hx
          repeat' (first | ((with_reducible first | refine cond_pos (by omega) ?_ | refine cond_neg (by omega) ?_ | refine guard_pos (by omega) ?_ | refine guard_neg (by omega) ?_ | refine cond_ifn ?_ ?_ | refine cond_waysn ?_ ?_ | refine guard_ifn ?_ ?_ | refine guard_waysn ?_ ?_ | refine cond_if ?_ ?_ | refine cond_ways ?_ ?_ | refine guard_if ?_ ?_ | refine guard_ways ?_ ?_) <;> intro _) | (((with_reducible refine call_id ?_); (first | (refine call_pure (hl) ?_) | (refine call_pure (cG) ?_) | (refine call_pure (c1) ?_) | (refine call_pure (c2) ?_) | (refine call_pure (c3) ?_) | (refine call_pure (c4) ?_)))) | simp (maxSteps := 1000000) (disch := omega) only [go_sem, Nat.reduceAdd, Nat.reduceMul, Nat.reduceSub, Nat.reduceLeDiff, Nat.reduceEqDiff, Nat.reduceBEq, ↓reduceIte, reduceCtorEq, Int.reduceEq, Int.reduceLE, Int.reduceLT, Int.reduceAdd, Int.reduceSub, Int.reduceNeg, Int.reduceToNat, Int.reduceNe, Nat.reducePow, Nat.reduceShiftRight, Nat.reduceMod, mc_law06_BindSteps, *])
          all_goals (refine fin_tmp (.inr rfl) ?_; (first | rfl | (simp (disch := omega) only [go_sem, Nat.reduceMul, Nat.reduceSub, Nat.reduceShiftRight, Nat.reduceMod, Nat.reduceEqDiff, Nat.reduceAdd, ↓reduceIte, Nat.reduceLeDiff, *]; done) | (simp [upd, *]; done) | (simp [upd, *]; omega)))
        | some x =>
          rw [hx] at c4
          simp only [optT, zeroT] at c1 c2 c3 c4
          clear hu hf hx
          repeat' (first | ((with_reducible first | refine cond_pos (by omega) ?_ | refine cond_neg (by omega) ?_ | refine guard_pos (by omega) ?_ | refine guard_neg (by omega) ?_ | refine cond_ifn ?_ ?_ | refine cond_waysn ?_ ?_ | refine guard_ifn ?_ ?_ | refine guard_waysn ?_ ?_ | refine cond_if ?_ ?_ | refine cond_ways ?_ ?_ | refine guard_if ?_ ?_ | refine guard_ways ?_ ?_) <;> intro _) | (((with_reducible refine call_id ?_); (first | (refine call_pure (hl) ?_) | (refine call_pure (cG) ?_) | (refine call_pure (c1) ?_) | (refine call_pure (c2) ?_) | (refine call_pure (c3) ?_) | (refine call_pure (c4) ?_)))) | simp (maxSteps := 1000000) (disch := omega) only [go_sem, Nat.reduceAdd, Nat.reduceMul, Nat.reduceSub, Nat.reduceLeDiff, Nat.reduceEqDiff, Nat.reduceBEq, ↓reduceIte, reduceCtorEq, Int.reduceEq, Int.reduceLE, Int.reduceLT, Int.reduceAdd, Int.reduceSub, Int.reduceNeg, Int.reduceToNat, Int.reduceNe, Nat.reducePow, Nat.reduceShiftRight, Nat.reduceMod, mc_law06_BindSteps, *])
          all_goals (refine fin_tmp (.inr rfl) ?_; (first | rfl | (simp (disch := omega) only [go_sem, Nat.reduceMul, Nat.reduceSub, Nat.reduceShiftRight, Nat.reduceMod, Nat.reduceEqDiff, Nat.reduceAdd, ↓reduceIte, Nat.reduceLeDiff, *]; done) | (simp [upd, *]; done) | (simp [upd, *]; omega)))
  | some both =>
    have hlo := steps_loose ho
    have c8 := ref04_Loose_p both
    rw [ho] at c1
    cases hu : liftR b 1 0 with
    | none =>
      rw [hu] at c2
      have c3 := inst_zero t
      have c4 := inst_of_zero a
      simp only [optT, zeroT] at c1 c2
      clear hu ho c5 c6 c7 c8 hlo hbt hba hbb
      repeat' (first | ((with_reducible first | refine cond_pos (by omega) ?_ | refine cond_neg (by omega) ?_ | refine guard_pos (by omega) ?_ | refine guard_neg (by omega) ?_ | refine cond_ifn ?_ ?_ | refine cond_waysn ?_ ?_ | refine guard_ifn ?_ ?_ | refine guard_waysn ?_ ?_ | refine cond_if ?_ ?_ | refine cond_ways ?_ ?_ | refine guard_if ?_ ?_ | refine guard_ways ?_ ?_) <;> intro _) | (((with_reducible refine call_id ?_); (first | (refine call_pure (hl) ?_) | (refine call_pure (cG) ?_) | (refine call_pure (c1) ?_) | (refine call_pure (c2) ?_) | (refine call_pure (c3) ?_) | (refine call_pure (c4) ?_)))) | simp (maxSteps := 1000000) (disch := omega) only [go_sem, Nat.reduceAdd, Nat.reduceMul, Nat.reduceSub, Nat.reduceLeDiff, Nat.reduceEqDiff, Nat.reduceBEq, ↓reduceIte, reduceCtorEq, Int.reduceEq, Int.reduceLE, Int.reduceLT, Int.reduceAdd, Int.reduceSub, Int.reduceNeg, Int.reduceToNat, Int.reduceNe, Nat.reducePow, Nat.reduceShiftRight, Nat.reduceMod, mc_law06_BindSteps, *])
      all_goals (refine fin_tmp (.inr rfl) ?_; (first | rfl | (simp (disch := omega) only [go_sem, Nat.reduceMul, Nat.reduceSub, Nat.reduceShiftRight, Nat.reduceMod, Nat.reduceEqDiff, Nat.reduceAdd, ↓reduceIte, Nat.reduceLeDiff, *]; done) | (simp [upd, *]; done) | (simp [upd, *]; omega)))
    | some up =>
      rw [hu] at c2
      have c3 := bind_Inst_p t [up] (by simp)
      simp only [List.map_cons, List.map_nil] at c3
      cases hf : instR t [up] with
      | none =>
        rw [hf] at c3
        have c4 := inst_of_zero a
        simp only [optT, zeroT] at c1 c2 c3
        clear hu hf ho
        repeat' (first | ((with_reducible first | refine cond_pos (by omega) ?_ | refine cond_neg (by omega) ?_ | refine guard_pos (by omega) ?_ | refine guard_neg (by omega) ?_ | refine cond_ifn ?_ ?_ | refine cond_waysn ?_ ?_ | refine guard_ifn ?_ ?_ | refine guard_waysn ?_ ?_ | refine cond_if ?_ ?_ | refine cond_ways ?_ ?_ | refine guard_if ?_ ?_ | refine guard_ways ?_ ?_) <;> intro _) | (((with_reducible refine call_id ?_); (first | (refine call_pure (hl) ?_) | (refine call_pure (cG) ?_) | (refine call_pure (c1) ?_) | (refine call_pure (c2) ?_) | (refine call_pure (c3) ?_) | (refine call_pure (c4) ?_) | (refine call_pure (c5) ?_) | (refine call_pure (c6) ?_) | (refine call_pure (c7) ?_) | (refine call_pure (c8) ?_)))) | simp (maxSteps := 1000000) (disch := omega) only [go_sem, Nat.reduceAdd, Nat.reduceMul, Nat.reduceSub, Nat.reduceLeDiff, Nat.reduceEqDiff, Nat.reduceBEq, ↓reduceIte, reduceCtorEq, Int.reduceEq, Int.reduceLE, Int.reduceLT, Int.reduceAdd, Int.reduceSub, Int.reduceNeg, Int.reduceToNat, Int.reduceNe, Nat.reducePow, Nat.reduceShiftRight, Nat.reduceMod, mc_law06_BindSteps, *])
        all_goals (refine fin_tmp (.inr rfl) ?_; (first | rfl | (simp (disch := omega) only [go_sem, Nat.reduceMul, Nat.reduceSub, Nat.reduceShiftRight, Nat.reduceMod, Nat.reduceEqDiff, Nat.reduceAdd, ↓reduceIte, Nat.reduceLeDiff, *]; done) | (simp [upd, *]; done) | (simp [upd, *]; omega)))
      | some first =>
        rw [hf] at c3
        have c4 := bind_Inst_p first [a] (by simp)
        simp only [List.map_cons, List.map_nil] at c4
        cases hx : instR first [a] with
        | none =>
          rw [hx] at c4
          simp only [optT, zeroT] at c1 c2 c3 c4
          clear hu hf hx ho
          repeat' (first | ((with_reducible first | refine cond_pos (by omega) ?_ | refine cond_neg (by omega) ?_ | refine guard_pos (by omega) ?_ | refine guard_neg (by omega) ?_ | refine cond_ifn ?_ ?_ | refine cond_waysn ?_ ?_ | refine guard_ifn ?_ ?_ | refine guard_waysn ?_ ?_ | refine cond_if ?_ ?_ | refine cond_ways ?_ ?_ | refine guard_if ?_ ?_ | refine guard_ways ?_ ?_) <;> intro _) | (((with_reducible refine call_id ?_); (first | (refine call_pure (hl) ?_) | (refine call_pure (cG) ?_) | (refine call_pure (c1) ?_) | (refine call_pure (c2) ?_) | (refine call_pure (c3) ?_) | (refine call_pure (c4) ?_) | (refine call_pure (c5) ?_) | (refine call_pure (c6) ?_) | (refine call_pure (c7) ?_) | (refine call_pure (c8) ?_)))) | simp (maxSteps := 1000000) (disch := omega) only [go_sem, Nat.reduceAdd, Nat.reduceMul, Nat.reduceSub, Nat.reduceLeDiff, Nat.reduceEqDiff, Nat.reduceBEq, ↓reduceIte, reduceCtorEq, Int.reduceEq, Int.reduceLE, Int.reduceLT, Int.reduceAdd, Int.reduceSub, Int.reduceNeg, Int.reduceToNat, Int.reduceNe, Nat.reducePow, Nat.reduceShiftRight, Nat.reduceMod, mc_law06_BindSteps, *])
          all_goals (refine fin_tmp (.inr rfl) ?_; (first | rfl | (simp (disch := omega) only [go_sem, Nat.reduceMul, Nat.reduceSub, Nat.reduceShiftRight, Nat.reduceMod, Nat.reduceEqDiff, Nat.reduceAdd, ↓reduceIte, Nat.reduceLeDiff, *]; done) | (simp [upd, *]; done) | (simp [upd, *]; omega)))
        | some x =>
          rw [hx] at c4
          obtain rfl := steps_same ho hu hf hx
          have c9 := same6 both
          simp only [optT, zeroT] at c1 c2 c3 c4
          clear hu hf hx ho
          repeat' (first | ((with_reducible first | refine cond_pos (by omega) ?_ | refine cond_neg (by omega) ?_ | refine guard_pos (by omega) ?_ | refine guard_neg (by omega) ?_ | refine cond_ifn ?_ ?_ | refine cond_waysn ?_ ?_ | refine guard_ifn ?_ ?_ | refine guard_waysn ?_ ?_ | refine cond_if ?_ ?_ | refine cond_ways ?_ ?_ | refine guard_if ?_ ?_ | refine guard_ways ?_ ?_) <;> intro _) | (((with_reducible refine call_id ?_); (first | (refine call_pure (hl) ?_) | (refine call_pure (cG) ?_) | (refine call_pure (c1) ?_) | (refine call_pure (c2) ?_) | (refine call_pure (c3) ?_) | (refine call_pure (c4) ?_) | (refine call_pure (c5) ?_) | (refine call_pure (c6) ?_) | (refine call_pure (c7) ?_) | (refine call_pure (c8) ?_) | (refine call_pure (c9) ?_)))) | simp (maxSteps := 1000000) (disch := omega) only [go_sem, Nat.reduceAdd, Nat.reduceMul, Nat.reduceSub, Nat.reduceLeDiff, Nat.reduceEqDiff, Nat.reduceBEq, ↓reduceIte, reduceCtorEq, Int.reduceEq, Int.reduceLE, Int.reduceLT, Int.reduceAdd, Int.reduceSub, Int.reduceNeg, Int.reduceToNat, Int.reduceNe, Nat.reducePow, Nat.reduceShiftRight, Nat.reduceMod, mc_law06_BindSteps, *])
          all_goals (refine fin_tmp (.inr rfl) ?_; (first | rfl | (simp (disch := omega) only [go_sem, Nat.reduceMul, Nat.reduceSub, Nat.reduceShiftRight, Nat.reduceMod, Nat.reduceEqDiff, Nat.reduceAdd, ↓reduceIte, Nat.reduceLeDiff, *]; done) | (simp [upd, *]; done) | (simp [upd, *]; omega)))
end
end Go.Proofs.Ytfhblaggeahbjaa
