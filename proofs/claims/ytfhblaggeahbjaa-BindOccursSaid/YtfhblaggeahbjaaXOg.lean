/-
  Plain values: ToL, TpA, TqC, TqD.
-/
import Derived.Test.YtfhblaggeahbjaaXOa
import Derived.Test.YtfhblaggeahbjaaXOb
import Derived.Test.YtfhblaggeahbjaaXOc
import Derived.Test.YtfhblaggeahbjaaXOd
import Derived.Test.YtfhblaggeahbjaaXOe
import Derived.Test.YtfhblaggeahbjaaXOf
set_option linter.unusedVariables false
set_option linter.unusedSimpArgs false
namespace Go.Proofs.Ytfhblaggeahbjaa
open Go.RowKit
attribute [local go_sem ↓] c_seq c_region c_cond c_block c_ret c_skip c_exit c_cont t_normal t_ret t_exit b_normal b_ret b_exit run_nil run_cons g_some o_mv o_pick o_bin o_un o_ld o_ldf o_bld o_len o_mkf o_nilc o_fa o_fd o_ia o_iaa o_ix o_ixs o_ext o_al o_bxf o_bxt o_bsl o_bslf o_mks o_st o_stf o_call o_rng o_nxt o_callm o_calvm o_calv cond_true cond_false upd_get sigF_cons o_eqa o_mm o_app o_slc
attribute [local go_sem] num_nil num_cons isP chunks rngV next_is next_iter val_some new_some st_some stf_some guard_tt guard_ff guard_tf guard_ft guard_un calv_fn put_some put_none ev_tmp ev_const ev_func sig_eq sigF_nil q0 q1 nilcV faV fdV iaV iaaV ixV ixsV extV mksV loadP storeP lenPV binPV unPV intBin partsP fillP zeros PV.good PV.cellsOf PV.one q2 q3 q4 q5 q6 q7 q8 q9 q10 q11 q12 q13 q14 q15 q16 q17 q18 q19 q20 q21 q22 q23 q24 q25 q26 q27 q28 q29 q30 q31 q32 q33 q34 q35 q36 q37 q38 wrap64 app_some mmL mmV mm2 eqE eqParts eqInt eqBool eqStr partV q39 q40 pickV q41 q42 q43 q44 q45 q46 q47 q48 q49 appE oldOf rowOf updL q50 q51 q52 q53 zlt ovr_get ite_neN ite_eqN q54 q55 q56 q57 q58 q59 q60 q61 q62 q63 q64 q65 q66 q67 tailP_f tailP_t tailF_f tailF_t slcP bndO capO slcLen intOf Option.isSome_none Option.isNone_none Option.isSome_some Option.isNone_some nilP slc_sl slc_csl slc_osl slc_osl0 slc_ocap slc_str List.append_nil List.length_append resP resPs resP1 PV.sc.injEq Value.bool.injEq Value.int.injEq
section
set_option maxRecDepth 20000
attribute [local go_sem] pv_len pv_take Nat.add_assoc tm_len tm_take pv_one tm_one tpvB_len tpvB_take tpvB_one pvB_len pvB_take pvB_one id_ne id_ne' id_ne2 List.append_assoc tm_take_app tm_drop_app tm_take10 tm_drop10 tm_drop15 tm_drop
theorem constant6_p (s : ByteArray) : PPure Try.prog F.law06_constant [.sc (.string s)] (.agg (conT s).pv) := by
  refine pure_by is_law06_constant (by simp) (by simp [PV.imm, tm_imm]) fun hb nx => ?_
  repeat' (first | ((with_reducible first | refine cond_pos (by omega) ?_ | refine cond_neg (by omega) ?_ | refine guard_pos (by omega) ?_ | refine guard_neg (by omega) ?_ | refine cond_ifn ?_ ?_ | refine cond_waysn ?_ ?_ | refine guard_ifn ?_ ?_ | refine guard_waysn ?_ ?_ | refine cond_if ?_ ?_ | refine cond_ways ?_ ?_ | refine guard_if ?_ ?_ | refine guard_ways ?_ ?_) <;> intro _) | simp (maxSteps := 1000000) (disch := omega) only [go_sem, Nat.reduceAdd, Nat.reduceMul, Nat.reduceSub, Nat.reduceLeDiff, Nat.reduceEqDiff, Nat.reduceBEq, ↓reduceIte, reduceCtorEq, Int.reduceEq, Int.reduceLE, Int.reduceLT, Int.reduceAdd, Int.reduceSub, Int.reduceNeg, Int.reduceToNat, Int.reduceNe, Nat.reducePow, Nat.reduceShiftRight, Nat.reduceMod, mc_law06_constant, *])
  refine fin_ret (r0 := .agg [.sc (.int .i64 3), .sc (.int .i64 0), .sc (.string s), .sc (.slice none 0 0), .sc (.slice none 0 0)]) 2 (by (simp (disch := omega) only [go_sem, Nat.reduceMul, Nat.reduceSub, Nat.reduceShiftRight, Nat.reduceMod, Nat.reduceEqDiff, Nat.reduceAdd, ↓reduceIte, Nat.reduceLeDiff, *]); all_goals rfl) ?_
  rw [frz_agg1]
  simp only [List.map_cons, List.map_nil, frz_sc1, Tm.pv, conT]
  exact Weak.agg ⟨.refl _, .refl _, .refl _, .nil 3, .nil 5, trivial⟩
theorem variable6_p (n : Int) : PPure Try.prog F.law06_variable [.sc (.int .i64 n)] (.agg (varT n).pv) := by
  refine pure_by is_law06_variable (by simp) (by simp [PV.imm, tm_imm]) fun hb nx => ?_
  repeat' (first | ((with_reducible first | refine cond_pos (by omega) ?_ | refine cond_neg (by omega) ?_ | refine guard_pos (by omega) ?_ | refine guard_neg (by omega) ?_ | refine cond_ifn ?_ ?_ | refine cond_waysn ?_ ?_ | refine guard_ifn ?_ ?_ | refine guard_waysn ?_ ?_ | refine cond_if ?_ ?_ | refine cond_ways ?_ ?_ | refine guard_if ?_ ?_ | refine guard_ways ?_ ?_) <;> intro _) | simp (maxSteps := 1000000) (disch := omega) only [go_sem, Nat.reduceAdd, Nat.reduceMul, Nat.reduceSub, Nat.reduceLeDiff, Nat.reduceEqDiff, Nat.reduceBEq, ↓reduceIte, reduceCtorEq, Int.reduceEq, Int.reduceLE, Int.reduceLT, Int.reduceAdd, Int.reduceSub, Int.reduceNeg, Int.reduceToNat, Int.reduceNe, Nat.reducePow, Nat.reduceShiftRight, Nat.reduceMod, mc_law06_variable, *])
  refine fin_ret (r0 := .agg [.sc (.int .i64 1), .sc (.int .i64 n), .sc (.string ⟨#[]⟩), .sc (.slice none 0 0), .sc (.slice none 0 0)]) 2 (by (simp (disch := omega) only [go_sem, Nat.reduceMul, Nat.reduceSub, Nat.reduceShiftRight, Nat.reduceMod, Nat.reduceEqDiff, Nat.reduceAdd, ↓reduceIte, Nat.reduceLeDiff, *]); all_goals rfl) ?_
  rw [frz_agg1]
  simp only [List.map_cons, List.map_nil, frz_sc1, Tm.pv, varT]
  exact Weak.agg ⟨.refl _, .refl _, .refl _, .nil 3, .nil 5, trivial⟩
def app6 (x y : Tm) : Tm := .mk 4 0 emp [] [x, y]
def lam6 (x y : Tm) : Tm := .mk 5 0 emp [] [x, y]
theorem app6_p (x y : Tm) : PPure Try.prog F.law06_app [.agg x.pv, .agg y.pv] (.agg (app6 x y).pv) := by
  refine pure_by is_law06_app (by simp) (by simp [PV.imm, tm_imm]) fun hb nx => ?_
  repeat' (first | ((with_reducible first | refine cond_pos (by omega) ?_ | refine cond_neg (by omega) ?_ | refine guard_pos (by omega) ?_ | refine guard_neg (by omega) ?_ | refine cond_ifn ?_ ?_ | refine cond_waysn ?_ ?_ | refine guard_ifn ?_ ?_ | refine guard_waysn ?_ ?_ | refine cond_if ?_ ?_ | refine cond_ways ?_ ?_ | refine guard_if ?_ ?_ | refine guard_ways ?_ ?_) <;> intro _) | simp (maxSteps := 1000000) (disch := omega) only [go_sem, Nat.reduceAdd, Nat.reduceMul, Nat.reduceSub, Nat.reduceLeDiff, Nat.reduceEqDiff, Nat.reduceBEq, ↓reduceIte, reduceCtorEq, Int.reduceEq, Int.reduceLE, Int.reduceLT, Int.reduceAdd, Int.reduceSub, Int.reduceNeg, Int.reduceToNat, Int.reduceNe, Nat.reducePow, Nat.reduceShiftRight, Nat.reduceMod, mc_law06_app, *])
  refine fin_ret (r0 := .agg [.sc (.int .i64 4), .sc (.int .i64 0), .sc (.string ⟨#[]⟩), .sc (.slice none 0 0), .sl 5 [x.pv, y.pv]]) 2 (by (simp (disch := omega) only [go_sem, Nat.reduceMul, Nat.reduceSub, Nat.reduceShiftRight, Nat.reduceMod, Nat.reduceEqDiff, Nat.reduceAdd, ↓reduceIte, Nat.reduceLeDiff, *]); all_goals rfl) ?_
  rw [frz_agg1]
  simp only [List.map_cons, List.map_nil, frz_sc1, frz_sl, Tm.pv, app6]
  exact Weak.agg ⟨.refl _, .refl _, .refl _, .nil 3, .refl _, trivial⟩
theorem lam6_p (x y : Tm) : PPure Try.prog F.law06_lam [.agg x.pv, .agg y.pv] (.agg (lam6 x y).pv) := by
  refine pure_by is_law06_lam (by simp) (by simp [PV.imm, tm_imm]) fun hb nx => ?_
  repeat' (first | ((with_reducible first | refine cond_pos (by omega) ?_ | refine cond_neg (by omega) ?_ | refine guard_pos (by omega) ?_ | refine guard_neg (by omega) ?_ | refine cond_ifn ?_ ?_ | refine cond_waysn ?_ ?_ | refine guard_ifn ?_ ?_ | refine guard_waysn ?_ ?_ | refine cond_if ?_ ?_ | refine cond_ways ?_ ?_ | refine guard_if ?_ ?_ | refine guard_ways ?_ ?_) <;> intro _) | simp (maxSteps := 1000000) (disch := omega) only [go_sem, Nat.reduceAdd, Nat.reduceMul, Nat.reduceSub, Nat.reduceLeDiff, Nat.reduceEqDiff, Nat.reduceBEq, ↓reduceIte, reduceCtorEq, Int.reduceEq, Int.reduceLE, Int.reduceLT, Int.reduceAdd, Int.reduceSub, Int.reduceNeg, Int.reduceToNat, Int.reduceNe, Nat.reducePow, Nat.reduceShiftRight, Nat.reduceMod, mc_law06_lam, *])
  refine fin_ret (r0 := .agg [.sc (.int .i64 5), .sc (.int .i64 0), .sc (.string ⟨#[]⟩), .sc (.slice none 0 0), .sl 5 [x.pv, y.pv]]) 2 (by (simp (disch := omega) only [go_sem, Nat.reduceMul, Nat.reduceSub, Nat.reduceShiftRight, Nat.reduceMod, Nat.reduceEqDiff, Nat.reduceAdd, ↓reduceIte, Nat.reduceLeDiff, *]); all_goals rfl) ?_
  rw [frz_agg1]
  simp only [List.map_cons, List.map_nil, frz_sc1, frz_sl, Tm.pv, lam6]
  exact Weak.agg ⟨.refl _, .refl _, .refl _, .nil 3, .refl _, trivial⟩
def A6 : Tm := conT bA
def B6 : Tm := conT bB
def W0 : Tm := varT 0
def W1 : Tm := varT 1
def W3 : Tm := varT 3
def W4 : Tm := varT 4
def W10 : Tm := app6 W1 W0
def AB6 : Tm := app6 A6 B6
def W01 : Tm := app6 W0 W1
def Z6 : Tm := lam6 W0 W01
def W04 : Tm := app6 W0 W4
def Y6 : Tm := lam6 W3 W04
def AA6 : Tm := lam6 A6 A6
def R6 : Tm := lam6 W0 W1
theorem e6_r1 : W10.right 4 1125899906842624 = true := by simp [Tm.right, Tm.formed, formedA, hasB, constB, headR, Lv.right, Lv.formed, formedL, Lv.nodes, nodesL, Tm.nodes, nodesT, deepB, noS_emp, nb_A, nb_B, W10, app6, W1, W0, varT]
theorem e6_r2 : A6.right 4 1125899906842624 = true := by simp [Tm.right, Tm.formed, formedA, hasB, constB, headR, Lv.right, Lv.formed, formedL, Lv.nodes, nodesL, Tm.nodes, nodesT, deepB, noS_emp, nb_A, nb_B, A6, conT]
theorem e6_r3 : B6.right 4 1125899906842624 = true := by simp [Tm.right, Tm.formed, formedA, hasB, constB, headR, Lv.right, Lv.formed, formedL, Lv.nodes, nodesL, Tm.nodes, nodesT, deepB, noS_emp, nb_A, nb_B, B6, conT]
theorem e6_r4 : AB6.right 4 1125899906842624 = true := by simp [Tm.right, Tm.formed, formedA, hasB, constB, headR, Lv.right, Lv.formed, formedL, Lv.nodes, nodesL, Tm.nodes, nodesT, deepB, noS_emp, nb_A, nb_B, AB6, app6, A6, B6, conT]
theorem e6_r5 : Z6.right 4 1125899906842624 = true := by simp [Tm.right, Tm.formed, formedA, hasB, constB, headR, Lv.right, Lv.formed, formedL, Lv.nodes, nodesL, Tm.nodes, nodesT, deepB, noS_emp, nb_A, nb_B, Z6, W01, lam6, app6, W1, W0, varT]
theorem e6_r6 : W3.right 4 1125899906842624 = true := by simp [Tm.right, Tm.formed, formedA, hasB, constB, headR, Lv.right, Lv.formed, formedL, Lv.nodes, nodesL, Tm.nodes, nodesT, deepB, noS_emp, nb_A, nb_B, W3, varT]
theorem e6_r7 : W1.right 4 1125899906842624 = true := by simp [Tm.right, Tm.formed, formedA, hasB, constB, headR, Lv.right, Lv.formed, formedL, Lv.nodes, nodesL, Tm.nodes, nodesT, deepB, noS_emp, nb_A, nb_B, W1, varT]
theorem e6_r8 : AA6.right 4 1125899906842624 = true := by simp [Tm.right, Tm.formed, formedA, hasB, constB, headR, Lv.right, Lv.formed, formedL, Lv.nodes, nodesL, Tm.nodes, nodesT, deepB, noS_emp, nb_A, nb_B, AA6, lam6, A6, conT]
theorem e6_r9 : W0.right 4 1125899906842624 = true := by simp [Tm.right, Tm.formed, formedA, hasB, constB, headR, Lv.right, Lv.formed, formedL, Lv.nodes, nodesL, Tm.nodes, nodesT, deepB, noS_emp, nb_A, nb_B, W0, varT]
theorem e6_r10 : Y6.right 4 1125899906842624 = true := by simp [Tm.right, Tm.formed, formedA, hasB, constB, headR, Lv.right, Lv.formed, formedL, Lv.nodes, nodesL, Tm.nodes, nodesT, deepB, noS_emp, nb_A, nb_B, Y6, W04, lam6, app6, W3, W4, W0, varT]
theorem bAB : bA ≠ bB := by decide
theorem e6_inst : instR W10 [A6, B6] = some AB6 := by
  unfold instR
  rw [if_pos ⟨e6_r1, by simp [e6_r2, e6_r3]⟩]
  rfl
theorem e6_abs : absR AB6 [bA, bB] = some W10 := by
  unfold absR
  rw [if_pos e6_r4]
  have : AB6.fill (absL [bA, bB]) 0 = some W10 := by
    simp [AB6, app6, A6, B6, conT, Tm.fill, fillA, absL, firstAt, bAB, Tm.lift, liftA, varT, W10, W1, W0, deepB]
  rw [this]
  show (if W10.nodes ≤ 2000 then some W10 else none) = some W10
  exact if_pos (by decide)
theorem e6_lift : liftR Z6 3 0 = some Y6 := by
  unfold liftR
  rw [if_pos ⟨by decide, by decide, by decide, by decide, e6_r5⟩]
  simp [Z6, W01, lam6, app6, W1, W0, varT, Tm.lift, liftA, deepB, Y6, W04, W3, W4]
theorem e6_low : lowR W3 2 = some W1 := by
  unfold lowR
  rw [if_pos ⟨by decide, by decide, e6_r6⟩]
  rfl
theorem e6_low2 : lowR W1 2 = none := by
  unfold lowR
  rw [if_pos ⟨by decide, by decide, e6_r7⟩]
  rfl
theorem e6_repl : replR AA6 bA W0 = some R6 := by
  unfold replR
  rw [if_pos ⟨e6_r8, e6_r9⟩]
  have : AA6.fill (swapL bA W0) 0 = some R6 := by
    simp [AA6, lam6, A6, conT, Tm.fill, fillA, swapL, Tm.lift, liftA, varT, W0, W1, R6, deepB]
  rw [this]
  show (if R6.nodes ≤ 2000 then some R6 else none) = some R6
  exact if_pos (by decide)
theorem e6_count : countR Y6 3 = 2 := by
  unfold countR
  rw [if_pos ⟨by decide, e6_r10⟩]
  simp [Y6, W04, lam6, app6, W3, W4, W0, varT, Tm.cnt, cntA, varL, deepB]
theorem e6_occ : occR AB6 bA = true := by
  unfold occR
  rw [e6_r4]
  simp [AB6, app6, A6, B6, conT, Tm.cnt, cntA, conL, bAB.symm]
theorem e6_occ2 : occR AB6 ⟨#[99]⟩ = false := by
  unfold occR
  rw [e6_r4]
  simp [AB6, app6, A6, B6, conT, Tm.cnt, cntA, conL, bA, bB]
theorem same6 (x : Tm) : PPure Try.prog F.ref00_SameTerm [.agg x.pv, .agg x.pv] (.sc (.bool true)) := by
  have := SameTerm_p x.size x x (Nat.le_refl _)
  rwa [(tsame_iff x x).2 rfl] at this
set_option maxHeartbeats 8000000 in
theorem alive6_p : PPure Try.prog F.law06_alive [] (.sc (.bool true)) := by
  have c1 : PPure Try.prog F.law06_constant [.sc (.string ⟨#[97]⟩)] (.agg A6.pv) := constant6_p bA
  have c2 : PPure Try.prog F.law06_constant [.sc (.string ⟨#[98]⟩)] (.agg B6.pv) := constant6_p bB
  have c3 : PPure Try.prog F.law06_variable [.sc (.int .i64 0)] (.agg W0.pv) := variable6_p 0
  have c4 : PPure Try.prog F.law06_variable [.sc (.int .i64 1)] (.agg W1.pv) := variable6_p 1
  have c5 : PPure Try.prog F.law06_variable [.sc (.int .i64 3)] (.agg W3.pv) := variable6_p 3
  have c6 : PPure Try.prog F.law06_variable [.sc (.int .i64 4)] (.agg W4.pv) := variable6_p 4
  have c7 : PPure Try.prog F.law06_app [.agg W1.pv, .agg W0.pv] (.agg W10.pv) := app6_p W1 W0
  have c8 : PPure Try.prog F.law06_app [.agg A6.pv, .agg B6.pv] (.agg AB6.pv) := app6_p A6 B6
  have c9 : PPure Try.prog F.law06_app [.agg W0.pv, .agg W1.pv] (.agg W01.pv) := app6_p W0 W1
  have c10 : PPure Try.prog F.law06_app [.agg W0.pv, .agg W4.pv] (.agg W04.pv) := app6_p W0 W4
  have c11 : PPure Try.prog F.law06_lam [.agg W0.pv, .agg W01.pv] (.agg Z6.pv) := lam6_p W0 W01
  have c12 : PPure Try.prog F.law06_lam [.agg W3.pv, .agg W04.pv] (.agg Y6.pv) := lam6_p W3 W04
  have c13 : PPure Try.prog F.law06_lam [.agg A6.pv, .agg A6.pv] (.agg AA6.pv) := lam6_p A6 A6
  have c14 : PPure Try.prog F.law06_lam [.agg W0.pv, .agg W1.pv] (.agg R6.pv) := lam6_p W0 W1
  have c15 : PPure Try.prog F.bind_Inst [.agg W10.pv, .sl 5 [A6.pv, B6.pv]] (.tup [.agg AB6.pv, .sc (.bool true)]) := by
    have := bind_Inst_p W10 [A6, B6] (by decide)
    rw [e6_inst] at this
    exact this
  have c16 : PPure Try.prog F.bind_Abstract [.agg AB6.pv, .sl 1 [[.sc (.string ⟨#[97]⟩)], [.sc (.string ⟨#[98]⟩)]]] (.tup [.agg W10.pv, .sc (.bool true)]) := by
    have := bind_Abstract_p AB6 [bA, bB] (by decide)
    rw [e6_abs] at this
    exact this
  have c17 : PPure Try.prog F.bind_Lift [.agg Z6.pv, .sc (.int .i64 3), .sc (.int .i64 0)] (.tup [.agg Y6.pv, .sc (.bool true)]) := by
    have := bind_Lift_p Z6 3 0
    rw [e6_lift] at this
    exact this
  have c18 : PPure Try.prog F.bind_Lower [.agg W3.pv, .sc (.int .i64 2)] (.tup [.agg [.sc (.int .i64 1), .sc (.int .i64 1), .sc (.string ⟨#[]⟩), .sl 3 [], .sl 5 []], .sc (.bool true)]) := by
    have := bind_Lower_p W3 2
    rw [e6_low] at this
    have e : W1.pv = [.sc (.int .i64 1), .sc (.int .i64 1), .sc (.string ⟨#[]⟩), .sl 3 [], .sl 5 []] := by simp [W1, varT, Tm.pv]
    simp only [optT, e] at this
    exact this
  have c19 : PPure Try.prog F.bind_Lower [.agg W1.pv, .sc (.int .i64 2)] (.tup [.agg [.sc (.int .i64 0), .sc (.int .i64 0), .sc (.string ⟨#[]⟩), .sc (.slice none 0 0), .sc (.slice none 0 0)], .sc (.bool false)]) := by
    have := bind_Lower_p W1 2
    rw [e6_low2] at this
    exact this
  have c20 : PPure Try.prog F.bind_Replace [.agg AA6.pv, .sc (.string ⟨#[97]⟩), .agg W0.pv] (.tup [.agg R6.pv, .sc (.bool true)]) := by
    have := bind_Replace_p AA6 bA W0
    rw [e6_repl] at this
    exact this
  have c21 : PPure Try.prog F.bind_Uses [.agg Y6.pv, .sc (.int .i64 3)] (.sc (.bool true)) := by
    have := bind_Uses_p Y6 3
    rw [e6_count] at this
    exact this
  have c22 : PPure Try.prog F.bind_Count [.agg Y6.pv, .sc (.int .i64 3)] (.sc (.int .i64 2)) := by
    have := bind_Count_p Y6 3
    rw [e6_count] at this
    exact this
  have c23 : PPure Try.prog F.bind_Occurs [.agg AB6.pv, .sc (.string ⟨#[97]⟩)] (.sc (.bool true)) := by
    have := bind_Occurs_p AB6 bA
    rw [e6_occ] at this
    exact this
  have c24 : PPure Try.prog F.bind_Occurs [.agg AB6.pv, .sc (.string ⟨#[99]⟩)] (.sc (.bool false)) := by
    have := bind_Occurs_p AB6 ⟨#[99]⟩
    rw [e6_occ2] at this
    exact this
  refine pure_by is_law06_alive (by simp) rfl fun hb nx => ?_
  clear hb
  repeat' (first | ((with_reducible first | refine cond_pos (by omega) ?_ | refine cond_neg (by omega) ?_ | refine guard_pos (by omega) ?_ | refine guard_neg (by omega) ?_ | refine cond_ifn ?_ ?_ | refine cond_waysn ?_ ?_ | refine guard_ifn ?_ ?_ | refine guard_waysn ?_ ?_ | refine cond_if ?_ ?_ | refine cond_ways ?_ ?_ | refine guard_if ?_ ?_ | refine guard_ways ?_ ?_) <;> intro _) | (((with_reducible refine call_id ?_); (first | (refine call_pure (c1) ?_) | (refine call_pure (c2) ?_) | (refine call_pure (c3) ?_) | (refine call_pure (c4) ?_) | (refine call_pure (c5) ?_) | (refine call_pure (c6) ?_) | (refine call_pure (c7) ?_) | (refine call_pure (c8) ?_) | (refine call_pure (c9) ?_) | (refine call_pure (c10) ?_) | (refine call_pure (c11) ?_) | (refine call_pure (c12) ?_) | (refine call_pure (c13) ?_) | (refine call_pure (c14) ?_) | (refine call_pure (c15) ?_) | (refine call_pure (c16) ?_) | (refine call_pure (c17) ?_) | (refine call_pure (c18) ?_) | (refine call_pure (c19) ?_) | (refine call_pure (c20) ?_) | (refine call_pure (c21) ?_) | (refine call_pure (c22) ?_) | (refine call_pure (c23) ?_) | (refine call_pure (c24) ?_) | (refine call_pure (same6 AB6) ?_) | (refine call_pure (same6 W10) ?_) | (refine call_pure (same6 Y6) ?_) | (refine call_pure (same6 R6) ?_)))) | simp (maxSteps := 1000000) (disch := omega) only [go_sem, Nat.reduceAdd, Nat.reduceMul, Nat.reduceSub, Nat.reduceLeDiff, Nat.reduceEqDiff, Nat.reduceBEq, ↓reduceIte, reduceCtorEq, Int.reduceEq, Int.reduceLE, Int.reduceLT, Int.reduceAdd, Int.reduceSub, Int.reduceNeg, Int.reduceToNat, Int.reduceNe, Nat.reducePow, Nat.reduceShiftRight, Nat.reduceMod, mc_law06_alive, strBin, beq_self_eq_true, *])
  all_goals (refine fin_tmp (.inr rfl) ?_; simp [upd])
def minsT (xs : List Tm) : Nat := (xs.map fun x => min x.mass 2501).sum
theorem minsT_take (xs : List Tm) (i : Nat) (h : i < xs.length) : minsT (xs.take (i + 1)) = minsT (xs.take i) + min xs[i].mass 2501 := by
  unfold minsT
  rw [List.take_succ_eq_append_getElem h, List.map_append, List.sum_append]
  simp
theorem minsT_take_le (xs : List Tm) (i : Nat) : minsT (xs.take i) ≤ minsT xs := by
  have : minsT xs = minsT (xs.take i) + minsT (xs.drop i) := by
    unfold minsT
    rw [← List.sum_append, ← List.map_append, List.take_append_drop]
  omega
def great6 (t : Tm) (xs : List Tm) : Bool := decide (20 < xs.length ∨ 2500 < t.mass ∨ 4000 < minsT xs)
set_option maxHeartbeats 16000000 in
theorem great6_p (t : Tm) (ht : t.fits) (xs : List Tm) (hx : ∀ x ∈ xs, x.fits) : PPure Try.prog F.law06_great [.agg t.pv, .sl 5 (xs.map Tm.pv)] (.sc (.bool (great6 t xs))) := by
  refine pure_by is_law06_great (by simp) rfl fun hb nx => ?_
  have hb0 : xs.length ≤ 9223372036854775807 := by simp [bndL, PV.bnd] at hb; exact hb.2.1
  clear hb
  have cG := Great_p t ht
  by_cases h1 : 20 < xs.length
  · have e : great6 t xs = true := decide_eq_true (.inl h1)
    rw [e]
    clear e
    repeat' (first | ((with_reducible first | refine cond_pos (by omega) ?_ | refine cond_neg (by omega) ?_ | refine guard_pos (by omega) ?_ | refine guard_neg (by omega) ?_ | refine cond_ifn ?_ ?_ | refine cond_waysn ?_ ?_ | refine guard_ifn ?_ ?_ | refine guard_waysn ?_ ?_ | refine cond_if ?_ ?_ | refine cond_ways ?_ ?_ | refine guard_if ?_ ?_ | refine guard_ways ?_ ?_) <;> intro _) | (((with_reducible refine call_id ?_); (first | (refine call_pure (cG) ?_)))) | simp (maxSteps := 1000000) (disch := omega) only [go_sem, Nat.reduceAdd, Nat.reduceMul, Nat.reduceSub, Nat.reduceLeDiff, Nat.reduceEqDiff, Nat.reduceBEq, ↓reduceIte, reduceCtorEq, Int.reduceEq, Int.reduceLE, Int.reduceLT, Int.reduceAdd, Int.reduceSub, Int.reduceNeg, Int.reduceToNat, Int.reduceNe, Nat.reducePow, Nat.reduceShiftRight, Nat.reduceMod, mc_law06_great, *])
    all_goals (refine fin_tmp (.inr rfl) ?_; (first | rfl | (simp (disch := omega) only [go_sem, Nat.reduceMul, Nat.reduceSub, Nat.reduceShiftRight, Nat.reduceMod, Nat.reduceEqDiff, Nat.reduceAdd, ↓reduceIte, Nat.reduceLeDiff, *]; done) | (simp [upd, *]; done) | (simp [upd, *]; omega)))
  by_cases h2 : 2500 < t.mass
  · have e : great6 t xs = true := decide_eq_true (.inr (.inl h2))
    rw [decide_eq_true h2] at cG
    rw [e]
    clear e
    repeat' (first | ((with_reducible first | refine cond_pos (by omega) ?_ | refine cond_neg (by omega) ?_ | refine guard_pos (by omega) ?_ | refine guard_neg (by omega) ?_ | refine cond_ifn ?_ ?_ | refine cond_waysn ?_ ?_ | refine guard_ifn ?_ ?_ | refine guard_waysn ?_ ?_ | refine cond_if ?_ ?_ | refine cond_ways ?_ ?_ | refine guard_if ?_ ?_ | refine guard_ways ?_ ?_) <;> intro _) | (((with_reducible refine call_id ?_); (first | (refine call_pure (cG) ?_)))) | simp (maxSteps := 1000000) (disch := omega) only [go_sem, Nat.reduceAdd, Nat.reduceMul, Nat.reduceSub, Nat.reduceLeDiff, Nat.reduceEqDiff, Nat.reduceBEq, ↓reduceIte, reduceCtorEq, Int.reduceEq, Int.reduceLE, Int.reduceLT, Int.reduceAdd, Int.reduceSub, Int.reduceNeg, Int.reduceToNat, Int.reduceNe, Nat.reducePow, Nat.reduceShiftRight, Nat.reduceMod, mc_law06_great, *])
    all_goals (refine fin_tmp (.inr rfl) ?_; (first | rfl | (simp (disch := omega) only [go_sem, Nat.reduceMul, Nat.reduceSub, Nat.reduceShiftRight, Nat.reduceMod, Nat.reduceEqDiff, Nat.reduceAdd, ↓reduceIte, Nat.reduceLeDiff, *]; done) | (simp [upd, *]; done) | (simp [upd, *]; omega)))
  rw [decide_eq_false h2] at cG
  have hxk := Kept.mk fun i (h : i < xs.length) => hx _ (List.getElem_mem h)
  clear hx
  repeat' (first | ((with_reducible first | refine cond_pos (by omega) ?_ | refine cond_neg (by omega) ?_ | refine guard_pos (by omega) ?_ | refine guard_neg (by omega) ?_ | refine cond_ifn ?_ ?_ | refine cond_waysn ?_ ?_ | refine guard_ifn ?_ ?_ | refine guard_waysn ?_ ?_ | refine cond_if ?_ ?_ | refine cond_ways ?_ ?_ | refine guard_if ?_ ?_ | refine guard_ways ?_ ?_) <;> intro _) | (((with_reducible refine call_id ?_); (first | (refine call_pure (cG) ?_)))) | simp (maxSteps := 1000000) (disch := omega) only [go_sem, Nat.reduceAdd, Nat.reduceMul, Nat.reduceSub, Nat.reduceLeDiff, Nat.reduceEqDiff, Nat.reduceBEq, ↓reduceIte, reduceCtorEq, Int.reduceEq, Int.reduceLE, Int.reduceLT, Int.reduceAdd, Int.reduceSub, Int.reduceNeg, Int.reduceToNat, Int.reduceNe, Nat.reducePow, Nat.reduceShiftRight, Nat.reduceMod, mc_law06_great, *])
  clear cG
  refine c_loopW 536854640 (by kernel_rfl) (fun j f H m => ∃ (i v : Nat), j = xs.length - i ∧ i ≤ xs.length ∧ f 6 = .sc (.int .i64 i) ∧ f 5 = .sc (.int .i64 v) ∧ v ≤ 4000 ∧ Kept (v = minsT (xs.take i))) _ ⟨0, 0, rfl, Nat.zero_le _, (by first | assumption | omega | rfl | (simp (disch := omega) only [go_sem, Nat.reduceMul, Nat.reduceSub, Nat.reduceShiftRight, Nat.reduceMod, Nat.reduceEqDiff, Nat.reduceAdd, ↓reduceIte, Nat.reduceLeDiff, *] <;> omega)), (by first | assumption | omega | rfl | (simp (disch := omega) only [go_sem, Nat.reduceMul, Nat.reduceSub, Nat.reduceShiftRight, Nat.reduceMod, Nat.reduceEqDiff, Nat.reduceAdd, ↓reduceIte, Nat.reduceLeDiff, *] <;> omega)), by omega, Kept.mk rfl⟩ ?_
  rintro _ f H m ⟨i, v, rfl, hi, e6, e5, hv, hvk⟩
  by_cases hlt : i < xs.length
  · have eg : xs[i]? = some xs[i] := List.getElem?_eq_getElem hlt
    have c1 := Mass_p 2500 (by omega) xs[i].size xs[i] (Nat.le_refl _) (hxk.out i hlt)
    have hst := minsT_take xs i hlt
    have hle := minsT_take_le xs (i + 1)
    have hvk2 : Kept (v + min xs[i].mass 2501 = minsT (xs.take (i + 1))) := Kept.mk (by have := hvk.out; omega)
    by_cases hgt : 4000 < v + min xs[i].mass 2501
    · have e : great6 t xs = true := decide_eq_true (.inr (.inr (by have := hvk2.out; omega)))
      rw [e]
      clear e hst hle hvk hvk2
      repeat' (first | ((with_reducible first | refine cond_pos (by omega) ?_ | refine cond_neg (by omega) ?_ | refine guard_pos (by omega) ?_ | refine guard_neg (by omega) ?_ | refine cond_ifn ?_ ?_ | refine cond_waysn ?_ ?_ | refine guard_ifn ?_ ?_ | refine guard_waysn ?_ ?_ | refine cond_if ?_ ?_ | refine cond_ways ?_ ?_ | refine guard_if ?_ ?_ | refine guard_ways ?_ ?_) <;> intro _) | (((with_reducible refine call_id ?_); (first | (refine call_pure (c1) ?_)))) | simp (maxSteps := 1000000) (disch := omega) only [go_sem, Nat.reduceAdd, Nat.reduceMul, Nat.reduceSub, Nat.reduceLeDiff, Nat.reduceEqDiff, Nat.reduceBEq, ↓reduceIte, reduceCtorEq, Int.reduceEq, Int.reduceLE, Int.reduceLT, Int.reduceAdd, Int.reduceSub, Int.reduceNeg, Int.reduceToNat, Int.reduceNe, Nat.reducePow, Nat.reduceShiftRight, Nat.reduceMod, *])
      all_goals (refine fin_tmp (.inr rfl) ?_; (first | rfl | (simp (disch := omega) only [go_sem, Nat.reduceMul, Nat.reduceSub, Nat.reduceShiftRight, Nat.reduceMod, Nat.reduceEqDiff, Nat.reduceAdd, ↓reduceIte, Nat.reduceLeDiff, *]; done) | (simp [upd, *]; done) | (simp [upd, *]; omega)))
    · clear hst hle hvk
      repeat' (first | ((with_reducible first | refine cond_pos (by omega) ?_ | refine cond_neg (by omega) ?_ | refine guard_pos (by omega) ?_ | refine guard_neg (by omega) ?_ | refine cond_ifn ?_ ?_ | refine cond_waysn ?_ ?_ | refine guard_ifn ?_ ?_ | refine guard_waysn ?_ ?_ | refine cond_if ?_ ?_ | refine cond_ways ?_ ?_ | refine guard_if ?_ ?_ | refine guard_ways ?_ ?_) <;> intro _) | (((with_reducible refine call_id ?_); (first | (refine call_pure (c1) ?_)))) | simp (maxSteps := 1000000) (disch := omega) only [go_sem, Nat.reduceAdd, Nat.reduceMul, Nat.reduceSub, Nat.reduceLeDiff, Nat.reduceEqDiff, Nat.reduceBEq, ↓reduceIte, reduceCtorEq, Int.reduceEq, Int.reduceLE, Int.reduceLT, Int.reduceAdd, Int.reduceSub, Int.reduceNeg, Int.reduceToNat, Int.reduceNe, Nat.reducePow, Nat.reduceShiftRight, Nat.reduceMod, *])
      exact Nx.mk (xs.length - (i + 1)) (by first | assumption | omega | rfl | (simp (disch := omega) only [go_sem, Nat.reduceMul, Nat.reduceSub, Nat.reduceShiftRight, Nat.reduceMod, Nat.reduceEqDiff, Nat.reduceAdd, ↓reduceIte, Nat.reduceLeDiff, *] <;> omega)) ⟨i + 1, v + min xs[i].mass 2501, rfl, (by first | assumption | omega | rfl | (simp (disch := omega) only [go_sem, Nat.reduceMul, Nat.reduceSub, Nat.reduceShiftRight, Nat.reduceMod, Nat.reduceEqDiff, Nat.reduceAdd, ↓reduceIte, Nat.reduceLeDiff, *] <;> omega)), by simp [upd], by simp [upd], by omega, hvk2⟩
  · obtain rfl : i = xs.length := by omega
    have hv2 := hvk.out
    rw [List.take_length] at hv2
    have e : great6 t xs = false := decide_eq_false (by omega)
    rw [e]
    clear e hv2 hvk
    repeat' (first | ((with_reducible first | refine cond_pos (by omega) ?_ | refine cond_neg (by omega) ?_ | refine guard_pos (by omega) ?_ | refine guard_neg (by omega) ?_ | refine cond_ifn ?_ ?_ | refine cond_waysn ?_ ?_ | refine guard_ifn ?_ ?_ | refine guard_waysn ?_ ?_ | refine cond_if ?_ ?_ | refine cond_ways ?_ ?_ | refine guard_if ?_ ?_ | refine guard_ways ?_ ?_) <;> intro _) | simp (maxSteps := 1000000) (disch := omega) only [go_sem, Nat.reduceAdd, Nat.reduceMul, Nat.reduceSub, Nat.reduceLeDiff, Nat.reduceEqDiff, Nat.reduceBEq, ↓reduceIte, reduceCtorEq, Int.reduceEq, Int.reduceLE, Int.reduceLT, Int.reduceAdd, Int.reduceSub, Int.reduceNeg, Int.reduceToNat, Int.reduceNe, Nat.reducePow, Nat.reduceShiftRight, Nat.reduceMod, *])
    all_goals (refine fin_tmp (.inr rfl) ?_; (first | rfl | (simp (disch := omega) only [go_sem, Nat.reduceMul, Nat.reduceSub, Nat.reduceShiftRight, Nat.reduceMod, Nat.reduceEqDiff, Nat.reduceAdd, ↓reduceIte, Nat.reduceLeDiff, *]; done) | (simp [upd, *]; done) | (simp [upd, *]; omega)))
theorem lvldA_take (name : ByteArray) : ∀ (xs : List Tm) (i : Nat) (h : i < xs.length), lvldA name (xs.take (i + 1)) = (lvldA name (xs.take i) || xs[i].lvld name)
  | x :: r, 0, h => by simp [lvldA]
  | x :: r, i + 1, h => by
    have := lvldA_take name r i (by simpa using h)
    simp only [List.take_succ_cons, lvldA, List.getElem_cons_succ, this, Bool.or_assoc]
theorem lvldA_mem (name : ByteArray) : ∀ (xs : List Tm) (i : Nat) (h : i < xs.length), xs[i].lvld name = true → lvldA name xs = true
  | x :: r, 0, h, e => by simp only [List.getElem_cons_zero] at e; simp [lvldA, e]
  | x :: r, i + 1, h, e => by
    have := lvldA_mem name r i (by simpa using h) (by simpa using e)
    simp [lvldA, this]
set_option maxHeartbeats 8000000 in
theorem leveled6_p (name : ByteArray) : ∀ (fuel : Nat) (t : Tm), t.size ≤ fuel → PPure Try.prog F.law06_leveled [.agg t.pv, .sc (.string name)] (.sc (.bool (t.lvld name))) := by
  intro fuel
  induction fuel with
  | zero => intro t h; have := size_pos t; omega
  | succ fuel ih =>
    intro t hf
    cases t with
    | mk kind n s ls args =>
    simp only [Tm.size] at hf
    refine pure_by is_law06_leveled (by simp) rfl fun hb nx => ?_
    have hb0 : ls.length ≤ 9223372036854775807 ∧ args.length ≤ 9223372036854775807 := by simp [Tm.pv, bndL, PV.bnd] at hb; exact ⟨hb.1.1, hb.2.1⟩
    clear hb
    have hih := Kept.mk ih
    clear ih
    simp only [Tm.pv]
    by_cases h : kind = 3 ∧ s = name ∧ 0 < ls.length
    · have e : (Tm.mk kind n s ls args).lvld name = true := by simp [Tm.lvld, h]
      rw [e]
      obtain ⟨rfl, h2, h3⟩ := h
      clear e
      repeat' (first | ((with_reducible first | refine cond_pos (by omega) ?_ | refine cond_neg (by omega) ?_ | refine guard_pos (by omega) ?_ | refine guard_neg (by omega) ?_ | refine cond_ifn ?_ ?_ | refine cond_waysn ?_ ?_ | refine guard_ifn ?_ ?_ | refine guard_waysn ?_ ?_ | refine cond_if ?_ ?_ | refine cond_ways ?_ ?_ | refine guard_if ?_ ?_ | refine guard_ways ?_ ?_) <;> intro _) | simp (maxSteps := 1000000) (disch := omega) only [go_sem, Nat.reduceAdd, Nat.reduceMul, Nat.reduceSub, Nat.reduceLeDiff, Nat.reduceEqDiff, Nat.reduceBEq, ↓reduceIte, reduceCtorEq, Int.reduceEq, Int.reduceLE, Int.reduceLT, Int.reduceAdd, Int.reduceSub, Int.reduceNeg, Int.reduceToNat, Int.reduceNe, Nat.reducePow, Nat.reduceShiftRight, Nat.reduceMod, mc_law06_leveled, strBin, bytes_eq, *])
      all_goals (refine fin_tmp (.inr rfl) ?_; (first | rfl | (simp (disch := omega) only [go_sem, Nat.reduceMul, Nat.reduceSub, Nat.reduceShiftRight, Nat.reduceMod, Nat.reduceEqDiff, Nat.reduceAdd, ↓reduceIte, Nat.reduceLeDiff, *]; done) | (simp [upd, *]; done) | (simp [upd, *]; omega)))
    · have e : (Tm.mk kind n s ls args).lvld name = lvldA name args := by
        simp only [Tm.lvld]
        rw [← Bool.decide_and, decide_eq_false (fun h2 => h ⟨h2.1.1, h2.1.2, h2.2⟩), Bool.false_or]
      rw [e]
      clear e
      have h9 : ¬ kind = 3 ∨ (kind = 3 ∧ ¬ s = name) ∨ (kind = 3 ∧ s = name ∧ ls.length = 0) := by
        by_cases h1 : kind = 3
        · by_cases h2 : s = name
          · exact .inr (.inr ⟨h1, h2, Nat.eq_zero_of_not_pos fun h3 => h ⟨h1, h2, h3⟩⟩)
          · exact .inr (.inl ⟨h1, h2⟩)
        · exact .inl h1
      clear h
      rcases h9 with h1 | ⟨rfl, h2⟩ | ⟨rfl, h2, h3⟩
      all_goals
        repeat' (first | ((with_reducible first | refine cond_pos (by omega) ?_ | refine cond_neg (by omega) ?_ | refine guard_pos (by omega) ?_ | refine guard_neg (by omega) ?_ | refine cond_ifn ?_ ?_ | refine cond_waysn ?_ ?_ | refine guard_ifn ?_ ?_ | refine guard_waysn ?_ ?_ | refine cond_if ?_ ?_ | refine cond_ways ?_ ?_ | refine guard_if ?_ ?_ | refine guard_ways ?_ ?_) <;> intro _) | simp (maxSteps := 1000000) (disch := omega) only [go_sem, Nat.reduceAdd, Nat.reduceMul, Nat.reduceSub, Nat.reduceLeDiff, Nat.reduceEqDiff, Nat.reduceBEq, ↓reduceIte, reduceCtorEq, Int.reduceEq, Int.reduceLE, Int.reduceLT, Int.reduceAdd, Int.reduceSub, Int.reduceNeg, Int.reduceToNat, Int.reduceNe, Nat.reducePow, Nat.reduceShiftRight, Nat.reduceMod, mc_law06_leveled, strBin, bytes_eq, *])
        refine c_loopW 34357641264 (by kernel_rfl) (fun j f H m => ∃ i : Nat, j = args.length - i ∧ i ≤ args.length ∧ f 5 = .sc (.int .i64 i) ∧ Kept (lvldA name (args.take i) = false)) _ ⟨0, rfl, Nat.zero_le _, (by first | assumption | omega | rfl | (simp (disch := omega) only [go_sem, Nat.reduceMul, Nat.reduceSub, Nat.reduceShiftRight, Nat.reduceMod, Nat.reduceEqDiff, Nat.reduceAdd, ↓reduceIte, Nat.reduceLeDiff, *] <;> omega)), Kept.mk rfl⟩ ?_
        rintro _ f H m ⟨i, rfl, hi, e5, hl⟩
        by_cases hlt : i < args.length
        · have eg : args[i]? = some args[i] := List.getElem?_eq_getElem hlt
          have c1 := hih.out args[i] (by have := sizeL_mem args i hlt; omega)
          cases hx : args[i].lvld name with
          | true =>
            rw [lvldA_mem name args i hlt hx]
            rw [hx] at c1
            clear hx
            repeat' (first | ((with_reducible first | refine cond_pos (by omega) ?_ | refine cond_neg (by omega) ?_ | refine guard_pos (by omega) ?_ | refine guard_neg (by omega) ?_ | refine cond_ifn ?_ ?_ | refine cond_waysn ?_ ?_ | refine guard_ifn ?_ ?_ | refine guard_waysn ?_ ?_ | refine cond_if ?_ ?_ | refine cond_ways ?_ ?_ | refine guard_if ?_ ?_ | refine guard_ways ?_ ?_) <;> intro _) | (((with_reducible refine call_id ?_); (first | (refine call_pure (c1) ?_)))) | simp (maxSteps := 1000000) (disch := omega) only [go_sem, Nat.reduceAdd, Nat.reduceMul, Nat.reduceSub, Nat.reduceLeDiff, Nat.reduceEqDiff, Nat.reduceBEq, ↓reduceIte, reduceCtorEq, Int.reduceEq, Int.reduceLE, Int.reduceLT, Int.reduceAdd, Int.reduceSub, Int.reduceNeg, Int.reduceToNat, Int.reduceNe, Nat.reducePow, Nat.reduceShiftRight, Nat.reduceMod, *])
            all_goals (refine fin_tmp (.inr rfl) ?_; (first | rfl | (simp (disch := omega) only [go_sem, Nat.reduceMul, Nat.reduceSub, Nat.reduceShiftRight, Nat.reduceMod, Nat.reduceEqDiff, Nat.reduceAdd, ↓reduceIte, Nat.reduceLeDiff, *]; done) | (simp [upd, *]; done) | (simp [upd, *]; omega)))
          | false =>
            have hl2 : Kept (lvldA name (args.take (i + 1)) = false) := Kept.mk (by rw [lvldA_take name args i hlt, hl.out, hx]; rfl)
            rw [hx] at c1
            clear hx hl
            repeat' (first | ((with_reducible first | refine cond_pos (by omega) ?_ | refine cond_neg (by omega) ?_ | refine guard_pos (by omega) ?_ | refine guard_neg (by omega) ?_ | refine cond_ifn ?_ ?_ | refine cond_waysn ?_ ?_ | refine guard_ifn ?_ ?_ | refine guard_waysn ?_ ?_ | refine cond_if ?_ ?_ | refine cond_ways ?_ ?_ | refine guard_if ?_ ?_ | refine guard_ways ?_ ?_) <;> intro _) | (((with_reducible refine call_id ?_); (first | (refine call_pure (c1) ?_)))) | simp (maxSteps := 1000000) (disch := omega) only [go_sem, Nat.reduceAdd, Nat.reduceMul, Nat.reduceSub, Nat.reduceLeDiff, Nat.reduceEqDiff, Nat.reduceBEq, ↓reduceIte, reduceCtorEq, Int.reduceEq, Int.reduceLE, Int.reduceLT, Int.reduceAdd, Int.reduceSub, Int.reduceNeg, Int.reduceToNat, Int.reduceNe, Nat.reducePow, Nat.reduceShiftRight, Nat.reduceMod, *])
            exact Nx.mk (args.length - (i + 1)) (by first | assumption | omega | rfl | (simp (disch := omega) only [go_sem, Nat.reduceMul, Nat.reduceSub, Nat.reduceShiftRight, Nat.reduceMod, Nat.reduceEqDiff, Nat.reduceAdd, ↓reduceIte, Nat.reduceLeDiff, *] <;> omega)) ⟨i + 1, rfl, (by first | assumption | omega | rfl | (simp (disch := omega) only [go_sem, Nat.reduceMul, Nat.reduceSub, Nat.reduceShiftRight, Nat.reduceMod, Nat.reduceEqDiff, Nat.reduceAdd, ↓reduceIte, Nat.reduceLeDiff, *] <;> omega)), by simp [upd], hl2⟩
        · obtain rfl : i = args.length := by omega
          have hl2 := hl.out
          rw [List.take_length] at hl2
          rw [hl2]
          clear hl hl2
          repeat' (first | ((with_reducible first | refine cond_pos (by omega) ?_ | refine cond_neg (by omega) ?_ | refine guard_pos (by omega) ?_ | refine guard_neg (by omega) ?_ | refine cond_ifn ?_ ?_ | refine cond_waysn ?_ ?_ | refine guard_ifn ?_ ?_ | refine guard_waysn ?_ ?_ | refine cond_if ?_ ?_ | refine cond_ways ?_ ?_ | refine guard_if ?_ ?_ | refine guard_ways ?_ ?_) <;> intro _) | simp (maxSteps := 1000000) (disch := omega) only [go_sem, Nat.reduceAdd, Nat.reduceMul, Nat.reduceSub, Nat.reduceLeDiff, Nat.reduceEqDiff, Nat.reduceBEq, ↓reduceIte, reduceCtorEq, Int.reduceEq, Int.reduceLE, Int.reduceLT, Int.reduceAdd, Int.reduceSub, Int.reduceNeg, Int.reduceToNat, Int.reduceNe, Nat.reducePow, Nat.reduceShiftRight, Nat.reduceMod, *])
          all_goals (refine fin_tmp (.inr rfl) ?_; (first | rfl | (simp (disch := omega) only [go_sem, Nat.reduceMul, Nat.reduceSub, Nat.reduceShiftRight, Nat.reduceMod, Nat.reduceEqDiff, Nat.reduceAdd, ↓reduceIte, Nat.reduceLeDiff, *]; done) | (simp [upd, *]; done) | (simp [upd, *]; omega)))
end
section
set_option maxRecDepth 20000
attribute [local go_sem] pv_len pv_take Nat.add_assoc tm_len tm_take pv_one tm_one tpvB_len tpvB_take tpvB_one pvB_len pvB_take pvB_one id_ne id_ne' id_ne2 List.append_assoc tm_take_app tm_drop_app tm_take10 tm_drop10 tm_drop15 tm_drop
theorem looseT_right {t : Tm} (h : t.right 4 1125899906842624 = true) : looseT t = t.loose ∧ 0 ≤ t.loose := ⟨if_pos h, (loose_bd 4 t _ (by omega) (right_far h).1).1⟩
end
section
set_option maxRecDepth 20000
mutual
theorem swap_formed (name : ByteArray) (u : Tm) (np e : Int) (h0e : 0 ≤ e) (hu : u.formed np e = true) : ∀ (t y : Tm) (k deep : Int), 0 ≤ deep → deep ≤ k → t.formed np k = true → t.fill (swapL name u) deep = some y → y.formed np (k + e) = true
  | .mk kd n s ls args, y, k, deep, h0, hk, hf, h => by
    have hA := swapA_formed name u np e h0e hu args
    by_cases h3 : kd = 3 ∧ s = name
    · obtain ⟨rfl, rfl⟩ := h3
      rw [swap_at] at h
      cases h
      exact formed_up (lift_formed np deep h0 u e 0 hu) (by omega) (by omega)
    · rw [swap_other _ _ _ _ _ _ _ _ h3, Option.map_eq_some_iff] at h
      obtain ⟨as_, h, rfl⟩ := h
      have hl := fillA_lenM _ _ _ _ _ _ _ h
      have hAA := hA as_ k deep kd args.length 0 h0 hk (fmA hf) h
      by_cases h1 : kd = 1
      · subst h1
        obtain ⟨_, _, rfl, rfl⟩ := fm_var hf
        simp only [fillA, Option.some.injEq] at h
        subst h
        exact formed_up hf (by omega) (by omega)
      by_cases h33 : kd = 3
      · subst h33
        obtain ⟨_, rfl, _⟩ := fm_con hf
        simp only [fillA, Option.some.injEq] at h
        subst h
        exact formed_up hf (by omega) (by omega)
      simp only [Tm.formed, if_neg h1, if_neg h33, hasB, hl] at hf ⊢
      by_cases h2 : kd = 2
      · rw [if_pos h2] at hf ⊢
        exact hf
      · rw [if_neg h2] at hf ⊢
        split at hf
        · rename_i h4
          rw [if_pos h4, hAA]
          simpa using (Bool.and_eq_true_iff.1 hf).1
        · rename_i h4
          rw [if_neg h4]
          split at hf
          · rename_i h5
            rw [if_pos h5, hAA]
            simpa using (Bool.and_eq_true_iff.1 hf).1
          · cases hf
theorem swapA_formed (name : ByteArray) (u : Tm) (np e : Int) (h0e : 0 ≤ e) (hu : u.formed np e = true) : ∀ (ts ys : List Tm) (k deep kind : Int) (len i : Nat), 0 ≤ deep → deep ≤ k → formedA np k kind len i ts = true → fillA (swapL name u) deep kind len i ts = some ys → formedA np (k + e) kind len i ys = true
  | [], ys, _, _, _, _, _, _, _, _, h => by
    simp only [fillA, Option.some.injEq] at h
    subst h
    rfl
  | t :: r, ys, k, deep, kind, len, i, h0, hk, hf, h => by
    have hd := deep_bd kind len i
    simp only [formedA, Bool.and_eq_true] at hf
    simp only [fillA] at h
    split at h
    · rename_i y ys' h1 h2
      cases h
      have g1 := swap_formed name u np e h0e hu t y _ (deep + deepB kind len i) (by omega) (by omega) hf.1 h1
      have g2 := swapA_formed name u np e h0e hu r ys' k deep kind len (i + 1) h0 hk hf.2 h2
      simp only [formedA, Bool.and_eq_true]
      refine ⟨?_, g2⟩
      rw [show k + e + deepB kind len i = k + deepB kind len i + e by omega]
      exact g1
    · cases h
end
mutual
theorem con_name (name : ByteArray) (np : Int) : ∀ (t : Tm) (k deep : Int), t.formed np k = true → 0 < t.cnt (conL name) deep → nameB name = true
  | .mk kd n s ls args, k, deep, hf, h => by
    have hA := conA_name name np args k deep kd args.length 0 (fmA hf)
    by_cases h3 : kd = 3 ∧ s = name
    · obtain ⟨rfl, rfl⟩ := h3
      exact (fm_con hf).2.2
    · have hc : conL name (.mk kd n s ls args) deep = false := by simp only [conL, decide_eq_false h3]
      simp only [Tm.cnt, hc, Bool.false_eq_true, if_false, Nat.zero_add] at h
      exact hA h
theorem conA_name (name : ByteArray) (np : Int) : ∀ (ts : List Tm) (k deep kind : Int) (len i : Nat), formedA np k kind len i ts = true → 0 < cntA (conL name) deep kind len i ts → nameB name = true
  | [], _, _, _, _, _, _, h => by simp [cntA] at h
  | t :: r, k, deep, kind, len, i, hf, h => by
    simp only [formedA, Bool.and_eq_true] at hf
    simp only [cntA] at h
    by_cases h1 : 0 < t.cnt (conL name) (deep + deepB kind len i)
    · exact con_name name np t _ _ hf.1 h1
    · exact conA_name name np r k deep kind len (i + 1) hf.2 (by omega)
end
theorem replR_some {t y u : Tm} {name : ByteArray} (h : replR t name u = some y) : t.right 4 1125899906842624 = true ∧ u.right 4 1125899906842624 = true ∧ t.fill (swapL name u) 0 = some y ∧ y.nodes ≤ 2000 := by
  unfold replR at h
  split at h
  · rename_i hr
    unfold cap2 at h
    cases hf : t.fill (swapL name u) 0 with
    | none => rw [hf] at h; cases h
    | some z =>
      rw [hf, Option.bind_some] at h
      split at h
      · cases h
        exact ⟨hr.1, hr.2, rfl, by assumption⟩
      · cases h
  · cases h
theorem occ_swap {t y u : Tm} {name : ByteArray} (h : replR t name u = some y) (ht : looseT t < 2 ^ 40) (hu : looseT u < 2 ^ 40) : occR y name = (occR t name && occR u name) := by
  obtain ⟨hr, hru, hf, hn⟩ := replR_some h
  rw [(looseT_right hr).1] at ht
  rw [(looseT_right hru).1] at hu
  have h2 := formed_low 4 t _ (2 ^ 40) (right_far hr).1 (by omega) (by omega)
  have h3 := formed_low 4 u _ (2 ^ 40) (right_far hru).1 (by omega) (by omega)
  have h4 := swap_formed name u 4 (2 ^ 40) (by omega) h3 t y (2 ^ 40) 0 (by omega) (by omega) h2 hf
  have hyr : y.right 4 1125899906842624 = true := right_iff.2 ⟨by omega, by omega, by omega, hn, formed_up h4 (by omega) (by omega)⟩
  unfold occR
  rw [hyr, hr, hru, swap_con name u 4 t y _ 0 h2 hf]
  simp only [Bool.true_and]
  rw [Bool.eq_iff_iff]
  simp only [decide_eq_true_eq, Bool.and_eq_true]
  exact ⟨fun h => ⟨Nat.pos_of_ne_zero (fun e => by rw [e, Nat.zero_mul] at h; omega), Nat.pos_of_ne_zero (fun e => by rw [e, Nat.mul_zero] at h; omega)⟩, fun h => Nat.mul_pos h.1 h.2⟩
theorem occ_gone {t y u : Tm} {name : ByteArray} (h : replR t name u = some y) (ho : occR t name = false) : y = t := by
  obtain ⟨hr, hru, hf, hn⟩ := replR_some h
  unfold occR at ho
  rw [hr, Bool.true_and, decide_eq_false_iff_not] at ho
  rw [swap_none name u t 0 (by omega)] at hf
  cases hf
  rfl
theorem occ_self {t : Tm} {name : ByteArray} (ho : occR t name = true) (hl : t.lvld name = false) : replR t name (conT name) = some t := by
  unfold occR at ho
  rw [Bool.and_eq_true, decide_eq_true_eq] at ho
  obtain ⟨hr, hc⟩ := ho
  have hnm := con_name name 4 t _ 0 (right_far hr).1 hc
  have hcr : (conT name).right 4 1125899906842624 = true := right_iff.2 ⟨by omega, by omega, by omega, by simp [conT, Tm.nodes, nodesL, nodesT], by simp [conT, Tm.formed, constB, hnm]⟩
  unfold replR
  rw [if_pos ⟨hr, hcr⟩]
  have := swap_self name 4 t _ 0 (right_far hr).1 hl
  rw [conT, this]
  exact if_pos (right_far hr).2
end
section
set_option maxRecDepth 20000
attribute [local go_sem] pv_len pv_take Nat.add_assoc tm_len tm_take pv_one tm_one tpvB_len tpvB_take tpvB_one pvB_len pvB_take pvB_one id_ne id_ne' id_ne2 List.append_assoc tm_take_app tm_drop_app tm_take10 tm_drop10 tm_drop15 tm_drop
set_option maxRecDepth 100000 in
set_option maxHeartbeats 16000000 in
theorem BindOccurs_w (t : Tm) (ht : t.fits) (u : Tm) (hfu : u.fits) (name : ByteArray) : PPure Try.prog F.law06_BindOccurs [.agg t.pv, .agg u.pv, .sc (.string name)] (.sc (.bool true)) := by
  refine pure_by is_law06_BindOccurs (by simp) rfl fun hb nx => ?_
  clear hb
  have hl := alive6_p
  have cG := great6_p t ht [u] (by simp [hfu])
  simp only [List.map_cons, List.map_nil] at cG
  cases hg : great6 t [u] with
  | true =>
    rw [hg] at cG
    clear hg
    repeat' (first | ((with_reducible first | refine cond_pos (by omega) ?_ | refine cond_neg (by omega) ?_ | refine guard_pos (by omega) ?_ | refine guard_neg (by omega) ?_ | refine cond_ifn ?_ ?_ | refine cond_waysn ?_ ?_ | refine guard_ifn ?_ ?_ | refine guard_waysn ?_ ?_ | refine cond_if ?_ ?_ | refine cond_ways ?_ ?_ | refine guard_if ?_ ?_ | refine guard_ways ?_ ?_) <;> intro _) | (((with_reducible refine call_id ?_); (first | (refine call_pure (hl) ?_) | (refine call_pure (cG) ?_)))) | simp (maxSteps := 1000000) (disch := omega) only [go_sem, Nat.reduceAdd, Nat.reduceMul, Nat.reduceSub, Nat.reduceLeDiff, Nat.reduceEqDiff, Nat.reduceBEq, ↓reduceIte, reduceCtorEq, Int.reduceEq, Int.reduceLE, Int.reduceLT, Int.reduceAdd, Int.reduceSub, Int.reduceNeg, Int.reduceToNat, Int.reduceNe, Nat.reducePow, Nat.reduceShiftRight, Nat.reduceMod, mc_law06_BindOccurs, *])
    all_goals (refine fin_tmp (.inr rfl) ?_; (first | rfl | (simp (disch := omega) only [go_sem, Nat.reduceMul, Nat.reduceSub, Nat.reduceShiftRight, Nat.reduceMod, Nat.reduceEqDiff, Nat.reduceAdd, ↓reduceIte, Nat.reduceLeDiff, *]; done) | (simp [upd, *]; done) | (simp [upd, *]; omega)))
  | false =>
  rw [hg] at cG
  clear hg ht hfu
  by_cases hnl : 40 < name.size
  · repeat' (first | ((with_reducible first | refine cond_pos (by omega) ?_ | refine cond_neg (by omega) ?_ | refine guard_pos (by omega) ?_ | refine guard_neg (by omega) ?_ | refine cond_ifn ?_ ?_ | refine cond_waysn ?_ ?_ | refine guard_ifn ?_ ?_ | refine guard_waysn ?_ ?_ | refine cond_if ?_ ?_ | refine cond_ways ?_ ?_ | refine guard_if ?_ ?_ | refine guard_ways ?_ ?_) <;> intro _) | (((with_reducible refine call_id ?_); (first | (refine call_pure (hl) ?_) | (refine call_pure (cG) ?_)))) | simp (maxSteps := 1000000) (disch := omega) only [go_sem, Nat.reduceAdd, Nat.reduceMul, Nat.reduceSub, Nat.reduceLeDiff, Nat.reduceEqDiff, Nat.reduceBEq, ↓reduceIte, reduceCtorEq, Int.reduceEq, Int.reduceLE, Int.reduceLT, Int.reduceAdd, Int.reduceSub, Int.reduceNeg, Int.reduceToNat, Int.reduceNe, Nat.reducePow, Nat.reduceShiftRight, Nat.reduceMod, mc_law06_BindOccurs, *])
    all_goals (refine fin_tmp (.inr rfl) ?_; (first | rfl | (simp (disch := omega) only [go_sem, Nat.reduceMul, Nat.reduceSub, Nat.reduceShiftRight, Nat.reduceMod, Nat.reduceEqDiff, Nat.reduceAdd, ↓reduceIte, Nat.reduceLeDiff, *]; done) | (simp [upd, *]; done) | (simp [upd, *]; omega)))
  have c1 := bind_Replace_p t name u
  have c2 := bind_Occurs_p t name
  have c3 := bind_Occurs_p u name
  have c4 := ref04_Loose_p t
  have c5 := ref04_Loose_p u
  have c6 := constant6_p name
  have c7 := bind_Replace_p t name (conT name)
  have c8 := leveled6_p name t.size t (Nat.le_refl _)
  have c9 := same6 t
  have c10 : ∀ y, PPure Try.prog F.bind_Occurs [.agg (Tm.pv y), .sc (.string name)] (.sc (.bool (occR y name))) := fun y => bind_Occurs_p y name
  cases hr : replR t name u with
  | none =>
    rw [hr] at c1
    simp only [optT, zeroT] at c1
    clear hr c10 c3 c4 c5
    cases ho : occR t name with
    | false =>
      rw [ho] at c2
      clear ho c6 c7 c8 c9
      repeat' (first | ((with_reducible first | refine cond_pos (by omega) ?_ | refine cond_neg (by omega) ?_ | refine guard_pos (by omega) ?_ | refine guard_neg (by omega) ?_ | refine cond_ifn ?_ ?_ | refine cond_waysn ?_ ?_ | refine guard_ifn ?_ ?_ | refine guard_waysn ?_ ?_ | refine cond_if ?_ ?_ | refine cond_ways ?_ ?_ | refine guard_if ?_ ?_ | refine guard_ways ?_ ?_) <;> intro _) | (((with_reducible refine call_id ?_); (first | (refine call_pure (hl) ?_) | (refine call_pure (cG) ?_) | (refine call_pure (c1) ?_) | (refine call_pure (c2) ?_)))) | simp (maxSteps := 1000000) (disch := omega) only [go_sem, Nat.reduceAdd, Nat.reduceMul, Nat.reduceSub, Nat.reduceLeDiff, Nat.reduceEqDiff, Nat.reduceBEq, ↓reduceIte, reduceCtorEq, Int.reduceEq, Int.reduceLE, Int.reduceLT, Int.reduceAdd, Int.reduceSub, Int.reduceNeg, Int.reduceToNat, Int.reduceNe, Nat.reducePow, Nat.reduceShiftRight, Nat.reduceMod, mc_law06_BindOccurs, *])
      all_goals (refine fin_tmp (.inr rfl) ?_; (first | rfl | (simp (disch := omega) only [go_sem, Nat.reduceMul, Nat.reduceSub, Nat.reduceShiftRight, Nat.reduceMod, Nat.reduceEqDiff, Nat.reduceAdd, ↓reduceIte, Nat.reduceLeDiff, *]; done) | (simp [upd, *]; done) | (simp [upd, *]; omega)))
    | true =>
      rw [ho] at c2
      cases hlv : t.lvld name with
      | true =>
        rw [hlv] at c8
        clear ho hlv
        cases hr2 : replR t name (conT name) with
        | none =>
          rw [hr2] at c7
          simp only [optT, zeroT] at c7
          clear hr2
          repeat' (first | ((with_reducible first | refine cond_pos (by omega) ?_ | refine cond_neg (by omega) ?_ | refine guard_pos (by omega) ?_ | refine guard_neg (by omega) ?_ | refine cond_ifn ?_ ?_ | refine cond_waysn ?_ ?_ | refine guard_ifn ?_ ?_ | refine guard_waysn ?_ ?_ | refine cond_if ?_ ?_ | refine cond_ways ?_ ?_ | refine guard_if ?_ ?_ | refine guard_ways ?_ ?_) <;> intro _) | (((with_reducible refine call_id ?_); (first | (refine call_pure (hl) ?_) | (refine call_pure (cG) ?_) | (refine call_pure (c1) ?_) | (refine call_pure (c2) ?_) | (refine call_pure (c6) ?_) | (refine call_pure (c7) ?_) | (refine call_pure (c8) ?_)))) | simp (maxSteps := 1000000) (disch := omega) only [go_sem, Nat.reduceAdd, Nat.reduceMul, Nat.reduceSub, Nat.reduceLeDiff, Nat.reduceEqDiff, Nat.reduceBEq, ↓reduceIte, reduceCtorEq, Int.reduceEq, Int.reduceLE, Int.reduceLT, Int.reduceAdd, Int.reduceSub, Int.reduceNeg, Int.reduceToNat, Int.reduceNe, Nat.reducePow, Nat.reduceShiftRight, Nat.reduceMod, mc_law06_BindOccurs, *])
          all_goals (refine fin_tmp (.inr rfl) ?_; (first | rfl | (simp (disch := omega) only [go_sem, Nat.reduceMul, Nat.reduceSub, Nat.reduceShiftRight, Nat.reduceMod, Nat.reduceEqDiff, Nat.reduceAdd, ↓reduceIte, Nat.reduceLeDiff, *]; done) | (simp [upd, *]; done) | (simp [upd, *]; omega)))
        | some z =>
          rw [hr2] at c7
          simp only [optT] at c7
          clear hr2
          repeat' (first | ((with_reducible first | refine cond_pos (by omega) ?_ | refine cond_neg (by omega) ?_ | refine guard_pos (by omega) ?_ | refine guard_neg (by omega) ?_ | refine cond_ifn ?_ ?_ | refine cond_waysn ?_ ?_ | refine guard_ifn ?_ ?_ | refine guard_waysn ?_ ?_ | refine cond_if ?_ ?_ | refine cond_ways ?_ ?_ | refine guard_if ?_ ?_ | refine guard_ways ?_ ?_) <;> intro _) | (((with_reducible refine call_id ?_); (first | (refine call_pure (hl) ?_) | (refine call_pure (cG) ?_) | (refine call_pure (c1) ?_) | (refine call_pure (c2) ?_) | (refine call_pure (c6) ?_) | (refine call_pure (c7) ?_) | (refine call_pure (c8) ?_)))) | simp (maxSteps := 1000000) (disch := omega) only [go_sem, Nat.reduceAdd, Nat.reduceMul, Nat.reduceSub, Nat.reduceLeDiff, Nat.reduceEqDiff, Nat.reduceBEq, ↓reduceIte, reduceCtorEq, Int.reduceEq, Int.reduceLE, Int.reduceLT, Int.reduceAdd, Int.reduceSub, Int.reduceNeg, Int.reduceToNat, Int.reduceNe, Nat.reducePow, Nat.reduceShiftRight, Nat.reduceMod, mc_law06_BindOccurs, *])
          all_goals (refine fin_tmp (.inr rfl) ?_; (first | rfl | (simp (disch := omega) only [go_sem, Nat.reduceMul, Nat.reduceSub, Nat.reduceShiftRight, Nat.reduceMod, Nat.reduceEqDiff, Nat.reduceAdd, ↓reduceIte, Nat.reduceLeDiff, *]; done) | (simp [upd, *]; done) | (simp [upd, *]; omega)))
      | false =>
        rw [hlv] at c8
        rw [occ_self ho hlv] at c7
        simp only [optT] at c7
        clear ho hlv
        repeat' (first | ((with_reducible first | refine cond_pos (by omega) ?_ | refine cond_neg (by omega) ?_ | refine guard_pos (by omega) ?_ | refine guard_neg (by omega) ?_ | refine cond_ifn ?_ ?_ | refine cond_waysn ?_ ?_ | refine guard_ifn ?_ ?_ | refine guard_waysn ?_ ?_ | refine cond_if ?_ ?_ | refine cond_ways ?_ ?_ | refine guard_if ?_ ?_ | refine guard_ways ?_ ?_) <;> intro _) | (((with_reducible refine call_id ?_); (first | (refine call_pure (hl) ?_) | (refine call_pure (cG) ?_) | (refine call_pure (c1) ?_) | (refine call_pure (c2) ?_) | (refine call_pure (c6) ?_) | (refine call_pure (c7) ?_) | (refine call_pure (c8) ?_) | (refine call_pure (c9) ?_)))) | simp (maxSteps := 1000000) (disch := omega) only [go_sem, Nat.reduceAdd, Nat.reduceMul, Nat.reduceSub, Nat.reduceLeDiff, Nat.reduceEqDiff, Nat.reduceBEq, ↓reduceIte, reduceCtorEq, Int.reduceEq, Int.reduceLE, Int.reduceLT, Int.reduceAdd, Int.reduceSub, Int.reduceNeg, Int.reduceToNat, Int.reduceNe, Nat.reducePow, Nat.reduceShiftRight, Nat.reduceMod, mc_law06_BindOccurs, *])
        all_goals (refine fin_tmp (.inr rfl) ?_; (first | rfl | (simp (disch := omega) only [go_sem, Nat.reduceMul, Nat.reduceSub, Nat.reduceShiftRight, Nat.reduceMod, Nat.reduceEqDiff, Nat.reduceAdd, ↓reduceIte, Nat.reduceLeDiff, *]; done) | (simp [upd, *]; done) | (simp [upd, *]; omega)))
  | some y =>
    rw [hr] at c1
    simp only [optT] at c1
    have c10 := c10 y
    have hsw : looseT t < 2 ^ 40 → looseT u < 2 ^ 40 → occR y name = (occR t name && occR u name) := occ_swap hr
    have hgo : occR t name = false → y = t := occ_gone hr
    clear hr
    have hcs : ¬ looseT u < 2 ^ 40 ∨ (looseT u < 2 ^ 40 ∧ ¬ looseT t < 2 ^ 40) ∨ (looseT u < 2 ^ 40 ∧ looseT t < 2 ^ 40 ∧ occR y name = (occR t name && occR u name)) := by
      by_cases h1 : looseT u < 2 ^ 40
      · by_cases h2 : looseT t < 2 ^ 40
        · exact .inr (.inr ⟨h1, h2, hsw h2 h1⟩)
        · exact .inr (.inl ⟨h1, h2⟩)
      · exact .inl h1
    clear hsw
    cases ho : occR t name with
    | false =>
      obtain rfl := hgo ho
      rw [ho] at c2
      clear hgo c6 c7 c8 c10
      rcases hcs with h | ⟨h, h2⟩ | ⟨h, h2, h3⟩
      all_goals
        clear ho
        repeat' (first | ((with_reducible first | refine cond_pos (by omega) ?_ | refine cond_neg (by omega) ?_ | refine guard_pos (by omega) ?_ | refine guard_neg (by omega) ?_ | refine cond_ifn ?_ ?_ | refine cond_waysn ?_ ?_ | refine guard_ifn ?_ ?_ | refine guard_waysn ?_ ?_ | refine cond_if ?_ ?_ | refine cond_ways ?_ ?_ | refine guard_if ?_ ?_ | refine guard_ways ?_ ?_) <;> intro _) | (((with_reducible refine call_id ?_); (first | (refine call_pure (hl) ?_) | (refine call_pure (cG) ?_) | (refine call_pure (c1) ?_) | (refine call_pure (c2) ?_) | (refine call_pure (c4) ?_) | (refine call_pure (c5) ?_) | (refine call_pure (c9) ?_)))) | simp (maxSteps := 1000000) (disch := omega) only [go_sem, Nat.reduceAdd, Nat.reduceMul, Nat.reduceSub, Nat.reduceLeDiff, Nat.reduceEqDiff, Nat.reduceBEq, ↓reduceIte, reduceCtorEq, Int.reduceEq, Int.reduceLE, Int.reduceLT, Int.reduceAdd, Int.reduceSub, Int.reduceNeg, Int.reduceToNat, Int.reduceNe, Nat.reducePow, Nat.reduceShiftRight, Nat.reduceMod, mc_law06_BindOccurs, *])
        all_goals (refine fin_tmp (.inr rfl) ?_; (first | rfl | (simp (disch := omega) only [go_sem, Nat.reduceMul, Nat.reduceSub, Nat.reduceShiftRight, Nat.reduceMod, Nat.reduceEqDiff, Nat.reduceAdd, ↓reduceIte, Nat.reduceLeDiff, *]; done) | (simp [upd, *]; done) | (simp [upd, *]; omega)))
    | true =>
      rw [ho] at c2 hcs
      rw [Bool.true_and] at hcs
      cases hou : occR u name with
      | false =>
        rw [hou] at c3 hcs
        cases hlv : t.lvld name with
        | true =>
          rw [hlv] at c8
          obtain ⟨z, hz⟩ : ∃ z, replR t name (conT name) = z := ⟨_, rfl⟩
          rw [hz] at c7
          clear ho hlv hz hou hgo
          rcases hcs with h | ⟨h, h2⟩ | ⟨h, h2, h3⟩
          all_goals
            try rw [h3] at c10
            cases z with
            | none =>
              simp only [optT, zeroT] at c7
              repeat' (first | ((with_reducible first | refine cond_pos (by omega) ?_ | refine cond_neg (by omega) ?_ | refine guard_pos (by omega) ?_ | refine guard_neg (by omega) ?_ | refine cond_ifn ?_ ?_ | refine cond_waysn ?_ ?_ | refine guard_ifn ?_ ?_ | refine guard_waysn ?_ ?_ | refine cond_if ?_ ?_ | refine cond_ways ?_ ?_ | refine guard_if ?_ ?_ | refine guard_ways ?_ ?_) <;> intro _) | (((with_reducible refine call_id ?_); (first | (refine call_pure (hl) ?_) | (refine call_pure (cG) ?_) | (refine call_pure (c1) ?_) | (refine call_pure (c2) ?_) | (refine call_pure (c3) ?_) | (refine call_pure (c4) ?_) | (refine call_pure (c5) ?_) | (refine call_pure (c6) ?_) | (refine call_pure (c7) ?_) | (refine call_pure (c8) ?_) | (refine call_pure (c10) ?_)))) | simp (maxSteps := 1000000) (disch := omega) only [go_sem, Nat.reduceAdd, Nat.reduceMul, Nat.reduceSub, Nat.reduceLeDiff, Nat.reduceEqDiff, Nat.reduceBEq, ↓reduceIte, reduceCtorEq, Int.reduceEq, Int.reduceLE, Int.reduceLT, Int.reduceAdd, Int.reduceSub, Int.reduceNeg, Int.reduceToNat, Int.reduceNe, Nat.reducePow, Nat.reduceShiftRight, Nat.reduceMod, mc_law06_BindOccurs, *])
              all_goals (refine fin_tmp (.inr rfl) ?_; (first | rfl | (simp (disch := omega) only [go_sem, Nat.reduceMul, Nat.reduceSub, Nat.reduceShiftRight, Nat.reduceMod, Nat.reduceEqDiff, Nat.reduceAdd, ↓reduceIte, Nat.reduceLeDiff, *]; done) | (simp [upd, *]; done) | (simp [upd, *]; omega)))
            | some z =>
              simp only [optT] at c7
              repeat' (first | ((with_reducible first | refine cond_pos (by omega) ?_ | refine cond_neg (by omega) ?_ | refine guard_pos (by omega) ?_ | refine guard_neg (by omega) ?_ | refine cond_ifn ?_ ?_ | refine cond_waysn ?_ ?_ | refine guard_ifn ?_ ?_ | refine guard_waysn ?_ ?_ | refine cond_if ?_ ?_ | refine cond_ways ?_ ?_ | refine guard_if ?_ ?_ | refine guard_ways ?_ ?_) <;> intro _) | (((with_reducible refine call_id ?_); (first | (refine call_pure (hl) ?_) | (refine call_pure (cG) ?_) | (refine call_pure (c1) ?_) | (refine call_pure (c2) ?_) | (refine call_pure (c3) ?_) | (refine call_pure (c4) ?_) | (refine call_pure (c5) ?_) | (refine call_pure (c6) ?_) | (refine call_pure (c7) ?_) | (refine call_pure (c8) ?_) | (refine call_pure (c10) ?_)))) | simp (maxSteps := 1000000) (disch := omega) only [go_sem, Nat.reduceAdd, Nat.reduceMul, Nat.reduceSub, Nat.reduceLeDiff, Nat.reduceEqDiff, Nat.reduceBEq, ↓reduceIte, reduceCtorEq, Int.reduceEq, Int.reduceLE, Int.reduceLT, Int.reduceAdd, Int.reduceSub, Int.reduceNeg, Int.reduceToNat, Int.reduceNe, Nat.reducePow, Nat.reduceShiftRight, Nat.reduceMod, mc_law06_BindOccurs, *])
              all_goals (refine fin_tmp (.inr rfl) ?_; (first | rfl | (simp (disch := omega) only [go_sem, Nat.reduceMul, Nat.reduceSub, Nat.reduceShiftRight, Nat.reduceMod, Nat.reduceEqDiff, Nat.reduceAdd, ↓reduceIte, Nat.reduceLeDiff, *]; done) | (simp [upd, *]; done) | (simp [upd, *]; omega)))
        | false =>
          rw [hlv] at c8
          rw [occ_self ho hlv] at c7
          simp only [optT] at c7
          clear ho hlv hou hgo
          rcases hcs with h | ⟨h, h2⟩ | ⟨h, h2, h3⟩
          all_goals
            try rw [h3] at c10
            repeat' (first | ((with_reducible first | refine cond_pos (by omega) ?_ | refine cond_neg (by omega) ?_ | refine guard_pos (by omega) ?_ | refine guard_neg (by omega) ?_ | refine cond_ifn ?_ ?_ | refine cond_waysn ?_ ?_ | refine guard_ifn ?_ ?_ | refine guard_waysn ?_ ?_ | refine cond_if ?_ ?_ | refine cond_ways ?_ ?_ | refine guard_if ?_ ?_ | refine guard_ways ?_ ?_) <;> intro _) | (((with_reducible refine call_id ?_); (first | (refine call_pure (hl) ?_) | (refine call_pure (cG) ?_) | (refine call_pure (c1) ?_) | (refine call_pure (c2) ?_) | (refine call_pure (c3) ?_) | (refine call_pure (c4) ?_) | (refine call_pure (c5) ?_) | (refine call_pure (c6) ?_) | (refine call_pure (c7) ?_) | (refine call_pure (c8) ?_) | (refine call_pure (c9) ?_) | (refine call_pure (c10) ?_)))) | simp (maxSteps := 1000000) (disch := omega) only [go_sem, Nat.reduceAdd, Nat.reduceMul, Nat.reduceSub, Nat.reduceLeDiff, Nat.reduceEqDiff, Nat.reduceBEq, ↓reduceIte, reduceCtorEq, Int.reduceEq, Int.reduceLE, Int.reduceLT, Int.reduceAdd, Int.reduceSub, Int.reduceNeg, Int.reduceToNat, Int.reduceNe, Nat.reducePow, Nat.reduceShiftRight, Nat.reduceMod, mc_law06_BindOccurs, *])
            all_goals (refine fin_tmp (.inr rfl) ?_; (first | rfl | (simp (disch := omega) only [go_sem, Nat.reduceMul, Nat.reduceSub, Nat.reduceShiftRight, Nat.reduceMod, Nat.reduceEqDiff, Nat.reduceAdd, ↓reduceIte, Nat.reduceLeDiff, *]; done) | (simp [upd, *]; done) | (simp [upd, *]; omega)))
      | true =>
        rw [hou] at c3 hcs
        cases hlv : t.lvld name with
        | true =>
          rw [hlv] at c8
          obtain ⟨z, hz⟩ : ∃ z, replR t name (conT name) = z := ⟨_, rfl⟩
          rw [hz] at c7
          clear ho hlv hz hou hgo
          rcases hcs with h | ⟨h, h2⟩ | ⟨h, h2, h3⟩
          all_goals
            try rw [h3] at c10
            cases z with
            | none =>
              simp only [optT, zeroT] at c7
              repeat' (first | ((with_reducible first | refine cond_pos (by omega) ?_ | refine cond_neg (by omega) ?_ | refine guard_pos (by omega) ?_ | refine guard_neg (by omega) ?_ | refine cond_ifn ?_ ?_ | refine cond_waysn ?_ ?_ | refine guard_ifn ?_ ?_ | refine guard_waysn ?_ ?_ | refine cond_if ?_ ?_ | refine cond_ways ?_ ?_ | refine guard_if ?_ ?_ | refine guard_ways ?_ ?_) <;> intro _) | (((with_reducible refine call_id ?_); (first | (refine call_pure (hl) ?_) | (refine call_pure (cG) ?_) | (refine call_pure (c1) ?_) | (refine call_pure (c2) ?_) | (refine call_pure (c3) ?_) | (refine call_pure (c4) ?_) | (refine call_pure (c5) ?_) | (refine call_pure (c6) ?_) | (refine call_pure (c7) ?_) | (refine call_pure (c8) ?_) | (refine call_pure (c10) ?_)))) | simp (maxSteps := 1000000) (disch := omega) only [go_sem, Nat.reduceAdd, Nat.reduceMul, Nat.reduceSub, Nat.reduceLeDiff, Nat.reduceEqDiff, Nat.reduceBEq, ↓reduceIte, reduceCtorEq, Int.reduceEq, Int.reduceLE, Int.reduceLT, Int.reduceAdd, Int.reduceSub, Int.reduceNeg, Int.reduceToNat, Int.reduceNe, Nat.reducePow, Nat.reduceShiftRight, Nat.reduceMod, mc_law06_BindOccurs, *])
              all_goals (refine fin_tmp (.inr rfl) ?_; (first | rfl | (simp (disch := omega) only [go_sem, Nat.reduceMul, Nat.reduceSub, Nat.reduceShiftRight, Nat.reduceMod, Nat.reduceEqDiff, Nat.reduceAdd, ↓reduceIte, Nat.reduceLeDiff, *]; done) | (simp [upd, *]; done) | (simp [upd, *]; omega)))
            | some z =>
              simp only [optT] at c7
              repeat' (first | ((with_reducible first | refine cond_pos (by omega) ?_ | refine cond_neg (by omega) ?_ | refine guard_pos (by omega) ?_ | refine guard_neg (by omega) ?_ | refine cond_ifn ?_ ?_ | refine cond_waysn ?_ ?_ | refine guard_ifn ?_ ?_ | refine guard_waysn ?_ ?_ | refine cond_if ?_ ?_ | refine cond_ways ?_ ?_ | refine guard_if ?_ ?_ | refine guard_ways ?_ ?_) <;> intro _) | (((with_reducible refine call_id ?_); (first | (refine call_pure (hl) ?_) | (refine call_pure (cG) ?_) | (refine call_pure (c1) ?_) | (refine call_pure (c2) ?_) | (refine call_pure (c3) ?_) | (refine call_pure (c4) ?_) | (refine call_pure (c5) ?_) | (refine call_pure (c6) ?_) | (refine call_pure (c7) ?_) | (refine call_pure (c8) ?_) | (refine call_pure (c10) ?_)))) | simp (maxSteps := 1000000) (disch := omega) only [go_sem, Nat.reduceAdd, Nat.reduceMul, Nat.reduceSub, Nat.reduceLeDiff, Nat.reduceEqDiff, Nat.reduceBEq, ↓reduceIte, reduceCtorEq, Int.reduceEq, Int.reduceLE, Int.reduceLT, Int.reduceAdd, Int.reduceSub, Int.reduceNeg, Int.reduceToNat, Int.reduceNe, Nat.reducePow, Nat.reduceShiftRight, Nat.reduceMod, mc_law06_BindOccurs, *])
              all_goals (refine fin_tmp (.inr rfl) ?_; (first | rfl | (simp (disch := omega) only [go_sem, Nat.reduceMul, Nat.reduceSub, Nat.reduceShiftRight, Nat.reduceMod, Nat.reduceEqDiff, Nat.reduceAdd, ↓reduceIte, Nat.reduceLeDiff, *]; done) | (simp [upd, *]; done) | (simp [upd, *]; omega)))
        | false =>
          rw [hlv] at c8
          rw [occ_self ho hlv] at c7
          simp only [optT] at c7
          clear ho hlv hou hgo
          rcases hcs with h | ⟨h, h2⟩ | ⟨h, h2, h3⟩
          all_goals
            try rw [h3] at c10
            repeat' (first | ((with_reducible first | refine cond_pos (by omega) ?_ | refine cond_neg (by omega) ?_ | refine guard_pos (by omega) ?_ | refine guard_neg (by omega) ?_ | refine cond_ifn ?_ ?_ | refine cond_waysn ?_ ?_ | refine guard_ifn ?_ ?_ | refine guard_waysn ?_ ?_ | refine cond_if ?_ ?_ | refine cond_ways ?_ ?_ | refine guard_if ?_ ?_ | refine guard_ways ?_ ?_) <;> intro _) | (((with_reducible refine call_id ?_); (first | (refine call_pure (hl) ?_) | (refine call_pure (cG) ?_) | (refine call_pure (c1) ?_) | (refine call_pure (c2) ?_) | (refine call_pure (c3) ?_) | (refine call_pure (c4) ?_) | (refine call_pure (c5) ?_) | (refine call_pure (c6) ?_) | (refine call_pure (c7) ?_) | (refine call_pure (c8) ?_) | (refine call_pure (c9) ?_) | (refine call_pure (c10) ?_)))) | simp (maxSteps := 1000000) (disch := omega) only [go_sem, Nat.reduceAdd, Nat.reduceMul, Nat.reduceSub, Nat.reduceLeDiff, Nat.reduceEqDiff, Nat.reduceBEq, ↓reduceIte, reduceCtorEq, Int.reduceEq, Int.reduceLE, Int.reduceLT, Int.reduceAdd, Int.reduceSub, Int.reduceNeg, Int.reduceToNat, Int.reduceNe, Nat.reducePow, Nat.reduceShiftRight, Nat.reduceMod, mc_law06_BindOccurs, *])
            all_goals (refine fin_tmp (.inr rfl) ?_; (first | rfl | (simp (disch := omega) only [go_sem, Nat.reduceMul, Nat.reduceSub, Nat.reduceShiftRight, Nat.reduceMod, Nat.reduceEqDiff, Nat.reduceAdd, ↓reduceIte, Nat.reduceLeDiff, *]; done) | (simp [upd, *]; done) | (simp [upd, *]; omega)))
theorem BindOccurs_p (t u : {t : Tm // t.fits}) (name : ByteArray) : PPure Try.prog F.law06_BindOccurs [.agg t.1.pv, .agg u.1.pv, .sc (.string name)] (.sc (.bool true)) := BindOccurs_w t.1 t.2 u.1 u.2 name
end
end Go.Proofs.Ytfhblaggeahbjaa
