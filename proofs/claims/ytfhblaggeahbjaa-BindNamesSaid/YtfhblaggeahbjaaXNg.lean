/-
  Plain values: ToL, TpA, TpD.
-/
import Derived.Test.YtfhblaggeahbjaaXNa
import Derived.Test.YtfhblaggeahbjaaXNb
import Derived.Test.YtfhblaggeahbjaaXNc
import Derived.Test.YtfhblaggeahbjaaXNd
import Derived.Test.YtfhblaggeahbjaaXNe
import Derived.Test.YtfhblaggeahbjaaXNf
set_option linter.unusedVariables false
set_option linter.unusedSimpArgs false
namespace Go.Proofs.Ytfhblaggeahbjaa
open Go.RowKit
attribute [local go_sem ↓] c_seq c_region c_cond c_block c_ret c_skip c_exit c_cont t_normal t_ret t_exit b_normal b_ret b_exit run_nil run_cons g_some o_mv o_pick o_bin o_un o_ld o_ldf o_bld o_len o_mkf o_nilc o_fa o_fd o_ia o_iaa o_ix o_ixs o_ext o_al o_bxf o_bxt o_bsl o_bslf o_mks o_st o_stf o_call o_rng o_nxt o_callm o_calvm o_calv cond_true cond_false upd_get sigF_cons o_eqa o_mm o_app o_slc
attribute [local go_sem] num_nil num_cons isP chunks rngV next_is next_iter val_some new_some st_some stf_some guard_tt guard_ff guard_tf guard_ft guard_un calv_fn put_some put_none ev_tmp ev_const ev_func sig_eq sigF_nil q0 q1 nilcV faV fdV iaV iaaV ixV ixsV extV mksV loadP storeP lenPV binPV unPV intBin partsP fillP zeros PV.good PV.cellsOf PV.one q2 q3 q4 q5 q6 q7 q8 q9 q10 q11 q12 q13 q14 q15 q16 q17 q18 q19 q20 q21 q22 q23 q24 q25 q26 q27 q28 q29 q30 q31 q32 q33 q34 q35 q36 q37 q38 wrap64 app_some mmL mmV mm2 eqE eqParts eqInt eqBool eqStr partV q39 q40 pickV q41 q42 q43 q44 q45 q46 q47 q48 q49 appE oldOf rowOf updL q50 q51 q52 q53 zlt ovr_get ite_neN ite_eqN q54 q55 q56 q57 q58 q59 q60 q61 q62 q63 q64 q65 q66 q67 tailP_f tailP_t tailF_f tailF_t slcP bndO capO slcLen intOf Option.isSome_none Option.isNone_none Option.isSome_some Option.isNone_some nilP slc_sl slc_csl slc_osl slc_osl0 slc_ocap slc_str List.append_nil List.length_append resP resPs resP1 PV.sc.injEq Value.bool.injEq Value.int.injEq
section
set_option maxRecDepth 20000
attribute [local go_sem] pv_len pv_take Nat.add_assoc tm_len tm_take pv_one tm_one tpvB_len tpvB_take tpvB_one pvB_len pvB_take pvB_one id_ne id_ne' id_ne2 List.append_assoc tm_take_app tm_drop_app tm_take10 tm_drop10 tm_drop15 tm_drop
theorem constant6_p (s : ByteArray) : PPure Try.prog F.law06_constant [.sc (.string s)] (.agg (conT s).pv) := by
  refine pure_by is_law06_constant (by simp) (by simp [PV.imm, tm_imm]) fun hb nx => ?_
  repeat' (first | ((with_reducible first | refine cond_pos (by omega) ?_ | refine cond_neg (by omega) ?_ | refine guard_pos (by omega) ?_ | refine guard_neg (by omega) ?_ | refine cond_ifn ?_ ?_ | refine cond_waysn ?_ ?_ | refine guard_ifn ?_ ?_ | refine guard_waysn ?_ ?_ | refine cond_if ?_ ?_ | refine cond_ways ?_ ?_ | refine guard_if ?_ ?_ | refine guard_ways ?_ ?_) <;> intro _) | simp (maxSteps := 1000000) (disch := omega) only [go_sem, Nat.reduceAdd, Nat.reduceMul, Nat.reduceSub, Nat.reduceLeDiff, Nat.reduceEqDiff, Nat.reduceBEq, ↓reduceIte, reduceCtorEq, Int.reduceEq, Int.reduceLE, Int.reduceLT, Int.reduceAdd, Int.reduceSub, Int.reduceNeg, Int.reduceToNat, Int.reduceNe, Nat.reducePow, Nat.reduceShiftRight, Nat.reduceMod, mc_law06_constant, *])
  refine fin_ret (r0 := .agg [.sc (.int .i64 3), .sc (.int .i64 0), .sc (.string s), .sc (.slice none 0 0), .sc (.slice none 0 0)]) 2 (by (simp (disch := omega) only [go_sem, Nat.reduceMul, Nat.reduceSub, Nat.reduceShiftRight, Nat.reduceMod, Nat.reduceEqDiff, Nat.reduceAdd, ↓reduceIte, Nat.reduceLeDiff, *]); all_goals rfl) ?_
  rw [frz_agg1]
  simp only [List.map_cons, List.map_nil, frz_sc1, Tm.pv, conT]
  exact Weak.agg ⟨.refl _, .refl _, .refl _, .nil 3, .nil 5, trivial⟩
theorem variable6_p (n : Int) : PPure Try.prog F.law06_variable [.sc (.int .i64 n)] (.agg (varT n).pv) := by
  refine pure_by is_law06_variable (by simp) (by simp [PV.imm, tm_imm]) fun hb nx => ?_
  repeat' (first | ((with_reducible first | refine cond_pos (by omega) ?_ | refine cond_neg (by omega) ?_ | refine guard_pos (by omega) ?_ | refine guard_neg (by omega) ?_ | refine cond_ifn ?_ ?_ | refine cond_waysn ?_ ?_ | refine guard_ifn ?_ ?_ | refine guard_waysn ?_ ?_ | refine cond_if ?_ ?_ | refine cond_ways ?_ ?_ | refine guard_if ?_ ?_ | refine guard_ways ?_ ?_) <;> intro _) | simp (maxSteps := 1000000) (disch := omega) only [go_sem, Nat.reduceAdd, Nat.reduceMul, Nat.reduceSub, Nat.reduceLeDiff, Nat.reduceEqDiff, Nat.reduceBEq, ↓reduceIte, reduceCtorEq, Int.reduceEq, Int.reduceLE, Int.reduceLT, Int.reduceAdd, Int.reduceSub, Int.reduceNeg, Int.reduceToNat, Int.reduceNe, Nat.reducePow, Nat.reduceShiftRight, Nat.reduceMod, mc_law06_variable, *])
  refine fin_ret (r0 := .agg [.sc (.int .i64 1), .sc (.int .i64 n), .sc (.string ⟨#[]⟩), .sc (.slice none 0 0), .sc (.slice none 0 0)]) 2 (by (simp (disch := omega) only [go_sem, Nat.reduceMul, Nat.reduceSub, Nat.reduceShiftRight, Nat.reduceMod, Nat.reduceEqDiff, Nat.reduceAdd, ↓reduceIte, Nat.reduceLeDiff, *]); all_goals rfl) ?_
  rw [frz_agg1]
  simp only [List.map_cons, List.map_nil, frz_sc1, Tm.pv, varT]
  exact Weak.agg ⟨.refl _, .refl _, .refl _, .nil 3, .nil 5, trivial⟩
def app6 (x y : Tm) : Tm := .mk 4 0 emp [] [x, y]
def lam6 (x y : Tm) : Tm := .mk 5 0 emp [] [x, y]
theorem app6_p (x y : Tm) : PPure Try.prog F.law06_app [.agg x.pv, .agg y.pv] (.agg (app6 x y).pv) := by
  refine pure_by is_law06_app (by simp) (by simp [PV.imm, tm_imm]) fun hb nx => ?_
  repeat' (first | ((with_reducible first | refine cond_pos (by omega) ?_ | refine cond_neg (by omega) ?_ | refine guard_pos (by omega) ?_ | refine guard_neg (by omega) ?_ | refine cond_ifn ?_ ?_ | refine cond_waysn ?_ ?_ | refine guard_ifn ?_ ?_ | refine guard_waysn ?_ ?_ | refine cond_if ?_ ?_ | refine cond_ways ?_ ?_ | refine guard_if ?_ ?_ | refine guard_ways ?_ ?_) <;> intro _) | simp (maxSteps := 1000000) (disch := omega) only [go_sem, Nat.reduceAdd, Nat.reduceMul, Nat.reduceSub, Nat.reduceLeDiff, Nat.reduceEqDiff, Nat.reduceBEq, ↓reduceIte, reduceCtorEq, Int.reduceEq, Int.reduceLE, Int.reduceLT, Int.reduceAdd, Int.reduceSub, Int.reduceNeg, Int.reduceToNat, Int.reduceNe, Nat.reducePow, Nat.reduceShiftRight, Nat.reduceMod, mc_law06_app, *])
  refine fin_ret (r0 := .agg [.sc (.int .i64 4), .sc (.int .i64 0), .sc (.string ⟨#[]⟩), .sc (.slice none 0 0), .sl 5 [x.pv, y.pv]]) 2 (by (simp (disch := omega) only [go_sem, Nat.reduceMul, Nat.reduceSub, Nat.reduceShiftRight, Nat.reduceMod, Nat.reduceEqDiff, Nat.reduceAdd, ↓reduceIte, Nat.reduceLeDiff, *]); all_goals rfl) ?_
  rw [frz_agg1]
  simp only [List.map_cons, List.map_nil, frz_sc1, frz_sl, Tm.pv, app6]
  exact Weak.agg ⟨.refl _, .refl _, .refl _, .nil 3, .refl _, trivial⟩
theorem lam6_p (x y : Tm) : PPure Try.prog F.law06_lam [.agg x.pv, .agg y.pv] (.agg (lam6 x y).pv) := by
  refine pure_by is_law06_lam (by simp) (by simp [PV.imm, tm_imm]) fun hb nx => ?_
  repeat' (first | ((with_reducible first | refine cond_pos (by omega) ?_ | refine cond_neg (by omega) ?_ | refine guard_pos (by omega) ?_ | refine guard_neg (by omega) ?_ | refine cond_ifn ?_ ?_ | refine cond_waysn ?_ ?_ | refine guard_ifn ?_ ?_ | refine guard_waysn ?_ ?_ | refine cond_if ?_ ?_ | refine cond_ways ?_ ?_ | refine guard_if ?_ ?_ | refine guard_ways ?_ ?_) <;> intro _) | simp (maxSteps := 1000000) (disch := omega) only [go_sem, Nat.reduceAdd, Nat.reduceMul, Nat.reduceSub, Nat.reduceLeDiff, Nat.reduceEqDiff, Nat.reduceBEq, ↓reduceIte, reduceCtorEq, Int.reduceEq, Int.reduceLE, Int.reduceLT, Int.reduceAdd, Int.reduceSub, Int.reduceNeg, Int.reduceToNat, Int.reduceNe, Nat.reducePow, Nat.reduceShiftRight, Nat.reduceMod, mc_law06_lam, *])
  refine fin_ret (r0 := .agg [.sc (.int .i64 5), .sc (.int .i64 0), .sc (.string ⟨#[]⟩), .sc (.slice none 0 0), .sl 5 [x.pv, y.pv]]) 2 (by (simp (disch := omega) only [go_sem, Nat.reduceMul, Nat.reduceSub, Nat.reduceShiftRight, Nat.reduceMod, Nat.reduceEqDiff, Nat.reduceAdd, ↓reduceIte, Nat.reduceLeDiff, *]); all_goals rfl) ?_
  rw [frz_agg1]
  simp only [List.map_cons, List.map_nil, frz_sc1, frz_sl, Tm.pv, lam6]
  exact Weak.agg ⟨.refl _, .refl _, .refl _, .nil 3, .refl _, trivial⟩
def A6 : Tm := conT bA
def B6 : Tm := conT bB
def W0 : Tm := varT 0
def W1 : Tm := varT 1
def W3 : Tm := varT 3
def W4 : Tm := varT 4
def W10 : Tm := app6 W1 W0
def AB6 : Tm := app6 A6 B6
def W01 : Tm := app6 W0 W1
def Z6 : Tm := lam6 W0 W01
def W04 : Tm := app6 W0 W4
def Y6 : Tm := lam6 W3 W04
def AA6 : Tm := lam6 A6 A6
def R6 : Tm := lam6 W0 W1
theorem e6_r1 : W10.right 4 1125899906842624 = true := by simp [Tm.right, Tm.formed, formedA, hasB, constB, headR, Lv.right, Lv.formed, formedL, Lv.nodes, nodesL, Tm.nodes, nodesT, deepB, noS_emp, nb_A, nb_B, W10, app6, W1, W0, varT]
theorem e6_r2 : A6.right 4 1125899906842624 = true := by simp [Tm.right, Tm.formed, formedA, hasB, constB, headR, Lv.right, Lv.formed, formedL, Lv.nodes, nodesL, Tm.nodes, nodesT, deepB, noS_emp, nb_A, nb_B, A6, conT]
theorem e6_r3 : B6.right 4 1125899906842624 = true := by simp [Tm.right, Tm.formed, formedA, hasB, constB, headR, Lv.right, Lv.formed, formedL, Lv.nodes, nodesL, Tm.nodes, nodesT, deepB, noS_emp, nb_A, nb_B, B6, conT]
theorem e6_r4 : AB6.right 4 1125899906842624 = true := by simp [Tm.right, Tm.formed, formedA, hasB, constB, headR, Lv.right, Lv.formed, formedL, Lv.nodes, nodesL, Tm.nodes, nodesT, deepB, noS_emp, nb_A, nb_B, AB6, app6, A6, B6, conT]
theorem e6_r5 : Z6.right 4 1125899906842624 = true := by simp [Tm.right, Tm.formed, formedA, hasB, constB, headR, Lv.right, Lv.formed, formedL, Lv.nodes, nodesL, Tm.nodes, nodesT, deepB, noS_emp, nb_A, nb_B, Z6, W01, lam6, app6, W1, W0, varT]
theorem e6_r6 : W3.right 4 1125899906842624 = true := by simp [Tm.right, Tm.formed, formedA, hasB, constB, headR, Lv.right, Lv.formed, formedL, Lv.nodes, nodesL, Tm.nodes, nodesT, deepB, noS_emp, nb_A, nb_B, W3, varT]
theorem e6_r7 : W1.right 4 1125899906842624 = true := by simp [Tm.right, Tm.formed, formedA, hasB, constB, headR, Lv.right, Lv.formed, formedL, Lv.nodes, nodesL, Tm.nodes, nodesT, deepB, noS_emp, nb_A, nb_B, W1, varT]
theorem e6_r8 : AA6.right 4 1125899906842624 = true := by simp [Tm.right, Tm.formed, formedA, hasB, constB, headR, Lv.right, Lv.formed, formedL, Lv.nodes, nodesL, Tm.nodes, nodesT, deepB, noS_emp, nb_A, nb_B, AA6, lam6, A6, conT]
theorem e6_r9 : W0.right 4 1125899906842624 = true := by simp [Tm.right, Tm.formed, formedA, hasB, constB, headR, Lv.right, Lv.formed, formedL, Lv.nodes, nodesL, Tm.nodes, nodesT, deepB, noS_emp, nb_A, nb_B, W0, varT]
theorem e6_r10 : Y6.right 4 1125899906842624 = true := by simp [Tm.right, Tm.formed, formedA, hasB, constB, headR, Lv.right, Lv.formed, formedL, Lv.nodes, nodesL, Tm.nodes, nodesT, deepB, noS_emp, nb_A, nb_B, Y6, W04, lam6, app6, W3, W4, W0, varT]
theorem bAB : bA ≠ bB := by decide
theorem e6_inst : instR W10 [A6, B6] = some AB6 := by
  unfold instR
  rw [if_pos ⟨e6_r1, by simp [e6_r2, e6_r3]⟩]
  rfl
theorem e6_abs : absR AB6 [bA, bB] = some W10 := by
  unfold absR
  rw [if_pos e6_r4]
  have : AB6.fill (absL [bA, bB]) 0 = some W10 := by
    simp [AB6, app6, A6, B6, conT, Tm.fill, fillA, absL, firstAt, bAB, Tm.lift, liftA, varT, W10, W1, W0, deepB]
  rw [this]
  show (if W10.nodes ≤ 2000 then some W10 else none) = some W10
  exact if_pos (by decide)
theorem e6_lift : liftR Z6 3 0 = some Y6 := by
  unfold liftR
  rw [if_pos ⟨by decide, by decide, by decide, by decide, e6_r5⟩]
  simp [Z6, W01, lam6, app6, W1, W0, varT, Tm.lift, liftA, deepB, Y6, W04, W3, W4]
theorem e6_low : lowR W3 2 = some W1 := by
  unfold lowR
  rw [if_pos ⟨by decide, by decide, e6_r6⟩]
  rfl
theorem e6_low2 : lowR W1 2 = none := by
  unfold lowR
  rw [if_pos ⟨by decide, by decide, e6_r7⟩]
  rfl
theorem e6_repl : replR AA6 bA W0 = some R6 := by
  unfold replR
  rw [if_pos ⟨e6_r8, e6_r9⟩]
  have : AA6.fill (swapL bA W0) 0 = some R6 := by
    simp [AA6, lam6, A6, conT, Tm.fill, fillA, swapL, Tm.lift, liftA, varT, W0, W1, R6, deepB]
  rw [this]
  show (if R6.nodes ≤ 2000 then some R6 else none) = some R6
  exact if_pos (by decide)
theorem e6_count : countR Y6 3 = 2 := by
  unfold countR
  rw [if_pos ⟨by decide, e6_r10⟩]
  simp [Y6, W04, lam6, app6, W3, W4, W0, varT, Tm.cnt, cntA, varL, deepB]
theorem e6_occ : occR AB6 bA = true := by
  unfold occR
  rw [e6_r4]
  simp [AB6, app6, A6, B6, conT, Tm.cnt, cntA, conL, bAB.symm]
theorem e6_occ2 : occR AB6 ⟨#[99]⟩ = false := by
  unfold occR
  rw [e6_r4]
  simp [AB6, app6, A6, B6, conT, Tm.cnt, cntA, conL, bA, bB]
theorem same6 (x : Tm) : PPure Try.prog F.ref00_SameTerm [.agg x.pv, .agg x.pv] (.sc (.bool true)) := by
  have := SameTerm_p x.size x x (Nat.le_refl _)
  rwa [(tsame_iff x x).2 rfl] at this
set_option maxHeartbeats 8000000 in
theorem alive6_p : PPure Try.prog F.law06_alive [] (.sc (.bool true)) := by
  have c1 : PPure Try.prog F.law06_constant [.sc (.string ⟨#[97]⟩)] (.agg A6.pv) := constant6_p bA
  have c2 : PPure Try.prog F.law06_constant [.sc (.string ⟨#[98]⟩)] (.agg B6.pv) := constant6_p bB
  have c3 : PPure Try.prog F.law06_variable [.sc (.int .i64 0)] (.agg W0.pv) := variable6_p 0
  have c4 : PPure Try.prog F.law06_variable [.sc (.int .i64 1)] (.agg W1.pv) := variable6_p 1
  have c5 : PPure Try.prog F.law06_variable [.sc (.int .i64 3)] (.agg W3.pv) := variable6_p 3
  have c6 : PPure Try.prog F.law06_variable [.sc (.int .i64 4)] (.agg W4.pv) := variable6_p 4
  have c7 : PPure Try.prog F.law06_app [.agg W1.pv, .agg W0.pv] (.agg W10.pv) := app6_p W1 W0
  have c8 : PPure Try.prog F.law06_app [.agg A6.pv, .agg B6.pv] (.agg AB6.pv) := app6_p A6 B6
  have c9 : PPure Try.prog F.law06_app [.agg W0.pv, .agg W1.pv] (.agg W01.pv) := app6_p W0 W1
  have c10 : PPure Try.prog F.law06_app [.agg W0.pv, .agg W4.pv] (.agg W04.pv) := app6_p W0 W4
  have c11 : PPure Try.prog F.law06_lam [.agg W0.pv, .agg W01.pv] (.agg Z6.pv) := lam6_p W0 W01
  have c12 : PPure Try.prog F.law06_lam [.agg W3.pv, .agg W04.pv] (.agg Y6.pv) := lam6_p W3 W04
  have c13 : PPure Try.prog F.law06_lam [.agg A6.pv, .agg A6.pv] (.agg AA6.pv) := lam6_p A6 A6
  have c14 : PPure Try.prog F.law06_lam [.agg W0.pv, .agg W1.pv] (.agg R6.pv) := lam6_p W0 W1
  have c15 : PPure Try.prog F.bind_Inst [.agg W10.pv, .sl 5 [A6.pv, B6.pv]] (.tup [.agg AB6.pv, .sc (.bool true)]) := by
    have := bind_Inst_p W10 [A6, B6] (by decide)
    rw [e6_inst] at this
    exact this
  have c16 : PPure Try.prog F.bind_Abstract [.agg AB6.pv, .sl 1 [[.sc (.string ⟨#[97]⟩)], [.sc (.string ⟨#[98]⟩)]]] (.tup [.agg W10.pv, .sc (.bool true)]) := by
    have := bind_Abstract_p AB6 [bA, bB] (by decide)
    rw [e6_abs] at this
    exact this
  have c17 : PPure Try.prog F.bind_Lift [.agg Z6.pv, .sc (.int .i64 3), .sc (.int .i64 0)] (.tup [.agg Y6.pv, .sc (.bool true)]) := by
    have := bind_Lift_p Z6 3 0
    rw [e6_lift] at this
    exact this
  have c18 : PPure Try.prog F.bind_Lower [.agg W3.pv, .sc (.int .i64 2)] (.tup [.agg [.sc (.int .i64 1), .sc (.int .i64 1), .sc (.string ⟨#[]⟩), .sl 3 [], .sl 5 []], .sc (.bool true)]) := by
    have := bind_Lower_p W3 2
    rw [e6_low] at this
    have e : W1.pv = [.sc (.int .i64 1), .sc (.int .i64 1), .sc (.string ⟨#[]⟩), .sl 3 [], .sl 5 []] := by simp [W1, varT, Tm.pv]
    simp only [optT, e] at this
    exact this
  have c19 : PPure Try.prog F.bind_Lower [.agg W1.pv, .sc (.int .i64 2)] (.tup [.agg [.sc (.int .i64 0), .sc (.int .i64 0), .sc (.string ⟨#[]⟩), .sc (.slice none 0 0), .sc (.slice none 0 0)], .sc (.bool false)]) := by
    have := bind_Lower_p W1 2
    rw [e6_low2] at this
    exact this
  have c20 : PPure Try.prog F.bind_Replace [.agg AA6.pv, .sc (.string ⟨#[97]⟩), .agg W0.pv] (.tup [.agg R6.pv, .sc (.bool true)]) := by
    have := bind_Replace_p AA6 bA W0
    rw [e6_repl] at this
    exact this
  have c21 : PPure Try.prog F.bind_Uses [.agg Y6.pv, .sc (.int .i64 3)] (.sc (.bool true)) := by
    have := bind_Uses_p Y6 3
    rw [e6_count] at this
    exact this
  have c22 : PPure Try.prog F.bind_Count [.agg Y6.pv, .sc (.int .i64 3)] (.sc (.int .i64 2)) := by
    have := bind_Count_p Y6 3
    rw [e6_count] at this
    exact this
  have c23 : PPure Try.prog F.bind_Occurs [.agg AB6.pv, .sc (.string ⟨#[97]⟩)] (.sc (.bool true)) := by
    have := bind_Occurs_p AB6 bA
    rw [e6_occ] at this
    exact this
  have c24 : PPure Try.prog F.bind_Occurs [.agg AB6.pv, .sc (.string ⟨#[99]⟩)] (.sc (.bool false)) := by
    have := bind_Occurs_p AB6 ⟨#[99]⟩
    rw [e6_occ2] at this
    exact this
  refine pure_by is_law06_alive (by simp) rfl fun hb nx => ?_
  clear hb
  repeat' (first | ((with_reducible first | refine cond_pos (by omega) ?_ | refine cond_neg (by omega) ?_ | refine guard_pos (by omega) ?_ | refine guard_neg (by omega) ?_ | refine cond_ifn ?_ ?_ | refine cond_waysn ?_ ?_ | refine guard_ifn ?_ ?_ | refine guard_waysn ?_ ?_ | refine cond_if ?_ ?_ | refine cond_ways ?_ ?_ | refine guard_if ?_ ?_ | refine guard_ways ?_ ?_) <;> intro _) | (((with_reducible refine call_id ?_); (first | (refine call_pure (c1) ?_) | (refine call_pure (c2) ?_) | (refine call_pure (c3) ?_) | (refine call_pure (c4) ?_) | (refine call_pure (c5) ?_) | (refine call_pure (c6) ?_) | (refine call_pure (c7) ?_) | (refine call_pure (c8) ?_) | (refine call_pure (c9) ?_) | (refine call_pure (c10) ?_) | (refine call_pure (c11) ?_) | (refine call_pure (c12) ?_) | (refine call_pure (c13) ?_) | (refine call_pure (c14) ?_) | (refine call_pure (c15) ?_) | (refine call_pure (c16) ?_) | (refine call_pure (c17) ?_) | (refine call_pure (c18) ?_) | (refine call_pure (c19) ?_) | (refine call_pure (c20) ?_) | (refine call_pure (c21) ?_) | (refine call_pure (c22) ?_) | (refine call_pure (c23) ?_) | (refine call_pure (c24) ?_) | (refine call_pure (same6 AB6) ?_) | (refine call_pure (same6 W10) ?_) | (refine call_pure (same6 Y6) ?_) | (refine call_pure (same6 R6) ?_)))) | simp (maxSteps := 1000000) (disch := omega) only [go_sem, Nat.reduceAdd, Nat.reduceMul, Nat.reduceSub, Nat.reduceLeDiff, Nat.reduceEqDiff, Nat.reduceBEq, ↓reduceIte, reduceCtorEq, Int.reduceEq, Int.reduceLE, Int.reduceLT, Int.reduceAdd, Int.reduceSub, Int.reduceNeg, Int.reduceToNat, Int.reduceNe, Nat.reducePow, Nat.reduceShiftRight, Nat.reduceMod, mc_law06_alive, strBin, beq_self_eq_true, *])
  all_goals (refine fin_tmp (.inr rfl) ?_; simp [upd])
theorem lvldA_take (name : ByteArray) : ∀ (xs : List Tm) (i : Nat) (h : i < xs.length), lvldA name (xs.take (i + 1)) = (lvldA name (xs.take i) || xs[i].lvld name)
  | x :: r, 0, h => by simp [lvldA]
  | x :: r, i + 1, h => by
    have := lvldA_take name r i (by simpa using h)
    simp only [List.take_succ_cons, lvldA, List.getElem_cons_succ, this, Bool.or_assoc]
theorem lvldA_mem (name : ByteArray) : ∀ (xs : List Tm) (i : Nat) (h : i < xs.length), xs[i].lvld name = true → lvldA name xs = true
  | x :: r, 0, h, e => by simp only [List.getElem_cons_zero] at e; simp [lvldA, e]
  | x :: r, i + 1, h, e => by
    have := lvldA_mem name r i (by simpa using h) (by simpa using e)
    simp [lvldA, this]
set_option maxHeartbeats 8000000 in
theorem leveled6_p (name : ByteArray) : ∀ (fuel : Nat) (t : Tm), t.size ≤ fuel → PPure Try.prog F.law06_leveled [.agg t.pv, .sc (.string name)] (.sc (.bool (t.lvld name))) := by
  intro fuel
  induction fuel with
  | zero => intro t h; have := size_pos t; omega
  | succ fuel ih =>
    intro t hf
    cases t with
    | mk kind n s ls args =>
    simp only [Tm.size] at hf
    refine pure_by is_law06_leveled (by simp) rfl fun hb nx => ?_
    have hb0 : ls.length ≤ 9223372036854775807 ∧ args.length ≤ 9223372036854775807 := by simp [Tm.pv, bndL, PV.bnd] at hb; exact ⟨hb.1.1, hb.2.1⟩
    clear hb
    have hih := Kept.mk ih
    clear ih
    simp only [Tm.pv]
    by_cases h : kind = 3 ∧ s = name ∧ 0 < ls.length
    · have e : (Tm.mk kind n s ls args).lvld name = true := by simp [Tm.lvld, h]
      rw [e]
      obtain ⟨rfl, h2, h3⟩ := h
      clear e
      repeat' (first | ((with_reducible first | refine cond_pos (by omega) ?_ | refine cond_neg (by omega) ?_ | refine guard_pos (by omega) ?_ | refine guard_neg (by omega) ?_ | refine cond_ifn ?_ ?_ | refine cond_waysn ?_ ?_ | refine guard_ifn ?_ ?_ | refine guard_waysn ?_ ?_ | refine cond_if ?_ ?_ | refine cond_ways ?_ ?_ | refine guard_if ?_ ?_ | refine guard_ways ?_ ?_) <;> intro _) | simp (maxSteps := 1000000) (disch := omega) only [go_sem, Nat.reduceAdd, Nat.reduceMul, Nat.reduceSub, Nat.reduceLeDiff, Nat.reduceEqDiff, Nat.reduceBEq, ↓reduceIte, reduceCtorEq, Int.reduceEq, Int.reduceLE, Int.reduceLT, Int.reduceAdd, Int.reduceSub, Int.reduceNeg, Int.reduceToNat, Int.reduceNe, Nat.reducePow, Nat.reduceShiftRight, Nat.reduceMod, mc_law06_leveled, strBin, bytes_eq, *])
      all_goals (refine fin_tmp (.inr rfl) ?_; (first | rfl | (simp (disch := omega) only [go_sem, Nat.reduceMul, Nat.reduceSub, Nat.reduceShiftRight, Nat.reduceMod, Nat.reduceEqDiff, Nat.reduceAdd, ↓reduceIte, Nat.reduceLeDiff, *]; done) | (simp [upd, *]; done) | (simp [upd, *]; omega)))
    · have e : (Tm.mk kind n s ls args).lvld name = lvldA name args := by
        simp only [Tm.lvld]
        rw [← Bool.decide_and, decide_eq_false (fun h2 => h ⟨h2.1.1, h2.1.2, h2.2⟩), Bool.false_or]
      rw [e]
      clear e
      have h9 : ¬ kind = 3 ∨ (kind = 3 ∧ ¬ s = name) ∨ (kind = 3 ∧ s = name ∧ ls.length = 0) := by
        by_cases h1 : kind = 3
        · by_cases h2 : s = name
          · exact .inr (.inr ⟨h1, h2, Nat.eq_zero_of_not_pos fun h3 => h ⟨h1, h2, h3⟩⟩)
          · exact .inr (.inl ⟨h1, h2⟩)
        · exact .inl h1
      clear h
      rcases h9 with h1 | ⟨rfl, h2⟩ | ⟨rfl, h2, h3⟩
      all_goals
        repeat' (first | ((with_reducible first | refine cond_pos (by omega) ?_ | refine cond_neg (by omega) ?_ | refine guard_pos (by omega) ?_ | refine guard_neg (by omega) ?_ | refine cond_ifn ?_ ?_ | refine cond_waysn ?_ ?_ | refine guard_ifn ?_ ?_ | refine guard_waysn ?_ ?_ | refine cond_if ?_ ?_ | refine cond_ways ?_ ?_ | refine guard_if ?_ ?_ | refine guard_ways ?_ ?_) <;> intro _) | simp (maxSteps := 1000000) (disch := omega) only [go_sem, Nat.reduceAdd, Nat.reduceMul, Nat.reduceSub, Nat.reduceLeDiff, Nat.reduceEqDiff, Nat.reduceBEq, ↓reduceIte, reduceCtorEq, Int.reduceEq, Int.reduceLE, Int.reduceLT, Int.reduceAdd, Int.reduceSub, Int.reduceNeg, Int.reduceToNat, Int.reduceNe, Nat.reducePow, Nat.reduceShiftRight, Nat.reduceMod, mc_law06_leveled, strBin, bytes_eq, *])
        refine c_loopW 34357641264 (by kernel_rfl) (fun j f H m => ∃ i : Nat, j = args.length - i ∧ i ≤ args.length ∧ f 5 = .sc (.int .i64 i) ∧ Kept (lvldA name (args.take i) = false)) _ ⟨0, rfl, Nat.zero_le _, (by first | assumption | omega | rfl | (simp (disch := omega) only [go_sem, Nat.reduceMul, Nat.reduceSub, Nat.reduceShiftRight, Nat.reduceMod, Nat.reduceEqDiff, Nat.reduceAdd, ↓reduceIte, Nat.reduceLeDiff, *] <;> omega)), Kept.mk rfl⟩ ?_
        rintro _ f H m ⟨i, rfl, hi, e5, hl⟩
        by_cases hlt : i < args.length
        · have eg : args[i]? = some args[i] := List.getElem?_eq_getElem hlt
          have c1 := hih.out args[i] (by have := sizeL_mem args i hlt; omega)
          cases hx : args[i].lvld name with
          | true =>
            rw [lvldA_mem name args i hlt hx]
            rw [hx] at c1
            clear hx
            repeat' (first | ((with_reducible first | refine cond_pos (by omega) ?_ | refine cond_neg (by omega) ?_ | refine guard_pos (by omega) ?_ | refine guard_neg (by omega) ?_ | refine cond_ifn ?_ ?_ | refine cond_waysn ?_ ?_ | refine guard_ifn ?_ ?_ | refine guard_waysn ?_ ?_ | refine cond_if ?_ ?_ | refine cond_ways ?_ ?_ | refine guard_if ?_ ?_ | refine guard_ways ?_ ?_) <;> intro _) | (((with_reducible refine call_id ?_); (first | (refine call_pure (c1) ?_)))) | simp (maxSteps := 1000000) (disch := omega) only [go_sem, Nat.reduceAdd, Nat.reduceMul, Nat.reduceSub, Nat.reduceLeDiff, Nat.reduceEqDiff, Nat.reduceBEq, ↓reduceIte, reduceCtorEq, Int.reduceEq, Int.reduceLE, Int.reduceLT, Int.reduceAdd, Int.reduceSub, Int.reduceNeg, Int.reduceToNat, Int.reduceNe, Nat.reducePow, Nat.reduceShiftRight, Nat.reduceMod, *])
            all_goals (refine fin_tmp (.inr rfl) ?_; (first | rfl | (simp (disch := omega) only [go_sem, Nat.reduceMul, Nat.reduceSub, Nat.reduceShiftRight, Nat.reduceMod, Nat.reduceEqDiff, Nat.reduceAdd, ↓reduceIte, Nat.reduceLeDiff, *]; done) | (simp [upd, *]; done) | (simp [upd, *]; omega)))
          | false =>
            have hl2 : Kept (lvldA name (args.take (i + 1)) = false) := Kept.mk (by rw [lvldA_take name args i hlt, hl.out, hx]; rfl)
            rw [hx] at c1
            clear hx hl
            repeat' (first | ((with_reducible first | refine cond_pos (by omega) ?_ | refine cond_neg (by omega) ?_ | refine guard_pos (by omega) ?_ | refine guard_neg (by omega) ?_ | refine cond_ifn ?_ ?_ | refine cond_waysn ?_ ?_ | refine guard_ifn ?_ ?_ | refine guard_waysn ?_ ?_ | refine cond_if ?_ ?_ | refine cond_ways ?_ ?_ | refine guard_if ?_ ?_ | refine guard_ways ?_ ?_) <;> intro _) | (((with_reducible refine call_id ?_); (first | (refine call_pure (c1) ?_)))) | simp (maxSteps := 1000000) (disch := omega) only [go_sem, Nat.reduceAdd, Nat.reduceMul, Nat.reduceSub, Nat.reduceLeDiff, Nat.reduceEqDiff, Nat.reduceBEq, ↓reduceIte, reduceCtorEq, Int.reduceEq, Int.reduceLE, Int.reduceLT, Int.reduceAdd, Int.reduceSub, Int.reduceNeg, Int.reduceToNat, Int.reduceNe, Nat.reducePow, Nat.reduceShiftRight, Nat.reduceMod, *])
            exact Nx.mk (args.length - (i + 1)) (by first | assumption | omega | rfl | (simp (disch := omega) only [go_sem, Nat.reduceMul, Nat.reduceSub, Nat.reduceShiftRight, Nat.reduceMod, Nat.reduceEqDiff, Nat.reduceAdd, ↓reduceIte, Nat.reduceLeDiff, *] <;> omega)) ⟨i + 1, rfl, (by first | assumption | omega | rfl | (simp (disch := omega) only [go_sem, Nat.reduceMul, Nat.reduceSub, Nat.reduceShiftRight, Nat.reduceMod, Nat.reduceEqDiff, Nat.reduceAdd, ↓reduceIte, Nat.reduceLeDiff, *] <;> omega)), by simp [upd], hl2⟩
        · obtain rfl : i = args.length := by omega
          have hl2 := hl.out
          rw [List.take_length] at hl2
          rw [hl2]
          clear hl hl2
          repeat' (first | ((with_reducible first | refine cond_pos (by omega) ?_ | refine cond_neg (by omega) ?_ | refine guard_pos (by omega) ?_ | refine guard_neg (by omega) ?_ | refine cond_ifn ?_ ?_ | refine cond_waysn ?_ ?_ | refine guard_ifn ?_ ?_ | refine guard_waysn ?_ ?_ | refine cond_if ?_ ?_ | refine cond_ways ?_ ?_ | refine guard_if ?_ ?_ | refine guard_ways ?_ ?_) <;> intro _) | simp (maxSteps := 1000000) (disch := omega) only [go_sem, Nat.reduceAdd, Nat.reduceMul, Nat.reduceSub, Nat.reduceLeDiff, Nat.reduceEqDiff, Nat.reduceBEq, ↓reduceIte, reduceCtorEq, Int.reduceEq, Int.reduceLE, Int.reduceLT, Int.reduceAdd, Int.reduceSub, Int.reduceNeg, Int.reduceToNat, Int.reduceNe, Nat.reducePow, Nat.reduceShiftRight, Nat.reduceMod, *])
          all_goals (refine fin_tmp (.inr rfl) ?_; (first | rfl | (simp (disch := omega) only [go_sem, Nat.reduceMul, Nat.reduceSub, Nat.reduceShiftRight, Nat.reduceMod, Nat.reduceEqDiff, Nat.reduceAdd, ↓reduceIte, Nat.reduceLeDiff, *]; done) | (simp [upd, *]; done) | (simp [upd, *]; omega)))
end
section
set_option maxRecDepth 20000
attribute [local go_sem] pv_len pv_take Nat.add_assoc tm_len tm_take pv_one tm_one tpvB_len tpvB_take tpvB_one pvB_len pvB_take pvB_one id_ne id_ne' id_ne2 List.append_assoc tm_take_app tm_drop_app tm_take10 tm_drop10 tm_drop15 tm_drop
theorem looseT_right {t : Tm} (h : t.right 4 1125899906842624 = true) : looseT t = t.loose ∧ 0 ≤ t.loose := ⟨if_pos h, (loose_bd 4 t _ (by omega) (right_far h).1).1⟩
end
section
set_option maxRecDepth 20000
attribute [local go_sem] pv_len pv_take Nat.add_assoc tm_len tm_take pv_one tm_one tpvB_len tpvB_take tpvB_one pvB_len pvB_take pvB_one id_ne id_ne' id_ne2 List.append_assoc tm_take_app tm_drop_app tm_take10 tm_drop10 tm_drop15 tm_drop
def lenV : Int → List ByteArray → Int
  | v, [] => v
  | v, s :: r => if v ≤ 200 then lenV (IntKind.i64.wrap (v + IntKind.i64.wrap (1 + (s.size : Int)))) r else v
def lens6 (names : List ByteArray) : Int := if 200 < names.length then 201 else lenV 0 names
set_option maxHeartbeats 16000000 in
theorem Lengths6_p (names : List ByteArray) : PPure Try.prog F.ref00_Lengths [.sl 1 (names.map txt), .sc (.int .i64 200)] (.sc (.int .i64 (lens6 names))) := by
  refine pure_by is_ref00_Lengths (by simp) rfl fun hb nx => ?_
  have hb0 : names.length ≤ 9223372036854775807 := by simp [bndL, PV.bnd] at hb; exact hb.1
  clear hb
  unfold lens6
  by_cases h : 200 < names.length
  · rw [if_pos h]
    repeat' (first | ((with_reducible first | refine cond_pos (by omega) ?_ | refine cond_neg (by omega) ?_ | refine guard_pos (by omega) ?_ | refine guard_neg (by omega) ?_ | refine cond_ifn ?_ ?_ | refine cond_waysn ?_ ?_ | refine guard_ifn ?_ ?_ | refine guard_waysn ?_ ?_ | refine cond_if ?_ ?_ | refine cond_ways ?_ ?_ | refine guard_if ?_ ?_ | refine guard_ways ?_ ?_) <;> intro _) | simp (maxSteps := 1000000) (disch := omega) only [go_sem, Nat.reduceAdd, Nat.reduceMul, Nat.reduceSub, Nat.reduceLeDiff, Nat.reduceEqDiff, Nat.reduceBEq, ↓reduceIte, reduceCtorEq, Int.reduceEq, Int.reduceLE, Int.reduceLT, Int.reduceAdd, Int.reduceSub, Int.reduceNeg, Int.reduceToNat, Int.reduceNe, Nat.reducePow, Nat.reduceShiftRight, Nat.reduceMod, mc_ref00_Lengths, *])
    all_goals (refine fin_tmp (.inr rfl) ?_; (first | rfl | (simp (disch := omega) only [go_sem, Nat.reduceMul, Nat.reduceSub, Nat.reduceShiftRight, Nat.reduceMod, Nat.reduceEqDiff, Nat.reduceAdd, ↓reduceIte, Nat.reduceLeDiff, *]; done) | (simp [upd, *]; done) | (simp [upd, *]; omega)))
  rw [if_neg h]
  repeat' (first | ((with_reducible first | refine cond_pos (by omega) ?_ | refine cond_neg (by omega) ?_ | refine guard_pos (by omega) ?_ | refine guard_neg (by omega) ?_ | refine cond_ifn ?_ ?_ | refine cond_waysn ?_ ?_ | refine guard_ifn ?_ ?_ | refine guard_waysn ?_ ?_ | refine cond_if ?_ ?_ | refine cond_ways ?_ ?_ | refine guard_if ?_ ?_ | refine guard_ways ?_ ?_) <;> intro _) | simp (maxSteps := 1000000) (disch := omega) only [go_sem, Nat.reduceAdd, Nat.reduceMul, Nat.reduceSub, Nat.reduceLeDiff, Nat.reduceEqDiff, Nat.reduceBEq, ↓reduceIte, reduceCtorEq, Int.reduceEq, Int.reduceLE, Int.reduceLT, Int.reduceAdd, Int.reduceSub, Int.reduceNeg, Int.reduceToNat, Int.reduceNe, Nat.reducePow, Nat.reduceShiftRight, Nat.reduceMod, mc_ref00_Lengths, *])
  refine c_loopW 4294959200 (by kernel_rfl) (fun j f H m => ∃ (i : Nat) (v : Int), j = names.length - i ∧ i ≤ names.length ∧ f 6 = .sc (.int .i64 i) ∧ f 5 = .sc (.int .i64 v) ∧ Kept (lenV v (names.drop i) = lenV 0 names)) _ ⟨0, 0, rfl, Nat.zero_le _, (by first | assumption | omega | rfl | (simp (disch := omega) only [go_sem, Nat.reduceMul, Nat.reduceSub, Nat.reduceShiftRight, Nat.reduceMod, Nat.reduceEqDiff, Nat.reduceAdd, ↓reduceIte, Nat.reduceLeDiff, *] <;> omega)), (by first | assumption | omega | rfl | (simp (disch := omega) only [go_sem, Nat.reduceMul, Nat.reduceSub, Nat.reduceShiftRight, Nat.reduceMod, Nat.reduceEqDiff, Nat.reduceAdd, ↓reduceIte, Nat.reduceLeDiff, *] <;> omega)), Kept.mk rfl⟩ ?_
  rintro _ f H m ⟨i, v, rfl, hi, e6, e5, hv⟩
  by_cases hlt : i < names.length
  · have eg : names[i]? = some names[i] := List.getElem?_eq_getElem hlt
    have hv2 := hv.out
    rw [List.drop_eq_getElem_cons hlt, lenV] at hv2
    by_cases hle : v ≤ 200
    · rw [if_pos hle] at hv2
      have hvk := Kept.mk hv2
      clear hv hv2
      repeat' (first | ((with_reducible first | refine cond_pos (by omega) ?_ | refine cond_neg (by omega) ?_ | refine guard_pos (by omega) ?_ | refine guard_neg (by omega) ?_ | refine cond_ifn ?_ ?_ | refine cond_waysn ?_ ?_ | refine guard_ifn ?_ ?_ | refine guard_waysn ?_ ?_ | refine cond_if ?_ ?_ | refine cond_ways ?_ ?_ | refine guard_if ?_ ?_ | refine guard_ways ?_ ?_) <;> intro _) | simp (maxSteps := 1000000) (disch := omega) only [go_sem, Nat.reduceAdd, Nat.reduceMul, Nat.reduceSub, Nat.reduceLeDiff, Nat.reduceEqDiff, Nat.reduceBEq, ↓reduceIte, reduceCtorEq, Int.reduceEq, Int.reduceLE, Int.reduceLT, Int.reduceAdd, Int.reduceSub, Int.reduceNeg, Int.reduceToNat, Int.reduceNe, Nat.reducePow, Nat.reduceShiftRight, Nat.reduceMod, txt, *])
      exact Nx.mk (names.length - (i + 1)) (by first | assumption | omega | rfl | (simp (disch := omega) only [go_sem, Nat.reduceMul, Nat.reduceSub, Nat.reduceShiftRight, Nat.reduceMod, Nat.reduceEqDiff, Nat.reduceAdd, ↓reduceIte, Nat.reduceLeDiff, *] <;> omega)) ⟨i + 1, IntKind.i64.wrap (v + IntKind.i64.wrap (1 + (names[i].size : Int))), rfl, (by first | assumption | omega | rfl | (simp (disch := omega) only [go_sem, Nat.reduceMul, Nat.reduceSub, Nat.reduceShiftRight, Nat.reduceMod, Nat.reduceEqDiff, Nat.reduceAdd, ↓reduceIte, Nat.reduceLeDiff, *] <;> omega)), by simp [upd], by simp [upd], hvk⟩
    · rw [if_neg hle] at hv2
      rw [← hv2]
      clear hv hv2
      repeat' (first | ((with_reducible first | refine cond_pos (by omega) ?_ | refine cond_neg (by omega) ?_ | refine guard_pos (by omega) ?_ | refine guard_neg (by omega) ?_ | refine cond_ifn ?_ ?_ | refine cond_waysn ?_ ?_ | refine guard_ifn ?_ ?_ | refine guard_waysn ?_ ?_ | refine cond_if ?_ ?_ | refine cond_ways ?_ ?_ | refine guard_if ?_ ?_ | refine guard_ways ?_ ?_) <;> intro _) | simp (maxSteps := 1000000) (disch := omega) only [go_sem, Nat.reduceAdd, Nat.reduceMul, Nat.reduceSub, Nat.reduceLeDiff, Nat.reduceEqDiff, Nat.reduceBEq, ↓reduceIte, reduceCtorEq, Int.reduceEq, Int.reduceLE, Int.reduceLT, Int.reduceAdd, Int.reduceSub, Int.reduceNeg, Int.reduceToNat, Int.reduceNe, Nat.reducePow, Nat.reduceShiftRight, Nat.reduceMod, *])
      all_goals (refine fin_tmp (.inr rfl) ?_; (first | rfl | (simp (disch := omega) only [go_sem, Nat.reduceMul, Nat.reduceSub, Nat.reduceShiftRight, Nat.reduceMod, Nat.reduceEqDiff, Nat.reduceAdd, ↓reduceIte, Nat.reduceLeDiff, *]; done) | (simp [upd, *]; done) | (simp [upd, *]; omega)))
  · obtain rfl : i = names.length := by omega
    have hv2 := hv.out
    rw [List.drop_length, lenV] at hv2
    rw [← hv2]
    clear hv hv2
    repeat' (first | ((with_reducible first | refine cond_pos (by omega) ?_ | refine cond_neg (by omega) ?_ | refine guard_pos (by omega) ?_ | refine guard_neg (by omega) ?_ | refine cond_ifn ?_ ?_ | refine cond_waysn ?_ ?_ | refine guard_ifn ?_ ?_ | refine guard_waysn ?_ ?_ | refine cond_if ?_ ?_ | refine cond_ways ?_ ?_ | refine guard_if ?_ ?_ | refine guard_ways ?_ ?_) <;> intro _) | simp (maxSteps := 1000000) (disch := omega) only [go_sem, Nat.reduceAdd, Nat.reduceMul, Nat.reduceSub, Nat.reduceLeDiff, Nat.reduceEqDiff, Nat.reduceBEq, ↓reduceIte, reduceCtorEq, Int.reduceEq, Int.reduceLE, Int.reduceLT, Int.reduceAdd, Int.reduceSub, Int.reduceNeg, Int.reduceToNat, Int.reduceNe, Nat.reducePow, Nat.reduceShiftRight, Nat.reduceMod, *])
    all_goals (refine fin_tmp (.inr rfl) ?_; (first | rfl | (simp (disch := omega) only [go_sem, Nat.reduceMul, Nat.reduceSub, Nat.reduceShiftRight, Nat.reduceMod, Nat.reduceEqDiff, Nat.reduceAdd, ↓reduceIte, Nat.reduceLeDiff, *]; done) | (simp [upd, *]; done) | (simp [upd, *]; omega)))
theorem lens6_le {names : List ByteArray} (h : ¬ 200 < lens6 names) : names.length ≤ 200 := by
  unfold lens6 at h
  split at h <;> omega
theorem absR_some {t y : Tm} {names : List ByteArray} (h : absR t names = some y) : t.right 4 1125899906842624 = true ∧ t.fill (absL names) 0 = some y ∧ y.nodes ≤ 2000 := by
  unfold absR at h
  split at h
  · rename_i hr
    unfold cap2 at h
    cases hf : t.fill (absL names) 0 with
    | none => rw [hf] at h; cases h
    | some z =>
      rw [hf, Option.bind_some] at h
      split at h
      · cases h
        exact ⟨hr, rfl, by assumption⟩
      · cases h
  · cases h
def NamesOk (t : Tm) (names : List ByteArray) : Prop := ∀ name ∈ names, (conT name).right 0 1125899906842624 = true ∧ t.lvld name = false
theorem names_back {t y : Tm} {names : List ByteArray} (h : absR t names = some y) (hl : looseT t ≤ 2 ^ 40) (hn : names.length ≤ 200) (hok : NamesOk t names) : instR y (names.map conT) = some t := by
  obtain ⟨hr, hf, hyn⟩ := absR_some h
  rw [(looseT_right hr).1] at hl
  have h2 := formed_low 4 t _ (2 ^ 40) (right_far hr).1 hl (by omega)
  have h3 := abs_formed names 4 t y (2 ^ 40) 0 (by omega) (by omega) h2 hf
  have hyr : y.right 4 1125899906842624 = true := right_iff.2 ⟨by omega, by omega, by omega, hyn, formed_up h3 (by omega) (by omega)⟩
  have hb := abs_back names 4 t y _ 0 (by omega) h2 (fun name hm => (hok name hm).2) hf
  have hall : (names.map conT).all (fun x => x.right 4 1125899906842624) = true := by
    rw [List.all_eq_true]
    intro x hx
    obtain ⟨name, hm, rfl⟩ := List.mem_map.1 hx
    have h5 := right_iff.1 (hok name hm).1
    exact right_iff.2 ⟨by omega, by omega, by omega, h5.2.2.2.1, formed_np (by omega) (by omega) _ _ h5.2.2.2.2⟩
  unfold instR
  rw [if_pos ⟨hyr, hall⟩, hb]
  exact if_pos (right_far hr).2
theorem names_gone {t y : Tm} {names : List ByteArray} (h : absR t names = some y) {name : ByteArray} (hm : name ∈ names) : occR y name = false := by
  obtain ⟨hr, hf, hyn⟩ := absR_some h
  unfold occR
  rw [abs_gone names name hm 4 t y _ 0 (right_far hr).1 hf 0]
  simp
set_option maxRecDepth 100000 in
set_option maxHeartbeats 16000000 in
theorem BindNames_w (t : Tm) (ht : t.fits) (names : List ByteArray) : PPure Try.prog F.law06_BindNames [.agg t.pv, .sl 1 (names.map txt)] (.sc (.bool true)) := by
  refine pure_by is_law06_BindNames (by simp) rfl fun hb nx => ?_
  clear hb
  have hl := alive6_p
  have cG := Great_p t ht
  have cS := Lengths6_p names
  have cL := ref04_Loose_p t
  by_cases hg : 2500 < t.mass
  · rw [decide_eq_true hg] at cG
    clear hg ht cS cL
    repeat' (first | ((with_reducible first | refine cond_pos (by omega) ?_ | refine cond_neg (by omega) ?_ | refine guard_pos (by omega) ?_ | refine guard_neg (by omega) ?_ | refine cond_ifn ?_ ?_ | refine cond_waysn ?_ ?_ | refine guard_ifn ?_ ?_ | refine guard_waysn ?_ ?_ | refine cond_if ?_ ?_ | refine cond_ways ?_ ?_ | refine guard_if ?_ ?_ | refine guard_ways ?_ ?_) <;> intro _) | (((with_reducible refine call_id ?_); (first | (refine call_pure (hl) ?_) | (refine call_pure (cG) ?_)))) | simp (maxSteps := 1000000) (disch := omega) only [go_sem, Nat.reduceAdd, Nat.reduceMul, Nat.reduceSub, Nat.reduceLeDiff, Nat.reduceEqDiff, Nat.reduceBEq, ↓reduceIte, reduceCtorEq, Int.reduceEq, Int.reduceLE, Int.reduceLT, Int.reduceAdd, Int.reduceSub, Int.reduceNeg, Int.reduceToNat, Int.reduceNe, Nat.reducePow, Nat.reduceShiftRight, Nat.reduceMod, mc_law06_BindNames, *])
    all_goals (refine fin_tmp (.inr rfl) ?_; (first | rfl | (simp (disch := omega) only [go_sem, Nat.reduceMul, Nat.reduceSub, Nat.reduceShiftRight, Nat.reduceMod, Nat.reduceEqDiff, Nat.reduceAdd, ↓reduceIte, Nat.reduceLeDiff, *]; done) | (simp [upd, *]; done) | (simp [upd, *]; omega)))
  rw [decide_eq_false hg] at cG
  have hn := great_no hg
  clear hg ht
  by_cases hs : 200 < lens6 names
  · clear cL
    repeat' (first | ((with_reducible first | refine cond_pos (by omega) ?_ | refine cond_neg (by omega) ?_ | refine guard_pos (by omega) ?_ | refine guard_neg (by omega) ?_ | refine cond_ifn ?_ ?_ | refine cond_waysn ?_ ?_ | refine guard_ifn ?_ ?_ | refine guard_waysn ?_ ?_ | refine cond_if ?_ ?_ | refine cond_ways ?_ ?_ | refine guard_if ?_ ?_ | refine guard_ways ?_ ?_) <;> intro _) | (((with_reducible refine call_id ?_); (first | (refine call_pure (hl) ?_) | (refine call_pure (cG) ?_) | (refine call_pure (cS) ?_)))) | simp (maxSteps := 1000000) (disch := omega) only [go_sem, Nat.reduceAdd, Nat.reduceMul, Nat.reduceSub, Nat.reduceLeDiff, Nat.reduceEqDiff, Nat.reduceBEq, ↓reduceIte, reduceCtorEq, Int.reduceEq, Int.reduceLE, Int.reduceLT, Int.reduceAdd, Int.reduceSub, Int.reduceNeg, Int.reduceToNat, Int.reduceNe, Nat.reducePow, Nat.reduceShiftRight, Nat.reduceMod, mc_law06_BindNames, *])
    all_goals (refine fin_tmp (.inr rfl) ?_; (first | rfl | (simp (disch := omega) only [go_sem, Nat.reduceMul, Nat.reduceSub, Nat.reduceShiftRight, Nat.reduceMod, Nat.reduceEqDiff, Nat.reduceAdd, ↓reduceIte, Nat.reduceLeDiff, *]; done) | (simp [upd, *]; done) | (simp [upd, *]; omega)))
  have hlen := lens6_le hs
  by_cases hgt : 2 ^ 40 < looseT t
  · repeat' (first | ((with_reducible first | refine cond_pos (by omega) ?_ | refine cond_neg (by omega) ?_ | refine guard_pos (by omega) ?_ | refine guard_neg (by omega) ?_ | refine cond_ifn ?_ ?_ | refine cond_waysn ?_ ?_ | refine guard_ifn ?_ ?_ | refine guard_waysn ?_ ?_ | refine cond_if ?_ ?_ | refine cond_ways ?_ ?_ | refine guard_if ?_ ?_ | refine guard_ways ?_ ?_) <;> intro _) | (((with_reducible refine call_id ?_); (first | (refine call_pure (hl) ?_) | (refine call_pure (cG) ?_) | (refine call_pure (cS) ?_) | (refine call_pure (cL) ?_)))) | simp (maxSteps := 1000000) (disch := omega) only [go_sem, Nat.reduceAdd, Nat.reduceMul, Nat.reduceSub, Nat.reduceLeDiff, Nat.reduceEqDiff, Nat.reduceBEq, ↓reduceIte, reduceCtorEq, Int.reduceEq, Int.reduceLE, Int.reduceLT, Int.reduceAdd, Int.reduceSub, Int.reduceNeg, Int.reduceToNat, Int.reduceNe, Nat.reducePow, Nat.reduceShiftRight, Nat.reduceMod, mc_law06_BindNames, *])
    all_goals (refine fin_tmp (.inr rfl) ?_; (first | rfl | (simp (disch := omega) only [go_sem, Nat.reduceMul, Nat.reduceSub, Nat.reduceShiftRight, Nat.reduceMod, Nat.reduceEqDiff, Nat.reduceAdd, ↓reduceIte, Nat.reduceLeDiff, *]; done) | (simp [upd, *]; done) | (simp [upd, *]; omega)))
  have c1 := bind_Abstract_p t names (by omega)
  cases ha : absR t names with
  | none =>
    rw [ha] at c1
    simp only [optT, zeroT] at c1
    clear ha
    repeat' (first | ((with_reducible first | refine cond_pos (by omega) ?_ | refine cond_neg (by omega) ?_ | refine guard_pos (by omega) ?_ | refine guard_neg (by omega) ?_ | refine cond_ifn ?_ ?_ | refine cond_waysn ?_ ?_ | refine guard_ifn ?_ ?_ | refine guard_waysn ?_ ?_ | refine cond_if ?_ ?_ | refine cond_ways ?_ ?_ | refine guard_if ?_ ?_ | refine guard_ways ?_ ?_) <;> intro _) | (((with_reducible refine call_id ?_); (first | (refine call_pure (hl) ?_) | (refine call_pure (cG) ?_) | (refine call_pure (cS) ?_) | (refine call_pure (cL) ?_) | (refine call_pure (c1) ?_)))) | simp (maxSteps := 1000000) (disch := omega) only [go_sem, Nat.reduceAdd, Nat.reduceMul, Nat.reduceSub, Nat.reduceLeDiff, Nat.reduceEqDiff, Nat.reduceBEq, ↓reduceIte, reduceCtorEq, Int.reduceEq, Int.reduceLE, Int.reduceLT, Int.reduceAdd, Int.reduceSub, Int.reduceNeg, Int.reduceToNat, Int.reduceNe, Nat.reducePow, Nat.reduceShiftRight, Nat.reduceMod, mc_law06_BindNames, *])
    all_goals (refine fin_tmp (.inr rfl) ?_; (first | rfl | (simp (disch := omega) only [go_sem, Nat.reduceMul, Nat.reduceSub, Nat.reduceShiftRight, Nat.reduceMod, Nat.reduceEqDiff, Nat.reduceAdd, ↓reduceIte, Nat.reduceLeDiff, *]; done) | (simp [upd, *]; done) | (simp [upd, *]; omega)))
  | some y =>
    have hak := Kept.mk ha
    rw [ha] at c1
    simp only [optT] at c1
    have hyn := (absR_some ha).2.2
    clear ha
    repeat' (first | ((with_reducible first | refine cond_pos (by omega) ?_ | refine cond_neg (by omega) ?_ | refine guard_pos (by omega) ?_ | refine guard_neg (by omega) ?_ | refine cond_ifn ?_ ?_ | refine cond_waysn ?_ ?_ | refine guard_ifn ?_ ?_ | refine guard_waysn ?_ ?_ | refine cond_if ?_ ?_ | refine cond_ways ?_ ?_ | refine guard_if ?_ ?_ | refine guard_ways ?_ ?_) <;> intro _) | (((with_reducible refine call_id ?_); (first | (refine call_pure (hl) ?_) | (refine call_pure (cG) ?_) | (refine call_pure (cS) ?_) | (refine call_pure (cL) ?_) | (refine call_pure (c1) ?_)))) | simp (maxSteps := 1000000) (disch := omega) only [go_sem, Nat.reduceAdd, Nat.reduceMul, Nat.reduceSub, Nat.reduceLeDiff, Nat.reduceEqDiff, Nat.reduceBEq, ↓reduceIte, reduceCtorEq, Int.reduceEq, Int.reduceLE, Int.reduceLT, Int.reduceAdd, Int.reduceSub, Int.reduceNeg, Int.reduceToNat, Int.reduceNe, Nat.reducePow, Nat.reduceShiftRight, Nat.reduceMod, mc_law06_BindNames, *])
    clear hl cG cS cL c1
    refine c_loopW 295147905162172957072 (by kernel_rfl) (fun j f H m => ∃ (i id : Nat) (w : Bool), j = names.length - i ∧ i ≤ names.length ∧ f 8 = .sc (.int .i64 i) ∧ f 7 = .osl id 0 i 5 ∧ id < m ∧ H id = some ⟨(names.take i).flatMap (fun s => (conT s).pv), w⟩ ∧ Kept (NamesOk t (names.take i))) _ ⟨0, nx + 27, true, rfl, Nat.zero_le _, by simp [upd], by simp [upd], Nat.add_lt_add_left (by decide) _, by simp [upd], Kept.mk (fun _ h => by cases h)⟩ ?_
    rintro _ f H m ⟨i, id, w, rfl, hi, e8, e7, hid, hH, hok⟩
    by_cases hlt : i < names.length
    · have eg : names[i]? = some names[i] := List.getElem?_eq_getElem hlt
      have hfl : ((names.take i).flatMap fun s => (conT s).pv).length = i * 5 := by rw [flat_lenG (fun s => (conT s).pv) 5 (fun _ => tm_len _), List.length_take]; omega
      have hdr : ∀ B, List.drop (i * 5) (((names.take i).flatMap fun s => (conT s).pv) ++ B) = B := fun B => List.drop_left' hfl
      have hrs : Kept ((names.take (i + 1)).flatMap (fun s => (conT s).pv) = (names.take i).flatMap (fun s => (conT s).pv) ++ (conT names[i]).pv) := Kept.mk (by rw [List.take_succ_eq_append_getElem hlt, List.flatMap_append]; simp)
      have c2 := bind_Occurs_p y names[i]
      rw [names_gone hak.out (List.getElem_mem hlt)] at c2
      have c3 := constant6_p names[i]
      have c4 := ref04_Any_p (conT names[i]) 0
      have c5 := leveled6_p names[i] t.size t (Nat.le_refl _)
      have hz : (i + 1) * 80 ≤ 140737488355328 ∧ i ≤ 4611686018427387903 := by omega
      cases hr0 : (conT names[i]).right 0 1125899906842624 with
      | false =>
        rw [hr0] at c4
        clear hr0 c5
        repeat' (first | ((with_reducible first | refine cond_pos (by omega) ?_ | refine cond_neg (by omega) ?_ | refine guard_pos (by omega) ?_ | refine guard_neg (by omega) ?_ | refine cond_ifn ?_ ?_ | refine cond_waysn ?_ ?_ | refine guard_ifn ?_ ?_ | refine guard_waysn ?_ ?_ | refine cond_if ?_ ?_ | refine cond_ways ?_ ?_ | refine guard_if ?_ ?_ | refine guard_ways ?_ ?_) <;> intro _) | (((with_reducible refine call_id ?_); (first | (refine call_pure (c2) ?_) | (refine call_pure (c3) ?_) | (refine call_pure (c4) ?_)))) | simp (maxSteps := 1000000) (disch := omega) only [go_sem, Nat.reduceAdd, Nat.reduceMul, Nat.reduceSub, Nat.reduceLeDiff, Nat.reduceEqDiff, Nat.reduceBEq, ↓reduceIte, reduceCtorEq, Int.reduceEq, Int.reduceLE, Int.reduceLT, Int.reduceAdd, Int.reduceSub, Int.reduceNeg, Int.reduceToNat, Int.reduceNe, Nat.reducePow, Nat.reduceShiftRight, Nat.reduceMod, txt, *])
        all_goals (refine fin_tmp (.inr rfl) ?_; (first | rfl | (simp (disch := omega) only [go_sem, Nat.reduceMul, Nat.reduceSub, Nat.reduceShiftRight, Nat.reduceMod, Nat.reduceEqDiff, Nat.reduceAdd, ↓reduceIte, Nat.reduceLeDiff, *]; done) | (simp [upd, *]; done) | (simp [upd, *]; omega)))
      | true =>
        rw [hr0] at c4
        cases hlv : t.lvld names[i] with
        | true =>
          rw [hlv] at c5
          clear hr0 hlv
          repeat' (first | ((with_reducible first | refine cond_pos (by omega) ?_ | refine cond_neg (by omega) ?_ | refine guard_pos (by omega) ?_ | refine guard_neg (by omega) ?_ | refine cond_ifn ?_ ?_ | refine cond_waysn ?_ ?_ | refine guard_ifn ?_ ?_ | refine guard_waysn ?_ ?_ | refine cond_if ?_ ?_ | refine cond_ways ?_ ?_ | refine guard_if ?_ ?_ | refine guard_ways ?_ ?_) <;> intro _) | (((with_reducible refine call_id ?_); (first | (refine call_pure (c2) ?_) | (refine call_pure (c3) ?_) | (refine call_pure (c4) ?_) | (refine call_pure (c5) ?_)))) | simp (maxSteps := 1000000) (disch := omega) only [go_sem, Nat.reduceAdd, Nat.reduceMul, Nat.reduceSub, Nat.reduceLeDiff, Nat.reduceEqDiff, Nat.reduceBEq, ↓reduceIte, reduceCtorEq, Int.reduceEq, Int.reduceLE, Int.reduceLT, Int.reduceAdd, Int.reduceSub, Int.reduceNeg, Int.reduceToNat, Int.reduceNe, Nat.reducePow, Nat.reduceShiftRight, Nat.reduceMod, txt, *])
          all_goals (refine fin_tmp (.inr rfl) ?_; (first | rfl | (simp (disch := omega) only [go_sem, Nat.reduceMul, Nat.reduceSub, Nat.reduceShiftRight, Nat.reduceMod, Nat.reduceEqDiff, Nat.reduceAdd, ↓reduceIte, Nat.reduceLeDiff, *]; done) | (simp [upd, *]; done) | (simp [upd, *]; omega)))
        | false =>
          have hok2 : Kept (NamesOk t (names.take (i + 1))) := Kept.mk (fun name hm => by
            rw [List.take_succ_eq_append_getElem hlt, List.mem_append, List.mem_singleton] at hm
            rcases hm with hm | rfl
            · exact hok.out name hm
            · exact ⟨hr0, hlv⟩)
          rw [hlv] at c5
          clear hr0 hlv hok
          repeat' (first | ((with_reducible first | refine cond_pos (by omega) ?_ | refine cond_neg (by omega) ?_ | refine guard_pos (by omega) ?_ | refine guard_neg (by omega) ?_ | refine cond_ifn ?_ ?_ | refine cond_waysn ?_ ?_ | refine guard_ifn ?_ ?_ | refine guard_waysn ?_ ?_ | refine cond_if ?_ ?_ | refine cond_ways ?_ ?_ | refine guard_if ?_ ?_ | refine guard_ways ?_ ?_) <;> intro _) | (((with_reducible refine call_id ?_); (first | (refine call_pure (c2) ?_) | (refine call_pure (c3) ?_) | (refine call_pure (c4) ?_) | (refine call_pure (c5) ?_)))) | simp (maxSteps := 1000000) (disch := omega) only [go_sem, Nat.reduceAdd, Nat.reduceMul, Nat.reduceSub, Nat.reduceLeDiff, Nat.reduceEqDiff, Nat.reduceBEq, ↓reduceIte, reduceCtorEq, Int.reduceEq, Int.reduceLE, Int.reduceLT, Int.reduceAdd, Int.reduceSub, Int.reduceNeg, Int.reduceToNat, Int.reduceNe, Nat.reducePow, Nat.reduceShiftRight, Nat.reduceMod, txt, *])
          exact Nx.mk (names.length - (i + 1)) (by first | assumption | omega | rfl | (simp (disch := omega) only [go_sem, Nat.reduceMul, Nat.reduceSub, Nat.reduceShiftRight, Nat.reduceMod, Nat.reduceEqDiff, Nat.reduceAdd, ↓reduceIte, Nat.reduceLeDiff, *] <;> omega)) ⟨i + 1, m + 17, false, rfl, (by first | assumption | omega | rfl | (simp (disch := omega) only [go_sem, Nat.reduceMul, Nat.reduceSub, Nat.reduceShiftRight, Nat.reduceMod, Nat.reduceEqDiff, Nat.reduceAdd, ↓reduceIte, Nat.reduceLeDiff, *] <;> omega)), by simp [upd], by simp [upd], Nat.add_lt_add_left (by decide) _, by rw [hrs.out]; simp [upd], hok2⟩
    · obtain rfl : i = names.length := by omega
      have hok2 := hok.out
      rw [List.take_length] at hok2 hH
      have c3 := bind_Inst_p y (names.map conT) (by rw [List.length_map]; omega)
      rw [names_back hak.out (by omega) hlen hok2] at c3
      have c4 := same6 t
      simp only [optT] at c3
      clear hok hok2
      have hw : WeakL ([PV.agg y.pv, .osl id 0 names.length 5].map (frgF (fun j => decide (j = id)) 1 H)) [.agg y.pv, .sl 5 ((names.map conT).map Tm.pv)] := by
        refine ⟨.of_eq (frgF_imm _ _ _ _ (by simp [PV.imm, tm_imm])), ?_, trivial⟩
        rw [List.map_map]
        exact row_giveG (f := fun s => (conT s).pv) (g := fun s => (conT s).pv) (fun _ => tm_len _) (fun _ => tm_len _) (fun _ => .refl _) names rfl hH
      repeat' (first | ((with_reducible first | refine cond_pos (by omega) ?_ | refine cond_neg (by omega) ?_ | refine guard_pos (by omega) ?_ | refine guard_neg (by omega) ?_ | refine cond_ifn ?_ ?_ | refine cond_waysn ?_ ?_ | refine guard_ifn ?_ ?_ | refine guard_waysn ?_ ?_ | refine cond_if ?_ ?_ | refine cond_ways ?_ ?_ | refine guard_if ?_ ?_ | refine guard_ways ?_ ?_) <;> intro _) | simp (maxSteps := 1000000) (disch := omega) only [go_sem, Nat.reduceAdd, Nat.reduceMul, Nat.reduceSub, Nat.reduceLeDiff, Nat.reduceEqDiff, Nat.reduceBEq, ↓reduceIte, reduceCtorEq, Int.reduceEq, Int.reduceLE, Int.reduceLT, Int.reduceAdd, Int.reduceSub, Int.reduceNeg, Int.reduceToNat, Int.reduceNe, Nat.reducePow, Nat.reduceShiftRight, Nat.reduceMod, *])
      refine call_mut (PPure.givein (fun j => decide (j = id)) 1 c3 hw) ?_
      rintro H3 nx3 r3 ⟨rfl, rfl, rfl⟩ -
      repeat' (first | ((with_reducible first | refine cond_pos (by omega) ?_ | refine cond_neg (by omega) ?_ | refine guard_pos (by omega) ?_ | refine guard_neg (by omega) ?_ | refine cond_ifn ?_ ?_ | refine cond_waysn ?_ ?_ | refine guard_ifn ?_ ?_ | refine guard_waysn ?_ ?_ | refine cond_if ?_ ?_ | refine cond_ways ?_ ?_ | refine guard_if ?_ ?_ | refine guard_ways ?_ ?_) <;> intro _) | (((with_reducible refine call_id ?_); (first | (refine call_pure (c4) ?_)))) | simp (maxSteps := 1000000) (disch := omega) only [go_sem, Nat.reduceAdd, Nat.reduceMul, Nat.reduceSub, Nat.reduceLeDiff, Nat.reduceEqDiff, Nat.reduceBEq, ↓reduceIte, reduceCtorEq, Int.reduceEq, Int.reduceLE, Int.reduceLT, Int.reduceAdd, Int.reduceSub, Int.reduceNeg, Int.reduceToNat, Int.reduceNe, Nat.reducePow, Nat.reduceShiftRight, Nat.reduceMod, *])
      all_goals (refine fin_tmp (.inr rfl) ?_; (first | rfl | (simp (disch := omega) only [go_sem, Nat.reduceMul, Nat.reduceSub, Nat.reduceShiftRight, Nat.reduceMod, Nat.reduceEqDiff, Nat.reduceAdd, ↓reduceIte, Nat.reduceLeDiff, *]; done) | (simp [upd, *]; done) | (simp [upd, *]; omega)))
theorem open_texts {H : Type} {enc : TypeId × Value → H} {W : World} {a : Option Addr} {len cap : Nat} {d : DataW H} {p : List MemPlace} (h : DataW.Trod enc Try.prog W 0 (fun _ => true) true 49 (.slice a len cap) d p) : ∃ l : List ByteArray, Rep (allV W) (.sl 1 (l.map txt)) (.slice a len cap) := by
  obtain ⟨l, hl⟩ := trod_one (pv := fun l : List {s : ByteArray // s.size ≤ maxLen} => PV.sl 1 (l.map fun z => [.sc (.string z.1)])) (fun n => by cases n with
    | zero => exact op_zero
    | succ n => exact op_slice Try.underlying49 (by kernel_rfl) (by omega) (op_string Try.underlying9)) rfl h
  exact ⟨l.map (·.1), by rw [List.map_map]; exact hl⟩
theorem BindNames_p (t : {t : Tm // t.fits}) (names : List ByteArray) : PPure Try.prog F.law06_BindNames [.agg t.1.pv, .sl 1 (names.map txt)] (.sc (.bool true)) := BindNames_w t.1 t.2 names
end
end Go.Proofs.Ytfhblaggeahbjaa
