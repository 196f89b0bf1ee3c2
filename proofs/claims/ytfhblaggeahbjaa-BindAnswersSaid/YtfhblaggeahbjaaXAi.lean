/-
  Plain values: TrF, TpD.
-/
import Derived.Test.YtfhblaggeahbjaaXAa
import Derived.Test.YtfhblaggeahbjaaXAb
import Derived.Test.YtfhblaggeahbjaaXAc
import Derived.Test.YtfhblaggeahbjaaXAd
import Derived.Test.YtfhblaggeahbjaaXAe
import Derived.Test.YtfhblaggeahbjaaXAf
import Derived.Test.YtfhblaggeahbjaaXAg
import Derived.Test.YtfhblaggeahbjaaXAh
set_option linter.unusedVariables false
set_option linter.unusedSimpArgs false
namespace Go.Proofs.Ytfhblaggeahbjaa
open Go.RowKit
attribute [local go_sem ↓] c_seq c_region c_cond c_block c_ret c_skip c_exit c_cont t_normal t_ret t_exit b_normal b_ret b_exit run_nil run_cons g_some o_mv o_pick o_bin o_un o_ld o_ldf o_bld o_len o_mkf o_nilc o_fa o_fd o_ia o_iaa o_ix o_ixs o_ext o_al o_bxf o_bxt o_bsl o_bslf o_mks o_st o_stf o_call o_rng o_nxt o_callm o_callmA o_calvm o_calv cond_true cond_false upd_get sigF_cons o_eqa o_mm o_app o_slc
attribute [local go_sem] num_nil num_cons isP chunks rngV next_is next_iter val_some new_some st_some stf_some guard_tt guard_ff guard_tf guard_ft guard_un calv_fn put_some put_none ev_tmp ev_const ev_func sig_eq sigF_nil q0 q1 nilcV faV fdV iaV iaaV ixV ixsV extV mksV loadP storeP lenPV binPV unPV intBin partsP fillP zeros PV.good PV.cellsOf PV.one q2 q3 q4 q5 q6 q7 q8 q9 q10 q11 q12 q13 q14 q15 q16 q17 q18 q19 q20 q21 q22 q23 q24 q25 q26 q27 q28 q29 q30 q31 q32 q33 q34 q35 q36 q37 q38 wrap64 app_some mmL mmV mm2 eqE eqParts eqInt eqBool eqStr partV q39 q40 pickV q41 q42 q43 q44 q45 q46 q47 q48 q49 appE oldOf rowOf updL q50 q51 q52 q53 zlt ovr_get ite_neN ite_eqN q54 q55 q56 q57 q58 q59 q60 q61 q62 q63 q64 q65 q66 q67 tailP_f tailP_t tailF_f tailF_t slcP bndO capO slcLen intOf Option.isSome_none Option.isNone_none Option.isSome_some Option.isNone_some nilP slc_sl slc_csl slc_osl slc_osl0 slc_ocap slc_str List.append_nil List.length_append resP resPs resP1 PV.sc.injEq Value.bool.injEq Value.int.injEq
section
set_option maxRecDepth 20000
attribute [local go_sem] pv_len pv_take Nat.add_assoc tm_len tm_take pv_one tm_one tpvB_len tpvB_take tpvB_one pvB_len pvB_take pvB_one id_ne id_ne' id_ne2 List.append_assoc tm_take_app tm_drop_app tm_take10 tm_drop10 tm_drop15 tm_drop
def optC : Option Tm → List PV
  | some t => t.pv
  | none => [.sc (.int .i64 0), .sc (.int .i64 0), .sc (.string ⟨#[]⟩), .sc (.slice none 0 0), .sc (.slice none 0 0)]
theorem optT_eq (o : Option Tm) : optT o = .tup [.agg (optC o), .sc (.bool o.isSome)] := by cases o <;> rfl
theorem optC_len (o : Option Tm) : (optC o).length = 5 := by cases o <;> simp [optC, tm_len]
attribute [local go_sem] optC_len
theorem optC_take (o : Option Tm) : (optC o).take 5 = optC o := List.take_of_length_le (by rw [optC_len]; omega)
attribute [local go_sem] optC_take
theorem optC_one (o : Option Tm) : (optC o).all PV.one = true := by
  cases o with
  | none => simp [optC, PV.one]
  | some t => exact tm_one t
attribute [local go_sem] optC_one
def lenW : Int → List ByteArray → Int
  | v, [] => v
  | v, s :: r => if v ≤ 500 then lenW (IntKind.i64.wrap (v + IntKind.i64.wrap (1 + (s.size : Int)))) r else v
def lens5 (names : List ByteArray) : Int := if 500 < names.length then 501 else lenW 0 names
set_option maxHeartbeats 16000000 in
theorem Lengths5_p (names : List ByteArray) : PPure Try.prog F.ref00_Lengths [.sl 1 (names.map txt), .sc (.int .i64 500)] (.sc (.int .i64 (lens5 names))) := by
  refine pure_by is_ref00_Lengths (by simp) rfl fun hb nx => ?_
  have hb0 : names.length ≤ 9223372036854775807 := by simp [bndL, PV.bnd] at hb; exact hb.1
  clear hb
  unfold lens5
  by_cases h : 500 < names.length
  · rw [if_pos h]
    repeat' (first | ((with_reducible first | refine wA (by omega) ?_ | refine wB (by omega) ?_ | refine wC (by omega) ?_ | refine wD (by omega) ?_ | refine wE ?_ ?_ | refine wF ?_ ?_ | refine wG ?_ ?_ | refine wH ?_ ?_ | refine wI ?_ ?_ | refine wJ ?_ ?_ | refine wK ?_ ?_ | refine wL ?_ ?_) <;> intro _) | simp (maxSteps := 1000000) (disch := omega) only [go_sem, Nat.reduceAdd, Nat.reduceMul, Nat.reduceSub, Nat.reduceLeDiff, Nat.reduceEqDiff, Nat.reduceBEq, ↓reduceIte, reduceCtorEq, Int.reduceEq, Int.reduceLE, Int.reduceLT, Int.reduceAdd, Int.reduceSub, Int.reduceNeg, Int.reduceToNat, Int.reduceNe, Nat.reducePow, Nat.reduceShiftRight, Nat.reduceMod, mc_ref00_Lengths, *])
    all_goals (exact fin_tmp (.inr rfl) cE3)
  rw [if_neg h]
  repeat' (first | ((with_reducible first | refine wA (by omega) ?_ | refine wB (by omega) ?_ | refine wC (by omega) ?_ | refine wD (by omega) ?_ | refine wE ?_ ?_ | refine wF ?_ ?_ | refine wG ?_ ?_ | refine wH ?_ ?_ | refine wI ?_ ?_ | refine wJ ?_ ?_ | refine wK ?_ ?_ | refine wL ?_ ?_) <;> intro _) | simp (maxSteps := 1000000) (disch := omega) only [go_sem, Nat.reduceAdd, Nat.reduceMul, Nat.reduceSub, Nat.reduceLeDiff, Nat.reduceEqDiff, Nat.reduceBEq, ↓reduceIte, reduceCtorEq, Int.reduceEq, Int.reduceLE, Int.reduceLT, Int.reduceAdd, Int.reduceSub, Int.reduceNeg, Int.reduceToNat, Int.reduceNe, Nat.reducePow, Nat.reduceShiftRight, Nat.reduceMod, mc_ref00_Lengths, *])
  refine c_loopW 4294959200 (by kernel_rfl) (fun j f H m => ∃ (i : Nat) (v : Int), j = names.length - i ∧ i ≤ names.length ∧ f 6 = .sc (.int .i64 i) ∧ f 5 = .sc (.int .i64 v) ∧ Kept (lenW v (names.drop i) = lenW 0 names)) _ ⟨0, 0, rfl, Nat.zero_le _, cE1, cE1, Kept.mk rfl⟩ ?_
  rintro _ f H m ⟨i, v, rfl, hi, e6, e5, hv⟩
  by_cases hlt : i < names.length
  · have eg : names[i]? = some names[i] := List.getElem?_eq_getElem hlt
    have hv2 := hv.out
    rw [List.drop_eq_getElem_cons hlt, lenW] at hv2
    by_cases hle : v ≤ 500
    · rw [if_pos hle] at hv2
      have hvk := Kept.mk hv2
      clear hv hv2
      repeat' (first | ((with_reducible first | refine wA (by omega) ?_ | refine wB (by omega) ?_ | refine wC (by omega) ?_ | refine wD (by omega) ?_ | refine wE ?_ ?_ | refine wF ?_ ?_ | refine wG ?_ ?_ | refine wH ?_ ?_ | refine wI ?_ ?_ | refine wJ ?_ ?_ | refine wK ?_ ?_ | refine wL ?_ ?_) <;> intro _) | simp (maxSteps := 1000000) (disch := omega) only [go_sem, Nat.reduceAdd, Nat.reduceMul, Nat.reduceSub, Nat.reduceLeDiff, Nat.reduceEqDiff, Nat.reduceBEq, ↓reduceIte, reduceCtorEq, Int.reduceEq, Int.reduceLE, Int.reduceLT, Int.reduceAdd, Int.reduceSub, Int.reduceNeg, Int.reduceToNat, Int.reduceNe, Nat.reducePow, Nat.reduceShiftRight, Nat.reduceMod, txt, *])
      exact Nx.mk (names.length - (i + 1)) cE1 ⟨i + 1, IntKind.i64.wrap (v + IntKind.i64.wrap (1 + (names[i].size : Int))), rfl, cE1, by simp [upd], by simp [upd], hvk⟩
    · rw [if_neg hle] at hv2
      rw [← hv2]
      clear hv hv2
      repeat' (first | ((with_reducible first | refine wA (by omega) ?_ | refine wB (by omega) ?_ | refine wC (by omega) ?_ | refine wD (by omega) ?_ | refine wE ?_ ?_ | refine wF ?_ ?_ | refine wG ?_ ?_ | refine wH ?_ ?_ | refine wI ?_ ?_ | refine wJ ?_ ?_ | refine wK ?_ ?_ | refine wL ?_ ?_) <;> intro _) | simp (maxSteps := 1000000) (disch := omega) only [go_sem, Nat.reduceAdd, Nat.reduceMul, Nat.reduceSub, Nat.reduceLeDiff, Nat.reduceEqDiff, Nat.reduceBEq, ↓reduceIte, reduceCtorEq, Int.reduceEq, Int.reduceLE, Int.reduceLT, Int.reduceAdd, Int.reduceSub, Int.reduceNeg, Int.reduceToNat, Int.reduceNe, Nat.reducePow, Nat.reduceShiftRight, Nat.reduceMod, *])
      all_goals (exact fin_tmp (.inr rfl) cE3)
  · obtain rfl : i = names.length := by omega
    have hv2 := hv.out
    rw [List.drop_length, lenW] at hv2
    rw [← hv2]
    clear hv hv2
    repeat' (first | ((with_reducible first | refine wA (by omega) ?_ | refine wB (by omega) ?_ | refine wC (by omega) ?_ | refine wD (by omega) ?_ | refine wE ?_ ?_ | refine wF ?_ ?_ | refine wG ?_ ?_ | refine wH ?_ ?_ | refine wI ?_ ?_ | refine wJ ?_ ?_ | refine wK ?_ ?_ | refine wL ?_ ?_) <;> intro _) | simp (maxSteps := 1000000) (disch := omega) only [go_sem, Nat.reduceAdd, Nat.reduceMul, Nat.reduceSub, Nat.reduceLeDiff, Nat.reduceEqDiff, Nat.reduceBEq, ↓reduceIte, reduceCtorEq, Int.reduceEq, Int.reduceLE, Int.reduceLT, Int.reduceAdd, Int.reduceSub, Int.reduceNeg, Int.reduceToNat, Int.reduceNe, Nat.reducePow, Nat.reduceShiftRight, Nat.reduceMod, *])
    all_goals (exact fin_tmp (.inr rfl) cE3)
theorem lens5_le {names : List ByteArray} (h : ¬ 500 < lens5 names) : names.length ≤ 500 := by
  unfold lens5 at h
  split at h <;> omega
theorem sameO (o : Option Tm) : PPure Try.prog F.ref00_SameTerm [.agg (optC o), .agg (optC o)] (.sc (.bool true)) := by
  cases o with
  | some t => exact same6 t
  | none =>
    have h := same6 (.mk 0 0 emp [] [])
    have hw : WeakL (optC none) (Tm.mk 0 0 emp [] []).pv := by
      simp only [optC, Tm.pv, List.map_nil]
      exact ⟨.refl _, .refl _, .refl _, .nil 3, .nil 5, trivial⟩
    exact h.weak ⟨Weak.agg hw, Weak.agg hw, trivial⟩ (.refl _)
set_option maxRecDepth 100000 in
set_option maxHeartbeats 32000000 in
theorem BindAnswers_w (t : Tm) (ht : t.fits) (xs : List Tm) (hfit : ∀ x ∈ xs, x.fits) (by_ frm : Int) (names : List ByteArray) : PPure Try.prog F.law06_BindAnswers [.agg t.pv, .sl 5 (xs.map Tm.pv), .sc (.int .i64 by_), .sc (.int .i64 frm), .sl 1 (names.map txt)] (.sc (.bool true)) := by
  refine pure_by is_law06_BindAnswers (by simp) rfl fun hb nx => ?_
  have hb0 : xs.length ≤ 9223372036854775807 ∧ names.length ≤ 9223372036854775807 := by simp [bndL, PV.bnd] at hb; exact ⟨hb.2.1.1, hb.2.2.1⟩
  clear hb
  have hl := alive6_p
  have cG := great6_p t ht xs hfit
  have cS := Lengths5_p names
  cases hg : great6 t xs with
  | true =>
    rw [hg] at cG
    clear hg cS
    repeat' (first | ((with_reducible first | refine wA (by omega) ?_ | refine wB (by omega) ?_ | refine wC (by omega) ?_ | refine wD (by omega) ?_ | refine wE ?_ ?_ | refine wF ?_ ?_ | refine wG ?_ ?_ | refine wH ?_ ?_ | refine wI ?_ ?_ | refine wJ ?_ ?_ | refine wK ?_ ?_ | refine wL ?_ ?_) <;> intro _) | (((with_reducible refine call_id ?_); (first | (refine call_pure (hl) ?_) | (refine call_pure (cG) ?_)))) | simp (maxSteps := 1000000) (disch := omega) only [go_sem, Nat.reduceAdd, Nat.reduceMul, Nat.reduceSub, Nat.reduceLeDiff, Nat.reduceEqDiff, Nat.reduceBEq, ↓reduceIte, reduceCtorEq, Int.reduceEq, Int.reduceLE, Int.reduceLT, Int.reduceAdd, Int.reduceSub, Int.reduceNeg, Int.reduceToNat, Int.reduceNe, Nat.reducePow, Nat.reduceShiftRight, Nat.reduceMod, mc_law06_BindAnswers, *])
    all_goals (exact fin_tmp (.inr rfl) cE3)
  | false =>
  rw [hg] at cG
  obtain ⟨hlen, hn⟩ := great6_no hg
  clear hg hfit ht
  by_cases hs : 500 < lens5 names
  · repeat' (first | ((with_reducible first | refine wA (by omega) ?_ | refine wB (by omega) ?_ | refine wC (by omega) ?_ | refine wD (by omega) ?_ | refine wE ?_ ?_ | refine wF ?_ ?_ | refine wG ?_ ?_ | refine wH ?_ ?_ | refine wI ?_ ?_ | refine wJ ?_ ?_ | refine wK ?_ ?_ | refine wL ?_ ?_) <;> intro _) | (((with_reducible refine call_id ?_); (first | (refine call_pure (hl) ?_) | (refine call_pure (cG) ?_) | (refine call_pure (cS) ?_)))) | simp (maxSteps := 1000000) (disch := omega) only [go_sem, Nat.reduceAdd, Nat.reduceMul, Nat.reduceSub, Nat.reduceLeDiff, Nat.reduceEqDiff, Nat.reduceBEq, ↓reduceIte, reduceCtorEq, Int.reduceEq, Int.reduceLE, Int.reduceLT, Int.reduceAdd, Int.reduceSub, Int.reduceNeg, Int.reduceToNat, Int.reduceNe, Nat.reducePow, Nat.reduceShiftRight, Nat.reduceMod, mc_law06_BindAnswers, *])
    all_goals (exact fin_tmp (.inr rfl) cE3)
  have hnl := lens5_le hs
  have cC := CopyTerm_p t.size t (Nat.le_refl _) (by omega)
  have c1 := bind_Lift_p t by_ frm
  have d1 := ref06_Lift_p t by_ frm
  have c2 := bind_Lower_p t by_
  have d2 := ref06_Lower_p t by_
  have c3 := bind_Inst_p t xs (by omega)
  have d3 := ref06_Inst_p t xs (by omega)
  have c4 := bind_Abstract_p t names (by omega)
  have d4 := ref06_Abstract_p t names (by omega)
  rw [optT_eq] at c1 d1 c2 d2 c3 d3 c4 d4
  have s1 := sameO (liftR t by_ frm)
  have s2 := sameO (lowR t by_)
  have s3 := sameO (instR t xs)
  have s4 := sameO (absR t names)
  generalize liftR t by_ frm = o1 at c1 d1 s1
  generalize lowR t by_ = o2 at c2 d2 s2
  generalize instR t xs = o3 at c3 d3 s3
  generalize absR t names = o4 at c4 d4 s4
  repeat' (first | ((with_reducible first | refine wA (by omega) ?_ | refine wB (by omega) ?_ | refine wC (by omega) ?_ | refine wD (by omega) ?_ | refine wE ?_ ?_ | refine wF ?_ ?_ | refine wG ?_ ?_ | refine wH ?_ ?_ | refine wI ?_ ?_ | refine wJ ?_ ?_ | refine wK ?_ ?_ | refine wL ?_ ?_) <;> intro _) | (((with_reducible refine call_id ?_); (first | (refine call_pure (hl) ?_) | (refine call_pure (cG) ?_) | (refine call_pure (cS) ?_) | (refine call_pure (cC) ?_) | (refine call_pure (c1) ?_) | (refine call_pure (d1) ?_) | (refine call_pure (c2) ?_) | (refine call_pure (d2) ?_) | (refine call_pure (c3) ?_) | (refine call_pure (d3) ?_) | (refine call_pure (c4) ?_) | (refine call_pure (d4) ?_) | (refine call_pure (s1) ?_) | (refine call_pure (s2) ?_) | (refine call_pure (s3) ?_) | (refine call_pure (s4) ?_)))) | simp (maxSteps := 1000000) (disch := omega) only [go_sem, Nat.reduceAdd, Nat.reduceMul, Nat.reduceSub, Nat.reduceLeDiff, Nat.reduceEqDiff, Nat.reduceBEq, ↓reduceIte, reduceCtorEq, Int.reduceEq, Int.reduceLE, Int.reduceLT, Int.reduceAdd, Int.reduceSub, Int.reduceNeg, Int.reduceToNat, Int.reduceNe, Nat.reducePow, Nat.reduceShiftRight, Nat.reduceMod, mc_law06_BindAnswers, beq_self_eq_true, *])
  clear hl cG cS cC c1 d1 c2 d2 c3 d3 c4 d4 s1 s2 s3 s4
  refine c_loopW 803469022129495137596756474307060807967853697886339414885376 (by kernel_rfl) (fun j f H m => ∃ i : Nat, j = names.length - i ∧ i ≤ names.length ∧ i ≤ xs.length ∧ f 28 = .sc (.int .i64 i)) _ ⟨0, rfl, Nat.zero_le _, Nat.zero_le _, cE1⟩ ?_
  rintro _ f H m ⟨i, rfl, hi, hix, e28⟩
  by_cases hlt : i < names.length ∧ i < xs.length
  · obtain ⟨hlt, hltx⟩ := hlt
    have eg : names[i]? = some names[i] := List.getElem?_eq_getElem hlt
    have egx : xs[i]? = some xs[i] := List.getElem?_eq_getElem hltx
    have c1 := bind_Replace_p t names[i] xs[i]
    have d1 := ref06_Replace_p t names[i] xs[i]
    rw [optT_eq] at c1 d1
    have s1 := sameO (replR t names[i] xs[i])
    generalize replR t names[i] xs[i] = o1 at c1 d1 s1
    have c2 := bind_Occurs_p t names[i]
    have d2 := ref06_Occurs_p t (by omega) names[i]
    generalize occR t names[i] = b2 at c2 d2
    repeat' (first | ((with_reducible first | refine wA (by omega) ?_ | refine wB (by omega) ?_ | refine wC (by omega) ?_ | refine wD (by omega) ?_ | refine wE ?_ ?_ | refine wF ?_ ?_ | refine wG ?_ ?_ | refine wH ?_ ?_ | refine wI ?_ ?_ | refine wJ ?_ ?_ | refine wK ?_ ?_ | refine wL ?_ ?_) <;> intro _) | (((with_reducible refine call_id ?_); (first | (refine call_pure (c1) ?_) | (refine call_pure (d1) ?_) | (refine call_pure (s1) ?_) | (refine call_pure (c2) ?_) | (refine call_pure (d2) ?_)))) | simp (maxSteps := 1000000) (disch := omega) only [go_sem, Nat.reduceAdd, Nat.reduceMul, Nat.reduceSub, Nat.reduceLeDiff, Nat.reduceEqDiff, Nat.reduceBEq, ↓reduceIte, reduceCtorEq, Int.reduceEq, Int.reduceLE, Int.reduceLT, Int.reduceAdd, Int.reduceSub, Int.reduceNeg, Int.reduceToNat, Int.reduceNe, Nat.reducePow, Nat.reduceShiftRight, Nat.reduceMod, txt, beq_self_eq_true, *])
    exact Nx.mk (names.length - (i + 1)) cE1 ⟨i + 1, rfl, cE1, cE1, by simp [upd]⟩
  · have h9 : i = names.length ∨ (i < names.length ∧ i = xs.length) := by omega
    have c1 := bind_Count_p t frm
    have d1 := ref06_Count_p t frm
    have c2 := bind_Uses_p t frm
    have s1 := same6 t
    clear hlt
    generalize countR t frm = c at c1 d1 c2
    by_cases hc : 0 < c
    · rw [decide_eq_true hc] at c2
      have hcd : decide ((0 : Int) < (c : Int)) = true := decide_eq_true (by omega)
      rcases h9 with h | ⟨h, h2⟩
      all_goals
        repeat' (first | ((with_reducible first | refine wA (by omega) ?_ | refine wB (by omega) ?_ | refine wC (by omega) ?_ | refine wD (by omega) ?_ | refine wE ?_ ?_ | refine wF ?_ ?_ | refine wG ?_ ?_ | refine wH ?_ ?_ | refine wI ?_ ?_ | refine wJ ?_ ?_ | refine wK ?_ ?_ | refine wL ?_ ?_) <;> intro _) | (((with_reducible refine call_id ?_); (first | (refine call_pure (c1) ?_) | (refine call_pure (d1) ?_) | (refine call_pure (c2) ?_) | (refine call_pure (s1) ?_)))) | simp (maxSteps := 1000000) (disch := omega) only [go_sem, Nat.reduceAdd, Nat.reduceMul, Nat.reduceSub, Nat.reduceLeDiff, Nat.reduceEqDiff, Nat.reduceBEq, ↓reduceIte, reduceCtorEq, Int.reduceEq, Int.reduceLE, Int.reduceLT, Int.reduceAdd, Int.reduceSub, Int.reduceNeg, Int.reduceToNat, Int.reduceNe, Nat.reducePow, Nat.reduceShiftRight, Nat.reduceMod, beq_self_eq_true, *])
        all_goals (exact fin_tmp (.inr rfl) cE3)
    · rw [decide_eq_false hc] at c2
      have hcd : decide ((0 : Int) < (c : Int)) = false := decide_eq_false (by omega)
      rcases h9 with h | ⟨h, h2⟩
      all_goals
        repeat' (first | ((with_reducible first | refine wA (by omega) ?_ | refine wB (by omega) ?_ | refine wC (by omega) ?_ | refine wD (by omega) ?_ | refine wE ?_ ?_ | refine wF ?_ ?_ | refine wG ?_ ?_ | refine wH ?_ ?_ | refine wI ?_ ?_ | refine wJ ?_ ?_ | refine wK ?_ ?_ | refine wL ?_ ?_) <;> intro _) | (((with_reducible refine call_id ?_); (first | (refine call_pure (c1) ?_) | (refine call_pure (d1) ?_) | (refine call_pure (c2) ?_) | (refine call_pure (s1) ?_)))) | simp (maxSteps := 1000000) (disch := omega) only [go_sem, Nat.reduceAdd, Nat.reduceMul, Nat.reduceSub, Nat.reduceLeDiff, Nat.reduceEqDiff, Nat.reduceBEq, ↓reduceIte, reduceCtorEq, Int.reduceEq, Int.reduceLE, Int.reduceLT, Int.reduceAdd, Int.reduceSub, Int.reduceNeg, Int.reduceToNat, Int.reduceNe, Nat.reducePow, Nat.reduceShiftRight, Nat.reduceMod, beq_self_eq_true, *])
        all_goals (exact fin_tmp (.inr rfl) cE3)
theorem BindAnswers_p (t : {t : Tm // t.fits}) (list : List {t : Tm // t.fits}) (by_ frm : Int) (names : List ByteArray) : PPure Try.prog F.law06_BindAnswers [.agg t.1.pv, .sl 5 (list.map fun t => t.1.pv), .sc (.int .i64 by_), .sc (.int .i64 frm), .sl 1 (names.map txt)] (.sc (.bool true)) := by
  have hmap : (list.map fun t => t.1.pv) = (list.map (·.1)).map Tm.pv := by rw [List.map_map]; rfl
  rw [hmap]
  exact BindAnswers_w t.1 t.2 _ (fits_all list) by_ frm names
end
section
set_option maxRecDepth 20000
attribute [local go_sem] pv_len pv_take Nat.add_assoc tm_len tm_take pv_one tm_one tpvB_len tpvB_take tpvB_one pvB_len pvB_take pvB_one id_ne id_ne' id_ne2 List.append_assoc tm_take_app tm_drop_app tm_take10 tm_drop10 tm_drop15 tm_drop
theorem open_texts {H : Type} {enc : TypeId × Value → H} {W : World} {a : Option Addr} {len cap : Nat} {d : DataW H} {p : List MemPlace} (h : DataW.Trod enc Try.prog W 0 (fun _ => true) true 49 (.slice a len cap) d p) : ∃ l : List ByteArray, Rep (allV W) (.sl 1 (l.map txt)) (.slice a len cap) := by
  obtain ⟨l, hl⟩ := trod_one (pv := fun l : List {s : ByteArray // s.size ≤ maxLen} => PV.sl 1 (l.map fun z => [.sc (.string z.1)])) (fun n => by cases n with
    | zero => exact op_zero
    | succ n => exact op_slice Try.underlying49 (by kernel_rfl) (by omega) (op_string Try.underlying9)) rfl h
  exact ⟨l.map (·.1), by rw [List.map_map]; exact hl⟩
end
end Go.Proofs.Ytfhblaggeahbjaa
