/-
  Plain values: TnE, DeC, DeD, DeG, Tm3, DeH, DeI, DeE, DeJ, DeL, DeF, DeM, DeN, DeO, DeP, LvO, TmOp, DeS, DfA, DfB, DfC, DfD, DfE, DfF, DfG.
-/
import Derived.Test.YtnoilfjeamffnaaXNa
import Derived.Test.YtnoilfjeamffnaaXNb
import Derived.Test.YtnoilfjeamffnaaXNc
import Derived.Test.YtnoilfjeamffnaaXNd
import Derived.Test.YtnoilfjeamffnaaXNe
set_option linter.unusedVariables false
set_option linter.unusedSimpArgs false
namespace Go.Proofs.Ytnoilfjeamffnaa
open Go.RowKit
attribute [local go_sem ↓] c_seq c_region c_cond c_block c_ret c_skip c_exit c_cont t_normal t_ret t_exit b_normal b_ret b_exit run_nil run_cons g_some o_mv o_pick o_bin o_un o_ld o_ldf o_bld o_len o_mkf o_nilc o_fa o_fd o_ia o_iaa o_ix o_ixs o_ext o_al o_bxf o_bxt o_bsl o_bslf o_mks o_st o_stf o_call o_rng o_nxt o_callm o_callmA o_calvm o_calv cond_true cond_false upd_get sigF_cons o_eqa o_mm o_app o_slc
attribute [local go_sem] num_nil num_cons isP chunks rngV next_is next_iter val_some new_some st_some stf_some guard_tt guard_ff guard_tf guard_ft guard_un calv_fn put_some put_none ev_tmp ev_const ev_func sig_eq sigF_nil q0 q1 nilcV faV fdV iaV iaaV ixV ixsV extV mksV loadP storeP lenPV binPV unPV intBin partsP fillP zeros PV.good PV.cellsOf PV.one q2 q3 q4 q5 q6 q7 q8 q9 q10 q11 q12 q13 q14 q15 q16 q17 q18 q19 q20 q21 q22 q23 q24 q25 q26 q27 q28 q29 q30 q31 q32 q33 q34 q35 q36 q37 q38 wrap64 app_some mmL mmV mm2 eqE eqParts eqInt eqBool eqStr partV q39 q40 pickV q41 q42 q43 q44 q45 q46 q47 q48 q49 appE oldOf rowOf updL q50 q51 q52 q53 zlt ovr_get ite_neN ite_eqN q54 q55 q56 q57 q58 q59 q60 q61 q62 q63 q64 q65 q66 q67 tailP_f tailP_t tailF_f tailF_t slcP bndO capO slcLen intOf Option.isSome_none Option.isNone_none Option.isSome_some Option.isNone_some nilP slc_sl slc_csl slc_osl slc_osl0 slc_ocap slc_str List.append_nil List.length_append resP resPs resP1 PV.sc.injEq Value.bool.injEq Value.int.injEq
section
set_option maxRecDepth 20000
attribute [local go_sem] pv_len pv_take Nat.add_assoc tm_len tm_take pv_one tm_one id_ne id_ne' id_ne2 List.append_assoc
theorem instV_nodes {l y : Lv} {bys : List Lv} (h : l.instV bys = some y) : y.nodes ≤ 64 := by
  rw [instV_eq] at h
  unfold Lv.instR at h
  split at h
  · cases h; rename_i h; exact h.2.2
  · cases h
theorem insts_nodes (bys : List Lv) : ∀ (xs ys : List Lv), insts bys xs = some ys → nodesL ys ≤ 64 * nodesL xs
  | [], ys, h => by simp only [insts, Option.some.injEq] at h; subst h; simp [nodesL]
  | x :: r, ys, h => by
    simp only [insts] at h
    split at h
    · rename_i y zs h1 h2
      cases h
      have := insts_nodes bys r zs h2
      have := instV_nodes h1
      have := nodes_pos x
      simp only [nodesL]
      omega
    · cases h
mutual
theorem putL_nodes (bys : List Lv) : ∀ (t u : Tm), t.putL bys = some u → u.nodes ≤ 64 * t.nodes
  | .mk k n s ls args, u, h => by
    simp only [Tm.putL] at h
    split at h
    · rename_i ls' args' h1 h2
      cases h
      have := insts_nodes bys ls ls' h1
      have := putLs_nodes bys args args' h2
      simp only [Tm.nodes]
      omega
    · cases h
theorem putLs_nodes (bys : List Lv) : ∀ (ts us : List Tm), putLs bys ts = some us → nodesT us ≤ 64 * nodesT ts
  | [], us, h => by simp only [putLs, Option.some.injEq] at h; subst h; simp [nodesT]
  | t :: r, us, h => by
    simp only [putLs] at h
    split at h
    · rename_i y ys h1 h2
      cases h
      have := putL_nodes bys t y h1
      have := putLs_nodes bys r ys h2
      simp only [nodesT]
      omega
    · cases h
end
set_option maxHeartbeats 4000000 in
theorem term_Levels_p (t : Tm) (bys : List Lv) (hm : t.nodes ≤ 2 ^ 40) : PPure Try.prog F.term_Levels [.agg t.pv, .sl 3 (bys.map Lv.pv)] (optT (levelsR t bys)) := by
  refine pure_by is_term_Levels (by simp) (optT_imm _) fun hb nx => ?_
  have hb0 : bys.length ≤ 9223372036854775807 := by simp [bndL, PV.bnd] at hb; exact hb.2.1
  have c1 := tRight_p t hm bys.length 1125899906842624
  clear hb
  by_cases hr : t.right bys.length 1125899906842624 = true
  · have hn := (right_formed hr).2.2.2.2
    rw [hr] at c1
    have hrk := Kept.mk hr
    clear hr
    repeat' (first | ((with_reducible first | refine wA (by omega) ?_ | refine wB (by omega) ?_ | refine wC (by omega) ?_ | refine wD (by omega) ?_ | refine wE ?_ ?_ | refine wF ?_ ?_ | refine wG ?_ ?_ | refine wH ?_ ?_ | refine wI ?_ ?_ | refine wJ ?_ ?_ | refine wK ?_ ?_ | refine wL ?_ ?_) <;> intro _) | (((with_reducible refine call_id ?_); (first | (refine call_pure (c1) ?_)))) | simp (maxSteps := 1000000) (disch := omega) only [go_sem, Nat.reduceAdd, Nat.reduceMul, Nat.reduceSub, Nat.reduceLeDiff, Nat.reduceEqDiff, Nat.reduceBEq, ↓reduceIte, reduceCtorEq, Int.reduceEq, Int.reduceLE, Int.reduceLT, Int.reduceAdd, Int.reduceSub, Int.reduceNeg, Int.reduceToNat, Int.reduceNe, Nat.reducePow, Nat.reduceShiftRight, Nat.reduceMod, mc_term_Levels, *])
    refine call_mut (putLevels_p bys t.size t (Nat.le_refl _) hm _ _ (nx + 8) 0 [] [] (fun j => decide (j = nx + 1)) (upd_same _ _ _) (Nat.add_lt_add_left (by decide) _) rfl rfl rfl ?kp) ?_
    case kp =>
      intro j hj
      obtain rfl : j = nx + 1 := by simpa using hj
      refine ⟨by omega, Nat.add_lt_add_left (by decide) _, fun o ho => ?_⟩
      have ho' := (upd_ne _ _ (show nx + 1 ≠ nx + 8 by omega)).symm.trans ho
      have ho2 := (upd_same _ _ _).symm.trans ho'
      cases ho2
      exact ⟨rfl, .imm rfl⟩
    rintro H' nx' r' ⟨hn1, hk1, hcase⟩ -
    have hH1 : H' (nx + 1) = some ⟨zeroT, true⟩ := (hk1 (nx + 1) (by simp)).trans ((upd_ne _ _ (show nx + 1 ≠ nx + 8 by omega)).trans (upd_same _ _ _))
    unfold zeroT at hH1
    clear hk1 hn1
    rcases hcase with ⟨hno, rfl⟩ | ⟨u, hu, rfl, hrow⟩
    · have e : levelsR t bys = none := by simp [levelsR, hrk.out, hno]
      rw [e]
      clear e hno c1
      repeat' (first | ((with_reducible first | refine wA (by omega) ?_ | refine wB (by omega) ?_ | refine wC (by omega) ?_ | refine wD (by omega) ?_ | refine wE ?_ ?_ | refine wF ?_ ?_ | refine wG ?_ ?_ | refine wH ?_ ?_ | refine wI ?_ ?_ | refine wJ ?_ ?_ | refine wK ?_ ?_ | refine wL ?_ ?_) <;> intro _) | simp (maxSteps := 1000000) (disch := omega) only [go_sem, Nat.reduceAdd, Nat.reduceMul, Nat.reduceSub, Nat.reduceLeDiff, Nat.reduceEqDiff, Nat.reduceBEq, ↓reduceIte, reduceCtorEq, Int.reduceEq, Int.reduceLE, Int.reduceLT, Int.reduceAdd, Int.reduceSub, Int.reduceNeg, Int.reduceToNat, Int.reduceNe, Nat.reducePow, Nat.reduceShiftRight, Nat.reduceMod, *])
      refine fin_ret (r0 := .tup [.agg zeroT, .sc (.bool false)]) 2 cE2 ?_
      exact .of_eq (by simp [frz, zeroT, frz_sc, optT])
    · have hun := putL_nodes bys t u hu
      have c3 := tNodes_p u (by omega)
      rw [List.nil_append, List.append_nil] at hrow
      by_cases hu2 : u.nodes ≤ 2000
      · have e : levelsR t bys = some u := by simp [levelsR, hrk.out, hu, hu2]
        rw [e, show min u.nodes 2001 = u.nodes by omega] at *
        clear e hu hun c1
        repeat' (first | ((with_reducible first | refine wA (by omega) ?_ | refine wB (by omega) ?_ | refine wC (by omega) ?_ | refine wD (by omega) ?_ | refine wE ?_ ?_ | refine wF ?_ ?_ | refine wG ?_ ?_ | refine wH ?_ ?_ | refine wI ?_ ?_ | refine wJ ?_ ?_ | refine wK ?_ ?_ | refine wL ?_ ?_) <;> intro _) | (((with_reducible refine call_id ?_); (first | (refine call_pure (c3) ?_)))) | simp (maxSteps := 1000000) (disch := omega) only [go_sem, Nat.reduceAdd, Nat.reduceMul, Nat.reduceSub, Nat.reduceLeDiff, Nat.reduceEqDiff, Nat.reduceBEq, ↓reduceIte, reduceCtorEq, Int.reduceEq, Int.reduceLE, Int.reduceLT, Int.reduceAdd, Int.reduceSub, Int.reduceNeg, Int.reduceToNat, Int.reduceNe, Nat.reducePow, Nat.reduceShiftRight, Nat.reduceMod, *])
        refine fin_ret (r0 := .tup [.agg u.pv, .sc (.bool true)]) 1 cE2 ?_
        exact .of_eq (by simp [frz, optT])
      · have e : levelsR t bys = none := by simp [levelsR, hrk.out, hu, hu2]
        rw [e]
        rw [show min u.nodes 2001 = 2001 by omega] at c3
        clear e hu hun c1
        repeat' (first | ((with_reducible first | refine wA (by omega) ?_ | refine wB (by omega) ?_ | refine wC (by omega) ?_ | refine wD (by omega) ?_ | refine wE ?_ ?_ | refine wF ?_ ?_ | refine wG ?_ ?_ | refine wH ?_ ?_ | refine wI ?_ ?_ | refine wJ ?_ ?_ | refine wK ?_ ?_ | refine wL ?_ ?_) <;> intro _) | (((with_reducible refine call_id ?_); (first | (refine call_pure (c3) ?_)))) | simp (maxSteps := 1000000) (disch := omega) only [go_sem, Nat.reduceAdd, Nat.reduceMul, Nat.reduceSub, Nat.reduceLeDiff, Nat.reduceEqDiff, Nat.reduceBEq, ↓reduceIte, reduceCtorEq, Int.reduceEq, Int.reduceLE, Int.reduceLT, Int.reduceAdd, Int.reduceSub, Int.reduceNeg, Int.reduceToNat, Int.reduceNe, Nat.reducePow, Nat.reduceShiftRight, Nat.reduceMod, *])
        refine fin_ret (r0 := .tup [.agg zeroT, .sc (.bool false)]) 2 cE2 ?_
        exact .of_eq (by simp [frz, zeroT, frz_sc, optT])
  · have e : levelsR t bys = none := by simp [levelsR, hr]
    rw [e]
    rw [Bool.not_eq_true] at hr
    rw [hr] at c1
    clear hr e
    repeat' (first | ((with_reducible first | refine wA (by omega) ?_ | refine wB (by omega) ?_ | refine wC (by omega) ?_ | refine wD (by omega) ?_ | refine wE ?_ ?_ | refine wF ?_ ?_ | refine wG ?_ ?_ | refine wH ?_ ?_ | refine wI ?_ ?_ | refine wJ ?_ ?_ | refine wK ?_ ?_ | refine wL ?_ ?_) <;> intro _) | (((with_reducible refine call_id ?_); (first | (refine call_pure (c1) ?_)))) | simp (maxSteps := 1000000) (disch := omega) only [go_sem, Nat.reduceAdd, Nat.reduceMul, Nat.reduceSub, Nat.reduceLeDiff, Nat.reduceEqDiff, Nat.reduceBEq, ↓reduceIte, reduceCtorEq, Int.reduceEq, Int.reduceLE, Int.reduceLT, Int.reduceAdd, Int.reduceSub, Int.reduceNeg, Int.reduceToNat, Int.reduceNe, Nat.reducePow, Nat.reduceShiftRight, Nat.reduceMod, mc_term_Levels, *])
    refine fin_ret (r0 := .tup [.agg zeroT, .sc (.bool false)]) 2 cE2 ?_
    exact .of_eq (by simp [frz, zeroT, frz_sc, optT])
end
section
set_option maxRecDepth 20000
attribute [local go_sem] pv_len pv_take Nat.add_assoc tm_len tm_take pv_one tm_one id_ne id_ne' id_ne2 List.append_assoc tm_take_app tm_drop_app tm_d6 tm_d7 tm_d8 tm_d9 tm_d10 tm_d11 tm_d12 tm_d13 tm_d14 tm_d15 ent_len ent_take ent_one
theorem wrongL_p (l : Lv) : PPure Try.prog F.decl_at_1 [.agg l.pv] (.sc (.bool (!l.right 4))) := by
  refine pure_by is_decl_at_1 (by simp) rfl fun hb nx => ?_
  clear hb
  have c1 := Right_p l 4
  repeat' (first | ((with_reducible first | refine wA (by omega) ?_ | refine wB (by omega) ?_ | refine wC (by omega) ?_ | refine wD (by omega) ?_ | refine wE ?_ ?_ | refine wF ?_ ?_ | refine wG ?_ ?_ | refine wH ?_ ?_ | refine wI ?_ ?_ | refine wJ ?_ ?_ | refine wK ?_ ?_ | refine wL ?_ ?_) <;> intro _) | (((with_reducible refine call_id ?_); (first | (refine call_pure (c1) ?_)))) | simp (maxSteps := 1000000) (disch := omega) only [go_sem, Nat.reduceAdd, Nat.reduceMul, Nat.reduceSub, Nat.reduceLeDiff, Nat.reduceEqDiff, Nat.reduceBEq, ↓reduceIte, reduceCtorEq, Int.reduceEq, Int.reduceLE, Int.reduceLT, Int.reduceAdd, Int.reduceSub, Int.reduceNeg, Int.reduceToNat, Int.reduceNe, Nat.reducePow, Nat.reduceShiftRight, Nat.reduceMod, mc_decl_at_1, *])
  all_goals (exact fin_tmp (.inr rfl) cE3)
theorem indexL_p (xs : List Lv) : PPure Try.prog F.slices_IndexFunc_api_Level_api_Level [.sl 3 (xs.map Lv.pv), .fn F.decl_at_1 []] (.sc (.int .i64 (idxF (fun l => !l.right 4) xs 0))) := by
  refine pure_by is_slices_IndexFunc_api_Level_api_Level (by simp) rfl fun hb nx => ?_
  have hb0 : xs.length ≤ 9223372036854775807 := by simp [bndL, PV.bnd] at hb; exact hb.1
  clear hb
  repeat' (first | ((with_reducible first | refine wA (by omega) ?_ | refine wB (by omega) ?_ | refine wC (by omega) ?_ | refine wD (by omega) ?_ | refine wE ?_ ?_ | refine wF ?_ ?_ | refine wG ?_ ?_ | refine wH ?_ ?_ | refine wI ?_ ?_ | refine wJ ?_ ?_ | refine wK ?_ ?_ | refine wL ?_ ?_) <;> intro _) | simp (maxSteps := 1000000) (disch := omega) only [go_sem, Nat.reduceAdd, Nat.reduceMul, Nat.reduceSub, Nat.reduceLeDiff, Nat.reduceEqDiff, Nat.reduceBEq, ↓reduceIte, reduceCtorEq, Int.reduceEq, Int.reduceLE, Int.reduceLT, Int.reduceAdd, Int.reduceSub, Int.reduceNeg, Int.reduceToNat, Int.reduceNe, Nat.reducePow, Nat.reduceShiftRight, Nat.reduceMod, mc_slices_IndexFunc_api_Level_api_Level, *])
  refine c_loopW 524080 (by kernel_rfl) (fun j f H m => ∃ i : Nat, j = xs.length - i ∧ i ≤ xs.length ∧ f 8 = .sc (.int .i64 i) ∧ Kept (idxF (fun l : Lv => !l.right 4) xs 0 = idxF (fun l : Lv => !l.right 4) (xs.drop i) i)) _ ⟨0, rfl, Nat.zero_le _, cE1, Kept.mk (by rw [List.drop_zero])⟩ ?_
  rintro _ f H m ⟨i, rfl, hi, e8, hs⟩
  by_cases hlt : i < xs.length
  · have eg : xs[i]? = some xs[i] := List.getElem?_eq_getElem hlt
    have c1 := wrongL_p xs[i]
    have hs2 := hs.out
    rw [List.drop_eq_getElem_cons hlt, idxF] at hs2
    cases hx : !xs[i].right 4 with
    | true =>
      rw [hx] at c1 hs2
      rw [hs2]
      clear hs hs2 hx
      repeat' (first | ((with_reducible first | refine wA (by omega) ?_ | refine wB (by omega) ?_ | refine wC (by omega) ?_ | refine wD (by omega) ?_ | refine wE ?_ ?_ | refine wF ?_ ?_ | refine wG ?_ ?_ | refine wH ?_ ?_ | refine wI ?_ ?_ | refine wJ ?_ ?_ | refine wK ?_ ?_ | refine wL ?_ ?_) <;> intro _) | (((with_reducible refine call_id ?_); (first | (refine call_pure (c1) ?_)))) | simp (maxSteps := 1000000) (disch := omega) only [go_sem, Nat.reduceAdd, Nat.reduceMul, Nat.reduceSub, Nat.reduceLeDiff, Nat.reduceEqDiff, Nat.reduceBEq, ↓reduceIte, reduceCtorEq, Int.reduceEq, Int.reduceLE, Int.reduceLT, Int.reduceAdd, Int.reduceSub, Int.reduceNeg, Int.reduceToNat, Int.reduceNe, Nat.reducePow, Nat.reduceShiftRight, Nat.reduceMod, *])
      all_goals (exact fin_tmp (.inr rfl) cE3)
    | false =>
      rw [hx] at c1 hs2
      have hs3 := Kept.mk hs2
      clear hs hs2 hx
      repeat' (first | ((with_reducible first | refine wA (by omega) ?_ | refine wB (by omega) ?_ | refine wC (by omega) ?_ | refine wD (by omega) ?_ | refine wE ?_ ?_ | refine wF ?_ ?_ | refine wG ?_ ?_ | refine wH ?_ ?_ | refine wI ?_ ?_ | refine wJ ?_ ?_ | refine wK ?_ ?_ | refine wL ?_ ?_) <;> intro _) | (((with_reducible refine call_id ?_); (first | (refine call_pure (c1) ?_)))) | simp (maxSteps := 1000000) (disch := omega) only [go_sem, Nat.reduceAdd, Nat.reduceMul, Nat.reduceSub, Nat.reduceLeDiff, Nat.reduceEqDiff, Nat.reduceBEq, ↓reduceIte, reduceCtorEq, Int.reduceEq, Int.reduceLE, Int.reduceLT, Int.reduceAdd, Int.reduceSub, Int.reduceNeg, Int.reduceToNat, Int.reduceNe, Nat.reducePow, Nat.reduceShiftRight, Nat.reduceMod, *])
      exact Nx.mk (xs.length - (i + 1)) cE1 ⟨i + 1, rfl, cE1, by simp [upd], hs3⟩
  · obtain rfl : i = xs.length := by omega
    have hs2 := hs.out
    rw [List.drop_length, idxF] at hs2
    rw [hs2]
    clear hs hs2
    repeat' (first | ((with_reducible first | refine wA (by omega) ?_ | refine wB (by omega) ?_ | refine wC (by omega) ?_ | refine wD (by omega) ?_ | refine wE ?_ ?_ | refine wF ?_ ?_ | refine wG ?_ ?_ | refine wH ?_ ?_ | refine wI ?_ ?_ | refine wJ ?_ ?_ | refine wK ?_ ?_ | refine wL ?_ ?_) <;> intro _) | simp (maxSteps := 1000000) (disch := omega) only [go_sem, Nat.reduceAdd, Nat.reduceMul, Nat.reduceSub, Nat.reduceLeDiff, Nat.reduceEqDiff, Nat.reduceBEq, ↓reduceIte, reduceCtorEq, Int.reduceEq, Int.reduceLE, Int.reduceLT, Int.reduceAdd, Int.reduceSub, Int.reduceNeg, Int.reduceToNat, Int.reduceNe, Nat.reducePow, Nat.reduceShiftRight, Nat.reduceMod, *])
    all_goals (exact fin_tmp (.inr rfl) cE3)
theorem containsL_p (xs : List Lv) : PPure Try.prog F.slices_ContainsFunc_api_Level_api_Level [.sl 3 (xs.map Lv.pv), .fn F.decl_at_1 []] (.sc (.bool (xs.any fun l => !l.right 4))) := by
  refine pure_by is_slices_ContainsFunc_api_Level_api_Level (by simp) rfl fun hb nx => ?_
  clear hb
  have c1 := indexL_p xs
  rw [← idxF_any _ xs 0]
  repeat' (first | ((with_reducible first | refine wA (by omega) ?_ | refine wB (by omega) ?_ | refine wC (by omega) ?_ | refine wD (by omega) ?_ | refine wE ?_ ?_ | refine wF ?_ ?_ | refine wG ?_ ?_ | refine wH ?_ ?_ | refine wI ?_ ?_ | refine wJ ?_ ?_ | refine wK ?_ ?_ | refine wL ?_ ?_) <;> intro _) | (((with_reducible refine call_id ?_); (first | (refine call_pure (c1) ?_)))) | simp (maxSteps := 1000000) (disch := omega) only [go_sem, Nat.reduceAdd, Nat.reduceMul, Nat.reduceSub, Nat.reduceLeDiff, Nat.reduceEqDiff, Nat.reduceBEq, ↓reduceIte, reduceCtorEq, Int.reduceEq, Int.reduceLE, Int.reduceLT, Int.reduceAdd, Int.reduceSub, Int.reduceNeg, Int.reduceToNat, Int.reduceNe, Nat.reducePow, Nat.reduceShiftRight, Nat.reduceMod, mc_slices_ContainsFunc_api_Level_api_Level, *])
  all_goals (exact fin_tmp (.inr rfl) cE3)
def optC : Option Tm → List PV
  | some t => t.pv
  | none => [.sc (.int .i64 0), .sc (.int .i64 0), .sc (.string ⟨#[]⟩), .sc (.slice none 0 0), .sc (.slice none 0 0)]
theorem optC_imm (o : Option Tm) : immL (optC o) = true := by cases o <;> simp [optC, immL, PV.imm, tm_imm]
abbrev TmE := Option Tm × Int
def errT (r : TmE) : PV := .tup [.agg (optC r.1), .sc (.int .i64 r.2)]
theorem errT_imm (r : TmE) : (errT r).imm = true := by simp [errT, PV.imm, immL, optC_imm]
def atR (params : Int) (t : Tm) (bys : List Lv) : TmE := if (bys.length : Int) ≠ params ∨ (bys.any fun l => !l.right 4) = true then (none, 16) else match levelsR t bys with
  | none => (none, 15)
  | some y => (some y, 0)
set_option maxHeartbeats 4000000 in
theorem at_p (e : Ent) (t : Tm) (rest : List PV) (hm : t.nodes ≤ 2 ^ 40) (bys : List Lv) : PPure Try.prog F.decl_at [.ptr e.pv, .ptr (t.pv ++ rest), .sl 3 (bys.map Lv.pv)] (errT (atR e.params t bys)) := by
  obtain ⟨kind, params, name, typ, val, height, family, fixed, index, fields, ctors⟩ := e
  refine pure_by is_decl_at (by simp) (errT_imm _) fun hb nx => ?_
  clear hb
  have c1 := containsL_p bys
  have c2 := term_Levels_p t bys hm
  by_cases hl : (bys.length : Int) = params
  · cases ha : bys.any fun l => !l.right 4 with
    | true =>
      have e1 : atR params t bys = (none, 16) := if_pos (.inr ha)
      rw [ha] at c1
      simp only [e1, errT, optC]
      clear e1 ha c2
      repeat' (first | ((with_reducible first | refine wA (by omega) ?_ | refine wB (by omega) ?_ | refine wC (by omega) ?_ | refine wD (by omega) ?_ | refine wE ?_ ?_ | refine wF ?_ ?_ | refine wG ?_ ?_ | refine wH ?_ ?_ | refine wI ?_ ?_ | refine wJ ?_ ?_ | refine wK ?_ ?_ | refine wL ?_ ?_) <;> intro _) | (((with_reducible refine call_id ?_); (first | (refine call_pure (c1) ?_)))) | simp (maxSteps := 1000000) (disch := omega) only [go_sem, Nat.reduceAdd, Nat.reduceMul, Nat.reduceSub, Nat.reduceLeDiff, Nat.reduceEqDiff, Nat.reduceBEq, ↓reduceIte, reduceCtorEq, Int.reduceEq, Int.reduceLE, Int.reduceLT, Int.reduceAdd, Int.reduceSub, Int.reduceNeg, Int.reduceToNat, Int.reduceNe, Nat.reducePow, Nat.reduceShiftRight, Nat.reduceMod, mc_decl_at, Ent.pv, *])
      all_goals
        refine fin_ret (r0 := .tup [.agg [.sc (.int .i64 0), .sc (.int .i64 0), .sc (.string ⟨#[]⟩), .sc (.slice none 0 0), .sc (.slice none 0 0)], .sc (.int .i64 16)]) 2 cE2 ?_
        exact .of_eq (by simp [frz, frz_sc])
    | false =>
      rw [ha] at c1
      cases hv : levelsR t bys with
      | none =>
        have e1 : atR params t bys = (none, 15) := by unfold atR; rw [if_neg (by rw [ha]; simp [hl]), hv]
        rw [hv] at c2
        simp only [optT, zeroT] at c2
        simp only [e1, errT, optC]
        clear e1 ha hv
        repeat' (first | ((with_reducible first | refine wA (by omega) ?_ | refine wB (by omega) ?_ | refine wC (by omega) ?_ | refine wD (by omega) ?_ | refine wE ?_ ?_ | refine wF ?_ ?_ | refine wG ?_ ?_ | refine wH ?_ ?_ | refine wI ?_ ?_ | refine wJ ?_ ?_ | refine wK ?_ ?_ | refine wL ?_ ?_) <;> intro _) | (((with_reducible refine call_id ?_); (first | (refine call_pure (c1) ?_) | (refine call_pure (c2) ?_)))) | simp (maxSteps := 1000000) (disch := omega) only [go_sem, Nat.reduceAdd, Nat.reduceMul, Nat.reduceSub, Nat.reduceLeDiff, Nat.reduceEqDiff, Nat.reduceBEq, ↓reduceIte, reduceCtorEq, Int.reduceEq, Int.reduceLE, Int.reduceLT, Int.reduceAdd, Int.reduceSub, Int.reduceNeg, Int.reduceToNat, Int.reduceNe, Nat.reducePow, Nat.reduceShiftRight, Nat.reduceMod, mc_decl_at, Ent.pv, Nat.le_add_right, *])
        all_goals
          refine fin_ret (r0 := .tup [.agg [.sc (.int .i64 0), .sc (.int .i64 0), .sc (.string ⟨#[]⟩), .sc (.slice none 0 0), .sc (.slice none 0 0)], .sc (.int .i64 15)]) 2 cE2 ?_
          exact .of_eq (by simp [frz, frz_sc])
      | some y =>
        have e1 : atR params t bys = (some y, 0) := by unfold atR; rw [if_neg (by rw [ha]; simp [hl]), hv]
        rw [hv] at c2
        simp only [optT] at c2
        simp only [e1, errT, optC]
        clear e1 ha hv
        repeat' (first | ((with_reducible first | refine wA (by omega) ?_ | refine wB (by omega) ?_ | refine wC (by omega) ?_ | refine wD (by omega) ?_ | refine wE ?_ ?_ | refine wF ?_ ?_ | refine wG ?_ ?_ | refine wH ?_ ?_ | refine wI ?_ ?_ | refine wJ ?_ ?_ | refine wK ?_ ?_ | refine wL ?_ ?_) <;> intro _) | (((with_reducible refine call_id ?_); (first | (refine call_pure (c1) ?_) | (refine call_pure (c2) ?_)))) | simp (maxSteps := 1000000) (disch := omega) only [go_sem, Nat.reduceAdd, Nat.reduceMul, Nat.reduceSub, Nat.reduceLeDiff, Nat.reduceEqDiff, Nat.reduceBEq, ↓reduceIte, reduceCtorEq, Int.reduceEq, Int.reduceLE, Int.reduceLT, Int.reduceAdd, Int.reduceSub, Int.reduceNeg, Int.reduceToNat, Int.reduceNe, Nat.reducePow, Nat.reduceShiftRight, Nat.reduceMod, mc_decl_at, Ent.pv, Nat.le_add_right, *])
        all_goals
          refine fin_ret (r0 := .tup [.agg y.pv, .sc (.int .i64 0)]) 1 cE2 ?_
          exact .of_eq (by simp [frz])
  · have e1 : atR params t bys = (none, 16) := if_pos (.inl hl)
    simp only [e1, errT, optC]
    clear e1 c2 c1
    repeat' (first | ((with_reducible first | refine wA (by omega) ?_ | refine wB (by omega) ?_ | refine wC (by omega) ?_ | refine wD (by omega) ?_ | refine wE ?_ ?_ | refine wF ?_ ?_ | refine wG ?_ ?_ | refine wH ?_ ?_ | refine wI ?_ ?_ | refine wJ ?_ ?_ | refine wK ?_ ?_ | refine wL ?_ ?_) <;> intro _) | simp (maxSteps := 1000000) (disch := omega) only [go_sem, Nat.reduceAdd, Nat.reduceMul, Nat.reduceSub, Nat.reduceLeDiff, Nat.reduceEqDiff, Nat.reduceBEq, ↓reduceIte, reduceCtorEq, Int.reduceEq, Int.reduceLE, Int.reduceLT, Int.reduceAdd, Int.reduceSub, Int.reduceNeg, Int.reduceToNat, Int.reduceNe, Nat.reducePow, Nat.reduceShiftRight, Nat.reduceMod, mc_decl_at, Ent.pv, *])
    all_goals
      refine fin_ret (r0 := .tup [.agg [.sc (.int .i64 0), .sc (.int .i64 0), .sc (.string ⟨#[]⟩), .sc (.slice none 0 0), .sc (.slice none 0 0)], .sc (.int .i64 16)]) 2 cE2 ?_
      exact .of_eq (by simp [frz, frz_sc])
theorem optC_len (o : Option Tm) : (optC o).length = 5 := by cases o <;> simp [optC, tm_len]
theorem optC_take (o : Option Tm) : (optC o).take 5 = optC o := List.take_of_length_le (by rw [optC_len]; omega)
theorem optC_one (o : Option Tm) : (optC o).all PV.one = true := by
  cases o with
  | none => simp [optC, PV.one]
  | some t => exact tm_one t
end
section
set_option maxRecDepth 20000
attribute [local go_sem] pv_len pv_take Nat.add_assoc tm_len tm_take pv_one tm_one id_ne id_ne' id_ne2 List.append_assoc tm_take_app tm_drop_app tm_d6 tm_d7 tm_d8 tm_d9 tm_d10 tm_d11 tm_d12 tm_d13 tm_d14 tm_d15 ent_len ent_take ent_one optC_len optC_take optC_one
def typeR (e : Ent) (bys : List Lv) : TmE := if e.right = true then atR e.params e.typ bys else (none, 10)
def eValR (e : Ent) (bys : List Lv) : TmE := if e.right = true then (if e.kind = 2 then atR e.params e.val bys else (none, 13)) else (none, 10)
theorem ent_right_nodes {e : Ent} (h : e.right = true) : e.typ.nodes ≤ 2000 ∧ 0 ≤ e.params ∧ e.params ≤ 4 := by
  simp only [Ent.right, Bool.and_eq_true, decide_eq_true_eq] at h
  have := (h.2.2.2.2.2.1)
  simp only [Tm.right, Bool.and_eq_true, decide_eq_true_eq] at this
  exact ⟨this.2.2.2.1, h.2.2.2.1, h.2.2.2.2.1⟩
theorem ent_right_val {e : Ent} (h : e.right = true) (hk : e.kind = 2) : e.val.nodes ≤ 2000 := by
  simp only [Ent.right, Bool.and_eq_true, decide_eq_true_eq] at h
  have := h.2.2.2.2.2.2.1
  unfold valueB at this
  rw [if_pos (.inl hk)] at this
  simp only [Tm.right, Bool.and_eq_true, decide_eq_true_eq] at this
  exact this.2.2.2.1
set_option maxHeartbeats 4000000 in
theorem Type_p (e : Ent) (bys : List Lv) : PPure Try.prog F.decl_Type [.agg e.pv, .sl 3 (bys.map Lv.pv)] (errT (typeR e bys)) := by
  refine pure_by is_decl_Type (by simp) (errT_imm _) fun hb nx => ?_
  clear hb
  have c1 := eRight_p e
  cases hr : e.right with
  | false =>
    rw [hr] at c1
    have e1 : typeR e bys = (none, 10) := if_neg (by rw [hr]; decide)
    simp only [e1, errT, optC]
    clear e1 hr
    repeat' (first | ((with_reducible first | refine wA (by omega) ?_ | refine wB (by omega) ?_ | refine wC (by omega) ?_ | refine wD (by omega) ?_ | refine wE ?_ ?_ | refine wF ?_ ?_ | refine wG ?_ ?_ | refine wH ?_ ?_ | refine wI ?_ ?_ | refine wJ ?_ ?_ | refine wK ?_ ?_ | refine wL ?_ ?_) <;> intro _) | (((with_reducible refine call_id ?_); (first | (refine call_pure (c1) ?_)))) | simp (maxSteps := 1000000) (disch := omega) only [go_sem, Nat.reduceAdd, Nat.reduceMul, Nat.reduceSub, Nat.reduceLeDiff, Nat.reduceEqDiff, Nat.reduceBEq, ↓reduceIte, reduceCtorEq, Int.reduceEq, Int.reduceLE, Int.reduceLT, Int.reduceAdd, Int.reduceSub, Int.reduceNeg, Int.reduceToNat, Int.reduceNe, Nat.reducePow, Nat.reduceShiftRight, Nat.reduceMod, mc_decl_Type, *])
    all_goals
      refine fin_ret (r0 := .tup [.agg [.sc (.int .i64 0), .sc (.int .i64 0), .sc (.string ⟨#[]⟩), .sc (.slice none 0 0), .sc (.slice none 0 0)], .sc (.int .i64 10)]) 2 cE2 ?_
      exact .of_eq (by simp [frz, frz_sc])
  | true =>
    rw [hr] at c1
    have e1 : typeR e bys = atR e.params e.typ bys := if_pos hr
    rw [e1]
    have hn := (ent_right_nodes hr).1
    have c2 : PPure Try.prog F.decl_at [.ptr e.pv, .ptr (e.pv.drop 3), .sl 3 (bys.map Lv.pv)] (errT (atR e.params e.typ bys)) := at_p e e.typ _ (by omega) bys
    generalize atR e.params e.typ bys = r at c2 ⊢
    obtain ⟨o, n⟩ := r
    simp only [errT] at c2 ⊢
    clear e1 hr hn
    repeat' (first | ((with_reducible first | refine wA (by omega) ?_ | refine wB (by omega) ?_ | refine wC (by omega) ?_ | refine wD (by omega) ?_ | refine wE ?_ ?_ | refine wF ?_ ?_ | refine wG ?_ ?_ | refine wH ?_ ?_ | refine wI ?_ ?_ | refine wJ ?_ ?_ | refine wK ?_ ?_ | refine wL ?_ ?_) <;> intro _) | (((with_reducible refine call_id ?_); (first | (refine call_pure (c1) ?_) | (refine call_pure (c2) ?_)))) | simp (maxSteps := 1000000) (disch := omega) only [go_sem, Nat.reduceAdd, Nat.reduceMul, Nat.reduceSub, Nat.reduceLeDiff, Nat.reduceEqDiff, Nat.reduceBEq, ↓reduceIte, reduceCtorEq, Int.reduceEq, Int.reduceLE, Int.reduceLT, Int.reduceAdd, Int.reduceSub, Int.reduceNeg, Int.reduceToNat, Int.reduceNe, Nat.reducePow, Nat.reduceShiftRight, Nat.reduceMod, mc_decl_Type, *])
    all_goals
      refine fin_ret (r0 := .tup [.agg (optC o), .sc (.int .i64 n)]) 1 cE2 ?_
      exact .of_eq (by simp [frz])
set_option maxHeartbeats 4000000 in
theorem eValue_p (e : Ent) (bys : List Lv) : PPure Try.prog F.decl_Value [.agg e.pv, .sl 3 (bys.map Lv.pv)] (errT (eValR e bys)) := by
  refine pure_by is_decl_Value (by simp) (errT_imm _) fun hb nx => ?_
  clear hb
  have c1 := eRight_p e
  cases hr : e.right with
  | false =>
    rw [hr] at c1
    have e1 : eValR e bys = (none, 10) := if_neg (by rw [hr]; decide)
    simp only [e1, errT, optC]
    clear e1 hr
    repeat' (first | ((with_reducible first | refine wA (by omega) ?_ | refine wB (by omega) ?_ | refine wC (by omega) ?_ | refine wD (by omega) ?_ | refine wE ?_ ?_ | refine wF ?_ ?_ | refine wG ?_ ?_ | refine wH ?_ ?_ | refine wI ?_ ?_ | refine wJ ?_ ?_ | refine wK ?_ ?_ | refine wL ?_ ?_) <;> intro _) | (((with_reducible refine call_id ?_); (first | (refine call_pure (c1) ?_)))) | simp (maxSteps := 1000000) (disch := omega) only [go_sem, Nat.reduceAdd, Nat.reduceMul, Nat.reduceSub, Nat.reduceLeDiff, Nat.reduceEqDiff, Nat.reduceBEq, ↓reduceIte, reduceCtorEq, Int.reduceEq, Int.reduceLE, Int.reduceLT, Int.reduceAdd, Int.reduceSub, Int.reduceNeg, Int.reduceToNat, Int.reduceNe, Nat.reducePow, Nat.reduceShiftRight, Nat.reduceMod, mc_decl_Value, *])
    all_goals
      refine fin_ret (r0 := .tup [.agg [.sc (.int .i64 0), .sc (.int .i64 0), .sc (.string ⟨#[]⟩), .sc (.slice none 0 0), .sc (.slice none 0 0)], .sc (.int .i64 10)]) 2 cE2 ?_
      exact .of_eq (by simp [frz, frz_sc])
  | true =>
    rw [hr] at c1
    by_cases hk : e.kind = 2
    · have e1 : eValR e bys = atR e.params e.val bys := by unfold eValR; rw [if_pos hr, if_pos hk]
      rw [e1]
      have hn := ent_right_val hr hk
      have c2 : PPure Try.prog F.decl_at [.ptr e.pv, .ptr (e.pv.drop 8), .sl 3 (bys.map Lv.pv)] (errT (atR e.params e.val bys)) := by
        have : e.pv.drop 8 = e.val.pv ++ [.sc (.int .i64 e.height), .sc (.string e.family), .sc (.int .i64 e.fixed), .sc (.int .i64 e.index), .sc (.int .i64 e.fields), .sl 1 (e.ctors.map txt)] := by
          simp only [Ent.pv, List.drop_succ_cons]
          exact List.drop_left' (tm_len _)
        rw [this]
        exact at_p e e.val _ (by omega) bys
      generalize atR e.params e.val bys = r at c2 ⊢
      obtain ⟨o, n⟩ := r
      simp only [errT] at c2 ⊢
      have hkt : e.pv.take 1 = [.sc (.int .i64 2)] := by rw [← hk]; rfl
      clear e1 hr hn
      repeat' (first | ((with_reducible first | refine wA (by omega) ?_ | refine wB (by omega) ?_ | refine wC (by omega) ?_ | refine wD (by omega) ?_ | refine wE ?_ ?_ | refine wF ?_ ?_ | refine wG ?_ ?_ | refine wH ?_ ?_ | refine wI ?_ ?_ | refine wJ ?_ ?_ | refine wK ?_ ?_ | refine wL ?_ ?_) <;> intro _) | (((with_reducible refine call_id ?_); (first | (refine call_pure (c1) ?_) | (refine call_pure (c2) ?_)))) | simp (maxSteps := 1000000) (disch := omega) only [go_sem, Nat.reduceAdd, Nat.reduceMul, Nat.reduceSub, Nat.reduceLeDiff, Nat.reduceEqDiff, Nat.reduceBEq, ↓reduceIte, reduceCtorEq, Int.reduceEq, Int.reduceLE, Int.reduceLT, Int.reduceAdd, Int.reduceSub, Int.reduceNeg, Int.reduceToNat, Int.reduceNe, Nat.reducePow, Nat.reduceShiftRight, Nat.reduceMod, mc_decl_Value, *])
      all_goals
        refine fin_ret (r0 := .tup [.agg (optC o), .sc (.int .i64 n)]) 1 cE2 ?_
        exact .of_eq (by simp [frz])
    · have e1 : eValR e bys = (none, 13) := by unfold eValR; rw [if_pos hr, if_neg hk]
      simp only [e1, errT, optC]
      have hkt : e.pv.take 1 = [.sc (.int .i64 e.kind)] := rfl
      clear e1 hr
      repeat' (first | ((with_reducible first | refine wA (by omega) ?_ | refine wB (by omega) ?_ | refine wC (by omega) ?_ | refine wD (by omega) ?_ | refine wE ?_ ?_ | refine wF ?_ ?_ | refine wG ?_ ?_ | refine wH ?_ ?_ | refine wI ?_ ?_ | refine wJ ?_ ?_ | refine wK ?_ ?_ | refine wL ?_ ?_) <;> intro _) | (((with_reducible refine call_id ?_); (first | (refine call_pure (c1) ?_)))) | simp (maxSteps := 1000000) (disch := omega) only [go_sem, Nat.reduceAdd, Nat.reduceMul, Nat.reduceSub, Nat.reduceLeDiff, Nat.reduceEqDiff, Nat.reduceBEq, ↓reduceIte, reduceCtorEq, Int.reduceEq, Int.reduceLE, Int.reduceLT, Int.reduceAdd, Int.reduceSub, Int.reduceNeg, Int.reduceToNat, Int.reduceNe, Nat.reducePow, Nat.reduceShiftRight, Nat.reduceMod, mc_decl_Value, *])
      all_goals
        refine fin_ret (r0 := .tup [.agg [.sc (.int .i64 0), .sc (.int .i64 0), .sc (.string ⟨#[]⟩), .sc (.slice none 0 0), .sc (.slice none 0 0)], .sc (.int .i64 13)]) 2 cE2 ?_
        exact .of_eq (by simp [frz, frz_sc])
theorem unfolds_p (e : Ent) : PPure Try.prog F.decl_Unfolds [.agg e.pv] (.sc (.bool (decide (e.kind = 2) && e.right))) := by
  refine pure_by is_decl_Unfolds (by simp) rfl fun hb nx => ?_
  clear hb
  have c1 := eRight_p e
  generalize e.right = b at c1 ⊢
  by_cases hk : e.kind = 2
  · have hkt : e.pv.take 1 = [.sc (.int .i64 2)] := by rw [← hk]; rfl
    repeat' (first | ((with_reducible first | refine wA (by omega) ?_ | refine wB (by omega) ?_ | refine wC (by omega) ?_ | refine wD (by omega) ?_ | refine wE ?_ ?_ | refine wF ?_ ?_ | refine wG ?_ ?_ | refine wH ?_ ?_ | refine wI ?_ ?_ | refine wJ ?_ ?_ | refine wK ?_ ?_ | refine wL ?_ ?_) <;> intro _) | (((with_reducible refine call_id ?_); (first | (refine call_pure (c1) ?_)))) | simp (maxSteps := 1000000) (disch := omega) only [go_sem, Nat.reduceAdd, Nat.reduceMul, Nat.reduceSub, Nat.reduceLeDiff, Nat.reduceEqDiff, Nat.reduceBEq, ↓reduceIte, reduceCtorEq, Int.reduceEq, Int.reduceLE, Int.reduceLT, Int.reduceAdd, Int.reduceSub, Int.reduceNeg, Int.reduceToNat, Int.reduceNe, Nat.reducePow, Nat.reduceShiftRight, Nat.reduceMod, mc_decl_Unfolds, *])
    all_goals (exact fin_tmp (.inr rfl) cE3)
  · have hkt : e.pv.take 1 = [.sc (.int .i64 e.kind)] := rfl
    repeat' (first | ((with_reducible first | refine wA (by omega) ?_ | refine wB (by omega) ?_ | refine wC (by omega) ?_ | refine wD (by omega) ?_ | refine wE ?_ ?_ | refine wF ?_ ?_ | refine wG ?_ ?_ | refine wH ?_ ?_ | refine wI ?_ ?_ | refine wJ ?_ ?_ | refine wK ?_ ?_ | refine wL ?_ ?_) <;> intro _) | simp (maxSteps := 1000000) (disch := omega) only [go_sem, Nat.reduceAdd, Nat.reduceMul, Nat.reduceSub, Nat.reduceLeDiff, Nat.reduceEqDiff, Nat.reduceBEq, ↓reduceIte, reduceCtorEq, Int.reduceEq, Int.reduceLE, Int.reduceLT, Int.reduceAdd, Int.reduceSub, Int.reduceNeg, Int.reduceToNat, Int.reduceNe, Nat.reducePow, Nat.reduceShiftRight, Nat.reduceMod, mc_decl_Unfolds, *])
    all_goals (exact fin_tmp (.inr rfl) cE3)
end
section
set_option maxRecDepth 20000
attribute [local go_sem] pv_len pv_take Nat.add_assoc tm_len tm_take pv_one tm_one id_ne id_ne' id_ne2 List.append_assoc tm_take_app tm_drop_app tm_d6 tm_d7 tm_d8 tm_d9 tm_d10 tm_d11 tm_d12 tm_d13 tm_d14 tm_d15 ent_len ent_take ent_one optC_len optC_take optC_one
theorem bytes_eqD {a b : ByteArray} : (a.toList == b.toList) = decide (a = b) := by
  rw [Bool.eq_iff_iff, beq_iff_eq, decide_eq_true_eq]
  exact ⟨fun h => by
    have ha : a.data.toList = b.data.toList := by simpa [ByteArray.toList_eq] using h
    cases a
    cases b
    congr
    exact Array.toList_inj.1 ha, fun h => by rw [h]⟩
def Ent.pvB (f : Bool) (e : Ent) : List PV := .sc (.int .i64 e.kind) :: .sc (.int .i64 e.params) :: .sc (.string e.name) :: (e.typ.pvB f ++ (e.val.pvB f ++ [.sc (.int .i64 e.height), .sc (.string e.family), .sc (.int .i64 e.fixed), .sc (.int .i64 e.index), .sc (.int .i64 e.fields), .sl 1 (e.ctors.map txt)]))
theorem entB_false (e : Ent) : e.pvB false = e.pv := by simp only [Ent.pvB, Ent.pv, dtv_false]
theorem tb_take (f : Bool) (t : Tm) (r : List PV) : (t.pvB f ++ r).take 5 = t.pvB f := List.take_left' (tpvB_len f t)
theorem tb_drop (f : Bool) (t : Tm) (r : List PV) : (t.pvB f ++ r).drop 5 = r := List.drop_left' (tpvB_len f t)
theorem tb_d6 (f : Bool) (t : Tm) (r : List PV) : (t.pvB f ++ r).drop 6 = r.drop 1 := by rw [show 6 = 5 + 1 by rfl, ← List.drop_drop, tb_drop]
theorem tb_d7 (f : Bool) (t : Tm) (r : List PV) : (t.pvB f ++ r).drop 7 = r.drop 2 := by rw [show 7 = 5 + 2 by rfl, ← List.drop_drop, tb_drop]
theorem tb_d8 (f : Bool) (t : Tm) (r : List PV) : (t.pvB f ++ r).drop 8 = r.drop 3 := by rw [show 8 = 5 + 3 by rfl, ← List.drop_drop, tb_drop]
theorem tb_d9 (f : Bool) (t : Tm) (r : List PV) : (t.pvB f ++ r).drop 9 = r.drop 4 := by rw [show 9 = 5 + 4 by rfl, ← List.drop_drop, tb_drop]
theorem tb_d10 (f : Bool) (t : Tm) (r : List PV) : (t.pvB f ++ r).drop 10 = r.drop 5 := by rw [show 10 = 5 + 5 by rfl, ← List.drop_drop, tb_drop]
theorem tb_d11 (f : Bool) (t : Tm) (r : List PV) : (t.pvB f ++ r).drop 11 = r.drop 6 := by rw [show 11 = 5 + 6 by rfl, ← List.drop_drop, tb_drop]
theorem tb_d12 (f : Bool) (t : Tm) (r : List PV) : (t.pvB f ++ r).drop 12 = r.drop 7 := by rw [show 12 = 5 + 7 by rfl, ← List.drop_drop, tb_drop]
theorem tb_d13 (f : Bool) (t : Tm) (r : List PV) : (t.pvB f ++ r).drop 13 = r.drop 8 := by rw [show 13 = 5 + 8 by rfl, ← List.drop_drop, tb_drop]
theorem tb_d14 (f : Bool) (t : Tm) (r : List PV) : (t.pvB f ++ r).drop 14 = r.drop 9 := by rw [show 14 = 5 + 9 by rfl, ← List.drop_drop, tb_drop]
theorem tb_d15 (f : Bool) (t : Tm) (r : List PV) : (t.pvB f ++ r).drop 15 = r.drop 10 := by rw [show 15 = 5 + 10 by rfl, ← List.drop_drop, tb_drop]
theorem numbers_p (f : Bool) (e : Ent) : PPure Try.prog F.decl_numbers [.ptr (e.pvB f)] (.agg [.sc (.int .i64 e.kind), .sc (.int .i64 e.params), .sc (.int .i64 e.height), .sc (.int .i64 e.fixed), .sc (.int .i64 e.index), .sc (.int .i64 e.fields)]) := by
  obtain ⟨kind, params, name, typ, val, height, family, fixed, index, fields, ctors⟩ := e
  refine pure_by is_decl_numbers (by simp) rfl fun hb nx => ?_
  clear hb
  repeat' (first | ((with_reducible first | refine wA (by omega) ?_ | refine wB (by omega) ?_ | refine wC (by omega) ?_ | refine wD (by omega) ?_ | refine wE ?_ ?_ | refine wF ?_ ?_ | refine wG ?_ ?_ | refine wH ?_ ?_ | refine wI ?_ ?_ | refine wJ ?_ ?_ | refine wK ?_ ?_ | refine wL ?_ ?_) <;> intro _) | simp (maxSteps := 1000000) (disch := omega) only [go_sem, Nat.reduceAdd, Nat.reduceMul, Nat.reduceSub, Nat.reduceLeDiff, Nat.reduceEqDiff, Nat.reduceBEq, ↓reduceIte, reduceCtorEq, Int.reduceEq, Int.reduceLE, Int.reduceLT, Int.reduceAdd, Int.reduceSub, Int.reduceNeg, Int.reduceToNat, Int.reduceNe, Nat.reducePow, Nat.reduceShiftRight, Nat.reduceMod, mc_decl_numbers, Ent.pvB, tpvB_len, tpvB_take, tpvB_one, tb_take, tb_drop, tb_d6, tb_d7, tb_d8, tb_d9, tb_d10, tb_d11, tb_d12, tb_d13, tb_d14, tb_d15, *])
  refine fin_ret (r0 := .agg [.sc (.int .i64 kind), .sc (.int .i64 params), .sc (.int .i64 height), .sc (.int .i64 fixed), .sc (.int .i64 index), .sc (.int .i64 fields)]) 1 cE2 ?_
  exact .of_eq (by simp [frz, frz_sc])
theorem texts_p (f : Bool) (e : Ent) : PPure Try.prog F.decl_texts [.ptr (e.pvB f)] (.agg [.sc (.string e.name), .sc (.string e.family)]) := by
  obtain ⟨kind, params, name, typ, val, height, family, fixed, index, fields, ctors⟩ := e
  refine pure_by is_decl_texts (by simp) rfl fun hb nx => ?_
  clear hb
  repeat' (first | ((with_reducible first | refine wA (by omega) ?_ | refine wB (by omega) ?_ | refine wC (by omega) ?_ | refine wD (by omega) ?_ | refine wE ?_ ?_ | refine wF ?_ ?_ | refine wG ?_ ?_ | refine wH ?_ ?_ | refine wI ?_ ?_ | refine wJ ?_ ?_ | refine wK ?_ ?_ | refine wL ?_ ?_) <;> intro _) | simp (maxSteps := 1000000) (disch := omega) only [go_sem, Nat.reduceAdd, Nat.reduceMul, Nat.reduceSub, Nat.reduceLeDiff, Nat.reduceEqDiff, Nat.reduceBEq, ↓reduceIte, reduceCtorEq, Int.reduceEq, Int.reduceLE, Int.reduceLT, Int.reduceAdd, Int.reduceSub, Int.reduceNeg, Int.reduceToNat, Int.reduceNe, Nat.reducePow, Nat.reduceShiftRight, Nat.reduceMod, mc_decl_texts, Ent.pvB, tpvB_len, tpvB_take, tpvB_one, tb_take, tb_drop, tb_d6, tb_d7, tb_d8, tb_d9, tb_d10, tb_d11, tb_d12, tb_d13, tb_d14, tb_d15, *])
  refine fin_ret (r0 := .agg [.sc (.string name), .sc (.string family)]) 1 cE2 ?_
  exact .of_eq (by simp [frz, frz_sc])
theorem equal_p (xs ys : List ByteArray) : PPure Try.prog F.slices_Equal_string_string [.sl 1 (xs.map txt), .sl 1 (ys.map txt)] (.sc (.bool (decide (xs = ys)))) := by
  refine pure_by is_slices_Equal_string_string (by simp) rfl fun hb nx => ?_
  have hb0 : xs.length ≤ 9223372036854775807 ∧ ys.length ≤ 9223372036854775807 := by simp [bndL, PV.bnd] at hb; exact ⟨hb.1.1, hb.2.1⟩
  clear hb
  by_cases hl : xs.length = ys.length
  · repeat' (first | ((with_reducible first | refine wA (by omega) ?_ | refine wB (by omega) ?_ | refine wC (by omega) ?_ | refine wD (by omega) ?_ | refine wE ?_ ?_ | refine wF ?_ ?_ | refine wG ?_ ?_ | refine wH ?_ ?_ | refine wI ?_ ?_ | refine wJ ?_ ?_ | refine wK ?_ ?_ | refine wL ?_ ?_) <;> intro _) | simp (maxSteps := 1000000) (disch := omega) only [go_sem, Nat.reduceAdd, Nat.reduceMul, Nat.reduceSub, Nat.reduceLeDiff, Nat.reduceEqDiff, Nat.reduceBEq, ↓reduceIte, reduceCtorEq, Int.reduceEq, Int.reduceLE, Int.reduceLT, Int.reduceAdd, Int.reduceSub, Int.reduceNeg, Int.reduceToNat, Int.reduceNe, Nat.reducePow, Nat.reduceShiftRight, Nat.reduceMod, mc_slices_Equal_string_string, *])
    refine c_loopW 67100720 (by kernel_rfl) (fun j f H m => ∃ i : Nat, j = ys.length - i ∧ i ≤ xs.length ∧ f 13 = .sc (.int .i64 i) ∧ Kept (xs.take i = ys.take i)) _ ⟨0, rfl, Nat.zero_le _, cE1, Kept.mk (by simp)⟩ ?_
    rintro _ f H m ⟨i, rfl, hi, e13, hs⟩
    by_cases hlt : i < xs.length
    · have hlt2 : i < ys.length := by omega
      have eg : xs[i]? = some xs[i] := List.getElem?_eq_getElem hlt
      have eg2 : ys[i]? = some ys[i] := List.getElem?_eq_getElem hlt2
      by_cases he : xs[i] = ys[i]
      · have hs2 : Kept (xs.take (i + 1) = ys.take (i + 1)) := Kept.mk (by rw [List.take_succ_eq_append_getElem hlt, List.take_succ_eq_append_getElem hlt2, hs.out, he])
        clear hs
        repeat' (first | ((with_reducible first | refine wA (by omega) ?_ | refine wB (by omega) ?_ | refine wC (by omega) ?_ | refine wD (by omega) ?_ | refine wE ?_ ?_ | refine wF ?_ ?_ | refine wG ?_ ?_ | refine wH ?_ ?_ | refine wI ?_ ?_ | refine wJ ?_ ?_ | refine wK ?_ ?_ | refine wL ?_ ?_) <;> intro _) | simp (maxSteps := 1000000) (disch := omega) only [go_sem, Nat.reduceAdd, Nat.reduceMul, Nat.reduceSub, Nat.reduceLeDiff, Nat.reduceEqDiff, Nat.reduceBEq, ↓reduceIte, reduceCtorEq, Int.reduceEq, Int.reduceLE, Int.reduceLT, Int.reduceAdd, Int.reduceSub, Int.reduceNeg, Int.reduceToNat, Int.reduceNe, Nat.reducePow, Nat.reduceShiftRight, Nat.reduceMod, txt, strBin, bytes_eqD, *])
        exact Nx.mk (ys.length - (i + 1)) cE1 ⟨i + 1, rfl, cE1, by simp [upd], hs2⟩
      · have e : decide (xs = ys) = false := decide_eq_false fun h => he (by subst h; rfl)
        rw [e]
        clear e hs
        repeat' (first | ((with_reducible first | refine wA (by omega) ?_ | refine wB (by omega) ?_ | refine wC (by omega) ?_ | refine wD (by omega) ?_ | refine wE ?_ ?_ | refine wF ?_ ?_ | refine wG ?_ ?_ | refine wH ?_ ?_ | refine wI ?_ ?_ | refine wJ ?_ ?_ | refine wK ?_ ?_ | refine wL ?_ ?_) <;> intro _) | simp (maxSteps := 1000000) (disch := omega) only [go_sem, Nat.reduceAdd, Nat.reduceMul, Nat.reduceSub, Nat.reduceLeDiff, Nat.reduceEqDiff, Nat.reduceBEq, ↓reduceIte, reduceCtorEq, Int.reduceEq, Int.reduceLE, Int.reduceLT, Int.reduceAdd, Int.reduceSub, Int.reduceNeg, Int.reduceToNat, Int.reduceNe, Nat.reducePow, Nat.reduceShiftRight, Nat.reduceMod, txt, strBin, bytes_eqD, *])
        all_goals (exact fin_tmp (.inr rfl) cE3)
    · obtain rfl : i = xs.length := by omega
      have h2 := hs.out
      rw [List.take_length, hl, List.take_length] at h2
      rw [decide_eq_true h2]
      clear hs h2
      repeat' (first | ((with_reducible first | refine wA (by omega) ?_ | refine wB (by omega) ?_ | refine wC (by omega) ?_ | refine wD (by omega) ?_ | refine wE ?_ ?_ | refine wF ?_ ?_ | refine wG ?_ ?_ | refine wH ?_ ?_ | refine wI ?_ ?_ | refine wJ ?_ ?_ | refine wK ?_ ?_ | refine wL ?_ ?_) <;> intro _) | simp (maxSteps := 1000000) (disch := omega) only [go_sem, Nat.reduceAdd, Nat.reduceMul, Nat.reduceSub, Nat.reduceLeDiff, Nat.reduceEqDiff, Nat.reduceBEq, ↓reduceIte, reduceCtorEq, Int.reduceEq, Int.reduceLE, Int.reduceLT, Int.reduceAdd, Int.reduceSub, Int.reduceNeg, Int.reduceToNat, Int.reduceNe, Nat.reducePow, Nat.reduceShiftRight, Nat.reduceMod, *])
      all_goals (exact fin_tmp (.inr rfl) cE3)
  · rw [decide_eq_false fun h => hl (by rw [h])]
    repeat' (first | ((with_reducible first | refine wA (by omega) ?_ | refine wB (by omega) ?_ | refine wC (by omega) ?_ | refine wD (by omega) ?_ | refine wE ?_ ?_ | refine wF ?_ ?_ | refine wG ?_ ?_ | refine wH ?_ ?_ | refine wI ?_ ?_ | refine wJ ?_ ?_ | refine wK ?_ ?_ | refine wL ?_ ?_) <;> intro _) | simp (maxSteps := 1000000) (disch := omega) only [go_sem, Nat.reduceAdd, Nat.reduceMul, Nat.reduceSub, Nat.reduceLeDiff, Nat.reduceEqDiff, Nat.reduceBEq, ↓reduceIte, reduceCtorEq, Int.reduceEq, Int.reduceLE, Int.reduceLT, Int.reduceAdd, Int.reduceSub, Int.reduceNeg, Int.reduceToNat, Int.reduceNe, Nat.reducePow, Nat.reduceShiftRight, Nat.reduceMod, mc_slices_Equal_string_string, *])
    all_goals (exact fin_tmp (.inr rfl) cE3)
def Ent.numE (a b : Ent) : Bool := decide (a.kind = b.kind) && (decide (a.params = b.params) && (decide (a.height = b.height) && (decide (a.fixed = b.fixed) && (decide (a.index = b.index) && decide (a.fields = b.fields)))))
def Ent.txtE (a b : Ent) : Bool := a.name.toList == b.name.toList && a.family.toList == b.family.toList
def Ent.same (a b : Ent) : Bool := a.numE b && (a.txtE b && (decide (a.ctors = b.ctors) && (a.typ.same b.typ && a.val.same b.val)))
set_option maxHeartbeats 8000000 in
theorem eSame_p (a b : Ent) (f g : Bool) (hfg : (f || g) = true) : PPure Try.prog F.decl_Same [.agg (a.pvB f), .agg (b.pvB g)] (.sc (.bool (a.same b))) := by
  refine pure_by is_decl_Same (by simp) rfl fun hb nx => ?_
  clear hb
  have c1 := numbers_p f a
  have c2 := numbers_p g b
  have c3 := texts_p f a
  have c4 := texts_p g b
  have c5 := equal_p a.ctors b.ctors
  have c6 := tSame_p a.typ b.typ f g hfg
  have c7 := tSame_p a.val b.val f g hfg
  simp only [Ent.same, Ent.numE, Ent.txtE]
  obtain ⟨kind, params, name, typ, val, height, family, fixed, index, fields, ctors⟩ := a
  obtain ⟨kind2, params2, name2, typ2, val2, height2, family2, fixed2, index2, fields2, ctors2⟩ := b
  simp only [Ent.pvB] at c1 c2 c3 c4 c5 c6 c7 ⊢
  generalize typ.same typ2 = b6 at c6
  generalize val.same val2 = b7 at c7
  repeat' (first | ((with_reducible first | refine wA (by omega) ?_ | refine wB (by omega) ?_ | refine wC (by omega) ?_ | refine wD (by omega) ?_ | refine wE ?_ ?_ | refine wF ?_ ?_ | refine wG ?_ ?_ | refine wH ?_ ?_ | refine wI ?_ ?_ | refine wJ ?_ ?_ | refine wK ?_ ?_ | refine wL ?_ ?_) <;> intro _) | (((with_reducible refine call_id ?_); (first | (refine call_pure (c1) ?_) | (refine call_pure (c2) ?_) | (refine call_pure (c3) ?_) | (refine call_pure (c4) ?_) | (refine call_pure (c5) ?_) | (refine call_pure (c6) ?_) | (refine call_pure (c7) ?_)))) | simp (maxSteps := 1000000) (disch := omega) only [go_sem, Nat.reduceAdd, Nat.reduceMul, Nat.reduceSub, Nat.reduceLeDiff, Nat.reduceEqDiff, Nat.reduceBEq, ↓reduceIte, reduceCtorEq, Int.reduceEq, Int.reduceLE, Int.reduceLT, Int.reduceAdd, Int.reduceSub, Int.reduceNeg, Int.reduceToNat, Int.reduceNe, Nat.reducePow, Nat.reduceShiftRight, Nat.reduceMod, mc_decl_Same, tpvB_len, tpvB_take, tpvB_one, tb_take, tb_drop, tb_d6, tb_d7, tb_d8, tb_d9, tb_d10, tb_d11, tb_d12, tb_d13, tb_d14, tb_d15, *])
  all_goals (exact fin_tmp (.inr rfl) cE3)
end
section
set_option maxRecDepth 20000
attribute [local go_sem] pv_len pv_take id_ne id_ne' id_ne2 List.append_assoc
theorem txts_flat : ∀ xs : List ByteArray, (xs.map txt).flatten = xs.flatMap txt := fun xs => by rw [List.flatMap_def]
theorem txts_len : ∀ xs : List ByteArray, (xs.map txt).flatten.length = xs.length
  | [] => rfl
  | x :: r => by simp only [List.map_cons, List.flatten_cons, List.length_append, txt_len, txts_len r, List.length_cons]; omega
theorem txts_one : ∀ xs : List ByteArray, (xs.map txt).flatten.all PV.one = true
  | [] => rfl
  | x :: r => by
    simp only [List.map_cons, List.flatten_cons, List.all_append, txts_one r]
    rfl
set_option maxHeartbeats 4000000 in
theorem sClone_m (xs : List ByteArray) (hl : xs.length ≤ 2 ^ 40) (H : Nat → Option PObj) (nx : Nat) : PMut Try.prog F.slices_Clone_string_string [.sl 1 (xs.map txt)] H nx (fun H' nx' r => nx ≤ nx' ∧ (∀ j, j < nx → H' j = H j) ∧ ((xs = [] ∧ r = .sc (.slice none 0 0)) ∨ ∃ id, nx ≤ id ∧ id < nx' ∧ r = .osl id 0 xs.length 1 ∧ H' id = some ⟨xs.flatMap txt, false⟩)) := by
  refine mut_by is_slices_Clone_string_string (by simp) fun hb => ?_
  clear hb
  repeat' (first | ((with_reducible first | refine wA (by omega) ?_ | refine wB (by omega) ?_ | refine wC (by omega) ?_ | refine wD (by omega) ?_ | refine wE ?_ ?_ | refine wF ?_ ?_ | refine wG ?_ ?_ | refine wH ?_ ?_ | refine wI ?_ ?_ | refine wJ ?_ ?_ | refine wK ?_ ?_ | refine wL ?_ ?_) <;> intro _) | simp (maxSteps := 1000000) (disch := omega) only [go_sem, Nat.reduceAdd, Nat.reduceMul, Nat.reduceSub, Nat.reduceLeDiff, Nat.reduceEqDiff, Nat.reduceBEq, ↓reduceIte, reduceCtorEq, Int.reduceEq, Int.reduceLE, Int.reduceLT, Int.reduceAdd, Int.reduceSub, Int.reduceNeg, Int.reduceToNat, Int.reduceNe, Nat.reducePow, Nat.reduceShiftRight, Nat.reduceMod, mc_slices_Clone_string_string, *])
  refine o_slnil rfl rfl Try.underlying31 (n := xs.length) (by simp [slN, ev, upd]) fun t ht => ?_
  cases t with
  | true =>
    obtain rfl : xs = [] := List.eq_nil_of_length_eq_zero (ht rfl)
    clear ht
    repeat' (first | ((with_reducible first | refine wA (by omega) ?_ | refine wB (by omega) ?_ | refine wC (by omega) ?_ | refine wD (by omega) ?_ | refine wE ?_ ?_ | refine wF ?_ ?_ | refine wG ?_ ?_ | refine wH ?_ ?_ | refine wI ?_ ?_ | refine wJ ?_ ?_ | refine wK ?_ ?_ | refine wL ?_ ?_) <;> intro _) | simp (maxSteps := 1000000) (disch := omega) only [go_sem, Nat.reduceAdd, Nat.reduceMul, Nat.reduceSub, Nat.reduceLeDiff, Nat.reduceEqDiff, Nat.reduceBEq, ↓reduceIte, reduceCtorEq, Int.reduceEq, Int.reduceLE, Int.reduceLT, Int.reduceAdd, Int.reduceSub, Int.reduceNeg, Int.reduceToNat, Int.reduceNe, Nat.reducePow, Nat.reduceShiftRight, Nat.reduceMod, *])
    exact fin_mut (.sc (.slice none 0 0)) (.inr rfl) (by (simp (disch := omega) only [go_sem, Nat.reduceMul, Nat.reduceSub, Nat.reduceShiftRight, Nat.reduceMod, Nat.reduceEqDiff, Nat.reduceAdd, ↓reduceIte, Nat.reduceLeDiff]); all_goals rfl) ⟨by simp only [Nat.add_assoc]; exact Nat.le_add_right _ _, fun _ _ => rfl, .inl rfl⟩
  | false =>
    clear ht
    have h1 := txts_len xs
    have h2 := txts_one xs
    have h3 : xs.length * 16 ≤ 140737488355328 ∧ xs.length ≤ 4611686018427387904 := by omega
    repeat' (first | ((with_reducible first | refine wA (by omega) ?_ | refine wB (by omega) ?_ | refine wC (by omega) ?_ | refine wD (by omega) ?_ | refine wE ?_ ?_ | refine wF ?_ ?_ | refine wG ?_ ?_ | refine wH ?_ ?_ | refine wI ?_ ?_ | refine wJ ?_ ?_ | refine wK ?_ ?_ | refine wL ?_ ?_) <;> intro _) | simp (maxSteps := 1000000) (disch := omega) only [go_sem, Nat.reduceAdd, Nat.reduceMul, Nat.reduceSub, Nat.reduceLeDiff, Nat.reduceEqDiff, Nat.reduceBEq, ↓reduceIte, reduceCtorEq, Int.reduceEq, Int.reduceLE, Int.reduceLT, Int.reduceAdd, Int.reduceSub, Int.reduceNeg, Int.reduceToNat, Int.reduceNe, Nat.reducePow, Nat.reduceShiftRight, Nat.reduceMod, *])
    refine fin_mut (.osl (nx + 1 + 2 + 2) 0 xs.length 1) (.inr rfl) (by (simp (disch := omega) only [go_sem, Nat.reduceMul, Nat.reduceSub, Nat.reduceShiftRight, Nat.reduceMod, Nat.reduceEqDiff, Nat.reduceAdd, ↓reduceIte, Nat.reduceLeDiff]); all_goals rfl) ⟨by simp only [Nat.add_assoc]; exact Nat.le_add_right _ _, fun j hj => ?_, .inr ⟨nx + 1 + 2 + 2, by omega, by simp only [Nat.add_assoc]; exact Nat.add_lt_add_left (by omega) _, rfl, ?_⟩⟩
    · simp [upd, show j ≠ nx + 3 by omega, show j ≠ nx + 1 + 2 + 2 by omega]
    · simp [upd, txts_flat]
end
section
set_option maxRecDepth 20000
attribute [local go_sem] pv_len pv_take Nat.add_assoc tm_len tm_take pv_one tm_one id_ne id_ne' id_ne2 List.append_assoc tm_take_app tm_drop_app tm_d6 tm_d7 tm_d8 tm_d9 tm_d10 tm_d11 tm_d12 tm_d13 tm_d14 tm_d15 ent_len ent_take ent_one tpvB_len tpvB_take tpvB_one
theorem imm_txts : ∀ xs : List ByteArray, immL (xs.map txt).flatten = true
  | [] => rfl
  | x :: r => by simp [immL, txt, PV.imm, imm_txts r]
theorem sClone_pF (xs : List ByteArray) (hl : xs.length ≤ 2 ^ 40) : PPure Try.prog F.slices_Clone_string_string [.sl 1 (xs.map txt)] (.fsl 1 (xs.map txt)) := by
  refine PMut.pure (by simp only [PV.imm, immLL_flatten, imm_txts]) (fun nx => sClone_m xs hl noneOwn nx) fun nx H' nx' r0 h => ?_
  obtain ⟨_, _, ⟨rfl, rfl⟩ | ⟨id, _, _, rfl, h⟩⟩ := h
  · exact ⟨0, Weak.nilF 1⟩
  · exact ⟨1, .of_eq (frzF_row (g := txt) (fun _ => rfl) (fun x => by simp [txt, frzF_sc]) h)⟩
set_option maxHeartbeats 4000000 in
theorem app0_p (f : Tm) (hf : f.nodes ≤ 2 ^ 40) : PPure Try.prog F.term_App [.agg f.pv, .sc (.slice none 0 0)] (.agg (f.pvB true)) := by
  refine pure_by is_term_App (by simp) (by simp [PV.imm, tpvB_imm]) fun hb nx => ?_
  clear hb
  repeat' (first | ((with_reducible first | refine wA (by omega) ?_ | refine wB (by omega) ?_ | refine wC (by omega) ?_ | refine wD (by omega) ?_ | refine wE ?_ ?_ | refine wF ?_ ?_ | refine wG ?_ ?_ | refine wH ?_ ?_ | refine wI ?_ ?_ | refine wJ ?_ ?_ | refine wK ?_ ?_ | refine wL ?_ ?_) <;> intro _) | (((with_reducible refine call_id ?_); (first | (refine call_pure (clone_pF2 f hf) ?_)))) | simp (maxSteps := 1000000) (disch := omega) only [go_sem, Nat.reduceAdd, Nat.reduceMul, Nat.reduceSub, Nat.reduceLeDiff, Nat.reduceEqDiff, Nat.reduceBEq, ↓reduceIte, reduceCtorEq, Int.reduceEq, Int.reduceLE, Int.reduceLT, Int.reduceAdd, Int.reduceSub, Int.reduceNeg, Int.reduceToNat, Int.reduceNe, Nat.reducePow, Nat.reduceShiftRight, Nat.reduceMod, mc_term_App, *])
  refine c_loopW 2096192 (by kernel_rfl) (fun j F H m => j = 0 ∧ F 10 = .sc (.int .i64 0) ∧ nx + 5 ≤ m ∧ H (nx + 1) = some ⟨[.sc (.int .i64 0), .sc (.int .i64 0), .sc (.string ⟨#[]⟩), .sc (.slice none 0 0), .sc (.slice none 0 0)], true⟩ ∧ H (nx + 3) = some ⟨f.pvB true, true⟩) 0 ⟨rfl, cE1, cE1, cE1, by simp [upd]⟩ ?_
  rintro _ F H m ⟨rfl, e10, hm, hH1, hH3⟩
  repeat' (first | ((with_reducible first | refine wA (by omega) ?_ | refine wB (by omega) ?_ | refine wC (by omega) ?_ | refine wD (by omega) ?_ | refine wE ?_ ?_ | refine wF ?_ ?_ | refine wG ?_ ?_ | refine wH ?_ ?_ | refine wI ?_ ?_ | refine wJ ?_ ?_ | refine wK ?_ ?_ | refine wL ?_ ?_) <;> intro _) | simp (maxSteps := 1000000) (disch := omega) only [go_sem, Nat.reduceAdd, Nat.reduceMul, Nat.reduceSub, Nat.reduceLeDiff, Nat.reduceEqDiff, Nat.reduceBEq, ↓reduceIte, reduceCtorEq, Int.reduceEq, Int.reduceLE, Int.reduceLT, Int.reduceAdd, Int.reduceSub, Int.reduceNeg, Int.reduceToNat, Int.reduceNe, Nat.reducePow, Nat.reduceShiftRight, Nat.reduceMod, *])
  refine fin_retF (r0 := .agg (f.pvB true)) 1 cE2 ?_
  exact .of_eq (by rw [frzF_agg1, frzF_tpvB])
def Ent.pvF (e : Ent) : List PV := .sc (.int .i64 e.kind) :: .sc (.int .i64 e.params) :: .sc (.string e.name) :: (e.typ.pvB true ++ (e.val.pvB true ++ [.sc (.int .i64 e.height), .sc (.string e.family), .sc (.int .i64 e.fixed), .sc (.int .i64 e.index), .sc (.int .i64 e.fields), PV.fsl 1 (e.ctors.map txt)]))
theorem tb_t10 (f : Bool) (t : Tm) (r : List PV) : (t.pvB f ++ r).take 10 = t.pvB f ++ r.take 5 := by rw [List.take_append, tpvB_len, List.take_of_length_le (by rw [tpvB_len]; omega)]
theorem tb_t15 (f : Bool) (t : Tm) (r : List PV) : (t.pvB f ++ r).take 15 = t.pvB f ++ r.take 10 := by rw [List.take_append, tpvB_len, List.take_of_length_le (by rw [tpvB_len]; omega)]
theorem tb_t16 (f : Bool) (t : Tm) (r : List PV) : (t.pvB f ++ r).take 16 = t.pvB f ++ r.take 11 := by rw [List.take_append, tpvB_len, List.take_of_length_le (by rw [tpvB_len]; omega)]
theorem tb_t11 (f : Bool) (t : Tm) (r : List PV) : (t.pvB f ++ r).take 11 = t.pvB f ++ r.take 6 := by rw [List.take_append, tpvB_len, List.take_of_length_le (by rw [tpvB_len]; omega)]
theorem tb_d16 (f : Bool) (t : Tm) (r : List PV) : (t.pvB f ++ r).drop 16 = r.drop 11 := by rw [show 16 = 5 + 11 by rfl, ← List.drop_drop, tb_drop]
theorem tm_t10 (t : Tm) (r : List PV) : (t.pv ++ r).take 10 = t.pv ++ r.take 5 := by rw [List.take_append, tm_len, List.take_of_length_le (by rw [tm_len]; omega)]
theorem tm_t15 (t : Tm) (r : List PV) : (t.pv ++ r).take 15 = t.pv ++ r.take 10 := by rw [List.take_append, tm_len, List.take_of_length_le (by rw [tm_len]; omega)]
theorem entF_imm (e : Ent) : immL e.pvF = true := by
  have h : ∀ (t : Tm) (r : List PV), immL (t.pvB true ++ r) = immL r := fun t r => by
    have h := tpvB_imm true t
    cases t
    simp only [Tm.pvB, List.cons_append, List.nil_append, immL, Bool.and_true, Bool.and_eq_true, Bool.true_and] at h ⊢
    simp [h]
  simp [Ent.pvF, immL, h, PV.imm, immLL_flatten, imm_txts]
set_option maxHeartbeats 8000000 in
theorem eClone_p (e : Ent) (h1 : e.typ.nodes ≤ 2 ^ 40) (h2 : e.val.nodes ≤ 2 ^ 40) (h3 : e.ctors.length ≤ 2 ^ 40) : PPure Try.prog F.decl_Clone [.agg e.pv] (.agg e.pvF) := by
  refine pure_by is_decl_Clone (by simp) (by simp only [PV.imm]; exact entF_imm e) fun hb nx => ?_
  clear hb
  have c1 := app0_p e.typ h1
  have c2 := app0_p e.val h2
  have c3 := sClone_pF e.ctors h3
  obtain ⟨kind, params, name, typ, val, height, family, fixed, index, fields, ctors⟩ := e
  clear h1 h2 h3
  repeat' (first | ((with_reducible first | refine wA (by omega) ?_ | refine wB (by omega) ?_ | refine wC (by omega) ?_ | refine wD (by omega) ?_ | refine wE ?_ ?_ | refine wF ?_ ?_ | refine wG ?_ ?_ | refine wH ?_ ?_ | refine wI ?_ ?_ | refine wJ ?_ ?_ | refine wK ?_ ?_ | refine wL ?_ ?_) <;> intro _) | (((with_reducible refine call_id ?_); (first | (refine call_pure (c1) ?_) | (refine call_pure (c2) ?_) | (refine call_pure (c3) ?_)))) | simp (maxSteps := 1000000) (disch := omega) only [go_sem, Nat.reduceAdd, Nat.reduceMul, Nat.reduceSub, Nat.reduceLeDiff, Nat.reduceEqDiff, Nat.reduceBEq, ↓reduceIte, reduceCtorEq, Int.reduceEq, Int.reduceLE, Int.reduceLT, Int.reduceAdd, Int.reduceSub, Int.reduceNeg, Int.reduceToNat, Int.reduceNe, Nat.reducePow, Nat.reduceShiftRight, Nat.reduceMod, mc_decl_Clone, Ent.pv, Ent.pvF, tb_take, tb_drop, tb_d6, tb_d7, tb_d8, tb_d9, tb_d10, tb_d11, tb_d12, tb_d13, tb_d14, tb_d15, tb_t10, tb_t15, tb_t16, tb_t11, tb_d16, tm_t10, tm_t15, List.all_append, PV.one, *])
  refine fin_retF (r0 := .agg (Ent.pvF ⟨kind, params, name, typ, val, height, family, fixed, index, fields, ctors⟩)) 1 (by (simp (disch := omega) only [go_sem, Nat.reduceMul, Nat.reduceSub, Nat.reduceShiftRight, Nat.reduceMod, Nat.reduceEqDiff, Nat.reduceAdd, ↓reduceIte, Nat.reduceLeDiff, Ent.pvF, tpvB_len, tb_t16, tb_t11, *]); all_goals rfl) ?_
  refine .of_eq ?_
  rw [frzF_agg1]
  simp [Ent.pvF, frzF_tpvB, frzF_sc]
  cases ctors <;> rfl
end
section
set_option maxRecDepth 20000
attribute [local go_sem] pv_len pv_take Nat.add_assoc tm_len tm_take pv_one tm_one id_ne id_ne' id_ne2 List.append_assoc tm_take_app tm_drop_app tm_d6 tm_d7 tm_d8 tm_d9 tm_d10 tm_d11 tm_d12 tm_d13 tm_d14 tm_d15 ent_len ent_take ent_one tpvB_len tpvB_take tpvB_one
theorem num11_p (n : Int) : PPure Try.prog F.law11_num [.sc (.int .i64 n)] (.agg (Lv.mk 1 n []).pv) := by
  refine pure_by is_law11_num (by simp) (by simp [PV.imm, Lv.pv, immL, immLL]) fun hb nx => ?_
  clear hb
  repeat' (first | ((with_reducible first | refine wA (by omega) ?_ | refine wB (by omega) ?_ | refine wC (by omega) ?_ | refine wD (by omega) ?_ | refine wE ?_ ?_ | refine wF ?_ ?_ | refine wG ?_ ?_ | refine wH ?_ ?_ | refine wI ?_ ?_ | refine wJ ?_ ?_ | refine wK ?_ ?_ | refine wL ?_ ?_) <;> intro _) | simp (maxSteps := 1000000) (disch := omega) only [go_sem, Nat.reduceAdd, Nat.reduceMul, Nat.reduceSub, Nat.reduceLeDiff, Nat.reduceEqDiff, Nat.reduceBEq, ↓reduceIte, reduceCtorEq, Int.reduceEq, Int.reduceLE, Int.reduceLT, Int.reduceAdd, Int.reduceSub, Int.reduceNeg, Int.reduceToNat, Int.reduceNe, Nat.reducePow, Nat.reduceShiftRight, Nat.reduceMod, mc_law11_num, *])
  refine fin_ret (r0 := .agg [.sc (.int .i64 1), .sc (.int .i64 n), .sc (.slice none 0 0)]) 2 cE2 ?_
  rw [frz_agg1]
  simp only [List.map_cons, List.map_nil, frz_sc1, Lv.pv]
  exact Weak.agg ⟨.refl _, .refl _, .nil 3, trivial⟩
theorem sort11_p (l : Lv) : PPure Try.prog F.law11_sort [.agg l.pv] (.agg (Tm.mk 2 0 emp [l] []).pv) := by
  refine pure_by is_law11_sort (by simp) (by simp [PV.imm, tm_imm]) fun hb nx => ?_
  clear hb
  repeat' (first | ((with_reducible first | refine wA (by omega) ?_ | refine wB (by omega) ?_ | refine wC (by omega) ?_ | refine wD (by omega) ?_ | refine wE ?_ ?_ | refine wF ?_ ?_ | refine wG ?_ ?_ | refine wH ?_ ?_ | refine wI ?_ ?_ | refine wJ ?_ ?_ | refine wK ?_ ?_ | refine wL ?_ ?_) <;> intro _) | simp (maxSteps := 1000000) (disch := omega) only [go_sem, Nat.reduceAdd, Nat.reduceMul, Nat.reduceSub, Nat.reduceLeDiff, Nat.reduceEqDiff, Nat.reduceBEq, ↓reduceIte, reduceCtorEq, Int.reduceEq, Int.reduceLE, Int.reduceLT, Int.reduceAdd, Int.reduceSub, Int.reduceNeg, Int.reduceToNat, Int.reduceNe, Nat.reducePow, Nat.reduceShiftRight, Nat.reduceMod, mc_law11_sort, *])
  refine fin_ret (r0 := .agg [.sc (.int .i64 2), .sc (.int .i64 0), .sc (.string ⟨#[]⟩), .sl 3 [l.pv], .sc (.slice none 0 0)]) 2 cE2 ?_
  rw [frz_agg1]
  simp only [List.map_cons, List.map_nil, frz_sc1, frz_sl, Tm.pv]
  exact Weak.agg ⟨.refl _, .refl _, .refl _, .refl _, .nil 5, trivial⟩
def Ent.sameR (a b : Ent) : Bool := decide (a.kind = b.kind) && (decide (a.params = b.params) && (decide (a.name = b.name) && (decide (a.height = b.height) && (decide (a.family = b.family) && (decide (a.fixed = b.fixed) && (decide (a.index = b.index) && (decide (a.fields = b.fields) && (a.typ.same b.typ && (a.val.same b.val && decide (a.ctors = b.ctors))))))))))
theorem ent_sameR (a b : Ent) : a.sameR b = a.same b := by
  simp only [Ent.sameR, Ent.same, Ent.numE, Ent.txtE, bytes_eqD]
  rw [Bool.eq_iff_iff]
  simp only [Bool.and_eq_true]
  constructor
  · rintro ⟨h1, h2, h3, h4, h5, h6, h7, h8, h9, h10, h11⟩
    exact ⟨⟨h1, h2, h4, h6, h7, h8⟩, ⟨h3, h5⟩, h11, h9, h10⟩
  · rintro ⟨⟨h1, h2, h4, h6, h7, h8⟩, ⟨h3, h5⟩, h11, h9, h10⟩
    exact ⟨h1, h2, h3, h4, h5, h6, h7, h8, h9, h10, h11⟩
set_option maxHeartbeats 8000000 in
theorem SameEntry_p (a b : Ent) : PPure Try.prog F.ref00_SameEntry [.agg a.pv, .agg b.pv] (.sc (.bool (a.same b))) := by
  rw [← ent_sameR]
  refine pure_by is_ref00_SameEntry (by simp) rfl fun hb nx => ?_
  clear hb
  have c5 := SameTexts_p a.ctors b.ctors
  have c6 := SameTerm_p a.typ.size a.typ b.typ (Nat.le_refl _)
  have c7 := SameTerm_p a.val.size a.val b.val (Nat.le_refl _)
  simp only [Ent.sameR]
  obtain ⟨kind, params, name, typ, val, height, family, fixed, index, fields, ctors⟩ := a
  obtain ⟨kind2, params2, name2, typ2, val2, height2, family2, fixed2, index2, fields2, ctors2⟩ := b
  simp only [Ent.pv] at c5 c6 c7 ⊢
  generalize typ.same typ2 = b6 at c6
  generalize val.same val2 = b7 at c7
  generalize decide (ctors = ctors2) = b5 at c5
  repeat' (first | ((with_reducible first | refine wA (by omega) ?_ | refine wB (by omega) ?_ | refine wC (by omega) ?_ | refine wD (by omega) ?_ | refine wE ?_ ?_ | refine wF ?_ ?_ | refine wG ?_ ?_ | refine wH ?_ ?_ | refine wI ?_ ?_ | refine wJ ?_ ?_ | refine wK ?_ ?_ | refine wL ?_ ?_) <;> intro _) | (((with_reducible refine call_id ?_); (first | (refine call_pure (c5) ?_) | (refine call_pure (c6) ?_) | (refine call_pure (c7) ?_)))) | simp (maxSteps := 1000000) (disch := omega) only [go_sem, Nat.reduceAdd, Nat.reduceMul, Nat.reduceSub, Nat.reduceLeDiff, Nat.reduceEqDiff, Nat.reduceBEq, ↓reduceIte, reduceCtorEq, Int.reduceEq, Int.reduceLE, Int.reduceLT, Int.reduceAdd, Int.reduceSub, Int.reduceNeg, Int.reduceToNat, Int.reduceNe, Nat.reducePow, Nat.reduceShiftRight, Nat.reduceMod, mc_ref00_SameEntry, strBin, bytes_eqD, *])
  all_goals (exact fin_tmp (.inr rfl) cE3)
end
section
set_option maxRecDepth 20000
attribute [local go_sem] pv_len pv_take Nat.add_assoc tm_len tm_take pv_one tm_one id_ne id_ne' id_ne2 List.append_assoc tm_take_app tm_drop_app tm_d6 tm_d7 tm_d8 tm_d9 tm_d10 tm_d11 tm_d12 tm_d13 tm_d14 tm_d15 ent_len ent_take ent_one
structure Ctr where
  name : ByteArray
  typ : Tm
def Ctr.pv (c : Ctr) : List PV := .sc (.string c.name) :: c.typ.pv
structure Dcl where
  kind : Int
  params : Int
  name : ByteArray
  typ : Tm
  val : Tm
  fixed : Int
  ctors : List Ctr
def Dcl.pv (d : Dcl) : List PV := .sc (.int .i64 d.kind) :: .sc (.int .i64 d.params) :: .sc (.string d.name) :: (d.typ.pv ++ (d.val.pv ++ [.sc (.int .i64 d.fixed), .sl 6 (d.ctors.map Ctr.pv)]))
theorem noValue_p (d : Dcl) : PPure Try.prog F.pack_noValue [.ptr d.pv] (.sc (.bool (noughtB d.val))) := by
  obtain ⟨kind, params, name, typ, val, fixed, ctors⟩ := d
  refine pure_by is_pack_noValue (by simp) rfl fun hb nx => ?_
  clear hb
  have c1 : PPure Try.prog F.term_Same [.agg val.pv, .agg [.sc (.int .i64 0), .sc (.int .i64 0), .sc (.string ⟨#[]⟩), .sc (.slice none 0 0), .sc (.slice none 0 0)]] (.sc (.bool (noughtB val))) := by
    have h := tSame_p val noTm false true rfl
    refine h.weak ⟨.of_eq (by rw [dtv_false]), ?_, trivial⟩ (.refl _)
    simp only [noTm, Tm.pvB, List.map_nil]
    exact Weak.agg ⟨.refl _, .refl _, .refl _, .nilB true 3, .nilB true 5, trivial⟩
  repeat' (first | ((with_reducible first | refine wA (by omega) ?_ | refine wB (by omega) ?_ | refine wC (by omega) ?_ | refine wD (by omega) ?_ | refine wE ?_ ?_ | refine wF ?_ ?_ | refine wG ?_ ?_ | refine wH ?_ ?_ | refine wI ?_ ?_ | refine wJ ?_ ?_ | refine wK ?_ ?_ | refine wL ?_ ?_) <;> intro _) | (((with_reducible refine call_id ?_); (first | (refine call_pure (c1) ?_)))) | simp (maxSteps := 1000000) (disch := omega) only [go_sem, Nat.reduceAdd, Nat.reduceMul, Nat.reduceSub, Nat.reduceLeDiff, Nat.reduceEqDiff, Nat.reduceBEq, ↓reduceIte, reduceCtorEq, Int.reduceEq, Int.reduceLE, Int.reduceLT, Int.reduceAdd, Int.reduceSub, Int.reduceNeg, Int.reduceToNat, Int.reduceNe, Nat.reducePow, Nat.reduceShiftRight, Nat.reduceMod, mc_pack_noValue, Dcl.pv, *])
  all_goals (exact fin_tmp (.inr rfl) cE3)
def noFamB (d : Dcl) : Bool := decide (d.fixed = 0) && decide (d.ctors.length = 0)
theorem noFamily_p (d : Dcl) : PPure Try.prog F.pack_noFamily [.ptr d.pv] (.sc (.bool (noFamB d))) := by
  obtain ⟨kind, params, name, typ, val, fixed, ctors⟩ := d
  refine pure_by is_pack_noFamily (by simp) rfl fun hb nx => ?_
  clear hb
  simp only [noFamB]
  repeat' (first | ((with_reducible first | refine wA (by omega) ?_ | refine wB (by omega) ?_ | refine wC (by omega) ?_ | refine wD (by omega) ?_ | refine wE ?_ ?_ | refine wF ?_ ?_ | refine wG ?_ ?_ | refine wH ?_ ?_ | refine wI ?_ ?_ | refine wJ ?_ ?_ | refine wK ?_ ?_ | refine wL ?_ ?_) <;> intro _) | simp (maxSteps := 1000000) (disch := omega) only [go_sem, Nat.reduceAdd, Nat.reduceMul, Nat.reduceSub, Nat.reduceLeDiff, Nat.reduceEqDiff, Nat.reduceBEq, ↓reduceIte, reduceCtorEq, Int.reduceEq, Int.reduceLE, Int.reduceLT, Int.reduceAdd, Int.reduceSub, Int.reduceNeg, Int.reduceToNat, Int.reduceNe, Nat.reducePow, Nat.reduceShiftRight, Nat.reduceMod, mc_pack_noFamily, Dcl.pv, *])
  all_goals (refine fin_tmp (.inr rfl) ?_; simp [upd, *] <;> (intros; omega))
def ctrB (params : Int) (c : Ctr) : Bool := nameB c.name && c.typ.right params 0
def famB (d : Dcl) : Bool := spanB d.fixed 16 && (decide (d.ctors.length ≤ 8) && d.ctors.all (ctrB d.params))
set_option maxHeartbeats 4000000 in
theorem pfamily_p (d : Dcl) : PPure Try.prog F.pack_family [.ptr d.pv] (.sc (.bool (famB d))) := by
  obtain ⟨kind, params, name, typ, val, fixed, ctors⟩ := d
  refine pure_by is_pack_family (by simp) rfl fun hb nx => ?_
  clear hb
  simp only [famB, spanB]
  by_cases h : 0 ≤ fixed ∧ fixed ≤ 16 ∧ ctors.length ≤ 8
  · obtain ⟨h0, h1, h2⟩ := h
    rw [decide_eq_true h0, decide_eq_true h1, decide_eq_true h2]
    simp only [Bool.true_and]
    repeat' (first | ((with_reducible first | refine wA (by omega) ?_ | refine wB (by omega) ?_ | refine wC (by omega) ?_ | refine wD (by omega) ?_ | refine wE ?_ ?_ | refine wF ?_ ?_ | refine wG ?_ ?_ | refine wH ?_ ?_ | refine wI ?_ ?_ | refine wJ ?_ ?_ | refine wK ?_ ?_ | refine wL ?_ ?_) <;> intro _) | simp (maxSteps := 1000000) (disch := omega) only [go_sem, Nat.reduceAdd, Nat.reduceMul, Nat.reduceSub, Nat.reduceLeDiff, Nat.reduceEqDiff, Nat.reduceBEq, ↓reduceIte, reduceCtorEq, Int.reduceEq, Int.reduceLE, Int.reduceLT, Int.reduceAdd, Int.reduceSub, Int.reduceNeg, Int.reduceToNat, Int.reduceNe, Nat.reducePow, Nat.reduceShiftRight, Nat.reduceMod, mc_pack_family, Dcl.pv, *])
    refine c_loopW 576460751766552588 (by kernel_rfl) (fun j f H m => ∃ i : Nat, j = ctors.length - i ∧ i ≤ ctors.length ∧ f 29 = .sc (.int .i64 i) ∧ Kept ((ctors.take i).all (ctrB params) = true)) _ ⟨0, rfl, Nat.zero_le _, cE1, Kept.mk rfl⟩ ?_
    rintro _ f H m ⟨i, rfl, hi, e29, hs⟩
    by_cases hlt : i < ctors.length
    · have eg : ctors[i]? = some ctors[i] := List.getElem?_eq_getElem hlt
      have c1 := name_Right_p ctors[i].name
      have c2 := tRightG_p ctors[i].typ params 0
      cases hc : ctrB params ctors[i] with
      | false =>
        have e : ctors.all (ctrB params) = false := by
          rw [Bool.eq_false_iff]
          intro h
          have := List.all_eq_true.1 h _ (List.getElem_mem hlt)
          rw [hc] at this
          cases this
        rw [e]
        clear e hs
        cases hn : nameB ctors[i].name with
        | false =>
          rw [hn] at c1
          clear hn hc c2
          repeat' (first | ((with_reducible first | refine wA (by omega) ?_ | refine wB (by omega) ?_ | refine wC (by omega) ?_ | refine wD (by omega) ?_ | refine wE ?_ ?_ | refine wF ?_ ?_ | refine wG ?_ ?_ | refine wH ?_ ?_ | refine wI ?_ ?_ | refine wJ ?_ ?_ | refine wK ?_ ?_ | refine wL ?_ ?_) <;> intro _) | (((with_reducible refine call_id ?_); (first | (refine call_pure (c1) ?_)))) | simp (maxSteps := 1000000) (disch := omega) only [go_sem, Nat.reduceAdd, Nat.reduceMul, Nat.reduceSub, Nat.reduceLeDiff, Nat.reduceEqDiff, Nat.reduceBEq, ↓reduceIte, reduceCtorEq, Int.reduceEq, Int.reduceLE, Int.reduceLT, Int.reduceAdd, Int.reduceSub, Int.reduceNeg, Int.reduceToNat, Int.reduceNe, Nat.reducePow, Nat.reduceShiftRight, Nat.reduceMod, Ctr.pv, *])
          all_goals (exact fin_tmp (.inr rfl) cE3)
        | true =>
          have hr : ctors[i].typ.right params 0 = false := by simpa [ctrB, hn] using hc
          rw [hn] at c1
          rw [hr] at c2
          clear hn hc hr
          repeat' (first | ((with_reducible first | refine wA (by omega) ?_ | refine wB (by omega) ?_ | refine wC (by omega) ?_ | refine wD (by omega) ?_ | refine wE ?_ ?_ | refine wF ?_ ?_ | refine wG ?_ ?_ | refine wH ?_ ?_ | refine wI ?_ ?_ | refine wJ ?_ ?_ | refine wK ?_ ?_ | refine wL ?_ ?_) <;> intro _) | (((with_reducible refine call_id ?_); (first | (refine call_pure (c1) ?_) | (refine call_pure (c2) ?_)))) | simp (maxSteps := 1000000) (disch := omega) only [go_sem, Nat.reduceAdd, Nat.reduceMul, Nat.reduceSub, Nat.reduceLeDiff, Nat.reduceEqDiff, Nat.reduceBEq, ↓reduceIte, reduceCtorEq, Int.reduceEq, Int.reduceLE, Int.reduceLT, Int.reduceAdd, Int.reduceSub, Int.reduceNeg, Int.reduceToNat, Int.reduceNe, Nat.reducePow, Nat.reduceShiftRight, Nat.reduceMod, Ctr.pv, *])
          all_goals (exact fin_tmp (.inr rfl) cE3)
      | true =>
        have h3 : nameB ctors[i].name = true ∧ ctors[i].typ.right params 0 = true := by simpa [ctrB] using hc
        rw [h3.1] at c1
        rw [h3.2] at c2
        have hs2 : Kept ((ctors.take (i + 1)).all (ctrB params) = true) := Kept.mk (by rw [List.take_succ_eq_append_getElem hlt, List.all_append, hs.out, List.all_cons, hc]; rfl)
        clear h3 hc hs
        repeat' (first | ((with_reducible first | refine wA (by omega) ?_ | refine wB (by omega) ?_ | refine wC (by omega) ?_ | refine wD (by omega) ?_ | refine wE ?_ ?_ | refine wF ?_ ?_ | refine wG ?_ ?_ | refine wH ?_ ?_ | refine wI ?_ ?_ | refine wJ ?_ ?_ | refine wK ?_ ?_ | refine wL ?_ ?_) <;> intro _) | (((with_reducible refine call_id ?_); (first | (refine call_pure (c1) ?_) | (refine call_pure (c2) ?_)))) | simp (maxSteps := 1000000) (disch := omega) only [go_sem, Nat.reduceAdd, Nat.reduceMul, Nat.reduceSub, Nat.reduceLeDiff, Nat.reduceEqDiff, Nat.reduceBEq, ↓reduceIte, reduceCtorEq, Int.reduceEq, Int.reduceLE, Int.reduceLT, Int.reduceAdd, Int.reduceSub, Int.reduceNeg, Int.reduceToNat, Int.reduceNe, Nat.reducePow, Nat.reduceShiftRight, Nat.reduceMod, Ctr.pv, *])
        exact Nx.mk (ctors.length - (i + 1)) cE1 ⟨i + 1, rfl, cE1, by simp [upd], hs2⟩
    · obtain rfl : i = ctors.length := by omega
      have h3 := hs.out
      rw [List.take_length] at h3
      rw [h3]
      clear hs h3
      repeat' (first | ((with_reducible first | refine wA (by omega) ?_ | refine wB (by omega) ?_ | refine wC (by omega) ?_ | refine wD (by omega) ?_ | refine wE ?_ ?_ | refine wF ?_ ?_ | refine wG ?_ ?_ | refine wH ?_ ?_ | refine wI ?_ ?_ | refine wJ ?_ ?_ | refine wK ?_ ?_ | refine wL ?_ ?_) <;> intro _) | simp (maxSteps := 1000000) (disch := omega) only [go_sem, Nat.reduceAdd, Nat.reduceMul, Nat.reduceSub, Nat.reduceLeDiff, Nat.reduceEqDiff, Nat.reduceBEq, ↓reduceIte, reduceCtorEq, Int.reduceEq, Int.reduceLE, Int.reduceLT, Int.reduceAdd, Int.reduceSub, Int.reduceNeg, Int.reduceToNat, Int.reduceNe, Nat.reducePow, Nat.reduceShiftRight, Nat.reduceMod, *])
      all_goals (exact fin_tmp (.inr rfl) cE3)
  · have e : (decide (0 ≤ fixed) && decide (fixed ≤ 16) && (decide (ctors.length ≤ 8) && ctors.all (ctrB params))) = false := by
      rw [Bool.eq_false_iff]
      intro h2
      simp only [Bool.and_eq_true, decide_eq_true_eq] at h2
      exact h ⟨h2.1.1, h2.1.2, h2.2.1⟩
    rw [e]
    clear e
    have h9 : fixed < 0 ∨ (0 ≤ fixed ∧ 16 < fixed) ∨ (0 ≤ fixed ∧ fixed ≤ 16 ∧ 8 < ctors.length) := by omega
    clear h
    rcases h9 with h | ⟨h, h2⟩ | ⟨h, h2, h3⟩
    all_goals
      repeat' (first | ((with_reducible first | refine wA (by omega) ?_ | refine wB (by omega) ?_ | refine wC (by omega) ?_ | refine wD (by omega) ?_ | refine wE ?_ ?_ | refine wF ?_ ?_ | refine wG ?_ ?_ | refine wH ?_ ?_ | refine wI ?_ ?_ | refine wJ ?_ ?_ | refine wK ?_ ?_ | refine wL ?_ ?_) <;> intro _) | simp (maxSteps := 1000000) (disch := omega) only [go_sem, Nat.reduceAdd, Nat.reduceMul, Nat.reduceSub, Nat.reduceLeDiff, Nat.reduceEqDiff, Nat.reduceBEq, ↓reduceIte, reduceCtorEq, Int.reduceEq, Int.reduceLE, Int.reduceLT, Int.reduceAdd, Int.reduceSub, Int.reduceNeg, Int.reduceToNat, Int.reduceNe, Nat.reducePow, Nat.reduceShiftRight, Nat.reduceMod, mc_pack_family, Dcl.pv, *])
      all_goals (exact fin_tmp (.inr rfl) cE3)
def Dcl.formed (d : Dcl) : Bool := decide (0 ≤ d.params) && (decide (d.params ≤ 4) && (nameB d.name && (d.typ.right d.params 0 && (if d.kind = 1 then noughtB d.val && noFamB d else if d.kind = 2 ∨ d.kind = 3 ∨ d.kind = 4 then d.val.right d.params 0 && noFamB d else if d.kind = 5 then noughtB d.val && famB d else false))))
set_option maxHeartbeats 16000000 in
theorem formed11_p (d : Dcl) : PPure Try.prog F.pack_Formed [.agg d.pv] (.sc (.bool d.formed)) := by
  refine pure_by is_pack_Formed (by simp) rfl fun hb nx => ?_
  clear hb
  have c1 := name_Right_p d.name
  have c2 := tRightG_p d.typ d.params 0
  have c3 := noValue_p d
  have c4 := noFamily_p d
  have c5 := pfamily_p d
  have c6 := tRightG_p d.val d.params 0
  simp only [Dcl.formed]
  generalize noughtB d.val = b3 at c3
  generalize noFamB d = b4 at c4
  generalize famB d = b5 at c5
  obtain ⟨kind, params, name, typ, val, fixed, ctors⟩ := d
  simp only [Dcl.pv] at c1 c2 c3 c4 c5 c6 ⊢
  generalize nameB name = b1 at c1
  generalize typ.right params 0 = b2 at c2
  generalize val.right params 0 = b6 at c6
  by_cases hp : 0 ≤ params ∧ params ≤ 4
  rotate_left
  · have h9 : params < 0 ∨ (0 ≤ params ∧ 4 < params) := by omega
    clear hp c2 c3 c4 c5 c6
    rcases h9 with h | ⟨h, h2⟩
    all_goals
      cases b1
      all_goals
        repeat' (first | ((with_reducible first | refine wA (by omega) ?_ | refine wB (by omega) ?_ | refine wC (by omega) ?_ | refine wD (by omega) ?_ | refine wE ?_ ?_ | refine wF ?_ ?_ | refine wG ?_ ?_ | refine wH ?_ ?_ | refine wI ?_ ?_ | refine wJ ?_ ?_ | refine wK ?_ ?_ | refine wL ?_ ?_) <;> intro _) | (((with_reducible refine call_id ?_); (first | (refine call_pure (c1) ?_)))) | simp (maxSteps := 1000000) (disch := omega) only [go_sem, Nat.reduceAdd, Nat.reduceMul, Nat.reduceSub, Nat.reduceLeDiff, Nat.reduceEqDiff, Nat.reduceBEq, ↓reduceIte, reduceCtorEq, Int.reduceEq, Int.reduceLE, Int.reduceLT, Int.reduceAdd, Int.reduceSub, Int.reduceNeg, Int.reduceToNat, Int.reduceNe, Nat.reducePow, Nat.reduceShiftRight, Nat.reduceMod, mc_pack_Formed, *])
        all_goals (refine fin_tmp (.inr rfl) ?_; simp [upd, *] <;> (intros; omega))
  obtain ⟨h0, h4⟩ := hp
  cases b1 with
  | false =>
    repeat' (first | ((with_reducible first | refine wA (by omega) ?_ | refine wB (by omega) ?_ | refine wC (by omega) ?_ | refine wD (by omega) ?_ | refine wE ?_ ?_ | refine wF ?_ ?_ | refine wG ?_ ?_ | refine wH ?_ ?_ | refine wI ?_ ?_ | refine wJ ?_ ?_ | refine wK ?_ ?_ | refine wL ?_ ?_) <;> intro _) | (((with_reducible refine call_id ?_); (first | (refine call_pure (c1) ?_)))) | simp (maxSteps := 1000000) (disch := omega) only [go_sem, Nat.reduceAdd, Nat.reduceMul, Nat.reduceSub, Nat.reduceLeDiff, Nat.reduceEqDiff, Nat.reduceBEq, ↓reduceIte, reduceCtorEq, Int.reduceEq, Int.reduceLE, Int.reduceLT, Int.reduceAdd, Int.reduceSub, Int.reduceNeg, Int.reduceToNat, Int.reduceNe, Nat.reducePow, Nat.reduceShiftRight, Nat.reduceMod, mc_pack_Formed, *])
    all_goals (refine fin_tmp (.inr rfl) ?_; simp [upd, *] <;> (intros; omega))
  | true =>
  cases b2 with
  | false =>
    repeat' (first | ((with_reducible first | refine wA (by omega) ?_ | refine wB (by omega) ?_ | refine wC (by omega) ?_ | refine wD (by omega) ?_ | refine wE ?_ ?_ | refine wF ?_ ?_ | refine wG ?_ ?_ | refine wH ?_ ?_ | refine wI ?_ ?_ | refine wJ ?_ ?_ | refine wK ?_ ?_ | refine wL ?_ ?_) <;> intro _) | (((with_reducible refine call_id ?_); (first | (refine call_pure (c1) ?_) | (refine call_pure (c2) ?_)))) | simp (maxSteps := 1000000) (disch := omega) only [go_sem, Nat.reduceAdd, Nat.reduceMul, Nat.reduceSub, Nat.reduceLeDiff, Nat.reduceEqDiff, Nat.reduceBEq, ↓reduceIte, reduceCtorEq, Int.reduceEq, Int.reduceLE, Int.reduceLT, Int.reduceAdd, Int.reduceSub, Int.reduceNeg, Int.reduceToNat, Int.reduceNe, Nat.reducePow, Nat.reduceShiftRight, Nat.reduceMod, mc_pack_Formed, *])
    all_goals (refine fin_tmp (.inr rfl) ?_; simp [upd, *] <;> (intros; omega))
  | true =>
  have hk : kind = 1 ∨ (kind = 2 ∨ kind = 3 ∨ kind = 4) ∨ kind = 5 ∨ (kind ≠ 1 ∧ kind ≠ 2 ∧ kind ≠ 3 ∧ kind ≠ 4 ∧ kind ≠ 5) := by omega
  rcases hk with rfl | (rfl | rfl | rfl) | rfl | ⟨k1, k2, k3, k4, k5⟩
  · cases b3
    all_goals
      repeat' (first | ((with_reducible first | refine wA (by omega) ?_ | refine wB (by omega) ?_ | refine wC (by omega) ?_ | refine wD (by omega) ?_ | refine wE ?_ ?_ | refine wF ?_ ?_ | refine wG ?_ ?_ | refine wH ?_ ?_ | refine wI ?_ ?_ | refine wJ ?_ ?_ | refine wK ?_ ?_ | refine wL ?_ ?_) <;> intro _) | (((with_reducible refine call_id ?_); (first | (refine call_pure (c1) ?_) | (refine call_pure (c2) ?_) | (refine call_pure (c3) ?_) | (refine call_pure (c4) ?_)))) | simp (maxSteps := 1000000) (disch := omega) only [go_sem, Nat.reduceAdd, Nat.reduceMul, Nat.reduceSub, Nat.reduceLeDiff, Nat.reduceEqDiff, Nat.reduceBEq, ↓reduceIte, reduceCtorEq, Int.reduceEq, Int.reduceLE, Int.reduceLT, Int.reduceAdd, Int.reduceSub, Int.reduceNeg, Int.reduceToNat, Int.reduceNe, Nat.reducePow, Nat.reduceShiftRight, Nat.reduceMod, mc_pack_Formed, *])
      all_goals (refine fin_tmp (.inr rfl) ?_; simp [upd, *] <;> (intros; omega))
  · cases b6
    all_goals
      repeat' (first | ((with_reducible first | refine wA (by omega) ?_ | refine wB (by omega) ?_ | refine wC (by omega) ?_ | refine wD (by omega) ?_ | refine wE ?_ ?_ | refine wF ?_ ?_ | refine wG ?_ ?_ | refine wH ?_ ?_ | refine wI ?_ ?_ | refine wJ ?_ ?_ | refine wK ?_ ?_ | refine wL ?_ ?_) <;> intro _) | (((with_reducible refine call_id ?_); (first | (refine call_pure (c1) ?_) | (refine call_pure (c2) ?_) | (refine call_pure (c6) ?_) | (refine call_pure (c4) ?_)))) | simp (maxSteps := 1000000) (disch := omega) only [go_sem, Nat.reduceAdd, Nat.reduceMul, Nat.reduceSub, Nat.reduceLeDiff, Nat.reduceEqDiff, Nat.reduceBEq, ↓reduceIte, reduceCtorEq, Int.reduceEq, Int.reduceLE, Int.reduceLT, Int.reduceAdd, Int.reduceSub, Int.reduceNeg, Int.reduceToNat, Int.reduceNe, Nat.reducePow, Nat.reduceShiftRight, Nat.reduceMod, mc_pack_Formed, *])
      all_goals (refine fin_tmp (.inr rfl) ?_; simp [upd, *] <;> (intros; omega))
  · cases b6
    all_goals
      repeat' (first | ((with_reducible first | refine wA (by omega) ?_ | refine wB (by omega) ?_ | refine wC (by omega) ?_ | refine wD (by omega) ?_ | refine wE ?_ ?_ | refine wF ?_ ?_ | refine wG ?_ ?_ | refine wH ?_ ?_ | refine wI ?_ ?_ | refine wJ ?_ ?_ | refine wK ?_ ?_ | refine wL ?_ ?_) <;> intro _) | (((with_reducible refine call_id ?_); (first | (refine call_pure (c1) ?_) | (refine call_pure (c2) ?_) | (refine call_pure (c6) ?_) | (refine call_pure (c4) ?_)))) | simp (maxSteps := 1000000) (disch := omega) only [go_sem, Nat.reduceAdd, Nat.reduceMul, Nat.reduceSub, Nat.reduceLeDiff, Nat.reduceEqDiff, Nat.reduceBEq, ↓reduceIte, reduceCtorEq, Int.reduceEq, Int.reduceLE, Int.reduceLT, Int.reduceAdd, Int.reduceSub, Int.reduceNeg, Int.reduceToNat, Int.reduceNe, Nat.reducePow, Nat.reduceShiftRight, Nat.reduceMod, mc_pack_Formed, *])
      all_goals (refine fin_tmp (.inr rfl) ?_; simp [upd, *] <;> (intros; omega))
  · cases b6
    all_goals
      repeat' (first | ((with_reducible first | refine wA (by omega) ?_ | refine wB (by omega) ?_ | refine wC (by omega) ?_ | refine wD (by omega) ?_ | refine wE ?_ ?_ | refine wF ?_ ?_ | refine wG ?_ ?_ | refine wH ?_ ?_ | refine wI ?_ ?_ | refine wJ ?_ ?_ | refine wK ?_ ?_ | refine wL ?_ ?_) <;> intro _) | (((with_reducible refine call_id ?_); (first | (refine call_pure (c1) ?_) | (refine call_pure (c2) ?_) | (refine call_pure (c6) ?_) | (refine call_pure (c4) ?_)))) | simp (maxSteps := 1000000) (disch := omega) only [go_sem, Nat.reduceAdd, Nat.reduceMul, Nat.reduceSub, Nat.reduceLeDiff, Nat.reduceEqDiff, Nat.reduceBEq, ↓reduceIte, reduceCtorEq, Int.reduceEq, Int.reduceLE, Int.reduceLT, Int.reduceAdd, Int.reduceSub, Int.reduceNeg, Int.reduceToNat, Int.reduceNe, Nat.reducePow, Nat.reduceShiftRight, Nat.reduceMod, mc_pack_Formed, *])
      all_goals (refine fin_tmp (.inr rfl) ?_; simp [upd, *] <;> (intros; omega))
  · cases b3
    all_goals
      repeat' (first | ((with_reducible first | refine wA (by omega) ?_ | refine wB (by omega) ?_ | refine wC (by omega) ?_ | refine wD (by omega) ?_ | refine wE ?_ ?_ | refine wF ?_ ?_ | refine wG ?_ ?_ | refine wH ?_ ?_ | refine wI ?_ ?_ | refine wJ ?_ ?_ | refine wK ?_ ?_ | refine wL ?_ ?_) <;> intro _) | (((with_reducible refine call_id ?_); (first | (refine call_pure (c1) ?_) | (refine call_pure (c2) ?_) | (refine call_pure (c3) ?_) | (refine call_pure (c5) ?_)))) | simp (maxSteps := 1000000) (disch := omega) only [go_sem, Nat.reduceAdd, Nat.reduceMul, Nat.reduceSub, Nat.reduceLeDiff, Nat.reduceEqDiff, Nat.reduceBEq, ↓reduceIte, reduceCtorEq, Int.reduceEq, Int.reduceLE, Int.reduceLT, Int.reduceAdd, Int.reduceSub, Int.reduceNeg, Int.reduceToNat, Int.reduceNe, Nat.reducePow, Nat.reduceShiftRight, Nat.reduceMod, mc_pack_Formed, *])
      all_goals (refine fin_tmp (.inr rfl) ?_; simp [upd, *] <;> (intros; omega))
  · repeat' (first | ((with_reducible first | refine wA (by omega) ?_ | refine wB (by omega) ?_ | refine wC (by omega) ?_ | refine wD (by omega) ?_ | refine wE ?_ ?_ | refine wF ?_ ?_ | refine wG ?_ ?_ | refine wH ?_ ?_ | refine wI ?_ ?_ | refine wJ ?_ ?_ | refine wK ?_ ?_ | refine wL ?_ ?_) <;> intro _) | (((with_reducible refine call_id ?_); (first | (refine call_pure (c1) ?_) | (refine call_pure (c2) ?_)))) | simp (maxSteps := 1000000) (disch := omega) only [go_sem, Nat.reduceAdd, Nat.reduceMul, Nat.reduceSub, Nat.reduceLeDiff, Nat.reduceEqDiff, Nat.reduceBEq, ↓reduceIte, reduceCtorEq, Int.reduceEq, Int.reduceLE, Int.reduceLT, Int.reduceAdd, Int.reduceSub, Int.reduceNeg, Int.reduceToNat, Int.reduceNe, Nat.reducePow, Nat.reduceShiftRight, Nat.reduceMod, mc_pack_Formed, *])
    all_goals (refine fin_tmp (.inr rfl) ?_; simp [upd, *] <;> (intros; omega))
end
section
set_option maxRecDepth 20000
attribute [local go_sem] pv_len pv_take Nat.add_assoc tm_len tm_take pv_one tm_one id_ne id_ne' id_ne2 List.append_assoc tm_take_app tm_drop_app tm_d6 tm_d7 tm_d8 tm_d9 tm_d10 tm_d11 tm_d12 tm_d13 tm_d14 tm_d15 ent_len ent_take ent_one tpvB_len tpvB_take tpvB_one
def Dcl.ent (d : Dcl) (h : Int) : Ent := ⟨d.kind, d.params, d.name, d.typ, d.val, if d.kind = 2 then h else 0, emp, 0, 0, 0, []⟩
def noEnt : Ent := ⟨0, 0, emp, noTm, noTm, 0, emp, 0, 0, 0, []⟩
def Dcl.plainE (d : Dcl) (h : Int) : Ent := if d.kind = 5 ∨ d.formed = false then noEnt else if (d.ent h).right then d.ent h else noEnt
def Dcl.plainN (d : Dcl) (h : Int) : Int := if d.kind = 5 ∨ d.formed = false then 10 else if (d.ent h).right then 0 else 12
theorem tm_t12 (t : Tm) (r : List PV) : (t.pv ++ r).take 12 = t.pv ++ r.take 7 := by rw [List.take_append, tm_len, List.take_of_length_le (by rw [tm_len]; omega)]
theorem tm_t7 (t : Tm) (r : List PV) : (t.pv ++ r).take 7 = t.pv ++ r.take 2 := by rw [List.take_append, tm_len, List.take_of_length_le (by rw [tm_len]; omega)]
theorem tm_t16 (t : Tm) (r : List PV) : (t.pv ++ r).take 16 = t.pv ++ r.take 11 := by rw [List.take_append, tm_len, List.take_of_length_le (by rw [tm_len]; omega)]
theorem tm_t11 (t : Tm) (r : List PV) : (t.pv ++ r).take 11 = t.pv ++ r.take 6 := by rw [List.take_append, tm_len, List.take_of_length_le (by rw [tm_len]; omega)]
theorem noEnt_weak : WeakL [PV.sc (.int .i64 0), .sc (.int .i64 0), .sc (.string ⟨#[]⟩), .sc (.int .i64 0), .sc (.int .i64 0), .sc (.string ⟨#[]⟩), .sc (.slice none 0 0), .sc (.slice none 0 0), .sc (.int .i64 0), .sc (.int .i64 0), .sc (.string ⟨#[]⟩), .sc (.slice none 0 0), .sc (.slice none 0 0), .sc (.int .i64 0), .sc (.string ⟨#[]⟩), .sc (.int .i64 0), .sc (.int .i64 0), .sc (.int .i64 0), .sc (.slice none 0 0)] noEnt.pv := by
  simp only [noEnt, Ent.pv, noTm, Tm.pv, List.map_nil, List.cons_append, List.nil_append]
  exact ⟨.refl _, .refl _, .refl _, .refl _, .refl _, .refl _, .nil 3, .nil 5, .refl _, .refl _, .refl _, .nil 3, .nil 5, .refl _, .refl _, .refl _, .refl _, .refl _, .nil 1, trivial⟩
theorem ent_imm (e : Ent) : immL e.pv = true := by
  have h : ∀ (t : Tm) (r : List PV), immL (t.pv ++ r) = immL r := fun t r => by
    have h := tm_imm t
    cases t
    simp only [Tm.pv, List.cons_append, List.nil_append, immL, Bool.and_true, Bool.and_eq_true, Bool.true_and] at h ⊢
    simp [h]
  simp [Ent.pv, immL, h, PV.imm, immLL_flatten, imm_txts]
def Ent.pvN (e : Ent) : List PV := PV.sc (.int .i64 e.kind) :: .sc (.int .i64 e.params) :: .sc (.string e.name) :: (e.typ.pv ++ (e.val.pv ++ [.sc (.int .i64 e.height), .sc (.string ⟨#[]⟩), .sc (.int .i64 0), .sc (.int .i64 0), .sc (.int .i64 0), .sc (.slice none 0 0)]))
theorem newEnt_weak (e : Ent) (h : e = ⟨e.kind, e.params, e.name, e.typ, e.val, e.height, emp, 0, 0, 0, []⟩) : WeakL e.pvN e.pv := by
  have : e.pv = PV.sc (.int .i64 e.kind) :: .sc (.int .i64 e.params) :: .sc (.string e.name) :: (e.typ.pv ++ (e.val.pv ++ [.sc (.int .i64 e.height), .sc (.string ⟨#[]⟩), .sc (.int .i64 0), .sc (.int .i64 0), .sc (.int .i64 0), .sl 1 []])) := by rw [h]; rfl
  rw [this]
  exact ⟨.refl _, .refl _, .refl _, WeakL.append (.refl _) (WeakL.append (.refl _) ⟨.refl _, .refl _, .refl _, .refl _, .refl _, .nil 1, trivial⟩)⟩
theorem newRight_p (e : Ent) (h : e = ⟨e.kind, e.params, e.name, e.typ, e.val, e.height, emp, 0, 0, 0, []⟩) : PPure Try.prog F.decl_Right [.agg e.pvN] (.sc (.bool e.right)) :=
  (eRight_p e).weak (args' := [.agg e.pvN]) ⟨Weak.agg (newEnt_weak e h), trivial⟩ (.refl _)
set_option maxHeartbeats 16000000 in
theorem Plain_p (d : Dcl) (h : Int) (h1 : d.typ.nodes ≤ 2 ^ 40) (h2 : d.val.nodes ≤ 2 ^ 40) : PPure Try.prog F.decl_Plain [.agg d.pv, .sc (.int .i64 h)] (.tup [.agg (d.plainE h).pv, .sc (.int .i64 (d.plainN h))]) := by
  refine pure_by is_decl_Plain (by simp) (by simp [PV.imm, immL, ent_imm]) fun hb nx => ?_
  clear hb
  have c1 := formed11_p d
  have c2 := (app0_p d.typ h1).weak (.refl _) (tm_agg true _)
  have c3 := (app0_p d.val h2).weak (.refl _) (tm_agg true _)
  have c4 := newRight_p (d.ent h) rfl
  have hw := newEnt_weak (d.ent h) rfl
  simp only [Dcl.plainE, Dcl.plainN]
  clear h1 h2
  generalize d.formed = b1 at c1
  generalize hr : (d.ent h).right = b2 at c4
  obtain ⟨kind, params, name, typ, val, fixed, ctors⟩ := d
  simp only [Dcl.ent, Ent.pvN] at c2 c3 c4 hw ⊢
  have hz := noEnt_weak
  by_cases h5 : kind = 5
  · subst h5
    rw [if_pos (.inl rfl), if_pos (.inl rfl)]
    repeat' (first | ((with_reducible first | refine wA (by omega) ?_ | refine wB (by omega) ?_ | refine wC (by omega) ?_ | refine wD (by omega) ?_ | refine wE ?_ ?_ | refine wF ?_ ?_ | refine wG ?_ ?_ | refine wH ?_ ?_ | refine wI ?_ ?_ | refine wJ ?_ ?_ | refine wK ?_ ?_ | refine wL ?_ ?_) <;> intro _) | simp (maxSteps := 1000000) (disch := omega) only [go_sem, Nat.reduceAdd, Nat.reduceMul, Nat.reduceSub, Nat.reduceLeDiff, Nat.reduceEqDiff, Nat.reduceBEq, ↓reduceIte, reduceCtorEq, Int.reduceEq, Int.reduceLE, Int.reduceLT, Int.reduceAdd, Int.reduceSub, Int.reduceNeg, Int.reduceToNat, Int.reduceNe, Nat.reducePow, Nat.reduceShiftRight, Nat.reduceMod, mc_decl_Plain, Dcl.pv, tm_t12, tm_t7, *])
    refine fin_ret (r0 := .tup [.agg [.sc (.int .i64 0), .sc (.int .i64 0), .sc (.string ⟨#[]⟩), .sc (.int .i64 0), .sc (.int .i64 0), .sc (.string ⟨#[]⟩), .sc (.slice none 0 0), .sc (.slice none 0 0), .sc (.int .i64 0), .sc (.int .i64 0), .sc (.string ⟨#[]⟩), .sc (.slice none 0 0), .sc (.slice none 0 0), .sc (.int .i64 0), .sc (.string ⟨#[]⟩), .sc (.int .i64 0), .sc (.int .i64 0), .sc (.int .i64 0), .sc (.slice none 0 0)], .sc (.int .i64 10)]) 0 cE2 ?_
    exact Weak.tup ⟨Weak.agg hz, .refl _, trivial⟩
  cases b1 with
  | false =>
    rw [if_pos (.inr rfl), if_pos (.inr rfl)]
    simp only [Dcl.pv] at c1
    repeat' (first | ((with_reducible first | refine wA (by omega) ?_ | refine wB (by omega) ?_ | refine wC (by omega) ?_ | refine wD (by omega) ?_ | refine wE ?_ ?_ | refine wF ?_ ?_ | refine wG ?_ ?_ | refine wH ?_ ?_ | refine wI ?_ ?_ | refine wJ ?_ ?_ | refine wK ?_ ?_ | refine wL ?_ ?_) <;> intro _) | (((with_reducible refine call_id ?_); (first | (refine call_pure (c1) ?_)))) | simp (maxSteps := 1000000) (disch := omega) only [go_sem, Nat.reduceAdd, Nat.reduceMul, Nat.reduceSub, Nat.reduceLeDiff, Nat.reduceEqDiff, Nat.reduceBEq, ↓reduceIte, reduceCtorEq, Int.reduceEq, Int.reduceLE, Int.reduceLT, Int.reduceAdd, Int.reduceSub, Int.reduceNeg, Int.reduceToNat, Int.reduceNe, Nat.reducePow, Nat.reduceShiftRight, Nat.reduceMod, mc_decl_Plain, Dcl.pv, tm_t12, tm_t7, *])
    refine fin_ret (r0 := .tup [.agg [.sc (.int .i64 0), .sc (.int .i64 0), .sc (.string ⟨#[]⟩), .sc (.int .i64 0), .sc (.int .i64 0), .sc (.string ⟨#[]⟩), .sc (.slice none 0 0), .sc (.slice none 0 0), .sc (.int .i64 0), .sc (.int .i64 0), .sc (.string ⟨#[]⟩), .sc (.slice none 0 0), .sc (.slice none 0 0), .sc (.int .i64 0), .sc (.string ⟨#[]⟩), .sc (.int .i64 0), .sc (.int .i64 0), .sc (.int .i64 0), .sc (.slice none 0 0)], .sc (.int .i64 10)]) 0 cE2 ?_
    exact Weak.tup ⟨Weak.agg hz, .refl _, trivial⟩
  | true =>
    simp only [h5, Bool.true_eq_false, or_self, if_false]
    simp only [Dcl.pv] at c1
    by_cases h2 : kind = 2
    · subst h2
      simp only [if_true] at c4 hw ⊢
      cases b2 with
      | true =>
        simp only [if_true]
        repeat' (first | ((with_reducible first | refine wA (by omega) ?_ | refine wB (by omega) ?_ | refine wC (by omega) ?_ | refine wD (by omega) ?_ | refine wE ?_ ?_ | refine wF ?_ ?_ | refine wG ?_ ?_ | refine wH ?_ ?_ | refine wI ?_ ?_ | refine wJ ?_ ?_ | refine wK ?_ ?_ | refine wL ?_ ?_) <;> intro _) | (((with_reducible refine call_id ?_); (first | (refine call_pure (c1) ?_) | (refine call_pure (c2) ?_) | (refine call_pure (c3) ?_) | (refine call_pure (c4) ?_)))) | simp (maxSteps := 1000000) (disch := omega) only [go_sem, Nat.reduceAdd, Nat.reduceMul, Nat.reduceSub, Nat.reduceLeDiff, Nat.reduceEqDiff, Nat.reduceBEq, ↓reduceIte, reduceCtorEq, Int.reduceEq, Int.reduceLE, Int.reduceLT, Int.reduceAdd, Int.reduceSub, Int.reduceNeg, Int.reduceToNat, Int.reduceNe, Nat.reducePow, Nat.reduceShiftRight, Nat.reduceMod, mc_decl_Plain, Dcl.pv, tm_t12, tm_t7, tm_t10, tm_t15, tm_t16, tm_t11, List.all_append, PV.one, *])
        refine fin_ret (r0 := .tup [.agg (PV.sc (.int .i64 2) :: .sc (.int .i64 params) :: .sc (.string name) :: (typ.pv ++ (val.pv ++ [.sc (.int .i64 h), .sc (.string ⟨#[]⟩), .sc (.int .i64 0), .sc (.int .i64 0), .sc (.int .i64 0), .sc (.slice none 0 0)]))), .sc (.int .i64 0)]) 0 (by (simp (disch := omega) only [go_sem, Nat.reduceMul, Nat.reduceSub, Nat.reduceShiftRight, Nat.reduceMod, Nat.reduceEqDiff, Nat.reduceAdd, ↓reduceIte, Nat.reduceLeDiff, tm_t16, tm_t11, *]); all_goals rfl) ?_
        exact Weak.tup ⟨Weak.agg hw, .refl _, trivial⟩
      | false =>
        simp only [Bool.false_eq_true, if_false]
        repeat' (first | ((with_reducible first | refine wA (by omega) ?_ | refine wB (by omega) ?_ | refine wC (by omega) ?_ | refine wD (by omega) ?_ | refine wE ?_ ?_ | refine wF ?_ ?_ | refine wG ?_ ?_ | refine wH ?_ ?_ | refine wI ?_ ?_ | refine wJ ?_ ?_ | refine wK ?_ ?_ | refine wL ?_ ?_) <;> intro _) | (((with_reducible refine call_id ?_); (first | (refine call_pure (c1) ?_) | (refine call_pure (c2) ?_) | (refine call_pure (c3) ?_) | (refine call_pure (c4) ?_)))) | simp (maxSteps := 1000000) (disch := omega) only [go_sem, Nat.reduceAdd, Nat.reduceMul, Nat.reduceSub, Nat.reduceLeDiff, Nat.reduceEqDiff, Nat.reduceBEq, ↓reduceIte, reduceCtorEq, Int.reduceEq, Int.reduceLE, Int.reduceLT, Int.reduceAdd, Int.reduceSub, Int.reduceNeg, Int.reduceToNat, Int.reduceNe, Nat.reducePow, Nat.reduceShiftRight, Nat.reduceMod, mc_decl_Plain, Dcl.pv, tm_t12, tm_t7, tm_t10, tm_t15, tm_t16, tm_t11, List.all_append, PV.one, *])
        refine fin_ret (r0 := .tup [.agg [.sc (.int .i64 0), .sc (.int .i64 0), .sc (.string ⟨#[]⟩), .sc (.int .i64 0), .sc (.int .i64 0), .sc (.string ⟨#[]⟩), .sc (.slice none 0 0), .sc (.slice none 0 0), .sc (.int .i64 0), .sc (.int .i64 0), .sc (.string ⟨#[]⟩), .sc (.slice none 0 0), .sc (.slice none 0 0), .sc (.int .i64 0), .sc (.string ⟨#[]⟩), .sc (.int .i64 0), .sc (.int .i64 0), .sc (.int .i64 0), .sc (.slice none 0 0)], .sc (.int .i64 12)]) 0 cE2 ?_
        exact Weak.tup ⟨Weak.agg hz, .refl _, trivial⟩
    · simp only [h2, if_false] at c4 hw ⊢
      cases b2 with
      | true =>
        simp only [if_true]
        repeat' (first | ((with_reducible first | refine wA (by omega) ?_ | refine wB (by omega) ?_ | refine wC (by omega) ?_ | refine wD (by omega) ?_ | refine wE ?_ ?_ | refine wF ?_ ?_ | refine wG ?_ ?_ | refine wH ?_ ?_ | refine wI ?_ ?_ | refine wJ ?_ ?_ | refine wK ?_ ?_ | refine wL ?_ ?_) <;> intro _) | (((with_reducible refine call_id ?_); (first | (refine call_pure (c1) ?_) | (refine call_pure (c2) ?_) | (refine call_pure (c3) ?_) | (refine call_pure (c4) ?_)))) | simp (maxSteps := 1000000) (disch := omega) only [go_sem, Nat.reduceAdd, Nat.reduceMul, Nat.reduceSub, Nat.reduceLeDiff, Nat.reduceEqDiff, Nat.reduceBEq, ↓reduceIte, reduceCtorEq, Int.reduceEq, Int.reduceLE, Int.reduceLT, Int.reduceAdd, Int.reduceSub, Int.reduceNeg, Int.reduceToNat, Int.reduceNe, Nat.reducePow, Nat.reduceShiftRight, Nat.reduceMod, mc_decl_Plain, Dcl.pv, tm_t12, tm_t7, tm_t10, tm_t15, tm_t16, tm_t11, List.all_append, PV.one, *])
        refine fin_ret (r0 := .tup [.agg (PV.sc (.int .i64 kind) :: .sc (.int .i64 params) :: .sc (.string name) :: (typ.pv ++ (val.pv ++ [.sc (.int .i64 0), .sc (.string ⟨#[]⟩), .sc (.int .i64 0), .sc (.int .i64 0), .sc (.int .i64 0), .sc (.slice none 0 0)]))), .sc (.int .i64 0)]) 0 (by (simp (disch := omega) only [go_sem, Nat.reduceMul, Nat.reduceSub, Nat.reduceShiftRight, Nat.reduceMod, Nat.reduceEqDiff, Nat.reduceAdd, ↓reduceIte, Nat.reduceLeDiff, tm_t16, tm_t11, *]); all_goals rfl) ?_
        exact Weak.tup ⟨Weak.agg hw, .refl _, trivial⟩
      | false =>
        simp only [Bool.false_eq_true, if_false]
        repeat' (first | ((with_reducible first | refine wA (by omega) ?_ | refine wB (by omega) ?_ | refine wC (by omega) ?_ | refine wD (by omega) ?_ | refine wE ?_ ?_ | refine wF ?_ ?_ | refine wG ?_ ?_ | refine wH ?_ ?_ | refine wI ?_ ?_ | refine wJ ?_ ?_ | refine wK ?_ ?_ | refine wL ?_ ?_) <;> intro _) | (((with_reducible refine call_id ?_); (first | (refine call_pure (c1) ?_) | (refine call_pure (c2) ?_) | (refine call_pure (c3) ?_) | (refine call_pure (c4) ?_)))) | simp (maxSteps := 1000000) (disch := omega) only [go_sem, Nat.reduceAdd, Nat.reduceMul, Nat.reduceSub, Nat.reduceLeDiff, Nat.reduceEqDiff, Nat.reduceBEq, ↓reduceIte, reduceCtorEq, Int.reduceEq, Int.reduceLE, Int.reduceLT, Int.reduceAdd, Int.reduceSub, Int.reduceNeg, Int.reduceToNat, Int.reduceNe, Nat.reducePow, Nat.reduceShiftRight, Nat.reduceMod, mc_decl_Plain, Dcl.pv, tm_t12, tm_t7, tm_t10, tm_t15, tm_t16, tm_t11, List.all_append, PV.one, *])
        refine fin_ret (r0 := .tup [.agg [.sc (.int .i64 0), .sc (.int .i64 0), .sc (.string ⟨#[]⟩), .sc (.int .i64 0), .sc (.int .i64 0), .sc (.string ⟨#[]⟩), .sc (.slice none 0 0), .sc (.slice none 0 0), .sc (.int .i64 0), .sc (.int .i64 0), .sc (.string ⟨#[]⟩), .sc (.slice none 0 0), .sc (.slice none 0 0), .sc (.int .i64 0), .sc (.string ⟨#[]⟩), .sc (.int .i64 0), .sc (.int .i64 0), .sc (.int .i64 0), .sc (.slice none 0 0)], .sc (.int .i64 12)]) 0 cE2 ?_
        exact Weak.tup ⟨Weak.agg hz, .refl _, trivial⟩
end
section
set_option maxRecDepth 20000
attribute [local go_sem] pv_len pv_take Nat.add_assoc tm_len tm_take pv_one tm_one id_ne id_ne' id_ne2 List.append_assoc tm_take_app tm_drop_app tm_d6 tm_d7 tm_d8 tm_d9 tm_d10 tm_d11 tm_d12 tm_d13 tm_d14 tm_d15 ent_len ent_take ent_one tpvB_len tpvB_take tpvB_one
def massC : List Ctr → Nat
  | [] => 0
  | c :: r => c.typ.mass + c.name.size / 16 + massC r
def fitsC : List Ctr → Prop
  | [] => True
  | c :: r => (c.name.size ≤ 9223372036854775807 ∧ c.typ.fits) ∧ fitsC r
def Dcl.mass (d : Dcl) : Nat := d.typ.mass + (d.val.mass + (d.name.size / 16 + massC d.ctors))
def Dcl.fits (d : Dcl) : Prop := d.name.size ≤ 9223372036854775807 ∧ d.typ.fits ∧ d.val.fits ∧ fitsC d.ctors
def Dcl.great (d : Dcl) : Bool := decide (20 < d.ctors.length ∨ 4000 < d.mass)
end
section
set_option maxRecDepth 20000
attribute [local go_sem] pv_len pv_take Nat.add_assoc tm_len tm_take pv_one tm_one id_ne id_ne' id_ne2 List.append_assoc tm_take_app tm_drop_app tm_d6 tm_d7 tm_d8 tm_d9 tm_d10 tm_d11 tm_d12 tm_d13 tm_d14 tm_d15 ent_len ent_take ent_one optC_len optC_take optC_one
def lenW : Int → List ByteArray → Int
  | v, [] => v
  | v, s :: r => if v ≤ 500 then lenW (IntKind.i64.wrap (v + IntKind.i64.wrap (1 + (s.size : Int)))) r else v
def lens5 (names : List ByteArray) : Int := if 500 < names.length then 501 else lenW 0 names
set_option maxHeartbeats 16000000 in
theorem Lengths5_p (names : List ByteArray) : PPure Try.prog F.ref00_Lengths [.sl 1 (names.map txt), .sc (.int .i64 500)] (.sc (.int .i64 (lens5 names))) := by
  refine pure_by is_ref00_Lengths (by simp) rfl fun hb nx => ?_
  have hb0 : names.length ≤ 9223372036854775807 := by simp [bndL, PV.bnd] at hb; exact hb.1
  clear hb
  unfold lens5
  by_cases h : 500 < names.length
  · rw [if_pos h]
    repeat' (first | ((with_reducible first | refine wA (by omega) ?_ | refine wB (by omega) ?_ | refine wC (by omega) ?_ | refine wD (by omega) ?_ | refine wE ?_ ?_ | refine wF ?_ ?_ | refine wG ?_ ?_ | refine wH ?_ ?_ | refine wI ?_ ?_ | refine wJ ?_ ?_ | refine wK ?_ ?_ | refine wL ?_ ?_) <;> intro _) | simp (maxSteps := 1000000) (disch := omega) only [go_sem, Nat.reduceAdd, Nat.reduceMul, Nat.reduceSub, Nat.reduceLeDiff, Nat.reduceEqDiff, Nat.reduceBEq, ↓reduceIte, reduceCtorEq, Int.reduceEq, Int.reduceLE, Int.reduceLT, Int.reduceAdd, Int.reduceSub, Int.reduceNeg, Int.reduceToNat, Int.reduceNe, Nat.reducePow, Nat.reduceShiftRight, Nat.reduceMod, mc_ref00_Lengths, *])
    all_goals (exact fin_tmp (.inr rfl) cE3)
  rw [if_neg h]
  repeat' (first | ((with_reducible first | refine wA (by omega) ?_ | refine wB (by omega) ?_ | refine wC (by omega) ?_ | refine wD (by omega) ?_ | refine wE ?_ ?_ | refine wF ?_ ?_ | refine wG ?_ ?_ | refine wH ?_ ?_ | refine wI ?_ ?_ | refine wJ ?_ ?_ | refine wK ?_ ?_ | refine wL ?_ ?_) <;> intro _) | simp (maxSteps := 1000000) (disch := omega) only [go_sem, Nat.reduceAdd, Nat.reduceMul, Nat.reduceSub, Nat.reduceLeDiff, Nat.reduceEqDiff, Nat.reduceBEq, ↓reduceIte, reduceCtorEq, Int.reduceEq, Int.reduceLE, Int.reduceLT, Int.reduceAdd, Int.reduceSub, Int.reduceNeg, Int.reduceToNat, Int.reduceNe, Nat.reducePow, Nat.reduceShiftRight, Nat.reduceMod, mc_ref00_Lengths, *])
  refine c_loopW 4294959200 (by kernel_rfl) (fun j f H m => ∃ (i : Nat) (v : Int), j = names.length - i ∧ i ≤ names.length ∧ f 6 = .sc (.int .i64 i) ∧ f 5 = .sc (.int .i64 v) ∧ Kept (lenW v (names.drop i) = lenW 0 names)) _ ⟨0, 0, rfl, Nat.zero_le _, cE1, cE1, Kept.mk rfl⟩ ?_
  rintro _ f H m ⟨i, v, rfl, hi, e6, e5, hv⟩
  by_cases hlt : i < names.length
  · have eg : names[i]? = some names[i] := List.getElem?_eq_getElem hlt
    have hv2 := hv.out
    rw [List.drop_eq_getElem_cons hlt, lenW] at hv2
    by_cases hle : v ≤ 500
    · rw [if_pos hle] at hv2
      have hvk := Kept.mk hv2
      clear hv hv2
      repeat' (first | ((with_reducible first | refine wA (by omega) ?_ | refine wB (by omega) ?_ | refine wC (by omega) ?_ | refine wD (by omega) ?_ | refine wE ?_ ?_ | refine wF ?_ ?_ | refine wG ?_ ?_ | refine wH ?_ ?_ | refine wI ?_ ?_ | refine wJ ?_ ?_ | refine wK ?_ ?_ | refine wL ?_ ?_) <;> intro _) | simp (maxSteps := 1000000) (disch := omega) only [go_sem, Nat.reduceAdd, Nat.reduceMul, Nat.reduceSub, Nat.reduceLeDiff, Nat.reduceEqDiff, Nat.reduceBEq, ↓reduceIte, reduceCtorEq, Int.reduceEq, Int.reduceLE, Int.reduceLT, Int.reduceAdd, Int.reduceSub, Int.reduceNeg, Int.reduceToNat, Int.reduceNe, Nat.reducePow, Nat.reduceShiftRight, Nat.reduceMod, txt, *])
      exact Nx.mk (names.length - (i + 1)) cE1 ⟨i + 1, IntKind.i64.wrap (v + IntKind.i64.wrap (1 + (names[i].size : Int))), rfl, cE1, by simp [upd], by simp [upd], hvk⟩
    · rw [if_neg hle] at hv2
      rw [← hv2]
      clear hv hv2
      repeat' (first | ((with_reducible first | refine wA (by omega) ?_ | refine wB (by omega) ?_ | refine wC (by omega) ?_ | refine wD (by omega) ?_ | refine wE ?_ ?_ | refine wF ?_ ?_ | refine wG ?_ ?_ | refine wH ?_ ?_ | refine wI ?_ ?_ | refine wJ ?_ ?_ | refine wK ?_ ?_ | refine wL ?_ ?_) <;> intro _) | simp (maxSteps := 1000000) (disch := omega) only [go_sem, Nat.reduceAdd, Nat.reduceMul, Nat.reduceSub, Nat.reduceLeDiff, Nat.reduceEqDiff, Nat.reduceBEq, ↓reduceIte, reduceCtorEq, Int.reduceEq, Int.reduceLE, Int.reduceLT, Int.reduceAdd, Int.reduceSub, Int.reduceNeg, Int.reduceToNat, Int.reduceNe, Nat.reducePow, Nat.reduceShiftRight, Nat.reduceMod, *])
      all_goals (exact fin_tmp (.inr rfl) cE3)
  · obtain rfl : i = names.length := by omega
    have hv2 := hv.out
    rw [List.drop_length, lenW] at hv2
    rw [← hv2]
    clear hv hv2
    repeat' (first | ((with_reducible first | refine wA (by omega) ?_ | refine wB (by omega) ?_ | refine wC (by omega) ?_ | refine wD (by omega) ?_ | refine wE ?_ ?_ | refine wF ?_ ?_ | refine wG ?_ ?_ | refine wH ?_ ?_ | refine wI ?_ ?_ | refine wJ ?_ ?_ | refine wK ?_ ?_ | refine wL ?_ ?_) <;> intro _) | simp (maxSteps := 1000000) (disch := omega) only [go_sem, Nat.reduceAdd, Nat.reduceMul, Nat.reduceSub, Nat.reduceLeDiff, Nat.reduceEqDiff, Nat.reduceBEq, ↓reduceIte, reduceCtorEq, Int.reduceEq, Int.reduceLE, Int.reduceLT, Int.reduceAdd, Int.reduceSub, Int.reduceNeg, Int.reduceToNat, Int.reduceNe, Nat.reducePow, Nat.reduceShiftRight, Nat.reduceMod, *])
    all_goals (exact fin_tmp (.inr rfl) cE3)
def Ent.great (e : Ent) : Bool := decide (20 < e.ctors.length ∨ 500 < e.name.size ∨ 2500 < e.typ.mass ∨ 2500 < e.val.mass ∨ 500 < lens5 e.ctors)
set_option maxHeartbeats 8000000 in
theorem great11_p (e : Ent) (h1 : e.typ.fits) (h2 : e.val.fits) : PPure Try.prog F.law11_Great [.agg e.pv] (.sc (.bool e.great)) := by
  obtain ⟨kind, params, name, typ, val, height, family, fixed, index, fields, ctors⟩ := e
  refine pure_by is_law11_Great (by simp) rfl fun hb nx => ?_
  clear hb
  have c1 := Mass_p 2500 (by omega) typ.size typ (Nat.le_refl _) h1
  have c2 := Mass_p 2500 (by omega) val.size val (Nat.le_refl _) h2
  have c3 := Lengths5_p ctors
  simp only [Ent.great]
  clear h1 h2
  by_cases g1 : 20 < ctors.length
  · rw [decide_eq_true (.inl g1)]
    repeat' (first | ((with_reducible first | refine wA (by omega) ?_ | refine wB (by omega) ?_ | refine wC (by omega) ?_ | refine wD (by omega) ?_ | refine wE ?_ ?_ | refine wF ?_ ?_ | refine wG ?_ ?_ | refine wH ?_ ?_ | refine wI ?_ ?_ | refine wJ ?_ ?_ | refine wK ?_ ?_ | refine wL ?_ ?_) <;> intro _) | simp (maxSteps := 1000000) (disch := omega) only [go_sem, Nat.reduceAdd, Nat.reduceMul, Nat.reduceSub, Nat.reduceLeDiff, Nat.reduceEqDiff, Nat.reduceBEq, ↓reduceIte, reduceCtorEq, Int.reduceEq, Int.reduceLE, Int.reduceLT, Int.reduceAdd, Int.reduceSub, Int.reduceNeg, Int.reduceToNat, Int.reduceNe, Nat.reducePow, Nat.reduceShiftRight, Nat.reduceMod, mc_law11_Great, Ent.pv, *])
    all_goals (exact fin_tmp (.inr rfl) cE3)
  by_cases g2 : 500 < name.size
  · rw [decide_eq_true (.inr (.inl g2))]
    repeat' (first | ((with_reducible first | refine wA (by omega) ?_ | refine wB (by omega) ?_ | refine wC (by omega) ?_ | refine wD (by omega) ?_ | refine wE ?_ ?_ | refine wF ?_ ?_ | refine wG ?_ ?_ | refine wH ?_ ?_ | refine wI ?_ ?_ | refine wJ ?_ ?_ | refine wK ?_ ?_ | refine wL ?_ ?_) <;> intro _) | simp (maxSteps := 1000000) (disch := omega) only [go_sem, Nat.reduceAdd, Nat.reduceMul, Nat.reduceSub, Nat.reduceLeDiff, Nat.reduceEqDiff, Nat.reduceBEq, ↓reduceIte, reduceCtorEq, Int.reduceEq, Int.reduceLE, Int.reduceLT, Int.reduceAdd, Int.reduceSub, Int.reduceNeg, Int.reduceToNat, Int.reduceNe, Nat.reducePow, Nat.reduceShiftRight, Nat.reduceMod, mc_law11_Great, Ent.pv, *])
    all_goals (exact fin_tmp (.inr rfl) cE3)
  by_cases g3 : 2500 < typ.mass
  · rw [decide_eq_true (.inr (.inr (.inl g3)))]
    rw [show min typ.mass (2500 + 1) = 2501 by omega] at c1
    repeat' (first | ((with_reducible first | refine wA (by omega) ?_ | refine wB (by omega) ?_ | refine wC (by omega) ?_ | refine wD (by omega) ?_ | refine wE ?_ ?_ | refine wF ?_ ?_ | refine wG ?_ ?_ | refine wH ?_ ?_ | refine wI ?_ ?_ | refine wJ ?_ ?_ | refine wK ?_ ?_ | refine wL ?_ ?_) <;> intro _) | (((with_reducible refine call_id ?_); (first | (refine call_pure (c1) ?_)))) | simp (maxSteps := 1000000) (disch := omega) only [go_sem, Nat.reduceAdd, Nat.reduceMul, Nat.reduceSub, Nat.reduceLeDiff, Nat.reduceEqDiff, Nat.reduceBEq, ↓reduceIte, reduceCtorEq, Int.reduceEq, Int.reduceLE, Int.reduceLT, Int.reduceAdd, Int.reduceSub, Int.reduceNeg, Int.reduceToNat, Int.reduceNe, Nat.reducePow, Nat.reduceShiftRight, Nat.reduceMod, mc_law11_Great, Ent.pv, *])
    all_goals (exact fin_tmp (.inr rfl) cE3)
  rw [show min typ.mass (2500 + 1) = typ.mass by omega] at c1
  by_cases g4 : 2500 < val.mass
  · rw [decide_eq_true (.inr (.inr (.inr (.inl g4))))]
    rw [show min val.mass (2500 + 1) = 2501 by omega] at c2
    repeat' (first | ((with_reducible first | refine wA (by omega) ?_ | refine wB (by omega) ?_ | refine wC (by omega) ?_ | refine wD (by omega) ?_ | refine wE ?_ ?_ | refine wF ?_ ?_ | refine wG ?_ ?_ | refine wH ?_ ?_ | refine wI ?_ ?_ | refine wJ ?_ ?_ | refine wK ?_ ?_ | refine wL ?_ ?_) <;> intro _) | (((with_reducible refine call_id ?_); (first | (refine call_pure (c1) ?_) | (refine call_pure (c2) ?_)))) | simp (maxSteps := 1000000) (disch := omega) only [go_sem, Nat.reduceAdd, Nat.reduceMul, Nat.reduceSub, Nat.reduceLeDiff, Nat.reduceEqDiff, Nat.reduceBEq, ↓reduceIte, reduceCtorEq, Int.reduceEq, Int.reduceLE, Int.reduceLT, Int.reduceAdd, Int.reduceSub, Int.reduceNeg, Int.reduceToNat, Int.reduceNe, Nat.reducePow, Nat.reduceShiftRight, Nat.reduceMod, mc_law11_Great, Ent.pv, *])
    all_goals (exact fin_tmp (.inr rfl) cE3)
  rw [show min val.mass (2500 + 1) = val.mass by omega] at c2
  by_cases g5 : 500 < lens5 ctors
  · rw [decide_eq_true (.inr (.inr (.inr (.inr g5))))]
    repeat' (first | ((with_reducible first | refine wA (by omega) ?_ | refine wB (by omega) ?_ | refine wC (by omega) ?_ | refine wD (by omega) ?_ | refine wE ?_ ?_ | refine wF ?_ ?_ | refine wG ?_ ?_ | refine wH ?_ ?_ | refine wI ?_ ?_ | refine wJ ?_ ?_ | refine wK ?_ ?_ | refine wL ?_ ?_) <;> intro _) | (((with_reducible refine call_id ?_); (first | (refine call_pure (c1) ?_) | (refine call_pure (c2) ?_) | (refine call_pure (c3) ?_)))) | simp (maxSteps := 1000000) (disch := omega) only [go_sem, Nat.reduceAdd, Nat.reduceMul, Nat.reduceSub, Nat.reduceLeDiff, Nat.reduceEqDiff, Nat.reduceBEq, ↓reduceIte, reduceCtorEq, Int.reduceEq, Int.reduceLE, Int.reduceLT, Int.reduceAdd, Int.reduceSub, Int.reduceNeg, Int.reduceToNat, Int.reduceNe, Nat.reducePow, Nat.reduceShiftRight, Nat.reduceMod, mc_law11_Great, Ent.pv, *])
    all_goals (exact fin_tmp (.inr rfl) cE3)
  · rw [decide_eq_false (by omega)]
    repeat' (first | ((with_reducible first | refine wA (by omega) ?_ | refine wB (by omega) ?_ | refine wC (by omega) ?_ | refine wD (by omega) ?_ | refine wE ?_ ?_ | refine wF ?_ ?_ | refine wG ?_ ?_ | refine wH ?_ ?_ | refine wI ?_ ?_ | refine wJ ?_ ?_ | refine wK ?_ ?_ | refine wL ?_ ?_) <;> intro _) | (((with_reducible refine call_id ?_); (first | (refine call_pure (c1) ?_) | (refine call_pure (c2) ?_) | (refine call_pure (c3) ?_)))) | simp (maxSteps := 1000000) (disch := omega) only [go_sem, Nat.reduceAdd, Nat.reduceMul, Nat.reduceSub, Nat.reduceLeDiff, Nat.reduceEqDiff, Nat.reduceBEq, ↓reduceIte, reduceCtorEq, Int.reduceEq, Int.reduceLE, Int.reduceLT, Int.reduceAdd, Int.reduceSub, Int.reduceNeg, Int.reduceToNat, Int.reduceNe, Nat.reducePow, Nat.reduceShiftRight, Nat.reduceMod, mc_law11_Great, Ent.pv, *])
    all_goals (exact fin_tmp (.inr rfl) cE3)
end
section
set_option maxRecDepth 20000
attribute [local go_sem] pv_len pv_take Nat.add_assoc tm_len tm_take pv_one tm_one id_ne id_ne' id_ne2 List.append_assoc tm_take_app tm_drop_app tm_d6 tm_d7 tm_d8 tm_d9 tm_d10 tm_d11 tm_d12 tm_d13 tm_d14 tm_d15 ent_len ent_take ent_one tpvB_len tpvB_take tpvB_one optC_len optC_take optC_one
theorem bq1 (b : Bool) : (b == true) = b := by cases b <;> rfl
theorem bq2 (b : Bool) : (b == false) = !b := by cases b <;> rfl
end
section
def aS : Tm := .mk 2 0 emp [.mk 2 0 []] []
def aN (n : Int) : Tm := .mk 2 0 emp [.mk 1 n []] []
def aD1 : Dcl := ⟨1, 1, ⟨#[97]⟩, aS, noTm, 0, []⟩
def aD2 : Dcl := ⟨2, 0, ⟨#[100]⟩, aN 1, aN 0, 0, []⟩
def aE1 : Ent := ⟨1, 1, ⟨#[97]⟩, aS, noTm, 0, emp, 0, 0, 0, []⟩
def aE2 : Ent := ⟨2, 0, ⟨#[100]⟩, aN 1, aN 0, 2, emp, 0, 0, 0, []⟩
theorem a_ent1 : aE1.right = true := by kernel_rfl
theorem a_ent2 : aE2.right = true := by kernel_rfl
theorem a_dcl1 : aD1.formed = true := by kernel_rfl
theorem a_dcl2 : aD2.formed = true := by kernel_rfl
theorem a_pl1 : aD1.plainE 0 = aE1 ∧ aD1.plainN 0 = 0 := by
  have h : aD1.ent 0 = aE1 := rfl
  simp only [Dcl.plainE, Dcl.plainN, h, a_dcl1, a_ent1]
  exact ⟨rfl, rfl⟩
theorem a_ty1 : typeR aE1 [.mk 1 3 []] = (some (aN 3), 0) := by kernel_rfl
end
section
set_option maxRecDepth 20000
attribute [local go_sem] pv_len pv_take Nat.add_assoc tm_len tm_take pv_one tm_one id_ne id_ne' id_ne2 List.append_assoc tm_take_app tm_drop_app tm_d6 tm_d7 tm_d8 tm_d9 tm_d10 tm_d11 tm_d12 tm_d13 tm_d14 tm_d15 ent_len ent_take ent_one tpvB_len tpvB_take tpvB_one optC_len optC_take optC_one
theorem a_pl2 : aD2.plainE 2 = aE2 ∧ aD2.plainN 2 = 0 := by
  have h : aD2.ent 2 = aE2 := rfl
  simp only [Dcl.plainE, Dcl.plainN, h, a_dcl2, a_ent2]
  exact ⟨rfl, rfl⟩
theorem a_ty2 : typeR aE1 [] = (none, 16) := by kernel_rfl
theorem a_va1 : eValR aE1 [.mk 1 3 []] = (none, 13) := by kernel_rfl
theorem a_va2 : eValR aE2 [] = (some (aN 0), 0) := by kernel_rfl
theorem a_s3 : (aN 3).same (aN 3) = true := by kernel_rfl
theorem a_s0 : (aN 0).same (aN 0) = true := by kernel_rfl
theorem a_s2 : aE2.same aE2 = true := by kernel_rfl
theorem a_ne : aE1.numE aE2 = false := by kernel_rfl
theorem eSame_ne (a b : Ent) (h : a.numE b = false) : PPure Try.prog F.decl_Same [.agg a.pv, .agg b.pv] (.sc (.bool false)) := by
  refine pure_by is_decl_Same (by simp) rfl fun hb nx => ?_
  clear hb
  have c1 := numbers_p false a
  have c2 := numbers_p false b
  rw [entB_false] at c1 c2
  simp only [Ent.numE] at h
  obtain ⟨kind, params, name, typ, val, height, family, fixed, index, fields, ctors⟩ := a
  obtain ⟨kind2, params2, name2, typ2, val2, height2, family2, fixed2, index2, fields2, ctors2⟩ := b
  simp only [Ent.pv] at c1 c2 h ⊢
  repeat' (first | ((with_reducible first | refine wA (by omega) ?_ | refine wB (by omega) ?_ | refine wC (by omega) ?_ | refine wD (by omega) ?_ | refine wE ?_ ?_ | refine wF ?_ ?_ | refine wG ?_ ?_ | refine wH ?_ ?_ | refine wI ?_ ?_ | refine wJ ?_ ?_ | refine wK ?_ ?_ | refine wL ?_ ?_) <;> intro _) | (((with_reducible refine call_id ?_); (first | (refine call_pure (c1) ?_) | (refine call_pure (c2) ?_)))) | simp (maxSteps := 1000000) (disch := omega) only [go_sem, Nat.reduceAdd, Nat.reduceMul, Nat.reduceSub, Nat.reduceLeDiff, Nat.reduceEqDiff, Nat.reduceBEq, ↓reduceIte, reduceCtorEq, Int.reduceEq, Int.reduceLE, Int.reduceLT, Int.reduceAdd, Int.reduceSub, Int.reduceNeg, Int.reduceToNat, Int.reduceNe, Nat.reducePow, Nat.reduceShiftRight, Nat.reduceMod, mc_decl_Same, h, *])
  all_goals (exact fin_tmp (.inr rfl) cE3)
theorem entF_weak (e : Ent) : WeakL e.pvF (e.pvB true) :=
  ⟨.refl _, .refl _, .refl _, WeakL.append (.refl _) (WeakL.append (.refl _) ⟨.refl _, .refl _, .refl _, .refl _, .refl _, .fsl 1 _, trivial⟩)⟩
end
section
set_option maxRecDepth 20000
attribute [local go_sem] pv_len pv_take Nat.add_assoc tm_len tm_take pv_one tm_one id_ne id_ne' id_ne2 List.append_assoc tm_take_app tm_drop_app tm_d6 tm_d7 tm_d8 tm_d9 tm_d10 tm_d11 tm_d12 tm_d13 tm_d14 tm_d15 ent_len ent_take ent_one tpvB_len tpvB_take tpvB_one optC_len optC_take optC_one
theorem a_lv2 : WeakL [PV.sc (.int .i64 2), .sc (.int .i64 0), .sc (.slice none 0 0)] (Lv.mk 2 0 []).pv := by
  simp only [Lv.pv, List.map_nil]
  exact ⟨.refl _, .refl _, .nil 3, trivial⟩
theorem a_d1 : WeakL (PV.sc (.int .i64 1) :: .sc (.int .i64 1) :: .sc (.string ⟨#[97]⟩) :: (aS.pv ++ [.sc (.int .i64 0), .sc (.int .i64 0), .sc (.string ⟨#[]⟩), .sc (.slice none 0 0), .sc (.slice none 0 0), .sc (.int .i64 0), .sc (.slice none 0 0)])) aD1.pv := by
  have e : aD1.pv = PV.sc (.int .i64 1) :: .sc (.int .i64 1) :: .sc (.string ⟨#[97]⟩) :: (aS.pv ++ [.sc (.int .i64 0), .sc (.int .i64 0), .sc (.string ⟨#[]⟩), .sl 3 [], .sl 5 [], .sc (.int .i64 0), .sl 6 []]) := by simp [Dcl.pv, aD1, noTm, Tm.pv]
  rw [e]
  exact ⟨.refl _, .refl _, .refl _, WeakL.append (.refl _) ⟨.refl _, .refl _, .refl _, .nil 3, .nil 5, .refl _, .nil 6, trivial⟩⟩
theorem a_d2 : WeakL (PV.sc (.int .i64 2) :: .sc (.int .i64 0) :: .sc (.string ⟨#[100]⟩) :: ((aN 1).pv ++ ((aN 0).pv ++ [.sc (.int .i64 0), .sc (.slice none 0 0)]))) aD2.pv := by
  have e : aD2.pv = PV.sc (.int .i64 2) :: .sc (.int .i64 0) :: .sc (.string ⟨#[100]⟩) :: ((aN 1).pv ++ ((aN 0).pv ++ [.sc (.int .i64 0), .sl 6 []])) := by simp [Dcl.pv, aD2]
  rw [e]
  exact ⟨.refl _, .refl _, .refl _, WeakL.append (.refl _) (WeakL.append (.refl _) ⟨.refl _, .nil 6, trivial⟩)⟩
set_option maxHeartbeats 16000000 in
theorem alive11_p : PPure Try.prog F.law11_alive [] (.sc (.bool true)) := by
  have c0 : PPure Try.prog F.law11_sort [.agg [.sc (.int .i64 2), .sc (.int .i64 0), .sc (.slice none 0 0)]] (.agg aS.pv) :=
    (sort11_p (.mk 2 0 [])).weak (args' := [.agg [.sc (.int .i64 2), .sc (.int .i64 0), .sc (.slice none 0 0)]]) ⟨Weak.agg a_lv2, trivial⟩ (.refl _)
  have c1 : PPure Try.prog F.decl_Plain [.agg (PV.sc (.int .i64 1) :: .sc (.int .i64 1) :: .sc (.string ⟨#[97]⟩) :: (aS.pv ++ [.sc (.int .i64 0), .sc (.int .i64 0), .sc (.string ⟨#[]⟩), .sc (.slice none 0 0), .sc (.slice none 0 0), .sc (.int .i64 0), .sc (.slice none 0 0)])), .sc (.int .i64 0)] (.tup [.agg aE1.pv, .sc (.int .i64 0)]) := by
    have h := Plain_p aD1 0 (by decide) (by decide)
    rw [a_pl1.1, a_pl1.2] at h
    exact h.weak ⟨Weak.agg a_d1, .refl _, trivial⟩ (.refl _)
  have c2 := num11_p 3
  have c3 : PPure Try.prog F.decl_Type [.agg aE1.pv, .sl 3 [(Lv.mk 1 3 []).pv]] (.tup [.agg (aN 3).pv, .sc (.int .i64 0)]) := by
    have h := Type_p aE1 [.mk 1 3 []]
    rw [a_ty1] at h
    exact h
  have c4 : PPure Try.prog F.decl_Type [.agg aE1.pv, .sc (.slice none 0 0)] (.tup [.agg [.sc (.int .i64 0), .sc (.int .i64 0), .sc (.string ⟨#[]⟩), .sc (.slice none 0 0), .sc (.slice none 0 0)], .sc (.int .i64 16)]) := by
    have h := Type_p aE1 []
    rw [a_ty2] at h
    exact h.weak ⟨.refl _, .nil 3, trivial⟩ (.refl _)
  have c5 : PPure Try.prog F.decl_Value [.agg aE1.pv, .sl 3 [(Lv.mk 1 3 []).pv]] (.tup [.agg [.sc (.int .i64 0), .sc (.int .i64 0), .sc (.string ⟨#[]⟩), .sc (.slice none 0 0), .sc (.slice none 0 0)], .sc (.int .i64 13)]) := by
    have h := eValue_p aE1 [.mk 1 3 []]
    rw [a_va1] at h
    exact h
  have c6 := num11_p 1
  have c7 := num11_p 0
  have c8 : PPure Try.prog F.law11_sort [.agg (Lv.mk 1 1 []).pv] (.agg (aN 1).pv) := sort11_p (.mk 1 1 [])
  have c9 : PPure Try.prog F.law11_sort [.agg (Lv.mk 1 0 []).pv] (.agg (aN 0).pv) := sort11_p (.mk 1 0 [])
  have c10 : PPure Try.prog F.law11_sort [.agg (Lv.mk 1 3 []).pv] (.agg (aN 3).pv) := sort11_p (.mk 1 3 [])
  have c11 : PPure Try.prog F.decl_Plain [.agg (PV.sc (.int .i64 2) :: .sc (.int .i64 0) :: .sc (.string ⟨#[100]⟩) :: ((aN 1).pv ++ ((aN 0).pv ++ [.sc (.int .i64 0), .sc (.slice none 0 0)]))), .sc (.int .i64 2)] (.tup [.agg aE2.pv, .sc (.int .i64 0)]) := by
    have h := Plain_p aD2 2 (by decide) (by decide)
    rw [a_pl2.1, a_pl2.2] at h
    exact h.weak ⟨Weak.agg a_d2, .refl _, trivial⟩ (.refl _)
  have c12 : PPure Try.prog F.decl_Value [.agg aE2.pv, .sc (.slice none 0 0)] (.tup [.agg (aN 0).pv, .sc (.int .i64 0)]) := by
    have h := eValue_p aE2 []
    rw [a_va2] at h
    exact h.weak ⟨.refl _, .nil 3, trivial⟩ (.refl _)
  have c13 : PPure Try.prog F.ref00_SameTerm [.agg (aN 3).pv, .agg (aN 3).pv] (.sc (.bool true)) := by
    have h := SameTerm_p (aN 3).size (aN 3) (aN 3) (Nat.le_refl _)
    rwa [a_s3] at h
  have c14 : PPure Try.prog F.ref00_SameTerm [.agg (aN 0).pv, .agg (aN 0).pv] (.sc (.bool true)) := by
    have h := SameTerm_p (aN 0).size (aN 0) (aN 0) (Nat.le_refl _)
    rwa [a_s0] at h
  have c15 : PPure Try.prog F.decl_Right [.agg aE1.pv] (.sc (.bool true)) := by
    have h := eRight_p aE1
    rwa [a_ent1] at h
  have c16 : PPure Try.prog F.decl_Unfolds [.agg aE2.pv] (.sc (.bool true)) := by
    have h := unfolds_p aE2
    rwa [a_ent2] at h
  have c17 : PPure Try.prog F.decl_Unfolds [.agg aE1.pv] (.sc (.bool false)) := unfolds_p aE1
  have c18 := eClone_p aE2 (by decide) (by decide) (by decide)
  have c19 : PPure Try.prog F.decl_Same [.agg aE2.pvF, .agg aE2.pv] (.sc (.bool true)) := by
    have h := eSame_p aE2 aE2 true false rfl
    rw [a_s2, entB_false] at h
    exact h.weak ⟨Weak.agg (entF_weak _), .refl _, trivial⟩ (.refl _)
  have c20 := eSame_ne aE1 aE2 a_ne
  have hh : aE2.pv = .sc (.int .i64 2) :: .sc (.int .i64 0) :: .sc (.string ⟨#[100]⟩) :: ((aN 1).pv ++ ((aN 0).pv ++ [.sc (.int .i64 2), .sc (.string ⟨#[]⟩), .sc (.int .i64 0), .sc (.int .i64 0), .sc (.int .i64 0), .sl 1 []])) := rfl
  have hd : aE2.pv.drop 13 = [.sc (.int .i64 2), .sc (.string ⟨#[]⟩), .sc (.int .i64 0), .sc (.int .i64 0), .sc (.int .i64 0), .sl 1 []] := by
    rw [hh]
    simp only [List.drop_succ_cons, tm_d10, tm_drop_app]
  clear hh
  refine pure_by is_law11_alive (by simp) rfl fun hb nx => ?_
  clear hb
  repeat' (first | ((with_reducible first | refine wA (by omega) ?_ | refine wB (by omega) ?_ | refine wC (by omega) ?_ | refine wD (by omega) ?_ | refine wE ?_ ?_ | refine wF ?_ ?_ | refine wG ?_ ?_ | refine wH ?_ ?_ | refine wI ?_ ?_ | refine wJ ?_ ?_ | refine wK ?_ ?_ | refine wL ?_ ?_) <;> intro _) | (((with_reducible refine call_id ?_); (first | (refine call_pure (c0) ?_) | (refine call_pure (c1) ?_) | (refine call_pure (c2) ?_) | (refine call_pure (c3) ?_) | (refine call_pure (c4) ?_) | (refine call_pure (c5) ?_) | (refine call_pure (c6) ?_) | (refine call_pure (c7) ?_) | (refine call_pure (c8) ?_) | (refine call_pure (c9) ?_) | (refine call_pure (c10) ?_) | (refine call_pure (c11) ?_) | (refine call_pure (c12) ?_) | (refine call_pure (c13) ?_) | (refine call_pure (c14) ?_) | (refine call_pure (c15) ?_) | (refine call_pure (c16) ?_) | (refine call_pure (c17) ?_) | (refine call_pure (c18) ?_) | (refine call_pure (c19) ?_) | (refine call_pure (c20) ?_)))) | simp (maxSteps := 1000000) (disch := omega) only [go_sem, Nat.reduceAdd, Nat.reduceMul, Nat.reduceSub, Nat.reduceLeDiff, Nat.reduceEqDiff, Nat.reduceBEq, ↓reduceIte, reduceCtorEq, Int.reduceEq, Int.reduceLE, Int.reduceLT, Int.reduceAdd, Int.reduceSub, Int.reduceNeg, Int.reduceToNat, Int.reduceNe, Nat.reducePow, Nat.reduceShiftRight, Nat.reduceMod, mc_law11_alive, hd, *])
  all_goals (exact fin_tmp (.inr rfl) cE3)
end
section
theorem op_level {H : Type} {enc : TypeId × Value → H} {W : World} {sp : Nat → Bool} {hd : Bool} : ∀ n, OpAt enc W sp hd n 39 Lv.pv := by
  intro n
  induction n using Nat.strongRecOn with
  | ind n ih =>
    intro cs x h
    have hu : ∃ fs, Try.prog.underlying 39 = some (.struct fs) ∧ ∃ f0 f1 f2, fs = #[f0, f1, f2] ∧ f0.type = 3 ∧ f1.type = 3 ∧ f2.type = 22 ∧ f0.offset = 0 ∧ f1.offset = 1 ∧ f2.offset = 2 :=
      ⟨_, Try.underlying39, _, _, _, rfl, rfl, rfl, rfl, rfl, rfl, rfl⟩
    obtain ⟨fs, hu, f0, f1, f2, rfl, h0, h1, h2, o0, o1, o2⟩ := hu
    obtain ⟨xs, m, rfl, _, hlen, hxs, hx⟩ := DataW.trod_struct hu h
    have hc : Try.prog.cellsOf 39 = 3 := by kernel_rfl
    obtain ⟨a, ha⟩ := op_field hx hxs (i := 0) rfl h0 o0 (c := 1) (by kernel_rfl) (op_int Try.underlying3)
    obtain ⟨b, hb⟩ := op_field hx hxs (i := 1) rfl h1 o1 (c := 1) (by kernel_rfl) (op_int Try.underlying3)
    have hl : OpAt enc W sp hd m 22 (fun l : List Lv => [.sl 3 (l.map Lv.pv)]) := by
      cases m with
      | zero => exact op_zero
      | succ m => exact op_slice Try.underlying22 (by kernel_rfl) (by omega) (ih m (by omega))
    obtain ⟨l, hl⟩ := op_field hx hxs (i := 2) rfl h2 o2 (c := 1) (by kernel_rfl) hl
    rw [List.drop_zero] at ha
    have h3 := rep_split (rep_split ha hb) hl
    rw [hc] at hlen
    rw [List.take_of_length_le (by omega)] at h3
    refine ⟨.mk a b l, ?_⟩
    simp only [Lv.pv]
    exact h3
section
variable {H : Type} {enc : TypeId × Value → H} {W : World} {cs : Array Value} {a : Option Addr} {len cap : Nat} {d : DataW H} {p : List MemPlace}
end
end
section
theorem fitsT_map : ∀ l : List {t : Tm // t.fits}, fitsT (l.map (·.1))
  | [] => trivial
  | x :: r => ⟨x.2, fitsT_map r⟩
theorem op_term {H : Type} {enc : TypeId × Value → H} {W : World} {sp : Nat → Bool} {hd : Bool} : ∀ n, OpAt enc W sp hd n 25 (fun t : {t : Tm // t.fits} => t.1.pv) := by
  intro n
  induction n using Nat.strongRecOn with
  | ind n ih =>
    intro cs x h
    have hu : ∃ fs, Try.prog.underlying 25 = some (.struct fs) ∧ ∃ f0 f1 f2 f3 f4, fs = #[f0, f1, f2, f3, f4] ∧ f0.type = 3 ∧ f1.type = 3 ∧ f2.type = 9 ∧ f3.type = 22 ∧ f4.type = 23 ∧ f0.offset = 0 ∧ f1.offset = 1 ∧ f2.offset = 2 ∧ f3.offset = 3 ∧ f4.offset = 4 :=
      ⟨_, Try.underlying25, _, _, _, _, _, rfl, rfl, rfl, rfl, rfl, rfl, rfl, rfl, rfl, rfl, rfl⟩
    obtain ⟨fs, hu, f0, f1, f2, f3, f4, rfl, h0, h1, h2, h3, h4, o0, o1, o2, o3, o4⟩ := hu
    obtain ⟨xs, m, rfl, _, hlen, hxs, hx⟩ := DataW.trod_struct hu h
    have hc : Try.prog.cellsOf 25 = 5 := by kernel_rfl
    obtain ⟨a, ha⟩ := op_field hx hxs (i := 0) rfl h0 o0 (c := 1) (by kernel_rfl) (op_int Try.underlying3)
    obtain ⟨b, hb⟩ := op_field hx hxs (i := 1) rfl h1 o1 (c := 1) (by kernel_rfl) (op_int Try.underlying3)
    obtain ⟨z, hz⟩ := op_field hx hxs (i := 2) rfl h2 o2 (c := 1) (by kernel_rfl) (op_string Try.underlying9)
    have hl : OpAt enc W sp hd m 22 (fun l : List Lv => [.sl 3 (l.map Lv.pv)]) := by
      cases m with
      | zero => exact op_zero
      | succ m => exact op_slice Try.underlying22 (by kernel_rfl) (by omega) (op_level m)
    have hl2 : OpAt enc W sp hd m 23 (fun l : List {t : Tm // t.fits} => [.sl 5 (l.map fun t => t.1.pv)]) := by
      cases m with
      | zero => exact op_zero
      | succ m => exact op_slice Try.underlying23 (by kernel_rfl) (by omega) (ih m (by omega))
    obtain ⟨l, hl⟩ := op_field hx hxs (i := 3) rfl h3 o3 (c := 1) (by kernel_rfl) hl
    obtain ⟨r, hr⟩ := op_field hx hxs (i := 4) rfl h4 o4 (c := 1) (by kernel_rfl) hl2
    rw [List.drop_zero] at ha
    have h5 := rep_split (rep_split (rep_split (rep_split ha hb) hz) hl) hr
    rw [hc] at hlen
    rw [List.take_of_length_le (by omega)] at h5
    refine ⟨⟨.mk a b z.1 l (r.map (·.1)), z.2, fitsT_map r⟩, ?_⟩
    simp only [Tm.pv, List.map_map]
    exact h5
section
variable {H : Type} {enc : TypeId × Value → H} {W : World} {cs : Array Value} {a : Option Addr} {len cap : Nat} {d : DataW H} {p : List MemPlace}
end
end
section
mutual
theorem lv_same_self : ∀ l : Lv, l.same l = true
  | .mk k n args => by simp [Lv.same, lvs_same_self args]
theorem lvs_same_self : ∀ ls : List Lv, sameL ls ls = true
  | [] => rfl
  | x :: r => by simp [sameL, lv_same_self x, lvs_same_self r]
end
mutual
theorem tm_same_self : ∀ t : Tm, t.same t = true
  | .mk k n s ls args => by simp [Tm.same, lvs_same_self ls, tms_same_self args, sameB]
theorem tms_same_self : ∀ ts : List Tm, sameT ts ts = true
  | [] => rfl
  | x :: r => by simp [sameT, tm_same_self x, tms_same_self r]
end
mutual
theorem nodes_massD : ∀ t : Tm, t.nodes ≤ t.mass
  | .mk k n s ls args => by have := nodesT_massD args; simp only [Tm.nodes, Tm.mass]; omega
theorem nodesT_massD : ∀ ts : List Tm, nodesT ts ≤ massT ts
  | [] => Nat.le_refl _
  | t :: r => by have := nodes_massD t; have := nodesT_massD r; simp only [nodesT, massT]; omega
end
end
section
set_option maxRecDepth 20000
attribute [local go_sem] pv_len pv_take Nat.add_assoc tm_len tm_take pv_one tm_one tpvB_len tpvB_take tpvB_one pvB_len pvB_take pvB_one id_ne id_ne' id_ne2 List.append_assoc
def ClQ (ls : List Lv) (nx : Nat) : (Nat → Option PObj) → Nat → PV → Prop := fun H' nx' r => (ls = [] ∧ r = .sc (.slice none 0 0)) ∨ (ls ≠ [] ∧ H' (nx + 6) = some ⟨ls.flatMap (Lv.pvB true), true⟩ ∧ r = .osl (nx + 6) 0 ls.length 3)
theorem ClQ.nil {nx nx' : Nat} {H : Nat → Option PObj} : ClQ [] nx H nx' (.sc (.slice none 0 0)) := .inl ⟨rfl, rfl⟩
theorem ClQ.row {ls : List Lv} {nx nx' : Nat} {H : Nat → Option PObj} (hne : ls ≠ []) (h : H (nx + 6) = some ⟨ls.flatMap (Lv.pvB true), true⟩) : ClQ ls nx H nx' (.osl (nx + 6) 0 ls.length 3) := .inr ⟨hne, h, rfl⟩
set_option maxHeartbeats 8000000 in
theorem cloneLevels_m (ls : List Lv) (hl : nodesL ls ≤ 2 ^ 40) (nx : Nat) : PMut Try.prog F.term_cloneLevels [.sl 3 (ls.map Lv.pv)] noneOwn nx (ClQ ls nx) := by
  refine mut_by is_term_cloneLevels (by simp) fun hb => ?_
  clear hb
  have hb0 := len_nodesL ls
  by_cases h0 : ls.length = 0
  · obtain rfl : ls = [] := List.eq_nil_of_length_eq_zero h0
    repeat' (first | ((with_reducible first | refine wA (by omega) ?_ | refine wB (by omega) ?_ | refine wC (by omega) ?_ | refine wD (by omega) ?_ | refine wE ?_ ?_ | refine wF ?_ ?_ | refine wG ?_ ?_ | refine wH ?_ ?_ | refine wI ?_ ?_ | refine wJ ?_ ?_ | refine wK ?_ ?_ | refine wL ?_ ?_) <;> intro _) | simp (maxSteps := 1000000) (disch := omega) only [go_sem, Nat.reduceAdd, Nat.reduceMul, Nat.reduceSub, Nat.reduceLeDiff, Nat.reduceEqDiff, Nat.reduceBEq, ↓reduceIte, reduceCtorEq, Int.reduceEq, Int.reduceLE, Int.reduceLT, Int.reduceAdd, Int.reduceSub, Int.reduceNeg, Int.reduceToNat, Int.reduceNe, Nat.reducePow, Nat.reduceShiftRight, Nat.reduceMod, mc_term_cloneLevels, *])
    all_goals (exact fin_mut (.sc (.slice none 0 0)) (.inr rfl) (by simp [resP, resPs, resP1, upd, loadP]; all_goals rfl) ClQ.nil)
  · have hz1 : 40 * (ls.length : Int) ≤ 2 ^ 47 := by omega
    have hz2 : (ls.length : Int) ≤ 2 ^ 47 := by omega
    have hne : ls ≠ [] := fun e => h0 (by rw [e]; rfl)
    repeat' (first | ((with_reducible first | refine wA (by omega) ?_ | refine wB (by omega) ?_ | refine wC (by omega) ?_ | refine wD (by omega) ?_ | refine wE ?_ ?_ | refine wF ?_ ?_ | refine wG ?_ ?_ | refine wH ?_ ?_ | refine wI ?_ ?_ | refine wJ ?_ ?_ | refine wK ?_ ?_ | refine wL ?_ ?_) <;> intro _) | simp (maxSteps := 1000000) (disch := omega) only [go_sem, Nat.reduceAdd, Nat.reduceMul, Nat.reduceSub, Nat.reduceLeDiff, Nat.reduceEqDiff, Nat.reduceBEq, ↓reduceIte, reduceCtorEq, Int.reduceEq, Int.reduceLE, Int.reduceLT, Int.reduceAdd, Int.reduceSub, Int.reduceNeg, Int.reduceToNat, Int.reduceNe, Nat.reducePow, Nat.reduceShiftRight, Nat.reduceMod, mc_term_cloneLevels, hz1, hz2, and_self, *])
    refine c_loopW 67100688 (by kernel_rfl) (fun j f H m => ∃ i : Nat, j = ls.length - i ∧ i ≤ ls.length ∧ f 13 = .sc (.int .i64 i) ∧ nx + 6 < m ∧ H (nx + 6) = some ⟨halfG (Lv.pvB true) z3 (ls.take i) (ls.length - i), true⟩) _ ⟨0, rfl, cE1, cE1, ?mm, ?rr⟩ ?_
    case mm => exact (by omega : nx + 6 < nx + 11)
    case rr => exact (upd_same _ _ _).trans (by simp [halfG])
    rintro _ f H m ⟨i, rfl, hi, e13, hm, hH⟩
    by_cases hlt : i < ls.length
    · have eg : ls[i]? = some ls[i] := List.getElem?_eq_getElem hlt
      have hn := nodesL_mem ls i hlt
      have hhl := halfG_len (pvB_len true) (rfl : z3.length = 3) (ls.take i) (ls.length - i)
      rw [List.length_take, Nat.min_eq_left hi] at hhl
      have hhs := halfG_set' (pvB_len true) (rfl : z3.length = 3) (ls.take i) i ls.length ls[i] hlt (by rw [List.length_take, Nat.min_eq_left hi])
      have hc := Max1_pF ls[i] (by omega)
      have hle : i * 3 + 3 ≤ i * 3 + (ls.length - i) * 3 := by omega
      rw [← List.take_succ_eq_append_getElem hlt] at hhs
      repeat' (first | ((with_reducible first | refine wA (by omega) ?_ | refine wB (by omega) ?_ | refine wC (by omega) ?_ | refine wD (by omega) ?_ | refine wE ?_ ?_ | refine wF ?_ ?_ | refine wG ?_ ?_ | refine wH ?_ ?_ | refine wI ?_ ?_ | refine wJ ?_ ?_ | refine wK ?_ ?_ | refine wL ?_ ?_) <;> intro _) | (((with_reducible refine call_id ?_); (first | (refine call_pure (hc) ?_)))) | simp (maxSteps := 1000000) (disch := omega) only [go_sem, Nat.reduceAdd, Nat.reduceMul, Nat.reduceSub, Nat.reduceLeDiff, Nat.reduceEqDiff, Nat.reduceBEq, ↓reduceIte, reduceCtorEq, Int.reduceEq, Int.reduceLE, Int.reduceLT, Int.reduceAdd, Int.reduceSub, Int.reduceNeg, Int.reduceToNat, Int.reduceNe, Nat.reducePow, Nat.reduceShiftRight, Nat.reduceMod, Lv.pv, *])
      refine Nx.mk (ls.length - (i + 1)) cE1 ⟨i + 1, cE1, cE1, cE1, cE1, cE1⟩
    · obtain rfl : i = ls.length := by omega
      have h1 : halfG (Lv.pvB true) z3 (List.take ls.length ls) (ls.length - ls.length) = ls.flatMap (Lv.pvB true) := by rw [List.take_length, Nat.sub_self]; simp [halfG, zeros]
      rw [h1] at hH
      repeat' (first | ((with_reducible first | refine wA (by omega) ?_ | refine wB (by omega) ?_ | refine wC (by omega) ?_ | refine wD (by omega) ?_ | refine wE ?_ ?_ | refine wF ?_ ?_ | refine wG ?_ ?_ | refine wH ?_ ?_ | refine wI ?_ ?_ | refine wJ ?_ ?_ | refine wK ?_ ?_ | refine wL ?_ ?_) <;> intro _) | simp (maxSteps := 1000000) (disch := omega) only [go_sem, Nat.reduceAdd, Nat.reduceMul, Nat.reduceSub, Nat.reduceLeDiff, Nat.reduceEqDiff, Nat.reduceBEq, ↓reduceIte, reduceCtorEq, Int.reduceEq, Int.reduceLE, Int.reduceLT, Int.reduceAdd, Int.reduceSub, Int.reduceNeg, Int.reduceToNat, Int.reduceNe, Nat.reducePow, Nat.reduceShiftRight, Nat.reduceMod, Lv.pv, *])
      exact fin_mut (.osl (nx + 6) 0 ls.length 3) (.inr rfl) cE2 (ClQ.row hne hH)
theorem lvB_immL (ls : List Lv) : immL (ls.flatMap (Lv.pvB true)) = true := by
  rw [List.flatMap_def, ← immLL_flatten]
  exact lvsB_imm true ls
theorem cloneLevels_new (ls : List Lv) (hl : nodesL ls ≤ 2 ^ 40) (hne : ls ≠ []) (id : Nat) : NewV Try.prog F.term_cloneLevels [.sl 3 (ls.map Lv.pv)] id (.osl id 0 ls.length 3) (some ⟨ls.flatMap (Lv.pvB true), true⟩) := by
  refine new_of_mut fun nx => PMut.mono (cloneLevels_m ls hl nx) fun H' nx' r h => ?_
  rcases h with ⟨h, _⟩ | ⟨_, h2, rfl⟩
  · exact absurd h hne
  · exact .inr ⟨nx + 6, _, rfl, by omega, h2, lvB_immL ls, .inr ⟨_, _, _, rfl⟩, by simp [ren, ren1]⟩
theorem cloneLevels_new0 (id : Nat) : NewV Try.prog F.term_cloneLevels [.sl 3 (([] : List Lv).map Lv.pv)] id (.sc (.slice none 0 0)) none := by
  refine new_of_mut fun nx => PMut.mono (cloneLevels_m [] (by simp [nodesL]) nx) fun H' nx' r h => ?_
  rcases h with ⟨_, rfl⟩ | ⟨h, _⟩
  · exact .inl ⟨rfl, rfl, rfl⟩
  · exact absurd rfl h
theorem updO_some {H : Nat → Option PObj} {id : Nat} {o : PObj} : updO H id (some o) = upd H id (some o) := rfl
theorem updO_none {H : Nat → Option PObj} {id : Nat} : updO H id none = H := rfl
end
section
set_option maxRecDepth 20000
attribute [local go_sem] pv_len pv_take Nat.add_assoc tm_len tm_take pv_one tm_one tpvB_len tpvB_take tpvB_one pvB_len pvB_take pvB_one id_ne id_ne' id_ne2 List.append_assoc o_calln updO_some updO_none
def RowsV (H : Nat → Option PObj) (lo m ia ib : Nat) (k n : Int) (s : ByteArray) (ls : List Lv) (args : List Tm) (cs : List PV) : Prop :=
  ∃ a b, cs = [.sc (.int .i64 k), .sc (.int .i64 n), .sc (.string s), a, b] ∧
    ((ls = [] ∧ a = .sc (.slice none 0 0)) ∨ (ls ≠ [] ∧ a = .osl ia 0 ls.length 3 ∧ H ia = some ⟨ls.flatMap (Lv.pvB true), true⟩)) ∧
    ((args = [] ∧ b = .sc (.slice none 0 0)) ∨ (args ≠ [] ∧ ∃ cells, b = .osl ib 0 args.length 5 ∧ H ib = some ⟨cells, true⟩ ∧ OwnTs H lo m cells args))
set_option maxHeartbeats 16000000 in
theorem copyToV_p (k n : Int) (s : ByteArray) (ls : List Lv) (args : List Tm) (hm : (Tm.mk k n s ls args).nodes ≤ 2 ^ 40) (H : Nat → Option PObj) (nx id : Nat) (hH : H id = some ⟨zero5, true⟩) (hid : id < nx) :
    PMut Try.prog F.term_copyTo [.optr id 0, .ptr (Tm.mk k n s ls args).pv] H nx (fun H' nx' r => nx + 21 ≤ nx' ∧ ∃ cs, H' id = some ⟨cs, true⟩ ∧ RowsV H' (nx + 46) nx' (nx + 20) (nx + 45) k n s ls args cs ∧ ∀ j, j ≠ id → j < nx → H' j = H j) := by
  simp only [Tm.nodes] at hm
  refine mut_by is_term_copyToV (by simp) fun hb => ?_
  clear hb
  rw [zero5] at hH
  have hla := len_nodesT args
  have hz1 : 80 * (args.length : Int) ≤ 2 ^ 47 := by omega
  have hz2 : (args.length : Int) ≤ 2 ^ 47 := by omega
  by_cases hl : ls = []
  · subst hl
    repeat' (first | ((with_reducible first | refine wA (by omega) ?_ | refine wB (by omega) ?_ | refine wC (by omega) ?_ | refine wD (by omega) ?_ | refine wE ?_ ?_ | refine wF ?_ ?_ | refine wG ?_ ?_ | refine wH ?_ ?_ | refine wI ?_ ?_ | refine wJ ?_ ?_ | refine wK ?_ ?_ | refine wL ?_ ?_) <;> intro _) | simp (maxSteps := 1000000) (disch := omega) only [go_sem, Nat.reduceAdd, Nat.reduceMul, Nat.reduceSub, Nat.reduceLeDiff, Nat.reduceEqDiff, Nat.reduceBEq, ↓reduceIte, reduceCtorEq, Int.reduceEq, Int.reduceLE, Int.reduceLT, Int.reduceAdd, Int.reduceSub, Int.reduceNeg, Int.reduceToNat, Int.reduceNe, Nat.reducePow, Nat.reduceShiftRight, Nat.reduceMod, mc_term_copyToV, Tm.pv, *])
    refine call_new (cloneLevels_new0 _) ?_
    by_cases hz : args.length = 0
    · obtain rfl : args = [] := List.eq_nil_of_length_eq_zero hz
      repeat' (first | ((with_reducible first | refine wA (by omega) ?_ | refine wB (by omega) ?_ | refine wC (by omega) ?_ | refine wD (by omega) ?_ | refine wE ?_ ?_ | refine wF ?_ ?_ | refine wG ?_ ?_ | refine wH ?_ ?_ | refine wI ?_ ?_ | refine wJ ?_ ?_ | refine wK ?_ ?_ | refine wL ?_ ?_) <;> intro _) | simp (maxSteps := 1000000) (disch := omega) only [go_sem, Nat.reduceAdd, Nat.reduceMul, Nat.reduceSub, Nat.reduceLeDiff, Nat.reduceEqDiff, Nat.reduceBEq, ↓reduceIte, reduceCtorEq, Int.reduceEq, Int.reduceLE, Int.reduceLT, Int.reduceAdd, Int.reduceSub, Int.reduceNeg, Int.reduceToNat, Int.reduceNe, Nat.reducePow, Nat.reduceShiftRight, Nat.reduceMod, Tm.pv, *])
      refine c_rounds 1 ?_
      repeat' (first | ((with_reducible first | refine wA (by omega) ?_ | refine wB (by omega) ?_ | refine wC (by omega) ?_ | refine wD (by omega) ?_ | refine wE ?_ ?_ | refine wF ?_ ?_ | refine wG ?_ ?_ | refine wH ?_ ?_ | refine wI ?_ ?_ | refine wJ ?_ ?_ | refine wK ?_ ?_ | refine wL ?_ ?_) <;> intro _) | simp (maxSteps := 1000000) (disch := omega) only [go_sem, Nat.reduceAdd, Nat.reduceMul, Nat.reduceSub, Nat.reduceLeDiff, Nat.reduceEqDiff, Nat.reduceBEq, ↓reduceIte, reduceCtorEq, Int.reduceEq, Int.reduceLE, Int.reduceLT, Int.reduceAdd, Int.reduceSub, Int.reduceNeg, Int.reduceToNat, Int.reduceNe, Nat.reducePow, Nat.reduceShiftRight, Nat.reduceMod, rounds_next, *])
      refine fin_mut (.tup []) (.inl rfl) rfl ⟨?g0, [.sc (.int .i64 k), .sc (.int .i64 n), .sc (.string s), .sc (.slice none 0 0), .sc (.slice none 0 0)], ?g1, ⟨_, _, rfl, ?g2, .inl ⟨rfl, rfl⟩⟩, fun j h1 h2 => ?g3⟩
      case g0 => simp only [Nat.add_assoc]; exact Nat.add_le_add_left (by omega) _
      case g1 => simp [upd]
      case g2 => exact .inl ⟨rfl, rfl⟩
      case g3 => simp [upd, h1]
    · have hz0 : 0 < args.length := by omega
      repeat' (first | ((with_reducible first | refine wA (by omega) ?_ | refine wB (by omega) ?_ | refine wC (by omega) ?_ | refine wD (by omega) ?_ | refine wE ?_ ?_ | refine wF ?_ ?_ | refine wG ?_ ?_ | refine wH ?_ ?_ | refine wI ?_ ?_ | refine wJ ?_ ?_ | refine wK ?_ ?_ | refine wL ?_ ?_) <;> intro _) | simp (maxSteps := 1000000) (disch := omega) only [go_sem, Nat.reduceAdd, Nat.reduceMul, Nat.reduceSub, Nat.reduceLeDiff, Nat.reduceEqDiff, Nat.reduceBEq, ↓reduceIte, reduceCtorEq, Int.reduceEq, Int.reduceLE, Int.reduceLT, Int.reduceAdd, Int.reduceSub, Int.reduceNeg, Int.reduceToNat, Int.reduceNe, Nat.reducePow, Nat.reduceShiftRight, Nat.reduceMod, Tm.pv, hz1, hz2, and_self, *])
      refine c_loopW 2361165227036313124880 (by kernel_rfl) (fun j f H2 m => ∃ (i : Nat) (cs : List PV), j = args.length - i ∧ i ≤ args.length ∧ f 54 = .sc (.int .i64 i) ∧ nx + 45 < m ∧ H2 id = some ⟨[.sc (.int .i64 k), .sc (.int .i64 n), .sc (.string s), .sc (.slice none 0 0), .osl (nx + 45) 0 args.length 5], true⟩ ∧ H2 (nx + 45) = some ⟨cs ++ zeros [.int .i64 0, .int .i64 0, .string ⟨#[]⟩, .slice none 0 0, .slice none 0 0] (args.length - i), true⟩ ∧ cs.length = i * 5 ∧ Kept (OwnTs H2 (nx + 46) m cs (args.take i)) ∧ Kept (∀ j', j' ≠ id → j' < nx → H2 j' = H j')) _ ⟨0, [], rfl, Nat.zero_le _, cE1, ?mm, ?h1, ?h2, rfl, Kept.mk rfl, Kept.mk fun j' g1 g2 => ?h3⟩ ?_
      case mm => simp only [Nat.add_assoc]; exact Nat.add_lt_add_left (by omega) _
      case h1 => simp [upd]; try omega
      case h2 => simp [upd]; try omega
      case h3 => simp [upd, g1]; try omega
      rintro _ f H2 m ⟨i, cs, rfl, hi, e54, hm2, hHi, hHb, hcl, ho, hk⟩
      by_cases hlt : i < args.length
      · have eg : args[i]? = some args[i] := List.getElem?_eq_getElem hlt
        have hn := nodesT_mem args i hlt
        repeat' (first | ((with_reducible first | refine wA (by omega) ?_ | refine wB (by omega) ?_ | refine wC (by omega) ?_ | refine wD (by omega) ?_ | refine wE ?_ ?_ | refine wF ?_ ?_ | refine wG ?_ ?_ | refine wH ?_ ?_ | refine wI ?_ ?_ | refine wJ ?_ ?_ | refine wK ?_ ?_ | refine wL ?_ ?_) <;> intro _) | simp (maxSteps := 1000000) (disch := omega) only [go_sem, Nat.reduceAdd, Nat.reduceMul, Nat.reduceSub, Nat.reduceLeDiff, Nat.reduceEqDiff, Nat.reduceBEq, ↓reduceIte, reduceCtorEq, Int.reduceEq, Int.reduceLE, Int.reduceLT, Int.reduceAdd, Int.reduceSub, Int.reduceNeg, Int.reduceToNat, Int.reduceNe, Nat.reducePow, Nat.reduceShiftRight, Nat.reduceMod, Tm.pv, *])
        obtain ⟨r, hr⟩ : ∃ r, args.length - i = r + 1 := ⟨args.length - i - 1, by omega⟩
        rw [hr] at hHb
        refine call_mut (copyTo_p args[i].size args[i] (Nat.le_refl _) (by omega) _ _ (nx + 45) (i * 5) cs (zeros [.int .i64 0, .int .i64 0, .string ⟨#[]⟩, .slice none 0 0, .slice none 0 0] r) true hHb (Nat.lt_of_lt_of_le hm2 (Nat.le_add_right _ _)) hcl) ?_
        rintro H' nx' r' ⟨hn1, c, hc1, hc2, hc4⟩ -
        have hn2 : m ≤ nx' := Nat.le_trans (Nat.le_add_right _ _) hn1
        have hc3 : ∀ j, j ≠ nx + 45 → j < m → H' j = H2 j := fun j a b => hc4 j a (Nat.lt_of_lt_of_le b (Nat.le_add_right _ _))
        have hne : nx + 45 ≠ id := by omega
        have hHi' : H' id = _ := (hc3 id hne.symm (by omega)).trans hHi
        have hrr : args.length - (i + 1) = r := by omega
        have hl5 := hc2.len
        have ho' : Kept (OwnTs H' (nx + 46) nx' (cs ++ c) (args.take (i + 1))) := Kept.mk (by
          rw [List.take_succ_eq_append_getElem hlt]
          exact OwnTs.snoc (hc2.mono _ _ _ _ _ _ (Nat.le_add_right _ _ : m ≤ _) (Nat.le_refl _) fun j _ _ => rfl) (by omega) _ _ _ (ho.out.mono _ _ _ _ _ _ (Nat.le_refl _) (Nat.le_refl _) fun j h1 h2 => hc3 j (by omega) (by omega)) (by omega))
        have hk' : Kept (∀ j', j' ≠ id → j' < nx → H' j' = H j') := Kept.mk fun j' g1 g2 => by rw [hc3 j' (by omega) (by omega), hk.out j' g1 g2]
        clear ho hk hc3 hc4 hc2 hn1 hHi hHb
        repeat' (first | ((with_reducible first | refine wA (by omega) ?_ | refine wB (by omega) ?_ | refine wC (by omega) ?_ | refine wD (by omega) ?_ | refine wE ?_ ?_ | refine wF ?_ ?_ | refine wG ?_ ?_ | refine wH ?_ ?_ | refine wI ?_ ?_ | refine wJ ?_ ?_ | refine wK ?_ ?_ | refine wL ?_ ?_) <;> intro _) | simp (maxSteps := 1000000) (disch := omega) only [go_sem, Nat.reduceAdd, Nat.reduceMul, Nat.reduceSub, Nat.reduceLeDiff, Nat.reduceEqDiff, Nat.reduceBEq, ↓reduceIte, reduceCtorEq, Int.reduceEq, Int.reduceLE, Int.reduceLT, Int.reduceAdd, Int.reduceSub, Int.reduceNeg, Int.reduceToNat, Int.reduceNe, Nat.reducePow, Nat.reduceShiftRight, Nat.reduceMod, *])
        refine Nx.mk (args.length - (i + 1)) cE1 ⟨i + 1, cs ++ c, rfl, cE1, cE1, ?mm, hHi', ?h1, ?h2, ?h4, hk'⟩
        case mm => exact (by omega : nx + 45 < nx' + 2)
        case h4 => exact Kept.mk (ho'.out.mono _ _ _ _ _ _ (Nat.le_refl _) (by omega : nx' ≤ nx' + 2) fun _ _ _ => rfl)
        case h1 => rw [hrr, List.append_assoc]; exact hc1
        case h2 => rw [List.length_append, hl5, hcl, Nat.succ_mul]
      · obtain rfl : i = args.length := by omega
        have hoo := ho.out
        rw [List.take_length] at hoo
        have ho2 := Kept.mk hoo
        have hHb2 := hHb
        rw [Nat.sub_self] at hHb2
        simp only [zeros, List.append_nil] at hHb2
        clear ho hoo
        repeat' (first | ((with_reducible first | refine wA (by omega) ?_ | refine wB (by omega) ?_ | refine wC (by omega) ?_ | refine wD (by omega) ?_ | refine wE ?_ ?_ | refine wF ?_ ?_ | refine wG ?_ ?_ | refine wH ?_ ?_ | refine wI ?_ ?_ | refine wJ ?_ ?_ | refine wK ?_ ?_ | refine wL ?_ ?_) <;> intro _) | simp (maxSteps := 1000000) (disch := omega) only [go_sem, Nat.reduceAdd, Nat.reduceMul, Nat.reduceSub, Nat.reduceLeDiff, Nat.reduceEqDiff, Nat.reduceBEq, ↓reduceIte, reduceCtorEq, Int.reduceEq, Int.reduceLE, Int.reduceLT, Int.reduceAdd, Int.reduceSub, Int.reduceNeg, Int.reduceToNat, Int.reduceNe, Nat.reducePow, Nat.reduceShiftRight, Nat.reduceMod, *])
        refine fin_mut (.tup []) (.inl rfl) rfl ⟨?g0, _, hHi, ⟨_, _, rfl, ?g1, .inr ⟨fun h => hz (by rw [h]; rfl), cs, rfl, hHb2, ?g2⟩⟩, hk.out⟩
        case g0 => simp only [Nat.add_assoc]; omega
        case g1 => exact .inl ⟨rfl, rfl⟩
        case g2 => exact ho2.out.mono _ _ _ _ _ _ (Nat.le_refl _) (Nat.le_add_right _ _) fun _ _ _ => rfl
  · have hln : nodesL ls ≤ 2 ^ 40 := by omega
    repeat' (first | ((with_reducible first | refine wA (by omega) ?_ | refine wB (by omega) ?_ | refine wC (by omega) ?_ | refine wD (by omega) ?_ | refine wE ?_ ?_ | refine wF ?_ ?_ | refine wG ?_ ?_ | refine wH ?_ ?_ | refine wI ?_ ?_ | refine wJ ?_ ?_ | refine wK ?_ ?_ | refine wL ?_ ?_) <;> intro _) | simp (maxSteps := 1000000) (disch := omega) only [go_sem, Nat.reduceAdd, Nat.reduceMul, Nat.reduceSub, Nat.reduceLeDiff, Nat.reduceEqDiff, Nat.reduceBEq, ↓reduceIte, reduceCtorEq, Int.reduceEq, Int.reduceLE, Int.reduceLT, Int.reduceAdd, Int.reduceSub, Int.reduceNeg, Int.reduceToNat, Int.reduceNe, Nat.reducePow, Nat.reduceShiftRight, Nat.reduceMod, mc_term_copyToV, Tm.pv, *])
    refine call_new (cloneLevels_new ls hln hl _) ?_
    by_cases hz : args.length = 0
    · obtain rfl : args = [] := List.eq_nil_of_length_eq_zero hz
      repeat' (first | ((with_reducible first | refine wA (by omega) ?_ | refine wB (by omega) ?_ | refine wC (by omega) ?_ | refine wD (by omega) ?_ | refine wE ?_ ?_ | refine wF ?_ ?_ | refine wG ?_ ?_ | refine wH ?_ ?_ | refine wI ?_ ?_ | refine wJ ?_ ?_ | refine wK ?_ ?_ | refine wL ?_ ?_) <;> intro _) | simp (maxSteps := 1000000) (disch := omega) only [go_sem, Nat.reduceAdd, Nat.reduceMul, Nat.reduceSub, Nat.reduceLeDiff, Nat.reduceEqDiff, Nat.reduceBEq, ↓reduceIte, reduceCtorEq, Int.reduceEq, Int.reduceLE, Int.reduceLT, Int.reduceAdd, Int.reduceSub, Int.reduceNeg, Int.reduceToNat, Int.reduceNe, Nat.reducePow, Nat.reduceShiftRight, Nat.reduceMod, Tm.pv, *])
      refine c_rounds 1 ?_
      repeat' (first | ((with_reducible first | refine wA (by omega) ?_ | refine wB (by omega) ?_ | refine wC (by omega) ?_ | refine wD (by omega) ?_ | refine wE ?_ ?_ | refine wF ?_ ?_ | refine wG ?_ ?_ | refine wH ?_ ?_ | refine wI ?_ ?_ | refine wJ ?_ ?_ | refine wK ?_ ?_ | refine wL ?_ ?_) <;> intro _) | simp (maxSteps := 1000000) (disch := omega) only [go_sem, Nat.reduceAdd, Nat.reduceMul, Nat.reduceSub, Nat.reduceLeDiff, Nat.reduceEqDiff, Nat.reduceBEq, ↓reduceIte, reduceCtorEq, Int.reduceEq, Int.reduceLE, Int.reduceLT, Int.reduceAdd, Int.reduceSub, Int.reduceNeg, Int.reduceToNat, Int.reduceNe, Nat.reducePow, Nat.reduceShiftRight, Nat.reduceMod, rounds_next, *])
      refine fin_mut (.tup []) (.inl rfl) rfl ⟨?g0, [.sc (.int .i64 k), .sc (.int .i64 n), .sc (.string s), .osl (nx + 20) 0 ls.length 3, .sc (.slice none 0 0)], ?g1, ⟨_, _, rfl, ?g2, .inl ⟨rfl, rfl⟩⟩, fun j h1 h2 => ?g3⟩
      case g0 => simp only [Nat.add_assoc]; exact Nat.add_le_add_left (by omega) _
      case g1 => simp [upd, show id ≠ nx + 20 by omega]
      case g2 => exact .inr ⟨hl, rfl, by simp [upd, show nx + 20 ≠ id by omega]⟩
      case g3 => simp [upd, h1, show j ≠ nx + 20 by omega]
    · have hz0 : 0 < args.length := by omega
      repeat' (first | ((with_reducible first | refine wA (by omega) ?_ | refine wB (by omega) ?_ | refine wC (by omega) ?_ | refine wD (by omega) ?_ | refine wE ?_ ?_ | refine wF ?_ ?_ | refine wG ?_ ?_ | refine wH ?_ ?_ | refine wI ?_ ?_ | refine wJ ?_ ?_ | refine wK ?_ ?_ | refine wL ?_ ?_) <;> intro _) | simp (maxSteps := 1000000) (disch := omega) only [go_sem, Nat.reduceAdd, Nat.reduceMul, Nat.reduceSub, Nat.reduceLeDiff, Nat.reduceEqDiff, Nat.reduceBEq, ↓reduceIte, reduceCtorEq, Int.reduceEq, Int.reduceLE, Int.reduceLT, Int.reduceAdd, Int.reduceSub, Int.reduceNeg, Int.reduceToNat, Int.reduceNe, Nat.reducePow, Nat.reduceShiftRight, Nat.reduceMod, Tm.pv, hz1, hz2, and_self, *])
      refine c_loopW 2361165227036313124880 (by kernel_rfl) (fun j f H2 m => ∃ (i : Nat) (cs : List PV), j = args.length - i ∧ i ≤ args.length ∧ f 54 = .sc (.int .i64 i) ∧ nx + 45 < m ∧ H2 id = some ⟨[.sc (.int .i64 k), .sc (.int .i64 n), .sc (.string s), .osl (nx + 20) 0 ls.length 3, .osl (nx + 45) 0 args.length 5], true⟩ ∧ H2 (nx + 45) = some ⟨cs ++ zeros [.int .i64 0, .int .i64 0, .string ⟨#[]⟩, .slice none 0 0, .slice none 0 0] (args.length - i), true⟩ ∧ cs.length = i * 5 ∧ Kept (OwnTs H2 (nx + 46) m cs (args.take i)) ∧ Kept (∀ j', j' ≠ id → j' < nx → H2 j' = H j') ∧ Kept (H2 (nx + 20) = some ⟨ls.flatMap (Lv.pvB true), true⟩)) _ ⟨0, [], rfl, Nat.zero_le _, cE1, ?mm, ?h1, ?h2, rfl, Kept.mk rfl, Kept.mk fun j' g1 g2 => ?h3, Kept.mk ?h4⟩ ?_
      case mm => simp only [Nat.add_assoc]; exact Nat.add_lt_add_left (by omega) _
      case h1 => simp [upd]; try omega
      case h2 => simp [upd]; try omega
      case h3 => simp [upd, g1, show j' ≠ nx + 45 by omega, show j' ≠ nx + 20 by omega]
      case h4 => simp [upd, show nx + 20 ≠ id by omega]
      rintro _ f H2 m ⟨i, cs, rfl, hi, e54, hm2, hHi, hHb, hcl, ho, hk, hA⟩
      by_cases hlt : i < args.length
      · have eg : args[i]? = some args[i] := List.getElem?_eq_getElem hlt
        have hn := nodesT_mem args i hlt
        repeat' (first | ((with_reducible first | refine wA (by omega) ?_ | refine wB (by omega) ?_ | refine wC (by omega) ?_ | refine wD (by omega) ?_ | refine wE ?_ ?_ | refine wF ?_ ?_ | refine wG ?_ ?_ | refine wH ?_ ?_ | refine wI ?_ ?_ | refine wJ ?_ ?_ | refine wK ?_ ?_ | refine wL ?_ ?_) <;> intro _) | simp (maxSteps := 1000000) (disch := omega) only [go_sem, Nat.reduceAdd, Nat.reduceMul, Nat.reduceSub, Nat.reduceLeDiff, Nat.reduceEqDiff, Nat.reduceBEq, ↓reduceIte, reduceCtorEq, Int.reduceEq, Int.reduceLE, Int.reduceLT, Int.reduceAdd, Int.reduceSub, Int.reduceNeg, Int.reduceToNat, Int.reduceNe, Nat.reducePow, Nat.reduceShiftRight, Nat.reduceMod, Tm.pv, *])
        obtain ⟨r, hr⟩ : ∃ r, args.length - i = r + 1 := ⟨args.length - i - 1, by omega⟩
        rw [hr] at hHb
        refine call_mut (copyTo_p args[i].size args[i] (Nat.le_refl _) (by omega) _ _ (nx + 45) (i * 5) cs (zeros [.int .i64 0, .int .i64 0, .string ⟨#[]⟩, .slice none 0 0, .slice none 0 0] r) true hHb (Nat.lt_of_lt_of_le hm2 (Nat.le_add_right _ _)) hcl) ?_
        rintro H' nx' r' ⟨hn1, c, hc1, hc2, hc4⟩ -
        have hn2 : m ≤ nx' := Nat.le_trans (Nat.le_add_right _ _) hn1
        have hc3 : ∀ j, j ≠ nx + 45 → j < m → H' j = H2 j := fun j a b => hc4 j a (Nat.lt_of_lt_of_le b (Nat.le_add_right _ _))
        have hne : nx + 45 ≠ id := by omega
        have hHi' : H' id = _ := (hc3 id hne.symm (by omega)).trans hHi
        have hrr : args.length - (i + 1) = r := by omega
        have hl5 := hc2.len
        have ho' : Kept (OwnTs H' (nx + 46) nx' (cs ++ c) (args.take (i + 1))) := Kept.mk (by
          rw [List.take_succ_eq_append_getElem hlt]
          exact OwnTs.snoc (hc2.mono _ _ _ _ _ _ (Nat.le_add_right _ _ : m ≤ _) (Nat.le_refl _) fun j _ _ => rfl) (by omega) _ _ _ (ho.out.mono _ _ _ _ _ _ (Nat.le_refl _) (Nat.le_refl _) fun j h1 h2 => hc3 j (by omega) (by omega)) (by omega))
        have hk' : Kept (∀ j', j' ≠ id → j' < nx → H' j' = H j') := Kept.mk fun j' g1 g2 => by rw [hc3 j' (by omega) (by omega), hk.out j' g1 g2]
        have hA' : Kept (H' (nx + 20) = some ⟨ls.flatMap (Lv.pvB true), true⟩) := Kept.mk ((hc3 (nx + 20) (by omega) (by omega)).trans hA.out)
        clear ho hk hc3 hc4 hc2 hn1 hHi hHb hA
        repeat' (first | ((with_reducible first | refine wA (by omega) ?_ | refine wB (by omega) ?_ | refine wC (by omega) ?_ | refine wD (by omega) ?_ | refine wE ?_ ?_ | refine wF ?_ ?_ | refine wG ?_ ?_ | refine wH ?_ ?_ | refine wI ?_ ?_ | refine wJ ?_ ?_ | refine wK ?_ ?_ | refine wL ?_ ?_) <;> intro _) | simp (maxSteps := 1000000) (disch := omega) only [go_sem, Nat.reduceAdd, Nat.reduceMul, Nat.reduceSub, Nat.reduceLeDiff, Nat.reduceEqDiff, Nat.reduceBEq, ↓reduceIte, reduceCtorEq, Int.reduceEq, Int.reduceLE, Int.reduceLT, Int.reduceAdd, Int.reduceSub, Int.reduceNeg, Int.reduceToNat, Int.reduceNe, Nat.reducePow, Nat.reduceShiftRight, Nat.reduceMod, *])
        refine Nx.mk (args.length - (i + 1)) cE1 ⟨i + 1, cs ++ c, rfl, cE1, cE1, ?mm, hHi', ?h1, ?h2, ?h4, hk', hA'⟩
        case mm => exact (by omega : nx + 45 < nx' + 2)
        case h4 => exact Kept.mk (ho'.out.mono _ _ _ _ _ _ (Nat.le_refl _) (by omega : nx' ≤ nx' + 2) fun _ _ _ => rfl)
        case h1 => rw [hrr, List.append_assoc]; exact hc1
        case h2 => rw [List.length_append, hl5, hcl, Nat.succ_mul]
      · obtain rfl : i = args.length := by omega
        have hoo := ho.out
        rw [List.take_length] at hoo
        have ho2 := Kept.mk hoo
        have hHb2 := hHb
        rw [Nat.sub_self] at hHb2
        simp only [zeros, List.append_nil] at hHb2
        clear ho hoo
        repeat' (first | ((with_reducible first | refine wA (by omega) ?_ | refine wB (by omega) ?_ | refine wC (by omega) ?_ | refine wD (by omega) ?_ | refine wE ?_ ?_ | refine wF ?_ ?_ | refine wG ?_ ?_ | refine wH ?_ ?_ | refine wI ?_ ?_ | refine wJ ?_ ?_ | refine wK ?_ ?_ | refine wL ?_ ?_) <;> intro _) | simp (maxSteps := 1000000) (disch := omega) only [go_sem, Nat.reduceAdd, Nat.reduceMul, Nat.reduceSub, Nat.reduceLeDiff, Nat.reduceEqDiff, Nat.reduceBEq, ↓reduceIte, reduceCtorEq, Int.reduceEq, Int.reduceLE, Int.reduceLT, Int.reduceAdd, Int.reduceSub, Int.reduceNeg, Int.reduceToNat, Int.reduceNe, Nat.reducePow, Nat.reduceShiftRight, Nat.reduceMod, *])
        refine fin_mut (.tup []) (.inl rfl) rfl ⟨?g0, _, hHi, ⟨_, _, rfl, ?g1, .inr ⟨fun h => hz (by rw [h]; rfl), cs, rfl, hHb2, ?g2⟩⟩, hk.out⟩
        case g0 => simp only [Nat.add_assoc]; omega
        case g1 => exact .inr ⟨hl, rfl, hA.out⟩
        case g2 => exact ho2.out.mono _ _ _ _ _ _ (Nat.le_refl _) (Nat.le_add_right _ _) fun _ _ _ => rfl
end
section
theorem PMut.lendF {P : Program} {f : FuncId} {args : List PV} {r : PV} {H : Nat → Option PObj} {nx : Nat} (G : Nat → Bool) (k : Nat) (hp : PPure P f (args.map (frgF G k H)) r) (hf : r.flat = true) : PMut P f args H nx (fun H' nx' r' => H' = H ∧ nx' = nx ∧ r' = r) := by
  refine ⟨hp.1, fun w0 ok0 rho w vals hH hfree hv => ?_⟩
  have hv2 : RepL (viewOf w0 ok0 (less G H) rho w) (args.map (frgF G k H)) vals := map_repl (fun x v hx => frgF_sound hH k x v hx) hv
  refine (pure_core (H2 := less G H) hp hH hfree hv2).mono ?_
  rintro e w' ⟨v, he, h1, h2, h3, h4⟩
  exact ⟨v, H, nx, r, rho, he, ⟨rfl, rfl, rfl⟩, h1, h2, Nat.le_refl _, hfree, fun _ _ => rfl, h3.flat hf _⟩
def RowG (G : Nat → Bool) (H : Nat → Option PObj) (sz : Nat) (a : PV) (es : List (List PV)) : Prop :=
  (es = [] ∧ a = .sl sz []) ∨ ∃ id w, a = .osl id 0 es.length sz ∧ G id = true ∧ H id = some ⟨es.flatten, w⟩
theorem RowG.frg {G : Nat → Bool} {H : Nat → Option PObj} {sz : Nat} {a : PV} {es : List (List PV)} (h : RowG G H sz a es) (hz : ∀ e ∈ es, e.length = sz) : Weak (frgF G 1 H a) (.fsl sz es) := by
  rcases h with ⟨rfl, rfl⟩ | ⟨id, w, rfl, hg, hH⟩
  · exact fun V v hv => .fsl sz [] v (fun _ _ _ _ _ h => absurd rfl h) hv
  · have hlen : es.flatten.length = es.length * sz := by
      clear hH hg
      induction es with
      | nil => simp
      | cons e r ih =>
        rw [List.flatten_cons, List.length_append, ih (fun x hx => hz x (by simp [hx])), hz e (by simp), List.length_cons, Nat.succ_mul]
        omega
    simp only [frgF, hg, if_true, hH, List.drop_zero]
    rw [if_pos (by omega), List.take_of_length_le (by omega)]
    refine Weak.fslW (by rw [chunks_length]) hz ?_
    rw [chunks_flatten sz es.length _ (by rw [List.length_map]; omega)]
    rw [List.map_id']
    exact .refl _
def Tm.kD : Tm → Int
  | .mk k _ _ _ _ => k
def Tm.nD : Tm → Int
  | .mk _ n _ _ _ => n
def Tm.sD : Tm → ByteArray
  | .mk _ _ s _ _ => s
def Tm.lD : Tm → List Lv
  | .mk _ _ _ ls _ => ls
def Tm.aD : Tm → List Tm
  | .mk _ _ _ _ xs => xs
theorem tmsB_immLL : ∀ ts : List Tm, immLL (ts.map (Tm.pvB true)) = true
  | [] => rfl
  | t :: r => by simp only [List.map_cons, immLL, tmsB_immLL r, tpvB_imm]; rfl
def entC (e : Ent) (b1 a2 c : PV) : List PV :=
  [.sc (.int .i64 e.kind), .sc (.int .i64 e.params), .sc (.string e.name), .sc (.int .i64 e.typ.kD), .sc (.int .i64 e.typ.nD), .sc (.string e.typ.sD), .fsl 3 (e.typ.lD.map (Lv.pvB true)), b1,
    .sc (.int .i64 e.val.kD), .sc (.int .i64 e.val.nD), .sc (.string e.val.sD), a2, .fsl 5 (e.val.aD.map (Tm.pvB true)), .sc (.int .i64 e.height), .sc (.string e.family), .sc (.int .i64 e.fixed), .sc (.int .i64 e.index), .sc (.int .i64 e.fields), c]
def EntO (G : Nat → Bool) (H : Nat → Option PObj) (e : Ent) (b1 a2 c : PV) : Prop :=
  RowG G H 5 b1 (e.typ.aD.map (Tm.pvB true)) ∧ RowG G H 3 a2 (e.val.lD.map (Lv.pvB true)) ∧ RowG G H 1 c (e.ctors.map txt)
theorem EntO.weak {G : Nat → Bool} {H : Nat → Option PObj} {e : Ent} {b1 a2 c : PV} (h : EntO G H e b1 a2 c) : WeakL ((entC e b1 a2 c).map (frgF G 1 H)) (e.pvB true) := by
  obtain ⟨h1, h2, h3⟩ := h
  have w1 := h1.frg (fun x hx => by obtain ⟨t, _, rfl⟩ := List.mem_map.1 hx; exact tpvB_len true t)
  have w2 := h2.frg (fun x hx => by obtain ⟨t, _, rfl⟩ := List.mem_map.1 hx; exact pvB_len true t)
  have w3 := h3.frg (fun x hx => by obtain ⟨t, _, rfl⟩ := List.mem_map.1 hx; rfl)
  obtain ⟨kind, params, name, ⟨k1, n1, s1, ls1, as1⟩, ⟨k2, n2, s2, ls2, as2⟩, height, family, fixed, index, fields, ctors⟩ := e
  have f1 : frgF G 1 H (.fsl 3 (ls1.map (Lv.pvB true))) = .fsl 3 (ls1.map (Lv.pvB true)) := frgF_imm _ _ _ _ (lvsB_imm true ls1)
  have f2 : frgF G 1 H (.fsl 5 (as2.map (Tm.pvB true))) = .fsl 5 (as2.map (Tm.pvB true)) := frgF_imm _ _ _ _ (by simp only [PV.imm]; exact tmsB_immLL as2)
  have f3 : ∀ v, frgF G 1 H (.sc v) = .sc v := fun v => rfl
  simp only [entC, Tm.kD, Tm.nD, Tm.sD, Tm.lD, Tm.aD, List.map_cons, List.map_nil, f1, f2, f3] at w1 w2 w3 ⊢
  simp only [Ent.pvB, Tm.pvB, slB, if_true, List.cons_append, List.nil_append]
  exact ⟨.refl _, .refl _, .refl _, .refl _, .refl _, .refl _, .refl _, w1, .refl _, .refl _, .refl _, w2, .refl _, .refl _, .refl _, .refl _, .refl _, .refl _, w3.trans (.fsl 1 _), trivial⟩
theorem EntO.same {G : Nat → Bool} {H : Nat → Option PObj} {e : Ent} {b1 a2 c : PV} (h : EntO G H e b1 a2 c) (x : Ent) (nx : Nat) :
    PMut Try.prog F.decl_Same [.agg (entC e b1 a2 c), .agg x.pv] H nx (fun H' nx' r' => H' = H ∧ nx' = nx ∧ r' = .sc (.bool (e.same x))) := by
  refine PMut.lendF G 2 ?_ rfl
  have hx : frgF G 2 H (.agg x.pv) = .agg x.pv := frgF_imm _ _ _ _ (by simp only [PV.imm]; exact ent_imm x)
  have h1 := eSame_p e x true false rfl
  rw [entB_false] at h1
  simp only [List.map_cons, List.map_nil, hx]
  exact h1.weak ⟨Weak.agg h.weak, .refl _, trivial⟩ (.refl _)
theorem entB_weak (e : Ent) : WeakL (e.pvB true) e.pv := by
  rw [← entB_false]
  simp only [Ent.pvB]
  exact ⟨.refl _, .refl _, .refl _, WeakL.append (by rw [dtv_false]; exact tm_weak true _) (WeakL.append (by rw [dtv_false]; exact tm_weak true _) (.refl _))⟩
theorem EntO.sameEntry {G : Nat → Bool} {H : Nat → Option PObj} {e : Ent} {b1 a2 c : PV} (h : EntO G H e b1 a2 c) (x : Ent) (nx : Nat) :
    PMut Try.prog F.ref00_SameEntry [.agg (entC e b1 a2 c), .agg x.pv] H nx (fun H' nx' r' => H' = H ∧ nx' = nx ∧ r' = .sc (.bool (e.same x))) := by
  refine PMut.lendF G 2 ?_ rfl
  have hx : frgF G 2 H (.agg x.pv) = .agg x.pv := frgF_imm _ _ _ _ (by simp only [PV.imm]; exact ent_imm x)
  have h1 := SameEntry_p e x
  simp only [List.map_cons, List.map_nil, hx]
  exact h1.weak ⟨Weak.agg (h.weak.trans (entB_weak e)), .refl _, trivial⟩ (.refl _)
theorem ent_same_self (e : Ent) : e.same e = true := by
  simp [Ent.same, Ent.numE, Ent.txtE, tm_same_self]
def Lv.inc : Lv → Lv
  | .mk k n args => .mk k (IntKind.i64.wrap (n + 1)) args
def Tm.inc : Tm → Tm
  | .mk k n s ls args => .mk k (IntKind.i64.wrap (n + 1)) s ls args
def incT : List Tm → List Tm
  | [] => []
  | t :: r => t.inc :: r
def incL : List Lv → List Lv
  | [] => []
  | l :: r => l.inc :: r
theorem wrap_ne (n : Int) : IntKind.i64.wrap (n + 1) ≠ n := by rw [IntKind.wrap_i64]; omega
theorem lv_inc_ne (l : Lv) : l.inc.same l = false := by
  obtain ⟨k, n, args⟩ := l
  simp [Lv.inc, Lv.same, wrap_ne]
theorem tm_inc_ne (t : Tm) : t.inc.same t = false := by
  obtain ⟨k, n, s, ls, args⟩ := t
  simp [Tm.inc, Tm.same, wrap_ne]
def addx (s : ByteArray) : ByteArray := s ++ ⟨#[120]⟩
theorem addx_ne (s : ByteArray) : addx s ≠ s := by
  intro h
  have h2 := congrArg ByteArray.size h
  rw [addx, ByteArray.size_append] at h2
  have h1 : (⟨#[120]⟩ : ByteArray).size = 1 := rfl
  omega
def Ent.spoilt (e : Ent) : Ent := ⟨e.kind, e.params, e.name, .mk e.typ.kD e.typ.nD e.typ.sD e.typ.lD (incT e.typ.aD), .mk e.val.kD e.val.nD e.val.sD (incL e.val.lD) e.val.aD, e.height, e.family, e.fixed, e.index, e.fields, e.ctors.map addx⟩
theorem spoilt_same (e : Ent) : e.spoilt.same e = !(decide (0 < e.ctors.length) || decide (0 < e.typ.aD.length) || decide (0 < e.val.lD.length)) := by
  obtain ⟨kind, params, name, ⟨k1, n1, s1, ls1, as1⟩, ⟨k2, n2, s2, ls2, as2⟩, height, family, fixed, index, fields, ctors⟩ := e
  have hc : (ctors.map addx = ctors) ↔ ¬ 0 < ctors.length := by
    cases ctors with
    | nil => simp
    | cons s r => simp [addx_ne s]
  have ht : (Tm.mk k1 n1 s1 ls1 (incT as1)).same (.mk k1 n1 s1 ls1 as1) = true ↔ ¬ 0 < as1.length := by
    cases as1 with
    | nil => simp [incT, tm_same_self]
    | cons x r => simp [incT, Tm.same, sameT, tm_inc_ne x]
  have hv : (Tm.mk k2 n2 s2 (incL ls2) as2).same (.mk k2 n2 s2 ls2 as2) = true ↔ ¬ 0 < ls2.length := by
    cases ls2 with
    | nil => simp [incL, tm_same_self]
    | cons x r => simp [incL, Tm.same, sameL, lv_inc_ne x]
  rw [Bool.eq_iff_iff]
  simp only [Ent.same, Ent.numE, Ent.txtE, Bool.and_eq_true, decide_eq_true_eq, Bool.not_eq_true', Bool.or_eq_false_iff, decide_eq_false_iff_not, and_assoc]
  simp only [Ent.spoilt, Tm.kD, Tm.nD, Tm.sD, Tm.lD, Tm.aD, beq_self_eq_true, true_and, hc, ht, hv]
end
section
set_option maxRecDepth 20000
attribute [local go_sem] pv_len pv_take Nat.add_assoc tm_len tm_take pv_one tm_one tpvB_len tpvB_take tpvB_one pvB_len pvB_take pvB_one id_ne id_ne' id_ne2 List.append_assoc
theorem RowsV.mono {H H' : Nat → Option PObj} {lo m m' ia ib : Nat} {k n : Int} {s : ByteArray} {ls : List Lv} {args : List Tm} {cs : List PV} (h : RowsV H lo m ia ib k n s ls args cs) (hm : m ≤ m') (ha : H' ia = H ia) (hb : H' ib = H ib) (hH : ∀ j, lo ≤ j → j < m → H' j = H j) : RowsV H' lo m' ia ib k n s ls args cs := by
  obtain ⟨a, b, e, h1, h2⟩ := h
  refine ⟨a, b, e, ?_, ?_⟩
  · rcases h1 with h1 | ⟨h0, h1, h3⟩
    · exact .inl h1
    · exact .inr ⟨h0, h1, by rw [ha, h3]⟩
  · rcases h2 with h2 | ⟨h0, cells, h3, h4, h5⟩
    · exact .inl h2
    · exact .inr ⟨h0, cells, h3, by rw [hb, h4], h5.mono _ _ _ _ _ _ (Nat.le_refl _) hm hH⟩
theorem RowsV.len {H : Nat → Option PObj} {lo m ia ib : Nat} {k n : Int} {s : ByteArray} {ls : List Lv} {args : List Tm} {cs : List PV} (h : RowsV H lo m ia ib k n s ls args cs) : cs.length = 5 ∧ cs.all PV.one = true := by
  obtain ⟨a, b, rfl, h1, h2⟩ := h
  refine ⟨rfl, ?_⟩
  rcases h1 with ⟨_, rfl⟩ | ⟨_, rfl, _⟩ <;> rcases h2 with ⟨_, rfl⟩ | ⟨_, _, rfl, _⟩ <;> rfl
set_option maxHeartbeats 4000000 in
theorem cloneV_m (k n : Int) (s : ByteArray) (ls : List Lv) (args : List Tm) (hm : (Tm.mk k n s ls args).nodes ≤ 2 ^ 40) (H : Nat → Option PObj) (nx : Nat) :
    PMut Try.prog F.term_clone [.ptr (Tm.mk k n s ls args).pv] H nx (fun H' nx' r => ∃ m cs, r = .agg cs ∧ RowsV H' (nx + 50) m (nx + 24) (nx + 49) k n s ls args cs ∧ m ≤ nx' ∧ nx + 25 ≤ nx' ∧ ∀ j, j < nx → H' j = H j) := by
  refine mut_by is_term_clone (by simp) fun hb => ?_
  clear hb
  repeat' (first | ((with_reducible first | refine wA (by omega) ?_ | refine wB (by omega) ?_ | refine wC (by omega) ?_ | refine wD (by omega) ?_ | refine wE ?_ ?_ | refine wF ?_ ?_ | refine wG ?_ ?_ | refine wH ?_ ?_ | refine wI ?_ ?_ | refine wJ ?_ ?_ | refine wK ?_ ?_ | refine wL ?_ ?_) <;> intro _) | simp (maxSteps := 1000000) (disch := omega) only [go_sem, Nat.reduceAdd, Nat.reduceMul, Nat.reduceSub, Nat.reduceLeDiff, Nat.reduceEqDiff, Nat.reduceBEq, ↓reduceIte, reduceCtorEq, Int.reduceEq, Int.reduceLE, Int.reduceLT, Int.reduceAdd, Int.reduceSub, Int.reduceNeg, Int.reduceToNat, Int.reduceNe, Nat.reducePow, Nat.reduceShiftRight, Nat.reduceMod, mc_term_clone, *])
  refine call_mut (copyToV_p k n s ls args hm _ _ (nx + 1) (by simp [upd, zero5]) (by simp)) ?_
  rintro H' nx' r' ⟨hn1, cs, hc1, hc2, hc4⟩ -
  obtain ⟨hl, hone⟩ := hc2.len
  have ht : List.take 5 cs = cs := List.take_of_length_le (by omega)
  have h0 : H' nx = some ⟨[.sc (.int .i64 0), .sc (.int .i64 0), .sc (.string ⟨#[]⟩), .sc (.slice none 0 0), .sc (.slice none 0 0)], true⟩ := (hc4 nx (by omega) (by show nx < nx + 4; omega)).trans (by simp [upd])
  have hn1' : nx + 4 + 21 ≤ nx' := hn1
  have hc2' : RowsV H' (nx + 4 + 46) nx' (nx + 4 + 20) (nx + 4 + 45) k n s ls args cs := hc2
  have hc4' : Kept (∀ j, j < nx → H' j = H j) := Kept.mk fun j hj => (hc4 j (by omega) (by show j < nx + 4; omega)).trans (by simp [upd, show j ≠ nx by omega, show j ≠ nx + 1 by omega])
  have hc3 := Kept.mk hc2'
  clear hc4 hc2 hc2' hn1
  repeat' (first | ((with_reducible first | refine wA (by omega) ?_ | refine wB (by omega) ?_ | refine wC (by omega) ?_ | refine wD (by omega) ?_ | refine wE ?_ ?_ | refine wF ?_ ?_ | refine wG ?_ ?_ | refine wH ?_ ?_ | refine wI ?_ ?_ | refine wJ ?_ ?_ | refine wK ?_ ?_ | refine wL ?_ ?_) <;> intro _) | simp (maxSteps := 1000000) (disch := omega) only [go_sem, Nat.reduceAdd, Nat.reduceMul, Nat.reduceSub, Nat.reduceLeDiff, Nat.reduceEqDiff, Nat.reduceBEq, ↓reduceIte, reduceCtorEq, Int.reduceEq, Int.reduceLE, Int.reduceLT, Int.reduceAdd, Int.reduceSub, Int.reduceNeg, Int.reduceToNat, Int.reduceNe, Nat.reducePow, Nat.reduceShiftRight, Nat.reduceMod, *])
  refine fin_mut (.agg cs) (.inr rfl) (by (simp (disch := omega) only [go_sem, Nat.reduceMul, Nat.reduceSub, Nat.reduceShiftRight, Nat.reduceMod, Nat.reduceEqDiff, Nat.reduceAdd, ↓reduceIte, Nat.reduceLeDiff, hl, ht, *]); all_goals rfl) ⟨nx', cs, rfl, ?g1, ?g0, ?g2, fun j hj => ?g3⟩
  case g0 => exact Nat.le_add_right _ _
  case g1 => exact hc3.out.mono (Nat.le_refl _) (upd_ne _ _ (by omega)) (upd_ne _ _ (by omega)) fun j h1 h2 => upd_ne _ _ (by omega)
  case g2 => exact Nat.le_trans hn1' (Nat.le_add_right _ _)
  case g3 => exact (upd_ne _ _ (by omega)).trans (hc4'.out j hj)
set_option maxHeartbeats 4000000 in
theorem appV_m (k n : Int) (s : ByteArray) (ls : List Lv) (args : List Tm) (hm : (Tm.mk k n s ls args).nodes ≤ 2 ^ 40) (nx : Nat) :
    PMut Try.prog F.term_App [.agg (Tm.mk k n s ls args).pv, .sc (.slice none 0 0)] noneOwn nx (fun H' nx' r => ∃ m cs, r = .agg cs ∧ RowsV H' (nx + 55) m (nx + 29) (nx + 54) k n s ls args cs) := by
  refine mut_by is_term_App (by simp) fun hb => ?_
  clear hb
  repeat' (first | ((with_reducible first | refine wA (by omega) ?_ | refine wB (by omega) ?_ | refine wC (by omega) ?_ | refine wD (by omega) ?_ | refine wE ?_ ?_ | refine wF ?_ ?_ | refine wG ?_ ?_ | refine wH ?_ ?_ | refine wI ?_ ?_ | refine wJ ?_ ?_ | refine wK ?_ ?_ | refine wL ?_ ?_) <;> intro _) | simp (maxSteps := 1000000) (disch := omega) only [go_sem, Nat.reduceAdd, Nat.reduceMul, Nat.reduceSub, Nat.reduceLeDiff, Nat.reduceEqDiff, Nat.reduceBEq, ↓reduceIte, reduceCtorEq, Int.reduceEq, Int.reduceLE, Int.reduceLT, Int.reduceAdd, Int.reduceSub, Int.reduceNeg, Int.reduceToNat, Int.reduceNe, Nat.reducePow, Nat.reduceShiftRight, Nat.reduceMod, mc_term_App, *])
  refine call_mut (cloneV_m k n s ls args hm _ _) ?_
  rintro H' nx' r' ⟨m, cs, rfl, hc2, hm2, hn, hc4⟩ -
  obtain ⟨hl, hone⟩ := hc2.len
  have ht : List.take 5 cs = cs := List.take_of_length_le (by omega)
  have h1 : H' (nx + 1) = some ⟨[.sc (.int .i64 0), .sc (.int .i64 0), .sc (.string ⟨#[]⟩), .sc (.slice none 0 0), .sc (.slice none 0 0)], true⟩ := (hc4 (nx + 1) (by show nx + 1 < nx + 5; omega)).trans (by simp [upd])
  have hc3 : Kept (RowsV H' (nx + 55) m (nx + 29) (nx + 54) k n s ls args cs) := Kept.mk hc2
  have hn' : nx + 30 ≤ nx' := hn
  clear hc4 hc2 hn
  repeat' (first | ((with_reducible first | refine wA (by omega) ?_ | refine wB (by omega) ?_ | refine wC (by omega) ?_ | refine wD (by omega) ?_ | refine wE ?_ ?_ | refine wF ?_ ?_ | refine wG ?_ ?_ | refine wH ?_ ?_ | refine wI ?_ ?_ | refine wJ ?_ ?_ | refine wK ?_ ?_ | refine wL ?_ ?_) <;> intro _) | simp (maxSteps := 1000000) (disch := omega) only [go_sem, Nat.reduceAdd, Nat.reduceMul, Nat.reduceSub, Nat.reduceLeDiff, Nat.reduceEqDiff, Nat.reduceBEq, ↓reduceIte, reduceCtorEq, Int.reduceEq, Int.reduceLE, Int.reduceLT, Int.reduceAdd, Int.reduceSub, Int.reduceNeg, Int.reduceToNat, Int.reduceNe, Nat.reducePow, Nat.reduceShiftRight, Nat.reduceMod, *])
  refine c_rounds 1 ?_
  repeat' (first | ((with_reducible first | refine wA (by omega) ?_ | refine wB (by omega) ?_ | refine wC (by omega) ?_ | refine wD (by omega) ?_ | refine wE ?_ ?_ | refine wF ?_ ?_ | refine wG ?_ ?_ | refine wH ?_ ?_ | refine wI ?_ ?_ | refine wJ ?_ ?_ | refine wK ?_ ?_ | refine wL ?_ ?_) <;> intro _) | simp (maxSteps := 1000000) (disch := omega) only [go_sem, Nat.reduceAdd, Nat.reduceMul, Nat.reduceSub, Nat.reduceLeDiff, Nat.reduceEqDiff, Nat.reduceBEq, ↓reduceIte, reduceCtorEq, Int.reduceEq, Int.reduceLE, Int.reduceLT, Int.reduceAdd, Int.reduceSub, Int.reduceNeg, Int.reduceToNat, Int.reduceNe, Nat.reducePow, Nat.reduceShiftRight, Nat.reduceMod, rounds_next, *])
  refine fin_mut (.agg cs) (.inr rfl) (by (simp (disch := omega) only [go_sem, Nat.reduceMul, Nat.reduceSub, Nat.reduceShiftRight, Nat.reduceMod, Nat.reduceEqDiff, Nat.reduceAdd, ↓reduceIte, Nat.reduceLeDiff, hl, ht, *]); all_goals rfl) ⟨m, cs, rfl, ?_⟩
  exact hc3.out.mono (Nat.le_refl _) (by simp [upd, show nx + 29 ≠ nx + 3 by omega, show nx + 29 ≠ nx + 1 by omega]) (by simp [upd]) fun j h1 h2 => by simp [upd, show j ≠ nx + 3 by omega, show j ≠ nx + 1 by omega]
def rowV (id sz : Nat) : List (List PV) → PV
  | [] => .sl sz []
  | x :: r => .osl id 0 (x :: r).length sz
def rowO (w : Bool) : List (List PV) → Option PObj
  | [] => none
  | x :: r => some ⟨(x :: r).flatten, w⟩
theorem rowV_one (id sz : Nat) (es : List (List PV)) : (rowV id sz es).one = true := by cases es <;> rfl
theorem rows_flen {sz : Nat} : ∀ {es : List (List PV)}, (∀ e ∈ es, e.length = sz) → es.flatten.length = es.length * sz
  | [], _ => by simp
  | e :: r, h => by
    rw [List.flatten_cons, List.length_append, rows_flen (fun x hx => h x (by simp [hx])), h e (by simp), List.length_cons, Nat.succ_mul]
    omega
theorem frg_row {G : Nat → Bool} {H : Nat → Option PObj} {K sz id : Nat} {w : Bool} {es : List (List PV)} (hG : G id = true) (hH : H id = some ⟨es.flatten, w⟩) (hi : immL es.flatten = true) (hz : ∀ e ∈ es, e.length = sz) :
    Weak (frgF G (K + 1) H (.osl id 0 es.length sz)) (.fsl sz es) := by
  have hlen := rows_flen hz
  simp only [frgF, hG, if_true, hH, List.drop_zero]
  rw [if_pos (by omega), List.take_of_length_le (by omega), frgF_immL _ _ _ _ hi]
  refine Weak.fslW (by rw [chunks_length]) hz ?_
  rw [chunks_flatten sz es.length _ (by omega)]
  exact .refl _
theorem lvB_rows (ls : List Lv) : ∀ e ∈ ls.map (Lv.pvB true), e.length = 3 := fun e he => by obtain ⟨l, _, rfl⟩ := List.mem_map.1 he; exact pvB_len true l
theorem tmB_rows (ts : List Tm) : ∀ e ∈ ts.map (Tm.pvB true), e.length = 5 := fun e he => by obtain ⟨l, _, rfl⟩ := List.mem_map.1 he; exact tpvB_len true l
theorem tmB_imm (ts : List Tm) : immL (ts.map (Tm.pvB true)).flatten = true := by rw [← immLL_flatten]; exact tmsB_immLL ts
theorem lvB_imm (ls : List Lv) : immL (ls.map (Lv.pvB true)).flatten = true := by rw [← immLL_flatten]; exact lvsB_imm true ls
theorem appT_new (k n : Int) (s : ByteArray) (ls : List Lv) (args : List Tm) (hm : (Tm.mk k n s ls args).nodes ≤ 2 ^ 40) (id : Nat) :
    NewV Try.prog F.term_App [.agg (Tm.mk k n s ls args).pv, .sc (.slice none 0 0)] id (.agg [.sc (.int .i64 k), .sc (.int .i64 n), .sc (.string s), .fsl 3 (ls.map (Lv.pvB true)), rowV id 5 (args.map (Tm.pvB true))]) (rowO true (args.map (Tm.pvB true))) := by
  refine new_of_mut fun nx => PMut.become (appV_m k n s ls args hm nx) ?_
  rintro H' nx' r ⟨m, cs, rfl, a, b, rfl, h1, h2⟩
  have wa : Weak (frgF (fun j => decide (j ≠ nx + 54)) (sizeL args + 1) H' a) (.fsl 3 (ls.map (Lv.pvB true))) := by
    rcases h1 with ⟨rfl, rfl⟩ | ⟨_, rfl, h1⟩
    · exact .nilF 3
    · have := frg_row (G := fun j => decide (j ≠ nx + 54)) (K := sizeL args) (sz := 3) (by simp) h1 (lvB_imm ls) (lvB_rows ls)
      rwa [List.length_map] at this
  cases args with
  | nil =>
    rcases h2 with ⟨_, rfl⟩ | ⟨h, _⟩
    · refine ⟨fun j => decide (j ≠ nx + 54), sizeL ([] : List Tm) + 2, fun _ => none, .agg [.sc (.int .i64 k), .sc (.int .i64 n), .sc (.string s), .fsl 3 (ls.map (Lv.pvB true)), .sl 5 []], fun j o2 h => (by cases h), ?_, .inl ⟨rfl, ?_, rfl⟩⟩
      · exact Weak.agg ⟨.refl _, .refl _, .refl _, wa, .nil 5, trivial⟩
      · simp only [PV.imm, immL, lvsB_imm]; rfl
    · exact absurd rfl h
  | cons x r =>
    rcases h2 with ⟨h, _⟩ | ⟨_, cells, rfl, h3, h4⟩
    · cases h
    · have hl := h4.len
      refine ⟨fun j => decide (j ≠ nx + 54), sizeL (x :: r) + 2, fun j => if j = nx + 54 then some ⟨((x :: r).map (Tm.pvB true)).flatten, true⟩ else none, .agg [.sc (.int .i64 k), .sc (.int .i64 n), .sc (.string s), .fsl 3 (ls.map (Lv.pvB true)), .osl (nx + 54) 0 (x :: r).length 5], ?_, ?_, .inr ⟨nx + 54, ⟨((x :: r).map (Tm.pvB true)).flatten, true⟩, rfl, by omega, by simp, tmB_imm (x :: r), ?_, ?_⟩⟩
      · intro j o2 hj
        by_cases he : j = nx + 54
        · subst he
          simp only [if_true, Option.some.injEq] at hj
          subst hj
          refine ⟨⟨cells.map (frgF (fun j => decide (j ≠ nx + 54)) (sizeL (x :: r) + 2) H'), true⟩, by simp [lessC, h3], isIt_len (by simp only [List.length_map, hl, List.length_cons]; omega), rfl, ?_⟩
          exact OwnTs.frg _ _ _ _ h4 (fun j g1 g2 => by simp; omega) _ (by omega)
        · simp [he] at hj
      · refine Weak.agg ⟨.refl _, .refl _, .refl _, wa, ?_, trivial⟩
        exact .of_eq (by simp [frgF])
      · intro c hc
        simp only [List.mem_cons, List.not_mem_nil, or_false] at hc
        rcases hc with rfl | rfl | rfl | rfl | rfl
        · exact .inl rfl
        · exact .inl rfl
        · exact .inl rfl
        · exact .inl (lvsB_imm true ls)
        · exact .inr ⟨_, _, _, rfl⟩
      · simp [ren, ren1, rowV]
theorem appV_new (k n : Int) (s : ByteArray) (ls : List Lv) (args : List Tm) (hm : (Tm.mk k n s ls args).nodes ≤ 2 ^ 40) (id : Nat) :
    NewV Try.prog F.term_App [.agg (Tm.mk k n s ls args).pv, .sc (.slice none 0 0)] id (.agg [.sc (.int .i64 k), .sc (.int .i64 n), .sc (.string s), rowV id 3 (ls.map (Lv.pvB true)), .fsl 5 (args.map (Tm.pvB true))]) (rowO true (ls.map (Lv.pvB true))) := by
  refine new_of_mut fun nx => PMut.become (appV_m k n s ls args hm nx) ?_
  rintro H' nx' r ⟨m, cs, rfl, a, b, rfl, h1, h2⟩
  have wb : Weak (frgF (fun j => decide (j ≠ nx + 29)) (sizeL args + 1) H' b) (.fsl 5 (args.map (Tm.pvB true))) := by
    rcases h2 with ⟨rfl, rfl⟩ | ⟨_, cells, rfl, h3, h4⟩
    · exact .nilF 5
    · have hl := h4.len
      simp only [frgF, show decide (nx + 54 ≠ nx + 29) = true by simp, if_true, h3, List.drop_zero]
      rw [if_pos (by omega), List.take_of_length_le (by omega)]
      refine Weak.fslW (by rw [chunks_length, List.length_map]) (tmB_rows args) ?_
      rw [chunks_flatten 5 args.length _ (by rw [List.length_map, hl])]
      exact OwnTs.frg _ _ _ _ h4 (fun j g1 g2 => by simp; omega) _ (Nat.le_refl _)
  cases ls with
  | nil =>
    rcases h1 with ⟨_, rfl⟩ | ⟨h, _⟩
    · refine ⟨fun j => decide (j ≠ nx + 29), sizeL args + 2, fun _ => none, .agg [.sc (.int .i64 k), .sc (.int .i64 n), .sc (.string s), .sl 3 [], .fsl 5 (args.map (Tm.pvB true))], fun j o2 h => (by cases h), ?_, .inl ⟨rfl, ?_, rfl⟩⟩
      · exact Weak.agg ⟨.refl _, .refl _, .refl _, .nil 3, wb, trivial⟩
      · simp only [PV.imm, immL, tmsB_immLL]; rfl
    · exact absurd rfl h
  | cons x r =>
    rcases h1 with ⟨h, _⟩ | ⟨_, rfl, h3⟩
    · cases h
    · refine ⟨fun j => decide (j ≠ nx + 29), sizeL args + 2, fun j => if j = nx + 29 then some ⟨((x :: r).map (Lv.pvB true)).flatten, true⟩ else none, .agg [.sc (.int .i64 k), .sc (.int .i64 n), .sc (.string s), .osl (nx + 29) 0 (x :: r).length 3, .fsl 5 (args.map (Tm.pvB true))], ?_, ?_, .inr ⟨nx + 29, ⟨((x :: r).map (Lv.pvB true)).flatten, true⟩, rfl, by omega, by simp, lvB_imm (x :: r), ?_, ?_⟩⟩
      · intro j o2 hj
        by_cases he : j = nx + 29
        · subst he
          simp only [if_true, Option.some.injEq] at hj
          subst hj
          refine ⟨⟨((x :: r).map (Lv.pvB true)).flatten, true⟩, ?_, isIt_len ?_, rfl, .refl _⟩
          · simp only [lessC, ne_eq, not_true_eq_false, decide_false, Bool.false_eq_true, if_false, h3, Option.map_some]
            have : (x :: r).flatMap (Lv.pvB true) = ((x :: r).map (Lv.pvB true)).flatten := rfl
            rw [this, frgF_immL _ _ _ _ (lvB_imm _)]
          · rw [rows_flen (lvB_rows (x :: r)), List.length_map, List.length_cons]; omega
        · simp [he] at hj
      · refine Weak.agg ⟨.refl _, .refl _, .refl _, ?_, wb, trivial⟩
        exact .of_eq (by simp [frgF])
      · intro c hc
        simp only [List.mem_cons, List.not_mem_nil, or_false] at hc
        rcases hc with rfl | rfl | rfl | rfl | rfl
        · exact .inl rfl
        · exact .inl rfl
        · exact .inl rfl
        · exact .inr ⟨_, _, _, rfl⟩
        · exact .inl (tmsB_immLL args)
      · simp [ren, ren1, rowV]
theorem sClone_new (xs : List ByteArray) (hl : xs.length ≤ 2 ^ 40) (id : Nat) : NewV Try.prog F.slices_Clone_string_string [.sl 1 (xs.map txt)] id (rowV id 1 (xs.map txt)) (rowO false (xs.map txt)) := by
  cases xs with
  | nil =>
    refine new_of_mut fun nx => PMut.become (sClone_m [] hl noneOwn nx) fun H' nx' r h => ?_
    refine ⟨fun _ => true, 1, fun _ => none, .sl 1 [], fun j o2 h => (by cases h), ?_, .inl ⟨rfl, rfl, rfl⟩⟩
    obtain ⟨_, _, ⟨_, rfl⟩ | ⟨id', h1, h2, rfl, h4⟩⟩ := h
    · exact .nil 1
    · simp only [frgF, if_true, h4]
      exact Weak.fsl 1 []
  | cons x r =>
    refine new_of_mut fun nx => PMut.mono (sClone_m (x :: r) hl noneOwn nx) fun H' nx' r h => ?_
    obtain ⟨_, _, ⟨h, _⟩ | ⟨id', h1, h2, rfl, h4⟩⟩ := h
    · cases h
    · refine .inr ⟨id', ⟨_, false⟩, rfl, h1, h4, ?_, .inr ⟨_, _, _, rfl⟩, by simp [ren, ren1, rowV]⟩
      exact imm_txts (x :: _)
end
section
set_option maxRecDepth 20000
attribute [local go_sem] pv_len pv_take Nat.add_assoc tm_len tm_take pv_one tm_one id_ne id_ne' id_ne2 List.append_assoc tpvB_len tpvB_take tpvB_one o_calln
theorem updO_at {H : Nat → Option PObj} {id j : Nat} {ob : Option PObj} : updO H id ob j = if j = id then (match ob with | some o => some o | none => H j) else H j := by
  cases ob with
  | none => simp [updO]
  | some o => by_cases h : j = id <;> simp [updO, upd, h]
attribute [local go_sem] updO_at
set_option maxHeartbeats 8000000 in
theorem eClone_m (e : Ent) (h1 : e.typ.nodes ≤ 2 ^ 40) (h2 : e.val.nodes ≤ 2 ^ 40) (h3 : e.ctors.length ≤ 2 ^ 40) (H : Nat → Option PObj) (nx : Nat) :
    PMut Try.prog F.decl_Clone [.agg e.pv] H nx (fun H' nx' r => r = .agg (entC e (rowV (nx + 4) 5 (e.typ.aD.map (Tm.pvB true))) (rowV (nx + 7) 3 (e.val.lD.map (Lv.pvB true))) (rowV (nx + 10) 1 (e.ctors.map txt))) ∧
      nx + 11 ≤ nx' ∧ (∀ j, j < nx → H' j = H j) ∧ (e.typ.aD ≠ [] → H' (nx + 4) = some ⟨(e.typ.aD.map (Tm.pvB true)).flatten, true⟩) ∧ (e.val.lD ≠ [] → H' (nx + 7) = some ⟨(e.val.lD.map (Lv.pvB true)).flatten, true⟩) ∧ (e.ctors ≠ [] → H' (nx + 10) = some ⟨(e.ctors.map txt).flatten, false⟩)) := by
  obtain ⟨kind, params, name, ⟨k1, n1, s1, ls1, as1⟩, ⟨k2, n2, s2, ls2, as2⟩, height, family, fixed, index, fields, ctors⟩ := e
  simp only [Tm.kD, Tm.nD, Tm.sD, Tm.lD, Tm.aD] at h1 h2 h3 ⊢
  refine mut_by is_decl_CloneN (by simp) fun hb => ?_
  clear hb
  have c1 := appT_new k1 n1 s1 ls1 as1 h1 (nx + 4)
  have c2 := appV_new k2 n2 s2 ls2 as2 h2 (nx + 7)
  have c3 := sClone_new ctors h3 (nx + 10)
  simp only [Tm.pv] at c1 c2
  have o1 := rowV_one (nx + 4) 5 (as1.map (Tm.pvB true))
  have o2 := rowV_one (nx + 7) 3 (ls2.map (Lv.pvB true))
  have o3 := rowV_one (nx + 10) 1 (ctors.map txt)
  simp only [PV.one] at o1 o2 o3
  have o4 : (rowV (nx + 10) 1 (ctors.map txt)).cellsOf = [rowV (nx + 10) 1 (ctors.map txt)] := by cases ctors <;> rfl
  simp only [PV.cellsOf] at o4
  clear h1 h2 h3
  repeat' (first | ((with_reducible first | refine wA (by omega) ?_ | refine wB (by omega) ?_ | refine wC (by omega) ?_ | refine wD (by omega) ?_ | refine wE ?_ ?_ | refine wF ?_ ?_ | refine wG ?_ ?_ | refine wH ?_ ?_ | refine wI ?_ ?_ | refine wJ ?_ ?_ | refine wK ?_ ?_ | refine wL ?_ ?_) <;> intro _) | simp (maxSteps := 1000000) (disch := omega) only [go_sem, Nat.reduceAdd, Nat.reduceMul, Nat.reduceSub, Nat.reduceLeDiff, Nat.reduceEqDiff, Nat.reduceBEq, ↓reduceIte, reduceCtorEq, Int.reduceEq, Int.reduceLE, Int.reduceLT, Int.reduceAdd, Int.reduceSub, Int.reduceNeg, Int.reduceToNat, Int.reduceNe, Nat.reducePow, Nat.reduceShiftRight, Nat.reduceMod, mc_decl_CloneN, Ent.pv, Tm.pv, *])
  refine call_new c1 ?_
  repeat' (first | ((with_reducible first | refine wA (by omega) ?_ | refine wB (by omega) ?_ | refine wC (by omega) ?_ | refine wD (by omega) ?_ | refine wE ?_ ?_ | refine wF ?_ ?_ | refine wG ?_ ?_ | refine wH ?_ ?_ | refine wI ?_ ?_ | refine wJ ?_ ?_ | refine wK ?_ ?_ | refine wL ?_ ?_) <;> intro _) | simp (maxSteps := 1000000) (disch := omega) only [go_sem, Nat.reduceAdd, Nat.reduceMul, Nat.reduceSub, Nat.reduceLeDiff, Nat.reduceEqDiff, Nat.reduceBEq, ↓reduceIte, reduceCtorEq, Int.reduceEq, Int.reduceLE, Int.reduceLT, Int.reduceAdd, Int.reduceSub, Int.reduceNeg, Int.reduceToNat, Int.reduceNe, Nat.reducePow, Nat.reduceShiftRight, Nat.reduceMod, *])
  refine call_new c2 ?_
  repeat' (first | ((with_reducible first | refine wA (by omega) ?_ | refine wB (by omega) ?_ | refine wC (by omega) ?_ | refine wD (by omega) ?_ | refine wE ?_ ?_ | refine wF ?_ ?_ | refine wG ?_ ?_ | refine wH ?_ ?_ | refine wI ?_ ?_ | refine wJ ?_ ?_ | refine wK ?_ ?_ | refine wL ?_ ?_) <;> intro _) | simp (maxSteps := 1000000) (disch := omega) only [go_sem, Nat.reduceAdd, Nat.reduceMul, Nat.reduceSub, Nat.reduceLeDiff, Nat.reduceEqDiff, Nat.reduceBEq, ↓reduceIte, reduceCtorEq, Int.reduceEq, Int.reduceLE, Int.reduceLT, Int.reduceAdd, Int.reduceSub, Int.reduceNeg, Int.reduceToNat, Int.reduceNe, Nat.reducePow, Nat.reduceShiftRight, Nat.reduceMod, *])
  refine call_new c3 ?_
  repeat' (first | ((with_reducible first | refine wA (by omega) ?_ | refine wB (by omega) ?_ | refine wC (by omega) ?_ | refine wD (by omega) ?_ | refine wE ?_ ?_ | refine wF ?_ ?_ | refine wG ?_ ?_ | refine wH ?_ ?_ | refine wI ?_ ?_ | refine wJ ?_ ?_ | refine wK ?_ ?_ | refine wL ?_ ?_) <;> intro _) | simp (maxSteps := 1000000) (disch := omega) only [go_sem, Nat.reduceAdd, Nat.reduceMul, Nat.reduceSub, Nat.reduceLeDiff, Nat.reduceEqDiff, Nat.reduceBEq, ↓reduceIte, reduceCtorEq, Int.reduceEq, Int.reduceLE, Int.reduceLT, Int.reduceAdd, Int.reduceSub, Int.reduceNeg, Int.reduceToNat, Int.reduceNe, Nat.reducePow, Nat.reduceShiftRight, Nat.reduceMod, List.all_append, PV.one, *])
  refine fin_mut (.agg (entC ⟨kind, params, name, .mk k1 n1 s1 ls1 as1, .mk k2 n2 s2 ls2 as2, height, family, fixed, index, fields, ctors⟩ (rowV (nx + 4) 5 (as1.map (Tm.pvB true))) (rowV (nx + 7) 3 (ls2.map (Lv.pvB true))) (rowV (nx + 10) 1 (ctors.map txt)))) (.inr rfl) (by (simp (disch := omega) only [go_sem, Nat.reduceMul, Nat.reduceSub, Nat.reduceShiftRight, Nat.reduceMod, Nat.reduceEqDiff, Nat.reduceAdd, ↓reduceIte, Nat.reduceLeDiff, entC, Tm.kD, Tm.nD, Tm.sD, Tm.lD, Tm.aD]); all_goals rfl) ⟨rfl, ?g0, fun j hj => ?g1, fun h => ?g2, fun h => ?g3, fun h => ?g4⟩
  case g0 => simp only [Nat.add_assoc]; exact Nat.add_le_add_left (by omega) _
  case g1 => simp [upd, updO_at, show j ≠ nx by omega, show j ≠ nx + 1 by omega, show j ≠ nx + 4 by omega, show j ≠ nx + 7 by omega, show j ≠ nx + 10 by omega]
  case g2 =>
    cases as1 with
    | nil => exact absurd rfl h
    | cons x r => simp [upd, updO_at, rowO]
  case g3 =>
    cases ls2 with
    | nil => exact absurd rfl h
    | cons x r => simp [upd, updO_at, rowO]
  case g4 =>
    cases ctors with
    | nil => exact absurd rfl h
    | cons x r => simp [upd, updO_at, rowO]
end
section
set_option maxRecDepth 20000
attribute [local go_sem] pv_len pv_take Nat.add_assoc tm_len tm_take pv_one tm_one id_ne id_ne' id_ne2 List.append_assoc tpvB_len tpvB_take tpvB_one
theorem RowG.of {G : Nat → Bool} {H : Nat → Option PObj} {sz i : Nat} {es : List (List PV)} {w : Bool} (hG : G i = true) (h : es ≠ [] → H i = some ⟨es.flatten, w⟩) : RowG G H sz (rowV i sz es) es := by
  cases es with
  | nil => exact .inl ⟨rfl, rfl⟩
  | cons x r => exact .inr ⟨i, w, rfl, hG, h (by simp)⟩
theorem rowV_congr {i sz : Nat} {es es' : List (List PV)} (h : es.length = es'.length) : rowV i sz es = rowV i sz es' := by
  cases es with
  | nil => cases es' with
    | nil => rfl
    | cons x r => simp at h
  | cons x r => cases es' with
    | nil => simp at h
    | cons y q => simp only [rowV, h]
theorem lenW_small : ∀ (xs : List ByteArray) (v : Nat), v ≤ 500 → (∀ s ∈ xs, s.size ≤ 2 ^ 47) → ¬ 500 < lenW v xs → ∀ s ∈ xs, s.size ≤ 500
  | [], _, _, _, _, s, hs => by simp at hs
  | x :: r, v, hv, hs, h, s, hm => by
    have hx := hs x (by simp)
    have e : IntKind.i64.wrap ((v : Int) + IntKind.i64.wrap (1 + (x.size : Int))) = ((v + (1 + x.size) : Nat) : Int) := by
      have e1 : IntKind.i64.wrap (1 + (x.size : Int)) = 1 + (x.size : Int) := by rw [IntKind.wrap_i64]; omega
      rw [e1, IntKind.wrap_i64]
      omega
    rw [lenW, if_pos (by omega), e] at h
    by_cases hle : v + (1 + x.size) ≤ 500
    · rcases List.mem_cons.1 hm with rfl | hm
      · omega
      · exact lenW_small r _ hle (fun t ht => hs t (by simp [ht])) h s hm
    · exfalso
      apply h
      cases r with
      | nil => simp only [lenW]; omega
      | cons y q => rw [lenW, if_neg (by omega)]; omega
theorem lens5_small {xs : List ByteArray} (hs : ∀ s ∈ xs, s.size ≤ 2 ^ 47) (h : ¬ 500 < lens5 xs) : ∀ s ∈ xs, s.size ≤ 500 := by
  unfold lens5 at h
  by_cases h5 : 500 < xs.length
  · rw [if_pos h5] at h
    exact absurd (by decide) h
  · rw [if_neg h5] at h
    exact lenW_small xs 0 (by omega) hs h
theorem ent_great_noC {e : Ent} (h : e.great = false) : e.typ.nodes ≤ 2 ^ 40 ∧ e.val.nodes ≤ 2 ^ 40 ∧ e.ctors.length ≤ 20 ∧ ¬ 500 < lens5 e.ctors := by
  simp only [Ent.great, decide_eq_false_iff_not, not_or] at h
  have h1 := nodes_massD e.typ
  have h2 := nodes_massD e.val
  omega
def partX (i : Nat) (xs : List ByteArray) : List PV := ((xs.take i).map addx ++ xs.drop i).map fun s => PV.sc (.string s)
theorem partX_zero (xs : List ByteArray) : partX 0 xs = (xs.map txt).flatten := by
  simp only [partX, List.take_zero, List.map_nil, List.nil_append, List.drop_zero]
  induction xs with
  | nil => rfl
  | cons x r ih => rw [List.map_cons, List.map_cons, List.flatten_cons, ← ih]; rfl
theorem partX_all (xs : List ByteArray) : partX xs.length xs = ((xs.map addx).map txt).flatten := by
  rw [← partX_zero]
  simp [partX]
theorem partX_len (i : Nat) (xs : List ByteArray) (h : i ≤ xs.length) : (partX i xs).length = xs.length := by
  simp only [partX, List.length_map, List.length_append, List.length_take, List.length_drop]
  omega
theorem partX_get (i : Nat) (xs : List ByteArray) (h : i < xs.length) : ((partX i xs).drop i).take 1 = [.sc (.string xs[i])] := by
  have hl : ((xs.take i).map addx).length = i := by simp; omega
  simp only [partX, List.map_append]
  rw [List.drop_left' (by rw [List.length_map, hl]), List.drop_eq_getElem_cons h]
  rfl
theorem partX_set (i : Nat) (xs : List ByteArray) (h : i < xs.length) : (partX i xs).take i ++ (.sc (.string (addx xs[i])) :: (partX i xs).drop (i + 1)) = partX (i + 1) xs := by
  have hl : ((xs.take i).map addx).length = i := by simp; omega
  simp only [partX, List.map_append]
  rw [List.take_left' (by rw [List.length_map, hl]), ← List.drop_drop, List.drop_left' (by rw [List.length_map, hl]), List.drop_eq_getElem_cons h, List.take_succ_eq_append_getElem h]
  simp only [List.map_append, List.map_cons, List.map_nil, List.drop_succ_cons, List.drop_zero, List.append_assoc, List.cons_append, List.nil_append]
theorem add_x (s : ByteArray) (h : s.size ≤ 500) : strBin .add s ⟨#[120]⟩ = some (.string (addx s)) := by
  have h1 : (⟨#[120]⟩ : ByteArray).size = 1 := rfl
  have h2 : IntKind.i64.max = 9223372036854775807 := by decide
  simp only [strBin, h1, h2]
  rw [if_neg (by omega)]
  rfl
theorem entC_one (e : Ent) (b1 a2 c : PV) (h1 : b1.one = true) (h2 : a2.one = true) (h3 : c.one = true) : (entC e b1 a2 c).all PV.one = true := by
  simp only [entC, List.all_cons, List.all_nil, h1, h2, h3, Bool.and_true, Bool.true_and]
  simp [PV.one]
theorem rowV_len (i sz : Nat) (es : List (List PV)) : lenPV false (rowV i sz es) = some es.length := by cases es <;> rfl
theorem ent_loose {e : Ent} (h : e.right = true) : looseT e.typ = 0 := by
  simp only [Ent.right, Bool.and_eq_true, decide_eq_true_eq] at h
  have ht := h.2.2.2.2.2.1
  simp only [Tm.right, Bool.and_eq_true, decide_eq_true_eq] at ht
  have := loose_bd e.params e.typ _ (by omega) ht.2.2.2.2
  unfold looseT
  split
  · omega
  · rfl
set_option maxHeartbeats 40000000 in
theorem declClones_core (ha : PPure Try.prog F.law11_alive [] (.sc (.bool true))) (e : Ent) (h1 : e.typ.fits) (h2 : e.val.fits) (hs : ∀ s ∈ e.ctors, s.size ≤ 2 ^ 47) : PPure Try.prog F.law11_DeclClones [.agg e.pv] (.sc (.bool true)) := by
  refine pure_by is_law11_DeclClones (by simp) rfl fun hb nx => ?_
  clear hb
  have g1 := great11_p e h1 h2
  clear h1 h2
  cases hg : e.great with
  | true =>
    rw [hg] at g1
    clear hg
    repeat' (first | ((with_reducible first | refine wA (by omega) ?_ | refine wB (by omega) ?_ | refine wC (by omega) ?_ | refine wD (by omega) ?_ | refine wE ?_ ?_ | refine wF ?_ ?_ | refine wG ?_ ?_ | refine wH ?_ ?_ | refine wI ?_ ?_ | refine wJ ?_ ?_ | refine wK ?_ ?_ | refine wL ?_ ?_) <;> intro _) | (((with_reducible refine call_id ?_); (first | (refine call_pure (ha) ?_) | (refine call_pure (g1) ?_)))) | simp (maxSteps := 1000000) (disch := omega) only [go_sem, Nat.reduceAdd, Nat.reduceMul, Nat.reduceSub, Nat.reduceLeDiff, Nat.reduceEqDiff, Nat.reduceBEq, ↓reduceIte, reduceCtorEq, Int.reduceEq, Int.reduceLE, Int.reduceLT, Int.reduceAdd, Int.reduceSub, Int.reduceNeg, Int.reduceToNat, Int.reduceNe, Nat.reducePow, Nat.reduceShiftRight, Nat.reduceMod, mc_law11_DeclClones, ent_len, ent_take, ent_one, *])
    all_goals (exact fin_tmp (.inr rfl) cE3)
  | false =>
  obtain ⟨n1, n2, n3, n4⟩ := ent_great_noC hg
  rw [hg] at g1
  clear hg
  have hs5 := lens5_small hs n4
  have cm := eClone_m e n1 n2 (by omega)
  have cR := eRight_p e
  have cL := ref04_Loose_p e.typ
  have hO : ∀ (G : Nat → Bool) (H : Nat → Option PObj) (i1 i2 i3 : Nat) (w1 w2 w3 : Bool), G i1 = true → G i2 = true → G i3 = true → (e.typ.aD ≠ [] → H i1 = some ⟨(e.typ.aD.map (Tm.pvB true)).flatten, w1⟩) → (e.val.lD ≠ [] → H i2 = some ⟨(e.val.lD.map (Lv.pvB true)).flatten, w2⟩) → (e.ctors ≠ [] → H i3 = some ⟨(e.ctors.map txt).flatten, w3⟩) →
      EntO G H e (rowV i1 5 (e.typ.aD.map (Tm.pvB true))) (rowV i2 3 (e.val.lD.map (Lv.pvB true))) (rowV i3 1 (e.ctors.map txt)) := fun G H i1 i2 i3 w1 w2 w3 a1 a2 a3 b1 b2 b3 =>
    ⟨RowG.of a1 fun h => b1 fun e0 => h (by rw [e0]; rfl), RowG.of a2 fun h => b2 fun e0 => h (by rw [e0]; rfl), RowG.of a3 fun h => b3 fun e0 => h (by rw [e0]; rfl)⟩
  clear n1 n2 n4 hs
  repeat' (first | ((with_reducible first | refine wA (by omega) ?_ | refine wB (by omega) ?_ | refine wC (by omega) ?_ | refine wD (by omega) ?_ | refine wE ?_ ?_ | refine wF ?_ ?_ | refine wG ?_ ?_ | refine wH ?_ ?_ | refine wI ?_ ?_ | refine wJ ?_ ?_ | refine wK ?_ ?_ | refine wL ?_ ?_) <;> intro _) | (((with_reducible refine call_id ?_); (first | (refine call_pure (ha) ?_) | (refine call_pure (g1) ?_)))) | simp (maxSteps := 1000000) (disch := omega) only [go_sem, Nat.reduceAdd, Nat.reduceMul, Nat.reduceSub, Nat.reduceLeDiff, Nat.reduceEqDiff, Nat.reduceBEq, ↓reduceIte, reduceCtorEq, Int.reduceEq, Int.reduceLE, Int.reduceLT, Int.reduceAdd, Int.reduceSub, Int.reduceNeg, Int.reduceToNat, Int.reduceNe, Nat.reducePow, Nat.reduceShiftRight, Nat.reduceMod, mc_law11_DeclClones, ent_len, ent_take, ent_one, *])
  refine call_mut (cm _ _) ?_
  rintro H' nx' r' ⟨rfl, hn, hlow, r1, r2, r3⟩ -
  have hn' : nx + 21 ≤ nx' := hn
  have r1' : e.typ.aD ≠ [] → H' (nx + 14) = some ⟨(e.typ.aD.map (Tm.pvB true)).flatten, true⟩ := r1
  have r2' : e.val.lD ≠ [] → H' (nx + 17) = some ⟨(e.val.lD.map (Lv.pvB true)).flatten, true⟩ := r2
  have r3' : e.ctors ≠ [] → H' (nx + 20) = some ⟨(e.ctors.map txt).flatten, false⟩ := r3
  obtain ⟨B1, hB1⟩ : ∃ B, rowV (nx + 14) 5 (e.typ.aD.map (Tm.pvB true)) = B := ⟨_, rfl⟩
  obtain ⟨A2, hA2⟩ : ∃ B, rowV (nx + 17) 3 (e.val.lD.map (Lv.pvB true)) = B := ⟨_, rfl⟩
  obtain ⟨C, hC⟩ : ∃ B, rowV (nx + 20) 1 (e.ctors.map txt) = B := ⟨_, rfl⟩
  have oB : B1.one = true := by rw [← hB1]; exact rowV_one _ _ _
  have oA : A2.one = true := by rw [← hA2]; exact rowV_one _ _ _
  have oC : C.one = true := by rw [← hC]; exact rowV_one _ _ _
  have lB : lenPV false B1 = some e.typ.aD.length := by rw [← hB1, rowV_len, List.length_map]
  have lA : lenPV false A2 = some e.val.lD.length := by rw [← hA2, rowV_len, List.length_map]
  have lC : lenPV false C = some e.ctors.length := by rw [← hC, rowV_len, List.length_map]
  have hEO : ∀ Hx : Nat → Option PObj, (∀ j, nx + 14 ≤ j → Hx j = H' j) → EntO (fun j => decide (nx + 14 ≤ j)) Hx e B1 A2 C := fun Hx hx => by
    rw [← hB1, ← hA2, ← hC]
    exact hO _ _ _ _ _ _ _ _ (by simp) (by simp) (by simp) (fun h => (hx _ (by omega)).trans (r1' h)) (fun h => (hx _ (by omega)).trans (r2' h)) (fun h => (hx _ (by omega)).trans (r3' h))
  have hE2 : ∀ (Hx : Nat → Option PObj) (nx2 : Nat), (e.typ.aD ≠ [] → Hx (nx + 14) = some ⟨((incT e.typ.aD).map (Tm.pvB true)).flatten, true⟩) → (e.val.lD ≠ [] → Hx (nx + 17) = some ⟨((incL e.val.lD).map (Lv.pvB true)).flatten, true⟩) → (e.ctors ≠ [] → Hx (nx + 20) = some ⟨((e.ctors.map addx).map txt).flatten, false⟩) →
      PMut Try.prog F.decl_Same [.agg (entC e B1 A2 C), .agg e.pv] Hx nx2 (fun H3 nx3 r => H3 = Hx ∧ nx3 = nx2 ∧ r = .sc (.bool (!(decide (0 < e.ctors.length) || decide (0 < e.typ.aD.length) || decide (0 < e.val.lD.length))))) := fun Hx nx2 x1 x2 x3 => by
    have hs := spoilt_same e
    have k1 : rowV (nx + 14) 5 ((incT e.typ.aD).map (Tm.pvB true)) = B1 := by rw [← hB1]; exact rowV_congr (by cases e.typ.aD <;> rfl)
    have k2 : rowV (nx + 17) 3 ((incL e.val.lD).map (Lv.pvB true)) = A2 := by rw [← hA2]; exact rowV_congr (by cases e.val.lD <;> rfl)
    have k3 : rowV (nx + 20) 1 ((e.ctors.map addx).map txt) = C := by rw [← hC]; exact rowV_congr (by simp)
    have hE : EntO (fun j => decide (nx + 14 ≤ j)) Hx e.spoilt B1 A2 C := by
      rw [← k1, ← k2, ← k3]
      refine ⟨RowG.of (by simp) fun h => x1 fun e0 => h (by show (incT e.typ.aD).map (Tm.pvB true) = []; rw [e0]; rfl), RowG.of (by simp) fun h => x2 fun e0 => h (by show (incL e.val.lD).map (Lv.pvB true) = []; rw [e0]; rfl), RowG.of (by simp) fun h => x3 fun e0 => h (by show (e.ctors.map addx).map txt = []; rw [e0]; rfl)⟩
    have h := hE.same e nx2
    rw [hs] at h
    exact h
  obtain ⟨cs, hcs2⟩ : ∃ cs, entC e B1 A2 C = cs := ⟨_, rfl⟩
  have hcl : cs.length = 19 := by rw [← hcs2]; rfl
  have hct : cs.take 19 = cs := List.take_of_length_le (by omega)
  have hco : cs.all PV.one = true := by rw [← hcs2]; exact entC_one e B1 A2 C oB oA oC
  have hc18 : List.take 1 (List.drop 18 cs) = [C] := by rw [← hcs2]; rfl
  have hc7 : List.take 1 (List.drop 7 cs) = [B1] := by rw [← hcs2]; rfl
  have hc11 : List.take 1 (List.drop 11 cs) = [A2] := by rw [← hcs2]; rfl
  have hS : ∀ (Hx : Nat → Option PObj) (nx2 : Nat), (∀ j, nx + 14 ≤ j → Hx j = H' j) → PMut Try.prog F.decl_Same [.agg cs, .agg e.pv] Hx nx2 (fun H3 nx3 r => H3 = Hx ∧ nx3 = nx2 ∧ r = .sc (.bool true)) := fun Hx nx2 hx => by
    have h := (hEO Hx hx).same e nx2
    rw [ent_same_self] at h
    rw [← hcs2]
    exact h
  have hS2 : ∀ (Hx : Nat → Option PObj) (nx2 : Nat), (∀ j, nx + 14 ≤ j → Hx j = H' j) → PMut Try.prog F.ref00_SameEntry [.agg cs, .agg e.pv] Hx nx2 (fun H3 nx3 r => H3 = Hx ∧ nx3 = nx2 ∧ r = .sc (.bool true)) := fun Hx nx2 hx => by
    have h := (hEO Hx hx).sameEntry e nx2
    rw [ent_same_self] at h
    rw [← hcs2]
    exact h
  rw [hcs2] at hE2
  have rk := Kept.mk (And.intro r1' (And.intro r2' r3'))
  clear hEO hO cm r1 r2 r3 r1' r2' r3' hn hlow oB oA oC
  repeat' (first | ((with_reducible first | refine wA (by omega) ?_ | refine wB (by omega) ?_ | refine wC (by omega) ?_ | refine wD (by omega) ?_ | refine wE ?_ ?_ | refine wF ?_ ?_ | refine wG ?_ ?_ | refine wH ?_ ?_ | refine wI ?_ ?_ | refine wJ ?_ ?_ | refine wK ?_ ?_ | refine wL ?_ ?_) <;> intro _) | simp (maxSteps := 1000000) (disch := omega) only [go_sem, Nat.reduceAdd, Nat.reduceMul, Nat.reduceSub, Nat.reduceLeDiff, Nat.reduceEqDiff, Nat.reduceBEq, ↓reduceIte, reduceCtorEq, Int.reduceEq, Int.reduceLE, Int.reduceLT, Int.reduceAdd, Int.reduceSub, Int.reduceNeg, Int.reduceToNat, Int.reduceNe, Nat.reducePow, Nat.reduceShiftRight, Nat.reduceMod, hcl, hct, hco, ent_len, ent_take, ent_one, *])
  refine call_mut (hS _ _ ?hh) ?_
  case hh => intro j hj; simp [upd, show j ≠ nx + 8 by omega]
  rintro _ _ _ ⟨rfl, rfl, rfl⟩ -
  repeat' (first | ((with_reducible first | refine wA (by omega) ?_ | refine wB (by omega) ?_ | refine wC (by omega) ?_ | refine wD (by omega) ?_ | refine wE ?_ ?_ | refine wF ?_ ?_ | refine wG ?_ ?_ | refine wH ?_ ?_ | refine wI ?_ ?_ | refine wJ ?_ ?_ | refine wK ?_ ?_ | refine wL ?_ ?_) <;> intro _) | simp (maxSteps := 1000000) (disch := omega) only [go_sem, Nat.reduceAdd, Nat.reduceMul, Nat.reduceSub, Nat.reduceLeDiff, Nat.reduceEqDiff, Nat.reduceBEq, ↓reduceIte, reduceCtorEq, Int.reduceEq, Int.reduceLE, Int.reduceLT, Int.reduceAdd, Int.reduceSub, Int.reduceNeg, Int.reduceToNat, Int.reduceNe, Nat.reducePow, Nat.reduceShiftRight, Nat.reduceMod, hcl, hct, hco, ent_len, ent_take, ent_one, *])
  refine call_mut (hS2 _ _ ?hh) ?_
  case hh => intro j hj; simp [upd, show j ≠ nx + 8 by omega]
  rintro _ _ _ ⟨rfl, rfl, rfl⟩ -
  simp only [lenPV] at lB lA lC
  repeat' (first | ((with_reducible first | refine wA (by omega) ?_ | refine wB (by omega) ?_ | refine wC (by omega) ?_ | refine wD (by omega) ?_ | refine wE ?_ ?_ | refine wF ?_ ?_ | refine wG ?_ ?_ | refine wH ?_ ?_ | refine wI ?_ ?_ | refine wJ ?_ ?_ | refine wK ?_ ?_ | refine wL ?_ ?_) <;> intro _) | simp (maxSteps := 1000000) (disch := omega) only [go_sem, Nat.reduceAdd, Nat.reduceMul, Nat.reduceSub, Nat.reduceLeDiff, Nat.reduceEqDiff, Nat.reduceBEq, ↓reduceIte, reduceCtorEq, Int.reduceEq, Int.reduceLE, Int.reduceLT, Int.reduceAdd, Int.reduceSub, Int.reduceNeg, Int.reduceToNat, Int.reduceNe, Nat.reducePow, Nat.reduceShiftRight, Nat.reduceMod, *])
  refine c_loopW 68715282448 (by kernel_rfl) (fun j f H m => ∃ i : Nat, j = e.ctors.length - i ∧ i ≤ e.ctors.length ∧ f 4 = .sc (.int .i64 i) ∧ nx' ≤ m ∧ H (nx + 8) = some ⟨cs, true⟩ ∧ Kept (e.ctors ≠ [] → H (nx + 20) = some ⟨partX i e.ctors, false⟩) ∧ Kept (H (nx + 14) = H' (nx + 14) ∧ H (nx + 17) = H' (nx + 17))) _ ⟨0, rfl, Nat.zero_le _, cE1, ?mm, ?hh, Kept.mk fun hne => ?h3, Kept.mk ⟨?h1, ?h2⟩⟩ ?_
  case mm => simp (disch := omega) only [go_sem, Nat.reduceMul, Nat.reduceSub, Nat.reduceShiftRight, Nat.reduceMod, Nat.reduceEqDiff, Nat.reduceAdd, ↓reduceIte, Nat.reduceLeDiff]; all_goals omega
  case hh => simp [upd]
  case h1 => simp [upd]
  case h2 => simp [upd]
  case h3 => rw [partX_zero]; simp [upd]; exact rk.out.2.2 hne
  rintro _ f H m ⟨i, rfl, hi, e4, hm, hH, hX, hR⟩
  by_cases hlt : i < e.ctors.length
  · have hne : e.ctors ≠ [] := fun h => by rw [h] at hlt; simp at hlt
    have hXX := hX.out hne
    have hC2 : C = .osl (nx + 20) 0 e.ctors.length 1 := by
      rw [← hC]
      cases hx : e.ctors with
      | nil => exact absurd hx hne
      | cons x r => simp [rowV]
    have hget := partX_get i e.ctors hlt
    have hset := partX_set i e.ctors hlt
    have hlen := partX_len i e.ctors hi
    have hadd := add_x e.ctors[i] (hs5 _ (List.getElem_mem hlt))
    clear hC lC hX
    subst hC2
    have hi1 : i + 1 ≤ e.ctors.length := hlt
    repeat' (first | ((with_reducible first | refine wA (by omega) ?_ | refine wB (by omega) ?_ | refine wC (by omega) ?_ | refine wD (by omega) ?_ | refine wE ?_ ?_ | refine wF ?_ ?_ | refine wG ?_ ?_ | refine wH ?_ ?_ | refine wI ?_ ?_ | refine wJ ?_ ?_ | refine wK ?_ ?_ | refine wL ?_ ?_) <;> intro _) | simp (maxSteps := 1000000) (disch := omega) only [go_sem, Nat.reduceAdd, Nat.reduceMul, Nat.reduceSub, Nat.reduceLeDiff, Nat.reduceEqDiff, Nat.reduceBEq, ↓reduceIte, reduceCtorEq, Int.reduceEq, Int.reduceLE, Int.reduceLT, Int.reduceAdd, Int.reduceSub, Int.reduceNeg, Int.reduceToNat, Int.reduceNe, Nat.reducePow, Nat.reduceShiftRight, Nat.reduceMod, *])
    refine Nx.mk (e.ctors.length - (i + 1)) cE1 ⟨i + 1, rfl, cE1, by simp [upd], ?mm, ?hh, Kept.mk fun _ => ?h3, Kept.mk ⟨?h1, ?h2⟩⟩
    case mm => exact Nat.le_trans hm (Nat.le_add_right _ _)
    case hh => simp [upd, hH]
    case h1 => simp [upd, hR.out.1]
    case h2 => simp [upd, hR.out.2]
    case h3 => simp [upd]
  · obtain rfl : i = e.ctors.length := by omega
    have hXX : e.ctors ≠ [] → H (nx + 20) = some ⟨((e.ctors.map addx).map txt).flatten, false⟩ := fun h => by rw [← partX_all]; exact hX.out h
    have hX2 := Kept.mk hXX
    clear hX hXX
    have r14 : e.typ.aD ≠ [] → H (nx + 14) = some ⟨(e.typ.aD.map (Tm.pvB true)).flatten, true⟩ := fun h => hR.out.1.trans (rk.out.1 h)
    have r17 : e.val.lD ≠ [] → H (nx + 17) = some ⟨(e.val.lD.map (Lv.pvB true)).flatten, true⟩ := fun h => hR.out.2.trans (rk.out.2.1 h)
    have hel : e.right = true → looseT e.typ = 0 := ent_loose
    have ht8 : List.take 5 (List.drop 3 e.pv) = e.typ.pv := by simp only [Ent.pv, List.drop_succ_cons, List.drop_zero]; exact List.take_left' (tm_len _)
    have hd3 : 5 ≤ (List.drop 3 e.pv).length := by rw [List.length_drop, ent_len]; omega
    generalize e.right = br at cR hel
    generalize looseT e.typ = lo at cL hel
    have hbl : br = false ∨ (br = true ∧ lo = 0) := by
      cases br
      · exact .inl rfl
      · exact .inr ⟨rfl, hel rfl⟩
    clear hR rk hS hS2 hel
    rcases ha : e.typ.aD with _ | ⟨⟨ka, na, sa, la, aa⟩, ra⟩ <;> rcases hv : e.val.lD with _ | ⟨⟨kv, nv, av⟩, rv⟩
    · rw [ha] at hB1 r14 lB
      rw [hv] at hA2 r17 lA
      simp only [ha, hv] at hE2
      have hb2 : B1 = .sl 5 [] := hB1.symm
      have hv2 : A2 = .sl 3 [] := hA2.symm
      clear hB1 hA2 lB lA r14 r17 ha hv
      subst hb2 hv2
      rcases hbl with rfl | ⟨rfl, rfl⟩ <;> by_cases hc0 : 0 < e.ctors.length
      all_goals simp only [hc0, decide_true, decide_false, List.length_nil, List.length_cons, Nat.lt_irrefl, zlt, Bool.or_true, Bool.true_or, Bool.or_false, Bool.false_or, Bool.not_true, Bool.not_false] at hE2
      all_goals
        repeat' (first | ((with_reducible first | refine wA (by omega) ?_ | refine wB (by omega) ?_ | refine wC (by omega) ?_ | refine wD (by omega) ?_ | refine wE ?_ ?_ | refine wF ?_ ?_ | refine wG ?_ ?_ | refine wH ?_ ?_ | refine wI ?_ ?_ | refine wJ ?_ ?_ | refine wK ?_ ?_ | refine wL ?_ ?_) <;> intro _) | simp (maxSteps := 1000000) (disch := omega) only [go_sem, Nat.reduceAdd, Nat.reduceMul, Nat.reduceSub, Nat.reduceLeDiff, Nat.reduceEqDiff, Nat.reduceBEq, ↓reduceIte, reduceCtorEq, Int.reduceEq, Int.reduceLE, Int.reduceLT, Int.reduceAdd, Int.reduceSub, Int.reduceNeg, Int.reduceToNat, Int.reduceNe, Nat.reducePow, Nat.reduceShiftRight, Nat.reduceMod, ent_len, ent_take, ent_one, *])
        all_goals
          refine call_mut (hE2 _ _ ?y1 ?y2 ?y3) ?_
          case y1 => intro h; first | exact absurd rfl h | simp [upd, incT, Tm.inc, Tm.pvB, h14]
          case y2 => intro h; first | exact absurd rfl h | simp [upd, incL, Lv.inc, Lv.pvB, h17]
          case y3 => intro h; have h9 := hX2.out h; simpa [upd] using h9
          rintro _ _ _ ⟨rfl, rfl, rfl⟩ -
          repeat' (first | ((with_reducible first | refine wA (by omega) ?_ | refine wB (by omega) ?_ | refine wC (by omega) ?_ | refine wD (by omega) ?_ | refine wE ?_ ?_ | refine wF ?_ ?_ | refine wG ?_ ?_ | refine wH ?_ ?_ | refine wI ?_ ?_ | refine wJ ?_ ?_ | refine wK ?_ ?_ | refine wL ?_ ?_) <;> intro _) | (((with_reducible refine call_id ?_); (first | (refine call_pure (cR) ?_) | (refine call_pure (cL) ?_)))) | simp (maxSteps := 1000000) (disch := omega) only [go_sem, Nat.reduceAdd, Nat.reduceMul, Nat.reduceSub, Nat.reduceLeDiff, Nat.reduceEqDiff, Nat.reduceBEq, ↓reduceIte, reduceCtorEq, Int.reduceEq, Int.reduceLE, Int.reduceLT, Int.reduceAdd, Int.reduceSub, Int.reduceNeg, Int.reduceToNat, Int.reduceNe, Nat.reducePow, Nat.reduceShiftRight, Nat.reduceMod, ent_len, ent_take, ent_one, ht8, hd3, bq1, bq2, Bool.not_true, Bool.not_false, *])
          all_goals (refine fin_tmp (.inr rfl) ?_; simp [upd, *])
    · rw [ha] at hB1 r14 lB
      rw [hv] at hA2 r17 lA
      simp only [ha, hv] at hE2
      have hb2 : B1 = .sl 5 [] := hB1.symm
      have hv2 : A2 = .osl (nx + 17) 0 (rv.length + 1) 3 := by rw [← hA2]; simp [rowV]
      have h17 := r17 (by simp)
      simp only [List.map_cons, List.flatten_cons, Lv.pvB, List.cons_append, List.nil_append] at h17
      clear hB1 hA2 lB lA r14 r17 ha hv
      subst hb2 hv2
      rcases hbl with rfl | ⟨rfl, rfl⟩ <;> by_cases hc0 : 0 < e.ctors.length
      all_goals simp only [hc0, decide_true, decide_false, List.length_nil, List.length_cons, Nat.lt_irrefl, zlt, Bool.or_true, Bool.true_or, Bool.or_false, Bool.false_or, Bool.not_true, Bool.not_false] at hE2
      all_goals
        repeat' (first | ((with_reducible first | refine wA (by omega) ?_ | refine wB (by omega) ?_ | refine wC (by omega) ?_ | refine wD (by omega) ?_ | refine wE ?_ ?_ | refine wF ?_ ?_ | refine wG ?_ ?_ | refine wH ?_ ?_ | refine wI ?_ ?_ | refine wJ ?_ ?_ | refine wK ?_ ?_ | refine wL ?_ ?_) <;> intro _) | simp (maxSteps := 1000000) (disch := omega) only [go_sem, Nat.reduceAdd, Nat.reduceMul, Nat.reduceSub, Nat.reduceLeDiff, Nat.reduceEqDiff, Nat.reduceBEq, ↓reduceIte, reduceCtorEq, Int.reduceEq, Int.reduceLE, Int.reduceLT, Int.reduceAdd, Int.reduceSub, Int.reduceNeg, Int.reduceToNat, Int.reduceNe, Nat.reducePow, Nat.reduceShiftRight, Nat.reduceMod, ent_len, ent_take, ent_one, *])
        all_goals
          refine call_mut (hE2 _ _ ?y1 ?y2 ?y3) ?_
          case y1 => intro h; first | exact absurd rfl h | simp [upd, incT, Tm.inc, Tm.pvB, h14]
          case y2 => intro h; first | exact absurd rfl h | simp [upd, incL, Lv.inc, Lv.pvB, h17]
          case y3 => intro h; have h9 := hX2.out h; simpa [upd] using h9
          rintro _ _ _ ⟨rfl, rfl, rfl⟩ -
          repeat' (first | ((with_reducible first | refine wA (by omega) ?_ | refine wB (by omega) ?_ | refine wC (by omega) ?_ | refine wD (by omega) ?_ | refine wE ?_ ?_ | refine wF ?_ ?_ | refine wG ?_ ?_ | refine wH ?_ ?_ | refine wI ?_ ?_ | refine wJ ?_ ?_ | refine wK ?_ ?_ | refine wL ?_ ?_) <;> intro _) | (((with_reducible refine call_id ?_); (first | (refine call_pure (cR) ?_) | (refine call_pure (cL) ?_)))) | simp (maxSteps := 1000000) (disch := omega) only [go_sem, Nat.reduceAdd, Nat.reduceMul, Nat.reduceSub, Nat.reduceLeDiff, Nat.reduceEqDiff, Nat.reduceBEq, ↓reduceIte, reduceCtorEq, Int.reduceEq, Int.reduceLE, Int.reduceLT, Int.reduceAdd, Int.reduceSub, Int.reduceNeg, Int.reduceToNat, Int.reduceNe, Nat.reducePow, Nat.reduceShiftRight, Nat.reduceMod, ent_len, ent_take, ent_one, ht8, hd3, bq1, bq2, Bool.not_true, Bool.not_false, *])
          all_goals (refine fin_tmp (.inr rfl) ?_; simp [upd, *])
    · rw [ha] at hB1 r14 lB
      rw [hv] at hA2 r17 lA
      simp only [ha, hv] at hE2
      have hb2 : B1 = .osl (nx + 14) 0 (ra.length + 1) 5 := by rw [← hB1]; simp [rowV]
      have h14 := r14 (by simp)
      simp only [List.map_cons, List.flatten_cons, Tm.pvB, List.cons_append, List.nil_append] at h14
      have hv2 : A2 = .sl 3 [] := hA2.symm
      clear hB1 hA2 lB lA r14 r17 ha hv
      subst hb2 hv2
      rcases hbl with rfl | ⟨rfl, rfl⟩ <;> by_cases hc0 : 0 < e.ctors.length
      all_goals simp only [hc0, decide_true, decide_false, List.length_nil, List.length_cons, Nat.lt_irrefl, zlt, Bool.or_true, Bool.true_or, Bool.or_false, Bool.false_or, Bool.not_true, Bool.not_false] at hE2
      all_goals
        repeat' (first | ((with_reducible first | refine wA (by omega) ?_ | refine wB (by omega) ?_ | refine wC (by omega) ?_ | refine wD (by omega) ?_ | refine wE ?_ ?_ | refine wF ?_ ?_ | refine wG ?_ ?_ | refine wH ?_ ?_ | refine wI ?_ ?_ | refine wJ ?_ ?_ | refine wK ?_ ?_ | refine wL ?_ ?_) <;> intro _) | simp (maxSteps := 1000000) (disch := omega) only [go_sem, Nat.reduceAdd, Nat.reduceMul, Nat.reduceSub, Nat.reduceLeDiff, Nat.reduceEqDiff, Nat.reduceBEq, ↓reduceIte, reduceCtorEq, Int.reduceEq, Int.reduceLE, Int.reduceLT, Int.reduceAdd, Int.reduceSub, Int.reduceNeg, Int.reduceToNat, Int.reduceNe, Nat.reducePow, Nat.reduceShiftRight, Nat.reduceMod, ent_len, ent_take, ent_one, *])
        all_goals
          refine call_mut (hE2 _ _ ?y1 ?y2 ?y3) ?_
          case y1 => intro h; first | exact absurd rfl h | simp [upd, incT, Tm.inc, Tm.pvB, h14]
          case y2 => intro h; first | exact absurd rfl h | simp [upd, incL, Lv.inc, Lv.pvB, h17]
          case y3 => intro h; have h9 := hX2.out h; simpa [upd] using h9
          rintro _ _ _ ⟨rfl, rfl, rfl⟩ -
          repeat' (first | ((with_reducible first | refine wA (by omega) ?_ | refine wB (by omega) ?_ | refine wC (by omega) ?_ | refine wD (by omega) ?_ | refine wE ?_ ?_ | refine wF ?_ ?_ | refine wG ?_ ?_ | refine wH ?_ ?_ | refine wI ?_ ?_ | refine wJ ?_ ?_ | refine wK ?_ ?_ | refine wL ?_ ?_) <;> intro _) | (((with_reducible refine call_id ?_); (first | (refine call_pure (cR) ?_) | (refine call_pure (cL) ?_)))) | simp (maxSteps := 1000000) (disch := omega) only [go_sem, Nat.reduceAdd, Nat.reduceMul, Nat.reduceSub, Nat.reduceLeDiff, Nat.reduceEqDiff, Nat.reduceBEq, ↓reduceIte, reduceCtorEq, Int.reduceEq, Int.reduceLE, Int.reduceLT, Int.reduceAdd, Int.reduceSub, Int.reduceNeg, Int.reduceToNat, Int.reduceNe, Nat.reducePow, Nat.reduceShiftRight, Nat.reduceMod, ent_len, ent_take, ent_one, ht8, hd3, bq1, bq2, Bool.not_true, Bool.not_false, *])
          all_goals (refine fin_tmp (.inr rfl) ?_; simp [upd, *])
    · rw [ha] at hB1 r14 lB
      rw [hv] at hA2 r17 lA
      simp only [ha, hv] at hE2
      have hb2 : B1 = .osl (nx + 14) 0 (ra.length + 1) 5 := by rw [← hB1]; simp [rowV]
      have h14 := r14 (by simp)
      simp only [List.map_cons, List.flatten_cons, Tm.pvB, List.cons_append, List.nil_append] at h14
      have hv2 : A2 = .osl (nx + 17) 0 (rv.length + 1) 3 := by rw [← hA2]; simp [rowV]
      have h17 := r17 (by simp)
      simp only [List.map_cons, List.flatten_cons, Lv.pvB, List.cons_append, List.nil_append] at h17
      clear hB1 hA2 lB lA r14 r17 ha hv
      subst hb2 hv2
      rcases hbl with rfl | ⟨rfl, rfl⟩ <;> by_cases hc0 : 0 < e.ctors.length
      all_goals simp only [hc0, decide_true, decide_false, List.length_nil, List.length_cons, Nat.lt_irrefl, zlt, Bool.or_true, Bool.true_or, Bool.or_false, Bool.false_or, Bool.not_true, Bool.not_false] at hE2
      all_goals
        repeat' (first | ((with_reducible first | refine wA (by omega) ?_ | refine wB (by omega) ?_ | refine wC (by omega) ?_ | refine wD (by omega) ?_ | refine wE ?_ ?_ | refine wF ?_ ?_ | refine wG ?_ ?_ | refine wH ?_ ?_ | refine wI ?_ ?_ | refine wJ ?_ ?_ | refine wK ?_ ?_ | refine wL ?_ ?_) <;> intro _) | simp (maxSteps := 1000000) (disch := omega) only [go_sem, Nat.reduceAdd, Nat.reduceMul, Nat.reduceSub, Nat.reduceLeDiff, Nat.reduceEqDiff, Nat.reduceBEq, ↓reduceIte, reduceCtorEq, Int.reduceEq, Int.reduceLE, Int.reduceLT, Int.reduceAdd, Int.reduceSub, Int.reduceNeg, Int.reduceToNat, Int.reduceNe, Nat.reducePow, Nat.reduceShiftRight, Nat.reduceMod, ent_len, ent_take, ent_one, *])
        all_goals
          refine call_mut (hE2 _ _ ?y1 ?y2 ?y3) ?_
          case y1 => intro h; first | exact absurd rfl h | simp [upd, incT, Tm.inc, Tm.pvB, h14]
          case y2 => intro h; first | exact absurd rfl h | simp [upd, incL, Lv.inc, Lv.pvB, h17]
          case y3 => intro h; have h9 := hX2.out h; simpa [upd] using h9
          rintro _ _ _ ⟨rfl, rfl, rfl⟩ -
          repeat' (first | ((with_reducible first | refine wA (by omega) ?_ | refine wB (by omega) ?_ | refine wC (by omega) ?_ | refine wD (by omega) ?_ | refine wE ?_ ?_ | refine wF ?_ ?_ | refine wG ?_ ?_ | refine wH ?_ ?_ | refine wI ?_ ?_ | refine wJ ?_ ?_ | refine wK ?_ ?_ | refine wL ?_ ?_) <;> intro _) | (((with_reducible refine call_id ?_); (first | (refine call_pure (cR) ?_) | (refine call_pure (cL) ?_)))) | simp (maxSteps := 1000000) (disch := omega) only [go_sem, Nat.reduceAdd, Nat.reduceMul, Nat.reduceSub, Nat.reduceLeDiff, Nat.reduceEqDiff, Nat.reduceBEq, ↓reduceIte, reduceCtorEq, Int.reduceEq, Int.reduceLE, Int.reduceLT, Int.reduceAdd, Int.reduceSub, Int.reduceNeg, Int.reduceToNat, Int.reduceNe, Nat.reducePow, Nat.reduceShiftRight, Nat.reduceMod, ent_len, ent_take, ent_one, ht8, hd3, bq1, bq2, Bool.not_true, Bool.not_false, *])
          all_goals (refine fin_tmp (.inr rfl) ?_; simp [upd, *])
theorem DeclClones_pre (e : Ent) (h1 : e.typ.fits) (h2 : e.val.fits) (hs : ∀ s ∈ e.ctors, s.size ≤ 2 ^ 47) : PPure Try.prog F.law11_DeclClones [.agg e.pv] (.sc (.bool true)) := declClones_core alive11_p e h1 h2 hs
end
section
theorem weights_at {H : Type} {ts : List TypeId} {ds : List (DataW H)} (h : (DataW.weightsEach Try.prog ts ds).all (· ≤ reachBytes) = true) {j : Nat} {t : TypeId} {d : DataW H} (ht : ts[j]? = some t) (hd : ds[j]? = some d) :
    ∀ n ∈ d.weights Try.prog t, n ≤ reachBytes := fun n hn => by
  have := List.all_eq_true.1 h _ (DataW.weights_mem_each ht hd n hn)
  simpa using this
theorem weightsAll_mem {H : Type} {e : TypeId} {x : DataW H} {n : Nat} (hn : n ∈ x.weights Try.prog e) : ∀ {xs : List (DataW H)}, x ∈ xs → n ∈ DataW.weightsAll Try.prog e xs
  | y :: ys, h => by
    simp only [DataW.weightsAll, List.mem_append]
    rcases List.mem_cons.1 h with rfl | h
    · exact .inl hn
    · exact .inr (weightsAll_mem hn h)
theorem op_rowsS {H : Type} {enc : TypeId × Value → H} {W : World} {sp : Nat → Bool} {hd : Bool} {α : Type} {n c : Nat} {e : TypeId} {pvs : α → List PV} {a : Addr} (hc : Try.prog.cellsOf e = c) (h0 : 0 < c) (elems : List (DataW H × List MemPlace))
    (he : ∀ x ∈ elems, ∀ cs, DataW.trod enc Try.prog W 0 sp hd n e cs = some x → ∃ z, RepL (allV W) (pvs z) cs) :
    ∀ k, k ≤ elems.length → (∀ i, i < k → (W.cells? 0 (a.add (i * c)) c).bind (DataW.trod enc Try.prog W 0 sp hd n e) = elems[i]?) →
      ∃ (zs : List α) (vs : List Value), zs.length = k ∧ vs.length = k * c ∧ (∀ q ∈ zs.map pvs, q.length = c) ∧ RepL (allV W) (zs.map pvs).flatten vs ∧ ∀ j, j < k * c → W.cell? (a.add j) = vs[j]? := by
  intro k
  induction k with
  | zero => intro _ _; exact ⟨[], [], rfl, by simp, by simp, RepL.nil, fun j hj => by omega⟩
  | succ k ih =>
    intro hk hel
    obtain ⟨zs, vs, h1, h2, h3, h4, h5⟩ := ih (by omega) fun i hi => hel i (by omega)
    have hlast := hel k (by omega)
    rw [List.getElem?_eq_getElem (show k < elems.length by omega), Option.bind_eq_some_iff] at hlast
    obtain ⟨cs, hcs, hx⟩ := hlast
    obtain ⟨z, hz⟩ := he _ (List.getElem_mem _) cs hx
    obtain ⟨_, hl, hcell⟩ := World.cells?_some hcs
    have hsucc : (k + 1) * c = k * c + c := by rw [Nat.succ_mul]
    refine ⟨zs ++ [z], vs ++ cs, by simp [h1], by rw [List.length_append, h2, hl, hsucc], ?_, ?_, fun j hj => ?_⟩
    · intro q hq
      simp only [List.map_append, List.mem_append] at hq
      rcases hq with hq | hq
      · exact h3 q hq
      · simp at hq; rw [hq, ← hz.1, hl]
    · rw [List.map_append, List.flatten_append]
      refine h4.append ?_
      simpa using hz
    · by_cases hj2 : j < k * c
      · rw [List.getElem?_append_left (by omega)]; exact h5 j hj2
      · rw [List.getElem?_append_right (by omega), h2]
        have := hcell (j - k * c) (by omega)
        rw [addr_add2] at this
        rwa [show k * c + (j - k * c) = j by omega] at this
theorem op_strs_sized {H : Type} {enc : TypeId × Value → H} {W : World} {sp : Nat → Bool} {hd : Bool} (n : Nat) (cs : List Value) (x : DataW H × List MemPlace) (h : DataW.trod enc Try.prog W 0 sp hd n 31 cs = some x) (hw : ∀ k ∈ x.1.weights Try.prog 31, k ≤ reachBytes) :
    ∃ l : List {s : ByteArray // s.size ≤ 2 ^ 47}, RepL (allV W) [.sl 1 (l.map fun s => [.sc (.string s.1)])] cs := by
  have hc : Try.prog.cellsOf 9 = 1 := by kernel_rfl
  rcases DataW.trod_slice Try.underlying31 h with ⟨rfl, _⟩ | ⟨a, len, cap, elems, rest, m, hm, rfl, rfl, _, hl, hcap, hlen, hel, _⟩
  · exact ⟨[], RepL.cons (.slNil 1 none 0 (Nat.zero_le _)) RepL.nil⟩
  · rw [hc] at hel
    have he : ∀ x ∈ elems, ∀ cs, DataW.trod enc Try.prog W 0 sp hd m 9 cs = some x → ∃ z : {s : ByteArray // s.size ≤ 2 ^ 47}, RepL (allV W) [.sc (.string z.1)] cs := by
      intro x hx cs hcs
      obtain ⟨s, rfl, e, _⟩ := DataW.trod_string Try.underlying9 hcs
      have hk : s.data.toList.length ≤ reachBytes := by
        refine hw _ ?_
        simp only [DataW.weights, Try.underlying31, List.mem_cons, List.mem_append]
        refine .inr (.inl (weightsAll_mem (x := x.1) ?_ (List.mem_map.2 ⟨x, hx, rfl⟩)))
        rw [e]
        simp [DataW.weights]
      rw [Array.length_toList] at hk
      have hr : reachBytes ≤ 2 ^ 47 := by decide
      exact ⟨⟨s, Nat.le_trans hk hr⟩, RepL.cons (.sc _) RepL.nil⟩
    obtain ⟨zs, vs, h1, h2, h3, h4, h5⟩ := op_rowsS (pvs := fun z : {s : ByteArray // s.size ≤ 2 ^ 47} => [.sc (.string z.1)]) hc (by omega) elems he len (by omega) hel
    refine ⟨zs, RepL.cons ?_ RepL.nil⟩
    by_cases hz : len = 0
    · subst hz
      obtain rfl : zs = [] := List.eq_nil_of_length_eq_zero h1
      exact .slNil 1 _ _ hcap
    · obtain ⟨b, off, rfl, hp⟩ := rep_row (W := W) (x := a) (vs := vs) (cs := (zs.map fun z : {s : ByteArray // s.size ≤ 2 ^ 47} => [PV.sc (.string z.1)]).flatten) h4.1 (by omega) (fun i hi => by rw [h5 i (by omega), List.getElem?_eq_getElem hi]) h4.2
      exact .sl 1 _ b off len cap (by simp [h1]) h3 hl hcap hp
set_option maxRecDepth 100000 in
theorem op_entry_sized {H : Type} {enc : TypeId × Value → H} {W : World} {sp : Nat → Bool} {hd : Bool} (n : Nat) (cs : List Value) (x : DataW H × List MemPlace) (h : DataW.trod enc Try.prog W 0 sp hd n 33 cs = some x) (hw : ∀ k ∈ x.1.weights Try.prog 33, k ≤ reachBytes) :
    ∃ e : {e : Ent // e.typ.fits ∧ e.val.fits ∧ ∀ s ∈ e.ctors, s.size ≤ 2 ^ 47}, RepL (allV W) e.1.pv cs := by
  have hu : ∃ fs, Try.prog.underlying 33 = some (.struct fs) ∧ ∃ f0 f1 f2 f3 f4 f5 f6 f7 f8 f9 f10, fs = #[f0, f1, f2, f3, f4, f5, f6, f7, f8, f9, f10] ∧ f0.type = 3 ∧ f1.type = 3 ∧ f2.type = 9 ∧ f3.type = 25 ∧ f4.type = 25 ∧ f5.type = 3 ∧ f6.type = 9 ∧ f7.type = 3 ∧ f8.type = 3 ∧ f9.type = 3 ∧ f10.type = 31 ∧ f0.offset = 0 ∧ f1.offset = 1 ∧ f2.offset = 2 ∧ f3.offset = 3 ∧ f4.offset = 8 ∧ f5.offset = 13 ∧ f6.offset = 14 ∧ f7.offset = 15 ∧ f8.offset = 16 ∧ f9.offset = 17 ∧ f10.offset = 18 :=
    ⟨_, Try.underlying33, _, _, _, _, _, _, _, _, _, _, _, rfl, rfl, rfl, rfl, rfl, rfl, rfl, rfl, rfl, rfl, rfl, rfl, rfl, rfl, rfl, rfl, rfl, rfl, rfl, rfl, rfl, rfl, rfl⟩
  obtain ⟨fs, hu, f0, f1, f2, f3, f4, f5, f6, f7, f8, f9, f10, rfl, h0, h1, h2, h3, h4, h5, h6, h7, h8, h9, h10, o0, o1, o2, o3, o4, o5, o6, o7, o8, o9, o10⟩ := hu
  obtain ⟨xs, m, rfl, hxe, hlen, hxs, hx⟩ := DataW.trod_struct hu h
  have hc : Try.prog.cellsOf 33 = 19 := by kernel_rfl
  obtain ⟨a0, k0⟩ := op_field hx hxs (i := 0) rfl h0 o0 (c := 1) (by kernel_rfl) (op_int Try.underlying3)
  obtain ⟨a1, k1⟩ := op_field hx hxs (i := 1) rfl h1 o1 (c := 1) (by kernel_rfl) (op_int Try.underlying3)
  obtain ⟨a2, k2⟩ := op_field hx hxs (i := 2) rfl h2 o2 (c := 1) (by kernel_rfl) (op_string Try.underlying9)
  obtain ⟨a3, k3⟩ := op_field hx hxs (i := 3) rfl h3 o3 (c := 5) (by kernel_rfl) (op_term m)
  obtain ⟨a4, k4⟩ := op_field hx hxs (i := 4) rfl h4 o4 (c := 5) (by kernel_rfl) (op_term m)
  obtain ⟨a5, k5⟩ := op_field hx hxs (i := 5) rfl h5 o5 (c := 1) (by kernel_rfl) (op_int Try.underlying3)
  obtain ⟨a6, k6⟩ := op_field hx hxs (i := 6) rfl h6 o6 (c := 1) (by kernel_rfl) (op_string Try.underlying9)
  obtain ⟨a7, k7⟩ := op_field hx hxs (i := 7) rfl h7 o7 (c := 1) (by kernel_rfl) (op_int Try.underlying3)
  obtain ⟨a8, k8⟩ := op_field hx hxs (i := 8) rfl h8 o8 (c := 1) (by kernel_rfl) (op_int Try.underlying3)
  obtain ⟨a9, k9⟩ := op_field hx hxs (i := 9) rfl h9 o9 (c := 1) (by kernel_rfl) (op_int Try.underlying3)
  have hx10 := hx 10 f10 rfl
  have hi10 : 10 < xs.length := by rw [hxs]; exact (by decide : 10 < 11)
  rw [List.getElem?_eq_getElem hi10, h10, o10] at hx10
  have hw10 : ∀ k ∈ xs[10].1.weights Try.prog 31, k ≤ reachBytes := fun k hk => by
    refine hw k ?_
    rw [hxe]
    have e : (DataW.agg (xs.map (·.1)) : DataW H).weights Try.prog 33 = DataW.weightsEach Try.prog ((#[f0, f1, f2, f3, f4, f5, f6, f7, f8, f9, f10] : Array Field).toList.map (·.type)) (xs.map (·.1)) := by
      rw [DataW.weights, hu]
    show k ∈ (DataW.agg (xs.map (·.1)) : DataW H).weights Try.prog 33
    rw [e]
    refine DataW.weights_mem_each (j := 10) (t := 31) (d := xs[10].1) ?_ ?_ k hk
    · simp [h10]
    · rw [List.getElem?_map, List.getElem?_eq_getElem hi10]; rfl
  obtain ⟨a10, k10⟩ := op_strs_sized _ _ _ hx10 hw10
  have hc1 : Try.prog.cellsOf 31 = 1 := by kernel_rfl
  rw [hc1] at k10
  rw [List.drop_zero] at k0
  have hall := rep_split (rep_split (rep_split (rep_split (rep_split (rep_split (rep_split (rep_split (rep_split (rep_split k0 k1) k2) k3) k4) k5) k6) k7) k8) k9) k10
  rw [hc] at hlen
  rw [List.take_of_length_le (by omega)] at hall
  refine ⟨⟨⟨a0, a1, a2.1, a3.1, a4.1, a5, a6.1, a7, a8, a9, a10.map (·.1)⟩, a3.2, a4.2, fun s hs => by obtain ⟨y, _, rfl⟩ := List.mem_map.1 hs; exact y.2⟩, ?_⟩
  simp only [Ent.pv, List.map_map]
  have e : (txt ∘ fun s : {s : ByteArray // s.size ≤ 2 ^ 47} => s.1) = fun s => [.sc (.string s.1)] := rfl
  rw [e]
  simpa only [List.append_assoc, List.cons_append, List.nil_append] using hall
theorem open_entry_sized {H : Type} {enc : TypeId × Value → H} {W : World} {cs : Array Value} {d : DataW H} {p : List MemPlace} (h : DataW.Trod enc Try.prog W 0 (fun _ => true) true 33 (.agg cs) d p) (hw : ∀ k ∈ d.weights Try.prog 33, k ≤ reachBytes) :
    ∃ e : {e : Ent // e.typ.fits ∧ e.val.fits ∧ ∀ s ∈ e.ctors, s.size ≤ 2 ^ 47}, Rep (allV W) (.agg e.1.pv) (.agg cs) := by
  obtain ⟨n, h⟩ := h
  obtain ⟨a, ha⟩ := op_entry_sized n _ _ h hw
  have e : (Value.agg cs).cells.toList = cs.toList := rfl
  rw [e] at ha
  refine ⟨a, ?_⟩
  have := cells_rep ha
  simpa using this
theorem DeclClones_p (e : {e : Ent // e.typ.fits ∧ e.val.fits ∧ ∀ s ∈ e.ctors, s.size ≤ 2 ^ 47}) : PPure Try.prog F.law11_DeclClones [.agg e.1.pv] (.sc (.bool true)) := DeclClones_pre e.1 e.2.1 e.2.2.1 e.2.2.2
end
end Go.Proofs.Ytnoilfjeamffnaa
