/-
  Plain values: DeK, DeL, DeF, DeM, DeN, DeO, DeP, LvO, TmOp, DeR, DeU, DeW, DeX, DeY, DeS, DeZ.
-/
import Derived.Test.YtnoilfjeamffnaaGreatXMa
import Derived.Test.YtnoilfjeamffnaaGreatXMb
import Derived.Test.YtnoilfjeamffnaaGreatXMc
import Derived.Test.YtnoilfjeamffnaaGreatXMd
import Derived.Test.YtnoilfjeamffnaaGreatXMe
import Derived.Test.YtnoilfjeamffnaaGreatXMf
set_option linter.unusedVariables false
set_option linter.unusedSimpArgs false
namespace Go.Proofs.YtnoilfjeamffnaaGreat
open Go.RowKit
attribute [local go_sem ↓] c_seq c_region c_cond c_block c_ret c_skip c_exit c_cont t_normal t_ret t_exit b_normal b_ret b_exit run_nil run_cons g_some o_mv o_pick o_bin o_un o_ld o_ldf o_bld o_len o_mkf o_nilc o_fa o_fd o_ia o_iaa o_ix o_ixs o_ext o_al o_bxf o_bxt o_bsl o_bslf o_mks o_st o_stf o_call o_rng o_nxt o_callm o_callmA o_calvm o_calv cond_true cond_false upd_get sigF_cons o_eqa o_mm o_app o_slc
attribute [local go_sem] num_nil num_cons isP chunks rngV next_is next_iter val_some new_some st_some stf_some guard_tt guard_ff guard_tf guard_ft guard_un calv_fn put_some put_none ev_tmp ev_const ev_func sig_eq sigF_nil q0 q1 nilcV faV fdV iaV iaaV ixV ixsV extV mksV loadP storeP lenPV binPV unPV intBin partsP fillP zeros PV.good PV.cellsOf PV.one q2 q3 q4 q5 q6 q7 q8 q9 q10 q11 q12 q13 q14 q15 q16 q17 q18 q19 q20 q21 q22 q23 q24 q25 q26 q27 q28 q29 q30 q31 q32 q33 q34 q35 q36 q37 q38 wrap64 app_some mmL mmV mm2 eqE eqParts eqInt eqBool eqStr partV q39 q40 pickV q41 q42 q43 q44 q45 q46 q47 q48 q49 appE oldOf rowOf updL q50 q51 q52 q53 zlt ovr_get ite_neN ite_eqN q54 q55 q56 q57 q58 q59 q60 q61 q62 q63 q64 q65 q66 q67 tailP_f tailP_t tailF_f tailF_t slcP bndO capO slcLen intOf Option.isSome_none Option.isNone_none Option.isSome_some Option.isNone_some nilP slc_sl slc_csl slc_osl slc_osl0 slc_ocap slc_str List.append_nil List.length_append resP resPs resP1 PV.sc.injEq Value.bool.injEq Value.int.injEq
section
set_option maxRecDepth 20000
attribute [local go_sem] pv_len pv_take Nat.add_assoc tm_len tm_take pv_one tm_one id_ne id_ne' id_ne2 List.append_assoc tm_take_app tm_drop_app tm_d6 tm_d7 tm_d8 tm_d9 tm_d10 tm_d11 tm_d12 tm_d13 tm_d14 tm_d15 ent_len ent_take ent_one tpvB_len tpvB_take tpvB_one
def Dcl.formedR (d : Dcl) : Bool := decide (1 ≤ d.kind) && (decide (d.kind ≤ 5) && (nameB d.name && (d.typ.right d.params 0 && (if d.kind = 5 then noughtB d.val && famB d else if d.fixed ≠ 0 ∨ d.ctors.length ≠ 0 then false else if d.kind = 1 then noughtB d.val else d.val.right d.params 0))))
theorem formedR_eq (d : Dcl) : d.formedR = d.formed := by
  have hp : d.typ.right d.params 0 = true → 0 ≤ d.params ∧ d.params ≤ 4 := fun h => by
    simp only [Tm.right, Bool.and_eq_true, decide_eq_true_eq] at h
    exact ⟨h.2.1, h.2.2.1⟩
  simp only [Dcl.formedR, Dcl.formed, noFamB]
  cases hr : d.typ.right d.params 0 with
  | false => simp
  | true =>
    obtain ⟨h1, h2⟩ := hp hr
    rw [decide_eq_true h1, decide_eq_true h2]
    cases nameB d.name with
    | false => simp
    | true =>
      simp only [Bool.true_and]
      by_cases e5 : d.kind = 5
      · rw [e5]; simp
      · by_cases e1 : d.kind = 1
        · rw [e1]
          by_cases a : d.fixed = 0 <;> by_cases b : d.ctors.length = 0 <;> simp [a, b]
        · by_cases e2 : d.kind = 2 ∨ d.kind = 3 ∨ d.kind = 4
          · have x1 : 1 ≤ d.kind := by omega
            have x2 : d.kind ≤ 5 := by omega
            rw [decide_eq_true x1, decide_eq_true x2]
            simp only [e5, e1, e2, if_true, if_false]
            by_cases a : d.fixed = 0 <;> by_cases b : d.ctors.length = 0 <;> simp [a, b]
          · have x : decide (1 ≤ d.kind) = false ∨ decide (d.kind ≤ 5) = false := by
              by_cases y : 1 ≤ d.kind
              · exact .inr (decide_eq_false (by omega))
              · exact .inl (decide_eq_false y)
            simp only [e5, e1, e2, if_false]
            rcases x with x | x <;> simp [x]
set_option maxHeartbeats 16000000 in
theorem Formed08_p (d : Dcl) : PPure Tryz.prog F.ref08_Formed [.agg d.pv] (.sc (.bool d.formed)) := by
  rw [← formedR_eq]
  refine pure_by is_ref08_Formed (by simp) rfl fun hb nx => ?_
  clear hb
  have c1 := ref01_Right_p d.name
  have c2 := ref04_Right_p d.typ d.params 0
  have c4 := ref04_Right_p d.val d.params 0
  have c3 : PPure Tryz.prog F.ref00_SameTerm [.agg d.val.pv, .agg [.sc (.int .i64 0), .sc (.int .i64 0), .sc (.string ⟨#[]⟩), .sc (.slice none 0 0), .sc (.slice none 0 0)]] (.sc (.bool (noughtB d.val))) :=
    (SameTerm_p d.val.size d.val noTm (Nat.le_refl _)).weak (args' := [.agg d.val.pv, .agg [.sc (.int .i64 0), .sc (.int .i64 0), .sc (.string ⟨#[]⟩), .sc (.slice none 0 0), .sc (.slice none 0 0)]]) (by
      simp only [noTm, Tm.pv, List.map_nil]
      exact ⟨.refl _, Weak.agg ⟨.refl _, .refl _, .refl _, .nil 3, .nil 5, trivial⟩, trivial⟩) (.refl _)
  simp only [Dcl.formedR, famB, spanB]
  obtain ⟨kind, params, name, typ, val, fixed, ctors⟩ := d
  simp only [Dcl.pv] at c1 c2 c3 c4 ⊢
  by_cases k1 : 1 ≤ kind
  rotate_left
  · rw [decide_eq_false k1]
    repeat' (first | ((with_reducible first | refine wA (by omega) ?_ | refine wB (by omega) ?_ | refine wC (by omega) ?_ | refine wD (by omega) ?_ | refine wE ?_ ?_ | refine wF ?_ ?_ | refine wG ?_ ?_ | refine wH ?_ ?_ | refine wI ?_ ?_ | refine wJ ?_ ?_ | refine wK ?_ ?_ | refine wL ?_ ?_) <;> intro _) | simp (maxSteps := 1000000) (disch := omega) only [go_sem, Nat.reduceAdd, Nat.reduceMul, Nat.reduceSub, Nat.reduceLeDiff, Nat.reduceEqDiff, Nat.reduceBEq, ↓reduceIte, reduceCtorEq, Int.reduceEq, Int.reduceLE, Int.reduceLT, Int.reduceAdd, Int.reduceSub, Int.reduceNeg, Int.reduceToNat, Int.reduceNe, Nat.reducePow, Nat.reduceShiftRight, Nat.reduceMod, mc_ref08_Formed, *])
    all_goals (exact fin_tmp (.inr rfl) cE3)
  by_cases k2 : kind ≤ 5
  rotate_left
  · rw [decide_eq_true k1, decide_eq_false k2]
    repeat' (first | ((with_reducible first | refine wA (by omega) ?_ | refine wB (by omega) ?_ | refine wC (by omega) ?_ | refine wD (by omega) ?_ | refine wE ?_ ?_ | refine wF ?_ ?_ | refine wG ?_ ?_ | refine wH ?_ ?_ | refine wI ?_ ?_ | refine wJ ?_ ?_ | refine wK ?_ ?_ | refine wL ?_ ?_) <;> intro _) | simp (maxSteps := 1000000) (disch := omega) only [go_sem, Nat.reduceAdd, Nat.reduceMul, Nat.reduceSub, Nat.reduceLeDiff, Nat.reduceEqDiff, Nat.reduceBEq, ↓reduceIte, reduceCtorEq, Int.reduceEq, Int.reduceLE, Int.reduceLT, Int.reduceAdd, Int.reduceSub, Int.reduceNeg, Int.reduceToNat, Int.reduceNe, Nat.reducePow, Nat.reduceShiftRight, Nat.reduceMod, mc_ref08_Formed, *])
    all_goals (exact fin_tmp (.inr rfl) cE3)
  rw [decide_eq_true k1, decide_eq_true k2]
  simp only [Bool.true_and]
  generalize nameB name = b1 at c1
  generalize typ.right params 0 = b2 at c2
  generalize noughtB val = b3 at c3
  generalize val.right params 0 = b4 at c4
  cases b1 with
  | false =>
    repeat' (first | ((with_reducible first | refine wA (by omega) ?_ | refine wB (by omega) ?_ | refine wC (by omega) ?_ | refine wD (by omega) ?_ | refine wE ?_ ?_ | refine wF ?_ ?_ | refine wG ?_ ?_ | refine wH ?_ ?_ | refine wI ?_ ?_ | refine wJ ?_ ?_ | refine wK ?_ ?_ | refine wL ?_ ?_) <;> intro _) | (((with_reducible refine call_id ?_); (first | (refine call_pure (c1) ?_)))) | simp (maxSteps := 1000000) (disch := omega) only [go_sem, Nat.reduceAdd, Nat.reduceMul, Nat.reduceSub, Nat.reduceLeDiff, Nat.reduceEqDiff, Nat.reduceBEq, ↓reduceIte, reduceCtorEq, Int.reduceEq, Int.reduceLE, Int.reduceLT, Int.reduceAdd, Int.reduceSub, Int.reduceNeg, Int.reduceToNat, Int.reduceNe, Nat.reducePow, Nat.reduceShiftRight, Nat.reduceMod, mc_ref08_Formed, *])
    all_goals (exact fin_tmp (.inr rfl) cE3)
  | true =>
  cases b2 with
  | false =>
    repeat' (first | ((with_reducible first | refine wA (by omega) ?_ | refine wB (by omega) ?_ | refine wC (by omega) ?_ | refine wD (by omega) ?_ | refine wE ?_ ?_ | refine wF ?_ ?_ | refine wG ?_ ?_ | refine wH ?_ ?_ | refine wI ?_ ?_ | refine wJ ?_ ?_ | refine wK ?_ ?_ | refine wL ?_ ?_) <;> intro _) | (((with_reducible refine call_id ?_); (first | (refine call_pure (c1) ?_) | (refine call_pure (c2) ?_)))) | simp (maxSteps := 1000000) (disch := omega) only [go_sem, Nat.reduceAdd, Nat.reduceMul, Nat.reduceSub, Nat.reduceLeDiff, Nat.reduceEqDiff, Nat.reduceBEq, ↓reduceIte, reduceCtorEq, Int.reduceEq, Int.reduceLE, Int.reduceLT, Int.reduceAdd, Int.reduceSub, Int.reduceNeg, Int.reduceToNat, Int.reduceNe, Nat.reducePow, Nat.reduceShiftRight, Nat.reduceMod, mc_ref08_Formed, *])
    all_goals (exact fin_tmp (.inr rfl) cE3)
  | true =>
  simp only [Bool.true_and]
  by_cases h5 : kind = 5
  · subst h5
    simp only [if_true]
    cases b3 with
    | false =>
      simp only [Bool.false_and]
      repeat' (first | ((with_reducible first | refine wA (by omega) ?_ | refine wB (by omega) ?_ | refine wC (by omega) ?_ | refine wD (by omega) ?_ | refine wE ?_ ?_ | refine wF ?_ ?_ | refine wG ?_ ?_ | refine wH ?_ ?_ | refine wI ?_ ?_ | refine wJ ?_ ?_ | refine wK ?_ ?_ | refine wL ?_ ?_) <;> intro _) | (((with_reducible refine call_id ?_); (first | (refine call_pure (c1) ?_) | (refine call_pure (c2) ?_) | (refine call_pure (c3) ?_)))) | simp (maxSteps := 1000000) (disch := omega) only [go_sem, Nat.reduceAdd, Nat.reduceMul, Nat.reduceSub, Nat.reduceLeDiff, Nat.reduceEqDiff, Nat.reduceBEq, ↓reduceIte, reduceCtorEq, Int.reduceEq, Int.reduceLE, Int.reduceLT, Int.reduceAdd, Int.reduceSub, Int.reduceNeg, Int.reduceToNat, Int.reduceNe, Nat.reducePow, Nat.reduceShiftRight, Nat.reduceMod, mc_ref08_Formed, *])
      all_goals (exact fin_tmp (.inr rfl) cE3)
    | true =>
    simp only [Bool.true_and]
    by_cases h : 0 ≤ fixed ∧ fixed ≤ 16 ∧ ctors.length ≤ 8
    · obtain ⟨h0, h1, h2⟩ := h
      rw [decide_eq_true h0, decide_eq_true h1, decide_eq_true h2]
      simp only [Bool.true_and]
      repeat' (first | ((with_reducible first | refine wA (by omega) ?_ | refine wB (by omega) ?_ | refine wC (by omega) ?_ | refine wD (by omega) ?_ | refine wE ?_ ?_ | refine wF ?_ ?_ | refine wG ?_ ?_ | refine wH ?_ ?_ | refine wI ?_ ?_ | refine wJ ?_ ?_ | refine wK ?_ ?_ | refine wL ?_ ?_) <;> intro _) | (((with_reducible refine call_id ?_); (first | (refine call_pure (c1) ?_) | (refine call_pure (c2) ?_) | (refine call_pure (c3) ?_)))) | simp (maxSteps := 1000000) (disch := omega) only [go_sem, Nat.reduceAdd, Nat.reduceMul, Nat.reduceSub, Nat.reduceLeDiff, Nat.reduceEqDiff, Nat.reduceBEq, ↓reduceIte, reduceCtorEq, Int.reduceEq, Int.reduceLE, Int.reduceLT, Int.reduceAdd, Int.reduceSub, Int.reduceNeg, Int.reduceToNat, Int.reduceNe, Nat.reducePow, Nat.reduceShiftRight, Nat.reduceMod, mc_ref08_Formed, *])
      clear c1 c2 c3 c4
      refine c_loopW 158456323847937054469676597268 (by kernel_rfl) (fun j f H m => ∃ i : Nat, j = ctors.length - i ∧ i ≤ ctors.length ∧ f 4 = .sc (.int .i64 i) ∧ Kept ((ctors.take i).all (ctrB params) = true)) _ ⟨0, rfl, Nat.zero_le _, cE1, Kept.mk rfl⟩ ?_
      rintro _ f H m ⟨i, rfl, hi, e4, hs⟩
      by_cases hlt : i < ctors.length
      · have eg : ctors[i]? = some ctors[i] := List.getElem?_eq_getElem hlt
        have c1 := ref01_Right_p ctors[i].name
        have c2 := ref04_Right_p ctors[i].typ params 0
        cases hc : ctrB params ctors[i] with
        | false =>
          have e : ctors.all (ctrB params) = false := by
            rw [Bool.eq_false_iff]
            intro h
            have := List.all_eq_true.1 h _ (List.getElem_mem hlt)
            rw [hc] at this
            cases this
          rw [e]
          clear e hs
          cases hn : nameB ctors[i].name with
          | false =>
            rw [hn] at c1
            clear hn hc c2
            repeat' (first | ((with_reducible first | refine wA (by omega) ?_ | refine wB (by omega) ?_ | refine wC (by omega) ?_ | refine wD (by omega) ?_ | refine wE ?_ ?_ | refine wF ?_ ?_ | refine wG ?_ ?_ | refine wH ?_ ?_ | refine wI ?_ ?_ | refine wJ ?_ ?_ | refine wK ?_ ?_ | refine wL ?_ ?_) <;> intro _) | (((with_reducible refine call_id ?_); (first | (refine call_pure (c1) ?_)))) | simp (maxSteps := 1000000) (disch := omega) only [go_sem, Nat.reduceAdd, Nat.reduceMul, Nat.reduceSub, Nat.reduceLeDiff, Nat.reduceEqDiff, Nat.reduceBEq, ↓reduceIte, reduceCtorEq, Int.reduceEq, Int.reduceLE, Int.reduceLT, Int.reduceAdd, Int.reduceSub, Int.reduceNeg, Int.reduceToNat, Int.reduceNe, Nat.reducePow, Nat.reduceShiftRight, Nat.reduceMod, Ctr.pv, *])
            all_goals (exact fin_tmp (.inr rfl) cE3)
          | true =>
            have hr : ctors[i].typ.right params 0 = false := by simpa [ctrB, hn] using hc
            rw [hn] at c1
            rw [hr] at c2
            clear hn hc hr
            repeat' (first | ((with_reducible first | refine wA (by omega) ?_ | refine wB (by omega) ?_ | refine wC (by omega) ?_ | refine wD (by omega) ?_ | refine wE ?_ ?_ | refine wF ?_ ?_ | refine wG ?_ ?_ | refine wH ?_ ?_ | refine wI ?_ ?_ | refine wJ ?_ ?_ | refine wK ?_ ?_ | refine wL ?_ ?_) <;> intro _) | (((with_reducible refine call_id ?_); (first | (refine call_pure (c1) ?_) | (refine call_pure (c2) ?_)))) | simp (maxSteps := 1000000) (disch := omega) only [go_sem, Nat.reduceAdd, Nat.reduceMul, Nat.reduceSub, Nat.reduceLeDiff, Nat.reduceEqDiff, Nat.reduceBEq, ↓reduceIte, reduceCtorEq, Int.reduceEq, Int.reduceLE, Int.reduceLT, Int.reduceAdd, Int.reduceSub, Int.reduceNeg, Int.reduceToNat, Int.reduceNe, Nat.reducePow, Nat.reduceShiftRight, Nat.reduceMod, Ctr.pv, *])
            all_goals (exact fin_tmp (.inr rfl) cE3)
        | true =>
          have h3 : nameB ctors[i].name = true ∧ ctors[i].typ.right params 0 = true := by simpa [ctrB] using hc
          rw [h3.1] at c1
          rw [h3.2] at c2
          have hs2 : Kept ((ctors.take (i + 1)).all (ctrB params) = true) := Kept.mk (by rw [List.take_succ_eq_append_getElem hlt, List.all_append, hs.out, List.all_cons, hc]; rfl)
          clear h3 hc hs
          repeat' (first | ((with_reducible first | refine wA (by omega) ?_ | refine wB (by omega) ?_ | refine wC (by omega) ?_ | refine wD (by omega) ?_ | refine wE ?_ ?_ | refine wF ?_ ?_ | refine wG ?_ ?_ | refine wH ?_ ?_ | refine wI ?_ ?_ | refine wJ ?_ ?_ | refine wK ?_ ?_ | refine wL ?_ ?_) <;> intro _) | (((with_reducible refine call_id ?_); (first | (refine call_pure (c1) ?_) | (refine call_pure (c2) ?_)))) | simp (maxSteps := 1000000) (disch := omega) only [go_sem, Nat.reduceAdd, Nat.reduceMul, Nat.reduceSub, Nat.reduceLeDiff, Nat.reduceEqDiff, Nat.reduceBEq, ↓reduceIte, reduceCtorEq, Int.reduceEq, Int.reduceLE, Int.reduceLT, Int.reduceAdd, Int.reduceSub, Int.reduceNeg, Int.reduceToNat, Int.reduceNe, Nat.reducePow, Nat.reduceShiftRight, Nat.reduceMod, Ctr.pv, *])
          exact Nx.mk (ctors.length - (i + 1)) cE1 ⟨i + 1, rfl, cE1, by simp [upd], hs2⟩
      · obtain rfl : i = ctors.length := by omega
        have h3 := hs.out
        rw [List.take_length] at h3
        rw [h3]
        clear hs h3
        repeat' (first | ((with_reducible first | refine wA (by omega) ?_ | refine wB (by omega) ?_ | refine wC (by omega) ?_ | refine wD (by omega) ?_ | refine wE ?_ ?_ | refine wF ?_ ?_ | refine wG ?_ ?_ | refine wH ?_ ?_ | refine wI ?_ ?_ | refine wJ ?_ ?_ | refine wK ?_ ?_ | refine wL ?_ ?_) <;> intro _) | simp (maxSteps := 1000000) (disch := omega) only [go_sem, Nat.reduceAdd, Nat.reduceMul, Nat.reduceSub, Nat.reduceLeDiff, Nat.reduceEqDiff, Nat.reduceBEq, ↓reduceIte, reduceCtorEq, Int.reduceEq, Int.reduceLE, Int.reduceLT, Int.reduceAdd, Int.reduceSub, Int.reduceNeg, Int.reduceToNat, Int.reduceNe, Nat.reducePow, Nat.reduceShiftRight, Nat.reduceMod, *])
        all_goals (exact fin_tmp (.inr rfl) cE3)
    · have e : (decide (0 ≤ fixed) && decide (fixed ≤ 16) && (decide (ctors.length ≤ 8) && ctors.all (ctrB params))) = false := by
        rw [Bool.eq_false_iff]
        intro h2
        simp only [Bool.and_eq_true, decide_eq_true_eq] at h2
        exact h ⟨h2.1.1, h2.1.2, h2.2.1⟩
      rw [e]
      clear e
      have h9 : fixed < 0 ∨ (0 ≤ fixed ∧ 16 < fixed) ∨ (0 ≤ fixed ∧ fixed ≤ 16 ∧ 8 < ctors.length) := by omega
      clear h
      rcases h9 with h | ⟨h, h2⟩ | ⟨h, h2, h3⟩
      all_goals
        repeat' (first | ((with_reducible first | refine wA (by omega) ?_ | refine wB (by omega) ?_ | refine wC (by omega) ?_ | refine wD (by omega) ?_ | refine wE ?_ ?_ | refine wF ?_ ?_ | refine wG ?_ ?_ | refine wH ?_ ?_ | refine wI ?_ ?_ | refine wJ ?_ ?_ | refine wK ?_ ?_ | refine wL ?_ ?_) <;> intro _) | (((with_reducible refine call_id ?_); (first | (refine call_pure (c1) ?_) | (refine call_pure (c2) ?_) | (refine call_pure (c3) ?_)))) | simp (maxSteps := 1000000) (disch := omega) only [go_sem, Nat.reduceAdd, Nat.reduceMul, Nat.reduceSub, Nat.reduceLeDiff, Nat.reduceEqDiff, Nat.reduceBEq, ↓reduceIte, reduceCtorEq, Int.reduceEq, Int.reduceLE, Int.reduceLT, Int.reduceAdd, Int.reduceSub, Int.reduceNeg, Int.reduceToNat, Int.reduceNe, Nat.reducePow, Nat.reduceShiftRight, Nat.reduceMod, mc_ref08_Formed, *])
        all_goals (exact fin_tmp (.inr rfl) cE3)
  · simp only [h5, if_false]
    by_cases hf : fixed = 0
    rotate_left
    · rw [if_pos (.inl hf)]
      repeat' (first | ((with_reducible first | refine wA (by omega) ?_ | refine wB (by omega) ?_ | refine wC (by omega) ?_ | refine wD (by omega) ?_ | refine wE ?_ ?_ | refine wF ?_ ?_ | refine wG ?_ ?_ | refine wH ?_ ?_ | refine wI ?_ ?_ | refine wJ ?_ ?_ | refine wK ?_ ?_ | refine wL ?_ ?_) <;> intro _) | (((with_reducible refine call_id ?_); (first | (refine call_pure (c1) ?_) | (refine call_pure (c2) ?_) | (refine call_pure (c3) ?_)))) | simp (maxSteps := 1000000) (disch := omega) only [go_sem, Nat.reduceAdd, Nat.reduceMul, Nat.reduceSub, Nat.reduceLeDiff, Nat.reduceEqDiff, Nat.reduceBEq, ↓reduceIte, reduceCtorEq, Int.reduceEq, Int.reduceLE, Int.reduceLT, Int.reduceAdd, Int.reduceSub, Int.reduceNeg, Int.reduceToNat, Int.reduceNe, Nat.reducePow, Nat.reduceShiftRight, Nat.reduceMod, mc_ref08_Formed, *])
      all_goals (exact fin_tmp (.inr rfl) cE3)
    by_cases hl : ctors.length = 0
    rotate_left
    · rw [if_pos (.inr hl)]
      repeat' (first | ((with_reducible first | refine wA (by omega) ?_ | refine wB (by omega) ?_ | refine wC (by omega) ?_ | refine wD (by omega) ?_ | refine wE ?_ ?_ | refine wF ?_ ?_ | refine wG ?_ ?_ | refine wH ?_ ?_ | refine wI ?_ ?_ | refine wJ ?_ ?_ | refine wK ?_ ?_ | refine wL ?_ ?_) <;> intro _) | (((with_reducible refine call_id ?_); (first | (refine call_pure (c1) ?_) | (refine call_pure (c2) ?_) | (refine call_pure (c3) ?_)))) | simp (maxSteps := 1000000) (disch := omega) only [go_sem, Nat.reduceAdd, Nat.reduceMul, Nat.reduceSub, Nat.reduceLeDiff, Nat.reduceEqDiff, Nat.reduceBEq, ↓reduceIte, reduceCtorEq, Int.reduceEq, Int.reduceLE, Int.reduceLT, Int.reduceAdd, Int.reduceSub, Int.reduceNeg, Int.reduceToNat, Int.reduceNe, Nat.reducePow, Nat.reduceShiftRight, Nat.reduceMod, mc_ref08_Formed, *])
      all_goals (exact fin_tmp (.inr rfl) cE3)
    rw [if_neg (by rintro (h | h); exact h hf; exact h hl)]
    by_cases h1 : kind = 1
    · rw [if_pos h1]
      repeat' (first | ((with_reducible first | refine wA (by omega) ?_ | refine wB (by omega) ?_ | refine wC (by omega) ?_ | refine wD (by omega) ?_ | refine wE ?_ ?_ | refine wF ?_ ?_ | refine wG ?_ ?_ | refine wH ?_ ?_ | refine wI ?_ ?_ | refine wJ ?_ ?_ | refine wK ?_ ?_ | refine wL ?_ ?_) <;> intro _) | (((with_reducible refine call_id ?_); (first | (refine call_pure (c1) ?_) | (refine call_pure (c2) ?_) | (refine call_pure (c3) ?_)))) | simp (maxSteps := 1000000) (disch := omega) only [go_sem, Nat.reduceAdd, Nat.reduceMul, Nat.reduceSub, Nat.reduceLeDiff, Nat.reduceEqDiff, Nat.reduceBEq, ↓reduceIte, reduceCtorEq, Int.reduceEq, Int.reduceLE, Int.reduceLT, Int.reduceAdd, Int.reduceSub, Int.reduceNeg, Int.reduceToNat, Int.reduceNe, Nat.reducePow, Nat.reduceShiftRight, Nat.reduceMod, mc_ref08_Formed, *])
      all_goals (exact fin_tmp (.inr rfl) cE3)
    · rw [if_neg h1]
      repeat' (first | ((with_reducible first | refine wA (by omega) ?_ | refine wB (by omega) ?_ | refine wC (by omega) ?_ | refine wD (by omega) ?_ | refine wE ?_ ?_ | refine wF ?_ ?_ | refine wG ?_ ?_ | refine wH ?_ ?_ | refine wI ?_ ?_ | refine wJ ?_ ?_ | refine wK ?_ ?_ | refine wL ?_ ?_) <;> intro _) | (((with_reducible refine call_id ?_); (first | (refine call_pure (c1) ?_) | (refine call_pure (c2) ?_) | (refine call_pure (c3) ?_) | (refine call_pure (c4) ?_)))) | simp (maxSteps := 1000000) (disch := omega) only [go_sem, Nat.reduceAdd, Nat.reduceMul, Nat.reduceSub, Nat.reduceLeDiff, Nat.reduceEqDiff, Nat.reduceBEq, ↓reduceIte, reduceCtorEq, Int.reduceEq, Int.reduceLE, Int.reduceLT, Int.reduceAdd, Int.reduceSub, Int.reduceNeg, Int.reduceToNat, Int.reduceNe, Nat.reducePow, Nat.reduceShiftRight, Nat.reduceMod, mc_ref08_Formed, *])
      all_goals (exact fin_tmp (.inr rfl) cE3)
end
section
set_option maxRecDepth 20000
attribute [local go_sem] pv_len pv_take Nat.add_assoc tm_len tm_take pv_one tm_one id_ne id_ne' id_ne2 List.append_assoc tm_take_app tm_drop_app tm_d6 tm_d7 tm_d8 tm_d9 tm_d10 tm_d11 tm_d12 tm_d13 tm_d14 tm_d15 ent_len ent_take ent_one tpvB_len tpvB_take tpvB_one
def massC : List Ctr → Nat
  | [] => 0
  | c :: r => c.typ.mass + c.name.size / 16 + massC r
def fitsC : List Ctr → Prop
  | [] => True
  | c :: r => (c.name.size ≤ 9223372036854775807 ∧ c.typ.fits) ∧ fitsC r
theorem fitsC_mem : ∀ (ts : List Ctr) (k : Nat) (h : k < ts.length), fitsC ts → ts[k].name.size ≤ 9223372036854775807 ∧ ts[k].typ.fits
  | x :: r, 0, h, hf => by simpa using hf.1
  | x :: r, k + 1, h, hf => by simpa using fitsC_mem r k (by simpa using h) hf.2
theorem massC_take_succ : ∀ (ts : List Ctr) (k : Nat) (h : k < ts.length), massC (ts.take (k + 1)) = massC (ts.take k) + (ts[k].typ.mass + ts[k].name.size / 16)
  | x :: r, 0, h => by simp [massC]
  | x :: r, k + 1, h => by
    have := massC_take_succ r k (by simpa using h)
    simp only [List.take_succ_cons, massC, List.getElem_cons_succ, this]
    omega
theorem massC_append : ∀ a b : List Ctr, massC (a ++ b) = massC a + massC b
  | [], b => by simp [massC]
  | x :: r, b => by simp only [List.cons_append, massC, massC_append r b]; omega
theorem massC_take_le (ts : List Ctr) (k : Nat) : massC (ts.take k) ≤ massC ts := by
  have h := massC_append (ts.take k) (ts.drop k)
  rw [List.take_append_drop] at h
  omega
def Dcl.mass (d : Dcl) : Nat := d.typ.mass + (d.val.mass + (d.name.size / 16 + massC d.ctors))
def Dcl.fits (d : Dcl) : Prop := d.name.size ≤ 9223372036854775807 ∧ d.typ.fits ∧ d.val.fits ∧ fitsC d.ctors
theorem tdiv16 (n : Nat) : Int.tdiv (n : Int) 16 = ((n / 16 : Nat) : Int) := by rw [Int.tdiv_eq_ediv_of_nonneg (by omega)]; omega
set_option maxHeartbeats 16000000 in
theorem DeclNodes_p (most : Nat) (hm : most ≤ 1000000) (d : Dcl) (hl : d.ctors.length ≤ most) (hf : d.fits) : PPure Tryz.prog F.ref00_DeclNodes [.agg d.pv, .sc (.int .i64 most)] (.sc (.int .i64 (min d.mass (most + 1) : Nat))) := by
  obtain ⟨hf1, hf2, hf3, hf4⟩ := hf
  refine pure_by is_ref00_DeclNodes (by simp) rfl fun hb nx => ?_
  clear hb
  have c1 := Mass_p most hm d.typ.size d.typ (Nat.le_refl _) hf2
  have c2 := Mass_p most hm d.val.size d.val (Nat.le_refl _) hf3
  have hfk := Kept.mk hf4
  clear hf2 hf3 hf4
  simp only [Dcl.mass]
  obtain ⟨kind, params, name, typ, val, fixed, ctors⟩ := d
  simp only [Dcl.pv] at c1 c2 hl hf1 hfk ⊢
  have hd := tdiv16 name.size
  have hA : Kept (min (min typ.mass (most + 1) + min val.mass (most + 1) + name.size / 16) (most + 1) = min (typ.mass + (val.mass + name.size / 16)) (most + 1)) := Kept.mk (by omega)
  have hB : min typ.mass (most + 1) ≤ most + 1 ∧ min val.mass (most + 1) ≤ most + 1 := ⟨by omega, by omega⟩
  generalize min typ.mass (most + 1) = m1 at c1 hA hB
  generalize min val.mass (most + 1) = m2 at c2 hA hB
  obtain ⟨hB1, hB2⟩ := hB
  repeat' (first | ((with_reducible first | refine wA (by omega) ?_ | refine wB (by omega) ?_ | refine wC (by omega) ?_ | refine wD (by omega) ?_ | refine wE ?_ ?_ | refine wF ?_ ?_ | refine wG ?_ ?_ | refine wH ?_ ?_ | refine wI ?_ ?_ | refine wJ ?_ ?_ | refine wK ?_ ?_ | refine wL ?_ ?_) <;> intro _) | (((with_reducible refine call_id ?_); (first | (refine call_pure (c1) ?_) | (refine call_pure (c2) ?_)))) | simp (maxSteps := 1000000) (disch := omega) only [go_sem, Nat.reduceAdd, Nat.reduceMul, Nat.reduceSub, Nat.reduceLeDiff, Nat.reduceEqDiff, Nat.reduceBEq, ↓reduceIte, reduceCtorEq, Int.reduceEq, Int.reduceLE, Int.reduceLT, Int.reduceAdd, Int.reduceSub, Int.reduceNeg, Int.reduceToNat, Int.reduceNe, Nat.reducePow, Nat.reduceShiftRight, Nat.reduceMod, mc_ref00_DeclNodes, hd, *])
  refine c_loopW 576460752034988128 (by kernel_rfl) (fun j f H m => ∃ i t : Nat, j = ctors.length - i ∧ i ≤ ctors.length ∧ Kept (min t (most + 1) = min (typ.mass + (val.mass + (name.size / 16 + massC (ctors.take i)))) (most + 1)) ∧ t ≤ 2 * most + 2 + 1152921504606846976 ∧ f 5 = .sc (.int .i64 t) ∧ f 6 = .sc (.int .i64 i)) _ ⟨0, m1 + m2 + name.size / 16, rfl, cE1, Kept.mk (by simp only [List.take_zero, massC, Nat.add_zero]; exact hA.out), by omega, by simp [upd], cE1⟩ ?_
  clear hA
  rintro _ f H m ⟨i, t, rfl, hi, ht, ht2, e5, e6⟩
  by_cases hgo : i < ctors.length ∧ t ≤ most
  · obtain ⟨hlt, hfull⟩ := hgo
    have eg : ctors[i]? = some ctors[i] := List.getElem?_eq_getElem hlt
    have hs := massC_take_succ ctors i hlt
    obtain ⟨g1, g2⟩ := fitsC_mem ctors i hlt hfk.out
    have c3 := Mass_p most hm ctors[i].typ.size ctors[i].typ (Nat.le_refl _) g2
    have hd2 := tdiv16 ctors[i].name.size
    have hC : min ctors[i].typ.mass (most + 1) ≤ most + 1 := by omega
    have hk : Kept (min (t + (min ctors[i].typ.mass (most + 1) + ctors[i].name.size / 16)) (most + 1) = min (typ.mass + (val.mass + (name.size / 16 + massC (ctors.take (i + 1))))) (most + 1)) := Kept.mk (by have := ht.out; omega)
    clear ht hs g2
    generalize min ctors[i].typ.mass (most + 1) = m3 at c3 hC hk
    repeat' (first | ((with_reducible first | refine wA (by omega) ?_ | refine wB (by omega) ?_ | refine wC (by omega) ?_ | refine wD (by omega) ?_ | refine wE ?_ ?_ | refine wF ?_ ?_ | refine wG ?_ ?_ | refine wH ?_ ?_ | refine wI ?_ ?_ | refine wJ ?_ ?_ | refine wK ?_ ?_ | refine wL ?_ ?_) <;> intro _) | (((with_reducible refine call_id ?_); (first | (refine call_pure (c3) ?_)))) | simp (maxSteps := 1000000) (disch := omega) only [go_sem, Nat.reduceAdd, Nat.reduceMul, Nat.reduceSub, Nat.reduceLeDiff, Nat.reduceEqDiff, Nat.reduceBEq, ↓reduceIte, reduceCtorEq, Int.reduceEq, Int.reduceLE, Int.reduceLT, Int.reduceAdd, Int.reduceSub, Int.reduceNeg, Int.reduceToNat, Int.reduceNe, Nat.reducePow, Nat.reduceShiftRight, Nat.reduceMod, Ctr.pv, hd2, *])
    exact Nx.mk (ctors.length - (i + 1)) cE1 ⟨i + 1, t + (m3 + ctors[i].name.size / 16), rfl, cE1, hk, by omega, by simp [upd], cE1⟩
  · have hfin : min t (most + 1) = min (typ.mass + (val.mass + (name.size / 16 + massC ctors))) (most + 1) := by
      have ht' := ht.out
      by_cases h : i < ctors.length
      · have := massC_take_le ctors i; omega
      · have e : ctors.take i = ctors := List.take_of_length_le (by omega)
        rw [e] at ht'
        exact ht'
    have hor : (i < ctors.length ∧ most < t) ∨ ¬ i < ctors.length := by omega
    rw [← hfin]
    clear hgo ht hfin
    rcases hor with ⟨h, h'⟩ | h
    all_goals
      repeat' (first | ((with_reducible first | refine wA (by omega) ?_ | refine wB (by omega) ?_ | refine wC (by omega) ?_ | refine wD (by omega) ?_ | refine wE ?_ ?_ | refine wF ?_ ?_ | refine wG ?_ ?_ | refine wH ?_ ?_ | refine wI ?_ ?_ | refine wJ ?_ ?_ | refine wK ?_ ?_ | refine wL ?_ ?_) <;> intro _) | simp (maxSteps := 1000000) (disch := omega) only [go_sem, Nat.reduceAdd, Nat.reduceMul, Nat.reduceSub, Nat.reduceLeDiff, Nat.reduceEqDiff, Nat.reduceBEq, ↓reduceIte, reduceCtorEq, Int.reduceEq, Int.reduceLE, Int.reduceLT, Int.reduceAdd, Int.reduceSub, Int.reduceNeg, Int.reduceToNat, Int.reduceNe, Nat.reducePow, Nat.reduceShiftRight, Nat.reduceMod, *])
      refine fin_tmp (.inr rfl) ?_
      simp (disch := omega) only [go_sem, Nat.reduceMul, Nat.reduceSub, Nat.reduceShiftRight, Nat.reduceMod, Nat.reduceEqDiff, Nat.reduceAdd, ↓reduceIte, Nat.reduceLeDiff, *]
      omega
def Dcl.great (d : Dcl) : Bool := decide (20 < d.ctors.length ∨ 4000 < d.mass)
theorem great08_p (d : Dcl) (hf : d.fits) : PPure Tryz.prog F.law08_Great [.agg d.pv] (.sc (.bool d.great)) := by
  refine pure_by is_law08_Great (by simp) rfl fun hb nx => ?_
  clear hb
  simp only [Dcl.great]
  by_cases g1 : 20 < d.ctors.length
  · rw [decide_eq_true (.inl g1)]
    obtain ⟨kind, params, name, typ, val, fixed, ctors⟩ := d
    simp only [Dcl.pv] at g1 ⊢
    repeat' (first | ((with_reducible first | refine wA (by omega) ?_ | refine wB (by omega) ?_ | refine wC (by omega) ?_ | refine wD (by omega) ?_ | refine wE ?_ ?_ | refine wF ?_ ?_ | refine wG ?_ ?_ | refine wH ?_ ?_ | refine wI ?_ ?_ | refine wJ ?_ ?_ | refine wK ?_ ?_ | refine wL ?_ ?_) <;> intro _) | simp (maxSteps := 1000000) (disch := omega) only [go_sem, Nat.reduceAdd, Nat.reduceMul, Nat.reduceSub, Nat.reduceLeDiff, Nat.reduceEqDiff, Nat.reduceBEq, ↓reduceIte, reduceCtorEq, Int.reduceEq, Int.reduceLE, Int.reduceLT, Int.reduceAdd, Int.reduceSub, Int.reduceNeg, Int.reduceToNat, Int.reduceNe, Nat.reducePow, Nat.reduceShiftRight, Nat.reduceMod, mc_law08_Great, *])
    all_goals (exact fin_tmp (.inr rfl) cE3)
  have c1 := DeclNodes_p 4000 (by omega) d (by omega) hf
  by_cases g2 : 4000 < d.mass
  · rw [decide_eq_true (.inr g2)]
    rw [show min d.mass (4000 + 1) = 4001 by omega] at c1
    obtain ⟨kind, params, name, typ, val, fixed, ctors⟩ := d
    simp only [Dcl.pv] at g1 c1 ⊢
    clear g2 hf
    repeat' (first | ((with_reducible first | refine wA (by omega) ?_ | refine wB (by omega) ?_ | refine wC (by omega) ?_ | refine wD (by omega) ?_ | refine wE ?_ ?_ | refine wF ?_ ?_ | refine wG ?_ ?_ | refine wH ?_ ?_ | refine wI ?_ ?_ | refine wJ ?_ ?_ | refine wK ?_ ?_ | refine wL ?_ ?_) <;> intro _) | (((with_reducible refine call_id ?_); (first | (refine call_pure (c1) ?_)))) | simp (maxSteps := 1000000) (disch := omega) only [go_sem, Nat.reduceAdd, Nat.reduceMul, Nat.reduceSub, Nat.reduceLeDiff, Nat.reduceEqDiff, Nat.reduceBEq, ↓reduceIte, reduceCtorEq, Int.reduceEq, Int.reduceLE, Int.reduceLT, Int.reduceAdd, Int.reduceSub, Int.reduceNeg, Int.reduceToNat, Int.reduceNe, Nat.reducePow, Nat.reduceShiftRight, Nat.reduceMod, mc_law08_Great, tm_t12, tm_t7, *])
    all_goals (exact fin_tmp (.inr rfl) cE3)
  · rw [decide_eq_false (by omega)]
    rw [show min d.mass (4000 + 1) = d.mass by omega] at c1
    generalize d.mass = m at c1 g2
    obtain ⟨kind, params, name, typ, val, fixed, ctors⟩ := d
    simp only [Dcl.pv] at g1 c1 ⊢
    clear hf
    repeat' (first | ((with_reducible first | refine wA (by omega) ?_ | refine wB (by omega) ?_ | refine wC (by omega) ?_ | refine wD (by omega) ?_ | refine wE ?_ ?_ | refine wF ?_ ?_ | refine wG ?_ ?_ | refine wH ?_ ?_ | refine wI ?_ ?_ | refine wJ ?_ ?_ | refine wK ?_ ?_ | refine wL ?_ ?_) <;> intro _) | (((with_reducible refine call_id ?_); (first | (refine call_pure (c1) ?_)))) | simp (maxSteps := 1000000) (disch := omega) only [go_sem, Nat.reduceAdd, Nat.reduceMul, Nat.reduceSub, Nat.reduceLeDiff, Nat.reduceEqDiff, Nat.reduceBEq, ↓reduceIte, reduceCtorEq, Int.reduceEq, Int.reduceLE, Int.reduceLT, Int.reduceAdd, Int.reduceSub, Int.reduceNeg, Int.reduceToNat, Int.reduceNe, Nat.reducePow, Nat.reduceShiftRight, Nat.reduceMod, mc_law08_Great, tm_t12, tm_t7, *])
    all_goals (exact fin_tmp (.inr rfl) cE3)
end
section
set_option maxRecDepth 20000
attribute [local go_sem] pv_len pv_take Nat.add_assoc tm_len tm_take pv_one tm_one id_ne id_ne' id_ne2 List.append_assoc tm_take_app tm_drop_app tm_d6 tm_d7 tm_d8 tm_d9 tm_d10 tm_d11 tm_d12 tm_d13 tm_d14 tm_d15 ent_len ent_take ent_one optC_len optC_take optC_one
def lenW : Int → List ByteArray → Int
  | v, [] => v
  | v, s :: r => if v ≤ 500 then lenW (IntKind.i64.wrap (v + IntKind.i64.wrap (1 + (s.size : Int)))) r else v
def lens5 (names : List ByteArray) : Int := if 500 < names.length then 501 else lenW 0 names
set_option maxHeartbeats 16000000 in
theorem Lengths5_p (names : List ByteArray) : PPure Tryz.prog F.ref00_Lengths [.sl 1 (names.map txt), .sc (.int .i64 500)] (.sc (.int .i64 (lens5 names))) := by
  refine pure_by is_ref00_Lengths (by simp) rfl fun hb nx => ?_
  have hb0 : names.length ≤ 9223372036854775807 := by simp [bndL, PV.bnd] at hb; exact hb.1
  clear hb
  unfold lens5
  by_cases h : 500 < names.length
  · rw [if_pos h]
    repeat' (first | ((with_reducible first | refine wA (by omega) ?_ | refine wB (by omega) ?_ | refine wC (by omega) ?_ | refine wD (by omega) ?_ | refine wE ?_ ?_ | refine wF ?_ ?_ | refine wG ?_ ?_ | refine wH ?_ ?_ | refine wI ?_ ?_ | refine wJ ?_ ?_ | refine wK ?_ ?_ | refine wL ?_ ?_) <;> intro _) | simp (maxSteps := 1000000) (disch := omega) only [go_sem, Nat.reduceAdd, Nat.reduceMul, Nat.reduceSub, Nat.reduceLeDiff, Nat.reduceEqDiff, Nat.reduceBEq, ↓reduceIte, reduceCtorEq, Int.reduceEq, Int.reduceLE, Int.reduceLT, Int.reduceAdd, Int.reduceSub, Int.reduceNeg, Int.reduceToNat, Int.reduceNe, Nat.reducePow, Nat.reduceShiftRight, Nat.reduceMod, mc_ref00_Lengths, *])
    all_goals (exact fin_tmp (.inr rfl) cE3)
  rw [if_neg h]
  repeat' (first | ((with_reducible first | refine wA (by omega) ?_ | refine wB (by omega) ?_ | refine wC (by omega) ?_ | refine wD (by omega) ?_ | refine wE ?_ ?_ | refine wF ?_ ?_ | refine wG ?_ ?_ | refine wH ?_ ?_ | refine wI ?_ ?_ | refine wJ ?_ ?_ | refine wK ?_ ?_ | refine wL ?_ ?_) <;> intro _) | simp (maxSteps := 1000000) (disch := omega) only [go_sem, Nat.reduceAdd, Nat.reduceMul, Nat.reduceSub, Nat.reduceLeDiff, Nat.reduceEqDiff, Nat.reduceBEq, ↓reduceIte, reduceCtorEq, Int.reduceEq, Int.reduceLE, Int.reduceLT, Int.reduceAdd, Int.reduceSub, Int.reduceNeg, Int.reduceToNat, Int.reduceNe, Nat.reducePow, Nat.reduceShiftRight, Nat.reduceMod, mc_ref00_Lengths, *])
  refine c_loopW 4294959200 (by kernel_rfl) (fun j f H m => ∃ (i : Nat) (v : Int), j = names.length - i ∧ i ≤ names.length ∧ f 6 = .sc (.int .i64 i) ∧ f 5 = .sc (.int .i64 v) ∧ Kept (lenW v (names.drop i) = lenW 0 names)) _ ⟨0, 0, rfl, Nat.zero_le _, cE1, cE1, Kept.mk rfl⟩ ?_
  rintro _ f H m ⟨i, v, rfl, hi, e6, e5, hv⟩
  by_cases hlt : i < names.length
  · have eg : names[i]? = some names[i] := List.getElem?_eq_getElem hlt
    have hv2 := hv.out
    rw [List.drop_eq_getElem_cons hlt, lenW] at hv2
    by_cases hle : v ≤ 500
    · rw [if_pos hle] at hv2
      have hvk := Kept.mk hv2
      clear hv hv2
      repeat' (first | ((with_reducible first | refine wA (by omega) ?_ | refine wB (by omega) ?_ | refine wC (by omega) ?_ | refine wD (by omega) ?_ | refine wE ?_ ?_ | refine wF ?_ ?_ | refine wG ?_ ?_ | refine wH ?_ ?_ | refine wI ?_ ?_ | refine wJ ?_ ?_ | refine wK ?_ ?_ | refine wL ?_ ?_) <;> intro _) | simp (maxSteps := 1000000) (disch := omega) only [go_sem, Nat.reduceAdd, Nat.reduceMul, Nat.reduceSub, Nat.reduceLeDiff, Nat.reduceEqDiff, Nat.reduceBEq, ↓reduceIte, reduceCtorEq, Int.reduceEq, Int.reduceLE, Int.reduceLT, Int.reduceAdd, Int.reduceSub, Int.reduceNeg, Int.reduceToNat, Int.reduceNe, Nat.reducePow, Nat.reduceShiftRight, Nat.reduceMod, txt, *])
      exact Nx.mk (names.length - (i + 1)) cE1 ⟨i + 1, IntKind.i64.wrap (v + IntKind.i64.wrap (1 + (names[i].size : Int))), rfl, cE1, by simp [upd], by simp [upd], hvk⟩
    · rw [if_neg hle] at hv2
      rw [← hv2]
      clear hv hv2
      repeat' (first | ((with_reducible first | refine wA (by omega) ?_ | refine wB (by omega) ?_ | refine wC (by omega) ?_ | refine wD (by omega) ?_ | refine wE ?_ ?_ | refine wF ?_ ?_ | refine wG ?_ ?_ | refine wH ?_ ?_ | refine wI ?_ ?_ | refine wJ ?_ ?_ | refine wK ?_ ?_ | refine wL ?_ ?_) <;> intro _) | simp (maxSteps := 1000000) (disch := omega) only [go_sem, Nat.reduceAdd, Nat.reduceMul, Nat.reduceSub, Nat.reduceLeDiff, Nat.reduceEqDiff, Nat.reduceBEq, ↓reduceIte, reduceCtorEq, Int.reduceEq, Int.reduceLE, Int.reduceLT, Int.reduceAdd, Int.reduceSub, Int.reduceNeg, Int.reduceToNat, Int.reduceNe, Nat.reducePow, Nat.reduceShiftRight, Nat.reduceMod, *])
      all_goals (exact fin_tmp (.inr rfl) cE3)
  · obtain rfl : i = names.length := by omega
    have hv2 := hv.out
    rw [List.drop_length, lenW] at hv2
    rw [← hv2]
    clear hv hv2
    repeat' (first | ((with_reducible first | refine wA (by omega) ?_ | refine wB (by omega) ?_ | refine wC (by omega) ?_ | refine wD (by omega) ?_ | refine wE ?_ ?_ | refine wF ?_ ?_ | refine wG ?_ ?_ | refine wH ?_ ?_ | refine wI ?_ ?_ | refine wJ ?_ ?_ | refine wK ?_ ?_ | refine wL ?_ ?_) <;> intro _) | simp (maxSteps := 1000000) (disch := omega) only [go_sem, Nat.reduceAdd, Nat.reduceMul, Nat.reduceSub, Nat.reduceLeDiff, Nat.reduceEqDiff, Nat.reduceBEq, ↓reduceIte, reduceCtorEq, Int.reduceEq, Int.reduceLE, Int.reduceLT, Int.reduceAdd, Int.reduceSub, Int.reduceNeg, Int.reduceToNat, Int.reduceNe, Nat.reducePow, Nat.reduceShiftRight, Nat.reduceMod, *])
    all_goals (exact fin_tmp (.inr rfl) cE3)
def Ent.great (e : Ent) : Bool := decide (20 < e.ctors.length ∨ 500 < e.name.size ∨ 2500 < e.typ.mass ∨ 2500 < e.val.mass ∨ 500 < lens5 e.ctors)
set_option maxHeartbeats 8000000 in
theorem great11_p (e : Ent) (h1 : e.typ.fits) (h2 : e.val.fits) : PPure Tryz.prog F.law11_Great [.agg e.pv] (.sc (.bool e.great)) := by
  obtain ⟨kind, params, name, typ, val, height, family, fixed, index, fields, ctors⟩ := e
  refine pure_by is_law11_Great (by simp) rfl fun hb nx => ?_
  clear hb
  have c1 := Mass_p 2500 (by omega) typ.size typ (Nat.le_refl _) h1
  have c2 := Mass_p 2500 (by omega) val.size val (Nat.le_refl _) h2
  have c3 := Lengths5_p ctors
  simp only [Ent.great]
  clear h1 h2
  by_cases g1 : 20 < ctors.length
  · rw [decide_eq_true (.inl g1)]
    repeat' (first | ((with_reducible first | refine wA (by omega) ?_ | refine wB (by omega) ?_ | refine wC (by omega) ?_ | refine wD (by omega) ?_ | refine wE ?_ ?_ | refine wF ?_ ?_ | refine wG ?_ ?_ | refine wH ?_ ?_ | refine wI ?_ ?_ | refine wJ ?_ ?_ | refine wK ?_ ?_ | refine wL ?_ ?_) <;> intro _) | simp (maxSteps := 1000000) (disch := omega) only [go_sem, Nat.reduceAdd, Nat.reduceMul, Nat.reduceSub, Nat.reduceLeDiff, Nat.reduceEqDiff, Nat.reduceBEq, ↓reduceIte, reduceCtorEq, Int.reduceEq, Int.reduceLE, Int.reduceLT, Int.reduceAdd, Int.reduceSub, Int.reduceNeg, Int.reduceToNat, Int.reduceNe, Nat.reducePow, Nat.reduceShiftRight, Nat.reduceMod, mc_law11_Great, Ent.pv, *])
    all_goals (exact fin_tmp (.inr rfl) cE3)
  by_cases g2 : 500 < name.size
  · rw [decide_eq_true (.inr (.inl g2))]
    repeat' (first | ((with_reducible first | refine wA (by omega) ?_ | refine wB (by omega) ?_ | refine wC (by omega) ?_ | refine wD (by omega) ?_ | refine wE ?_ ?_ | refine wF ?_ ?_ | refine wG ?_ ?_ | refine wH ?_ ?_ | refine wI ?_ ?_ | refine wJ ?_ ?_ | refine wK ?_ ?_ | refine wL ?_ ?_) <;> intro _) | simp (maxSteps := 1000000) (disch := omega) only [go_sem, Nat.reduceAdd, Nat.reduceMul, Nat.reduceSub, Nat.reduceLeDiff, Nat.reduceEqDiff, Nat.reduceBEq, ↓reduceIte, reduceCtorEq, Int.reduceEq, Int.reduceLE, Int.reduceLT, Int.reduceAdd, Int.reduceSub, Int.reduceNeg, Int.reduceToNat, Int.reduceNe, Nat.reducePow, Nat.reduceShiftRight, Nat.reduceMod, mc_law11_Great, Ent.pv, *])
    all_goals (exact fin_tmp (.inr rfl) cE3)
  by_cases g3 : 2500 < typ.mass
  · rw [decide_eq_true (.inr (.inr (.inl g3)))]
    rw [show min typ.mass (2500 + 1) = 2501 by omega] at c1
    repeat' (first | ((with_reducible first | refine wA (by omega) ?_ | refine wB (by omega) ?_ | refine wC (by omega) ?_ | refine wD (by omega) ?_ | refine wE ?_ ?_ | refine wF ?_ ?_ | refine wG ?_ ?_ | refine wH ?_ ?_ | refine wI ?_ ?_ | refine wJ ?_ ?_ | refine wK ?_ ?_ | refine wL ?_ ?_) <;> intro _) | (((with_reducible refine call_id ?_); (first | (refine call_pure (c1) ?_)))) | simp (maxSteps := 1000000) (disch := omega) only [go_sem, Nat.reduceAdd, Nat.reduceMul, Nat.reduceSub, Nat.reduceLeDiff, Nat.reduceEqDiff, Nat.reduceBEq, ↓reduceIte, reduceCtorEq, Int.reduceEq, Int.reduceLE, Int.reduceLT, Int.reduceAdd, Int.reduceSub, Int.reduceNeg, Int.reduceToNat, Int.reduceNe, Nat.reducePow, Nat.reduceShiftRight, Nat.reduceMod, mc_law11_Great, Ent.pv, *])
    all_goals (exact fin_tmp (.inr rfl) cE3)
  rw [show min typ.mass (2500 + 1) = typ.mass by omega] at c1
  by_cases g4 : 2500 < val.mass
  · rw [decide_eq_true (.inr (.inr (.inr (.inl g4))))]
    rw [show min val.mass (2500 + 1) = 2501 by omega] at c2
    repeat' (first | ((with_reducible first | refine wA (by omega) ?_ | refine wB (by omega) ?_ | refine wC (by omega) ?_ | refine wD (by omega) ?_ | refine wE ?_ ?_ | refine wF ?_ ?_ | refine wG ?_ ?_ | refine wH ?_ ?_ | refine wI ?_ ?_ | refine wJ ?_ ?_ | refine wK ?_ ?_ | refine wL ?_ ?_) <;> intro _) | (((with_reducible refine call_id ?_); (first | (refine call_pure (c1) ?_) | (refine call_pure (c2) ?_)))) | simp (maxSteps := 1000000) (disch := omega) only [go_sem, Nat.reduceAdd, Nat.reduceMul, Nat.reduceSub, Nat.reduceLeDiff, Nat.reduceEqDiff, Nat.reduceBEq, ↓reduceIte, reduceCtorEq, Int.reduceEq, Int.reduceLE, Int.reduceLT, Int.reduceAdd, Int.reduceSub, Int.reduceNeg, Int.reduceToNat, Int.reduceNe, Nat.reducePow, Nat.reduceShiftRight, Nat.reduceMod, mc_law11_Great, Ent.pv, *])
    all_goals (exact fin_tmp (.inr rfl) cE3)
  rw [show min val.mass (2500 + 1) = val.mass by omega] at c2
  by_cases g5 : 500 < lens5 ctors
  · rw [decide_eq_true (.inr (.inr (.inr (.inr g5))))]
    repeat' (first | ((with_reducible first | refine wA (by omega) ?_ | refine wB (by omega) ?_ | refine wC (by omega) ?_ | refine wD (by omega) ?_ | refine wE ?_ ?_ | refine wF ?_ ?_ | refine wG ?_ ?_ | refine wH ?_ ?_ | refine wI ?_ ?_ | refine wJ ?_ ?_ | refine wK ?_ ?_ | refine wL ?_ ?_) <;> intro _) | (((with_reducible refine call_id ?_); (first | (refine call_pure (c1) ?_) | (refine call_pure (c2) ?_) | (refine call_pure (c3) ?_)))) | simp (maxSteps := 1000000) (disch := omega) only [go_sem, Nat.reduceAdd, Nat.reduceMul, Nat.reduceSub, Nat.reduceLeDiff, Nat.reduceEqDiff, Nat.reduceBEq, ↓reduceIte, reduceCtorEq, Int.reduceEq, Int.reduceLE, Int.reduceLT, Int.reduceAdd, Int.reduceSub, Int.reduceNeg, Int.reduceToNat, Int.reduceNe, Nat.reducePow, Nat.reduceShiftRight, Nat.reduceMod, mc_law11_Great, Ent.pv, *])
    all_goals (exact fin_tmp (.inr rfl) cE3)
  · rw [decide_eq_false (by omega)]
    repeat' (first | ((with_reducible first | refine wA (by omega) ?_ | refine wB (by omega) ?_ | refine wC (by omega) ?_ | refine wD (by omega) ?_ | refine wE ?_ ?_ | refine wF ?_ ?_ | refine wG ?_ ?_ | refine wH ?_ ?_ | refine wI ?_ ?_ | refine wJ ?_ ?_ | refine wK ?_ ?_ | refine wL ?_ ?_) <;> intro _) | (((with_reducible refine call_id ?_); (first | (refine call_pure (c1) ?_) | (refine call_pure (c2) ?_) | (refine call_pure (c3) ?_)))) | simp (maxSteps := 1000000) (disch := omega) only [go_sem, Nat.reduceAdd, Nat.reduceMul, Nat.reduceSub, Nat.reduceLeDiff, Nat.reduceEqDiff, Nat.reduceBEq, ↓reduceIte, reduceCtorEq, Int.reduceEq, Int.reduceLE, Int.reduceLT, Int.reduceAdd, Int.reduceSub, Int.reduceNeg, Int.reduceToNat, Int.reduceNe, Nat.reducePow, Nat.reduceShiftRight, Nat.reduceMod, mc_law11_Great, Ent.pv, *])
    all_goals (exact fin_tmp (.inr rfl) cE3)
theorem greatLevels11_p (ls : List Lv) : PPure Tryz.prog F.law11_greatLevels [.sl 3 (ls.map Lv.pv)] (.sc (.bool (greatL ls))) := by
  refine pure_by is_law11_greatLevels (by simp) rfl fun hb nx => ?_
  have hb0 : ls.length ≤ 9223372036854775807 := by simp [bndL, PV.bnd] at hb; exact hb.1
  by_cases h8 : 8 < ls.length
  · repeat' (first | ((with_reducible first | refine wA (by omega) ?_ | refine wB (by omega) ?_ | refine wC (by omega) ?_ | refine wD (by omega) ?_ | refine wE ?_ ?_ | refine wF ?_ ?_ | refine wG ?_ ?_ | refine wH ?_ ?_ | refine wI ?_ ?_ | refine wJ ?_ ?_ | refine wK ?_ ?_ | refine wL ?_ ?_) <;> intro _) | simp (maxSteps := 1000000) (disch := omega) only [go_sem, Nat.reduceAdd, Nat.reduceMul, Nat.reduceSub, Nat.reduceLeDiff, Nat.reduceEqDiff, Nat.reduceBEq, ↓reduceIte, reduceCtorEq, Int.reduceEq, Int.reduceLE, Int.reduceLT, Int.reduceAdd, Int.reduceSub, Int.reduceNeg, Int.reduceToNat, Int.reduceNe, Nat.reducePow, Nat.reduceShiftRight, Nat.reduceMod, mc_law11_greatLevels, *])
    all_goals (refine fin_tmp (.inr rfl) ?_; simp [upd, greatL, *])
  · repeat' (first | ((with_reducible first | refine wA (by omega) ?_ | refine wB (by omega) ?_ | refine wC (by omega) ?_ | refine wD (by omega) ?_ | refine wE ?_ ?_ | refine wF ?_ ?_ | refine wG ?_ ?_ | refine wH ?_ ?_ | refine wI ?_ ?_ | refine wJ ?_ ?_ | refine wK ?_ ?_ | refine wL ?_ ?_) <;> intro _) | simp (maxSteps := 1000000) (disch := omega) only [go_sem, Nat.reduceAdd, Nat.reduceMul, Nat.reduceSub, Nat.reduceLeDiff, Nat.reduceEqDiff, Nat.reduceBEq, ↓reduceIte, reduceCtorEq, Int.reduceEq, Int.reduceLE, Int.reduceLT, Int.reduceAdd, Int.reduceSub, Int.reduceNeg, Int.reduceToNat, Int.reduceNe, Nat.reducePow, Nat.reduceShiftRight, Nat.reduceMod, mc_law11_greatLevels, *])
    refine c_loopW 524172 (by kernel_rfl) (fun j f H m => ∃ i : Nat, j = ls.length - i ∧ i ≤ ls.length ∧ f 3 = .sc (.int .i64 i) ∧ (ls.take i).any (fun l => decide (300 < l.nodes)) = false) _ ⟨0, rfl, cE1, cE1, rfl⟩ ?_
    rintro _ f H m ⟨i, rfl, hi, e3, hall⟩
    by_cases hlt : i < ls.length
    · have eg : ls[i]? = some ls[i] := List.getElem?_eq_getElem hlt
      have hst : (ls.take (i + 1)).any (fun l => decide (300 < l.nodes)) = decide (300 < ls[i].nodes) := by
        rw [List.take_succ_eq_append_getElem hlt, List.any_append, hall]
        simp
      have c1 := LevelNodes_p 300 (by omega) ls[i].nodes ls[i] (Nat.le_refl _)
      by_cases hbig : 300 < ls[i].nodes
      · have e1 : ((min ls[i].nodes (300 + 1) : Nat) : Int) = 301 := by omega
        rw [e1] at c1
        have hany : ls.any (fun l => decide (300 < l.nodes)) = true := List.any_eq_true.2 ⟨ls[i], List.getElem_mem hlt, by simpa using hbig⟩
        clear hst hall
        repeat' (first | ((with_reducible first | refine wA (by omega) ?_ | refine wB (by omega) ?_ | refine wC (by omega) ?_ | refine wD (by omega) ?_ | refine wE ?_ ?_ | refine wF ?_ ?_ | refine wG ?_ ?_ | refine wH ?_ ?_ | refine wI ?_ ?_ | refine wJ ?_ ?_ | refine wK ?_ ?_ | refine wL ?_ ?_) <;> intro _) | (((with_reducible refine call_id ?_); (first | (refine call_pure (c1) ?_)))) | simp (maxSteps := 1000000) (disch := omega) only [go_sem, Nat.reduceAdd, Nat.reduceMul, Nat.reduceSub, Nat.reduceLeDiff, Nat.reduceEqDiff, Nat.reduceBEq, ↓reduceIte, reduceCtorEq, Int.reduceEq, Int.reduceLE, Int.reduceLT, Int.reduceAdd, Int.reduceSub, Int.reduceNeg, Int.reduceToNat, Int.reduceNe, Nat.reducePow, Nat.reduceShiftRight, Nat.reduceMod, *])
        all_goals (refine fin_tmp (.inr rfl) ?_; simp [upd, greatL, *])
      · have e1 : ((min ls[i].nodes (300 + 1) : Nat) : Int) = ls[i].nodes := by omega
        rw [e1] at c1
        have hst2 : (ls.take (i + 1)).any (fun l => decide (300 < l.nodes)) = false := by rw [hst]; simpa using hbig
        clear hst hall
        repeat' (first | ((with_reducible first | refine wA (by omega) ?_ | refine wB (by omega) ?_ | refine wC (by omega) ?_ | refine wD (by omega) ?_ | refine wE ?_ ?_ | refine wF ?_ ?_ | refine wG ?_ ?_ | refine wH ?_ ?_ | refine wI ?_ ?_ | refine wJ ?_ ?_ | refine wK ?_ ?_ | refine wL ?_ ?_) <;> intro _) | (((with_reducible refine call_id ?_); (first | (refine call_pure (c1) ?_)))) | simp (maxSteps := 1000000) (disch := omega) only [go_sem, Nat.reduceAdd, Nat.reduceMul, Nat.reduceSub, Nat.reduceLeDiff, Nat.reduceEqDiff, Nat.reduceBEq, ↓reduceIte, reduceCtorEq, Int.reduceEq, Int.reduceLE, Int.reduceLT, Int.reduceAdd, Int.reduceSub, Int.reduceNeg, Int.reduceToNat, Int.reduceNe, Nat.reducePow, Nat.reduceShiftRight, Nat.reduceMod, *])
        exact Nx.mk (ls.length - (i + 1)) cE1 ⟨i + 1, rfl, cE1, cE1, hst2⟩
    · obtain rfl : i = ls.length := by omega
      rw [List.take_length] at hall
      repeat' (first | ((with_reducible first | refine wA (by omega) ?_ | refine wB (by omega) ?_ | refine wC (by omega) ?_ | refine wD (by omega) ?_ | refine wE ?_ ?_ | refine wF ?_ ?_ | refine wG ?_ ?_ | refine wH ?_ ?_ | refine wI ?_ ?_ | refine wJ ?_ ?_ | refine wK ?_ ?_ | refine wL ?_ ?_) <;> intro _) | simp (maxSteps := 1000000) (disch := omega) only [go_sem, Nat.reduceAdd, Nat.reduceMul, Nat.reduceSub, Nat.reduceLeDiff, Nat.reduceEqDiff, Nat.reduceBEq, ↓reduceIte, reduceCtorEq, Int.reduceEq, Int.reduceLE, Int.reduceLT, Int.reduceAdd, Int.reduceSub, Int.reduceNeg, Int.reduceToNat, Int.reduceNe, Nat.reducePow, Nat.reduceShiftRight, Nat.reduceMod, *])
      all_goals (refine fin_tmp (.inr rfl) ?_; simp [upd, greatL, *]; try omega)
end
section
set_option maxRecDepth 20000
attribute [local go_sem] pv_len pv_take Nat.add_assoc tm_len tm_take pv_one tm_one id_ne id_ne' id_ne2 List.append_assoc tm_take_app tm_drop_app tm_d6 tm_d7 tm_d8 tm_d9 tm_d10 tm_d11 tm_d12 tm_d13 tm_d14 tm_d15 ent_len ent_take ent_one tpvB_len tpvB_take tpvB_one optC_len optC_take optC_one
theorem bq1 (b : Bool) : (b == true) = b := by cases b <;> rfl
theorem bq2 (b : Bool) : (b == false) = !b := by cases b <;> rfl
end
section
def aS : Tm := .mk 2 0 emp [.mk 2 0 []] []
def aN (n : Int) : Tm := .mk 2 0 emp [.mk 1 n []] []
def aD1 : Dcl := ⟨1, 1, ⟨#[97]⟩, aS, noTm, 0, []⟩
def aD2 : Dcl := ⟨2, 0, ⟨#[100]⟩, aN 1, aN 0, 0, []⟩
def aE1 : Ent := ⟨1, 1, ⟨#[97]⟩, aS, noTm, 0, emp, 0, 0, 0, []⟩
def aE2 : Ent := ⟨2, 0, ⟨#[100]⟩, aN 1, aN 0, 2, emp, 0, 0, 0, []⟩
theorem a_ent1 : aE1.right = true := by kernel_rfl
theorem a_ent2 : aE2.right = true := by kernel_rfl
theorem a_dcl1 : aD1.formed = true := by kernel_rfl
theorem a_dcl2 : aD2.formed = true := by kernel_rfl
theorem a_pl1 : aD1.plainE 0 = aE1 ∧ aD1.plainN 0 = 0 := by
  have h : aD1.ent 0 = aE1 := rfl
  simp only [Dcl.plainE, Dcl.plainN, h, a_dcl1, a_ent1]
  exact ⟨rfl, rfl⟩
theorem a_ty1 : typeR aE1 [.mk 1 3 []] = (some (aN 3), 0) := by kernel_rfl
end
section
set_option maxRecDepth 20000
attribute [local go_sem] pv_len pv_take Nat.add_assoc tm_len tm_take pv_one tm_one id_ne id_ne' id_ne2 List.append_assoc tm_take_app tm_drop_app tm_d6 tm_d7 tm_d8 tm_d9 tm_d10 tm_d11 tm_d12 tm_d13 tm_d14 tm_d15 ent_len ent_take ent_one tpvB_len tpvB_take tpvB_one optC_len optC_take optC_one
theorem a_pl2 : aD2.plainE 2 = aE2 ∧ aD2.plainN 2 = 0 := by
  have h : aD2.ent 2 = aE2 := rfl
  simp only [Dcl.plainE, Dcl.plainN, h, a_dcl2, a_ent2]
  exact ⟨rfl, rfl⟩
theorem a_ty2 : typeR aE1 [] = (none, 16) := by kernel_rfl
theorem a_va1 : eValR aE1 [.mk 1 3 []] = (none, 13) := by kernel_rfl
theorem a_va2 : eValR aE2 [] = (some (aN 0), 0) := by kernel_rfl
theorem a_s3 : (aN 3).same (aN 3) = true := by kernel_rfl
theorem a_s0 : (aN 0).same (aN 0) = true := by kernel_rfl
theorem a_s2 : aE2.same aE2 = true := by kernel_rfl
theorem a_ne : aE1.numE aE2 = false := by kernel_rfl
theorem eSame_ne (a b : Ent) (h : a.numE b = false) : PPure Tryz.prog F.decl_Same [.agg a.pv, .agg b.pv] (.sc (.bool false)) := by
  refine pure_by is_decl_Same (by simp) rfl fun hb nx => ?_
  clear hb
  have c1 := numbers_p false a
  have c2 := numbers_p false b
  rw [entB_false] at c1 c2
  simp only [Ent.numE] at h
  obtain ⟨kind, params, name, typ, val, height, family, fixed, index, fields, ctors⟩ := a
  obtain ⟨kind2, params2, name2, typ2, val2, height2, family2, fixed2, index2, fields2, ctors2⟩ := b
  simp only [Ent.pv] at c1 c2 h ⊢
  repeat' (first | ((with_reducible first | refine wA (by omega) ?_ | refine wB (by omega) ?_ | refine wC (by omega) ?_ | refine wD (by omega) ?_ | refine wE ?_ ?_ | refine wF ?_ ?_ | refine wG ?_ ?_ | refine wH ?_ ?_ | refine wI ?_ ?_ | refine wJ ?_ ?_ | refine wK ?_ ?_ | refine wL ?_ ?_) <;> intro _) | (((with_reducible refine call_id ?_); (first | (refine call_pure (c1) ?_) | (refine call_pure (c2) ?_)))) | simp (maxSteps := 1000000) (disch := omega) only [go_sem, Nat.reduceAdd, Nat.reduceMul, Nat.reduceSub, Nat.reduceLeDiff, Nat.reduceEqDiff, Nat.reduceBEq, ↓reduceIte, reduceCtorEq, Int.reduceEq, Int.reduceLE, Int.reduceLT, Int.reduceAdd, Int.reduceSub, Int.reduceNeg, Int.reduceToNat, Int.reduceNe, Nat.reducePow, Nat.reduceShiftRight, Nat.reduceMod, mc_decl_Same, h, *])
  all_goals (exact fin_tmp (.inr rfl) cE3)
theorem entF_weak (e : Ent) : WeakL e.pvF (e.pvB true) :=
  ⟨.refl _, .refl _, .refl _, WeakL.append (.refl _) (WeakL.append (.refl _) ⟨.refl _, .refl _, .refl _, .refl _, .refl _, .fsl 1 _, trivial⟩)⟩
theorem entF_one (e : Ent) : e.pvF.all PV.one = true := by simp [Ent.pvF, tpvB_one, PV.one]
end
section
set_option maxRecDepth 20000
attribute [local go_sem] pv_len pv_take Nat.add_assoc tm_len tm_take pv_one tm_one id_ne id_ne' id_ne2 List.append_assoc tm_take_app tm_drop_app tm_d6 tm_d7 tm_d8 tm_d9 tm_d10 tm_d11 tm_d12 tm_d13 tm_d14 tm_d15 ent_len ent_take ent_one tpvB_len tpvB_take tpvB_one optC_len optC_take optC_one
theorem a_lv2 : WeakL [PV.sc (.int .i64 2), .sc (.int .i64 0), .sc (.slice none 0 0)] (Lv.mk 2 0 []).pv := by
  simp only [Lv.pv, List.map_nil]
  exact ⟨.refl _, .refl _, .nil 3, trivial⟩
theorem a_d1 : WeakL (PV.sc (.int .i64 1) :: .sc (.int .i64 1) :: .sc (.string ⟨#[97]⟩) :: (aS.pv ++ [.sc (.int .i64 0), .sc (.int .i64 0), .sc (.string ⟨#[]⟩), .sc (.slice none 0 0), .sc (.slice none 0 0), .sc (.int .i64 0), .sc (.slice none 0 0)])) aD1.pv := by
  have e : aD1.pv = PV.sc (.int .i64 1) :: .sc (.int .i64 1) :: .sc (.string ⟨#[97]⟩) :: (aS.pv ++ [.sc (.int .i64 0), .sc (.int .i64 0), .sc (.string ⟨#[]⟩), .sl 3 [], .sl 5 [], .sc (.int .i64 0), .sl 6 []]) := by simp [Dcl.pv, aD1, noTm, Tm.pv]
  rw [e]
  exact ⟨.refl _, .refl _, .refl _, WeakL.append (.refl _) ⟨.refl _, .refl _, .refl _, .nil 3, .nil 5, .refl _, .nil 6, trivial⟩⟩
theorem a_d2 : WeakL (PV.sc (.int .i64 2) :: .sc (.int .i64 0) :: .sc (.string ⟨#[100]⟩) :: ((aN 1).pv ++ ((aN 0).pv ++ [.sc (.int .i64 0), .sc (.slice none 0 0)]))) aD2.pv := by
  have e : aD2.pv = PV.sc (.int .i64 2) :: .sc (.int .i64 0) :: .sc (.string ⟨#[100]⟩) :: ((aN 1).pv ++ ((aN 0).pv ++ [.sc (.int .i64 0), .sl 6 []])) := by simp [Dcl.pv, aD2]
  rw [e]
  exact ⟨.refl _, .refl _, .refl _, WeakL.append (.refl _) (WeakL.append (.refl _) ⟨.refl _, .nil 6, trivial⟩)⟩
set_option maxHeartbeats 16000000 in
theorem alive11_p : PPure Tryz.prog F.law11_alive [] (.sc (.bool true)) := by
  have c0 : PPure Tryz.prog F.law11_sort [.agg [.sc (.int .i64 2), .sc (.int .i64 0), .sc (.slice none 0 0)]] (.agg aS.pv) :=
    (sort11_p (.mk 2 0 [])).weak (args' := [.agg [.sc (.int .i64 2), .sc (.int .i64 0), .sc (.slice none 0 0)]]) ⟨Weak.agg a_lv2, trivial⟩ (.refl _)
  have c1 : PPure Tryz.prog F.decl_Plain [.agg (PV.sc (.int .i64 1) :: .sc (.int .i64 1) :: .sc (.string ⟨#[97]⟩) :: (aS.pv ++ [.sc (.int .i64 0), .sc (.int .i64 0), .sc (.string ⟨#[]⟩), .sc (.slice none 0 0), .sc (.slice none 0 0), .sc (.int .i64 0), .sc (.slice none 0 0)])), .sc (.int .i64 0)] (.tup [.agg aE1.pv, .sc (.int .i64 0)]) := by
    have h := Plain_p aD1 0 (by decide) (by decide)
    rw [a_pl1.1, a_pl1.2] at h
    exact h.weak ⟨Weak.agg a_d1, .refl _, trivial⟩ (.refl _)
  have c2 := num11_p 3
  have c3 : PPure Tryz.prog F.decl_Type [.agg aE1.pv, .sl 3 [(Lv.mk 1 3 []).pv]] (.tup [.agg (aN 3).pv, .sc (.int .i64 0)]) := by
    have h := Type_p aE1 [.mk 1 3 []]
    rw [a_ty1] at h
    exact h
  have c4 : PPure Tryz.prog F.decl_Type [.agg aE1.pv, .sc (.slice none 0 0)] (.tup [.agg [.sc (.int .i64 0), .sc (.int .i64 0), .sc (.string ⟨#[]⟩), .sc (.slice none 0 0), .sc (.slice none 0 0)], .sc (.int .i64 16)]) := by
    have h := Type_p aE1 []
    rw [a_ty2] at h
    exact h.weak ⟨.refl _, .nil 3, trivial⟩ (.refl _)
  have c5 : PPure Tryz.prog F.decl_Value [.agg aE1.pv, .sl 3 [(Lv.mk 1 3 []).pv]] (.tup [.agg [.sc (.int .i64 0), .sc (.int .i64 0), .sc (.string ⟨#[]⟩), .sc (.slice none 0 0), .sc (.slice none 0 0)], .sc (.int .i64 13)]) := by
    have h := eValue_p aE1 [.mk 1 3 []]
    rw [a_va1] at h
    exact h
  have c6 := num11_p 1
  have c7 := num11_p 0
  have c8 : PPure Tryz.prog F.law11_sort [.agg (Lv.mk 1 1 []).pv] (.agg (aN 1).pv) := sort11_p (.mk 1 1 [])
  have c9 : PPure Tryz.prog F.law11_sort [.agg (Lv.mk 1 0 []).pv] (.agg (aN 0).pv) := sort11_p (.mk 1 0 [])
  have c10 : PPure Tryz.prog F.law11_sort [.agg (Lv.mk 1 3 []).pv] (.agg (aN 3).pv) := sort11_p (.mk 1 3 [])
  have c11 : PPure Tryz.prog F.decl_Plain [.agg (PV.sc (.int .i64 2) :: .sc (.int .i64 0) :: .sc (.string ⟨#[100]⟩) :: ((aN 1).pv ++ ((aN 0).pv ++ [.sc (.int .i64 0), .sc (.slice none 0 0)]))), .sc (.int .i64 2)] (.tup [.agg aE2.pv, .sc (.int .i64 0)]) := by
    have h := Plain_p aD2 2 (by decide) (by decide)
    rw [a_pl2.1, a_pl2.2] at h
    exact h.weak ⟨Weak.agg a_d2, .refl _, trivial⟩ (.refl _)
  have c12 : PPure Tryz.prog F.decl_Value [.agg aE2.pv, .sc (.slice none 0 0)] (.tup [.agg (aN 0).pv, .sc (.int .i64 0)]) := by
    have h := eValue_p aE2 []
    rw [a_va2] at h
    exact h.weak ⟨.refl _, .nil 3, trivial⟩ (.refl _)
  have c13 : PPure Tryz.prog F.ref00_SameTerm [.agg (aN 3).pv, .agg (aN 3).pv] (.sc (.bool true)) := by
    have h := SameTerm_p (aN 3).size (aN 3) (aN 3) (Nat.le_refl _)
    rwa [a_s3] at h
  have c14 : PPure Tryz.prog F.ref00_SameTerm [.agg (aN 0).pv, .agg (aN 0).pv] (.sc (.bool true)) := by
    have h := SameTerm_p (aN 0).size (aN 0) (aN 0) (Nat.le_refl _)
    rwa [a_s0] at h
  have c15 : PPure Tryz.prog F.decl_Right [.agg aE1.pv] (.sc (.bool true)) := by
    have h := eRight_p aE1
    rwa [a_ent1] at h
  have c16 : PPure Tryz.prog F.decl_Unfolds [.agg aE2.pv] (.sc (.bool true)) := by
    have h := unfolds_p aE2
    rwa [a_ent2] at h
  have c17 : PPure Tryz.prog F.decl_Unfolds [.agg aE1.pv] (.sc (.bool false)) := unfolds_p aE1
  have c18 := eClone_p aE2 (by decide) (by decide) (by decide)
  have c19 : PPure Tryz.prog F.decl_Same [.agg aE2.pvF, .agg aE2.pv] (.sc (.bool true)) := by
    have h := eSame_p aE2 aE2 true false rfl
    rw [a_s2, entB_false] at h
    exact h.weak ⟨Weak.agg (entF_weak _), .refl _, trivial⟩ (.refl _)
  have c20 := eSame_ne aE1 aE2 a_ne
  have hh : aE2.pv = .sc (.int .i64 2) :: .sc (.int .i64 0) :: .sc (.string ⟨#[100]⟩) :: ((aN 1).pv ++ ((aN 0).pv ++ [.sc (.int .i64 2), .sc (.string ⟨#[]⟩), .sc (.int .i64 0), .sc (.int .i64 0), .sc (.int .i64 0), .sl 1 []])) := rfl
  have hd : aE2.pv.drop 13 = [.sc (.int .i64 2), .sc (.string ⟨#[]⟩), .sc (.int .i64 0), .sc (.int .i64 0), .sc (.int .i64 0), .sl 1 []] := by
    rw [hh]
    simp only [List.drop_succ_cons, tm_d10, tm_drop_app]
  clear hh
  refine pure_by is_law11_alive (by simp) rfl fun hb nx => ?_
  clear hb
  repeat' (first | ((with_reducible first | refine wA (by omega) ?_ | refine wB (by omega) ?_ | refine wC (by omega) ?_ | refine wD (by omega) ?_ | refine wE ?_ ?_ | refine wF ?_ ?_ | refine wG ?_ ?_ | refine wH ?_ ?_ | refine wI ?_ ?_ | refine wJ ?_ ?_ | refine wK ?_ ?_ | refine wL ?_ ?_) <;> intro _) | (((with_reducible refine call_id ?_); (first | (refine call_pure (c0) ?_) | (refine call_pure (c1) ?_) | (refine call_pure (c2) ?_) | (refine call_pure (c3) ?_) | (refine call_pure (c4) ?_) | (refine call_pure (c5) ?_) | (refine call_pure (c6) ?_) | (refine call_pure (c7) ?_) | (refine call_pure (c8) ?_) | (refine call_pure (c9) ?_) | (refine call_pure (c10) ?_) | (refine call_pure (c11) ?_) | (refine call_pure (c12) ?_) | (refine call_pure (c13) ?_) | (refine call_pure (c14) ?_) | (refine call_pure (c15) ?_) | (refine call_pure (c16) ?_) | (refine call_pure (c17) ?_) | (refine call_pure (c18) ?_) | (refine call_pure (c19) ?_) | (refine call_pure (c20) ?_)))) | simp (maxSteps := 1000000) (disch := omega) only [go_sem, Nat.reduceAdd, Nat.reduceMul, Nat.reduceSub, Nat.reduceLeDiff, Nat.reduceEqDiff, Nat.reduceBEq, ↓reduceIte, reduceCtorEq, Int.reduceEq, Int.reduceLE, Int.reduceLT, Int.reduceAdd, Int.reduceSub, Int.reduceNeg, Int.reduceToNat, Int.reduceNe, Nat.reducePow, Nat.reduceShiftRight, Nat.reduceMod, mc_law11_alive, hd, *])
  all_goals (exact fin_tmp (.inr rfl) cE3)
end
section
theorem op_level {H : Type} {enc : TypeId × Value → H} {W : World} {sp : Nat → Bool} {hd : Bool} : ∀ n, OpAt enc W sp hd n 47 Lv.pv := by
  intro n
  induction n using Nat.strongRecOn with
  | ind n ih =>
    intro cs x h
    have hu : ∃ fs, Tryz.prog.underlying 47 = some (.struct fs) ∧ ∃ f0 f1 f2, fs = #[f0, f1, f2] ∧ f0.type = 3 ∧ f1.type = 3 ∧ f2.type = 22 ∧ f0.offset = 0 ∧ f1.offset = 1 ∧ f2.offset = 2 :=
      ⟨_, Tryz.underlying47, _, _, _, rfl, rfl, rfl, rfl, rfl, rfl, rfl⟩
    obtain ⟨fs, hu, f0, f1, f2, rfl, h0, h1, h2, o0, o1, o2⟩ := hu
    obtain ⟨xs, m, rfl, _, hlen, hxs, hx⟩ := DataW.trod_struct hu h
    have hc : Tryz.prog.cellsOf 47 = 3 := by kernel_rfl
    obtain ⟨a, ha⟩ := op_field hx hxs (i := 0) rfl h0 o0 (c := 1) (by kernel_rfl) (op_int Tryz.underlying3)
    obtain ⟨b, hb⟩ := op_field hx hxs (i := 1) rfl h1 o1 (c := 1) (by kernel_rfl) (op_int Tryz.underlying3)
    have hl : OpAt enc W sp hd m 22 (fun l : List Lv => [.sl 3 (l.map Lv.pv)]) := by
      cases m with
      | zero => exact op_zero
      | succ m => exact op_slice Tryz.underlying22 (by kernel_rfl) (by omega) (ih m (by omega))
    obtain ⟨l, hl⟩ := op_field hx hxs (i := 2) rfl h2 o2 (c := 1) (by kernel_rfl) hl
    rw [List.drop_zero] at ha
    have h3 := rep_split (rep_split ha hb) hl
    rw [hc] at hlen
    rw [List.take_of_length_le (by omega)] at h3
    refine ⟨.mk a b l, ?_⟩
    simp only [Lv.pv]
    exact h3
section
variable {H : Type} {enc : TypeId × Value → H} {W : World} {cs : Array Value} {a : Option Addr} {len cap : Nat} {d : DataW H} {p : List MemPlace}
theorem open_levels (h : DataW.Trod enc Tryz.prog W 0 (fun _ => true) true 22 (.slice a len cap) d p) : ∃ l : List Lv, Rep (allV W) (.sl 3 (l.map Lv.pv)) (.slice a len cap) :=
  trod_one (fun n => by cases n with
    | zero => exact op_zero
    | succ n => exact op_slice Tryz.underlying22 (by kernel_rfl) (by omega) (op_level n)) rfl h
end
end
section
theorem fitsT_map : ∀ l : List {t : Tm // t.fits}, fitsT (l.map (·.1))
  | [] => trivial
  | x :: r => ⟨x.2, fitsT_map r⟩
theorem op_term {H : Type} {enc : TypeId × Value → H} {W : World} {sp : Nat → Bool} {hd : Bool} : ∀ n, OpAt enc W sp hd n 25 (fun t : {t : Tm // t.fits} => t.1.pv) := by
  intro n
  induction n using Nat.strongRecOn with
  | ind n ih =>
    intro cs x h
    have hu : ∃ fs, Tryz.prog.underlying 25 = some (.struct fs) ∧ ∃ f0 f1 f2 f3 f4, fs = #[f0, f1, f2, f3, f4] ∧ f0.type = 3 ∧ f1.type = 3 ∧ f2.type = 9 ∧ f3.type = 22 ∧ f4.type = 23 ∧ f0.offset = 0 ∧ f1.offset = 1 ∧ f2.offset = 2 ∧ f3.offset = 3 ∧ f4.offset = 4 :=
      ⟨_, Tryz.underlying25, _, _, _, _, _, rfl, rfl, rfl, rfl, rfl, rfl, rfl, rfl, rfl, rfl, rfl⟩
    obtain ⟨fs, hu, f0, f1, f2, f3, f4, rfl, h0, h1, h2, h3, h4, o0, o1, o2, o3, o4⟩ := hu
    obtain ⟨xs, m, rfl, _, hlen, hxs, hx⟩ := DataW.trod_struct hu h
    have hc : Tryz.prog.cellsOf 25 = 5 := by kernel_rfl
    obtain ⟨a, ha⟩ := op_field hx hxs (i := 0) rfl h0 o0 (c := 1) (by kernel_rfl) (op_int Tryz.underlying3)
    obtain ⟨b, hb⟩ := op_field hx hxs (i := 1) rfl h1 o1 (c := 1) (by kernel_rfl) (op_int Tryz.underlying3)
    obtain ⟨z, hz⟩ := op_field hx hxs (i := 2) rfl h2 o2 (c := 1) (by kernel_rfl) (op_string Tryz.underlying9)
    have hl : OpAt enc W sp hd m 22 (fun l : List Lv => [.sl 3 (l.map Lv.pv)]) := by
      cases m with
      | zero => exact op_zero
      | succ m => exact op_slice Tryz.underlying22 (by kernel_rfl) (by omega) (op_level m)
    have hl2 : OpAt enc W sp hd m 23 (fun l : List {t : Tm // t.fits} => [.sl 5 (l.map fun t => t.1.pv)]) := by
      cases m with
      | zero => exact op_zero
      | succ m => exact op_slice Tryz.underlying23 (by kernel_rfl) (by omega) (ih m (by omega))
    obtain ⟨l, hl⟩ := op_field hx hxs (i := 3) rfl h3 o3 (c := 1) (by kernel_rfl) hl
    obtain ⟨r, hr⟩ := op_field hx hxs (i := 4) rfl h4 o4 (c := 1) (by kernel_rfl) hl2
    rw [List.drop_zero] at ha
    have h5 := rep_split (rep_split (rep_split (rep_split ha hb) hz) hl) hr
    rw [hc] at hlen
    rw [List.take_of_length_le (by omega)] at h5
    refine ⟨⟨.mk a b z.1 l (r.map (·.1)), z.2, fitsT_map r⟩, ?_⟩
    simp only [Tm.pv, List.map_map]
    exact h5
section
variable {H : Type} {enc : TypeId × Value → H} {W : World} {cs : Array Value} {a : Option Addr} {len cap : Nat} {d : DataW H} {p : List MemPlace}
end
end
section
theorem op_entry {H : Type} {enc : TypeId × Value → H} {W : World} {sp : Nat → Bool} {hd : Bool} : ∀ n, OpAt enc W sp hd n 28 (fun e : {e : Ent // e.typ.fits ∧ e.val.fits} => e.1.pv) := by
  intro n cs x h
  have hu : ∃ fs, Tryz.prog.underlying 28 = some (.struct fs) ∧ ∃ f0 f1 f2 f3 f4 f5 f6 f7 f8 f9 f10, fs = #[f0, f1, f2, f3, f4, f5, f6, f7, f8, f9, f10] ∧ f0.type = 3 ∧ f1.type = 3 ∧ f2.type = 9 ∧ f3.type = 25 ∧ f4.type = 25 ∧ f5.type = 3 ∧ f6.type = 9 ∧ f7.type = 3 ∧ f8.type = 3 ∧ f9.type = 3 ∧ f10.type = 26 ∧ f0.offset = 0 ∧ f1.offset = 1 ∧ f2.offset = 2 ∧ f3.offset = 3 ∧ f4.offset = 8 ∧ f5.offset = 13 ∧ f6.offset = 14 ∧ f7.offset = 15 ∧ f8.offset = 16 ∧ f9.offset = 17 ∧ f10.offset = 18 :=
    ⟨_, Tryz.underlying28, _, _, _, _, _, _, _, _, _, _, _, rfl, rfl, rfl, rfl, rfl, rfl, rfl, rfl, rfl, rfl, rfl, rfl, rfl, rfl, rfl, rfl, rfl, rfl, rfl, rfl, rfl, rfl, rfl⟩
  obtain ⟨fs, hu, f0, f1, f2, f3, f4, f5, f6, f7, f8, f9, f10, rfl, h0, h1, h2, h3, h4, h5, h6, h7, h8, h9, h10, o0, o1, o2, o3, o4, o5, o6, o7, o8, o9, o10⟩ := hu
  obtain ⟨xs, m, rfl, _, hlen, hxs, hx⟩ := DataW.trod_struct hu h
  have hc : Tryz.prog.cellsOf 28 = 19 := by kernel_rfl
  obtain ⟨a0, k0⟩ := op_field hx hxs (i := 0) rfl h0 o0 (c := 1) (by kernel_rfl) (op_int Tryz.underlying3)
  obtain ⟨a1, k1⟩ := op_field hx hxs (i := 1) rfl h1 o1 (c := 1) (by kernel_rfl) (op_int Tryz.underlying3)
  obtain ⟨a2, k2⟩ := op_field hx hxs (i := 2) rfl h2 o2 (c := 1) (by kernel_rfl) (op_string Tryz.underlying9)
  obtain ⟨a3, k3⟩ := op_field hx hxs (i := 3) rfl h3 o3 (c := 5) (by kernel_rfl) (op_term m)
  obtain ⟨a4, k4⟩ := op_field hx hxs (i := 4) rfl h4 o4 (c := 5) (by kernel_rfl) (op_term m)
  obtain ⟨a5, k5⟩ := op_field hx hxs (i := 5) rfl h5 o5 (c := 1) (by kernel_rfl) (op_int Tryz.underlying3)
  obtain ⟨a6, k6⟩ := op_field hx hxs (i := 6) rfl h6 o6 (c := 1) (by kernel_rfl) (op_string Tryz.underlying9)
  obtain ⟨a7, k7⟩ := op_field hx hxs (i := 7) rfl h7 o7 (c := 1) (by kernel_rfl) (op_int Tryz.underlying3)
  obtain ⟨a8, k8⟩ := op_field hx hxs (i := 8) rfl h8 o8 (c := 1) (by kernel_rfl) (op_int Tryz.underlying3)
  obtain ⟨a9, k9⟩ := op_field hx hxs (i := 9) rfl h9 o9 (c := 1) (by kernel_rfl) (op_int Tryz.underlying3)
  have hl : OpAt enc W sp hd m 26 (fun l : List {s : ByteArray // s.size ≤ maxLen} => [.sl 1 (l.map fun s => [.sc (.string s.1)])]) := by
    cases m with
    | zero => exact op_zero
    | succ m => exact op_slice Tryz.underlying26 (by kernel_rfl) (by omega) (op_string Tryz.underlying9)
  obtain ⟨a10, k10⟩ := op_field hx hxs (i := 10) rfl h10 o10 (c := 1) (by kernel_rfl) hl
  rw [List.drop_zero] at k0
  have hall := rep_split (rep_split (rep_split (rep_split (rep_split (rep_split (rep_split (rep_split (rep_split (rep_split k0 k1) k2) k3) k4) k5) k6) k7) k8) k9) k10
  rw [hc] at hlen
  rw [List.take_of_length_le (by omega)] at hall
  refine ⟨⟨⟨a0, a1, a2.1, a3.1, a4.1, a5, a6.1, a7, a8, a9, a10.map (·.1)⟩, a3.2, a4.2⟩, ?_⟩
  simp only [Ent.pv, List.map_map]
  have e : (txt ∘ fun s : {s : ByteArray // s.size ≤ maxLen} => s.1) = fun s => [.sc (.string s.1)] := rfl
  rw [e]
  simpa only [List.append_assoc, List.cons_append, List.nil_append] using hall
section
variable {H : Type} {enc : TypeId × Value → H} {W : World} {cs : Array Value} {a : Option Addr} {len cap : Nat} {d : DataW H} {p : List MemPlace}
theorem open_entry (h : DataW.Trod enc Tryz.prog W 0 (fun _ => true) true 28 (.agg cs) d p) : ∃ e : {e : Ent // e.typ.fits ∧ e.val.fits}, Rep (allV W) (.agg e.1.pv) (.agg cs) := trod_agg (fun n => op_entry n) h
end
end
section
theorem op_ctor {H : Type} {enc : TypeId × Value → H} {W : World} {sp : Nat → Bool} {hd : Bool} : ∀ n, OpAt enc W sp hd n 71 (fun c : {c : Ctr // c.name.size ≤ 9223372036854775807 ∧ c.typ.fits} => c.1.pv) := by
  intro n cs x h
  have hu : ∃ fs, Tryz.prog.underlying 71 = some (.struct fs) ∧ ∃ f0 f1, fs = #[f0, f1] ∧ f0.type = 9 ∧ f1.type = 25 ∧ f0.offset = 0 ∧ f1.offset = 1 :=
    ⟨_, Tryz.underlying71, _, _, rfl, rfl, rfl, rfl, rfl⟩
  obtain ⟨fs, hu, f0, f1, rfl, h0, h1, o0, o1⟩ := hu
  obtain ⟨xs, m, rfl, _, hlen, hxs, hx⟩ := DataW.trod_struct hu h
  have hc : Tryz.prog.cellsOf 71 = 6 := by kernel_rfl
  obtain ⟨a0, k0⟩ := op_field hx hxs (i := 0) rfl h0 o0 (c := 1) (by kernel_rfl) (op_string Tryz.underlying9)
  obtain ⟨a1, k1⟩ := op_field hx hxs (i := 1) rfl h1 o1 (c := 5) (by kernel_rfl) (op_term m)
  rw [List.drop_zero] at k0
  have hall := rep_split k0 k1
  rw [hc] at hlen
  rw [List.take_of_length_le (by omega)] at hall
  refine ⟨⟨⟨a0.1, a1.1⟩, ?_, a1.2⟩, ?_⟩
  · exact a0.2
  · simpa only [Ctr.pv, List.cons_append, List.nil_append] using hall
theorem fitsC_map : ∀ l : List {c : Ctr // c.name.size ≤ 9223372036854775807 ∧ c.typ.fits}, fitsC (l.map (·.1))
  | [] => trivial
  | x :: r => ⟨x.2, fitsC_map r⟩
theorem op_decl {H : Type} {enc : TypeId × Value → H} {W : World} {sp : Nat → Bool} {hd : Bool} : ∀ n, OpAt enc W sp hd n 31 (fun d : {d : Dcl // d.fits} => d.1.pv) := by
  intro n cs x h
  have hu : ∃ fs, Tryz.prog.underlying 31 = some (.struct fs) ∧ ∃ f0 f1 f2 f3 f4 f5 f6, fs = #[f0, f1, f2, f3, f4, f5, f6] ∧ f0.type = 3 ∧ f1.type = 3 ∧ f2.type = 9 ∧ f3.type = 25 ∧ f4.type = 25 ∧ f5.type = 3 ∧ f6.type = 29 ∧ f0.offset = 0 ∧ f1.offset = 1 ∧ f2.offset = 2 ∧ f3.offset = 3 ∧ f4.offset = 8 ∧ f5.offset = 13 ∧ f6.offset = 14 :=
    ⟨_, Tryz.underlying31, _, _, _, _, _, _, _, rfl, rfl, rfl, rfl, rfl, rfl, rfl, rfl, rfl, rfl, rfl, rfl, rfl, rfl, rfl⟩
  obtain ⟨fs, hu, f0, f1, f2, f3, f4, f5, f6, rfl, h0, h1, h2, h3, h4, h5, h6, o0, o1, o2, o3, o4, o5, o6⟩ := hu
  obtain ⟨xs, m, rfl, _, hlen, hxs, hx⟩ := DataW.trod_struct hu h
  have hc : Tryz.prog.cellsOf 31 = 15 := by kernel_rfl
  obtain ⟨a0, k0⟩ := op_field hx hxs (i := 0) rfl h0 o0 (c := 1) (by kernel_rfl) (op_int Tryz.underlying3)
  obtain ⟨a1, k1⟩ := op_field hx hxs (i := 1) rfl h1 o1 (c := 1) (by kernel_rfl) (op_int Tryz.underlying3)
  obtain ⟨a2, k2⟩ := op_field hx hxs (i := 2) rfl h2 o2 (c := 1) (by kernel_rfl) (op_string Tryz.underlying9)
  obtain ⟨a3, k3⟩ := op_field hx hxs (i := 3) rfl h3 o3 (c := 5) (by kernel_rfl) (op_term m)
  obtain ⟨a4, k4⟩ := op_field hx hxs (i := 4) rfl h4 o4 (c := 5) (by kernel_rfl) (op_term m)
  obtain ⟨a5, k5⟩ := op_field hx hxs (i := 5) rfl h5 o5 (c := 1) (by kernel_rfl) (op_int Tryz.underlying3)
  have hl : OpAt enc W sp hd m 29 (fun l : List {c : Ctr // c.name.size ≤ 9223372036854775807 ∧ c.typ.fits} => [.sl 6 (l.map fun c => c.1.pv)]) := by
    cases m with
    | zero => exact op_zero
    | succ m => exact op_slice Tryz.underlying29 (by kernel_rfl) (by omega) (op_ctor m)
  obtain ⟨a6, k6⟩ := op_field hx hxs (i := 6) rfl h6 o6 (c := 1) (by kernel_rfl) hl
  rw [List.drop_zero] at k0
  have hall := rep_split (rep_split (rep_split (rep_split (rep_split (rep_split k0 k1) k2) k3) k4) k5) k6
  rw [hc] at hlen
  rw [List.take_of_length_le (by omega)] at hall
  refine ⟨⟨⟨a0, a1, a2.1, a3.1, a4.1, a5, a6.map (·.1)⟩, a2.2, a3.2, a4.2, fitsC_map a6⟩, ?_⟩
  simp only [Dcl.pv, List.map_map]
  have e : (Ctr.pv ∘ fun c : {c : Ctr // c.name.size ≤ 9223372036854775807 ∧ c.typ.fits} => c.1) = fun c => c.1.pv := rfl
  rw [e]
  simpa only [List.append_assoc, List.cons_append, List.nil_append] using hall
section
variable {H : Type} {enc : TypeId × Value → H} {W : World} {cs : Array Value} {d : DataW H} {p : List MemPlace}
theorem open_decl (h : DataW.Trod enc Tryz.prog W 0 (fun _ => true) true 31 (.agg cs) d p) : ∃ e : {d : Dcl // d.fits}, Rep (allV W) (.agg e.1.pv) (.agg cs) := trod_agg (fun n => op_decl n) h
end
end
section
set_option maxRecDepth 20000
attribute [local go_sem] pv_len pv_take Nat.add_assoc tm_len tm_take pv_one tm_one id_ne id_ne' id_ne2 List.append_assoc tm_take_app tm_drop_app tm_d6 tm_d7 tm_d8 tm_d9 tm_d10 tm_d11 tm_d12 tm_d13 tm_d14 tm_d15 ent_len ent_take ent_one tpvB_len tpvB_take tpvB_one
def spanA (n a b : Int) : Bool := decide (a ≤ n) && decide (n ≤ b)
theorem span11_p (n a b : Int) : PPure Tryz.prog F.ref11_span [.sc (.int .i64 n), .sc (.int .i64 a), .sc (.int .i64 b)] (.sc (.bool (spanA n a b))) := by
  refine pure_by is_ref11_span (by simp) rfl fun hb nx => ?_
  clear hb
  simp only [spanA]
  repeat' (first | ((with_reducible first | refine wA (by omega) ?_ | refine wB (by omega) ?_ | refine wC (by omega) ?_ | refine wD (by omega) ?_ | refine wE ?_ ?_ | refine wF ?_ ?_ | refine wG ?_ ?_ | refine wH ?_ ?_ | refine wI ?_ ?_ | refine wJ ?_ ?_ | refine wK ?_ ?_ | refine wL ?_ ?_) <;> intro _) | simp (maxSteps := 1000000) (disch := omega) only [go_sem, Nat.reduceAdd, Nat.reduceMul, Nat.reduceSub, Nat.reduceLeDiff, Nat.reduceEqDiff, Nat.reduceBEq, ↓reduceIte, reduceCtorEq, Int.reduceEq, Int.reduceLE, Int.reduceLT, Int.reduceAdd, Int.reduceSub, Int.reduceNeg, Int.reduceToNat, Int.reduceNe, Nat.reducePow, Nat.reduceShiftRight, Nat.reduceMod, mc_ref11_span, *])
  all_goals (refine fin_tmp (.inr rfl) ?_; simp [upd, *] <;> omega)
def famR (kind fixed index fields : Int) (family : ByteArray) : Bool := if kind = 6 ∨ kind = 7 then nameB family && (spanA fixed 0 32 && (spanA index 0 32 && spanA fields 0 32)) else noS family && (decide (index = 0) && (decide (fields = 0) && (if kind = 5 then spanA fixed 0 16 else decide (fixed = 0))))
def Ent.rightR (e : Ent) : Bool := spanA e.kind 1 7 && (nameB e.name && (e.typ.right e.params 0 && (spanA e.params 0 4 && (valueB e && ((if e.kind = 2 then spanA e.height 1 1048576 else decide (e.height = 0)) && (famR e.kind e.fixed e.index e.fields e.family && ((if e.kind = 5 ∨ e.kind = 7 then true else decide (e.ctors.length = 0)) && (decide (e.ctors.length ≤ 8) && e.ctors.all nameB))))))))
theorem famR_eq (e : Ent) : famR e.kind e.fixed e.index e.fields e.family = familyB e := by
  simp only [famR, familyB, spanA, spanB, most1, most2]
  by_cases h67 : e.kind = 6 ∨ e.kind = 7
  · simp only [if_pos h67]
    generalize nameB e.family = b
    rw [Bool.eq_iff_iff]
    simp only [Bool.and_eq_true]
    constructor
    · rintro ⟨h1, h2, h3, h4⟩; exact ⟨⟨h2, h3, h4⟩, h1⟩
    · rintro ⟨⟨h2, h3, h4⟩, h1⟩; exact ⟨h1, h2, h3, h4⟩
  · simp only [if_neg h67]
    generalize noS e.family = b
    rw [Bool.eq_iff_iff]
    by_cases h5 : e.kind = 5
    · simp only [if_pos h5, Bool.and_eq_true, decide_eq_true_eq]
      constructor
      · rintro ⟨h1, h2, h3, h4⟩; exact ⟨⟨h4, ⟨by omega, by omega⟩, by omega, by omega⟩, h1⟩
      · rintro ⟨⟨h2, h3, h4⟩, h1⟩; exact ⟨h1, by omega, by omega, h2⟩
    · simp only [if_neg h5, Bool.and_eq_true, decide_eq_true_eq]
      constructor
      · rintro ⟨h1, h2, h3, h4⟩; exact ⟨⟨⟨by omega, by omega⟩, ⟨by omega, by omega⟩, by omega, by omega⟩, h1⟩
      · rintro ⟨⟨h2, h3, h4⟩, h1⟩; exact ⟨h1, by omega, by omega, by omega⟩
theorem rightR_eq (e : Ent) : e.rightR = e.right := by
  simp only [Ent.rightR, Ent.right, famR_eq, spanA]
  have hc : ((if e.kind = 5 ∨ e.kind = 7 then true else decide (e.ctors.length = 0)) && (decide (e.ctors.length ≤ 8) && e.ctors.all nameB)) = ctorsB e := by
    unfold ctorsB
    by_cases h : e.kind = 5 ∨ e.kind = 7
    · simp only [if_pos h, Bool.true_and]
    · simp only [if_neg h]
      by_cases h0 : e.ctors.length = 0
      · rw [List.eq_nil_of_length_eq_zero h0]; simp
      · rw [decide_eq_false h0]; rfl
  have hh : (if e.kind = 2 then decide (1 ≤ e.height) && decide (e.height ≤ 1048576) else decide (e.height = 0)) = heightB e := rfl
  rw [hc, hh]
  generalize valueB e = b1
  generalize heightB e = b2
  generalize familyB e = b3
  generalize ctorsB e = b4
  generalize nameB e.name = b5
  generalize e.typ.right e.params 0 = b6
  rw [Bool.eq_iff_iff]
  simp only [Bool.and_eq_true]
  constructor
  · rintro ⟨⟨h1, h2⟩, h3, h4, ⟨h5, h6⟩, h7⟩; exact ⟨h1, h2, h3, h5, h6, h4, h7⟩
  · rintro ⟨h1, h2, h3, h5, h6, h4, h7⟩; exact ⟨⟨h1, h2⟩, h3, h4, ⟨h5, h6⟩, h7⟩
set_option maxHeartbeats 40000000 in
theorem refRight11_p (e : Ent) : PPure Tryz.prog F.ref11_Right [.agg e.pv] (.sc (.bool e.right)) := by
  rw [← rightR_eq]
  refine pure_by is_ref11_Right (by simp) rfl fun hb nx => ?_
  clear hb
  have s1 := span11_p e.kind 1 7
  have c1 := ref01_Right_p e.name
  have c2 := ref04_Right_p e.typ e.params 0
  have s2 := span11_p e.params 0 4
  have c3 : PPure Tryz.prog F.ref00_SameTerm [.agg e.val.pv, .agg [.sc (.int .i64 0), .sc (.int .i64 0), .sc (.string ⟨#[]⟩), .sc (.slice none 0 0), .sc (.slice none 0 0)]] (.sc (.bool (noughtB e.val))) :=
    (SameTerm_p e.val.size e.val noTm (Nat.le_refl _)).weak (args' := [.agg e.val.pv, .agg [.sc (.int .i64 0), .sc (.int .i64 0), .sc (.string ⟨#[]⟩), .sc (.slice none 0 0), .sc (.slice none 0 0)]]) (by
      simp only [noTm, Tm.pv, List.map_nil]
      exact ⟨.refl _, Weak.agg ⟨.refl _, .refl _, .refl _, .nil 3, .nil 5, trivial⟩, trivial⟩) (.refl _)
  have c4 := ref04_Right_p e.val e.params 0
  have c5 := ref04_Right_p e.val (min (e.params + 1) 4) 0
  have s3 := span11_p e.height 1 1048576
  have c6 := ref01_Right_p e.family
  have s4 := span11_p e.fixed 0 32
  have s5 := span11_p e.index 0 32
  have s6 := span11_p e.fields 0 32
  have s7 := span11_p e.fixed 0 16
  have hp : spanA e.params 0 4 = true → 0 ≤ e.params ∧ e.params ≤ 4 := fun h => by simpa [spanA] using h
  have hk : spanA e.kind 1 7 = true → 1 ≤ e.kind ∧ e.kind ≤ 7 := fun h => by simpa [spanA] using h
  simp only [Ent.rightR, valueB, famR]
  obtain ⟨kind, params, name, typ, val, height, family, fixed, index, fields, ctors⟩ := e
  simp only [Ent.pv] at s1 s2 s3 s4 s5 s6 s7 c1 c2 c3 c4 c5 c6 hp hk ⊢
  generalize typ.right params 0 = b2 at c2
  generalize noughtB val = bn at c3
  generalize val.right params 0 = bv at c4
  generalize val.right (min (params + 1) 4) 0 = bw at c5
  generalize nameB name = b1 at c1
  generalize nameB family = bf at c6
  generalize spanA height 1 1048576 = bh at s3
  generalize spanA fixed 0 32 = x1 at s4
  generalize spanA index 0 32 = x2 at s5
  generalize spanA fields 0 32 = x3 at s6
  generalize spanA fixed 0 16 = x4 at s7
  cases hk1 : spanA kind 1 7 with
  | false =>
    rw [hk1] at s1
    clear hk1 hk hp
    repeat' (first | ((with_reducible first | refine wA (by omega) ?_ | refine wB (by omega) ?_ | refine wC (by omega) ?_ | refine wD (by omega) ?_ | refine wE ?_ ?_ | refine wF ?_ ?_ | refine wG ?_ ?_ | refine wH ?_ ?_ | refine wI ?_ ?_ | refine wJ ?_ ?_ | refine wK ?_ ?_ | refine wL ?_ ?_) <;> intro _) | (((with_reducible refine call_id ?_); (first | (refine call_pure (s1) ?_)))) | simp (maxSteps := 1000000) (disch := omega) only [go_sem, Nat.reduceAdd, Nat.reduceMul, Nat.reduceSub, Nat.reduceLeDiff, Nat.reduceEqDiff, Nat.reduceBEq, ↓reduceIte, reduceCtorEq, Int.reduceEq, Int.reduceLE, Int.reduceLT, Int.reduceAdd, Int.reduceSub, Int.reduceNeg, Int.reduceToNat, Int.reduceNe, Nat.reducePow, Nat.reduceShiftRight, Nat.reduceMod, mc_ref11_Right, *])
    all_goals (exact fin_tmp (.inr rfl) cE3)
  | true =>
  obtain ⟨k1, k7⟩ := hk hk1
  rw [hk1] at s1
  clear hk1 hk
  cases b1 with
  | false =>
    clear hp
    repeat' (first | ((with_reducible first | refine wA (by omega) ?_ | refine wB (by omega) ?_ | refine wC (by omega) ?_ | refine wD (by omega) ?_ | refine wE ?_ ?_ | refine wF ?_ ?_ | refine wG ?_ ?_ | refine wH ?_ ?_ | refine wI ?_ ?_ | refine wJ ?_ ?_ | refine wK ?_ ?_ | refine wL ?_ ?_) <;> intro _) | (((with_reducible refine call_id ?_); (first | (refine call_pure (s1) ?_) | (refine call_pure (c1) ?_)))) | simp (maxSteps := 1000000) (disch := omega) only [go_sem, Nat.reduceAdd, Nat.reduceMul, Nat.reduceSub, Nat.reduceLeDiff, Nat.reduceEqDiff, Nat.reduceBEq, ↓reduceIte, reduceCtorEq, Int.reduceEq, Int.reduceLE, Int.reduceLT, Int.reduceAdd, Int.reduceSub, Int.reduceNeg, Int.reduceToNat, Int.reduceNe, Nat.reducePow, Nat.reduceShiftRight, Nat.reduceMod, mc_ref11_Right, *])
    all_goals (exact fin_tmp (.inr rfl) cE3)
  | true =>
  cases b2 with
  | false =>
    clear hp
    repeat' (first | ((with_reducible first | refine wA (by omega) ?_ | refine wB (by omega) ?_ | refine wC (by omega) ?_ | refine wD (by omega) ?_ | refine wE ?_ ?_ | refine wF ?_ ?_ | refine wG ?_ ?_ | refine wH ?_ ?_ | refine wI ?_ ?_ | refine wJ ?_ ?_ | refine wK ?_ ?_ | refine wL ?_ ?_) <;> intro _) | (((with_reducible refine call_id ?_); (first | (refine call_pure (s1) ?_) | (refine call_pure (c1) ?_) | (refine call_pure (c2) ?_)))) | simp (maxSteps := 1000000) (disch := omega) only [go_sem, Nat.reduceAdd, Nat.reduceMul, Nat.reduceSub, Nat.reduceLeDiff, Nat.reduceEqDiff, Nat.reduceBEq, ↓reduceIte, reduceCtorEq, Int.reduceEq, Int.reduceLE, Int.reduceLT, Int.reduceAdd, Int.reduceSub, Int.reduceNeg, Int.reduceToNat, Int.reduceNe, Nat.reducePow, Nat.reduceShiftRight, Nat.reduceMod, mc_ref11_Right, *])
    all_goals (exact fin_tmp (.inr rfl) cE3)
  | true =>
  cases hp1 : spanA params 0 4 with
  | false =>
    rw [hp1] at s2
    clear hp1 hp
    repeat' (first | ((with_reducible first | refine wA (by omega) ?_ | refine wB (by omega) ?_ | refine wC (by omega) ?_ | refine wD (by omega) ?_ | refine wE ?_ ?_ | refine wF ?_ ?_ | refine wG ?_ ?_ | refine wH ?_ ?_ | refine wI ?_ ?_ | refine wJ ?_ ?_ | refine wK ?_ ?_ | refine wL ?_ ?_) <;> intro _) | (((with_reducible refine call_id ?_); (first | (refine call_pure (s1) ?_) | (refine call_pure (c1) ?_) | (refine call_pure (c2) ?_) | (refine call_pure (s2) ?_)))) | simp (maxSteps := 1000000) (disch := omega) only [go_sem, Nat.reduceAdd, Nat.reduceMul, Nat.reduceSub, Nat.reduceLeDiff, Nat.reduceEqDiff, Nat.reduceBEq, ↓reduceIte, reduceCtorEq, Int.reduceEq, Int.reduceLE, Int.reduceLT, Int.reduceAdd, Int.reduceSub, Int.reduceNeg, Int.reduceToNat, Int.reduceNe, Nat.reducePow, Nat.reduceShiftRight, Nat.reduceMod, mc_ref11_Right, *])
    all_goals (exact fin_tmp (.inr rfl) cE3)
  | true =>
  obtain ⟨p0, p4⟩ := hp hp1
  rw [hp1] at s2
  clear hp1 hp
  have h9 : kind = 1 ∨ kind = 2 ∨ kind = 3 ∨ kind = 4 ∨ kind = 5 ∨ kind = 6 ∨ kind = 7 := by omega
  rcases h9 with rfl | rfl | rfl | rfl | rfl | rfl | rfl
  all_goals
    repeat' (first | ((with_reducible first | refine wA (by omega) ?_ | refine wB (by omega) ?_ | refine wC (by omega) ?_ | refine wD (by omega) ?_ | refine wE ?_ ?_ | refine wF ?_ ?_ | refine wG ?_ ?_ | refine wH ?_ ?_ | refine wI ?_ ?_ | refine wJ ?_ ?_ | refine wK ?_ ?_ | refine wL ?_ ?_) <;> intro _) | (((with_reducible refine call_id ?_); (first | (refine call_pure (s1) ?_) | (refine call_pure (c1) ?_) | (refine call_pure (c2) ?_) | (refine call_pure (s2) ?_) | (refine call_pure (c3) ?_) | (refine call_pure (c4) ?_) | (refine call_pure (c5) ?_) | (refine call_pure (s3) ?_) | (refine call_pure (c6) ?_) | (refine call_pure (s4) ?_) | (refine call_pure (s5) ?_) | (refine call_pure (s6) ?_) | (refine call_pure (s7) ?_)))) | simp (maxSteps := 1000000) (disch := omega) only [go_sem, Nat.reduceAdd, Nat.reduceMul, Nat.reduceSub, Nat.reduceLeDiff, Nat.reduceEqDiff, Nat.reduceBEq, ↓reduceIte, reduceCtorEq, Int.reduceEq, Int.reduceLE, Int.reduceLT, Int.reduceAdd, Int.reduceSub, Int.reduceNeg, Int.reduceToNat, Int.reduceNe, Nat.reducePow, Nat.reduceShiftRight, Nat.reduceMod, mc_ref11_Right, strBin, fold_noS, *])
    all_goals first
      | ((exact fin_tmp (.inr rfl) cE3); done)
      | (refine c_loopW 98073728304710379556581247444544981856350793120054509604 (by kernel_rfl) (fun j f H m => ∃ i : Nat, j = ctors.length - i ∧ i ≤ ctors.length ∧ f 5 = .sc (.int .i64 i) ∧ Kept ((ctors.take i).all nameB = true)) _ ⟨0, rfl, Nat.zero_le _, cE1, Kept.mk rfl⟩ ?_
         rintro _ f H m ⟨i, rfl, hi, e5, hs⟩
         by_cases hlt : i < ctors.length
         · have eg : ctors[i]? = some ctors[i] := List.getElem?_eq_getElem hlt
           have c7 := ref01_Right_p ctors[i]
           cases hc : nameB ctors[i] with
           | false =>
             have e : ctors.all nameB = false := by
               rw [Bool.eq_false_iff]
               intro h
               have := List.all_eq_true.1 h _ (List.getElem_mem hlt)
               rw [hc] at this
               cases this
             rw [hc] at c7
             rw [e]
             clear e hs hc
             repeat' (first | ((with_reducible first | refine wA (by omega) ?_ | refine wB (by omega) ?_ | refine wC (by omega) ?_ | refine wD (by omega) ?_ | refine wE ?_ ?_ | refine wF ?_ ?_ | refine wG ?_ ?_ | refine wH ?_ ?_ | refine wI ?_ ?_ | refine wJ ?_ ?_ | refine wK ?_ ?_ | refine wL ?_ ?_) <;> intro _) | (((with_reducible refine call_id ?_); (first | (refine call_pure (c7) ?_)))) | simp (maxSteps := 1000000) (disch := omega) only [go_sem, Nat.reduceAdd, Nat.reduceMul, Nat.reduceSub, Nat.reduceLeDiff, Nat.reduceEqDiff, Nat.reduceBEq, ↓reduceIte, reduceCtorEq, Int.reduceEq, Int.reduceLE, Int.reduceLT, Int.reduceAdd, Int.reduceSub, Int.reduceNeg, Int.reduceToNat, Int.reduceNe, Nat.reducePow, Nat.reduceShiftRight, Nat.reduceMod, txt, *])
             all_goals (exact fin_tmp (.inr rfl) cE3)
           | true =>
             rw [hc] at c7
             have hs2 : Kept ((ctors.take (i + 1)).all nameB = true) := Kept.mk (by rw [List.take_succ_eq_append_getElem hlt, List.all_append, hs.out, List.all_cons, hc]; rfl)
             clear hc hs
             repeat' (first | ((with_reducible first | refine wA (by omega) ?_ | refine wB (by omega) ?_ | refine wC (by omega) ?_ | refine wD (by omega) ?_ | refine wE ?_ ?_ | refine wF ?_ ?_ | refine wG ?_ ?_ | refine wH ?_ ?_ | refine wI ?_ ?_ | refine wJ ?_ ?_ | refine wK ?_ ?_ | refine wL ?_ ?_) <;> intro _) | (((with_reducible refine call_id ?_); (first | (refine call_pure (c7) ?_)))) | simp (maxSteps := 1000000) (disch := omega) only [go_sem, Nat.reduceAdd, Nat.reduceMul, Nat.reduceSub, Nat.reduceLeDiff, Nat.reduceEqDiff, Nat.reduceBEq, ↓reduceIte, reduceCtorEq, Int.reduceEq, Int.reduceLE, Int.reduceLT, Int.reduceAdd, Int.reduceSub, Int.reduceNeg, Int.reduceToNat, Int.reduceNe, Nat.reducePow, Nat.reduceShiftRight, Nat.reduceMod, txt, *])
             exact Nx.mk (ctors.length - (i + 1)) cE1 ⟨i + 1, by omega, cE1, by simp [upd], hs2⟩
         · obtain rfl : i = ctors.length := by omega
           have h3 := hs.out
           rw [List.take_length] at h3
           rw [h3]
           clear hs h3
           repeat' (first | ((with_reducible first | refine wA (by omega) ?_ | refine wB (by omega) ?_ | refine wC (by omega) ?_ | refine wD (by omega) ?_ | refine wE ?_ ?_ | refine wF ?_ ?_ | refine wG ?_ ?_ | refine wH ?_ ?_ | refine wI ?_ ?_ | refine wJ ?_ ?_ | refine wK ?_ ?_ | refine wL ?_ ?_) <;> intro _) | simp (maxSteps := 1000000) (disch := omega) only [go_sem, Nat.reduceAdd, Nat.reduceMul, Nat.reduceSub, Nat.reduceLeDiff, Nat.reduceEqDiff, Nat.reduceBEq, ↓reduceIte, reduceCtorEq, Int.reduceEq, Int.reduceLE, Int.reduceLT, Int.reduceAdd, Int.reduceSub, Int.reduceNeg, Int.reduceToNat, Int.reduceNe, Nat.reducePow, Nat.reduceShiftRight, Nat.reduceMod, *])
           all_goals (exact fin_tmp (.inr rfl) cE3))
end
section
set_option maxRecDepth 20000
attribute [local go_sem] pv_len pv_take Nat.add_assoc tm_len tm_take pv_one tm_one id_ne id_ne' id_ne2 List.append_assoc tm_take_app tm_drop_app tm_d6 tm_d7 tm_d8 tm_d9 tm_d10 tm_d11 tm_d12 tm_d13 tm_d14 tm_d15 ent_len ent_take ent_one tpvB_len tpvB_take tpvB_one optC_len optC_take optC_one dcl_len dcl_take dcl_one
set_option maxHeartbeats 8000000 in
theorem refAt11_p (e : Ent) (t : Tm) (bys : List Lv) : PPure Tryz.prog F.ref11_at [.agg e.pv, .agg t.pv, .sl 3 (bys.map Lv.pv)] (errT (atR e.params t bys)) := by
  obtain ⟨kind, params, name, typ, val, height, family, fixed, index, fields, ctors⟩ := e
  refine pure_by is_ref11_at (by simp) (errT_imm _) fun hb nx => ?_
  have hb0 : bys.length ≤ 9223372036854775807 := by simp [bndL, PV.bnd] at hb; exact hb.2.2.1
  clear hb
  by_cases hl : (bys.length : Int) = params
  · repeat' (first | ((with_reducible first | refine wA (by omega) ?_ | refine wB (by omega) ?_ | refine wC (by omega) ?_ | refine wD (by omega) ?_ | refine wE ?_ ?_ | refine wF ?_ ?_ | refine wG ?_ ?_ | refine wH ?_ ?_ | refine wI ?_ ?_ | refine wJ ?_ ?_ | refine wK ?_ ?_ | refine wL ?_ ?_) <;> intro _) | simp (maxSteps := 1000000) (disch := omega) only [go_sem, Nat.reduceAdd, Nat.reduceMul, Nat.reduceSub, Nat.reduceLeDiff, Nat.reduceEqDiff, Nat.reduceBEq, ↓reduceIte, reduceCtorEq, Int.reduceEq, Int.reduceLE, Int.reduceLT, Int.reduceAdd, Int.reduceSub, Int.reduceNeg, Int.reduceToNat, Int.reduceNe, Nat.reducePow, Nat.reduceShiftRight, Nat.reduceMod, mc_ref11_at, Ent.pv, *])
    refine c_loopW 1073611136 (by kernel_rfl) (fun j f H m => ∃ i : Nat, j = bys.length - i ∧ i ≤ bys.length ∧ f 8 = .sc (.int .i64 i) ∧ nx + 2 < m ∧ H (nx + 2) = some ⟨[.sc (.int .i64 0), .sc (.int .i64 0), .sc (.string ⟨#[]⟩), .sc (.slice none 0 0), .sc (.slice none 0 0)], true⟩ ∧ Kept ((bys.take i).any (fun l => !l.right 4) = false)) _ ⟨0, rfl, Nat.zero_le _, cE1, ?mm, ?hh, Kept.mk rfl⟩ ?_
    case mm => simp (disch := omega) only [go_sem, Nat.reduceMul, Nat.reduceSub, Nat.reduceShiftRight, Nat.reduceMod, Nat.reduceEqDiff, Nat.reduceAdd, ↓reduceIte, Nat.reduceLeDiff]; all_goals omega
    case hh => simp (disch := omega) only [go_sem, Nat.reduceMul, Nat.reduceSub, Nat.reduceShiftRight, Nat.reduceMod, Nat.reduceEqDiff, Nat.reduceAdd, ↓reduceIte, Nat.reduceLeDiff]; all_goals rfl
    rintro _ f H m ⟨i, rfl, hi, e8, hm, hH, hs⟩
    by_cases hlt : i < bys.length
    · have eg : bys[i]? = some bys[i] := List.getElem?_eq_getElem hlt
      have c1 := ref_Right_p bys[i] 4
      cases hx : bys[i].right 4 with
      | false =>
        have e1 : atR params t bys = (none, 16) := if_pos (.inr (List.any_eq_true.2 ⟨bys[i], List.getElem_mem hlt, by rw [hx]; rfl⟩))
        rw [hx] at c1
        simp only [e1, errT, optC]
        clear e1 hx hs
        repeat' (first | ((with_reducible first | refine wA (by omega) ?_ | refine wB (by omega) ?_ | refine wC (by omega) ?_ | refine wD (by omega) ?_ | refine wE ?_ ?_ | refine wF ?_ ?_ | refine wG ?_ ?_ | refine wH ?_ ?_ | refine wI ?_ ?_ | refine wJ ?_ ?_ | refine wK ?_ ?_ | refine wL ?_ ?_) <;> intro _) | (((with_reducible refine call_id ?_); (first | (refine call_pure (c1) ?_)))) | simp (maxSteps := 1000000) (disch := omega) only [go_sem, Nat.reduceAdd, Nat.reduceMul, Nat.reduceSub, Nat.reduceLeDiff, Nat.reduceEqDiff, Nat.reduceBEq, ↓reduceIte, reduceCtorEq, Int.reduceEq, Int.reduceLE, Int.reduceLT, Int.reduceAdd, Int.reduceSub, Int.reduceNeg, Int.reduceToNat, Int.reduceNe, Nat.reducePow, Nat.reduceShiftRight, Nat.reduceMod, *])
        all_goals
          refine fin_ret (r0 := .tup [.agg [.sc (.int .i64 0), .sc (.int .i64 0), .sc (.string ⟨#[]⟩), .sc (.slice none 0 0), .sc (.slice none 0 0)], .sc (.int .i64 16)]) 2 cE2 ?_
          exact .of_eq (by simp [frz, frz_sc])
      | true =>
        rw [hx] at c1
        have hs2 : Kept ((bys.take (i + 1)).any (fun l => !l.right 4) = false) := Kept.mk (by rw [List.take_succ_eq_append_getElem hlt, List.any_append, hs.out]; simp [hx])
        clear hs hx
        repeat' (first | ((with_reducible first | refine wA (by omega) ?_ | refine wB (by omega) ?_ | refine wC (by omega) ?_ | refine wD (by omega) ?_ | refine wE ?_ ?_ | refine wF ?_ ?_ | refine wG ?_ ?_ | refine wH ?_ ?_ | refine wI ?_ ?_ | refine wJ ?_ ?_ | refine wK ?_ ?_ | refine wL ?_ ?_) <;> intro _) | (((with_reducible refine call_id ?_); (first | (refine call_pure (c1) ?_)))) | simp (maxSteps := 1000000) (disch := omega) only [go_sem, Nat.reduceAdd, Nat.reduceMul, Nat.reduceSub, Nat.reduceLeDiff, Nat.reduceEqDiff, Nat.reduceBEq, ↓reduceIte, reduceCtorEq, Int.reduceEq, Int.reduceLE, Int.reduceLT, Int.reduceAdd, Int.reduceSub, Int.reduceNeg, Int.reduceToNat, Int.reduceNe, Nat.reducePow, Nat.reduceShiftRight, Nat.reduceMod, *])
        exact Nx.mk (bys.length - (i + 1)) cE1 ⟨i + 1, rfl, cE1, by simp [upd], cE1, cE1, hs2⟩
    · obtain rfl : i = bys.length := by omega
      have ha := hs.out
      rw [List.take_length] at ha
      have c2 := ref04_Levels_p t bys
      simp only [lvs] at c2
      cases hv : levelsR t bys with
      | none =>
        have e1 : atR params t bys = (none, 15) := by unfold atR; rw [if_neg (by rw [ha]; simp [hl]), hv]
        rw [hv] at c2
        simp only [optT, zeroT] at c2
        simp only [e1, errT, optC]
        clear e1 ha hv hs
        repeat' (first | ((with_reducible first | refine wA (by omega) ?_ | refine wB (by omega) ?_ | refine wC (by omega) ?_ | refine wD (by omega) ?_ | refine wE ?_ ?_ | refine wF ?_ ?_ | refine wG ?_ ?_ | refine wH ?_ ?_ | refine wI ?_ ?_ | refine wJ ?_ ?_ | refine wK ?_ ?_ | refine wL ?_ ?_) <;> intro _) | (((with_reducible refine call_id ?_); (first | (refine call_pure (c2) ?_)))) | simp (maxSteps := 1000000) (disch := omega) only [go_sem, Nat.reduceAdd, Nat.reduceMul, Nat.reduceSub, Nat.reduceLeDiff, Nat.reduceEqDiff, Nat.reduceBEq, ↓reduceIte, reduceCtorEq, Int.reduceEq, Int.reduceLE, Int.reduceLT, Int.reduceAdd, Int.reduceSub, Int.reduceNeg, Int.reduceToNat, Int.reduceNe, Nat.reducePow, Nat.reduceShiftRight, Nat.reduceMod, *])
        all_goals
          refine fin_ret (r0 := .tup [.agg [.sc (.int .i64 0), .sc (.int .i64 0), .sc (.string ⟨#[]⟩), .sc (.slice none 0 0), .sc (.slice none 0 0)], .sc (.int .i64 15)]) 2 cE2 ?_
          exact .of_eq (by simp [frz, frz_sc])
      | some y =>
        have e1 : atR params t bys = (some y, 0) := by unfold atR; rw [if_neg (by rw [ha]; simp [hl]), hv]
        rw [hv] at c2
        simp only [optT] at c2
        simp only [e1, errT, optC]
        clear e1 ha hv hs
        repeat' (first | ((with_reducible first | refine wA (by omega) ?_ | refine wB (by omega) ?_ | refine wC (by omega) ?_ | refine wD (by omega) ?_ | refine wE ?_ ?_ | refine wF ?_ ?_ | refine wG ?_ ?_ | refine wH ?_ ?_ | refine wI ?_ ?_ | refine wJ ?_ ?_ | refine wK ?_ ?_ | refine wL ?_ ?_) <;> intro _) | (((with_reducible refine call_id ?_); (first | (refine call_pure (c2) ?_)))) | simp (maxSteps := 1000000) (disch := omega) only [go_sem, Nat.reduceAdd, Nat.reduceMul, Nat.reduceSub, Nat.reduceLeDiff, Nat.reduceEqDiff, Nat.reduceBEq, ↓reduceIte, reduceCtorEq, Int.reduceEq, Int.reduceLE, Int.reduceLT, Int.reduceAdd, Int.reduceSub, Int.reduceNeg, Int.reduceToNat, Int.reduceNe, Nat.reducePow, Nat.reduceShiftRight, Nat.reduceMod, *])
        all_goals
          refine fin_ret (r0 := .tup [.agg y.pv, .sc (.int .i64 0)]) 1 cE2 ?_
          exact .of_eq (by simp [frz])
  · have e1 : atR params t bys = (none, 16) := if_pos (.inl hl)
    simp only [e1, errT, optC]
    clear e1
    repeat' (first | ((with_reducible first | refine wA (by omega) ?_ | refine wB (by omega) ?_ | refine wC (by omega) ?_ | refine wD (by omega) ?_ | refine wE ?_ ?_ | refine wF ?_ ?_ | refine wG ?_ ?_ | refine wH ?_ ?_ | refine wI ?_ ?_ | refine wJ ?_ ?_ | refine wK ?_ ?_ | refine wL ?_ ?_) <;> intro _) | simp (maxSteps := 1000000) (disch := omega) only [go_sem, Nat.reduceAdd, Nat.reduceMul, Nat.reduceSub, Nat.reduceLeDiff, Nat.reduceEqDiff, Nat.reduceBEq, ↓reduceIte, reduceCtorEq, Int.reduceEq, Int.reduceLE, Int.reduceLT, Int.reduceAdd, Int.reduceSub, Int.reduceNeg, Int.reduceToNat, Int.reduceNe, Nat.reducePow, Nat.reduceShiftRight, Nat.reduceMod, mc_ref11_at, Ent.pv, *])
    all_goals
      refine fin_ret (r0 := .tup [.agg [.sc (.int .i64 0), .sc (.int .i64 0), .sc (.string ⟨#[]⟩), .sc (.slice none 0 0), .sc (.slice none 0 0)], .sc (.int .i64 16)]) 2 cE2 ?_
      exact .of_eq (by simp [frz, frz_sc])
set_option maxHeartbeats 4000000 in
theorem refType11_p (e : Ent) (bys : List Lv) : PPure Tryz.prog F.ref11_Type [.agg e.pv, .sl 3 (bys.map Lv.pv)] (errT (typeR e bys)) := by
  refine pure_by is_ref11_Type (by simp) (errT_imm _) fun hb nx => ?_
  clear hb
  have c1 := refRight11_p e
  cases hr : e.right with
  | false =>
    rw [hr] at c1
    have e1 : typeR e bys = (none, 10) := if_neg (by rw [hr]; decide)
    simp only [e1, errT, optC]
    clear e1 hr
    repeat' (first | ((with_reducible first | refine wA (by omega) ?_ | refine wB (by omega) ?_ | refine wC (by omega) ?_ | refine wD (by omega) ?_ | refine wE ?_ ?_ | refine wF ?_ ?_ | refine wG ?_ ?_ | refine wH ?_ ?_ | refine wI ?_ ?_ | refine wJ ?_ ?_ | refine wK ?_ ?_ | refine wL ?_ ?_) <;> intro _) | (((with_reducible refine call_id ?_); (first | (refine call_pure (c1) ?_)))) | simp (maxSteps := 1000000) (disch := omega) only [go_sem, Nat.reduceAdd, Nat.reduceMul, Nat.reduceSub, Nat.reduceLeDiff, Nat.reduceEqDiff, Nat.reduceBEq, ↓reduceIte, reduceCtorEq, Int.reduceEq, Int.reduceLE, Int.reduceLT, Int.reduceAdd, Int.reduceSub, Int.reduceNeg, Int.reduceToNat, Int.reduceNe, Nat.reducePow, Nat.reduceShiftRight, Nat.reduceMod, mc_ref11_Type, *])
    all_goals
      refine fin_ret (r0 := .tup [.agg [.sc (.int .i64 0), .sc (.int .i64 0), .sc (.string ⟨#[]⟩), .sc (.slice none 0 0), .sc (.slice none 0 0)], .sc (.int .i64 10)]) 2 cE2 ?_
      exact .of_eq (by simp [frz, frz_sc])
  | true =>
    rw [hr] at c1
    have e1 : typeR e bys = atR e.params e.typ bys := if_pos hr
    rw [e1]
    have c2 := refAt11_p e e.typ bys
    have hd : (e.pv.drop 3).take 5 = e.typ.pv := by simp only [Ent.pv, List.drop_succ_cons, List.drop_zero]; exact List.take_left' (tm_len _)
    have hl : 5 ≤ (e.pv.drop 3).length := by rw [List.length_drop, ent_len]; omega
    generalize atR e.params e.typ bys = r at c2 ⊢
    obtain ⟨o, n⟩ := r
    simp only [errT] at c2 ⊢
    clear e1 hr
    repeat' (first | ((with_reducible first | refine wA (by omega) ?_ | refine wB (by omega) ?_ | refine wC (by omega) ?_ | refine wD (by omega) ?_ | refine wE ?_ ?_ | refine wF ?_ ?_ | refine wG ?_ ?_ | refine wH ?_ ?_ | refine wI ?_ ?_ | refine wJ ?_ ?_ | refine wK ?_ ?_ | refine wL ?_ ?_) <;> intro _) | (((with_reducible refine call_id ?_); (first | (refine call_pure (c1) ?_) | (refine call_pure (c2) ?_)))) | simp (maxSteps := 1000000) (disch := omega) only [go_sem, Nat.reduceAdd, Nat.reduceMul, Nat.reduceSub, Nat.reduceLeDiff, Nat.reduceEqDiff, Nat.reduceBEq, ↓reduceIte, reduceCtorEq, Int.reduceEq, Int.reduceLE, Int.reduceLT, Int.reduceAdd, Int.reduceSub, Int.reduceNeg, Int.reduceToNat, Int.reduceNe, Nat.reducePow, Nat.reduceShiftRight, Nat.reduceMod, mc_ref11_Type, hd, *])
    all_goals
      refine fin_ret (r0 := .tup [.agg (optC o), .sc (.int .i64 n)]) 1 cE2 ?_
      exact .of_eq (by simp [frz])
set_option maxHeartbeats 4000000 in
theorem refValue11_p (e : Ent) (bys : List Lv) : PPure Tryz.prog F.ref11_Value [.agg e.pv, .sl 3 (bys.map Lv.pv)] (errT (eValR e bys)) := by
  refine pure_by is_ref11_Value (by simp) (errT_imm _) fun hb nx => ?_
  clear hb
  have c1 := refRight11_p e
  cases hr : e.right with
  | false =>
    rw [hr] at c1
    have e1 : eValR e bys = (none, 10) := if_neg (by rw [hr]; decide)
    simp only [e1, errT, optC]
    clear e1 hr
    repeat' (first | ((with_reducible first | refine wA (by omega) ?_ | refine wB (by omega) ?_ | refine wC (by omega) ?_ | refine wD (by omega) ?_ | refine wE ?_ ?_ | refine wF ?_ ?_ | refine wG ?_ ?_ | refine wH ?_ ?_ | refine wI ?_ ?_ | refine wJ ?_ ?_ | refine wK ?_ ?_ | refine wL ?_ ?_) <;> intro _) | (((with_reducible refine call_id ?_); (first | (refine call_pure (c1) ?_)))) | simp (maxSteps := 1000000) (disch := omega) only [go_sem, Nat.reduceAdd, Nat.reduceMul, Nat.reduceSub, Nat.reduceLeDiff, Nat.reduceEqDiff, Nat.reduceBEq, ↓reduceIte, reduceCtorEq, Int.reduceEq, Int.reduceLE, Int.reduceLT, Int.reduceAdd, Int.reduceSub, Int.reduceNeg, Int.reduceToNat, Int.reduceNe, Nat.reducePow, Nat.reduceShiftRight, Nat.reduceMod, mc_ref11_Value, *])
    all_goals
      refine fin_ret (r0 := .tup [.agg [.sc (.int .i64 0), .sc (.int .i64 0), .sc (.string ⟨#[]⟩), .sc (.slice none 0 0), .sc (.slice none 0 0)], .sc (.int .i64 10)]) 2 cE2 ?_
      exact .of_eq (by simp [frz, frz_sc])
  | true =>
    rw [hr] at c1
    have hd : (e.pv.drop 8).take 5 = e.val.pv := by
      simp only [Ent.pv, List.drop_succ_cons, tm_drop_app]
      exact List.take_left' (tm_len _)
    have hl : 5 ≤ (e.pv.drop 8).length := by rw [List.length_drop, ent_len]; omega
    by_cases hk : e.kind = 2
    · have e1 : eValR e bys = atR e.params e.val bys := by unfold eValR; rw [if_pos hr, if_pos hk]
      rw [e1]
      have c2 := refAt11_p e e.val bys
      generalize atR e.params e.val bys = r at c2 ⊢
      obtain ⟨o, n⟩ := r
      simp only [errT] at c2 ⊢
      have hkt : e.pv.take 1 = [.sc (.int .i64 2)] := by rw [← hk]; rfl
      clear e1 hr
      repeat' (first | ((with_reducible first | refine wA (by omega) ?_ | refine wB (by omega) ?_ | refine wC (by omega) ?_ | refine wD (by omega) ?_ | refine wE ?_ ?_ | refine wF ?_ ?_ | refine wG ?_ ?_ | refine wH ?_ ?_ | refine wI ?_ ?_ | refine wJ ?_ ?_ | refine wK ?_ ?_ | refine wL ?_ ?_) <;> intro _) | (((with_reducible refine call_id ?_); (first | (refine call_pure (c1) ?_) | (refine call_pure (c2) ?_)))) | simp (maxSteps := 1000000) (disch := omega) only [go_sem, Nat.reduceAdd, Nat.reduceMul, Nat.reduceSub, Nat.reduceLeDiff, Nat.reduceEqDiff, Nat.reduceBEq, ↓reduceIte, reduceCtorEq, Int.reduceEq, Int.reduceLE, Int.reduceLT, Int.reduceAdd, Int.reduceSub, Int.reduceNeg, Int.reduceToNat, Int.reduceNe, Nat.reducePow, Nat.reduceShiftRight, Nat.reduceMod, mc_ref11_Value, hd, *])
      all_goals
        refine fin_ret (r0 := .tup [.agg (optC o), .sc (.int .i64 n)]) 1 cE2 ?_
        exact .of_eq (by simp [frz])
    · have e1 : eValR e bys = (none, 13) := by unfold eValR; rw [if_pos hr, if_neg hk]
      simp only [e1, errT, optC]
      have hkt : e.pv.take 1 = [.sc (.int .i64 e.kind)] := rfl
      clear e1 hr
      repeat' (first | ((with_reducible first | refine wA (by omega) ?_ | refine wB (by omega) ?_ | refine wC (by omega) ?_ | refine wD (by omega) ?_ | refine wE ?_ ?_ | refine wF ?_ ?_ | refine wG ?_ ?_ | refine wH ?_ ?_ | refine wI ?_ ?_ | refine wJ ?_ ?_ | refine wK ?_ ?_ | refine wL ?_ ?_) <;> intro _) | (((with_reducible refine call_id ?_); (first | (refine call_pure (c1) ?_)))) | simp (maxSteps := 1000000) (disch := omega) only [go_sem, Nat.reduceAdd, Nat.reduceMul, Nat.reduceSub, Nat.reduceLeDiff, Nat.reduceEqDiff, Nat.reduceBEq, ↓reduceIte, reduceCtorEq, Int.reduceEq, Int.reduceLE, Int.reduceLT, Int.reduceAdd, Int.reduceSub, Int.reduceNeg, Int.reduceToNat, Int.reduceNe, Nat.reducePow, Nat.reduceShiftRight, Nat.reduceMod, mc_ref11_Value, *])
      all_goals
        refine fin_ret (r0 := .tup [.agg [.sc (.int .i64 0), .sc (.int .i64 0), .sc (.string ⟨#[]⟩), .sc (.slice none 0 0), .sc (.slice none 0 0)], .sc (.int .i64 13)]) 2 cE2 ?_
        exact .of_eq (by simp [frz, frz_sc])
theorem noS_emp : noS emp = true := by kernel_rfl
theorem formed_ent {d : Dcl} (h : Int) (hf : d.formed = true) (h5 : d.kind ≠ 5) : (d.ent h).right = if d.kind = 2 then spanA h 1 1048576 else true := by
  simp only [Dcl.formed, Bool.and_eq_true, decide_eq_true_eq] at hf
  obtain ⟨h0, h4, hn, ht, hv⟩ := hf
  have hk : 1 ≤ d.kind ∧ d.kind ≤ 4 := by
    by_cases k1 : d.kind = 1
    · omega
    · rw [if_neg k1] at hv
      by_cases k2 : d.kind = 2 ∨ d.kind = 3 ∨ d.kind = 4
      · omega
      · rw [if_neg k2, if_neg h5] at hv
        cases hv
  have hval : valueB (d.ent h) = true := by
    unfold valueB
    show (if d.kind = 2 ∨ d.kind = 3 ∨ d.kind = 4 then d.val.right d.params 0 else if d.kind = 6 then noughtB d.val || d.val.right (min (d.params + 1) 4) 0 else noughtB d.val) = true
    by_cases k1 : d.kind = 1
    · rw [if_neg (by omega), if_neg (by omega)]
      rw [if_pos k1, Bool.and_eq_true] at hv
      exact hv.1
    · have k2 : d.kind = 2 ∨ d.kind = 3 ∨ d.kind = 4 := by omega
      rw [if_pos k2]
      rw [if_neg k1, if_pos k2, Bool.and_eq_true] at hv
      exact hv.1
  have hfam : familyB (d.ent h) = true := by
    unfold familyB
    have e1 : most1 (d.ent h).kind = 0 := by
      show (if d.kind = 6 ∨ d.kind = 7 then (32 : Int) else if d.kind = 5 then 16 else 0) = 0
      rw [if_neg (by omega), if_neg h5]
    have e2 : most2 (d.ent h).kind = 0 := by
      show (if d.kind = 6 ∨ d.kind = 7 then (32 : Int) else 0) = 0
      rw [if_neg (by omega)]
    rw [e1, e2]
    show (spanB 0 0 && (spanB 0 0 && spanB 0 0) && (if d.kind = 6 ∨ d.kind = 7 then nameB emp else noS emp)) = true
    rw [if_neg (by omega), noS_emp]
    rfl
  have hct : ctorsB (d.ent h) = true := by
    unfold ctorsB
    show (if d.kind = 5 ∨ d.kind = 7 then decide (([] : List ByteArray).length ≤ 8) && ([] : List ByteArray).all nameB else decide (([] : List ByteArray).length = 0)) = true
    rw [if_neg (by omega)]
    rfl
  have hh : heightB (d.ent h) = if d.kind = 2 then spanA h 1 1048576 else true := by
    unfold heightB
    show (if d.kind = 2 then decide (1 ≤ (if d.kind = 2 then h else 0)) && decide ((if d.kind = 2 then h else 0) ≤ 1048576) else decide ((if d.kind = 2 then h else 0) = 0)) = _
    by_cases k : d.kind = 2
    · simp only [if_pos k]; rfl
    · simp only [if_neg k]; rfl
  simp only [Ent.right, hval, hfam, hct, hh]
  show (decide (1 ≤ d.kind) && (decide (d.kind ≤ 7) && (nameB d.name && (decide (0 ≤ d.params) && (decide (d.params ≤ 4) && (d.typ.right d.params 0 && (true && ((if d.kind = 2 then spanA h 1 1048576 else true) && (true && true))))))))) = _
  rw [decide_eq_true (show 1 ≤ d.kind by omega), decide_eq_true (show d.kind ≤ 7 by omega), hn, decide_eq_true h0, decide_eq_true h4, ht]
  simp
end
section
set_option maxRecDepth 20000
attribute [local go_sem] pv_len pv_take Nat.add_assoc tm_len tm_take pv_one tm_one id_ne id_ne' id_ne2 List.append_assoc tm_take_app tm_drop_app tm_d6 tm_d7 tm_d8 tm_d9 tm_d10 tm_d11 tm_d12 tm_d13 tm_d14 tm_d15 ent_len ent_take ent_one tpvB_len tpvB_take tpvB_one dcl_len dcl_take dcl_one
set_option maxHeartbeats 16000000 in
theorem refPlain11_p (d : Dcl) (h : Int) (h1 : d.typ.nodes ≤ 2 ^ 40) (h2 : d.val.nodes ≤ 2 ^ 40) : PPure Tryz.prog F.ref11_Plain [.agg d.pv, .sc (.int .i64 h)] (.tup [.agg (d.plainE h).pv, .sc (.int .i64 (d.plainN h))]) := by
  refine pure_by is_ref11_Plain (by simp) (by simp [PV.imm, immL, ent_imm]) fun hb nx => ?_
  clear hb
  have c1 := Formed08_p d
  have c2 := CopyTerm_p _ d.typ (Nat.le_refl _) h1
  have c3 := CopyTerm_p _ d.val (Nat.le_refl _) h2
  have c4 := span11_p h 1 1048576
  have hw := newEnt_weak (d.ent h) rfl
  have hfe : d.formed = true → d.kind ≠ 5 → (d.ent h).right = if d.kind = 2 then spanA h 1 1048576 else true := formed_ent h
  simp only [Dcl.plainE, Dcl.plainN]
  clear h1 h2
  have hz := noEnt_weak
  cases hf : d.formed with
  | false =>
    rw [hf] at c1
    rw [if_pos (.inr rfl), if_pos (.inr rfl)]
    clear hfe hf
    obtain ⟨kind, params, name, typ, val, fixed, ctors⟩ := d
    simp only [Dcl.pv] at c1 ⊢
    repeat' (first | ((with_reducible first | refine wA (by omega) ?_ | refine wB (by omega) ?_ | refine wC (by omega) ?_ | refine wD (by omega) ?_ | refine wE ?_ ?_ | refine wF ?_ ?_ | refine wG ?_ ?_ | refine wH ?_ ?_ | refine wI ?_ ?_ | refine wJ ?_ ?_ | refine wK ?_ ?_ | refine wL ?_ ?_) <;> intro _) | (((with_reducible refine call_id ?_); (first | (refine call_pure (c1) ?_)))) | simp (maxSteps := 1000000) (disch := omega) only [go_sem, Nat.reduceAdd, Nat.reduceMul, Nat.reduceSub, Nat.reduceLeDiff, Nat.reduceEqDiff, Nat.reduceBEq, ↓reduceIte, reduceCtorEq, Int.reduceEq, Int.reduceLE, Int.reduceLT, Int.reduceAdd, Int.reduceSub, Int.reduceNeg, Int.reduceToNat, Int.reduceNe, Nat.reducePow, Nat.reduceShiftRight, Nat.reduceMod, mc_ref11_Plain, tm_t12, tm_t7, *])
    refine fin_ret (r0 := .tup [.agg [.sc (.int .i64 0), .sc (.int .i64 0), .sc (.string ⟨#[]⟩), .sc (.int .i64 0), .sc (.int .i64 0), .sc (.string ⟨#[]⟩), .sc (.slice none 0 0), .sc (.slice none 0 0), .sc (.int .i64 0), .sc (.int .i64 0), .sc (.string ⟨#[]⟩), .sc (.slice none 0 0), .sc (.slice none 0 0), .sc (.int .i64 0), .sc (.string ⟨#[]⟩), .sc (.int .i64 0), .sc (.int .i64 0), .sc (.int .i64 0), .sc (.slice none 0 0)], .sc (.int .i64 10)]) 1 cE2 ?_
    exact Weak.tup ⟨Weak.agg hz, .refl _, trivial⟩
  | true =>
  rw [hf] at c1
  by_cases h5 : d.kind = 5
  · rw [if_pos (.inl h5), if_pos (.inl h5)]
    clear hfe hf
    obtain ⟨kind, params, name, typ, val, fixed, ctors⟩ := d
    simp only at h5
    subst h5
    simp only [Dcl.pv] at c1 ⊢
    repeat' (first | ((with_reducible first | refine wA (by omega) ?_ | refine wB (by omega) ?_ | refine wC (by omega) ?_ | refine wD (by omega) ?_ | refine wE ?_ ?_ | refine wF ?_ ?_ | refine wG ?_ ?_ | refine wH ?_ ?_ | refine wI ?_ ?_ | refine wJ ?_ ?_ | refine wK ?_ ?_ | refine wL ?_ ?_) <;> intro _) | (((with_reducible refine call_id ?_); (first | (refine call_pure (c1) ?_)))) | simp (maxSteps := 1000000) (disch := omega) only [go_sem, Nat.reduceAdd, Nat.reduceMul, Nat.reduceSub, Nat.reduceLeDiff, Nat.reduceEqDiff, Nat.reduceBEq, ↓reduceIte, reduceCtorEq, Int.reduceEq, Int.reduceLE, Int.reduceLT, Int.reduceAdd, Int.reduceSub, Int.reduceNeg, Int.reduceToNat, Int.reduceNe, Nat.reducePow, Nat.reduceShiftRight, Nat.reduceMod, mc_ref11_Plain, tm_t12, tm_t7, *])
    refine fin_ret (r0 := .tup [.agg [.sc (.int .i64 0), .sc (.int .i64 0), .sc (.string ⟨#[]⟩), .sc (.int .i64 0), .sc (.int .i64 0), .sc (.string ⟨#[]⟩), .sc (.slice none 0 0), .sc (.slice none 0 0), .sc (.int .i64 0), .sc (.int .i64 0), .sc (.string ⟨#[]⟩), .sc (.slice none 0 0), .sc (.slice none 0 0), .sc (.int .i64 0), .sc (.string ⟨#[]⟩), .sc (.int .i64 0), .sc (.int .i64 0), .sc (.int .i64 0), .sc (.slice none 0 0)], .sc (.int .i64 10)]) 1 cE2 ?_
    exact Weak.tup ⟨Weak.agg hz, .refl _, trivial⟩
  · have hr := hfe hf h5
    have h5' : ¬ (d.kind = 5 ∨ true = false) := by simp [h5]
    rw [if_neg h5', if_neg h5', hr]
    clear hfe hf hr h5'
    obtain ⟨kind, params, name, typ, val, fixed, ctors⟩ := d
    simp only [Dcl.ent, Ent.pvN] at h5 c2 c3 hw ⊢
    simp only [Dcl.pv] at c1 ⊢
    by_cases h2 : kind = 2
    · subst h2
      simp only [if_true] at hw ⊢
      cases hs : spanA h 1 1048576 with
      | false =>
        rw [hs] at c4
        simp only [Bool.false_eq_true, if_false]
        clear hs
        repeat' (first | ((with_reducible first | refine wA (by omega) ?_ | refine wB (by omega) ?_ | refine wC (by omega) ?_ | refine wD (by omega) ?_ | refine wE ?_ ?_ | refine wF ?_ ?_ | refine wG ?_ ?_ | refine wH ?_ ?_ | refine wI ?_ ?_ | refine wJ ?_ ?_ | refine wK ?_ ?_ | refine wL ?_ ?_) <;> intro _) | (((with_reducible refine call_id ?_); (first | (refine call_pure (c1) ?_) | (refine call_pure (c4) ?_)))) | simp (maxSteps := 1000000) (disch := omega) only [go_sem, Nat.reduceAdd, Nat.reduceMul, Nat.reduceSub, Nat.reduceLeDiff, Nat.reduceEqDiff, Nat.reduceBEq, ↓reduceIte, reduceCtorEq, Int.reduceEq, Int.reduceLE, Int.reduceLT, Int.reduceAdd, Int.reduceSub, Int.reduceNeg, Int.reduceToNat, Int.reduceNe, Nat.reducePow, Nat.reduceShiftRight, Nat.reduceMod, mc_ref11_Plain, tm_t12, tm_t7, tm_t10, tm_t15, tm_t16, tm_t11, List.all_append, PV.one, *])
        refine fin_ret (r0 := .tup [.agg [.sc (.int .i64 0), .sc (.int .i64 0), .sc (.string ⟨#[]⟩), .sc (.int .i64 0), .sc (.int .i64 0), .sc (.string ⟨#[]⟩), .sc (.slice none 0 0), .sc (.slice none 0 0), .sc (.int .i64 0), .sc (.int .i64 0), .sc (.string ⟨#[]⟩), .sc (.slice none 0 0), .sc (.slice none 0 0), .sc (.int .i64 0), .sc (.string ⟨#[]⟩), .sc (.int .i64 0), .sc (.int .i64 0), .sc (.int .i64 0), .sc (.slice none 0 0)], .sc (.int .i64 12)]) 1 cE2 ?_
        exact Weak.tup ⟨Weak.agg hz, .refl _, trivial⟩
      | true =>
        rw [hs] at c4
        simp only [if_true]
        clear hs
        repeat' (first | ((with_reducible first | refine wA (by omega) ?_ | refine wB (by omega) ?_ | refine wC (by omega) ?_ | refine wD (by omega) ?_ | refine wE ?_ ?_ | refine wF ?_ ?_ | refine wG ?_ ?_ | refine wH ?_ ?_ | refine wI ?_ ?_ | refine wJ ?_ ?_ | refine wK ?_ ?_ | refine wL ?_ ?_) <;> intro _) | (((with_reducible refine call_id ?_); (first | (refine call_pure (c1) ?_) | (refine call_pure (c2) ?_) | (refine call_pure (c3) ?_) | (refine call_pure (c4) ?_)))) | simp (maxSteps := 1000000) (disch := omega) only [go_sem, Nat.reduceAdd, Nat.reduceMul, Nat.reduceSub, Nat.reduceLeDiff, Nat.reduceEqDiff, Nat.reduceBEq, ↓reduceIte, reduceCtorEq, Int.reduceEq, Int.reduceLE, Int.reduceLT, Int.reduceAdd, Int.reduceSub, Int.reduceNeg, Int.reduceToNat, Int.reduceNe, Nat.reducePow, Nat.reduceShiftRight, Nat.reduceMod, mc_ref11_Plain, tm_t12, tm_t7, tm_t10, tm_t15, tm_t16, tm_t11, List.all_append, PV.one, *])
        refine fin_ret (r0 := .tup [.agg (PV.sc (.int .i64 2) :: .sc (.int .i64 params) :: .sc (.string name) :: (typ.pv ++ (val.pv ++ [.sc (.int .i64 h), .sc (.string ⟨#[]⟩), .sc (.int .i64 0), .sc (.int .i64 0), .sc (.int .i64 0), .sc (.slice none 0 0)]))), .sc (.int .i64 0)]) 0 (by (simp (disch := omega) only [go_sem, Nat.reduceMul, Nat.reduceSub, Nat.reduceShiftRight, Nat.reduceMod, Nat.reduceEqDiff, Nat.reduceAdd, ↓reduceIte, Nat.reduceLeDiff, tm_t16, tm_t11, *]); all_goals rfl) ?_
        exact Weak.tup ⟨Weak.agg hw, .refl _, trivial⟩
    · simp only [h2, if_false, if_true] at hw ⊢
      repeat' (first | ((with_reducible first | refine wA (by omega) ?_ | refine wB (by omega) ?_ | refine wC (by omega) ?_ | refine wD (by omega) ?_ | refine wE ?_ ?_ | refine wF ?_ ?_ | refine wG ?_ ?_ | refine wH ?_ ?_ | refine wI ?_ ?_ | refine wJ ?_ ?_ | refine wK ?_ ?_ | refine wL ?_ ?_) <;> intro _) | (((with_reducible refine call_id ?_); (first | (refine call_pure (c1) ?_) | (refine call_pure (c2) ?_) | (refine call_pure (c3) ?_)))) | simp (maxSteps := 1000000) (disch := omega) only [go_sem, Nat.reduceAdd, Nat.reduceMul, Nat.reduceSub, Nat.reduceLeDiff, Nat.reduceEqDiff, Nat.reduceBEq, ↓reduceIte, reduceCtorEq, Int.reduceEq, Int.reduceLE, Int.reduceLT, Int.reduceAdd, Int.reduceSub, Int.reduceNeg, Int.reduceToNat, Int.reduceNe, Nat.reducePow, Nat.reduceShiftRight, Nat.reduceMod, mc_ref11_Plain, tm_t12, tm_t7, tm_t10, tm_t15, tm_t16, tm_t11, List.all_append, PV.one, *])
      refine fin_ret (r0 := .tup [.agg (PV.sc (.int .i64 kind) :: .sc (.int .i64 params) :: .sc (.string name) :: (typ.pv ++ (val.pv ++ [.sc (.int .i64 0), .sc (.string ⟨#[]⟩), .sc (.int .i64 0), .sc (.int .i64 0), .sc (.int .i64 0), .sc (.slice none 0 0)]))), .sc (.int .i64 0)]) 0 (by (simp (disch := omega) only [go_sem, Nat.reduceMul, Nat.reduceSub, Nat.reduceShiftRight, Nat.reduceMod, Nat.reduceEqDiff, Nat.reduceAdd, ↓reduceIte, Nat.reduceLeDiff, tm_t16, tm_t11, *]); all_goals rfl) ?_
      exact Weak.tup ⟨Weak.agg hw, .refl _, trivial⟩
end
section
mutual
theorem lv_same_self : ∀ l : Lv, l.same l = true
  | .mk k n args => by simp [Lv.same, lvs_same_self args]
theorem lvs_same_self : ∀ ls : List Lv, sameL ls ls = true
  | [] => rfl
  | x :: r => by simp [sameL, lv_same_self x, lvs_same_self r]
end
mutual
theorem tm_same_self : ∀ t : Tm, t.same t = true
  | .mk k n s ls args => by simp [Tm.same, lvs_same_self ls, tms_same_self args, sameB]
theorem tms_same_self : ∀ ts : List Tm, sameT ts ts = true
  | [] => rfl
  | x :: r => by simp [sameT, tm_same_self x, tms_same_self r]
end
mutual
theorem nodes_massD : ∀ t : Tm, t.nodes ≤ t.mass
  | .mk k n s ls args => by have := nodesT_massD args; simp only [Tm.nodes, Tm.mass]; omega
theorem nodesT_massD : ∀ ts : List Tm, nodesT ts ≤ massT ts
  | [] => Nat.le_refl _
  | t :: r => by have := nodes_massD t; have := nodesT_massD r; simp only [nodesT, massT]; omega
end
end
section
set_option maxRecDepth 20000
attribute [local go_sem] pv_len pv_take Nat.add_assoc tm_len tm_take pv_one tm_one id_ne id_ne' id_ne2 List.append_assoc tm_take_app tm_drop_app tm_d6 tm_d7 tm_d8 tm_d9 tm_d10 tm_d11 tm_d12 tm_d13 tm_d14 tm_d15 ent_len ent_take ent_one tpvB_len tpvB_take tpvB_one optC_len optC_take optC_one dcl_len dcl_take dcl_one entF_len entF_one
theorem entF_take (e : Ent) : e.pvF.take 19 = e.pvF := List.take_of_length_le (by rw [entF_len]; omega)
attribute [local go_sem] entF_take
theorem entF_pv (e : Ent) : WeakL e.pvF e.pv :=
  ⟨.refl _, .refl _, .refl _, WeakL.append (tm_weak true _) (WeakL.append (tm_weak true _) ⟨.refl _, .refl _, .refl _, .refl _, .refl _, .fsl 1 _, trivial⟩)⟩
theorem ent_same_self (e : Ent) : e.same e = true := by
  simp [Ent.same, Ent.numE, Ent.txtE, tm_same_self]
theorem sameOpt_p (o : Option Tm) : PPure Tryz.prog F.ref00_SameTerm [.agg (optC o), .agg (optC o)] (.sc (.bool true)) := by
  cases o with
  | some t =>
    have h := SameTerm_p t.size t t (Nat.le_refl _)
    rw [tm_same_self] at h
    exact h
  | none =>
    have h := SameTerm_p noTm.size noTm noTm (Nat.le_refl _)
    rw [tm_same_self] at h
    have hw : Weak (.agg (optC none)) (.agg noTm.pv) := by
      simp only [optC, noTm, Tm.pv, List.map_nil]
      exact Weak.agg ⟨.refl _, .refl _, .refl _, .nil 3, .nil 5, trivial⟩
    exact h.weak ⟨hw, hw, trivial⟩ (.refl _)
theorem ent_great_no {e : Ent} (h : e.great = false) : e.typ.nodes ≤ 2 ^ 40 ∧ e.val.nodes ≤ 2 ^ 40 ∧ e.ctors.length ≤ 2 ^ 40 := by
  simp only [Ent.great, decide_eq_false_iff_not, not_or] at h
  have h1 := nodes_massD e.typ
  have h2 := nodes_massD e.val
  omega
theorem dcl_great_noZ {d : Dcl} (h : d.great = false) : d.typ.nodes ≤ 2 ^ 40 ∧ d.val.nodes ≤ 2 ^ 40 := by
  simp only [Dcl.great, decide_eq_false_iff_not, not_or] at h
  have h1 := nodes_massD d.typ
  have h2 := nodes_massD d.val
  have h3 := h.2
  simp only [Dcl.mass] at h3
  omega
set_option maxHeartbeats 40000000 in
theorem declAnswers_core (ha : PPure Tryz.prog F.law11_alive [] (.sc (.bool true))) (e other : Ent) (d : Dcl) (h : Int) (ls : List Lv) (he1 : e.typ.fits) (he2 : e.val.fits) (ho1 : other.typ.fits) (ho2 : other.val.fits) (hd : d.fits) :
    PPure Tryz.prog F.law11_DeclAnswers [.agg e.pv, .agg other.pv, .agg d.pv, .sc (.int .i64 h), .sl 3 (ls.map Lv.pv)] (.sc (.bool true)) := by
  refine pure_by is_law11_DeclAnswers (by simp) rfl fun hb nx => ?_
  clear hb
  have g1 := great11_p e he1 he2
  have g2 := great11_p other ho1 ho2
  have g3 := great08_p d hd
  have g4 := greatLevels11_p ls
  clear he1 he2 ho1 ho2 hd
  cases hg1 : e.great with
  | true =>
    rw [hg1] at g1
    clear hg1
    repeat' (first | ((with_reducible first | refine wA (by omega) ?_ | refine wB (by omega) ?_ | refine wC (by omega) ?_ | refine wD (by omega) ?_ | refine wE ?_ ?_ | refine wF ?_ ?_ | refine wG ?_ ?_ | refine wH ?_ ?_ | refine wI ?_ ?_ | refine wJ ?_ ?_ | refine wK ?_ ?_ | refine wL ?_ ?_) <;> intro _) | (((with_reducible refine call_id ?_); (first | (refine call_pure (ha) ?_) | (refine call_pure (g1) ?_)))) | simp (maxSteps := 1000000) (disch := omega) only [go_sem, Nat.reduceAdd, Nat.reduceMul, Nat.reduceSub, Nat.reduceLeDiff, Nat.reduceEqDiff, Nat.reduceBEq, ↓reduceIte, reduceCtorEq, Int.reduceEq, Int.reduceLE, Int.reduceLT, Int.reduceAdd, Int.reduceSub, Int.reduceNeg, Int.reduceToNat, Int.reduceNe, Nat.reducePow, Nat.reduceShiftRight, Nat.reduceMod, mc_law11_DeclAnswers, *])
    all_goals (exact fin_tmp (.inr rfl) cE3)
  | false =>
  cases hg2 : other.great with
  | true =>
    rw [hg1] at g1
    rw [hg2] at g2
    clear hg1 hg2
    repeat' (first | ((with_reducible first | refine wA (by omega) ?_ | refine wB (by omega) ?_ | refine wC (by omega) ?_ | refine wD (by omega) ?_ | refine wE ?_ ?_ | refine wF ?_ ?_ | refine wG ?_ ?_ | refine wH ?_ ?_ | refine wI ?_ ?_ | refine wJ ?_ ?_ | refine wK ?_ ?_ | refine wL ?_ ?_) <;> intro _) | (((with_reducible refine call_id ?_); (first | (refine call_pure (ha) ?_) | (refine call_pure (g1) ?_) | (refine call_pure (g2) ?_)))) | simp (maxSteps := 1000000) (disch := omega) only [go_sem, Nat.reduceAdd, Nat.reduceMul, Nat.reduceSub, Nat.reduceLeDiff, Nat.reduceEqDiff, Nat.reduceBEq, ↓reduceIte, reduceCtorEq, Int.reduceEq, Int.reduceLE, Int.reduceLT, Int.reduceAdd, Int.reduceSub, Int.reduceNeg, Int.reduceToNat, Int.reduceNe, Nat.reducePow, Nat.reduceShiftRight, Nat.reduceMod, mc_law11_DeclAnswers, *])
    all_goals (exact fin_tmp (.inr rfl) cE3)
  | false =>
  cases hg3 : d.great with
  | true =>
    rw [hg1] at g1
    rw [hg2] at g2
    rw [hg3] at g3
    clear hg1 hg2 hg3
    repeat' (first | ((with_reducible first | refine wA (by omega) ?_ | refine wB (by omega) ?_ | refine wC (by omega) ?_ | refine wD (by omega) ?_ | refine wE ?_ ?_ | refine wF ?_ ?_ | refine wG ?_ ?_ | refine wH ?_ ?_ | refine wI ?_ ?_ | refine wJ ?_ ?_ | refine wK ?_ ?_ | refine wL ?_ ?_) <;> intro _) | (((with_reducible refine call_id ?_); (first | (refine call_pure (ha) ?_) | (refine call_pure (g1) ?_) | (refine call_pure (g2) ?_) | (refine call_pure (g3) ?_)))) | simp (maxSteps := 1000000) (disch := omega) only [go_sem, Nat.reduceAdd, Nat.reduceMul, Nat.reduceSub, Nat.reduceLeDiff, Nat.reduceEqDiff, Nat.reduceBEq, ↓reduceIte, reduceCtorEq, Int.reduceEq, Int.reduceLE, Int.reduceLT, Int.reduceAdd, Int.reduceSub, Int.reduceNeg, Int.reduceToNat, Int.reduceNe, Nat.reducePow, Nat.reduceShiftRight, Nat.reduceMod, mc_law11_DeclAnswers, *])
    all_goals (exact fin_tmp (.inr rfl) cE3)
  | false =>
  cases hg4 : greatL ls with
  | true =>
    rw [hg1] at g1
    rw [hg2] at g2
    rw [hg3] at g3
    rw [hg4] at g4
    clear hg1 hg2 hg3 hg4
    repeat' (first | ((with_reducible first | refine wA (by omega) ?_ | refine wB (by omega) ?_ | refine wC (by omega) ?_ | refine wD (by omega) ?_ | refine wE ?_ ?_ | refine wF ?_ ?_ | refine wG ?_ ?_ | refine wH ?_ ?_ | refine wI ?_ ?_ | refine wJ ?_ ?_ | refine wK ?_ ?_ | refine wL ?_ ?_) <;> intro _) | (((with_reducible refine call_id ?_); (first | (refine call_pure (ha) ?_) | (refine call_pure (g1) ?_) | (refine call_pure (g2) ?_) | (refine call_pure (g3) ?_) | (refine call_pure (g4) ?_)))) | simp (maxSteps := 1000000) (disch := omega) only [go_sem, Nat.reduceAdd, Nat.reduceMul, Nat.reduceSub, Nat.reduceLeDiff, Nat.reduceEqDiff, Nat.reduceBEq, ↓reduceIte, reduceCtorEq, Int.reduceEq, Int.reduceLE, Int.reduceLT, Int.reduceAdd, Int.reduceSub, Int.reduceNeg, Int.reduceToNat, Int.reduceNe, Nat.reducePow, Nat.reduceShiftRight, Nat.reduceMod, mc_law11_DeclAnswers, *])
    all_goals (exact fin_tmp (.inr rfl) cE3)
  | false =>
  obtain ⟨n1, n2, n3⟩ := ent_great_no hg1
  obtain ⟨m1, m2⟩ := dcl_great_noZ hg3
  rw [hg1] at g1
  rw [hg2] at g2
  rw [hg3] at g3
  rw [hg4] at g4
  clear hg1 hg2 hg3 hg4
  have c1 := eClone_p e n1 n2 n3
  have c2 := Plain_p d h m1 m2
  have c3 := refPlain11_p d h m1 m2
  have c4 : PPure Tryz.prog F.decl_Type [.agg e.pvF, .sl 3 (ls.map Lv.pv)] (errT (typeR e ls)) := (Type_p e ls).weak ⟨Weak.agg (entF_pv e), .refl _, trivial⟩ (.refl _)
  have c5 := refType11_p e ls
  have c6 : PPure Tryz.prog F.decl_Value [.agg e.pvF, .sl 3 (ls.map Lv.pv)] (errT (eValR e ls)) := (eValue_p e ls).weak ⟨Weak.agg (entF_pv e), .refl _, trivial⟩ (.refl _)
  have c7 := refValue11_p e ls
  have c8 := SameEntry_p (d.plainE h) (d.plainE h)
  rw [ent_same_self] at c8
  have c11 : PPure Tryz.prog F.decl_Right [.agg e.pvF] (.sc (.bool e.right)) := (eRight_p e).weak ⟨Weak.agg (entF_pv e), trivial⟩ (.refl _)
  have c12 := refRight11_p e
  have c13 : PPure Tryz.prog F.decl_Unfolds [.agg e.pvF] (.sc (.bool (decide (e.kind = 2) && e.right))) := (unfolds_p e).weak ⟨Weak.agg (entF_pv e), trivial⟩ (.refl _)
  have c14 : PPure Tryz.prog F.decl_Same [.agg e.pvF, .agg other.pv] (.sc (.bool (e.same other))) := by
    have h := eSame_p e other true false rfl
    rw [entB_false] at h
    exact h.weak ⟨Weak.agg (entF_weak e), .refl _, trivial⟩ (.refl _)
  have c15 := SameEntry_p e other
  have c16 : PPure Tryz.prog F.ref00_SameEntry [.agg e.pvF, .agg e.pv] (.sc (.bool true)) := by
    have h := SameEntry_p e e
    rw [ent_same_self] at h
    exact h.weak ⟨Weak.agg (entF_pv e), .refl _, trivial⟩ (.refl _)
  have hkt : e.pv.take 1 = [.sc (.int .i64 e.kind)] := rfl
  have hE1 := ent_len (d.plainE h)
  clear n1 n2 n3 m1 m2
  generalize d.plainE h = pe at c2 c3 c8 hE1
  generalize d.plainN h = pn at c2 c3
  generalize typeR e ls = r1 at c4 c5
  generalize eValR e ls = r2 at c6 c7
  obtain ⟨o1, x1⟩ := r1
  obtain ⟨o2, x2⟩ := r2
  have c9 := sameOpt_p o1
  have c10 := sameOpt_p o2
  simp only [errT] at c4 c5 c6 c7
  generalize e.same other = bs at c14 c15
  generalize e.right = br at c11 c12 c13
  generalize hkk : decide (e.kind = 2) = kb at c13
  have hkd : e.kind = 2 ∧ kb = true ∨ e.kind ≠ 2 ∧ kb = false := by
    by_cases k : e.kind = 2
    · exact .inl ⟨k, by rw [← hkk]; exact decide_eq_true k⟩
    · exact .inr ⟨k, by rw [← hkk]; exact decide_eq_false k⟩
  clear hkk
  rcases hkd with ⟨hk, rfl⟩ | ⟨hk, rfl⟩
  all_goals
    cases br
    all_goals
      cases bs
      all_goals
        simp only [Bool.and_true, Bool.and_false, Bool.true_and, Bool.false_and] at c13
        repeat' (first | ((with_reducible first | refine wA (by omega) ?_ | refine wB (by omega) ?_ | refine wC (by omega) ?_ | refine wD (by omega) ?_ | refine wE ?_ ?_ | refine wF ?_ ?_ | refine wG ?_ ?_ | refine wH ?_ ?_ | refine wI ?_ ?_ | refine wJ ?_ ?_ | refine wK ?_ ?_ | refine wL ?_ ?_) <;> intro _) | (((with_reducible refine call_id ?_); (first | (refine call_pure (ha) ?_) | (refine call_pure (g1) ?_) | (refine call_pure (g2) ?_) | (refine call_pure (g3) ?_) | (refine call_pure (g4) ?_) | (refine call_pure (c1) ?_) | (refine call_pure (c2) ?_) | (refine call_pure (c3) ?_) | (refine call_pure (c4) ?_) | (refine call_pure (c5) ?_) | (refine call_pure (c6) ?_) | (refine call_pure (c7) ?_) | (refine call_pure (c8) ?_) | (refine call_pure (c9) ?_) | (refine call_pure (c10) ?_) | (refine call_pure (c11) ?_) | (refine call_pure (c12) ?_) | (refine call_pure (c13) ?_) | (refine call_pure (c14) ?_) | (refine call_pure (c15) ?_) | (refine call_pure (c16) ?_)))) | simp (maxSteps := 1000000) (disch := omega) only [go_sem, Nat.reduceAdd, Nat.reduceMul, Nat.reduceSub, Nat.reduceLeDiff, Nat.reduceEqDiff, Nat.reduceBEq, ↓reduceIte, reduceCtorEq, Int.reduceEq, Int.reduceLE, Int.reduceLT, Int.reduceAdd, Int.reduceSub, Int.reduceNeg, Int.reduceToNat, Int.reduceNe, Nat.reducePow, Nat.reduceShiftRight, Nat.reduceMod, mc_law11_DeclAnswers, bq1, bq2, Bool.not_true, Bool.not_false, *])
        all_goals (exact fin_tmp (.inr rfl) cE3)
theorem DeclAnswers_p (e other : {e : Ent // e.typ.fits ∧ e.val.fits}) (d : {d : Dcl // d.fits}) (h : Int) (ls : List Lv) :
    PPure Tryz.prog F.law11_DeclAnswers [.agg e.1.pv, .agg other.1.pv, .agg d.1.pv, .sc (.int .i64 h), .sl 3 (ls.map Lv.pv)] (.sc (.bool true)) :=
  declAnswers_core alive11_p e.1 other.1 d.1 h ls e.2.1 e.2.2 other.2.1 other.2.2 d.2
end
end Go.Proofs.YtnoilfjeamffnaaGreat
