/-
  Plain values: TmD, TmE, TmH, TmF, TmI, LvV, LvW, TmP, TmC, TmK, TmL, TmM, TmN, TmO, TmQ, TmR, TnP, TnQ, TmW, TmS, TmU, TmT, TmG, TmV, TmX, TmY, TmZ, Tm1, LvM, TnA, TnB, Tm2.
-/
import Derived.Lib.SlicesS
import Derived.RangeFuncKeeps
import Derived.RangeFuncBound
import Derived.RangeFuncLeaves
import Derived.TacticsInMore
import Derived.Laws.Strings
import Derived.Test.YtfhblaggeahbjaaXNa
import Derived.Test.YtfhblaggeahbjaaXNb
import Derived.Test.YtfhblaggeahbjaaXNc
set_option linter.unusedVariables false
set_option linter.unusedSimpArgs false
namespace Go.Proofs.Ytfhblaggeahbjaa
open Go.RowKit
attribute [local go_sem ↓] c_seq c_region c_cond c_block c_ret c_skip c_exit c_cont t_normal t_ret t_exit b_normal b_ret b_exit run_nil run_cons g_some o_mv o_pick o_bin o_un o_ld o_ldf o_bld o_len o_mkf o_nilc o_fa o_fd o_ia o_iaa o_ix o_ixs o_ext o_al o_bxf o_bxt o_bsl o_bslf o_mks o_st o_stf o_call o_rng o_nxt o_callm o_calvm o_calv cond_true cond_false upd_get sigF_cons o_eqa o_mm o_app o_slc
attribute [local go_sem] num_nil num_cons isP chunks rngV next_is next_iter val_some new_some st_some stf_some guard_tt guard_ff guard_tf guard_ft guard_un calv_fn put_some put_none ev_tmp ev_const ev_func sig_eq sigF_nil q0 q1 nilcV faV fdV iaV iaaV ixV ixsV extV mksV loadP storeP lenPV binPV unPV intBin partsP fillP zeros PV.good PV.cellsOf PV.one q2 q3 q4 q5 q6 q7 q8 q9 q10 q11 q12 q13 q14 q15 q16 q17 q18 q19 q20 q21 q22 q23 q24 q25 q26 q27 q28 q29 q30 q31 q32 q33 q34 q35 q36 q37 q38 wrap64 app_some mmL mmV mm2 eqE eqParts eqInt eqBool eqStr partV q39 q40 pickV q41 q42 q43 q44 q45 q46 q47 q48 q49 appE oldOf rowOf updL q50 q51 q52 q53 zlt ovr_get ite_neN ite_eqN q54 q55 q56 q57 q58 q59 q60 q61 q62 q63 q64 q65 q66 q67 tailP_f tailP_t tailF_f tailF_t slcP bndO capO slcLen intOf Option.isSome_none Option.isNone_none Option.isSome_some Option.isNone_some nilP slc_sl slc_csl slc_osl slc_osl0 slc_ocap slc_str List.append_nil List.length_append resP resPs resP1 PV.sc.injEq Value.bool.injEq Value.int.injEq
section
set_option maxRecDepth 20000
attribute [local go_sem] pv_len pv_take Nat.add_assoc tm_len tm_take
theorem all_nil {ls : List Lv} (np : Int) (h : ls.length = 0) : ls.all (Lv.right np) = true := by
  obtain rfl : ls = [] := List.eq_nil_of_length_eq_zero h
  rfl
theorem formed_levels (np k kind n : Int) (s : ByteArray) (ls : List Lv) (args : List Tm) (h : ls.all (Lv.right np) = false) : (Tm.mk kind n s ls args).formed np k = false := by
  have h0 : ls.length ≠ 0 := fun h0 => by rw [all_nil np h0] at h; exact absurd h (by decide)
  have h1 : (ls.length == 1 && headR np ls) = false := by
    match ls, h with
    | [], _ => rfl
    | [l], h => simp only [List.all_cons, List.all_nil, Bool.and_true] at h; simp [headR, h]
    | _ :: _ :: _, _ => simp
  have h2 : ∀ a c, hasB n s ls args a 0 c = false := fun a c => by simp [hasB, h0]
  have h3 : (hasB n s ls args 0 1 0 && headR np ls) = false := by
    by_cases h : ls.length = 1
    · rw [h] at h1; simp at h1; simp [h1]
    · have : ¬ (ls.length : Int) = 1 := by omega
      simp [hasB, this]
  simp only [Tm.formed, h2, h3, constB, h]
  simp
set_option maxHeartbeats 16000000 in
theorem ref04_right_p (np : Int) : ∀ (fuel : Nat) (t : Tm) (k : Int), t.size ≤ fuel → 0 ≤ k → k + t.size ≤ 2 ^ 60 → PPure Try.prog F.ref04_right [.agg t.pv, .sc (.int .i64 np), .sc (.int .i64 k)] (.sc (.bool (t.formed np k))) := by
  intro fuel
  induction fuel with
  | zero => intro t k h; have := size_pos t; omega
  | succ fuel ih =>
    intro t k hf h0 h1
    cases t with
    | mk kind n s ls args =>
    simp only [Tm.size] at hf h1
    refine pure_by is_ref04_right (by simp) rfl fun hb nx => ?_
    have hb0 : ls.length ≤ 9223372036854775807 ∧ args.length ≤ 9223372036854775807 := by simp [Tm.pv, bndL, PV.bnd] at hb; exact ⟨hb.1.1, hb.2.1⟩
    repeat' (first | ((with_reducible first | refine cond_pos (by omega) ?_ | refine cond_neg (by omega) ?_ | refine guard_pos (by omega) ?_ | refine guard_neg (by omega) ?_ | refine cond_ifn ?_ ?_ | refine cond_waysn ?_ ?_ | refine guard_ifn ?_ ?_ | refine guard_waysn ?_ ?_ | refine cond_if ?_ ?_ | refine cond_ways ?_ ?_ | refine guard_if ?_ ?_ | refine guard_ways ?_ ?_) <;> intro _) | simp (maxSteps := 1000000) (disch := omega) only [go_sem, Nat.reduceAdd, Nat.reduceMul, Nat.reduceSub, Nat.reduceLeDiff, Nat.reduceEqDiff, Nat.reduceBEq, ↓reduceIte, reduceCtorEq, Int.reduceEq, Int.reduceLE, Int.reduceLT, Int.reduceAdd, Int.reduceSub, Int.reduceNeg, Int.reduceToNat, Int.reduceNe, Nat.reducePow, Nat.reduceShiftRight, Nat.reduceMod, mc_ref04_right, Tm.pv, *])
    refine c_loopW 134213824 (by kernel_rfl) (fun j f H m => ∃ i : Nat, j = ls.length - i ∧ i ≤ ls.length ∧ f 7 = .sc (.int .i64 i) ∧ (ls.take i).all (Lv.right np) = true) _ ⟨0, rfl, (by first | assumption | omega | rfl | (simp (disch := omega) only [go_sem, Nat.reduceMul, Nat.reduceSub, Nat.reduceShiftRight, Nat.reduceMod, Nat.reduceEqDiff, Nat.reduceAdd, ↓reduceIte, Nat.reduceLeDiff, *] <;> omega)), (by first | assumption | omega | rfl | (simp (disch := omega) only [go_sem, Nat.reduceMul, Nat.reduceSub, Nat.reduceShiftRight, Nat.reduceMod, Nat.reduceEqDiff, Nat.reduceAdd, ↓reduceIte, Nat.reduceLeDiff, *] <;> omega)), rfl⟩ ?_
    rintro _ f H m ⟨i, rfl, hi, e7, hall⟩
    by_cases hlt : i < ls.length
    · have eg : ls[i]? = some ls[i] := List.getElem?_eq_getElem hlt
      have ht := all_right_take np ls i hlt
      have hq := all_right_false np ls i hlt
      clear ih
      repeat' (first | ((with_reducible first | refine cond_pos (by omega) ?_ | refine cond_neg (by omega) ?_ | refine guard_pos (by omega) ?_ | refine guard_neg (by omega) ?_ | refine cond_ifn ?_ ?_ | refine cond_waysn ?_ ?_ | refine guard_ifn ?_ ?_ | refine guard_waysn ?_ ?_ | refine cond_if ?_ ?_ | refine cond_ways ?_ ?_ | refine guard_if ?_ ?_ | refine guard_ways ?_ ?_) <;> intro _) | (((with_reducible refine call_id ?_); (first | (refine call_pure (ref_Right_p ls[i] np) ?_)))) | simp (maxSteps := 1000000) (disch := omega) only [go_sem, Nat.reduceAdd, Nat.reduceMul, Nat.reduceSub, Nat.reduceLeDiff, Nat.reduceEqDiff, Nat.reduceBEq, ↓reduceIte, reduceCtorEq, Int.reduceEq, Int.reduceLE, Int.reduceLT, Int.reduceAdd, Int.reduceSub, Int.reduceNeg, Int.reduceToNat, Int.reduceNe, Nat.reducePow, Nat.reduceShiftRight, Nat.reduceMod, Tm.pv, *])
      · rename_i h
        have hff := formed_levels np k kind n s ls args (hq h)
        clear hq ht
        refine fin_tmp (.inr rfl) ?_
        simp [upd, hff]
      · rename_i h
        refine Nx.mk (ls.length - (i + 1)) (by first | assumption | omega | rfl | (simp (disch := omega) only [go_sem, Nat.reduceMul, Nat.reduceSub, Nat.reduceShiftRight, Nat.reduceMod, Nat.reduceEqDiff, Nat.reduceAdd, ↓reduceIte, Nat.reduceLeDiff, *] <;> omega)) ⟨i + 1, (by first | assumption | omega | rfl | (simp (disch := omega) only [go_sem, Nat.reduceMul, Nat.reduceSub, Nat.reduceShiftRight, Nat.reduceMod, Nat.reduceEqDiff, Nat.reduceAdd, ↓reduceIte, Nat.reduceLeDiff, *] <;> omega)), (by first | assumption | omega | rfl | (simp (disch := omega) only [go_sem, Nat.reduceMul, Nat.reduceSub, Nat.reduceShiftRight, Nat.reduceMod, Nat.reduceEqDiff, Nat.reduceAdd, ↓reduceIte, Nat.reduceLeDiff, *] <;> omega)), (by first | assumption | omega | rfl | (simp (disch := omega) only [go_sem, Nat.reduceMul, Nat.reduceSub, Nat.reduceShiftRight, Nat.reduceMod, Nat.reduceEqDiff, Nat.reduceAdd, ↓reduceIte, Nat.reduceLeDiff, *] <;> omega)), by rw [ht, hall, h]; rfl⟩
    · obtain rfl : i = ls.length := by omega
      rw [List.take_length] at hall
      have hall' := Kept.mk hall
      clear hall
      have hal := hall'.out
      have hh : ls.length = 1 → headR np ls = true := fun h => by
        match ls, h, hal with
        | [l], _, h => simpa [headR] using h
      clear hal
      by_cases k1 : kind = 1
      · subst k1
        clear ih hh
        repeat' (first | ((with_reducible first | refine cond_pos (by omega) ?_ | refine cond_neg (by omega) ?_ | refine guard_pos (by omega) ?_ | refine guard_neg (by omega) ?_ | refine cond_ifn ?_ ?_ | refine cond_waysn ?_ ?_ | refine guard_ifn ?_ ?_ | refine guard_waysn ?_ ?_ | refine cond_if ?_ ?_ | refine cond_ways ?_ ?_ | refine guard_if ?_ ?_ | refine guard_ways ?_ ?_) <;> intro _) | simp (maxSteps := 1000000) (disch := omega) only [go_sem, Nat.reduceAdd, Nat.reduceMul, Nat.reduceSub, Nat.reduceLeDiff, Nat.reduceEqDiff, Nat.reduceBEq, ↓reduceIte, reduceCtorEq, Int.reduceEq, Int.reduceLE, Int.reduceLT, Int.reduceAdd, Int.reduceSub, Int.reduceNeg, Int.reduceToNat, Int.reduceNe, Nat.reducePow, Nat.reduceShiftRight, Nat.reduceMod, Tm.pv, strBin, fold_noS, *])
        all_goals (try (refine fin_tmp (.inr rfl) ?_; simp [upd, Tm.formed, hasB, constB, *] <;> omega))
        refine c_rounds 1 ?_
        repeat' (first | ((with_reducible first | refine cond_pos (by omega) ?_ | refine cond_neg (by omega) ?_ | refine guard_pos (by omega) ?_ | refine guard_neg (by omega) ?_ | refine cond_ifn ?_ ?_ | refine cond_waysn ?_ ?_ | refine guard_ifn ?_ ?_ | refine guard_waysn ?_ ?_ | refine cond_if ?_ ?_ | refine cond_ways ?_ ?_ | refine guard_if ?_ ?_ | refine guard_ways ?_ ?_) <;> intro _) | simp (maxSteps := 1000000) (disch := omega) only [go_sem, Nat.reduceAdd, Nat.reduceMul, Nat.reduceSub, Nat.reduceLeDiff, Nat.reduceEqDiff, Nat.reduceBEq, ↓reduceIte, reduceCtorEq, Int.reduceEq, Int.reduceLE, Int.reduceLT, Int.reduceAdd, Int.reduceSub, Int.reduceNeg, Int.reduceToNat, Int.reduceNe, Nat.reducePow, Nat.reduceShiftRight, Nat.reduceMod, rounds_next, *])
        refine fin_tmp (.inr rfl) ?_
        simp [upd, Tm.formed, hasB, constB, *]
        omega
      by_cases k2 : kind = 2
      · subst k2
        clear ih
        repeat' (first | ((with_reducible first | refine cond_pos (by omega) ?_ | refine cond_neg (by omega) ?_ | refine guard_pos (by omega) ?_ | refine guard_neg (by omega) ?_ | refine cond_ifn ?_ ?_ | refine cond_waysn ?_ ?_ | refine guard_ifn ?_ ?_ | refine guard_waysn ?_ ?_ | refine cond_if ?_ ?_ | refine cond_ways ?_ ?_ | refine guard_if ?_ ?_ | refine guard_ways ?_ ?_) <;> intro _) | simp (maxSteps := 1000000) (disch := omega) only [go_sem, Nat.reduceAdd, Nat.reduceMul, Nat.reduceSub, Nat.reduceLeDiff, Nat.reduceEqDiff, Nat.reduceBEq, ↓reduceIte, reduceCtorEq, Int.reduceEq, Int.reduceLE, Int.reduceLT, Int.reduceAdd, Int.reduceSub, Int.reduceNeg, Int.reduceToNat, Int.reduceNe, Nat.reducePow, Nat.reduceShiftRight, Nat.reduceMod, Tm.pv, strBin, fold_noS, *])
        all_goals (try (refine fin_tmp (.inr rfl) ?_; simp [upd, Tm.formed, hasB, constB, *] <;> omega))
        have hh' := hh (by omega)
        refine c_rounds 1 ?_
        repeat' (first | ((with_reducible first | refine cond_pos (by omega) ?_ | refine cond_neg (by omega) ?_ | refine guard_pos (by omega) ?_ | refine guard_neg (by omega) ?_ | refine cond_ifn ?_ ?_ | refine cond_waysn ?_ ?_ | refine guard_ifn ?_ ?_ | refine guard_waysn ?_ ?_ | refine cond_if ?_ ?_ | refine cond_ways ?_ ?_ | refine guard_if ?_ ?_ | refine guard_ways ?_ ?_) <;> intro _) | simp (maxSteps := 1000000) (disch := omega) only [go_sem, Nat.reduceAdd, Nat.reduceMul, Nat.reduceSub, Nat.reduceLeDiff, Nat.reduceEqDiff, Nat.reduceBEq, ↓reduceIte, reduceCtorEq, Int.reduceEq, Int.reduceLE, Int.reduceLT, Int.reduceAdd, Int.reduceSub, Int.reduceNeg, Int.reduceToNat, Int.reduceNe, Nat.reducePow, Nat.reduceShiftRight, Nat.reduceMod, rounds_next, *])
        refine fin_tmp (.inr rfl) ?_
        simp [upd, Tm.formed, hasB, constB, *] <;> omega
      clear hh
      by_cases k3 : kind = 3
      · subst k3
        clear ih
        have hal := hall'.out
        repeat' (first | ((with_reducible first | refine cond_pos (by omega) ?_ | refine cond_neg (by omega) ?_ | refine guard_pos (by omega) ?_ | refine guard_neg (by omega) ?_ | refine cond_ifn ?_ ?_ | refine cond_waysn ?_ ?_ | refine guard_ifn ?_ ?_ | refine guard_waysn ?_ ?_ | refine cond_if ?_ ?_ | refine cond_ways ?_ ?_ | refine guard_if ?_ ?_ | refine guard_ways ?_ ?_) <;> intro _) | (((with_reducible refine call_id ?_); (first | (refine call_pure (ref01_Right_p s) ?_)))) | simp (maxSteps := 1000000) (disch := omega) only [go_sem, Nat.reduceAdd, Nat.reduceMul, Nat.reduceSub, Nat.reduceLeDiff, Nat.reduceEqDiff, Nat.reduceBEq, ↓reduceIte, reduceCtorEq, Int.reduceEq, Int.reduceLE, Int.reduceLT, Int.reduceAdd, Int.reduceSub, Int.reduceNeg, Int.reduceToNat, Int.reduceNe, Nat.reducePow, Nat.reduceShiftRight, Nat.reduceMod, Tm.pv, strBin, fold_noS, *])
        all_goals (try (refine fin_tmp (.inr rfl) ?_; simp [upd, Tm.formed, hasB, constB, *] <;> omega))
        refine c_rounds 1 ?_
        repeat' (first | ((with_reducible first | refine cond_pos (by omega) ?_ | refine cond_neg (by omega) ?_ | refine guard_pos (by omega) ?_ | refine guard_neg (by omega) ?_ | refine cond_ifn ?_ ?_ | refine cond_waysn ?_ ?_ | refine guard_ifn ?_ ?_ | refine guard_waysn ?_ ?_ | refine cond_if ?_ ?_ | refine cond_ways ?_ ?_ | refine guard_if ?_ ?_ | refine guard_ways ?_ ?_) <;> intro _) | simp (maxSteps := 1000000) (disch := omega) only [go_sem, Nat.reduceAdd, Nat.reduceMul, Nat.reduceSub, Nat.reduceLeDiff, Nat.reduceEqDiff, Nat.reduceBEq, ↓reduceIte, reduceCtorEq, Int.reduceEq, Int.reduceLE, Int.reduceLT, Int.reduceAdd, Int.reduceSub, Int.reduceNeg, Int.reduceToNat, Int.reduceNe, Nat.reducePow, Nat.reduceShiftRight, Nat.reduceMod, rounds_next, *])
        refine fin_tmp (.inr rfl) ?_
        simp [upd, Tm.formed, hasB, constB, *] <;> omega
      by_cases k4 : kind = 4
      · subst k4
        have c0 : PPure Try.prog F.ref04_binds [.sc (.int .i64 4), .sc (.int .i64 0)] (.sc (.bool false)) := by simpa using binds_p 4 0 (by omega)
        have c1 : PPure Try.prog F.ref04_binds [.sc (.int .i64 4), .sc (.int .i64 1)] (.sc (.bool false)) := by simpa using binds_p 4 1 (by omega)
        by_cases hl2 : args.length = 2
        · match args, hl2, hf, h1 with
          | [x, y], _, hf, h1 =>
            have := size_pos x
            have := size_pos y
            simp only [sizeL] at hf h1
            have i0 := ih x k (by omega) h0 (by omega)
            have i1 := ih y (k + 0) (by omega) (by omega) (by omega)
            simp only [Int.add_zero] at i1
            clear ih
            repeat' (first | ((with_reducible first | refine cond_pos (by omega) ?_ | refine cond_neg (by omega) ?_ | refine guard_pos (by omega) ?_ | refine guard_neg (by omega) ?_ | refine cond_ifn ?_ ?_ | refine cond_waysn ?_ ?_ | refine guard_ifn ?_ ?_ | refine guard_waysn ?_ ?_ | refine cond_if ?_ ?_ | refine cond_ways ?_ ?_ | refine guard_if ?_ ?_ | refine guard_ways ?_ ?_) <;> intro _) | simp (maxSteps := 1000000) (disch := omega) only [go_sem, Nat.reduceAdd, Nat.reduceMul, Nat.reduceSub, Nat.reduceLeDiff, Nat.reduceEqDiff, Nat.reduceBEq, ↓reduceIte, reduceCtorEq, Int.reduceEq, Int.reduceLE, Int.reduceLT, Int.reduceAdd, Int.reduceSub, Int.reduceNeg, Int.reduceToNat, Int.reduceNe, Nat.reducePow, Nat.reduceShiftRight, Nat.reduceMod, Tm.pv, strBin, fold_noS, *])
            all_goals (try (refine fin_tmp (.inr rfl) ?_; simp [upd, Tm.formed, hasB, constB, *] <;> omega))
            refine c_rounds 3 ?_
            repeat' (first | ((with_reducible first | refine cond_pos (by omega) ?_ | refine cond_neg (by omega) ?_ | refine guard_pos (by omega) ?_ | refine guard_neg (by omega) ?_ | refine cond_ifn ?_ ?_ | refine cond_waysn ?_ ?_ | refine guard_ifn ?_ ?_ | refine guard_waysn ?_ ?_ | refine cond_if ?_ ?_ | refine cond_ways ?_ ?_ | refine guard_if ?_ ?_ | refine guard_ways ?_ ?_) <;> intro _) | (((with_reducible refine call_id ?_); (first | (refine call_pure (c0) ?_) | (refine call_pure (c1) ?_) | (refine call_pure (i0) ?_) | (refine call_pure (i1) ?_)))) | simp (maxSteps := 1000000) (disch := omega) only [go_sem, Nat.reduceAdd, Nat.reduceMul, Nat.reduceSub, Nat.reduceLeDiff, Nat.reduceEqDiff, Nat.reduceBEq, ↓reduceIte, reduceCtorEq, Int.reduceEq, Int.reduceLE, Int.reduceLT, Int.reduceAdd, Int.reduceSub, Int.reduceNeg, Int.reduceToNat, Int.reduceNe, Nat.reducePow, Nat.reduceShiftRight, Nat.reduceMod, rounds_next, Tm.pv, *])
            all_goals (refine fin_tmp (.inr rfl) ?_; simp [upd, Tm.formed, formedA, deepB, hasB, constB, *]; try omega)
        · clear ih c0 c1
          repeat' (first | ((with_reducible first | refine cond_pos (by omega) ?_ | refine cond_neg (by omega) ?_ | refine guard_pos (by omega) ?_ | refine guard_neg (by omega) ?_ | refine cond_ifn ?_ ?_ | refine cond_waysn ?_ ?_ | refine guard_ifn ?_ ?_ | refine guard_waysn ?_ ?_ | refine cond_if ?_ ?_ | refine cond_ways ?_ ?_ | refine guard_if ?_ ?_ | refine guard_ways ?_ ?_) <;> intro _) | simp (maxSteps := 1000000) (disch := omega) only [go_sem, Nat.reduceAdd, Nat.reduceMul, Nat.reduceSub, Nat.reduceLeDiff, Nat.reduceEqDiff, Nat.reduceBEq, ↓reduceIte, reduceCtorEq, Int.reduceEq, Int.reduceLE, Int.reduceLT, Int.reduceAdd, Int.reduceSub, Int.reduceNeg, Int.reduceToNat, Int.reduceNe, Nat.reducePow, Nat.reduceShiftRight, Nat.reduceMod, Tm.pv, strBin, fold_noS, *])
          all_goals (refine fin_tmp (.inr rfl) ?_; simp [upd, Tm.formed, hasB, constB, *] <;> omega)
      by_cases k5 : kind = 5
      · subst k5
        have c0 : PPure Try.prog F.ref04_binds [.sc (.int .i64 5), .sc (.int .i64 0)] (.sc (.bool false)) := by simpa using binds_p 5 0 (by omega)
        have c1 : PPure Try.prog F.ref04_binds [.sc (.int .i64 5), .sc (.int .i64 1)] (.sc (.bool true)) := by simpa using binds_p 5 1 (by omega)
        by_cases hl2 : args.length = 2
        · match args, hl2, hf, h1 with
          | [x, y], _, hf, h1 =>
            have := size_pos x
            have := size_pos y
            simp only [sizeL] at hf h1
            have i0 := ih x k (by omega) h0 (by omega)
            have i1 := ih y (k + 1) (by omega) (by omega) (by omega)
            clear ih
            repeat' (first | ((with_reducible first | refine cond_pos (by omega) ?_ | refine cond_neg (by omega) ?_ | refine guard_pos (by omega) ?_ | refine guard_neg (by omega) ?_ | refine cond_ifn ?_ ?_ | refine cond_waysn ?_ ?_ | refine guard_ifn ?_ ?_ | refine guard_waysn ?_ ?_ | refine cond_if ?_ ?_ | refine cond_ways ?_ ?_ | refine guard_if ?_ ?_ | refine guard_ways ?_ ?_) <;> intro _) | simp (maxSteps := 1000000) (disch := omega) only [go_sem, Nat.reduceAdd, Nat.reduceMul, Nat.reduceSub, Nat.reduceLeDiff, Nat.reduceEqDiff, Nat.reduceBEq, ↓reduceIte, reduceCtorEq, Int.reduceEq, Int.reduceLE, Int.reduceLT, Int.reduceAdd, Int.reduceSub, Int.reduceNeg, Int.reduceToNat, Int.reduceNe, Nat.reducePow, Nat.reduceShiftRight, Nat.reduceMod, Tm.pv, strBin, fold_noS, *])
            all_goals (try (refine fin_tmp (.inr rfl) ?_; simp [upd, Tm.formed, hasB, constB, *] <;> omega))
            refine c_rounds 3 ?_
            repeat' (first | ((with_reducible first | refine cond_pos (by omega) ?_ | refine cond_neg (by omega) ?_ | refine guard_pos (by omega) ?_ | refine guard_neg (by omega) ?_ | refine cond_ifn ?_ ?_ | refine cond_waysn ?_ ?_ | refine guard_ifn ?_ ?_ | refine guard_waysn ?_ ?_ | refine cond_if ?_ ?_ | refine cond_ways ?_ ?_ | refine guard_if ?_ ?_ | refine guard_ways ?_ ?_) <;> intro _) | (((with_reducible refine call_id ?_); (first | (refine call_pure (c0) ?_) | (refine call_pure (c1) ?_) | (refine call_pure (i0) ?_) | (refine call_pure (i1) ?_)))) | simp (maxSteps := 1000000) (disch := omega) only [go_sem, Nat.reduceAdd, Nat.reduceMul, Nat.reduceSub, Nat.reduceLeDiff, Nat.reduceEqDiff, Nat.reduceBEq, ↓reduceIte, reduceCtorEq, Int.reduceEq, Int.reduceLE, Int.reduceLT, Int.reduceAdd, Int.reduceSub, Int.reduceNeg, Int.reduceToNat, Int.reduceNe, Nat.reducePow, Nat.reduceShiftRight, Nat.reduceMod, rounds_next, Tm.pv, *])
            all_goals (refine fin_tmp (.inr rfl) ?_; simp [upd, Tm.formed, formedA, deepB, hasB, constB, *]; try omega)
        · clear ih c0 c1
          repeat' (first | ((with_reducible first | refine cond_pos (by omega) ?_ | refine cond_neg (by omega) ?_ | refine guard_pos (by omega) ?_ | refine guard_neg (by omega) ?_ | refine cond_ifn ?_ ?_ | refine cond_waysn ?_ ?_ | refine guard_ifn ?_ ?_ | refine guard_waysn ?_ ?_ | refine cond_if ?_ ?_ | refine cond_ways ?_ ?_ | refine guard_if ?_ ?_ | refine guard_ways ?_ ?_) <;> intro _) | simp (maxSteps := 1000000) (disch := omega) only [go_sem, Nat.reduceAdd, Nat.reduceMul, Nat.reduceSub, Nat.reduceLeDiff, Nat.reduceEqDiff, Nat.reduceBEq, ↓reduceIte, reduceCtorEq, Int.reduceEq, Int.reduceLE, Int.reduceLT, Int.reduceAdd, Int.reduceSub, Int.reduceNeg, Int.reduceToNat, Int.reduceNe, Nat.reducePow, Nat.reduceShiftRight, Nat.reduceMod, Tm.pv, strBin, fold_noS, *])
          all_goals (refine fin_tmp (.inr rfl) ?_; simp [upd, Tm.formed, hasB, constB, *] <;> omega)
      by_cases k6 : kind = 6
      · subst k6
        have c0 : PPure Try.prog F.ref04_binds [.sc (.int .i64 6), .sc (.int .i64 0)] (.sc (.bool false)) := by simpa using binds_p 6 0 (by omega)
        have c1 : PPure Try.prog F.ref04_binds [.sc (.int .i64 6), .sc (.int .i64 1)] (.sc (.bool true)) := by simpa using binds_p 6 1 (by omega)
        by_cases hl2 : args.length = 2
        · match args, hl2, hf, h1 with
          | [x, y], _, hf, h1 =>
            have := size_pos x
            have := size_pos y
            simp only [sizeL] at hf h1
            have i0 := ih x k (by omega) h0 (by omega)
            have i1 := ih y (k + 1) (by omega) (by omega) (by omega)
            clear ih
            repeat' (first | ((with_reducible first | refine cond_pos (by omega) ?_ | refine cond_neg (by omega) ?_ | refine guard_pos (by omega) ?_ | refine guard_neg (by omega) ?_ | refine cond_ifn ?_ ?_ | refine cond_waysn ?_ ?_ | refine guard_ifn ?_ ?_ | refine guard_waysn ?_ ?_ | refine cond_if ?_ ?_ | refine cond_ways ?_ ?_ | refine guard_if ?_ ?_ | refine guard_ways ?_ ?_) <;> intro _) | simp (maxSteps := 1000000) (disch := omega) only [go_sem, Nat.reduceAdd, Nat.reduceMul, Nat.reduceSub, Nat.reduceLeDiff, Nat.reduceEqDiff, Nat.reduceBEq, ↓reduceIte, reduceCtorEq, Int.reduceEq, Int.reduceLE, Int.reduceLT, Int.reduceAdd, Int.reduceSub, Int.reduceNeg, Int.reduceToNat, Int.reduceNe, Nat.reducePow, Nat.reduceShiftRight, Nat.reduceMod, Tm.pv, strBin, fold_noS, *])
            all_goals (try (refine fin_tmp (.inr rfl) ?_; simp [upd, Tm.formed, hasB, constB, *] <;> omega))
            refine c_rounds 3 ?_
            repeat' (first | ((with_reducible first | refine cond_pos (by omega) ?_ | refine cond_neg (by omega) ?_ | refine guard_pos (by omega) ?_ | refine guard_neg (by omega) ?_ | refine cond_ifn ?_ ?_ | refine cond_waysn ?_ ?_ | refine guard_ifn ?_ ?_ | refine guard_waysn ?_ ?_ | refine cond_if ?_ ?_ | refine cond_ways ?_ ?_ | refine guard_if ?_ ?_ | refine guard_ways ?_ ?_) <;> intro _) | (((with_reducible refine call_id ?_); (first | (refine call_pure (c0) ?_) | (refine call_pure (c1) ?_) | (refine call_pure (i0) ?_) | (refine call_pure (i1) ?_)))) | simp (maxSteps := 1000000) (disch := omega) only [go_sem, Nat.reduceAdd, Nat.reduceMul, Nat.reduceSub, Nat.reduceLeDiff, Nat.reduceEqDiff, Nat.reduceBEq, ↓reduceIte, reduceCtorEq, Int.reduceEq, Int.reduceLE, Int.reduceLT, Int.reduceAdd, Int.reduceSub, Int.reduceNeg, Int.reduceToNat, Int.reduceNe, Nat.reducePow, Nat.reduceShiftRight, Nat.reduceMod, rounds_next, Tm.pv, *])
            all_goals (refine fin_tmp (.inr rfl) ?_; simp [upd, Tm.formed, formedA, deepB, hasB, constB, *]; try omega)
        · clear ih c0 c1
          repeat' (first | ((with_reducible first | refine cond_pos (by omega) ?_ | refine cond_neg (by omega) ?_ | refine guard_pos (by omega) ?_ | refine guard_neg (by omega) ?_ | refine cond_ifn ?_ ?_ | refine cond_waysn ?_ ?_ | refine guard_ifn ?_ ?_ | refine guard_waysn ?_ ?_ | refine cond_if ?_ ?_ | refine cond_ways ?_ ?_ | refine guard_if ?_ ?_ | refine guard_ways ?_ ?_) <;> intro _) | simp (maxSteps := 1000000) (disch := omega) only [go_sem, Nat.reduceAdd, Nat.reduceMul, Nat.reduceSub, Nat.reduceLeDiff, Nat.reduceEqDiff, Nat.reduceBEq, ↓reduceIte, reduceCtorEq, Int.reduceEq, Int.reduceLE, Int.reduceLT, Int.reduceAdd, Int.reduceSub, Int.reduceNeg, Int.reduceToNat, Int.reduceNe, Nat.reducePow, Nat.reduceShiftRight, Nat.reduceMod, Tm.pv, strBin, fold_noS, *])
          all_goals (refine fin_tmp (.inr rfl) ?_; simp [upd, Tm.formed, hasB, constB, *] <;> omega)
      by_cases k7 : kind = 7
      · subst k7
        have c0 : PPure Try.prog F.ref04_binds [.sc (.int .i64 7), .sc (.int .i64 0)] (.sc (.bool false)) := by simpa using binds_p 7 0 (by omega)
        have c1 : PPure Try.prog F.ref04_binds [.sc (.int .i64 7), .sc (.int .i64 1)] (.sc (.bool false)) := by simpa using binds_p 7 1 (by omega)
        have c2 : PPure Try.prog F.ref04_binds [.sc (.int .i64 7), .sc (.int .i64 2)] (.sc (.bool true)) := by simpa using binds_p 7 2 (by omega)
        by_cases hl2 : args.length = 3
        · match args, hl2, hf, h1 with
          | [x, y, z], _, hf, h1 =>
            have := size_pos x
            have := size_pos y
            have := size_pos z
            simp only [sizeL] at hf h1
            have i0 := ih x k (by omega) h0 (by omega)
            have i1 := ih y k (by omega) h0 (by omega)
            have i2 := ih z (k + 1) (by omega) (by omega) (by omega)
            clear ih
            repeat' (first | ((with_reducible first | refine cond_pos (by omega) ?_ | refine cond_neg (by omega) ?_ | refine guard_pos (by omega) ?_ | refine guard_neg (by omega) ?_ | refine cond_ifn ?_ ?_ | refine cond_waysn ?_ ?_ | refine guard_ifn ?_ ?_ | refine guard_waysn ?_ ?_ | refine cond_if ?_ ?_ | refine cond_ways ?_ ?_ | refine guard_if ?_ ?_ | refine guard_ways ?_ ?_) <;> intro _) | simp (maxSteps := 1000000) (disch := omega) only [go_sem, Nat.reduceAdd, Nat.reduceMul, Nat.reduceSub, Nat.reduceLeDiff, Nat.reduceEqDiff, Nat.reduceBEq, ↓reduceIte, reduceCtorEq, Int.reduceEq, Int.reduceLE, Int.reduceLT, Int.reduceAdd, Int.reduceSub, Int.reduceNeg, Int.reduceToNat, Int.reduceNe, Nat.reducePow, Nat.reduceShiftRight, Nat.reduceMod, Tm.pv, strBin, fold_noS, *])
            all_goals (try (refine fin_tmp (.inr rfl) ?_; simp [upd, Tm.formed, hasB, constB, *] <;> omega))
            refine c_rounds 4 ?_
            repeat' (first | ((with_reducible first | refine cond_pos (by omega) ?_ | refine cond_neg (by omega) ?_ | refine guard_pos (by omega) ?_ | refine guard_neg (by omega) ?_ | refine cond_ifn ?_ ?_ | refine cond_waysn ?_ ?_ | refine guard_ifn ?_ ?_ | refine guard_waysn ?_ ?_ | refine cond_if ?_ ?_ | refine cond_ways ?_ ?_ | refine guard_if ?_ ?_ | refine guard_ways ?_ ?_) <;> intro _) | (((with_reducible refine call_id ?_); (first | (refine call_pure (c0) ?_) | (refine call_pure (c1) ?_) | (refine call_pure (c2) ?_) | (refine call_pure (i0) ?_) | (refine call_pure (i1) ?_) | (refine call_pure (i2) ?_)))) | simp (maxSteps := 1000000) (disch := omega) only [go_sem, Nat.reduceAdd, Nat.reduceMul, Nat.reduceSub, Nat.reduceLeDiff, Nat.reduceEqDiff, Nat.reduceBEq, ↓reduceIte, reduceCtorEq, Int.reduceEq, Int.reduceLE, Int.reduceLT, Int.reduceAdd, Int.reduceSub, Int.reduceNeg, Int.reduceToNat, Int.reduceNe, Nat.reducePow, Nat.reduceShiftRight, Nat.reduceMod, rounds_next, Tm.pv, *])
            all_goals (refine fin_tmp (.inr rfl) ?_; simp [upd, Tm.formed, formedA, deepB, hasB, constB, *]; try omega)
        · clear ih c0 c1 c2
          repeat' (first | ((with_reducible first | refine cond_pos (by omega) ?_ | refine cond_neg (by omega) ?_ | refine guard_pos (by omega) ?_ | refine guard_neg (by omega) ?_ | refine cond_ifn ?_ ?_ | refine cond_waysn ?_ ?_ | refine guard_ifn ?_ ?_ | refine guard_waysn ?_ ?_ | refine cond_if ?_ ?_ | refine cond_ways ?_ ?_ | refine guard_if ?_ ?_ | refine guard_ways ?_ ?_) <;> intro _) | simp (maxSteps := 1000000) (disch := omega) only [go_sem, Nat.reduceAdd, Nat.reduceMul, Nat.reduceSub, Nat.reduceLeDiff, Nat.reduceEqDiff, Nat.reduceBEq, ↓reduceIte, reduceCtorEq, Int.reduceEq, Int.reduceLE, Int.reduceLT, Int.reduceAdd, Int.reduceSub, Int.reduceNeg, Int.reduceToNat, Int.reduceNe, Nat.reducePow, Nat.reduceShiftRight, Nat.reduceMod, Tm.pv, strBin, fold_noS, *])
          all_goals (refine fin_tmp (.inr rfl) ?_; simp [upd, Tm.formed, hasB, constB, *] <;> omega)
      clear ih
      repeat' (first | ((with_reducible first | refine cond_pos (by omega) ?_ | refine cond_neg (by omega) ?_ | refine guard_pos (by omega) ?_ | refine guard_neg (by omega) ?_ | refine cond_ifn ?_ ?_ | refine cond_waysn ?_ ?_ | refine guard_ifn ?_ ?_ | refine guard_waysn ?_ ?_ | refine cond_if ?_ ?_ | refine cond_ways ?_ ?_ | refine guard_if ?_ ?_ | refine guard_ways ?_ ?_) <;> intro _) | simp (maxSteps := 1000000) (disch := omega) only [go_sem, Nat.reduceAdd, Nat.reduceMul, Nat.reduceSub, Nat.reduceLeDiff, Nat.reduceEqDiff, Nat.reduceBEq, ↓reduceIte, reduceCtorEq, Int.reduceEq, Int.reduceLE, Int.reduceLT, Int.reduceAdd, Int.reduceSub, Int.reduceNeg, Int.reduceToNat, Int.reduceNe, Nat.reducePow, Nat.reduceShiftRight, Nat.reduceMod, Tm.pv, strBin, fold_noS, *])
      all_goals (refine fin_tmp (.inr rfl) ?_; simp [upd, Tm.formed, hasB, constB, *] <;> omega)
end
section
set_option maxRecDepth 20000
attribute [local go_sem] pv_len pv_take Nat.add_assoc tm_len tm_take
def Tm.right (np bound : Int) (t : Tm) : Bool := decide (0 ≤ bound) && (decide (0 ≤ np) && (decide (np ≤ 4) && (decide (t.nodes ≤ 2000) && t.formed np (min bound 1125899906842624))))
theorem ref04_Right_p (t : Tm) (np bound : Int) : PPure Try.prog F.ref04_Right [.agg t.pv, .sc (.int .i64 np), .sc (.int .i64 bound)] (.sc (.bool (t.right np bound))) := by
  refine pure_by is_ref04_Right (by simp) rfl fun hb nx => ?_
  have hs := size_nodes t
  have c1 := ref_Nodes_p 2000 (by omega) t.size t (Nat.le_refl _)
  by_cases hn : t.nodes ≤ 2000
  · by_cases h0 : 0 ≤ bound
    · have c2 := ref04_right_p np t.size t (min bound 1125899906842624) (Nat.le_refl _) (by omega) (by omega)
      have e1 : min t.nodes 2001 = t.nodes := by omega
      repeat' (first | ((with_reducible first | refine cond_pos (by omega) ?_ | refine cond_neg (by omega) ?_ | refine guard_pos (by omega) ?_ | refine guard_neg (by omega) ?_ | refine cond_ifn ?_ ?_ | refine cond_waysn ?_ ?_ | refine guard_ifn ?_ ?_ | refine guard_waysn ?_ ?_ | refine cond_if ?_ ?_ | refine cond_ways ?_ ?_ | refine guard_if ?_ ?_ | refine guard_ways ?_ ?_) <;> intro _) | (((with_reducible refine call_id ?_); (first | (refine call_pure (c1) ?_) | (refine call_pure (c2) ?_)))) | simp (maxSteps := 1000000) (disch := omega) only [go_sem, Nat.reduceAdd, Nat.reduceMul, Nat.reduceSub, Nat.reduceLeDiff, Nat.reduceEqDiff, Nat.reduceBEq, ↓reduceIte, reduceCtorEq, Int.reduceEq, Int.reduceLE, Int.reduceLT, Int.reduceAdd, Int.reduceSub, Int.reduceNeg, Int.reduceToNat, Int.reduceNe, Nat.reducePow, Nat.reduceShiftRight, Nat.reduceMod, mc_ref04_Right, *])
      all_goals (refine fin_tmp (.inr rfl) ?_; simp [upd, Tm.right, *]; try omega)
    · repeat' (first | ((with_reducible first | refine cond_pos (by omega) ?_ | refine cond_neg (by omega) ?_ | refine guard_pos (by omega) ?_ | refine guard_neg (by omega) ?_ | refine cond_ifn ?_ ?_ | refine cond_waysn ?_ ?_ | refine guard_ifn ?_ ?_ | refine guard_waysn ?_ ?_ | refine cond_if ?_ ?_ | refine cond_ways ?_ ?_ | refine guard_if ?_ ?_ | refine guard_ways ?_ ?_) <;> intro _) | (((with_reducible refine call_id ?_); (first | (refine call_pure (c1) ?_)))) | simp (maxSteps := 1000000) (disch := omega) only [go_sem, Nat.reduceAdd, Nat.reduceMul, Nat.reduceSub, Nat.reduceLeDiff, Nat.reduceEqDiff, Nat.reduceBEq, ↓reduceIte, reduceCtorEq, Int.reduceEq, Int.reduceLE, Int.reduceLT, Int.reduceAdd, Int.reduceSub, Int.reduceNeg, Int.reduceToNat, Int.reduceNe, Nat.reducePow, Nat.reduceShiftRight, Nat.reduceMod, mc_ref04_Right, *])
      all_goals (refine fin_tmp (.inr rfl) ?_; simp [upd, Tm.right, *]; try omega)
  · have e1 : min t.nodes 2001 = 2001 := by omega
    repeat' (first | ((with_reducible first | refine cond_pos (by omega) ?_ | refine cond_neg (by omega) ?_ | refine guard_pos (by omega) ?_ | refine guard_neg (by omega) ?_ | refine cond_ifn ?_ ?_ | refine cond_waysn ?_ ?_ | refine guard_ifn ?_ ?_ | refine guard_waysn ?_ ?_ | refine cond_if ?_ ?_ | refine cond_ways ?_ ?_ | refine guard_if ?_ ?_ | refine guard_ways ?_ ?_) <;> intro _) | (((with_reducible refine call_id ?_); (first | (refine call_pure (c1) ?_)))) | simp (maxSteps := 1000000) (disch := omega) only [go_sem, Nat.reduceAdd, Nat.reduceMul, Nat.reduceSub, Nat.reduceLeDiff, Nat.reduceEqDiff, Nat.reduceBEq, ↓reduceIte, reduceCtorEq, Int.reduceEq, Int.reduceLE, Int.reduceLT, Int.reduceAdd, Int.reduceSub, Int.reduceNeg, Int.reduceToNat, Int.reduceNe, Nat.reducePow, Nat.reduceShiftRight, Nat.reduceMod, mc_ref04_Right, *])
    all_goals (refine fin_tmp (.inr rfl) ?_; simp [upd, Tm.right, *]; try omega)
end
section
set_option maxRecDepth 20000
attribute [local go_sem] pv_len pv_take Nat.add_assoc tm_len tm_take
mutual
def Tm.loose : Tm → Int
  | .mk kind n _ _ args => if kind = 1 then n + 1 else looseA kind args.length 0 args
def looseA : Int → Nat → Nat → List Tm → Int
  | _, _, _, [] => 0
  | kind, len, i, x :: r => max (x.loose - deepB kind len i) (looseA kind len (i + 1) r)
end
theorem formed_cases (np k kind n : Int) (s : ByteArray) (ls : List Lv) (args : List Tm) (h : (Tm.mk kind n s ls args).formed np k = true) :
    (kind = 1 ∧ 0 ≤ n ∧ n < k ∧ args = []) ∨ ((kind = 2 ∨ kind = 3) ∧ args = []) ∨ ((kind = 4 ∨ kind = 5 ∨ kind = 6) ∧ args.length = 2 ∧ formedA np k kind args.length 0 args = true) ∨ (kind = 7 ∧ args.length = 3 ∧ formedA np k kind args.length 0 args = true) := by
  have hn : ∀ a b, hasB n s ls args a b 0 = true → args = [] := fun a b h => by
    simp only [hasB, Bool.and_eq_true, decide_eq_true_eq] at h
    exact List.eq_nil_of_length_eq_zero (by omega)
  have h2 : ∀ a b, hasB n s ls args a b 2 = true → args.length = 2 := fun a b h => by
    simp only [hasB, Bool.and_eq_true, decide_eq_true_eq] at h
    omega
  have h3 : ∀ a b, hasB n s ls args a b 3 = true → args.length = 3 := fun a b h => by
    simp only [hasB, Bool.and_eq_true, decide_eq_true_eq] at h
    omega
  simp only [Tm.formed] at h
  split at h
  · simp only [Bool.and_eq_true, decide_eq_true_eq] at h
    exact .inl ⟨by assumption, h.1, h.2.1, hn _ _ h.2.2⟩
  split at h
  · simp only [Bool.and_eq_true] at h
    exact .inr (.inl ⟨.inl (by assumption), by
      have := h.1
      simp only [hasB, Bool.and_eq_true, decide_eq_true_eq] at this
      exact List.eq_nil_of_length_eq_zero (by omega)⟩)
  split at h
  · simp only [constB, Bool.and_eq_true, decide_eq_true_eq] at h
    exact .inr (.inl ⟨.inr (by assumption), List.eq_nil_of_length_eq_zero h.2.1⟩)
  split at h
  · simp only [Bool.and_eq_true] at h
    exact .inr (.inr (.inl ⟨by assumption, h2 _ _ h.1, h.2⟩))
  split at h
  · simp only [Bool.and_eq_true] at h
    exact .inr (.inr (.inr ⟨by assumption, h3 _ _ h.1, h.2⟩))
  · cases h
theorem formed_args (np k kind n : Int) (s : ByteArray) (ls : List Lv) (args : List Tm) (h : (Tm.mk kind n s ls args).formed np k = true) : formedA np k kind args.length 0 args = true := by
  rcases formed_cases np k kind n s ls args h with ⟨_, _, _, rfl⟩ | ⟨_, rfl⟩ | ⟨_, _, h⟩ | ⟨_, _, h⟩
  · rfl
  · rfl
  · exact h
  · exact h
theorem formedA_mem (np k kind : Int) (len : Nat) : ∀ (xs : List Tm) (i j : Nat) (h : j < xs.length), formedA np k kind len i xs = true → xs[j].formed np (k + deepB kind len (i + j)) = true
  | x :: r, i, 0, h, hf => by simp only [formedA, Bool.and_eq_true] at hf; exact hf.1
  | x :: r, i, j + 1, h, hf => by
    simp only [formedA, Bool.and_eq_true] at hf
    have := formedA_mem np k kind len r (i + 1) j (by simpa using h) hf.2
    rw [List.getElem_cons_succ, show i + (j + 1) = i + 1 + j by omega]
    exact this
mutual
theorem loose_bd (np : Int) : ∀ (t : Tm) (k : Int), 0 ≤ k → t.formed np k = true → 0 ≤ t.loose ∧ t.loose ≤ k
  | .mk kind n s ls args, k, h0, h => by
    have hA := formed_args np k kind n s ls args h
    simp only [Tm.loose]
    split
    · rcases formed_cases np k kind n s ls args h with h | h | h | h <;> omega
    · exact looseA_bd np args kind args.length 0 k h0 hA
theorem looseA_bd (np : Int) : ∀ (xs : List Tm) (kind : Int) (len i : Nat) (k : Int), 0 ≤ k → formedA np k kind len i xs = true → 0 ≤ looseA kind len i xs ∧ looseA kind len i xs ≤ k
  | [], _, _, _, k, h0, _ => by simp [looseA, h0]
  | x :: r, kind, len, i, k, h0, h => by
    simp only [formedA, Bool.and_eq_true] at h
    have hd := deep_bd kind len i
    have h1 := loose_bd np x (k + deepB kind len i) (by omega) h.1
    have h2 := looseA_bd np r kind len (i + 1) k h0 h.2
    simp only [looseA]
    omega
end
def looseR (k : Int) (t : Tm) : Int := max (t.loose - k) 0
set_option maxHeartbeats 8000000 in
theorem ref04_loose_p (np : Int) : ∀ (fuel : Nat) (t : Tm) (k q : Int), t.size ≤ fuel → 0 ≤ k → k + t.size ≤ 2 ^ 60 → 0 ≤ q → q + t.size ≤ 2 ^ 60 → t.formed np k = true → PPure Try.prog F.ref04_loose [.agg t.pv, .sc (.int .i64 q)] (.sc (.int .i64 (looseR q t))) := by
  intro fuel
  induction fuel with
  | zero => intro t k q h; have := size_pos t; omega
  | succ fuel ih =>
    intro t k q hf h0 h1 hq0 hq1 hfm
    cases t with
    | mk kind n s ls args =>
    simp only [Tm.size] at hf h1 hq1
    have hc := formed_cases np k kind n s ls args hfm
    have hA := Kept.mk (formed_args np k kind n s ls args hfm)
    have hAb := looseA_bd np args kind args.length 0 k h0 hA.out
    refine pure_by is_ref04_loose (by simp) rfl fun hb nx => ?_
    have hb0 : args.length ≤ 9223372036854775807 := by simp [Tm.pv, bndL, PV.bnd] at hb; exact hb.2.1
    by_cases k1 : kind = 1
    · subst k1
      have hn : 0 ≤ n ∧ n < k := by rcases hc with h | h | h | h <;> omega
      clear hc ih
      repeat' (first | ((with_reducible first | refine cond_pos (by omega) ?_ | refine cond_neg (by omega) ?_ | refine guard_pos (by omega) ?_ | refine guard_neg (by omega) ?_ | refine cond_ifn ?_ ?_ | refine cond_waysn ?_ ?_ | refine guard_ifn ?_ ?_ | refine guard_waysn ?_ ?_ | refine cond_if ?_ ?_ | refine cond_ways ?_ ?_ | refine guard_if ?_ ?_ | refine guard_ways ?_ ?_) <;> intro _) | simp (maxSteps := 1000000) (disch := omega) only [go_sem, Nat.reduceAdd, Nat.reduceMul, Nat.reduceSub, Nat.reduceLeDiff, Nat.reduceEqDiff, Nat.reduceBEq, ↓reduceIte, reduceCtorEq, Int.reduceEq, Int.reduceLE, Int.reduceLT, Int.reduceAdd, Int.reduceSub, Int.reduceNeg, Int.reduceToNat, Int.reduceNe, Nat.reducePow, Nat.reduceShiftRight, Nat.reduceMod, mc_ref04_loose, Tm.pv, *])
      refine fin_tmp (.inr rfl) ?_
      simp [upd, Tm.loose, looseR, *]
      try omega
    have hdp : Kept (∀ i : Nat, i < args.length → deepB kind args.length i = if ((kind = 5 ∨ kind = 6) ∧ (i : Int) = 1) ∨ (kind = 7 ∧ (i : Int) = 2) then 1 else 0) := .mk fun i hi => by
      unfold deepB
      rcases hc with h | h | h | h
      · omega
      · rw [h.2] at hi; simp at hi
      · split <;> split <;> omega
      · split <;> split <;> omega
    clear hc
    repeat' (first | ((with_reducible first | refine cond_pos (by omega) ?_ | refine cond_neg (by omega) ?_ | refine guard_pos (by omega) ?_ | refine guard_neg (by omega) ?_ | refine cond_ifn ?_ ?_ | refine cond_waysn ?_ ?_ | refine guard_ifn ?_ ?_ | refine guard_waysn ?_ ?_ | refine cond_if ?_ ?_ | refine cond_ways ?_ ?_ | refine guard_if ?_ ?_ | refine guard_ways ?_ ?_) <;> intro _) | simp (maxSteps := 1000000) (disch := omega) only [go_sem, Nat.reduceAdd, Nat.reduceMul, Nat.reduceSub, Nat.reduceLeDiff, Nat.reduceEqDiff, Nat.reduceBEq, ↓reduceIte, reduceCtorEq, Int.reduceEq, Int.reduceLE, Int.reduceLT, Int.reduceAdd, Int.reduceSub, Int.reduceNeg, Int.reduceToNat, Int.reduceNe, Nat.reducePow, Nat.reduceShiftRight, Nat.reduceMod, mc_ref04_loose, Tm.pv, *])
    refine c_loopW 1099511496928 (by kernel_rfl) (fun j f H m => ∃ (i : Nat) (v : Int), j = args.length - i ∧ i ≤ args.length ∧ f 6 = .sc (.int .i64 i) ∧ f 5 = .sc (.int .i64 v) ∧ 0 ≤ v ∧ v ≤ k ∧ Kept (max (looseA kind args.length 0 args - q) 0 = max v (looseA kind args.length i (args.drop i) - q))) _ ⟨0, 0, rfl, (by first | assumption | omega | rfl | (simp (disch := omega) only [go_sem, Nat.reduceMul, Nat.reduceSub, Nat.reduceShiftRight, Nat.reduceMod, Nat.reduceEqDiff, Nat.reduceAdd, ↓reduceIte, Nat.reduceLeDiff, *] <;> omega)), (by first | assumption | omega | rfl | (simp (disch := omega) only [go_sem, Nat.reduceMul, Nat.reduceSub, Nat.reduceShiftRight, Nat.reduceMod, Nat.reduceEqDiff, Nat.reduceAdd, ↓reduceIte, Nat.reduceLeDiff, *] <;> omega)), (by first | assumption | omega | rfl | (simp (disch := omega) only [go_sem, Nat.reduceMul, Nat.reduceSub, Nat.reduceShiftRight, Nat.reduceMod, Nat.reduceEqDiff, Nat.reduceAdd, ↓reduceIte, Nat.reduceLeDiff, *] <;> omega)), by omega, h0, Kept.mk (by rw [List.drop_zero]; omega)⟩ ?_
    rintro _ f H m ⟨i, v, rfl, hi, e6, e5, hv, hv2, hs⟩
    by_cases hlt : i < args.length
    · have eg : args[i]? = some args[i] := List.getElem?_eq_getElem hlt
      have hd := deep_bd kind args.length i
      have hfi := formedA_mem np k kind args.length args 0 i hlt hA.out
      rw [Nat.zero_add] at hfi
      have hst : Kept (looseA kind args.length i (args.drop i) = max (args[i].loose - deepB kind args.length i) (looseA kind args.length (i + 1) (args.drop (i + 1)))) := Kept.mk (by rw [List.drop_eq_getElem_cons hlt]; rfl)
      have hsz := sizeL_mem args i hlt
      have hlb := loose_bd np args[i] _ (by omega) hfi
      have hc3 := ih args[i] _ (q + deepB kind args.length i) (by omega) (by omega) (by omega) (by omega) (by omega) hfi
      have hc1 := binds_p kind i (by omega)
      have hdi := hdp.out i hlt
      have hfi' := Kept.mk hfi
      clear hfi ih
      by_cases hbd : ((kind = 5 ∨ kind = 6) ∧ (i : Int) = 1) ∨ (kind = 7 ∧ (i : Int) = 2)
      · rw [if_pos hbd] at hdi
        rw [hdi] at hc3 hlb hd
        rw [decide_eq_true hbd] at hc1
        have hst' := hst.out
        rw [hdi] at hst'
        have hst := Kept.mk hst'
        clear hst' hbd
        repeat' (first | ((with_reducible first | refine cond_pos (by omega) ?_ | refine cond_neg (by omega) ?_ | refine guard_pos (by omega) ?_ | refine guard_neg (by omega) ?_ | refine cond_ifn ?_ ?_ | refine cond_waysn ?_ ?_ | refine guard_ifn ?_ ?_ | refine guard_waysn ?_ ?_ | refine cond_if ?_ ?_ | refine cond_ways ?_ ?_ | refine guard_if ?_ ?_ | refine guard_ways ?_ ?_) <;> intro _) | (((with_reducible refine call_id ?_); (first | (refine call_pure (hc1) ?_) | (refine call_pure (hc3) ?_)))) | simp (maxSteps := 1000000) (disch := omega) only [go_sem, Nat.reduceAdd, Nat.reduceMul, Nat.reduceSub, Nat.reduceLeDiff, Nat.reduceEqDiff, Nat.reduceBEq, ↓reduceIte, reduceCtorEq, Int.reduceEq, Int.reduceLE, Int.reduceLT, Int.reduceAdd, Int.reduceSub, Int.reduceNeg, Int.reduceToNat, Int.reduceNe, Nat.reducePow, Nat.reduceShiftRight, Nat.reduceMod, Tm.pv, *])
        exact Nx.mk (args.length - (i + 1)) (by first | assumption | omega | rfl | (simp (disch := omega) only [go_sem, Nat.reduceMul, Nat.reduceSub, Nat.reduceShiftRight, Nat.reduceMod, Nat.reduceEqDiff, Nat.reduceAdd, ↓reduceIte, Nat.reduceLeDiff, *] <;> omega)) ⟨i + 1, max v (looseR (q + 1) args[i]), (by first | assumption | omega | rfl | (simp (disch := omega) only [go_sem, Nat.reduceMul, Nat.reduceSub, Nat.reduceShiftRight, Nat.reduceMod, Nat.reduceEqDiff, Nat.reduceAdd, ↓reduceIte, Nat.reduceLeDiff, *] <;> omega)), (by first | assumption | omega | rfl | (simp (disch := omega) only [go_sem, Nat.reduceMul, Nat.reduceSub, Nat.reduceShiftRight, Nat.reduceMod, Nat.reduceEqDiff, Nat.reduceAdd, ↓reduceIte, Nat.reduceLeDiff, *] <;> omega)), (by first | assumption | omega | rfl | (simp (disch := omega) only [go_sem, Nat.reduceMul, Nat.reduceSub, Nat.reduceShiftRight, Nat.reduceMod, Nat.reduceEqDiff, Nat.reduceAdd, ↓reduceIte, Nat.reduceLeDiff, *] <;> omega)), (by first | assumption | omega | rfl | (simp (disch := omega) only [go_sem, Nat.reduceMul, Nat.reduceSub, Nat.reduceShiftRight, Nat.reduceMod, Nat.reduceEqDiff, Nat.reduceAdd, ↓reduceIte, Nat.reduceLeDiff, *] <;> omega)), by unfold looseR; omega, by unfold looseR; omega, Kept.mk (by rw [hs.out, hst.out]; unfold looseR; omega)⟩
      · rw [if_neg hbd] at hdi
        rw [hdi, Int.add_zero] at hc3 hlb
        rw [hdi] at hd
        rw [decide_eq_false hbd] at hc1
        have hst' := hst.out
        rw [hdi] at hst'
        have hst := Kept.mk hst'
        clear hst' hbd
        repeat' (first | ((with_reducible first | refine cond_pos (by omega) ?_ | refine cond_neg (by omega) ?_ | refine guard_pos (by omega) ?_ | refine guard_neg (by omega) ?_ | refine cond_ifn ?_ ?_ | refine cond_waysn ?_ ?_ | refine guard_ifn ?_ ?_ | refine guard_waysn ?_ ?_ | refine cond_if ?_ ?_ | refine cond_ways ?_ ?_ | refine guard_if ?_ ?_ | refine guard_ways ?_ ?_) <;> intro _) | (((with_reducible refine call_id ?_); (first | (refine call_pure (hc1) ?_) | (refine call_pure (hc3) ?_)))) | simp (maxSteps := 1000000) (disch := omega) only [go_sem, Nat.reduceAdd, Nat.reduceMul, Nat.reduceSub, Nat.reduceLeDiff, Nat.reduceEqDiff, Nat.reduceBEq, ↓reduceIte, reduceCtorEq, Int.reduceEq, Int.reduceLE, Int.reduceLT, Int.reduceAdd, Int.reduceSub, Int.reduceNeg, Int.reduceToNat, Int.reduceNe, Nat.reducePow, Nat.reduceShiftRight, Nat.reduceMod, Tm.pv, *])
        exact Nx.mk (args.length - (i + 1)) (by first | assumption | omega | rfl | (simp (disch := omega) only [go_sem, Nat.reduceMul, Nat.reduceSub, Nat.reduceShiftRight, Nat.reduceMod, Nat.reduceEqDiff, Nat.reduceAdd, ↓reduceIte, Nat.reduceLeDiff, *] <;> omega)) ⟨i + 1, max v (looseR q args[i]), (by first | assumption | omega | rfl | (simp (disch := omega) only [go_sem, Nat.reduceMul, Nat.reduceSub, Nat.reduceShiftRight, Nat.reduceMod, Nat.reduceEqDiff, Nat.reduceAdd, ↓reduceIte, Nat.reduceLeDiff, *] <;> omega)), (by first | assumption | omega | rfl | (simp (disch := omega) only [go_sem, Nat.reduceMul, Nat.reduceSub, Nat.reduceShiftRight, Nat.reduceMod, Nat.reduceEqDiff, Nat.reduceAdd, ↓reduceIte, Nat.reduceLeDiff, *] <;> omega)), (by first | assumption | omega | rfl | (simp (disch := omega) only [go_sem, Nat.reduceMul, Nat.reduceSub, Nat.reduceShiftRight, Nat.reduceMod, Nat.reduceEqDiff, Nat.reduceAdd, ↓reduceIte, Nat.reduceLeDiff, *] <;> omega)), (by first | assumption | omega | rfl | (simp (disch := omega) only [go_sem, Nat.reduceMul, Nat.reduceSub, Nat.reduceShiftRight, Nat.reduceMod, Nat.reduceEqDiff, Nat.reduceAdd, ↓reduceIte, Nat.reduceLeDiff, *] <;> omega)), by unfold looseR; omega, by unfold looseR; omega, Kept.mk (by rw [hs.out, hst.out]; unfold looseR; omega)⟩
    · obtain rfl : i = args.length := by omega
      have h2 := hs.out
      rw [List.drop_length] at h2
      simp only [looseA] at h2
      repeat' (first | ((with_reducible first | refine cond_pos (by omega) ?_ | refine cond_neg (by omega) ?_ | refine guard_pos (by omega) ?_ | refine guard_neg (by omega) ?_ | refine cond_ifn ?_ ?_ | refine cond_waysn ?_ ?_ | refine guard_ifn ?_ ?_ | refine guard_waysn ?_ ?_ | refine cond_if ?_ ?_ | refine cond_ways ?_ ?_ | refine guard_if ?_ ?_ | refine guard_ways ?_ ?_) <;> intro _) | simp (maxSteps := 1000000) (disch := omega) only [go_sem, Nat.reduceAdd, Nat.reduceMul, Nat.reduceSub, Nat.reduceLeDiff, Nat.reduceEqDiff, Nat.reduceBEq, ↓reduceIte, reduceCtorEq, Int.reduceEq, Int.reduceLE, Int.reduceLT, Int.reduceAdd, Int.reduceSub, Int.reduceNeg, Int.reduceToNat, Int.reduceNe, Nat.reducePow, Nat.reduceShiftRight, Nat.reduceMod, Tm.pv, *])
      refine fin_tmp (.inr rfl) ?_
      have h3 : max (looseA kind args.length 0 args - q) 0 = v := by omega
      simp [upd, Tm.loose, looseR, h3, k1, e5]
end
section
set_option maxRecDepth 20000
attribute [local go_sem] pv_len pv_take Nat.add_assoc tm_len tm_take
def sameB (s t : ByteArray) : Bool := s.toList == t.toList
theorem fold_sameB {s t : ByteArray} : (s.toList == t.toList) = sameB s t := nr rfl
mutual
def Tm.same : Tm → Tm → Bool
  | .mk k n s ls xs, .mk k' n' s' ls' ys => decide (k = k') && (decide (n = n') && (sameB s s' && (decide (ls.length = ls'.length) && (decide (xs.length = ys.length) && (sameL ls ls' && sameT xs ys)))))
def sameT : List Tm → List Tm → Bool
  | x :: xs, y :: ys => x.same y && sameT xs ys
  | _, _ => true
end
theorem sameT_take : ∀ (xs ys : List Tm) (i : Nat) (h : i < xs.length) (h2 : i < ys.length), sameT (xs.take (i + 1)) (ys.take (i + 1)) = (sameT (xs.take i) (ys.take i) && xs[i].same ys[i])
  | x :: xs, y :: ys, 0, h, h2 => by simp [sameT]
  | x :: xs, y :: ys, i + 1, h, h2 => by
    have := sameT_take xs ys i (by simpa using h) (by simpa using h2)
    simp only [List.take_succ_cons, sameT, List.getElem_cons_succ, this, Bool.and_assoc]
theorem sameT_false : ∀ (xs ys : List Tm) (i : Nat) (h : i < xs.length) (h2 : i < ys.length), xs[i].same ys[i] = false → sameT xs ys = false
  | x :: xs, y :: ys, 0, h, h2, e => by simp at e; simp [sameT, e]
  | x :: xs, y :: ys, i + 1, h, h2, e => by
    have := sameT_false xs ys i (by simpa using h) (by simpa using h2) (by simpa using e)
    simp [sameT, this]
set_option maxHeartbeats 8000000 in
theorem SameTerm_p : ∀ (fuel : Nat) (a b : Tm), a.size ≤ fuel → PPure Try.prog F.ref00_SameTerm [.agg a.pv, .agg b.pv] (.sc (.bool (a.same b))) := by
  intro fuel
  induction fuel with
  | zero => intro l _ h; have := size_pos l; omega
  | succ fuel ih =>
    intro a b hf
    cases a with
    | mk k n s ls xs =>
    cases b with
    | mk k' n' s' ls' ys =>
    simp only [Tm.size] at hf
    refine pure_by is_ref00_SameTerm (by simp) rfl fun hb nx => ?_
    have hb0 : (xs.length ≤ 9223372036854775807 ∧ ys.length ≤ 9223372036854775807) ∧ ls.length ≤ 9223372036854775807 ∧ ls'.length ≤ 9223372036854775807 := by simp [Tm.pv, bndL, PV.bnd] at hb; omega
    repeat' (first | ((with_reducible first | refine cond_pos (by omega) ?_ | refine cond_neg (by omega) ?_ | refine guard_pos (by omega) ?_ | refine guard_neg (by omega) ?_ | refine cond_ifn ?_ ?_ | refine cond_waysn ?_ ?_ | refine guard_ifn ?_ ?_ | refine guard_waysn ?_ ?_ | refine cond_if ?_ ?_ | refine cond_ways ?_ ?_ | refine guard_if ?_ ?_ | refine guard_ways ?_ ?_) <;> intro _) | simp (maxSteps := 1000000) (disch := omega) only [go_sem, Nat.reduceAdd, Nat.reduceMul, Nat.reduceSub, Nat.reduceLeDiff, Nat.reduceEqDiff, Nat.reduceBEq, ↓reduceIte, reduceCtorEq, Int.reduceEq, Int.reduceLE, Int.reduceLT, Int.reduceAdd, Int.reduceSub, Int.reduceNeg, Int.reduceToNat, Int.reduceNe, Nat.reducePow, Nat.reduceShiftRight, Nat.reduceMod, mc_ref00_SameTerm, Tm.pv, strBin, fold_sameB, *])
    all_goals (try (refine fin_tmp (.inr rfl) ?_; (first | rfl | (simp (disch := omega) only [go_sem, Nat.reduceMul, Nat.reduceSub, Nat.reduceShiftRight, Nat.reduceMod, Nat.reduceEqDiff, Nat.reduceAdd, ↓reduceIte, Nat.reduceLeDiff, Tm.same, *]; done) | (simp [Tm.same, upd, *]; done) | (simp [Tm.same, upd, *]; omega))))
    refine c_loopW 9223354444668731440 (by kernel_rfl) (fun j f H m => ∃ i : Nat, j = ls.length - i ∧ i ≤ ls.length ∧ f 5 = .sc (.int .i64 i) ∧ sameL (ls.take i) (ls'.take i) = true) _ ⟨0, rfl, (by first | assumption | omega | rfl | (simp (disch := omega) only [go_sem, Nat.reduceMul, Nat.reduceSub, Nat.reduceShiftRight, Nat.reduceMod, Nat.reduceEqDiff, Nat.reduceAdd, ↓reduceIte, Nat.reduceLeDiff, *] <;> omega)), (by first | assumption | omega | rfl | (simp (disch := omega) only [go_sem, Nat.reduceMul, Nat.reduceSub, Nat.reduceShiftRight, Nat.reduceMod, Nat.reduceEqDiff, Nat.reduceAdd, ↓reduceIte, Nat.reduceLeDiff, *] <;> omega)), rfl⟩ ?_
    rintro _ f H m ⟨i, rfl, hi, e5, hs⟩
    by_cases hlt : i < ls.length
    · have hlt2 : i < ls'.length := by omega
      have eg : ls[i]? = some ls[i] := List.getElem?_eq_getElem hlt
      have eg2 : ls'[i]? = some ls'[i] := List.getElem?_eq_getElem hlt2
      have hn := nodesL_mem ls i hlt
      have ht := sameL_take ls ls' i hlt hlt2
      have hq := sameL_false ls ls' i hlt hlt2
      clear ih
      repeat' (first | ((with_reducible first | refine cond_pos (by omega) ?_ | refine cond_neg (by omega) ?_ | refine guard_pos (by omega) ?_ | refine guard_neg (by omega) ?_ | refine cond_ifn ?_ ?_ | refine cond_waysn ?_ ?_ | refine guard_ifn ?_ ?_ | refine guard_waysn ?_ ?_ | refine cond_if ?_ ?_ | refine cond_ways ?_ ?_ | refine guard_if ?_ ?_ | refine guard_ways ?_ ?_) <;> intro _) | (((with_reducible refine call_id ?_); (first | (refine call_pure (SameLevel_p _ ls[i] ls'[i] (Nat.le_refl _)) ?_)))) | simp (maxSteps := 1000000) (disch := omega) only [go_sem, Nat.reduceAdd, Nat.reduceMul, Nat.reduceSub, Nat.reduceLeDiff, Nat.reduceEqDiff, Nat.reduceBEq, ↓reduceIte, reduceCtorEq, Int.reduceEq, Int.reduceLE, Int.reduceLT, Int.reduceAdd, Int.reduceSub, Int.reduceNeg, Int.reduceToNat, Int.reduceNe, Nat.reducePow, Nat.reduceShiftRight, Nat.reduceMod, Lv.pv, *])
      · rename_i h0
        rw [h0] at hq
        (refine fin_tmp (.inr rfl) ?_; (first | rfl | (simp (disch := omega) only [go_sem, Nat.reduceMul, Nat.reduceSub, Nat.reduceShiftRight, Nat.reduceMod, Nat.reduceEqDiff, Nat.reduceAdd, ↓reduceIte, Nat.reduceLeDiff, Tm.same, *]; done) | (simp [Tm.same, upd, *]; done) | (simp [Tm.same, upd, *]; omega)))
      · rename_i h0
        refine Nx.mk (ls.length - (i + 1)) (by first | assumption | omega | rfl | (simp (disch := omega) only [go_sem, Nat.reduceMul, Nat.reduceSub, Nat.reduceShiftRight, Nat.reduceMod, Nat.reduceEqDiff, Nat.reduceAdd, ↓reduceIte, Nat.reduceLeDiff, *] <;> omega)) ⟨i + 1, (by first | assumption | omega | rfl | (simp (disch := omega) only [go_sem, Nat.reduceMul, Nat.reduceSub, Nat.reduceShiftRight, Nat.reduceMod, Nat.reduceEqDiff, Nat.reduceAdd, ↓reduceIte, Nat.reduceLeDiff, *] <;> omega)), (by first | assumption | omega | rfl | (simp (disch := omega) only [go_sem, Nat.reduceMul, Nat.reduceSub, Nat.reduceShiftRight, Nat.reduceMod, Nat.reduceEqDiff, Nat.reduceAdd, ↓reduceIte, Nat.reduceLeDiff, *] <;> omega)), (by first | assumption | omega | rfl | (simp (disch := omega) only [go_sem, Nat.reduceMul, Nat.reduceSub, Nat.reduceShiftRight, Nat.reduceMod, Nat.reduceEqDiff, Nat.reduceAdd, ↓reduceIte, Nat.reduceLeDiff, *] <;> omega)), by rw [ht, hs, h0]; rfl⟩
    · obtain rfl : i = ls.length := by omega
      have e : ls'.take ls.length = ls' := List.take_of_length_le (by omega)
      rw [List.take_length, e] at hs
      repeat' (first | ((with_reducible first | refine cond_pos (by omega) ?_ | refine cond_neg (by omega) ?_ | refine guard_pos (by omega) ?_ | refine guard_neg (by omega) ?_ | refine cond_ifn ?_ ?_ | refine cond_waysn ?_ ?_ | refine guard_ifn ?_ ?_ | refine guard_waysn ?_ ?_ | refine cond_if ?_ ?_ | refine cond_ways ?_ ?_ | refine guard_if ?_ ?_ | refine guard_ways ?_ ?_) <;> intro _) | simp (maxSteps := 1000000) (disch := omega) only [go_sem, Nat.reduceAdd, Nat.reduceMul, Nat.reduceSub, Nat.reduceLeDiff, Nat.reduceEqDiff, Nat.reduceBEq, ↓reduceIte, reduceCtorEq, Int.reduceEq, Int.reduceLE, Int.reduceLT, Int.reduceAdd, Int.reduceSub, Int.reduceNeg, Int.reduceToNat, Int.reduceNe, Nat.reducePow, Nat.reduceShiftRight, Nat.reduceMod, *])
      refine c_loopW 4835694055086479844048976 (by kernel_rfl) (fun j f H m => ∃ i : Nat, j = xs.length - i ∧ i ≤ xs.length ∧ f 6 = .sc (.int .i64 i) ∧ sameT (xs.take i) (ys.take i) = true) _ ⟨0, rfl, (by first | assumption | omega | rfl | (simp (disch := omega) only [go_sem, Nat.reduceMul, Nat.reduceSub, Nat.reduceShiftRight, Nat.reduceMod, Nat.reduceEqDiff, Nat.reduceAdd, ↓reduceIte, Nat.reduceLeDiff, *] <;> omega)), (by first | assumption | omega | rfl | (simp (disch := omega) only [go_sem, Nat.reduceMul, Nat.reduceSub, Nat.reduceShiftRight, Nat.reduceMod, Nat.reduceEqDiff, Nat.reduceAdd, ↓reduceIte, Nat.reduceLeDiff, *] <;> omega)), rfl⟩ ?_
      rintro _ f2 H2 m2 ⟨i, rfl, hi2, e6, hs2⟩
      by_cases hlt2 : i < xs.length
      · have hlt3 : i < ys.length := by omega
        have eg : xs[i]? = some xs[i] := List.getElem?_eq_getElem hlt2
        have eg2 : ys[i]? = some ys[i] := List.getElem?_eq_getElem hlt3
        have hn := sizeL_mem xs i hlt2
        have ht := sameT_take xs ys i hlt2 hlt3
        have hq := sameT_false xs ys i hlt2 hlt3
        repeat' (first | ((with_reducible first | refine cond_pos (by omega) ?_ | refine cond_neg (by omega) ?_ | refine guard_pos (by omega) ?_ | refine guard_neg (by omega) ?_ | refine cond_ifn ?_ ?_ | refine cond_waysn ?_ ?_ | refine guard_ifn ?_ ?_ | refine guard_waysn ?_ ?_ | refine cond_if ?_ ?_ | refine cond_ways ?_ ?_ | refine guard_if ?_ ?_ | refine guard_ways ?_ ?_) <;> intro _) | (((with_reducible refine call_id ?_); (first | (refine call_pure (ih xs[i] ys[i] (by omega)) ?_)))) | simp (maxSteps := 1000000) (disch := omega) only [go_sem, Nat.reduceAdd, Nat.reduceMul, Nat.reduceSub, Nat.reduceLeDiff, Nat.reduceEqDiff, Nat.reduceBEq, ↓reduceIte, reduceCtorEq, Int.reduceEq, Int.reduceLE, Int.reduceLT, Int.reduceAdd, Int.reduceSub, Int.reduceNeg, Int.reduceToNat, Int.reduceNe, Nat.reducePow, Nat.reduceShiftRight, Nat.reduceMod, Tm.pv, *])
        · rename_i h0
          rw [h0] at hq
          (refine fin_tmp (.inr rfl) ?_; (first | rfl | (simp (disch := omega) only [go_sem, Nat.reduceMul, Nat.reduceSub, Nat.reduceShiftRight, Nat.reduceMod, Nat.reduceEqDiff, Nat.reduceAdd, ↓reduceIte, Nat.reduceLeDiff, Tm.same, *]; done) | (simp [Tm.same, upd, *]; done) | (simp [Tm.same, upd, *]; omega)))
        · rename_i h0
          refine Nx.mk (xs.length - (i + 1)) (by first | assumption | omega | rfl | (simp (disch := omega) only [go_sem, Nat.reduceMul, Nat.reduceSub, Nat.reduceShiftRight, Nat.reduceMod, Nat.reduceEqDiff, Nat.reduceAdd, ↓reduceIte, Nat.reduceLeDiff, *] <;> omega)) ⟨i + 1, (by first | assumption | omega | rfl | (simp (disch := omega) only [go_sem, Nat.reduceMul, Nat.reduceSub, Nat.reduceShiftRight, Nat.reduceMod, Nat.reduceEqDiff, Nat.reduceAdd, ↓reduceIte, Nat.reduceLeDiff, *] <;> omega)), (by first | assumption | omega | rfl | (simp (disch := omega) only [go_sem, Nat.reduceMul, Nat.reduceSub, Nat.reduceShiftRight, Nat.reduceMod, Nat.reduceEqDiff, Nat.reduceAdd, ↓reduceIte, Nat.reduceLeDiff, *] <;> omega)), (by first | assumption | omega | rfl | (simp (disch := omega) only [go_sem, Nat.reduceMul, Nat.reduceSub, Nat.reduceShiftRight, Nat.reduceMod, Nat.reduceEqDiff, Nat.reduceAdd, ↓reduceIte, Nat.reduceLeDiff, *] <;> omega)), by rw [ht, hs2, h0]; rfl⟩
      · obtain rfl : i = xs.length := by omega
        have e : ys.take xs.length = ys := List.take_of_length_le (by omega)
        rw [List.take_length, e] at hs2
        repeat' (first | ((with_reducible first | refine cond_pos (by omega) ?_ | refine cond_neg (by omega) ?_ | refine guard_pos (by omega) ?_ | refine guard_neg (by omega) ?_ | refine cond_ifn ?_ ?_ | refine cond_waysn ?_ ?_ | refine guard_ifn ?_ ?_ | refine guard_waysn ?_ ?_ | refine cond_if ?_ ?_ | refine cond_ways ?_ ?_ | refine guard_if ?_ ?_ | refine guard_ways ?_ ?_) <;> intro _) | simp (maxSteps := 1000000) (disch := omega) only [go_sem, Nat.reduceAdd, Nat.reduceMul, Nat.reduceSub, Nat.reduceLeDiff, Nat.reduceEqDiff, Nat.reduceBEq, ↓reduceIte, reduceCtorEq, Int.reduceEq, Int.reduceLE, Int.reduceLT, Int.reduceAdd, Int.reduceSub, Int.reduceNeg, Int.reduceToNat, Int.reduceNe, Nat.reducePow, Nat.reduceShiftRight, Nat.reduceMod, *])
        (refine fin_tmp (.inr rfl) ?_; (first | rfl | (simp (disch := omega) only [go_sem, Nat.reduceMul, Nat.reduceSub, Nat.reduceShiftRight, Nat.reduceMod, Nat.reduceEqDiff, Nat.reduceAdd, ↓reduceIte, Nat.reduceLeDiff, Tm.same, *]; done) | (simp [Tm.same, upd, *]; done) | (simp [Tm.same, upd, *]; omega)))
end
section
set_option maxRecDepth 20000
attribute [local go_sem] pv_len pv_take Nat.add_assoc tm_len tm_take
theorem right_formed {t : Tm} {np b : Int} (h : t.right np b = true) : t.formed np (min b 1125899906842624) = true ∧ 0 ≤ b ∧ 0 ≤ np ∧ np ≤ 4 ∧ t.nodes ≤ 2000 := by
  simp only [Tm.right, Bool.and_eq_true, decide_eq_true_eq] at h
  exact ⟨h.2.2.2.2, h.1, h.2.1, h.2.2.1, h.2.2.2.1⟩
theorem ref04_Any_p (t : Tm) (np : Int) : PPure Try.prog F.ref04_Any [.agg t.pv, .sc (.int .i64 np)] (.sc (.bool (t.right np 1125899906842624))) := by
  refine pure_by is_ref04_Any (by simp) rfl fun hb nx => ?_
  repeat' (first | ((with_reducible first | refine cond_pos (by omega) ?_ | refine cond_neg (by omega) ?_ | refine guard_pos (by omega) ?_ | refine guard_neg (by omega) ?_ | refine cond_ifn ?_ ?_ | refine cond_waysn ?_ ?_ | refine guard_ifn ?_ ?_ | refine guard_waysn ?_ ?_ | refine cond_if ?_ ?_ | refine cond_ways ?_ ?_ | refine guard_if ?_ ?_ | refine guard_ways ?_ ?_) <;> intro _) | (((with_reducible refine call_id ?_); (first | (refine call_pure (ref04_Right_p t np 1125899906842624) ?_)))) | simp (maxSteps := 1000000) (disch := omega) only [go_sem, Nat.reduceAdd, Nat.reduceMul, Nat.reduceSub, Nat.reduceLeDiff, Nat.reduceEqDiff, Nat.reduceBEq, ↓reduceIte, reduceCtorEq, Int.reduceEq, Int.reduceLE, Int.reduceLT, Int.reduceAdd, Int.reduceSub, Int.reduceNeg, Int.reduceToNat, Int.reduceNe, Nat.reducePow, Nat.reduceShiftRight, Nat.reduceMod, mc_ref04_Any, *])
  all_goals (refine fin_tmp (.inr rfl) ?_; simp [upd, *])
def looseT (t : Tm) : Int := if t.right 4 1125899906842624 = true then t.loose else 0
theorem ref04_Loose_p (t : Tm) : PPure Try.prog F.ref04_Loose [.agg t.pv] (.sc (.int .i64 (looseT t))) := by
  refine pure_by is_ref04_Loose (by simp) rfl fun hb nx => ?_
  by_cases hr : t.right 4 1125899906842624 = true
  · have hf := right_formed hr
    have hs := size_nodes t
    have hl := loose_bd 4 t _ (by omega) hf.1
    have e : looseR 0 t = t.loose := by unfold looseR; omega
    have c2 := ref04_loose_p 4 t.size t _ 0 (Nat.le_refl _) (by omega) (by omega) (by omega) (by omega) hf.1
    have c1 := ref04_Any_p t 4
    rw [e] at c2
    rw [hr] at c1
    clear hf hs hl e
    repeat' (first | ((with_reducible first | refine cond_pos (by omega) ?_ | refine cond_neg (by omega) ?_ | refine guard_pos (by omega) ?_ | refine guard_neg (by omega) ?_ | refine cond_ifn ?_ ?_ | refine cond_waysn ?_ ?_ | refine guard_ifn ?_ ?_ | refine guard_waysn ?_ ?_ | refine cond_if ?_ ?_ | refine cond_ways ?_ ?_ | refine guard_if ?_ ?_ | refine guard_ways ?_ ?_) <;> intro _) | (((with_reducible refine call_id ?_); (first | (refine call_pure (c1) ?_) | (refine call_pure (c2) ?_)))) | simp (maxSteps := 1000000) (disch := omega) only [go_sem, Nat.reduceAdd, Nat.reduceMul, Nat.reduceSub, Nat.reduceLeDiff, Nat.reduceEqDiff, Nat.reduceBEq, ↓reduceIte, reduceCtorEq, Int.reduceEq, Int.reduceLE, Int.reduceLT, Int.reduceAdd, Int.reduceSub, Int.reduceNeg, Int.reduceToNat, Int.reduceNe, Nat.reducePow, Nat.reduceShiftRight, Nat.reduceMod, mc_ref04_Loose, *])
    all_goals (refine fin_tmp (.inr rfl) ?_; simp [upd, looseT, *])
  · have c1 := ref04_Any_p t 4
    rw [Bool.not_eq_true] at hr
    rw [hr] at c1
    repeat' (first | ((with_reducible first | refine cond_pos (by omega) ?_ | refine cond_neg (by omega) ?_ | refine guard_pos (by omega) ?_ | refine guard_neg (by omega) ?_ | refine cond_ifn ?_ ?_ | refine cond_waysn ?_ ?_ | refine guard_ifn ?_ ?_ | refine guard_waysn ?_ ?_ | refine cond_if ?_ ?_ | refine cond_ways ?_ ?_ | refine guard_if ?_ ?_ | refine guard_ways ?_ ?_) <;> intro _) | (((with_reducible refine call_id ?_); (first | (refine call_pure (c1) ?_)))) | simp (maxSteps := 1000000) (disch := omega) only [go_sem, Nat.reduceAdd, Nat.reduceMul, Nat.reduceSub, Nat.reduceLeDiff, Nat.reduceEqDiff, Nat.reduceBEq, ↓reduceIte, reduceCtorEq, Int.reduceEq, Int.reduceLE, Int.reduceLT, Int.reduceAdd, Int.reduceSub, Int.reduceNeg, Int.reduceToNat, Int.reduceNe, Nat.reducePow, Nat.reduceShiftRight, Nat.reduceMod, mc_ref04_Loose, *])
    all_goals (refine fin_tmp (.inr rfl) ?_; simp [upd, looseT, *])
end
section
set_option maxRecDepth 20000
attribute [local go_sem] pv_len pv_take id_ne id_ne' id_ne2 List.append_assoc Nat.add_assoc pv_one
def slB (f : Bool) (sz : Nat) (es : List (List PV)) : PV := if f = true then .fsl sz es else .sl sz es
def Lv.pvB (f : Bool) : Lv → List PV
  | .mk k n args => [.sc (.int .i64 k), .sc (.int .i64 n), slB f 3 (args.map (Lv.pvB f))]
theorem pvB_len (f : Bool) (l : Lv) : (l.pvB f).length = 3 := by cases l; simp [Lv.pvB]
attribute [local go_sem] pvB_len
theorem pvB_take (f : Bool) (l : Lv) : (l.pvB f).take 3 = l.pvB f := List.take_of_length_le (by rw [pvB_len]; omega)
attribute [local go_sem] pvB_take
theorem slB_one (f : Bool) (sz : Nat) (es : List (List PV)) : (slB f sz es).one = true := by cases f <;> rfl
theorem pvB_one (f : Bool) (l : Lv) : (l.pvB f).all PV.one = true := by
  cases l
  simp only [Lv.pvB, List.all_cons, slB_one, List.all_nil, Bool.and_true]
  rfl
attribute [local go_sem] pvB_one
theorem slB_weak (f : Bool) (sz : Nat) (es : List (List PV)) : Weak (slB f sz es) (.sl sz es) := by
  cases f
  · exact .refl _
  · exact Weak.fsl sz es
theorem WeakL.append : ∀ {a b c d : List PV}, WeakL a b → WeakL c d → WeakL (a ++ c) (b ++ d)
  | [], [], _, _, _, h => h
  | _ :: _, _ :: _, _, _, h, h2 => ⟨h.1, WeakL.append h.2 h2⟩
  | [], _ :: _, _, _, h, _ => h.elim
  | _ :: _, [], _, _, h, _ => h.elim
theorem WeakL.rows {α : Type} {f g : α → List PV} : ∀ (xs : List α), (∀ x ∈ xs, WeakL (f x) (g x)) → WeakL (xs.map f).flatten (xs.map g).flatten
  | [], _ => trivial
  | x :: r, h => by
    simp only [List.map_cons, List.flatten_cons]
    exact (h x (by simp)).append (WeakL.rows r fun y hy => h y (by simp [hy]))
theorem slB_rows {α : Type} {f g : α → List PV} (b : Bool) {sz : Nat} (hg : ∀ x, (g x).length = sz) (xs : List α) (h : ∀ x ∈ xs, WeakL (f x) (g x)) : Weak (slB b sz (xs.map f)) (.sl sz (xs.map g)) := by
  refine (slB_weak b sz _).trans (Weak.sl (by simp) (fun e he => ?_) (WeakL.rows xs h))
  obtain ⟨x, _, rfl⟩ := List.mem_map.1 he
  exact hg x
theorem lv_weak (f : Bool) : ∀ (fuel : Nat) (l : Lv), l.nodes ≤ fuel → WeakL (l.pvB f) l.pv := by
  intro fuel
  induction fuel with
  | zero => intro l h; have := nodes_pos l; omega
  | succ fuel ih =>
    intro l h
    cases l with
    | mk k n args =>
    simp only [Lv.nodes] at h
    simp only [Lv.pvB, Lv.pv]
    refine ⟨.refl _, .refl _, slB_rows f pv_len args fun x hx => ih x ?_, trivial⟩
    obtain ⟨i, hi, rfl⟩ := List.getElem_of_mem hx
    have := nodesL_mem args i hi
    omega
theorem lv_weak' (f : Bool) (l : Lv) : WeakL (l.pvB f) l.pv := lv_weak f l.nodes l (Nat.le_refl _)
theorem lv_agg (f : Bool) (l : Lv) : Weak (.agg (l.pvB f)) (.agg l.pv) := Weak.agg (lv_weak' f l)
theorem imm_rows {α : Type} {f : α → List PV} : ∀ (xs : List α), (∀ x ∈ xs, immL (f x) = true) → immL (xs.map f).flatten = true
  | [], _ => rfl
  | x :: r, h => by simp only [List.map_cons, List.flatten_cons, immL_append, h x (by simp), imm_rows r fun y hy => h y (by simp [hy])]; rfl
theorem slB_imm (f : Bool) (sz : Nat) (es : List (List PV)) : (slB f sz es).imm = immL es.flatten := by cases f <;> simp [slB, PV.imm, immLL_flatten]
theorem pvB_imm' (f : Bool) : ∀ (fuel : Nat) (l : Lv), l.nodes ≤ fuel → immL (l.pvB f) = true := by
  intro fuel
  induction fuel with
  | zero => intro l h; have := nodes_pos l; omega
  | succ fuel ih =>
    intro l h
    cases l with
    | mk k n args =>
    simp only [Lv.nodes] at h
    simp only [Lv.pvB, immL, slB_imm]
    rw [imm_rows args fun x hx => ih x ?_]
    · rfl
    · obtain ⟨i, hi, rfl⟩ := List.getElem_of_mem hx
      have := nodesL_mem args i hi
      omega
theorem pvB_imm (f : Bool) (l : Lv) : immL (l.pvB f) = true := pvB_imm' f l.nodes l (Nat.le_refl _)
def halfG {α : Type} (g : α → List PV) (z : List Value) (xs : List α) (n : Nat) : List PV := xs.flatMap g ++ zeros z n
theorem flat_lenG {α : Type} (f : α → List PV) (sz : Nat) (hf : ∀ x, (f x).length = sz) : ∀ xs : List α, (xs.flatMap f).length = xs.length * sz
  | [] => by simp
  | x :: r => by simp only [List.flatMap_cons, List.length_append, hf, flat_lenG f sz hf r, List.length_cons, Nat.succ_mul]; omega
theorem chunks_flat {α : Type} (f : α → List PV) (sz : Nat) (hf : ∀ x, (f x).length = sz) : ∀ xs : List α, chunks sz xs.length (xs.flatMap f) = xs.map f
  | [] => rfl
  | x :: r => by
    simp only [List.length_cons, chunks, List.flatMap_cons, List.map_cons]
    rw [List.take_left' (hf x), List.drop_left' (hf x), chunks_flat f sz hf r]
theorem halfG_len {α : Type} {g : α → List PV} {z : List Value} {sz : Nat} (hg : ∀ x, (g x).length = sz) (hz : z.length = sz) (xs : List α) (n : Nat) : (halfG g z xs n).length = xs.length * sz + n * sz := by
  rw [halfG, List.length_append, flat_lenG g sz hg, zeros_len, hz]
theorem halfG_set {α : Type} {g : α → List PV} {z : List Value} {sz : Nat} (hg : ∀ x, (g x).length = sz) (hz : z.length = sz) (xs : List α) (x : α) (n : Nat) : (halfG g z xs (n + 1)).take (xs.length * sz) ++ (g x ++ (halfG g z xs (n + 1)).drop (xs.length * sz + sz)) = halfG g z (xs ++ [x]) n := by
  have hl := flat_lenG g sz hg xs
  simp only [halfG, zeros]
  rw [List.take_left' hl, ← List.drop_drop, List.drop_left' hl, List.drop_left' (by rw [List.length_map]; exact hz), List.flatMap_append]
  simp
theorem halfG_set' {α : Type} {g : α → List PV} {z : List Value} {sz : Nat} (hg : ∀ x, (g x).length = sz) (hz : z.length = sz) (xs : List α) (i n : Nat) (x : α) (hi : i < n) (h : xs.length = i) : (halfG g z xs (n - i)).take (i * sz) ++ (g x ++ (halfG g z xs (n - i)).drop (i * sz + sz)) = halfG g z (xs ++ [x]) (n - (i + 1)) := by
  have e : n - i = (n - (i + 1)) + 1 := by omega
  have := halfG_set hg hz xs x (n - (i + 1))
  rw [h] at this
  rw [e]
  exact this
theorem frzF_sc (k : Nat) (H : Nat → Option PObj) (v : Value) : frzF k H (.sc v) = .sc v := by cases k <;> rfl
theorem frzF_slB (k : Nat) (H : Nat → Option PObj) (f : Bool) (sz : Nat) (es : List (List PV)) : frzF k H (slB f sz es) = slB f sz es := by cases k <;> cases f <;> rfl
theorem frzF_pvB (k : Nat) (H : Nat → Option PObj) (f : Bool) (l : Lv) : (l.pvB f).map (frzF k H) = l.pvB f := by
  cases l
  simp [Lv.pvB, frzF_sc, frzF_slB]
theorem frzF_flat {α : Type} {g : α → List PV} {k : Nat} {H : Nat → Option PObj} (hg : ∀ x, (g x).map (frzF k H) = g x) : ∀ xs : List α, (xs.flatMap g).map (frzF k H) = xs.flatMap g
  | [] => rfl
  | x :: r => by simp only [List.flatMap_cons, List.map_append, hg, frzF_flat hg r]
theorem frzF_row {α : Type} {g : α → List PV} {k sz : Nat} {H : Nat → Option PObj} {id : Nat} {xs : List α} {w : Bool} (hg : ∀ x, (g x).length = sz) (hf : ∀ x, (g x).map (frzF k H) = g x) (h : H id = some ⟨xs.flatMap g, w⟩) : frzF (k + 1) H (.osl id 0 xs.length sz) = .fsl sz (xs.map g) := by
  have hl := flat_lenG g sz hg xs
  simp only [frzF, h, List.drop_zero]
  rw [if_pos (by omega), List.take_of_length_le (by omega), frzF_flat hf, chunks_flat g sz hg]
theorem frzF_agg1 {k : Nat} {H : Nat → Option PObj} {xs : List PV} : frzF (k + 1) H (.agg xs) = .agg (xs.map (frzF k H)) := rfl
theorem Weak.nilF (sz : Nat) : Weak (.sc (.slice none 0 0)) (.fsl sz []) := fun V v h => by
  refine .fsl sz [] v (fun b off len cap _ he => absurd rfl he) (Weak.nil sz V v h)
theorem Weak.nilB (f : Bool) (sz : Nat) : Weak (.sc (.slice none 0 0)) (slB f sz []) := by
  cases f
  · exact Weak.nil sz
  · exact Weak.nilF sz
abbrev z3 : List Value := [.int .i64 0, .int .i64 0, .slice none 0 0]
set_option maxHeartbeats 8000000 in
theorem clone_pF : ∀ (fuel : Nat) (l : Lv), l.nodes ≤ fuel → l.nodes ≤ 2 ^ 40 → PPure Try.prog F.level_clone [.ptr l.pv] (.agg (l.pvB true)) := by
  intro fuel
  induction fuel with
  | zero => intro l h; have := nodes_pos l; omega
  | succ fuel ih =>
    intro l hf hm
    cases l with
    | mk k n args =>
    simp only [Lv.nodes] at hf hm
    refine pure_by is_level_clone (by simp) (by simp [PV.imm, pvB_imm]) fun hb nx => ?_
    have hb0 := len_nodesL args
    by_cases h0 : args.length = 0
    · obtain rfl : args = [] := List.eq_nil_of_length_eq_zero h0
      repeat' (first | ((with_reducible first | refine cond_pos (by omega) ?_ | refine cond_neg (by omega) ?_ | refine guard_pos (by omega) ?_ | refine guard_neg (by omega) ?_ | refine cond_ifn ?_ ?_ | refine cond_waysn ?_ ?_ | refine guard_ifn ?_ ?_ | refine guard_waysn ?_ ?_ | refine cond_if ?_ ?_ | refine cond_ways ?_ ?_ | refine guard_if ?_ ?_ | refine guard_ways ?_ ?_) <;> intro _) | simp (maxSteps := 1000000) (disch := omega) only [go_sem, Nat.reduceAdd, Nat.reduceMul, Nat.reduceSub, Nat.reduceLeDiff, Nat.reduceEqDiff, Nat.reduceBEq, ↓reduceIte, reduceCtorEq, Int.reduceEq, Int.reduceLE, Int.reduceLT, Int.reduceAdd, Int.reduceSub, Int.reduceNeg, Int.reduceToNat, Int.reduceNe, Nat.reducePow, Nat.reduceShiftRight, Nat.reduceMod, mc_level_clone, Lv.pv, *])
      refine c_rounds 1 ?_
      repeat' (first | ((with_reducible first | refine cond_pos (by omega) ?_ | refine cond_neg (by omega) ?_ | refine guard_pos (by omega) ?_ | refine guard_neg (by omega) ?_ | refine cond_ifn ?_ ?_ | refine cond_waysn ?_ ?_ | refine guard_ifn ?_ ?_ | refine guard_waysn ?_ ?_ | refine cond_if ?_ ?_ | refine cond_ways ?_ ?_ | refine guard_if ?_ ?_ | refine guard_ways ?_ ?_) <;> intro _) | simp (maxSteps := 1000000) (disch := omega) only [go_sem, Nat.reduceAdd, Nat.reduceMul, Nat.reduceSub, Nat.reduceLeDiff, Nat.reduceEqDiff, Nat.reduceBEq, ↓reduceIte, reduceCtorEq, Int.reduceEq, Int.reduceLE, Int.reduceLT, Int.reduceAdd, Int.reduceSub, Int.reduceNeg, Int.reduceToNat, Int.reduceNe, Nat.reducePow, Nat.reduceShiftRight, Nat.reduceMod, rounds_next, *])
      refine fin_retF (r0 := .agg [.sc (.int .i64 k), .sc (.int .i64 n), .sc (.slice none 0 0)]) 2 (by (simp (disch := omega) only [go_sem, Nat.reduceMul, Nat.reduceSub, Nat.reduceShiftRight, Nat.reduceMod, Nat.reduceEqDiff, Nat.reduceAdd, ↓reduceIte, Nat.reduceLeDiff, *]); all_goals rfl) ?_
      rw [frzF_agg1]
      simp only [List.map_cons, List.map_nil, Lv.pvB]
      exact Weak.agg ⟨.of_eq (frzF_sc _ _ _), .of_eq (frzF_sc _ _ _), .trans (.of_eq (frzF_sc _ _ _)) (Weak.nilB true 3), trivial⟩
    · have hz1 : 40 * (args.length : Int) ≤ 2 ^ 47 := by omega
      have hz2 : (args.length : Int) ≤ 2 ^ 47 := by omega
      repeat' (first | ((with_reducible first | refine cond_pos (by omega) ?_ | refine cond_neg (by omega) ?_ | refine guard_pos (by omega) ?_ | refine guard_neg (by omega) ?_ | refine cond_ifn ?_ ?_ | refine cond_waysn ?_ ?_ | refine guard_ifn ?_ ?_ | refine guard_waysn ?_ ?_ | refine cond_if ?_ ?_ | refine cond_ways ?_ ?_ | refine guard_if ?_ ?_ | refine guard_ways ?_ ?_) <;> intro _) | simp (maxSteps := 1000000) (disch := omega) only [go_sem, Nat.reduceAdd, Nat.reduceMul, Nat.reduceSub, Nat.reduceLeDiff, Nat.reduceEqDiff, Nat.reduceBEq, ↓reduceIte, reduceCtorEq, Int.reduceEq, Int.reduceLE, Int.reduceLT, Int.reduceAdd, Int.reduceSub, Int.reduceNeg, Int.reduceToNat, Int.reduceNe, Nat.reducePow, Nat.reduceShiftRight, Nat.reduceMod, mc_level_clone, Lv.pv, hz1, hz2, and_self, *])
      refine c_loopW 140733193388048 (by kernel_rfl) (fun j f H m => ∃ i : Nat, j = args.length - i ∧ i ≤ args.length ∧ f 32 = .sc (.int .i64 i) ∧ nx + 23 < m ∧ H nx = some ⟨[.sc (.int .i64 0), .sc (.int .i64 0), .sc (.slice none 0 0)], true⟩ ∧ H (nx + 10) = some ⟨[.sc (.int .i64 k), .sc (.int .i64 n), .osl (nx + 23) 0 args.length 3], true⟩ ∧ H (nx + 23) = some ⟨halfG (Lv.pvB true) z3 (args.take i) (args.length - i), true⟩) _ ⟨0, rfl, (by first | assumption | omega | rfl | (simp (disch := omega) only [go_sem, Nat.reduceMul, Nat.reduceSub, Nat.reduceShiftRight, Nat.reduceMod, Nat.reduceEqDiff, Nat.reduceAdd, ↓reduceIte, Nat.reduceLeDiff, *] <;> omega)), (by first | assumption | omega | rfl | (simp (disch := omega) only [go_sem, Nat.reduceMul, Nat.reduceSub, Nat.reduceShiftRight, Nat.reduceMod, Nat.reduceEqDiff, Nat.reduceAdd, ↓reduceIte, Nat.reduceLeDiff, *] <;> omega)), ?mm, ?r0, ?r1, ?r2⟩ ?_
      case mm => exact (by omega : nx + 23 < nx + 32)
      case r0 => simp [upd]
      case r1 => simp [upd]
      case r2 => simp [upd, halfG]
      rintro _ f H m ⟨i, rfl, hi, e32, hm2, hH0, hH1, hH⟩
      by_cases hlt : i < args.length
      · have eg : args[i]? = some args[i] := List.getElem?_eq_getElem hlt
        have hn := nodesL_mem args i hlt
        have hhl := halfG_len (pvB_len true) (rfl : z3.length = 3) (args.take i) (args.length - i)
        rw [List.length_take, Nat.min_eq_left hi] at hhl
        have hhs := halfG_set' (pvB_len true) (rfl : z3.length = 3) (args.take i) i args.length args[i] hlt (by rw [List.length_take, Nat.min_eq_left hi])
        have hc := ih args[i] (by omega) (by omega)
        have hle : i * 3 + 3 ≤ i * 3 + (args.length - i) * 3 := by omega
        rw [← List.take_succ_eq_append_getElem hlt] at hhs
        clear ih
        repeat' (first | ((with_reducible first | refine cond_pos (by omega) ?_ | refine cond_neg (by omega) ?_ | refine guard_pos (by omega) ?_ | refine guard_neg (by omega) ?_ | refine cond_ifn ?_ ?_ | refine cond_waysn ?_ ?_ | refine guard_ifn ?_ ?_ | refine guard_waysn ?_ ?_ | refine cond_if ?_ ?_ | refine cond_ways ?_ ?_ | refine guard_if ?_ ?_ | refine guard_ways ?_ ?_) <;> intro _) | (((with_reducible refine call_id ?_); (first | (refine call_pure (hc) ?_)))) | simp (maxSteps := 1000000) (disch := omega) only [go_sem, Nat.reduceAdd, Nat.reduceMul, Nat.reduceSub, Nat.reduceLeDiff, Nat.reduceEqDiff, Nat.reduceBEq, ↓reduceIte, reduceCtorEq, Int.reduceEq, Int.reduceLE, Int.reduceLT, Int.reduceAdd, Int.reduceSub, Int.reduceNeg, Int.reduceToNat, Int.reduceNe, Nat.reducePow, Nat.reduceShiftRight, Nat.reduceMod, Lv.pv, *])
        refine Nx.mk (args.length - (i + 1)) (by first | assumption | omega | rfl | (simp (disch := omega) only [go_sem, Nat.reduceMul, Nat.reduceSub, Nat.reduceShiftRight, Nat.reduceMod, Nat.reduceEqDiff, Nat.reduceAdd, ↓reduceIte, Nat.reduceLeDiff, *] <;> omega)) ⟨i + 1, (by first | assumption | omega | rfl | (simp (disch := omega) only [go_sem, Nat.reduceMul, Nat.reduceSub, Nat.reduceShiftRight, Nat.reduceMod, Nat.reduceEqDiff, Nat.reduceAdd, ↓reduceIte, Nat.reduceLeDiff, *] <;> omega)), (by first | assumption | omega | rfl | (simp (disch := omega) only [go_sem, Nat.reduceMul, Nat.reduceSub, Nat.reduceShiftRight, Nat.reduceMod, Nat.reduceEqDiff, Nat.reduceAdd, ↓reduceIte, Nat.reduceLeDiff, *] <;> omega)), (by first | assumption | omega | rfl | (simp (disch := omega) only [go_sem, Nat.reduceMul, Nat.reduceSub, Nat.reduceShiftRight, Nat.reduceMod, Nat.reduceEqDiff, Nat.reduceAdd, ↓reduceIte, Nat.reduceLeDiff, *] <;> omega)), (by first | assumption | omega | rfl | (simp (disch := omega) only [go_sem, Nat.reduceMul, Nat.reduceSub, Nat.reduceShiftRight, Nat.reduceMod, Nat.reduceEqDiff, Nat.reduceAdd, ↓reduceIte, Nat.reduceLeDiff, *] <;> omega)), (by first | assumption | omega | rfl | (simp (disch := omega) only [go_sem, Nat.reduceMul, Nat.reduceSub, Nat.reduceShiftRight, Nat.reduceMod, Nat.reduceEqDiff, Nat.reduceAdd, ↓reduceIte, Nat.reduceLeDiff, *] <;> omega)), (by first | assumption | omega | rfl | (simp (disch := omega) only [go_sem, Nat.reduceMul, Nat.reduceSub, Nat.reduceShiftRight, Nat.reduceMod, Nat.reduceEqDiff, Nat.reduceAdd, ↓reduceIte, Nat.reduceLeDiff, *] <;> omega)), (by first | assumption | omega | rfl | (simp (disch := omega) only [go_sem, Nat.reduceMul, Nat.reduceSub, Nat.reduceShiftRight, Nat.reduceMod, Nat.reduceEqDiff, Nat.reduceAdd, ↓reduceIte, Nat.reduceLeDiff, *] <;> omega))⟩
      · obtain rfl : i = args.length := by omega
        have h1 : halfG (Lv.pvB true) z3 (List.take args.length args) (args.length - args.length) = args.flatMap (Lv.pvB true) := by rw [List.take_length, Nat.sub_self]; simp [halfG, zeros]
        rw [h1] at hH
        clear ih
        repeat' (first | ((with_reducible first | refine cond_pos (by omega) ?_ | refine cond_neg (by omega) ?_ | refine guard_pos (by omega) ?_ | refine guard_neg (by omega) ?_ | refine cond_ifn ?_ ?_ | refine cond_waysn ?_ ?_ | refine guard_ifn ?_ ?_ | refine guard_waysn ?_ ?_ | refine cond_if ?_ ?_ | refine cond_ways ?_ ?_ | refine guard_if ?_ ?_ | refine guard_ways ?_ ?_) <;> intro _) | simp (maxSteps := 1000000) (disch := omega) only [go_sem, Nat.reduceAdd, Nat.reduceMul, Nat.reduceSub, Nat.reduceLeDiff, Nat.reduceEqDiff, Nat.reduceBEq, ↓reduceIte, reduceCtorEq, Int.reduceEq, Int.reduceLE, Int.reduceLT, Int.reduceAdd, Int.reduceSub, Int.reduceNeg, Int.reduceToNat, Int.reduceNe, Nat.reducePow, Nat.reduceShiftRight, Nat.reduceMod, Lv.pv, *])
        refine fin_retF (r0 := .agg [.sc (.int .i64 k), .sc (.int .i64 n), .osl (nx + 23) 0 args.length 3]) 2 (by (simp (disch := omega) only [go_sem, Nat.reduceMul, Nat.reduceSub, Nat.reduceShiftRight, Nat.reduceMod, Nat.reduceEqDiff, Nat.reduceAdd, ↓reduceIte, Nat.reduceLeDiff, *]); all_goals rfl) ?_
        rw [frzF_agg1]
        simp only [List.map_cons, List.map_nil, Lv.pvB]
        refine Weak.agg ⟨.of_eq (frzF_sc _ _ _), .of_eq (frzF_sc _ _ _), .of_eq ?_, trivial⟩
        exact frzF_row (pvB_len true) (frzF_pvB 0 _ true) (by simp only [upd_ne _ _ (show nx + 23 ≠ nx by omega)]; exact hH)
end
section
set_option maxRecDepth 20000
attribute [local go_sem] pv_len pv_take id_ne id_ne' id_ne2 List.append_assoc Nat.add_assoc pv_one pvB_len pvB_take pvB_one
theorem Max1_pF (l : Lv) (hl : l.nodes ≤ 2 ^ 40) : PPure Try.prog F.level_Max [.sl 3 [l.pv]] (.agg (l.pvB true)) := by
  refine pure_by is_level_Max (by simp) (by simp [PV.imm, pvB_imm]) fun hb nx => ?_
  repeat' (first | ((with_reducible first | refine cond_pos (by omega) ?_ | refine cond_neg (by omega) ?_ | refine guard_pos (by omega) ?_ | refine guard_neg (by omega) ?_ | refine cond_ifn ?_ ?_ | refine cond_waysn ?_ ?_ | refine guard_ifn ?_ ?_ | refine guard_waysn ?_ ?_ | refine cond_if ?_ ?_ | refine cond_ways ?_ ?_ | refine guard_if ?_ ?_ | refine guard_ways ?_ ?_) <;> intro _) | (((with_reducible refine call_id ?_); (first | (refine call_pure (clone_pF l.nodes l (Nat.le_refl _) hl) ?_)))) | simp (maxSteps := 1000000) (disch := omega) only [go_sem, Nat.reduceAdd, Nat.reduceMul, Nat.reduceSub, Nat.reduceLeDiff, Nat.reduceEqDiff, Nat.reduceBEq, ↓reduceIte, reduceCtorEq, Int.reduceEq, Int.reduceLE, Int.reduceLT, Int.reduceAdd, Int.reduceSub, Int.reduceNeg, Int.reduceToNat, Int.reduceNe, Nat.reducePow, Nat.reduceShiftRight, Nat.reduceMod, mc_level_Max, *])
  refine c_rounds 1 ?_
  repeat' (first | ((with_reducible first | refine cond_pos (by omega) ?_ | refine cond_neg (by omega) ?_ | refine guard_pos (by omega) ?_ | refine guard_neg (by omega) ?_ | refine cond_ifn ?_ ?_ | refine cond_waysn ?_ ?_ | refine guard_ifn ?_ ?_ | refine guard_waysn ?_ ?_ | refine cond_if ?_ ?_ | refine cond_ways ?_ ?_ | refine guard_if ?_ ?_ | refine guard_ways ?_ ?_) <;> intro _) | simp (maxSteps := 1000000) (disch := omega) only [go_sem, Nat.reduceAdd, Nat.reduceMul, Nat.reduceSub, Nat.reduceLeDiff, Nat.reduceEqDiff, Nat.reduceBEq, ↓reduceIte, reduceCtorEq, Int.reduceEq, Int.reduceLE, Int.reduceLT, Int.reduceAdd, Int.reduceSub, Int.reduceNeg, Int.reduceToNat, Int.reduceNe, Nat.reducePow, Nat.reduceShiftRight, Nat.reduceMod, rounds_next, *])
  refine fin_retF (r0 := .agg (l.pvB true)) 1 (by (simp (disch := omega) only [go_sem, Nat.reduceMul, Nat.reduceSub, Nat.reduceShiftRight, Nat.reduceMod, Nat.reduceEqDiff, Nat.reduceAdd, ↓reduceIte, Nat.reduceLeDiff, *]); all_goals rfl) (.of_eq ?_)
  rw [frzF_agg1, frzF_pvB]
end
section
set_option maxRecDepth 20000
theorem tm_one (t : Tm) : t.pv.all PV.one = true := by cases t; simp [Tm.pv, PV.one]
def Tm.pvB (f : Bool) : Tm → List PV
  | .mk k n s ls args => [.sc (.int .i64 k), .sc (.int .i64 n), .sc (.string s), slB f 3 (ls.map (Lv.pvB f)), slB f 5 (args.map (Tm.pvB f))]
theorem tpvB_len (f : Bool) (t : Tm) : (t.pvB f).length = 5 := by cases t; simp [Tm.pvB]
theorem tpvB_take (f : Bool) (t : Tm) : (t.pvB f).take 5 = t.pvB f := List.take_of_length_le (by rw [tpvB_len]; omega)
theorem tpvB_one (f : Bool) (t : Tm) : (t.pvB f).all PV.one = true := by
  cases t
  simp only [Tm.pvB, List.all_cons, slB_one, List.all_nil, Bool.and_true]
  rfl
end
section
set_option maxRecDepth 20000
attribute [local go_sem] pv_len pv_take Nat.add_assoc tm_len tm_take pv_one tm_one tpvB_len tpvB_take tpvB_one pvB_len pvB_take pvB_one id_ne id_ne' id_ne2 List.append_assoc
theorem frz_rowG {α : Type} (f : α → List PV) (sz : Nat) (hf : ∀ x, (f x).length = sz) {H : Nat → Option PObj} {id : Nat} {xs : List α} {w : Bool} (h : H id = some ⟨xs.flatMap f, w⟩) : frz 1 H (.osl id 0 xs.length sz) = .sl sz (xs.map f) := by
  have hl := flat_lenG f sz hf xs
  simp only [frz, h, List.drop_zero]
  rw [if_pos (by omega), List.take_of_length_le (by omega), List.map_id', chunks_flat f sz hf]
def RowAt (H : Nat → Option PObj) (lo m sz : Nat) (a : PV) (cells : List PV) (n : Nat) : Prop := (n = 0 ∧ a = .sc (.slice none 0 0)) ∨ ∃ id, lo < id ∧ id < m ∧ a = .osl id 0 n sz ∧ H id = some ⟨cells, false⟩
theorem Weak.row {α : Type} (f : α → List PV) (sz : Nat) (hf : ∀ x, (f x).length = sz) {H : Nat → Option PObj} {lo m : Nat} {a : PV} {xs : List α} (h : RowAt H lo m sz a (xs.flatMap f) xs.length) : Weak (frz 1 H a) (.sl sz (xs.map f)) := by
  rcases h with ⟨h1, rfl⟩ | ⟨id, _, _, rfl, h2⟩
  · obtain rfl : xs = [] := List.eq_nil_of_length_eq_zero h1
    rw [frz_sc1]
    exact .nil sz
  · rw [frz_rowG f sz hf h2]
    exact .refl _
theorem RowAt.mono {H H' : Nat → Option PObj} {lo m m' sz : Nat} {a : PV} {cells : List PV} {n : Nat} (h : RowAt H lo m sz a cells n) (hm : m ≤ m') (hH : ∀ id, lo < id → id < m → H' id = H id) : RowAt H' lo m' sz a cells n := by
  rcases h with h | ⟨id, h1, h2, h3, h4⟩
  · exact .inl h
  · exact .inr ⟨id, h1, by omega, h3, by rw [hH id h1 h2, h4]⟩
theorem len_nodesT : ∀ ts : List Tm, ts.length ≤ nodesT ts
  | [] => Nat.le_refl _
  | x :: r => by have := len_nodesT r; have := tnodes_pos x; simp only [List.length_cons, nodesT]; omega
mutual
theorem tm_imm : ∀ t : Tm, immL t.pv = true
  | .mk k n s ls args => by
    have h := tms_imm args
    have h2 : immL (ls.map Lv.pv).flatten = true := by
      induction ls with
      | nil => rfl
      | cons l r ih => simp only [List.map_cons, List.flatten_cons, immL_append, pv_imm, ih]; rfl
    simp only [Tm.pv, immL, PV.imm, immLL_flatten, h, h2]
    rfl
theorem tms_imm : ∀ ts : List Tm, immL (ts.map Tm.pv).flatten = true
  | [] => rfl
  | t :: r => by simp only [List.map_cons, List.flatten_cons, immL_append, tm_imm t, tms_imm r]; rfl
end
end
section
set_option maxRecDepth 20000
mutual
def OwnT (H : Nat → Option PObj) : Nat → Nat → List PV → Tm → Prop
  | lo, m, cs, .mk k n s ls args => ∃ a b, cs = [.sc (.int .i64 k), .sc (.int .i64 n), .sc (.string s), a, b] ∧
      ((ls = [] ∧ a = .sc (.slice none 0 0)) ∨ a = .fsl 3 (ls.map (Lv.pvB true))) ∧
      ((args = [] ∧ b = .sc (.slice none 0 0)) ∨ ∃ id cells w, lo ≤ id ∧ id < m ∧ b = .osl id 0 args.length 5 ∧ H id = some ⟨cells, w⟩ ∧ OwnTs H (id + 1) m cells args)
def OwnTs (H : Nat → Option PObj) : Nat → Nat → List PV → List Tm → Prop
  | _, _, cs, [] => cs = []
  | lo, m, cs, t :: r => ∃ c cr mid, cs = c ++ cr ∧ lo ≤ mid ∧ mid ≤ m ∧ OwnT H lo mid c t ∧ OwnTs H mid m cr r
end
mutual
theorem OwnT.mono {H H' : Nat → Option PObj} : ∀ (t : Tm) (lo lo' m m' : Nat) (cs : List PV), OwnT H lo m cs t → lo' ≤ lo → m ≤ m' → (∀ j, lo ≤ j → j < m → H' j = H j) → OwnT H' lo' m' cs t
  | .mk k n s ls args, lo, lo', m, m', cs, h, hlo, hm, hH => by
    simp only [OwnT] at h ⊢
    obtain ⟨a, b, e, ha, hb⟩ := h
    refine ⟨a, b, e, ha, ?_⟩
    rcases hb with hb | ⟨id, cells, w, h1, h2, h3, h4, h5⟩
    · exact .inl hb
    · exact .inr ⟨id, cells, w, by omega, by omega, h3, by rw [hH id h1 h2, h4], OwnTs.mono args (id + 1) (id + 1) m m' cells h5 (Nat.le_refl _) hm fun j h6 h7 => hH j (by omega) h7⟩
theorem OwnTs.mono {H H' : Nat → Option PObj} : ∀ (ts : List Tm) (lo lo' m m' : Nat) (cs : List PV), OwnTs H lo m cs ts → lo' ≤ lo → m ≤ m' → (∀ j, lo ≤ j → j < m → H' j = H j) → OwnTs H' lo' m' cs ts
  | [], _, _, _, _, cs, h, _, _, _ => by simpa only [OwnTs] using h
  | t :: r, lo, lo', m, m', cs, h, hlo, hm, hH => by
    simp only [OwnTs] at h ⊢
    obtain ⟨c, cr, mid, e, g1, g2, h1, h2⟩ := h
    exact ⟨c, cr, mid, e, by omega, by omega, OwnT.mono t lo lo' mid mid c h1 hlo (Nat.le_refl _) fun j a b => hH j a (by omega), OwnTs.mono r mid mid m m' cr h2 (Nat.le_refl _) hm fun j a b => hH j (by omega) b⟩
end
theorem OwnT.len {H : Nat → Option PObj} {lo m : Nat} {cs : List PV} {t : Tm} (h : OwnT H lo m cs t) : cs.length = 5 := by
  cases t
  simp only [OwnT] at h
  obtain ⟨a, b, rfl, _⟩ := h
  rfl
theorem OwnTs.len {H : Nat → Option PObj} {lo m : Nat} : ∀ (ts : List Tm) (cs : List PV), OwnTs H lo m cs ts → cs.length = ts.length * 5
  | [], cs, h => by simp only [OwnTs] at h; subst h; rfl
  | t :: r, cs, h => by
    simp only [OwnTs] at h
    obtain ⟨c, cr, mid, rfl, _, _, h1, h2⟩ := h
    rw [List.length_append, h1.len, OwnTs.len r cr h2, List.length_cons]
    omega
def OwnW (H : Nat → Option PObj) (lo m : Nat) : List PV → List Tm → Prop
  | cs, [] => cs = []
  | cs, t :: r => ∃ c cr, cs = c ++ cr ∧ OwnT H lo m c t ∧ OwnW H lo m cr r
theorem OwnTs.weak {H : Nat → Option PObj} : ∀ (ts : List Tm) (lo m : Nat) (cs : List PV), OwnTs H lo m cs ts → ∀ lo' m', lo' ≤ lo → m ≤ m' → OwnW H lo' m' cs ts
  | [], _, _, cs, h, _, _, _, _ => by simpa only [OwnTs, OwnW] using h
  | t :: r, lo, m, cs, h, lo', m', h1, h2 => by
    simp only [OwnTs] at h
    obtain ⟨c, cr, mid, e, g1, g2, h3, h4⟩ := h
    exact ⟨c, cr, e, h3.mono _ _ _ _ _ _ h1 (by omega) fun _ _ _ => rfl, OwnTs.weak r mid m cr h4 lo' m' (by omega) h2⟩
theorem OwnW.mono {H H' : Nat → Option PObj} {lo lo' m m' : Nat} (hlo : lo' ≤ lo) (hm : m ≤ m') (hH : ∀ j, lo ≤ j → j < m → H' j = H j) : ∀ (ts : List Tm) (cs : List PV), OwnW H lo m cs ts → OwnW H' lo' m' cs ts
  | [], cs, h => h
  | t :: r, cs, ⟨c, cr, e, h1, h2⟩ => ⟨c, cr, e, h1.mono _ _ _ _ _ _ hlo hm hH, OwnW.mono hlo hm hH r cr h2⟩
theorem OwnW.len {H : Nat → Option PObj} {lo m : Nat} : ∀ (ts : List Tm) (cs : List PV), OwnW H lo m cs ts → cs.length = ts.length * 5
  | [], cs, h => by cases h; rfl
  | t :: r, cs, ⟨c, cr, e, h1, h2⟩ => by
    subst e
    rw [List.length_append, h1.len, OwnW.len r cr h2, List.length_cons]
    omega
theorem OwnTs.at {H : Nat → Option PObj} {m : Nat} : ∀ (ts : List Tm) (lo : Nat) (cs : List PV) (i : Nat) (hi : i < ts.length), OwnTs H lo m cs ts → lo ≤ m →
    ∃ p c q a b, cs = p ++ (c ++ q) ∧ p.length = i * 5 ∧ lo ≤ a ∧ a ≤ b ∧ b ≤ m ∧ OwnTs H lo a p (ts.take i) ∧ OwnT H a b c ts[i] ∧ OwnTs H b m q (ts.drop (i + 1))
  | t :: r, lo, cs, 0, hi, h, hlm => by
    simp only [OwnTs] at h
    obtain ⟨c, cr, mid, e, g1, g2, h1, h2⟩ := h
    exact ⟨[], c, cr, lo, mid, by simp [e], rfl, Nat.le_refl _, g1, g2, rfl, h1, h2⟩
  | t :: r, lo, cs, i + 1, hi, h, hlm => by
    simp only [OwnTs] at h
    obtain ⟨c, cr, mid, e, g1, g2, h1, h2⟩ := h
    obtain ⟨p, c', q, a, b, e2, hl, ha, hab, hb, k1, k2, k3⟩ := OwnTs.at r mid cr i (by simpa using hi) h2 g2
    refine ⟨c ++ p, c', q, a, b, by rw [e, e2, List.append_assoc], by rw [List.length_append, h1.len, hl]; omega, by omega, hab, hb, ?_, by simpa using k2, by simpa using k3⟩
    simp only [List.take_succ_cons, OwnTs]
    exact ⟨c, p, mid, rfl, g1, ha, h1, k1⟩
theorem OwnTs.append {H : Nat → Option PObj} {m b : Nat} : ∀ (ts us : List Tm) (lo : Nat) (cs ds : List PV), OwnTs H lo b cs ts → OwnTs H b m ds us → lo ≤ b → b ≤ m → OwnTs H lo m (cs ++ ds) (ts ++ us)
  | [], us, lo, cs, ds, h, k, h1, h2 => by
    simp only [OwnTs] at h
    subst h
    exact k.mono _ _ _ _ _ _ h1 (Nat.le_refl _) fun _ _ _ => rfl
  | t :: r, us, lo, cs, ds, h, k, h1, h2 => by
    simp only [OwnTs] at h
    obtain ⟨c, cr, mid, e, g1, g2, h3, h4⟩ := h
    simp only [List.cons_append, OwnTs]
    exact ⟨c, cr ++ ds, mid, by rw [e, List.append_assoc], g1, by omega, h3, OwnTs.append r us mid cr ds h4 k g2 h2⟩
theorem chunks_flatten (sz : Nat) : ∀ (n : Nat) (xs : List PV), xs.length = n * sz → (chunks sz n xs).flatten = xs
  | 0, xs, h => by
    obtain rfl : xs = [] := List.eq_nil_of_length_eq_zero (by simpa using h)
    rfl
  | n + 1, xs, h => by
    simp only [chunks, List.flatten_cons]
    rw [chunks_flatten sz n (xs.drop sz) (by rw [List.length_drop, h, Nat.succ_mul]; omega), List.take_append_drop]
theorem chunks_length (sz : Nat) : ∀ (n : Nat) (xs : List PV), (chunks sz n xs).length = n
  | 0, _ => rfl
  | n + 1, xs => by simp only [chunks, List.length_cons, chunks_length sz n]
theorem Weak.fslW {sz : Nat} {es es' : List (List PV)} (hl : es.length = es'.length) (hs : ∀ e ∈ es', e.length = sz) (h : WeakL es.flatten es'.flatten) : Weak (.fsl sz es) (.fsl sz es') := fun V v hv => by
  cases hv with
  | fsl _ _ _ hcl hv =>
    refine .fsl sz es' v (fun b off len cap e he => hcl b off len cap e fun h0 => he ?_) (Weak.sl hl hs h V v hv)
    rw [h0] at hl
    exact List.eq_nil_of_length_eq_zero hl.symm
mutual
theorem OwnT.frz {H : Nat → Option PObj} : ∀ (t : Tm) (lo m : Nat) (cs : List PV), OwnT H lo m cs t → ∀ k, t.size ≤ k → WeakL (cs.map (frzF k H)) (t.pvB true)
  | .mk kind n s ls args, lo, m, cs, h, k, hk => by
    simp only [OwnT] at h
    obtain ⟨a, b, rfl, ha, hb⟩ := h
    simp only [Tm.size] at hk
    obtain ⟨k, rfl⟩ : ∃ k', k = k' + 1 := ⟨k - 1, by omega⟩
    rw [Tm.pvB]
    simp only [List.map_cons, List.map_nil]
    refine ⟨.of_eq (frzF_sc _ _ _), .of_eq (frzF_sc _ _ _), .of_eq (frzF_sc _ _ _), ?_, ?_, trivial⟩
    · rcases ha with ⟨rfl, rfl⟩ | rfl
      · exact .trans (.of_eq (frzF_sc _ _ _)) (Weak.nilF 3)
      · exact .refl _
    · rcases hb with ⟨rfl, rfl⟩ | ⟨id, cells, w, h1, h2, rfl, h4, h5⟩
      · exact .trans (.of_eq (frzF_sc _ _ _)) (Weak.nilF 5)
      · have hl := OwnTs.len args cells h5
        have hw := OwnTs.frz args (id + 1) m cells h5 k (by omega)
        simp only [Go.Proofs.Ytfhblaggeahbjaa.frzF, h4, List.drop_zero]
        rw [if_pos (by omega), List.take_of_length_le (by omega)]
        refine Weak.fslW (by rw [chunks_length, List.length_map]) (fun e he => ?_) ?_
        · obtain ⟨t, _, rfl⟩ := List.mem_map.1 he
          exact tpvB_len true t
        · rw [chunks_flatten 5 args.length _ (by rw [List.length_map, hl])]
          exact hw
theorem OwnTs.frz {H : Nat → Option PObj} : ∀ (ts : List Tm) (lo m : Nat) (cs : List PV), OwnTs H lo m cs ts → ∀ k, sizeL ts ≤ k → WeakL (cs.map (Go.Proofs.Ytfhblaggeahbjaa.frzF k H)) (ts.map (Tm.pvB true)).flatten
  | [], _, _, cs, h, _, _ => by
    simp only [OwnTs] at h
    subst h
    trivial
  | t :: r, lo, m, cs, h, k, hk => by
    simp only [OwnTs] at h
    obtain ⟨c, cr, mid, rfl, _, _, h1, h2⟩ := h
    simp only [sizeL] at hk
    simp only [List.map_append, List.map_cons, List.flatten_cons]
    exact (OwnT.frz t lo mid c h1 k (by omega)).append (OwnTs.frz r mid m cr h2 k (by omega))
end
theorem OwnW.frz {H : Nat → Option PObj} {lo m : Nat} : ∀ (ts : List Tm) (cs : List PV), OwnW H lo m cs ts → ∀ k, sizeL ts ≤ k → WeakL (cs.map (Go.Proofs.Ytfhblaggeahbjaa.frzF k H)) (ts.map (Tm.pvB true)).flatten
  | [], cs, h, _, _ => by cases h; trivial
  | t :: r, cs, ⟨c, cr, e, h1, h2⟩, k, hk => by
    subst e
    simp only [sizeL] at hk
    simp only [List.map_append, List.map_cons, List.flatten_cons]
    exact (OwnT.frz t _ _ c h1 k (by omega)).append (OwnW.frz r cr h2 k (by omega))
end
section
set_option maxRecDepth 20000
attribute [local go_sem] pv_len pv_take Nat.add_assoc tm_len tm_take pv_one tm_one tpvB_len tpvB_take tpvB_one pvB_len pvB_take pvB_one id_ne id_ne' id_ne2 List.append_assoc
def zero5 : List PV := [.sc (.int .i64 0), .sc (.int .i64 0), .sc (.string ⟨#[]⟩), .sc (.slice none 0 0), .sc (.slice none 0 0)]
theorem at_take (p q : List PV) (off i : Nat) (h : p.length = off) : (p ++ q).take (off + i) = p ++ q.take i := by subst h; rw [List.take_append, List.take_of_length_le (by omega), Nat.add_sub_cancel_left]
theorem at_drop (p q : List PV) (off i : Nat) (h : p.length = off) : (p ++ q).drop (off + i) = q.drop i := by subst h; rw [List.drop_append, List.drop_eq_nil_of_le (by omega), Nat.add_sub_cancel_left, List.nil_append]
end
section
set_option maxRecDepth 20000
attribute [local go_sem] pv_len pv_take Nat.add_assoc tm_len tm_take pv_one tm_one tpvB_len tpvB_take tpvB_one pvB_len pvB_take pvB_one id_ne id_ne' id_ne2 List.append_assoc
theorem OwnT.one {H : Nat → Option PObj} {lo m : Nat} {cs : List PV} {t : Tm} (h : OwnT H lo m cs t) : cs.all PV.one = true := by
  cases t
  simp only [OwnT] at h
  obtain ⟨a, b, rfl, h1, h2⟩ := h
  rcases h1 with ⟨_, rfl⟩ | rfl <;> rcases h2 with ⟨_, rfl⟩ | ⟨_, _, _, _, _, rfl, _⟩ <;> rfl
end
section
set_option maxRecDepth 20000
attribute [local go_sem] pv_len pv_take Nat.add_assoc tm_len tm_take pv_one tm_one tpvB_len tpvB_take tpvB_one pvB_len pvB_take pvB_one id_ne id_ne' id_ne2 List.append_assoc
theorem sameL_refl (xs : List Lv) : sameL xs xs = true := (sameL_iff xs xs rfl).2 rfl
end
section
set_option maxRecDepth 20000
attribute [local go_sem] pv_len pv_take Nat.add_assoc tm_len tm_take pv_one tm_one tpvB_len tpvB_take tpvB_one pvB_len pvB_take pvB_one id_ne id_ne' id_ne2 List.append_assoc
mutual
theorem tsame_iff : ∀ a b : Tm, a.same b = true ↔ a = b
  | .mk k n s ls xs, .mk k' n' s' ls' ys => by
    simp only [Tm.same, Bool.and_eq_true, decide_eq_true_eq, Tm.mk.injEq]
    constructor
    · rintro ⟨h1, h2, h3, h4, h5, h6, h7⟩
      refine ⟨h1, h2, ?_, (sameL_iff ls ls' (by simpa using h4)).1 h6, (sameT_iff xs ys (by simpa using h5)).1 h7⟩
      unfold sameB at h3
      exact (Lib.bytes_beq_iff s s').1 h3
    · rintro ⟨h1, h2, h3, h4, h5⟩
      subst h3; subst h4; subst h5
      refine ⟨h1, h2, ?_, by simp, by simp, sameL_refl ls, (sameT_iff xs xs rfl).2 rfl⟩
      unfold sameB
      exact (Lib.bytes_beq_iff s s).2 rfl
theorem sameT_iff : ∀ xs ys : List Tm, xs.length = ys.length → (sameT xs ys = true ↔ xs = ys)
  | [], [], _ => by simp [sameT]
  | x :: xs, y :: ys, h => by
    simp only [sameT, Bool.and_eq_true, List.cons.injEq]
    rw [tsame_iff x y, sameT_iff xs ys (by simpa using h)]
  | [], y :: ys, h => by simp at h
  | x :: xs, [], h => by simp at h
end
end
section
set_option maxRecDepth 20000
attribute [local go_sem] pv_len pv_take Nat.add_assoc tm_len tm_take pv_one tm_one tpvB_len tpvB_take tpvB_one pvB_len pvB_take pvB_one id_ne id_ne' id_ne2 List.append_assoc
abbrev emp : ByteArray := ⟨#[]⟩
theorem tm_take_app (l : Tm) (r : List PV) : (l.pv ++ r).take 5 = l.pv := List.take_left' (tm_len l)
attribute [local go_sem] tm_take_app
theorem tm_drop_app (l : Tm) (r : List PV) : (l.pv ++ r).drop 5 = r := List.drop_left' (tm_len l)
attribute [local go_sem] tm_drop_app
theorem tm_take10 (l : Tm) (r : List PV) : (l.pv ++ r).take 10 = l.pv ++ r.take 5 := by
  rw [List.take_append, tm_len, List.take_of_length_le (by rw [tm_len]; omega)]
attribute [local go_sem] tm_take10
theorem tm_drop10 (l : Tm) (r : List PV) : (l.pv ++ r).drop 10 = r.drop 5 := by
  rw [show (10 : Nat) = 5 + 5 from rfl, ← List.drop_drop, tm_drop_app]
attribute [local go_sem] tm_drop10
theorem tm_drop15 (l : Tm) (r : List PV) : (l.pv ++ r).drop 15 = r.drop 10 := by
  rw [show (15 : Nat) = 5 + 10 from rfl, ← List.drop_drop, tm_drop_app]
attribute [local go_sem] tm_drop15
theorem tm_drop (l : Tm) : l.pv.drop 5 = [] := List.drop_eq_nil_of_le (by rw [tm_len]; omega)
attribute [local go_sem] tm_drop
theorem Var_p (n : Int) : PPure Try.prog F.term_Var [.sc (.int .i64 n)] (.agg (Tm.mk 1 n emp [] []).pv) := by
  refine pure_by is_term_Var (by simp) (by simp [PV.imm, tm_imm]) fun hb nx => ?_
  repeat' (first | ((with_reducible first | refine cond_pos (by omega) ?_ | refine cond_neg (by omega) ?_ | refine guard_pos (by omega) ?_ | refine guard_neg (by omega) ?_ | refine cond_ifn ?_ ?_ | refine cond_waysn ?_ ?_ | refine guard_ifn ?_ ?_ | refine guard_waysn ?_ ?_ | refine cond_if ?_ ?_ | refine cond_ways ?_ ?_ | refine guard_if ?_ ?_ | refine guard_ways ?_ ?_) <;> intro _) | simp (maxSteps := 1000000) (disch := omega) only [go_sem, Nat.reduceAdd, Nat.reduceMul, Nat.reduceSub, Nat.reduceLeDiff, Nat.reduceEqDiff, Nat.reduceBEq, ↓reduceIte, reduceCtorEq, Int.reduceEq, Int.reduceLE, Int.reduceLT, Int.reduceAdd, Int.reduceSub, Int.reduceNeg, Int.reduceToNat, Int.reduceNe, Nat.reducePow, Nat.reduceShiftRight, Nat.reduceMod, mc_term_Var, *])
  refine fin_ret (r0 := .agg [.sc (.int .i64 1), .sc (.int .i64 n), .sc (.string ⟨#[]⟩), .sc (.slice none 0 0), .sc (.slice none 0 0)]) 2 (by (simp (disch := omega) only [go_sem, Nat.reduceMul, Nat.reduceSub, Nat.reduceShiftRight, Nat.reduceMod, Nat.reduceEqDiff, Nat.reduceAdd, ↓reduceIte, Nat.reduceLeDiff, *]); all_goals rfl) ?_
  rw [frz_agg1]
  simp only [List.map_cons, List.map_nil, frz_sc1, Tm.pv]
  exact Weak.agg ⟨.refl _, .refl _, .refl _, .nil 3, .nil 5, trivial⟩
end
section
set_option maxRecDepth 20000
attribute [local go_sem] pv_len pv_take Nat.add_assoc tm_len tm_take pv_one tm_one tpvB_len tpvB_take tpvB_one pvB_len pvB_take pvB_one id_ne id_ne' id_ne2 List.append_assoc
mutual
def Tm.lift (by_ : Int) : Int → Tm → Tm
  | frm, .mk k n s ls args => .mk k (if k = 1 ∧ frm ≤ n then n + by_ else n) s ls (liftA by_ frm k args.length 0 args)
def liftA (by_ : Int) : Int → Int → Nat → Nat → List Tm → List Tm
  | _, _, _, _, [] => []
  | frm, kind, len, i, x :: r => x.lift by_ (frm + deepB kind len i) :: liftA by_ frm kind len (i + 1) r
end
end
section
set_option maxRecDepth 20000
mutual
theorem lv_formed_mono {np nq : Int} (h : np ≤ nq) : ∀ l : Lv, l.formed np = true → l.formed nq = true
  | .mk k n args, hf => by
    have hA := lv_formedL_mono h args
    simp only [Lv.formed] at hf ⊢
    split at hf
    · rw [if_pos (by assumption)]; exact hf
    rw [if_neg (by assumption)]
    split at hf
    · rw [if_pos (by assumption)]
      simp only [Bool.and_eq_true, decide_eq_true_eq] at hf ⊢
      omega
    rw [if_neg (by assumption)]
    split at hf
    · rw [if_pos (by assumption)]
      simp only [Bool.and_eq_true] at hf ⊢
      exact ⟨hf.1, hf.2.1, hA hf.2.2⟩
    rw [if_neg (by assumption)]
    split at hf
    · rw [if_pos (by assumption)]
      simp only [Bool.and_eq_true] at hf ⊢
      exact ⟨hf.1, hf.2.1, hA hf.2.2⟩
    · cases hf
theorem lv_formedL_mono {np nq : Int} (h : np ≤ nq) : ∀ ls : List Lv, formedL np ls = true → formedL nq ls = true
  | [], _ => rfl
  | x :: r, hf => by
    simp only [formedL, Bool.and_eq_true] at hf ⊢
    exact ⟨lv_formed_mono h x hf.1, lv_formedL_mono h r hf.2⟩
end
theorem lv_right_mono {np nq : Int} (h : np ≤ nq) (h4 : nq ≤ 4) (l : Lv) (hr : l.right np = true) : l.right nq = true := by
  simp only [Lv.right, Bool.and_eq_true, decide_eq_true_eq] at hr ⊢
  exact ⟨by omega, h4, hr.2.2.1, lv_formed_mono h l hr.2.2.2⟩
mutual
theorem formed_low (np : Int) : ∀ (t : Tm) (k j : Int), t.formed np k = true → t.loose ≤ j → 0 ≤ j → t.formed np j = true
  | .mk kind n s ls args, k, j, h, hl, hj => by
    have key : kind ≠ 1 → formedA np k kind args.length 0 args = true → formedA np j kind args.length 0 args = true := fun hk hA => by
      simp only [Tm.loose, if_neg hk] at hl
      exact formedA_low np args kind args.length 0 k j hA hl hj
    simp only [Tm.formed] at h ⊢
    by_cases h1 : kind = 1
    · simp only [Tm.loose, if_pos h1] at hl
      rw [if_pos h1] at h ⊢
      simp only [Bool.and_eq_true, decide_eq_true_eq] at h ⊢
      exact ⟨h.1, by omega, h.2.2⟩
    rw [if_neg h1] at h ⊢
    split at h
    · rw [if_pos (by assumption)]; exact h
    rw [if_neg (by assumption)]
    split at h
    · rw [if_pos (by assumption)]; exact h
    rw [if_neg (by assumption)]
    split at h
    · rw [if_pos (by assumption)]
      simp only [Bool.and_eq_true] at h ⊢
      exact ⟨h.1, key h1 h.2⟩
    rw [if_neg (by assumption)]
    split at h
    · rw [if_pos (by assumption)]
      simp only [Bool.and_eq_true] at h ⊢
      exact ⟨h.1, key h1 h.2⟩
    · cases h
theorem formedA_low (np : Int) : ∀ (xs : List Tm) (kind : Int) (len i : Nat) (k j : Int), formedA np k kind len i xs = true → looseA kind len i xs ≤ j → 0 ≤ j → formedA np j kind len i xs = true
  | [], _, _, _, _, _, _, _, _ => rfl
  | x :: r, kind, len, i, k, j, h, hl, hj => by
    simp only [formedA, Bool.and_eq_true] at h ⊢
    simp only [looseA] at hl
    have hd := deep_bd kind len i
    exact ⟨formed_low np x _ _ h.1 (by omega) (by omega), formedA_low np r kind len (i + 1) k j h.2 (by omega) hj⟩
end
mutual
theorem formed_np {np nq : Int} (hn : np ≤ nq) (h4 : nq ≤ 4) : ∀ (t : Tm) (k : Int), t.formed np k = true → t.formed nq k = true
  | .mk kind n s ls args, k, h => by
    have key : formedA np k kind args.length 0 args = true → formedA nq k kind args.length 0 args = true := fun hA => formedA_np hn h4 args kind args.length 0 k hA
    simp only [Tm.formed] at h ⊢
    split at h
    · rw [if_pos (by assumption)]; exact h
    rw [if_neg (by assumption)]
    split at h
    · rw [if_pos (by assumption)]
      simp only [Bool.and_eq_true] at h ⊢
      refine ⟨h.1, ?_⟩
      cases ls with
      | nil => exact h.2
      | cons l r => exact lv_right_mono hn h4 l h.2
    rw [if_neg (by assumption)]
    split at h
    · rw [if_pos (by assumption)]
      simp only [constB, Bool.and_eq_true] at h ⊢
      refine ⟨h.1, h.2.1, h.2.2.1, h.2.2.2.1, ?_⟩
      have := h.2.2.2.2
      rw [List.all_eq_true] at this ⊢
      exact fun l hl => lv_right_mono hn h4 l (this l hl)
    rw [if_neg (by assumption)]
    split at h
    · rw [if_pos (by assumption)]
      simp only [Bool.and_eq_true] at h ⊢
      exact ⟨h.1, key h.2⟩
    rw [if_neg (by assumption)]
    split at h
    · rw [if_pos (by assumption)]
      simp only [Bool.and_eq_true] at h ⊢
      exact ⟨h.1, key h.2⟩
    · cases h
theorem formedA_np {np nq : Int} (hn : np ≤ nq) (h4 : nq ≤ 4) : ∀ (xs : List Tm) (kind : Int) (len i : Nat) (k : Int), formedA np k kind len i xs = true → formedA nq k kind len i xs = true
  | [], _, _, _, _, _ => rfl
  | x :: r, kind, len, i, k, h => by
    simp only [formedA, Bool.and_eq_true] at h ⊢
    exact ⟨formed_np hn h4 x _ h.1, formedA_np hn h4 r kind len (i + 1) k h.2⟩
end
theorem right_iff {t : Tm} {np b : Int} : t.right np b = true ↔ 0 ≤ b ∧ 0 ≤ np ∧ np ≤ 4 ∧ t.nodes ≤ 2000 ∧ t.formed np (min b 1125899906842624) = true := by
  simp only [Tm.right, Bool.and_eq_true, decide_eq_true_eq]
mutual
theorem lift_nodes (by_ : Int) : ∀ (t : Tm) (frm : Int), (t.lift by_ frm).nodes = t.nodes
  | .mk kind n s ls args, frm => by
    simp only [Tm.lift, Tm.nodes]
    rw [liftA_nodes by_ args]
theorem liftA_nodes (by_ : Int) : ∀ (xs : List Tm) (frm kind : Int) (len i : Nat), nodesT (liftA by_ frm kind len i xs) = nodesT xs
  | [], _, _, _, _ => by simp only [liftA]
  | x :: r, frm, kind, len, i => by
    simp only [liftA, nodesT]
    rw [lift_nodes by_ x, liftA_nodes by_ r]
end
end
section
set_option maxRecDepth 20000
inductive LeafR where
  | no
  | num (m : Int)
  | put (u : Tm)
mutual
def Tm.fill (L : Tm → Int → LeafR) : Int → Tm → Option Tm
  | deep, .mk k n s ls args =>
    if k = 1 ∨ k = 3 then (match L (.mk k n s ls args) deep with
      | .no => none
      | .put u => some (u.lift deep 0)
      | .num m => (fillA L deep k args.length 0 args).map fun as_ => .mk k m s ls as_)
    else (fillA L deep k args.length 0 args).map fun as_ => .mk k n s ls as_
def fillA (L : Tm → Int → LeafR) : Int → Int → Nat → Nat → List Tm → Option (List Tm)
  | _, _, _, _, [] => some []
  | deep, kind, len, i, x :: r => match x.fill L (deep + deepB kind len i), fillA L deep kind len (i + 1) r with
    | some y, some ys => some (y :: ys)
    | _, _ => none
end
def raisedL (by_ frm : Int) : Tm → Int → LeafR
  | .mk k n _ _ _, deep => .num (if k = 1 ∧ frm ≤ n - deep then n + by_ else n)
mutual
theorem fill_raised (by_ frm : Int) : ∀ (t : Tm) (deep : Int), t.fill (raisedL by_ frm) deep = some (t.lift by_ (frm + deep))
  | .mk k n s ls args, deep => by
    have hA := fillA_raised by_ frm args deep k args.length 0
    simp only [Tm.fill, raisedL, hA, Option.map_some, Tm.lift]
    by_cases h : k = 1 ∨ k = 3
    · rw [if_pos h]
      congr 2
      by_cases h1 : k = 1 ∧ frm ≤ n - deep
      · rw [if_pos h1, if_pos ⟨h1.1, by omega⟩]
      · rw [if_neg h1, if_neg fun h2 => h1 ⟨h2.1, by omega⟩]
    · rw [if_neg h, if_neg fun h2 => h (.inl h2.1)]
theorem fillA_raised (by_ frm : Int) : ∀ (xs : List Tm) (deep kind : Int) (len i : Nat), fillA (raisedL by_ frm) deep kind len i xs = some (liftA by_ (frm + deep) kind len i xs)
  | [], _, _, _, _ => rfl
  | x :: r, deep, kind, len, i => by
    simp only [fillA, fill_raised by_ frm x, fillA_raised by_ frm r, liftA]
    rw [show frm + (deep + deepB kind len i) = frm + deep + deepB kind len i by omega]
end
def lowerL (by_ : Int) : Tm → Int → LeafR
  | .mk k n _ _ _, deep => if k = 1 ∧ deep ≤ n then (if by_ ≤ n - deep then .num (n - by_) else .no) else .num n
def instL6 (args : List Tm) : Tm → Int → LeafR
  | .mk k n _ _ _, deep => if k = 1 ∧ deep ≤ n then (match args.reverse[(n - deep).toNat]? with
    | some u => .put u
    | none => .num (n - args.length)) else .num n
end
section
set_option maxRecDepth 20000
attribute [local go_sem] pv_len pv_take Nat.add_assoc tm_len tm_take pv_one tm_one tpvB_len tpvB_take tpvB_one pvB_len pvB_take pvB_one id_ne id_ne' id_ne2 List.append_assoc
theorem RowAt.low {H H' : Nat → Option PObj} {lo lo' m m' sz : Nat} {a : PV} {cells : List PV} {n : Nat} (h : RowAt H lo m sz a cells n) (hl : lo' ≤ lo) (hm : m ≤ m') (hH : ∀ id, lo < id → id < m → H' id = H id) : RowAt H' lo' m' sz a cells n := by
  rcases h with h | ⟨id, h1, h2, h3, h4⟩
  · exact .inl h
  · exact .inr ⟨id, by omega, by omega, h3, by rw [hH id h1 h2, h4]⟩
end
section
mutual
def Tm.pre : Tm → List Tm
  | .mk k n s ls args => .mk k n s ls args :: preL args
def preL : List Tm → List Tm
  | [] => []
  | t :: r => t.pre ++ preL r
end
theorem preL_append : ∀ xs ys : List Tm, preL (xs ++ ys) = preL xs ++ preL ys
  | [], ys => by simp [preL]
  | x :: r, ys => by simp [preL, preL_append r ys]
theorem preL_take (args : List Tm) (i : Nat) (h : i < args.length) : preL (args.take (i + 1)) = preL (args.take i) ++ args[i].pre := by
  rw [List.take_succ_eq_append_getElem h, preL_append]
  simp [preL]
def nodePV (t : Tm) : PV := .ptr t.pv
theorem sl_part {V : Vw} {sz : Nat} {es : List (List PV)} {v : Value} (h : Rep V (.sl sz es) v) :
    ∃ A cap, v = .slice A es.length cap ∧ es.length ≤ maxLen ∧ ∀ i x, es[i]? = some x → ∃ b off, A = some ⟨b, off, none⟩ ∧ Rep V (.ptr x) (.pointer (some ⟨b, off + i * sz, none⟩)) := by
  cases h with
  | slNil _ A cap hc => exact ⟨A, cap, rfl, Nat.zero_le _, fun i x hx => by simp at hx⟩
  | sl _ _ b off len cap hlen hs h1 h2 hp =>
    refine ⟨some ⟨b, off, none⟩, cap, by rw [hlen], by omega, fun i x hx => ⟨b, off, rfl, ?_⟩⟩
    obtain ⟨b', off', vs, e, hok, hr, hc⟩ := hp.ptr_inv
    cases e
    have hil : i < es.length := (List.getElem?_eq_some_iff.1 hx).1
    have hex : es[i] = x := (List.getElem?_eq_some_iff.1 hx).2
    have hx5 : x.length = sz := hs x (hex ▸ List.getElem_mem hil)
    have key : ∀ (es : List (List PV)) (i : Nat) (x : List PV), (∀ e ∈ es, e.length = sz) → es[i]? = some x → (es.flatten.drop (i * sz)).take sz = x := by
      intro es
      induction es with
      | nil => intro i x _ h; simp at h
      | cons e r ih =>
        intro i x hs h
        have he : e.length = sz := hs e (by simp)
        cases i with
        | zero =>
          simp only [List.getElem?_cons_zero, Option.some.injEq] at h
          subst h
          simp [← he]
        | succ i =>
          rw [List.flatten_cons, Nat.succ_mul, Nat.add_comm, ← List.drop_drop, show sz = e.length from he.symm, List.drop_left, he]
          exact ih i x (fun y hy => hs y (by simp [hy])) (by simpa using h)
    have h3 := (hr.drop (i * sz)).take sz
    rw [key es i x hs hx] at h3
    refine .ptr_mk hok h3 fun j u hu => ?_
    rw [List.getElem?_take] at hu
    split at hu
    · rw [List.getElem?_drop] at hu
      have := hc _ u hu
      rw [show off + i * sz + j = off + (i * sz + j) by omega]
      exact this
    · cases hu
theorem rounds_key {F : Fence} {n : Nat} {P : Program} {c : Code} {Q : Exit → Act → World → Prop} {N : Nat} (I : Nat → Act → World → Prop) (hstep : ∀ i a W, i < N → I i a W → c.wpIn F n P (Exit.then (I (i + 1)) Q) a W)
    (hend : ∀ a W, I N a W → c.wpIn F n P (Exit.then (fun _ _ => False) Q) a W) : ∀ k i a W, i + k = N → I i a W → Code.roundsIn F n P c Q (k + 1) a W := by
  intro k
  induction k with
  | zero =>
    intro i a W hi h
    obtain rfl : i = N := by omega
    exact hend a W h
  | succ k ih =>
    intro i a W hi h
    rw [roundsIn_succ]
    refine wpIn_mono (hstep i a W (by omega) h) fun e a' W' hp => ?_
    cases e with
    | normal => exact ih (i + 1) a' W' (by omega) hp
    | _ => exact hp
abbrev El (V : Vw) (xs : List PV) := { y : PV × Value // y.1 ∈ xs ∧ Rep V y.1 y.2 }
theorem RoundIn.any {Fc : Fence} (hd : Fc.depth = none) {m m' : Nat} {P : Program} {l : Nat} {f : FuncId} {tmps : Array Value} {assign body : Code} {w : World} {R : Ending → World → Prop}
    (h : RoundIn Fc m P l f tmps assign body w R) : RoundIn Fc m' P l f tmps assign body w R := ⟨h.1, fun c cs _ => h.2 c cs (fun d h => by rw [hd] at h; cases h)⟩
theorem YieldAt.any {Fc : Fence} (hd : Fc.depth = none) {m : Nat} (m' : Nat) {P : Program} {l : Nat} {args : Array Value} {W : World} {R : Ending → World → Prop} (h : YieldAt Fc m P l args W R) : YieldAt Fc m' P l args W R := by
  obtain ⟨fn, tmps, assign, body, hy, hR⟩ := h
  exact ⟨fn, tmps, assign, body, hy, RoundIn.any hd hR⟩
set_option maxRecDepth 100000 in
set_option maxHeartbeats 4000000 in
theorem walkNodes0 (V : Vw) (xs : List PV) (l N : Nat) (J Jx : List (El V xs) → World → Prop)
    (hY : ∀ m pre (x : El V xs) W, J pre W → pre.length < N → YieldAt Fence.wide m Try.prog l #[x.1.2] W fun e W' => (e = .returned (.bool true) ∧ J (pre ++ [x]) W' ∧ ∀ b, V.ok b → W'.heap[b]? = W.heap[b]?) ∨ (e = .returned (.bool false) ∧ Jx (pre ++ [x]) W')) :
    ∀ (fuel : Nat) (t : Tm), t.size ≤ fuel → ∀ (n : Nat) (p : Value) (pre : List (El V xs)) (W : World), Rep V (.ptr t.pv) p → (∀ u ∈ t.pre, nodePV u ∈ xs) → (∀ b, V.ok b → W.heap[b]? = V.w.heap[b]?) → J pre W → pre.length + t.pre.length ≤ N →
      CallsIn Fence.wide n Try.prog F.term_walk #[p, .func (.yield l) #[] #[]] W fun e W' =>
        (e = .returned (.bool true) ∧ ∃ ys : List (El V xs), ys.map (·.1.1) = t.pre.map nodePV ∧ J (pre ++ ys) W' ∧ ∀ b, V.ok b → W'.heap[b]? = V.w.heap[b]?) ∨
        (e = .returned (.bool false) ∧ ∃ ys : List (El V xs), ys.map (·.1.1) <+: t.pre.map nodePV ∧ Jx (pre ++ ys) W') := by
  have hdd : ∀ k : Nat, (Fence.wide.depth.isSome = true → 1 ≤ k) := fun k h => by cases h
  intro fuel
  induction fuel with
  | zero => intro t h; have := size_pos t; omega
  | succ fuel ih =>
    intro t hf n p pre W hp hxs hW hJ hN
    cases t with
    | mk k nn s ls args =>
    simp only [Tm.size] at hf
    simp only [Tm.pre, List.length_cons] at hN
    have hp0 := hp
    obtain ⟨b, off, vs, rfl, hok, hr, hc⟩ := hp.ptr_inv
    obtain ⟨v4, hv4, hr4⟩ := hr.get (i := 4) (x := .sl 5 (args.map Tm.pv)) (by rw [Tm.pv]; rfl)
    obtain ⟨A, cap, rfl, hmax, hpart⟩ := sl_part hr4
    rw [List.length_map] at hmax
    have hcell : ∀ W' : World, (∀ b, V.ok b → W'.heap[b]? = V.w.heap[b]?) → W'.cell? ⟨b, off + 4, none⟩ = some (.slice A (args.map Tm.pv).length cap) := fun W' h => (World.cell?_of_block (w := V.w) (w' := W') (a := ⟨b, off + 4, none⟩) (h b hok)).trans (hc 4 _ hv4)
    have hY0 := hY (n - 1) pre ⟨(nodePV (.mk k nn s ls args), .pointer (some ⟨b, off, none⟩)), hxs _ (by simp [Tm.pre]), hp0⟩ W hJ (by omega)
    obtain ⟨fn, tmps, assign, body, hy, hR⟩ := YieldAt.mono (R' := fun e W1 => (e = .returned (.bool true) ∧ W1.cell? ⟨b, off + 4, none⟩ = some (.slice A (args.map Tm.pv).length cap) ∧ (∃ ys : List (El V xs), ys.map (·.1.1) = [nodePV (.mk k nn s ls args)] ∧ J (pre ++ ys) W1) ∧ ∀ b, V.ok b → W1.heap[b]? = V.w.heap[b]?) ∨
      (e = .returned (.bool false) ∧ ∃ ys : List (El V xs), ys.map (·.1.1) = [nodePV (.mk k nn s ls args)] ∧ Jx (pre ++ ys) W1)) hY0 (fun e W1 h => h.elim (fun ⟨he, h1, h2⟩ => .inl ⟨he, hcell W1 fun b hb => (h2 b hb).trans (hW b hb), ⟨_, rfl, h1⟩, fun b hb => (h2 b hb).trans (hW b hb)⟩) fun ⟨he, h1⟩ => .inr ⟨he, _, rfl, h1⟩)
    clear hY0
    refine callsIn_of_wp Try.func116 rfl trivial ?_ rfl
    simp only [Try.ntmps116, List.size_toArray, List.length_cons, List.length_nil, Nat.reduceAdd, Nat.reduceSub, Array.replicate_succ, Array.replicate_zero, List.push_toArray, List.append_toArray, List.nil_append, List.cons_append]
    gi_wp2_with ((try refine ⟨hdd _, ?_⟩); refine hR.mono ?_; clear hR; rintro e W1 (⟨rfl, c4, hj1, hk1⟩ | ⟨rfl, hx1⟩))
    · refine wpIn_loop_rounds (args.length + 1) (rounds_key (N := args.length) (fun i a W => ∃ x2 x3 x4 x5 x6 x7 x8 x9 x10 x11 x12 x13 x16 x17 x18 x19 x20 x21 x22 x23 x24 x25 x26 x27, a = ⟨#[.pointer (some ⟨b, off, none⟩), .func (.yield l) #[] #[], x2, x3, x4, x5, x6, x7, x8, x9, x10, x11, x12, x13, .int .i64 (args.length : Int), .int .i64 (i : Int), x16, x17, x18, x19, x20, x21, x22, x23, x24, x25, x26, x27], []⟩ ∧ (∃ ys : List (El V xs), ys.map (·.1.1) = (Tm.mk k nn s ls args :: preL (args.take i)).map nodePV ∧ J (pre ++ ys) W) ∧ ∀ b, V.ok b → W.heap[b]? = V.w.heap[b]?) ?step ?fin args.length 0 _ _ (by omega) ?init)
      case init =>
        obtain ⟨ys, h1, h2⟩ := hj1
        exact ⟨_, _, _, _, _, _, _, _, _, _, _, _, _, _, _, _, _, _, _, _, _, _, _, _, rfl, ⟨ys, by simpa [preL] using h1, h2⟩, hk1⟩
      case step =>
        rintro i a W2 hi ⟨x2, x3, x4, x5, x6, x7, x8, x9, x10, x11, x12, x13, x16, x17, x18, x19, x20, x21, x22, x23, x24, x25, x26, x27, rfl, ⟨ys, hys, hj⟩, hk⟩
        obtain ⟨b2, off2, rfl, hpi⟩ := hpart i args[i].pv (by simp [hi])
        have c42 := hcell W2 hk
        rw [List.length_map] at c42
        have hni := sizeL_mem args i hi
        have hlen : ys.length = 1 + (preL (args.take i)).length := by
          have := congrArg List.length hys
          simpa [Nat.add_comm] using this
        have h1 : preL args = preL (args.take i) ++ (args[i].pre ++ preL (args.drop (i + 1))) := by rw [← List.append_assoc, ← preL_take args i hi, ← preL_append, List.take_append_drop]
        have ih1 := ih args[i] (by omega) (n - 1) _ (pre ++ ys) W2 hpi (fun u hu => hxs u (by rw [Tm.pre, h1]; simp [hu])) hk hj (by rw [h1] at hN; simp only [List.length_append] at hN ⊢; omega)
        clear ih
        gi_wp2_with (refine ⟨trivial, hdd _, ?_⟩; refine ih1.mono ?_; clear ih1; rintro e W3 (⟨rfl, ys3, hy3, hj3, hk3⟩ | ⟨rfl, ys3, hy3, hx3⟩))
        · have e1 : ((i + 1 : Nat) : Int) = RowKit.wrap64 ((i : Int) + 1) := by
            have : args.length ≤ 9223372036854775807 := hmax
            unfold RowKit.wrap64
            omega
          rw [e1]
          refine ⟨_, _, _, _, _, _, _, _, _, _, _, _, _, _, _, _, _, _, _, _, _, _, _, _, rfl, ⟨ys ++ ys3, ?_, by rw [← List.append_assoc]; exact hj3⟩, hk3⟩
          rw [List.map_append, hys, hy3, preL_take args i hi]
          simp
        · go_ret
          refine .inr ⟨rfl, ys ++ ys3, ?_, by rw [← List.append_assoc]; exact hx3⟩
          rw [List.map_append, hys, Tm.pre]
          rw [h1]
          obtain ⟨z, hz⟩ := hy3
          exact ⟨z ++ (preL (args.drop (i + 1))).map nodePV, by simp [← hz]⟩
      case fin =>
        rintro a W2 ⟨x2, x3, x4, x5, x6, x7, x8, x9, x10, x11, x12, x13, x16, x17, x18, x19, x20, x21, x22, x23, x24, x25, x26, x27, rfl, ⟨ys, hys, hj⟩, hk⟩
        rw [List.take_length] at hys
        gi_wp2
        go_ret
        exact .inl ⟨rfl, ys, by rw [hys, Tm.pre], hj, hk⟩
    · obtain ⟨ys, h1, h2⟩ := hx1
      go_ret
      exact .inr ⟨rfl, ys, by rw [h1, Tm.pre]; exact ⟨(preL args).map nodePV, by simp⟩, h2⟩
end
section
theorem tlNodes_p : ∀ (fuel : Nat) (l : Lv) (most : Nat), l.nodes ≤ fuel ∨ most ≤ fuel → 1 ≤ most → most ≤ 3000 →
    PPure Try.prog F.term_levelNodes [.ptr l.pv, .sc (.int .i64 most)] (.sc (.int .i64 (min l.nodes most : Nat))) := by
  intro fuel
  induction fuel with
  | zero => intro l most h h1; have := nodes_pos l; omega
  | succ fuel ih =>
    intro l most hf h1 h2
    cases l with
    | mk k n args =>
    simp only [Lv.nodes] at hf
    refine pure_by is_term_levelNodes (by simp) rfl fun hb nx => ?_
    have hb0 : args.length ≤ 9223372036854775807 := by simp [Lv.pv, bndL, PV.bnd] at hb; exact hb.1
    simp (maxSteps := 1000000) (disch := omega) only [go_sem, Nat.reduceAdd, Nat.reduceMul, Nat.reduceSub, Nat.reduceLeDiff, Nat.reduceEqDiff, Nat.reduceBEq, ↓reduceIte, reduceCtorEq, Int.reduceEq, Int.reduceLE, Int.reduceLT, Int.reduceAdd, Int.reduceSub, Int.reduceNeg, Int.reduceToNat, Int.reduceNe, Nat.reducePow, Nat.reduceShiftRight, Nat.reduceMod, mc_term_levelNodes, Lv.pv]
    refine c_loop (fun j s => ∃ i t : Nat, j = args.length - i ∧ i ≤ args.length ∧ t = min (1 + nodesL (args.take i)) most ∧ s.s 0 = .ptr (Lv.mk k n args).pv ∧ s.s 1 = .sc (.int .i64 most) ∧ s.s 5 = .sc (.int .i64 t) ∧ s.s 11 = .sc (.int .i64 args.length) ∧ s.s 12 = .sc (.int .i64 i)) _ ⟨0, 1, rfl, by omega, by simp [nodesL]; omega, by simp [upd, sigF, sig_eq, Lv.pv]⟩ ?_
    rintro _ s ⟨i, t, rfl, hi, ht, e0, e1, e5, e11, e12⟩
    simp (maxSteps := 1000000) (disch := omega) only [go_sem, Nat.reduceAdd, Nat.reduceMul, Nat.reduceSub, Nat.reduceLeDiff, Nat.reduceEqDiff, Nat.reduceBEq, ↓reduceIte, reduceCtorEq, Int.reduceEq, Int.reduceLE, Int.reduceLT, Int.reduceAdd, Int.reduceSub, Int.reduceNeg, Int.reduceToNat, Int.reduceNe, Nat.reducePow, Nat.reduceShiftRight, Nat.reduceMod, Lv.pv, e0, e1, e5, e11, e12]
    by_cases hlt : i < args.length
    · have hs := nodesL_take_succ args i hlt
      have hp := nodes_pos args[i]
      simp (maxSteps := 1000000) (disch := omega) only [go_sem, Nat.reduceAdd, Nat.reduceMul, Nat.reduceSub, Nat.reduceLeDiff, Nat.reduceEqDiff, Nat.reduceBEq, ↓reduceIte, reduceCtorEq, Int.reduceEq, Int.reduceLE, Int.reduceLT, Int.reduceAdd, Int.reduceSub, Int.reduceNeg, Int.reduceToNat, Int.reduceNe, Nat.reducePow, Nat.reduceShiftRight, Nat.reduceMod, hlt, Lv.pv, e0, e1, e5, e11, e12]
      by_cases hfull : most ≤ t
      · simp (maxSteps := 1000000) (disch := omega) only [go_sem, Nat.reduceAdd, Nat.reduceMul, Nat.reduceSub, Nat.reduceLeDiff, Nat.reduceEqDiff, Nat.reduceBEq, ↓reduceIte, reduceCtorEq, Int.reduceEq, Int.reduceLE, Int.reduceLT, Int.reduceAdd, Int.reduceSub, Int.reduceNeg, Int.reduceToNat, Int.reduceNe, Nat.reducePow, Nat.reduceShiftRight, Nat.reduceMod, hfull, Lv.pv, e0, e1, e5, e11, e12]
        refine fin_tmp (.inr rfl) ?_
        have := nodesL_take_le args i
        simp only [go_sem, Nat.reduceAdd, Nat.reduceMul, Nat.reduceSub, Nat.reduceLeDiff, Nat.reduceEqDiff, Nat.reduceBEq, ↓reduceIte, reduceCtorEq, Int.reduceEq, Int.reduceLE, Int.reduceLT, Int.reduceAdd, Int.reduceSub, Int.reduceNeg, Int.reduceToNat, Int.reduceNe, Nat.reducePow, Nat.reduceShiftRight, Nat.reduceMod, Lv.nodes, PV.sc.injEq, Value.int.injEq]
        omega
      · have em : ((most : Int) - t) = ((most - t : Nat) : Int) := by omega
        have eg : args[i]? = some args[i] := List.getElem?_eq_getElem hlt
        simp (maxSteps := 1000000) (disch := omega) only [go_sem, Nat.reduceAdd, Nat.reduceMul, Nat.reduceSub, Nat.reduceLeDiff, Nat.reduceEqDiff, Nat.reduceBEq, ↓reduceIte, reduceCtorEq, Int.reduceEq, Int.reduceLE, Int.reduceLT, Int.reduceAdd, Int.reduceSub, Int.reduceNeg, Int.reduceToNat, Int.reduceNe, Nat.reducePow, Nat.reduceShiftRight, Nat.reduceMod, hfull, Lv.pv, e0, e1, e5, e11, e12, em, eg]
        refine call_pure (ih args[i] (most - t) (by have := nodesL_mem args i hlt; omega) (by omega) (by omega)) ?_
        simp (maxSteps := 1000000) (disch := omega) only [go_sem, Nat.reduceAdd, Nat.reduceMul, Nat.reduceSub, Nat.reduceLeDiff, Nat.reduceEqDiff, Nat.reduceBEq, ↓reduceIte, reduceCtorEq, Int.reduceEq, Int.reduceLE, Int.reduceLT, Int.reduceAdd, Int.reduceSub, Int.reduceNeg, Int.reduceToNat, Int.reduceNe, Nat.reducePow, Nat.reduceShiftRight, Nat.reduceMod, hfull, Lv.pv, e0, e1, e5, e11, e12, em, eg]
        exact ⟨args.length - (i + 1), by omega, i + 1, t + min args[i].nodes (most - t), rfl, by omega, by omega, by simp, by simp⟩
    · simp (maxSteps := 1000000) (disch := omega) only [go_sem, Nat.reduceAdd, Nat.reduceMul, Nat.reduceSub, Nat.reduceLeDiff, Nat.reduceEqDiff, Nat.reduceBEq, ↓reduceIte, reduceCtorEq, Int.reduceEq, Int.reduceLE, Int.reduceLT, Int.reduceAdd, Int.reduceSub, Int.reduceNeg, Int.reduceToNat, Int.reduceNe, Nat.reducePow, Nat.reduceShiftRight, Nat.reduceMod, hlt, Lv.pv, e0, e1, e5, e11, e12]
      refine fin_tmp (.inr rfl) ?_
      have hj : i = args.length := by omega
      subst hj
      rw [List.take_length] at ht
      simp only [go_sem, Nat.reduceAdd, Nat.reduceMul, Nat.reduceSub, Nat.reduceLeDiff, Nat.reduceEqDiff, Nat.reduceBEq, ↓reduceIte, reduceCtorEq, Int.reduceEq, Int.reduceLE, Int.reduceLT, Int.reduceAdd, Int.reduceSub, Int.reduceNeg, Int.reduceToNat, Int.reduceNe, Nat.reducePow, Nat.reduceShiftRight, Nat.reduceMod, Lv.nodes, PV.sc.injEq, Value.int.injEq]
      omega
end
section
set_option maxRecDepth 20000
attribute [local go_sem] pv_len pv_take tm_len tm_take pv_one tm_one id_ne id_ne' id_ne2
set_option maxRecDepth 100000 in
set_option maxHeartbeats 4000000 in
theorem all_seq (t : Tm) : PSeq Try.prog F.term_all_1 [.ptr [.ptr t.pv]] (t.pre.map nodePV) := by
  refine ⟨is_term_all_1.enters, fun V vals hok hv => ?_⟩
  intro l J Jx W hW _ _ hY h0
  have hdd : ∀ k : Nat, (Fence.wide.depth.isSome = true → 1 ≤ k) := fun k h => by cases h
  obtain ⟨v1, hv1, hr1⟩ := hv.get (i := 0) (x := .ptr [.ptr t.pv]) rfl
  have hvals : vals = [v1] := by
    have h1 := hv.1
    match vals, h1, hv1 with
    | [x], _, h => simp at h; rw [h]
  subst hvals
  obtain ⟨b, off, vs, rfl, hokb, hr, hc⟩ := hr1.ptr_inv
  obtain ⟨p, hp1, hrep⟩ := hr.get (i := 0) (x := .ptr t.pv) rfl
  have hkeep : ∀ b, V.ok b → W.heap[b]? = V.w.heap[b]? := fun b hb => hW.block b (hok b hb)
  have hcell : W.cell? ⟨b, off, none⟩ = some p := (World.cell?_of_block (w := V.w) (w' := W) (a := ⟨b, off, none⟩) (hkeep b hokb)).trans (hc 0 p hp1)
  have hw := walkNodes0 V (t.pre.map nodePV) l (t.pre.map nodePV).length J Jx (fun m pre x W hj hl => YieldAt.any rfl m (hY pre x W hj hl)) t.size t (Nat.le_refl _) 0 p [] W hrep (fun u hu => List.mem_map_of_mem hu) hkeep h0 (by simp)
  refine callsIn_of_wp Try.func115 rfl trivial ?_ rfl
  simp only [Try.ntmps115, List.size_toArray, List.length_cons, List.length_nil, Nat.reduceAdd, Nat.reduceSub, Array.replicate_succ, Array.replicate_zero, List.push_toArray, List.append_toArray, List.nil_append, List.cons_append]
  gi_wp2_with (refine ⟨trivial, ?_⟩; refine hw.mono ?_; clear hw; rintro e W1 (⟨rfl, ys, h1, h2, h3⟩ | ⟨rfl, ys, h1, h2⟩))
  · go_end0
    exact ⟨⟨_, rfl⟩, .inl ⟨ys, h1, by simpa using h2⟩⟩
  · go_end0
    exact ⟨⟨_, rfl⟩, .inr ⟨ys, h1, by simpa using h2⟩⟩
theorem all_p (t : Tm) : PPure Try.prog F.term_all [.ptr t.pv] (.fn F.term_all_1 [.ptr [.ptr t.pv]]) := by
  refine pure_by is_term_all (by simp) (by simp [PV.imm, immL, tm_imm]) fun hb nx => ?_
  repeat' (first | ((with_reducible first | refine cond_pos (by omega) ?_ | refine cond_neg (by omega) ?_ | refine guard_pos (by omega) ?_ | refine guard_neg (by omega) ?_ | refine cond_ifn ?_ ?_ | refine cond_waysn ?_ ?_ | refine guard_ifn ?_ ?_ | refine guard_waysn ?_ ?_ | refine cond_if ?_ ?_ | refine cond_ways ?_ ?_ | refine guard_if ?_ ?_ | refine guard_ways ?_ ?_) <;> intro _) | simp (maxSteps := 1000000) (disch := omega) only [go_sem, Nat.reduceAdd, Nat.reduceMul, Nat.reduceSub, Nat.reduceLeDiff, Nat.reduceEqDiff, Nat.reduceBEq, ↓reduceIte, reduceCtorEq, Int.reduceEq, Int.reduceLE, Int.reduceLT, Int.reduceAdd, Int.reduceSub, Int.reduceNeg, Int.reduceToNat, Int.reduceNe, Nat.reducePow, Nat.reduceShiftRight, Nat.reduceMod, mc_term_all, *])
  exact fin_tmp (.inr rfl) (by simp [upd])
mutual
theorem Lv.pv_inj : ∀ a b : Lv, a.pv = b.pv → a = b
  | .mk k n args, .mk k' n' args', h => by
    simp only [Lv.pv, List.cons.injEq, PV.sc.injEq, Value.int.injEq, PV.sl.injEq, true_and, and_true] at h
    rw [h.1, h.2.1, pvL_inj args args' h.2.2]
theorem pvL_inj : ∀ a b : List Lv, a.map Lv.pv = b.map Lv.pv → a = b
  | [], [], _ => rfl
  | [], y :: s, h => by simp at h
  | x :: r, [], h => by simp at h
  | x :: r, y :: s, h => by
    simp only [List.map_cons, List.cons.injEq] at h
    rw [Lv.pv_inj x y h.1, pvL_inj r s h.2]
end
def Tm.wt : Tm → Nat
  | .mk _ _ _ ls _ => 1 + (ls.map fun l => min l.nodes 2001).sum
def Tm.own : Tm → Nat
  | .mk _ _ _ ls _ => 1 + nodesL ls
theorem wt_of_pv {a b : Tm} (h : nodePV a = nodePV b) : a.wt = b.wt := by
  cases a; cases b
  simp only [nodePV, Tm.pv, PV.ptr.injEq, List.cons.injEq, PV.sl.injEq, true_and, and_true] at h
  simp only [Tm.wt]
  rw [pvL_inj _ _ h.2.2.2.1]
def wts (us : List Tm) : Nat := (us.map Tm.wt).sum
theorem wts_of_pv : ∀ {us vs : List Tm}, us.map nodePV = vs.map nodePV → wts us = wts vs
  | [], [], _ => rfl
  | [], _ :: _, h => by simp at h
  | _ :: _, [], h => by simp at h
  | a :: us, b :: vs, h => by
    simp only [List.map_cons, List.cons.injEq] at h
    have := wts_of_pv h.2
    simp only [wts, List.map_cons, List.sum_cons] at this ⊢
    rw [wt_of_pv h.1, this]
theorem mins_le : ∀ ls : List Lv, (ls.map fun l => min l.nodes 2001).sum ≤ nodesL ls
  | [] => by simp [nodesL]
  | x :: r => by have := mins_le r; simp only [List.map_cons, List.sum_cons, nodesL]; omega
theorem mins_eq : ∀ ls : List Lv, (ls.map fun l => min l.nodes 2001).sum ≤ 2000 → (ls.map fun l => min l.nodes 2001).sum = nodesL ls
  | [], _ => by simp [nodesL]
  | x :: r, h => by
    simp only [List.map_cons, List.sum_cons, nodesL] at h ⊢
    have := mins_eq r (by omega)
    omega
theorem wt_le (t : Tm) : t.wt ≤ t.own := by
  cases t
  simp only [Tm.wt, Tm.own]
  have := mins_le ‹List Lv›
  omega
theorem wt_eq (t : Tm) (h : t.wt ≤ 2000) : t.wt = t.own := by
  cases t
  rename_i ls _
  simp only [Tm.wt, Tm.own] at h ⊢
  have := mins_eq ls (by omega)
  omega
theorem wts_le : ∀ us : List Tm, wts us ≤ (us.map Tm.own).sum
  | [] => by simp [wts]
  | x :: r => by have := wts_le r; have := wt_le x; simp only [wts, List.map_cons, List.sum_cons] at *; omega
theorem wts_eq : ∀ us : List Tm, wts us ≤ 2000 → wts us = (us.map Tm.own).sum
  | [], _ => by simp [wts]
  | x :: r, h => by
    simp only [wts, List.map_cons, List.sum_cons] at h ⊢
    have h1 := wts_eq r (by simp only [wts]; omega)
    have h2 := wt_eq x (by omega)
    simp only [wts] at h1
    omega
mutual
theorem own_pre : ∀ t : Tm, (t.pre.map Tm.own).sum = t.nodes
  | .mk k n s ls args => by
    simp only [Tm.pre, List.map_cons, List.sum_cons, Tm.own, Tm.nodes, own_preL args]
    omega
theorem own_preL : ∀ ts : List Tm, ((preL ts).map Tm.own).sum = nodesT ts
  | [] => by simp [preL, nodesT]
  | x :: r => by simp only [preL, List.map_append, List.sum_append, nodesT, own_pre x, own_preL r]
end
theorem wts_prefix {us vs : List Tm} (h : us.map nodePV <+: vs.map nodePV) : wts us ≤ wts vs := by
  obtain ⟨z, hz⟩ := h
  have h1 : us.map nodePV = (vs.take us.length).map nodePV := by
    rw [List.map_take, ← hz, List.take_left' (by simp)]
  rw [wts_of_pv h1]
  have h2 : wts vs = wts (vs.take us.length) + wts (vs.drop us.length) := by
    simp only [wts]
    rw [← List.sum_append, ← List.map_append, List.take_append_drop]
  omega
def minsL (ls : List Lv) : Nat := (ls.map fun l => min l.nodes 2001).sum
theorem minsL_take (ls : List Lv) (i : Nat) (h : i < ls.length) : minsL (ls.take (i + 1)) = minsL (ls.take i) + min ls[i].nodes 2001 := by
  unfold minsL
  rw [List.take_succ_eq_append_getElem h, List.map_append, List.sum_append]
  simp
end
section
set_option maxRecDepth 20000
attribute [local go_sem] pv_len pv_take Nat.add_assoc tm_len tm_take
mutual
def Tm.mass : Tm → Nat
  | .mk _ _ s ls args => 1 + s.size / 16 + (nodesL ls + massT args)
def massT : List Tm → Nat
  | [] => 0
  | x :: r => x.mass + massT r
end
mutual
def Tm.fits : Tm → Prop
  | .mk _ _ s _ args => s.size ≤ 9223372036854775807 ∧ fitsT args
def fitsT : List Tm → Prop
  | [] => True
  | x :: r => x.fits ∧ fitsT r
end
theorem fitsT_mem : ∀ (ts : List Tm) (k : Nat) (h : k < ts.length), fitsT ts → ts[k].fits
  | x :: r, 0, h, hf => by simpa using hf.1
  | x :: r, k + 1, h, hf => by simpa using fitsT_mem r k (by simpa using h) hf.2
theorem massT_take_succ : ∀ (ts : List Tm) (k : Nat) (h : k < ts.length), massT (ts.take (k + 1)) = massT (ts.take k) + ts[k].mass
  | x :: r, 0, h => by simp [massT]
  | x :: r, k + 1, h => by
    have := massT_take_succ r k (by simpa using h)
    simp only [List.take_succ_cons, massT, List.getElem_cons_succ, this]
    omega
theorem massT_append : ∀ a b : List Tm, massT (a ++ b) = massT a + massT b
  | [], b => by simp [massT]
  | x :: r, b => by simp only [List.cons_append, massT, massT_append r b]; omega
theorem massT_take_le (ts : List Tm) (k : Nat) : massT (ts.take k) ≤ massT ts := by
  have h := massT_append (ts.take k) (ts.drop k)
  rw [List.take_append_drop] at h
  omega
set_option maxHeartbeats 8000000 in
theorem Mass_p (most : Nat) (hm : most ≤ 1000000) : ∀ (fuel : Nat) (t : Tm), t.size ≤ fuel → t.fits →
    PPure Try.prog F.ref00_Nodes [.agg t.pv, .sc (.int .i64 most)] (.sc (.int .i64 (min t.mass (most + 1) : Nat))) := by
  intro fuel
  induction fuel with
  | zero => intro t h _; have := size_pos t; omega
  | succ fuel ih =>
    intro t hf hfit
    cases t with
    | mk k n s ls args =>
    simp only [Tm.size] at hf
    refine pure_by is_ref00_Nodes (by simp) rfl fun hb nx => ?_
    have hb0 : ls.length ≤ 9223372036854775807 ∧ args.length ≤ 9223372036854775807 := by simp [Tm.pv, bndL, PV.bnd] at hb; exact ⟨hb.1.1, hb.2.1⟩
    have hsz := hfit.1
    have hfits := Kept.mk hfit.2
    clear hfit
    have htd : Int.tdiv (s.size : Int) 16 = ((s.size / 16 : Nat) : Int) := by rw [Int.tdiv_eq_ediv_of_nonneg (by omega)]; omega
    repeat' (first | ((with_reducible first | refine cond_pos (by omega) ?_ | refine cond_neg (by omega) ?_ | refine guard_pos (by omega) ?_ | refine guard_neg (by omega) ?_ | refine cond_ifn ?_ ?_ | refine cond_waysn ?_ ?_ | refine guard_ifn ?_ ?_ | refine guard_waysn ?_ ?_ | refine cond_if ?_ ?_ | refine cond_ways ?_ ?_ | refine guard_if ?_ ?_ | refine guard_ways ?_ ?_) <;> intro _) | simp (maxSteps := 1000000) (disch := omega) only [go_sem, Nat.reduceAdd, Nat.reduceMul, Nat.reduceSub, Nat.reduceLeDiff, Nat.reduceEqDiff, Nat.reduceBEq, ↓reduceIte, reduceCtorEq, Int.reduceEq, Int.reduceLE, Int.reduceLT, Int.reduceAdd, Int.reduceSub, Int.reduceNeg, Int.reduceToNat, Int.reduceNe, Nat.reducePow, Nat.reduceShiftRight, Nat.reduceMod, mc_ref00_Nodes, Tm.pv, htd, *])
    refine c_loopW 17179861088 (by kernel_rfl) (fun j f H m => ∃ i t : Nat, j = ls.length - i ∧ i ≤ ls.length ∧ min t (most + 1) = min (1 + s.size / 16 + nodesL (ls.take i)) (most + 1) ∧ t ≤ 2 * most + 1 + s.size / 16 ∧ f 5 = .sc (.int .i64 t) ∧ f 6 = .sc (.int .i64 i)) _ ⟨0, 1 + s.size / 16, rfl, (by first | assumption | omega | rfl | (simp (disch := omega) only [go_sem, Nat.reduceMul, Nat.reduceSub, Nat.reduceShiftRight, Nat.reduceMod, Nat.reduceEqDiff, Nat.reduceAdd, ↓reduceIte, Nat.reduceLeDiff, *] <;> omega)), by simp [nodesL], by omega, (by first | assumption | omega | rfl | (simp (disch := omega) only [go_sem, Nat.reduceMul, Nat.reduceSub, Nat.reduceShiftRight, Nat.reduceMod, Nat.reduceEqDiff, Nat.reduceAdd, ↓reduceIte, Nat.reduceLeDiff, *] <;> omega)), (by first | assumption | omega | rfl | (simp (disch := omega) only [go_sem, Nat.reduceMul, Nat.reduceSub, Nat.reduceShiftRight, Nat.reduceMod, Nat.reduceEqDiff, Nat.reduceAdd, ↓reduceIte, Nat.reduceLeDiff, *] <;> omega))⟩ ?_
    rintro _ f H m ⟨i, t, rfl, hi, ht, ht2, e5, e6⟩
    by_cases hgo : i < ls.length ∧ t ≤ most
    · obtain ⟨hlt, hfull⟩ := hgo
      have eg : ls[i]? = some ls[i] := List.getElem?_eq_getElem hlt
      have hs := nodesL_take_succ ls i hlt
      repeat' (first | ((with_reducible first | refine cond_pos (by omega) ?_ | refine cond_neg (by omega) ?_ | refine guard_pos (by omega) ?_ | refine guard_neg (by omega) ?_ | refine cond_ifn ?_ ?_ | refine cond_waysn ?_ ?_ | refine guard_ifn ?_ ?_ | refine guard_waysn ?_ ?_ | refine cond_if ?_ ?_ | refine cond_ways ?_ ?_ | refine guard_if ?_ ?_ | refine guard_ways ?_ ?_) <;> intro _) | (((with_reducible refine call_id ?_); (first | (refine call_pure (LevelNodes_p most hm ls[i].nodes ls[i] (Nat.le_refl _)) ?_)))) | simp (maxSteps := 1000000) (disch := omega) only [go_sem, Nat.reduceAdd, Nat.reduceMul, Nat.reduceSub, Nat.reduceLeDiff, Nat.reduceEqDiff, Nat.reduceBEq, ↓reduceIte, reduceCtorEq, Int.reduceEq, Int.reduceLE, Int.reduceLT, Int.reduceAdd, Int.reduceSub, Int.reduceNeg, Int.reduceToNat, Int.reduceNe, Nat.reducePow, Nat.reduceShiftRight, Nat.reduceMod, Tm.pv, *])
      exact Nx.mk (ls.length - (i + 1)) (by first | assumption | omega | rfl | (simp (disch := omega) only [go_sem, Nat.reduceMul, Nat.reduceSub, Nat.reduceShiftRight, Nat.reduceMod, Nat.reduceEqDiff, Nat.reduceAdd, ↓reduceIte, Nat.reduceLeDiff, *] <;> omega)) ⟨i + 1, t + min ls[i].nodes (most + 1), rfl, (by first | assumption | omega | rfl | (simp (disch := omega) only [go_sem, Nat.reduceMul, Nat.reduceSub, Nat.reduceShiftRight, Nat.reduceMod, Nat.reduceEqDiff, Nat.reduceAdd, ↓reduceIte, Nat.reduceLeDiff, *] <;> omega)), by omega, by omega, (by first | assumption | omega | rfl | (simp (disch := omega) only [go_sem, Nat.reduceMul, Nat.reduceSub, Nat.reduceShiftRight, Nat.reduceMod, Nat.reduceEqDiff, Nat.reduceAdd, ↓reduceIte, Nat.reduceLeDiff, *] <;> omega)), (by first | assumption | omega | rfl | (simp (disch := omega) only [go_sem, Nat.reduceMul, Nat.reduceSub, Nat.reduceShiftRight, Nat.reduceMod, Nat.reduceEqDiff, Nat.reduceAdd, ↓reduceIte, Nat.reduceLeDiff, *] <;> omega))⟩
    · have hfin : min t (most + 1) = min (1 + s.size / 16 + nodesL ls) (most + 1) := by
        by_cases h : i < ls.length
        · have := nodesL_take_le ls i; omega
        · have e : ls.take i = ls := List.take_of_length_le (by omega)
          rw [e] at ht
          exact ht
      have hor : (i < ls.length ∧ most < t) ∨ ¬ i < ls.length := by omega
      clear hgo ht
      rcases hor with ⟨h, h'⟩ | h
      all_goals
        repeat' (first | ((with_reducible first | refine cond_pos (by omega) ?_ | refine cond_neg (by omega) ?_ | refine guard_pos (by omega) ?_ | refine guard_neg (by omega) ?_ | refine cond_ifn ?_ ?_ | refine cond_waysn ?_ ?_ | refine guard_ifn ?_ ?_ | refine guard_waysn ?_ ?_ | refine cond_if ?_ ?_ | refine cond_ways ?_ ?_ | refine guard_if ?_ ?_ | refine guard_ways ?_ ?_) <;> intro _) | simp (maxSteps := 1000000) (disch := omega) only [go_sem, Nat.reduceAdd, Nat.reduceMul, Nat.reduceSub, Nat.reduceLeDiff, Nat.reduceEqDiff, Nat.reduceBEq, ↓reduceIte, reduceCtorEq, Int.reduceEq, Int.reduceLE, Int.reduceLT, Int.reduceAdd, Int.reduceSub, Int.reduceNeg, Int.reduceToNat, Int.reduceNe, Nat.reducePow, Nat.reduceShiftRight, Nat.reduceMod, Tm.pv, *])
        refine c_loopW 36028779839094944 (by kernel_rfl) (fun j f H m => ∃ i2 t2 : Nat, j = args.length - i2 ∧ i2 ≤ args.length ∧ min t2 (most + 1) = min (1 + s.size / 16 + (nodesL ls + massT (args.take i2))) (most + 1) ∧ t2 ≤ 2 * most + 1 + s.size / 16 ∧ f 5 = .sc (.int .i64 t2) ∧ f 7 = .sc (.int .i64 i2)) _ ⟨0, t, rfl, (by first | assumption | omega | rfl | (simp (disch := omega) only [go_sem, Nat.reduceMul, Nat.reduceSub, Nat.reduceShiftRight, Nat.reduceMod, Nat.reduceEqDiff, Nat.reduceAdd, ↓reduceIte, Nat.reduceLeDiff, *] <;> omega)), by simp [massT]; omega, (by first | assumption | omega | rfl | (simp (disch := omega) only [go_sem, Nat.reduceMul, Nat.reduceSub, Nat.reduceShiftRight, Nat.reduceMod, Nat.reduceEqDiff, Nat.reduceAdd, ↓reduceIte, Nat.reduceLeDiff, *] <;> omega)), (by first | assumption | omega | rfl | (simp (disch := omega) only [go_sem, Nat.reduceMul, Nat.reduceSub, Nat.reduceShiftRight, Nat.reduceMod, Nat.reduceEqDiff, Nat.reduceAdd, ↓reduceIte, Nat.reduceLeDiff, *] <;> omega)), (by first | assumption | omega | rfl | (simp (disch := omega) only [go_sem, Nat.reduceMul, Nat.reduceSub, Nat.reduceShiftRight, Nat.reduceMod, Nat.reduceEqDiff, Nat.reduceAdd, ↓reduceIte, Nat.reduceLeDiff, *] <;> omega))⟩ ?_
        rintro _ f2 H2 m2 ⟨i2, t2, rfl, hi2, ht3, ht4, e5', e7⟩
        by_cases hgo : i2 < args.length ∧ t2 ≤ most
        · obtain ⟨hlt, hfull⟩ := hgo
          have eg : args[i2]? = some args[i2] := List.getElem?_eq_getElem hlt
          have hs := massT_take_succ args i2 hlt
          have hsz := sizeL_mem args i2 hlt
          repeat' (first | ((with_reducible first | refine cond_pos (by omega) ?_ | refine cond_neg (by omega) ?_ | refine guard_pos (by omega) ?_ | refine guard_neg (by omega) ?_ | refine cond_ifn ?_ ?_ | refine cond_waysn ?_ ?_ | refine guard_ifn ?_ ?_ | refine guard_waysn ?_ ?_ | refine cond_if ?_ ?_ | refine cond_ways ?_ ?_ | refine guard_if ?_ ?_ | refine guard_ways ?_ ?_) <;> intro _) | (((with_reducible refine call_id ?_); (first | (refine call_pure (ih args[i2] (by omega) (fitsT_mem args i2 hlt hfits.out)) ?_)))) | simp (maxSteps := 1000000) (disch := omega) only [go_sem, Nat.reduceAdd, Nat.reduceMul, Nat.reduceSub, Nat.reduceLeDiff, Nat.reduceEqDiff, Nat.reduceBEq, ↓reduceIte, reduceCtorEq, Int.reduceEq, Int.reduceLE, Int.reduceLT, Int.reduceAdd, Int.reduceSub, Int.reduceNeg, Int.reduceToNat, Int.reduceNe, Nat.reducePow, Nat.reduceShiftRight, Nat.reduceMod, Tm.pv, *])
          exact Nx.mk (args.length - (i2 + 1)) (by first | assumption | omega | rfl | (simp (disch := omega) only [go_sem, Nat.reduceMul, Nat.reduceSub, Nat.reduceShiftRight, Nat.reduceMod, Nat.reduceEqDiff, Nat.reduceAdd, ↓reduceIte, Nat.reduceLeDiff, *] <;> omega)) ⟨i2 + 1, t2 + min args[i2].mass (most + 1), rfl, (by first | assumption | omega | rfl | (simp (disch := omega) only [go_sem, Nat.reduceMul, Nat.reduceSub, Nat.reduceShiftRight, Nat.reduceMod, Nat.reduceEqDiff, Nat.reduceAdd, ↓reduceIte, Nat.reduceLeDiff, *] <;> omega)), by omega, by omega, (by first | assumption | omega | rfl | (simp (disch := omega) only [go_sem, Nat.reduceMul, Nat.reduceSub, Nat.reduceShiftRight, Nat.reduceMod, Nat.reduceEqDiff, Nat.reduceAdd, ↓reduceIte, Nat.reduceLeDiff, *] <;> omega)), (by first | assumption | omega | rfl | (simp (disch := omega) only [go_sem, Nat.reduceMul, Nat.reduceSub, Nat.reduceShiftRight, Nat.reduceMod, Nat.reduceEqDiff, Nat.reduceAdd, ↓reduceIte, Nat.reduceLeDiff, *] <;> omega))⟩
        · have hfin2 : min t2 (most + 1) = min (1 + s.size / 16 + (nodesL ls + massT args)) (most + 1) := by
            by_cases h : i2 < args.length
            · have := massT_take_le args i2; omega
            · have e : args.take i2 = args := List.take_of_length_le (by omega)
              rw [e] at ht3
              exact ht3
          have hor : (i2 < args.length ∧ most < t2) ∨ ¬ i2 < args.length := by omega
          clear hgo ht3
          rcases hor with ⟨h2, h2'⟩ | h2
          all_goals
            repeat' (first | ((with_reducible first | refine cond_pos (by omega) ?_ | refine cond_neg (by omega) ?_ | refine guard_pos (by omega) ?_ | refine guard_neg (by omega) ?_ | refine cond_ifn ?_ ?_ | refine cond_waysn ?_ ?_ | refine guard_ifn ?_ ?_ | refine guard_waysn ?_ ?_ | refine cond_if ?_ ?_ | refine cond_ways ?_ ?_ | refine guard_if ?_ ?_ | refine guard_ways ?_ ?_) <;> intro _) | simp (maxSteps := 1000000) (disch := omega) only [go_sem, Nat.reduceAdd, Nat.reduceMul, Nat.reduceSub, Nat.reduceLeDiff, Nat.reduceEqDiff, Nat.reduceBEq, ↓reduceIte, reduceCtorEq, Int.reduceEq, Int.reduceLE, Int.reduceLT, Int.reduceAdd, Int.reduceSub, Int.reduceNeg, Int.reduceToNat, Int.reduceNe, Nat.reducePow, Nat.reduceShiftRight, Nat.reduceMod, Tm.pv, *])
            refine fin_tmp (.inr rfl) ?_
            simp (disch := omega) only [go_sem, Nat.reduceMul, Nat.reduceSub, Nat.reduceShiftRight, Nat.reduceMod, Nat.reduceEqDiff, Nat.reduceAdd, ↓reduceIte, Nat.reduceLeDiff, Tm.mass, *]
            omega
end
section
set_option maxRecDepth 20000
attribute [local go_sem] pv_len pv_take Nat.add_assoc tm_len tm_take pv_one tm_one
theorem Great_p (t : Tm) (hf : t.fits) : PPure Try.prog F.law04_Great [.agg t.pv] (.sc (.bool (decide (2500 < t.mass)))) := by
  refine pure_by is_law04_Great (by simp) rfl fun hb nx => ?_
  have c1 := Mass_p 2500 (by omega) t.size t (Nat.le_refl _) hf
  repeat' (first | ((with_reducible first | refine cond_pos (by omega) ?_ | refine cond_neg (by omega) ?_ | refine guard_pos (by omega) ?_ | refine guard_neg (by omega) ?_ | refine cond_ifn ?_ ?_ | refine cond_waysn ?_ ?_ | refine guard_ifn ?_ ?_ | refine guard_waysn ?_ ?_ | refine cond_if ?_ ?_ | refine cond_ways ?_ ?_ | refine guard_if ?_ ?_ | refine guard_ways ?_ ?_) <;> intro _) | (((with_reducible refine call_id ?_); (first | (refine call_pure (c1) ?_)))) | simp (maxSteps := 1000000) (disch := omega) only [go_sem, Nat.reduceAdd, Nat.reduceMul, Nat.reduceSub, Nat.reduceLeDiff, Nat.reduceEqDiff, Nat.reduceBEq, ↓reduceIte, reduceCtorEq, Int.reduceEq, Int.reduceLE, Int.reduceLT, Int.reduceAdd, Int.reduceSub, Int.reduceNeg, Int.reduceToNat, Int.reduceNe, Nat.reducePow, Nat.reduceShiftRight, Nat.reduceMod, mc_law04_Great, *])
  all_goals (refine fin_tmp (.inr rfl) ?_; simp [upd, *] <;> omega)
end
section
set_option maxRecDepth 20000
attribute [local go_sem] pv_len pv_take Nat.add_assoc tm_len tm_take pv_one tm_one tpvB_len tpvB_take tpvB_one pvB_len pvB_take pvB_one id_ne id_ne' id_ne2 List.append_assoc
theorem frgF_sc (G : Nat → Bool) (k : Nat) (H : Nat → Option PObj) (v : Value) : frgF G k H (.sc v) = .sc v := by cases k <;> rfl
theorem frgF_imm (G : Nat → Bool) (H : Nat → Option PObj) : ∀ (k : Nat) (x : PV), x.imm = true → frgF G k H x = x := by
  intro k
  induction k with
  | zero => intro x _; rfl
  | succ k ih =>
    have hl : ∀ xs : List PV, immL xs = true → xs.map (frgF G k H) = xs := by
      intro xs
      induction xs with
      | nil => intro _; rfl
      | cons x r ihr =>
        intro h
        simp only [immL, Bool.and_eq_true] at h
        rw [List.map_cons, ih x h.1, ihr h.2]
    intro x hx
    cases x with
    | agg xs => simp only [PV.imm] at hx; simp only [frgF, hl xs hx]
    | tup xs => simp only [PV.imm] at hx; simp only [frgF, hl xs hx]
    | fn f xs => simp only [PV.imm] at hx; simp only [frgF, hl xs hx]
    | optr id off => simp [PV.imm] at hx
    | osl id off len sz => simp [PV.imm] at hx
    | _ => rfl
theorem frgF_immL (G : Nat → Bool) (H : Nat → Option PObj) (k : Nat) : ∀ xs : List PV, immL xs = true → xs.map (frgF G k H) = xs
  | [], _ => rfl
  | x :: r, h => by
    simp only [immL, Bool.and_eq_true] at h
    rw [List.map_cons, frgF_imm G H k x h.1, frgF_immL G H k r h.2]
mutual
theorem OwnT.frg {H : Nat → Option PObj} {G : Nat → Bool} : ∀ (t : Tm) (lo m : Nat) (cs : List PV), OwnT H lo m cs t → (∀ j, lo ≤ j → j < m → G j = true) → ∀ k, t.size ≤ k → WeakL (cs.map (frgF G k H)) (t.pvB true)
  | .mk kind n s ls args, lo, m, cs, h, hG, k, hk => by
    simp only [OwnT] at h
    obtain ⟨a, b, rfl, ha, hb⟩ := h
    simp only [Tm.size] at hk
    obtain ⟨k, rfl⟩ : ∃ k', k = k' + 1 := ⟨k - 1, by omega⟩
    rw [Tm.pvB]
    simp only [List.map_cons, List.map_nil]
    refine ⟨.of_eq (frgF_sc _ _ _ _), .of_eq (frgF_sc _ _ _ _), .of_eq (frgF_sc _ _ _ _), ?_, ?_, trivial⟩
    · rcases ha with ⟨rfl, rfl⟩ | rfl
      · exact .trans (.of_eq (frgF_sc _ _ _ _)) (Weak.nilF 3)
      · exact .refl _
    · rcases hb with ⟨rfl, rfl⟩ | ⟨id, cells, w, h1, h2, rfl, h4, h5⟩
      · exact .trans (.of_eq (frgF_sc _ _ _ _)) (Weak.nilF 5)
      · have hl := OwnTs.len args cells h5
        have hw := OwnTs.frg args (id + 1) m cells h5 (fun j a b => hG j (by omega) b) k (by omega)
        simp only [frgF, hG id h1 h2, if_true, h4, List.drop_zero]
        rw [if_pos (by omega), List.take_of_length_le (by omega)]
        refine Weak.fslW (by rw [chunks_length, List.length_map]) (fun e he => ?_) ?_
        · obtain ⟨t, _, rfl⟩ := List.mem_map.1 he
          exact tpvB_len true t
        · rw [chunks_flatten 5 args.length _ (by rw [List.length_map, hl])]
          exact hw
theorem OwnTs.frg {H : Nat → Option PObj} {G : Nat → Bool} : ∀ (ts : List Tm) (lo m : Nat) (cs : List PV), OwnTs H lo m cs ts → (∀ j, lo ≤ j → j < m → G j = true) → ∀ k, sizeL ts ≤ k → WeakL (cs.map (frgF G k H)) (ts.map (Tm.pvB true)).flatten
  | [], _, _, cs, h, _, _, _ => by
    simp only [OwnTs] at h
    subst h
    trivial
  | t :: r, lo, m, cs, h, hG, k, hk => by
    simp only [OwnTs] at h
    obtain ⟨c, cr, mid, rfl, g1, g2, h1, h2⟩ := h
    simp only [sizeL] at hk
    simp only [List.map_append, List.map_cons, List.flatten_cons]
    exact (OwnT.frg t lo mid c h1 (fun j a b => hG j a (by omega)) k (by omega)).append (OwnTs.frg r mid m cr h2 (fun j a b => hG j (by omega) b) k (by omega))
end
theorem OwnW.frg {H : Nat → Option PObj} {G : Nat → Bool} {lo m : Nat} (hG : ∀ j, lo ≤ j → j < m → G j = true) : ∀ (ts : List Tm) (cs : List PV), OwnW H lo m cs ts → ∀ k, sizeL ts ≤ k → WeakL (cs.map (frgF G k H)) (ts.map (Tm.pvB true)).flatten
  | [], cs, h, _, _ => by cases h; trivial
  | t :: r, cs, ⟨c, cr, e, h1, h2⟩, k, hk => by
    subst e
    simp only [sizeL] at hk
    simp only [List.map_append, List.map_cons, List.flatten_cons]
    exact (OwnT.frg t _ _ c h1 hG k (by omega)).append (OwnW.frg hG r cr h2 k (by omega))
theorem WeakL.trans : ∀ {xs ys zs : List PV}, WeakL xs ys → WeakL ys zs → WeakL xs zs
  | [], [], [], _, _ => trivial
  | _ :: _, _ :: _, _ :: _, h, k => ⟨h.1.trans k.1, WeakL.trans h.2 k.2⟩
  | [], _ :: _, _, h, _ => h.elim
  | _ :: _, [], _, h, _ => h.elim
  | [], [], _ :: _, _, k => k.elim
  | _ :: _, _ :: _, [], _, k => k.elim
theorem isIt_len {o : PObj} (h : o.cells.length ≠ 1) : o.isIt = false := by
  unfold PObj.isIt
  split
  · rename_i e; rw [e] at h; simp at h
  · rename_i e; rw [e] at h; simp at h
  · rfl
end
section
set_option maxRecDepth 20000
attribute [local go_sem] pv_len pv_take Nat.add_assoc tm_len tm_take pv_one tm_one tpvB_len tpvB_take tpvB_one pvB_len pvB_take pvB_one id_ne id_ne' id_ne2 List.append_assoc
theorem RowAt.one {H : Nat → Option PObj} {lo m sz : Nat} {a : PV} {cells : List PV} {n : Nat} (h : RowAt H lo m sz a cells n) : PV.one a = true := by
  rcases h with ⟨_, rfl⟩ | ⟨_, _, _, rfl, _⟩ <;> rfl
end
section
set_option maxRecDepth 20000
attribute [local go_sem] pv_len pv_take Nat.add_assoc tm_len tm_take pv_one tm_one id_ne id_ne' id_ne2 List.append_assoc
def zeroT : List PV := [.sc (.int .i64 0), .sc (.int .i64 0), .sc (.string ⟨#[]⟩), .sc (.slice none 0 0), .sc (.slice none 0 0)]
end
section
set_option maxRecDepth 20000
attribute [local go_sem] pv_len pv_take Nat.add_assoc tm_len tm_take pv_one tm_one id_ne id_ne' id_ne2 List.append_assoc
def optT : Option Tm → PV
  | some t => .tup [.agg t.pv, .sc (.bool true)]
  | none => .tup [.agg zeroT, .sc (.bool false)]
theorem optT_imm (o : Option Tm) : (optT o).imm = true := by cases o <;> simp [optT, PV.imm, immL, tm_imm, zeroT]
end
section
attribute [local go_sem] pv_len pv_take id_ne id_ne' id_ne2 rounds_next Nat.add_assoc pv_one
def p0 : Lv := .mk 2 0 []
def p1 : Lv := .mk 2 1 []
theorem PPure.is {f : FuncId} {args : List PV} {r r' : PV} (h : PPure Try.prog f args r) (e : r = r') : PPure Try.prog f args r' := e ▸ h
end
section
set_option maxRecDepth 20000
attribute [local go_sem] pv_len pv_take Nat.add_assoc tm_len tm_take pv_one tm_one id_ne id_ne' id_ne2 List.append_assoc
def FixL (nx : Nat) (cs : List PV) : Prop := ∀ (G : Nat → Bool) (k : Nat) (H : Nat → Option PObj), (∀ j, j < nx → G j = false) → cs.map (frgF G k H) = cs
theorem FixL.mono {nx nx' : Nat} {cs : List PV} (h : FixL nx cs) (hn : nx ≤ nx') : FixL nx' cs := fun G k H hG => h G k H fun j hj => hG j (Nat.lt_of_lt_of_le hj hn)
theorem FixL.imm {nx : Nat} {cs : List PV} (h : immL cs = true) : FixL nx cs := fun G k H _ => frgF_immL G H k cs h
theorem FixL.nil {nx : Nat} : FixL nx [] := fun _ _ _ _ => rfl
theorem FixL.append {nx : Nat} {cs ds : List PV} (h : FixL nx cs) (g : FixL nx ds) : FixL nx (cs ++ ds) := fun G k H hG => by rw [List.map_append, h G k H hG, g G k H hG]
theorem FixL.cons {nx : Nat} {c : PV} {ds : List PV} (h : c.imm = true) (g : FixL nx ds) : FixL nx (c :: ds) := fun G k H hG => by rw [List.map_cons, frgF_imm G H k c h, g G k H hG]
theorem frgF_osl {G : Nat → Bool} {id : Nat} (h : G id = false) (k : Nat) (H : Nat → Option PObj) (off n sz : Nat) : frgF G k H (.osl id off n sz) = .osl id off n sz := by
  cases k with
  | zero => rfl
  | succ k => simp [frgF, h]
theorem FixL.osl {nx id off n sz : Nat} {ds : List PV} (h : id < nx) (g : FixL nx ds) : FixL nx (.osl id off n sz :: ds) := fun G k H hG => by rw [List.map_cons, frgF_osl (hG id h), g G k H hG]
def RowP (H : Nat → Option PObj) (lo m sz : Nat) (a : PV) (es : List (List PV)) : Prop := (es = [] ∧ a = .sc (.slice none 0 0)) ∨ ∃ id, lo ≤ id ∧ id < m ∧ a = .osl id 0 es.length sz ∧ H id = some ⟨es.flatten, true⟩
def HalfP (H : Nat → Option PObj) (lo m sz : Nat) (a : PV) (done : List PV) (z : List Value) (r n : Nat) : Prop := (n = 0 ∧ a = .sc (.slice none 0 0)) ∨ ∃ id, lo ≤ id ∧ id < m ∧ a = .osl id 0 n sz ∧ H id = some ⟨done ++ zeros z r, true⟩
def leads : PV → Nat → Bool
  | .osl i _ _ _, j => decide (j = i)
  | _, _ => false
theorem HalfP.row {H : Nat → Option PObj} {lo m sz : Nat} {a : PV} {es : List (List PV)} {z : List Value} {n : Nat} (h : HalfP H lo m sz a es.flatten z 0 n) (hn : es.length = n) : RowP H lo m sz a es := by
  rcases h with ⟨h1, h2⟩ | ⟨id, h1, h2, h3, h4⟩
  · exact .inl ⟨List.eq_nil_of_length_eq_zero (by omega), h2⟩
  · exact .inr ⟨id, h1, h2, by rw [hn]; exact h3, by simpa [zeros] using h4⟩
theorem RowP.mono {H H' : Nat → Option PObj} {lo m m' sz : Nat} {a : PV} {es : List (List PV)} (h : RowP H lo m sz a es) (hm : m ≤ m') (hH : ∀ j, lo ≤ j → j < m → leads a j = true → H' j = H j) : RowP H' lo m' sz a es := by
  rcases h with h | ⟨id, h1, h2, rfl, h4⟩
  · exact .inl h
  · exact .inr ⟨id, h1, by omega, rfl, by rw [hH id h1 h2 (by simp [leads]), h4]⟩
theorem HalfP.mono {H H' : Nat → Option PObj} {lo m m' sz : Nat} {a : PV} {done : List PV} {z : List Value} {r n : Nat} (h : HalfP H lo m sz a done z r n) (hm : m ≤ m') (hH : ∀ j, lo ≤ j → j < m → leads a j = true → H' j = H j) : HalfP H' lo m' sz a done z r n := by
  rcases h with h | ⟨id, h1, h2, rfl, h4⟩
  · exact .inl h
  · exact .inr ⟨id, h1, by omega, rfl, by rw [hH id h1 h2 (by simp [leads]), h4]⟩
theorem RowP.fix {H : Nat → Option PObj} {lo m sz : Nat} {a : PV} {es : List (List PV)} (h : RowP H lo m sz a es) {nx : Nat} (hm : m ≤ nx) {ds : List PV} (hd : FixL nx ds) : FixL nx (a :: ds) := by
  rcases h with ⟨_, rfl⟩ | ⟨id, h1, h2, rfl, h4⟩
  · exact .cons rfl hd
  · exact .osl (by omega) hd
theorem RowP.lead {H : Nat → Option PObj} {lo m sz : Nat} {a : PV} {es : List (List PV)} (h : RowP H lo m sz a es) (hl : es.flatten.length ≠ 1) (hi : immL es.flatten = true) {j : Nat} (hj : leads a j = true) (nx : Nat) :
    lo ≤ j ∧ j < m ∧ ∀ o, H j = some o → o.isIt = false ∧ FixL nx o.cells := by
  rcases h with ⟨_, rfl⟩ | ⟨id, h1, h2, rfl, h4⟩
  · cases hj
  · obtain rfl : j = id := by simpa [leads] using hj
    refine ⟨h1, h2, fun o ho => ?_⟩
    rw [h4] at ho
    cases ho
    exact ⟨isIt_len hl, .imm hi⟩
theorem RowP.frg {H : Nat → Option PObj} {lo m sz : Nat} {a : PV} {es : List (List PV)} (h : RowP H lo m sz a es) (hs : ∀ e ∈ es, e.length = sz) (G : Nat → Bool) (hG : ∀ j, lo ≤ j → G j = true) : Weak (frgF G 1 H a) (.sl sz es) := by
  rcases h with ⟨rfl, rfl⟩ | ⟨id, h1, h2, rfl, h4⟩
  · exact .nil sz
  · have hl : es.flatten.length = es.length * sz := by
      clear h4
      induction es with
      | nil => simp
      | cons e r ih =>
        rw [List.flatten_cons, List.length_append, ih (fun x hx => hs x (by simp [hx])), hs e (by simp), List.length_cons, Nat.succ_mul]
        omega
    simp only [frgF, hG id h1, if_true, h4, List.drop_zero]
    rw [if_pos (by omega), List.take_of_length_le (by omega)]
    refine .trans (Weak.fslW (es' := es) (by rw [chunks_length]) hs ?_) (Weak.fsl sz es)
    rw [List.map_id', chunks_flatten sz es.length _ (by omega)]
    exact .refl _
end
section
set_option maxRecDepth 20000
attribute [local go_sem] pv_len pv_take Nat.add_assoc tm_len tm_take pv_one tm_one id_ne id_ne' id_ne2 List.append_assoc
theorem flat3_ne1 (ls : List Lv) : (ls.map Lv.pv).flatten.length ≠ 1 := by
  have : (ls.map Lv.pv).flatten.length = ls.length * 3 := by
    induction ls with
    | nil => rfl
    | cons t r ih => rw [List.map_cons, List.flatten_cons, List.length_append, pv_len, ih, List.length_cons, Nat.succ_mul]; omega
  omega
theorem zeros_imm : ∀ (n : Nat), immL (zeros [.int .i64 0, .int .i64 0, .string ⟨#[]⟩, .slice none 0 0, .slice none 0 0] n) = true
  | 0 => rfl
  | n + 1 => by simp only [zeros, immL_append, zeros_imm n]; rfl
theorem tms_immF (ts : List Tm) : immL (ts.flatMap Tm.pv) = true := by rw [List.flatMap_def]; exact tms_imm ts
theorem lvs_immF : ∀ ls : List Lv, immL (ls.map Lv.pv).flatten = true
  | [] => rfl
  | t :: r => by simp only [List.map_cons, List.flatten_cons, immL_append, pv_imm t, lvs_immF r]; rfl
end
section
set_option maxRecDepth 20000
attribute [local go_sem] pv_len pv_take id_ne id_ne' id_ne2 List.append_assoc
def txt (s : ByteArray) : List PV := [.sc (.string s)]
end
end Go.Proofs.Ytfhblaggeahbjaa
