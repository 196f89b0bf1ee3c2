/-
  Layer 3: the laws of answers, of levels put in, of the order and of what is made.
-/
import Derived.Test.YtifebfkkciaddaaLvR
import Derived.Test.YtifebfkkciaddaaLvM
set_option linter.unusedVariables false
set_option linter.unusedSimpArgs false
namespace Go.Proofs.Ytifebfkkciaddaa
open Go.RowKit

mutual
theorem same_self : ∀ a : Lv, a.same a = true
  | .mk k n xs => by simp [Lv.same, sameL_self xs]
theorem sameL_self : ∀ xs : List Lv, sameL xs xs = true
  | [] => rfl
  | x :: r => by simp [sameL, same_self x, sameL_self r]
end
theorem inst_grown (bys : List Lv) (hb : ∀ b ∈ bys, b.nodes ≤ 64) : ∀ (fuel : Nat) (l : Lv), l.nodes ≤ fuel → l.formed bys.length = true → l.grown bys = (l.inst bys).nodes := by
  intro fuel
  induction fuel with
  | zero => intro l h; have := nodes_pos l; omega
  | succ fuel ih =>
    intro l hf hr
    cases l with
    | mk k n args =>
    simp only [Lv.nodes] at hf
    by_cases hk : k = 2
    · subst hk
      obtain ⟨h0, h1, rfl⟩ := par_of hr
      have hmem : bys.getD n.toNat (.mk 1 0 []) ∈ bys := by
        have h3 : n.toNat < bys.length := by omega
        simp [List.getD, List.getElem?_eq_getElem h3, List.getElem_mem]
      have := hb _ hmem
      simp only [Lv.grown, Lv.inst, if_true]
      omega
    · have key : ∀ xs : List Lv, (∀ x ∈ xs, x ∈ args) → grownL bys xs = nodesL (instL bys xs) := by
        intro xs
        induction xs with
        | nil => intro _; rfl
        | cons x r ihr =>
          intro h
          have h1 : x.nodes ≤ nodesL args := by
            obtain ⟨i, hi, e⟩ := List.getElem_of_mem (h x (by simp))
            rw [← e]; exact nodesL_mem args i hi
          simp only [grownL, instL, nodesL]
          rw [ih x (by omega) (formed_kid hr x (h x (by simp))), ihr fun y hy => h y (by simp [hy])]
      simp only [Lv.grown, Lv.inst, if_neg hk, Lv.nodes, key args fun _ h => h]
theorem instV_eq (l : Lv) (bys : List Lv) : l.instV bys = l.instR bys := by
  unfold Lv.instV Lv.instR
  by_cases h1 : l.right bys.length = true
  · by_cases h2 : bys.all (Lv.right 4) = true
    · obtain ⟨_, _, _, hf⟩ := right_parts h1
      have hb : ∀ b ∈ bys, b.nodes ≤ 64 := fun b hb => (right_parts (List.all_eq_true.1 h2 b hb)).2.2.1
      rw [← inst_grown bys hb l.nodes l (Nat.le_refl _) hf]
      simp [h1, h2]
    · simp only [Bool.not_eq_true] at h2
      simp [h1, h2]
  · simp only [Bool.not_eq_true] at h1
    simp [h1]

set_option maxHeartbeats 16000000 in
theorem LevelAnswers_p (a b : Lv) (n : Int) (vals : List Int) : PPure Try.prog F.law03_LevelAnswers [.agg a.pv, .agg b.pv, .sc (.int .i64 n), ints vals] (.sc (.bool true)) := by
  refine pure_by is_law03_LevelAnswers (by simp) rfl fun hb nx => ?_
  by_cases ha : a.nodes ≤ 300
  · have e0 : ((64 + 1 : Nat)) = 65 := rfl
    have cN : PPure Try.prog F.ref00_LevelNodes [.agg a.pv, .sc (.int .i64 (64 : Nat))] (.sc (.int .i64 (min a.nodes 65 : Nat))) := LevelNodes_p 64 (by omega) a.nodes a (Nat.le_refl _)
    have cS := SameLevel_p a.nodes a a (Nat.le_refl _)
    rw [same_self] at cS
    have c1 := ref_Leq_p a b
    have c2 := ref_Leq_p b a
    have c3 := ref_Leq_p a (.mk 1 0 [])
    have c4 := ref_Leq_p (.mk 1 1 []) a
    rw [leqV_eq] at c1 c2 c3 c4
    have d1 := Same_p a b
    have d2 := Zero_p a
    have d3 := Never_p a
    rw [same_eq] at d1
    rw [zero_eq] at d2
    rw [never_eq] at d3
    repeat' (first | (with_reducible refine cond_pos (by omega) (fun _ => ?_)) | (with_reducible refine cond_neg (by omega) (fun _ => ?_)) | (with_reducible refine guard_pos (by omega) (fun _ => ?_)) | (with_reducible refine guard_neg (by omega) (fun _ => ?_)) | (with_reducible refine cond_ifn (fun _ => ?_) (fun _ => ?_)) | (with_reducible refine cond_waysn (fun _ => ?_) (fun _ => ?_)) | (with_reducible refine guard_ifn (fun _ => ?_) (fun _ => ?_)) | (with_reducible refine guard_waysn (fun _ => ?_) (fun _ => ?_)) | (with_reducible refine cond_if (fun _ => ?_) (fun _ => ?_)) | (with_reducible refine cond_ways (fun _ => ?_) (fun _ => ?_)) | (with_reducible refine guard_if (fun _ => ?_) (fun _ => ?_)) | (with_reducible refine guard_ways (fun _ => ?_) (fun _ => ?_)) | (((with_reducible refine call_id ?_); (first | (refine call_pure (alive_p) ?_) | (refine call_pure (great_p a) ?_) | (refine call_pure (great_p b) ?_) | (refine call_pure (CopyLevel_p a.nodes a (Nat.le_refl _) (by omega)) ?_) | (refine call_pure (c1) ?_) | (refine call_pure (c2) ?_) | (refine call_pure (c3) ?_) | (refine call_pure (c4) ?_) | (refine call_pure (Num_p 0) ?_) | (refine call_pure (Num_p 1) ?_) | (refine call_pure (Right_p a n) ?_) | (refine call_pure (ref_Right_p a n) ?_) | (refine call_pure (Value_p a vals) ?_) | (refine call_pure (ref_Value_p a vals) ?_) | (refine call_pure (Leq_p a b) ?_) | (refine call_pure (d1) ?_) | (refine call_pure (d2) ?_) | (refine call_pure (d3) ?_) | (refine call_pure (Nodes_p a) ?_) | (refine call_pure (cN) ?_) | (refine call_pure (cS) ?_)))) | simp (maxSteps := 1000000) (disch := omega) only [↓c_seq, ↓c_region, ↓c_cond, ↓c_block, ↓c_ret, ↓c_skip, ↓c_exit, ↓c_cont, ↓t_normal, ↓t_ret, ↓t_exit, ↓b_normal, ↓b_ret, ↓b_exit, ↓run_nil, ↓run_cons, num_nil, num_cons, ↓g_some, ↓o_mv, ↓o_pick, ↓o_bin, ↓o_un, ↓o_ld, ↓o_bld, ↓o_len, ↓o_mkf, ↓o_nilc, ↓o_fa, ↓o_fd, ↓o_ia, ↓o_iaa, ↓o_ix, ↓o_ixs, ↓o_ext, ↓o_al, ↓o_bxf, ↓o_bxt, ↓o_bsl, ↓o_bslf, chunks, ↓o_mks, ↓o_st, ↓o_stf, ↓o_call, ↓o_calv, val_some, new_some, st_some, stf_some, guard_tt, guard_ff, guard_tf, guard_ft, guard_un, ↓cond_true, ↓cond_false, calv_fn, put_some, put_none, ev_tmp, ev_const, ev_func, ↓upd_get, sig_eq, sigF_nil, ↓sigF_cons, q0, q1, nilcV, faV, fdV, iaV, iaaV, ixV, ixsV, extV, mksV, loadP, storeP, lenPV, binPV, unPV, intBin, partsP, fillP, zeros, PV.good, PV.cellsOf, PV.one, q2, q3, q4, q5, q6, q7, q8, q9, q10, q11, q12, q13, q14, Nat.reduceAdd, Nat.reduceMul, Nat.reduceSub, Nat.reduceLeDiff, Nat.reduceEqDiff, Nat.reduceBEq, q15, q16, q17, q18, ↓reduceIte, reduceCtorEq, q19, q20, q21, q22, q23, q24, q25, q26, q27, q28, q29, q30, q31, q32, q33, q34, q35, q36, q37, q38, wrap64, ↓o_eqa, ↓o_mm, ↓o_app, app_some, mmL, mmV, mm2, eqE, eqParts, eqInt, eqBool, eqStr, partV, q39, q40, pickV, q41, Int.reduceEq, Int.reduceLE, Int.reduceLT, Int.reduceAdd, Int.reduceSub, Int.reduceNeg, Int.reduceToNat, Int.reduceNe, q42, q43, q44, q45, q46, q47, q48, q49, appE, oldOf, rowOf, updL, q50, q51, q52, q53, Nat.reducePow, zlt, ovr_get, Nat.reduceShiftRight, Nat.reduceMod, ite_neN, ite_eqN, q54, q55, q56, q57, q58, q59, q60, q61, q62, q63, q64, q65, q66, q67, pv_len, pv_take, id_ne, id_ne', id_ne2, List.length_append, List.append_nil, Nat.add_assoc, pv_one, ints, pv_take_app, pv_drop_app, pv_drop6, pv_drop, mc_law03_LevelAnswers, beq_self_eq_true, *])
    all_goals (try (refine fin_tmp (.inr rfl) ?_; (first | rfl | (simp (disch := omega) only [ovr_get, q0, q1, q11, q52, q53, Nat.reduceMul, Nat.reduceSub, q30, ↓upd_get, Nat.reduceShiftRight, Nat.reduceMod, Nat.reduceEqDiff, Nat.reduceAdd, ↓reduceIte, ite_neN, ite_eqN, sig_eq, sigF_nil, ↓sigF_cons, q26, q27, q57, q25, q24, q54, q55, q56, List.append_nil, q12, List.length_append, q4, q5, updL, resP, resPs, resP1, loadP, q7, q6, q8, q9, q15, q16, Nat.reduceLeDiff, q3, q2, q10, PV.sc.injEq, Value.bool.injEq, q17, pv_len, pv_take, storeP, id_ne, id_ne', id_ne2, Nat.add_assoc, pv_one, ints, pv_take_app, pv_drop_app, pv_drop6, pv_drop, *]; done) | (simp [upd, *]; done) | (simp [upd, *]; omega))))
  · repeat' (first | (with_reducible refine cond_pos (by omega) (fun _ => ?_)) | (with_reducible refine cond_neg (by omega) (fun _ => ?_)) | (with_reducible refine guard_pos (by omega) (fun _ => ?_)) | (with_reducible refine guard_neg (by omega) (fun _ => ?_)) | (with_reducible refine cond_ifn (fun _ => ?_) (fun _ => ?_)) | (with_reducible refine cond_waysn (fun _ => ?_) (fun _ => ?_)) | (with_reducible refine guard_ifn (fun _ => ?_) (fun _ => ?_)) | (with_reducible refine guard_waysn (fun _ => ?_) (fun _ => ?_)) | (with_reducible refine cond_if (fun _ => ?_) (fun _ => ?_)) | (with_reducible refine cond_ways (fun _ => ?_) (fun _ => ?_)) | (with_reducible refine guard_if (fun _ => ?_) (fun _ => ?_)) | (with_reducible refine guard_ways (fun _ => ?_) (fun _ => ?_)) | (((with_reducible refine call_id ?_); (first | (refine call_pure (alive_p) ?_) | (refine call_pure (great_p a) ?_)))) | simp (maxSteps := 1000000) (disch := omega) only [↓c_seq, ↓c_region, ↓c_cond, ↓c_block, ↓c_ret, ↓c_skip, ↓c_exit, ↓c_cont, ↓t_normal, ↓t_ret, ↓t_exit, ↓b_normal, ↓b_ret, ↓b_exit, ↓run_nil, ↓run_cons, num_nil, num_cons, ↓g_some, ↓o_mv, ↓o_pick, ↓o_bin, ↓o_un, ↓o_ld, ↓o_bld, ↓o_len, ↓o_mkf, ↓o_nilc, ↓o_fa, ↓o_fd, ↓o_ia, ↓o_iaa, ↓o_ix, ↓o_ixs, ↓o_ext, ↓o_al, ↓o_bxf, ↓o_bxt, ↓o_bsl, ↓o_bslf, chunks, ↓o_mks, ↓o_st, ↓o_stf, ↓o_call, ↓o_calv, val_some, new_some, st_some, stf_some, guard_tt, guard_ff, guard_tf, guard_ft, guard_un, ↓cond_true, ↓cond_false, calv_fn, put_some, put_none, ev_tmp, ev_const, ev_func, ↓upd_get, sig_eq, sigF_nil, ↓sigF_cons, q0, q1, nilcV, faV, fdV, iaV, iaaV, ixV, ixsV, extV, mksV, loadP, storeP, lenPV, binPV, unPV, intBin, partsP, fillP, zeros, PV.good, PV.cellsOf, PV.one, q2, q3, q4, q5, q6, q7, q8, q9, q10, q11, q12, q13, q14, Nat.reduceAdd, Nat.reduceMul, Nat.reduceSub, Nat.reduceLeDiff, Nat.reduceEqDiff, Nat.reduceBEq, q15, q16, q17, q18, ↓reduceIte, reduceCtorEq, q19, q20, q21, q22, q23, q24, q25, q26, q27, q28, q29, q30, q31, q32, q33, q34, q35, q36, q37, q38, wrap64, ↓o_eqa, ↓o_mm, ↓o_app, app_some, mmL, mmV, mm2, eqE, eqParts, eqInt, eqBool, eqStr, partV, q39, q40, pickV, q41, Int.reduceEq, Int.reduceLE, Int.reduceLT, Int.reduceAdd, Int.reduceSub, Int.reduceNeg, Int.reduceToNat, Int.reduceNe, q42, q43, q44, q45, q46, q47, q48, q49, appE, oldOf, rowOf, updL, q50, q51, q52, q53, Nat.reducePow, zlt, ovr_get, Nat.reduceShiftRight, Nat.reduceMod, ite_neN, ite_eqN, q54, q55, q56, q57, q58, q59, q60, q61, q62, q63, q64, q65, q66, q67, pv_len, pv_take, id_ne, id_ne', id_ne2, List.length_append, List.append_nil, Nat.add_assoc, pv_one, ints, pv_take_app, pv_drop_app, pv_drop6, pv_drop, mc_law03_LevelAnswers, *])
    (refine fin_tmp (.inr rfl) ?_; (first | rfl | (simp (disch := omega) only [ovr_get, q0, q1, q11, q52, q53, Nat.reduceMul, Nat.reduceSub, q30, ↓upd_get, Nat.reduceShiftRight, Nat.reduceMod, Nat.reduceEqDiff, Nat.reduceAdd, ↓reduceIte, ite_neN, ite_eqN, sig_eq, sigF_nil, ↓sigF_cons, q26, q27, q57, q25, q24, q54, q55, q56, List.append_nil, q12, List.length_append, q4, q5, updL, resP, resPs, resP1, loadP, q7, q6, q8, q9, q15, q16, Nat.reduceLeDiff, q3, q2, q10, PV.sc.injEq, Value.bool.injEq, q17, pv_len, pv_take, storeP, id_ne, id_ne', id_ne2, Nat.add_assoc, pv_one, ints, pv_take_app, pv_drop_app, pv_drop6, pv_drop, *]; done) | (simp [upd, *]; done) | (simp [upd, *]; omega)))

theorem right_always {a : Lv} (h : a.right 4 = true) : a.always Fm.atMost a = true := leq_iff.2 ⟨h, h, fun _ => Int.le_refl _⟩
theorem value_leq {a b : Lv} (h : a.always Fm.atMost b = true) (vs : List Int) : a.value vs ≤ b.value vs := by
  obtain ⟨h1, h2, h3⟩ := leq_iff.1 h
  simp only [Lv.value, h1, h2, if_true]
  exact h3 vs
theorem leq_trans {a b c : Lv} (h : a.always Fm.atMost b = true) (k : b.always Fm.atMost c = true) : a.always Fm.atMost c = true := by
  obtain ⟨h1, h2, h3⟩ := leq_iff.1 h
  obtain ⟨k1, k2, k3⟩ := leq_iff.1 k
  exact leq_iff.2 ⟨h1, k2, fun vs => Int.le_trans (h3 vs) (k3 vs)⟩

set_option maxHeartbeats 16000000 in
theorem LevelOrder_p (a b c : Lv) (vals : List Int) : PPure Try.prog F.law03_LevelOrder [.agg a.pv, .agg b.pv, .agg c.pv, ints vals] (.sc (.bool true)) := by
  refine pure_by is_law03_LevelOrder (by simp) rfl fun hb nx => ?_
  have h1 := @right_always a
  have h2 := fun h => @value_leq a b h vals
  have h3 := @leq_trans a b c
  repeat' (first | (with_reducible refine cond_pos (by omega) (fun _ => ?_)) | (with_reducible refine cond_neg (by omega) (fun _ => ?_)) | (with_reducible refine guard_pos (by omega) (fun _ => ?_)) | (with_reducible refine guard_neg (by omega) (fun _ => ?_)) | (with_reducible refine cond_ifn (fun _ => ?_) (fun _ => ?_)) | (with_reducible refine cond_waysn (fun _ => ?_) (fun _ => ?_)) | (with_reducible refine guard_ifn (fun _ => ?_) (fun _ => ?_)) | (with_reducible refine guard_waysn (fun _ => ?_) (fun _ => ?_)) | (with_reducible refine cond_if (fun _ => ?_) (fun _ => ?_)) | (with_reducible refine cond_ways (fun _ => ?_) (fun _ => ?_)) | (with_reducible refine guard_if (fun _ => ?_) (fun _ => ?_)) | (with_reducible refine guard_ways (fun _ => ?_) (fun _ => ?_)) | (((with_reducible refine call_id ?_); (first | (refine call_pure (alive_p) ?_) | (refine call_pure (great_p a) ?_) | (refine call_pure (great_p b) ?_) | (refine call_pure (great_p c) ?_) | (refine call_pure (Right_p a 4) ?_) | (refine call_pure (Value_p a vals) ?_) | (refine call_pure (Value_p b vals) ?_) | (refine call_pure (Leq_p a b) ?_) | (refine call_pure (Leq_p b c) ?_) | (refine call_pure (Leq_p a c) ?_) | (refine call_pure (Leq_p a a) ?_)))) | simp (maxSteps := 1000000) (disch := omega) only [↓c_seq, ↓c_region, ↓c_cond, ↓c_block, ↓c_ret, ↓c_skip, ↓c_exit, ↓c_cont, ↓t_normal, ↓t_ret, ↓t_exit, ↓b_normal, ↓b_ret, ↓b_exit, ↓run_nil, ↓run_cons, num_nil, num_cons, ↓g_some, ↓o_mv, ↓o_pick, ↓o_bin, ↓o_un, ↓o_ld, ↓o_bld, ↓o_len, ↓o_mkf, ↓o_nilc, ↓o_fa, ↓o_fd, ↓o_ia, ↓o_iaa, ↓o_ix, ↓o_ixs, ↓o_ext, ↓o_al, ↓o_bxf, ↓o_bxt, ↓o_bsl, ↓o_bslf, chunks, ↓o_mks, ↓o_st, ↓o_stf, ↓o_call, ↓o_calv, val_some, new_some, st_some, stf_some, guard_tt, guard_ff, guard_tf, guard_ft, guard_un, ↓cond_true, ↓cond_false, calv_fn, put_some, put_none, ev_tmp, ev_const, ev_func, ↓upd_get, sig_eq, sigF_nil, ↓sigF_cons, q0, q1, nilcV, faV, fdV, iaV, iaaV, ixV, ixsV, extV, mksV, loadP, storeP, lenPV, binPV, unPV, intBin, partsP, fillP, zeros, PV.good, PV.cellsOf, PV.one, q2, q3, q4, q5, q6, q7, q8, q9, q10, q11, q12, q13, q14, Nat.reduceAdd, Nat.reduceMul, Nat.reduceSub, Nat.reduceLeDiff, Nat.reduceEqDiff, Nat.reduceBEq, q15, q16, q17, q18, ↓reduceIte, reduceCtorEq, q19, q20, q21, q22, q23, q24, q25, q26, q27, q28, q29, q30, q31, q32, q33, q34, q35, q36, q37, q38, wrap64, ↓o_eqa, ↓o_mm, ↓o_app, app_some, mmL, mmV, mm2, eqE, eqParts, eqInt, eqBool, eqStr, partV, q39, q40, pickV, q41, Int.reduceEq, Int.reduceLE, Int.reduceLT, Int.reduceAdd, Int.reduceSub, Int.reduceNeg, Int.reduceToNat, Int.reduceNe, q42, q43, q44, q45, q46, q47, q48, q49, appE, oldOf, rowOf, updL, q50, q51, q52, q53, Nat.reducePow, zlt, ovr_get, Nat.reduceShiftRight, Nat.reduceMod, ite_neN, ite_eqN, q54, q55, q56, q57, q58, q59, q60, q61, q62, q63, q64, q65, q66, q67, pv_len, pv_take, id_ne, id_ne', id_ne2, List.length_append, List.append_nil, Nat.add_assoc, pv_one, ints, pv_take_app, pv_drop_app, pv_drop6, pv_drop, mc_law03_LevelOrder, *])
  all_goals (try (refine fin_tmp (.inr rfl) ?_; (first | rfl | (simp (disch := omega) only [ovr_get, q0, q1, q11, q52, q53, Nat.reduceMul, Nat.reduceSub, q30, ↓upd_get, Nat.reduceShiftRight, Nat.reduceMod, Nat.reduceEqDiff, Nat.reduceAdd, ↓reduceIte, ite_neN, ite_eqN, sig_eq, sigF_nil, ↓sigF_cons, q26, q27, q57, q25, q24, q54, q55, q56, List.append_nil, q12, List.length_append, q4, q5, updL, resP, resPs, resP1, loadP, q7, q6, q8, q9, q15, q16, Nat.reduceLeDiff, q3, q2, q10, PV.sc.injEq, Value.bool.injEq, q17, pv_len, pv_take, storeP, id_ne, id_ne', id_ne2, Nat.add_assoc, pv_one, ints, pv_take_app, pv_drop_app, pv_drop6, pv_drop, *]; done) | (simp [upd, *]; done) | (simp [upd, *]; omega))))
  all_goals (exfalso; simp_all <;> omega)

theorem nodes_min {n : Nat} (h : n ≤ 64) : ((min n 65 : Nat) : Int) = n := by omega
theorem value_right {a : Lv} (h : a.right 4 = true) (vs : List Int) : a.value vs = a.val vs ∧ 0 ≤ a.val vs ∧ a.val vs ≤ 2000000 := by
  obtain ⟨_, _, h1, h2⟩ := right_parts h
  have := val_bd vs 4 a.nodes a (Nat.le_refl _) h2
  exact ⟨by simp only [Lv.value, h, if_true], this.1, by omega⟩
theorem made_right {a b : Lv} (ha : a.right 4 = true) (hb : b.right 4 = true) (hn : a.nodes + b.nodes ≤ 60) (k : Int) (hk : k = 4 ∨ k = 5) : (Lv.mk k 0 [a, b]).right 4 = true := by
  obtain ⟨_, _, h1, h2⟩ := right_parts ha
  obtain ⟨_, _, h3, h4⟩ := right_parts hb
  have hk3 : k ≠ 1 ∧ k ≠ 2 ∧ k ≠ 3 := by omega
  simp only [Lv.right, Bool.and_eq_true, decide_eq_true_eq]
  exact ⟨by omega, by omega, by simp only [Lv.nodes, nodesL]; omega, by simp [Lv.formed, formedL, h2, h4, hk3.1, hk3.2.1, hk3.2.2, hk]⟩
theorem succ_right {a : Lv} (ha : a.right 4 = true) (hn : a.nodes ≤ 60) : (Lv.mk 3 0 [a]).right 4 = true := by
  obtain ⟨_, _, h1, h2⟩ := right_parts ha
  simp only [Lv.right, Bool.and_eq_true, decide_eq_true_eq]
  exact ⟨by omega, by omega, by simp only [Lv.nodes, nodesL]; omega, by simp [Lv.formed, formedL, h2]⟩

set_option maxHeartbeats 16000000 in
theorem LevelMakes_p (a b c : Lv) (vals : List Int) : PPure Try.prog F.law03_LevelMakes [.agg a.pv, .agg b.pv, .agg c.pv, ints vals] (.sc (.bool true)) := by
  refine pure_by is_law03_LevelMakes (by simp) rfl fun hb nx => ?_
  by_cases hr : a.right 4 = true ∧ b.right 4 = true ∧ c.right 4 = true ∧ a.nodes + b.nodes ≤ 60
  · obtain ⟨ra, rb, rc, hn⟩ := hr
    obtain ⟨_, _, a1, a2⟩ := right_parts ra
    obtain ⟨_, _, b1, b2⟩ := right_parts rb
    have pa := nodes_pos a
    have pb := nodes_pos b
    have na := Nodes_p a
    rw [nodes_min a1] at na
    have nb := Nodes_p b
    rw [nodes_min b1] at nb
    have rm := made_right ra rb hn 4 (.inl rfl)
    have ri := made_right ra rb hn 5 (.inr rfl)
    have rs := succ_right ra (by omega)
    obtain ⟨va, va0, va1⟩ := value_right ra vals
    obtain ⟨vb, vb0, vb1⟩ := value_right rb vals
    have l1 : a.always Fm.atMost (.mk 3 0 [a]) = true := leq_iff.2 ⟨ra, rs, fun vs => by rw [val_kid3]; omega⟩
    have l2 : (Lv.mk 3 0 [a]).always Fm.atMost a = false := by
      cases h : (Lv.mk 3 0 [a]).always Fm.atMost a
      · rfl
      · have := (leq_iff.1 h).2.2 []
        rw [val_kid3] at this
        omega
    have l3 : a.always Fm.atMost (.mk 4 0 [a, b]) = true := leq_iff.2 ⟨ra, rm, fun vs => by rw [val_kid (.inl rfl)]; simp; omega⟩
    have l4 : b.always Fm.atMost (.mk 4 0 [a, b]) = true := leq_iff.2 ⟨rb, rm, fun vs => by rw [val_kid (.inl rfl)]; simp; omega⟩
    have l5 : (Lv.mk 5 0 [a, b]).always Fm.atMost (.mk 4 0 [a, b]) = true := leq_iff.2 ⟨ri, rm, fun vs => by
      have := (val_bd vs 4 a.nodes a (Nat.le_refl _) a2).1
      rw [val_kid (.inl rfl), val_kid (.inr rfl)]; simp; split <;> omega⟩
    have l6 : b.always Fm.atMost (.mk 5 0 [a, b]) = true := leq_iff.2 ⟨rb, ri, fun vs => by rw [val_kid (.inr rfl)]; simp; split <;> omega⟩
    have l7 : a.always Fm.atMost c = true → b.always Fm.atMost c = true → (Lv.mk 4 0 [a, b]).always Fm.atMost c = true := fun h k => leq_iff.2 ⟨rm, rc, fun vs => by
      have := (leq_iff.1 h).2.2 vs
      have := (leq_iff.1 k).2.2 vs
      rw [val_kid (.inl rfl)]; simp; omega⟩
    have vm : (Lv.mk 4 0 [a, b]).value vals = max (a.val vals) (b.val vals) := by rw [(value_right rm vals).1, val_kid (.inl rfl)]; simp
    have vi : (Lv.mk 5 0 [a, b]).value vals = if b.val vals = 0 then 0 else max (a.val vals) (b.val vals) := by rw [(value_right ri vals).1, val_kid (.inr rfl)]; simp
    have vs' : (Lv.mk 3 0 [a]).value vals = 1 + a.val vals := by rw [(value_right rs vals).1, val_kid3]
    have cVa := Value_p a vals
    rw [va] at cVa
    have cVb := Value_p b vals
    rw [vb] at cVb
    have cVm := Value_p (.mk 4 0 [a, b]) vals
    rw [vm] at cVm
    have cVi := Value_p (.mk 5 0 [a, b]) vals
    rw [vi] at cVi
    have cVs := Value_p (.mk 3 0 [a]) vals
    rw [vs', Int.add_comm] at cVs
    have k1 := Leq_p a (.mk 3 0 [a])
    rw [l1] at k1
    have k2 := Leq_p (.mk 3 0 [a]) a
    rw [l2] at k2
    have k3 := Leq_p a (.mk 4 0 [a, b])
    rw [l3] at k3
    have k4 := Leq_p b (.mk 4 0 [a, b])
    rw [l4] at k4
    have k5 := Leq_p (.mk 5 0 [a, b]) (.mk 4 0 [a, b])
    rw [l5] at k5
    have k6 := Leq_p b (.mk 5 0 [a, b])
    rw [l6] at k6
    clear vm vi vs' va vb l1 l2 l3 l4 l5 l6
    repeat' (first | (with_reducible refine cond_pos (by omega) (fun _ => ?_)) | (with_reducible refine cond_neg (by omega) (fun _ => ?_)) | (with_reducible refine guard_pos (by omega) (fun _ => ?_)) | (with_reducible refine guard_neg (by omega) (fun _ => ?_)) | (with_reducible refine cond_ifn (fun _ => ?_) (fun _ => ?_)) | (with_reducible refine cond_waysn (fun _ => ?_) (fun _ => ?_)) | (with_reducible refine guard_ifn (fun _ => ?_) (fun _ => ?_)) | (with_reducible refine guard_waysn (fun _ => ?_) (fun _ => ?_)) | (with_reducible refine cond_if (fun _ => ?_) (fun _ => ?_)) | (with_reducible refine cond_ways (fun _ => ?_) (fun _ => ?_)) | (with_reducible refine guard_if (fun _ => ?_) (fun _ => ?_)) | (with_reducible refine guard_ways (fun _ => ?_) (fun _ => ?_)) | (((with_reducible refine call_id ?_); (first | (refine call_pure (alive_p) ?_) | (refine call_pure (great_p a) ?_) | (refine call_pure (great_p b) ?_) | (refine call_pure (great_p c) ?_) | (refine call_pure (Right_p a 4) ?_) | (refine call_pure (Right_p b 4) ?_) | (refine call_pure (Right_p c 4) ?_) | (refine call_pure (na) ?_) | (refine call_pure (nb) ?_) | (refine call_pure (cVa) ?_) | (refine call_pure (cVb) ?_) | (refine call_pure (cVm) ?_) | (refine call_pure (cVi) ?_) | (refine call_pure (cVs) ?_) | (refine call_pure (Max2_p a b (by omega) (by omega)) ?_) | (refine call_pure (IMax_p a b (by omega) (by omega)) ?_) | (refine call_pure (Succ_p a (by omega)) ?_) | (refine call_pure (k1) ?_) | (refine call_pure (k2) ?_) | (refine call_pure (k3) ?_) | (refine call_pure (k4) ?_) | (refine call_pure (k5) ?_) | (refine call_pure (k6) ?_) | (refine call_pure (Leq_p a c) ?_) | (refine call_pure (Leq_p b c) ?_) | (refine call_pure (Leq_p (.mk 4 0 [a, b]) c) ?_)))) | simp (maxSteps := 1000000) (disch := omega) only [↓c_seq, ↓c_region, ↓c_cond, ↓c_block, ↓c_ret, ↓c_skip, ↓c_exit, ↓c_cont, ↓t_normal, ↓t_ret, ↓t_exit, ↓b_normal, ↓b_ret, ↓b_exit, ↓run_nil, ↓run_cons, num_nil, num_cons, ↓g_some, ↓o_mv, ↓o_pick, ↓o_bin, ↓o_un, ↓o_ld, ↓o_bld, ↓o_len, ↓o_mkf, ↓o_nilc, ↓o_fa, ↓o_fd, ↓o_ia, ↓o_iaa, ↓o_ix, ↓o_ixs, ↓o_ext, ↓o_al, ↓o_bxf, ↓o_bxt, ↓o_bsl, ↓o_bslf, chunks, ↓o_mks, ↓o_st, ↓o_stf, ↓o_call, ↓o_calv, val_some, new_some, st_some, stf_some, guard_tt, guard_ff, guard_tf, guard_ft, guard_un, ↓cond_true, ↓cond_false, calv_fn, put_some, put_none, ev_tmp, ev_const, ev_func, ↓upd_get, sig_eq, sigF_nil, ↓sigF_cons, q0, q1, nilcV, faV, fdV, iaV, iaaV, ixV, ixsV, extV, mksV, loadP, storeP, lenPV, binPV, unPV, intBin, partsP, fillP, zeros, PV.good, PV.cellsOf, PV.one, q2, q3, q4, q5, q6, q7, q8, q9, q10, q11, q12, q13, q14, Nat.reduceAdd, Nat.reduceMul, Nat.reduceSub, Nat.reduceLeDiff, Nat.reduceEqDiff, Nat.reduceBEq, q15, q16, q17, q18, ↓reduceIte, reduceCtorEq, q19, q20, q21, q22, q23, q24, q25, q26, q27, q28, q29, q30, q31, q32, q33, q34, q35, q36, q37, q38, wrap64, ↓o_eqa, ↓o_mm, ↓o_app, app_some, mmL, mmV, mm2, eqE, eqParts, eqInt, eqBool, eqStr, partV, q39, q40, pickV, q41, Int.reduceEq, Int.reduceLE, Int.reduceLT, Int.reduceAdd, Int.reduceSub, Int.reduceNeg, Int.reduceToNat, Int.reduceNe, q42, q43, q44, q45, q46, q47, q48, q49, appE, oldOf, rowOf, updL, q50, q51, q52, q53, Nat.reducePow, zlt, ovr_get, Nat.reduceShiftRight, Nat.reduceMod, ite_neN, ite_eqN, q54, q55, q56, q57, q58, q59, q60, q61, q62, q63, q64, q65, q66, q67, pv_len, pv_take, id_ne, id_ne', id_ne2, List.length_append, List.append_nil, Nat.add_assoc, pv_one, ints, pv_take_app, pv_drop_app, pv_drop6, pv_drop, mc_law03_LevelMakes, *])
    all_goals (try (refine fin_tmp (.inr rfl) ?_; (first | rfl | (simp (disch := omega) only [ovr_get, q0, q1, q11, q52, q53, Nat.reduceMul, Nat.reduceSub, q30, ↓upd_get, Nat.reduceShiftRight, Nat.reduceMod, Nat.reduceEqDiff, Nat.reduceAdd, ↓reduceIte, ite_neN, ite_eqN, sig_eq, sigF_nil, ↓sigF_cons, q26, q27, q57, q25, q24, q54, q55, q56, List.append_nil, q12, List.length_append, q4, q5, updL, resP, resPs, resP1, loadP, q7, q6, q8, q9, q15, q16, Nat.reduceLeDiff, q3, q2, q10, PV.sc.injEq, Value.bool.injEq, q17, pv_len, pv_take, storeP, id_ne, id_ne', id_ne2, Nat.add_assoc, pv_one, ints, pv_take_app, pv_drop_app, pv_drop6, pv_drop, *]; done) | (simp [upd, *]; done) | (simp [upd, *]; omega))))
  · repeat' (first | (with_reducible refine cond_pos (by omega) (fun _ => ?_)) | (with_reducible refine cond_neg (by omega) (fun _ => ?_)) | (with_reducible refine guard_pos (by omega) (fun _ => ?_)) | (with_reducible refine guard_neg (by omega) (fun _ => ?_)) | (with_reducible refine cond_ifn (fun _ => ?_) (fun _ => ?_)) | (with_reducible refine cond_waysn (fun _ => ?_) (fun _ => ?_)) | (with_reducible refine guard_ifn (fun _ => ?_) (fun _ => ?_)) | (with_reducible refine guard_waysn (fun _ => ?_) (fun _ => ?_)) | (with_reducible refine cond_if (fun _ => ?_) (fun _ => ?_)) | (with_reducible refine cond_ways (fun _ => ?_) (fun _ => ?_)) | (with_reducible refine guard_if (fun _ => ?_) (fun _ => ?_)) | (with_reducible refine guard_ways (fun _ => ?_) (fun _ => ?_)) | (((with_reducible refine call_id ?_); (first | (refine call_pure (alive_p) ?_) | (refine call_pure (great_p a) ?_) | (refine call_pure (great_p b) ?_) | (refine call_pure (great_p c) ?_) | (refine call_pure (Right_p a 4) ?_) | (refine call_pure (Right_p b 4) ?_) | (refine call_pure (Right_p c 4) ?_) | (refine call_pure (Nodes_p a) ?_) | (refine call_pure (Nodes_p b) ?_)))) | simp (maxSteps := 1000000) (disch := omega) only [↓c_seq, ↓c_region, ↓c_cond, ↓c_block, ↓c_ret, ↓c_skip, ↓c_exit, ↓c_cont, ↓t_normal, ↓t_ret, ↓t_exit, ↓b_normal, ↓b_ret, ↓b_exit, ↓run_nil, ↓run_cons, num_nil, num_cons, ↓g_some, ↓o_mv, ↓o_pick, ↓o_bin, ↓o_un, ↓o_ld, ↓o_bld, ↓o_len, ↓o_mkf, ↓o_nilc, ↓o_fa, ↓o_fd, ↓o_ia, ↓o_iaa, ↓o_ix, ↓o_ixs, ↓o_ext, ↓o_al, ↓o_bxf, ↓o_bxt, ↓o_bsl, ↓o_bslf, chunks, ↓o_mks, ↓o_st, ↓o_stf, ↓o_call, ↓o_calv, val_some, new_some, st_some, stf_some, guard_tt, guard_ff, guard_tf, guard_ft, guard_un, ↓cond_true, ↓cond_false, calv_fn, put_some, put_none, ev_tmp, ev_const, ev_func, ↓upd_get, sig_eq, sigF_nil, ↓sigF_cons, q0, q1, nilcV, faV, fdV, iaV, iaaV, ixV, ixsV, extV, mksV, loadP, storeP, lenPV, binPV, unPV, intBin, partsP, fillP, zeros, PV.good, PV.cellsOf, PV.one, q2, q3, q4, q5, q6, q7, q8, q9, q10, q11, q12, q13, q14, Nat.reduceAdd, Nat.reduceMul, Nat.reduceSub, Nat.reduceLeDiff, Nat.reduceEqDiff, Nat.reduceBEq, q15, q16, q17, q18, ↓reduceIte, reduceCtorEq, q19, q20, q21, q22, q23, q24, q25, q26, q27, q28, q29, q30, q31, q32, q33, q34, q35, q36, q37, q38, wrap64, ↓o_eqa, ↓o_mm, ↓o_app, app_some, mmL, mmV, mm2, eqE, eqParts, eqInt, eqBool, eqStr, partV, q39, q40, pickV, q41, Int.reduceEq, Int.reduceLE, Int.reduceLT, Int.reduceAdd, Int.reduceSub, Int.reduceNeg, Int.reduceToNat, Int.reduceNe, q42, q43, q44, q45, q46, q47, q48, q49, appE, oldOf, rowOf, updL, q50, q51, q52, q53, Nat.reducePow, zlt, ovr_get, Nat.reduceShiftRight, Nat.reduceMod, ite_neN, ite_eqN, q54, q55, q56, q57, q58, q59, q60, q61, q62, q63, q64, q65, q66, q67, pv_len, pv_take, id_ne, id_ne', id_ne2, List.length_append, List.append_nil, Nat.add_assoc, pv_one, ints, pv_take_app, pv_drop_app, pv_drop6, pv_drop, mc_law03_LevelMakes, *])
    all_goals (try (refine fin_tmp (.inr rfl) ?_; (first | rfl | (simp (disch := omega) only [ovr_get, q0, q1, q11, q52, q53, Nat.reduceMul, Nat.reduceSub, q30, ↓upd_get, Nat.reduceShiftRight, Nat.reduceMod, Nat.reduceEqDiff, Nat.reduceAdd, ↓reduceIte, ite_neN, ite_eqN, sig_eq, sigF_nil, ↓sigF_cons, q26, q27, q57, q25, q24, q54, q55, q56, List.append_nil, q12, List.length_append, q4, q5, updL, resP, resPs, resP1, loadP, q7, q6, q8, q9, q15, q16, Nat.reduceLeDiff, q3, q2, q10, PV.sc.injEq, Value.bool.injEq, q17, pv_len, pv_take, storeP, id_ne, id_ne', id_ne2, Nat.add_assoc, pv_one, ints, pv_take_app, pv_drop_app, pv_drop6, pv_drop, *]; done) | (simp [upd, *]; done) | (simp [upd, *]; omega))))
    all_goals (exact absurd ⟨‹a.right 4 = true›, ‹b.right 4 = true›, ‹c.right 4 = true›, by have := (right_parts ‹a.right 4 = true›).2.2.1; have := (right_parts ‹b.right 4 = true›).2.2.1; omega⟩ hr)

end Go.Proofs.Ytifebfkkciaddaa
