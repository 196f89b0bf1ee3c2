/-
  Layer 3: the law of levels put in.
-/
import Derived.Test.YtifebfkkciaddaaLvS
import Derived.Test.YtifebfkkciaddaaLvM
set_option linter.unusedVariables false
set_option linter.unusedSimpArgs false
namespace Go.Proofs.Ytifebfkkciaddaa
open Go.RowKit

theorem immL_ones : ∀ vs : List Int, immL (vs.map fun v => [PV.sc (.int .i64 v)]).flatten = true
  | [] => rfl
  | v :: r => by simp only [List.map_cons, List.flatten_cons, immL_append, immL, PV.imm, immL_ones r]; rfl
theorem chunk_ones : ∀ xs : List PV, chunks 1 xs.length xs = xs.map fun x => [x]
  | [] => rfl
  | x :: r => by simp only [List.length_cons, chunks, List.take_succ_cons, List.take_zero, List.drop_succ_cons, List.drop_zero, List.map_cons, chunk_ones r]
def innerOf (bys : List Lv) (vals : List Int) : List Int := bys.map fun b => b.value vals
def icells (vs : List Int) : List PV := vs.map fun v => .sc (.int .i64 v)
theorem icells_len (vs : List Int) : (icells vs).length = vs.length := by simp [icells]
theorem inner_take (bys : List Lv) (vals : List Int) (k : Nat) (h : k < bys.length) : icells (innerOf (bys.take (k + 1)) vals) = icells (innerOf (bys.take k) vals) ++ [.sc (.int .i64 (bys[k].value vals))] := by
  rw [List.take_succ_eq_append_getElem h]; simp only [icells, innerOf, List.map_append]; rfl
theorem inst_val (bys : List Lv) (vals : List Int) (hb : ∀ b ∈ bys, b.right 4 = true ∧ b.value vals ≤ 1048576) : ∀ (fuel : Nat) (l : Lv), l.nodes ≤ fuel → l.formed bys.length = true → (l.inst bys).val vals = l.val (innerOf bys vals) := by
  intro fuel
  induction fuel with
  | zero => intro l h; have := nodes_pos l; omega
  | succ fuel ih =>
    intro l hf hr
    cases l with
    | mk k n args =>
    rcases formed_num hr with ⟨rfl, h0, h1, rfl⟩ | ⟨rfl, h0, h1, rfl⟩ | ⟨rfl, rfl, x, rfl, hx⟩ | ⟨hk, rfl, x, y, rfl, hx, hy⟩
    · simp [Lv.inst, instL, Lv.val, comb]
    · have h3 : n.toNat < bys.length := by omega
      have e : (Lv.mk 2 n []).inst bys = bys[n.toNat] := by simp [Lv.inst, List.getD, List.getElem?_eq_getElem h3]
      obtain ⟨r1, r2⟩ := hb _ (List.getElem_mem h3)
      have e2 : (Lv.mk 2 n []).val (innerOf bys vals) = parV (innerOf bys vals) n := by simp [Lv.val, comb]
      obtain ⟨v1, v2, _⟩ := value_right r1 vals
      have e3 : (innerOf bys vals).getD n.toNat 0 = bys[n.toNat].value vals := by simp [innerOf, List.getD, List.getElem?_eq_getElem h3]
      have e4 : (innerOf bys vals).length = bys.length := by simp [innerOf]
      rw [e, e2]
      unfold parV
      rw [e3, e4, if_neg (by omega)]
      omega
    · have e : (Lv.mk 3 0 [x]).inst bys = .mk 3 0 [x.inst bys] := by simp [Lv.inst, instL]
      simp only [Lv.nodes, nodesL] at hf
      rw [e, val_kid3, val_kid3, ih x (by omega) hx]
    · have hk2 : k ≠ 2 := by omega
      have e : (Lv.mk k 0 [x, y]).inst bys = .mk k 0 [x.inst bys, y.inst bys] := by simp [Lv.inst, instL, hk2]
      simp only [Lv.nodes, nodesL] at hf
      rw [e, val_kid hk, val_kid hk, ih x (by omega) hx, ih y (by omega) hy]
theorem inst_formed (bys : List Lv) (hb : ∀ b ∈ bys, b.formed 4 = true) : ∀ (fuel : Nat) (l : Lv), l.nodes ≤ fuel → l.formed bys.length = true → (l.inst bys).formed 4 = true := by
  intro fuel
  induction fuel with
  | zero => intro l h; have := nodes_pos l; omega
  | succ fuel ih =>
    intro l hf hr
    cases l with
    | mk k n args =>
    rcases formed_num hr with ⟨rfl, h0, h1, rfl⟩ | ⟨rfl, h0, h1, rfl⟩ | ⟨rfl, rfl, x, rfl, hx⟩ | ⟨hk, rfl, x, y, rfl, hx, hy⟩
    · simp [Lv.inst, instL, Lv.formed, h0, h1]
    · have h3 : n.toNat < bys.length := by omega
      have e : (Lv.mk 2 n []).inst bys = bys[n.toNat] := by simp [Lv.inst, List.getD, List.getElem?_eq_getElem h3]
      rw [e]
      exact hb _ (List.getElem_mem h3)
    · have e : (Lv.mk 3 0 [x]).inst bys = .mk 3 0 [x.inst bys] := by simp [Lv.inst, instL]
      simp only [Lv.nodes, nodesL] at hf
      rw [e]
      simp [Lv.formed, formedL, ih x (by omega) hx]
    · have hk3 : k ≠ 1 ∧ k ≠ 2 ∧ k ≠ 3 := by omega
      have e : (Lv.mk k 0 [x, y]).inst bys = .mk k 0 [x.inst bys, y.inst bys] := by simp [Lv.inst, instL, hk3.2.1]
      simp only [Lv.nodes, nodesL] at hf
      rw [e]
      simp [Lv.formed, formedL, ih x (by omega) hx, ih y (by omega) hy, hk3.1, hk3.2.1, hk3.2.2, hk]
theorem instR_val {l : Lv} {bys : List Lv} {vals : List Int} {x : Lv} (h : l.instR bys = some x) (hb : ∀ b ∈ bys, b.value vals ≤ 1048576) : x.value vals = l.value (innerOf bys vals) ∧ x.nodes ≤ 64 := by
  unfold Lv.instR at h
  split at h
  · rename_i hc
    obtain ⟨h1, h2, h3⟩ := hc
    cases h
    obtain ⟨p0, p4, pn, pf⟩ := right_parts h1
    have hall : ∀ b ∈ bys, b.right 4 = true := List.all_eq_true.1 h2
    have hf := inst_formed bys (fun b hb => (right_parts (hall b hb)).2.2.2) l.nodes l (Nat.le_refl _) pf
    have rx : (l.inst bys).right 4 = true := by
      simp only [Lv.right, Bool.and_eq_true, decide_eq_true_eq]
      exact ⟨by omega, by omega, h3, hf⟩
    have fl : ∀ (fuel : Nat) (y : Lv), y.nodes ≤ fuel → y.formed bys.length = true → y.formed 4 = true := by
      intro fuel
      induction fuel with
      | zero => intro y h; have := nodes_pos y; omega
      | succ fuel ih =>
        intro y hy hr
        cases y with
        | mk k n args =>
        rcases formed_num hr with ⟨rfl, h0, h1, rfl⟩ | ⟨rfl, h0, h1, rfl⟩ | ⟨rfl, rfl, x, rfl, hx⟩ | ⟨hk, rfl, x, z, rfl, hx, hz⟩
        · simp [Lv.formed, h0, h1]
        · simp [Lv.formed, h0]; omega
        · simp only [Lv.nodes, nodesL] at hy
          simp [Lv.formed, formedL, ih x (by omega) hx]
        · have hk3 : k ≠ 1 ∧ k ≠ 2 ∧ k ≠ 3 := by omega
          simp only [Lv.nodes, nodesL] at hy
          simp [Lv.formed, formedL, ih x (by omega) hx, ih z (by omega) hz, hk3.1, hk3.2.1, hk3.2.2, hk]
    have rl : l.right 4 = true := by
      simp only [Lv.right, Bool.and_eq_true, decide_eq_true_eq]
      exact ⟨by omega, by omega, pn, fl l.nodes l (Nat.le_refl _) pf⟩
    refine ⟨?_, h3⟩
    rw [(value_right rx vals).1, (value_right rl _).1]
    exact inst_val bys vals (fun b hb' => ⟨hall b hb', hb b hb'⟩) l.nodes l (Nat.le_refl _) pf
  · cases h

def emptyLv : List PV := [.sc (.int .i64 0), .sc (.int .i64 0), .sc (.slice none 0 0)]
theorem empty_weak : Weak (.agg emptyLv) (.agg (Lv.mk 0 0 []).pv) := by
  have e : (Lv.mk 0 0 []).pv = [.sc (.int .i64 0), .sc (.int .i64 0), .sl 3 []] := by simp [Lv.pv]
  rw [e]
  exact Weak.agg (xs := emptyLv) (ys := [.sc (.int .i64 0), .sc (.int .i64 0), .sl 3 []]) ⟨.refl _, .refl _, .nil 3, trivial⟩
set_option maxHeartbeats 16000000 in
theorem LevelInsts_p (l : Lv) (bys : List Lv) (vals : List Int) : PPure Try.prog F.law03_LevelInsts [.agg l.pv, lvs bys, ints vals] (.sc (.bool true)) := by
  refine pure_by is_law03_LevelInsts (by simp) rfl fun hb nx => ?_
  have hb0 : bys.length ≤ 9223372036854775807 := by simp [lvs, bndL, PV.bnd] at hb; exact hb.2.1.1
  repeat' (first | (with_reducible refine cond_pos (by omega) (fun _ => ?_)) | (with_reducible refine cond_neg (by omega) (fun _ => ?_)) | (with_reducible refine guard_pos (by omega) (fun _ => ?_)) | (with_reducible refine guard_neg (by omega) (fun _ => ?_)) | (with_reducible refine cond_ifn (fun _ => ?_) (fun _ => ?_)) | (with_reducible refine cond_waysn (fun _ => ?_) (fun _ => ?_)) | (with_reducible refine guard_ifn (fun _ => ?_) (fun _ => ?_)) | (with_reducible refine guard_waysn (fun _ => ?_) (fun _ => ?_)) | (with_reducible refine cond_if (fun _ => ?_) (fun _ => ?_)) | (with_reducible refine cond_ways (fun _ => ?_) (fun _ => ?_)) | (with_reducible refine guard_if (fun _ => ?_) (fun _ => ?_)) | (with_reducible refine guard_ways (fun _ => ?_) (fun _ => ?_)) | (((with_reducible refine call_id ?_); (first | (refine call_pure (alive_p) ?_) | (refine call_pure (great_p l) ?_)))) | simp (maxSteps := 1000000) (disch := omega) only [↓c_seq, ↓c_region, ↓c_cond, ↓c_block, ↓c_ret, ↓c_skip, ↓c_exit, ↓c_cont, ↓t_normal, ↓t_ret, ↓t_exit, ↓b_normal, ↓b_ret, ↓b_exit, ↓run_nil, ↓run_cons, num_nil, num_cons, ↓g_some, ↓o_mv, ↓o_pick, ↓o_bin, ↓o_un, ↓o_ld, ↓o_bld, ↓o_len, ↓o_mkf, ↓o_nilc, ↓o_fa, ↓o_fd, ↓o_ia, ↓o_iaa, ↓o_ix, ↓o_ixs, ↓o_ext, ↓o_al, ↓o_bxf, ↓o_bxt, ↓o_bsl, ↓o_bslf, chunks, ↓o_mks, ↓o_st, ↓o_stf, ↓o_call, ↓o_calv, val_some, new_some, st_some, stf_some, guard_tt, guard_ff, guard_tf, guard_ft, guard_un, ↓cond_true, ↓cond_false, calv_fn, put_some, put_none, ev_tmp, ev_const, ev_func, ↓upd_get, sig_eq, sigF_nil, ↓sigF_cons, q0, q1, nilcV, faV, fdV, iaV, iaaV, ixV, ixsV, extV, mksV, loadP, storeP, lenPV, binPV, unPV, intBin, partsP, fillP, zeros, PV.good, PV.cellsOf, PV.one, q2, q3, q4, q5, q6, q7, q8, q9, q10, q11, q12, q13, q14, Nat.reduceAdd, Nat.reduceMul, Nat.reduceSub, Nat.reduceLeDiff, Nat.reduceEqDiff, Nat.reduceBEq, q15, q16, q17, q18, ↓reduceIte, reduceCtorEq, q19, q20, q21, q22, q23, q24, q25, q26, q27, q28, q29, q30, q31, q32, q33, q34, q35, q36, q37, q38, wrap64, ↓o_eqa, ↓o_mm, ↓o_app, app_some, mmL, mmV, mm2, eqE, eqParts, eqInt, eqBool, eqStr, partV, q39, q40, pickV, q41, Int.reduceEq, Int.reduceLE, Int.reduceLT, Int.reduceAdd, Int.reduceSub, Int.reduceNeg, Int.reduceToNat, Int.reduceNe, q42, q43, q44, q45, q46, q47, q48, q49, appE, oldOf, rowOf, updL, q50, q51, q52, q53, Nat.reducePow, zlt, ovr_get, Nat.reduceShiftRight, Nat.reduceMod, ite_neN, ite_eqN, q54, q55, q56, q57, q58, q59, q60, q61, q62, q63, q64, q65, q66, q67, pv_len, pv_take, id_ne, id_ne', id_ne2, List.length_append, List.append_nil, Nat.add_assoc, pv_one, ints, pv_take_app, pv_drop_app, pv_drop6, pv_drop, mc_law03_LevelInsts, lvs, *])
  all_goals (try (refine fin_tmp (.inr rfl) ?_; (first | rfl | (simp (disch := omega) only [ovr_get, q0, q1, q11, q52, q53, Nat.reduceMul, Nat.reduceSub, q30, ↓upd_get, Nat.reduceShiftRight, Nat.reduceMod, Nat.reduceEqDiff, Nat.reduceAdd, ↓reduceIte, ite_neN, ite_eqN, sig_eq, sigF_nil, ↓sigF_cons, q26, q27, q57, q25, q24, q54, q55, q56, List.append_nil, q12, List.length_append, q4, q5, updL, resP, resPs, resP1, loadP, q7, q6, q8, q9, q15, q16, Nat.reduceLeDiff, q3, q2, q10, PV.sc.injEq, Value.bool.injEq, q17, pv_len, pv_take, storeP, id_ne, id_ne', id_ne2, Nat.add_assoc, pv_one, ints, pv_take_app, pv_drop_app, pv_drop6, pv_drop, *]; done) | (simp [upd, *]; done) | (simp [upd, *]; omega))))
  refine c_loopW 9007198986305984 (by kernel_rfl) (fun j f H m => ∃ i : Nat, j = bys.length - i ∧ i ≤ bys.length ∧ f 8 = .sc (.int .i64 i) ∧ (∀ b ∈ bys.take i, b.value vals ≤ 1048576) ∧ ∃ id w, f 7 = .osl id 0 i 1 ∧ id < m ∧ H id = some ⟨icells (innerOf (bys.take i) vals), w⟩) _ ⟨0, rfl, (by first | assumption | omega | rfl | (simp (disch := omega) only [ovr_get, q0, q1, q11, q52, q53, Nat.reduceMul, Nat.reduceSub, q30, ↓upd_get, Nat.reduceShiftRight, Nat.reduceMod, Nat.reduceEqDiff, Nat.reduceAdd, ↓reduceIte, ite_neN, ite_eqN, sig_eq, sigF_nil, ↓sigF_cons, q26, q27, q57, q25, q24, q54, q55, q56, List.append_nil, q12, List.length_append, q4, q5, updL, resP, resPs, resP1, loadP, q7, q6, q8, q9, q15, q16, Nat.reduceLeDiff, q3, q2, q10, PV.sc.injEq, Value.bool.injEq, q17, pv_len, pv_take, storeP, id_ne, id_ne', id_ne2, Nat.add_assoc, pv_one, ints, pv_take_app, pv_drop_app, pv_drop6, pv_drop, *] <;> omega)), (by first | assumption | omega | rfl | (simp (disch := omega) only [ovr_get, q0, q1, q11, q52, q53, Nat.reduceMul, Nat.reduceSub, q30, ↓upd_get, Nat.reduceShiftRight, Nat.reduceMod, Nat.reduceEqDiff, Nat.reduceAdd, ↓reduceIte, ite_neN, ite_eqN, sig_eq, sigF_nil, ↓sigF_cons, q26, q27, q57, q25, q24, q54, q55, q56, List.append_nil, q12, List.length_append, q4, q5, updL, resP, resPs, resP1, loadP, q7, q6, q8, q9, q15, q16, Nat.reduceLeDiff, q3, q2, q10, PV.sc.injEq, Value.bool.injEq, q17, pv_len, pv_take, storeP, id_ne, id_ne', id_ne2, Nat.add_assoc, pv_one, ints, pv_take_app, pv_drop_app, pv_drop6, pv_drop, *] <;> omega)), (by simp), nx + 16, true, (by first | assumption | omega | rfl | (simp (disch := omega) only [ovr_get, q0, q1, q11, q52, q53, Nat.reduceMul, Nat.reduceSub, q30, ↓upd_get, Nat.reduceShiftRight, Nat.reduceMod, Nat.reduceEqDiff, Nat.reduceAdd, ↓reduceIte, ite_neN, ite_eqN, sig_eq, sigF_nil, ↓sigF_cons, q26, q27, q57, q25, q24, q54, q55, q56, List.append_nil, q12, List.length_append, q4, q5, updL, resP, resPs, resP1, loadP, q7, q6, q8, q9, q15, q16, Nat.reduceLeDiff, q3, q2, q10, PV.sc.injEq, Value.bool.injEq, q17, pv_len, pv_take, storeP, id_ne, id_ne', id_ne2, Nat.add_assoc, pv_one, ints, pv_take_app, pv_drop_app, pv_drop6, pv_drop, *] <;> omega)), (by first | assumption | omega | rfl | (simp (disch := omega) only [ovr_get, q0, q1, q11, q52, q53, Nat.reduceMul, Nat.reduceSub, q30, ↓upd_get, Nat.reduceShiftRight, Nat.reduceMod, Nat.reduceEqDiff, Nat.reduceAdd, ↓reduceIte, ite_neN, ite_eqN, sig_eq, sigF_nil, ↓sigF_cons, q26, q27, q57, q25, q24, q54, q55, q56, List.append_nil, q12, List.length_append, q4, q5, updL, resP, resPs, resP1, loadP, q7, q6, q8, q9, q15, q16, Nat.reduceLeDiff, q3, q2, q10, PV.sc.injEq, Value.bool.injEq, q17, pv_len, pv_take, storeP, id_ne, id_ne', id_ne2, Nat.add_assoc, pv_one, ints, pv_take_app, pv_drop_app, pv_drop6, pv_drop, *] <;> omega)), by simp [upd, icells, innerOf]⟩ ?_
  rintro _ f H m ⟨i, rfl, hi, e8, hall, id, w, e7, hid, hH⟩
  by_cases hlt : i < bys.length
  · have eg : bys[i]? = some bys[i] := List.getElem?_eq_getElem hlt
    have hl : (icells (innerOf (bys.take i) vals)).length = i := by rw [icells_len]; simp [innerOf]; omega
    have ht := inner_take bys vals i hlt
    have hz : (i + 1) * 8 ≤ 140737488355328 ∧ i ≤ 4611686018427387903 := by omega
    have hd : List.drop i (icells (innerOf (List.take i bys) vals) ++ [PV.sc (Value.int IntKind.i64 (bys[i].value vals))]) = [PV.sc (Value.int IntKind.i64 (bys[i].value vals))] := List.drop_left' hl
    repeat' (first | (with_reducible refine cond_pos (by omega) (fun _ => ?_)) | (with_reducible refine cond_neg (by omega) (fun _ => ?_)) | (with_reducible refine guard_pos (by omega) (fun _ => ?_)) | (with_reducible refine guard_neg (by omega) (fun _ => ?_)) | (with_reducible refine cond_ifn (fun _ => ?_) (fun _ => ?_)) | (with_reducible refine cond_waysn (fun _ => ?_) (fun _ => ?_)) | (with_reducible refine guard_ifn (fun _ => ?_) (fun _ => ?_)) | (with_reducible refine guard_waysn (fun _ => ?_) (fun _ => ?_)) | (with_reducible refine cond_if (fun _ => ?_) (fun _ => ?_)) | (with_reducible refine cond_ways (fun _ => ?_) (fun _ => ?_)) | (with_reducible refine guard_if (fun _ => ?_) (fun _ => ?_)) | (with_reducible refine guard_ways (fun _ => ?_) (fun _ => ?_)) | (((with_reducible refine call_id ?_); (first | (refine call_pure (great_p bys[i]) ?_) | (refine call_pure (Value_p bys[i] vals) ?_)))) | simp (maxSteps := 1000000) (disch := omega) only [↓c_seq, ↓c_region, ↓c_cond, ↓c_block, ↓c_ret, ↓c_skip, ↓c_exit, ↓c_cont, ↓t_normal, ↓t_ret, ↓t_exit, ↓b_normal, ↓b_ret, ↓b_exit, ↓run_nil, ↓run_cons, num_nil, num_cons, ↓g_some, ↓o_mv, ↓o_pick, ↓o_bin, ↓o_un, ↓o_ld, ↓o_bld, ↓o_len, ↓o_mkf, ↓o_nilc, ↓o_fa, ↓o_fd, ↓o_ia, ↓o_iaa, ↓o_ix, ↓o_ixs, ↓o_ext, ↓o_al, ↓o_bxf, ↓o_bxt, ↓o_bsl, ↓o_bslf, chunks, ↓o_mks, ↓o_st, ↓o_stf, ↓o_call, ↓o_calv, val_some, new_some, st_some, stf_some, guard_tt, guard_ff, guard_tf, guard_ft, guard_un, ↓cond_true, ↓cond_false, calv_fn, put_some, put_none, ev_tmp, ev_const, ev_func, ↓upd_get, sig_eq, sigF_nil, ↓sigF_cons, q0, q1, nilcV, faV, fdV, iaV, iaaV, ixV, ixsV, extV, mksV, loadP, storeP, lenPV, binPV, unPV, intBin, partsP, fillP, zeros, PV.good, PV.cellsOf, PV.one, q2, q3, q4, q5, q6, q7, q8, q9, q10, q11, q12, q13, q14, Nat.reduceAdd, Nat.reduceMul, Nat.reduceSub, Nat.reduceLeDiff, Nat.reduceEqDiff, Nat.reduceBEq, q15, q16, q17, q18, ↓reduceIte, reduceCtorEq, q19, q20, q21, q22, q23, q24, q25, q26, q27, q28, q29, q30, q31, q32, q33, q34, q35, q36, q37, q38, wrap64, ↓o_eqa, ↓o_mm, ↓o_app, app_some, mmL, mmV, mm2, eqE, eqParts, eqInt, eqBool, eqStr, partV, q39, q40, pickV, q41, Int.reduceEq, Int.reduceLE, Int.reduceLT, Int.reduceAdd, Int.reduceSub, Int.reduceNeg, Int.reduceToNat, Int.reduceNe, q42, q43, q44, q45, q46, q47, q48, q49, appE, oldOf, rowOf, updL, q50, q51, q52, q53, Nat.reducePow, zlt, ovr_get, Nat.reduceShiftRight, Nat.reduceMod, ite_neN, ite_eqN, q54, q55, q56, q57, q58, q59, q60, q61, q62, q63, q64, q65, q66, q67, pv_len, pv_take, id_ne, id_ne', id_ne2, List.length_append, List.append_nil, Nat.add_assoc, pv_one, ints, pv_take_app, pv_drop_app, pv_drop6, pv_drop, lvs, *])
    all_goals (try (refine fin_tmp (.inr rfl) ?_; (first | rfl | (simp (disch := omega) only [ovr_get, q0, q1, q11, q52, q53, Nat.reduceMul, Nat.reduceSub, q30, ↓upd_get, Nat.reduceShiftRight, Nat.reduceMod, Nat.reduceEqDiff, Nat.reduceAdd, ↓reduceIte, ite_neN, ite_eqN, sig_eq, sigF_nil, ↓sigF_cons, q26, q27, q57, q25, q24, q54, q55, q56, List.append_nil, q12, List.length_append, q4, q5, updL, resP, resPs, resP1, loadP, q7, q6, q8, q9, q15, q16, Nat.reduceLeDiff, q3, q2, q10, PV.sc.injEq, Value.bool.injEq, q17, pv_len, pv_take, storeP, id_ne, id_ne', id_ne2, Nat.add_assoc, pv_one, ints, pv_take_app, pv_drop_app, pv_drop6, pv_drop, *]; done) | (simp [upd, *]; done) | (simp [upd, *]; omega))))
    refine Nx.mk (bys.length - (i + 1)) (by first | assumption | omega | rfl | (simp (disch := omega) only [ovr_get, q0, q1, q11, q52, q53, Nat.reduceMul, Nat.reduceSub, q30, ↓upd_get, Nat.reduceShiftRight, Nat.reduceMod, Nat.reduceEqDiff, Nat.reduceAdd, ↓reduceIte, ite_neN, ite_eqN, sig_eq, sigF_nil, ↓sigF_cons, q26, q27, q57, q25, q24, q54, q55, q56, List.append_nil, q12, List.length_append, q4, q5, updL, resP, resPs, resP1, loadP, q7, q6, q8, q9, q15, q16, Nat.reduceLeDiff, q3, q2, q10, PV.sc.injEq, Value.bool.injEq, q17, pv_len, pv_take, storeP, id_ne, id_ne', id_ne2, Nat.add_assoc, pv_one, ints, pv_take_app, pv_drop_app, pv_drop6, pv_drop, *] <;> omega)) ⟨i + 1, (by first | assumption | omega | rfl | (simp (disch := omega) only [ovr_get, q0, q1, q11, q52, q53, Nat.reduceMul, Nat.reduceSub, q30, ↓upd_get, Nat.reduceShiftRight, Nat.reduceMod, Nat.reduceEqDiff, Nat.reduceAdd, ↓reduceIte, ite_neN, ite_eqN, sig_eq, sigF_nil, ↓sigF_cons, q26, q27, q57, q25, q24, q54, q55, q56, List.append_nil, q12, List.length_append, q4, q5, updL, resP, resPs, resP1, loadP, q7, q6, q8, q9, q15, q16, Nat.reduceLeDiff, q3, q2, q10, PV.sc.injEq, Value.bool.injEq, q17, pv_len, pv_take, storeP, id_ne, id_ne', id_ne2, Nat.add_assoc, pv_one, ints, pv_take_app, pv_drop_app, pv_drop6, pv_drop, *] <;> omega)), (by first | assumption | omega | rfl | (simp (disch := omega) only [ovr_get, q0, q1, q11, q52, q53, Nat.reduceMul, Nat.reduceSub, q30, ↓upd_get, Nat.reduceShiftRight, Nat.reduceMod, Nat.reduceEqDiff, Nat.reduceAdd, ↓reduceIte, ite_neN, ite_eqN, sig_eq, sigF_nil, ↓sigF_cons, q26, q27, q57, q25, q24, q54, q55, q56, List.append_nil, q12, List.length_append, q4, q5, updL, resP, resPs, resP1, loadP, q7, q6, q8, q9, q15, q16, Nat.reduceLeDiff, q3, q2, q10, PV.sc.injEq, Value.bool.injEq, q17, pv_len, pv_take, storeP, id_ne, id_ne', id_ne2, Nat.add_assoc, pv_one, ints, pv_take_app, pv_drop_app, pv_drop6, pv_drop, *] <;> omega)), (by first | assumption | omega | rfl | (simp (disch := omega) only [ovr_get, q0, q1, q11, q52, q53, Nat.reduceMul, Nat.reduceSub, q30, ↓upd_get, Nat.reduceShiftRight, Nat.reduceMod, Nat.reduceEqDiff, Nat.reduceAdd, ↓reduceIte, ite_neN, ite_eqN, sig_eq, sigF_nil, ↓sigF_cons, q26, q27, q57, q25, q24, q54, q55, q56, List.append_nil, q12, List.length_append, q4, q5, updL, resP, resPs, resP1, loadP, q7, q6, q8, q9, q15, q16, Nat.reduceLeDiff, q3, q2, q10, PV.sc.injEq, Value.bool.injEq, q17, pv_len, pv_take, storeP, id_ne, id_ne', id_ne2, Nat.add_assoc, pv_one, ints, pv_take_app, pv_drop_app, pv_drop6, pv_drop, *] <;> omega)), ?_, m + 17, false, (by first | assumption | omega | rfl | (simp (disch := omega) only [ovr_get, q0, q1, q11, q52, q53, Nat.reduceMul, Nat.reduceSub, q30, ↓upd_get, Nat.reduceShiftRight, Nat.reduceMod, Nat.reduceEqDiff, Nat.reduceAdd, ↓reduceIte, ite_neN, ite_eqN, sig_eq, sigF_nil, ↓sigF_cons, q26, q27, q57, q25, q24, q54, q55, q56, List.append_nil, q12, List.length_append, q4, q5, updL, resP, resPs, resP1, loadP, q7, q6, q8, q9, q15, q16, Nat.reduceLeDiff, q3, q2, q10, PV.sc.injEq, Value.bool.injEq, q17, pv_len, pv_take, storeP, id_ne, id_ne', id_ne2, Nat.add_assoc, pv_one, ints, pv_take_app, pv_drop_app, pv_drop6, pv_drop, *] <;> omega)), (by first | assumption | omega | rfl | (simp (disch := omega) only [ovr_get, q0, q1, q11, q52, q53, Nat.reduceMul, Nat.reduceSub, q30, ↓upd_get, Nat.reduceShiftRight, Nat.reduceMod, Nat.reduceEqDiff, Nat.reduceAdd, ↓reduceIte, ite_neN, ite_eqN, sig_eq, sigF_nil, ↓sigF_cons, q26, q27, q57, q25, q24, q54, q55, q56, List.append_nil, q12, List.length_append, q4, q5, updL, resP, resPs, resP1, loadP, q7, q6, q8, q9, q15, q16, Nat.reduceLeDiff, q3, q2, q10, PV.sc.injEq, Value.bool.injEq, q17, pv_len, pv_take, storeP, id_ne, id_ne', id_ne2, Nat.add_assoc, pv_one, ints, pv_take_app, pv_drop_app, pv_drop6, pv_drop, *] <;> omega)), (by first | assumption | omega | rfl | (simp (disch := omega) only [ovr_get, q0, q1, q11, q52, q53, Nat.reduceMul, Nat.reduceSub, q30, ↓upd_get, Nat.reduceShiftRight, Nat.reduceMod, Nat.reduceEqDiff, Nat.reduceAdd, ↓reduceIte, ite_neN, ite_eqN, sig_eq, sigF_nil, ↓sigF_cons, q26, q27, q57, q25, q24, q54, q55, q56, List.append_nil, q12, List.length_append, q4, q5, updL, resP, resPs, resP1, loadP, q7, q6, q8, q9, q15, q16, Nat.reduceLeDiff, q3, q2, q10, PV.sc.injEq, Value.bool.injEq, q17, pv_len, pv_take, storeP, id_ne, id_ne', id_ne2, Nat.add_assoc, pv_one, ints, pv_take_app, pv_drop_app, pv_drop6, pv_drop, *] <;> omega))⟩
    rename_i hv
    intro b hb
    rw [List.take_succ_eq_append_getElem hlt] at hb
    rcases List.mem_append.1 hb with h | h
    · exact hall b h
    · simp at h; subst h; omega
  · obtain rfl : i = bys.length := by omega
    rw [List.take_length] at hall hH
    have hI := Inst_p l bys
    have hJ := ref_Inst_p l bys
    rw [instV_eq] at hJ
    have hv := fun x h => @instR_val l bys vals x h hall
    have hc : chunks 1 bys.length (icells (innerOf bys vals)) = (innerOf bys vals).map fun v => [PV.sc (.int .i64 v)] := by
      have := chunk_ones (icells (innerOf bys vals))
      rw [icells_len] at this
      have e : (innerOf bys vals).length = bys.length := by simp [innerOf]
      rw [e] at this
      rw [this]
      simp [icells, List.map_map, Function.comp_def]
    have hl : (icells (innerOf bys vals)).length = bys.length := by rw [icells_len]; simp [innerOf]
    have htk : List.take bys.length (icells (innerOf bys vals)) = icells (innerOf bys vals) := List.take_of_length_le (by omega)
    cases hr : l.instR bys with
    | none =>
      rw [hr] at hI hJ
      have cS := SameLevel_p 1 (.mk 0 0 []) (.mk 0 0 []) (by simp [Lv.nodes, nodesL])
      have cS' : PPure Try.prog F.ref00_SameLevel [.agg emptyLv, .agg emptyLv] (.sc (.bool true)) :=
        (cS.is (sc_b (same_self _))).weak (args' := [.agg emptyLv, .agg emptyLv]) ⟨empty_weak, empty_weak, trivial⟩ (.refl _)
      simp only [instPV, lvs] at hI hJ
      repeat' (first | (with_reducible refine cond_pos (by omega) (fun _ => ?_)) | (with_reducible refine cond_neg (by omega) (fun _ => ?_)) | (with_reducible refine guard_pos (by omega) (fun _ => ?_)) | (with_reducible refine guard_neg (by omega) (fun _ => ?_)) | (with_reducible refine cond_ifn (fun _ => ?_) (fun _ => ?_)) | (with_reducible refine cond_waysn (fun _ => ?_) (fun _ => ?_)) | (with_reducible refine guard_ifn (fun _ => ?_) (fun _ => ?_)) | (with_reducible refine guard_waysn (fun _ => ?_) (fun _ => ?_)) | (with_reducible refine cond_if (fun _ => ?_) (fun _ => ?_)) | (with_reducible refine cond_ways (fun _ => ?_) (fun _ => ?_)) | (with_reducible refine guard_if (fun _ => ?_) (fun _ => ?_)) | (with_reducible refine guard_ways (fun _ => ?_) (fun _ => ?_)) | (((with_reducible refine call_id ?_); (first | (refine call_pure (hI) ?_) | (refine call_pure (hJ) ?_) | (refine call_pure (cS') ?_)))) | simp (maxSteps := 1000000) (disch := omega) only [↓c_seq, ↓c_region, ↓c_cond, ↓c_block, ↓c_ret, ↓c_skip, ↓c_exit, ↓c_cont, ↓t_normal, ↓t_ret, ↓t_exit, ↓b_normal, ↓b_ret, ↓b_exit, ↓run_nil, ↓run_cons, num_nil, num_cons, ↓g_some, ↓o_mv, ↓o_pick, ↓o_bin, ↓o_un, ↓o_ld, ↓o_bld, ↓o_len, ↓o_mkf, ↓o_nilc, ↓o_fa, ↓o_fd, ↓o_ia, ↓o_iaa, ↓o_ix, ↓o_ixs, ↓o_ext, ↓o_al, ↓o_bxf, ↓o_bxt, ↓o_bsl, ↓o_bslf, chunks, ↓o_mks, ↓o_st, ↓o_stf, ↓o_call, ↓o_calv, val_some, new_some, st_some, stf_some, guard_tt, guard_ff, guard_tf, guard_ft, guard_un, ↓cond_true, ↓cond_false, calv_fn, put_some, put_none, ev_tmp, ev_const, ev_func, ↓upd_get, sig_eq, sigF_nil, ↓sigF_cons, q0, q1, nilcV, faV, fdV, iaV, iaaV, ixV, ixsV, extV, mksV, loadP, storeP, lenPV, binPV, unPV, intBin, partsP, fillP, zeros, PV.good, PV.cellsOf, PV.one, q2, q3, q4, q5, q6, q7, q8, q9, q10, q11, q12, q13, q14, Nat.reduceAdd, Nat.reduceMul, Nat.reduceSub, Nat.reduceLeDiff, Nat.reduceEqDiff, Nat.reduceBEq, q15, q16, q17, q18, ↓reduceIte, reduceCtorEq, q19, q20, q21, q22, q23, q24, q25, q26, q27, q28, q29, q30, q31, q32, q33, q34, q35, q36, q37, q38, wrap64, ↓o_eqa, ↓o_mm, ↓o_app, app_some, mmL, mmV, mm2, eqE, eqParts, eqInt, eqBool, eqStr, partV, q39, q40, pickV, q41, Int.reduceEq, Int.reduceLE, Int.reduceLT, Int.reduceAdd, Int.reduceSub, Int.reduceNeg, Int.reduceToNat, Int.reduceNe, q42, q43, q44, q45, q46, q47, q48, q49, appE, oldOf, rowOf, updL, q50, q51, q52, q53, Nat.reducePow, zlt, ovr_get, Nat.reduceShiftRight, Nat.reduceMod, ite_neN, ite_eqN, q54, q55, q56, q57, q58, q59, q60, q61, q62, q63, q64, q65, q66, q67, pv_len, pv_take, id_ne, id_ne', id_ne2, List.length_append, List.append_nil, Nat.add_assoc, pv_one, ints, pv_take_app, pv_drop_app, pv_drop6, pv_drop, emptyLv, *])
      all_goals (try (refine fin_tmp (.inr rfl) ?_; (first | rfl | (simp (disch := omega) only [ovr_get, q0, q1, q11, q52, q53, Nat.reduceMul, Nat.reduceSub, q30, ↓upd_get, Nat.reduceShiftRight, Nat.reduceMod, Nat.reduceEqDiff, Nat.reduceAdd, ↓reduceIte, ite_neN, ite_eqN, sig_eq, sigF_nil, ↓sigF_cons, q26, q27, q57, q25, q24, q54, q55, q56, List.append_nil, q12, List.length_append, q4, q5, updL, resP, resPs, resP1, loadP, q7, q6, q8, q9, q15, q16, Nat.reduceLeDiff, q3, q2, q10, PV.sc.injEq, Value.bool.injEq, q17, pv_len, pv_take, storeP, id_ne, id_ne', id_ne2, Nat.add_assoc, pv_one, ints, pv_take_app, pv_drop_app, pv_drop6, pv_drop, *]; done) | (simp [upd, *]; done) | (simp [upd, *]; omega))))
    | some x =>
      obtain ⟨hx, hn⟩ := hv x hr
      rw [hr] at hI hJ
      have cS := (SameLevel_p x.nodes x x (Nat.le_refl _)).is (sc_b (same_self _))
      have cV := Value_p x vals
      rw [hx] at cV
      have cL := Value_p l (innerOf bys vals)
      simp only [instPV, lvs, ints] at hI hJ cV cL
      repeat' (first | (with_reducible refine cond_pos (by omega) (fun _ => ?_)) | (with_reducible refine cond_neg (by omega) (fun _ => ?_)) | (with_reducible refine guard_pos (by omega) (fun _ => ?_)) | (with_reducible refine guard_neg (by omega) (fun _ => ?_)) | (with_reducible refine cond_ifn (fun _ => ?_) (fun _ => ?_)) | (with_reducible refine cond_waysn (fun _ => ?_) (fun _ => ?_)) | (with_reducible refine guard_ifn (fun _ => ?_) (fun _ => ?_)) | (with_reducible refine guard_waysn (fun _ => ?_) (fun _ => ?_)) | (with_reducible refine cond_if (fun _ => ?_) (fun _ => ?_)) | (with_reducible refine cond_ways (fun _ => ?_) (fun _ => ?_)) | (with_reducible refine guard_if (fun _ => ?_) (fun _ => ?_)) | (with_reducible refine guard_ways (fun _ => ?_) (fun _ => ?_)) | (((with_reducible refine call_id ?_); (first | (refine call_pure (hI) ?_) | (refine call_pure (hJ) ?_) | (refine call_pure (cS) ?_) | (refine call_pure (cV) ?_)))) | simp (maxSteps := 1000000) (disch := omega) only [↓c_seq, ↓c_region, ↓c_cond, ↓c_block, ↓c_ret, ↓c_skip, ↓c_exit, ↓c_cont, ↓t_normal, ↓t_ret, ↓t_exit, ↓b_normal, ↓b_ret, ↓b_exit, ↓run_nil, ↓run_cons, num_nil, num_cons, ↓g_some, ↓o_mv, ↓o_pick, ↓o_bin, ↓o_un, ↓o_ld, ↓o_bld, ↓o_len, ↓o_mkf, ↓o_nilc, ↓o_fa, ↓o_fd, ↓o_ia, ↓o_iaa, ↓o_ix, ↓o_ixs, ↓o_ext, ↓o_al, ↓o_bxf, ↓o_bxt, ↓o_bsl, ↓o_bslf, chunks, ↓o_mks, ↓o_st, ↓o_stf, ↓o_call, ↓o_calv, val_some, new_some, st_some, stf_some, guard_tt, guard_ff, guard_tf, guard_ft, guard_un, ↓cond_true, ↓cond_false, calv_fn, put_some, put_none, ev_tmp, ev_const, ev_func, ↓upd_get, sig_eq, sigF_nil, ↓sigF_cons, q0, q1, nilcV, faV, fdV, iaV, iaaV, ixV, ixsV, extV, mksV, loadP, storeP, lenPV, binPV, unPV, intBin, partsP, fillP, zeros, PV.good, PV.cellsOf, PV.one, q2, q3, q4, q5, q6, q7, q8, q9, q10, q11, q12, q13, q14, Nat.reduceAdd, Nat.reduceMul, Nat.reduceSub, Nat.reduceLeDiff, Nat.reduceEqDiff, Nat.reduceBEq, q15, q16, q17, q18, ↓reduceIte, reduceCtorEq, q19, q20, q21, q22, q23, q24, q25, q26, q27, q28, q29, q30, q31, q32, q33, q34, q35, q36, q37, q38, wrap64, ↓o_eqa, ↓o_mm, ↓o_app, app_some, mmL, mmV, mm2, eqE, eqParts, eqInt, eqBool, eqStr, partV, q39, q40, pickV, q41, Int.reduceEq, Int.reduceLE, Int.reduceLT, Int.reduceAdd, Int.reduceSub, Int.reduceNeg, Int.reduceToNat, Int.reduceNe, q42, q43, q44, q45, q46, q47, q48, q49, appE, oldOf, rowOf, updL, q50, q51, q52, q53, Nat.reducePow, zlt, ovr_get, Nat.reduceShiftRight, Nat.reduceMod, ite_neN, ite_eqN, q54, q55, q56, q57, q58, q59, q60, q61, q62, q63, q64, q65, q66, q67, pv_len, pv_take, id_ne, id_ne', id_ne2, List.length_append, List.append_nil, Nat.add_assoc, pv_one, ints, pv_take_app, pv_drop_app, pv_drop6, pv_drop, *])
      refine call_lend cL ?_ (by simp [immL, PV.imm, pv_imm, immLL_flatten, immL_ones]) rfl ?_
      · simp (maxSteps := 1000000) (disch := omega) only [↓c_seq, ↓c_region, ↓c_cond, ↓c_block, ↓c_ret, ↓c_skip, ↓c_exit, ↓c_cont, ↓t_normal, ↓t_ret, ↓t_exit, ↓b_normal, ↓b_ret, ↓b_exit, ↓run_nil, ↓run_cons, num_nil, num_cons, ↓g_some, ↓o_mv, ↓o_pick, ↓o_bin, ↓o_un, ↓o_ld, ↓o_bld, ↓o_len, ↓o_mkf, ↓o_nilc, ↓o_fa, ↓o_fd, ↓o_ia, ↓o_iaa, ↓o_ix, ↓o_ixs, ↓o_ext, ↓o_al, ↓o_bxf, ↓o_bxt, ↓o_bsl, ↓o_bslf, chunks, ↓o_mks, ↓o_st, ↓o_stf, ↓o_call, ↓o_calv, val_some, new_some, st_some, stf_some, guard_tt, guard_ff, guard_tf, guard_ft, guard_un, ↓cond_true, ↓cond_false, calv_fn, put_some, put_none, ev_tmp, ev_const, ev_func, ↓upd_get, sig_eq, sigF_nil, ↓sigF_cons, q0, q1, nilcV, faV, fdV, iaV, iaaV, ixV, ixsV, extV, mksV, loadP, storeP, lenPV, binPV, unPV, intBin, partsP, fillP, zeros, PV.good, PV.cellsOf, PV.one, q2, q3, q4, q5, q6, q7, q8, q9, q10, q11, q12, q13, q14, Nat.reduceAdd, Nat.reduceMul, Nat.reduceSub, Nat.reduceLeDiff, Nat.reduceEqDiff, Nat.reduceBEq, q15, q16, q17, q18, ↓reduceIte, reduceCtorEq, q19, q20, q21, q22, q23, q24, q25, q26, q27, q28, q29, q30, q31, q32, q33, q34, q35, q36, q37, q38, wrap64, ↓o_eqa, ↓o_mm, ↓o_app, app_some, mmL, mmV, mm2, eqE, eqParts, eqInt, eqBool, eqStr, partV, q39, q40, pickV, q41, Int.reduceEq, Int.reduceLE, Int.reduceLT, Int.reduceAdd, Int.reduceSub, Int.reduceNeg, Int.reduceToNat, Int.reduceNe, q42, q43, q44, q45, q46, q47, q48, q49, appE, oldOf, rowOf, updL, q50, q51, q52, q53, Nat.reducePow, zlt, ovr_get, Nat.reduceShiftRight, Nat.reduceMod, ite_neN, ite_eqN, q54, q55, q56, q57, q58, q59, q60, q61, q62, q63, q64, q65, q66, q67, pv_len, pv_take, id_ne, id_ne', id_ne2, List.length_append, List.append_nil, Nat.add_assoc, pv_one, ints, pv_take_app, pv_drop_app, pv_drop6, pv_drop, brw, *]
      repeat' (first | (with_reducible refine cond_pos (by omega) (fun _ => ?_)) | (with_reducible refine cond_neg (by omega) (fun _ => ?_)) | (with_reducible refine guard_pos (by omega) (fun _ => ?_)) | (with_reducible refine guard_neg (by omega) (fun _ => ?_)) | (with_reducible refine cond_ifn (fun _ => ?_) (fun _ => ?_)) | (with_reducible refine cond_waysn (fun _ => ?_) (fun _ => ?_)) | (with_reducible refine guard_ifn (fun _ => ?_) (fun _ => ?_)) | (with_reducible refine guard_waysn (fun _ => ?_) (fun _ => ?_)) | (with_reducible refine cond_if (fun _ => ?_) (fun _ => ?_)) | (with_reducible refine cond_ways (fun _ => ?_) (fun _ => ?_)) | (with_reducible refine guard_if (fun _ => ?_) (fun _ => ?_)) | (with_reducible refine guard_ways (fun _ => ?_) (fun _ => ?_)) | simp (maxSteps := 1000000) (disch := omega) only [↓c_seq, ↓c_region, ↓c_cond, ↓c_block, ↓c_ret, ↓c_skip, ↓c_exit, ↓c_cont, ↓t_normal, ↓t_ret, ↓t_exit, ↓b_normal, ↓b_ret, ↓b_exit, ↓run_nil, ↓run_cons, num_nil, num_cons, ↓g_some, ↓o_mv, ↓o_pick, ↓o_bin, ↓o_un, ↓o_ld, ↓o_bld, ↓o_len, ↓o_mkf, ↓o_nilc, ↓o_fa, ↓o_fd, ↓o_ia, ↓o_iaa, ↓o_ix, ↓o_ixs, ↓o_ext, ↓o_al, ↓o_bxf, ↓o_bxt, ↓o_bsl, ↓o_bslf, chunks, ↓o_mks, ↓o_st, ↓o_stf, ↓o_call, ↓o_calv, val_some, new_some, st_some, stf_some, guard_tt, guard_ff, guard_tf, guard_ft, guard_un, ↓cond_true, ↓cond_false, calv_fn, put_some, put_none, ev_tmp, ev_const, ev_func, ↓upd_get, sig_eq, sigF_nil, ↓sigF_cons, q0, q1, nilcV, faV, fdV, iaV, iaaV, ixV, ixsV, extV, mksV, loadP, storeP, lenPV, binPV, unPV, intBin, partsP, fillP, zeros, PV.good, PV.cellsOf, PV.one, q2, q3, q4, q5, q6, q7, q8, q9, q10, q11, q12, q13, q14, Nat.reduceAdd, Nat.reduceMul, Nat.reduceSub, Nat.reduceLeDiff, Nat.reduceEqDiff, Nat.reduceBEq, q15, q16, q17, q18, ↓reduceIte, reduceCtorEq, q19, q20, q21, q22, q23, q24, q25, q26, q27, q28, q29, q30, q31, q32, q33, q34, q35, q36, q37, q38, wrap64, ↓o_eqa, ↓o_mm, ↓o_app, app_some, mmL, mmV, mm2, eqE, eqParts, eqInt, eqBool, eqStr, partV, q39, q40, pickV, q41, Int.reduceEq, Int.reduceLE, Int.reduceLT, Int.reduceAdd, Int.reduceSub, Int.reduceNeg, Int.reduceToNat, Int.reduceNe, q42, q43, q44, q45, q46, q47, q48, q49, appE, oldOf, rowOf, updL, q50, q51, q52, q53, Nat.reducePow, zlt, ovr_get, Nat.reduceShiftRight, Nat.reduceMod, ite_neN, ite_eqN, q54, q55, q56, q57, q58, q59, q60, q61, q62, q63, q64, q65, q66, q67, pv_len, pv_take, id_ne, id_ne', id_ne2, List.length_append, List.append_nil, Nat.add_assoc, pv_one, ints, pv_take_app, pv_drop_app, pv_drop6, pv_drop, *])
      (refine fin_tmp (.inr rfl) ?_; (first | rfl | (simp (disch := omega) only [ovr_get, q0, q1, q11, q52, q53, Nat.reduceMul, Nat.reduceSub, q30, ↓upd_get, Nat.reduceShiftRight, Nat.reduceMod, Nat.reduceEqDiff, Nat.reduceAdd, ↓reduceIte, ite_neN, ite_eqN, sig_eq, sigF_nil, ↓sigF_cons, q26, q27, q57, q25, q24, q54, q55, q56, List.append_nil, q12, List.length_append, q4, q5, updL, resP, resPs, resP1, loadP, q7, q6, q8, q9, q15, q16, Nat.reduceLeDiff, q3, q2, q10, PV.sc.injEq, Value.bool.injEq, q17, pv_len, pv_take, storeP, id_ne, id_ne', id_ne2, Nat.add_assoc, pv_one, ints, pv_take_app, pv_drop_app, pv_drop6, pv_drop, *]; done) | (simp [upd, *]; done) | (simp [upd, *]; omega)))

end Go.Proofs.Ytifebfkkciaddaa
