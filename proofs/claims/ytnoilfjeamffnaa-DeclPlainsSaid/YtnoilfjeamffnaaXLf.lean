/-
  Plain values: DeG, Tm3, DeH, DeI, DeE, DeJ, DeK, DeL, DeF, DeN, DeO, DeP, LvO, TmOp, DeS, DeT, DeU.
-/
import Derived.Test.YtnoilfjeamffnaaXLa
import Derived.Test.YtnoilfjeamffnaaXLb
import Derived.Test.YtnoilfjeamffnaaXLc
import Derived.Test.YtnoilfjeamffnaaXLd
import Derived.Test.YtnoilfjeamffnaaXLe
set_option linter.unusedVariables false
set_option linter.unusedSimpArgs false
namespace Go.Proofs.Ytnoilfjeamffnaa
open Go.RowKit
attribute [local go_sem ↓] c_seq c_region c_cond c_block c_ret c_skip c_exit c_cont t_normal t_ret t_exit b_normal b_ret b_exit run_nil run_cons g_some o_mv o_pick o_bin o_un o_ld o_ldf o_bld o_len o_mkf o_nilc o_fa o_fd o_ia o_iaa o_ix o_ixs o_ext o_al o_bxf o_bxt o_bsl o_bslf o_mks o_st o_stf o_call o_rng o_nxt o_callm o_callmA o_calvm o_calv cond_true cond_false upd_get sigF_cons o_eqa o_mm o_app o_slc
attribute [local go_sem] num_nil num_cons isP chunks rngV next_is next_iter val_some new_some st_some stf_some guard_tt guard_ff guard_tf guard_ft guard_un calv_fn put_some put_none ev_tmp ev_const ev_func sig_eq sigF_nil q0 q1 nilcV faV fdV iaV iaaV ixV ixsV extV mksV loadP storeP lenPV binPV unPV intBin partsP fillP zeros PV.good PV.cellsOf PV.one q2 q3 q4 q5 q6 q7 q8 q9 q10 q11 q12 q13 q14 q15 q16 q17 q18 q19 q20 q21 q22 q23 q24 q25 q26 q27 q28 q29 q30 q31 q32 q33 q34 q35 q36 q37 q38 wrap64 app_some mmL mmV mm2 eqE eqParts eqInt eqBool eqStr partV q39 q40 pickV q41 q42 q43 q44 q45 q46 q47 q48 q49 appE oldOf rowOf updL q50 q51 q52 q53 zlt ovr_get ite_neN ite_eqN q54 q55 q56 q57 q58 q59 q60 q61 q62 q63 q64 q65 q66 q67 tailP_f tailP_t tailF_f tailF_t slcP bndO capO slcLen intOf Option.isSome_none Option.isNone_none Option.isSome_some Option.isNone_some nilP slc_sl slc_csl slc_osl slc_osl0 slc_ocap slc_str List.append_nil List.length_append resP resPs resP1 PV.sc.injEq Value.bool.injEq Value.int.injEq
section
set_option maxRecDepth 20000
attribute [local go_sem] pv_len pv_take Nat.add_assoc tm_len tm_take pv_one tm_one id_ne id_ne' id_ne2 List.append_assoc tm_take_app tm_drop_app tm_d6 tm_d7 tm_d8 tm_d9 tm_d10 tm_d11 tm_d12 tm_d13 tm_d14 tm_d15 ent_len ent_take ent_one optC_len optC_take optC_one
theorem bytes_eqD {a b : ByteArray} : (a.toList == b.toList) = decide (a = b) := by
  rw [Bool.eq_iff_iff, beq_iff_eq, decide_eq_true_eq]
  exact ⟨fun h => by
    have ha : a.data.toList = b.data.toList := by simpa [ByteArray.toList_eq] using h
    cases a
    cases b
    congr
    exact Array.toList_inj.1 ha, fun h => by rw [h]⟩
def Ent.pvB (f : Bool) (e : Ent) : List PV := .sc (.int .i64 e.kind) :: .sc (.int .i64 e.params) :: .sc (.string e.name) :: (e.typ.pvB f ++ (e.val.pvB f ++ [.sc (.int .i64 e.height), .sc (.string e.family), .sc (.int .i64 e.fixed), .sc (.int .i64 e.index), .sc (.int .i64 e.fields), .sl 1 (e.ctors.map txt)]))
theorem entB_false (e : Ent) : e.pvB false = e.pv := by simp only [Ent.pvB, Ent.pv, dtv_false]
theorem tb_take (f : Bool) (t : Tm) (r : List PV) : (t.pvB f ++ r).take 5 = t.pvB f := List.take_left' (tpvB_len f t)
theorem tb_drop (f : Bool) (t : Tm) (r : List PV) : (t.pvB f ++ r).drop 5 = r := List.drop_left' (tpvB_len f t)
theorem tb_d6 (f : Bool) (t : Tm) (r : List PV) : (t.pvB f ++ r).drop 6 = r.drop 1 := by rw [show 6 = 5 + 1 by rfl, ← List.drop_drop, tb_drop]
theorem tb_d7 (f : Bool) (t : Tm) (r : List PV) : (t.pvB f ++ r).drop 7 = r.drop 2 := by rw [show 7 = 5 + 2 by rfl, ← List.drop_drop, tb_drop]
theorem tb_d8 (f : Bool) (t : Tm) (r : List PV) : (t.pvB f ++ r).drop 8 = r.drop 3 := by rw [show 8 = 5 + 3 by rfl, ← List.drop_drop, tb_drop]
theorem tb_d9 (f : Bool) (t : Tm) (r : List PV) : (t.pvB f ++ r).drop 9 = r.drop 4 := by rw [show 9 = 5 + 4 by rfl, ← List.drop_drop, tb_drop]
theorem tb_d10 (f : Bool) (t : Tm) (r : List PV) : (t.pvB f ++ r).drop 10 = r.drop 5 := by rw [show 10 = 5 + 5 by rfl, ← List.drop_drop, tb_drop]
theorem tb_d11 (f : Bool) (t : Tm) (r : List PV) : (t.pvB f ++ r).drop 11 = r.drop 6 := by rw [show 11 = 5 + 6 by rfl, ← List.drop_drop, tb_drop]
theorem tb_d12 (f : Bool) (t : Tm) (r : List PV) : (t.pvB f ++ r).drop 12 = r.drop 7 := by rw [show 12 = 5 + 7 by rfl, ← List.drop_drop, tb_drop]
theorem tb_d13 (f : Bool) (t : Tm) (r : List PV) : (t.pvB f ++ r).drop 13 = r.drop 8 := by rw [show 13 = 5 + 8 by rfl, ← List.drop_drop, tb_drop]
theorem tb_d14 (f : Bool) (t : Tm) (r : List PV) : (t.pvB f ++ r).drop 14 = r.drop 9 := by rw [show 14 = 5 + 9 by rfl, ← List.drop_drop, tb_drop]
theorem tb_d15 (f : Bool) (t : Tm) (r : List PV) : (t.pvB f ++ r).drop 15 = r.drop 10 := by rw [show 15 = 5 + 10 by rfl, ← List.drop_drop, tb_drop]
theorem numbers_p (f : Bool) (e : Ent) : PPure Try.prog F.decl_numbers [.ptr (e.pvB f)] (.agg [.sc (.int .i64 e.kind), .sc (.int .i64 e.params), .sc (.int .i64 e.height), .sc (.int .i64 e.fixed), .sc (.int .i64 e.index), .sc (.int .i64 e.fields)]) := by
  obtain ⟨kind, params, name, typ, val, height, family, fixed, index, fields, ctors⟩ := e
  refine pure_by is_decl_numbers (by simp) rfl fun hb nx => ?_
  clear hb
  repeat' (first | ((with_reducible first | refine wA (by omega) ?_ | refine wB (by omega) ?_ | refine wC (by omega) ?_ | refine wD (by omega) ?_ | refine wE ?_ ?_ | refine wF ?_ ?_ | refine wG ?_ ?_ | refine wH ?_ ?_ | refine wI ?_ ?_ | refine wJ ?_ ?_ | refine wK ?_ ?_ | refine wL ?_ ?_) <;> intro _) | simp (maxSteps := 1000000) (disch := omega) only [go_sem, Nat.reduceAdd, Nat.reduceMul, Nat.reduceSub, Nat.reduceLeDiff, Nat.reduceEqDiff, Nat.reduceBEq, ↓reduceIte, reduceCtorEq, Int.reduceEq, Int.reduceLE, Int.reduceLT, Int.reduceAdd, Int.reduceSub, Int.reduceNeg, Int.reduceToNat, Int.reduceNe, Nat.reducePow, Nat.reduceShiftRight, Nat.reduceMod, mc_decl_numbers, Ent.pvB, tpvB_len, tpvB_take, tpvB_one, tb_take, tb_drop, tb_d6, tb_d7, tb_d8, tb_d9, tb_d10, tb_d11, tb_d12, tb_d13, tb_d14, tb_d15, *])
  refine fin_ret (r0 := .agg [.sc (.int .i64 kind), .sc (.int .i64 params), .sc (.int .i64 height), .sc (.int .i64 fixed), .sc (.int .i64 index), .sc (.int .i64 fields)]) 1 cE2 ?_
  exact .of_eq (by simp [frz, frz_sc])
theorem texts_p (f : Bool) (e : Ent) : PPure Try.prog F.decl_texts [.ptr (e.pvB f)] (.agg [.sc (.string e.name), .sc (.string e.family)]) := by
  obtain ⟨kind, params, name, typ, val, height, family, fixed, index, fields, ctors⟩ := e
  refine pure_by is_decl_texts (by simp) rfl fun hb nx => ?_
  clear hb
  repeat' (first | ((with_reducible first | refine wA (by omega) ?_ | refine wB (by omega) ?_ | refine wC (by omega) ?_ | refine wD (by omega) ?_ | refine wE ?_ ?_ | refine wF ?_ ?_ | refine wG ?_ ?_ | refine wH ?_ ?_ | refine wI ?_ ?_ | refine wJ ?_ ?_ | refine wK ?_ ?_ | refine wL ?_ ?_) <;> intro _) | simp (maxSteps := 1000000) (disch := omega) only [go_sem, Nat.reduceAdd, Nat.reduceMul, Nat.reduceSub, Nat.reduceLeDiff, Nat.reduceEqDiff, Nat.reduceBEq, ↓reduceIte, reduceCtorEq, Int.reduceEq, Int.reduceLE, Int.reduceLT, Int.reduceAdd, Int.reduceSub, Int.reduceNeg, Int.reduceToNat, Int.reduceNe, Nat.reducePow, Nat.reduceShiftRight, Nat.reduceMod, mc_decl_texts, Ent.pvB, tpvB_len, tpvB_take, tpvB_one, tb_take, tb_drop, tb_d6, tb_d7, tb_d8, tb_d9, tb_d10, tb_d11, tb_d12, tb_d13, tb_d14, tb_d15, *])
  refine fin_ret (r0 := .agg [.sc (.string name), .sc (.string family)]) 1 cE2 ?_
  exact .of_eq (by simp [frz, frz_sc])
theorem equal_p (xs ys : List ByteArray) : PPure Try.prog F.slices_Equal_string_string [.sl 1 (xs.map txt), .sl 1 (ys.map txt)] (.sc (.bool (decide (xs = ys)))) := by
  refine pure_by is_slices_Equal_string_string (by simp) rfl fun hb nx => ?_
  have hb0 : xs.length ≤ 9223372036854775807 ∧ ys.length ≤ 9223372036854775807 := by simp [bndL, PV.bnd] at hb; exact ⟨hb.1.1, hb.2.1⟩
  clear hb
  by_cases hl : xs.length = ys.length
  · repeat' (first | ((with_reducible first | refine wA (by omega) ?_ | refine wB (by omega) ?_ | refine wC (by omega) ?_ | refine wD (by omega) ?_ | refine wE ?_ ?_ | refine wF ?_ ?_ | refine wG ?_ ?_ | refine wH ?_ ?_ | refine wI ?_ ?_ | refine wJ ?_ ?_ | refine wK ?_ ?_ | refine wL ?_ ?_) <;> intro _) | simp (maxSteps := 1000000) (disch := omega) only [go_sem, Nat.reduceAdd, Nat.reduceMul, Nat.reduceSub, Nat.reduceLeDiff, Nat.reduceEqDiff, Nat.reduceBEq, ↓reduceIte, reduceCtorEq, Int.reduceEq, Int.reduceLE, Int.reduceLT, Int.reduceAdd, Int.reduceSub, Int.reduceNeg, Int.reduceToNat, Int.reduceNe, Nat.reducePow, Nat.reduceShiftRight, Nat.reduceMod, mc_slices_Equal_string_string, *])
    refine c_loopW 67100720 (by kernel_rfl) (fun j f H m => ∃ i : Nat, j = ys.length - i ∧ i ≤ xs.length ∧ f 13 = .sc (.int .i64 i) ∧ Kept (xs.take i = ys.take i)) _ ⟨0, rfl, Nat.zero_le _, cE1, Kept.mk (by simp)⟩ ?_
    rintro _ f H m ⟨i, rfl, hi, e13, hs⟩
    by_cases hlt : i < xs.length
    · have hlt2 : i < ys.length := by omega
      have eg : xs[i]? = some xs[i] := List.getElem?_eq_getElem hlt
      have eg2 : ys[i]? = some ys[i] := List.getElem?_eq_getElem hlt2
      by_cases he : xs[i] = ys[i]
      · have hs2 : Kept (xs.take (i + 1) = ys.take (i + 1)) := Kept.mk (by rw [List.take_succ_eq_append_getElem hlt, List.take_succ_eq_append_getElem hlt2, hs.out, he])
        clear hs
        repeat' (first | ((with_reducible first | refine wA (by omega) ?_ | refine wB (by omega) ?_ | refine wC (by omega) ?_ | refine wD (by omega) ?_ | refine wE ?_ ?_ | refine wF ?_ ?_ | refine wG ?_ ?_ | refine wH ?_ ?_ | refine wI ?_ ?_ | refine wJ ?_ ?_ | refine wK ?_ ?_ | refine wL ?_ ?_) <;> intro _) | simp (maxSteps := 1000000) (disch := omega) only [go_sem, Nat.reduceAdd, Nat.reduceMul, Nat.reduceSub, Nat.reduceLeDiff, Nat.reduceEqDiff, Nat.reduceBEq, ↓reduceIte, reduceCtorEq, Int.reduceEq, Int.reduceLE, Int.reduceLT, Int.reduceAdd, Int.reduceSub, Int.reduceNeg, Int.reduceToNat, Int.reduceNe, Nat.reducePow, Nat.reduceShiftRight, Nat.reduceMod, txt, strBin, bytes_eqD, *])
        exact Nx.mk (ys.length - (i + 1)) cE1 ⟨i + 1, rfl, cE1, by simp [upd], hs2⟩
      · have e : decide (xs = ys) = false := decide_eq_false fun h => he (by subst h; rfl)
        rw [e]
        clear e hs
        repeat' (first | ((with_reducible first | refine wA (by omega) ?_ | refine wB (by omega) ?_ | refine wC (by omega) ?_ | refine wD (by omega) ?_ | refine wE ?_ ?_ | refine wF ?_ ?_ | refine wG ?_ ?_ | refine wH ?_ ?_ | refine wI ?_ ?_ | refine wJ ?_ ?_ | refine wK ?_ ?_ | refine wL ?_ ?_) <;> intro _) | simp (maxSteps := 1000000) (disch := omega) only [go_sem, Nat.reduceAdd, Nat.reduceMul, Nat.reduceSub, Nat.reduceLeDiff, Nat.reduceEqDiff, Nat.reduceBEq, ↓reduceIte, reduceCtorEq, Int.reduceEq, Int.reduceLE, Int.reduceLT, Int.reduceAdd, Int.reduceSub, Int.reduceNeg, Int.reduceToNat, Int.reduceNe, Nat.reducePow, Nat.reduceShiftRight, Nat.reduceMod, txt, strBin, bytes_eqD, *])
        all_goals (exact fin_tmp (.inr rfl) cE3)
    · obtain rfl : i = xs.length := by omega
      have h2 := hs.out
      rw [List.take_length, hl, List.take_length] at h2
      rw [decide_eq_true h2]
      clear hs h2
      repeat' (first | ((with_reducible first | refine wA (by omega) ?_ | refine wB (by omega) ?_ | refine wC (by omega) ?_ | refine wD (by omega) ?_ | refine wE ?_ ?_ | refine wF ?_ ?_ | refine wG ?_ ?_ | refine wH ?_ ?_ | refine wI ?_ ?_ | refine wJ ?_ ?_ | refine wK ?_ ?_ | refine wL ?_ ?_) <;> intro _) | simp (maxSteps := 1000000) (disch := omega) only [go_sem, Nat.reduceAdd, Nat.reduceMul, Nat.reduceSub, Nat.reduceLeDiff, Nat.reduceEqDiff, Nat.reduceBEq, ↓reduceIte, reduceCtorEq, Int.reduceEq, Int.reduceLE, Int.reduceLT, Int.reduceAdd, Int.reduceSub, Int.reduceNeg, Int.reduceToNat, Int.reduceNe, Nat.reducePow, Nat.reduceShiftRight, Nat.reduceMod, *])
      all_goals (exact fin_tmp (.inr rfl) cE3)
  · rw [decide_eq_false fun h => hl (by rw [h])]
    repeat' (first | ((with_reducible first | refine wA (by omega) ?_ | refine wB (by omega) ?_ | refine wC (by omega) ?_ | refine wD (by omega) ?_ | refine wE ?_ ?_ | refine wF ?_ ?_ | refine wG ?_ ?_ | refine wH ?_ ?_ | refine wI ?_ ?_ | refine wJ ?_ ?_ | refine wK ?_ ?_ | refine wL ?_ ?_) <;> intro _) | simp (maxSteps := 1000000) (disch := omega) only [go_sem, Nat.reduceAdd, Nat.reduceMul, Nat.reduceSub, Nat.reduceLeDiff, Nat.reduceEqDiff, Nat.reduceBEq, ↓reduceIte, reduceCtorEq, Int.reduceEq, Int.reduceLE, Int.reduceLT, Int.reduceAdd, Int.reduceSub, Int.reduceNeg, Int.reduceToNat, Int.reduceNe, Nat.reducePow, Nat.reduceShiftRight, Nat.reduceMod, mc_slices_Equal_string_string, *])
    all_goals (exact fin_tmp (.inr rfl) cE3)
def Ent.numE (a b : Ent) : Bool := decide (a.kind = b.kind) && (decide (a.params = b.params) && (decide (a.height = b.height) && (decide (a.fixed = b.fixed) && (decide (a.index = b.index) && decide (a.fields = b.fields)))))
def Ent.txtE (a b : Ent) : Bool := a.name.toList == b.name.toList && a.family.toList == b.family.toList
def Ent.same (a b : Ent) : Bool := a.numE b && (a.txtE b && (decide (a.ctors = b.ctors) && (a.typ.same b.typ && a.val.same b.val)))
set_option maxHeartbeats 8000000 in
theorem eSame_p (a b : Ent) (f g : Bool) (hfg : (f || g) = true) : PPure Try.prog F.decl_Same [.agg (a.pvB f), .agg (b.pvB g)] (.sc (.bool (a.same b))) := by
  refine pure_by is_decl_Same (by simp) rfl fun hb nx => ?_
  clear hb
  have c1 := numbers_p f a
  have c2 := numbers_p g b
  have c3 := texts_p f a
  have c4 := texts_p g b
  have c5 := equal_p a.ctors b.ctors
  have c6 := tSame_p a.typ b.typ f g hfg
  have c7 := tSame_p a.val b.val f g hfg
  simp only [Ent.same, Ent.numE, Ent.txtE]
  obtain ⟨kind, params, name, typ, val, height, family, fixed, index, fields, ctors⟩ := a
  obtain ⟨kind2, params2, name2, typ2, val2, height2, family2, fixed2, index2, fields2, ctors2⟩ := b
  simp only [Ent.pvB] at c1 c2 c3 c4 c5 c6 c7 ⊢
  generalize typ.same typ2 = b6 at c6
  generalize val.same val2 = b7 at c7
  repeat' (first | ((with_reducible first | refine wA (by omega) ?_ | refine wB (by omega) ?_ | refine wC (by omega) ?_ | refine wD (by omega) ?_ | refine wE ?_ ?_ | refine wF ?_ ?_ | refine wG ?_ ?_ | refine wH ?_ ?_ | refine wI ?_ ?_ | refine wJ ?_ ?_ | refine wK ?_ ?_ | refine wL ?_ ?_) <;> intro _) | (((with_reducible refine call_id ?_); (first | (refine call_pure (c1) ?_) | (refine call_pure (c2) ?_) | (refine call_pure (c3) ?_) | (refine call_pure (c4) ?_) | (refine call_pure (c5) ?_) | (refine call_pure (c6) ?_) | (refine call_pure (c7) ?_)))) | simp (maxSteps := 1000000) (disch := omega) only [go_sem, Nat.reduceAdd, Nat.reduceMul, Nat.reduceSub, Nat.reduceLeDiff, Nat.reduceEqDiff, Nat.reduceBEq, ↓reduceIte, reduceCtorEq, Int.reduceEq, Int.reduceLE, Int.reduceLT, Int.reduceAdd, Int.reduceSub, Int.reduceNeg, Int.reduceToNat, Int.reduceNe, Nat.reducePow, Nat.reduceShiftRight, Nat.reduceMod, mc_decl_Same, tpvB_len, tpvB_take, tpvB_one, tb_take, tb_drop, tb_d6, tb_d7, tb_d8, tb_d9, tb_d10, tb_d11, tb_d12, tb_d13, tb_d14, tb_d15, *])
  all_goals (exact fin_tmp (.inr rfl) cE3)
end
section
set_option maxRecDepth 20000
attribute [local go_sem] pv_len pv_take id_ne id_ne' id_ne2 List.append_assoc
theorem txts_flat : ∀ xs : List ByteArray, (xs.map txt).flatten = xs.flatMap txt := fun xs => by rw [List.flatMap_def]
theorem txts_len : ∀ xs : List ByteArray, (xs.map txt).flatten.length = xs.length
  | [] => rfl
  | x :: r => by simp only [List.map_cons, List.flatten_cons, List.length_append, txt_len, txts_len r, List.length_cons]; omega
theorem txts_one : ∀ xs : List ByteArray, (xs.map txt).flatten.all PV.one = true
  | [] => rfl
  | x :: r => by
    simp only [List.map_cons, List.flatten_cons, List.all_append, txts_one r]
    rfl
set_option maxHeartbeats 4000000 in
theorem sClone_m (xs : List ByteArray) (hl : xs.length ≤ 2 ^ 40) (H : Nat → Option PObj) (nx : Nat) : PMut Try.prog F.slices_Clone_string_string [.sl 1 (xs.map txt)] H nx (fun H' nx' r => nx ≤ nx' ∧ (∀ j, j < nx → H' j = H j) ∧ ((xs = [] ∧ r = .sc (.slice none 0 0)) ∨ ∃ id, nx ≤ id ∧ id < nx' ∧ r = .osl id 0 xs.length 1 ∧ H' id = some ⟨xs.flatMap txt, false⟩)) := by
  refine mut_by is_slices_Clone_string_string (by simp) fun hb => ?_
  clear hb
  repeat' (first | ((with_reducible first | refine wA (by omega) ?_ | refine wB (by omega) ?_ | refine wC (by omega) ?_ | refine wD (by omega) ?_ | refine wE ?_ ?_ | refine wF ?_ ?_ | refine wG ?_ ?_ | refine wH ?_ ?_ | refine wI ?_ ?_ | refine wJ ?_ ?_ | refine wK ?_ ?_ | refine wL ?_ ?_) <;> intro _) | simp (maxSteps := 1000000) (disch := omega) only [go_sem, Nat.reduceAdd, Nat.reduceMul, Nat.reduceSub, Nat.reduceLeDiff, Nat.reduceEqDiff, Nat.reduceBEq, ↓reduceIte, reduceCtorEq, Int.reduceEq, Int.reduceLE, Int.reduceLT, Int.reduceAdd, Int.reduceSub, Int.reduceNeg, Int.reduceToNat, Int.reduceNe, Nat.reducePow, Nat.reduceShiftRight, Nat.reduceMod, mc_slices_Clone_string_string, *])
  refine o_slnil rfl rfl Try.underlying31 (n := xs.length) (by simp [slN, ev, upd]) fun t ht => ?_
  cases t with
  | true =>
    obtain rfl : xs = [] := List.eq_nil_of_length_eq_zero (ht rfl)
    clear ht
    repeat' (first | ((with_reducible first | refine wA (by omega) ?_ | refine wB (by omega) ?_ | refine wC (by omega) ?_ | refine wD (by omega) ?_ | refine wE ?_ ?_ | refine wF ?_ ?_ | refine wG ?_ ?_ | refine wH ?_ ?_ | refine wI ?_ ?_ | refine wJ ?_ ?_ | refine wK ?_ ?_ | refine wL ?_ ?_) <;> intro _) | simp (maxSteps := 1000000) (disch := omega) only [go_sem, Nat.reduceAdd, Nat.reduceMul, Nat.reduceSub, Nat.reduceLeDiff, Nat.reduceEqDiff, Nat.reduceBEq, ↓reduceIte, reduceCtorEq, Int.reduceEq, Int.reduceLE, Int.reduceLT, Int.reduceAdd, Int.reduceSub, Int.reduceNeg, Int.reduceToNat, Int.reduceNe, Nat.reducePow, Nat.reduceShiftRight, Nat.reduceMod, *])
    exact fin_mut (.sc (.slice none 0 0)) (.inr rfl) (by (simp (disch := omega) only [go_sem, Nat.reduceMul, Nat.reduceSub, Nat.reduceShiftRight, Nat.reduceMod, Nat.reduceEqDiff, Nat.reduceAdd, ↓reduceIte, Nat.reduceLeDiff]); all_goals rfl) ⟨by simp only [Nat.add_assoc]; exact Nat.le_add_right _ _, fun _ _ => rfl, .inl rfl⟩
  | false =>
    clear ht
    have h1 := txts_len xs
    have h2 := txts_one xs
    have h3 : xs.length * 16 ≤ 140737488355328 ∧ xs.length ≤ 4611686018427387904 := by omega
    repeat' (first | ((with_reducible first | refine wA (by omega) ?_ | refine wB (by omega) ?_ | refine wC (by omega) ?_ | refine wD (by omega) ?_ | refine wE ?_ ?_ | refine wF ?_ ?_ | refine wG ?_ ?_ | refine wH ?_ ?_ | refine wI ?_ ?_ | refine wJ ?_ ?_ | refine wK ?_ ?_ | refine wL ?_ ?_) <;> intro _) | simp (maxSteps := 1000000) (disch := omega) only [go_sem, Nat.reduceAdd, Nat.reduceMul, Nat.reduceSub, Nat.reduceLeDiff, Nat.reduceEqDiff, Nat.reduceBEq, ↓reduceIte, reduceCtorEq, Int.reduceEq, Int.reduceLE, Int.reduceLT, Int.reduceAdd, Int.reduceSub, Int.reduceNeg, Int.reduceToNat, Int.reduceNe, Nat.reducePow, Nat.reduceShiftRight, Nat.reduceMod, *])
    refine fin_mut (.osl (nx + 1 + 2 + 2) 0 xs.length 1) (.inr rfl) (by (simp (disch := omega) only [go_sem, Nat.reduceMul, Nat.reduceSub, Nat.reduceShiftRight, Nat.reduceMod, Nat.reduceEqDiff, Nat.reduceAdd, ↓reduceIte, Nat.reduceLeDiff]); all_goals rfl) ⟨by simp only [Nat.add_assoc]; exact Nat.le_add_right _ _, fun j hj => ?_, .inr ⟨nx + 1 + 2 + 2, by omega, by simp only [Nat.add_assoc]; exact Nat.add_lt_add_left (by omega) _, rfl, ?_⟩⟩
    · simp [upd, show j ≠ nx + 3 by omega, show j ≠ nx + 1 + 2 + 2 by omega]
    · simp [upd, txts_flat]
end
section
set_option maxRecDepth 20000
attribute [local go_sem] pv_len pv_take Nat.add_assoc tm_len tm_take pv_one tm_one id_ne id_ne' id_ne2 List.append_assoc tm_take_app tm_drop_app tm_d6 tm_d7 tm_d8 tm_d9 tm_d10 tm_d11 tm_d12 tm_d13 tm_d14 tm_d15 ent_len ent_take ent_one tpvB_len tpvB_take tpvB_one
theorem imm_txts : ∀ xs : List ByteArray, immL (xs.map txt).flatten = true
  | [] => rfl
  | x :: r => by simp [immL, txt, PV.imm, imm_txts r]
theorem sClone_pF (xs : List ByteArray) (hl : xs.length ≤ 2 ^ 40) : PPure Try.prog F.slices_Clone_string_string [.sl 1 (xs.map txt)] (.fsl 1 (xs.map txt)) := by
  refine PMut.pure (by simp only [PV.imm, immLL_flatten, imm_txts]) (fun nx => sClone_m xs hl noneOwn nx) fun nx H' nx' r0 h => ?_
  obtain ⟨_, _, ⟨rfl, rfl⟩ | ⟨id, _, _, rfl, h⟩⟩ := h
  · exact ⟨0, Weak.nilF 1⟩
  · exact ⟨1, .of_eq (frzF_row (g := txt) (fun _ => rfl) (fun x => by simp [txt, frzF_sc]) h)⟩
set_option maxHeartbeats 4000000 in
theorem app0_p (f : Tm) (hf : f.nodes ≤ 2 ^ 40) : PPure Try.prog F.term_App [.agg f.pv, .sc (.slice none 0 0)] (.agg (f.pvB true)) := by
  refine pure_by is_term_App (by simp) (by simp [PV.imm, tpvB_imm]) fun hb nx => ?_
  clear hb
  repeat' (first | ((with_reducible first | refine wA (by omega) ?_ | refine wB (by omega) ?_ | refine wC (by omega) ?_ | refine wD (by omega) ?_ | refine wE ?_ ?_ | refine wF ?_ ?_ | refine wG ?_ ?_ | refine wH ?_ ?_ | refine wI ?_ ?_ | refine wJ ?_ ?_ | refine wK ?_ ?_ | refine wL ?_ ?_) <;> intro _) | (((with_reducible refine call_id ?_); (first | (refine call_pure (clone_pF2 f hf) ?_)))) | simp (maxSteps := 1000000) (disch := omega) only [go_sem, Nat.reduceAdd, Nat.reduceMul, Nat.reduceSub, Nat.reduceLeDiff, Nat.reduceEqDiff, Nat.reduceBEq, ↓reduceIte, reduceCtorEq, Int.reduceEq, Int.reduceLE, Int.reduceLT, Int.reduceAdd, Int.reduceSub, Int.reduceNeg, Int.reduceToNat, Int.reduceNe, Nat.reducePow, Nat.reduceShiftRight, Nat.reduceMod, mc_term_App, *])
  refine c_loopW 2096192 (by kernel_rfl) (fun j F H m => j = 0 ∧ F 10 = .sc (.int .i64 0) ∧ nx + 5 ≤ m ∧ H (nx + 1) = some ⟨[.sc (.int .i64 0), .sc (.int .i64 0), .sc (.string ⟨#[]⟩), .sc (.slice none 0 0), .sc (.slice none 0 0)], true⟩ ∧ H (nx + 3) = some ⟨f.pvB true, true⟩) 0 ⟨rfl, cE1, cE1, cE1, by simp [upd]⟩ ?_
  rintro _ F H m ⟨rfl, e10, hm, hH1, hH3⟩
  repeat' (first | ((with_reducible first | refine wA (by omega) ?_ | refine wB (by omega) ?_ | refine wC (by omega) ?_ | refine wD (by omega) ?_ | refine wE ?_ ?_ | refine wF ?_ ?_ | refine wG ?_ ?_ | refine wH ?_ ?_ | refine wI ?_ ?_ | refine wJ ?_ ?_ | refine wK ?_ ?_ | refine wL ?_ ?_) <;> intro _) | simp (maxSteps := 1000000) (disch := omega) only [go_sem, Nat.reduceAdd, Nat.reduceMul, Nat.reduceSub, Nat.reduceLeDiff, Nat.reduceEqDiff, Nat.reduceBEq, ↓reduceIte, reduceCtorEq, Int.reduceEq, Int.reduceLE, Int.reduceLT, Int.reduceAdd, Int.reduceSub, Int.reduceNeg, Int.reduceToNat, Int.reduceNe, Nat.reducePow, Nat.reduceShiftRight, Nat.reduceMod, *])
  refine fin_retF (r0 := .agg (f.pvB true)) 1 cE2 ?_
  exact .of_eq (by rw [frzF_agg1, frzF_tpvB])
def Ent.pvF (e : Ent) : List PV := .sc (.int .i64 e.kind) :: .sc (.int .i64 e.params) :: .sc (.string e.name) :: (e.typ.pvB true ++ (e.val.pvB true ++ [.sc (.int .i64 e.height), .sc (.string e.family), .sc (.int .i64 e.fixed), .sc (.int .i64 e.index), .sc (.int .i64 e.fields), PV.fsl 1 (e.ctors.map txt)]))
theorem tb_t10 (f : Bool) (t : Tm) (r : List PV) : (t.pvB f ++ r).take 10 = t.pvB f ++ r.take 5 := by rw [List.take_append, tpvB_len, List.take_of_length_le (by rw [tpvB_len]; omega)]
theorem tb_t15 (f : Bool) (t : Tm) (r : List PV) : (t.pvB f ++ r).take 15 = t.pvB f ++ r.take 10 := by rw [List.take_append, tpvB_len, List.take_of_length_le (by rw [tpvB_len]; omega)]
theorem tb_t16 (f : Bool) (t : Tm) (r : List PV) : (t.pvB f ++ r).take 16 = t.pvB f ++ r.take 11 := by rw [List.take_append, tpvB_len, List.take_of_length_le (by rw [tpvB_len]; omega)]
theorem tb_t11 (f : Bool) (t : Tm) (r : List PV) : (t.pvB f ++ r).take 11 = t.pvB f ++ r.take 6 := by rw [List.take_append, tpvB_len, List.take_of_length_le (by rw [tpvB_len]; omega)]
theorem tb_d16 (f : Bool) (t : Tm) (r : List PV) : (t.pvB f ++ r).drop 16 = r.drop 11 := by rw [show 16 = 5 + 11 by rfl, ← List.drop_drop, tb_drop]
theorem tm_t10 (t : Tm) (r : List PV) : (t.pv ++ r).take 10 = t.pv ++ r.take 5 := by rw [List.take_append, tm_len, List.take_of_length_le (by rw [tm_len]; omega)]
theorem tm_t15 (t : Tm) (r : List PV) : (t.pv ++ r).take 15 = t.pv ++ r.take 10 := by rw [List.take_append, tm_len, List.take_of_length_le (by rw [tm_len]; omega)]
theorem entF_imm (e : Ent) : immL e.pvF = true := by
  have h : ∀ (t : Tm) (r : List PV), immL (t.pvB true ++ r) = immL r := fun t r => by
    have h := tpvB_imm true t
    cases t
    simp only [Tm.pvB, List.cons_append, List.nil_append, immL, Bool.and_true, Bool.and_eq_true, Bool.true_and] at h ⊢
    simp [h]
  simp [Ent.pvF, immL, h, PV.imm, immLL_flatten, imm_txts]
set_option maxHeartbeats 8000000 in
theorem eClone_p (e : Ent) (h1 : e.typ.nodes ≤ 2 ^ 40) (h2 : e.val.nodes ≤ 2 ^ 40) (h3 : e.ctors.length ≤ 2 ^ 40) : PPure Try.prog F.decl_Clone [.agg e.pv] (.agg e.pvF) := by
  refine pure_by is_decl_Clone (by simp) (by simp only [PV.imm]; exact entF_imm e) fun hb nx => ?_
  clear hb
  have c1 := app0_p e.typ h1
  have c2 := app0_p e.val h2
  have c3 := sClone_pF e.ctors h3
  obtain ⟨kind, params, name, typ, val, height, family, fixed, index, fields, ctors⟩ := e
  clear h1 h2 h3
  repeat' (first | ((with_reducible first | refine wA (by omega) ?_ | refine wB (by omega) ?_ | refine wC (by omega) ?_ | refine wD (by omega) ?_ | refine wE ?_ ?_ | refine wF ?_ ?_ | refine wG ?_ ?_ | refine wH ?_ ?_ | refine wI ?_ ?_ | refine wJ ?_ ?_ | refine wK ?_ ?_ | refine wL ?_ ?_) <;> intro _) | (((with_reducible refine call_id ?_); (first | (refine call_pure (c1) ?_) | (refine call_pure (c2) ?_) | (refine call_pure (c3) ?_)))) | simp (maxSteps := 1000000) (disch := omega) only [go_sem, Nat.reduceAdd, Nat.reduceMul, Nat.reduceSub, Nat.reduceLeDiff, Nat.reduceEqDiff, Nat.reduceBEq, ↓reduceIte, reduceCtorEq, Int.reduceEq, Int.reduceLE, Int.reduceLT, Int.reduceAdd, Int.reduceSub, Int.reduceNeg, Int.reduceToNat, Int.reduceNe, Nat.reducePow, Nat.reduceShiftRight, Nat.reduceMod, mc_decl_Clone, Ent.pv, Ent.pvF, tb_take, tb_drop, tb_d6, tb_d7, tb_d8, tb_d9, tb_d10, tb_d11, tb_d12, tb_d13, tb_d14, tb_d15, tb_t10, tb_t15, tb_t16, tb_t11, tb_d16, tm_t10, tm_t15, List.all_append, PV.one, *])
  refine fin_retF (r0 := .agg (Ent.pvF ⟨kind, params, name, typ, val, height, family, fixed, index, fields, ctors⟩)) 1 (by (simp (disch := omega) only [go_sem, Nat.reduceMul, Nat.reduceSub, Nat.reduceShiftRight, Nat.reduceMod, Nat.reduceEqDiff, Nat.reduceAdd, ↓reduceIte, Nat.reduceLeDiff, Ent.pvF, tpvB_len, tb_t16, tb_t11, *]); all_goals rfl) ?_
  refine .of_eq ?_
  rw [frzF_agg1]
  simp [Ent.pvF, frzF_tpvB, frzF_sc]
  cases ctors <;> rfl
end
section
set_option maxRecDepth 20000
attribute [local go_sem] pv_len pv_take Nat.add_assoc tm_len tm_take pv_one tm_one id_ne id_ne' id_ne2 List.append_assoc tm_take_app tm_drop_app tm_d6 tm_d7 tm_d8 tm_d9 tm_d10 tm_d11 tm_d12 tm_d13 tm_d14 tm_d15 ent_len ent_take ent_one tpvB_len tpvB_take tpvB_one
theorem num11_p (n : Int) : PPure Try.prog F.law11_num [.sc (.int .i64 n)] (.agg (Lv.mk 1 n []).pv) := by
  refine pure_by is_law11_num (by simp) (by simp [PV.imm, Lv.pv, immL, immLL]) fun hb nx => ?_
  clear hb
  repeat' (first | ((with_reducible first | refine wA (by omega) ?_ | refine wB (by omega) ?_ | refine wC (by omega) ?_ | refine wD (by omega) ?_ | refine wE ?_ ?_ | refine wF ?_ ?_ | refine wG ?_ ?_ | refine wH ?_ ?_ | refine wI ?_ ?_ | refine wJ ?_ ?_ | refine wK ?_ ?_ | refine wL ?_ ?_) <;> intro _) | simp (maxSteps := 1000000) (disch := omega) only [go_sem, Nat.reduceAdd, Nat.reduceMul, Nat.reduceSub, Nat.reduceLeDiff, Nat.reduceEqDiff, Nat.reduceBEq, ↓reduceIte, reduceCtorEq, Int.reduceEq, Int.reduceLE, Int.reduceLT, Int.reduceAdd, Int.reduceSub, Int.reduceNeg, Int.reduceToNat, Int.reduceNe, Nat.reducePow, Nat.reduceShiftRight, Nat.reduceMod, mc_law11_num, *])
  refine fin_ret (r0 := .agg [.sc (.int .i64 1), .sc (.int .i64 n), .sc (.slice none 0 0)]) 2 cE2 ?_
  rw [frz_agg1]
  simp only [List.map_cons, List.map_nil, frz_sc1, Lv.pv]
  exact Weak.agg ⟨.refl _, .refl _, .nil 3, trivial⟩
theorem sort11_p (l : Lv) : PPure Try.prog F.law11_sort [.agg l.pv] (.agg (Tm.mk 2 0 emp [l] []).pv) := by
  refine pure_by is_law11_sort (by simp) (by simp [PV.imm, tm_imm]) fun hb nx => ?_
  clear hb
  repeat' (first | ((with_reducible first | refine wA (by omega) ?_ | refine wB (by omega) ?_ | refine wC (by omega) ?_ | refine wD (by omega) ?_ | refine wE ?_ ?_ | refine wF ?_ ?_ | refine wG ?_ ?_ | refine wH ?_ ?_ | refine wI ?_ ?_ | refine wJ ?_ ?_ | refine wK ?_ ?_ | refine wL ?_ ?_) <;> intro _) | simp (maxSteps := 1000000) (disch := omega) only [go_sem, Nat.reduceAdd, Nat.reduceMul, Nat.reduceSub, Nat.reduceLeDiff, Nat.reduceEqDiff, Nat.reduceBEq, ↓reduceIte, reduceCtorEq, Int.reduceEq, Int.reduceLE, Int.reduceLT, Int.reduceAdd, Int.reduceSub, Int.reduceNeg, Int.reduceToNat, Int.reduceNe, Nat.reducePow, Nat.reduceShiftRight, Nat.reduceMod, mc_law11_sort, *])
  refine fin_ret (r0 := .agg [.sc (.int .i64 2), .sc (.int .i64 0), .sc (.string ⟨#[]⟩), .sl 3 [l.pv], .sc (.slice none 0 0)]) 2 cE2 ?_
  rw [frz_agg1]
  simp only [List.map_cons, List.map_nil, frz_sc1, frz_sl, Tm.pv]
  exact Weak.agg ⟨.refl _, .refl _, .refl _, .refl _, .nil 5, trivial⟩
def Ent.sameR (a b : Ent) : Bool := decide (a.kind = b.kind) && (decide (a.params = b.params) && (decide (a.name = b.name) && (decide (a.height = b.height) && (decide (a.family = b.family) && (decide (a.fixed = b.fixed) && (decide (a.index = b.index) && (decide (a.fields = b.fields) && (a.typ.same b.typ && (a.val.same b.val && decide (a.ctors = b.ctors))))))))))
theorem ent_sameR (a b : Ent) : a.sameR b = a.same b := by
  simp only [Ent.sameR, Ent.same, Ent.numE, Ent.txtE, bytes_eqD]
  rw [Bool.eq_iff_iff]
  simp only [Bool.and_eq_true]
  constructor
  · rintro ⟨h1, h2, h3, h4, h5, h6, h7, h8, h9, h10, h11⟩
    exact ⟨⟨h1, h2, h4, h6, h7, h8⟩, ⟨h3, h5⟩, h11, h9, h10⟩
  · rintro ⟨⟨h1, h2, h4, h6, h7, h8⟩, ⟨h3, h5⟩, h11, h9, h10⟩
    exact ⟨h1, h2, h3, h4, h5, h6, h7, h8, h9, h10, h11⟩
set_option maxHeartbeats 8000000 in
theorem SameEntry_p (a b : Ent) : PPure Try.prog F.ref00_SameEntry [.agg a.pv, .agg b.pv] (.sc (.bool (a.same b))) := by
  rw [← ent_sameR]
  refine pure_by is_ref00_SameEntry (by simp) rfl fun hb nx => ?_
  clear hb
  have c5 := SameTexts_p a.ctors b.ctors
  have c6 := SameTerm_p a.typ.size a.typ b.typ (Nat.le_refl _)
  have c7 := SameTerm_p a.val.size a.val b.val (Nat.le_refl _)
  simp only [Ent.sameR]
  obtain ⟨kind, params, name, typ, val, height, family, fixed, index, fields, ctors⟩ := a
  obtain ⟨kind2, params2, name2, typ2, val2, height2, family2, fixed2, index2, fields2, ctors2⟩ := b
  simp only [Ent.pv] at c5 c6 c7 ⊢
  generalize typ.same typ2 = b6 at c6
  generalize val.same val2 = b7 at c7
  generalize decide (ctors = ctors2) = b5 at c5
  repeat' (first | ((with_reducible first | refine wA (by omega) ?_ | refine wB (by omega) ?_ | refine wC (by omega) ?_ | refine wD (by omega) ?_ | refine wE ?_ ?_ | refine wF ?_ ?_ | refine wG ?_ ?_ | refine wH ?_ ?_ | refine wI ?_ ?_ | refine wJ ?_ ?_ | refine wK ?_ ?_ | refine wL ?_ ?_) <;> intro _) | (((with_reducible refine call_id ?_); (first | (refine call_pure (c5) ?_) | (refine call_pure (c6) ?_) | (refine call_pure (c7) ?_)))) | simp (maxSteps := 1000000) (disch := omega) only [go_sem, Nat.reduceAdd, Nat.reduceMul, Nat.reduceSub, Nat.reduceLeDiff, Nat.reduceEqDiff, Nat.reduceBEq, ↓reduceIte, reduceCtorEq, Int.reduceEq, Int.reduceLE, Int.reduceLT, Int.reduceAdd, Int.reduceSub, Int.reduceNeg, Int.reduceToNat, Int.reduceNe, Nat.reducePow, Nat.reduceShiftRight, Nat.reduceMod, mc_ref00_SameEntry, strBin, bytes_eqD, *])
  all_goals (exact fin_tmp (.inr rfl) cE3)
end
section
set_option maxRecDepth 20000
attribute [local go_sem] pv_len pv_take Nat.add_assoc tm_len tm_take pv_one tm_one id_ne id_ne' id_ne2 List.append_assoc tm_take_app tm_drop_app tm_d6 tm_d7 tm_d8 tm_d9 tm_d10 tm_d11 tm_d12 tm_d13 tm_d14 tm_d15 ent_len ent_take ent_one
structure Ctr where
  name : ByteArray
  typ : Tm
def Ctr.pv (c : Ctr) : List PV := .sc (.string c.name) :: c.typ.pv
structure Dcl where
  kind : Int
  params : Int
  name : ByteArray
  typ : Tm
  val : Tm
  fixed : Int
  ctors : List Ctr
def Dcl.pv (d : Dcl) : List PV := .sc (.int .i64 d.kind) :: .sc (.int .i64 d.params) :: .sc (.string d.name) :: (d.typ.pv ++ (d.val.pv ++ [.sc (.int .i64 d.fixed), .sl 6 (d.ctors.map Ctr.pv)]))
theorem dcl_len (d : Dcl) : d.pv.length = 15 := by simp [Dcl.pv, tm_len]
theorem dcl_take (d : Dcl) : d.pv.take 15 = d.pv := List.take_of_length_le (by rw [dcl_len]; omega)
theorem noValue_p (d : Dcl) : PPure Try.prog F.pack_noValue [.ptr d.pv] (.sc (.bool (noughtB d.val))) := by
  obtain ⟨kind, params, name, typ, val, fixed, ctors⟩ := d
  refine pure_by is_pack_noValue (by simp) rfl fun hb nx => ?_
  clear hb
  have c1 : PPure Try.prog F.term_Same [.agg val.pv, .agg [.sc (.int .i64 0), .sc (.int .i64 0), .sc (.string ⟨#[]⟩), .sc (.slice none 0 0), .sc (.slice none 0 0)]] (.sc (.bool (noughtB val))) := by
    have h := tSame_p val noTm false true rfl
    refine h.weak ⟨.of_eq (by rw [dtv_false]), ?_, trivial⟩ (.refl _)
    simp only [noTm, Tm.pvB, List.map_nil]
    exact Weak.agg ⟨.refl _, .refl _, .refl _, .nilB true 3, .nilB true 5, trivial⟩
  repeat' (first | ((with_reducible first | refine wA (by omega) ?_ | refine wB (by omega) ?_ | refine wC (by omega) ?_ | refine wD (by omega) ?_ | refine wE ?_ ?_ | refine wF ?_ ?_ | refine wG ?_ ?_ | refine wH ?_ ?_ | refine wI ?_ ?_ | refine wJ ?_ ?_ | refine wK ?_ ?_ | refine wL ?_ ?_) <;> intro _) | (((with_reducible refine call_id ?_); (first | (refine call_pure (c1) ?_)))) | simp (maxSteps := 1000000) (disch := omega) only [go_sem, Nat.reduceAdd, Nat.reduceMul, Nat.reduceSub, Nat.reduceLeDiff, Nat.reduceEqDiff, Nat.reduceBEq, ↓reduceIte, reduceCtorEq, Int.reduceEq, Int.reduceLE, Int.reduceLT, Int.reduceAdd, Int.reduceSub, Int.reduceNeg, Int.reduceToNat, Int.reduceNe, Nat.reducePow, Nat.reduceShiftRight, Nat.reduceMod, mc_pack_noValue, Dcl.pv, *])
  all_goals (exact fin_tmp (.inr rfl) cE3)
def noFamB (d : Dcl) : Bool := decide (d.fixed = 0) && decide (d.ctors.length = 0)
theorem noFamily_p (d : Dcl) : PPure Try.prog F.pack_noFamily [.ptr d.pv] (.sc (.bool (noFamB d))) := by
  obtain ⟨kind, params, name, typ, val, fixed, ctors⟩ := d
  refine pure_by is_pack_noFamily (by simp) rfl fun hb nx => ?_
  clear hb
  simp only [noFamB]
  repeat' (first | ((with_reducible first | refine wA (by omega) ?_ | refine wB (by omega) ?_ | refine wC (by omega) ?_ | refine wD (by omega) ?_ | refine wE ?_ ?_ | refine wF ?_ ?_ | refine wG ?_ ?_ | refine wH ?_ ?_ | refine wI ?_ ?_ | refine wJ ?_ ?_ | refine wK ?_ ?_ | refine wL ?_ ?_) <;> intro _) | simp (maxSteps := 1000000) (disch := omega) only [go_sem, Nat.reduceAdd, Nat.reduceMul, Nat.reduceSub, Nat.reduceLeDiff, Nat.reduceEqDiff, Nat.reduceBEq, ↓reduceIte, reduceCtorEq, Int.reduceEq, Int.reduceLE, Int.reduceLT, Int.reduceAdd, Int.reduceSub, Int.reduceNeg, Int.reduceToNat, Int.reduceNe, Nat.reducePow, Nat.reduceShiftRight, Nat.reduceMod, mc_pack_noFamily, Dcl.pv, *])
  all_goals (refine fin_tmp (.inr rfl) ?_; simp [upd, *] <;> (intros; omega))
def ctrB (params : Int) (c : Ctr) : Bool := nameB c.name && c.typ.right params 0
def famB (d : Dcl) : Bool := spanB d.fixed 16 && (decide (d.ctors.length ≤ 8) && d.ctors.all (ctrB d.params))
set_option maxHeartbeats 4000000 in
theorem pfamily_p (d : Dcl) : PPure Try.prog F.pack_family [.ptr d.pv] (.sc (.bool (famB d))) := by
  obtain ⟨kind, params, name, typ, val, fixed, ctors⟩ := d
  refine pure_by is_pack_family (by simp) rfl fun hb nx => ?_
  clear hb
  simp only [famB, spanB]
  by_cases h : 0 ≤ fixed ∧ fixed ≤ 16 ∧ ctors.length ≤ 8
  · obtain ⟨h0, h1, h2⟩ := h
    rw [decide_eq_true h0, decide_eq_true h1, decide_eq_true h2]
    simp only [Bool.true_and]
    repeat' (first | ((with_reducible first | refine wA (by omega) ?_ | refine wB (by omega) ?_ | refine wC (by omega) ?_ | refine wD (by omega) ?_ | refine wE ?_ ?_ | refine wF ?_ ?_ | refine wG ?_ ?_ | refine wH ?_ ?_ | refine wI ?_ ?_ | refine wJ ?_ ?_ | refine wK ?_ ?_ | refine wL ?_ ?_) <;> intro _) | simp (maxSteps := 1000000) (disch := omega) only [go_sem, Nat.reduceAdd, Nat.reduceMul, Nat.reduceSub, Nat.reduceLeDiff, Nat.reduceEqDiff, Nat.reduceBEq, ↓reduceIte, reduceCtorEq, Int.reduceEq, Int.reduceLE, Int.reduceLT, Int.reduceAdd, Int.reduceSub, Int.reduceNeg, Int.reduceToNat, Int.reduceNe, Nat.reducePow, Nat.reduceShiftRight, Nat.reduceMod, mc_pack_family, Dcl.pv, *])
    refine c_loopW 576460751766552588 (by kernel_rfl) (fun j f H m => ∃ i : Nat, j = ctors.length - i ∧ i ≤ ctors.length ∧ f 29 = .sc (.int .i64 i) ∧ Kept ((ctors.take i).all (ctrB params) = true)) _ ⟨0, rfl, Nat.zero_le _, cE1, Kept.mk rfl⟩ ?_
    rintro _ f H m ⟨i, rfl, hi, e29, hs⟩
    by_cases hlt : i < ctors.length
    · have eg : ctors[i]? = some ctors[i] := List.getElem?_eq_getElem hlt
      have c1 := name_Right_p ctors[i].name
      have c2 := tRightG_p ctors[i].typ params 0
      cases hc : ctrB params ctors[i] with
      | false =>
        have e : ctors.all (ctrB params) = false := by
          rw [Bool.eq_false_iff]
          intro h
          have := List.all_eq_true.1 h _ (List.getElem_mem hlt)
          rw [hc] at this
          cases this
        rw [e]
        clear e hs
        cases hn : nameB ctors[i].name with
        | false =>
          rw [hn] at c1
          clear hn hc c2
          repeat' (first | ((with_reducible first | refine wA (by omega) ?_ | refine wB (by omega) ?_ | refine wC (by omega) ?_ | refine wD (by omega) ?_ | refine wE ?_ ?_ | refine wF ?_ ?_ | refine wG ?_ ?_ | refine wH ?_ ?_ | refine wI ?_ ?_ | refine wJ ?_ ?_ | refine wK ?_ ?_ | refine wL ?_ ?_) <;> intro _) | (((with_reducible refine call_id ?_); (first | (refine call_pure (c1) ?_)))) | simp (maxSteps := 1000000) (disch := omega) only [go_sem, Nat.reduceAdd, Nat.reduceMul, Nat.reduceSub, Nat.reduceLeDiff, Nat.reduceEqDiff, Nat.reduceBEq, ↓reduceIte, reduceCtorEq, Int.reduceEq, Int.reduceLE, Int.reduceLT, Int.reduceAdd, Int.reduceSub, Int.reduceNeg, Int.reduceToNat, Int.reduceNe, Nat.reducePow, Nat.reduceShiftRight, Nat.reduceMod, Ctr.pv, *])
          all_goals (exact fin_tmp (.inr rfl) cE3)
        | true =>
          have hr : ctors[i].typ.right params 0 = false := by simpa [ctrB, hn] using hc
          rw [hn] at c1
          rw [hr] at c2
          clear hn hc hr
          repeat' (first | ((with_reducible first | refine wA (by omega) ?_ | refine wB (by omega) ?_ | refine wC (by omega) ?_ | refine wD (by omega) ?_ | refine wE ?_ ?_ | refine wF ?_ ?_ | refine wG ?_ ?_ | refine wH ?_ ?_ | refine wI ?_ ?_ | refine wJ ?_ ?_ | refine wK ?_ ?_ | refine wL ?_ ?_) <;> intro _) | (((with_reducible refine call_id ?_); (first | (refine call_pure (c1) ?_) | (refine call_pure (c2) ?_)))) | simp (maxSteps := 1000000) (disch := omega) only [go_sem, Nat.reduceAdd, Nat.reduceMul, Nat.reduceSub, Nat.reduceLeDiff, Nat.reduceEqDiff, Nat.reduceBEq, ↓reduceIte, reduceCtorEq, Int.reduceEq, Int.reduceLE, Int.reduceLT, Int.reduceAdd, Int.reduceSub, Int.reduceNeg, Int.reduceToNat, Int.reduceNe, Nat.reducePow, Nat.reduceShiftRight, Nat.reduceMod, Ctr.pv, *])
          all_goals (exact fin_tmp (.inr rfl) cE3)
      | true =>
        have h3 : nameB ctors[i].name = true ∧ ctors[i].typ.right params 0 = true := by simpa [ctrB] using hc
        rw [h3.1] at c1
        rw [h3.2] at c2
        have hs2 : Kept ((ctors.take (i + 1)).all (ctrB params) = true) := Kept.mk (by rw [List.take_succ_eq_append_getElem hlt, List.all_append, hs.out, List.all_cons, hc]; rfl)
        clear h3 hc hs
        repeat' (first | ((with_reducible first | refine wA (by omega) ?_ | refine wB (by omega) ?_ | refine wC (by omega) ?_ | refine wD (by omega) ?_ | refine wE ?_ ?_ | refine wF ?_ ?_ | refine wG ?_ ?_ | refine wH ?_ ?_ | refine wI ?_ ?_ | refine wJ ?_ ?_ | refine wK ?_ ?_ | refine wL ?_ ?_) <;> intro _) | (((with_reducible refine call_id ?_); (first | (refine call_pure (c1) ?_) | (refine call_pure (c2) ?_)))) | simp (maxSteps := 1000000) (disch := omega) only [go_sem, Nat.reduceAdd, Nat.reduceMul, Nat.reduceSub, Nat.reduceLeDiff, Nat.reduceEqDiff, Nat.reduceBEq, ↓reduceIte, reduceCtorEq, Int.reduceEq, Int.reduceLE, Int.reduceLT, Int.reduceAdd, Int.reduceSub, Int.reduceNeg, Int.reduceToNat, Int.reduceNe, Nat.reducePow, Nat.reduceShiftRight, Nat.reduceMod, Ctr.pv, *])
        exact Nx.mk (ctors.length - (i + 1)) cE1 ⟨i + 1, rfl, cE1, by simp [upd], hs2⟩
    · obtain rfl : i = ctors.length := by omega
      have h3 := hs.out
      rw [List.take_length] at h3
      rw [h3]
      clear hs h3
      repeat' (first | ((with_reducible first | refine wA (by omega) ?_ | refine wB (by omega) ?_ | refine wC (by omega) ?_ | refine wD (by omega) ?_ | refine wE ?_ ?_ | refine wF ?_ ?_ | refine wG ?_ ?_ | refine wH ?_ ?_ | refine wI ?_ ?_ | refine wJ ?_ ?_ | refine wK ?_ ?_ | refine wL ?_ ?_) <;> intro _) | simp (maxSteps := 1000000) (disch := omega) only [go_sem, Nat.reduceAdd, Nat.reduceMul, Nat.reduceSub, Nat.reduceLeDiff, Nat.reduceEqDiff, Nat.reduceBEq, ↓reduceIte, reduceCtorEq, Int.reduceEq, Int.reduceLE, Int.reduceLT, Int.reduceAdd, Int.reduceSub, Int.reduceNeg, Int.reduceToNat, Int.reduceNe, Nat.reducePow, Nat.reduceShiftRight, Nat.reduceMod, *])
      all_goals (exact fin_tmp (.inr rfl) cE3)
  · have e : (decide (0 ≤ fixed) && decide (fixed ≤ 16) && (decide (ctors.length ≤ 8) && ctors.all (ctrB params))) = false := by
      rw [Bool.eq_false_iff]
      intro h2
      simp only [Bool.and_eq_true, decide_eq_true_eq] at h2
      exact h ⟨h2.1.1, h2.1.2, h2.2.1⟩
    rw [e]
    clear e
    have h9 : fixed < 0 ∨ (0 ≤ fixed ∧ 16 < fixed) ∨ (0 ≤ fixed ∧ fixed ≤ 16 ∧ 8 < ctors.length) := by omega
    clear h
    rcases h9 with h | ⟨h, h2⟩ | ⟨h, h2, h3⟩
    all_goals
      repeat' (first | ((with_reducible first | refine wA (by omega) ?_ | refine wB (by omega) ?_ | refine wC (by omega) ?_ | refine wD (by omega) ?_ | refine wE ?_ ?_ | refine wF ?_ ?_ | refine wG ?_ ?_ | refine wH ?_ ?_ | refine wI ?_ ?_ | refine wJ ?_ ?_ | refine wK ?_ ?_ | refine wL ?_ ?_) <;> intro _) | simp (maxSteps := 1000000) (disch := omega) only [go_sem, Nat.reduceAdd, Nat.reduceMul, Nat.reduceSub, Nat.reduceLeDiff, Nat.reduceEqDiff, Nat.reduceBEq, ↓reduceIte, reduceCtorEq, Int.reduceEq, Int.reduceLE, Int.reduceLT, Int.reduceAdd, Int.reduceSub, Int.reduceNeg, Int.reduceToNat, Int.reduceNe, Nat.reducePow, Nat.reduceShiftRight, Nat.reduceMod, mc_pack_family, Dcl.pv, *])
      all_goals (exact fin_tmp (.inr rfl) cE3)
def Dcl.formed (d : Dcl) : Bool := decide (0 ≤ d.params) && (decide (d.params ≤ 4) && (nameB d.name && (d.typ.right d.params 0 && (if d.kind = 1 then noughtB d.val && noFamB d else if d.kind = 2 ∨ d.kind = 3 ∨ d.kind = 4 then d.val.right d.params 0 && noFamB d else if d.kind = 5 then noughtB d.val && famB d else false))))
set_option maxHeartbeats 16000000 in
theorem formed11_p (d : Dcl) : PPure Try.prog F.pack_Formed [.agg d.pv] (.sc (.bool d.formed)) := by
  refine pure_by is_pack_Formed (by simp) rfl fun hb nx => ?_
  clear hb
  have c1 := name_Right_p d.name
  have c2 := tRightG_p d.typ d.params 0
  have c3 := noValue_p d
  have c4 := noFamily_p d
  have c5 := pfamily_p d
  have c6 := tRightG_p d.val d.params 0
  simp only [Dcl.formed]
  generalize noughtB d.val = b3 at c3
  generalize noFamB d = b4 at c4
  generalize famB d = b5 at c5
  obtain ⟨kind, params, name, typ, val, fixed, ctors⟩ := d
  simp only [Dcl.pv] at c1 c2 c3 c4 c5 c6 ⊢
  generalize nameB name = b1 at c1
  generalize typ.right params 0 = b2 at c2
  generalize val.right params 0 = b6 at c6
  by_cases hp : 0 ≤ params ∧ params ≤ 4
  rotate_left
  · have h9 : params < 0 ∨ (0 ≤ params ∧ 4 < params) := by omega
    clear hp c2 c3 c4 c5 c6
    rcases h9 with h | ⟨h, h2⟩
    all_goals
      cases b1
      all_goals
        repeat' (first | ((with_reducible first | refine wA (by omega) ?_ | refine wB (by omega) ?_ | refine wC (by omega) ?_ | refine wD (by omega) ?_ | refine wE ?_ ?_ | refine wF ?_ ?_ | refine wG ?_ ?_ | refine wH ?_ ?_ | refine wI ?_ ?_ | refine wJ ?_ ?_ | refine wK ?_ ?_ | refine wL ?_ ?_) <;> intro _) | (((with_reducible refine call_id ?_); (first | (refine call_pure (c1) ?_)))) | simp (maxSteps := 1000000) (disch := omega) only [go_sem, Nat.reduceAdd, Nat.reduceMul, Nat.reduceSub, Nat.reduceLeDiff, Nat.reduceEqDiff, Nat.reduceBEq, ↓reduceIte, reduceCtorEq, Int.reduceEq, Int.reduceLE, Int.reduceLT, Int.reduceAdd, Int.reduceSub, Int.reduceNeg, Int.reduceToNat, Int.reduceNe, Nat.reducePow, Nat.reduceShiftRight, Nat.reduceMod, mc_pack_Formed, *])
        all_goals (refine fin_tmp (.inr rfl) ?_; simp [upd, *] <;> (intros; omega))
  obtain ⟨h0, h4⟩ := hp
  cases b1 with
  | false =>
    repeat' (first | ((with_reducible first | refine wA (by omega) ?_ | refine wB (by omega) ?_ | refine wC (by omega) ?_ | refine wD (by omega) ?_ | refine wE ?_ ?_ | refine wF ?_ ?_ | refine wG ?_ ?_ | refine wH ?_ ?_ | refine wI ?_ ?_ | refine wJ ?_ ?_ | refine wK ?_ ?_ | refine wL ?_ ?_) <;> intro _) | (((with_reducible refine call_id ?_); (first | (refine call_pure (c1) ?_)))) | simp (maxSteps := 1000000) (disch := omega) only [go_sem, Nat.reduceAdd, Nat.reduceMul, Nat.reduceSub, Nat.reduceLeDiff, Nat.reduceEqDiff, Nat.reduceBEq, ↓reduceIte, reduceCtorEq, Int.reduceEq, Int.reduceLE, Int.reduceLT, Int.reduceAdd, Int.reduceSub, Int.reduceNeg, Int.reduceToNat, Int.reduceNe, Nat.reducePow, Nat.reduceShiftRight, Nat.reduceMod, mc_pack_Formed, *])
    all_goals (refine fin_tmp (.inr rfl) ?_; simp [upd, *] <;> (intros; omega))
  | true =>
  cases b2 with
  | false =>
    repeat' (first | ((with_reducible first | refine wA (by omega) ?_ | refine wB (by omega) ?_ | refine wC (by omega) ?_ | refine wD (by omega) ?_ | refine wE ?_ ?_ | refine wF ?_ ?_ | refine wG ?_ ?_ | refine wH ?_ ?_ | refine wI ?_ ?_ | refine wJ ?_ ?_ | refine wK ?_ ?_ | refine wL ?_ ?_) <;> intro _) | (((with_reducible refine call_id ?_); (first | (refine call_pure (c1) ?_) | (refine call_pure (c2) ?_)))) | simp (maxSteps := 1000000) (disch := omega) only [go_sem, Nat.reduceAdd, Nat.reduceMul, Nat.reduceSub, Nat.reduceLeDiff, Nat.reduceEqDiff, Nat.reduceBEq, ↓reduceIte, reduceCtorEq, Int.reduceEq, Int.reduceLE, Int.reduceLT, Int.reduceAdd, Int.reduceSub, Int.reduceNeg, Int.reduceToNat, Int.reduceNe, Nat.reducePow, Nat.reduceShiftRight, Nat.reduceMod, mc_pack_Formed, *])
    all_goals (refine fin_tmp (.inr rfl) ?_; simp [upd, *] <;> (intros; omega))
  | true =>
  have hk : kind = 1 ∨ (kind = 2 ∨ kind = 3 ∨ kind = 4) ∨ kind = 5 ∨ (kind ≠ 1 ∧ kind ≠ 2 ∧ kind ≠ 3 ∧ kind ≠ 4 ∧ kind ≠ 5) := by omega
  rcases hk with rfl | (rfl | rfl | rfl) | rfl | ⟨k1, k2, k3, k4, k5⟩
  · cases b3
    all_goals
      repeat' (first | ((with_reducible first | refine wA (by omega) ?_ | refine wB (by omega) ?_ | refine wC (by omega) ?_ | refine wD (by omega) ?_ | refine wE ?_ ?_ | refine wF ?_ ?_ | refine wG ?_ ?_ | refine wH ?_ ?_ | refine wI ?_ ?_ | refine wJ ?_ ?_ | refine wK ?_ ?_ | refine wL ?_ ?_) <;> intro _) | (((with_reducible refine call_id ?_); (first | (refine call_pure (c1) ?_) | (refine call_pure (c2) ?_) | (refine call_pure (c3) ?_) | (refine call_pure (c4) ?_)))) | simp (maxSteps := 1000000) (disch := omega) only [go_sem, Nat.reduceAdd, Nat.reduceMul, Nat.reduceSub, Nat.reduceLeDiff, Nat.reduceEqDiff, Nat.reduceBEq, ↓reduceIte, reduceCtorEq, Int.reduceEq, Int.reduceLE, Int.reduceLT, Int.reduceAdd, Int.reduceSub, Int.reduceNeg, Int.reduceToNat, Int.reduceNe, Nat.reducePow, Nat.reduceShiftRight, Nat.reduceMod, mc_pack_Formed, *])
      all_goals (refine fin_tmp (.inr rfl) ?_; simp [upd, *] <;> (intros; omega))
  · cases b6
    all_goals
      repeat' (first | ((with_reducible first | refine wA (by omega) ?_ | refine wB (by omega) ?_ | refine wC (by omega) ?_ | refine wD (by omega) ?_ | refine wE ?_ ?_ | refine wF ?_ ?_ | refine wG ?_ ?_ | refine wH ?_ ?_ | refine wI ?_ ?_ | refine wJ ?_ ?_ | refine wK ?_ ?_ | refine wL ?_ ?_) <;> intro _) | (((with_reducible refine call_id ?_); (first | (refine call_pure (c1) ?_) | (refine call_pure (c2) ?_) | (refine call_pure (c6) ?_) | (refine call_pure (c4) ?_)))) | simp (maxSteps := 1000000) (disch := omega) only [go_sem, Nat.reduceAdd, Nat.reduceMul, Nat.reduceSub, Nat.reduceLeDiff, Nat.reduceEqDiff, Nat.reduceBEq, ↓reduceIte, reduceCtorEq, Int.reduceEq, Int.reduceLE, Int.reduceLT, Int.reduceAdd, Int.reduceSub, Int.reduceNeg, Int.reduceToNat, Int.reduceNe, Nat.reducePow, Nat.reduceShiftRight, Nat.reduceMod, mc_pack_Formed, *])
      all_goals (refine fin_tmp (.inr rfl) ?_; simp [upd, *] <;> (intros; omega))
  · cases b6
    all_goals
      repeat' (first | ((with_reducible first | refine wA (by omega) ?_ | refine wB (by omega) ?_ | refine wC (by omega) ?_ | refine wD (by omega) ?_ | refine wE ?_ ?_ | refine wF ?_ ?_ | refine wG ?_ ?_ | refine wH ?_ ?_ | refine wI ?_ ?_ | refine wJ ?_ ?_ | refine wK ?_ ?_ | refine wL ?_ ?_) <;> intro _) | (((with_reducible refine call_id ?_); (first | (refine call_pure (c1) ?_) | (refine call_pure (c2) ?_) | (refine call_pure (c6) ?_) | (refine call_pure (c4) ?_)))) | simp (maxSteps := 1000000) (disch := omega) only [go_sem, Nat.reduceAdd, Nat.reduceMul, Nat.reduceSub, Nat.reduceLeDiff, Nat.reduceEqDiff, Nat.reduceBEq, ↓reduceIte, reduceCtorEq, Int.reduceEq, Int.reduceLE, Int.reduceLT, Int.reduceAdd, Int.reduceSub, Int.reduceNeg, Int.reduceToNat, Int.reduceNe, Nat.reducePow, Nat.reduceShiftRight, Nat.reduceMod, mc_pack_Formed, *])
      all_goals (refine fin_tmp (.inr rfl) ?_; simp [upd, *] <;> (intros; omega))
  · cases b6
    all_goals
      repeat' (first | ((with_reducible first | refine wA (by omega) ?_ | refine wB (by omega) ?_ | refine wC (by omega) ?_ | refine wD (by omega) ?_ | refine wE ?_ ?_ | refine wF ?_ ?_ | refine wG ?_ ?_ | refine wH ?_ ?_ | refine wI ?_ ?_ | refine wJ ?_ ?_ | refine wK ?_ ?_ | refine wL ?_ ?_) <;> intro _) | (((with_reducible refine call_id ?_); (first | (refine call_pure (c1) ?_) | (refine call_pure (c2) ?_) | (refine call_pure (c6) ?_) | (refine call_pure (c4) ?_)))) | simp (maxSteps := 1000000) (disch := omega) only [go_sem, Nat.reduceAdd, Nat.reduceMul, Nat.reduceSub, Nat.reduceLeDiff, Nat.reduceEqDiff, Nat.reduceBEq, ↓reduceIte, reduceCtorEq, Int.reduceEq, Int.reduceLE, Int.reduceLT, Int.reduceAdd, Int.reduceSub, Int.reduceNeg, Int.reduceToNat, Int.reduceNe, Nat.reducePow, Nat.reduceShiftRight, Nat.reduceMod, mc_pack_Formed, *])
      all_goals (refine fin_tmp (.inr rfl) ?_; simp [upd, *] <;> (intros; omega))
  · cases b3
    all_goals
      repeat' (first | ((with_reducible first | refine wA (by omega) ?_ | refine wB (by omega) ?_ | refine wC (by omega) ?_ | refine wD (by omega) ?_ | refine wE ?_ ?_ | refine wF ?_ ?_ | refine wG ?_ ?_ | refine wH ?_ ?_ | refine wI ?_ ?_ | refine wJ ?_ ?_ | refine wK ?_ ?_ | refine wL ?_ ?_) <;> intro _) | (((with_reducible refine call_id ?_); (first | (refine call_pure (c1) ?_) | (refine call_pure (c2) ?_) | (refine call_pure (c3) ?_) | (refine call_pure (c5) ?_)))) | simp (maxSteps := 1000000) (disch := omega) only [go_sem, Nat.reduceAdd, Nat.reduceMul, Nat.reduceSub, Nat.reduceLeDiff, Nat.reduceEqDiff, Nat.reduceBEq, ↓reduceIte, reduceCtorEq, Int.reduceEq, Int.reduceLE, Int.reduceLT, Int.reduceAdd, Int.reduceSub, Int.reduceNeg, Int.reduceToNat, Int.reduceNe, Nat.reducePow, Nat.reduceShiftRight, Nat.reduceMod, mc_pack_Formed, *])
      all_goals (refine fin_tmp (.inr rfl) ?_; simp [upd, *] <;> (intros; omega))
  · repeat' (first | ((with_reducible first | refine wA (by omega) ?_ | refine wB (by omega) ?_ | refine wC (by omega) ?_ | refine wD (by omega) ?_ | refine wE ?_ ?_ | refine wF ?_ ?_ | refine wG ?_ ?_ | refine wH ?_ ?_ | refine wI ?_ ?_ | refine wJ ?_ ?_ | refine wK ?_ ?_ | refine wL ?_ ?_) <;> intro _) | (((with_reducible refine call_id ?_); (first | (refine call_pure (c1) ?_) | (refine call_pure (c2) ?_)))) | simp (maxSteps := 1000000) (disch := omega) only [go_sem, Nat.reduceAdd, Nat.reduceMul, Nat.reduceSub, Nat.reduceLeDiff, Nat.reduceEqDiff, Nat.reduceBEq, ↓reduceIte, reduceCtorEq, Int.reduceEq, Int.reduceLE, Int.reduceLT, Int.reduceAdd, Int.reduceSub, Int.reduceNeg, Int.reduceToNat, Int.reduceNe, Nat.reducePow, Nat.reduceShiftRight, Nat.reduceMod, mc_pack_Formed, *])
    all_goals (refine fin_tmp (.inr rfl) ?_; simp [upd, *] <;> (intros; omega))
end
section
set_option maxRecDepth 20000
attribute [local go_sem] pv_len pv_take Nat.add_assoc tm_len tm_take pv_one tm_one id_ne id_ne' id_ne2 List.append_assoc tm_take_app tm_drop_app tm_d6 tm_d7 tm_d8 tm_d9 tm_d10 tm_d11 tm_d12 tm_d13 tm_d14 tm_d15 ent_len ent_take ent_one tpvB_len tpvB_take tpvB_one
theorem dcl_one (d : Dcl) : d.pv.all PV.one = true := by simp [Dcl.pv, tm_one, PV.one]
def Dcl.ent (d : Dcl) (h : Int) : Ent := ⟨d.kind, d.params, d.name, d.typ, d.val, if d.kind = 2 then h else 0, emp, 0, 0, 0, []⟩
def noEnt : Ent := ⟨0, 0, emp, noTm, noTm, 0, emp, 0, 0, 0, []⟩
def Dcl.plainE (d : Dcl) (h : Int) : Ent := if d.kind = 5 ∨ d.formed = false then noEnt else if (d.ent h).right then d.ent h else noEnt
def Dcl.plainN (d : Dcl) (h : Int) : Int := if d.kind = 5 ∨ d.formed = false then 10 else if (d.ent h).right then 0 else 12
theorem tm_t12 (t : Tm) (r : List PV) : (t.pv ++ r).take 12 = t.pv ++ r.take 7 := by rw [List.take_append, tm_len, List.take_of_length_le (by rw [tm_len]; omega)]
theorem tm_t7 (t : Tm) (r : List PV) : (t.pv ++ r).take 7 = t.pv ++ r.take 2 := by rw [List.take_append, tm_len, List.take_of_length_le (by rw [tm_len]; omega)]
theorem tm_t16 (t : Tm) (r : List PV) : (t.pv ++ r).take 16 = t.pv ++ r.take 11 := by rw [List.take_append, tm_len, List.take_of_length_le (by rw [tm_len]; omega)]
theorem tm_t11 (t : Tm) (r : List PV) : (t.pv ++ r).take 11 = t.pv ++ r.take 6 := by rw [List.take_append, tm_len, List.take_of_length_le (by rw [tm_len]; omega)]
theorem noEnt_weak : WeakL [PV.sc (.int .i64 0), .sc (.int .i64 0), .sc (.string ⟨#[]⟩), .sc (.int .i64 0), .sc (.int .i64 0), .sc (.string ⟨#[]⟩), .sc (.slice none 0 0), .sc (.slice none 0 0), .sc (.int .i64 0), .sc (.int .i64 0), .sc (.string ⟨#[]⟩), .sc (.slice none 0 0), .sc (.slice none 0 0), .sc (.int .i64 0), .sc (.string ⟨#[]⟩), .sc (.int .i64 0), .sc (.int .i64 0), .sc (.int .i64 0), .sc (.slice none 0 0)] noEnt.pv := by
  simp only [noEnt, Ent.pv, noTm, Tm.pv, List.map_nil, List.cons_append, List.nil_append]
  exact ⟨.refl _, .refl _, .refl _, .refl _, .refl _, .refl _, .nil 3, .nil 5, .refl _, .refl _, .refl _, .nil 3, .nil 5, .refl _, .refl _, .refl _, .refl _, .refl _, .nil 1, trivial⟩
theorem ent_imm (e : Ent) : immL e.pv = true := by
  have h : ∀ (t : Tm) (r : List PV), immL (t.pv ++ r) = immL r := fun t r => by
    have h := tm_imm t
    cases t
    simp only [Tm.pv, List.cons_append, List.nil_append, immL, Bool.and_true, Bool.and_eq_true, Bool.true_and] at h ⊢
    simp [h]
  simp [Ent.pv, immL, h, PV.imm, immLL_flatten, imm_txts]
def Ent.pvN (e : Ent) : List PV := PV.sc (.int .i64 e.kind) :: .sc (.int .i64 e.params) :: .sc (.string e.name) :: (e.typ.pv ++ (e.val.pv ++ [.sc (.int .i64 e.height), .sc (.string ⟨#[]⟩), .sc (.int .i64 0), .sc (.int .i64 0), .sc (.int .i64 0), .sc (.slice none 0 0)]))
theorem newEnt_weak (e : Ent) (h : e = ⟨e.kind, e.params, e.name, e.typ, e.val, e.height, emp, 0, 0, 0, []⟩) : WeakL e.pvN e.pv := by
  have : e.pv = PV.sc (.int .i64 e.kind) :: .sc (.int .i64 e.params) :: .sc (.string e.name) :: (e.typ.pv ++ (e.val.pv ++ [.sc (.int .i64 e.height), .sc (.string ⟨#[]⟩), .sc (.int .i64 0), .sc (.int .i64 0), .sc (.int .i64 0), .sl 1 []])) := by rw [h]; rfl
  rw [this]
  exact ⟨.refl _, .refl _, .refl _, WeakL.append (.refl _) (WeakL.append (.refl _) ⟨.refl _, .refl _, .refl _, .refl _, .refl _, .nil 1, trivial⟩)⟩
theorem newRight_p (e : Ent) (h : e = ⟨e.kind, e.params, e.name, e.typ, e.val, e.height, emp, 0, 0, 0, []⟩) : PPure Try.prog F.decl_Right [.agg e.pvN] (.sc (.bool e.right)) :=
  (eRight_p e).weak (args' := [.agg e.pvN]) ⟨Weak.agg (newEnt_weak e h), trivial⟩ (.refl _)
set_option maxHeartbeats 16000000 in
theorem Plain_p (d : Dcl) (h : Int) (h1 : d.typ.nodes ≤ 2 ^ 40) (h2 : d.val.nodes ≤ 2 ^ 40) : PPure Try.prog F.decl_Plain [.agg d.pv, .sc (.int .i64 h)] (.tup [.agg (d.plainE h).pv, .sc (.int .i64 (d.plainN h))]) := by
  refine pure_by is_decl_Plain (by simp) (by simp [PV.imm, immL, ent_imm]) fun hb nx => ?_
  clear hb
  have c1 := formed11_p d
  have c2 := (app0_p d.typ h1).weak (.refl _) (tm_agg true _)
  have c3 := (app0_p d.val h2).weak (.refl _) (tm_agg true _)
  have c4 := newRight_p (d.ent h) rfl
  have hw := newEnt_weak (d.ent h) rfl
  simp only [Dcl.plainE, Dcl.plainN]
  clear h1 h2
  generalize d.formed = b1 at c1
  generalize hr : (d.ent h).right = b2 at c4
  obtain ⟨kind, params, name, typ, val, fixed, ctors⟩ := d
  simp only [Dcl.ent, Ent.pvN] at c2 c3 c4 hw ⊢
  have hz := noEnt_weak
  by_cases h5 : kind = 5
  · subst h5
    rw [if_pos (.inl rfl), if_pos (.inl rfl)]
    repeat' (first | ((with_reducible first | refine wA (by omega) ?_ | refine wB (by omega) ?_ | refine wC (by omega) ?_ | refine wD (by omega) ?_ | refine wE ?_ ?_ | refine wF ?_ ?_ | refine wG ?_ ?_ | refine wH ?_ ?_ | refine wI ?_ ?_ | refine wJ ?_ ?_ | refine wK ?_ ?_ | refine wL ?_ ?_) <;> intro _) | simp (maxSteps := 1000000) (disch := omega) only [go_sem, Nat.reduceAdd, Nat.reduceMul, Nat.reduceSub, Nat.reduceLeDiff, Nat.reduceEqDiff, Nat.reduceBEq, ↓reduceIte, reduceCtorEq, Int.reduceEq, Int.reduceLE, Int.reduceLT, Int.reduceAdd, Int.reduceSub, Int.reduceNeg, Int.reduceToNat, Int.reduceNe, Nat.reducePow, Nat.reduceShiftRight, Nat.reduceMod, mc_decl_Plain, Dcl.pv, tm_t12, tm_t7, *])
    refine fin_ret (r0 := .tup [.agg [.sc (.int .i64 0), .sc (.int .i64 0), .sc (.string ⟨#[]⟩), .sc (.int .i64 0), .sc (.int .i64 0), .sc (.string ⟨#[]⟩), .sc (.slice none 0 0), .sc (.slice none 0 0), .sc (.int .i64 0), .sc (.int .i64 0), .sc (.string ⟨#[]⟩), .sc (.slice none 0 0), .sc (.slice none 0 0), .sc (.int .i64 0), .sc (.string ⟨#[]⟩), .sc (.int .i64 0), .sc (.int .i64 0), .sc (.int .i64 0), .sc (.slice none 0 0)], .sc (.int .i64 10)]) 0 cE2 ?_
    exact Weak.tup ⟨Weak.agg hz, .refl _, trivial⟩
  cases b1 with
  | false =>
    rw [if_pos (.inr rfl), if_pos (.inr rfl)]
    simp only [Dcl.pv] at c1
    repeat' (first | ((with_reducible first | refine wA (by omega) ?_ | refine wB (by omega) ?_ | refine wC (by omega) ?_ | refine wD (by omega) ?_ | refine wE ?_ ?_ | refine wF ?_ ?_ | refine wG ?_ ?_ | refine wH ?_ ?_ | refine wI ?_ ?_ | refine wJ ?_ ?_ | refine wK ?_ ?_ | refine wL ?_ ?_) <;> intro _) | (((with_reducible refine call_id ?_); (first | (refine call_pure (c1) ?_)))) | simp (maxSteps := 1000000) (disch := omega) only [go_sem, Nat.reduceAdd, Nat.reduceMul, Nat.reduceSub, Nat.reduceLeDiff, Nat.reduceEqDiff, Nat.reduceBEq, ↓reduceIte, reduceCtorEq, Int.reduceEq, Int.reduceLE, Int.reduceLT, Int.reduceAdd, Int.reduceSub, Int.reduceNeg, Int.reduceToNat, Int.reduceNe, Nat.reducePow, Nat.reduceShiftRight, Nat.reduceMod, mc_decl_Plain, Dcl.pv, tm_t12, tm_t7, *])
    refine fin_ret (r0 := .tup [.agg [.sc (.int .i64 0), .sc (.int .i64 0), .sc (.string ⟨#[]⟩), .sc (.int .i64 0), .sc (.int .i64 0), .sc (.string ⟨#[]⟩), .sc (.slice none 0 0), .sc (.slice none 0 0), .sc (.int .i64 0), .sc (.int .i64 0), .sc (.string ⟨#[]⟩), .sc (.slice none 0 0), .sc (.slice none 0 0), .sc (.int .i64 0), .sc (.string ⟨#[]⟩), .sc (.int .i64 0), .sc (.int .i64 0), .sc (.int .i64 0), .sc (.slice none 0 0)], .sc (.int .i64 10)]) 0 cE2 ?_
    exact Weak.tup ⟨Weak.agg hz, .refl _, trivial⟩
  | true =>
    simp only [h5, Bool.true_eq_false, or_self, if_false]
    simp only [Dcl.pv] at c1
    by_cases h2 : kind = 2
    · subst h2
      simp only [if_true] at c4 hw ⊢
      cases b2 with
      | true =>
        simp only [if_true]
        repeat' (first | ((with_reducible first | refine wA (by omega) ?_ | refine wB (by omega) ?_ | refine wC (by omega) ?_ | refine wD (by omega) ?_ | refine wE ?_ ?_ | refine wF ?_ ?_ | refine wG ?_ ?_ | refine wH ?_ ?_ | refine wI ?_ ?_ | refine wJ ?_ ?_ | refine wK ?_ ?_ | refine wL ?_ ?_) <;> intro _) | (((with_reducible refine call_id ?_); (first | (refine call_pure (c1) ?_) | (refine call_pure (c2) ?_) | (refine call_pure (c3) ?_) | (refine call_pure (c4) ?_)))) | simp (maxSteps := 1000000) (disch := omega) only [go_sem, Nat.reduceAdd, Nat.reduceMul, Nat.reduceSub, Nat.reduceLeDiff, Nat.reduceEqDiff, Nat.reduceBEq, ↓reduceIte, reduceCtorEq, Int.reduceEq, Int.reduceLE, Int.reduceLT, Int.reduceAdd, Int.reduceSub, Int.reduceNeg, Int.reduceToNat, Int.reduceNe, Nat.reducePow, Nat.reduceShiftRight, Nat.reduceMod, mc_decl_Plain, Dcl.pv, tm_t12, tm_t7, tm_t10, tm_t15, tm_t16, tm_t11, List.all_append, PV.one, *])
        refine fin_ret (r0 := .tup [.agg (PV.sc (.int .i64 2) :: .sc (.int .i64 params) :: .sc (.string name) :: (typ.pv ++ (val.pv ++ [.sc (.int .i64 h), .sc (.string ⟨#[]⟩), .sc (.int .i64 0), .sc (.int .i64 0), .sc (.int .i64 0), .sc (.slice none 0 0)]))), .sc (.int .i64 0)]) 0 (by (simp (disch := omega) only [go_sem, Nat.reduceMul, Nat.reduceSub, Nat.reduceShiftRight, Nat.reduceMod, Nat.reduceEqDiff, Nat.reduceAdd, ↓reduceIte, Nat.reduceLeDiff, tm_t16, tm_t11, *]); all_goals rfl) ?_
        exact Weak.tup ⟨Weak.agg hw, .refl _, trivial⟩
      | false =>
        simp only [Bool.false_eq_true, if_false]
        repeat' (first | ((with_reducible first | refine wA (by omega) ?_ | refine wB (by omega) ?_ | refine wC (by omega) ?_ | refine wD (by omega) ?_ | refine wE ?_ ?_ | refine wF ?_ ?_ | refine wG ?_ ?_ | refine wH ?_ ?_ | refine wI ?_ ?_ | refine wJ ?_ ?_ | refine wK ?_ ?_ | refine wL ?_ ?_) <;> intro _) | (((with_reducible refine call_id ?_); (first | (refine call_pure (c1) ?_) | (refine call_pure (c2) ?_) | (refine call_pure (c3) ?_) | (refine call_pure (c4) ?_)))) | simp (maxSteps := 1000000) (disch := omega) only [go_sem, Nat.reduceAdd, Nat.reduceMul, Nat.reduceSub, Nat.reduceLeDiff, Nat.reduceEqDiff, Nat.reduceBEq, ↓reduceIte, reduceCtorEq, Int.reduceEq, Int.reduceLE, Int.reduceLT, Int.reduceAdd, Int.reduceSub, Int.reduceNeg, Int.reduceToNat, Int.reduceNe, Nat.reducePow, Nat.reduceShiftRight, Nat.reduceMod, mc_decl_Plain, Dcl.pv, tm_t12, tm_t7, tm_t10, tm_t15, tm_t16, tm_t11, List.all_append, PV.one, *])
        refine fin_ret (r0 := .tup [.agg [.sc (.int .i64 0), .sc (.int .i64 0), .sc (.string ⟨#[]⟩), .sc (.int .i64 0), .sc (.int .i64 0), .sc (.string ⟨#[]⟩), .sc (.slice none 0 0), .sc (.slice none 0 0), .sc (.int .i64 0), .sc (.int .i64 0), .sc (.string ⟨#[]⟩), .sc (.slice none 0 0), .sc (.slice none 0 0), .sc (.int .i64 0), .sc (.string ⟨#[]⟩), .sc (.int .i64 0), .sc (.int .i64 0), .sc (.int .i64 0), .sc (.slice none 0 0)], .sc (.int .i64 12)]) 0 cE2 ?_
        exact Weak.tup ⟨Weak.agg hz, .refl _, trivial⟩
    · simp only [h2, if_false] at c4 hw ⊢
      cases b2 with
      | true =>
        simp only [if_true]
        repeat' (first | ((with_reducible first | refine wA (by omega) ?_ | refine wB (by omega) ?_ | refine wC (by omega) ?_ | refine wD (by omega) ?_ | refine wE ?_ ?_ | refine wF ?_ ?_ | refine wG ?_ ?_ | refine wH ?_ ?_ | refine wI ?_ ?_ | refine wJ ?_ ?_ | refine wK ?_ ?_ | refine wL ?_ ?_) <;> intro _) | (((with_reducible refine call_id ?_); (first | (refine call_pure (c1) ?_) | (refine call_pure (c2) ?_) | (refine call_pure (c3) ?_) | (refine call_pure (c4) ?_)))) | simp (maxSteps := 1000000) (disch := omega) only [go_sem, Nat.reduceAdd, Nat.reduceMul, Nat.reduceSub, Nat.reduceLeDiff, Nat.reduceEqDiff, Nat.reduceBEq, ↓reduceIte, reduceCtorEq, Int.reduceEq, Int.reduceLE, Int.reduceLT, Int.reduceAdd, Int.reduceSub, Int.reduceNeg, Int.reduceToNat, Int.reduceNe, Nat.reducePow, Nat.reduceShiftRight, Nat.reduceMod, mc_decl_Plain, Dcl.pv, tm_t12, tm_t7, tm_t10, tm_t15, tm_t16, tm_t11, List.all_append, PV.one, *])
        refine fin_ret (r0 := .tup [.agg (PV.sc (.int .i64 kind) :: .sc (.int .i64 params) :: .sc (.string name) :: (typ.pv ++ (val.pv ++ [.sc (.int .i64 0), .sc (.string ⟨#[]⟩), .sc (.int .i64 0), .sc (.int .i64 0), .sc (.int .i64 0), .sc (.slice none 0 0)]))), .sc (.int .i64 0)]) 0 (by (simp (disch := omega) only [go_sem, Nat.reduceMul, Nat.reduceSub, Nat.reduceShiftRight, Nat.reduceMod, Nat.reduceEqDiff, Nat.reduceAdd, ↓reduceIte, Nat.reduceLeDiff, tm_t16, tm_t11, *]); all_goals rfl) ?_
        exact Weak.tup ⟨Weak.agg hw, .refl _, trivial⟩
      | false =>
        simp only [Bool.false_eq_true, if_false]
        repeat' (first | ((with_reducible first | refine wA (by omega) ?_ | refine wB (by omega) ?_ | refine wC (by omega) ?_ | refine wD (by omega) ?_ | refine wE ?_ ?_ | refine wF ?_ ?_ | refine wG ?_ ?_ | refine wH ?_ ?_ | refine wI ?_ ?_ | refine wJ ?_ ?_ | refine wK ?_ ?_ | refine wL ?_ ?_) <;> intro _) | (((with_reducible refine call_id ?_); (first | (refine call_pure (c1) ?_) | (refine call_pure (c2) ?_) | (refine call_pure (c3) ?_) | (refine call_pure (c4) ?_)))) | simp (maxSteps := 1000000) (disch := omega) only [go_sem, Nat.reduceAdd, Nat.reduceMul, Nat.reduceSub, Nat.reduceLeDiff, Nat.reduceEqDiff, Nat.reduceBEq, ↓reduceIte, reduceCtorEq, Int.reduceEq, Int.reduceLE, Int.reduceLT, Int.reduceAdd, Int.reduceSub, Int.reduceNeg, Int.reduceToNat, Int.reduceNe, Nat.reducePow, Nat.reduceShiftRight, Nat.reduceMod, mc_decl_Plain, Dcl.pv, tm_t12, tm_t7, tm_t10, tm_t15, tm_t16, tm_t11, List.all_append, PV.one, *])
        refine fin_ret (r0 := .tup [.agg [.sc (.int .i64 0), .sc (.int .i64 0), .sc (.string ⟨#[]⟩), .sc (.int .i64 0), .sc (.int .i64 0), .sc (.string ⟨#[]⟩), .sc (.slice none 0 0), .sc (.slice none 0 0), .sc (.int .i64 0), .sc (.int .i64 0), .sc (.string ⟨#[]⟩), .sc (.slice none 0 0), .sc (.slice none 0 0), .sc (.int .i64 0), .sc (.string ⟨#[]⟩), .sc (.int .i64 0), .sc (.int .i64 0), .sc (.int .i64 0), .sc (.slice none 0 0)], .sc (.int .i64 12)]) 0 cE2 ?_
        exact Weak.tup ⟨Weak.agg hz, .refl _, trivial⟩
end
section
set_option maxRecDepth 20000
attribute [local go_sem] pv_len pv_take Nat.add_assoc tm_len tm_take pv_one tm_one id_ne id_ne' id_ne2 List.append_assoc tm_take_app tm_drop_app tm_d6 tm_d7 tm_d8 tm_d9 tm_d10 tm_d11 tm_d12 tm_d13 tm_d14 tm_d15 ent_len ent_take ent_one tpvB_len tpvB_take tpvB_one
def Dcl.formedR (d : Dcl) : Bool := decide (1 ≤ d.kind) && (decide (d.kind ≤ 5) && (nameB d.name && (d.typ.right d.params 0 && (if d.kind = 5 then noughtB d.val && famB d else if d.fixed ≠ 0 ∨ d.ctors.length ≠ 0 then false else if d.kind = 1 then noughtB d.val else d.val.right d.params 0))))
theorem formedR_eq (d : Dcl) : d.formedR = d.formed := by
  have hp : d.typ.right d.params 0 = true → 0 ≤ d.params ∧ d.params ≤ 4 := fun h => by
    simp only [Tm.right, Bool.and_eq_true, decide_eq_true_eq] at h
    exact ⟨h.2.1, h.2.2.1⟩
  simp only [Dcl.formedR, Dcl.formed, noFamB]
  cases hr : d.typ.right d.params 0 with
  | false => simp
  | true =>
    obtain ⟨h1, h2⟩ := hp hr
    rw [decide_eq_true h1, decide_eq_true h2]
    cases nameB d.name with
    | false => simp
    | true =>
      simp only [Bool.true_and]
      by_cases e5 : d.kind = 5
      · rw [e5]; simp
      · by_cases e1 : d.kind = 1
        · rw [e1]
          by_cases a : d.fixed = 0 <;> by_cases b : d.ctors.length = 0 <;> simp [a, b]
        · by_cases e2 : d.kind = 2 ∨ d.kind = 3 ∨ d.kind = 4
          · have x1 : 1 ≤ d.kind := by omega
            have x2 : d.kind ≤ 5 := by omega
            rw [decide_eq_true x1, decide_eq_true x2]
            simp only [e5, e1, e2, if_true, if_false]
            by_cases a : d.fixed = 0 <;> by_cases b : d.ctors.length = 0 <;> simp [a, b]
          · have x : decide (1 ≤ d.kind) = false ∨ decide (d.kind ≤ 5) = false := by
              by_cases y : 1 ≤ d.kind
              · exact .inr (decide_eq_false (by omega))
              · exact .inl (decide_eq_false y)
            simp only [e5, e1, e2, if_false]
            rcases x with x | x <;> simp [x]
set_option maxHeartbeats 16000000 in
theorem Formed08_p (d : Dcl) : PPure Try.prog F.ref08_Formed [.agg d.pv] (.sc (.bool d.formed)) := by
  rw [← formedR_eq]
  refine pure_by is_ref08_Formed (by simp) rfl fun hb nx => ?_
  clear hb
  have c1 := ref01_Right_p d.name
  have c2 := ref04_Right_p d.typ d.params 0
  have c4 := ref04_Right_p d.val d.params 0
  have c3 : PPure Try.prog F.ref00_SameTerm [.agg d.val.pv, .agg [.sc (.int .i64 0), .sc (.int .i64 0), .sc (.string ⟨#[]⟩), .sc (.slice none 0 0), .sc (.slice none 0 0)]] (.sc (.bool (noughtB d.val))) :=
    (SameTerm_p d.val.size d.val noTm (Nat.le_refl _)).weak (args' := [.agg d.val.pv, .agg [.sc (.int .i64 0), .sc (.int .i64 0), .sc (.string ⟨#[]⟩), .sc (.slice none 0 0), .sc (.slice none 0 0)]]) (by
      simp only [noTm, Tm.pv, List.map_nil]
      exact ⟨.refl _, Weak.agg ⟨.refl _, .refl _, .refl _, .nil 3, .nil 5, trivial⟩, trivial⟩) (.refl _)
  simp only [Dcl.formedR, famB, spanB]
  obtain ⟨kind, params, name, typ, val, fixed, ctors⟩ := d
  simp only [Dcl.pv] at c1 c2 c3 c4 ⊢
  by_cases k1 : 1 ≤ kind
  rotate_left
  · rw [decide_eq_false k1]
    repeat' (first | ((with_reducible first | refine wA (by omega) ?_ | refine wB (by omega) ?_ | refine wC (by omega) ?_ | refine wD (by omega) ?_ | refine wE ?_ ?_ | refine wF ?_ ?_ | refine wG ?_ ?_ | refine wH ?_ ?_ | refine wI ?_ ?_ | refine wJ ?_ ?_ | refine wK ?_ ?_ | refine wL ?_ ?_) <;> intro _) | simp (maxSteps := 1000000) (disch := omega) only [go_sem, Nat.reduceAdd, Nat.reduceMul, Nat.reduceSub, Nat.reduceLeDiff, Nat.reduceEqDiff, Nat.reduceBEq, ↓reduceIte, reduceCtorEq, Int.reduceEq, Int.reduceLE, Int.reduceLT, Int.reduceAdd, Int.reduceSub, Int.reduceNeg, Int.reduceToNat, Int.reduceNe, Nat.reducePow, Nat.reduceShiftRight, Nat.reduceMod, mc_ref08_Formed, *])
    all_goals (exact fin_tmp (.inr rfl) cE3)
  by_cases k2 : kind ≤ 5
  rotate_left
  · rw [decide_eq_true k1, decide_eq_false k2]
    repeat' (first | ((with_reducible first | refine wA (by omega) ?_ | refine wB (by omega) ?_ | refine wC (by omega) ?_ | refine wD (by omega) ?_ | refine wE ?_ ?_ | refine wF ?_ ?_ | refine wG ?_ ?_ | refine wH ?_ ?_ | refine wI ?_ ?_ | refine wJ ?_ ?_ | refine wK ?_ ?_ | refine wL ?_ ?_) <;> intro _) | simp (maxSteps := 1000000) (disch := omega) only [go_sem, Nat.reduceAdd, Nat.reduceMul, Nat.reduceSub, Nat.reduceLeDiff, Nat.reduceEqDiff, Nat.reduceBEq, ↓reduceIte, reduceCtorEq, Int.reduceEq, Int.reduceLE, Int.reduceLT, Int.reduceAdd, Int.reduceSub, Int.reduceNeg, Int.reduceToNat, Int.reduceNe, Nat.reducePow, Nat.reduceShiftRight, Nat.reduceMod, mc_ref08_Formed, *])
    all_goals (exact fin_tmp (.inr rfl) cE3)
  rw [decide_eq_true k1, decide_eq_true k2]
  simp only [Bool.true_and]
  generalize nameB name = b1 at c1
  generalize typ.right params 0 = b2 at c2
  generalize noughtB val = b3 at c3
  generalize val.right params 0 = b4 at c4
  cases b1 with
  | false =>
    repeat' (first | ((with_reducible first | refine wA (by omega) ?_ | refine wB (by omega) ?_ | refine wC (by omega) ?_ | refine wD (by omega) ?_ | refine wE ?_ ?_ | refine wF ?_ ?_ | refine wG ?_ ?_ | refine wH ?_ ?_ | refine wI ?_ ?_ | refine wJ ?_ ?_ | refine wK ?_ ?_ | refine wL ?_ ?_) <;> intro _) | (((with_reducible refine call_id ?_); (first | (refine call_pure (c1) ?_)))) | simp (maxSteps := 1000000) (disch := omega) only [go_sem, Nat.reduceAdd, Nat.reduceMul, Nat.reduceSub, Nat.reduceLeDiff, Nat.reduceEqDiff, Nat.reduceBEq, ↓reduceIte, reduceCtorEq, Int.reduceEq, Int.reduceLE, Int.reduceLT, Int.reduceAdd, Int.reduceSub, Int.reduceNeg, Int.reduceToNat, Int.reduceNe, Nat.reducePow, Nat.reduceShiftRight, Nat.reduceMod, mc_ref08_Formed, *])
    all_goals (exact fin_tmp (.inr rfl) cE3)
  | true =>
  cases b2 with
  | false =>
    repeat' (first | ((with_reducible first | refine wA (by omega) ?_ | refine wB (by omega) ?_ | refine wC (by omega) ?_ | refine wD (by omega) ?_ | refine wE ?_ ?_ | refine wF ?_ ?_ | refine wG ?_ ?_ | refine wH ?_ ?_ | refine wI ?_ ?_ | refine wJ ?_ ?_ | refine wK ?_ ?_ | refine wL ?_ ?_) <;> intro _) | (((with_reducible refine call_id ?_); (first | (refine call_pure (c1) ?_) | (refine call_pure (c2) ?_)))) | simp (maxSteps := 1000000) (disch := omega) only [go_sem, Nat.reduceAdd, Nat.reduceMul, Nat.reduceSub, Nat.reduceLeDiff, Nat.reduceEqDiff, Nat.reduceBEq, ↓reduceIte, reduceCtorEq, Int.reduceEq, Int.reduceLE, Int.reduceLT, Int.reduceAdd, Int.reduceSub, Int.reduceNeg, Int.reduceToNat, Int.reduceNe, Nat.reducePow, Nat.reduceShiftRight, Nat.reduceMod, mc_ref08_Formed, *])
    all_goals (exact fin_tmp (.inr rfl) cE3)
  | true =>
  simp only [Bool.true_and]
  by_cases h5 : kind = 5
  · subst h5
    simp only [if_true]
    cases b3 with
    | false =>
      simp only [Bool.false_and]
      repeat' (first | ((with_reducible first | refine wA (by omega) ?_ | refine wB (by omega) ?_ | refine wC (by omega) ?_ | refine wD (by omega) ?_ | refine wE ?_ ?_ | refine wF ?_ ?_ | refine wG ?_ ?_ | refine wH ?_ ?_ | refine wI ?_ ?_ | refine wJ ?_ ?_ | refine wK ?_ ?_ | refine wL ?_ ?_) <;> intro _) | (((with_reducible refine call_id ?_); (first | (refine call_pure (c1) ?_) | (refine call_pure (c2) ?_) | (refine call_pure (c3) ?_)))) | simp (maxSteps := 1000000) (disch := omega) only [go_sem, Nat.reduceAdd, Nat.reduceMul, Nat.reduceSub, Nat.reduceLeDiff, Nat.reduceEqDiff, Nat.reduceBEq, ↓reduceIte, reduceCtorEq, Int.reduceEq, Int.reduceLE, Int.reduceLT, Int.reduceAdd, Int.reduceSub, Int.reduceNeg, Int.reduceToNat, Int.reduceNe, Nat.reducePow, Nat.reduceShiftRight, Nat.reduceMod, mc_ref08_Formed, *])
      all_goals (exact fin_tmp (.inr rfl) cE3)
    | true =>
    simp only [Bool.true_and]
    by_cases h : 0 ≤ fixed ∧ fixed ≤ 16 ∧ ctors.length ≤ 8
    · obtain ⟨h0, h1, h2⟩ := h
      rw [decide_eq_true h0, decide_eq_true h1, decide_eq_true h2]
      simp only [Bool.true_and]
      repeat' (first | ((with_reducible first | refine wA (by omega) ?_ | refine wB (by omega) ?_ | refine wC (by omega) ?_ | refine wD (by omega) ?_ | refine wE ?_ ?_ | refine wF ?_ ?_ | refine wG ?_ ?_ | refine wH ?_ ?_ | refine wI ?_ ?_ | refine wJ ?_ ?_ | refine wK ?_ ?_ | refine wL ?_ ?_) <;> intro _) | (((with_reducible refine call_id ?_); (first | (refine call_pure (c1) ?_) | (refine call_pure (c2) ?_) | (refine call_pure (c3) ?_)))) | simp (maxSteps := 1000000) (disch := omega) only [go_sem, Nat.reduceAdd, Nat.reduceMul, Nat.reduceSub, Nat.reduceLeDiff, Nat.reduceEqDiff, Nat.reduceBEq, ↓reduceIte, reduceCtorEq, Int.reduceEq, Int.reduceLE, Int.reduceLT, Int.reduceAdd, Int.reduceSub, Int.reduceNeg, Int.reduceToNat, Int.reduceNe, Nat.reducePow, Nat.reduceShiftRight, Nat.reduceMod, mc_ref08_Formed, *])
      clear c1 c2 c3 c4
      refine c_loopW 158456323847937054469676597268 (by kernel_rfl) (fun j f H m => ∃ i : Nat, j = ctors.length - i ∧ i ≤ ctors.length ∧ f 4 = .sc (.int .i64 i) ∧ Kept ((ctors.take i).all (ctrB params) = true)) _ ⟨0, rfl, Nat.zero_le _, cE1, Kept.mk rfl⟩ ?_
      rintro _ f H m ⟨i, rfl, hi, e4, hs⟩
      by_cases hlt : i < ctors.length
      · have eg : ctors[i]? = some ctors[i] := List.getElem?_eq_getElem hlt
        have c1 := ref01_Right_p ctors[i].name
        have c2 := ref04_Right_p ctors[i].typ params 0
        cases hc : ctrB params ctors[i] with
        | false =>
          have e : ctors.all (ctrB params) = false := by
            rw [Bool.eq_false_iff]
            intro h
            have := List.all_eq_true.1 h _ (List.getElem_mem hlt)
            rw [hc] at this
            cases this
          rw [e]
          clear e hs
          cases hn : nameB ctors[i].name with
          | false =>
            rw [hn] at c1
            clear hn hc c2
            repeat' (first | ((with_reducible first | refine wA (by omega) ?_ | refine wB (by omega) ?_ | refine wC (by omega) ?_ | refine wD (by omega) ?_ | refine wE ?_ ?_ | refine wF ?_ ?_ | refine wG ?_ ?_ | refine wH ?_ ?_ | refine wI ?_ ?_ | refine wJ ?_ ?_ | refine wK ?_ ?_ | refine wL ?_ ?_) <;> intro _) | (((with_reducible refine call_id ?_); (first | (refine call_pure (c1) ?_)))) | simp (maxSteps := 1000000) (disch := omega) only [go_sem, Nat.reduceAdd, Nat.reduceMul, Nat.reduceSub, Nat.reduceLeDiff, Nat.reduceEqDiff, Nat.reduceBEq, ↓reduceIte, reduceCtorEq, Int.reduceEq, Int.reduceLE, Int.reduceLT, Int.reduceAdd, Int.reduceSub, Int.reduceNeg, Int.reduceToNat, Int.reduceNe, Nat.reducePow, Nat.reduceShiftRight, Nat.reduceMod, Ctr.pv, *])
            all_goals (exact fin_tmp (.inr rfl) cE3)
          | true =>
            have hr : ctors[i].typ.right params 0 = false := by simpa [ctrB, hn] using hc
            rw [hn] at c1
            rw [hr] at c2
            clear hn hc hr
            repeat' (first | ((with_reducible first | refine wA (by omega) ?_ | refine wB (by omega) ?_ | refine wC (by omega) ?_ | refine wD (by omega) ?_ | refine wE ?_ ?_ | refine wF ?_ ?_ | refine wG ?_ ?_ | refine wH ?_ ?_ | refine wI ?_ ?_ | refine wJ ?_ ?_ | refine wK ?_ ?_ | refine wL ?_ ?_) <;> intro _) | (((with_reducible refine call_id ?_); (first | (refine call_pure (c1) ?_) | (refine call_pure (c2) ?_)))) | simp (maxSteps := 1000000) (disch := omega) only [go_sem, Nat.reduceAdd, Nat.reduceMul, Nat.reduceSub, Nat.reduceLeDiff, Nat.reduceEqDiff, Nat.reduceBEq, ↓reduceIte, reduceCtorEq, Int.reduceEq, Int.reduceLE, Int.reduceLT, Int.reduceAdd, Int.reduceSub, Int.reduceNeg, Int.reduceToNat, Int.reduceNe, Nat.reducePow, Nat.reduceShiftRight, Nat.reduceMod, Ctr.pv, *])
            all_goals (exact fin_tmp (.inr rfl) cE3)
        | true =>
          have h3 : nameB ctors[i].name = true ∧ ctors[i].typ.right params 0 = true := by simpa [ctrB] using hc
          rw [h3.1] at c1
          rw [h3.2] at c2
          have hs2 : Kept ((ctors.take (i + 1)).all (ctrB params) = true) := Kept.mk (by rw [List.take_succ_eq_append_getElem hlt, List.all_append, hs.out, List.all_cons, hc]; rfl)
          clear h3 hc hs
          repeat' (first | ((with_reducible first | refine wA (by omega) ?_ | refine wB (by omega) ?_ | refine wC (by omega) ?_ | refine wD (by omega) ?_ | refine wE ?_ ?_ | refine wF ?_ ?_ | refine wG ?_ ?_ | refine wH ?_ ?_ | refine wI ?_ ?_ | refine wJ ?_ ?_ | refine wK ?_ ?_ | refine wL ?_ ?_) <;> intro _) | (((with_reducible refine call_id ?_); (first | (refine call_pure (c1) ?_) | (refine call_pure (c2) ?_)))) | simp (maxSteps := 1000000) (disch := omega) only [go_sem, Nat.reduceAdd, Nat.reduceMul, Nat.reduceSub, Nat.reduceLeDiff, Nat.reduceEqDiff, Nat.reduceBEq, ↓reduceIte, reduceCtorEq, Int.reduceEq, Int.reduceLE, Int.reduceLT, Int.reduceAdd, Int.reduceSub, Int.reduceNeg, Int.reduceToNat, Int.reduceNe, Nat.reducePow, Nat.reduceShiftRight, Nat.reduceMod, Ctr.pv, *])
          exact Nx.mk (ctors.length - (i + 1)) cE1 ⟨i + 1, rfl, cE1, by simp [upd], hs2⟩
      · obtain rfl : i = ctors.length := by omega
        have h3 := hs.out
        rw [List.take_length] at h3
        rw [h3]
        clear hs h3
        repeat' (first | ((with_reducible first | refine wA (by omega) ?_ | refine wB (by omega) ?_ | refine wC (by omega) ?_ | refine wD (by omega) ?_ | refine wE ?_ ?_ | refine wF ?_ ?_ | refine wG ?_ ?_ | refine wH ?_ ?_ | refine wI ?_ ?_ | refine wJ ?_ ?_ | refine wK ?_ ?_ | refine wL ?_ ?_) <;> intro _) | simp (maxSteps := 1000000) (disch := omega) only [go_sem, Nat.reduceAdd, Nat.reduceMul, Nat.reduceSub, Nat.reduceLeDiff, Nat.reduceEqDiff, Nat.reduceBEq, ↓reduceIte, reduceCtorEq, Int.reduceEq, Int.reduceLE, Int.reduceLT, Int.reduceAdd, Int.reduceSub, Int.reduceNeg, Int.reduceToNat, Int.reduceNe, Nat.reducePow, Nat.reduceShiftRight, Nat.reduceMod, *])
        all_goals (exact fin_tmp (.inr rfl) cE3)
    · have e : (decide (0 ≤ fixed) && decide (fixed ≤ 16) && (decide (ctors.length ≤ 8) && ctors.all (ctrB params))) = false := by
        rw [Bool.eq_false_iff]
        intro h2
        simp only [Bool.and_eq_true, decide_eq_true_eq] at h2
        exact h ⟨h2.1.1, h2.1.2, h2.2.1⟩
      rw [e]
      clear e
      have h9 : fixed < 0 ∨ (0 ≤ fixed ∧ 16 < fixed) ∨ (0 ≤ fixed ∧ fixed ≤ 16 ∧ 8 < ctors.length) := by omega
      clear h
      rcases h9 with h | ⟨h, h2⟩ | ⟨h, h2, h3⟩
      all_goals
        repeat' (first | ((with_reducible first | refine wA (by omega) ?_ | refine wB (by omega) ?_ | refine wC (by omega) ?_ | refine wD (by omega) ?_ | refine wE ?_ ?_ | refine wF ?_ ?_ | refine wG ?_ ?_ | refine wH ?_ ?_ | refine wI ?_ ?_ | refine wJ ?_ ?_ | refine wK ?_ ?_ | refine wL ?_ ?_) <;> intro _) | (((with_reducible refine call_id ?_); (first | (refine call_pure (c1) ?_) | (refine call_pure (c2) ?_) | (refine call_pure (c3) ?_)))) | simp (maxSteps := 1000000) (disch := omega) only [go_sem, Nat.reduceAdd, Nat.reduceMul, Nat.reduceSub, Nat.reduceLeDiff, Nat.reduceEqDiff, Nat.reduceBEq, ↓reduceIte, reduceCtorEq, Int.reduceEq, Int.reduceLE, Int.reduceLT, Int.reduceAdd, Int.reduceSub, Int.reduceNeg, Int.reduceToNat, Int.reduceNe, Nat.reducePow, Nat.reduceShiftRight, Nat.reduceMod, mc_ref08_Formed, *])
        all_goals (exact fin_tmp (.inr rfl) cE3)
  · simp only [h5, if_false]
    by_cases hf : fixed = 0
    rotate_left
    · rw [if_pos (.inl hf)]
      repeat' (first | ((with_reducible first | refine wA (by omega) ?_ | refine wB (by omega) ?_ | refine wC (by omega) ?_ | refine wD (by omega) ?_ | refine wE ?_ ?_ | refine wF ?_ ?_ | refine wG ?_ ?_ | refine wH ?_ ?_ | refine wI ?_ ?_ | refine wJ ?_ ?_ | refine wK ?_ ?_ | refine wL ?_ ?_) <;> intro _) | (((with_reducible refine call_id ?_); (first | (refine call_pure (c1) ?_) | (refine call_pure (c2) ?_) | (refine call_pure (c3) ?_)))) | simp (maxSteps := 1000000) (disch := omega) only [go_sem, Nat.reduceAdd, Nat.reduceMul, Nat.reduceSub, Nat.reduceLeDiff, Nat.reduceEqDiff, Nat.reduceBEq, ↓reduceIte, reduceCtorEq, Int.reduceEq, Int.reduceLE, Int.reduceLT, Int.reduceAdd, Int.reduceSub, Int.reduceNeg, Int.reduceToNat, Int.reduceNe, Nat.reducePow, Nat.reduceShiftRight, Nat.reduceMod, mc_ref08_Formed, *])
      all_goals (exact fin_tmp (.inr rfl) cE3)
    by_cases hl : ctors.length = 0
    rotate_left
    · rw [if_pos (.inr hl)]
      repeat' (first | ((with_reducible first | refine wA (by omega) ?_ | refine wB (by omega) ?_ | refine wC (by omega) ?_ | refine wD (by omega) ?_ | refine wE ?_ ?_ | refine wF ?_ ?_ | refine wG ?_ ?_ | refine wH ?_ ?_ | refine wI ?_ ?_ | refine wJ ?_ ?_ | refine wK ?_ ?_ | refine wL ?_ ?_) <;> intro _) | (((with_reducible refine call_id ?_); (first | (refine call_pure (c1) ?_) | (refine call_pure (c2) ?_) | (refine call_pure (c3) ?_)))) | simp (maxSteps := 1000000) (disch := omega) only [go_sem, Nat.reduceAdd, Nat.reduceMul, Nat.reduceSub, Nat.reduceLeDiff, Nat.reduceEqDiff, Nat.reduceBEq, ↓reduceIte, reduceCtorEq, Int.reduceEq, Int.reduceLE, Int.reduceLT, Int.reduceAdd, Int.reduceSub, Int.reduceNeg, Int.reduceToNat, Int.reduceNe, Nat.reducePow, Nat.reduceShiftRight, Nat.reduceMod, mc_ref08_Formed, *])
      all_goals (exact fin_tmp (.inr rfl) cE3)
    rw [if_neg (by rintro (h | h); exact h hf; exact h hl)]
    by_cases h1 : kind = 1
    · rw [if_pos h1]
      repeat' (first | ((with_reducible first | refine wA (by omega) ?_ | refine wB (by omega) ?_ | refine wC (by omega) ?_ | refine wD (by omega) ?_ | refine wE ?_ ?_ | refine wF ?_ ?_ | refine wG ?_ ?_ | refine wH ?_ ?_ | refine wI ?_ ?_ | refine wJ ?_ ?_ | refine wK ?_ ?_ | refine wL ?_ ?_) <;> intro _) | (((with_reducible refine call_id ?_); (first | (refine call_pure (c1) ?_) | (refine call_pure (c2) ?_) | (refine call_pure (c3) ?_)))) | simp (maxSteps := 1000000) (disch := omega) only [go_sem, Nat.reduceAdd, Nat.reduceMul, Nat.reduceSub, Nat.reduceLeDiff, Nat.reduceEqDiff, Nat.reduceBEq, ↓reduceIte, reduceCtorEq, Int.reduceEq, Int.reduceLE, Int.reduceLT, Int.reduceAdd, Int.reduceSub, Int.reduceNeg, Int.reduceToNat, Int.reduceNe, Nat.reducePow, Nat.reduceShiftRight, Nat.reduceMod, mc_ref08_Formed, *])
      all_goals (exact fin_tmp (.inr rfl) cE3)
    · rw [if_neg h1]
      repeat' (first | ((with_reducible first | refine wA (by omega) ?_ | refine wB (by omega) ?_ | refine wC (by omega) ?_ | refine wD (by omega) ?_ | refine wE ?_ ?_ | refine wF ?_ ?_ | refine wG ?_ ?_ | refine wH ?_ ?_ | refine wI ?_ ?_ | refine wJ ?_ ?_ | refine wK ?_ ?_ | refine wL ?_ ?_) <;> intro _) | (((with_reducible refine call_id ?_); (first | (refine call_pure (c1) ?_) | (refine call_pure (c2) ?_) | (refine call_pure (c3) ?_) | (refine call_pure (c4) ?_)))) | simp (maxSteps := 1000000) (disch := omega) only [go_sem, Nat.reduceAdd, Nat.reduceMul, Nat.reduceSub, Nat.reduceLeDiff, Nat.reduceEqDiff, Nat.reduceBEq, ↓reduceIte, reduceCtorEq, Int.reduceEq, Int.reduceLE, Int.reduceLT, Int.reduceAdd, Int.reduceSub, Int.reduceNeg, Int.reduceToNat, Int.reduceNe, Nat.reducePow, Nat.reduceShiftRight, Nat.reduceMod, mc_ref08_Formed, *])
      all_goals (exact fin_tmp (.inr rfl) cE3)
end
section
set_option maxRecDepth 20000
attribute [local go_sem] pv_len pv_take Nat.add_assoc tm_len tm_take pv_one tm_one id_ne id_ne' id_ne2 List.append_assoc tm_take_app tm_drop_app tm_d6 tm_d7 tm_d8 tm_d9 tm_d10 tm_d11 tm_d12 tm_d13 tm_d14 tm_d15 ent_len ent_take ent_one tpvB_len tpvB_take tpvB_one
def massC : List Ctr → Nat
  | [] => 0
  | c :: r => c.typ.mass + c.name.size / 16 + massC r
def fitsC : List Ctr → Prop
  | [] => True
  | c :: r => (c.name.size ≤ 9223372036854775807 ∧ c.typ.fits) ∧ fitsC r
theorem fitsC_mem : ∀ (ts : List Ctr) (k : Nat) (h : k < ts.length), fitsC ts → ts[k].name.size ≤ 9223372036854775807 ∧ ts[k].typ.fits
  | x :: r, 0, h, hf => by simpa using hf.1
  | x :: r, k + 1, h, hf => by simpa using fitsC_mem r k (by simpa using h) hf.2
theorem massC_take_succ : ∀ (ts : List Ctr) (k : Nat) (h : k < ts.length), massC (ts.take (k + 1)) = massC (ts.take k) + (ts[k].typ.mass + ts[k].name.size / 16)
  | x :: r, 0, h => by simp [massC]
  | x :: r, k + 1, h => by
    have := massC_take_succ r k (by simpa using h)
    simp only [List.take_succ_cons, massC, List.getElem_cons_succ, this]
    omega
theorem massC_append : ∀ a b : List Ctr, massC (a ++ b) = massC a + massC b
  | [], b => by simp [massC]
  | x :: r, b => by simp only [List.cons_append, massC, massC_append r b]; omega
theorem massC_take_le (ts : List Ctr) (k : Nat) : massC (ts.take k) ≤ massC ts := by
  have h := massC_append (ts.take k) (ts.drop k)
  rw [List.take_append_drop] at h
  omega
def Dcl.mass (d : Dcl) : Nat := d.typ.mass + (d.val.mass + (d.name.size / 16 + massC d.ctors))
def Dcl.fits (d : Dcl) : Prop := d.name.size ≤ 9223372036854775807 ∧ d.typ.fits ∧ d.val.fits ∧ fitsC d.ctors
theorem tdiv16 (n : Nat) : Int.tdiv (n : Int) 16 = ((n / 16 : Nat) : Int) := by rw [Int.tdiv_eq_ediv_of_nonneg (by omega)]; omega
set_option maxHeartbeats 16000000 in
theorem DeclNodes_p (most : Nat) (hm : most ≤ 1000000) (d : Dcl) (hl : d.ctors.length ≤ most) (hf : d.fits) : PPure Try.prog F.ref00_DeclNodes [.agg d.pv, .sc (.int .i64 most)] (.sc (.int .i64 (min d.mass (most + 1) : Nat))) := by
  obtain ⟨hf1, hf2, hf3, hf4⟩ := hf
  refine pure_by is_ref00_DeclNodes (by simp) rfl fun hb nx => ?_
  clear hb
  have c1 := Mass_p most hm d.typ.size d.typ (Nat.le_refl _) hf2
  have c2 := Mass_p most hm d.val.size d.val (Nat.le_refl _) hf3
  have hfk := Kept.mk hf4
  clear hf2 hf3 hf4
  simp only [Dcl.mass]
  obtain ⟨kind, params, name, typ, val, fixed, ctors⟩ := d
  simp only [Dcl.pv] at c1 c2 hl hf1 hfk ⊢
  have hd := tdiv16 name.size
  have hA : Kept (min (min typ.mass (most + 1) + min val.mass (most + 1) + name.size / 16) (most + 1) = min (typ.mass + (val.mass + name.size / 16)) (most + 1)) := Kept.mk (by omega)
  have hB : min typ.mass (most + 1) ≤ most + 1 ∧ min val.mass (most + 1) ≤ most + 1 := ⟨by omega, by omega⟩
  generalize min typ.mass (most + 1) = m1 at c1 hA hB
  generalize min val.mass (most + 1) = m2 at c2 hA hB
  obtain ⟨hB1, hB2⟩ := hB
  repeat' (first | ((with_reducible first | refine wA (by omega) ?_ | refine wB (by omega) ?_ | refine wC (by omega) ?_ | refine wD (by omega) ?_ | refine wE ?_ ?_ | refine wF ?_ ?_ | refine wG ?_ ?_ | refine wH ?_ ?_ | refine wI ?_ ?_ | refine wJ ?_ ?_ | refine wK ?_ ?_ | refine wL ?_ ?_) <;> intro _) | (((with_reducible refine call_id ?_); (first | (refine call_pure (c1) ?_) | (refine call_pure (c2) ?_)))) | simp (maxSteps := 1000000) (disch := omega) only [go_sem, Nat.reduceAdd, Nat.reduceMul, Nat.reduceSub, Nat.reduceLeDiff, Nat.reduceEqDiff, Nat.reduceBEq, ↓reduceIte, reduceCtorEq, Int.reduceEq, Int.reduceLE, Int.reduceLT, Int.reduceAdd, Int.reduceSub, Int.reduceNeg, Int.reduceToNat, Int.reduceNe, Nat.reducePow, Nat.reduceShiftRight, Nat.reduceMod, mc_ref00_DeclNodes, hd, *])
  refine c_loopW 576460752034988128 (by kernel_rfl) (fun j f H m => ∃ i t : Nat, j = ctors.length - i ∧ i ≤ ctors.length ∧ Kept (min t (most + 1) = min (typ.mass + (val.mass + (name.size / 16 + massC (ctors.take i)))) (most + 1)) ∧ t ≤ 2 * most + 2 + 1152921504606846976 ∧ f 5 = .sc (.int .i64 t) ∧ f 6 = .sc (.int .i64 i)) _ ⟨0, m1 + m2 + name.size / 16, rfl, cE1, Kept.mk (by simp only [List.take_zero, massC, Nat.add_zero]; exact hA.out), by omega, by simp [upd], cE1⟩ ?_
  clear hA
  rintro _ f H m ⟨i, t, rfl, hi, ht, ht2, e5, e6⟩
  by_cases hgo : i < ctors.length ∧ t ≤ most
  · obtain ⟨hlt, hfull⟩ := hgo
    have eg : ctors[i]? = some ctors[i] := List.getElem?_eq_getElem hlt
    have hs := massC_take_succ ctors i hlt
    obtain ⟨g1, g2⟩ := fitsC_mem ctors i hlt hfk.out
    have c3 := Mass_p most hm ctors[i].typ.size ctors[i].typ (Nat.le_refl _) g2
    have hd2 := tdiv16 ctors[i].name.size
    have hC : min ctors[i].typ.mass (most + 1) ≤ most + 1 := by omega
    have hk : Kept (min (t + (min ctors[i].typ.mass (most + 1) + ctors[i].name.size / 16)) (most + 1) = min (typ.mass + (val.mass + (name.size / 16 + massC (ctors.take (i + 1))))) (most + 1)) := Kept.mk (by have := ht.out; omega)
    clear ht hs g2
    generalize min ctors[i].typ.mass (most + 1) = m3 at c3 hC hk
    repeat' (first | ((with_reducible first | refine wA (by omega) ?_ | refine wB (by omega) ?_ | refine wC (by omega) ?_ | refine wD (by omega) ?_ | refine wE ?_ ?_ | refine wF ?_ ?_ | refine wG ?_ ?_ | refine wH ?_ ?_ | refine wI ?_ ?_ | refine wJ ?_ ?_ | refine wK ?_ ?_ | refine wL ?_ ?_) <;> intro _) | (((with_reducible refine call_id ?_); (first | (refine call_pure (c3) ?_)))) | simp (maxSteps := 1000000) (disch := omega) only [go_sem, Nat.reduceAdd, Nat.reduceMul, Nat.reduceSub, Nat.reduceLeDiff, Nat.reduceEqDiff, Nat.reduceBEq, ↓reduceIte, reduceCtorEq, Int.reduceEq, Int.reduceLE, Int.reduceLT, Int.reduceAdd, Int.reduceSub, Int.reduceNeg, Int.reduceToNat, Int.reduceNe, Nat.reducePow, Nat.reduceShiftRight, Nat.reduceMod, Ctr.pv, hd2, *])
    exact Nx.mk (ctors.length - (i + 1)) cE1 ⟨i + 1, t + (m3 + ctors[i].name.size / 16), rfl, cE1, hk, by omega, by simp [upd], cE1⟩
  · have hfin : min t (most + 1) = min (typ.mass + (val.mass + (name.size / 16 + massC ctors))) (most + 1) := by
      have ht' := ht.out
      by_cases h : i < ctors.length
      · have := massC_take_le ctors i; omega
      · have e : ctors.take i = ctors := List.take_of_length_le (by omega)
        rw [e] at ht'
        exact ht'
    have hor : (i < ctors.length ∧ most < t) ∨ ¬ i < ctors.length := by omega
    rw [← hfin]
    clear hgo ht hfin
    rcases hor with ⟨h, h'⟩ | h
    all_goals
      repeat' (first | ((with_reducible first | refine wA (by omega) ?_ | refine wB (by omega) ?_ | refine wC (by omega) ?_ | refine wD (by omega) ?_ | refine wE ?_ ?_ | refine wF ?_ ?_ | refine wG ?_ ?_ | refine wH ?_ ?_ | refine wI ?_ ?_ | refine wJ ?_ ?_ | refine wK ?_ ?_ | refine wL ?_ ?_) <;> intro _) | simp (maxSteps := 1000000) (disch := omega) only [go_sem, Nat.reduceAdd, Nat.reduceMul, Nat.reduceSub, Nat.reduceLeDiff, Nat.reduceEqDiff, Nat.reduceBEq, ↓reduceIte, reduceCtorEq, Int.reduceEq, Int.reduceLE, Int.reduceLT, Int.reduceAdd, Int.reduceSub, Int.reduceNeg, Int.reduceToNat, Int.reduceNe, Nat.reducePow, Nat.reduceShiftRight, Nat.reduceMod, *])
      refine fin_tmp (.inr rfl) ?_
      simp (disch := omega) only [go_sem, Nat.reduceMul, Nat.reduceSub, Nat.reduceShiftRight, Nat.reduceMod, Nat.reduceEqDiff, Nat.reduceAdd, ↓reduceIte, Nat.reduceLeDiff, *]
      omega
def Dcl.great (d : Dcl) : Bool := decide (20 < d.ctors.length ∨ 4000 < d.mass)
theorem great08_p (d : Dcl) (hf : d.fits) : PPure Try.prog F.law08_Great [.agg d.pv] (.sc (.bool d.great)) := by
  refine pure_by is_law08_Great (by simp) rfl fun hb nx => ?_
  clear hb
  simp only [Dcl.great]
  by_cases g1 : 20 < d.ctors.length
  · rw [decide_eq_true (.inl g1)]
    obtain ⟨kind, params, name, typ, val, fixed, ctors⟩ := d
    simp only [Dcl.pv] at g1 ⊢
    repeat' (first | ((with_reducible first | refine wA (by omega) ?_ | refine wB (by omega) ?_ | refine wC (by omega) ?_ | refine wD (by omega) ?_ | refine wE ?_ ?_ | refine wF ?_ ?_ | refine wG ?_ ?_ | refine wH ?_ ?_ | refine wI ?_ ?_ | refine wJ ?_ ?_ | refine wK ?_ ?_ | refine wL ?_ ?_) <;> intro _) | simp (maxSteps := 1000000) (disch := omega) only [go_sem, Nat.reduceAdd, Nat.reduceMul, Nat.reduceSub, Nat.reduceLeDiff, Nat.reduceEqDiff, Nat.reduceBEq, ↓reduceIte, reduceCtorEq, Int.reduceEq, Int.reduceLE, Int.reduceLT, Int.reduceAdd, Int.reduceSub, Int.reduceNeg, Int.reduceToNat, Int.reduceNe, Nat.reducePow, Nat.reduceShiftRight, Nat.reduceMod, mc_law08_Great, *])
    all_goals (exact fin_tmp (.inr rfl) cE3)
  have c1 := DeclNodes_p 4000 (by omega) d (by omega) hf
  by_cases g2 : 4000 < d.mass
  · rw [decide_eq_true (.inr g2)]
    rw [show min d.mass (4000 + 1) = 4001 by omega] at c1
    obtain ⟨kind, params, name, typ, val, fixed, ctors⟩ := d
    simp only [Dcl.pv] at g1 c1 ⊢
    clear g2 hf
    repeat' (first | ((with_reducible first | refine wA (by omega) ?_ | refine wB (by omega) ?_ | refine wC (by omega) ?_ | refine wD (by omega) ?_ | refine wE ?_ ?_ | refine wF ?_ ?_ | refine wG ?_ ?_ | refine wH ?_ ?_ | refine wI ?_ ?_ | refine wJ ?_ ?_ | refine wK ?_ ?_ | refine wL ?_ ?_) <;> intro _) | (((with_reducible refine call_id ?_); (first | (refine call_pure (c1) ?_)))) | simp (maxSteps := 1000000) (disch := omega) only [go_sem, Nat.reduceAdd, Nat.reduceMul, Nat.reduceSub, Nat.reduceLeDiff, Nat.reduceEqDiff, Nat.reduceBEq, ↓reduceIte, reduceCtorEq, Int.reduceEq, Int.reduceLE, Int.reduceLT, Int.reduceAdd, Int.reduceSub, Int.reduceNeg, Int.reduceToNat, Int.reduceNe, Nat.reducePow, Nat.reduceShiftRight, Nat.reduceMod, mc_law08_Great, tm_t12, tm_t7, *])
    all_goals (exact fin_tmp (.inr rfl) cE3)
  · rw [decide_eq_false (by omega)]
    rw [show min d.mass (4000 + 1) = d.mass by omega] at c1
    generalize d.mass = m at c1 g2
    obtain ⟨kind, params, name, typ, val, fixed, ctors⟩ := d
    simp only [Dcl.pv] at g1 c1 ⊢
    clear hf
    repeat' (first | ((with_reducible first | refine wA (by omega) ?_ | refine wB (by omega) ?_ | refine wC (by omega) ?_ | refine wD (by omega) ?_ | refine wE ?_ ?_ | refine wF ?_ ?_ | refine wG ?_ ?_ | refine wH ?_ ?_ | refine wI ?_ ?_ | refine wJ ?_ ?_ | refine wK ?_ ?_ | refine wL ?_ ?_) <;> intro _) | (((with_reducible refine call_id ?_); (first | (refine call_pure (c1) ?_)))) | simp (maxSteps := 1000000) (disch := omega) only [go_sem, Nat.reduceAdd, Nat.reduceMul, Nat.reduceSub, Nat.reduceLeDiff, Nat.reduceEqDiff, Nat.reduceBEq, ↓reduceIte, reduceCtorEq, Int.reduceEq, Int.reduceLE, Int.reduceLT, Int.reduceAdd, Int.reduceSub, Int.reduceNeg, Int.reduceToNat, Int.reduceNe, Nat.reducePow, Nat.reduceShiftRight, Nat.reduceMod, mc_law08_Great, tm_t12, tm_t7, *])
    all_goals (exact fin_tmp (.inr rfl) cE3)
end
section
set_option maxRecDepth 20000
attribute [local go_sem] pv_len pv_take Nat.add_assoc tm_len tm_take pv_one tm_one id_ne id_ne' id_ne2 List.append_assoc tm_take_app tm_drop_app tm_d6 tm_d7 tm_d8 tm_d9 tm_d10 tm_d11 tm_d12 tm_d13 tm_d14 tm_d15 ent_len ent_take ent_one optC_len optC_take optC_one
def lenW : Int → List ByteArray → Int
  | v, [] => v
  | v, s :: r => if v ≤ 500 then lenW (IntKind.i64.wrap (v + IntKind.i64.wrap (1 + (s.size : Int)))) r else v
def lens5 (names : List ByteArray) : Int := if 500 < names.length then 501 else lenW 0 names
def Ent.great (e : Ent) : Bool := decide (20 < e.ctors.length ∨ 500 < e.name.size ∨ 2500 < e.typ.mass ∨ 2500 < e.val.mass ∨ 500 < lens5 e.ctors)
end
section
def aS : Tm := .mk 2 0 emp [.mk 2 0 []] []
def aN (n : Int) : Tm := .mk 2 0 emp [.mk 1 n []] []
def aD1 : Dcl := ⟨1, 1, ⟨#[97]⟩, aS, noTm, 0, []⟩
def aD2 : Dcl := ⟨2, 0, ⟨#[100]⟩, aN 1, aN 0, 0, []⟩
def aE1 : Ent := ⟨1, 1, ⟨#[97]⟩, aS, noTm, 0, emp, 0, 0, 0, []⟩
def aE2 : Ent := ⟨2, 0, ⟨#[100]⟩, aN 1, aN 0, 2, emp, 0, 0, 0, []⟩
theorem a_ent1 : aE1.right = true := by kernel_rfl
theorem a_ent2 : aE2.right = true := by kernel_rfl
theorem a_dcl1 : aD1.formed = true := by kernel_rfl
theorem a_dcl2 : aD2.formed = true := by kernel_rfl
theorem a_pl1 : aD1.plainE 0 = aE1 ∧ aD1.plainN 0 = 0 := by
  have h : aD1.ent 0 = aE1 := rfl
  simp only [Dcl.plainE, Dcl.plainN, h, a_dcl1, a_ent1]
  exact ⟨rfl, rfl⟩
theorem a_ty1 : typeR aE1 [.mk 1 3 []] = (some (aN 3), 0) := by kernel_rfl
end
section
set_option maxRecDepth 20000
attribute [local go_sem] pv_len pv_take Nat.add_assoc tm_len tm_take pv_one tm_one id_ne id_ne' id_ne2 List.append_assoc tm_take_app tm_drop_app tm_d6 tm_d7 tm_d8 tm_d9 tm_d10 tm_d11 tm_d12 tm_d13 tm_d14 tm_d15 ent_len ent_take ent_one tpvB_len tpvB_take tpvB_one optC_len optC_take optC_one
theorem a_pl2 : aD2.plainE 2 = aE2 ∧ aD2.plainN 2 = 0 := by
  have h : aD2.ent 2 = aE2 := rfl
  simp only [Dcl.plainE, Dcl.plainN, h, a_dcl2, a_ent2]
  exact ⟨rfl, rfl⟩
theorem a_ty2 : typeR aE1 [] = (none, 16) := by kernel_rfl
theorem a_va1 : eValR aE1 [.mk 1 3 []] = (none, 13) := by kernel_rfl
theorem a_va2 : eValR aE2 [] = (some (aN 0), 0) := by kernel_rfl
theorem a_s3 : (aN 3).same (aN 3) = true := by kernel_rfl
theorem a_s0 : (aN 0).same (aN 0) = true := by kernel_rfl
theorem a_s2 : aE2.same aE2 = true := by kernel_rfl
theorem a_ne : aE1.numE aE2 = false := by kernel_rfl
theorem eSame_ne (a b : Ent) (h : a.numE b = false) : PPure Try.prog F.decl_Same [.agg a.pv, .agg b.pv] (.sc (.bool false)) := by
  refine pure_by is_decl_Same (by simp) rfl fun hb nx => ?_
  clear hb
  have c1 := numbers_p false a
  have c2 := numbers_p false b
  rw [entB_false] at c1 c2
  simp only [Ent.numE] at h
  obtain ⟨kind, params, name, typ, val, height, family, fixed, index, fields, ctors⟩ := a
  obtain ⟨kind2, params2, name2, typ2, val2, height2, family2, fixed2, index2, fields2, ctors2⟩ := b
  simp only [Ent.pv] at c1 c2 h ⊢
  repeat' (first | ((with_reducible first | refine wA (by omega) ?_ | refine wB (by omega) ?_ | refine wC (by omega) ?_ | refine wD (by omega) ?_ | refine wE ?_ ?_ | refine wF ?_ ?_ | refine wG ?_ ?_ | refine wH ?_ ?_ | refine wI ?_ ?_ | refine wJ ?_ ?_ | refine wK ?_ ?_ | refine wL ?_ ?_) <;> intro _) | (((with_reducible refine call_id ?_); (first | (refine call_pure (c1) ?_) | (refine call_pure (c2) ?_)))) | simp (maxSteps := 1000000) (disch := omega) only [go_sem, Nat.reduceAdd, Nat.reduceMul, Nat.reduceSub, Nat.reduceLeDiff, Nat.reduceEqDiff, Nat.reduceBEq, ↓reduceIte, reduceCtorEq, Int.reduceEq, Int.reduceLE, Int.reduceLT, Int.reduceAdd, Int.reduceSub, Int.reduceNeg, Int.reduceToNat, Int.reduceNe, Nat.reducePow, Nat.reduceShiftRight, Nat.reduceMod, mc_decl_Same, h, *])
  all_goals (exact fin_tmp (.inr rfl) cE3)
theorem entF_weak (e : Ent) : WeakL e.pvF (e.pvB true) :=
  ⟨.refl _, .refl _, .refl _, WeakL.append (.refl _) (WeakL.append (.refl _) ⟨.refl _, .refl _, .refl _, .refl _, .refl _, .fsl 1 _, trivial⟩)⟩
end
section
set_option maxRecDepth 20000
attribute [local go_sem] pv_len pv_take Nat.add_assoc tm_len tm_take pv_one tm_one id_ne id_ne' id_ne2 List.append_assoc tm_take_app tm_drop_app tm_d6 tm_d7 tm_d8 tm_d9 tm_d10 tm_d11 tm_d12 tm_d13 tm_d14 tm_d15 ent_len ent_take ent_one tpvB_len tpvB_take tpvB_one optC_len optC_take optC_one
theorem a_lv2 : WeakL [PV.sc (.int .i64 2), .sc (.int .i64 0), .sc (.slice none 0 0)] (Lv.mk 2 0 []).pv := by
  simp only [Lv.pv, List.map_nil]
  exact ⟨.refl _, .refl _, .nil 3, trivial⟩
theorem a_d1 : WeakL (PV.sc (.int .i64 1) :: .sc (.int .i64 1) :: .sc (.string ⟨#[97]⟩) :: (aS.pv ++ [.sc (.int .i64 0), .sc (.int .i64 0), .sc (.string ⟨#[]⟩), .sc (.slice none 0 0), .sc (.slice none 0 0), .sc (.int .i64 0), .sc (.slice none 0 0)])) aD1.pv := by
  have e : aD1.pv = PV.sc (.int .i64 1) :: .sc (.int .i64 1) :: .sc (.string ⟨#[97]⟩) :: (aS.pv ++ [.sc (.int .i64 0), .sc (.int .i64 0), .sc (.string ⟨#[]⟩), .sl 3 [], .sl 5 [], .sc (.int .i64 0), .sl 6 []]) := by simp [Dcl.pv, aD1, noTm, Tm.pv]
  rw [e]
  exact ⟨.refl _, .refl _, .refl _, WeakL.append (.refl _) ⟨.refl _, .refl _, .refl _, .nil 3, .nil 5, .refl _, .nil 6, trivial⟩⟩
theorem a_d2 : WeakL (PV.sc (.int .i64 2) :: .sc (.int .i64 0) :: .sc (.string ⟨#[100]⟩) :: ((aN 1).pv ++ ((aN 0).pv ++ [.sc (.int .i64 0), .sc (.slice none 0 0)]))) aD2.pv := by
  have e : aD2.pv = PV.sc (.int .i64 2) :: .sc (.int .i64 0) :: .sc (.string ⟨#[100]⟩) :: ((aN 1).pv ++ ((aN 0).pv ++ [.sc (.int .i64 0), .sl 6 []])) := by simp [Dcl.pv, aD2]
  rw [e]
  exact ⟨.refl _, .refl _, .refl _, WeakL.append (.refl _) (WeakL.append (.refl _) ⟨.refl _, .nil 6, trivial⟩)⟩
set_option maxHeartbeats 16000000 in
theorem alive11_p : PPure Try.prog F.law11_alive [] (.sc (.bool true)) := by
  have c0 : PPure Try.prog F.law11_sort [.agg [.sc (.int .i64 2), .sc (.int .i64 0), .sc (.slice none 0 0)]] (.agg aS.pv) :=
    (sort11_p (.mk 2 0 [])).weak (args' := [.agg [.sc (.int .i64 2), .sc (.int .i64 0), .sc (.slice none 0 0)]]) ⟨Weak.agg a_lv2, trivial⟩ (.refl _)
  have c1 : PPure Try.prog F.decl_Plain [.agg (PV.sc (.int .i64 1) :: .sc (.int .i64 1) :: .sc (.string ⟨#[97]⟩) :: (aS.pv ++ [.sc (.int .i64 0), .sc (.int .i64 0), .sc (.string ⟨#[]⟩), .sc (.slice none 0 0), .sc (.slice none 0 0), .sc (.int .i64 0), .sc (.slice none 0 0)])), .sc (.int .i64 0)] (.tup [.agg aE1.pv, .sc (.int .i64 0)]) := by
    have h := Plain_p aD1 0 (by decide) (by decide)
    rw [a_pl1.1, a_pl1.2] at h
    exact h.weak ⟨Weak.agg a_d1, .refl _, trivial⟩ (.refl _)
  have c2 := num11_p 3
  have c3 : PPure Try.prog F.decl_Type [.agg aE1.pv, .sl 3 [(Lv.mk 1 3 []).pv]] (.tup [.agg (aN 3).pv, .sc (.int .i64 0)]) := by
    have h := Type_p aE1 [.mk 1 3 []]
    rw [a_ty1] at h
    exact h
  have c4 : PPure Try.prog F.decl_Type [.agg aE1.pv, .sc (.slice none 0 0)] (.tup [.agg [.sc (.int .i64 0), .sc (.int .i64 0), .sc (.string ⟨#[]⟩), .sc (.slice none 0 0), .sc (.slice none 0 0)], .sc (.int .i64 16)]) := by
    have h := Type_p aE1 []
    rw [a_ty2] at h
    exact h.weak ⟨.refl _, .nil 3, trivial⟩ (.refl _)
  have c5 : PPure Try.prog F.decl_Value [.agg aE1.pv, .sl 3 [(Lv.mk 1 3 []).pv]] (.tup [.agg [.sc (.int .i64 0), .sc (.int .i64 0), .sc (.string ⟨#[]⟩), .sc (.slice none 0 0), .sc (.slice none 0 0)], .sc (.int .i64 13)]) := by
    have h := eValue_p aE1 [.mk 1 3 []]
    rw [a_va1] at h
    exact h
  have c6 := num11_p 1
  have c7 := num11_p 0
  have c8 : PPure Try.prog F.law11_sort [.agg (Lv.mk 1 1 []).pv] (.agg (aN 1).pv) := sort11_p (.mk 1 1 [])
  have c9 : PPure Try.prog F.law11_sort [.agg (Lv.mk 1 0 []).pv] (.agg (aN 0).pv) := sort11_p (.mk 1 0 [])
  have c10 : PPure Try.prog F.law11_sort [.agg (Lv.mk 1 3 []).pv] (.agg (aN 3).pv) := sort11_p (.mk 1 3 [])
  have c11 : PPure Try.prog F.decl_Plain [.agg (PV.sc (.int .i64 2) :: .sc (.int .i64 0) :: .sc (.string ⟨#[100]⟩) :: ((aN 1).pv ++ ((aN 0).pv ++ [.sc (.int .i64 0), .sc (.slice none 0 0)]))), .sc (.int .i64 2)] (.tup [.agg aE2.pv, .sc (.int .i64 0)]) := by
    have h := Plain_p aD2 2 (by decide) (by decide)
    rw [a_pl2.1, a_pl2.2] at h
    exact h.weak ⟨Weak.agg a_d2, .refl _, trivial⟩ (.refl _)
  have c12 : PPure Try.prog F.decl_Value [.agg aE2.pv, .sc (.slice none 0 0)] (.tup [.agg (aN 0).pv, .sc (.int .i64 0)]) := by
    have h := eValue_p aE2 []
    rw [a_va2] at h
    exact h.weak ⟨.refl _, .nil 3, trivial⟩ (.refl _)
  have c13 : PPure Try.prog F.ref00_SameTerm [.agg (aN 3).pv, .agg (aN 3).pv] (.sc (.bool true)) := by
    have h := SameTerm_p (aN 3).size (aN 3) (aN 3) (Nat.le_refl _)
    rwa [a_s3] at h
  have c14 : PPure Try.prog F.ref00_SameTerm [.agg (aN 0).pv, .agg (aN 0).pv] (.sc (.bool true)) := by
    have h := SameTerm_p (aN 0).size (aN 0) (aN 0) (Nat.le_refl _)
    rwa [a_s0] at h
  have c15 : PPure Try.prog F.decl_Right [.agg aE1.pv] (.sc (.bool true)) := by
    have h := eRight_p aE1
    rwa [a_ent1] at h
  have c16 : PPure Try.prog F.decl_Unfolds [.agg aE2.pv] (.sc (.bool true)) := by
    have h := unfolds_p aE2
    rwa [a_ent2] at h
  have c17 : PPure Try.prog F.decl_Unfolds [.agg aE1.pv] (.sc (.bool false)) := unfolds_p aE1
  have c18 := eClone_p aE2 (by decide) (by decide) (by decide)
  have c19 : PPure Try.prog F.decl_Same [.agg aE2.pvF, .agg aE2.pv] (.sc (.bool true)) := by
    have h := eSame_p aE2 aE2 true false rfl
    rw [a_s2, entB_false] at h
    exact h.weak ⟨Weak.agg (entF_weak _), .refl _, trivial⟩ (.refl _)
  have c20 := eSame_ne aE1 aE2 a_ne
  have hh : aE2.pv = .sc (.int .i64 2) :: .sc (.int .i64 0) :: .sc (.string ⟨#[100]⟩) :: ((aN 1).pv ++ ((aN 0).pv ++ [.sc (.int .i64 2), .sc (.string ⟨#[]⟩), .sc (.int .i64 0), .sc (.int .i64 0), .sc (.int .i64 0), .sl 1 []])) := rfl
  have hd : aE2.pv.drop 13 = [.sc (.int .i64 2), .sc (.string ⟨#[]⟩), .sc (.int .i64 0), .sc (.int .i64 0), .sc (.int .i64 0), .sl 1 []] := by
    rw [hh]
    simp only [List.drop_succ_cons, tm_d10, tm_drop_app]
  clear hh
  refine pure_by is_law11_alive (by simp) rfl fun hb nx => ?_
  clear hb
  repeat' (first | ((with_reducible first | refine wA (by omega) ?_ | refine wB (by omega) ?_ | refine wC (by omega) ?_ | refine wD (by omega) ?_ | refine wE ?_ ?_ | refine wF ?_ ?_ | refine wG ?_ ?_ | refine wH ?_ ?_ | refine wI ?_ ?_ | refine wJ ?_ ?_ | refine wK ?_ ?_ | refine wL ?_ ?_) <;> intro _) | (((with_reducible refine call_id ?_); (first | (refine call_pure (c0) ?_) | (refine call_pure (c1) ?_) | (refine call_pure (c2) ?_) | (refine call_pure (c3) ?_) | (refine call_pure (c4) ?_) | (refine call_pure (c5) ?_) | (refine call_pure (c6) ?_) | (refine call_pure (c7) ?_) | (refine call_pure (c8) ?_) | (refine call_pure (c9) ?_) | (refine call_pure (c10) ?_) | (refine call_pure (c11) ?_) | (refine call_pure (c12) ?_) | (refine call_pure (c13) ?_) | (refine call_pure (c14) ?_) | (refine call_pure (c15) ?_) | (refine call_pure (c16) ?_) | (refine call_pure (c17) ?_) | (refine call_pure (c18) ?_) | (refine call_pure (c19) ?_) | (refine call_pure (c20) ?_)))) | simp (maxSteps := 1000000) (disch := omega) only [go_sem, Nat.reduceAdd, Nat.reduceMul, Nat.reduceSub, Nat.reduceLeDiff, Nat.reduceEqDiff, Nat.reduceBEq, ↓reduceIte, reduceCtorEq, Int.reduceEq, Int.reduceLE, Int.reduceLT, Int.reduceAdd, Int.reduceSub, Int.reduceNeg, Int.reduceToNat, Int.reduceNe, Nat.reducePow, Nat.reduceShiftRight, Nat.reduceMod, mc_law11_alive, hd, *])
  all_goals (exact fin_tmp (.inr rfl) cE3)
end
section
theorem op_level {H : Type} {enc : TypeId × Value → H} {W : World} {sp : Nat → Bool} {hd : Bool} : ∀ n, OpAt enc W sp hd n 39 Lv.pv := by
  intro n
  induction n using Nat.strongRecOn with
  | ind n ih =>
    intro cs x h
    have hu : ∃ fs, Try.prog.underlying 39 = some (.struct fs) ∧ ∃ f0 f1 f2, fs = #[f0, f1, f2] ∧ f0.type = 3 ∧ f1.type = 3 ∧ f2.type = 22 ∧ f0.offset = 0 ∧ f1.offset = 1 ∧ f2.offset = 2 :=
      ⟨_, Try.underlying39, _, _, _, rfl, rfl, rfl, rfl, rfl, rfl, rfl⟩
    obtain ⟨fs, hu, f0, f1, f2, rfl, h0, h1, h2, o0, o1, o2⟩ := hu
    obtain ⟨xs, m, rfl, _, hlen, hxs, hx⟩ := DataW.trod_struct hu h
    have hc : Try.prog.cellsOf 39 = 3 := by kernel_rfl
    obtain ⟨a, ha⟩ := op_field hx hxs (i := 0) rfl h0 o0 (c := 1) (by kernel_rfl) (op_int Try.underlying3)
    obtain ⟨b, hb⟩ := op_field hx hxs (i := 1) rfl h1 o1 (c := 1) (by kernel_rfl) (op_int Try.underlying3)
    have hl : OpAt enc W sp hd m 22 (fun l : List Lv => [.sl 3 (l.map Lv.pv)]) := by
      cases m with
      | zero => exact op_zero
      | succ m => exact op_slice Try.underlying22 (by kernel_rfl) (by omega) (ih m (by omega))
    obtain ⟨l, hl⟩ := op_field hx hxs (i := 2) rfl h2 o2 (c := 1) (by kernel_rfl) hl
    rw [List.drop_zero] at ha
    have h3 := rep_split (rep_split ha hb) hl
    rw [hc] at hlen
    rw [List.take_of_length_le (by omega)] at h3
    refine ⟨.mk a b l, ?_⟩
    simp only [Lv.pv]
    exact h3
section
variable {H : Type} {enc : TypeId × Value → H} {W : World} {cs : Array Value} {a : Option Addr} {len cap : Nat} {d : DataW H} {p : List MemPlace}
end
end
section
theorem fitsT_map : ∀ l : List {t : Tm // t.fits}, fitsT (l.map (·.1))
  | [] => trivial
  | x :: r => ⟨x.2, fitsT_map r⟩
theorem op_term {H : Type} {enc : TypeId × Value → H} {W : World} {sp : Nat → Bool} {hd : Bool} : ∀ n, OpAt enc W sp hd n 25 (fun t : {t : Tm // t.fits} => t.1.pv) := by
  intro n
  induction n using Nat.strongRecOn with
  | ind n ih =>
    intro cs x h
    have hu : ∃ fs, Try.prog.underlying 25 = some (.struct fs) ∧ ∃ f0 f1 f2 f3 f4, fs = #[f0, f1, f2, f3, f4] ∧ f0.type = 3 ∧ f1.type = 3 ∧ f2.type = 9 ∧ f3.type = 22 ∧ f4.type = 23 ∧ f0.offset = 0 ∧ f1.offset = 1 ∧ f2.offset = 2 ∧ f3.offset = 3 ∧ f4.offset = 4 :=
      ⟨_, Try.underlying25, _, _, _, _, _, rfl, rfl, rfl, rfl, rfl, rfl, rfl, rfl, rfl, rfl, rfl⟩
    obtain ⟨fs, hu, f0, f1, f2, f3, f4, rfl, h0, h1, h2, h3, h4, o0, o1, o2, o3, o4⟩ := hu
    obtain ⟨xs, m, rfl, _, hlen, hxs, hx⟩ := DataW.trod_struct hu h
    have hc : Try.prog.cellsOf 25 = 5 := by kernel_rfl
    obtain ⟨a, ha⟩ := op_field hx hxs (i := 0) rfl h0 o0 (c := 1) (by kernel_rfl) (op_int Try.underlying3)
    obtain ⟨b, hb⟩ := op_field hx hxs (i := 1) rfl h1 o1 (c := 1) (by kernel_rfl) (op_int Try.underlying3)
    obtain ⟨z, hz⟩ := op_field hx hxs (i := 2) rfl h2 o2 (c := 1) (by kernel_rfl) (op_string Try.underlying9)
    have hl : OpAt enc W sp hd m 22 (fun l : List Lv => [.sl 3 (l.map Lv.pv)]) := by
      cases m with
      | zero => exact op_zero
      | succ m => exact op_slice Try.underlying22 (by kernel_rfl) (by omega) (op_level m)
    have hl2 : OpAt enc W sp hd m 23 (fun l : List {t : Tm // t.fits} => [.sl 5 (l.map fun t => t.1.pv)]) := by
      cases m with
      | zero => exact op_zero
      | succ m => exact op_slice Try.underlying23 (by kernel_rfl) (by omega) (ih m (by omega))
    obtain ⟨l, hl⟩ := op_field hx hxs (i := 3) rfl h3 o3 (c := 1) (by kernel_rfl) hl
    obtain ⟨r, hr⟩ := op_field hx hxs (i := 4) rfl h4 o4 (c := 1) (by kernel_rfl) hl2
    rw [List.drop_zero] at ha
    have h5 := rep_split (rep_split (rep_split (rep_split ha hb) hz) hl) hr
    rw [hc] at hlen
    rw [List.take_of_length_le (by omega)] at h5
    refine ⟨⟨.mk a b z.1 l (r.map (·.1)), z.2, fitsT_map r⟩, ?_⟩
    simp only [Tm.pv, List.map_map]
    exact h5
section
variable {H : Type} {enc : TypeId × Value → H} {W : World} {cs : Array Value} {a : Option Addr} {len cap : Nat} {d : DataW H} {p : List MemPlace}
end
end
section
def ownLs (n : Nat) : List Lv := (List.range n).map fun (i : Nat) => Lv.mk 2 (i : Int) []
theorem ownLs_len (n : Nat) : (ownLs n).length = n := by simp [ownLs]
theorem ownLs_succ (n : Nat) : ownLs (n + 1) = ownLs n ++ [Lv.mk 2 (n : Int) []] := by simp [ownLs, List.range_succ]
theorem ownLs_get (n : Nat) (k : Int) (h0 : 0 ≤ k) (h1 : k < n) : (ownLs n).getD k.toNat (.mk 1 0 []) = .mk 2 k [] := by
  have hk : k.toNat < n := by omega
  simp only [ownLs, List.getD_eq_getElem?_getD, List.getElem?_map, List.getElem?_range hk, Option.map_some, Option.getD_some]
  rw [Int.toNat_of_nonneg h0]
mutual
theorem inst_own (n : Nat) : ∀ l : Lv, l.formed n = true → l.inst (ownLs n) = l
  | .mk k m args, h => by
    unfold Lv.formed at h
    unfold Lv.inst
    by_cases h2 : k = 2
    · subst h2
      simp only [if_true, show (2 : Int) ≠ 1 by decide, if_false, Bool.and_eq_true, decide_eq_true_eq] at h ⊢
      rw [ownLs_get n m h.1 h.2.1, List.eq_nil_of_length_eq_zero h.2.2]
    · rw [if_neg h2]
      have hl : formedL n args = true ∨ args = [] := by
        by_cases h1 : k = 1
        · rw [if_pos h1] at h
          simp only [Bool.and_eq_true, decide_eq_true_eq] at h
          exact .inr (List.eq_nil_of_length_eq_zero h.2.2)
        · rw [if_neg h1, if_neg h2] at h
          by_cases h3 : k = 3
          · rw [if_pos h3] at h
            simp only [Bool.and_eq_true, decide_eq_true_eq] at h
            exact .inl h.2.2
          · rw [if_neg h3] at h
            by_cases h4 : k = 4 ∨ k = 5
            · rw [if_pos h4] at h
              simp only [Bool.and_eq_true, decide_eq_true_eq] at h
              exact .inl h.2.2
            · rw [if_neg h4] at h
              cases h
      rcases hl with hl | rfl
      · rw [instL_own n args hl]
      · rfl
theorem instL_own (n : Nat) : ∀ ls : List Lv, formedL n ls = true → instL (ownLs n) ls = ls
  | [], _ => rfl
  | x :: r, h => by
    simp only [formedL, Bool.and_eq_true] at h
    rw [instL, inst_own n x h.1, instL_own n r h.2]
end
mutual
theorem grown_own (n : Nat) : ∀ l : Lv, l.formed n = true → l.grown (ownLs n) ≤ l.nodes
  | .mk k m args, h => by
    unfold Lv.formed at h
    unfold Lv.grown
    by_cases h2 : k = 2
    · subst h2
      simp only [if_true, show (2 : Int) ≠ 1 by decide, if_false, Bool.and_eq_true, decide_eq_true_eq] at h ⊢
      rw [ownLs_get n m h.1 h.2.1]
      simp only [Lv.nodes, nodesL]
      omega
    · rw [if_neg h2]
      have hl : formedL n args = true ∨ args = [] := by
        by_cases h1 : k = 1
        · rw [if_pos h1] at h
          simp only [Bool.and_eq_true, decide_eq_true_eq] at h
          exact .inr (List.eq_nil_of_length_eq_zero h.2.2)
        · rw [if_neg h1, if_neg h2] at h
          by_cases h3 : k = 3
          · rw [if_pos h3] at h
            simp only [Bool.and_eq_true, decide_eq_true_eq] at h
            exact .inl h.2.2
          · rw [if_neg h3] at h
            by_cases h4 : k = 4 ∨ k = 5
            · rw [if_pos h4] at h
              simp only [Bool.and_eq_true, decide_eq_true_eq] at h
              exact .inl h.2.2
            · rw [if_neg h4] at h
              cases h
      simp only [Lv.nodes]
      rcases hl with hl | rfl
      · have := grownL_own n args hl
        omega
      · simp [grownL, nodesL]
theorem grownL_own (n : Nat) : ∀ ls : List Lv, formedL n ls = true → grownL (ownLs n) ls ≤ nodesL ls
  | [], _ => by simp [grownL]
  | x :: r, h => by
    simp only [formedL, Bool.and_eq_true] at h
    have := grown_own n x h.1
    have := grownL_own n r h.2
    simp only [grownL, nodesL]
    omega
end
theorem ownLs_right (n : Nat) (h : n ≤ 4) : ((ownLs n).all (Lv.right 4)) = true := by
  rw [List.all_eq_true]
  intro x hx
  simp only [ownLs, List.mem_map, List.mem_range] at hx
  obtain ⟨i, hi, rfl⟩ := hx
  simp [Lv.right, Lv.nodes, nodesL, Lv.formed]
  omega
theorem instV_own (n : Nat) (l : Lv) (h : l.right n = true) : l.instV (ownLs n) = some l := by
  have h' := h
  simp only [Lv.right, Bool.and_eq_true, decide_eq_true_eq] at h'
  have hg := grown_own n l h'.2.2.2
  unfold Lv.instV
  rw [ownLs_len, h, ownLs_right n (by omega), decide_eq_true (by omega), inst_own n l h'.2.2.2]
  rfl
theorem insts_own (n : Nat) : ∀ ls : List Lv, ls.all (Lv.right n) = true → insts (ownLs n) ls = some ls
  | [], _ => rfl
  | x :: r, h => by
    simp only [List.all_cons, Bool.and_eq_true] at h
    simp only [insts, instV_own n x h.1, insts_own n r h.2]
theorem hasB_nil {n : Int} {s : ByteArray} {ls : List Lv} {args : List Tm} {a c : Int} (h : hasB n s ls args a 0 c = true) : ls = [] := by
  simp only [hasB, Bool.and_eq_true, decide_eq_true_eq] at h
  exact List.eq_nil_of_length_eq_zero (by omega)
theorem hasB_args {n : Int} {s : ByteArray} {ls : List Lv} {args : List Tm} {a b : Int} (h : hasB n s ls args a b 0 = true) : args = [] := by
  simp only [hasB, Bool.and_eq_true, decide_eq_true_eq] at h
  exact List.eq_nil_of_length_eq_zero (by omega)
theorem formed_split {np k kind n : Int} {s : ByteArray} {ls : List Lv} {args : List Tm} (h : (Tm.mk kind n s ls args).formed np k = true) : ls.all (Lv.right np) = true ∧ (args = [] ∨ formedA np k kind args.length 0 args = true) := by
  unfold Tm.formed at h
  split at h
  · simp only [Bool.and_eq_true] at h
    rw [hasB_nil h.2.2, hasB_args h.2.2]
    exact ⟨rfl, .inl rfl⟩
  · split at h
    · simp only [Bool.and_eq_true] at h
      refine ⟨?_, .inl (hasB_args h.1)⟩
      have hl := h.1
      simp only [hasB, Bool.and_eq_true, decide_eq_true_eq] at hl
      cases ls with
      | nil => rfl
      | cons x r =>
        have : r = [] := List.eq_nil_of_length_eq_zero (by have := hl.2.2.1; simp only [List.length_cons] at this; omega)
        subst this
        simpa [headR] using h.2
    · split at h
      · simp only [constB, Bool.and_eq_true, decide_eq_true_eq] at h
        exact ⟨h.2.2.2.2, .inl (List.eq_nil_of_length_eq_zero h.2.1)⟩
      · split at h
        · simp only [Bool.and_eq_true] at h
          rw [hasB_nil h.1]
          exact ⟨rfl, .inr h.2⟩
        · split at h
          · simp only [Bool.and_eq_true] at h
            rw [hasB_nil h.1]
            exact ⟨rfl, .inr h.2⟩
          · cases h
mutual
theorem putL_own (n : Nat) : ∀ (t : Tm) (k : Int), t.formed n k = true → t.putL (ownLs n) = some t
  | .mk kind m s ls args, k, h => by
    obtain ⟨h1, h2⟩ := formed_split h
    simp only [Tm.putL, insts_own n ls h1]
    rcases h2 with rfl | h2
    · simp only [putLs]
    · rw [putLs_own n args _ _ _ _ h2]
theorem putLs_own (n : Nat) : ∀ (ts : List Tm) (k kind : Int) (len i : Nat), formedA n k kind len i ts = true → putLs (ownLs n) ts = some ts
  | [], _, _, _, _, _ => rfl
  | x :: r, k, kind, len, i, h => by
    simp only [formedA, Bool.and_eq_true] at h
    rw [putLs, putL_own n x _ h.1, putLs_own n r _ _ _ _ h.2]
end
mutual
theorem tm_formed_mono (np : Int) : ∀ (t : Tm) (k k' : Int), k ≤ k' → t.formed np k = true → t.formed np k' = true
  | .mk kind n s ls args, k, k', hk, h => by
    unfold Tm.formed at h ⊢
    split at h
    · rename_i e
      rw [if_pos e]
      simp only [Bool.and_eq_true, decide_eq_true_eq] at h ⊢
      exact ⟨h.1, by omega, h.2.2⟩
    · rename_i e1
      rw [if_neg e1]
      split at h
      · rename_i e; rw [if_pos e]; exact h
      · rename_i e2
        rw [if_neg e2]
        split at h
        · rename_i e; rw [if_pos e]; exact h
        · rename_i e3
          rw [if_neg e3]
          split at h
          · rename_i e
            rw [if_pos e]
            simp only [Bool.and_eq_true] at h ⊢
            exact ⟨h.1, tm_formedA_mono np args _ _ _ _ _ hk h.2⟩
          · rename_i e4
            rw [if_neg e4]
            split at h
            · rename_i e
              rw [if_pos e]
              simp only [Bool.and_eq_true] at h ⊢
              exact ⟨h.1, tm_formedA_mono np args _ _ _ _ _ hk h.2⟩
            · cases h
theorem tm_formedA_mono (np : Int) : ∀ (ts : List Tm) (k k' kind : Int) (len i : Nat), k ≤ k' → formedA np k kind len i ts = true → formedA np k' kind len i ts = true
  | [], _, _, _, _, _, _, _ => rfl
  | x :: r, k, k', kind, len, i, hk, h => by
    simp only [formedA, Bool.and_eq_true] at h ⊢
    exact ⟨tm_formed_mono np x _ _ (by omega) h.1, tm_formedA_mono np r _ _ _ _ _ hk h.2⟩
end
theorem levelsR_own (n : Nat) (t : Tm) (h : t.right n 0 = true) : levelsR t (ownLs n) = some t := by
  simp only [Tm.right, Bool.and_eq_true, decide_eq_true_eq] at h
  have hf := tm_formed_mono n t _ 1125899906842624 (by omega) h.2.2.2.2
  have hr : t.right (ownLs n).length 1125899906842624 = true := by
    simp only [Tm.right, ownLs_len, Bool.and_eq_true, decide_eq_true_eq]
    exact ⟨by omega, by omega, by omega, h.2.2.2.1, hf⟩
  unfold levelsR
  rw [if_pos hr, putL_own n t _ hf]
  simp only []
  rw [if_pos h.2.2.2.1]
theorem atR_own (n : Nat) (t : Tm) (h : t.right n 0 = true) : atR n t (ownLs n) = (some t, 0) := by
  have h4 : n ≤ 4 := by simp only [Tm.right, Bool.and_eq_true, decide_eq_true_eq] at h; omega
  unfold atR
  have hr := ownLs_right n h4
  have ha : ((ownLs n).any fun l => !l.right 4) = false := by
    rw [List.any_eq_false]
    intro x hx
    rw [List.all_eq_true] at hr
    simp [hr x hx]
  rw [if_neg (by rw [ownLs_len, ha]; simp), levelsR_own n t h]
mutual
theorem lv_same_self : ∀ l : Lv, l.same l = true
  | .mk k n args => by simp [Lv.same, lvs_same_self args]
theorem lvs_same_self : ∀ ls : List Lv, sameL ls ls = true
  | [] => rfl
  | x :: r => by simp [sameL, lv_same_self x, lvs_same_self r]
end
mutual
theorem tm_same_self : ∀ t : Tm, t.same t = true
  | .mk k n s ls args => by simp [Tm.same, lvs_same_self ls, tms_same_self args, sameB]
theorem tms_same_self : ∀ ts : List Tm, sameT ts ts = true
  | [] => rfl
  | x :: r => by simp [sameT, tm_same_self x, tms_same_self r]
end
mutual
theorem nodes_massD : ∀ t : Tm, t.nodes ≤ t.mass
  | .mk k n s ls args => by have := nodesT_massD args; simp only [Tm.nodes, Tm.mass]; omega
theorem nodesT_massD : ∀ ts : List Tm, nodesT ts ≤ massT ts
  | [] => Nat.le_refl _
  | t :: r => by have := nodes_massD t; have := nodesT_massD r; simp only [nodesT, massT]; omega
end
end
section
set_option maxRecDepth 20000
attribute [local go_sem] pv_len pv_take Nat.add_assoc tm_len tm_take pv_one tm_one id_ne id_ne' id_ne2 List.append_assoc tm_take_app tm_drop_app tm_d6 tm_d7 tm_d8 tm_d9 tm_d10 tm_d11 tm_d12 tm_d13 tm_d14 tm_d15 ent_len ent_take ent_one tpvB_len tpvB_take tpvB_one c_blockZ z_normal z_ret z_exit dcl_len dcl_take dcl_one
theorem ZSt.row (t : Nat) (s : St) {id n sz : Nat} {b : Bool} {es : List (List PV)} (hs : s.s t = .osl id 0 n sz) (hH : s.H id = some ⟨es.flatten, b⟩) (hl : es.length = n) (hz : ∀ e ∈ es, e.length = sz) (hi : immL es.flatten = true) :
    ZSt t s ⟨upd s.s t (.fsl sz es), less (fun j => decide (j = id)) s.H, s.nx⟩ := by
  obtain ⟨f, H, nx⟩ := s
  have h := ZSt.frg t (fun j => decide (j = id)) 1 f H nx
  have e : frgF (fun j => decide (j = id)) 1 H (f t) = .fsl sz es := by
    have hlen : es.flatten.length = n * sz := by
      subst hl
      clear hs hH h hi
      induction es with
      | nil => simp
      | cons e r ih =>
        rw [List.flatten_cons, List.length_append, ih (fun x hx => hz x (by simp [hx])), hz e (by simp), List.length_cons, Nat.succ_mul]
        omega
    have hs' : f t = .osl id 0 n sz := hs
    have hH' : H id = some ⟨es.flatten, b⟩ := hH
    rw [hs']
    simp only [frgF, decide_true, if_true, hH', List.drop_zero]
    rw [if_pos (by omega), List.take_of_length_le (by omega)]
    rw [List.map_id']
    congr 1
    subst hl
    clear hs hH h hi hs' hH' hlen
    induction es with
    | nil => rfl
    | cons e r ih =>
      have he := hz e (by simp)
      rw [List.length_cons, List.flatten_cons, chunks, List.take_left' he, List.drop_left' he, ih (fun x hx => hz x (by simp [hx]))]
  rw [e] at h
  exact h
theorem zeroE_p : PPure Try.prog F.ref00_SameEntry [.agg noEnt.pv, .agg [.sc (.int .i64 0), .sc (.int .i64 0), .sc (.string ⟨#[]⟩), .sc (.int .i64 0), .sc (.int .i64 0), .sc (.string ⟨#[]⟩), .sc (.slice none 0 0), .sc (.slice none 0 0), .sc (.int .i64 0), .sc (.int .i64 0), .sc (.string ⟨#[]⟩), .sc (.slice none 0 0), .sc (.slice none 0 0), .sc (.int .i64 0), .sc (.string ⟨#[]⟩), .sc (.int .i64 0), .sc (.int .i64 0), .sc (.int .i64 0), .sc (.slice none 0 0)]] (.sc (.bool true)) := by
  have h := SameEntry_p noEnt noEnt
  have e : noEnt.same noEnt = true := by kernel_rfl
  rw [e] at h
  exact h.weak ⟨.refl _, Weak.agg noEnt_weak, trivial⟩ (.refl _)
theorem dcl_great_no {d : Dcl} (h : d.great = false) : d.typ.nodes ≤ 2 ^ 40 ∧ d.val.nodes ≤ 2 ^ 40 := by
  simp only [Dcl.great, decide_eq_false_iff_not, not_or] at h
  have h1 := nodes_massD d.typ
  have h2 := nodes_massD d.val
  have h3 := h.2
  simp only [Dcl.mass] at h3
  omega
def ownRow (i : Nat) : List PV := [.sc (.int .i64 2), .sc (.int .i64 i), .sc (.slice none 0 0)]
def ownC (n : Nat) : List (List PV) := (List.range n).map ownRow
theorem ownC_len (n : Nat) : (ownC n).length = n := by simp [ownC]
theorem ownC_row (n : Nat) : ∀ e ∈ ownC n, e.length = 3 := by
  intro e he
  simp only [ownC, List.mem_map] at he
  obtain ⟨i, _, rfl⟩ := he
  rfl
theorem ownC_succ (n : Nat) : (ownC (n + 1)).flatten = (ownC n).flatten ++ [.sc (.int .i64 2), .sc (.int .i64 n), .sc (.slice none 0 0)] := by simp [ownC, List.range_succ, ownRow]
theorem ownC_flat : ∀ n, (ownC n).flatten.length = n * 3
  | 0 => rfl
  | n + 1 => by rw [ownC_succ, List.length_append, ownC_flat n]; simp; omega
theorem ownC_imm : ∀ n, immL (ownC n).flatten = true
  | 0 => rfl
  | n + 1 => by rw [ownC_succ, immL_append, ownC_imm n]; rfl
theorem ownC_weak : ∀ n, WeakL (ownC n).flatten ((ownLs n).map Lv.pv).flatten
  | 0 => trivial
  | n + 1 => by
    rw [ownC_succ, ownLs_succ, List.map_append, List.flatten_append]
    refine WeakL.append (ownC_weak n) ?_
    simp only [List.map_cons, List.map_nil, Lv.pv, List.flatten_cons, List.flatten_nil, List.append_nil]
    exact ⟨.refl _, .refl _, .nil 3, trivial⟩
theorem ownC_sl (n : Nat) : Weak (.fsl 3 (ownC n)) (.sl 3 ((ownLs n).map Lv.pv)) :=
  (Weak.fsl 3 _).trans (Weak.sl (by rw [ownC_len, List.length_map, ownLs_len]) (fun e he => by obtain ⟨l, _, rfl⟩ := List.mem_map.1 he; exact pv_len l) (ownC_weak n))
set_option maxHeartbeats 16000000 in
theorem declPlains_core (ha : PPure Try.prog F.law11_alive [] (.sc (.bool true))) (d : Dcl) (hf : d.fits) (h : Int) : PPure Try.prog F.law11_DeclPlains [.agg d.pv, .sc (.int .i64 h)] (.sc (.bool true)) := by
  refine pure_by is_law11_DeclPlains (by simp) rfl fun hb nx => ?_
  clear hb
  have c1 := great08_p d hf
  clear hf
  cases hg : d.great with
  | true =>
    rw [hg] at c1
    clear hg
    repeat' (first | ((with_reducible first | refine wA (by omega) ?_ | refine wB (by omega) ?_ | refine wC (by omega) ?_ | refine wD (by omega) ?_ | refine wE ?_ ?_ | refine wF ?_ ?_ | refine wG ?_ ?_ | refine wH ?_ ?_ | refine wI ?_ ?_ | refine wJ ?_ ?_ | refine wK ?_ ?_ | refine wL ?_ ?_) <;> intro _) | (((with_reducible refine call_id ?_); (first | (refine call_pure (ha) ?_) | (refine call_pure (c1) ?_)))) | simp (maxSteps := 1000000) (disch := omega) only [go_sem, Nat.reduceAdd, Nat.reduceMul, Nat.reduceSub, Nat.reduceLeDiff, Nat.reduceEqDiff, Nat.reduceBEq, ↓reduceIte, reduceCtorEq, Int.reduceEq, Int.reduceLE, Int.reduceLT, Int.reduceAdd, Int.reduceSub, Int.reduceNeg, Int.reduceToNat, Int.reduceNe, Nat.reducePow, Nat.reduceShiftRight, Nat.reduceMod, mc_law11_DeclPlains, dcl_take, dcl_one, *])
    all_goals (exact fin_tmp (.inr rfl) cE3)
  | false =>
  rw [hg] at c1
  obtain ⟨n1, n2⟩ := dcl_great_no hg
  have c2 := Plain_p d h n1 n2
  have c3 := zeroE_p
  have c4 := Formed08_p d
  clear hg n1 n2
  by_cases h5 : d.kind = 5 ∨ d.formed = false
  · have e1 : d.plainE h = noEnt := if_pos h5
    have e2 : d.plainN h = 10 := if_pos h5
    rw [e1, e2] at c2
    have hfk : decide (d.kind = 5) = true ∨ decide (d.kind = 5) = false ∧ d.formed = false := by
      by_cases k : d.kind = 5
      · exact .inl (decide_eq_true k)
      · exact .inr ⟨decide_eq_false k, h5.resolve_left k⟩
    have hkt : d.pv.take 1 = [.sc (.int .i64 d.kind)] := rfl
    clear e1 e2 h5
    rcases hfk with hk | ⟨hk, hf⟩
    · rw [decide_eq_true_eq] at hk
      repeat' (first | ((with_reducible first | refine wA (by omega) ?_ | refine wB (by omega) ?_ | refine wC (by omega) ?_ | refine wD (by omega) ?_ | refine wE ?_ ?_ | refine wF ?_ ?_ | refine wG ?_ ?_ | refine wH ?_ ?_ | refine wI ?_ ?_ | refine wJ ?_ ?_ | refine wK ?_ ?_ | refine wL ?_ ?_) <;> intro _) | (((with_reducible refine call_id ?_); (first | (refine call_pure (ha) ?_) | (refine call_pure (c1) ?_) | (refine call_pure (c2) ?_) | (refine call_pure (c3) ?_)))) | simp (maxSteps := 1000000) (disch := omega) only [go_sem, Nat.reduceAdd, Nat.reduceMul, Nat.reduceSub, Nat.reduceLeDiff, Nat.reduceEqDiff, Nat.reduceBEq, ↓reduceIte, reduceCtorEq, Int.reduceEq, Int.reduceLE, Int.reduceLT, Int.reduceAdd, Int.reduceSub, Int.reduceNeg, Int.reduceToNat, Int.reduceNe, Nat.reducePow, Nat.reduceShiftRight, Nat.reduceMod, mc_law11_DeclPlains, dcl_take, dcl_one, *])
      all_goals (exact fin_tmp (.inr rfl) cE3)
    · rw [decide_eq_false_iff_not] at hk
      rw [hf] at c4
      repeat' (first | ((with_reducible first | refine wA (by omega) ?_ | refine wB (by omega) ?_ | refine wC (by omega) ?_ | refine wD (by omega) ?_ | refine wE ?_ ?_ | refine wF ?_ ?_ | refine wG ?_ ?_ | refine wH ?_ ?_ | refine wI ?_ ?_ | refine wJ ?_ ?_ | refine wK ?_ ?_ | refine wL ?_ ?_) <;> intro _) | (((with_reducible refine call_id ?_); (first | (refine call_pure (ha) ?_) | (refine call_pure (c1) ?_) | (refine call_pure (c2) ?_) | (refine call_pure (c3) ?_) | (refine call_pure (c4) ?_)))) | simp (maxSteps := 1000000) (disch := omega) only [go_sem, Nat.reduceAdd, Nat.reduceMul, Nat.reduceSub, Nat.reduceLeDiff, Nat.reduceEqDiff, Nat.reduceBEq, ↓reduceIte, reduceCtorEq, Int.reduceEq, Int.reduceLE, Int.reduceLT, Int.reduceAdd, Int.reduceSub, Int.reduceNeg, Int.reduceToNat, Int.reduceNe, Nat.reducePow, Nat.reduceShiftRight, Nat.reduceMod, mc_law11_DeclPlains, dcl_take, dcl_one, *])
      all_goals (exact fin_tmp (.inr rfl) cE3)
  cases hr : (d.ent h).right with
  | false =>
    have e1 : d.plainE h = noEnt := by unfold Dcl.plainE; rw [if_neg h5, hr]; rfl
    have e2 : d.plainN h = 12 := by unfold Dcl.plainN; rw [if_neg h5, hr]; rfl
    rw [e1, e2] at c2
    clear e1 e2 h5 hr c4
    repeat' (first | ((with_reducible first | refine wA (by omega) ?_ | refine wB (by omega) ?_ | refine wC (by omega) ?_ | refine wD (by omega) ?_ | refine wE ?_ ?_ | refine wF ?_ ?_ | refine wG ?_ ?_ | refine wH ?_ ?_ | refine wI ?_ ?_ | refine wJ ?_ ?_ | refine wK ?_ ?_ | refine wL ?_ ?_) <;> intro _) | (((with_reducible refine call_id ?_); (first | (refine call_pure (ha) ?_) | (refine call_pure (c1) ?_) | (refine call_pure (c2) ?_) | (refine call_pure (c3) ?_)))) | simp (maxSteps := 1000000) (disch := omega) only [go_sem, Nat.reduceAdd, Nat.reduceMul, Nat.reduceSub, Nat.reduceLeDiff, Nat.reduceEqDiff, Nat.reduceBEq, ↓reduceIte, reduceCtorEq, Int.reduceEq, Int.reduceLE, Int.reduceLT, Int.reduceAdd, Int.reduceSub, Int.reduceNeg, Int.reduceToNat, Int.reduceNe, Nat.reducePow, Nat.reduceShiftRight, Nat.reduceMod, mc_law11_DeclPlains, dcl_take, dcl_one, *])
    all_goals (exact fin_tmp (.inr rfl) cE3)
  | true =>
  have e1 : d.plainE h = d.ent h := by unfold Dcl.plainE; rw [if_neg h5, hr]; rfl
  have e2 : d.plainN h = 0 := by unfold Dcl.plainN; rw [if_neg h5, hr]; rfl
  rw [e1, e2] at c2
  clear e1 e2 h5 c3 c4
  obtain ⟨_, hp0, hp4⟩ := ent_right_nodes hr
  obtain ⟨n, hn⟩ : ∃ n : Nat, d.params = (n : Int) := ⟨d.params.toNat, (Int.toNat_of_nonneg hp0).symm⟩
  have hn4 : n ≤ 4 := by have : d.params ≤ 4 := hp4; omega
  have ht : d.typ.right n 0 = true := by
    have := hr
    simp only [Ent.right, Bool.and_eq_true, decide_eq_true_eq] at this
    have h := this.2.2.2.2.2.1
    simp only [Dcl.ent] at h
    rwa [hn] at h
  have hv : d.kind = 2 → d.val.right n 0 = true := fun hk => by
    have := hr
    simp only [Ent.right, Bool.and_eq_true, decide_eq_true_eq] at this
    have h := this.2.2.2.2.2.2.1
    unfold valueB at h
    simp only [Dcl.ent] at h
    have h2 : (if d.kind = 2 ∨ d.kind = 3 ∨ d.kind = 4 then d.val.right d.params 0 else if d.kind = 6 then noughtB d.val || d.val.right (min (d.params + 1) 4) 0 else noughtB d.val) = true := h
    rw [if_pos (.inl hk), hn] at h2
    exact h2
  have c5 : PPure Try.prog F.decl_Type [.agg (d.ent h).pv, .fsl 3 (ownC n)] (.tup [.agg d.typ.pv, .sc (.int .i64 0)]) := by
    have h1 := Type_p (d.ent h) (ownLs n)
    have e : typeR (d.ent h) (ownLs n) = (some d.typ, 0) := by
      unfold typeR
      rw [if_pos hr]
      show atR d.params d.typ _ = _
      rw [hn]
      exact atR_own n d.typ ht
    rw [e] at h1
    exact h1.weak ⟨.refl _, ownC_sl n, trivial⟩ (.refl _)
  have c7 := eRight_p (d.ent h)
  rw [hr] at c7
  have c8 := SameTerm_p d.typ.size d.typ d.typ (Nat.le_refl _)
  rw [tm_same_self] at c8
  have c9 := unfolds_p (d.ent h)
  rw [hr] at c9
  have hk9 : decide ((d.ent h).kind = 2) = decide (d.kind = 2) := rfl
  rw [hk9, Bool.and_true] at c9
  by_cases hk : d.kind = 2
  · have c6 : PPure Try.prog F.decl_Value [.agg (d.ent h).pv, .fsl 3 (ownC n)] (.tup [.agg d.val.pv, .sc (.int .i64 0)]) := by
      have h1 := eValue_p (d.ent h) (ownLs n)
      have e : eValR (d.ent h) (ownLs n) = (some d.val, 0) := by
        unfold eValR
        rw [if_pos hr, if_pos (show (d.ent h).kind = 2 from hk)]
        show atR d.params d.val _ = _
        rw [hn]
        exact atR_own n d.val (hv hk)
      rw [e] at h1
      exact h1.weak ⟨.refl _, ownC_sl n, trivial⟩ (.refl _)
    have c10 := SameTerm_p d.val.size d.val d.val (Nat.le_refl _)
    rw [tm_same_self] at c10
    rw [decide_eq_true hk] at c9
    clear ht hv hr hp0 hp4 hk9
    obtain ⟨kind, params, name, typ, val, fixed, ctors⟩ := d
    simp only at hk hn
    subst hk hn
    simp only [Dcl.pv, Dcl.ent, Ent.pv, if_true] at c1 c2 c5 c6 c7 c8 c9 c10 ⊢
    repeat' (first | ((with_reducible first | refine wA (by omega) ?_ | refine wB (by omega) ?_ | refine wC (by omega) ?_ | refine wD (by omega) ?_ | refine wE ?_ ?_ | refine wF ?_ ?_ | refine wG ?_ ?_ | refine wH ?_ ?_ | refine wI ?_ ?_ | refine wJ ?_ ?_ | refine wK ?_ ?_ | refine wL ?_ ?_) <;> intro _) | (((with_reducible refine call_id ?_); (first | (refine call_pure (ha) ?_) | (refine call_pure (c1) ?_) | (refine call_pure (c2) ?_)))) | simp (maxSteps := 1000000) (disch := omega) only [go_sem, Nat.reduceAdd, Nat.reduceMul, Nat.reduceSub, Nat.reduceLeDiff, Nat.reduceEqDiff, Nat.reduceBEq, ↓reduceIte, reduceCtorEq, Int.reduceEq, Int.reduceLE, Int.reduceLT, Int.reduceAdd, Int.reduceSub, Int.reduceNeg, Int.reduceToNat, Int.reduceNe, Nat.reducePow, Nat.reduceShiftRight, Nat.reduceMod, mc_law11_DeclPlains, tm_t12, tm_t7, tm_t16, tm_t11, List.all_append, PV.one, *])
    refine c_loopW 18005602416460160 (by kernel_rfl) (fun j f H m => ∃ (i id : Nat) (w : Bool), j = n - i ∧ i ≤ n ∧ f 8 = .sc (.int .i64 i) ∧ f 7 = .osl id 0 i 3 ∧ id < m ∧ H id = some ⟨(ownC i).flatten, w⟩) _ ⟨0, _, true, rfl, Nat.zero_le _, cE1, cE1, ?mm, ?rr⟩ ?_
    case mm => simp (disch := omega) only [go_sem, Nat.reduceMul, Nat.reduceSub, Nat.reduceShiftRight, Nat.reduceMod, Nat.reduceEqDiff, Nat.reduceAdd, ↓reduceIte, Nat.reduceLeDiff]; all_goals omega
    case rr => simp (disch := omega) only [go_sem, Nat.reduceMul, Nat.reduceSub, Nat.reduceShiftRight, Nat.reduceMod, Nat.reduceEqDiff, Nat.reduceAdd, ↓reduceIte, Nat.reduceLeDiff]; all_goals rfl
    rintro _ f H m ⟨i, id, w, rfl, hi, e8, e7, hm, hH⟩
    have hl3 := ownC_flat i
    by_cases hlt : i < n
    · have hsn := ownC_succ i
      have hz : (i + 1) * 40 ≤ 140737488355328 ∧ i ≤ 4611686018427387903 := by omega
      repeat' (first | ((with_reducible first | refine wA (by omega) ?_ | refine wB (by omega) ?_ | refine wC (by omega) ?_ | refine wD (by omega) ?_ | refine wE ?_ ?_ | refine wF ?_ ?_ | refine wG ?_ ?_ | refine wH ?_ ?_ | refine wI ?_ ?_ | refine wJ ?_ ?_ | refine wK ?_ ?_ | refine wL ?_ ?_) <;> intro _) | simp (maxSteps := 1000000) (disch := omega) only [go_sem, Nat.reduceAdd, Nat.reduceMul, Nat.reduceSub, Nat.reduceLeDiff, Nat.reduceEqDiff, Nat.reduceBEq, ↓reduceIte, reduceCtorEq, Int.reduceEq, Int.reduceLE, Int.reduceLT, Int.reduceAdd, Int.reduceSub, Int.reduceNeg, Int.reduceToNat, Int.reduceNe, Nat.reducePow, Nat.reduceShiftRight, Nat.reduceMod, *])
      refine Nx.mk (n - (i + 1)) cE1 ⟨i + 1, m + 8, false, rfl, cE1, by simp [upd], by simp [upd], by show m + 8 < m + 13; omega, by simp [upd, hsn]⟩
    · obtain rfl : i = n := by omega
      repeat' (first | ((with_reducible first | refine wA (by omega) ?_ | refine wB (by omega) ?_ | refine wC (by omega) ?_ | refine wD (by omega) ?_ | refine wE ?_ ?_ | refine wF ?_ ?_ | refine wG ?_ ?_ | refine wH ?_ ?_ | refine wI ?_ ?_ | refine wJ ?_ ?_ | refine wK ?_ ?_ | refine wL ?_ ?_) <;> intro _) | simp (maxSteps := 1000000) (disch := omega) only [go_sem, Nat.reduceAdd, Nat.reduceMul, Nat.reduceSub, Nat.reduceLeDiff, Nat.reduceEqDiff, Nat.reduceBEq, ↓reduceIte, reduceCtorEq, Int.reduceEq, Int.reduceLE, Int.reduceLT, Int.reduceAdd, Int.reduceSub, Int.reduceNeg, Int.reduceToNat, Int.reduceNe, Nat.reducePow, Nat.reduceShiftRight, Nat.reduceMod, *])
      refine ⟨_, ZSt.row (id := id) (n := i) (sz := 3) (b := w) (es := ownC i) 7 _ ?z1 hH (ownC_len i) (ownC_row i) (ownC_imm i), ?_⟩
      case z1 => simp (disch := omega) only [go_sem, Nat.reduceMul, Nat.reduceSub, Nat.reduceShiftRight, Nat.reduceMod, Nat.reduceEqDiff, Nat.reduceAdd, ↓reduceIte, Nat.reduceLeDiff, e7]
      repeat' (first | ((with_reducible first | refine wA (by omega) ?_ | refine wB (by omega) ?_ | refine wC (by omega) ?_ | refine wD (by omega) ?_ | refine wE ?_ ?_ | refine wF ?_ ?_ | refine wG ?_ ?_ | refine wH ?_ ?_ | refine wI ?_ ?_ | refine wJ ?_ ?_ | refine wK ?_ ?_ | refine wL ?_ ?_) <;> intro _) | (((with_reducible refine call_id ?_); (first | (refine call_pure (c5) ?_) | (refine call_pure (c6) ?_) | (refine call_pure (c7) ?_) | (refine call_pure (c8) ?_) | (refine call_pure (c9) ?_) | (refine call_pure (c10) ?_)))) | simp (maxSteps := 1000000) (disch := omega) only [go_sem, Nat.reduceAdd, Nat.reduceMul, Nat.reduceSub, Nat.reduceLeDiff, Nat.reduceEqDiff, Nat.reduceBEq, ↓reduceIte, reduceCtorEq, Int.reduceEq, Int.reduceLE, Int.reduceLT, Int.reduceAdd, Int.reduceSub, Int.reduceNeg, Int.reduceToNat, Int.reduceNe, Nat.reducePow, Nat.reduceShiftRight, Nat.reduceMod, tm_t12, tm_t7, tm_t16, tm_t11, List.all_append, PV.one, *])
      all_goals (exact fin_tmp (.inr rfl) cE3)
  · have c6 : PPure Try.prog F.decl_Value [.agg (d.ent h).pv, .fsl 3 (ownC n)] (.tup [.agg [.sc (.int .i64 0), .sc (.int .i64 0), .sc (.string ⟨#[]⟩), .sc (.slice none 0 0), .sc (.slice none 0 0)], .sc (.int .i64 13)]) := by
      have h1 := eValue_p (d.ent h) (ownLs n)
      have e : eValR (d.ent h) (ownLs n) = (none, 13) := by
        unfold eValR
        rw [if_pos hr, if_neg (show ¬ (d.ent h).kind = 2 from hk)]
      rw [e] at h1
      exact h1.weak ⟨.refl _, ownC_sl n, trivial⟩ (.refl _)
    rw [decide_eq_false hk] at c9
    clear ht hv hr hp0 hp4 hk9
    obtain ⟨kind, params, name, typ, val, fixed, ctors⟩ := d
    simp only at hk hn
    subst hn
    simp only [Dcl.pv, Dcl.ent, Ent.pv, hk, if_false] at c1 c2 c5 c6 c7 c8 c9 ⊢
    repeat' (first | ((with_reducible first | refine wA (by omega) ?_ | refine wB (by omega) ?_ | refine wC (by omega) ?_ | refine wD (by omega) ?_ | refine wE ?_ ?_ | refine wF ?_ ?_ | refine wG ?_ ?_ | refine wH ?_ ?_ | refine wI ?_ ?_ | refine wJ ?_ ?_ | refine wK ?_ ?_ | refine wL ?_ ?_) <;> intro _) | (((with_reducible refine call_id ?_); (first | (refine call_pure (ha) ?_) | (refine call_pure (c1) ?_) | (refine call_pure (c2) ?_)))) | simp (maxSteps := 1000000) (disch := omega) only [go_sem, Nat.reduceAdd, Nat.reduceMul, Nat.reduceSub, Nat.reduceLeDiff, Nat.reduceEqDiff, Nat.reduceBEq, ↓reduceIte, reduceCtorEq, Int.reduceEq, Int.reduceLE, Int.reduceLT, Int.reduceAdd, Int.reduceSub, Int.reduceNeg, Int.reduceToNat, Int.reduceNe, Nat.reducePow, Nat.reduceShiftRight, Nat.reduceMod, mc_law11_DeclPlains, tm_t12, tm_t7, tm_t16, tm_t11, List.all_append, PV.one, *])
    refine c_loopW 18005602416460160 (by kernel_rfl) (fun j f H m => ∃ (i id : Nat) (w : Bool), j = n - i ∧ i ≤ n ∧ f 8 = .sc (.int .i64 i) ∧ f 7 = .osl id 0 i 3 ∧ id < m ∧ H id = some ⟨(ownC i).flatten, w⟩) _ ⟨0, _, true, rfl, Nat.zero_le _, cE1, cE1, ?mm, ?rr⟩ ?_
    case mm => simp (disch := omega) only [go_sem, Nat.reduceMul, Nat.reduceSub, Nat.reduceShiftRight, Nat.reduceMod, Nat.reduceEqDiff, Nat.reduceAdd, ↓reduceIte, Nat.reduceLeDiff]; all_goals omega
    case rr => simp (disch := omega) only [go_sem, Nat.reduceMul, Nat.reduceSub, Nat.reduceShiftRight, Nat.reduceMod, Nat.reduceEqDiff, Nat.reduceAdd, ↓reduceIte, Nat.reduceLeDiff]; all_goals rfl
    rintro _ f H m ⟨i, id, w, rfl, hi, e8, e7, hm, hH⟩
    have hl3 := ownC_flat i
    by_cases hlt : i < n
    · have hsn := ownC_succ i
      have hz : (i + 1) * 40 ≤ 140737488355328 ∧ i ≤ 4611686018427387903 := by omega
      repeat' (first | ((with_reducible first | refine wA (by omega) ?_ | refine wB (by omega) ?_ | refine wC (by omega) ?_ | refine wD (by omega) ?_ | refine wE ?_ ?_ | refine wF ?_ ?_ | refine wG ?_ ?_ | refine wH ?_ ?_ | refine wI ?_ ?_ | refine wJ ?_ ?_ | refine wK ?_ ?_ | refine wL ?_ ?_) <;> intro _) | simp (maxSteps := 1000000) (disch := omega) only [go_sem, Nat.reduceAdd, Nat.reduceMul, Nat.reduceSub, Nat.reduceLeDiff, Nat.reduceEqDiff, Nat.reduceBEq, ↓reduceIte, reduceCtorEq, Int.reduceEq, Int.reduceLE, Int.reduceLT, Int.reduceAdd, Int.reduceSub, Int.reduceNeg, Int.reduceToNat, Int.reduceNe, Nat.reducePow, Nat.reduceShiftRight, Nat.reduceMod, *])
      refine Nx.mk (n - (i + 1)) cE1 ⟨i + 1, m + 8, false, rfl, cE1, by simp [upd], by simp [upd], by show m + 8 < m + 13; omega, by simp [upd, hsn]⟩
    · obtain rfl : i = n := by omega
      repeat' (first | ((with_reducible first | refine wA (by omega) ?_ | refine wB (by omega) ?_ | refine wC (by omega) ?_ | refine wD (by omega) ?_ | refine wE ?_ ?_ | refine wF ?_ ?_ | refine wG ?_ ?_ | refine wH ?_ ?_ | refine wI ?_ ?_ | refine wJ ?_ ?_ | refine wK ?_ ?_ | refine wL ?_ ?_) <;> intro _) | simp (maxSteps := 1000000) (disch := omega) only [go_sem, Nat.reduceAdd, Nat.reduceMul, Nat.reduceSub, Nat.reduceLeDiff, Nat.reduceEqDiff, Nat.reduceBEq, ↓reduceIte, reduceCtorEq, Int.reduceEq, Int.reduceLE, Int.reduceLT, Int.reduceAdd, Int.reduceSub, Int.reduceNeg, Int.reduceToNat, Int.reduceNe, Nat.reducePow, Nat.reduceShiftRight, Nat.reduceMod, *])
      refine ⟨_, ZSt.row (id := id) (n := i) (sz := 3) (b := w) (es := ownC i) 7 _ ?z1 hH (ownC_len i) (ownC_row i) (ownC_imm i), ?_⟩
      case z1 => simp (disch := omega) only [go_sem, Nat.reduceMul, Nat.reduceSub, Nat.reduceShiftRight, Nat.reduceMod, Nat.reduceEqDiff, Nat.reduceAdd, ↓reduceIte, Nat.reduceLeDiff, e7]
      repeat' (first | ((with_reducible first | refine wA (by omega) ?_ | refine wB (by omega) ?_ | refine wC (by omega) ?_ | refine wD (by omega) ?_ | refine wE ?_ ?_ | refine wF ?_ ?_ | refine wG ?_ ?_ | refine wH ?_ ?_ | refine wI ?_ ?_ | refine wJ ?_ ?_ | refine wK ?_ ?_ | refine wL ?_ ?_) <;> intro _) | (((with_reducible refine call_id ?_); (first | (refine call_pure (c5) ?_) | (refine call_pure (c6) ?_) | (refine call_pure (c7) ?_) | (refine call_pure (c8) ?_) | (refine call_pure (c9) ?_)))) | simp (maxSteps := 1000000) (disch := omega) only [go_sem, Nat.reduceAdd, Nat.reduceMul, Nat.reduceSub, Nat.reduceLeDiff, Nat.reduceEqDiff, Nat.reduceBEq, ↓reduceIte, reduceCtorEq, Int.reduceEq, Int.reduceLE, Int.reduceLT, Int.reduceAdd, Int.reduceSub, Int.reduceNeg, Int.reduceToNat, Int.reduceNe, Nat.reducePow, Nat.reduceShiftRight, Nat.reduceMod, tm_t12, tm_t7, tm_t16, tm_t11, List.all_append, PV.one, *])
      all_goals (exact fin_tmp (.inr rfl) cE3)
theorem DeclPlains_p (d : {d : Dcl // d.fits}) (h : Int) : PPure Try.prog F.law11_DeclPlains [.agg d.1.pv, .sc (.int .i64 h)] (.sc (.bool true)) := declPlains_core alive11_p d.1 d.2 h
end
section
theorem op_ctor {H : Type} {enc : TypeId × Value → H} {W : World} {sp : Nat → Bool} {hd : Bool} : ∀ n, OpAt enc W sp hd n 57 (fun c : {c : Ctr // c.name.size ≤ 9223372036854775807 ∧ c.typ.fits} => c.1.pv) := by
  intro n cs x h
  have hu : ∃ fs, Try.prog.underlying 57 = some (.struct fs) ∧ ∃ f0 f1, fs = #[f0, f1] ∧ f0.type = 9 ∧ f1.type = 25 ∧ f0.offset = 0 ∧ f1.offset = 1 :=
    ⟨_, Try.underlying57, _, _, rfl, rfl, rfl, rfl, rfl⟩
  obtain ⟨fs, hu, f0, f1, rfl, h0, h1, o0, o1⟩ := hu
  obtain ⟨xs, m, rfl, _, hlen, hxs, hx⟩ := DataW.trod_struct hu h
  have hc : Try.prog.cellsOf 57 = 6 := by kernel_rfl
  obtain ⟨a0, k0⟩ := op_field hx hxs (i := 0) rfl h0 o0 (c := 1) (by kernel_rfl) (op_string Try.underlying9)
  obtain ⟨a1, k1⟩ := op_field hx hxs (i := 1) rfl h1 o1 (c := 5) (by kernel_rfl) (op_term m)
  rw [List.drop_zero] at k0
  have hall := rep_split k0 k1
  rw [hc] at hlen
  rw [List.take_of_length_le (by omega)] at hall
  refine ⟨⟨⟨a0.1, a1.1⟩, ?_, a1.2⟩, ?_⟩
  · exact a0.2
  · simpa only [Ctr.pv, List.cons_append, List.nil_append] using hall
theorem fitsC_map : ∀ l : List {c : Ctr // c.name.size ≤ 9223372036854775807 ∧ c.typ.fits}, fitsC (l.map (·.1))
  | [] => trivial
  | x :: r => ⟨x.2, fitsC_map r⟩
theorem op_decl {H : Type} {enc : TypeId × Value → H} {W : World} {sp : Nat → Bool} {hd : Bool} : ∀ n, OpAt enc W sp hd n 28 (fun d : {d : Dcl // d.fits} => d.1.pv) := by
  intro n cs x h
  have hu : ∃ fs, Try.prog.underlying 28 = some (.struct fs) ∧ ∃ f0 f1 f2 f3 f4 f5 f6, fs = #[f0, f1, f2, f3, f4, f5, f6] ∧ f0.type = 3 ∧ f1.type = 3 ∧ f2.type = 9 ∧ f3.type = 25 ∧ f4.type = 25 ∧ f5.type = 3 ∧ f6.type = 26 ∧ f0.offset = 0 ∧ f1.offset = 1 ∧ f2.offset = 2 ∧ f3.offset = 3 ∧ f4.offset = 8 ∧ f5.offset = 13 ∧ f6.offset = 14 :=
    ⟨_, Try.underlying28, _, _, _, _, _, _, _, rfl, rfl, rfl, rfl, rfl, rfl, rfl, rfl, rfl, rfl, rfl, rfl, rfl, rfl, rfl⟩
  obtain ⟨fs, hu, f0, f1, f2, f3, f4, f5, f6, rfl, h0, h1, h2, h3, h4, h5, h6, o0, o1, o2, o3, o4, o5, o6⟩ := hu
  obtain ⟨xs, m, rfl, _, hlen, hxs, hx⟩ := DataW.trod_struct hu h
  have hc : Try.prog.cellsOf 28 = 15 := by kernel_rfl
  obtain ⟨a0, k0⟩ := op_field hx hxs (i := 0) rfl h0 o0 (c := 1) (by kernel_rfl) (op_int Try.underlying3)
  obtain ⟨a1, k1⟩ := op_field hx hxs (i := 1) rfl h1 o1 (c := 1) (by kernel_rfl) (op_int Try.underlying3)
  obtain ⟨a2, k2⟩ := op_field hx hxs (i := 2) rfl h2 o2 (c := 1) (by kernel_rfl) (op_string Try.underlying9)
  obtain ⟨a3, k3⟩ := op_field hx hxs (i := 3) rfl h3 o3 (c := 5) (by kernel_rfl) (op_term m)
  obtain ⟨a4, k4⟩ := op_field hx hxs (i := 4) rfl h4 o4 (c := 5) (by kernel_rfl) (op_term m)
  obtain ⟨a5, k5⟩ := op_field hx hxs (i := 5) rfl h5 o5 (c := 1) (by kernel_rfl) (op_int Try.underlying3)
  have hl : OpAt enc W sp hd m 26 (fun l : List {c : Ctr // c.name.size ≤ 9223372036854775807 ∧ c.typ.fits} => [.sl 6 (l.map fun c => c.1.pv)]) := by
    cases m with
    | zero => exact op_zero
    | succ m => exact op_slice Try.underlying26 (by kernel_rfl) (by omega) (op_ctor m)
  obtain ⟨a6, k6⟩ := op_field hx hxs (i := 6) rfl h6 o6 (c := 1) (by kernel_rfl) hl
  rw [List.drop_zero] at k0
  have hall := rep_split (rep_split (rep_split (rep_split (rep_split (rep_split k0 k1) k2) k3) k4) k5) k6
  rw [hc] at hlen
  rw [List.take_of_length_le (by omega)] at hall
  refine ⟨⟨⟨a0, a1, a2.1, a3.1, a4.1, a5, a6.map (·.1)⟩, a2.2, a3.2, a4.2, fitsC_map a6⟩, ?_⟩
  simp only [Dcl.pv, List.map_map]
  have e : (Ctr.pv ∘ fun c : {c : Ctr // c.name.size ≤ 9223372036854775807 ∧ c.typ.fits} => c.1) = fun c => c.1.pv := rfl
  rw [e]
  simpa only [List.append_assoc, List.cons_append, List.nil_append] using hall
section
variable {H : Type} {enc : TypeId × Value → H} {W : World} {cs : Array Value} {d : DataW H} {p : List MemPlace}
theorem open_decl (h : DataW.Trod enc Try.prog W 0 (fun _ => true) true 28 (.agg cs) d p) : ∃ e : {d : Dcl // d.fits}, Rep (allV W) (.agg e.1.pv) (.agg cs) := trod_agg (fun n => op_decl n) h
end
end
end Go.Proofs.Ytnoilfjeamffnaa
