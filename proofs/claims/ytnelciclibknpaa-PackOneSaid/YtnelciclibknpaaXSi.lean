/-
  Plain values: PkZ, PkC, PkD, PkE, PkG, PkF, PkN, PkO, PkP, PlA, PlD, PlE, PlK, PlB, PlC, PlF, DeG.
-/
import Derived.Test.YtnelciclibknpaaXSa
import Derived.Test.YtnelciclibknpaaXSb
import Derived.Test.YtnelciclibknpaaXSc
import Derived.Test.YtnelciclibknpaaXSd
import Derived.Test.YtnelciclibknpaaXSe
import Derived.Test.YtnelciclibknpaaXSf
import Derived.Test.YtnelciclibknpaaXSg
import Derived.Test.YtnelciclibknpaaXSh
set_option linter.unusedVariables false
set_option linter.unusedSimpArgs false
namespace Go.Proofs.Ytnelciclibknpaa
open Go.RowKit
attribute [local go_sem ↓] c_seq c_region c_cond c_block c_ret c_skip c_exit c_cont t_normal t_ret t_exit b_normal b_ret b_exit run_nil run_cons g_some o_mv o_pick o_bin o_un o_ld o_ldf o_bld o_len o_mkf o_nilc o_fa o_fd o_ia o_iaa o_ix o_ixs o_ext o_al o_bxf o_bxt o_bsl o_bslf o_mks o_st o_stf o_call o_rng o_nxt o_callm o_callmA o_calvm o_calv cond_true cond_false upd_get sigF_cons o_eqa o_mm o_app o_slc o_apps o_cvt
attribute [local go_sem] num_nil num_cons isP chunks rngV next_is next_iter val_some new_some st_some stf_some guard_tt guard_ff guard_tf guard_ft guard_un calv_fn put_some put_none ev_tmp ev_const ev_func sig_eq sigF_nil q0 q1 nilcV faV fdV iaV iaaV ixV ixsV extV mksV loadP storeP lenPV binPV unPV intBin partsP fillP zeros PV.good PV.cellsOf PV.one q2 q3 q4 q5 q6 q7 q8 q9 q10 q11 q12 q13 q14 q15 q16 q17 q18 q19 q20 q21 q22 q23 q24 q25 q26 q27 q28 q29 q30 q31 q32 q33 q34 q35 q36 q37 q38 wrap64 app_some mmL mmV mm2 eqE eqParts eqInt eqBool eqStr partV q39 q40 pickV q41 q42 q43 q44 q45 q46 q47 q48 q49 appE oldOf rowOf updL q50 q51 q52 q53 zlt ovr_get ite_neN ite_eqN q54 q55 q56 q57 q58 q59 q60 q61 q62 q63 q64 q65 q66 q67 tailP_f tailP_t tailF_f tailF_t slcP bndO capO slcLen intOf Option.isSome_none Option.isNone_none Option.isSome_some Option.isNone_some nilP slc_sl slc_csl slc_osl slc_osl0 slc_ocap slc_str appR appS cvP shiftB false_or List.append_nil List.length_append resP resPs resP1 PV.sc.injEq Value.bool.injEq Value.int.injEq
section
set_option maxRecDepth 20000
attribute [local go_sem] Nat.add_assoc id_ne id_ne' id_ne2 List.append_assoc tm_len tm_take tm_one tm_take_app tm_drop_app tm_d6 tm_d7 tm_d8 tm_d9 tm_d10 tm_d11 tm_d12 tm_d13 tm_d14 tm_d15 o_callmF o_ldoR apartR List.all_append
def ctorF (s : RS) : Ctr × RS := (⟨(nameF s).1, (wholeF (nameF s).2).1⟩, (wholeF (nameF s).2).2)
def declF (s : RS) : Dcl × RS :=
  if (numF s).1 = 2 ∨ (numF s).1 = 3 ∨ (numF s).1 = 4 then
    (⟨(numF s).1, (numF (nameF (numF s).2).2).1, (nameF (numF s).2).1, (wholeF (numF (nameF (numF s).2).2).2).1, (wholeF (wholeF (numF (nameF (numF s).2).2).2).2).1, 0, []⟩, (wholeF (wholeF (numF (nameF (numF s).2).2).2).2).2)
  else if (numF s).1 = 5 then
    (⟨(numF s).1, (numF (nameF (numF s).2).2).1, (nameF (numF s).2).1, (wholeF (numF (nameF (numF s).2).2).2).1, .mk 0 0 noStr [] [], (numF (wholeF (numF (nameF (numF s).2).2).2).2).1,
        (repF ctorF (min (numF (numF (wholeF (numF (nameF (numF s).2).2).2).2).2).1 9) (numF (numF (wholeF (numF (nameF (numF s).2).2).2).2).2).2).1⟩,
      (repF ctorF (min (numF (numF (wholeF (numF (nameF (numF s).2).2).2).2).2).1 9) (numF (numF (wholeF (numF (nameF (numF s).2).2).2).2).2).2).2)
  else (⟨(numF s).1, (numF (nameF (numF s).2).2).1, (nameF (numF s).2).1, (wholeF (numF (nameF (numF s).2).2).2).1, .mk 0 0 noStr [] [], 0, []⟩, (wholeF (numF (nameF (numF s).2).2).2).2)
theorem ctor_shrink (s : RS) : (ctorF s).2.l.length ≤ s.l.length := Nat.le_trans (whole_shrink _) (nameF_len s)
theorem tm_y7 (t : Tm) (r : List PV) : (t.pv ++ r).take 7 = t.pv ++ r.take 2 := by rw [List.take_append, tm_len, List.take_of_length_le (by rw [tm_len]; omega)]
attribute [local go_sem] tm_y7
theorem tm_y6 (t : Tm) (r : List PV) : (t.pv ++ r).take 6 = t.pv ++ r.take 1 := by rw [List.take_append, tm_len, List.take_of_length_le (by rw [tm_len]; omega)]
attribute [local go_sem] tm_y6
theorem tm_y12 (t : Tm) (r : List PV) : (t.pv ++ r).take 12 = t.pv ++ r.take 7 := by rw [List.take_append, tm_len, List.take_of_length_le (by rw [tm_len]; omega)]
attribute [local go_sem] tm_y12
theorem tm_y11 (t : Tm) (r : List PV) : (t.pv ++ r).take 11 = t.pv ++ r.take 6 := by rw [List.take_append, tm_len, List.take_of_length_le (by rw [tm_len]; omega)]
attribute [local go_sem] tm_y11
theorem tm_y10 (t : Tm) (r : List PV) : (t.pv ++ r).take 10 = t.pv ++ r.take 5 := by rw [List.take_append, tm_len, List.take_of_length_le (by rw [tm_len]; omega)]
attribute [local go_sem] tm_y10
theorem dcl_tell (G : Nat → Bool) (H : Nat → Option PObj) {k p : Int} {nm : ByteArray} {ty val : Tm} {v : List PV} {fx : Int} {a : PV} {ctors : List Ctr} (hv : immL v = true) (hw : WeakL v val.pv) (ha : Weak (frgF G 1 H a) (.sl 6 (ctors.map Ctr.pv))) :
    Weak (frgF G 2 H (.agg (.sc (.int .i64 k) :: .sc (.int .i64 p) :: .sc (.string nm) :: (ty.pv ++ (v ++ [.sc (.int .i64 fx), a]))))) (.agg (Dcl.mk k p nm ty val fx ctors).pv) := by
  have e : frgF G 2 H (.agg (.sc (.int .i64 k) :: .sc (.int .i64 p) :: .sc (.string nm) :: (ty.pv ++ (v ++ [.sc (.int .i64 fx), a])))) = .agg (.sc (.int .i64 k) :: .sc (.int .i64 p) :: .sc (.string nm) :: (ty.pv ++ (v ++ [.sc (.int .i64 fx), frgF G 1 H a]))) := by
    simp only [frgF, List.map_cons, List.map_append, List.map_nil, frgF_immL G H 1 ty.pv (tm_imm ty), frgF_immL G H 1 v hv]
  rw [e]
  simp only [Dcl.pv]
  exact Weak.agg ⟨.refl _, .refl _, .refl _, WeakL.append (WeakL.refl _) (WeakL.append hw ⟨.refl _, ha, trivial⟩)⟩
theorem z5_imm : immL ([.sc (.int .i64 0), .sc (.int .i64 0), .sc (.string ⟨#[]⟩), .sc (.slice none 0 0), .sc (.slice none 0 0)] : List PV) = true := rfl
theorem z5_weak : WeakL [.sc (.int .i64 0), .sc (.int .i64 0), .sc (.string ⟨#[]⟩), .sc (.slice none 0 0), .sc (.slice none 0 0)] (Tm.mk 0 0 noStr [] []).pv := by
  simp only [Tm.pv]
  exact ⟨.refl _, .refl _, .refl _, .nil 3, .nil 5, trivial⟩
theorem frg_nil6 (G : Nat → Bool) (H : Nat → Option PObj) : Weak (frgF G 1 H (.sc (.slice none 0 0))) (.sl 6 (([] : List Ctr).map Ctr.pv)) := .nil 6
theorem ctr_lenZ (c : Ctr) : c.pv.length = 6 := ctr_len c
attribute [local go_sem] ctr_lenZ
set_option maxHeartbeats 32000000 in
theorem decl_m (s : RS) (hl : s.l.length ≤ 2 ^ 40) (rid : Nat) (w : Bool) (H : Nat → Option PObj) (nx : Nat) (hr : rid < nx) (hH : H rid = some ⟨rdC s, w⟩) :
    PMut Try.prog F.pack_reader_decl [.optr rid 0] H nx (RdQ H nx rid w (declF s).2 (.agg (declF s).1.pv)) := by
  refine rd_tell is_pack_reader_decl.enters hr ?_
  refine mut_by is_pack_reader_decl (by simp) fun hb => ?_
  clear hb
  unfold declF
  have hl1 : (numF s).2.l.length ≤ 2 ^ 40 := Nat.le_trans (numF_len s) hl
  have hl2 : (nameF (numF s).2).2.l.length ≤ 2 ^ 40 := Nat.le_trans (nameF_len _) hl1
  have hl3 : (numF (nameF (numF s).2).2).2.l.length ≤ 2 ^ 40 := Nat.le_trans (numF_len _) hl2
  have hl4 : (wholeF (numF (nameF (numF s).2).2).2).2.l.length ≤ 2 ^ 40 := Nat.le_trans (whole_shrink _) hl3
  repeat' (first | ((with_reducible first | refine wA (by omega) ?_ | refine wB (by omega) ?_ | refine wC (by omega) ?_ | refine wD (by omega) ?_ | refine wE ?_ ?_ | refine wF ?_ ?_ | refine wG ?_ ?_ | refine wH ?_ ?_ | refine wI ?_ ?_ | refine wJ ?_ ?_ | refine wK ?_ ?_ | refine wL ?_ ?_) <;> intro _) | simp (maxSteps := 1000000) (disch := omega) only [go_sem, seval, mc_pack_reader_decl, *])
  refine call_mut (number_m s hl rid w _ _ (Nat.lt_of_lt_of_le hr (Nat.le_add_right _ _)) (upd_out (by omega) hH)) ?_
  rintro H1 m1 r1 ⟨hm1', rfl, g1, k1'⟩ -
  have hm1 : nx + 12 ≤ m1 := hm1'
  have b1 : H1 nx = some ⟨[.sc (.int .i64 0), .sc (.int .i64 0), .sc (.string ⟨#[]⟩), .sc (.int .i64 0), .sc (.int .i64 0), .sc (.string ⟨#[]⟩), .sc (.slice none 0 0), .sc (.slice none 0 0), .sc (.int .i64 0), .sc (.int .i64 0), .sc (.string ⟨#[]⟩), .sc (.slice none 0 0), .sc (.slice none 0 0), .sc (.int .i64 0), .sc (.slice none 0 0)], true⟩ := (k1' nx (Nat.lt_add_of_pos_right (by decide)) (by omega)).trans (upd_same _ _ _)
  have k1 : Kept (∀ j, j < nx → j ≠ rid → H1 j = H j) := fun j e1 e2 => (k1' j (Nat.lt_of_lt_of_le e1 (Nat.le_add_right _ _)) e2).trans (upd_ne _ _ (by omega))
  clear hm1' k1' hH
  generalize (numF s).1 = k at *
  generalize (numF s).2 = s1 at *
  repeat' (first | ((with_reducible first | refine wA (by omega) ?_ | refine wB (by omega) ?_ | refine wC (by omega) ?_ | refine wD (by omega) ?_ | refine wE ?_ ?_ | refine wF ?_ ?_ | refine wG ?_ ?_ | refine wH ?_ ?_ | refine wI ?_ ?_ | refine wJ ?_ ?_ | refine wK ?_ ?_ | refine wL ?_ ?_) <;> intro _) | simp (maxSteps := 1000000) (disch := omega) only [go_sem, seval, *])
  refine call_mut (name_m s1 hl1 rid w _ _ (show rid < m1 by omega) g1) ?_
  rintro H2 m2 r2 ⟨hm2', rfl, g2, k2'⟩ -
  have hm2 : m1 ≤ m2 := Nat.le_trans (Nat.le_refl _) hm2'
  have b2 : H2 nx = some ⟨[.sc (.int .i64 0), .sc (.int .i64 0), .sc (.string ⟨#[]⟩), .sc (.int .i64 0), .sc (.int .i64 0), .sc (.string ⟨#[]⟩), .sc (.slice none 0 0), .sc (.slice none 0 0), .sc (.int .i64 0), .sc (.int .i64 0), .sc (.string ⟨#[]⟩), .sc (.slice none 0 0), .sc (.slice none 0 0), .sc (.int .i64 0), .sc (.slice none 0 0)], true⟩ := (k2' nx (Nat.lt_of_lt_of_le (show nx < m1 by omega) (Nat.le_refl _)) (by omega)).trans (b1)
  have k2 : Kept (∀ j, j < nx → j ≠ rid → H2 j = H j) := fun j e1 e2 => (k2' j (Nat.lt_of_lt_of_le (show j < m1 by omega) (Nat.le_refl _)) e2).trans (k1 j e1 e2)
  clear hm2' k2' k1 b1 g1
  generalize (nameF s1).1 = nm at *
  generalize (nameF s1).2 = s2 at *
  repeat' (first | ((with_reducible first | refine wA (by omega) ?_ | refine wB (by omega) ?_ | refine wC (by omega) ?_ | refine wD (by omega) ?_ | refine wE ?_ ?_ | refine wF ?_ ?_ | refine wG ?_ ?_ | refine wH ?_ ?_ | refine wI ?_ ?_ | refine wJ ?_ ?_ | refine wK ?_ ?_ | refine wL ?_ ?_) <;> intro _) | simp (maxSteps := 1000000) (disch := omega) only [go_sem, seval, *])
  refine call_mut (number_m s2 hl2 rid w _ _ (show rid < m2 by omega) g2) ?_
  rintro H3 m3 r3 ⟨hm3', rfl, g3, k3'⟩ -
  have hm3 : m2 ≤ m3 := Nat.le_trans (Nat.le_refl _) hm3'
  have b3 : H3 nx = some ⟨[.sc (.int .i64 0), .sc (.int .i64 0), .sc (.string ⟨#[]⟩), .sc (.int .i64 0), .sc (.int .i64 0), .sc (.string ⟨#[]⟩), .sc (.slice none 0 0), .sc (.slice none 0 0), .sc (.int .i64 0), .sc (.int .i64 0), .sc (.string ⟨#[]⟩), .sc (.slice none 0 0), .sc (.slice none 0 0), .sc (.int .i64 0), .sc (.slice none 0 0)], true⟩ := (k3' nx (Nat.lt_of_lt_of_le (show nx < m2 by omega) (Nat.le_refl _)) (by omega)).trans (b2)
  have k3 : Kept (∀ j, j < nx → j ≠ rid → H3 j = H j) := fun j e1 e2 => (k3' j (Nat.lt_of_lt_of_le (show j < m2 by omega) (Nat.le_refl _)) e2).trans (k2 j e1 e2)
  clear hm3' k3' k2 b2 g2
  generalize (numF s2).1 = p at *
  generalize (numF s2).2 = s3 at *
  repeat' (first | ((with_reducible first | refine wA (by omega) ?_ | refine wB (by omega) ?_ | refine wC (by omega) ?_ | refine wD (by omega) ?_ | refine wE ?_ ?_ | refine wF ?_ ?_ | refine wG ?_ ?_ | refine wH ?_ ?_ | refine wI ?_ ?_ | refine wJ ?_ ?_ | refine wK ?_ ?_ | refine wL ?_ ?_) <;> intro _) | simp (maxSteps := 1000000) (disch := omega) only [go_sem, seval, *])
  refine call_mut (whole_m s3 hl3 rid w _ _ (show rid < m3 by omega) g3) ?_
  rintro H4 m4 r4 ⟨hm4', rfl, g4, k4'⟩ -
  have hm4 : m3 ≤ m4 := Nat.le_trans (Nat.le_refl _) hm4'
  have b4 : H4 nx = some ⟨[.sc (.int .i64 0), .sc (.int .i64 0), .sc (.string ⟨#[]⟩), .sc (.int .i64 0), .sc (.int .i64 0), .sc (.string ⟨#[]⟩), .sc (.slice none 0 0), .sc (.slice none 0 0), .sc (.int .i64 0), .sc (.int .i64 0), .sc (.string ⟨#[]⟩), .sc (.slice none 0 0), .sc (.slice none 0 0), .sc (.int .i64 0), .sc (.slice none 0 0)], true⟩ := (k4' nx (Nat.lt_of_lt_of_le (show nx < m3 by omega) (Nat.le_refl _)) (by omega)).trans (b3)
  have k4 : Kept (∀ j, j < nx → j ≠ rid → H4 j = H j) := fun j e1 e2 => (k4' j (Nat.lt_of_lt_of_le (show j < m3 by omega) (Nat.le_refl _)) e2).trans (k3 j e1 e2)
  clear hm4' k4' k3 b3 g3
  generalize (wholeF s3).1 = ty at *
  generalize (wholeF s3).2 = s4 at *
  clear hl1 hl2 hl3
  have hty := tm_len ty
  obtain h | rfl | h : (k = 2 ∨ k = 3 ∨ k = 4) ∨ k = 5 ∨ (k ≠ 2 ∧ k ≠ 3 ∧ k ≠ 4 ∧ k ≠ 5) := by omega
  · rw [if_pos h]
    simp only
    obtain rfl | rfl | rfl := h
    · repeat' (first | ((with_reducible first | refine wA (by omega) ?_ | refine wB (by omega) ?_ | refine wC (by omega) ?_ | refine wD (by omega) ?_ | refine wE ?_ ?_ | refine wF ?_ ?_ | refine wG ?_ ?_ | refine wH ?_ ?_ | refine wI ?_ ?_ | refine wJ ?_ ?_ | refine wK ?_ ?_ | refine wL ?_ ?_) <;> intro _) | simp (maxSteps := 1000000) (disch := omega) only [go_sem, seval, *])
      refine call_mut (whole_m s4 hl4 rid w _ _ (Nat.lt_of_lt_of_le (show rid < m4 by omega) (by simp only [Nat.add_assoc]; exact Nat.le_add_right _ _)) (upd_out (by omega) (upd_out (by omega) g4))) ?_
      rintro H5 m5 r5 ⟨hm5', rfl, g5, k5'⟩ -
      have hm5 : m4 ≤ m5 := Nat.le_trans (by simp only [Nat.add_assoc]; exact Nat.le_add_right _ _) hm5'
      have b5 : H5 nx = some ⟨[.sc (.int .i64 0), .sc (.int .i64 0), .sc (.string ⟨#[]⟩), .sc (.int .i64 0), .sc (.int .i64 0), .sc (.string ⟨#[]⟩), .sc (.slice none 0 0), .sc (.slice none 0 0), .sc (.int .i64 0), .sc (.int .i64 0), .sc (.string ⟨#[]⟩), .sc (.slice none 0 0), .sc (.slice none 0 0), .sc (.int .i64 0), .sc (.slice none 0 0)], true⟩ := (k5' nx (Nat.lt_of_lt_of_le (show nx < m4 by omega) (by simp only [Nat.add_assoc]; exact Nat.le_add_right _ _)) (by omega)).trans (upd_out (by omega) (upd_out (by omega) (b4)))
      have c5 : H5 (nx + 10) = some ⟨.sc (.int .i64 (2 : Nat)) :: .sc (.int .i64 (p : Nat)) :: .sc (.string nm) :: (ty.pv ++ [.sc (.int .i64 0), .sc (.int .i64 0), .sc (.string ⟨#[]⟩), .sc (.slice none 0 0), .sc (.slice none 0 0), .sc (.int .i64 0), .sc (.slice none 0 0)]), true⟩ := (k5' (nx + 10) (Nat.lt_of_lt_of_le (show nx + 10 < m4 by omega) (by simp only [Nat.add_assoc]; exact Nat.le_add_right _ _)) (by omega)).trans (upd_same _ _ _)
      have k5 : Kept (∀ j, j < nx → j ≠ rid → H5 j = H j) := fun j e1 e2 => (k5' j (Nat.lt_of_lt_of_le (show j < m4 by omega) (by simp only [Nat.add_assoc]; exact Nat.le_add_right _ _)) e2).trans (upd_out (by omega) (upd_out (by omega) (k4 j e1 e2)))
      clear hm5' k5' k4 b4 g4
      have hv := tm_len (wholeF s4).1
      have hvi := tm_imm (wholeF s4).1
      generalize (wholeF s4).1 = v at *
      repeat' (first | ((with_reducible first | refine wA (by omega) ?_ | refine wB (by omega) ?_ | refine wC (by omega) ?_ | refine wD (by omega) ?_ | refine wE ?_ ?_ | refine wF ?_ ?_ | refine wG ?_ ?_ | refine wH ?_ ?_ | refine wI ?_ ?_ | refine wJ ?_ ?_ | refine wK ?_ ?_ | refine wL ?_ ?_) <;> intro _) | simp (maxSteps := 1000000) (disch := omega) only [go_sem, seval, *])
      refine fin_mut (.agg (.sc (.int .i64 (2 : Nat)) :: .sc (.int .i64 (p : Nat)) :: .sc (.string nm) :: (ty.pv ++ (v.pv ++ [.sc (.int .i64 0), .sc (.slice none 0 0)])))) (.inr rfl) cE2 ⟨by simp only [Nat.add_assoc]; exact Nat.le_trans (by omega) (Nat.le_add_right _ _), ⟨2, dcl_tell _ _ hvi (WeakL.refl _) (frg_nil6 _ _)⟩, upd_out (by omega) (upd_out (by omega) g5), fun j e1 e2 => upd_out (by omega) (upd_out (by omega) (k5 j e1 e2))⟩
    · repeat' (first | ((with_reducible first | refine wA (by omega) ?_ | refine wB (by omega) ?_ | refine wC (by omega) ?_ | refine wD (by omega) ?_ | refine wE ?_ ?_ | refine wF ?_ ?_ | refine wG ?_ ?_ | refine wH ?_ ?_ | refine wI ?_ ?_ | refine wJ ?_ ?_ | refine wK ?_ ?_ | refine wL ?_ ?_) <;> intro _) | simp (maxSteps := 1000000) (disch := omega) only [go_sem, seval, *])
      refine call_mut (whole_m s4 hl4 rid w _ _ (Nat.lt_of_lt_of_le (show rid < m4 by omega) (by simp only [Nat.add_assoc]; exact Nat.le_add_right _ _)) (upd_out (by omega) (upd_out (by omega) g4))) ?_
      rintro H5 m5 r5 ⟨hm5', rfl, g5, k5'⟩ -
      have hm5 : m4 ≤ m5 := Nat.le_trans (by simp only [Nat.add_assoc]; exact Nat.le_add_right _ _) hm5'
      have b5 : H5 nx = some ⟨[.sc (.int .i64 0), .sc (.int .i64 0), .sc (.string ⟨#[]⟩), .sc (.int .i64 0), .sc (.int .i64 0), .sc (.string ⟨#[]⟩), .sc (.slice none 0 0), .sc (.slice none 0 0), .sc (.int .i64 0), .sc (.int .i64 0), .sc (.string ⟨#[]⟩), .sc (.slice none 0 0), .sc (.slice none 0 0), .sc (.int .i64 0), .sc (.slice none 0 0)], true⟩ := (k5' nx (Nat.lt_of_lt_of_le (show nx < m4 by omega) (by simp only [Nat.add_assoc]; exact Nat.le_add_right _ _)) (by omega)).trans (upd_out (by omega) (upd_out (by omega) (b4)))
      have c5 : H5 (nx + 10) = some ⟨.sc (.int .i64 (3 : Nat)) :: .sc (.int .i64 (p : Nat)) :: .sc (.string nm) :: (ty.pv ++ [.sc (.int .i64 0), .sc (.int .i64 0), .sc (.string ⟨#[]⟩), .sc (.slice none 0 0), .sc (.slice none 0 0), .sc (.int .i64 0), .sc (.slice none 0 0)]), true⟩ := (k5' (nx + 10) (Nat.lt_of_lt_of_le (show nx + 10 < m4 by omega) (by simp only [Nat.add_assoc]; exact Nat.le_add_right _ _)) (by omega)).trans (upd_same _ _ _)
      have k5 : Kept (∀ j, j < nx → j ≠ rid → H5 j = H j) := fun j e1 e2 => (k5' j (Nat.lt_of_lt_of_le (show j < m4 by omega) (by simp only [Nat.add_assoc]; exact Nat.le_add_right _ _)) e2).trans (upd_out (by omega) (upd_out (by omega) (k4 j e1 e2)))
      clear hm5' k5' k4 b4 g4
      have hv := tm_len (wholeF s4).1
      have hvi := tm_imm (wholeF s4).1
      generalize (wholeF s4).1 = v at *
      repeat' (first | ((with_reducible first | refine wA (by omega) ?_ | refine wB (by omega) ?_ | refine wC (by omega) ?_ | refine wD (by omega) ?_ | refine wE ?_ ?_ | refine wF ?_ ?_ | refine wG ?_ ?_ | refine wH ?_ ?_ | refine wI ?_ ?_ | refine wJ ?_ ?_ | refine wK ?_ ?_ | refine wL ?_ ?_) <;> intro _) | simp (maxSteps := 1000000) (disch := omega) only [go_sem, seval, *])
      refine fin_mut (.agg (.sc (.int .i64 (3 : Nat)) :: .sc (.int .i64 (p : Nat)) :: .sc (.string nm) :: (ty.pv ++ (v.pv ++ [.sc (.int .i64 0), .sc (.slice none 0 0)])))) (.inr rfl) cE2 ⟨by simp only [Nat.add_assoc]; exact Nat.le_trans (by omega) (Nat.le_add_right _ _), ⟨2, dcl_tell _ _ hvi (WeakL.refl _) (frg_nil6 _ _)⟩, upd_out (by omega) (upd_out (by omega) g5), fun j e1 e2 => upd_out (by omega) (upd_out (by omega) (k5 j e1 e2))⟩
    · repeat' (first | ((with_reducible first | refine wA (by omega) ?_ | refine wB (by omega) ?_ | refine wC (by omega) ?_ | refine wD (by omega) ?_ | refine wE ?_ ?_ | refine wF ?_ ?_ | refine wG ?_ ?_ | refine wH ?_ ?_ | refine wI ?_ ?_ | refine wJ ?_ ?_ | refine wK ?_ ?_ | refine wL ?_ ?_) <;> intro _) | simp (maxSteps := 1000000) (disch := omega) only [go_sem, seval, *])
      refine call_mut (whole_m s4 hl4 rid w _ _ (Nat.lt_of_lt_of_le (show rid < m4 by omega) (by simp only [Nat.add_assoc]; exact Nat.le_add_right _ _)) (upd_out (by omega) (upd_out (by omega) g4))) ?_
      rintro H5 m5 r5 ⟨hm5', rfl, g5, k5'⟩ -
      have hm5 : m4 ≤ m5 := Nat.le_trans (by simp only [Nat.add_assoc]; exact Nat.le_add_right _ _) hm5'
      have b5 : H5 nx = some ⟨[.sc (.int .i64 0), .sc (.int .i64 0), .sc (.string ⟨#[]⟩), .sc (.int .i64 0), .sc (.int .i64 0), .sc (.string ⟨#[]⟩), .sc (.slice none 0 0), .sc (.slice none 0 0), .sc (.int .i64 0), .sc (.int .i64 0), .sc (.string ⟨#[]⟩), .sc (.slice none 0 0), .sc (.slice none 0 0), .sc (.int .i64 0), .sc (.slice none 0 0)], true⟩ := (k5' nx (Nat.lt_of_lt_of_le (show nx < m4 by omega) (by simp only [Nat.add_assoc]; exact Nat.le_add_right _ _)) (by omega)).trans (upd_out (by omega) (upd_out (by omega) (b4)))
      have c5 : H5 (nx + 10) = some ⟨.sc (.int .i64 (4 : Nat)) :: .sc (.int .i64 (p : Nat)) :: .sc (.string nm) :: (ty.pv ++ [.sc (.int .i64 0), .sc (.int .i64 0), .sc (.string ⟨#[]⟩), .sc (.slice none 0 0), .sc (.slice none 0 0), .sc (.int .i64 0), .sc (.slice none 0 0)]), true⟩ := (k5' (nx + 10) (Nat.lt_of_lt_of_le (show nx + 10 < m4 by omega) (by simp only [Nat.add_assoc]; exact Nat.le_add_right _ _)) (by omega)).trans (upd_same _ _ _)
      have k5 : Kept (∀ j, j < nx → j ≠ rid → H5 j = H j) := fun j e1 e2 => (k5' j (Nat.lt_of_lt_of_le (show j < m4 by omega) (by simp only [Nat.add_assoc]; exact Nat.le_add_right _ _)) e2).trans (upd_out (by omega) (upd_out (by omega) (k4 j e1 e2)))
      clear hm5' k5' k4 b4 g4
      have hv := tm_len (wholeF s4).1
      have hvi := tm_imm (wholeF s4).1
      generalize (wholeF s4).1 = v at *
      repeat' (first | ((with_reducible first | refine wA (by omega) ?_ | refine wB (by omega) ?_ | refine wC (by omega) ?_ | refine wD (by omega) ?_ | refine wE ?_ ?_ | refine wF ?_ ?_ | refine wG ?_ ?_ | refine wH ?_ ?_ | refine wI ?_ ?_ | refine wJ ?_ ?_ | refine wK ?_ ?_ | refine wL ?_ ?_) <;> intro _) | simp (maxSteps := 1000000) (disch := omega) only [go_sem, seval, *])
      refine fin_mut (.agg (.sc (.int .i64 (4 : Nat)) :: .sc (.int .i64 (p : Nat)) :: .sc (.string nm) :: (ty.pv ++ (v.pv ++ [.sc (.int .i64 0), .sc (.slice none 0 0)])))) (.inr rfl) cE2 ⟨by simp only [Nat.add_assoc]; exact Nat.le_trans (by omega) (Nat.le_add_right _ _), ⟨2, dcl_tell _ _ hvi (WeakL.refl _) (frg_nil6 _ _)⟩, upd_out (by omega) (upd_out (by omega) g5), fun j e1 e2 => upd_out (by omega) (upd_out (by omega) (k5 j e1 e2))⟩
  · rw [if_neg (by decide), if_pos rfl]
    simp only
    have hl5 : (numF s4).2.l.length ≤ 2 ^ 40 := Nat.le_trans (numF_len _) hl4
    have hl6 : (numF (numF s4).2).2.l.length ≤ 2 ^ 40 := Nat.le_trans (numF_len _) hl5
    repeat' (first | ((with_reducible first | refine wA (by omega) ?_ | refine wB (by omega) ?_ | refine wC (by omega) ?_ | refine wD (by omega) ?_ | refine wE ?_ ?_ | refine wF ?_ ?_ | refine wG ?_ ?_ | refine wH ?_ ?_ | refine wI ?_ ?_ | refine wJ ?_ ?_ | refine wK ?_ ?_ | refine wL ?_ ?_) <;> intro _) | simp (maxSteps := 1000000) (disch := omega) only [go_sem, seval, *])
    refine call_mut (number_m s4 hl4 rid w _ _ (Nat.lt_of_lt_of_le (show rid < m4 by omega) (by simp only [Nat.add_assoc]; exact Nat.le_add_right _ _)) (upd_out (by omega) (upd_out (by omega) g4))) ?_
    rintro H5 m5 r5 ⟨hm5', rfl, g5, k5'⟩ -
    have hm5 : m4 ≤ m5 := Nat.le_trans (by simp only [Nat.add_assoc]; exact Nat.le_add_right _ _) hm5'
    have b5 : H5 nx = some ⟨[.sc (.int .i64 0), .sc (.int .i64 0), .sc (.string ⟨#[]⟩), .sc (.int .i64 0), .sc (.int .i64 0), .sc (.string ⟨#[]⟩), .sc (.slice none 0 0), .sc (.slice none 0 0), .sc (.int .i64 0), .sc (.int .i64 0), .sc (.string ⟨#[]⟩), .sc (.slice none 0 0), .sc (.slice none 0 0), .sc (.int .i64 0), .sc (.slice none 0 0)], true⟩ := (k5' nx (Nat.lt_of_lt_of_le (show nx < m4 by omega) (by simp only [Nat.add_assoc]; exact Nat.le_add_right _ _)) (by omega)).trans (upd_out (by omega) (upd_out (by omega) (b4)))
    have c5 : H5 (nx + 10) = some ⟨.sc (.int .i64 (5 : Nat)) :: .sc (.int .i64 (p : Nat)) :: .sc (.string nm) :: (ty.pv ++ [.sc (.int .i64 0), .sc (.int .i64 0), .sc (.string ⟨#[]⟩), .sc (.slice none 0 0), .sc (.slice none 0 0), .sc (.int .i64 0), .sc (.slice none 0 0)]), true⟩ := (k5' (nx + 10) (Nat.lt_of_lt_of_le (show nx + 10 < m4 by omega) (by simp only [Nat.add_assoc]; exact Nat.le_add_right _ _)) (by omega)).trans (upd_same _ _ _)
    have k5 : Kept (∀ j, j < nx → j ≠ rid → H5 j = H j) := fun j e1 e2 => (k5' j (Nat.lt_of_lt_of_le (show j < m4 by omega) (by simp only [Nat.add_assoc]; exact Nat.le_add_right _ _)) e2).trans (upd_out (by omega) (upd_out (by omega) (k4 j e1 e2)))
    clear hm5' k5' k4 b4 g4
    generalize (numF s4).1 = fx at *
    generalize (numF s4).2 = s5 at *
    repeat' (first | ((with_reducible first | refine wA (by omega) ?_ | refine wB (by omega) ?_ | refine wC (by omega) ?_ | refine wD (by omega) ?_ | refine wE ?_ ?_ | refine wF ?_ ?_ | refine wG ?_ ?_ | refine wH ?_ ?_ | refine wI ?_ ?_ | refine wJ ?_ ?_ | refine wK ?_ ?_ | refine wL ?_ ?_) <;> intro _) | simp (maxSteps := 1000000) (disch := omega) only [go_sem, seval, *])
    refine call_mut (number_m s5 hl5 rid w _ _ (Nat.lt_of_lt_of_le (show rid < m5 by omega) (by simp only [Nat.add_assoc]; exact Nat.le_add_right _ _)) (upd_out (by omega) g5)) ?_
    rintro H6 m6 r6 ⟨hm6', rfl, g6, k6'⟩ -
    have hm6 : m5 ≤ m6 := Nat.le_trans (by simp only [Nat.add_assoc]; exact Nat.le_add_right _ _) hm6'
    have b6 : H6 nx = some ⟨[.sc (.int .i64 0), .sc (.int .i64 0), .sc (.string ⟨#[]⟩), .sc (.int .i64 0), .sc (.int .i64 0), .sc (.string ⟨#[]⟩), .sc (.slice none 0 0), .sc (.slice none 0 0), .sc (.int .i64 0), .sc (.int .i64 0), .sc (.string ⟨#[]⟩), .sc (.slice none 0 0), .sc (.slice none 0 0), .sc (.int .i64 0), .sc (.slice none 0 0)], true⟩ := (k6' nx (Nat.lt_of_lt_of_le (show nx < m5 by omega) (by simp only [Nat.add_assoc]; exact Nat.le_add_right _ _)) (by omega)).trans (upd_out (by omega) (b5))
    have c6 : H6 (nx + 10) = some ⟨.sc (.int .i64 (5 : Nat)) :: .sc (.int .i64 (p : Nat)) :: .sc (.string nm) :: (ty.pv ++ [.sc (.int .i64 0), .sc (.int .i64 0), .sc (.string ⟨#[]⟩), .sc (.slice none 0 0), .sc (.slice none 0 0), .sc (.int .i64 (fx : Nat)), .sc (.slice none 0 0)]), true⟩ := (k6' (nx + 10) (Nat.lt_of_lt_of_le (show nx + 10 < m5 by omega) (by simp only [Nat.add_assoc]; exact Nat.le_add_right _ _)) (by omega)).trans (upd_same _ _ _)
    have k6 : Kept (∀ j, j < nx → j ≠ rid → H6 j = H j) := fun j e1 e2 => (k6' j (Nat.lt_of_lt_of_le (show j < m5 by omega) (by simp only [Nat.add_assoc]; exact Nat.le_add_right _ _)) e2).trans (upd_out (by omega) (k5 j e1 e2))
    clear hm6' k6' k5 b5 g5
    have hmin : min (((numF s5).1 : Nat) : Int) 9 = ((min (numF s5).1 9 : Nat) : Int) := by omega
    have hcn : min (numF s5).1 9 ≤ 9 := Nat.min_le_right _ _
    generalize (numF s5).1 = c at *
    generalize (numF s5).2 = s6 at *
    generalize min c 9 = cn at *
    clear hl5 hl4 c5
    repeat' (first | ((with_reducible first | refine wA (by omega) ?_ | refine wB (by omega) ?_ | refine wC (by omega) ?_ | refine wD (by omega) ?_ | refine wE ?_ ?_ | refine wF ?_ ?_ | refine wG ?_ ?_ | refine wH ?_ ?_ | refine wI ?_ ?_ | refine wJ ?_ ?_ | refine wK ?_ ?_ | refine wL ?_ ?_) <;> intro _) | simp (maxSteps := 1000000) (disch := omega) only [go_sem, seval, *])
    refine c_loopW 8795019280384 (by kernel_rfl) (fun j f H7 m => ∃ i : Nat, j = cn - i ∧ i ≤ cn ∧ f 30 = .sc (.int .i64 i) ∧ nx + 12 ≤ m ∧ H7 nx = some ⟨[.sc (.int .i64 0), .sc (.int .i64 0), .sc (.string ⟨#[]⟩), .sc (.int .i64 0), .sc (.int .i64 0), .sc (.string ⟨#[]⟩), .sc (.slice none 0 0), .sc (.slice none 0 0), .sc (.int .i64 0), .sc (.int .i64 0), .sc (.string ⟨#[]⟩), .sc (.slice none 0 0), .sc (.slice none 0 0), .sc (.int .i64 0), .sc (.slice none 0 0)], true⟩ ∧ (∃ a, H7 (nx + 10) = some ⟨.sc (.int .i64 (5 : Nat)) :: .sc (.int .i64 (p : Nat)) :: .sc (.string nm) :: (ty.pv ++ [.sc (.int .i64 0), .sc (.int .i64 0), .sc (.string ⟨#[]⟩), .sc (.slice none 0 0), .sc (.slice none 0 0), .sc (.int .i64 (fx : Nat)), a]), true⟩ ∧ Kept (LRow Ctr.pv 6 H7 (nx + 11) m a (repF ctorF i s6).1)) ∧ H7 rid = some ⟨rdC (repF ctorF i s6).2, w⟩ ∧ Kept (∀ j, j < nx → j ≠ rid → H7 j = H j)) _ ⟨0, rfl, Nat.zero_le _, cE1, ?mm, b6, ⟨_, c6, Kept.mk (.inl ⟨rfl, rfl⟩)⟩, g6, k6⟩ ?_
    case mm => exact (show nx + 12 ≤ m6 by omega)
    rintro _ f H7 m ⟨i, rfl, hi, e30, hm, b7, ⟨a, c7, hrow⟩, g7, k7⟩
    clear c6 b6 g6 k6
    by_cases hlt : i < cn
    · have hll := rep_shrink ctor_shrink i s6
      have hl7 : (repF ctorF i s6).2.l.length ≤ 2 ^ 40 := by omega
      have hl8 : (nameF (repF ctorF i s6).2).2.l.length ≤ 2 ^ 40 := Nat.le_trans (nameF_len _) hl7
      clear hll
      have hdec : decide (¬ nx + 10 = rid) = true := decide_eq_true (by omega)
      repeat' (first | ((with_reducible first | refine wA (by omega) ?_ | refine wB (by omega) ?_ | refine wC (by omega) ?_ | refine wD (by omega) ?_ | refine wE ?_ ?_ | refine wF ?_ ?_ | refine wG ?_ ?_ | refine wH ?_ ?_ | refine wI ?_ ?_ | refine wJ ?_ ?_ | refine wK ?_ ?_ | refine wL ?_ ?_) <;> intro _) | simp (maxSteps := 1000000) (disch := omega) only [go_sem, seval, *])
      refine call_rdF (name_m (repF ctorF i s6).2 hl7 rid w _ _ (Nat.lt_of_lt_of_le (show rid < m by omega) (by simp only [Nat.add_assoc]; exact Nat.le_add_right _ _)) g7) ?_
      rintro H8 m8 r8 ⟨hm8', rfl, g8, k8'⟩ -
      have hm8 : m + 12 ≤ m8 := hm8'
      have b8 : H8 nx = some ⟨[.sc (.int .i64 0), .sc (.int .i64 0), .sc (.string ⟨#[]⟩), .sc (.int .i64 0), .sc (.int .i64 0), .sc (.string ⟨#[]⟩), .sc (.slice none 0 0), .sc (.slice none 0 0), .sc (.int .i64 0), .sc (.int .i64 0), .sc (.string ⟨#[]⟩), .sc (.slice none 0 0), .sc (.slice none 0 0), .sc (.int .i64 0), .sc (.slice none 0 0)], true⟩ := (k8' nx (Nat.lt_of_lt_of_le (show nx < m by omega) (by simp only [Nat.add_assoc]; exact Nat.le_add_right _ _)) (by omega)).trans b7
      have c8 : H8 (nx + 10) = some ⟨.sc (.int .i64 (5 : Nat)) :: .sc (.int .i64 (p : Nat)) :: .sc (.string nm) :: (ty.pv ++ [.sc (.int .i64 0), .sc (.int .i64 0), .sc (.string ⟨#[]⟩), .sc (.slice none 0 0), .sc (.slice none 0 0), .sc (.int .i64 (fx : Nat)), a]), true⟩ := (k8' (nx + 10) (Nat.lt_of_lt_of_le (show nx + 10 < m by omega) (by simp only [Nat.add_assoc]; exact Nat.le_add_right _ _)) (by omega)).trans c7
      have hrow8 := Kept.mk (hrow.out.weak (H' := H8) (Nat.le_refl m) fun j e1 e2 => k8' j (Nat.lt_of_lt_of_le e2 (by simp only [Nat.add_assoc]; exact Nat.le_add_right _ _)) (by omega))
      have k8 : Kept (∀ j, j < nx → j ≠ rid → H8 j = H j) := fun j e1 e2 => (k8' j (Nat.lt_of_lt_of_le (show j < m by omega) (by simp only [Nat.add_assoc]; exact Nat.le_add_right _ _)) e2).trans (k7 j e1 e2)
      clear hm8' k8' k7 b7 g7 c7 hrow
      repeat' (first | ((with_reducible first | refine wA (by omega) ?_ | refine wB (by omega) ?_ | refine wC (by omega) ?_ | refine wD (by omega) ?_ | refine wE ?_ ?_ | refine wF ?_ ?_ | refine wG ?_ ?_ | refine wH ?_ ?_ | refine wI ?_ ?_ | refine wJ ?_ ?_ | refine wK ?_ ?_ | refine wL ?_ ?_) <;> intro _) | simp (maxSteps := 1000000) (disch := omega) only [go_sem, seval, *])
      refine call_rdF (whole_m (nameF (repF ctorF i s6).2).2 hl8 rid w _ _ (show rid < m8 by omega) g8) ?_
      rintro H9 m9 r9 ⟨hm9, rfl, g9, k9'⟩ -
      have hm9 : m8 ≤ m9 := hm9
      have b9 : H9 nx = some ⟨[.sc (.int .i64 0), .sc (.int .i64 0), .sc (.string ⟨#[]⟩), .sc (.int .i64 0), .sc (.int .i64 0), .sc (.string ⟨#[]⟩), .sc (.slice none 0 0), .sc (.slice none 0 0), .sc (.int .i64 0), .sc (.int .i64 0), .sc (.string ⟨#[]⟩), .sc (.slice none 0 0), .sc (.slice none 0 0), .sc (.int .i64 0), .sc (.slice none 0 0)], true⟩ := (k9' nx (show nx < m8 by omega) (by omega)).trans b8
      have c9 : H9 (nx + 10) = some ⟨.sc (.int .i64 (5 : Nat)) :: .sc (.int .i64 (p : Nat)) :: .sc (.string nm) :: (ty.pv ++ [.sc (.int .i64 0), .sc (.int .i64 0), .sc (.string ⟨#[]⟩), .sc (.slice none 0 0), .sc (.slice none 0 0), .sc (.int .i64 (fx : Nat)), a]), true⟩ := (k9' (nx + 10) (show nx + 10 < m8 by omega) (by omega)).trans c8
      have hrow9 := hrow8.out.weak (H' := H9) (Nat.le_refl m) fun j e1 e2 => k9' j (show j < m8 by omega) (by omega)
      have k9 : Kept (∀ j, j < nx → j ≠ rid → H9 j = H j) := fun j e1 e2 => (k9' j (show j < m8 by omega) e2).trans (k8 j e1 e2)
      clear k9' k8 b8 g8 c8 hrow8
      have hlen := repF_len ctorF i s6
      have hE1 : (repF ctorF (i + 1) s6).1 = (repF ctorF i s6).1 ++ [⟨(nameF (repF ctorF i s6).2).1, (wholeF (nameF (repF ctorF i s6).2).2).1⟩] := rfl
      have hE2 : (repF ctorF (i + 1) s6).2 = (wholeF (nameF (repF ctorF i s6).2).2).2 := rfl
      rw [← hE2] at g9
      generalize (wholeF (nameF (repF ctorF i s6).2).2).1 = ct at *
      generalize (nameF (repF ctorF i s6).2).1 = cm at *
      clear hl7 hl8
      have hct := tm_len ct
      obtain ⟨h0, rfl⟩ | ⟨id, w', h1, h2, rfl, h4⟩ := hrow9
      · have hi0 : i = 0 := by rw [← hlen, h0]; rfl
        subst hi0
        repeat' (first | ((with_reducible first | refine wA (by omega) ?_ | refine wB (by omega) ?_ | refine wC (by omega) ?_ | refine wD (by omega) ?_ | refine wE ?_ ?_ | refine wF ?_ ?_ | refine wG ?_ ?_ | refine wH ?_ ?_ | refine wI ?_ ?_ | refine wJ ?_ ?_ | refine wK ?_ ?_ | refine wL ?_ ?_) <;> intro _) | simp (maxSteps := 1000000) (disch := omega) only [go_sem, seval, *])
        refine Nx.mk (cn - 1) cE1 ⟨1, rfl, cE1, cE1, ?mm, ?bb, ⟨.osl (m + 9) 0 1 6, ?cc, ?rr⟩, ?gg, ?kk⟩
        case mm => omega
        case bb => exact upd_out (by omega) (upd_out (by omega) b9)
        case cc => rw [upd_same]
        case rr =>
          refine Kept.mk (.inr ⟨m + 9, false, by omega, by omega, ?_, ?_⟩)
          · rw [hE1, h0]; rfl
          · rw [upd_ne _ _ (show m + 9 ≠ nx + 10 by omega), upd_same]
            simp [hE1, h0, Ctr.pv]
        case gg => exact upd_out (by omega) (upd_out (by omega) g9)
        case kk => exact Kept.mk fun j e1 e2 => upd_out (by omega) (upd_out (by omega) (k9 j e1 e2))
      · have hfl : ((repF ctorF i s6).1.flatMap Ctr.pv).length = i * 6 := by rw [flat_lenG _ 6 ctr_len, hlen]
        have hz : (i + 1) * 96 ≤ 140737488355328 ∧ i ≤ 4611686018427387903 := by omega
        rw [hlen] at c9 ⊢
        repeat' (first | ((with_reducible first | refine wA (by omega) ?_ | refine wB (by omega) ?_ | refine wC (by omega) ?_ | refine wD (by omega) ?_ | refine wE ?_ ?_ | refine wF ?_ ?_ | refine wG ?_ ?_ | refine wH ?_ ?_ | refine wI ?_ ?_ | refine wJ ?_ ?_ | refine wK ?_ ?_ | refine wL ?_ ?_) <;> intro _) | simp (maxSteps := 1000000) (disch := omega) only [go_sem, seval, *])
        refine Nx.mk (cn - (i + 1)) cE1 ⟨i + 1, rfl, cE1, cE1, ?mm, ?bb, ⟨.osl (m + 9) 0 (i + 1) 6, ?cc, ?rr⟩, ?gg, ?kk⟩
        case mm => omega
        case bb => exact upd_out (by omega) (upd_out (by omega) (upd_out (by omega) b9))
        case cc => rw [upd_same]
        case rr =>
          refine Kept.mk (.inr ⟨m + 9, false, by omega, by omega, ?_, ?_⟩)
          · rw [hE1, List.length_append, hlen]; rfl
          · rw [upd_ne _ _ (show m + 9 ≠ nx + 10 by omega), upd_same]
            simp [hE1, Ctr.pv]
        case gg => exact upd_out (by omega) (upd_out (by omega) (upd_out (by omega) g9))
        case kk => exact Kept.mk fun j e1 e2 => upd_out (by omega) (upd_out (by omega) (upd_out (by omega) (k9 j e1 e2)))
    · obtain rfl : i = cn := by omega
      have hfrg := (hrow.out.weak (H' := upd H7 nx none) (Nat.le_refl m) fun j e1 e2 => upd_ne _ _ (show j ≠ nx by omega)).frg ctr_len (fun j => decide (nx ≤ j)) fun j hj => by simpa using (show nx ≤ j by omega)
      obtain ⟨h0, rfl⟩ | ⟨id, w', h1, h2, rfl, h4⟩ := hrow.out
      · rw [h0] at hfrg
        clear hrow
        repeat' (first | ((with_reducible first | refine wA (by omega) ?_ | refine wB (by omega) ?_ | refine wC (by omega) ?_ | refine wD (by omega) ?_ | refine wE ?_ ?_ | refine wF ?_ ?_ | refine wG ?_ ?_ | refine wH ?_ ?_ | refine wI ?_ ?_ | refine wJ ?_ ?_ | refine wK ?_ ?_ | refine wL ?_ ?_) <;> intro _) | simp (maxSteps := 1000000) (disch := omega) only [go_sem, seval, *])
        refine fin_mut (.agg (.sc (.int .i64 (5 : Nat)) :: .sc (.int .i64 (p : Nat)) :: .sc (.string nm) :: (ty.pv ++ ([.sc (.int .i64 0), .sc (.int .i64 0), .sc (.string ⟨#[]⟩), .sc (.slice none 0 0), .sc (.slice none 0 0)] ++ [.sc (.int .i64 (fx : Nat)), .sc (.slice none 0 0)])))) (.inr rfl) cE2 ⟨by simp only [Nat.add_assoc]; exact Nat.le_trans (by omega) (Nat.le_add_right _ _), ⟨2, dcl_tell _ _ z5_imm z5_weak hfrg⟩, upd_out (by omega) g7, fun j e1 e2 => upd_out (by omega) (k7 j e1 e2)⟩
      · clear hrow
        generalize hlz : (repF ctorF i s6).1.length = lz at *
        repeat' (first | ((with_reducible first | refine wA (by omega) ?_ | refine wB (by omega) ?_ | refine wC (by omega) ?_ | refine wD (by omega) ?_ | refine wE ?_ ?_ | refine wF ?_ ?_ | refine wG ?_ ?_ | refine wH ?_ ?_ | refine wI ?_ ?_ | refine wJ ?_ ?_ | refine wK ?_ ?_ | refine wL ?_ ?_) <;> intro _) | simp (maxSteps := 1000000) (disch := omega) only [go_sem, seval, *])
        refine fin_mut (.agg (.sc (.int .i64 (5 : Nat)) :: .sc (.int .i64 (p : Nat)) :: .sc (.string nm) :: (ty.pv ++ ([.sc (.int .i64 0), .sc (.int .i64 0), .sc (.string ⟨#[]⟩), .sc (.slice none 0 0), .sc (.slice none 0 0)] ++ [.sc (.int .i64 (fx : Nat)), .osl id 0 lz 6])))) (.inr rfl) cE2 ⟨by simp only [Nat.add_assoc]; exact Nat.le_trans (by omega) (Nat.le_add_right _ _), ⟨2, dcl_tell _ _ z5_imm z5_weak hfrg⟩, upd_out (by omega) g7, fun j e1 e2 => upd_out (by omega) (k7 j e1 e2)⟩
  · rw [if_neg (by omega), if_neg h.2.2.2]
    simp only
    obtain ⟨h1, h2, h3, h5⟩ := h
    repeat' (first | ((with_reducible first | refine wA (by omega) ?_ | refine wB (by omega) ?_ | refine wC (by omega) ?_ | refine wD (by omega) ?_ | refine wE ?_ ?_ | refine wF ?_ ?_ | refine wG ?_ ?_ | refine wH ?_ ?_ | refine wI ?_ ?_ | refine wJ ?_ ?_ | refine wK ?_ ?_ | refine wL ?_ ?_) <;> intro _) | simp (maxSteps := 1000000) (disch := omega) only [go_sem, seval, *])
    refine fin_mut (.agg (.sc (.int .i64 (k : Nat)) :: .sc (.int .i64 (p : Nat)) :: .sc (.string nm) :: (ty.pv ++ ([.sc (.int .i64 0), .sc (.int .i64 0), .sc (.string ⟨#[]⟩), .sc (.slice none 0 0), .sc (.slice none 0 0)] ++ [.sc (.int .i64 0), .sc (.slice none 0 0)])))) (.inr rfl) cE2 ⟨by simp only [Nat.add_assoc]; exact Nat.le_trans (by omega) (Nat.le_add_right _ _), ⟨2, dcl_tell _ _ z5_imm z5_weak (frg_nil6 _ _)⟩, upd_out (by omega) (upd_out (by omega) (upd_out (by omega) g4)), fun j e1 e2 => upd_out (by omega) (upd_out (by omega) (upd_out (by omega) (k4 j e1 e2)))⟩
end
section
set_option maxRecDepth 20000
attribute [local go_sem] Nat.add_assoc id_ne id_ne' id_ne2 List.append_assoc bC_len bC_one
theorem rowB_flat (l : List UInt8) : (l.map fun c => [PV.sc (.int .u8 c.toNat)]).flatten = bC l := by
  induction l with
  | nil => rfl
  | cons x r ih => simp only [List.map_cons, List.flatten_cons, List.cons_append, List.nil_append, bC] at ih ⊢; rw [ih]
attribute [local go_sem] rowB_flat
def tb (s : ByteArray) : List UInt8 := s.data.toList
theorem strC (s : ByteArray) : strCells s = bC (tb s) := rfl
attribute [local go_sem] strC
theorem strC_len (s : ByteArray) : (tb s).length = s.size := Array.length_toList
attribute [local go_sem] strC_len
theorem strC_one (l : List UInt8) : (bC l).all PV.one = true := bC_one l
attribute [local go_sem] strC_one
set_option maxHeartbeats 4000000 in
theorem put_m (xs : List Nat) (hx : ∀ n ∈ xs, n ≤ 2 ^ 40) (h0 : xs ≠ []) (hl : xs.length ≤ 2 ^ 30) (l : List UInt8) (hl2 : l.length ≤ 2 ^ 40) (a : PV) (lo : Nat) (H : Nat → Option PObj) (nx : Nat) (ha : BRow H lo nx a l) :
    PMut Try.prog F.pack_put [a, intsPV xs] H nx (fun H' nx' r => nx ≤ nx' ∧ BRow H' nx nx' r (l ++ encs xs) ∧ ∀ j, j < nx → ¬ leadB a j → H' j = H j) := by
  refine mut_by is_pack_put (by simp) fun hb => ?_
  clear hb
  have c1 := Nums_p xs hx h0 hl
  have hel := encs_len xs hx
  have hne := encs_pos xs h0
  have hpos : 0 < (encs xs).length := List.length_pos_iff.2 hne
  obtain ⟨rfl, rfl⟩ | ⟨id, w, g1, g2, rfl, g3⟩ := ha
  · have b1 : (encs xs).length ≤ 140737488355328 := by omega
    have b2 : (encs xs).length ≤ 4611686018427387904 := by omega
    repeat' (first | ((with_reducible first | refine wA (by omega) ?_ | refine wB (by omega) ?_ | refine wC (by omega) ?_ | refine wD (by omega) ?_ | refine wE ?_ ?_ | refine wF ?_ ?_ | refine wG ?_ ?_ | refine wH ?_ ?_ | refine wI ?_ ?_ | refine wJ ?_ ?_ | refine wK ?_ ?_ | refine wL ?_ ?_) <;> intro _) | (((with_reducible refine call_id ?_); (first | (refine call_pure (c1) ?_)))) | simp (maxSteps := 1000000) (disch := omega) only [go_sem, seval, mc_pack_put, rowB, *])
    refine fin_mut (.osl (nx + 10) 0 (encs xs).length 1) (.inr rfl) rfl (show _ ≤ nx + 12 ∧ BRow (upd _ _ _) _ (nx + 12) _ _ ∧ ∀ j, _ → _ → upd _ _ _ j = _ from ?_)
    refine ⟨by omega, .inr ⟨nx + 10, false, by omega, by omega, rfl, by simp [upd]⟩, fun j g1 g2 => ?_⟩
    rw [upd_ne _ _ (show j ≠ nx + 10 by omega)]
  · have b1 : l.length + (encs xs).length ≤ 140737488355328 := by omega
    have b2 : l.length + (encs xs).length ≤ 4611686018427387904 := by omega
    repeat' (first | ((with_reducible first | refine wA (by omega) ?_ | refine wB (by omega) ?_ | refine wC (by omega) ?_ | refine wD (by omega) ?_ | refine wE ?_ ?_ | refine wF ?_ ?_ | refine wG ?_ ?_ | refine wH ?_ ?_ | refine wI ?_ ?_ | refine wJ ?_ ?_ | refine wK ?_ ?_ | refine wL ?_ ?_) <;> intro _) | (((with_reducible refine call_id ?_); (first | (refine call_pure (c1) ?_)))) | simp (maxSteps := 1000000) (disch := omega) only [go_sem, seval, mc_pack_put, rowB, *])
    refine fin_mut (.osl (nx + 10) 0 (l.length + (encs xs).length) 1) (.inr rfl) rfl (show _ ≤ nx + 12 ∧ BRow (upd _ _ _) _ (nx + 12) _ _ ∧ ∀ j, _ → _ → upd _ _ _ j = _ from ?_)
    refine ⟨by omega, .inr ⟨nx + 10, false, by omega, by omega, by simp, by simp [upd, bC_append]⟩, fun j g1 g2 => ?_⟩
    rw [upd_ne _ _ (show j ≠ nx + 10 by omega), upd_ne _ _ (show j ≠ id from g2)]
def encT (ss : List ByteArray) : List UInt8 := ss.flatMap fun s => Plain.enc s.size ++ tb s
def textsPV (ss : List ByteArray) : PV := .sl 1 (ss.map fun s => [.sc (.string s)])
theorem encT_snoc (ss : List ByteArray) (i : Nat) (h : i < ss.length) : encT (ss.take (i + 1)) = encT (ss.take i) ++ (Plain.enc ss[i].size ++ tb ss[i]) := by
  unfold encT
  rw [List.take_succ_eq_append_getElem h, List.flatMap_append]
  simp
theorem encT_take (ss : List ByteArray) (i : Nat) : (encT (ss.take i)).length ≤ (encT ss).length := by
  conv => rhs; rw [← List.take_append_drop i ss]
  unfold encT
  rw [List.flatMap_append, List.length_append]
  exact Nat.le_add_right _ _
set_option maxHeartbeats 4000000 in
theorem Texts_p (ss : List ByteArray) (h0 : ss ≠ []) (hl3 : ss.length ≤ 2 ^ 30) (hl : (encT ss).length ≤ 2 ^ 40) : PPure Try.prog F.wire_Texts [textsPV ss] (rowB (encT ss)) := by
  refine pure_by is_wire_Texts (by simp) (rowB_imm _) fun hb nx => ?_
  clear hb
  have hpos : 0 < ss.length := List.length_pos_iff.2 h0
  repeat' (first | ((with_reducible first | refine wA (by omega) ?_ | refine wB (by omega) ?_ | refine wC (by omega) ?_ | refine wD (by omega) ?_ | refine wE ?_ ?_ | refine wF ?_ ?_ | refine wG ?_ ?_ | refine wH ?_ ?_ | refine wI ?_ ?_ | refine wJ ?_ ?_ | refine wK ?_ ?_ | refine wL ?_ ?_) <;> intro _) | simp (maxSteps := 1000000) (disch := omega) only [go_sem, seval, mc_wire_Texts, textsPV, *])
  refine c_loopW 524072 (by kernel_rfl) (fun j f H m => ∃ i : Nat, j = ss.length - i ∧ i ≤ ss.length ∧ f 8 = .sc (.int .i64 i) ∧ Kept (BRow H 0 m (f 3) (encT (ss.take i)))) _ ⟨0, rfl, Nat.zero_le _, cE1, ?rr⟩ ?_
  case rr => refine Kept.mk (.inl ⟨rfl, cE1⟩)
  rintro _ f H m ⟨i, rfl, hi, e8, hr⟩
  by_cases hlt : i < ss.length
  · have eg : ss[i]? = some ss[i] := List.getElem?_eq_getElem hlt
    repeat' (first | ((with_reducible first | refine wA (by omega) ?_ | refine wB (by omega) ?_ | refine wC (by omega) ?_ | refine wD (by omega) ?_ | refine wE ?_ ?_ | refine wF ?_ ?_ | refine wG ?_ ?_ | refine wH ?_ ?_ | refine wI ?_ ?_ | refine wJ ?_ ?_ | refine wK ?_ ?_ | refine wL ?_ ?_) <;> intro _) | simp (maxSteps := 1000000) (disch := omega) only [go_sem, seval, *])
    have hl1 := encT_take ss (i + 1)
    have hl0 := encT_take ss i
    have hs := encT_snoc ss i hlt
    have hlen := congrArg List.length hs
    simp only [List.length_append, strC_len] at hlen
    have hep := Plain.enc_length_pos ss[i].size
    refine call_mut (putNum_m ss[i].size (by omega) (encT (ss.take i)) (by omega) (f 3) 0 _ _ (BRow.weak hr (Nat.zero_le _) (Nat.le_add_right _ _))) ?_
    rintro H' nx' r' ⟨hn0, hr2, hk2⟩ -
    have hn : m + 11 ≤ nx' := hn0
    clear hn0
    obtain ⟨g0, -⟩ | ⟨id, w, g1, g2, rfl, g3⟩ := hr2
    · have := congrArg List.length g0
      simp only [List.length_append, List.length_nil] at this
      omega
    · have b1 : (encT (ss.take i)).length + ((Plain.enc ss[i].size).length + ss[i].size) ≤ 140737488355328 := by omega
      have b2 : (encT (ss.take i)).length + ((Plain.enc ss[i].size).length + ss[i].size) ≤ 4611686018427387904 := by omega
      have hsz := strC_len ss[i]
      clear hr hk2 hl1 hl0 hlen g1
      repeat' (first | ((with_reducible first | refine wA (by omega) ?_ | refine wB (by omega) ?_ | refine wC (by omega) ?_ | refine wD (by omega) ?_ | refine wE ?_ ?_ | refine wF ?_ ?_ | refine wG ?_ ?_ | refine wH ?_ ?_ | refine wI ?_ ?_ | refine wJ ?_ ?_ | refine wK ?_ ?_ | refine wL ?_ ?_) <;> intro _) | simp (maxSteps := 1000000) (disch := omega) only [go_sem, seval, *])
      refine Nx.mk (ss.length - (i + 1)) (by omega) ⟨i + 1, rfl, cE1, cE1, ?_⟩
      refine Kept.mk (.inr ⟨m + 9, false, Nat.zero_le _, by omega, ?_, ?_⟩)
      · simp only [upd_get, Nat.reduceEqDiff, ↓reduceIte]
        rw [hs]; simp only [List.length_append, hsz]
      · rw [hs]; simp [upd, bC_append]
  · obtain rfl : i = ss.length := by omega
    have hne : encT ss ≠ [] := fun e => by
      cases ss with
      | nil => exact h0 rfl
      | cons x r =>
        have h1 := congrArg List.length e
        have h2 := Plain.enc_length_pos x.size
        simp only [encT, List.flatMap_cons, List.length_append, List.length_nil] at h1
        omega
    rw [List.take_length] at hr
    obtain ⟨g0, e0⟩ | ⟨id, w, g1, g2, e0, g3⟩ := hr
    · exact absurd g0 hne
    · repeat' (first | ((with_reducible first | refine wA (by omega) ?_ | refine wB (by omega) ?_ | refine wC (by omega) ?_ | refine wD (by omega) ?_ | refine wE ?_ ?_ | refine wF ?_ ?_ | refine wG ?_ ?_ | refine wH ?_ ?_ | refine wI ?_ ?_ | refine wJ ?_ ?_ | refine wK ?_ ?_ | refine wL ?_ ?_) <;> intro _) | simp (maxSteps := 1000000) (disch := omega) only [go_sem, seval, *])
      refine fin_ret (r0 := .osl id 0 (encT ss).length 1) 1 cE2 ?_
      exact .of_eq (pk_frz g3)
end
section
set_option maxRecDepth 20000
attribute [local go_sem] Nat.add_assoc id_ne id_ne' id_ne2 List.append_assoc bC_len bC_one pv_take
mutual
def Lv.enc : Lv → List UInt8
  | .mk k n args => Plain.enc k.toNat ++ ((if k = 1 ∨ k = 2 then Plain.enc n.toNat else []) ++ encLs args)
def encLs : List Lv → List UInt8
  | [] => []
  | x :: r => x.enc ++ encLs r
end
theorem encs_one (n : Nat) : encs [n] = Plain.enc n := by simp [encs]
theorem encLs_snoc : ∀ (ls : List Lv) (i : Nat) (h : i < ls.length), encLs (ls.take (i + 1)) = encLs (ls.take i) ++ ls[i].enc
  | x :: r, 0, h => by simp [encLs]
  | x :: r, i + 1, h => by
    have := encLs_snoc r i (by simpa using h)
    simp only [List.take_succ_cons, encLs, List.getElem_cons_succ, this, List.append_assoc]
theorem pk_num {np : Int} (hnp : np ≤ 4) {k n : Int} {args : List Lv} (h : (Lv.mk k n args).formed np = true) : (1 ≤ k ∧ k ≤ 5) ∧ (0 ≤ n ∧ n ≤ 100) ∧ formedL np args = true ∧ (k = 1 ∨ k = 2 → args = []) := by
  unfold Lv.formed at h
  split at h
  · simp only [Bool.and_eq_true, decide_eq_true_eq] at h
    obtain ⟨h1, h2, h3⟩ := h
    obtain rfl := List.eq_nil_of_length_eq_zero h3
    exact ⟨by omega, by omega, rfl, fun _ => rfl⟩
  · split at h
    · simp only [Bool.and_eq_true, decide_eq_true_eq] at h
      obtain ⟨h1, h2, h3⟩ := h
      obtain rfl := List.eq_nil_of_length_eq_zero h3
      exact ⟨by omega, by omega, rfl, fun _ => rfl⟩
    · split at h
      · simp only [Bool.and_eq_true, decide_eq_true_eq] at h
        exact ⟨by omega, by omega, h.2.2, fun _ => by omega⟩
      · split at h
        · simp only [Bool.and_eq_true, decide_eq_true_eq] at h
          exact ⟨by omega, by omega, h.2.2, fun _ => by omega⟩
        · cases h
theorem formedL_mem {np : Int} : ∀ (ls : List Lv) (i : Nat) (h : i < ls.length), formedL np ls = true → ls[i].formed np = true
  | x :: r, 0, h, hf => by simp only [formedL, Bool.and_eq_true] at hf; exact hf.1
  | x :: r, i + 1, h, hf => by simp only [formedL, Bool.and_eq_true] at hf; exact formedL_mem r i (by simpa using h) hf.2
mutual
theorem Lv.enc_len {np : Int} (hnp : np ≤ 4) : ∀ l : Lv, l.formed np = true → l.enc.length ≤ 12 * l.nodes
  | .mk k n args, h => by
    obtain ⟨h1, h2, h3, h4⟩ := pk_num hnp h
    have a1 := enc_len6 k.toNat (by omega)
    have a2 := enc_len6 n.toNat (by omega)
    have a3 := encLs_len hnp args h3
    simp only [Lv.enc, Lv.nodes, List.length_append]
    split
    · omega
    · simp only [List.length_nil]; omega
theorem encLs_len {np : Int} (hnp : np ≤ 4) : ∀ ls : List Lv, formedL np ls = true → (encLs ls).length ≤ 12 * nodesL ls
  | [], _ => Nat.le_refl _
  | x :: r, h => by
    simp only [formedL, Bool.and_eq_true] at h
    have a1 := Lv.enc_len hnp x h.1
    have a2 := encLs_len hnp r h.2
    simp only [encLs, nodesL, List.length_append]
    omega
end
theorem BRow.lead {H : Nat → Option PObj} {lo m : Nat} {a : PV} {l : List UInt8} (h : BRow H lo m a l) {j : Nat} (hj : j < lo) : ¬ leadB a j := by
  obtain ⟨_, rfl⟩ | ⟨id, w, g1, g2, rfl, g4⟩ := h
  · exact fun h => h
  · intro e
    have : j = id := e
    omega
set_option maxHeartbeats 8000000 in
theorem putLevel_m {np : Int} (hnp : np ≤ 4) : ∀ (fuel : Nat) (l : Lv), l.nodes ≤ fuel → l.formed np = true → ∀ (b : List UInt8), b.length + 12 * l.nodes ≤ 2 ^ 40 → ∀ (a : PV) (lo : Nat) (H : Nat → Option PObj) (nx : Nat), BRow H lo nx a b →
    PMut Try.prog F.pack_putLevel [a, .ptr l.pv] H nx (fun H' nx' r => nx ≤ nx' ∧ BRow H' nx nx' r (b ++ l.enc) ∧ ∀ j, j < nx → ¬ leadB a j → H' j = H j) := by
  intro fuel
  induction fuel with
  | zero => intro l h; have := nodes_pos l; omega
  | succ fuel ih =>
  intro l hn hf b hb a lo H nx ha
  cases l with
  | mk k n args =>
  obtain ⟨hk, hn1, hfa, hnil⟩ := pk_num hnp hf
  clear hf
  simp only [Lv.nodes] at hn hb
  refine mut_by is_pack_putLevel (by simp) fun hbn => ?_
  have hb0 : args.length ≤ 9223372036854775807 := by simp [Lv.pv, bndL, PV.bnd] at hbn; exact hbn.2.1
  clear hbn
  obtain ⟨k, rfl⟩ : ∃ k' : Nat, k = k' := ⟨k.toNat, by omega⟩
  obtain ⟨n, rfl⟩ : ∃ n' : Nat, n = n' := ⟨n.toNat, by omega⟩
  repeat' (first | ((with_reducible first | refine wA (by omega) ?_ | refine wB (by omega) ?_ | refine wC (by omega) ?_ | refine wD (by omega) ?_ | refine wE ?_ ?_ | refine wF ?_ ?_ | refine wG ?_ ?_ | refine wH ?_ ?_ | refine wI ?_ ?_ | refine wJ ?_ ?_ | refine wK ?_ ?_ | refine wL ?_ ?_) <;> intro _) | simp (maxSteps := 1000000) (disch := omega) only [go_sem, seval, mc_pack_putLevel, Lv.pv, *])
  refine call_mut (put_m [k] (by simp; omega) (by simp) (by simp) b (by omega) a lo H _ (BRow.weak ha (Nat.le_refl _) (Nat.le_add_right _ _))) ?_
  rintro H1 m1 r1 ⟨hm0, hr0, hk0⟩ -
  have hm1 : nx + 9 ≤ m1 := hm0
  have hr1 : Kept (BRow H1 (nx + 9) m1 r1 (b ++ Plain.enc k)) := by rw [← encs_one]; exact hr0
  have hk1 : Kept (∀ j, j < nx → ¬ leadB a j → H1 j = H j) := fun j g1 g2 => hk0 j (Nat.lt_of_lt_of_le g1 (Nat.le_add_right _ _)) g2
  clear hm0 hr0 hk0 ha
  have hek := enc_len6 k (by omega)
  have hen := enc_len6 n (by omega)
  obtain rfl | rfl | ⟨h1, h2⟩ : k = 1 ∨ k = 2 ∨ (k ≠ 1 ∧ k ≠ 2) := by omega
  · obtain rfl := hnil (.inl rfl)
    repeat' (first | ((with_reducible first | refine wA (by omega) ?_ | refine wB (by omega) ?_ | refine wC (by omega) ?_ | refine wD (by omega) ?_ | refine wE ?_ ?_ | refine wF ?_ ?_ | refine wG ?_ ?_ | refine wH ?_ ?_ | refine wI ?_ ?_ | refine wJ ?_ ?_ | refine wK ?_ ?_ | refine wL ?_ ?_) <;> intro _) | simp (maxSteps := 1000000) (disch := omega) only [go_sem, seval, *])
    refine call_mut (put_m [n] (by simp; omega) (by simp) (by simp) (b ++ Plain.enc 1) (by simp only [List.length_append]; omega) r1 (nx + 9) H1 _ (BRow.weak hr1 (Nat.le_refl _) (Nat.le_add_right _ _))) ?_
    rintro H2 m2 r2 ⟨hm0, hr0, hk0⟩ -
    have hm2 : m1 + 20 ≤ m2 := hm0
    have hr2 : Kept (BRow H2 nx m2 r2 ((b ++ Plain.enc 1) ++ Plain.enc n)) := by rw [← encs_one n]; exact BRow.weak hr0 (by show nx ≤ m1 + 20; omega) (Nat.le_refl _)
    have hk2 : Kept (∀ j, j < nx → ¬ leadB a j → H2 j = H j) := fun j g1 g2 => by
      rw [hk0 j (show j < m1 + 20 by omega) (BRow.lead hr1 (by omega))]; exact hk1 j g1 g2
    clear hm0 hr0 hk0 hr1 hk1
    repeat' (first | ((with_reducible first | refine wA (by omega) ?_ | refine wB (by omega) ?_ | refine wC (by omega) ?_ | refine wD (by omega) ?_ | refine wE ?_ ?_ | refine wF ?_ ?_ | refine wG ?_ ?_ | refine wH ?_ ?_ | refine wI ?_ ?_ | refine wJ ?_ ?_ | refine wK ?_ ?_ | refine wL ?_ ?_) <;> intro _) | simp (maxSteps := 1000000) (disch := omega) only [go_sem, seval, *])
    refine c_rounds 1 ?_
    repeat' (first | ((with_reducible first | refine wA (by omega) ?_ | refine wB (by omega) ?_ | refine wC (by omega) ?_ | refine wD (by omega) ?_ | refine wE ?_ ?_ | refine wF ?_ ?_ | refine wG ?_ ?_ | refine wH ?_ ?_ | refine wI ?_ ?_ | refine wJ ?_ ?_ | refine wK ?_ ?_ | refine wL ?_ ?_) <;> intro _) | simp (maxSteps := 1000000) (disch := omega) only [go_sem, seval, rounds_next, *])
    refine fin_mut r2 (.inr rfl) rfl ⟨?g1, ?g2, hk2⟩
    case g1 => show nx ≤ m2 + _; omega
    case g2 => simp only [Lv.enc, encLs, Int.toNat_natCast]; simpa using BRow.weak hr2 (Nat.le_refl _) (Nat.le_add_right _ _)
  · obtain rfl := hnil (.inr rfl)
    repeat' (first | ((with_reducible first | refine wA (by omega) ?_ | refine wB (by omega) ?_ | refine wC (by omega) ?_ | refine wD (by omega) ?_ | refine wE ?_ ?_ | refine wF ?_ ?_ | refine wG ?_ ?_ | refine wH ?_ ?_ | refine wI ?_ ?_ | refine wJ ?_ ?_ | refine wK ?_ ?_ | refine wL ?_ ?_) <;> intro _) | simp (maxSteps := 1000000) (disch := omega) only [go_sem, seval, *])
    refine call_mut (put_m [n] (by simp; omega) (by simp) (by simp) (b ++ Plain.enc 2) (by simp only [List.length_append]; omega) r1 (nx + 9) H1 _ (BRow.weak hr1 (Nat.le_refl _) (Nat.le_add_right _ _))) ?_
    rintro H2 m2 r2 ⟨hm0, hr0, hk0⟩ -
    have hm2 : m1 + 20 ≤ m2 := hm0
    have hr2 : Kept (BRow H2 nx m2 r2 ((b ++ Plain.enc 2) ++ Plain.enc n)) := by rw [← encs_one n]; exact BRow.weak hr0 (by show nx ≤ m1 + 20; omega) (Nat.le_refl _)
    have hk2 : Kept (∀ j, j < nx → ¬ leadB a j → H2 j = H j) := fun j g1 g2 => by
      rw [hk0 j (show j < m1 + 20 by omega) (BRow.lead hr1 (by omega))]; exact hk1 j g1 g2
    clear hm0 hr0 hk0 hr1 hk1
    repeat' (first | ((with_reducible first | refine wA (by omega) ?_ | refine wB (by omega) ?_ | refine wC (by omega) ?_ | refine wD (by omega) ?_ | refine wE ?_ ?_ | refine wF ?_ ?_ | refine wG ?_ ?_ | refine wH ?_ ?_ | refine wI ?_ ?_ | refine wJ ?_ ?_ | refine wK ?_ ?_ | refine wL ?_ ?_) <;> intro _) | simp (maxSteps := 1000000) (disch := omega) only [go_sem, seval, *])
    refine c_rounds 1 ?_
    repeat' (first | ((with_reducible first | refine wA (by omega) ?_ | refine wB (by omega) ?_ | refine wC (by omega) ?_ | refine wD (by omega) ?_ | refine wE ?_ ?_ | refine wF ?_ ?_ | refine wG ?_ ?_ | refine wH ?_ ?_ | refine wI ?_ ?_ | refine wJ ?_ ?_ | refine wK ?_ ?_ | refine wL ?_ ?_) <;> intro _) | simp (maxSteps := 1000000) (disch := omega) only [go_sem, seval, rounds_next, *])
    refine fin_mut r2 (.inr rfl) rfl ⟨?g1, ?g2, hk2⟩
    case g1 => show nx ≤ m2 + _; omega
    case g2 => simp only [Lv.enc, encLs, Int.toNat_natCast]; simpa using BRow.weak hr2 (Nat.le_refl _) (Nat.le_add_right _ _)
  · repeat' (first | ((with_reducible first | refine wA (by omega) ?_ | refine wB (by omega) ?_ | refine wC (by omega) ?_ | refine wD (by omega) ?_ | refine wE ?_ ?_ | refine wF ?_ ?_ | refine wG ?_ ?_ | refine wH ?_ ?_ | refine wI ?_ ?_ | refine wJ ?_ ?_ | refine wK ?_ ?_ | refine wL ?_ ?_) <;> intro _) | simp (maxSteps := 1000000) (disch := omega) only [go_sem, seval, *])
    refine c_loopW 562812514467873 (by kernel_rfl) (fun j f H2 m => ∃ i : Nat, j = args.length - i ∧ i ≤ args.length ∧ f 37 = .sc (.int .i64 i) ∧ nx ≤ m ∧ Kept (BRow H2 nx m (f 0) (b ++ Plain.enc k ++ encLs (args.take i))) ∧ Kept (∀ j, j < nx → ¬ leadB a j → H2 j = H j)) _ ⟨0, rfl, Nat.zero_le _, cE1, ?mm, ?rr, hk1⟩ ?_
    case mm => show nx ≤ m1 + 18; omega
    case rr =>
      refine Kept.mk ?_
      simp only [upd_get, Nat.reduceEqDiff, ↓reduceIte, List.take_zero, encLs, List.append_nil]
      exact BRow.weak hr1 (show nx ≤ nx + 9 by omega) (show m1 ≤ m1 + 18 by omega)
    rintro _ f H2 m ⟨i, rfl, hi, e37, hm, hr, hkk⟩
    by_cases hlt : i < args.length
    · have eg : args[i]? = some args[i] := List.getElem?_eq_getElem hlt
      have hnm := nodesL_mem args i hlt
      repeat' (first | ((with_reducible first | refine wA (by omega) ?_ | refine wB (by omega) ?_ | refine wC (by omega) ?_ | refine wD (by omega) ?_ | refine wE ?_ ?_ | refine wF ?_ ?_ | refine wG ?_ ?_ | refine wH ?_ ?_ | refine wI ?_ ?_ | refine wJ ?_ ?_ | refine wK ?_ ?_ | refine wL ?_ ?_) <;> intro _) | simp (maxSteps := 1000000) (disch := omega) only [go_sem, seval, *])
      have a1 := encLs_len hnp (args.take i) (formedL_all np args i hfa)
      have a2 := nodesL_take_succ args i hlt
      have a3 := nodesL_take_le args (i + 1)
      refine call_mut (ih args[i] (by omega) (formedL_mem args i hlt hfa) (b ++ Plain.enc k ++ encLs (args.take i)) (by simp only [List.length_append]; omega) (f 0) nx H2 _ (BRow.weak hr (Nat.le_refl _) (Nat.le_add_right _ _))) ?_
      rintro H3 m3 r3 ⟨hm0, hr0, hk0⟩ -
      have hm3 : m ≤ m3 := Nat.le_trans (Nat.le_add_right _ _) hm0
      have hr3 : Kept (BRow H3 nx m3 r3 (b ++ Plain.enc k ++ encLs (args.take (i + 1)))) := by
        rw [encLs_snoc args i hlt, ← List.append_assoc]
        exact BRow.weak hr0 (Nat.le_trans hm (Nat.le_add_right _ _)) (Nat.le_refl _)
      have hk3 : Kept (∀ j, j < nx → ¬ leadB a j → H3 j = H j) := fun j g1 g2 => by
        rw [hk0 j (Nat.lt_of_lt_of_le g1 (Nat.le_trans hm (Nat.le_add_right _ _))) (BRow.lead hr g1)]; exact hkk j g1 g2
      clear hm0 hr0 hk0 hr hkk a1 a2 a3
      repeat' (first | ((with_reducible first | refine wA (by omega) ?_ | refine wB (by omega) ?_ | refine wC (by omega) ?_ | refine wD (by omega) ?_ | refine wE ?_ ?_ | refine wF ?_ ?_ | refine wG ?_ ?_ | refine wH ?_ ?_ | refine wI ?_ ?_ | refine wJ ?_ ?_ | refine wK ?_ ?_ | refine wL ?_ ?_) <;> intro _) | simp (maxSteps := 1000000) (disch := omega) only [go_sem, seval, *])
      refine Nx.mk (args.length - (i + 1)) (by omega) ⟨i + 1, rfl, cE1, cE1, ?mm, ?rr, hk3⟩
      case mm => exact Nat.le_trans hm (Nat.le_trans hm3 (Nat.le_add_right _ _))
      case rr =>
        refine Kept.mk ?_
        simp only [upd_get, Nat.reduceEqDiff, ↓reduceIte]
        simp only [List.append_assoc] at hr3 ⊢
        exact BRow.weak hr3 (Nat.le_refl _) (Nat.le_add_right _ _)
    · obtain rfl : i = args.length := by omega
      rw [List.take_length] at hr
      repeat' (first | ((with_reducible first | refine wA (by omega) ?_ | refine wB (by omega) ?_ | refine wC (by omega) ?_ | refine wD (by omega) ?_ | refine wE ?_ ?_ | refine wF ?_ ?_ | refine wG ?_ ?_ | refine wH ?_ ?_ | refine wI ?_ ?_ | refine wJ ?_ ?_ | refine wK ?_ ?_ | refine wL ?_ ?_) <;> intro _) | simp (maxSteps := 1000000) (disch := omega) only [go_sem, seval, *])
      refine fin_mut (f 0) (.inr rfl) rfl ⟨Nat.le_trans hm (Nat.le_add_right _ _), ?g2, hkk⟩
      case g2 =>
        simp only [Lv.enc, Int.toNat_natCast]
        rw [if_neg (by omega), List.nil_append, ← List.append_assoc]
        exact BRow.weak hr (Nat.le_refl _) (Nat.le_add_right _ _)
end
section
set_option maxRecDepth 20000
attribute [local go_sem] Nat.add_assoc id_ne id_ne' id_ne2 List.append_assoc bC_len bC_one pv_take tm_take rowB_flat
mutual
def Tm.enc : Tm → List UInt8
  | .mk k n s ls args => Plain.enc k.toNat ++ ((if k = 1 then Plain.enc n.toNat else if k = 3 then encT [s] ++ Plain.enc ls.length else []) ++ (encLs ls ++ encTs args))
def encTs : List Tm → List UInt8
  | [] => []
  | x :: r => x.enc ++ encTs r
end
mutual
def Tm.packP (np : Int) : Tm → Prop
  | .mk k n s ls args => (1 ≤ k ∧ k ≤ 7) ∧ (k = 1 → 0 ≤ n ∧ n ≤ 2 ^ 40) ∧ (k = 3 → s.size ≤ 40 ∧ ls.length ≤ 4) ∧ formedL np ls = true ∧ packPs np args
def packPs (np : Int) : List Tm → Prop
  | [] => True
  | x :: r => x.packP np ∧ packPs np r
end
theorem encTs_snoc : ∀ (ls : List Tm) (i : Nat) (h : i < ls.length), encTs (ls.take (i + 1)) = encTs (ls.take i) ++ ls[i].enc
  | x :: r, 0, h => by simp [encTs]
  | x :: r, i + 1, h => by
    have := encTs_snoc r i (by simpa using h)
    simp only [List.take_succ_cons, encTs, List.getElem_cons_succ, this, List.append_assoc]
theorem packPs_mem {np : Int} : ∀ (ls : List Tm) (i : Nat) (h : i < ls.length), packPs np ls → ls[i].packP np
  | x :: r, 0, h, hf => hf.1
  | x :: r, i + 1, h, hf => packPs_mem r i (by simpa using h) hf.2
theorem packPs_take {np : Int} : ∀ (ls : List Tm) (i : Nat), packPs np ls → packPs np (ls.take i)
  | [], _, _ => by simp [packPs]
  | x :: r, 0, _ => by simp [packPs]
  | x :: r, i + 1, h => ⟨h.1, packPs_take r i h.2⟩
theorem encT_one (s : ByteArray) : encT [s] = Plain.enc s.size ++ tb s := by simp [encT]
mutual
theorem Tm.enc_len {np : Int} (hnp : np ≤ 4) : ∀ t : Tm, t.packP np → t.enc.length ≤ 64 * t.nodes
  | .mk k n s ls args, h => by
    obtain ⟨h1, h2, h3, h4, h5⟩ := h
    have a1 := enc_len6 k.toNat (by omega)
    have a3 := encLs_len hnp ls h4
    have a4 := encTs_len hnp args h5
    simp only [Tm.enc, Tm.nodes, List.length_append]
    split
    · rename_i hk
      have a2 := enc_len6 n.toNat (by have := h2 hk; omega)
      omega
    · split
      · rename_i hk
        have b3 := h3 hk
        have a2 := enc_len6 s.size (by omega)
        have a5 := enc_len6 ls.length (by omega)
        rw [encT_one]
        simp only [List.length_append, strC_len]
        omega
      · simp only [List.length_nil]; omega
theorem encTs_len {np : Int} (hnp : np ≤ 4) : ∀ ls : List Tm, packPs np ls → (encTs ls).length ≤ 64 * nodesT ls
  | [], _ => Nat.le_refl _
  | x :: r, h => by
    have a1 := Tm.enc_len hnp x h.1
    have a2 := encTs_len hnp r h.2
    simp only [encTs, nodesT, List.length_append]
    omega
end
set_option maxHeartbeats 16000000 in
theorem putTerm_m {np : Int} (hnp : np ≤ 4) : ∀ (fuel : Nat) (t : Tm), t.nodes ≤ fuel → t.packP np → ∀ (b : List UInt8), b.length + 64 * t.nodes ≤ 2 ^ 40 → ∀ (a : PV) (lo : Nat) (H : Nat → Option PObj) (nx : Nat), BRow H lo nx a b → ∀ rest : List PV,
    PMut Try.prog F.pack_putTerm [a, .ptr (t.pv ++ rest)] H nx (fun H' nx' r => nx ≤ nx' ∧ BRow H' nx nx' r (b ++ t.enc) ∧ ∀ j, j < nx → ¬ leadB a j → H' j = H j) := by
  intro fuel
  induction fuel with
  | zero => intro t h; have : 0 < t.nodes := (by cases t; simp only [Tm.nodes]; omega); omega
  | succ fuel ih =>
  intro t hn hf b hb a lo H nx ha rest
  cases t with
  | mk k n s ls args =>
  obtain ⟨hk, hn1, hs1, hfl, hfa⟩ := hf
  simp only [Tm.nodes] at hn hb
  refine mut_by is_pack_putTerm (by simp) fun hbn => ?_
  have hbl : ls.length ≤ 9223372036854775807 := by simp [Tm.pv, bndL, PV.bnd] at hbn; omega
  have hba : args.length ≤ 9223372036854775807 := by simp [Tm.pv, bndL, PV.bnd] at hbn; omega
  clear hbn
  obtain ⟨k, rfl⟩ : ∃ k' : Nat, k = k' := ⟨k.toNat, by omega⟩
  repeat' (first | ((with_reducible first | refine wA (by omega) ?_ | refine wB (by omega) ?_ | refine wC (by omega) ?_ | refine wD (by omega) ?_ | refine wE ?_ ?_ | refine wF ?_ ?_ | refine wG ?_ ?_ | refine wH ?_ ?_ | refine wI ?_ ?_ | refine wJ ?_ ?_ | refine wK ?_ ?_ | refine wL ?_ ?_) <;> intro _) | simp (maxSteps := 1000000) (disch := omega) only [go_sem, seval, mc_pack_putTerm, Tm.pv, *])
  refine call_mut (put_m [k] (by simp; omega) (by simp) (by simp) b (by omega) a lo H _ (BRow.weak ha (Nat.le_refl _) (Nat.le_add_right _ _))) ?_
  rintro H1 m1 r1 ⟨hm0, hr0, hk0⟩ -
  have hm1 : nx + 1 ≤ m1 := Nat.le_trans (Nat.add_le_add_left (by decide) _) hm0
  have hr1 : Kept (BRow H1 nx m1 r1 (b ++ Plain.enc k)) := by rw [← encs_one]; exact BRow.weak hr0 (Nat.le_add_right _ _) (Nat.le_refl _)
  have hk1 : Kept (∀ j, j < nx → ¬ leadB a j → H1 j = H j) := fun j g1 g2 => hk0 j (Nat.lt_of_lt_of_le g1 (Nat.le_add_right _ _)) g2
  clear hm0 hr0 hk0 ha
  have hek := enc_len6 k (by omega)
  obtain rfl | rfl | ⟨h1, h3⟩ : k = 1 ∨ k = 3 ∨ (k ≠ 1 ∧ k ≠ 3) := by omega
  · have hn2 := hn1 rfl
    obtain ⟨n, rfl⟩ : ∃ n' : Nat, n = n' := ⟨n.toNat, by omega⟩
    have hen := enc_len6 n (by omega)
    repeat' (first | ((with_reducible first | refine wA (by omega) ?_ | refine wB (by omega) ?_ | refine wC (by omega) ?_ | refine wD (by omega) ?_ | refine wE ?_ ?_ | refine wF ?_ ?_ | refine wG ?_ ?_ | refine wH ?_ ?_ | refine wI ?_ ?_ | refine wJ ?_ ?_ | refine wK ?_ ?_ | refine wL ?_ ?_) <;> intro _) | simp (maxSteps := 1000000) (disch := omega) only [go_sem, seval, *])
    refine call_mut (put_m [n] (by simp; omega) (by simp) (by simp) (b ++ Plain.enc 1) (by simp only [List.length_append]; omega) r1 nx H1 _ (BRow.weak hr1 (Nat.le_refl _) (Nat.le_add_right _ _))) ?_
    rintro H2 m2 r2 ⟨hm0, hr0, hk0⟩ -
    obtain ⟨T, hT1⟩ : ∃ T, T = Plain.enc 1 ++ Plain.enc n := ⟨_, rfl⟩
    have hm2 : nx ≤ m2 := Nat.le_trans (Nat.le_of_lt hm1) (Nat.le_trans (Nat.le_add_right _ _) hm0)
    have hr2 : Kept (BRow H2 nx m2 r2 (b ++ T)) := by
      rw [hT1, ← encs_one n, ← List.append_assoc]
      exact BRow.weak hr0 (Nat.le_trans (Nat.le_of_lt hm1) (Nat.le_add_right _ _)) (Nat.le_refl _)
    have hk2 : Kept (∀ j, j < nx → ¬ leadB a j → H2 j = H j) := fun j g1 g2 => by
      rw [hk0 j (Nat.lt_of_lt_of_le g1 (Nat.le_trans (Nat.le_of_lt hm1) (Nat.le_add_right _ _))) (BRow.lead hr1 g1)]; exact hk1 j g1 g2
    have hT2 : T.length ≤ 60 := by rw [hT1, List.length_append]; omega
    have hT : (Tm.mk 1 (n : Int) s ls args).enc = T ++ (encLs ls ++ encTs args) := by
      rw [hT1]; simp [Tm.enc]
    clear hm0 hr0 hk0 hr1 hk1 hm1 hen hT1
    repeat' (first | ((with_reducible first | refine wA (by omega) ?_ | refine wB (by omega) ?_ | refine wC (by omega) ?_ | refine wD (by omega) ?_ | refine wE ?_ ?_ | refine wF ?_ ?_ | refine wG ?_ ?_ | refine wH ?_ ?_ | refine wI ?_ ?_ | refine wJ ?_ ?_ | refine wK ?_ ?_ | refine wL ?_ ?_) <;> intro _) | simp (maxSteps := 1000000) (disch := omega) only [go_sem, seval, *])
    have hTl : T.length ≤ 60 := hT2
    refine c_loopW 2305280059260272673 (by kernel_rfl) (fun j f H2 m => ∃ i : Nat, j = ls.length - i ∧ i ≤ ls.length ∧ f 49 = .sc (.int .i64 i) ∧ nx ≤ m ∧ Kept (BRow H2 nx m (f 0) (b ++ (T ++ encLs (ls.take i)))) ∧ Kept (∀ j, j < nx → ¬ leadB a j → H2 j = H j)) _ ⟨0, rfl, Nat.zero_le _, cE1, ?mm, ?rr, hk2⟩ ?_
    case mm => exact Nat.le_trans hm2 (Nat.le_add_right _ _)
    case rr =>
      refine Kept.mk ?_
      simp only [upd_get, Nat.reduceEqDiff, ↓reduceIte, List.take_zero, encLs, List.append_nil]
      exact BRow.weak hr2 (Nat.le_refl _) (Nat.le_add_right _ _)
    clear hm2 hr2 hk2
    rintro _ f H3 m3 ⟨i, rfl, hi, e49, hm, hr, hkk⟩
    by_cases hlt : i < ls.length
    · have eg : ls[i]? = some ls[i] := List.getElem?_eq_getElem hlt
      have hnm := nodesL_mem ls i hlt
      repeat' (first | ((with_reducible first | refine wA (by omega) ?_ | refine wB (by omega) ?_ | refine wC (by omega) ?_ | refine wD (by omega) ?_ | refine wE ?_ ?_ | refine wF ?_ ?_ | refine wG ?_ ?_ | refine wH ?_ ?_ | refine wI ?_ ?_ | refine wJ ?_ ?_ | refine wK ?_ ?_ | refine wL ?_ ?_) <;> intro _) | simp (maxSteps := 1000000) (disch := omega) only [go_sem, seval, *])
      have a1 := encLs_len hnp (ls.take i) (formedL_all np ls i hfl)
      have a2 := nodesL_take_succ ls i hlt
      have a3 := nodesL_take_le ls (i + 1)
      refine call_mut (putLevel_m hnp _ ls[i] (Nat.le_refl _) (formedL_mem ls i hlt hfl) (b ++ (T ++ encLs (ls.take i))) (by simp only [List.length_append]; omega) (f 0) nx H3 _ (BRow.weak hr (Nat.le_refl _) (Nat.le_add_right _ _))) ?_
      rintro H4 m4 r4 ⟨hm0, hr0, hk0⟩ -
      have hm4 : m3 ≤ m4 := Nat.le_trans (Nat.le_add_right _ _) hm0
      have hr4 : Kept (BRow H4 nx m4 r4 (b ++ (T ++ encLs (ls.take (i + 1))))) := by
        rw [encLs_snoc ls i hlt]
        simp only [List.append_assoc] at hr0 ⊢
        exact BRow.weak hr0 (Nat.le_trans hm (Nat.le_add_right _ _)) (Nat.le_refl _)
      have hk4 : Kept (∀ j, j < nx → ¬ leadB a j → H4 j = H j) := fun j g1 g2 => by
        rw [hk0 j (Nat.lt_of_lt_of_le g1 (Nat.le_trans hm (Nat.le_add_right _ _))) (BRow.lead hr g1)]; exact hkk j g1 g2
      clear hm0 hr0 hk0 hr hkk a1 a2 a3
      repeat' (first | ((with_reducible first | refine wA (by omega) ?_ | refine wB (by omega) ?_ | refine wC (by omega) ?_ | refine wD (by omega) ?_ | refine wE ?_ ?_ | refine wF ?_ ?_ | refine wG ?_ ?_ | refine wH ?_ ?_ | refine wI ?_ ?_ | refine wJ ?_ ?_ | refine wK ?_ ?_ | refine wL ?_ ?_) <;> intro _) | simp (maxSteps := 1000000) (disch := omega) only [go_sem, seval, *])
      refine Nx.mk (ls.length - (i + 1)) (by omega) ⟨i + 1, rfl, cE1, cE1, ?mm, ?rr, hk4⟩
      case mm => exact Nat.le_trans hm (Nat.le_trans hm4 (Nat.le_add_right _ _))
      case rr =>
        refine Kept.mk ?_
        simp only [upd_get, Nat.reduceEqDiff, ↓reduceIte]
        exact BRow.weak hr4 (Nat.le_refl _) (Nat.le_add_right _ _)
    · obtain rfl : i = ls.length := by omega
      rw [List.take_length] at hr
      repeat' (first | ((with_reducible first | refine wA (by omega) ?_ | refine wB (by omega) ?_ | refine wC (by omega) ?_ | refine wD (by omega) ?_ | refine wE ?_ ?_ | refine wF ?_ ?_ | refine wG ?_ ?_ | refine wH ?_ ?_ | refine wI ?_ ?_ | refine wJ ?_ ?_ | refine wK ?_ ?_ | refine wL ?_ ?_) <;> intro _) | simp (maxSteps := 1000000) (disch := omega) only [go_sem, seval, *])
      have a0 := encLs_len hnp ls hfl
      refine c_loopW 302157667927362455470145 (by kernel_rfl) (fun j f H2 m => ∃ i : Nat, j = args.length - i ∧ i ≤ args.length ∧ f 66 = .sc (.int .i64 i) ∧ nx ≤ m ∧ Kept (BRow H2 nx m (f 0) (b ++ (T ++ (encLs ls ++ encTs (args.take i))))) ∧ Kept (∀ j, j < nx → ¬ leadB a j → H2 j = H j)) _ ⟨0, rfl, Nat.zero_le _, cE1, ?mm, ?rr, hkk⟩ ?_
      case mm => exact Nat.le_trans hm (Nat.le_add_right _ _)
      case rr =>
        refine Kept.mk ?_
        simp (disch := omega) only [upd_get, ovr_get, Nat.reduceShiftRight, Nat.reduceMod, Nat.reduceEqDiff, ↓reduceIte, List.take_zero, encTs, List.append_nil, ite_neN, ite_eqN]
        exact BRow.weak hr (Nat.le_refl _) (Nat.le_add_right _ _)
      clear hm hr hkk hi hlt
      rintro _ g H5 m5 ⟨i, rfl, hi, e66, hm, hr, hkk⟩
      by_cases hlt : i < args.length
      · have eg : args[i]? = some args[i] := List.getElem?_eq_getElem hlt
        repeat' (first | ((with_reducible first | refine wA (by omega) ?_ | refine wB (by omega) ?_ | refine wC (by omega) ?_ | refine wD (by omega) ?_ | refine wE ?_ ?_ | refine wF ?_ ?_ | refine wG ?_ ?_ | refine wH ?_ ?_ | refine wI ?_ ?_ | refine wJ ?_ ?_ | refine wK ?_ ?_ | refine wL ?_ ?_) <;> intro _) | simp (maxSteps := 1000000) (disch := omega) only [go_sem, seval, *])
        have a1 := encTs_len hnp (args.take i) (packPs_take args i hfa)
        have a2 := nodesT_take_succ args i hlt
        have a3 := nodesT_take_le args (i + 1)
        refine call_mut (ih args[i] (by omega) (packPs_mem args i hlt hfa) (b ++ (T ++ (encLs ls ++ encTs (args.take i)))) (by simp only [List.length_append]; omega) (g 0) nx H5 _ (BRow.weak hr (Nat.le_refl _) (Nat.le_add_right _ _)) [] |> fun h => by rwa [List.append_nil] at h) ?_
        rintro H6 m6 r6 ⟨hm0, hr0, hk0⟩ -
        have hm6 : m5 ≤ m6 := Nat.le_trans (Nat.le_add_right _ _) hm0
        have hr6 : Kept (BRow H6 nx m6 r6 (b ++ (T ++ (encLs ls ++ encTs (args.take (i + 1)))))) := by
          rw [encTs_snoc args i hlt]
          simp only [List.append_assoc] at hr0 ⊢
          exact BRow.weak hr0 (Nat.le_trans hm (Nat.le_add_right _ _)) (Nat.le_refl _)
        have hk6 : Kept (∀ j, j < nx → ¬ leadB a j → H6 j = H j) := fun j g1 g2 => by
          rw [hk0 j (Nat.lt_of_lt_of_le g1 (Nat.le_trans hm (Nat.le_add_right _ _))) (BRow.lead hr g1)]; exact hkk j g1 g2
        clear hm0 hr0 hk0 hr hkk a1 a2 a3
        repeat' (first | ((with_reducible first | refine wA (by omega) ?_ | refine wB (by omega) ?_ | refine wC (by omega) ?_ | refine wD (by omega) ?_ | refine wE ?_ ?_ | refine wF ?_ ?_ | refine wG ?_ ?_ | refine wH ?_ ?_ | refine wI ?_ ?_ | refine wJ ?_ ?_ | refine wK ?_ ?_ | refine wL ?_ ?_) <;> intro _) | simp (maxSteps := 1000000) (disch := omega) only [go_sem, seval, *])
        refine Nx.mk (args.length - (i + 1)) (by omega) ⟨i + 1, rfl, cE1, cE1, ?mm, ?rr, hk6⟩
        case mm => exact Nat.le_trans hm (Nat.le_trans hm6 (Nat.le_add_right _ _))
        case rr =>
          refine Kept.mk ?_
          simp only [upd_get, Nat.reduceEqDiff, ↓reduceIte]
          exact BRow.weak hr6 (Nat.le_refl _) (Nat.le_add_right _ _)
      · obtain rfl : i = args.length := by omega
        rw [List.take_length] at hr
        repeat' (first | ((with_reducible first | refine wA (by omega) ?_ | refine wB (by omega) ?_ | refine wC (by omega) ?_ | refine wD (by omega) ?_ | refine wE ?_ ?_ | refine wF ?_ ?_ | refine wG ?_ ?_ | refine wH ?_ ?_ | refine wI ?_ ?_ | refine wJ ?_ ?_ | refine wK ?_ ?_ | refine wL ?_ ?_) <;> intro _) | simp (maxSteps := 1000000) (disch := omega) only [go_sem, seval, *])
        refine fin_mut (g 0) (.inr rfl) rfl ⟨Nat.le_trans hm (Nat.le_add_right _ _), ?g2, hkk⟩
        case g2 =>
          first
            | exact BRow.weak hr (Nat.le_refl _) (Nat.le_add_right _ _)
            | (rw [hT]; exact BRow.weak hr (Nat.le_refl _) (Nat.le_add_right _ _))
  · have hs2 := hs1 rfl
    have hel := enc_len6 ls.length (by omega)
    have hes := enc_len6 s.size (by omega)
    have c1 := Texts_p [s] (by simp) (by simp) (by rw [encT_one]; simp only [List.length_append, strC_len]; omega)
    have het : (encT [s]).length ≤ 46 := by rw [encT_one]; simp only [List.length_append, strC_len]; omega
    obtain ⟨g0, -⟩ | ⟨id, w, g1, g2, rfl, g3⟩ := hr1
    · have h5 := congrArg List.length g0
      have h6 := Plain.enc_length_pos 3
      simp only [List.length_append, List.length_nil] at h5
      omega
    have hb1 : b.length + ((Plain.enc 3).length + (encT [s]).length) ≤ 140737488355328 := by omega
    have hb2 : b.length + ((Plain.enc 3).length + (encT [s]).length) ≤ 4611686018427387904 := by omega
    repeat' (first | ((with_reducible first | refine wA (by omega) ?_ | refine wB (by omega) ?_ | refine wC (by omega) ?_ | refine wD (by omega) ?_ | refine wE ?_ ?_ | refine wF ?_ ?_ | refine wG ?_ ?_ | refine wH ?_ ?_ | refine wI ?_ ?_ | refine wJ ?_ ?_ | refine wK ?_ ?_ | refine wL ?_ ?_) <;> intro _) | (((with_reducible refine call_id ?_); (first | (refine call_pure (c1) ?_)))) | simp (maxSteps := 1000000) (disch := omega) only [go_sem, seval, rowB, *])
    refine call_mut (put_m [ls.length] (by simp; omega) (by simp) (by simp) (b ++ (Plain.enc 3 ++ encT [s])) (by simp only [List.length_append]; omega) (.osl (m1 + 15) 0 (b.length + ((Plain.enc 3).length + (encT [s]).length)) 1) 0 _ _ (.inr ⟨m1 + 15, false, Nat.zero_le _, (show m1 + 15 < m1 + 24 by omega), by simp only [List.length_append], by simp [upd, bC_append]⟩)) ?_
    rintro H2 m2 r2 ⟨hm0, hr0, hk0⟩ -
    obtain ⟨T, hT1⟩ : ∃ T, T = Plain.enc 3 ++ (encT [s] ++ Plain.enc ls.length) := ⟨_, rfl⟩
    have hm2 : nx ≤ m2 := Nat.le_trans (show nx ≤ m1 + 24 by omega) hm0
    have hr2 : Kept (BRow H2 nx m2 r2 (b ++ T)) := by
      have := BRow.weak hr0 (show nx ≤ m1 + 24 by omega) (Nat.le_refl _)
      rw [encs_one] at this
      rw [hT1]
      simp only [List.append_assoc] at this ⊢
      exact this
    have hk2 : Kept (∀ j, j < nx → ¬ leadB a j → H2 j = H j) := fun j g5 g6 => by
      rw [hk0 j (show j < m1 + 24 by omega) (fun e => by have : j = m1 + 15 := e; omega)]
      show upd (upd H1 id none) (m1 + 15) _ j = H j
      rw [upd_ne _ _ (show j ≠ m1 + 15 by omega), upd_ne _ _ (show j ≠ id by omega)]
      exact hk1 j g5 g6
    have hT2 : T.length ≤ 60 := by rw [hT1]; simp only [List.length_append]; omega
    have hT : (Tm.mk 3 n s ls args).enc = T ++ (encLs ls ++ encTs args) := by
      rw [hT1]; simp [Tm.enc]
    clear hm0 hr0 hk0 hk1 hm1 hT1 c1 hb1 hb2 g1 g2 g3
    repeat' (first | ((with_reducible first | refine wA (by omega) ?_ | refine wB (by omega) ?_ | refine wC (by omega) ?_ | refine wD (by omega) ?_ | refine wE ?_ ?_ | refine wF ?_ ?_ | refine wG ?_ ?_ | refine wH ?_ ?_ | refine wI ?_ ?_ | refine wJ ?_ ?_ | refine wK ?_ ?_ | refine wL ?_ ?_) <;> intro _) | simp (maxSteps := 1000000) (disch := omega) only [go_sem, seval, *])
    have hTl : T.length ≤ 60 := hT2
    refine c_loopW 2305280059260272673 (by kernel_rfl) (fun j f H2 m => ∃ i : Nat, j = ls.length - i ∧ i ≤ ls.length ∧ f 49 = .sc (.int .i64 i) ∧ nx ≤ m ∧ Kept (BRow H2 nx m (f 0) (b ++ (T ++ encLs (ls.take i)))) ∧ Kept (∀ j, j < nx → ¬ leadB a j → H2 j = H j)) _ ⟨0, rfl, Nat.zero_le _, cE1, ?mm, ?rr, hk2⟩ ?_
    case mm => exact Nat.le_trans hm2 (Nat.le_add_right _ _)
    case rr =>
      refine Kept.mk ?_
      simp only [upd_get, Nat.reduceEqDiff, ↓reduceIte, List.take_zero, encLs, List.append_nil]
      exact BRow.weak hr2 (Nat.le_refl _) (Nat.le_add_right _ _)
    clear hm2 hr2 hk2
    rintro _ f H3 m3 ⟨i, rfl, hi, e49, hm, hr, hkk⟩
    by_cases hlt : i < ls.length
    · have eg : ls[i]? = some ls[i] := List.getElem?_eq_getElem hlt
      have hnm := nodesL_mem ls i hlt
      repeat' (first | ((with_reducible first | refine wA (by omega) ?_ | refine wB (by omega) ?_ | refine wC (by omega) ?_ | refine wD (by omega) ?_ | refine wE ?_ ?_ | refine wF ?_ ?_ | refine wG ?_ ?_ | refine wH ?_ ?_ | refine wI ?_ ?_ | refine wJ ?_ ?_ | refine wK ?_ ?_ | refine wL ?_ ?_) <;> intro _) | simp (maxSteps := 1000000) (disch := omega) only [go_sem, seval, *])
      have a1 := encLs_len hnp (ls.take i) (formedL_all np ls i hfl)
      have a2 := nodesL_take_succ ls i hlt
      have a3 := nodesL_take_le ls (i + 1)
      refine call_mut (putLevel_m hnp _ ls[i] (Nat.le_refl _) (formedL_mem ls i hlt hfl) (b ++ (T ++ encLs (ls.take i))) (by simp only [List.length_append]; omega) (f 0) nx H3 _ (BRow.weak hr (Nat.le_refl _) (Nat.le_add_right _ _))) ?_
      rintro H4 m4 r4 ⟨hm0, hr0, hk0⟩ -
      have hm4 : m3 ≤ m4 := Nat.le_trans (Nat.le_add_right _ _) hm0
      have hr4 : Kept (BRow H4 nx m4 r4 (b ++ (T ++ encLs (ls.take (i + 1))))) := by
        rw [encLs_snoc ls i hlt]
        simp only [List.append_assoc] at hr0 ⊢
        exact BRow.weak hr0 (Nat.le_trans hm (Nat.le_add_right _ _)) (Nat.le_refl _)
      have hk4 : Kept (∀ j, j < nx → ¬ leadB a j → H4 j = H j) := fun j g1 g2 => by
        rw [hk0 j (Nat.lt_of_lt_of_le g1 (Nat.le_trans hm (Nat.le_add_right _ _))) (BRow.lead hr g1)]; exact hkk j g1 g2
      clear hm0 hr0 hk0 hr hkk a1 a2 a3
      repeat' (first | ((with_reducible first | refine wA (by omega) ?_ | refine wB (by omega) ?_ | refine wC (by omega) ?_ | refine wD (by omega) ?_ | refine wE ?_ ?_ | refine wF ?_ ?_ | refine wG ?_ ?_ | refine wH ?_ ?_ | refine wI ?_ ?_ | refine wJ ?_ ?_ | refine wK ?_ ?_ | refine wL ?_ ?_) <;> intro _) | simp (maxSteps := 1000000) (disch := omega) only [go_sem, seval, *])
      refine Nx.mk (ls.length - (i + 1)) (by omega) ⟨i + 1, rfl, cE1, cE1, ?mm, ?rr, hk4⟩
      case mm => exact Nat.le_trans hm (Nat.le_trans hm4 (Nat.le_add_right _ _))
      case rr =>
        refine Kept.mk ?_
        simp only [upd_get, Nat.reduceEqDiff, ↓reduceIte]
        exact BRow.weak hr4 (Nat.le_refl _) (Nat.le_add_right _ _)
    · obtain rfl : i = ls.length := by omega
      rw [List.take_length] at hr
      repeat' (first | ((with_reducible first | refine wA (by omega) ?_ | refine wB (by omega) ?_ | refine wC (by omega) ?_ | refine wD (by omega) ?_ | refine wE ?_ ?_ | refine wF ?_ ?_ | refine wG ?_ ?_ | refine wH ?_ ?_ | refine wI ?_ ?_ | refine wJ ?_ ?_ | refine wK ?_ ?_ | refine wL ?_ ?_) <;> intro _) | simp (maxSteps := 1000000) (disch := omega) only [go_sem, seval, *])
      have a0 := encLs_len hnp ls hfl
      refine c_loopW 302157667927362455470145 (by kernel_rfl) (fun j f H2 m => ∃ i : Nat, j = args.length - i ∧ i ≤ args.length ∧ f 66 = .sc (.int .i64 i) ∧ nx ≤ m ∧ Kept (BRow H2 nx m (f 0) (b ++ (T ++ (encLs ls ++ encTs (args.take i))))) ∧ Kept (∀ j, j < nx → ¬ leadB a j → H2 j = H j)) _ ⟨0, rfl, Nat.zero_le _, cE1, ?mm, ?rr, hkk⟩ ?_
      case mm => exact Nat.le_trans hm (Nat.le_add_right _ _)
      case rr =>
        refine Kept.mk ?_
        simp (disch := omega) only [upd_get, ovr_get, Nat.reduceShiftRight, Nat.reduceMod, Nat.reduceEqDiff, ↓reduceIte, List.take_zero, encTs, List.append_nil, ite_neN, ite_eqN]
        exact BRow.weak hr (Nat.le_refl _) (Nat.le_add_right _ _)
      clear hm hr hkk hi hlt
      rintro _ g H5 m5 ⟨i, rfl, hi, e66, hm, hr, hkk⟩
      by_cases hlt : i < args.length
      · have eg : args[i]? = some args[i] := List.getElem?_eq_getElem hlt
        repeat' (first | ((with_reducible first | refine wA (by omega) ?_ | refine wB (by omega) ?_ | refine wC (by omega) ?_ | refine wD (by omega) ?_ | refine wE ?_ ?_ | refine wF ?_ ?_ | refine wG ?_ ?_ | refine wH ?_ ?_ | refine wI ?_ ?_ | refine wJ ?_ ?_ | refine wK ?_ ?_ | refine wL ?_ ?_) <;> intro _) | simp (maxSteps := 1000000) (disch := omega) only [go_sem, seval, *])
        have a1 := encTs_len hnp (args.take i) (packPs_take args i hfa)
        have a2 := nodesT_take_succ args i hlt
        have a3 := nodesT_take_le args (i + 1)
        refine call_mut (ih args[i] (by omega) (packPs_mem args i hlt hfa) (b ++ (T ++ (encLs ls ++ encTs (args.take i)))) (by simp only [List.length_append]; omega) (g 0) nx H5 _ (BRow.weak hr (Nat.le_refl _) (Nat.le_add_right _ _)) [] |> fun h => by rwa [List.append_nil] at h) ?_
        rintro H6 m6 r6 ⟨hm0, hr0, hk0⟩ -
        have hm6 : m5 ≤ m6 := Nat.le_trans (Nat.le_add_right _ _) hm0
        have hr6 : Kept (BRow H6 nx m6 r6 (b ++ (T ++ (encLs ls ++ encTs (args.take (i + 1)))))) := by
          rw [encTs_snoc args i hlt]
          simp only [List.append_assoc] at hr0 ⊢
          exact BRow.weak hr0 (Nat.le_trans hm (Nat.le_add_right _ _)) (Nat.le_refl _)
        have hk6 : Kept (∀ j, j < nx → ¬ leadB a j → H6 j = H j) := fun j g1 g2 => by
          rw [hk0 j (Nat.lt_of_lt_of_le g1 (Nat.le_trans hm (Nat.le_add_right _ _))) (BRow.lead hr g1)]; exact hkk j g1 g2
        clear hm0 hr0 hk0 hr hkk a1 a2 a3
        repeat' (first | ((with_reducible first | refine wA (by omega) ?_ | refine wB (by omega) ?_ | refine wC (by omega) ?_ | refine wD (by omega) ?_ | refine wE ?_ ?_ | refine wF ?_ ?_ | refine wG ?_ ?_ | refine wH ?_ ?_ | refine wI ?_ ?_ | refine wJ ?_ ?_ | refine wK ?_ ?_ | refine wL ?_ ?_) <;> intro _) | simp (maxSteps := 1000000) (disch := omega) only [go_sem, seval, *])
        refine Nx.mk (args.length - (i + 1)) (by omega) ⟨i + 1, rfl, cE1, cE1, ?mm, ?rr, hk6⟩
        case mm => exact Nat.le_trans hm (Nat.le_trans hm6 (Nat.le_add_right _ _))
        case rr =>
          refine Kept.mk ?_
          simp only [upd_get, Nat.reduceEqDiff, ↓reduceIte]
          exact BRow.weak hr6 (Nat.le_refl _) (Nat.le_add_right _ _)
      · obtain rfl : i = args.length := by omega
        rw [List.take_length] at hr
        repeat' (first | ((with_reducible first | refine wA (by omega) ?_ | refine wB (by omega) ?_ | refine wC (by omega) ?_ | refine wD (by omega) ?_ | refine wE ?_ ?_ | refine wF ?_ ?_ | refine wG ?_ ?_ | refine wH ?_ ?_ | refine wI ?_ ?_ | refine wJ ?_ ?_ | refine wK ?_ ?_ | refine wL ?_ ?_) <;> intro _) | simp (maxSteps := 1000000) (disch := omega) only [go_sem, seval, *])
        refine fin_mut (g 0) (.inr rfl) rfl ⟨Nat.le_trans hm (Nat.le_add_right _ _), ?g2, hkk⟩
        case g2 =>
          first
            | exact BRow.weak hr (Nat.le_refl _) (Nat.le_add_right _ _)
            | (rw [hT]; exact BRow.weak hr (Nat.le_refl _) (Nat.le_add_right _ _))
  · obtain ⟨T, hT1⟩ : ∃ T, T = Plain.enc k := ⟨_, rfl⟩
    have hm2 : nx ≤ m1 := Nat.le_of_lt hm1
    have hr2 : Kept (BRow H1 nx m1 r1 (b ++ T)) := by rw [hT1]; exact hr1
    have hk2 := hk1
    have hT2 : T.length ≤ 60 := by rw [hT1]; omega
    have hT : (Tm.mk (k : Int) n s ls args).enc = T ++ (encLs ls ++ encTs args) := by
      rw [hT1]; simp only [Tm.enc, Int.toNat_natCast]; rw [if_neg (by omega), if_neg (by omega), List.nil_append]
    clear hr1 hk1 hm1 hT1
    repeat' (first | ((with_reducible first | refine wA (by omega) ?_ | refine wB (by omega) ?_ | refine wC (by omega) ?_ | refine wD (by omega) ?_ | refine wE ?_ ?_ | refine wF ?_ ?_ | refine wG ?_ ?_ | refine wH ?_ ?_ | refine wI ?_ ?_ | refine wJ ?_ ?_ | refine wK ?_ ?_ | refine wL ?_ ?_) <;> intro _) | simp (maxSteps := 1000000) (disch := omega) only [go_sem, seval, *])
    have hTl : T.length ≤ 60 := hT2
    refine c_loopW 2305280059260272673 (by kernel_rfl) (fun j f H2 m => ∃ i : Nat, j = ls.length - i ∧ i ≤ ls.length ∧ f 49 = .sc (.int .i64 i) ∧ nx ≤ m ∧ Kept (BRow H2 nx m (f 0) (b ++ (T ++ encLs (ls.take i)))) ∧ Kept (∀ j, j < nx → ¬ leadB a j → H2 j = H j)) _ ⟨0, rfl, Nat.zero_le _, cE1, ?mm, ?rr, hk2⟩ ?_
    case mm => exact Nat.le_trans hm2 (Nat.le_add_right _ _)
    case rr =>
      refine Kept.mk ?_
      simp only [upd_get, Nat.reduceEqDiff, ↓reduceIte, List.take_zero, encLs, List.append_nil]
      exact BRow.weak hr2 (Nat.le_refl _) (Nat.le_add_right _ _)
    clear hm2 hr2 hk2
    rintro _ f H3 m3 ⟨i, rfl, hi, e49, hm, hr, hkk⟩
    by_cases hlt : i < ls.length
    · have eg : ls[i]? = some ls[i] := List.getElem?_eq_getElem hlt
      have hnm := nodesL_mem ls i hlt
      repeat' (first | ((with_reducible first | refine wA (by omega) ?_ | refine wB (by omega) ?_ | refine wC (by omega) ?_ | refine wD (by omega) ?_ | refine wE ?_ ?_ | refine wF ?_ ?_ | refine wG ?_ ?_ | refine wH ?_ ?_ | refine wI ?_ ?_ | refine wJ ?_ ?_ | refine wK ?_ ?_ | refine wL ?_ ?_) <;> intro _) | simp (maxSteps := 1000000) (disch := omega) only [go_sem, seval, *])
      have a1 := encLs_len hnp (ls.take i) (formedL_all np ls i hfl)
      have a2 := nodesL_take_succ ls i hlt
      have a3 := nodesL_take_le ls (i + 1)
      refine call_mut (putLevel_m hnp _ ls[i] (Nat.le_refl _) (formedL_mem ls i hlt hfl) (b ++ (T ++ encLs (ls.take i))) (by simp only [List.length_append]; omega) (f 0) nx H3 _ (BRow.weak hr (Nat.le_refl _) (Nat.le_add_right _ _))) ?_
      rintro H4 m4 r4 ⟨hm0, hr0, hk0⟩ -
      have hm4 : m3 ≤ m4 := Nat.le_trans (Nat.le_add_right _ _) hm0
      have hr4 : Kept (BRow H4 nx m4 r4 (b ++ (T ++ encLs (ls.take (i + 1))))) := by
        rw [encLs_snoc ls i hlt]
        simp only [List.append_assoc] at hr0 ⊢
        exact BRow.weak hr0 (Nat.le_trans hm (Nat.le_add_right _ _)) (Nat.le_refl _)
      have hk4 : Kept (∀ j, j < nx → ¬ leadB a j → H4 j = H j) := fun j g1 g2 => by
        rw [hk0 j (Nat.lt_of_lt_of_le g1 (Nat.le_trans hm (Nat.le_add_right _ _))) (BRow.lead hr g1)]; exact hkk j g1 g2
      clear hm0 hr0 hk0 hr hkk a1 a2 a3
      repeat' (first | ((with_reducible first | refine wA (by omega) ?_ | refine wB (by omega) ?_ | refine wC (by omega) ?_ | refine wD (by omega) ?_ | refine wE ?_ ?_ | refine wF ?_ ?_ | refine wG ?_ ?_ | refine wH ?_ ?_ | refine wI ?_ ?_ | refine wJ ?_ ?_ | refine wK ?_ ?_ | refine wL ?_ ?_) <;> intro _) | simp (maxSteps := 1000000) (disch := omega) only [go_sem, seval, *])
      refine Nx.mk (ls.length - (i + 1)) (by omega) ⟨i + 1, rfl, cE1, cE1, ?mm, ?rr, hk4⟩
      case mm => exact Nat.le_trans hm (Nat.le_trans hm4 (Nat.le_add_right _ _))
      case rr =>
        refine Kept.mk ?_
        simp only [upd_get, Nat.reduceEqDiff, ↓reduceIte]
        exact BRow.weak hr4 (Nat.le_refl _) (Nat.le_add_right _ _)
    · obtain rfl : i = ls.length := by omega
      rw [List.take_length] at hr
      repeat' (first | ((with_reducible first | refine wA (by omega) ?_ | refine wB (by omega) ?_ | refine wC (by omega) ?_ | refine wD (by omega) ?_ | refine wE ?_ ?_ | refine wF ?_ ?_ | refine wG ?_ ?_ | refine wH ?_ ?_ | refine wI ?_ ?_ | refine wJ ?_ ?_ | refine wK ?_ ?_ | refine wL ?_ ?_) <;> intro _) | simp (maxSteps := 1000000) (disch := omega) only [go_sem, seval, *])
      have a0 := encLs_len hnp ls hfl
      refine c_loopW 302157667927362455470145 (by kernel_rfl) (fun j f H2 m => ∃ i : Nat, j = args.length - i ∧ i ≤ args.length ∧ f 66 = .sc (.int .i64 i) ∧ nx ≤ m ∧ Kept (BRow H2 nx m (f 0) (b ++ (T ++ (encLs ls ++ encTs (args.take i))))) ∧ Kept (∀ j, j < nx → ¬ leadB a j → H2 j = H j)) _ ⟨0, rfl, Nat.zero_le _, cE1, ?mm, ?rr, hkk⟩ ?_
      case mm => exact Nat.le_trans hm (Nat.le_add_right _ _)
      case rr =>
        refine Kept.mk ?_
        simp (disch := omega) only [upd_get, ovr_get, Nat.reduceShiftRight, Nat.reduceMod, Nat.reduceEqDiff, ↓reduceIte, List.take_zero, encTs, List.append_nil, ite_neN, ite_eqN]
        exact BRow.weak hr (Nat.le_refl _) (Nat.le_add_right _ _)
      clear hm hr hkk hi hlt
      rintro _ g H5 m5 ⟨i, rfl, hi, e66, hm, hr, hkk⟩
      by_cases hlt : i < args.length
      · have eg : args[i]? = some args[i] := List.getElem?_eq_getElem hlt
        repeat' (first | ((with_reducible first | refine wA (by omega) ?_ | refine wB (by omega) ?_ | refine wC (by omega) ?_ | refine wD (by omega) ?_ | refine wE ?_ ?_ | refine wF ?_ ?_ | refine wG ?_ ?_ | refine wH ?_ ?_ | refine wI ?_ ?_ | refine wJ ?_ ?_ | refine wK ?_ ?_ | refine wL ?_ ?_) <;> intro _) | simp (maxSteps := 1000000) (disch := omega) only [go_sem, seval, *])
        have a1 := encTs_len hnp (args.take i) (packPs_take args i hfa)
        have a2 := nodesT_take_succ args i hlt
        have a3 := nodesT_take_le args (i + 1)
        refine call_mut (ih args[i] (by omega) (packPs_mem args i hlt hfa) (b ++ (T ++ (encLs ls ++ encTs (args.take i)))) (by simp only [List.length_append]; omega) (g 0) nx H5 _ (BRow.weak hr (Nat.le_refl _) (Nat.le_add_right _ _)) [] |> fun h => by rwa [List.append_nil] at h) ?_
        rintro H6 m6 r6 ⟨hm0, hr0, hk0⟩ -
        have hm6 : m5 ≤ m6 := Nat.le_trans (Nat.le_add_right _ _) hm0
        have hr6 : Kept (BRow H6 nx m6 r6 (b ++ (T ++ (encLs ls ++ encTs (args.take (i + 1)))))) := by
          rw [encTs_snoc args i hlt]
          simp only [List.append_assoc] at hr0 ⊢
          exact BRow.weak hr0 (Nat.le_trans hm (Nat.le_add_right _ _)) (Nat.le_refl _)
        have hk6 : Kept (∀ j, j < nx → ¬ leadB a j → H6 j = H j) := fun j g1 g2 => by
          rw [hk0 j (Nat.lt_of_lt_of_le g1 (Nat.le_trans hm (Nat.le_add_right _ _))) (BRow.lead hr g1)]; exact hkk j g1 g2
        clear hm0 hr0 hk0 hr hkk a1 a2 a3
        repeat' (first | ((with_reducible first | refine wA (by omega) ?_ | refine wB (by omega) ?_ | refine wC (by omega) ?_ | refine wD (by omega) ?_ | refine wE ?_ ?_ | refine wF ?_ ?_ | refine wG ?_ ?_ | refine wH ?_ ?_ | refine wI ?_ ?_ | refine wJ ?_ ?_ | refine wK ?_ ?_ | refine wL ?_ ?_) <;> intro _) | simp (maxSteps := 1000000) (disch := omega) only [go_sem, seval, *])
        refine Nx.mk (args.length - (i + 1)) (by omega) ⟨i + 1, rfl, cE1, cE1, ?mm, ?rr, hk6⟩
        case mm => exact Nat.le_trans hm (Nat.le_trans hm6 (Nat.le_add_right _ _))
        case rr =>
          refine Kept.mk ?_
          simp only [upd_get, Nat.reduceEqDiff, ↓reduceIte]
          exact BRow.weak hr6 (Nat.le_refl _) (Nat.le_add_right _ _)
      · obtain rfl : i = args.length := by omega
        rw [List.take_length] at hr
        repeat' (first | ((with_reducible first | refine wA (by omega) ?_ | refine wB (by omega) ?_ | refine wC (by omega) ?_ | refine wD (by omega) ?_ | refine wE ?_ ?_ | refine wF ?_ ?_ | refine wG ?_ ?_ | refine wH ?_ ?_ | refine wI ?_ ?_ | refine wJ ?_ ?_ | refine wK ?_ ?_ | refine wL ?_ ?_) <;> intro _) | simp (maxSteps := 1000000) (disch := omega) only [go_sem, seval, *])
        refine fin_mut (g 0) (.inr rfl) rfl ⟨Nat.le_trans hm (Nat.le_add_right _ _), ?g2, hkk⟩
        case g2 =>
          first
            | exact BRow.weak hr (Nat.le_refl _) (Nat.le_add_right _ _)
            | (rw [hT]; exact BRow.weak hr (Nat.le_refl _) (Nat.le_add_right _ _))
end
section
set_option maxRecDepth 20000
attribute [local go_sem] Nat.add_assoc id_ne id_ne' id_ne2 List.append_assoc bC_len bC_one pv_take tm_take pv_len tm_len
mutual
def Tm.nearB : Tm → Bool
  | .mk k n _ _ args => !(decide (k = 1) && decide (1099511627776 ≤ n)) && nearA args
def nearA : List Tm → Bool
  | [] => true
  | x :: r => x.nearB && nearA r
end
theorem nearA_take : ∀ (ls : List Tm) (k : Nat) (h : k < ls.length), nearA (ls.take (k + 1)) = (nearA (ls.take k) && ls[k].nearB)
  | x :: r, 0, h => by simp [nearA]
  | x :: r, k + 1, h => by
    have := nearA_take r k (by simpa using h)
    simp only [List.take_succ_cons, nearA, List.getElem_cons_succ, this, Bool.and_assoc]
theorem nearA_false : ∀ (ls : List Tm) (k : Nat) (h : k < ls.length), ls[k].nearB = false → nearA ls = false
  | x :: r, 0, h, e => by simp only [List.getElem_cons_zero] at e; simp [nearA, e]
  | x :: r, k + 1, h, e => by
    have := nearA_false r k (by simpa using h) (by simpa using e)
    simp [nearA, this]
set_option maxHeartbeats 8000000 in
theorem near_p : ∀ (fuel : Nat) (t : Tm), t.size ≤ fuel → PPure Try.prog F.pack_near [.ptr t.pv] (.sc (.bool t.nearB)) := by
  intro fuel
  induction fuel with
  | zero => intro t h; have := size_pos t; omega
  | succ fuel ih =>
  intro t hn
  cases t with
  | mk k n s ls args =>
  simp only [Tm.size] at hn
  refine pure_by is_pack_near (by simp) rfl fun hb nx => ?_
  have hba : args.length ≤ 9223372036854775807 := by simp [Tm.pv, bndL, PV.bnd] at hb; omega
  clear hb
  by_cases h1 : k = 1 ∧ 1099511627776 ≤ n
  · obtain ⟨h1, h2⟩ := h1
    repeat' (first | ((with_reducible first | refine wA (by omega) ?_ | refine wB (by omega) ?_ | refine wC (by omega) ?_ | refine wD (by omega) ?_ | refine wE ?_ ?_ | refine wF ?_ ?_ | refine wG ?_ ?_ | refine wH ?_ ?_ | refine wI ?_ ?_ | refine wJ ?_ ?_ | refine wK ?_ ?_ | refine wL ?_ ?_) <;> intro _) | simp (maxSteps := 1000000) (disch := omega) only [go_sem, seval, mc_pack_near, Tm.pv, *])
    refine fin_tmp (.inr rfl) ?_
    simp [upd, Tm.nearB, h1, h2]
  · have hnb : (Tm.mk k n s ls args).nearB = nearA args := by
      have : (decide (k = 1) && decide (1099511627776 ≤ n)) = false := by
        rw [Bool.eq_false_iff]; intro e; simp only [Bool.and_eq_true, decide_eq_true_eq] at e; exact h1 e
      simp [Tm.nearB, this]
    rw [hnb]
    clear hnb
    obtain h1 | ⟨h1, h2⟩ : k ≠ 1 ∨ (k = 1 ∧ ¬ 1099511627776 ≤ n) := by omega
    · repeat' (first | ((with_reducible first | refine wA (by omega) ?_ | refine wB (by omega) ?_ | refine wC (by omega) ?_ | refine wD (by omega) ?_ | refine wE ?_ ?_ | refine wF ?_ ?_ | refine wG ?_ ?_ | refine wH ?_ ?_ | refine wI ?_ ?_ | refine wJ ?_ ?_ | refine wK ?_ ?_ | refine wL ?_ ?_) <;> intro _) | simp (maxSteps := 1000000) (disch := omega) only [go_sem, seval, mc_pack_near, Tm.pv, *])
      refine c_loopW 8587837452 (by kernel_rfl) (fun j f H m => ∃ i : Nat, j = args.length - i ∧ i ≤ args.length ∧ f 21 = .sc (.int .i64 i) ∧ Kept (nearA (args.take i) = true)) _ ⟨0, rfl, Nat.zero_le _, cE1, Kept.mk rfl⟩ ?_
      rintro _ f H m ⟨i, rfl, hi, e21, hs⟩
      by_cases hlt : i < args.length
      · have eg : args[i]? = some args[i] := List.getElem?_eq_getElem hlt
        have hz := sizeL_mem args i hlt
        have c1 := ih args[i] (by omega)
        have ht := nearA_take args i hlt
        cases hc : args[i].nearB with
        | false =>
          have e := nearA_false args i hlt hc
          rw [hc] at c1
          rw [e]
          clear ht hs e hc
          repeat' (first | ((with_reducible first | refine wA (by omega) ?_ | refine wB (by omega) ?_ | refine wC (by omega) ?_ | refine wD (by omega) ?_ | refine wE ?_ ?_ | refine wF ?_ ?_ | refine wG ?_ ?_ | refine wH ?_ ?_ | refine wI ?_ ?_ | refine wJ ?_ ?_ | refine wK ?_ ?_ | refine wL ?_ ?_) <;> intro _) | (((with_reducible refine call_id ?_); (first | (refine call_pure (c1) ?_)))) | simp (maxSteps := 1000000) (disch := omega) only [go_sem, seval, *])
          all_goals (exact fin_tmp (.inr rfl) cE3)
        | true =>
          have hs2 : Kept (nearA (args.take (i + 1)) = true) := Kept.mk (by rw [ht, hc, show nearA (args.take i) = true from hs]; rfl)
          rw [hc] at c1
          clear ht hs hc
          repeat' (first | ((with_reducible first | refine wA (by omega) ?_ | refine wB (by omega) ?_ | refine wC (by omega) ?_ | refine wD (by omega) ?_ | refine wE ?_ ?_ | refine wF ?_ ?_ | refine wG ?_ ?_ | refine wH ?_ ?_ | refine wI ?_ ?_ | refine wJ ?_ ?_ | refine wK ?_ ?_ | refine wL ?_ ?_) <;> intro _) | (((with_reducible refine call_id ?_); (first | (refine call_pure (c1) ?_)))) | simp (maxSteps := 1000000) (disch := omega) only [go_sem, seval, *])
          exact Nx.mk (args.length - (i + 1)) (by omega) ⟨i + 1, rfl, cE1, cE1, hs2⟩
      · obtain rfl : i = args.length := by omega
        rw [List.take_length] at hs
        rw [show nearA args = true from hs]
        repeat' (first | ((with_reducible first | refine wA (by omega) ?_ | refine wB (by omega) ?_ | refine wC (by omega) ?_ | refine wD (by omega) ?_ | refine wE ?_ ?_ | refine wF ?_ ?_ | refine wG ?_ ?_ | refine wH ?_ ?_ | refine wI ?_ ?_ | refine wJ ?_ ?_ | refine wK ?_ ?_ | refine wL ?_ ?_) <;> intro _) | simp (maxSteps := 1000000) (disch := omega) only [go_sem, seval, *])
        all_goals (exact fin_tmp (.inr rfl) cE3)
    · repeat' (first | ((with_reducible first | refine wA (by omega) ?_ | refine wB (by omega) ?_ | refine wC (by omega) ?_ | refine wD (by omega) ?_ | refine wE ?_ ?_ | refine wF ?_ ?_ | refine wG ?_ ?_ | refine wH ?_ ?_ | refine wI ?_ ?_ | refine wJ ?_ ?_ | refine wK ?_ ?_ | refine wL ?_ ?_) <;> intro _) | simp (maxSteps := 1000000) (disch := omega) only [go_sem, seval, mc_pack_near, Tm.pv, *])
      refine c_loopW 8587837452 (by kernel_rfl) (fun j f H m => ∃ i : Nat, j = args.length - i ∧ i ≤ args.length ∧ f 21 = .sc (.int .i64 i) ∧ Kept (nearA (args.take i) = true)) _ ⟨0, rfl, Nat.zero_le _, cE1, Kept.mk rfl⟩ ?_
      rintro _ f H m ⟨i, rfl, hi, e21, hs⟩
      by_cases hlt : i < args.length
      · have eg : args[i]? = some args[i] := List.getElem?_eq_getElem hlt
        have hz := sizeL_mem args i hlt
        have c1 := ih args[i] (by omega)
        have ht := nearA_take args i hlt
        cases hc : args[i].nearB with
        | false =>
          have e := nearA_false args i hlt hc
          rw [hc] at c1
          rw [e]
          clear ht hs e hc
          repeat' (first | ((with_reducible first | refine wA (by omega) ?_ | refine wB (by omega) ?_ | refine wC (by omega) ?_ | refine wD (by omega) ?_ | refine wE ?_ ?_ | refine wF ?_ ?_ | refine wG ?_ ?_ | refine wH ?_ ?_ | refine wI ?_ ?_ | refine wJ ?_ ?_ | refine wK ?_ ?_ | refine wL ?_ ?_) <;> intro _) | (((with_reducible refine call_id ?_); (first | (refine call_pure (c1) ?_)))) | simp (maxSteps := 1000000) (disch := omega) only [go_sem, seval, *])
          all_goals (exact fin_tmp (.inr rfl) cE3)
        | true =>
          have hs2 : Kept (nearA (args.take (i + 1)) = true) := Kept.mk (by rw [ht, hc, show nearA (args.take i) = true from hs]; rfl)
          rw [hc] at c1
          clear ht hs hc
          repeat' (first | ((with_reducible first | refine wA (by omega) ?_ | refine wB (by omega) ?_ | refine wC (by omega) ?_ | refine wD (by omega) ?_ | refine wE ?_ ?_ | refine wF ?_ ?_ | refine wG ?_ ?_ | refine wH ?_ ?_ | refine wI ?_ ?_ | refine wJ ?_ ?_ | refine wK ?_ ?_ | refine wL ?_ ?_) <;> intro _) | (((with_reducible refine call_id ?_); (first | (refine call_pure (c1) ?_)))) | simp (maxSteps := 1000000) (disch := omega) only [go_sem, seval, *])
          exact Nx.mk (args.length - (i + 1)) (by omega) ⟨i + 1, rfl, cE1, cE1, hs2⟩
      · obtain rfl : i = args.length := by omega
        rw [List.take_length] at hs
        rw [show nearA args = true from hs]
        repeat' (first | ((with_reducible first | refine wA (by omega) ?_ | refine wB (by omega) ?_ | refine wC (by omega) ?_ | refine wD (by omega) ?_ | refine wE ?_ ?_ | refine wF ?_ ?_ | refine wG ?_ ?_ | refine wH ?_ ?_ | refine wI ?_ ?_ | refine wJ ?_ ?_ | refine wK ?_ ?_ | refine wL ?_ ?_) <;> intro _) | simp (maxSteps := 1000000) (disch := omega) only [go_sem, seval, *])
        all_goals (exact fin_tmp (.inr rfl) cE3)
theorem putTerm_m0 {np : Int} (hnp : np ≤ 4) (t : Tm) (h1 : t.packP np) (b : List UInt8) (hb : b.length + 64 * t.nodes ≤ 2 ^ 40) (a : PV) (lo : Nat) (H : Nat → Option PObj) (nx : Nat) (ha : BRow H lo nx a b) :
    PMut Try.prog F.pack_putTerm [a, .ptr t.pv] H nx (fun H' nx' r => nx ≤ nx' ∧ BRow H' nx nx' r (b ++ t.enc) ∧ ∀ j, j < nx → ¬ leadB a j → H' j = H j) := by
  have h := putTerm_m hnp _ t (Nat.le_refl _) h1 b hb a lo H nx ha []
  rwa [List.append_nil] at h
def Tm.packB (t : Tm) : Bool := t.right 4 1125899906842624 && t.nearB
theorem packs_p (t : Tm) : PPure Try.prog F.pack_packs [.ptr t.pv] (.sc (.bool t.packB)) := by
  refine pure_by is_pack_packs (by simp) rfl fun hb nx => ?_
  clear hb
  have c1 := tRightG_p t 4 1125899906842624
  have c2 := near_p _ t (Nat.le_refl _)
  unfold Tm.packB
  cases hr : t.right 4 1125899906842624 with
  | false =>
    rw [hr] at c1
    clear hr
    repeat' (first | ((with_reducible first | refine wA (by omega) ?_ | refine wB (by omega) ?_ | refine wC (by omega) ?_ | refine wD (by omega) ?_ | refine wE ?_ ?_ | refine wF ?_ ?_ | refine wG ?_ ?_ | refine wH ?_ ?_ | refine wI ?_ ?_ | refine wJ ?_ ?_ | refine wK ?_ ?_ | refine wL ?_ ?_) <;> intro _) | (((with_reducible refine call_id ?_); (first | (refine call_pure (c1) ?_) | (refine call_pure (c2) ?_)))) | simp (maxSteps := 1000000) (disch := omega) only [go_sem, seval, mc_pack_packs, *])
    all_goals (exact fin_tmp (.inr rfl) cE3)
  | true =>
    rw [hr] at c1
    clear hr
    repeat' (first | ((with_reducible first | refine wA (by omega) ?_ | refine wB (by omega) ?_ | refine wC (by omega) ?_ | refine wD (by omega) ?_ | refine wE ?_ ?_ | refine wF ?_ ?_ | refine wG ?_ ?_ | refine wH ?_ ?_ | refine wI ?_ ?_ | refine wJ ?_ ?_ | refine wK ?_ ?_ | refine wL ?_ ?_) <;> intro _) | (((with_reducible refine call_id ?_); (first | (refine call_pure (c1) ?_) | (refine call_pure (c2) ?_)))) | simp (maxSteps := 1000000) (disch := omega) only [go_sem, seval, mc_pack_packs, *])
    all_goals (exact fin_tmp (.inr rfl) cE3)
def rowN (b : Bool) (l : List UInt8) : PV := .tup [if b = true then rowB l else .sc (.slice none 0 0), .sc (.bool b)]
theorem rowN_imm (b : Bool) (l : List UInt8) : (rowN b l).imm = true := by
  show immL [_, _] = true
  cases b <;> simp [immL, rowB_imm, PV.imm]
theorem BRow.osl {H : Nat → Option PObj} {lo m : Nat} {a : PV} {l : List UInt8} (h : BRow H lo m a l) (h0 : 0 < l.length) : ∃ id w, lo ≤ id ∧ id < m ∧ a = .osl id 0 l.length 1 ∧ H id = some ⟨bC l, w⟩ := by
  obtain ⟨rfl, _⟩ | h := h
  · simp at h0
  · exact h
theorem Lv.enc_pos (l : Lv) : 0 < l.enc.length := by
  cases l with
  | mk k n args => simp only [Lv.enc, List.length_append]; have := Plain.enc_length_pos k.toNat; omega
theorem Tm.enc_pos (t : Tm) : 0 < t.enc.length := by
  cases t with
  | mk k n s ls args => simp only [Tm.enc, List.length_append]; have := Plain.enc_length_pos k.toNat; omega
set_option maxHeartbeats 4000000 in
theorem Level_p (l : Lv) : PPure Try.prog F.pack_Level [.agg l.pv] (rowN (l.right 4) l.enc) := by
  refine pure_by is_pack_Level (by simp) (rowN_imm _ _) fun hb nx => ?_
  clear hb
  have c1 := Right_p l 4
  cases hr : l.right 4 with
  | false =>
    rw [hr] at c1
    clear hr
    repeat' (first | ((with_reducible first | refine wA (by omega) ?_ | refine wB (by omega) ?_ | refine wC (by omega) ?_ | refine wD (by omega) ?_ | refine wE ?_ ?_ | refine wF ?_ ?_ | refine wG ?_ ?_ | refine wH ?_ ?_ | refine wI ?_ ?_ | refine wJ ?_ ?_ | refine wK ?_ ?_ | refine wL ?_ ?_) <;> intro _) | (((with_reducible refine call_id ?_); (first | (refine call_pure (c1) ?_)))) | simp (maxSteps := 1000000) (disch := omega) only [go_sem, seval, mc_pack_Level, *])
    refine fin_ret (r0 := .tup [.sc (.slice none 0 0), .sc (.bool false)]) 0 cE2 ?_
    exact .of_eq rfl
  | true =>
    rw [hr] at c1
    simp only [Lv.right, Bool.and_eq_true, decide_eq_true_eq] at hr
    obtain ⟨_, _, h3, h4⟩ := hr
    have hpos := l.enc_pos
    repeat' (first | ((with_reducible first | refine wA (by omega) ?_ | refine wB (by omega) ?_ | refine wC (by omega) ?_ | refine wD (by omega) ?_ | refine wE ?_ ?_ | refine wF ?_ ?_ | refine wG ?_ ?_ | refine wH ?_ ?_ | refine wI ?_ ?_ | refine wJ ?_ ?_ | refine wK ?_ ?_ | refine wL ?_ ?_) <;> intro _) | (((with_reducible refine call_id ?_); (first | (refine call_pure (c1) ?_)))) | simp (maxSteps := 1000000) (disch := omega) only [go_sem, seval, mc_pack_Level, *])
    refine call_mut (putLevel_m (by decide) _ l (Nat.le_refl _) h4 [] (by simp; omega) _ 0 _ _ (.inl ⟨rfl, rfl⟩)) ?_
    rintro H1 m1 r1 ⟨-, hr0, -⟩ -
    rw [List.nil_append] at hr0
    obtain ⟨id, w, g1, g2, rfl, g3⟩ := BRow.osl hr0 hpos
    clear g1 hr0
    repeat' (first | ((with_reducible first | refine wA (by omega) ?_ | refine wB (by omega) ?_ | refine wC (by omega) ?_ | refine wD (by omega) ?_ | refine wE ?_ ?_ | refine wF ?_ ?_ | refine wG ?_ ?_ | refine wH ?_ ?_ | refine wI ?_ ?_ | refine wJ ?_ ?_ | refine wK ?_ ?_ | refine wL ?_ ?_) <;> intro _) | (((with_reducible refine call_id ?_); (first | (refine call_pure (c1) ?_)))) | simp (maxSteps := 1000000) (disch := omega) only [go_sem, seval, *])
    refine fin_ret (r0 := .tup [.osl id 0 l.enc.length 1, .sc (.bool true)]) 2 cE2 ?_
    rw [frz_tup1]
    simp only [List.map_cons, List.map_nil]
    exact Weak.tup ⟨.of_eq (pk_frz g3), .of_eq frz_sc1, trivial⟩
theorem formedL_right {np : Int} : ∀ ls : List Lv, ls.all (Lv.right np) = true → formedL np ls = true
  | [], _ => rfl
  | x :: r, h => by
    simp only [List.all_cons, Bool.and_eq_true] at h
    have h1 := h.1
    simp only [Lv.right, Bool.and_eq_true] at h1
    simp only [formedL, Bool.and_eq_true]
    exact ⟨h1.2.2.2, formedL_right r h.2⟩
mutual
theorem Tm.packP_of {np : Int} : ∀ (t : Tm) (k : Int), t.formed np k = true → t.nearB = true → t.packP np
  | .mk kind n s ls args, k, h, hn => by
    simp only [Tm.nearB, Bool.and_eq_true] at hn
    obtain ⟨hn1, hn2⟩ := hn
    unfold Tm.formed at h
    split at h
    · rename_i hk
      simp only [hasB, Bool.and_eq_true, decide_eq_true_eq] at h
      obtain ⟨h1, h2, _, _, h3, h4⟩ := h
      obtain rfl := List.eq_nil_of_length_eq_zero (by omega : ls.length = 0)
      obtain rfl := List.eq_nil_of_length_eq_zero (by omega : args.length = 0)
      have : ¬ 1099511627776 ≤ n := fun e => by simp [hk, e] at hn1
      exact ⟨by omega, fun _ => by omega, fun _ => by omega, rfl, trivial⟩
    · split at h
      · simp only [hasB, Bool.and_eq_true, decide_eq_true_eq] at h
        obtain ⟨⟨_, _, h3, h4⟩, h5⟩ := h
        obtain rfl := List.eq_nil_of_length_eq_zero (by omega : args.length = 0)
        match ls, h3, h5 with
        | [l], _, h5 =>
          refine ⟨by omega, fun _ => by omega, fun _ => by omega, formedL_right [l] ?_, trivial⟩
          simpa [headR] using h5
      · split at h
        · simp only [constB, nameB, Bool.and_eq_true, decide_eq_true_eq] at h
          obtain ⟨_, h4, h5, ⟨h6, _⟩, h7⟩ := h
          obtain rfl := List.eq_nil_of_length_eq_zero h4
          exact ⟨by omega, fun _ => by omega, fun _ => ⟨h6, h5⟩, formedL_right ls h7, trivial⟩
        · split at h
          · simp only [hasB, Bool.and_eq_true, decide_eq_true_eq] at h
            obtain ⟨⟨_, _, h3, h4⟩, h5⟩ := h
            obtain rfl := List.eq_nil_of_length_eq_zero (by omega : ls.length = 0)
            exact ⟨by omega, fun _ => by omega, fun _ => by omega, rfl, packPs_of args k kind args.length 0 h5 hn2⟩
          · split at h
            · simp only [hasB, Bool.and_eq_true, decide_eq_true_eq] at h
              obtain ⟨⟨_, _, h3, h4⟩, h5⟩ := h
              obtain rfl := List.eq_nil_of_length_eq_zero (by omega : ls.length = 0)
              exact ⟨by omega, fun _ => by omega, fun _ => by omega, rfl, packPs_of args k kind args.length 0 h5 hn2⟩
            · cases h
theorem packPs_of {np : Int} : ∀ (ts : List Tm) (k kind : Int) (len i : Nat), formedA np k kind len i ts = true → nearA ts = true → packPs np ts
  | [], _, _, _, _, _, _ => trivial
  | x :: r, k, kind, len, i, h, hn => by
    simp only [formedA, nearA, Bool.and_eq_true] at h hn
    exact ⟨Tm.packP_of x _ h.1 hn.1, packPs_of r k kind len (i + 1) h.2 hn.2⟩
end
theorem Tm.packB_P (t : Tm) (h : t.packB = true) : t.packP 4 ∧ t.nodes ≤ 2000 := by
  simp only [Tm.packB, Tm.right, Bool.and_eq_true, decide_eq_true_eq] at h
  exact ⟨Tm.packP_of t _ h.1.2.2.2.2 h.2, h.1.2.2.2.1⟩
set_option maxHeartbeats 4000000 in
theorem Term_p (t : Tm) : PPure Try.prog F.pack_Term [.agg t.pv] (rowN t.packB t.enc) := by
  refine pure_by is_pack_Term (by simp) (rowN_imm _ _) fun hb nx => ?_
  clear hb
  have c1 := packs_p t
  cases hr : t.packB with
  | false =>
    rw [hr] at c1
    clear hr
    repeat' (first | ((with_reducible first | refine wA (by omega) ?_ | refine wB (by omega) ?_ | refine wC (by omega) ?_ | refine wD (by omega) ?_ | refine wE ?_ ?_ | refine wF ?_ ?_ | refine wG ?_ ?_ | refine wH ?_ ?_ | refine wI ?_ ?_ | refine wJ ?_ ?_ | refine wK ?_ ?_ | refine wL ?_ ?_) <;> intro _) | (((with_reducible refine call_id ?_); (first | (refine call_pure (c1) ?_)))) | simp (maxSteps := 1000000) (disch := omega) only [go_sem, seval, mc_pack_Term, *])
    refine fin_ret (r0 := .tup [.sc (.slice none 0 0), .sc (.bool false)]) 0 cE2 ?_
    exact .of_eq rfl
  | true =>
    rw [hr] at c1
    obtain ⟨h1, h2⟩ := t.packB_P hr
    clear hr
    have hpos := t.enc_pos
    repeat' (first | ((with_reducible first | refine wA (by omega) ?_ | refine wB (by omega) ?_ | refine wC (by omega) ?_ | refine wD (by omega) ?_ | refine wE ?_ ?_ | refine wF ?_ ?_ | refine wG ?_ ?_ | refine wH ?_ ?_ | refine wI ?_ ?_ | refine wJ ?_ ?_ | refine wK ?_ ?_ | refine wL ?_ ?_) <;> intro _) | (((with_reducible refine call_id ?_); (first | (refine call_pure (c1) ?_)))) | simp (maxSteps := 1000000) (disch := omega) only [go_sem, seval, mc_pack_Term, *])
    refine call_mut (putTerm_m0 (by decide) t h1 [] (by simp; omega) _ 0 _ _ (.inl ⟨rfl, rfl⟩)) ?_
    rintro H1 m1 r1 ⟨-, hr0, -⟩ -
    rw [List.nil_append] at hr0
    obtain ⟨id, w, g1, g2, rfl, g3⟩ := BRow.osl hr0 hpos
    clear g1 hr0
    repeat' (first | ((with_reducible first | refine wA (by omega) ?_ | refine wB (by omega) ?_ | refine wC (by omega) ?_ | refine wD (by omega) ?_ | refine wE ?_ ?_ | refine wF ?_ ?_ | refine wG ?_ ?_ | refine wH ?_ ?_ | refine wI ?_ ?_ | refine wJ ?_ ?_ | refine wK ?_ ?_ | refine wL ?_ ?_) <;> intro _) | (((with_reducible refine call_id ?_); (first | (refine call_pure (c1) ?_)))) | simp (maxSteps := 1000000) (disch := omega) only [go_sem, seval, *])
    refine fin_ret (r0 := .tup [.osl id 0 t.enc.length 1, .sc (.bool true)]) 2 cE2 ?_
    rw [frz_tup1]
    simp only [List.map_cons, List.map_nil]
    exact Weak.tup ⟨.of_eq (pk_frz g3), .of_eq frz_sc1, trivial⟩
end
section
set_option maxRecDepth 20000
attribute [local go_sem] Nat.add_assoc id_ne id_ne' id_ne2 List.append_assoc bC_len bC_one pv_take tm_take rowB_flat tm_d6 tm_d10 tm_d11 tm_d12 tm_d8 tm_len
theorem tm_d5 (t : Tm) (r : List PV) : (t.pv ++ r).drop 5 = r := List.drop_left' (tm_len t)
attribute [local go_sem] tm_d5
def Ctr.enc (c : Ctr) : List UInt8 := encT [c.name] ++ c.typ.enc
def encCs (cs : List Ctr) : List UInt8 := cs.flatMap Ctr.enc
def Dcl.enc (d : Dcl) : List UInt8 :=
  Plain.enc d.kind.toNat ++ (encT [d.name] ++ (Plain.enc d.params.toNat ++ (d.typ.enc ++
    (if d.kind = 2 ∨ d.kind = 3 ∨ d.kind = 4 then d.val.enc else if d.kind = 5 then Plain.enc d.fixed.toNat ++ (Plain.enc d.ctors.length ++ encCs d.ctors) else []))))
structure Dcl.PackP (d : Dcl) : Prop where
  kind : 1 ≤ d.kind ∧ d.kind ≤ 5
  params : 0 ≤ d.params ∧ d.params ≤ 4
  name : d.name.size ≤ 40
  typ : d.typ.packP d.params ∧ d.typ.nodes ≤ 2000
  val : d.kind = 2 ∨ d.kind = 3 ∨ d.kind = 4 → d.val.packP d.params ∧ d.val.nodes ≤ 2000
  ind : d.kind = 5 → (0 ≤ d.fixed ∧ d.fixed ≤ 16) ∧ d.ctors.length ≤ 8 ∧ ∀ c ∈ d.ctors, c.name.size ≤ 40 ∧ c.typ.packP d.params ∧ c.typ.nodes ≤ 2000
theorem encT_len1 (s : ByteArray) (h : s.size ≤ 40) : (encT [s]).length ≤ 46 := by
  have := enc_len6 s.size (by omega)
  rw [encT_one]; simp only [List.length_append, strC_len]; omega
theorem Text_p (s : ByteArray) (h : s.size ≤ 40) : PPure Try.prog F.wire_Texts [.sl 1 [[.sc (.string s)]]] (rowB (encT [s])) :=
  Texts_p [s] (by simp) (by simp) (by have := encT_len1 s h; omega)
end
section
set_option maxRecDepth 20000
attribute [local go_sem] Nat.add_assoc id_ne id_ne' id_ne2 List.append_assoc bC_len bC_one pv_take tm_take rowB_flat tm_d5 tm_d6 tm_d10 tm_d11 tm_d12 tm_d8 tm_len o_callmE
theorem BRow.own {H : Nat → Option PObj} {lo m : Nat} {a : PV} {l : List UInt8} (h : BRow H lo m a l) (hl : 0 < l.length) : ∃ id w, lo ≤ id ∧ id < m ∧ a = .osl id 0 l.length 1 ∧ H id = some ⟨bC l, w⟩ := by
  obtain ⟨rfl, -⟩ | h := h
  · simp at hl
  · exact h
theorem put_ex (H : Nat → Option PObj) (nx : Nat) (a : PV) (l : List UInt8) : ∃ (H' : Nat → Option PObj) (nx' : Nat) (r : PV), (nx ≤ nx' ∧ BRow H' nx nx' r l ∧ ∀ j, j < nx → ¬ leadB a j → H' j = H j) ∧ nx ≤ nx' :=
  ⟨upd H nx (some ⟨bC l, false⟩), nx + 1, .osl nx 0 l.length 1, ⟨Nat.le_succ _, .inr ⟨nx, false, Nat.le_refl _, Nat.lt_succ_self _, rfl, upd_same _ _ _⟩, fun j h _ => upd_ne _ _ (by omega)⟩, Nat.le_succ _⟩
def restEnc (d : Dcl) : List UInt8 := if d.kind = 2 ∨ d.kind = 3 ∨ d.kind = 4 then d.val.enc else if d.kind = 5 then Plain.enc d.fixed.toNat ++ (Plain.enc d.ctors.length ++ encCs d.ctors) else []
theorem encCs_snoc (cs : List Ctr) (i : Nat) (h : i < cs.length) : encCs (cs.take (i + 1)) = encCs (cs.take i) ++ (encT [cs[i].name] ++ cs[i].typ.enc) := by
  unfold encCs
  rw [List.take_succ_eq_append_getElem h, List.flatMap_append]
  simp [Ctr.enc]
theorem encCs_len (cs : List Ctr) {np : Int} (hnp : np ≤ 4) (h : ∀ c ∈ cs, c.name.size ≤ 40 ∧ c.typ.packP np ∧ c.typ.nodes ≤ 2000) : (encCs cs).length ≤ 200000 * cs.length := by
  induction cs with
  | nil => exact Nat.le_refl _
  | cons c r ih =>
    have h1 := ih fun c hc => h c (by simp [hc])
    obtain ⟨h2, h3, h4⟩ := h c (by simp)
    have h5 := encT_len1 c.name h2
    have h6 := Tm.enc_len hnp c.typ h3
    simp only [encCs, List.flatMap_cons, List.length_append, Ctr.enc, List.length_cons] at h1 ⊢
    omega
set_option maxHeartbeats 16000000 in
theorem putDecl_p (d : Dcl) (hd : d.PackP) : PPure Try.prog F.pack_putDecl [.ptr d.pv] (rowB d.enc) := by
  obtain ⟨kind, params, name, typ, val, fixed, ctors⟩ := d
  refine pure_by is_pack_putDecl (by simp) (rowB_imm _) fun hbn nx => ?_
  obtain ⟨hk, hp, hn, ht, hv, hi⟩ := hd
  simp only at hk hp hn ht hv hi
  have hbc : ctors.length ≤ 9223372036854775807 := by simp [Dcl.pv, bndL, PV.bnd, bndL_append] at hbn; omega
  clear hbn
  obtain ⟨kind, rfl⟩ : ∃ k' : Nat, kind = k' := ⟨kind.toNat, by omega⟩
  obtain ⟨params, rfl⟩ : ∃ k' : Nat, params = k' := ⟨params.toNat, by omega⟩
  have hek := enc_len6 kind (by omega)
  have hep := enc_len6 params (by omega)
  have c1 := Text_p name hn
  have het := encT_len1 name hn
  have htl := Tm.enc_len hp.2 typ ht.1
  repeat' (first | ((with_reducible first | refine wA (by omega) ?_ | refine wB (by omega) ?_ | refine wC (by omega) ?_ | refine wD (by omega) ?_ | refine wE ?_ ?_ | refine wF ?_ ?_ | refine wG ?_ ?_ | refine wH ?_ ?_ | refine wI ?_ ?_ | refine wJ ?_ ?_ | refine wK ?_ ?_ | refine wL ?_ ?_) <;> intro _) | simp (maxSteps := 1000000) (disch := omega) only [go_sem, seval, mc_pack_putDecl, Dcl.pv, *])
  refine call_mutE (put_m [kind] (by simp; omega) (by simp) (by simp) [] (Nat.zero_le _) (.sc (.slice none 0 0)) 0 _ _ (.inl ⟨rfl, rfl⟩)) (put_ex ..) ?_
  rintro H1 m1 r1 ⟨hm0, hr0, -⟩ -
  have hm1 : nx + 15 ≤ m1 := hm0
  rw [List.nil_append, encs_one] at hr0
  obtain ⟨id1, w1, g1, g2, rfl, g3⟩ := hr0.own (Plain.enc_length_pos kind)
  clear hr0
  have b1 : (Plain.enc kind).length + (encT [name]).length ≤ 140737488355328 := by omega
  have b2 : (Plain.enc kind).length + (encT [name]).length ≤ 4611686018427387904 := by omega
  repeat' (first | ((with_reducible first | refine wA (by omega) ?_ | refine wB (by omega) ?_ | refine wC (by omega) ?_ | refine wD (by omega) ?_ | refine wE ?_ ?_ | refine wF ?_ ?_ | refine wG ?_ ?_ | refine wH ?_ ?_ | refine wI ?_ ?_ | refine wJ ?_ ?_ | refine wK ?_ ?_ | refine wL ?_ ?_) <;> intro _) | (((with_reducible refine call_id ?_); (first | (refine call_pure (c1) ?_)))) | simp (maxSteps := 1000000) (disch := omega) only [go_sem, seval, rowB, *])
  refine call_mutE (put_m [params] (by simp; omega) (by simp) (by simp) (Plain.enc kind ++ encT [name]) (by simp only [List.length_append]; omega) (.osl (nx + 13) 0 ((Plain.enc kind).length + (encT [name]).length) 1) 0 _ _ (.inr ⟨nx + 13, false, Nat.zero_le _, (show nx + 13 < m1 + 12 by omega), by simp only [List.length_append], by simp [upd, bC_append]⟩)) (put_ex ..) ?_
  rintro H2 m2 r2 ⟨hm0, hr0, -⟩ -
  rw [encs_one] at hr0
  have hr2 : Kept (BRow H2 0 m2 r2 ((Plain.enc kind ++ encT [name]) ++ Plain.enc params)) := BRow.weak hr0 (Nat.zero_le _) (Nat.le_refl _)
  clear hm0 hr0 g1 g2 g3 b1 b2
  repeat' (first | ((with_reducible first | refine wA (by omega) ?_ | refine wB (by omega) ?_ | refine wC (by omega) ?_ | refine wD (by omega) ?_ | refine wE ?_ ?_ | refine wF ?_ ?_ | refine wG ?_ ?_ | refine wH ?_ ?_ | refine wI ?_ ?_ | refine wJ ?_ ?_ | refine wK ?_ ?_ | refine wL ?_ ?_) <;> intro _) | simp (maxSteps := 1000000) (disch := omega) only [go_sem, seval, *])
  refine call_mut (putTerm_m hp.2 _ typ (Nat.le_refl _) ht.1 ((Plain.enc kind ++ encT [name]) ++ Plain.enc params) (by simp only [List.length_append]; omega) r2 0 H2 m2 hr2 _) ?_
  rintro H3 m3 r3 ⟨hm0, hr0, -⟩ -
  obtain ⟨T, hT⟩ : ∃ T, T = Plain.enc kind ++ (encT [name] ++ (Plain.enc params ++ typ.enc)) := ⟨_, rfl⟩
  have hr3 : Kept (BRow H3 0 m3 r3 T) := by
    rw [hT]
    simp only [List.append_assoc] at hr0
    exact BRow.weak hr0 (Nat.zero_le _) (Nat.le_refl _)
  have hTl : T.length ≤ 200000 := by rw [hT]; simp only [List.length_append]; omega
  have hTp : 0 < T.length := by rw [hT]; simp only [List.length_append]; have := Plain.enc_length_pos kind; omega
  have hE : (Dcl.mk kind params name typ val fixed ctors).enc = T ++ restEnc (Dcl.mk kind params name typ val fixed ctors) := by
    rw [hT]; simp only [Dcl.enc, restEnc, Int.toNat_natCast, List.append_assoc]
  rw [hE]
  clear hm0 hr0 hr2 hT hE c1 het hek hep htl
  obtain rfl | rfl | rfl | rfl | rfl : kind = 1 ∨ kind = 2 ∨ kind = 3 ∨ kind = 4 ∨ kind = 5 := by omega
  · obtain ⟨id, w, g1, g2, rfl, g3⟩ := BRow.own hr3 hTp
    repeat' (first | ((with_reducible first | refine wA (by omega) ?_ | refine wB (by omega) ?_ | refine wC (by omega) ?_ | refine wD (by omega) ?_ | refine wE ?_ ?_ | refine wF ?_ ?_ | refine wG ?_ ?_ | refine wH ?_ ?_ | refine wI ?_ ?_ | refine wJ ?_ ?_ | refine wK ?_ ?_ | refine wL ?_ ?_) <;> intro _) | simp (maxSteps := 1000000) (disch := omega) only [go_sem, seval, *])
    refine fin_ret (r0 := .osl id 0 T.length 1) 1 cE2 ?_
    simp only [restEnc]
    rw [if_neg (by simp), if_neg (by simp), List.append_nil]
    exact .of_eq (pk_frz g3)
  · have hvv := hv (by simp)
    have hvl := Tm.enc_len hp.2 val hvv.1
    have hE : T ++ restEnc (Dcl.mk ((2 : Nat) : Int) params name typ val fixed ctors) = T ++ val.enc := by
      simp only [restEnc]; rw [if_pos (by simp)]
    rw [hE]
    clear hE
    repeat' (first | ((with_reducible first | refine wA (by omega) ?_ | refine wB (by omega) ?_ | refine wC (by omega) ?_ | refine wD (by omega) ?_ | refine wE ?_ ?_ | refine wF ?_ ?_ | refine wG ?_ ?_ | refine wH ?_ ?_ | refine wI ?_ ?_ | refine wJ ?_ ?_ | refine wK ?_ ?_ | refine wL ?_ ?_) <;> intro _) | simp (maxSteps := 1000000) (disch := omega) only [go_sem, seval, *])
    refine call_mut (putTerm_m hp.2 _ val (Nat.le_refl _) hvv.1 T (by omega) r3 0 H3 _ (BRow.weak hr3 (Nat.le_refl _) (Nat.le_add_right _ _)) _) ?_
    rintro H4 m4 r4 ⟨hm0, hr0, -⟩ -
    obtain ⟨id, w, g1, g2, rfl, g3⟩ := BRow.own hr0 (by rw [List.length_append]; omega)
    clear hm0 hr0
    repeat' (first | ((with_reducible first | refine wA (by omega) ?_ | refine wB (by omega) ?_ | refine wC (by omega) ?_ | refine wD (by omega) ?_ | refine wE ?_ ?_ | refine wF ?_ ?_ | refine wG ?_ ?_ | refine wH ?_ ?_ | refine wI ?_ ?_ | refine wJ ?_ ?_ | refine wK ?_ ?_ | refine wL ?_ ?_) <;> intro _) | simp (maxSteps := 1000000) (disch := omega) only [go_sem, seval, *])
    refine fin_ret (r0 := .osl id 0 (T ++ val.enc).length 1) 1 cE2 ?_
    exact .of_eq (pk_frz g3)
  · have hvv := hv (by simp)
    have hvl := Tm.enc_len hp.2 val hvv.1
    have hE : T ++ restEnc (Dcl.mk ((3 : Nat) : Int) params name typ val fixed ctors) = T ++ val.enc := by
      simp only [restEnc]; rw [if_pos (by simp)]
    rw [hE]
    clear hE
    repeat' (first | ((with_reducible first | refine wA (by omega) ?_ | refine wB (by omega) ?_ | refine wC (by omega) ?_ | refine wD (by omega) ?_ | refine wE ?_ ?_ | refine wF ?_ ?_ | refine wG ?_ ?_ | refine wH ?_ ?_ | refine wI ?_ ?_ | refine wJ ?_ ?_ | refine wK ?_ ?_ | refine wL ?_ ?_) <;> intro _) | simp (maxSteps := 1000000) (disch := omega) only [go_sem, seval, *])
    refine call_mut (putTerm_m hp.2 _ val (Nat.le_refl _) hvv.1 T (by omega) r3 0 H3 _ (BRow.weak hr3 (Nat.le_refl _) (Nat.le_add_right _ _)) _) ?_
    rintro H4 m4 r4 ⟨hm0, hr0, -⟩ -
    obtain ⟨id, w, g1, g2, rfl, g3⟩ := BRow.own hr0 (by rw [List.length_append]; omega)
    clear hm0 hr0
    repeat' (first | ((with_reducible first | refine wA (by omega) ?_ | refine wB (by omega) ?_ | refine wC (by omega) ?_ | refine wD (by omega) ?_ | refine wE ?_ ?_ | refine wF ?_ ?_ | refine wG ?_ ?_ | refine wH ?_ ?_ | refine wI ?_ ?_ | refine wJ ?_ ?_ | refine wK ?_ ?_ | refine wL ?_ ?_) <;> intro _) | simp (maxSteps := 1000000) (disch := omega) only [go_sem, seval, *])
    refine fin_ret (r0 := .osl id 0 (T ++ val.enc).length 1) 1 cE2 ?_
    exact .of_eq (pk_frz g3)
  · have hvv := hv (by simp)
    have hvl := Tm.enc_len hp.2 val hvv.1
    have hE : T ++ restEnc (Dcl.mk ((4 : Nat) : Int) params name typ val fixed ctors) = T ++ val.enc := by
      simp only [restEnc]; rw [if_pos (by simp)]
    rw [hE]
    clear hE
    repeat' (first | ((with_reducible first | refine wA (by omega) ?_ | refine wB (by omega) ?_ | refine wC (by omega) ?_ | refine wD (by omega) ?_ | refine wE ?_ ?_ | refine wF ?_ ?_ | refine wG ?_ ?_ | refine wH ?_ ?_ | refine wI ?_ ?_ | refine wJ ?_ ?_ | refine wK ?_ ?_ | refine wL ?_ ?_) <;> intro _) | simp (maxSteps := 1000000) (disch := omega) only [go_sem, seval, *])
    refine call_mut (putTerm_m hp.2 _ val (Nat.le_refl _) hvv.1 T (by omega) r3 0 H3 _ (BRow.weak hr3 (Nat.le_refl _) (Nat.le_add_right _ _)) _) ?_
    rintro H4 m4 r4 ⟨hm0, hr0, -⟩ -
    obtain ⟨id, w, g1, g2, rfl, g3⟩ := BRow.own hr0 (by rw [List.length_append]; omega)
    clear hm0 hr0
    repeat' (first | ((with_reducible first | refine wA (by omega) ?_ | refine wB (by omega) ?_ | refine wC (by omega) ?_ | refine wD (by omega) ?_ | refine wE ?_ ?_ | refine wF ?_ ?_ | refine wG ?_ ?_ | refine wH ?_ ?_ | refine wI ?_ ?_ | refine wJ ?_ ?_ | refine wK ?_ ?_ | refine wL ?_ ?_) <;> intro _) | simp (maxSteps := 1000000) (disch := omega) only [go_sem, seval, *])
    refine fin_ret (r0 := .osl id 0 (T ++ val.enc).length 1) 1 cE2 ?_
    exact .of_eq (pk_frz g3)
  · obtain ⟨hfx, hcl, hcs⟩ := hi rfl
    obtain ⟨fixed, rfl⟩ : ∃ k' : Nat, fixed = k' := ⟨fixed.toNat, by omega⟩
    have hef := enc_len6 fixed (by omega)
    have hec := enc_len6 ctors.length (by omega)
    have hE : T ++ restEnc (Dcl.mk ((5 : Nat) : Int) params name typ val (fixed : Int) ctors) = (T ++ encs [fixed, ctors.length]) ++ encCs ctors := by
      simp only [restEnc, encs, List.flatMap_cons, List.flatMap_nil, List.append_nil, Int.toNat_natCast]
      rw [if_neg (by simp), if_pos (by rfl)]; simp only [List.append_assoc]
    obtain ⟨U, hU⟩ : ∃ U, Kept (U = T ++ encs [fixed, ctors.length]) := ⟨_, Kept.mk rfl⟩
    rw [hE, ← hU.out]
    clear hE
    repeat' (first | ((with_reducible first | refine wA (by omega) ?_ | refine wB (by omega) ?_ | refine wC (by omega) ?_ | refine wD (by omega) ?_ | refine wE ?_ ?_ | refine wF ?_ ?_ | refine wG ?_ ?_ | refine wH ?_ ?_ | refine wI ?_ ?_ | refine wJ ?_ ?_ | refine wK ?_ ?_ | refine wL ?_ ?_) <;> intro _) | simp (maxSteps := 1000000) (disch := omega) only [go_sem, seval, *])
    refine call_mut (put_m [fixed, ctors.length] (by simp; omega) (by simp) (by simp) T (by omega) r3 0 H3 _ (BRow.weak hr3 (Nat.le_refl _) (Nat.le_add_right _ _))) ?_
    rintro H4 m4 r4 ⟨hm0, hr0, -⟩ -
    have hr4 : Kept (BRow H4 0 m4 r4 U) := by rw [hU.out]; exact BRow.weak hr0 (Nat.zero_le _) (Nat.le_refl _)
    have hUl : U.length ≤ 200012 := by rw [hU.out]; simp only [encs, List.flatMap_cons, List.flatMap_nil, List.append_nil, List.length_append]; omega
    have hUp : 0 < U.length := by rw [hU.out, List.length_append]; omega
    clear hU
    clear hm0 hr0 hr3 hef hec hTl hTp
    repeat' (first | ((with_reducible first | refine wA (by omega) ?_ | refine wB (by omega) ?_ | refine wC (by omega) ?_ | refine wD (by omega) ?_ | refine wE ?_ ?_ | refine wF ?_ ?_ | refine wG ?_ ?_ | refine wH ?_ ?_ | refine wI ?_ ?_ | refine wJ ?_ ?_ | refine wK ?_ ?_ | refine wL ?_ ?_) <;> intro _) | simp (maxSteps := 1000000) (disch := omega) only [go_sem, seval, *])
    refine c_loopW 38685623921825124376903704 (by kernel_rfl) (fun j f H m => ∃ i : Nat, j = ctors.length - i ∧ i ≤ ctors.length ∧ f 61 = .sc (.int .i64 i) ∧ Kept (BRow H 0 m (f 3) (U ++ encCs (ctors.take i)))) _ ⟨0, rfl, Nat.zero_le _, cE1, ?rr⟩ ?_
    case rr =>
      refine Kept.mk ?_
      simp only [upd_get, Nat.reduceEqDiff, ↓reduceIte, List.take_zero, encCs, List.flatMap_nil, List.append_nil]
      exact BRow.weak hr4 (Nat.le_refl _) (Nat.le_add_right _ _)
    rintro _ f H m ⟨i, rfl, hi, e61, hr⟩
    obtain ⟨id, w, g1, g2, e3, g3⟩ := BRow.own hr (by rw [List.length_append]; omega)
    by_cases hlt : i < ctors.length
    · have eg : ctors[i]? = some ctors[i] := List.getElem?_eq_getElem hlt
      obtain ⟨hc1, hc2, hc3⟩ := hcs ctors[i] (List.getElem_mem hlt)
      have c1 := Text_p ctors[i].name hc1
      have het := encT_len1 ctors[i].name hc1
      have htl := Tm.enc_len hp.2 ctors[i].typ hc2
      have hsn := encCs_snoc ctors i hlt
      have hcl2 := encCs_len (ctors.take i) hp.2 fun c hc => hcs c (List.mem_of_mem_take hc)
      rw [List.length_take] at hcl2
      have b0 : (encCs (ctors.take i)).length ≤ 1600000 := by omega
      have b1 : U.length + ((encCs (ctors.take i)).length + (encT [ctors[i].name]).length) ≤ 140737488355328 := by omega
      have b2 : U.length + ((encCs (ctors.take i)).length + (encT [ctors[i].name]).length) ≤ 4611686018427387904 := by omega
      clear hr hcl2
      repeat' (first | ((with_reducible first | refine wA (by omega) ?_ | refine wB (by omega) ?_ | refine wC (by omega) ?_ | refine wD (by omega) ?_ | refine wE ?_ ?_ | refine wF ?_ ?_ | refine wG ?_ ?_ | refine wH ?_ ?_ | refine wI ?_ ?_ | refine wJ ?_ ?_ | refine wK ?_ ?_ | refine wL ?_ ?_) <;> intro _) | (((with_reducible refine call_id ?_); (first | (refine call_pure (c1) ?_)))) | simp (maxSteps := 1000000) (disch := omega) only [go_sem, seval, rowB, Ctr.pv, *])
      refine call_mut (putTerm_m0 hp.2 ctors[i].typ hc2 (U ++ (encCs (ctors.take i) ++ encT [ctors[i].name])) (by simp only [List.length_append]; omega) (.osl (m + 14) 0 (U.length + ((encCs (ctors.take i)).length + (encT [ctors[i].name]).length)) 1) 0 _ _ (.inr ⟨m + 14, false, Nat.zero_le _, (show m + 14 < m + 24 by omega), by simp only [List.length_append], by simp [upd, bC_append]⟩)) ?_
      rintro H5 m5 r5 ⟨hm0, hr0, -⟩ -
      have hr5 : Kept (BRow H5 0 m5 r5 (U ++ encCs (ctors.take (i + 1)))) := by
        rw [hsn]
        simp only [List.append_assoc] at hr0 ⊢
        exact BRow.weak hr0 (Nat.zero_le _) (Nat.le_refl _)
      clear hm0 hr0
      repeat' (first | ((with_reducible first | refine wA (by omega) ?_ | refine wB (by omega) ?_ | refine wC (by omega) ?_ | refine wD (by omega) ?_ | refine wE ?_ ?_ | refine wF ?_ ?_ | refine wG ?_ ?_ | refine wH ?_ ?_ | refine wI ?_ ?_ | refine wJ ?_ ?_ | refine wK ?_ ?_ | refine wL ?_ ?_) <;> intro _) | simp (maxSteps := 1000000) (disch := omega) only [go_sem, seval, *])
      refine Nx.mk (ctors.length - (i + 1)) (by omega) ⟨i + 1, rfl, cE1, cE1, ?_⟩
      refine Kept.mk ?_
      simp only [upd_get, Nat.reduceEqDiff, ↓reduceIte]
      exact BRow.weak hr5 (Nat.le_refl _) (Nat.le_add_right _ _)
    · obtain rfl : i = ctors.length := by omega
      rw [List.take_length] at g3 e3
      repeat' (first | ((with_reducible first | refine wA (by omega) ?_ | refine wB (by omega) ?_ | refine wC (by omega) ?_ | refine wD (by omega) ?_ | refine wE ?_ ?_ | refine wF ?_ ?_ | refine wG ?_ ?_ | refine wH ?_ ?_ | refine wI ?_ ?_ | refine wJ ?_ ?_ | refine wK ?_ ?_ | refine wL ?_ ?_) <;> intro _) | simp (maxSteps := 1000000) (disch := omega) only [go_sem, seval, *])
      refine fin_ret (r0 := .osl id 0 (U ++ encCs ctors).length 1) 1 cE2 ?_
      exact .of_eq (pk_frz g3)
end
section
set_option maxRecDepth 20000
attribute [local go_sem] Nat.add_assoc id_ne id_ne' id_ne2 List.append_assoc bC_len bC_one pv_take tm_take pv_len tm_len dcl_len dcl_take
theorem deepB_le (kind : Int) (len i : Nat) : deepB kind len i ≤ 1 := by
  unfold deepB
  repeat' split
  all_goals omega
mutual
theorem Tm.packP_small {np : Int} : ∀ (t : Tm) (k : Int), t.formed np k = true → k + t.nodes ≤ 1099511627776 → t.packP np
  | .mk kind n s ls args, k, h, hn => by
    simp only [Tm.nodes] at hn
    unfold Tm.formed at h
    split at h
    · rename_i hk
      simp only [hasB, Bool.and_eq_true, decide_eq_true_eq] at h
      obtain ⟨h1, h2, _, _, h3, h4⟩ := h
      obtain rfl := List.eq_nil_of_length_eq_zero (by omega : ls.length = 0)
      obtain rfl := List.eq_nil_of_length_eq_zero (by omega : args.length = 0)
      exact ⟨by omega, fun _ => by omega, fun _ => by omega, rfl, trivial⟩
    · split at h
      · simp only [hasB, Bool.and_eq_true, decide_eq_true_eq] at h
        obtain ⟨⟨_, _, h3, h4⟩, h5⟩ := h
        obtain rfl := List.eq_nil_of_length_eq_zero (by omega : args.length = 0)
        match ls, h3, h5 with
        | [l], _, h5 =>
          refine ⟨by omega, fun _ => by omega, fun _ => by omega, formedL_right [l] ?_, trivial⟩
          simpa [headR] using h5
      · split at h
        · simp only [constB, nameB, Bool.and_eq_true, decide_eq_true_eq] at h
          obtain ⟨_, h4, h5, ⟨h6, _⟩, h7⟩ := h
          obtain rfl := List.eq_nil_of_length_eq_zero h4
          exact ⟨by omega, fun _ => by omega, fun _ => ⟨h6, h5⟩, formedL_right ls h7, trivial⟩
        · split at h
          · simp only [hasB, Bool.and_eq_true, decide_eq_true_eq] at h
            obtain ⟨⟨_, _, h3, h4⟩, h5⟩ := h
            obtain rfl := List.eq_nil_of_length_eq_zero (by omega : ls.length = 0)
            exact ⟨by omega, fun _ => by omega, fun _ => by omega, rfl, packPs_small args k kind args.length 0 h5 (by omega)⟩
          · split at h
            · simp only [hasB, Bool.and_eq_true, decide_eq_true_eq] at h
              obtain ⟨⟨_, _, h3, h4⟩, h5⟩ := h
              obtain rfl := List.eq_nil_of_length_eq_zero (by omega : ls.length = 0)
              exact ⟨by omega, fun _ => by omega, fun _ => by omega, rfl, packPs_small args k kind args.length 0 h5 (by omega)⟩
            · cases h
theorem packPs_small {np : Int} : ∀ (ts : List Tm) (k kind : Int) (len i : Nat), formedA np k kind len i ts = true → k + 1 + nodesT ts ≤ 1099511627776 → packPs np ts
  | [], _, _, _, _, _, _ => trivial
  | x :: r, k, kind, len, i, h, hn => by
    simp only [formedA, Bool.and_eq_true, nodesT] at h hn
    have hd := deepB_le kind len i
    exact ⟨Tm.packP_small x _ h.1 (by omega), packPs_small r k kind len (i + 1) h.2 (by omega)⟩
end
theorem Tm.packP_right {np : Int} (t : Tm) (h : t.right np 0 = true) : t.packP np ∧ t.nodes ≤ 2000 := by
  simp only [Tm.right, Bool.and_eq_true, decide_eq_true_eq] at h
  refine ⟨Tm.packP_small t _ h.2.2.2.2 ?_, h.2.2.2.1⟩
  have := h.2.2.2.1
  omega
theorem nameB_size {s : ByteArray} (h : nameB s = true) : s.size ≤ 40 := by
  simp only [nameB, Bool.and_eq_true, decide_eq_true_eq] at h
  exact h.1
theorem Dcl.packP_of (d : Dcl) (h : d.formed = true) : d.PackP := by
  simp only [Dcl.formed, Bool.and_eq_true, decide_eq_true_eq] at h
  obtain ⟨h1, h2, h3, h4, h5⟩ := h
  refine ⟨?_, ⟨h1, h2⟩, nameB_size h3, d.typ.packP_right h4, fun hk => ?_, fun hk => ?_⟩
  · split at h5
    · omega
    · split at h5
      · omega
      · split at h5
        · omega
        · cases h5
  · rw [if_neg (by omega), if_pos hk] at h5
    simp only [Bool.and_eq_true] at h5
    exact d.val.packP_right h5.1
  · rw [if_neg (by omega), if_neg (by omega), if_pos hk] at h5
    simp only [Bool.and_eq_true, famB, spanB, decide_eq_true_eq, List.all_eq_true, ctrB] at h5
    obtain ⟨_, ⟨h6, h7⟩, h8, h9⟩ := h5
    exact ⟨⟨h6, h7⟩, h8, fun c hc => ⟨nameB_size (h9 c hc).1, c.typ.packP_right (h9 c hc).2⟩⟩
set_option maxHeartbeats 4000000 in
theorem Decl_p (d : Dcl) : PPure Try.prog F.pack_Decl [.agg d.pv] (rowN d.formed d.enc) := by
  refine pure_by is_pack_Decl (by simp) (rowN_imm _ _) fun hb nx => ?_
  clear hb
  have c1 := formed11_p d
  cases hr : d.formed with
  | false =>
    rw [hr] at c1
    clear hr
    repeat' (first | ((with_reducible first | refine wA (by omega) ?_ | refine wB (by omega) ?_ | refine wC (by omega) ?_ | refine wD (by omega) ?_ | refine wE ?_ ?_ | refine wF ?_ ?_ | refine wG ?_ ?_ | refine wH ?_ ?_ | refine wI ?_ ?_ | refine wJ ?_ ?_ | refine wK ?_ ?_ | refine wL ?_ ?_) <;> intro _) | (((with_reducible refine call_id ?_); (first | (refine call_pure (c1) ?_)))) | simp (maxSteps := 1000000) (disch := omega) only [go_sem, seval, mc_pack_Decl, *])
    refine fin_ret (r0 := .tup [.sc (.slice none 0 0), .sc (.bool false)]) 0 cE2 ?_
    exact .of_eq rfl
  | true =>
    rw [hr] at c1
    have c2 := putDecl_p d (d.packP_of hr)
    clear hr
    repeat' (first | ((with_reducible first | refine wA (by omega) ?_ | refine wB (by omega) ?_ | refine wC (by omega) ?_ | refine wD (by omega) ?_ | refine wE ?_ ?_ | refine wF ?_ ?_ | refine wG ?_ ?_ | refine wH ?_ ?_ | refine wI ?_ ?_ | refine wJ ?_ ?_ | refine wK ?_ ?_ | refine wL ?_ ?_) <;> intro _) | (((with_reducible refine call_id ?_); (first | (refine call_pure (c1) ?_) | (refine call_pure (c2) ?_)))) | simp (maxSteps := 1000000) (disch := omega) only [go_sem, seval, mc_pack_Decl, *])
    refine fin_ret (r0 := .tup [rowB d.enc, .sc (.bool true)]) 0 cE2 ?_
    exact .of_eq rfl
end
section
set_option maxRecDepth 20000
attribute [local go_sem] Nat.add_assoc id_ne id_ne' id_ne2 List.append_assoc bC_len bC_one pv_take tm_take pv_len tm_len dcl_len dcl_take
def hstep (h : Nat) (c : UInt8) : Nat := (h ^^^ c.toNat) * 1099511628211 % 18446744073709551616
def hashL (l : List UInt8) : Nat := l.foldl hstep 14695981039346656037
theorem hashL_lt (l : List UInt8) : hashL l < 18446744073709551616 := by
  unfold hashL
  have : ∀ (l : List UInt8) (h : Nat), h < 18446744073709551616 → l.foldl hstep h < 18446744073709551616 := by
    intro l
    induction l with
    | nil => intro h hh; exact hh
    | cons c r ih => intro h _; exact ih _ (Nat.mod_lt _ (by decide))
  exact this l _ (by decide)
theorem hashL_snoc (l : List UInt8) (i : Nat) (h : i < l.length) : hashL (l.take (i + 1)) = hstep (hashL (l.take i)) l[i] := by
  unfold hashL
  rw [List.take_succ_eq_append_getElem h, List.foldl_append, List.foldl_cons, List.foldl_nil]
theorem of64 (a : Nat) (ha : a < 18446744073709551616) : (BitVec.ofInt 64 (a : Int)).toNat = a := by
  rw [BitVec.ofInt_natCast, BitVec.toNat_ofNat]
  exact Nat.mod_eq_of_lt (by omega)
theorem wrapU (a : Nat) : IntKind.u64.wrap (a : Int) = ((a % 18446744073709551616 : Nat) : Int) := by
  rw [IntKind.wrap_u64]
  omega
theorem xor64 (h c : Nat) (hh : h < 18446744073709551616) (hc : c < 256) : IntKind.u64.wrap ((BitVec.ofInt 64 (h : Int) ^^^ BitVec.ofInt 64 (c : Int)).toNat : Int) = ((h ^^^ c : Nat) : Int) := by
  have hx : h ^^^ c < 2 ^ 64 := Nat.xor_lt_two_pow (by omega) (by omega)
  rw [BitVec.toNat_xor, of64 h hh, of64 c (by omega), wrapU]
  omega
theorem mul64 (a : Nat) : IntKind.u64.wrap ((a : Int) * 1099511628211) = ((a * 1099511628211 % 18446744073709551616 : Nat) : Int) := by
  rw [← wrapU]
  congr 1
def Dcl.hash (d : Dcl) : Nat := if d.formed = true then hashL d.enc else 0
theorem Dcl.enc_len (d : Dcl) (h : d.PackP) : d.enc.length ≤ 2000000 := by
  obtain ⟨hk, hp, hn, ht, hv, hi⟩ := h
  have a1 := enc_len6 d.kind.toNat (by omega)
  have a2 := enc_len6 d.params.toNat (by omega)
  have a3 := encT_len1 d.name hn
  have a4 := Tm.enc_len hp.2 d.typ ht.1
  unfold Dcl.enc
  simp only [List.length_append]
  split
  · rename_i h1
    have a5 := Tm.enc_len hp.2 d.val (hv h1).1
    have a6 := (hv h1).2
    omega
  · split
    · rename_i h1
      obtain ⟨b1, b2, b3⟩ := hi h1
      have a5 := encCs_len d.ctors hp.2 b3
      have a6 := enc_len6 d.fixed.toNat (by omega)
      have a7 := enc_len6 d.ctors.length (by omega)
      simp only [List.length_append]
      omega
    · simp only [List.length_nil]; omega
set_option maxHeartbeats 4000000 in
theorem Hash_p (d : Dcl) : PPure Try.prog F.pack_Hash [.agg d.pv] (.sc (.int .u64 (d.hash : Nat))) := by
  refine pure_by is_pack_Hash (by simp) rfl fun hb nx => ?_
  clear hb
  have c1 := Decl_p d
  unfold Dcl.hash
  cases hr : d.formed with
  | false =>
    rw [hr] at c1
    clear hr
    repeat' (first | ((with_reducible first | refine wA (by omega) ?_ | refine wB (by omega) ?_ | refine wC (by omega) ?_ | refine wD (by omega) ?_ | refine wE ?_ ?_ | refine wF ?_ ?_ | refine wG ?_ ?_ | refine wH ?_ ?_ | refine wI ?_ ?_ | refine wJ ?_ ?_ | refine wK ?_ ?_ | refine wL ?_ ?_) <;> intro _) | (((with_reducible refine call_id ?_); (first | (refine call_pure (c1) ?_)))) | simp (maxSteps := 1000000) (disch := omega) only [go_sem, Nat.reduceAdd, Nat.reduceMul, Nat.reduceSub, Nat.reduceLeDiff, Nat.reduceEqDiff, Nat.reduceBEq, ↓reduceIte, reduceCtorEq, Int.reduceEq, Int.reduceLE, Int.reduceLT, Int.reduceAdd, Int.reduceSub, Int.reduceNeg, Int.reduceToNat, Int.reduceNe, Nat.reducePow, Nat.reduceShiftRight, Nat.reduceMod, mc_pack_Hash, rowN, *])
    all_goals (exact fin_tmp (.inr rfl) cE3)
  | true =>
    rw [hr] at c1
    have hlen := d.enc_len (d.packP_of hr)
    clear hr
    obtain ⟨l, hl⟩ : ∃ l, Kept (l = d.enc) := ⟨_, Kept.mk rfl⟩
    rw [← hl.out] at c1 hlen ⊢
    clear hl
    repeat' (first | ((with_reducible first | refine wA (by omega) ?_ | refine wB (by omega) ?_ | refine wC (by omega) ?_ | refine wD (by omega) ?_ | refine wE ?_ ?_ | refine wF ?_ ?_ | refine wG ?_ ?_ | refine wH ?_ ?_ | refine wI ?_ ?_ | refine wJ ?_ ?_ | refine wK ?_ ?_ | refine wL ?_ ?_) <;> intro _) | (((with_reducible refine call_id ?_); (first | (refine call_pure (c1) ?_)))) | simp (maxSteps := 1000000) (disch := omega) only [go_sem, Nat.reduceAdd, Nat.reduceMul, Nat.reduceSub, Nat.reduceLeDiff, Nat.reduceEqDiff, Nat.reduceBEq, ↓reduceIte, reduceCtorEq, Int.reduceEq, Int.reduceLE, Int.reduceLT, Int.reduceAdd, Int.reduceSub, Int.reduceNeg, Int.reduceToNat, Int.reduceNe, Nat.reducePow, Nat.reduceShiftRight, Nat.reduceMod, mc_pack_Hash, rowN, rowB, *])
    refine c_loopW 134086816 (by kernel_rfl) (fun j f H m => ∃ i : Nat, j = l.length - i ∧ i ≤ l.length ∧ f 17 = .sc (.int .i64 i) ∧ f 5 = .sc (.int .u64 (hashL (l.take i) : Nat))) _ ⟨0, rfl, Nat.zero_le _, cE1, ?rr⟩ ?_
    case rr => simp only [upd_get, Nat.reduceEqDiff, ↓reduceIte, List.take_zero]; rfl
    rintro _ f H m ⟨i, rfl, hi, e17, e5⟩
    by_cases hlt : i < l.length
    · have eg : l[i]? = some l[i] := List.getElem?_eq_getElem hlt
      have h0 := hashL_lt (l.take i)
      have h1 : IntKind.u64.wrap ((l[i].toNat : Nat) : Int) = ((l[i].toNat : Nat) : Int) := by have := l[i].toNat_lt; rw [wrapU]; omega
      have h2 : IntKind.u64.wrap ((BitVec.ofInt IntKind.u64.bits ((hashL (l.take i) : Nat) : Int) ^^^ BitVec.ofInt IntKind.u64.bits ((l[i].toNat : Nat) : Int)).toNat : Int) = ((hashL (l.take i) ^^^ l[i].toNat : Nat) : Int) := xor64 _ _ h0 (l[i].toNat_lt)
      have h2' := h2
      simp only [IntKind.bits] at h2'
      have h3 : IntKind.u64.wrap (((hashL (l.take i) ^^^ l[i].toNat : Nat) : Int) * 1099511628211) = ((hashL (l.take (i + 1)) : Nat) : Int) := by rw [hashL_snoc l i hlt, mul64]; rfl
      clear h0
      repeat' (first | ((with_reducible first | refine wA (by omega) ?_ | refine wB (by omega) ?_ | refine wC (by omega) ?_ | refine wD (by omega) ?_ | refine wE ?_ ?_ | refine wF ?_ ?_ | refine wG ?_ ?_ | refine wH ?_ ?_ | refine wI ?_ ?_ | refine wJ ?_ ?_ | refine wK ?_ ?_ | refine wL ?_ ?_) <;> intro _) | simp (maxSteps := 1000000) (disch := omega) only [go_sem, Nat.reduceAdd, Nat.reduceMul, Nat.reduceSub, Nat.reduceLeDiff, Nat.reduceEqDiff, Nat.reduceBEq, ↓reduceIte, reduceCtorEq, Int.reduceEq, Int.reduceLE, Int.reduceLT, Int.reduceAdd, Int.reduceSub, Int.reduceNeg, Int.reduceToNat, Int.reduceNe, Nat.reducePow, Nat.reduceShiftRight, Nat.reduceMod, *])
      exact Nx.mk (l.length - (i + 1)) (by omega) ⟨i + 1, rfl, cE1, cE1, cE1⟩
    · obtain rfl : i = l.length := by omega
      rw [List.take_length] at e5
      repeat' (first | ((with_reducible first | refine wA (by omega) ?_ | refine wB (by omega) ?_ | refine wC (by omega) ?_ | refine wD (by omega) ?_ | refine wE ?_ ?_ | refine wF ?_ ?_ | refine wG ?_ ?_ | refine wH ?_ ?_ | refine wI ?_ ?_ | refine wJ ?_ ?_ | refine wK ?_ ?_ | refine wL ?_ ?_) <;> intro _) | simp (maxSteps := 1000000) (disch := omega) only [go_sem, Nat.reduceAdd, Nat.reduceMul, Nat.reduceSub, Nat.reduceLeDiff, Nat.reduceEqDiff, Nat.reduceBEq, ↓reduceIte, reduceCtorEq, Int.reduceEq, Int.reduceLE, Int.reduceLT, Int.reduceAdd, Int.reduceSub, Int.reduceNeg, Int.reduceToNat, Int.reduceNe, Nat.reducePow, Nat.reduceShiftRight, Nat.reduceMod, *])
      all_goals (exact fin_tmp (.inr rfl) cE3)
end
section
set_option maxRecDepth 20000
attribute [local go_sem] Nat.add_assoc id_ne id_ne' id_ne2 List.append_assoc pv_len pv_take pv_one tm_len tm_take tm_one dcl_len dcl_take
theorem dcl_oneA (d : Dcl) : d.pv.all PV.one = true := by simp [Dcl.pv, tm_one, PV.one]
attribute [local go_sem] dcl_oneA
theorem dcl0_weak : WeakL ([.sc (.int .i64 0), .sc (.int .i64 0), .sc (.string ⟨#[]⟩), .sc (.int .i64 0), .sc (.int .i64 0), .sc (.string ⟨#[]⟩), .sc (.slice none 0 0), .sc (.slice none 0 0), .sc (.int .i64 0), .sc (.int .i64 0), .sc (.string ⟨#[]⟩), .sc (.slice none 0 0), .sc (.slice none 0 0), .sc (.int .i64 0), .sc (.slice none 0 0)] : List PV) (Dcl.mk 0 0 noStr (.mk 0 0 noStr [] []) (.mk 0 0 noStr [] []) 0 []).pv := by
  simp only [Dcl.pv, Tm.pv]
  exact ⟨.refl _, .refl _, .refl _, .refl _, .refl _, .refl _, .nil 3, .nil 5, .refl _, .refl _, .refl _, .nil 3, .nil 5, .refl _, .nil 6, trivial⟩
theorem begin_rdy (b : List UInt8) : Rdy 2001 ⟨b, 0, false⟩ := whole_rdy ⟨b, 0, false⟩
theorem decl_shrink (s : RS) : (declF s).2.l.length ≤ s.l.length := by
  have h1 := numF_len s
  have h2 := nameF_len (numF s).2
  have h3 := numF_len (nameF (numF s).2).2
  have h4 := whole_shrink (numF (nameF (numF s).2).2).2
  have h5 := whole_shrink (wholeF (numF (nameF (numF s).2).2).2).2
  have h6 := numF_len (wholeF (numF (nameF (numF s).2).2).2).2
  have h7 := numF_len (numF (wholeF (numF (nameF (numF s).2).2).2).2).2
  have h8 := rep_shrink ctor_shrink (min (numF (numF (wholeF (numF (nameF (numF s).2).2).2).2).2).1 9) (numF (numF (wholeF (numF (nameF (numF s).2).2).2).2).2).2
  unfold declF
  (repeat' split) <;> simp only <;> omega
def takeV (ok : Bool) (x z : List PV) (rest : List UInt8) : PV := if ok = true then .tup [.agg x, rowB rest, .sc (.bool true)] else .tup [.agg z, .sc (.slice none 0 0), .sc (.bool false)]
theorem takeV_imm {ok : Bool} {x z : List PV} {rest : List UInt8} (hx : immL x = true) (hz : immL z = true) : (takeV ok x z rest).imm = true := by
  cases ok
  · show immL [PV.agg z, PV.sc _, PV.sc _] = true
    simp [immL, PV.imm, hz]
  · show immL [PV.agg x, rowB rest, PV.sc _] = true
    simp [immL, PV.imm, hx, rowB_imm]
theorem dclP_imm (d : Dcl) : immL d.pv = true := by
  have h1 := tm_imm d.typ
  have h2 := tm_imm d.val
  have h3 : immLL (d.ctors.map Ctr.pv) = true := by
    rw [immLL_flatten]
    exact imm_rows d.ctors fun c _ => by simp [Ctr.pv, immL, PV.imm, tm_imm]
  simp [Dcl.pv, immL, immL_append, PV.imm, h1, h2, h3]
def takeLevelF (b : List UInt8) : Lv × RS := levelF 2001 ⟨b, 0, false⟩
def takeLevelB (b : List UInt8) : Bool := (takeLevelF b).1.right 4 && !(takeLevelF b).2.bad
set_option maxHeartbeats 8000000 in
theorem TakeLevel_p (b : List UInt8) (hl : b.length ≤ 2 ^ 40) : PPure Try.prog F.pack_TakeLevel [rowB b] (takeV (takeLevelB b) (takeLevelF b).1.pv (Lv.mk 0 0 []).pv (takeLevelF b).2.l) := by
  have hsh : (takeLevelF b).2.l.length ≤ b.length := level_shrink 2001 _
  refine pure_by is_pack_TakeLevel (by simp) (takeV_imm (pv_imm _) (pv_imm _)) fun hbn nx => ?_
  clear hbn
  repeat' (first | ((with_reducible first | refine wA (by omega) ?_ | refine wB (by omega) ?_ | refine wC (by omega) ?_ | refine wD (by omega) ?_ | refine wE ?_ ?_ | refine wF ?_ ?_ | refine wG ?_ ?_ | refine wH ?_ ?_ | refine wI ?_ ?_ | refine wJ ?_ ?_ | refine wK ?_ ?_ | refine wL ?_ ?_) <;> intro _) | simp (maxSteps := 1000000) (disch := omega) only [go_sem, seval, mc_pack_TakeLevel, rowB, *])
  refine call_mut (level_m 2001 ⟨b, 0, false⟩ (begin_rdy b) hl (nx + 5) true _ _ (show nx + 5 < nx + 10 by omega) (by simp [upd, rdC, rowB])) ?_
  rintro H1 m1 r1 ⟨hm1', rfl, g1, k1'⟩ -
  have hm1 : nx + 10 ≤ m1 := hm1'
  have b1 : H1 nx = some ⟨[.sc (.int .i64 0), .sc (.int .i64 0), .sc (.slice none 0 0)], true⟩ := (k1' nx (show nx < nx + 10 by omega) (by omega)).trans (by simp [upd])
  clear hm1' k1'
  unfold takeLevelB
  unfold takeLevelF at hsh ⊢
  have c1 := Level_p (levelF 2001 ⟨b, 0, false⟩).1
  generalize (levelF 2001 ⟨b, 0, false⟩).1 = x at *
  generalize (levelF 2001 ⟨b, 0, false⟩).2 = s1 at *
  obtain ⟨l1, n1, bad⟩ := s1
  simp only [rdC] at g1
  simp only at hsh ⊢
  have c2 := bCloneB_p l1 (by omega)
  cases bad with
  | true =>
    rw [Bool.not_true, Bool.and_false]
    clear c2
    cases hr : x.right 4 with
    | false =>
      rw [hr] at c1
      clear hr
      repeat' (first | ((with_reducible first | refine wA (by omega) ?_ | refine wB (by omega) ?_ | refine wC (by omega) ?_ | refine wD (by omega) ?_ | refine wE ?_ ?_ | refine wF ?_ ?_ | refine wG ?_ ?_ | refine wH ?_ ?_ | refine wI ?_ ?_ | refine wJ ?_ ?_ | refine wK ?_ ?_ | refine wL ?_ ?_) <;> intro _) | (((with_reducible refine call_id ?_); (first | (refine call_pure (c1) ?_)))) | simp (maxSteps := 1000000) (disch := omega) only [go_sem, seval, rowN, *])
      refine fin_ret (r0 := .tup [.agg [.sc (.int .i64 0), .sc (.int .i64 0), .sc (.slice none 0 0)], .sc (.slice none 0 0), .sc (.bool false)]) 0 cE2 ?_
      exact Weak.tup ⟨lv0_weak 0 0, .refl _, .refl _, trivial⟩
    | true =>
      rw [hr] at c1
      clear hr
      repeat' (first | ((with_reducible first | refine wA (by omega) ?_ | refine wB (by omega) ?_ | refine wC (by omega) ?_ | refine wD (by omega) ?_ | refine wE ?_ ?_ | refine wF ?_ ?_ | refine wG ?_ ?_ | refine wH ?_ ?_ | refine wI ?_ ?_ | refine wJ ?_ ?_ | refine wK ?_ ?_ | refine wL ?_ ?_) <;> intro _) | (((with_reducible refine call_id ?_); (first | (refine call_pure (c1) ?_)))) | simp (maxSteps := 1000000) (disch := omega) only [go_sem, seval, rowN, *])
      refine fin_ret (r0 := .tup [.agg [.sc (.int .i64 0), .sc (.int .i64 0), .sc (.slice none 0 0)], .sc (.slice none 0 0), .sc (.bool false)]) 0 cE2 ?_
      exact Weak.tup ⟨lv0_weak 0 0, .refl _, .refl _, trivial⟩
  | false =>
    rw [Bool.not_false, Bool.and_true]
    cases hr : x.right 4 with
    | false =>
      rw [hr] at c1
      clear hr c2
      repeat' (first | ((with_reducible first | refine wA (by omega) ?_ | refine wB (by omega) ?_ | refine wC (by omega) ?_ | refine wD (by omega) ?_ | refine wE ?_ ?_ | refine wF ?_ ?_ | refine wG ?_ ?_ | refine wH ?_ ?_ | refine wI ?_ ?_ | refine wJ ?_ ?_ | refine wK ?_ ?_ | refine wL ?_ ?_) <;> intro _) | (((with_reducible refine call_id ?_); (first | (refine call_pure (c1) ?_)))) | simp (maxSteps := 1000000) (disch := omega) only [go_sem, seval, rowN, *])
      refine fin_ret (r0 := .tup [.agg [.sc (.int .i64 0), .sc (.int .i64 0), .sc (.slice none 0 0)], .sc (.slice none 0 0), .sc (.bool false)]) 0 cE2 ?_
      exact Weak.tup ⟨lv0_weak 0 0, .refl _, .refl _, trivial⟩
    | true =>
      rw [hr] at c1
      clear hr
      repeat' (first | ((with_reducible first | refine wA (by omega) ?_ | refine wB (by omega) ?_ | refine wC (by omega) ?_ | refine wD (by omega) ?_ | refine wE ?_ ?_ | refine wF ?_ ?_ | refine wG ?_ ?_ | refine wH ?_ ?_ | refine wI ?_ ?_ | refine wJ ?_ ?_ | refine wK ?_ ?_ | refine wL ?_ ?_) <;> intro _) | (((with_reducible refine call_id ?_); (first | (refine call_pure (c1) ?_) | (refine call_pure (c2) ?_)))) | simp (maxSteps := 1000000) (disch := omega) only [go_sem, seval, rowN, rowB, *])
      refine fin_ret (r0 := .tup [.agg x.pv, rowB l1, .sc (.bool true)]) 0 (by (simp (disch := omega) only [go_sem, seval, *, rowB]); all_goals rfl) ?_
      exact .of_eq rfl
def takeTermF (b : List UInt8) : Tm × RS := termF 2001 ⟨b, 0, false⟩
def takeTermB (b : List UInt8) : Bool := (takeTermF b).1.packB && !(takeTermF b).2.bad
set_option maxHeartbeats 8000000 in
theorem TakeTerm_p (b : List UInt8) (hl : b.length ≤ 2 ^ 40) : PPure Try.prog F.pack_TakeTerm [rowB b] (takeV (takeTermB b) (takeTermF b).1.pv (Tm.mk 0 0 noStr [] []).pv (takeTermF b).2.l) := by
  have hsh : (takeTermF b).2.l.length ≤ b.length := term_shrink 2001 _
  refine pure_by is_pack_TakeTerm (by simp) (takeV_imm (tm_imm _) (tm_imm _)) fun hbn nx => ?_
  clear hbn
  repeat' (first | ((with_reducible first | refine wA (by omega) ?_ | refine wB (by omega) ?_ | refine wC (by omega) ?_ | refine wD (by omega) ?_ | refine wE ?_ ?_ | refine wF ?_ ?_ | refine wG ?_ ?_ | refine wH ?_ ?_ | refine wI ?_ ?_ | refine wJ ?_ ?_ | refine wK ?_ ?_ | refine wL ?_ ?_) <;> intro _) | simp (maxSteps := 1000000) (disch := omega) only [go_sem, seval, mc_pack_TakeTerm, rowB, *])
  refine call_mut (term_m 2001 ⟨b, 0, false⟩ (begin_rdy b) hl (nx + 5) true _ _ (show nx + 5 < nx + 10 by omega) (by simp [upd, rdC, rowB])) ?_
  rintro H1 m1 r1 ⟨hm1', rfl, g1, k1'⟩ -
  have hm1 : nx + 10 ≤ m1 := hm1'
  have b1 : H1 nx = some ⟨[.sc (.int .i64 0), .sc (.int .i64 0), .sc (.string ⟨#[]⟩), .sc (.slice none 0 0), .sc (.slice none 0 0)], true⟩ := (k1' nx (show nx < nx + 10 by omega) (by omega)).trans (by simp [upd])
  clear hm1' k1'
  unfold takeTermB
  unfold takeTermF at hsh ⊢
  have c1 := packs_p (termF 2001 ⟨b, 0, false⟩).1
  generalize (termF 2001 ⟨b, 0, false⟩).1 = x at *
  generalize (termF 2001 ⟨b, 0, false⟩).2 = s1 at *
  obtain ⟨l1, n1, bad⟩ := s1
  simp only [rdC] at g1
  simp only at hsh ⊢
  have c2 := bCloneB_p l1 (by omega)
  cases bad with
  | true =>
    rw [Bool.not_true, Bool.and_false]
    clear c2
    cases hr : x.packB with
    | false =>
      rw [hr] at c1
      clear hr
      repeat' (first | ((with_reducible first | refine wA (by omega) ?_ | refine wB (by omega) ?_ | refine wC (by omega) ?_ | refine wD (by omega) ?_ | refine wE ?_ ?_ | refine wF ?_ ?_ | refine wG ?_ ?_ | refine wH ?_ ?_ | refine wI ?_ ?_ | refine wJ ?_ ?_ | refine wK ?_ ?_ | refine wL ?_ ?_) <;> intro _) | (((with_reducible refine call_id ?_); (first | (refine call_pure (c1) ?_)))) | simp (maxSteps := 1000000) (disch := omega) only [go_sem, seval, rowN, *])
      refine fin_ret (r0 := .tup [.agg [.sc (.int .i64 0), .sc (.int .i64 0), .sc (.string ⟨#[]⟩), .sc (.slice none 0 0), .sc (.slice none 0 0)], .sc (.slice none 0 0), .sc (.bool false)]) 0 cE2 ?_
      exact Weak.tup ⟨tm0_weak 0 0 _ [] [] (.nil 3) (.nil 5), .refl _, .refl _, trivial⟩
    | true =>
      rw [hr] at c1
      clear hr
      repeat' (first | ((with_reducible first | refine wA (by omega) ?_ | refine wB (by omega) ?_ | refine wC (by omega) ?_ | refine wD (by omega) ?_ | refine wE ?_ ?_ | refine wF ?_ ?_ | refine wG ?_ ?_ | refine wH ?_ ?_ | refine wI ?_ ?_ | refine wJ ?_ ?_ | refine wK ?_ ?_ | refine wL ?_ ?_) <;> intro _) | (((with_reducible refine call_id ?_); (first | (refine call_pure (c1) ?_)))) | simp (maxSteps := 1000000) (disch := omega) only [go_sem, seval, rowN, *])
      refine fin_ret (r0 := .tup [.agg [.sc (.int .i64 0), .sc (.int .i64 0), .sc (.string ⟨#[]⟩), .sc (.slice none 0 0), .sc (.slice none 0 0)], .sc (.slice none 0 0), .sc (.bool false)]) 0 cE2 ?_
      exact Weak.tup ⟨tm0_weak 0 0 _ [] [] (.nil 3) (.nil 5), .refl _, .refl _, trivial⟩
  | false =>
    rw [Bool.not_false, Bool.and_true]
    cases hr : x.packB with
    | false =>
      rw [hr] at c1
      clear hr c2
      repeat' (first | ((with_reducible first | refine wA (by omega) ?_ | refine wB (by omega) ?_ | refine wC (by omega) ?_ | refine wD (by omega) ?_ | refine wE ?_ ?_ | refine wF ?_ ?_ | refine wG ?_ ?_ | refine wH ?_ ?_ | refine wI ?_ ?_ | refine wJ ?_ ?_ | refine wK ?_ ?_ | refine wL ?_ ?_) <;> intro _) | (((with_reducible refine call_id ?_); (first | (refine call_pure (c1) ?_)))) | simp (maxSteps := 1000000) (disch := omega) only [go_sem, seval, rowN, *])
      refine fin_ret (r0 := .tup [.agg [.sc (.int .i64 0), .sc (.int .i64 0), .sc (.string ⟨#[]⟩), .sc (.slice none 0 0), .sc (.slice none 0 0)], .sc (.slice none 0 0), .sc (.bool false)]) 0 cE2 ?_
      exact Weak.tup ⟨tm0_weak 0 0 _ [] [] (.nil 3) (.nil 5), .refl _, .refl _, trivial⟩
    | true =>
      rw [hr] at c1
      clear hr
      repeat' (first | ((with_reducible first | refine wA (by omega) ?_ | refine wB (by omega) ?_ | refine wC (by omega) ?_ | refine wD (by omega) ?_ | refine wE ?_ ?_ | refine wF ?_ ?_ | refine wG ?_ ?_ | refine wH ?_ ?_ | refine wI ?_ ?_ | refine wJ ?_ ?_ | refine wK ?_ ?_ | refine wL ?_ ?_) <;> intro _) | (((with_reducible refine call_id ?_); (first | (refine call_pure (c1) ?_) | (refine call_pure (c2) ?_)))) | simp (maxSteps := 1000000) (disch := omega) only [go_sem, seval, rowN, rowB, *])
      refine fin_ret (r0 := .tup [.agg x.pv, rowB l1, .sc (.bool true)]) 0 (by (simp (disch := omega) only [go_sem, seval, *, rowB]); all_goals rfl) ?_
      exact .of_eq rfl
def takeDeclF (b : List UInt8) : Dcl × RS := declF ⟨b, 0, false⟩
def takeDeclB (b : List UInt8) : Bool := (takeDeclF b).1.formed && !(takeDeclF b).2.bad
set_option maxHeartbeats 8000000 in
theorem TakeDecl_p (b : List UInt8) (hl : b.length ≤ 2 ^ 40) : PPure Try.prog F.pack_TakeDecl [rowB b] (takeV (takeDeclB b) (takeDeclF b).1.pv (Dcl.mk 0 0 noStr (.mk 0 0 noStr [] []) (.mk 0 0 noStr [] []) 0 []).pv (takeDeclF b).2.l) := by
  have hsh : (takeDeclF b).2.l.length ≤ b.length := decl_shrink _
  refine pure_by is_pack_TakeDecl (by simp) (takeV_imm (dclP_imm _) (dclP_imm _)) fun hbn nx => ?_
  clear hbn
  repeat' (first | ((with_reducible first | refine wA (by omega) ?_ | refine wB (by omega) ?_ | refine wC (by omega) ?_ | refine wD (by omega) ?_ | refine wE ?_ ?_ | refine wF ?_ ?_ | refine wG ?_ ?_ | refine wH ?_ ?_ | refine wI ?_ ?_ | refine wJ ?_ ?_ | refine wK ?_ ?_ | refine wL ?_ ?_) <;> intro _) | simp (maxSteps := 1000000) (disch := omega) only [go_sem, seval, mc_pack_TakeDecl, rowB, *])
  refine call_mut (decl_m ⟨b, 0, false⟩ hl (nx + 5) true _ _ (show nx + 5 < nx + 10 by omega) (by simp [upd, rdC, rowB])) ?_
  rintro H1 m1 r1 ⟨hm1', rfl, g1, k1'⟩ -
  have hm1 : nx + 10 ≤ m1 := hm1'
  have b1 : H1 nx = some ⟨[.sc (.int .i64 0), .sc (.int .i64 0), .sc (.string ⟨#[]⟩), .sc (.int .i64 0), .sc (.int .i64 0), .sc (.string ⟨#[]⟩), .sc (.slice none 0 0), .sc (.slice none 0 0), .sc (.int .i64 0), .sc (.int .i64 0), .sc (.string ⟨#[]⟩), .sc (.slice none 0 0), .sc (.slice none 0 0), .sc (.int .i64 0), .sc (.slice none 0 0)], true⟩ := (k1' nx (show nx < nx + 10 by omega) (by omega)).trans (by simp [upd])
  clear hm1' k1'
  unfold takeDeclB
  unfold takeDeclF at hsh ⊢
  have c1 := formed11_p (declF ⟨b, 0, false⟩).1
  generalize (declF ⟨b, 0, false⟩).1 = x at *
  generalize (declF ⟨b, 0, false⟩).2 = s1 at *
  obtain ⟨l1, n1, bad⟩ := s1
  simp only [rdC] at g1
  simp only at hsh ⊢
  have c2 := bCloneB_p l1 (by omega)
  cases bad with
  | true =>
    rw [Bool.not_true, Bool.and_false]
    clear c2
    cases hr : x.formed with
    | false =>
      rw [hr] at c1
      clear hr
      repeat' (first | ((with_reducible first | refine wA (by omega) ?_ | refine wB (by omega) ?_ | refine wC (by omega) ?_ | refine wD (by omega) ?_ | refine wE ?_ ?_ | refine wF ?_ ?_ | refine wG ?_ ?_ | refine wH ?_ ?_ | refine wI ?_ ?_ | refine wJ ?_ ?_ | refine wK ?_ ?_ | refine wL ?_ ?_) <;> intro _) | (((with_reducible refine call_id ?_); (first | (refine call_pure (c1) ?_)))) | simp (maxSteps := 1000000) (disch := omega) only [go_sem, seval, rowN, *])
      refine fin_ret (r0 := .tup [.agg [.sc (.int .i64 0), .sc (.int .i64 0), .sc (.string ⟨#[]⟩), .sc (.int .i64 0), .sc (.int .i64 0), .sc (.string ⟨#[]⟩), .sc (.slice none 0 0), .sc (.slice none 0 0), .sc (.int .i64 0), .sc (.int .i64 0), .sc (.string ⟨#[]⟩), .sc (.slice none 0 0), .sc (.slice none 0 0), .sc (.int .i64 0), .sc (.slice none 0 0)], .sc (.slice none 0 0), .sc (.bool false)]) 0 cE2 ?_
      exact Weak.tup ⟨Weak.agg dcl0_weak, .refl _, .refl _, trivial⟩
    | true =>
      rw [hr] at c1
      clear hr
      repeat' (first | ((with_reducible first | refine wA (by omega) ?_ | refine wB (by omega) ?_ | refine wC (by omega) ?_ | refine wD (by omega) ?_ | refine wE ?_ ?_ | refine wF ?_ ?_ | refine wG ?_ ?_ | refine wH ?_ ?_ | refine wI ?_ ?_ | refine wJ ?_ ?_ | refine wK ?_ ?_ | refine wL ?_ ?_) <;> intro _) | (((with_reducible refine call_id ?_); (first | (refine call_pure (c1) ?_)))) | simp (maxSteps := 1000000) (disch := omega) only [go_sem, seval, rowN, *])
      refine fin_ret (r0 := .tup [.agg [.sc (.int .i64 0), .sc (.int .i64 0), .sc (.string ⟨#[]⟩), .sc (.int .i64 0), .sc (.int .i64 0), .sc (.string ⟨#[]⟩), .sc (.slice none 0 0), .sc (.slice none 0 0), .sc (.int .i64 0), .sc (.int .i64 0), .sc (.string ⟨#[]⟩), .sc (.slice none 0 0), .sc (.slice none 0 0), .sc (.int .i64 0), .sc (.slice none 0 0)], .sc (.slice none 0 0), .sc (.bool false)]) 0 cE2 ?_
      exact Weak.tup ⟨Weak.agg dcl0_weak, .refl _, .refl _, trivial⟩
  | false =>
    rw [Bool.not_false, Bool.and_true]
    cases hr : x.formed with
    | false =>
      rw [hr] at c1
      clear hr c2
      repeat' (first | ((with_reducible first | refine wA (by omega) ?_ | refine wB (by omega) ?_ | refine wC (by omega) ?_ | refine wD (by omega) ?_ | refine wE ?_ ?_ | refine wF ?_ ?_ | refine wG ?_ ?_ | refine wH ?_ ?_ | refine wI ?_ ?_ | refine wJ ?_ ?_ | refine wK ?_ ?_ | refine wL ?_ ?_) <;> intro _) | (((with_reducible refine call_id ?_); (first | (refine call_pure (c1) ?_)))) | simp (maxSteps := 1000000) (disch := omega) only [go_sem, seval, rowN, *])
      refine fin_ret (r0 := .tup [.agg [.sc (.int .i64 0), .sc (.int .i64 0), .sc (.string ⟨#[]⟩), .sc (.int .i64 0), .sc (.int .i64 0), .sc (.string ⟨#[]⟩), .sc (.slice none 0 0), .sc (.slice none 0 0), .sc (.int .i64 0), .sc (.int .i64 0), .sc (.string ⟨#[]⟩), .sc (.slice none 0 0), .sc (.slice none 0 0), .sc (.int .i64 0), .sc (.slice none 0 0)], .sc (.slice none 0 0), .sc (.bool false)]) 0 cE2 ?_
      exact Weak.tup ⟨Weak.agg dcl0_weak, .refl _, .refl _, trivial⟩
    | true =>
      rw [hr] at c1
      clear hr
      repeat' (first | ((with_reducible first | refine wA (by omega) ?_ | refine wB (by omega) ?_ | refine wC (by omega) ?_ | refine wD (by omega) ?_ | refine wE ?_ ?_ | refine wF ?_ ?_ | refine wG ?_ ?_ | refine wH ?_ ?_ | refine wI ?_ ?_ | refine wJ ?_ ?_ | refine wK ?_ ?_ | refine wL ?_ ?_) <;> intro _) | (((with_reducible refine call_id ?_); (first | (refine call_pure (c1) ?_) | (refine call_pure (c2) ?_)))) | simp (maxSteps := 1000000) (disch := omega) only [go_sem, seval, rowN, rowB, *])
      refine fin_ret (r0 := .tup [.agg x.pv, rowB l1, .sc (.bool true)]) 0 (by (simp (disch := omega) only [go_sem, seval, *, rowB]); all_goals rfl) ?_
      exact .of_eq rfl
end
section
theorem numF_enc {n : Nat} (h : n ≤ 1099511627776) (l : List UInt8) (k : Int) (b : Bool) : numF ⟨Plain.enc n ++ l, k, b⟩ = (n, ⟨l, k, b⟩) := by
  unfold numF
  have h1 := Plain.tk_enc n l (show n ≤ Plain.mc from h)
  have h2 := Plain.enc_length_pos n
  simp only [h1]
  rw [if_neg (by omega), List.drop_left]
theorem nameF_enc {s : ByteArray} (h : s.size ≤ 40) (l : List UInt8) (k : Int) (b : Bool) : nameF ⟨encT [s] ++ l, k, b⟩ = (s, ⟨l, k, b⟩) := by
  have he := enc_len6 s.size (by omega)
  have hp := Plain.enc_length_pos s.size
  have ht : (tb s).length = s.size := strC_len s
  have e1 : (encT [s] ++ l).take 46 = Plain.enc s.size ++ (tb s ++ l.take (46 - (Plain.enc s.size).length - s.size)) := by
    rw [encT_one, List.append_assoc, List.take_append, List.take_of_length_le (by omega), List.take_append, List.take_of_length_le (by omega), ht]
  have e2 := Plain.tk_enc s.size (tb s ++ l.take (46 - (Plain.enc s.size).length - s.size)) (show s.size ≤ 1099511627776 by omega)
  unfold nameF txtS
  simp only
  rw [e1, e2]
  simp only
  rw [if_neg (by simp only [List.length_append]; omega), List.drop_left]
  simp only
  have e3 : (Plain.enc s.size ++ (tb s ++ l.take (46 - (Plain.enc s.size).length - s.size))).drop ((Plain.enc s.size).length + s.size) = l.take (46 - (Plain.enc s.size).length - s.size) := by
    rw [← List.drop_drop, List.drop_left, List.drop_left' ht]
  rw [e3]
  have e4 : (tb s ++ l.take (46 - (Plain.enc s.size).length - s.size)).take s.size = tb s := List.take_left' ht
  rw [e4]
  have e5 : (Plain.enc s.size ++ (tb s ++ l.take (46 - (Plain.enc s.size).length - s.size))).length - (l.take (46 - (Plain.enc s.size).length - s.size)).length = (Plain.enc s.size ++ tb s).length := by
    simp only [List.length_append]; omega
  rw [e5, encT_one, List.drop_left]
  rw [show strB (tb s) = s from strB_tb s]
theorem roomF_good {l : List UInt8} {n : Int} (h0 : 0 ≤ n) (h1 : n < 2000) : roomF ⟨l, n, false⟩ = ⟨l, n + 1, false⟩ := by
  have h2 : IntKind.i64.wrap (n + 1) = n + 1 := by rw [IntKind.wrap_i64]; omega
  unfold roomF
  simp only [h2, Bool.false_or]
  rw [decide_eq_false (by omega)]
def sumN {α : Type} (nd : α → Nat) : List α → Nat
  | [] => 0
  | x :: r => nd x + sumN nd r
theorem sumN_snoc {α : Type} (nd : α → Nat) : ∀ (xs : List α) (i : Nat) (h : i < xs.length), sumN nd (xs.take (i + 1)) = sumN nd (xs.take i) + nd xs[i]
  | x :: r, 0, h => by simp [sumN]
  | x :: r, i + 1, h => by
    have := sumN_snoc nd r i (by simpa using h)
    simp only [List.take_succ_cons, sumN, List.getElem_cons_succ, this]; omega
theorem sumN_take {α : Type} (nd : α → Nat) : ∀ (xs : List α) (i : Nat), sumN nd (xs.take i) ≤ sumN nd xs
  | [], i => by simp
  | x :: r, 0 => by simp [sumN]
  | x :: r, i + 1 => by have := sumN_take nd r i; simp only [List.take_succ_cons, sumN]; omega
theorem rep_enc {α : Type} (g : RS → α × RS) (en : α → List UInt8) (nd : α → Nat) (xs : List α) (rest : List UInt8) (n0 : Int)
    (hg : ∀ (i : Nat) (h : i < xs.length) (l : List UInt8), g ⟨en xs[i] ++ l, n0 + sumN nd (xs.take i), false⟩ = (xs[i], ⟨l, n0 + sumN nd (xs.take i) + nd xs[i], false⟩)) :
    ∀ i, i ≤ xs.length → repF g i ⟨xs.flatMap en ++ rest, n0, false⟩ = (xs.take i, ⟨(xs.drop i).flatMap en ++ rest, n0 + sumN nd (xs.take i), false⟩)
  | 0, _ => by simp [repF, sumN]
  | i + 1, h => by
    have ih := rep_enc g en nd xs rest n0 hg i (by omega)
    have hlt : i < xs.length := by omega
    have e1 : (xs.drop i).flatMap en ++ rest = en xs[i] ++ ((xs.drop (i + 1)).flatMap en ++ rest) := by
      rw [List.drop_eq_getElem_cons hlt, List.flatMap_cons, List.append_assoc]
    simp only [repF, ih]
    rw [e1, hg i hlt, List.take_succ_eq_append_getElem hlt]
    simp only
    rw [← List.take_succ_eq_append_getElem hlt, sumN_snoc nd xs i hlt]
    simp only [Int.natCast_add, Int.add_assoc]
theorem encLs_flat : ∀ ls : List Lv, encLs ls = ls.flatMap Lv.enc
  | [] => rfl
  | x :: r => by rw [encLs, List.flatMap_cons, encLs_flat r]
theorem encTs_flat : ∀ ts : List Tm, encTs ts = ts.flatMap Tm.enc
  | [] => rfl
  | x :: r => by rw [encTs, List.flatMap_cons, encTs_flat r]
theorem nodesL_sum : ∀ ls : List Lv, nodesL ls = sumN Lv.nodes ls
  | [] => rfl
  | x :: r => by rw [nodesL, sumN, nodesL_sum r]
theorem nodesT_sum : ∀ ts : List Tm, nodesT ts = sumN Tm.nodes ts
  | [] => rfl
  | x :: r => by rw [nodesT, sumN, nodesT_sum r]
theorem reps_level {f : Nat} {ls : List Lv} {np : Int} (ih : ∀ l : Lv, l.formed np = true → ∀ (rest : List UInt8) (n : Int), 0 ≤ n → n + l.nodes ≤ 2000 → 2001 ≤ (f : Int) + n → levelF f ⟨l.enc ++ rest, n, false⟩ = (l, ⟨rest, n + l.nodes, false⟩))
    (hf : formedL np ls = true) (rest : List UInt8) (n : Int) (h0 : 0 ≤ n) (h1 : n + nodesL ls ≤ 2000) (h2 : 2001 ≤ (f : Int) + n) : repF (levelF f) ls.length ⟨encLs ls ++ rest, n, false⟩ = (ls, ⟨rest, n + nodesL ls, false⟩) := by
  have := rep_enc (levelF f) Lv.enc Lv.nodes ls rest n (fun i h l => ih ls[i] (formedL_mem ls i h hf) l _ (by omega) (by
    have := sumN_take Lv.nodes ls (i + 1)
    rw [sumN_snoc Lv.nodes ls i h] at this
    rw [nodesL_sum] at h1
    omega) (by omega)) ls.length (Nat.le_refl _)
  rw [encLs_flat, this, List.take_length, List.drop_length, nodesL_sum]
  rfl
theorem level_enc {np : Int} (hnp : np ≤ 4) : ∀ (f : Nat) (l : Lv), l.formed np = true → ∀ (rest : List UInt8) (n : Int), 0 ≤ n → n + l.nodes ≤ 2000 → 2001 ≤ (f : Int) + n → levelF f ⟨l.enc ++ rest, n, false⟩ = (l, ⟨rest, n + l.nodes, false⟩)
  | 0, .mk k m args, hf, rest, n, h0, h1, h2 => by simp only [Lv.nodes] at h1; omega
  | f + 1, .mk k m args, hf, rest, n, h0, h1, h2 => by
    obtain ⟨hk, hm, hfa, hnil⟩ := pk_num hnp hf
    obtain ⟨k, rfl⟩ : ∃ k' : Nat, k = k' := ⟨k.toNat, by omega⟩
    simp only [Lv.nodes] at h1 ⊢
    simp only [Lv.enc, Int.toNat_natCast, List.append_assoc]
    unfold levelF
    rw [numF_enc (by omega)]
    simp only
    rw [roomF_good h0 (by omega)]
    simp only
    rw [if_neg (by simp)]
    have ih := fun l hl => level_enc hnp f l hl
    unfold Lv.formed at hf
    obtain rfl | rfl | rfl | rfl | rfl : k = 1 ∨ k = 2 ∨ k = 3 ∨ k = 4 ∨ k = 5 := by omega
    · obtain rfl := hnil (.inl rfl)
      obtain ⟨m, rfl⟩ : ∃ m' : Nat, m = m' := ⟨m.toNat, by omega⟩
      rw [if_pos (.inl rfl), if_pos (.inl rfl), Int.toNat_natCast, numF_enc (by omega)]
      simp [encLs, nodesL]
    · obtain rfl := hnil (.inr rfl)
      obtain ⟨m, rfl⟩ : ∃ m' : Nat, m = m' := ⟨m.toNat, by omega⟩
      rw [if_pos (.inr rfl), if_pos (.inr rfl), Int.toNat_natCast, numF_enc (by omega)]
      simp [encLs, nodesL]
    · rw [if_neg (by decide), if_neg (by decide), if_pos (by decide)] at hf
      simp only [Bool.and_eq_true, decide_eq_true_eq] at hf
      obtain ⟨rfl, hl, hfl⟩ := hf
      have hr := reps_level ih hfl rest (n + 1) (by omega) (by omega) (by omega)
      rw [hl] at hr
      rw [if_neg (by decide), if_pos rfl, if_neg (by decide), List.nil_append, hr]
      simp only [Prod.mk.injEq, RS.mk.injEq, true_and, and_true]
      first | exact ⟨rfl, by omega⟩ | omega
    · rw [if_neg (by decide), if_neg (by decide), if_neg (by decide), if_pos (by decide)] at hf
      simp only [Bool.and_eq_true, decide_eq_true_eq] at hf
      obtain ⟨rfl, hl, hfl⟩ := hf
      have hr := reps_level ih hfl rest (n + 1) (by omega) (by omega) (by omega)
      rw [hl] at hr
      rw [if_neg (by decide), if_neg (by decide), if_pos (.inl rfl), if_neg (by decide), List.nil_append, hr]
      simp only [Prod.mk.injEq, RS.mk.injEq, true_and, and_true]
      first | exact ⟨rfl, by omega⟩ | omega
    · rw [if_neg (by decide), if_neg (by decide), if_neg (by decide), if_pos (by decide)] at hf
      simp only [Bool.and_eq_true, decide_eq_true_eq] at hf
      obtain ⟨rfl, hl, hfl⟩ := hf
      have hr := reps_level ih hfl rest (n + 1) (by omega) (by omega) (by omega)
      rw [hl] at hr
      rw [if_neg (by decide), if_neg (by decide), if_pos (.inr rfl), if_neg (by decide), List.nil_append, hr]
      simp only [Prod.mk.injEq, RS.mk.injEq, true_and, and_true]
      first | exact ⟨rfl, by omega⟩ | omega
theorem noS_nil8 {s : ByteArray} (h : noS s = true) : s = noStr := by
  unfold noS at h
  exact ByteArray.ext (by have h := (beq_iff_eq ..).1 h; simpa [ByteArray.toList_eq, noStr] using h)
set_option maxRecDepth 100000 in
set_option maxHeartbeats 32000000 in
theorem packPs_memT {np : Int} {ts : List Tm} (h : packPs np ts) {i : Nat} (hi : i < ts.length) : ts[i].packP np := packPs_mem ts i hi h
theorem formedA_mem8 {np : Int} : ∀ (ts : List Tm) (k kind : Int) (len i : Nat), formedA np k kind len i ts = true → ∀ (j : Nat) (h : j < ts.length), ∃ k', ts[j].formed np k' = true
  | x :: r, k, kind, len, i, hf, 0, h => by
    simp only [formedA, Bool.and_eq_true] at hf
    exact ⟨_, hf.1⟩
  | x :: r, k, kind, len, i, hf, j + 1, h => by
    simp only [formedA, Bool.and_eq_true] at hf
    exact formedA_mem8 r k kind len (i + 1) hf.2 j (by simpa using h)
theorem reps_term {f : Nat} {ts : List Tm} {np : Int} (ih : ∀ (t : Tm) (k : Int), t.formed np k = true → t.packP np → ∀ (rest : List UInt8) (n : Int), 0 ≤ n → n + t.nodes ≤ 2000 → 2001 ≤ (f : Int) + n → termF f ⟨t.enc ++ rest, n, false⟩ = (t, ⟨rest, n + t.nodes, false⟩))
    (hf : ∀ (j : Nat) (h : j < ts.length), ∃ k', ts[j].formed np k' = true) (hp : packPs np ts) (rest : List UInt8) (n : Int) (h0 : 0 ≤ n) (h1 : n + nodesT ts ≤ 2000) (h2 : 2001 ≤ (f : Int) + n) : repF (termF f) ts.length ⟨encTs ts ++ rest, n, false⟩ = (ts, ⟨rest, n + nodesT ts, false⟩) := by
  have := rep_enc (termF f) Tm.enc Tm.nodes ts rest n (fun i h l => ih ts[i] _ (hf i h).choose_spec (packPs_memT hp h) l _ (by omega) (by
    have := sumN_take Tm.nodes ts (i + 1)
    rw [sumN_snoc Tm.nodes ts i h] at this
    rw [nodesT_sum] at h1
    omega) (by omega)) ts.length (Nat.le_refl _)
  rw [encTs_flat, this, List.take_length, List.drop_length, nodesT_sum]
  rfl
theorem term_enc {np : Int} (hnp : np ≤ 4) : ∀ (f : Nat) (t : Tm) (kk : Int), t.formed np kk = true → t.packP np → ∀ (rest : List UInt8) (n : Int), 0 ≤ n → n + t.nodes ≤ 2000 → 2001 ≤ (f : Int) + n → termF f ⟨t.enc ++ rest, n, false⟩ = (t, ⟨rest, n + t.nodes, false⟩)
  | 0, .mk k m s ls args, kk, hf, hp, rest, n, h0, h1, h2 => by simp only [Tm.nodes] at h1; omega
  | f + 1, .mk k m s ls args, kk, hf, hp, rest, n, h0, h1, h2 => by
    obtain ⟨hk, hm, hc, hfl, hpa⟩ := hp
    obtain ⟨k, rfl⟩ : ∃ k' : Nat, k = k' := ⟨k.toNat, by omega⟩
    simp only [Tm.nodes] at h1 ⊢
    simp only [Tm.enc, Int.toNat_natCast, List.append_assoc]
    unfold termF
    rw [numF_enc (by omega)]
    simp only
    rw [roomF_good h0 (by omega)]
    simp only
    rw [if_neg (by simp)]
    have ih := fun t k hf hp => term_enc hnp f t k hf hp
    unfold Tm.formed at hf
    obtain rfl | rfl | rfl | hk4 | rfl : k = 1 ∨ k = 2 ∨ k = 3 ∨ (k = 4 ∨ k = 5 ∨ k = 6) ∨ k = 7 := by omega
    · rw [if_pos (by decide)] at hf
      simp only [hasB, Bool.and_eq_true, decide_eq_true_eq] at hf
      obtain ⟨g1, g2, _, g3, g4, g5⟩ := hf
      obtain rfl := List.eq_nil_of_length_eq_zero (by omega : ls.length = 0)
      obtain rfl := List.eq_nil_of_length_eq_zero (by omega : args.length = 0)
      obtain rfl := noS_nil8 g3
      obtain ⟨m, rfl⟩ : ∃ m' : Nat, m = m' := ⟨m.toNat, by omega⟩
      have hm2 := (hm rfl).2
      rw [if_pos (by decide), if_pos (by decide), Int.toNat_natCast, numF_enc (by omega)]
      simp [encLs, encTs, nodesL, nodesT]
    · rw [if_neg (by decide), if_pos (by decide)] at hf
      simp only [hasB, Bool.and_eq_true, decide_eq_true_eq] at hf
      obtain ⟨⟨g1, g3, g4, g5⟩, _⟩ := hf
      obtain rfl := List.eq_nil_of_length_eq_zero (by omega : args.length = 0)
      obtain rfl := noS_nil8 g3
      subst g1
      have hl : ls.length = 1 := by omega
      simp only [nodesT] at h1
      have hr := reps_level (level_enc hnp f) hfl rest (n + 1) (by omega) (by omega) (by omega)
      rw [hl] at hr
      rw [if_neg (show ¬ (2 : Nat) = 1 by omega), if_pos (show (2 : Nat) = 2 from rfl), if_neg (show ¬ ((2 : Nat) : Int) = 1 by omega), if_neg (show ¬ ((2 : Nat) : Int) = 3 by omega), List.nil_append, encTs, List.nil_append, hr]
      simp only [Prod.mk.injEq, RS.mk.injEq, true_and, and_true, nodesT]
      first | exact ⟨rfl, by omega⟩ | omega
    · rw [if_neg (by decide), if_neg (by decide), if_pos (by decide)] at hf
      simp only [constB, nameB, Bool.and_eq_true, decide_eq_true_eq] at hf
      obtain ⟨g1, g4, g5, ⟨g6, _⟩, g7⟩ := hf
      obtain rfl := List.eq_nil_of_length_eq_zero g4
      subst g1
      simp only [nodesT] at h1
      have hr := reps_level (level_enc hnp f) hfl rest (n + 1) (by omega) (by omega) (by omega)
      rw [if_neg (show ¬ (3 : Nat) = 1 by omega), if_neg (show ¬ (3 : Nat) = 2 by omega), if_pos (show (3 : Nat) = 3 from rfl), if_neg (show ¬ ((3 : Nat) : Int) = 1 by omega), if_pos (show ((3 : Nat) : Int) = 3 from rfl), List.append_assoc, nameF_enc g6]
      simp only
      rw [numF_enc (by omega)]
      simp only
      rw [Nat.min_eq_left (by omega), encTs, List.nil_append, hr]
      simp only [Prod.mk.injEq, RS.mk.injEq, true_and, and_true, nodesT]
      first | exact ⟨rfl, by omega⟩ | omega
    · rw [if_neg (by omega), if_neg (by omega), if_neg (by omega), if_pos (by omega)] at hf
      simp only [hasB, Bool.and_eq_true, decide_eq_true_eq] at hf
      obtain ⟨⟨g1, g3, g4, g5⟩, g6⟩ := hf
      obtain rfl := List.eq_nil_of_length_eq_zero (by omega : ls.length = 0)
      obtain rfl := noS_nil8 g3
      subst g1
      have hl : args.length = 2 := by omega
      simp only [nodesL] at h1
      have hr := reps_term ih (formedA_mem8 args _ _ _ _ g6) hpa rest (n + 1) (by omega) (by omega) (by omega)
      rw [hl] at hr
      rw [if_neg (show ¬ (k : Nat) = 1 by omega), if_neg (show ¬ (k : Nat) = 2 by omega), if_neg (show ¬ (k : Nat) = 3 by omega), if_pos hk4, if_neg (show ¬ ((k : Nat) : Int) = 1 by omega), if_neg (show ¬ ((k : Nat) : Int) = 3 by omega), List.nil_append, encLs, List.nil_append, hr]
      simp only [Prod.mk.injEq, RS.mk.injEq, true_and, and_true, nodesL]
      first | exact ⟨rfl, by omega⟩ | omega
    · rw [if_neg (by decide), if_neg (by decide), if_neg (by decide), if_neg (by decide), if_pos (by decide)] at hf
      simp only [hasB, Bool.and_eq_true, decide_eq_true_eq] at hf
      obtain ⟨⟨g1, g3, g4, g5⟩, g6⟩ := hf
      obtain rfl := List.eq_nil_of_length_eq_zero (by omega : ls.length = 0)
      obtain rfl := noS_nil8 g3
      subst g1
      have hl : args.length = 3 := by omega
      simp only [nodesL] at h1
      have hr := reps_term ih (formedA_mem8 args _ _ _ _ g6) hpa rest (n + 1) (by omega) (by omega) (by omega)
      rw [hl] at hr
      rw [if_neg (show ¬ (7 : Nat) = 1 by omega), if_neg (show ¬ (7 : Nat) = 2 by omega), if_neg (show ¬ (7 : Nat) = 3 by omega), if_neg (show ¬ ((7 : Nat) = 4 ∨ (7 : Nat) = 5 ∨ (7 : Nat) = 6) by omega), if_pos (show (7 : Nat) = 7 from rfl), if_neg (show ¬ ((7 : Nat) : Int) = 1 by omega), if_neg (show ¬ ((7 : Nat) : Int) = 3 by omega), List.nil_append, encLs, List.nil_append, hr]
      simp only [Prod.mk.injEq, RS.mk.injEq, true_and, and_true, nodesL]
      first | exact ⟨rfl, by omega⟩ | omega
end
section
theorem whole_enc {np : Int} (hnp : np ≤ 4) {t : Tm} {kk : Int} (hf : t.formed np kk = true) (hp : t.packP np) (hn : t.nodes ≤ 2000) (rest : List UInt8) (n : Int) : wholeF ⟨t.enc ++ rest, n, false⟩ = (t, ⟨rest, t.nodes, false⟩) := by
  unfold wholeF
  rw [term_enc hnp 2001 t kk hf hp rest 0 (Int.le_refl _) (by omega) (by show (2001 : Int) ≤ 2001 + 0; omega), Int.zero_add]
theorem right_formed8 {np : Int} {t : Tm} (h : t.right np 0 = true) : ∃ kk, t.formed np kk = true := by
  simp only [Tm.right, Bool.and_eq_true] at h
  exact ⟨_, h.2.2.2.2⟩
theorem ctors_enc {np : Int} (hnp : np ≤ 4) : ∀ (cs : List Ctr), (∀ c ∈ cs, c.name.size ≤ 40 ∧ c.typ.right np 0 = true) → ∀ (i : Nat), i ≤ cs.length → ∀ (rest : List UInt8) (n : Int), ∃ n', repF ctorF i ⟨encCs cs ++ rest, n, false⟩ = (cs.take i, ⟨encCs (cs.drop i) ++ rest, n', false⟩)
  | cs, hc, 0, _, rest, n => ⟨n, by simp [repF]⟩
  | cs, hc, i + 1, h, rest, n => by
    obtain ⟨n', ih⟩ := ctors_enc hnp cs hc i (by omega) rest n
    have hlt : i < cs.length := by omega
    obtain ⟨h1, h2⟩ := hc cs[i] (List.getElem_mem hlt)
    obtain ⟨kk, h3⟩ := right_formed8 h2
    obtain ⟨h4, h5⟩ := cs[i].typ.packP_right h2
    have e1 : encCs (cs.drop i) ++ rest = encT [cs[i].name] ++ (cs[i].typ.enc ++ (encCs (cs.drop (i + 1)) ++ rest)) := by
      rw [List.drop_eq_getElem_cons hlt]
      simp only [encCs, List.flatMap_cons, Ctr.enc, List.append_assoc]
    refine ⟨cs[i].typ.nodes, ?_⟩
    simp only [repF, ih]
    rw [e1]
    unfold ctorF
    rw [nameF_enc h1]
    simp only
    rw [whole_enc hnp h3 h4 h5, List.take_succ_eq_append_getElem hlt]
theorem nought_eq {t : Tm} (h : noughtB t = true) : t = .mk 0 0 noStr [] [] := (tsame_iff t noTm).1 h
theorem decl_enc (d : Dcl) (h : d.formed = true) (rest : List UInt8) : ∃ n', declF ⟨d.enc ++ rest, 0, false⟩ = (d, ⟨rest, n', false⟩) := by
  have hpk := d.packP_of h
  obtain ⟨kind, params, name, typ, val, fixed, ctors⟩ := d
  obtain ⟨hk, hp, hn, ht, hv, hi⟩ := hpk
  simp only at hk hp hn ht hv hi
  simp only [Dcl.formed, Bool.and_eq_true, decide_eq_true_eq] at h
  obtain ⟨-, -, -, h4, h5⟩ := h
  obtain ⟨kt, hkt⟩ := right_formed8 h4
  obtain ⟨kind, rfl⟩ : ∃ k' : Nat, kind = k' := ⟨kind.toNat, by omega⟩
  obtain ⟨params, rfl⟩ : ∃ k' : Nat, params = k' := ⟨params.toNat, by omega⟩
  simp only [Dcl.enc, Int.toNat_natCast, List.append_assoc]
  unfold declF
  rw [numF_enc (by omega)]
  simp only
  rw [nameF_enc hn]
  simp only
  rw [numF_enc (by omega)]
  simp only
  rw [whole_enc hp.2 hkt ht.1 ht.2]
  simp only
  obtain rfl | hk2 | rfl : kind = 1 ∨ (kind = 2 ∨ kind = 3 ∨ kind = 4) ∨ kind = 5 := by omega
  · rw [if_pos (by rfl)] at h5
    simp only [Bool.and_eq_true, noFamB, decide_eq_true_eq] at h5
    obtain ⟨h6, h7, h8⟩ := h5
    obtain rfl := List.eq_nil_of_length_eq_zero h8
    obtain rfl := nought_eq h6
    subst h7
    exact ⟨typ.nodes, by simp⟩
  · rw [if_neg (by omega), if_pos (by omega)] at h5
    simp only [Bool.and_eq_true, noFamB, decide_eq_true_eq] at h5
    obtain ⟨h6, h7, h8⟩ := h5
    obtain rfl := List.eq_nil_of_length_eq_zero h8
    obtain ⟨kv, hkv⟩ := right_formed8 h6
    obtain ⟨v1, v2⟩ := val.packP_right h6
    subst h7
    refine ⟨val.nodes, ?_⟩
    rw [if_pos hk2, if_pos (show ((kind : Nat) : Int) = 2 ∨ ((kind : Nat) : Int) = 3 ∨ ((kind : Nat) : Int) = 4 by omega), whole_enc hp.2 hkv v1 v2]
  · rw [if_neg (by decide), if_neg (by decide), if_pos (by rfl)] at h5
    simp only [Bool.and_eq_true, famB, spanB, decide_eq_true_eq, List.all_eq_true, ctrB] at h5
    obtain ⟨h6, ⟨h7, h7'⟩, h8, h9⟩ := h5
    obtain rfl := nought_eq h6
    obtain ⟨fixed, rfl⟩ : ∃ k' : Nat, fixed = k' := ⟨fixed.toNat, by omega⟩
    obtain ⟨n', hr⟩ := ctors_enc hp.2 ctors (fun c hc => ⟨nameB_size (h9 c hc).1, (h9 c hc).2⟩) ctors.length (Nat.le_refl _) rest typ.nodes
    refine ⟨n', ?_⟩
    rw [if_neg (by decide), if_pos (show (5 : Nat) = 5 from rfl), if_neg (show ¬ (((5 : Nat) : Int) = 2 ∨ ((5 : Nat) : Int) = 3 ∨ ((5 : Nat) : Int) = 4) by omega), if_pos (show ((5 : Nat) : Int) = 5 from rfl), Int.toNat_natCast, List.append_assoc, numF_enc (by omega)]
    simp only
    rw [List.append_assoc, numF_enc (by omega)]
    simp only
    rw [Nat.min_eq_left (by omega), hr, List.take_length, List.drop_length]
    rfl
theorem takeLevel_enc (l : Lv) (h : l.right 4 = true) (rest : List UInt8) : takeLevelF (l.enc ++ rest) = (l, ⟨rest, l.nodes, false⟩) := by
  simp only [Lv.right, Bool.and_eq_true, decide_eq_true_eq] at h
  unfold takeLevelF
  rw [level_enc (Int.le_refl 4) 2001 l h.2.2.2 rest 0 (Int.le_refl _) (by omega) (by show (2001 : Int) ≤ 2001 + 0; omega), Int.zero_add]
theorem takeTerm_enc (t : Tm) (h : t.packB = true) (rest : List UInt8) : takeTermF (t.enc ++ rest) = (t, ⟨rest, t.nodes, false⟩) := by
  obtain ⟨h1, h2⟩ := t.packB_P h
  simp only [Tm.packB, Tm.right, Bool.and_eq_true] at h
  unfold takeTermF
  rw [term_enc (Int.le_refl 4) 2001 t _ h.1.2.2.2.2 h1 rest 0 (Int.le_refl _) (by omega) (by show (2001 : Int) ≤ 2001 + 0; omega), Int.zero_add]
theorem takeDecl_enc (d : Dcl) (h : d.formed = true) (rest : List UInt8) : ∃ n', takeDeclF (d.enc ++ rest) = (d, ⟨rest, n', false⟩) := decl_enc d h rest
end
section
theorem numF_read (s : RS) (h : (numF s).2.bad = false) : s.l = Plain.enc (numF s).1 ++ (numF s).2.l ∧ (numF s).1 ≤ 1099511627776 := by
  obtain ⟨_, h0⟩ := numF_bad s h
  obtain ⟨h1, h2, h3, h4⟩ := Plain.tk_read s.l h0
  unfold numF
  rw [if_neg h0]
  simp only
  exact ⟨by rw [← h3, List.take_append_drop], h1⟩
theorem nameF_read (s : RS) (h : (nameF s).2.bad = false) : s.l = encT [(nameF s).1] ++ (nameF s).2.l := by
  unfold nameF at h ⊢
  cases hx : txtS (s.l.take 46) with
  | none => rw [hx] at h; cases h
  | some q =>
    obtain ⟨t, r⟩ := q
    simp only
    unfold txtS at hx
    split at hx
    · cases hx
    · rename_i hn
      simp only [Option.some.injEq, Prod.mk.injEq] at hx
      obtain ⟨rfl, rfl⟩ := hx
      have h0 : (Plain.tk (s.l.take 46)).2 ≠ 0 := fun e => hn (.inl e)
      obtain ⟨h1, h2, h3, h4⟩ := Plain.tk_read (s.l.take 46) h0
      generalize hp : (Plain.tk (s.l.take 46)).1 = p at *
      generalize hq : (Plain.tk (s.l.take 46)).2 = q at *
      have hle : p ≤ (s.l.take 46).length - q := by omega
      have e1 : ((s.l.take 46).drop q).take p = ((s.l.take 46).drop q).take p := rfl
      have hl1 : (((s.l.take 46).drop q).take p).length = p := by rw [List.length_take, List.length_drop]; omega
      have e2 : (strB (((s.l.take 46).drop q).take p)).size = p := by
        show (((s.l.take 46).drop q).take p).toArray.size = p
        simpa using hl1
      have e3 : tb (strB (((s.l.take 46).drop q).take p)) = ((s.l.take 46).drop q).take p := by simp [tb, strB]
      rw [encT_one, e2, e3, ← h3]
      have e4 : (s.l.take 46).length - ((s.l.take 46).drop (q + p)).length = q + p := by rw [List.length_drop]; omega
      rw [e4, List.take_take, List.drop_take, List.take_take]
      have hm : (s.l.take 46).length = min 46 s.l.length := List.length_take
      rw [Nat.min_eq_left (by omega), Nat.min_eq_left (by omega), List.append_assoc, ← List.drop_drop, List.take_append_drop, List.take_append_drop]
theorem Step.good {s s' : RS} (h : Step s s') (hb : s'.bad = false) : s.bad = false := by
  rcases h with h | h
  · rw [h] at hb; cases hb
  · exact h.1
theorem rep_read {α : Type} {g : RS → α × RS} {en : α → List UInt8} {fuel : Nat} {Q : α → Prop} (hgs : ∀ s, Rdy fuel s → Step s (g s).2)
    (hg : ∀ s, Rdy fuel s → (g s).2.bad = false → Q (g s).1 → s.l = en (g s).1 ++ (g s).2.l) : ∀ (n : Nat) (s : RS), Rdy fuel s → (repF g n s).2.bad = false → (∀ x ∈ (repF g n s).1, Q x) → s.l = (repF g n s).1.flatMap en ++ (repF g n s).2.l
  | 0, s, _, _, _ => by simp [repF]
  | n + 1, s, h, hb, hq => by
    have h1 := rep_step hgs n s h
    have hr := h1.rdy h
    have hb1 : (repF g n s).2.bad = false := (hgs _ hr).good hb
    have i1 := rep_read hgs hg n s h hb1 fun x hx => hq x (by simp only [repF]; exact List.mem_append_left _ hx)
    have i2 := hg _ hr hb (hq _ (by simp [repF]))
    simp only [repF, List.flatMap_append, List.flatMap_cons, List.flatMap_nil, List.append_nil, List.append_assoc]
    rw [← i2]
    exact i1
theorem level_read : ∀ (f : Nat) (s : RS), Rdy f s → (levelF f s).2.bad = false → s.l = (levelF f s).1.enc ++ (levelF f s).2.l
  | 0, s, h, hb => by
    obtain ⟨h1, h2, h3, h4, h5⟩ := room_step h hb
    omega
  | f + 1, s, h, hb => by
    unfold levelF at hb ⊢
    cases hbd : (roomF (numF s).2).bad with
    | true => rw [hbd] at hb; rw [if_pos rfl, hbd] at hb; cases hb
    | false =>
      rw [hbd, if_neg (by simp)] at hb
      rw [if_neg (by simp)]
      obtain ⟨h1, h2, h3, h4, h5⟩ := room_step h hbd
      obtain ⟨g1, -⟩ := roomF_bad _ hbd
      obtain ⟨r1, -⟩ := numF_read s g1
      have hr : Rdy f (roomF (numF s).2) := .inr ⟨by omega, by omega, by omega⟩
      have el : (roomF (numF s).2).l = (numF s).2.l := rfl
      generalize (numF s).1 = k at *
      generalize roomF (numF s).2 = s2 at *
      generalize (numF s).2 = s1 at *
      by_cases k1 : k = 1 ∨ k = 2
      · rw [if_pos k1] at hb ⊢
        obtain ⟨r2, -⟩ := numF_read s2 hb
        simp only [Lv.enc, Int.toNat_natCast, encLs, List.append_nil]
        rw [if_pos (by omega), List.append_assoc, ← r2, el]
        exact r1
      · rw [if_neg k1] at hb ⊢
        by_cases k3 : k = 3
        · rw [if_pos k3] at hb ⊢
          have r2 := rep_read (en := Lv.enc) (Q := fun _ => True) (level_step f) (fun s h hb _ => level_read f s h hb) 1 s2 hr hb fun _ _ => trivial
          subst k3
          simp only [Lv.enc]
          rw [if_neg (by decide), List.nil_append, encLs_flat, List.append_assoc, ← r2, el]
          exact r1
        · rw [if_neg k3] at hb ⊢
          by_cases k4 : k = 4 ∨ k = 5
          · rw [if_pos k4] at hb ⊢
            have r2 := rep_read (en := Lv.enc) (Q := fun _ => True) (level_step f) (fun s h hb _ => level_read f s h hb) 2 s2 hr hb fun _ _ => trivial
            simp only [Lv.enc, Int.toNat_natCast]
            rw [if_neg (by omega), List.nil_append, encLs_flat, List.append_assoc, ← r2, el]
            exact r1
          · rw [if_neg k4] at hb
            cases hb
theorem packPs_all {np : Int} : ∀ {ts : List Tm}, packPs np ts → ∀ x ∈ ts, x.packP np
  | y :: r, h, x, hx => by
    rcases List.mem_cons.1 hx with rfl | hx
    · exact h.1
    · exact packPs_all h.2 x hx
theorem term_read {np : Int} : ∀ (f : Nat) (s : RS), Rdy f s → (termF f s).2.bad = false → (termF f s).1.packP np → s.l = (termF f s).1.enc ++ (termF f s).2.l
  | 0, s, h, hb, _ => by
    obtain ⟨h1, h2, h3, h4, h5⟩ := room_step h hb
    omega
  | f + 1, s, h, hb, hp => by
    unfold termF at hb hp ⊢
    cases hbd : (roomF (numF s).2).bad with
    | true => rw [hbd] at hb; rw [if_pos rfl, hbd] at hb; cases hb
    | false =>
      rw [hbd, if_neg (by simp)] at hb hp
      rw [if_neg (by simp)]
      obtain ⟨h1, h2, h3, h4, h5⟩ := room_step h hbd
      obtain ⟨g1, -⟩ := roomF_bad _ hbd
      obtain ⟨r1, -⟩ := numF_read s g1
      have hr : Rdy f (roomF (numF s).2) := .inr ⟨by omega, by omega, by omega⟩
      have el : (roomF (numF s).2).l = (numF s).2.l := rfl
      generalize (numF s).1 = k at *
      generalize roomF (numF s).2 = s2 at *
      generalize (numF s).2 = s1 at *
      have ih := fun n s hr hb hq => rep_read (en := Tm.enc) (Q := fun t => t.packP np) (term_step f) (fun s h hb hq => term_read f s h hb hq) n s hr hb hq
      by_cases k1 : k = 1
      · rw [if_pos k1] at hb ⊢
        obtain ⟨r2, -⟩ := numF_read s2 hb
        subst k1
        simp only [Tm.enc, Int.toNat_natCast, encLs, encTs, List.append_nil]
        rw [if_pos (by decide), List.append_assoc, ← r2, el]
        exact r1
      rw [if_neg k1] at hb hp ⊢
      by_cases k2 : k = 2
      · rw [if_pos k2] at hb ⊢
        have r2 := rep_read (en := Lv.enc) (Q := fun _ => True) (level_step f) (fun s h hb _ => level_read f s h hb) 1 s2 hr hb fun _ _ => trivial
        subst k2
        simp only [Tm.enc, encTs, List.append_nil]
        rw [if_neg (by decide), if_neg (by decide), List.nil_append, encLs_flat, List.append_assoc, ← r2, el]
        exact r1
      rw [if_neg k2] at hb hp ⊢
      by_cases k3 : k = 3
      · rw [if_pos k3] at hb hp ⊢
        have n1 : Step s2 (nameF s2).2 := .name hr.top
        have hr3 := n1.rdy hr
        have n2 : Step (nameF s2).2 (numF (nameF s2).2).2 := .num hr3.top
        have hr4 := n2.rdy hr3
        have hb4 : (numF (nameF s2).2).2.bad = false := (rep_step (level_step f) _ _ hr4).good hb
        have hb3 : (nameF s2).2.bad = false := n2.good hb4
        have q1 := nameF_read s2 hb3
        obtain ⟨q2, -⟩ := numF_read (nameF s2).2 hb4
        have r2 := rep_read (en := Lv.enc) (Q := fun _ => True) (level_step f) (fun s h hb _ => level_read f s h hb) _ _ hr4 hb fun _ _ => trivial
        have hlen := repF_len (levelF f) (min (numF (nameF s2).2).1 5) (numF (nameF s2).2).2
        obtain ⟨-, -, hc, -⟩ := hp
        have hc2 := (hc rfl).2
        rw [hlen] at hc2
        subst k3
        simp only [Tm.enc, encTs, List.append_nil]
        rw [if_neg (by decide), if_pos trivial, hlen, show min (numF (nameF s2).2).1 5 = (numF (nameF s2).2).1 by omega] at *
        rw [encLs_flat, List.append_assoc, List.append_assoc, List.append_assoc, ← r2, ← q2, ← q1, el]
        exact r1
      rw [if_neg k3] at hb hp ⊢
      by_cases k4 : k = 4 ∨ k = 5 ∨ k = 6
      · rw [if_pos k4] at hb hp ⊢
        have r2 := ih 2 s2 hr hb (packPs_all hp.2.2.2.2)
        simp only [Tm.enc, encLs, List.nil_append, Int.toNat_natCast]
        rw [if_neg (by omega), if_neg (by omega), List.nil_append, encTs_flat, List.append_assoc, ← r2, el]
        exact r1
      rw [if_neg k4] at hb hp ⊢
      by_cases k7 : k = 7
      · rw [if_pos k7] at hb hp ⊢
        have r2 := ih 3 s2 hr hb (packPs_all hp.2.2.2.2)
        subst k7
        simp only [Tm.enc, encLs, List.nil_append]
        rw [if_neg (by decide), if_neg (by decide), List.nil_append, encTs_flat, List.append_assoc, ← r2, el]
        exact r1
      rw [if_neg k7] at hb
      cases hb
end
section
set_option maxRecDepth 20000
attribute [local go_sem] Nat.add_assoc id_ne id_ne' id_ne2 List.append_assoc bC_len bC_one rowB_flatR
theorem u8_ne {x y : UInt8} (h : x ≠ y) : ¬ ((x.toNat : Nat) : Int) = ((y.toNat : Nat) : Int) := fun e => h (UInt8.toNat_inj.1 (by omega))
set_option maxHeartbeats 4000000 in
theorem SameBytes_p (a b : List UInt8) : PPure Try.prog F.ref00_SameBytes [rowB a, rowB b] (.sc (.bool (decide (a = b)))) := by
  refine pure_by is_ref00_SameBytes (by simp) rfl fun hb nx => ?_
  have hbl : a.length ≤ 9223372036854775807 := by simp [rowB, bndL, PV.bnd] at hb; omega
  clear hb
  by_cases hl : a.length = b.length
  · repeat' (first | ((with_reducible first | refine wA (by omega) ?_ | refine wB (by omega) ?_ | refine wC (by omega) ?_ | refine wD (by omega) ?_ | refine wE ?_ ?_ | refine wF ?_ ?_ | refine wG ?_ ?_ | refine wH ?_ ?_ | refine wI ?_ ?_ | refine wJ ?_ ?_ | refine wK ?_ ?_ | refine wL ?_ ?_) <;> intro _) | simp (maxSteps := 1000000) (disch := omega) only [go_sem, seval, mc_ref00_SameBytes, rowB, *])
    refine c_loopW 67106864 (by kernel_rfl) (fun j f H m => ∃ i : Nat, j = a.length - i ∧ i ≤ a.length ∧ f 5 = .sc (.int .i64 i) ∧ Kept (a.take i = b.take i)) _ ⟨0, rfl, Nat.zero_le _, cE1, Kept.mk rfl⟩ ?_
    rintro _ f H m ⟨i, rfl, hi, e5, hs⟩
    by_cases hlt : i < a.length
    · have eg : a[i]? = some a[i] := List.getElem?_eq_getElem hlt
      have hlt2 : i < b.length := by omega
      have eg2 : b[i]? = some b[i] := List.getElem?_eq_getElem hlt2
      by_cases hc : a[i] = b[i]
      · have hs2 : Kept (a.take (i + 1) = b.take (i + 1)) := Kept.mk (by rw [List.take_succ_eq_append_getElem hlt, List.take_succ_eq_append_getElem hlt2, hs.out, hc])
        clear hs
        rw [hc] at eg
        clear hc
        repeat' (first | ((with_reducible first | refine wA (by omega) ?_ | refine wB (by omega) ?_ | refine wC (by omega) ?_ | refine wD (by omega) ?_ | refine wE ?_ ?_ | refine wF ?_ ?_ | refine wG ?_ ?_ | refine wH ?_ ?_ | refine wI ?_ ?_ | refine wJ ?_ ?_ | refine wK ?_ ?_ | refine wL ?_ ?_) <;> intro _) | simp (maxSteps := 1000000) (disch := omega) only [go_sem, seval, *])
        exact Nx.mk (a.length - (i + 1)) cE1 ⟨i + 1, cE1, cE1, cE1, hs2⟩
      · have hn : a ≠ b := fun e => hc (by subst e; rfl)
        have hu := u8_ne hc
        rw [decide_eq_false hn]
        clear hs hc hn
        repeat' (first | ((with_reducible first | refine wA (by omega) ?_ | refine wB (by omega) ?_ | refine wC (by omega) ?_ | refine wD (by omega) ?_ | refine wE ?_ ?_ | refine wF ?_ ?_ | refine wG ?_ ?_ | refine wH ?_ ?_ | refine wI ?_ ?_ | refine wJ ?_ ?_ | refine wK ?_ ?_ | refine wL ?_ ?_) <;> intro _) | simp (maxSteps := 1000000) (disch := omega) only [go_sem, seval, *])
        all_goals (exact fin_tmp (.inr rfl) cE3)
    · obtain rfl : i = a.length := by omega
      have e : a = b := by
        have := hs.out
        rwa [List.take_length, hl, List.take_length] at this
      rw [decide_eq_true e]
      clear hs e
      repeat' (first | ((with_reducible first | refine wA (by omega) ?_ | refine wB (by omega) ?_ | refine wC (by omega) ?_ | refine wD (by omega) ?_ | refine wE ?_ ?_ | refine wF ?_ ?_ | refine wG ?_ ?_ | refine wH ?_ ?_ | refine wI ?_ ?_ | refine wJ ?_ ?_ | refine wK ?_ ?_ | refine wL ?_ ?_) <;> intro _) | simp (maxSteps := 1000000) (disch := omega) only [go_sem, seval, *])
      all_goals (exact fin_tmp (.inr rfl) cE3)
  · have hn : a ≠ b := fun e => hl (by rw [e])
    rw [decide_eq_false hn]
    clear hn
    repeat' (first | ((with_reducible first | refine wA (by omega) ?_ | refine wB (by omega) ?_ | refine wC (by omega) ?_ | refine wD (by omega) ?_ | refine wE ?_ ?_ | refine wF ?_ ?_ | refine wG ?_ ?_ | refine wH ?_ ?_ | refine wI ?_ ?_ | refine wJ ?_ ?_ | refine wK ?_ ?_ | refine wL ?_ ?_) <;> intro _) | simp (maxSteps := 1000000) (disch := omega) only [go_sem, seval, mc_ref00_SameBytes, rowB, *])
    all_goals (exact fin_tmp (.inr rfl) cE3)
end
section
set_option maxRecDepth 20000
attribute [local go_sem] Nat.add_assoc id_ne id_ne' id_ne2 List.append_assoc tm_len tm_take tm_one tm_take_app tm_drop_app tm_d5 tm_d6 tm_d7 tm_d8 tm_d9 tm_d10 tm_d11 tm_d12 tm_d13 tm_d14 tm_d15 dcl_len dcl_take strBin
mutual
theorem lv_self8 : ∀ l : Lv, l.same l = true
  | .mk k n args => by simp [Lv.same, lvs_self8 args]
theorem lvs_self8 : ∀ ls : List Lv, sameL ls ls = true
  | [] => by simp [sameL]
  | x :: r => by simp [sameL, lv_self8 x, lvs_self8 r]
end
mutual
theorem tm_same_self8 : ∀ t : Tm, t.same t = true
  | .mk k n s ls args => by simp [Tm.same, lvs_self8 ls, tms_self8 args, sameB]
theorem tms_self8 : ∀ ts : List Tm, sameT ts ts = true
  | [] => by simp [sameT]
  | x :: r => by simp [sameT, tm_same_self8 x, tms_self8 r]
end
theorem same8 (x : Tm) : PPure Try.prog F.ref00_SameTerm [.agg x.pv, .agg x.pv] (.sc (.bool true)) := by
  have h := SameTerm_p x.size x x (Nat.le_refl _)
  rwa [tm_same_self8 x] at h
set_option maxHeartbeats 8000000 in
theorem SameDecl_p (d : Dcl) : PPure Try.prog F.ref00_SameDecl [.agg d.pv, .agg d.pv] (.sc (.bool true)) := by
  obtain ⟨kind, params, name, typ, val, fixed, ctors⟩ := d
  refine pure_by is_ref00_SameDecl (by simp) rfl fun hb nx => ?_
  have hbc : ctors.length ≤ 9223372036854775807 := by simp [Dcl.pv, bndL, PV.bnd, bndL_append] at hb; omega
  clear hb
  have c1 := same8 typ
  have c2 := same8 val
  repeat' (first | ((with_reducible first | refine wA (by omega) ?_ | refine wB (by omega) ?_ | refine wC (by omega) ?_ | refine wD (by omega) ?_ | refine wE ?_ ?_ | refine wF ?_ ?_ | refine wG ?_ ?_ | refine wH ?_ ?_ | refine wI ?_ ?_ | refine wJ ?_ ?_ | refine wK ?_ ?_ | refine wL ?_ ?_) <;> intro _) | (((with_reducible refine call_id ?_); (first | (refine call_pure (c1) ?_) | (refine call_pure (c2) ?_)))) | simp (maxSteps := 1000000) (disch := omega) only [go_sem, seval, mc_ref00_SameDecl, Dcl.pv, *])
  refine c_loopW 9903520314138927011117137968 (by kernel_rfl) (fun j f H m => ∃ i : Nat, j = ctors.length - i ∧ i ≤ ctors.length ∧ f 5 = .sc (.int .i64 i)) _ ⟨0, rfl, Nat.zero_le _, cE1⟩ ?_
  rintro _ f H m ⟨i, rfl, hi, e5⟩
  by_cases hlt : i < ctors.length
  · have eg : ctors[i]? = some ctors[i] := List.getElem?_eq_getElem hlt
    have c3 := same8 ctors[i].typ
    repeat' (first | ((with_reducible first | refine wA (by omega) ?_ | refine wB (by omega) ?_ | refine wC (by omega) ?_ | refine wD (by omega) ?_ | refine wE ?_ ?_ | refine wF ?_ ?_ | refine wG ?_ ?_ | refine wH ?_ ?_ | refine wI ?_ ?_ | refine wJ ?_ ?_ | refine wK ?_ ?_ | refine wL ?_ ?_) <;> intro _) | (((with_reducible refine call_id ?_); (first | (refine call_pure (c3) ?_)))) | simp (maxSteps := 1000000) (disch := omega) only [go_sem, seval, Ctr.pv, *])
    exact Nx.mk (ctors.length - (i + 1)) cE1 ⟨i + 1, rfl, cE1, cE1⟩
  · obtain rfl : i = ctors.length := by omega
    repeat' (first | ((with_reducible first | refine wA (by omega) ?_ | refine wB (by omega) ?_ | refine wC (by omega) ?_ | refine wD (by omega) ?_ | refine wE ?_ ?_ | refine wF ?_ ?_ | refine wG ?_ ?_ | refine wH ?_ ?_ | refine wI ?_ ?_ | refine wJ ?_ ?_ | refine wK ?_ ?_ | refine wL ?_ ?_) <;> intro _) | simp (maxSteps := 1000000) (disch := omega) only [go_sem, seval, *])
    all_goals (exact fin_tmp (.inr rfl) cE3)
end
section
set_option maxRecDepth 20000
attribute [local go_sem] Nat.add_assoc id_ne id_ne' id_ne2 List.append_assoc
def T08 : Tm := .mk 2 0 noStr [.mk 1 0 []] []
def V58 : Tm := .mk 1 5 noStr [] []
def L38 : Lv := .mk 3 0 [.mk 1 2 []]
def D08 : Dcl := ⟨1, 0, ⟨#[97]⟩, T08, .mk 0 0 noStr [] [], 0, []⟩
theorem noS_noStr : noS noStr = true := by unfold noS; exact beq_self_eq_true _
theorem name97 : nameB ⟨#[97]⟩ = true := by decide
theorem t08_right (np : Int) (h : 0 ≤ np) (h2 : np ≤ 4) : T08.right np 0 = true := by
  simp [T08, Tm.right, Tm.nodes, nodesL, nodesT, Lv.nodes, Tm.formed, hasB, headR, Lv.right, Lv.formed, noS_noStr, h, h2]
theorem t08_pack : T08.packB = true := by simp [T08, Tm.packB, Tm.right, Tm.nodes, nodesL, nodesT, Lv.nodes, Tm.formed, hasB, headR, Lv.right, Lv.formed, Tm.nearB, nearA, noS_noStr]
theorem v58_pack : V58.packB = true := by simp [V58, Tm.packB, Tm.right, Tm.nodes, nodesL, nodesT, Lv.nodes, Tm.formed, hasB, headR, Lv.right, Lv.formed, Tm.nearB, nearA, noS_noStr]
theorem l38_right : L38.right 4 = true := by decide
theorem d08_formed : D08.formed = true := by
  have h := t08_right 0 (by decide) (by decide)
  have h2 : noughtB (.mk 0 0 noStr [] []) = true := tm_same_self8 _
  simp [D08, Dcl.formed, name97, h, h2, noFamB]
theorem t08_enc : T08.enc = [2, 1, 0] := by simp [T08, Tm.enc, encLs, encTs, Lv.enc, Plain.enc_small]
theorem v58_enc : V58.enc = [1, 5] := by simp [V58, Tm.enc, encLs, encTs, Plain.enc_small]
theorem l38_enc : L38.enc = [3, 1, 2] := by simp [L38, encLs, Lv.enc, Plain.enc_small]
theorem d08_enc : D08.enc = [1, 1, 97, 0, 2, 1, 0] := by
  simp only [D08, Dcl.enc, t08_enc, encT_one]
  simp [Plain.enc_small, tb, ByteArray.size]
theorem d08_hash : ¬ ((D08.hash : Nat) : Int) = 0 := by
  have : D08.hash ≠ 0 := by
    unfold Dcl.hash
    rw [if_pos d08_formed, d08_enc]
    decide
  omega
theorem t08_weak : Weak (.agg [.sc (.int .i64 2), .sc (.int .i64 0), .sc (.string ⟨#[]⟩), .sl 3 [[.sc (.int .i64 1), .sc (.int .i64 0), .sc (.slice none 0 0)]], .sc (.slice none 0 0)]) (.agg T08.pv) := by
  simp only [T08, Tm.pv, Lv.pv, List.map_cons, List.map_nil]
  exact Weak.agg ⟨.refl _, .refl _, .refl _, Weak.sl rfl (by simp) ⟨.refl _, .refl _, .nil 3, trivial⟩, .nil 5, trivial⟩
theorem d08_weak : Weak (.agg [.sc (.int .i64 1), .sc (.int .i64 0), .sc (.string ⟨#[97]⟩), .sc (.int .i64 2), .sc (.int .i64 0), .sc (.string ⟨#[]⟩), .sl 3 [[.sc (.int .i64 1), .sc (.int .i64 0), .sc (.slice none 0 0)]], .sc (.slice none 0 0), .sc (.int .i64 0), .sc (.int .i64 0), .sc (.string ⟨#[]⟩), .sc (.slice none 0 0), .sc (.slice none 0 0), .sc (.int .i64 0), .sc (.slice none 0 0)]) (.agg D08.pv) := by
  simp only [D08, Dcl.pv, T08, Tm.pv, Lv.pv, List.map_cons, List.map_nil]
  exact Weak.agg ⟨.refl _, .refl _, .refl _, .refl _, .refl _, .refl _, Weak.sl rfl (by simp) ⟨.refl _, .refl _, .nil 3, trivial⟩, .nil 5, .refl _, .refl _, .refl _, .nil 3, .nil 5, .refl _, .nil 6, trivial⟩
set_option maxHeartbeats 8000000 in
theorem alive08_p : PPure Try.prog F.law08_alive [] (.sc (.bool true)) := by
  have c1 : PPure Try.prog F.pack_Term [.agg [.sc (.int .i64 2), .sc (.int .i64 0), .sc (.string ⟨#[]⟩), .sl 3 [[.sc (.int .i64 1), .sc (.int .i64 0), .sc (.slice none 0 0)]], .sc (.slice none 0 0)]] (.tup [rowB [2, 1, 0], .sc (.bool true)]) := by
    have h := Term_p T08
    rw [t08_pack, t08_enc] at h
    exact h.weak ⟨t08_weak, trivial⟩ (.refl _)
  have c2 : PPure Try.prog F.pack_TakeTerm [.sl 1 [[.sc (.int .u8 1)], [.sc (.int .u8 5)], [.sc (.int .u8 9)]]] (.tup [.agg [.sc (.int .i64 1), .sc (.int .i64 5), .sc (.string ⟨#[]⟩), .sl 3 [], .sl 5 []], rowB [9], .sc (.bool true)]) := by
    have h := TakeTerm_p ([1, 5] ++ [9]) (by decide)
    rw [← v58_enc] at h
    unfold takeTermB at h
    rw [takeTerm_enc V58 v58_pack, v58_pack, v58_enc] at h
    simp only [V58, Tm.pv, List.map_nil, List.cons_append, List.nil_append] at h
    exact h
  have c3 : PPure Try.prog F.pack_Decl [.agg [.sc (.int .i64 1), .sc (.int .i64 0), .sc (.string ⟨#[97]⟩), .sc (.int .i64 2), .sc (.int .i64 0), .sc (.string ⟨#[]⟩), .sl 3 [[.sc (.int .i64 1), .sc (.int .i64 0), .sc (.slice none 0 0)]], .sc (.slice none 0 0), .sc (.int .i64 0), .sc (.int .i64 0), .sc (.string ⟨#[]⟩), .sc (.slice none 0 0), .sc (.slice none 0 0), .sc (.int .i64 0), .sc (.slice none 0 0)]] (.tup [rowB [1, 1, 97, 0, 2, 1, 0], .sc (.bool true)]) := by
    have h := Decl_p D08
    rw [d08_formed, d08_enc] at h
    exact h.weak ⟨d08_weak, trivial⟩ (.refl _)
  have c4 : PPure Try.prog F.pack_TakeDecl [rowB [1, 1, 97, 0, 2, 1, 0]] (.tup [.agg D08.pv, .sl 1 [], .sc (.bool true)]) := by
    obtain ⟨n', hn⟩ := takeDecl_enc D08 d08_formed []
    have h := TakeDecl_p (D08.enc ++ []) (by rw [d08_enc]; decide)
    unfold takeDeclB at h
    rw [hn, d08_formed, List.append_nil, d08_enc] at h
    exact h
  have c5 : PPure Try.prog F.pack_TakeLevel [.sl 1 [[.sc (.int .u8 3)], [.sc (.int .u8 1)], [.sc (.int .u8 2)]]] (.tup [.agg L38.pv, .sl 1 [], .sc (.bool true)]) := by
    have h := TakeLevel_p (L38.enc ++ []) (by rw [l38_enc]; decide)
    unfold takeLevelB at h
    rw [takeLevel_enc L38 l38_right, l38_right, List.append_nil, l38_enc] at h
    exact h
  have c6 : PPure Try.prog F.pack_Level [.agg L38.pv] (.tup [rowB [3, 1, 2], .sc (.bool true)]) := by
    have h := Level_p L38
    rw [l38_right, l38_enc] at h
    exact h
  have s1 : PPure Try.prog F.ref00_SameBytes [rowB [2, 1, 0], .sl 1 [[.sc (.int .u8 2)], [.sc (.int .u8 1)], [.sc (.int .u8 0)]]] (.sc (.bool true)) := by
    have h := SameBytes_p [2, 1, 0] [2, 1, 0]
    rw [decide_eq_true rfl] at h
    exact h
  have s2 : PPure Try.prog F.ref00_SameBytes [rowB [9], .sl 1 [[.sc (.int .u8 9)]]] (.sc (.bool true)) := by
    have h := SameBytes_p [9] [9]
    rw [decide_eq_true rfl] at h
    exact h
  have s3 : PPure Try.prog F.ref00_SameBytes [rowB [1, 1, 97, 0, 2, 1, 0], .sl 1 [[.sc (.int .u8 1)], [.sc (.int .u8 1)], [.sc (.int .u8 97)], [.sc (.int .u8 0)], [.sc (.int .u8 2)], [.sc (.int .u8 1)], [.sc (.int .u8 0)]]] (.sc (.bool true)) := by
    have h := SameBytes_p [1, 1, 97, 0, 2, 1, 0] [1, 1, 97, 0, 2, 1, 0]
    rw [decide_eq_true rfl] at h
    exact h
  have s4 : PPure Try.prog F.ref00_SameBytes [rowB [3, 1, 2], .sl 1 [[.sc (.int .u8 3)], [.sc (.int .u8 1)], [.sc (.int .u8 2)]]] (.sc (.bool true)) := by
    have h := SameBytes_p [3, 1, 2] [3, 1, 2]
    rw [decide_eq_true rfl] at h
    exact h
  have s5 : PPure Try.prog F.ref00_SameDecl [.agg D08.pv, .agg [.sc (.int .i64 1), .sc (.int .i64 0), .sc (.string ⟨#[97]⟩), .sc (.int .i64 2), .sc (.int .i64 0), .sc (.string ⟨#[]⟩), .sl 3 [[.sc (.int .i64 1), .sc (.int .i64 0), .sc (.slice none 0 0)]], .sc (.slice none 0 0), .sc (.int .i64 0), .sc (.int .i64 0), .sc (.string ⟨#[]⟩), .sc (.slice none 0 0), .sc (.slice none 0 0), .sc (.int .i64 0), .sc (.slice none 0 0)]] (.sc (.bool true)) := (SameDecl_p D08).weak ⟨.refl _, d08_weak, trivial⟩ (.refl _)
  have s6 : PPure Try.prog F.pack_Formed [.agg [.sc (.int .i64 1), .sc (.int .i64 0), .sc (.string ⟨#[97]⟩), .sc (.int .i64 2), .sc (.int .i64 0), .sc (.string ⟨#[]⟩), .sl 3 [[.sc (.int .i64 1), .sc (.int .i64 0), .sc (.slice none 0 0)]], .sc (.slice none 0 0), .sc (.int .i64 0), .sc (.int .i64 0), .sc (.string ⟨#[]⟩), .sc (.slice none 0 0), .sc (.slice none 0 0), .sc (.int .i64 0), .sc (.slice none 0 0)]] (.sc (.bool true)) := by
    have h := formed11_p D08
    rw [d08_formed] at h
    exact h.weak ⟨d08_weak, trivial⟩ (.refl _)
  have s7 : PPure Try.prog F.pack_Hash [.agg [.sc (.int .i64 1), .sc (.int .i64 0), .sc (.string ⟨#[97]⟩), .sc (.int .i64 2), .sc (.int .i64 0), .sc (.string ⟨#[]⟩), .sl 3 [[.sc (.int .i64 1), .sc (.int .i64 0), .sc (.slice none 0 0)]], .sc (.slice none 0 0), .sc (.int .i64 0), .sc (.int .i64 0), .sc (.string ⟨#[]⟩), .sc (.slice none 0 0), .sc (.slice none 0 0), .sc (.int .i64 0), .sc (.slice none 0 0)]] (.sc (.int .u64 (D08.hash : Nat))) := (Hash_p D08).weak ⟨d08_weak, trivial⟩ (.refl _)
  have hh := d08_hash
  have e1 : D08.pv.length = 15 := dcl_len D08
  have e2 : D08.pv.take 15 = D08.pv := dcl_take D08
  have e3 : D08.pv.all PV.one = true := dcl_oneA D08
  have e4 : L38.pv.length = 3 := pv_len L38
  have e5 : L38.pv.take 3 = L38.pv := pv_take L38
  have e6 : L38.pv.all PV.one = true := pv_one L38
  refine pure_by is_law08_alive (by simp) rfl fun hb nx => ?_
  clear hb
  repeat' (first | ((with_reducible first | refine wA (by omega) ?_ | refine wB (by omega) ?_ | refine wC (by omega) ?_ | refine wD (by omega) ?_ | refine wE ?_ ?_ | refine wF ?_ ?_ | refine wG ?_ ?_ | refine wH ?_ ?_ | refine wI ?_ ?_ | refine wJ ?_ ?_ | refine wK ?_ ?_ | refine wL ?_ ?_) <;> intro _) | (((with_reducible refine call_id ?_); (first | (refine call_pure (c1) ?_) | (refine call_pure (c2) ?_) | (refine call_pure (c3) ?_) | (refine call_pure (c4) ?_) | (refine call_pure (c5) ?_) | (refine call_pure (c6) ?_) | (refine call_pure (s1) ?_) | (refine call_pure (s2) ?_) | (refine call_pure (s3) ?_) | (refine call_pure (s4) ?_) | (refine call_pure (s5) ?_) | (refine call_pure (s6) ?_) | (refine call_pure (s7) ?_)))) | simp (maxSteps := 1000000) (disch := omega) only [go_sem, seval, mc_law08_alive, *])
  all_goals (exact fin_tmp (.inr rfl) cE3)
end
section
set_option maxRecDepth 20000
attribute [local go_sem] pv_len pv_take Nat.add_assoc tm_len tm_take pv_one tm_one id_ne id_ne' id_ne2 List.append_assoc tm_take_app tm_drop_app tm_d6 tm_d7 tm_d8 tm_d9 tm_d10 tm_d11 tm_d12 tm_d13 tm_d14 tm_d15 ent_len ent_take ent_one
def Ent.pvB (f : Bool) (e : Ent) : List PV := .sc (.int .i64 e.kind) :: .sc (.int .i64 e.params) :: .sc (.string e.name) :: (e.typ.pvB f ++ (e.val.pvB f ++ [.sc (.int .i64 e.height), .sc (.string e.family), .sc (.int .i64 e.fixed), .sc (.int .i64 e.index), .sc (.int .i64 e.fields), .sl 1 (e.ctors.map txt)]))
def Ent.numE (a b : Ent) : Bool := decide (a.kind = b.kind) && (decide (a.params = b.params) && (decide (a.height = b.height) && (decide (a.fixed = b.fixed) && (decide (a.index = b.index) && decide (a.fields = b.fields)))))
def Ent.txtE (a b : Ent) : Bool := a.name.toList == b.name.toList && a.family.toList == b.family.toList
def Ent.same (a b : Ent) : Bool := a.numE b && (a.txtE b && (decide (a.ctors = b.ctors) && (a.typ.same b.typ && a.val.same b.val)))
end
end Go.Proofs.Ytnelciclibknpaa
