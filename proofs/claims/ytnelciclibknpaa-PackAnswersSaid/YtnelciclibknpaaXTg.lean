/-
  Plain values: PkK, PkL.
-/
import Derived.Test.YtnelciclibknpaaXTa
import Derived.Test.YtnelciclibknpaaXTb
import Derived.Test.YtnelciclibknpaaXTc
import Derived.Test.YtnelciclibknpaaXTd
import Derived.Test.YtnelciclibknpaaXTe
import Derived.Test.YtnelciclibknpaaXTf
set_option linter.unusedVariables false
set_option linter.unusedSimpArgs false
namespace Go.Proofs.Ytnelciclibknpaa
open Go.RowKit
attribute [local go_sem ↓] c_seq c_region c_cond c_block c_ret c_skip c_exit c_cont t_normal t_ret t_exit b_normal b_ret b_exit run_nil run_cons g_some o_mv o_pick o_bin o_un o_ld o_ldf o_bld o_len o_mkf o_nilc o_fa o_fd o_ia o_iaa o_ix o_ixs o_ext o_al o_bxf o_bxt o_bsl o_bslf o_mks o_st o_stf o_call o_rng o_nxt o_callm o_callmA o_calvm o_calv cond_true cond_false upd_get sigF_cons o_eqa o_mm o_app o_slc o_apps o_cvt
attribute [local go_sem] num_nil num_cons isP chunks rngV next_is next_iter val_some new_some st_some stf_some guard_tt guard_ff guard_tf guard_ft guard_un calv_fn put_some put_none ev_tmp ev_const ev_func sig_eq sigF_nil q0 q1 nilcV faV fdV iaV iaaV ixV ixsV extV mksV loadP storeP lenPV binPV unPV intBin partsP fillP zeros PV.good PV.cellsOf PV.one q2 q3 q4 q5 q6 q7 q8 q9 q10 q11 q12 q13 q14 q15 q16 q17 q18 q19 q20 q21 q22 q23 q24 q25 q26 q27 q28 q29 q30 q31 q32 q33 q34 q35 q36 q37 q38 wrap64 app_some mmL mmV mm2 eqE eqParts eqInt eqBool eqStr partV q39 q40 pickV q41 q42 q43 q44 q45 q46 q47 q48 q49 appE oldOf rowOf updL q50 q51 q52 q53 zlt ovr_get ite_neN ite_eqN q54 q55 q56 q57 q58 q59 q60 q61 q62 q63 q64 q65 q66 q67 tailP_f tailP_t tailF_f tailF_t slcP bndO capO slcLen intOf Option.isSome_none Option.isNone_none Option.isSome_some Option.isNone_some nilP slc_sl slc_csl slc_osl slc_osl0 slc_ocap slc_str appR appS cvP shiftB false_or List.append_nil List.length_append resP resPs resP1 PV.sc.injEq Value.bool.injEq Value.int.injEq
section
set_option maxRecDepth 20000
attribute [local go_sem] Nat.add_assoc id_ne id_ne' id_ne2 List.append_assoc bC_len bC_one pv_take tm_take pv_len tm_len strC strC_len take_bC
mutual
def Tm.shP : Tm → Prop
  | .mk k _ _ ls args => (k = 2 → ls.length = 1) ∧ (k ≠ 2 → k ≠ 3 → ls = []) ∧ shPs args
def shPs : List Tm → Prop
  | [] => True
  | x :: r => x.shP ∧ shPs r
end
theorem shPs_mem : ∀ (ls : List Tm) (i : Nat) (h : i < ls.length), shPs ls → ls[i].shP
  | x :: r, 0, h, hf => hf.1
  | x :: r, i + 1, h, hf => shPs_mem r i (by simpa using h) hf.2
set_option maxHeartbeats 16000000 in
theorem rTerm_m {np : Int} (hnp : np ≤ 4) : ∀ (fuel : Nat) (t : Tm), t.nodes ≤ fuel → t.packP np → t.shP → t.nodes ≤ 2 ^ 30 → ∀ (H : Nat → Option PObj) (nx : Nat),
    PMut Try.prog F.ref08_term [.agg t.pv] H nx (fun H' nx' r => nx ≤ nx' ∧ (∃ id w, nx ≤ id ∧ id < nx' ∧ r = .osl id 0 t.enc.length 1 ∧ H' id = some ⟨bC t.enc, w⟩) ∧ ∀ j, j < nx → H' j = H j) := by
  intro fuel
  induction fuel with
  | zero => intro t h; have : 0 < t.nodes := (by cases t; simp only [Tm.nodes]; omega); omega
  | succ fuel ih =>
  intro t hn hf hsh hb H nx
  cases t with
  | mk k n s ls args =>
  obtain ⟨hk, hn1, hs1, hfl, hfa⟩ := hf
  obtain ⟨hsh2, hsh0, hsha⟩ := hsh
  simp only [Tm.nodes] at hn hb
  refine mut_by is_ref08_term (by simp) fun hbn => ?_
  clear hbn
  have hba : args.length ≤ 2 ^ 30 := by have := len_nodesT args; omega
  have hbl : ls.length ≤ 2 ^ 30 := by have := len_nodesL ls; omega
  obtain ⟨k, rfl⟩ : ∃ k' : Nat, k = k' := ⟨k.toNat, by omega⟩
  repeat' (first | ((with_reducible first | refine wA (by omega) ?_ | refine wB (by omega) ?_ | refine wC (by omega) ?_ | refine wD (by omega) ?_ | refine wE ?_ ?_ | refine wF ?_ ?_ | refine wG ?_ ?_ | refine wH ?_ ?_ | refine wI ?_ ?_ | refine wJ ?_ ?_ | refine wK ?_ ?_ | refine wL ?_ ?_) <;> intro _) | simp (maxSteps := 1000000) (disch := omega) only [go_sem, seval, mc_ref08_term, Tm.pv, *])
  refine call_mut (rOne_m k (by omega) _ _) ?_
  rintro H1 m1 r1 ⟨hm0, hr0, hk0⟩ -
  obtain ⟨id, w, g1, g2, rfl, g3⟩ := BRow.osl hr0 (Plain.enc_length_pos _)
  have hm1 : nx ≤ m1 := Nat.le_trans (Nat.le_add_right _ _) hm0
  have hid : nx ≤ id := Nat.le_trans (Nat.le_add_right _ _) g1
  have hk1 : Kept (∀ j, j < nx → H1 j = H j) := fun j g1 => hk0 j (Nat.lt_of_lt_of_le g1 (Nat.le_add_right _ _))
  clear hm0 hr0 hk0 g1
  have hek := enc_len6 k (by omega)
  obtain rfl | rfl | rfl | ⟨h1, h2, h3⟩ : k = 1 ∨ k = 2 ∨ k = 3 ∨ (k ≠ 1 ∧ k ≠ 2 ∧ k ≠ 3) := by omega
  · have hn2 := hn1 rfl
    obtain rfl := hsh0 (by omega) (by omega)
    clear hsh0 hsh2 hn1
    obtain ⟨n, rfl⟩ : ∃ n' : Nat, n = n' := ⟨n.toNat, by omega⟩
    have hen := enc_len6 n (by omega)
    repeat' (first | ((with_reducible first | refine wA (by omega) ?_ | refine wB (by omega) ?_ | refine wC (by omega) ?_ | refine wD (by omega) ?_ | refine wE ?_ ?_ | refine wF ?_ ?_ | refine wG ?_ ?_ | refine wH ?_ ?_ | refine wI ?_ ?_ | refine wJ ?_ ?_ | refine wK ?_ ?_ | refine wL ?_ ?_) <;> intro _) | simp (maxSteps := 1000000) (disch := omega) only [go_sem, seval, *])
    refine call_mut (rOne_m n (by omega) _ _) ?_
    rintro H2 m2 r2 ⟨hm0, hr0, hk0⟩ -
    obtain ⟨id2, w2, k1, k2, rfl, k3⟩ := BRow.osl hr0 (Plain.enc_length_pos _)
    have hm2 : m1 ≤ m2 := Nat.le_trans (Nat.le_add_right _ _) hm0
    have hm3 : m1 + 10 ≤ m2 := hm0
    have hne : id ≠ id2 := by have : m1 ≤ id2 := Nat.le_trans (Nat.le_add_right _ _) k1; omega
    have hid2 : nx ≤ id2 := Nat.le_trans hm1 (Nat.le_trans (Nat.le_add_right _ _) k1)
    have g4 : H2 id = some ⟨bC (Plain.enc 1), w⟩ := (hk0 id (Nat.lt_of_lt_of_le g2 (Nat.le_add_right _ _))).trans g3
    have hk2 : Kept (∀ j, j < nx → H2 j = H j) := fun j hj => (hk0 j (Nat.lt_of_lt_of_le hj (Nat.le_trans hm1 (Nat.le_add_right _ _)))).trans (hk1 j hj)
    obtain ⟨T, hT1⟩ : ∃ T, Plain.enc 1 ++ Plain.enc n = T := ⟨_, rfl⟩
    have hT : (Tm.mk 1 (n : Int) s [] args).enc = T ++ encTs args := by rw [← hT1]; simp [Tm.enc, encLs]
    have hTl : (Plain.enc 1).length + (Plain.enc n).length = T.length := by rw [← hT1, List.length_append]
    have hT2 : T.length ≤ 70 := by omega
    have b1 : T.length ≤ 140737488355328 := by omega
    have b2 : T.length ≤ 4611686018427387904 := by omega
    clear hm0 hr0 hk0 hk1 g3 k1
    repeat' (first | ((with_reducible first | refine wA (by omega) ?_ | refine wB (by omega) ?_ | refine wC (by omega) ?_ | refine wD (by omega) ?_ | refine wE ?_ ?_ | refine wF ?_ ?_ | refine wG ?_ ?_ | refine wH ?_ ?_ | refine wI ?_ ?_ | refine wJ ?_ ?_ | refine wK ?_ ?_ | refine wL ?_ ?_) <;> intro _) | simp (maxSteps := 1000000) (disch := omega) only [go_sem, seval, *])
    refine c_loopW 2361111183840784678952 (by kernel_rfl) (fun j f H2 m => ∃ i : Nat, j = args.length - i ∧ i ≤ args.length ∧ f 5 = .sc (.int .i64 i) ∧ nx ≤ m ∧ (∃ id w, nx ≤ id ∧ id < m ∧ f 3 = .osl id 0 (T ++ encTs (args.take i)).length 1 ∧ H2 id = some ⟨bC (T ++ encTs (args.take i)), w⟩) ∧ Kept (∀ j, j < nx → H2 j = H j)) _ ⟨0, rfl, Nat.zero_le _, cE1, ?mm, ⟨(m1 + 8), false, ?ma, ?ml, ?rc, ?rr⟩, ?hh⟩ ?_
    case mm => exact Nat.le_trans hm1 (Nat.le_trans hm2 (Nat.le_add_right _ _))
    case ma => exact Nat.le_trans hm1 (Nat.le_add_right _ _)
    case ml => show m1 + 8 < m2 + 1; omega
    case rc =>
      first
        | (simp only [upd_get, Nat.reduceEqDiff, ↓reduceIte, List.take_zero, encTs, List.append_nil]; done)
        | (simp only [upd_get, Nat.reduceEqDiff, ↓reduceIte, List.take_zero, encTs, List.append_nil]; rw [hTl]; done)
        | (simp (disch := omega) only [upd_get, ovr_get, Nat.reduceShiftRight, Nat.reduceMod, Nat.reduceEqDiff, ↓reduceIte, List.take_zero, encTs, List.append_nil, ite_neN, ite_eqN, e3]; done)
    case rr => simp only [List.take_zero, encTs, List.append_nil]; rw [← hT1]; simp [upd, bC_append]
    case hh => refine Kept.mk ?_; intro j hj; show upd (upd H2 id none) (m1 + 8) _ j = H j; rw [upd_ne _ _ (show j ≠ m1 + 8 by omega), upd_ne _ _ (show j ≠ id by omega)]; exact hk2 j hj
    try clear hk1
    try clear hk2
    clear hm1 hid g2
    rintro _ f H5 m ⟨i, rfl, hi, e5, hm, ⟨id, w, g1, g2, e3, g3⟩, hH⟩
    by_cases hlt : i < args.length
    · have eg : args[i]? = some args[i] := List.getElem?_eq_getElem hlt
      have hnm := nodesT_take_le args (i + 1)
      have hnm2 := nodesT_take_succ args i hlt
      have a1 := encTs_len hnp (args.take (i + 1)) (packPs_take args (i + 1) hfa)
      have hs := encTs_snoc args i hlt
      rw [hs] at a1
      rw [List.length_append] at a1
      obtain ⟨L, hL⟩ : ∃ L, T ++ encTs (args.take i) = L := ⟨_, rfl⟩
      have hLl : Kept (L.length = T.length + (encTs (args.take i)).length) := by refine Kept.mk ?_; rw [← hL, List.length_append]
      have hs2 : T ++ encTs (args.take (i + 1)) = L ++ args[i].enc := by rw [hs, ← hL, List.append_assoc]
      rw [hL] at e3 g3
      repeat' (first | ((with_reducible first | refine wA (by omega) ?_ | refine wB (by omega) ?_ | refine wC (by omega) ?_ | refine wD (by omega) ?_ | refine wE ?_ ?_ | refine wF ?_ ?_ | refine wG ?_ ?_ | refine wH ?_ ?_ | refine wI ?_ ?_ | refine wJ ?_ ?_ | refine wK ?_ ?_ | refine wL ?_ ?_) <;> intro _) | simp (maxSteps := 1000000) (disch := omega) only [go_sem, seval, *])
      refine call_mut (ih args[i] (by omega) (packPs_mem args i hlt hfa) (shPs_mem args i hlt hsha) (by omega) _ _) ?_
      rintro H' m' r' ⟨hn0, ⟨id2, w2, k1, k2, rfl, k3⟩, hk2⟩ -
      have hn : m ≤ m' := Nat.le_trans (Nat.le_add_right _ _) hn0
      have hn3 : m + 14 ≤ m' := hn0
      have hne : id ≠ id2 := by have : m ≤ id2 := Nat.le_trans (Nat.le_add_right _ _) k1; omega
      have g4 : H' id = some ⟨bC L, w⟩ := (hk2 id (Nat.lt_of_lt_of_le g2 (Nat.le_add_right _ _))).trans g3
      have hH4 : Kept (∀ j, j < nx → H' j = H j) := fun j hj => (hk2 j (Nat.lt_of_lt_of_le hj (Nat.le_trans hm (Nat.le_add_right _ _)))).trans (hH j hj)
      have hLl2 : L.length = T.length + (encTs (args.take i)).length := hLl
      have b1 : L.length + args[i].enc.length ≤ 140737488355328 := by omega
      have b2 : L.length + args[i].enc.length ≤ 4611686018427387904 := by omega
      clear hn0 hk2 hH g3 a1 hLl hLl2 hL hs
      have k1' : nx ≤ id2 := Nat.le_trans hm (Nat.le_trans (Nat.le_add_right _ _) k1)
      clear k1
      repeat' (first | ((with_reducible first | refine wA (by omega) ?_ | refine wB (by omega) ?_ | refine wC (by omega) ?_ | refine wD (by omega) ?_ | refine wE ?_ ?_ | refine wF ?_ ?_ | refine wG ?_ ?_ | refine wH ?_ ?_ | refine wI ?_ ?_ | refine wJ ?_ ?_ | refine wK ?_ ?_ | refine wL ?_ ?_) <;> intro _) | simp (maxSteps := 1000000) (disch := omega) only [go_sem, seval, *])
      refine Nx.mk (args.length - (i + 1)) (by omega) ⟨i + 1, rfl, cE1, cE1, ?mm, ⟨m + 12, false, ?ma, ?ml, ?rc, ?rr⟩, ?hh⟩
      case mm => exact Nat.le_trans hm (Nat.le_trans hn (Nat.le_add_right _ _))
      case ma => exact Nat.le_trans hm (Nat.le_add_right _ _)
      case ml => omega
      case rc =>
        simp only [upd_get, Nat.reduceEqDiff, ↓reduceIte]
        have h9 := congrArg List.length hs2
        simp only [List.length_append] at h9
        rw [h9]
      case rr => rw [hs2]; simp [upd, bC_append]
      case hh =>
        refine Kept.mk ?_
        intro j hj
        rw [upd_ne _ _ (show j ≠ m + 12 by omega), upd_ne _ _ (show j ≠ id by omega)]; exact hH4 j hj
    · obtain rfl : i = args.length := by omega
      rw [List.take_length] at e3 g3
      have g5 : H5 id = some ⟨bC (T ++ encTs args), w⟩ := g3
      repeat' (first | ((with_reducible first | refine wA (by omega) ?_ | refine wB (by omega) ?_ | refine wC (by omega) ?_ | refine wD (by omega) ?_ | refine wE ?_ ?_ | refine wF ?_ ?_ | refine wG ?_ ?_ | refine wH ?_ ?_ | refine wI ?_ ?_ | refine wJ ?_ ?_ | refine wK ?_ ?_ | refine wL ?_ ?_) <;> intro _) | simp (maxSteps := 1000000) (disch := omega) only [go_sem, seval, *])
      exact fin_mut (.osl id 0 (T.length + (encTs args).length) 1) (.inr rfl) cE2 ⟨Nat.le_trans hm (Nat.le_add_right _ _), ⟨id, w, g1, Nat.lt_of_lt_of_le g2 (Nat.le_add_right _ _), by first | rfl | simp only [hT, List.length_append], by first | exact g5 | (rw [hT]; exact g5)⟩, hH⟩
  · obtain ⟨l, rfl⟩ : ∃ l, ls = [l] := List.length_eq_one_iff.1 (hsh2 rfl)
    clear hsh0 hsh2 hn1
    have hlf : l.formed np = true := by simpa [formedL] using hfl
    have hln : l.nodes ≤ 2 ^ 30 := by simp only [nodesL] at hb; omega
    have hle := l.enc_len hnp hlf
    repeat' (first | ((with_reducible first | refine wA (by omega) ?_ | refine wB (by omega) ?_ | refine wC (by omega) ?_ | refine wD (by omega) ?_ | refine wE ?_ ?_ | refine wF ?_ ?_ | refine wG ?_ ?_ | refine wH ?_ ?_ | refine wI ?_ ?_ | refine wJ ?_ ?_ | refine wK ?_ ?_ | refine wL ?_ ?_) <;> intro _) | simp (maxSteps := 1000000) (disch := omega) only [go_sem, seval, *])
    refine call_mut (rLevel_m hnp _ l (Nat.le_refl _) hlf hln _ _) ?_
    rintro H2 m2 r2 ⟨hm0, ⟨id2, w2, k1, k2, rfl, k3⟩, hk0⟩ -
    have hm2 : m1 ≤ m2 := Nat.le_trans (Nat.le_add_right _ _) hm0
    have hm3 : m1 + 14 ≤ m2 := hm0
    have hne : id ≠ id2 := by have : m1 ≤ id2 := Nat.le_trans (Nat.le_add_right _ _) k1; omega
    have hid2 : nx ≤ id2 := Nat.le_trans hm1 (Nat.le_trans (Nat.le_add_right _ _) k1)
    have g4 : H2 id = some ⟨bC (Plain.enc 2), w⟩ := (hk0 id (Nat.lt_of_lt_of_le g2 (Nat.le_add_right _ _))).trans g3
    have hk2 : Kept (∀ j, j < nx → H2 j = H j) := fun j hj => (hk0 j (Nat.lt_of_lt_of_le hj (Nat.le_trans hm1 (Nat.le_add_right _ _)))).trans (hk1 j hj)
    obtain ⟨T, hT1⟩ : ∃ T, Plain.enc 2 ++ l.enc = T := ⟨_, rfl⟩
    have hT : (Tm.mk 2 n s [l] args).enc = T ++ encTs args := by rw [← hT1]; simp [Tm.enc, encLs]
    have hTl : (Plain.enc 2).length + l.enc.length = T.length := by rw [← hT1, List.length_append]
    have hT2 : T.length ≤ 2 ^ 40 := by omega
    have b1 : T.length ≤ 140737488355328 := by omega
    have b2 : T.length ≤ 4611686018427387904 := by omega
    clear hm0 hk0 hk1 g3 k1
    repeat' (first | ((with_reducible first | refine wA (by omega) ?_ | refine wB (by omega) ?_ | refine wC (by omega) ?_ | refine wD (by omega) ?_ | refine wE ?_ ?_ | refine wF ?_ ?_ | refine wG ?_ ?_ | refine wH ?_ ?_ | refine wI ?_ ?_ | refine wJ ?_ ?_ | refine wK ?_ ?_ | refine wL ?_ ?_) <;> intro _) | simp (maxSteps := 1000000) (disch := omega) only [go_sem, seval, *])
    refine c_loopW 2361111183840784678952 (by kernel_rfl) (fun j f H2 m => ∃ i : Nat, j = args.length - i ∧ i ≤ args.length ∧ f 5 = .sc (.int .i64 i) ∧ nx ≤ m ∧ (∃ id w, nx ≤ id ∧ id < m ∧ f 3 = .osl id 0 (T ++ encTs (args.take i)).length 1 ∧ H2 id = some ⟨bC (T ++ encTs (args.take i)), w⟩) ∧ Kept (∀ j, j < nx → H2 j = H j)) _ ⟨0, rfl, Nat.zero_le _, cE1, ?mm, ⟨(m1 + 12), false, ?ma, ?ml, ?rc, ?rr⟩, ?hh⟩ ?_
    case mm => exact Nat.le_trans hm1 (Nat.le_trans hm2 (Nat.le_add_right _ _))
    case ma => exact Nat.le_trans hm1 (Nat.le_add_right _ _)
    case ml => show m1 + 12 < m2 + 1; omega
    case rc =>
      first
        | (simp only [upd_get, Nat.reduceEqDiff, ↓reduceIte, List.take_zero, encTs, List.append_nil]; done)
        | (simp only [upd_get, Nat.reduceEqDiff, ↓reduceIte, List.take_zero, encTs, List.append_nil]; rw [hTl]; done)
        | (simp (disch := omega) only [upd_get, ovr_get, Nat.reduceShiftRight, Nat.reduceMod, Nat.reduceEqDiff, ↓reduceIte, List.take_zero, encTs, List.append_nil, ite_neN, ite_eqN, e3]; done)
    case rr => simp only [List.take_zero, encTs, List.append_nil]; rw [← hT1]; simp [upd, bC_append]
    case hh => refine Kept.mk ?_; intro j hj; show upd (upd H2 id none) (m1 + 12) _ j = H j; rw [upd_ne _ _ (show j ≠ m1 + 12 by omega), upd_ne _ _ (show j ≠ id by omega)]; exact hk2 j hj
    try clear hk1
    try clear hk2
    clear hm1 hid g2
    rintro _ f H5 m ⟨i, rfl, hi, e5, hm, ⟨id, w, g1, g2, e3, g3⟩, hH⟩
    by_cases hlt : i < args.length
    · have eg : args[i]? = some args[i] := List.getElem?_eq_getElem hlt
      have hnm := nodesT_take_le args (i + 1)
      have hnm2 := nodesT_take_succ args i hlt
      have a1 := encTs_len hnp (args.take (i + 1)) (packPs_take args (i + 1) hfa)
      have hs := encTs_snoc args i hlt
      rw [hs] at a1
      rw [List.length_append] at a1
      obtain ⟨L, hL⟩ : ∃ L, T ++ encTs (args.take i) = L := ⟨_, rfl⟩
      have hLl : Kept (L.length = T.length + (encTs (args.take i)).length) := by refine Kept.mk ?_; rw [← hL, List.length_append]
      have hs2 : T ++ encTs (args.take (i + 1)) = L ++ args[i].enc := by rw [hs, ← hL, List.append_assoc]
      rw [hL] at e3 g3
      repeat' (first | ((with_reducible first | refine wA (by omega) ?_ | refine wB (by omega) ?_ | refine wC (by omega) ?_ | refine wD (by omega) ?_ | refine wE ?_ ?_ | refine wF ?_ ?_ | refine wG ?_ ?_ | refine wH ?_ ?_ | refine wI ?_ ?_ | refine wJ ?_ ?_ | refine wK ?_ ?_ | refine wL ?_ ?_) <;> intro _) | simp (maxSteps := 1000000) (disch := omega) only [go_sem, seval, *])
      refine call_mut (ih args[i] (by omega) (packPs_mem args i hlt hfa) (shPs_mem args i hlt hsha) (by omega) _ _) ?_
      rintro H' m' r' ⟨hn0, ⟨id2, w2, k1, k2, rfl, k3⟩, hk2⟩ -
      have hn : m ≤ m' := Nat.le_trans (Nat.le_add_right _ _) hn0
      have hn3 : m + 14 ≤ m' := hn0
      have hne : id ≠ id2 := by have : m ≤ id2 := Nat.le_trans (Nat.le_add_right _ _) k1; omega
      have g4 : H' id = some ⟨bC L, w⟩ := (hk2 id (Nat.lt_of_lt_of_le g2 (Nat.le_add_right _ _))).trans g3
      have hH4 : Kept (∀ j, j < nx → H' j = H j) := fun j hj => (hk2 j (Nat.lt_of_lt_of_le hj (Nat.le_trans hm (Nat.le_add_right _ _)))).trans (hH j hj)
      have hLl2 : L.length = T.length + (encTs (args.take i)).length := hLl
      have b1 : L.length + args[i].enc.length ≤ 140737488355328 := by omega
      have b2 : L.length + args[i].enc.length ≤ 4611686018427387904 := by omega
      clear hn0 hk2 hH g3 a1 hLl hLl2 hL hs
      have k1' : nx ≤ id2 := Nat.le_trans hm (Nat.le_trans (Nat.le_add_right _ _) k1)
      clear k1
      repeat' (first | ((with_reducible first | refine wA (by omega) ?_ | refine wB (by omega) ?_ | refine wC (by omega) ?_ | refine wD (by omega) ?_ | refine wE ?_ ?_ | refine wF ?_ ?_ | refine wG ?_ ?_ | refine wH ?_ ?_ | refine wI ?_ ?_ | refine wJ ?_ ?_ | refine wK ?_ ?_ | refine wL ?_ ?_) <;> intro _) | simp (maxSteps := 1000000) (disch := omega) only [go_sem, seval, *])
      refine Nx.mk (args.length - (i + 1)) (by omega) ⟨i + 1, rfl, cE1, cE1, ?mm, ⟨m + 12, false, ?ma, ?ml, ?rc, ?rr⟩, ?hh⟩
      case mm => exact Nat.le_trans hm (Nat.le_trans hn (Nat.le_add_right _ _))
      case ma => exact Nat.le_trans hm (Nat.le_add_right _ _)
      case ml => omega
      case rc =>
        simp only [upd_get, Nat.reduceEqDiff, ↓reduceIte]
        have h9 := congrArg List.length hs2
        simp only [List.length_append] at h9
        rw [h9]
      case rr => rw [hs2]; simp [upd, bC_append]
      case hh =>
        refine Kept.mk ?_
        intro j hj
        rw [upd_ne _ _ (show j ≠ m + 12 by omega), upd_ne _ _ (show j ≠ id by omega)]; exact hH4 j hj
    · obtain rfl : i = args.length := by omega
      rw [List.take_length] at e3 g3
      have g5 : H5 id = some ⟨bC (T ++ encTs args), w⟩ := g3
      repeat' (first | ((with_reducible first | refine wA (by omega) ?_ | refine wB (by omega) ?_ | refine wC (by omega) ?_ | refine wD (by omega) ?_ | refine wE ?_ ?_ | refine wF ?_ ?_ | refine wG ?_ ?_ | refine wH ?_ ?_ | refine wI ?_ ?_ | refine wJ ?_ ?_ | refine wK ?_ ?_ | refine wL ?_ ?_) <;> intro _) | simp (maxSteps := 1000000) (disch := omega) only [go_sem, seval, *])
      exact fin_mut (.osl id 0 (T.length + (encTs args).length) 1) (.inr rfl) cE2 ⟨Nat.le_trans hm (Nat.le_add_right _ _), ⟨id, w, g1, Nat.lt_of_lt_of_le g2 (Nat.le_add_right _ _), by first | rfl | simp only [hT, List.length_append], by first | exact g5 | (rw [hT]; exact g5)⟩, hH⟩
  · have hs2 := hs1 rfl
    clear hsh0 hsh2 hn1
    have hel := enc_len6 ls.length (by omega)
    have het : (encT [s]).length ≤ 46 := by
      have := enc_len6 s.size (by omega)
      rw [encT_one]; simp only [List.length_append, strC_len]; omega
    repeat' (first | ((with_reducible first | refine wA (by omega) ?_ | refine wB (by omega) ?_ | refine wC (by omega) ?_ | refine wD (by omega) ?_ | refine wE ?_ ?_ | refine wF ?_ ?_ | refine wG ?_ ?_ | refine wH ?_ ?_ | refine wI ?_ ?_ | refine wJ ?_ ?_ | refine wK ?_ ?_ | refine wL ?_ ?_) <;> intro _) | simp (maxSteps := 1000000) (disch := omega) only [go_sem, seval, *])
    refine call_mut (rTexts_m [s] (by simp) (by omega) _ _) ?_
    rintro H2 m2 r2 ⟨hm0, ⟨id2, w2, k1, k2, rfl, k3⟩, hk0⟩ -
    have hm2 : m1 ≤ m2 := Nat.le_trans (Nat.le_add_right _ _) hm0
    have hm3 : m1 + 15 ≤ m2 := hm0
    have hne : id ≠ id2 := by have : m1 ≤ id2 := Nat.le_trans (Nat.le_add_right _ _) k1; omega
    have hid2 : nx ≤ id2 := Nat.le_trans hm1 (Nat.le_trans (Nat.le_add_right _ _) k1)
    have g4 : H2 id = some ⟨bC (Plain.enc 3), w⟩ := (hk0 id (Nat.lt_of_lt_of_le g2 (Nat.le_add_right _ _))).trans g3
    have hk2 : Kept (∀ j, j < nx → H2 j = H j) := fun j hj => (hk0 j (Nat.lt_of_lt_of_le hj (Nat.le_trans hm1 (Nat.le_add_right _ _)))).trans (hk1 j hj)
    have b1 : (Plain.enc 3).length + (encT [s]).length ≤ 140737488355328 := by omega
    have b2 : (Plain.enc 3).length + (encT [s]).length ≤ 4611686018427387904 := by omega
    clear hm0 hk0 hk1 g3 k1
    repeat' (first | ((with_reducible first | refine wA (by omega) ?_ | refine wB (by omega) ?_ | refine wC (by omega) ?_ | refine wD (by omega) ?_ | refine wE ?_ ?_ | refine wF ?_ ?_ | refine wG ?_ ?_ | refine wH ?_ ?_ | refine wI ?_ ?_ | refine wJ ?_ ?_ | refine wK ?_ ?_ | refine wL ?_ ?_) <;> intro _) | simp (maxSteps := 1000000) (disch := omega) only [go_sem, seval, *])
    refine call_mut (rOne_m ls.length (by omega) _ _) ?_
    rintro H4 m4 r4 ⟨hm0, hr0, hk0⟩ -
    obtain ⟨id4, w4, k41, k42, rfl, k43⟩ := BRow.osl hr0 (Plain.enc_length_pos _)
    have hm4 : m2 + 7 ≤ m4 := hm0
    have k44 : m2 + 7 ≤ id4 := k41
    have hne4 : m1 + 13 ≠ id4 := by omega
    have g44 : H4 (m1 + 13) = some ⟨bC (Plain.enc 3) ++ bC (encT [s]), false⟩ := (hk0 (m1 + 13) (show m1 + 13 < m2 + 7 by omega)).trans (by simp [upd])
    have hk4 : Kept (∀ j, j < nx → H4 j = H j) := fun j hj => by
      rw [hk0 j (show j < m2 + 7 by omega)]
      show upd (upd H2 id none) (m1 + 13) _ j = H j
      rw [upd_ne _ _ (show j ≠ m1 + 13 by omega), upd_ne _ _ (show j ≠ id by omega)]; exact hk2 j hj
    have b3 : (Plain.enc 3).length + ((encT [s]).length + (Plain.enc ls.length).length) ≤ 140737488355328 := by omega
    have b4 : (Plain.enc 3).length + ((encT [s]).length + (Plain.enc ls.length).length) ≤ 4611686018427387904 := by omega
    obtain ⟨T0, hT0⟩ : ∃ T0, Plain.enc 3 ++ (encT [s] ++ Plain.enc ls.length) = T0 := ⟨_, rfl⟩
    have hT0l : Kept ((Plain.enc 3).length + ((encT [s]).length + (Plain.enc ls.length).length) = T0.length) := by refine Kept.mk ?_; rw [← hT0, List.length_append, List.length_append]
    have hT02 : T0.length ≤ 70 := by have : (Plain.enc 3).length + ((encT [s]).length + (Plain.enc ls.length).length) = T0.length := hT0l; omega
    clear hm0 hr0 hk0 hk2 g4 k3 k41 hid g2
    repeat' (first | ((with_reducible first | refine wA (by omega) ?_ | refine wB (by omega) ?_ | refine wC (by omega) ?_ | refine wD (by omega) ?_ | refine wE ?_ ?_ | refine wF ?_ ?_ | refine wG ?_ ?_ | refine wH ?_ ?_ | refine wI ?_ ?_ | refine wJ ?_ ?_ | refine wK ?_ ?_ | refine wL ?_ ?_) <;> intro _) | simp (maxSteps := 1000000) (disch := omega) only [go_sem, seval, *])
    refine c_loopW 72055395014672408 (by kernel_rfl) (fun j f H2 m => ∃ i : Nat, j = ls.length - i ∧ i ≤ ls.length ∧ f 4 = .sc (.int .i64 i) ∧ nx ≤ m ∧ (∃ id w, nx ≤ id ∧ id < m ∧ f 3 = .osl id 0 (T0 ++ encLs (ls.take i)).length 1 ∧ H2 id = some ⟨bC (T0 ++ encLs (ls.take i)), w⟩) ∧ Kept (∀ j, j < nx → H2 j = H j)) _ ⟨0, rfl, Nat.zero_le _, cE1, ?mm, ⟨m2 + 5, false, ?ma, ?ml, ?rc, ?rr⟩, ?hh⟩ ?_
    case mm => show nx ≤ m4 + 1; omega
    case ma => omega
    case ml => show m2 + 5 < m4 + 1; omega
    case rc => simp only [upd_get, Nat.reduceEqDiff, ↓reduceIte, List.take_zero, encLs, List.append_nil]; rw [show (Plain.enc 3).length + ((encT [s]).length + (Plain.enc ls.length).length) = T0.length from hT0l]
    case rr => simp only [List.take_zero, encLs, List.append_nil]; rw [← hT0]; simp [upd, bC_append]
    case hh =>
      refine Kept.mk ?_; intro j hj
      show upd (upd H4 (m1 + 13) none) (m2 + 5) _ j = H j
      rw [upd_ne _ _ (show j ≠ m2 + 5 by omega), upd_ne _ _ (show j ≠ m1 + 13 by omega)]; exact hk4 j hj
    have hT : (Tm.mk 3 n s ls args).enc = (T0 ++ encLs ls) ++ encTs args := by rw [← hT0]; simp [Tm.enc]
    clear hm1 hm2 hm3 hm4 hk4 hid2 k44 hne4 g44 k43 k42 hne k2 b1 b2 b3 b4 hT0l hT0
    rintro _ f H5 m ⟨i, rfl, hi, e4, hm, ⟨id, w, g1, g2, e3, g3⟩, hH⟩
    have hle := encLs_len hnp ls hfl
    by_cases hlt : i < ls.length
    · have eg : ls[i]? = some ls[i] := List.getElem?_eq_getElem hlt
      have hnm := nodesL_mem ls i hlt
      have a1 := encLs_len hnp (ls.take (i + 1)) (formedL_all np ls (i + 1) hfl)
      have a3 := nodesL_take_le ls (i + 1)
      have hs := encLs_snoc ls i hlt
      rw [hs] at a1
      rw [List.length_append] at a1
      obtain ⟨L, hL⟩ : ∃ L, T0 ++ encLs (ls.take i) = L := ⟨_, rfl⟩
      have hLl : Kept (L.length = T0.length + (encLs (ls.take i)).length) := by refine Kept.mk ?_; rw [← hL, List.length_append]
      have hs2 : T0 ++ encLs (ls.take (i + 1)) = L ++ ls[i].enc := by rw [hs, ← hL, List.append_assoc]
      rw [hL] at e3 g3
      repeat' (first | ((with_reducible first | refine wA (by omega) ?_ | refine wB (by omega) ?_ | refine wC (by omega) ?_ | refine wD (by omega) ?_ | refine wE ?_ ?_ | refine wF ?_ ?_ | refine wG ?_ ?_ | refine wH ?_ ?_ | refine wI ?_ ?_ | refine wJ ?_ ?_ | refine wK ?_ ?_ | refine wL ?_ ?_) <;> intro _) | simp (maxSteps := 1000000) (disch := omega) only [go_sem, seval, *])
      refine call_mut (rLevel_m hnp _ ls[i] (Nat.le_refl _) (formedL_mem ls i hlt hfl) (by omega) _ _) ?_
      rintro H' m' r' ⟨hn0, ⟨id2, w2, k1, k2, rfl, k3⟩, hk2⟩ -
      have hn : m ≤ m' := Nat.le_trans (Nat.le_add_right _ _) hn0
      have hn3 : m + 14 ≤ m' := hn0
      have hne : id ≠ id2 := by have : m ≤ id2 := Nat.le_trans (Nat.le_add_right _ _) k1; omega
      have g4 : H' id = some ⟨bC L, w⟩ := (hk2 id (Nat.lt_of_lt_of_le g2 (Nat.le_add_right _ _))).trans g3
      have hH4 : Kept (∀ j, j < nx → H' j = H j) := fun j hj => (hk2 j (Nat.lt_of_lt_of_le hj (Nat.le_trans hm (Nat.le_add_right _ _)))).trans (hH j hj)
      have hLl2 : L.length = T0.length + (encLs (ls.take i)).length := hLl
      have b1 : L.length + ls[i].enc.length ≤ 140737488355328 := by omega
      have b2 : L.length + ls[i].enc.length ≤ 4611686018427387904 := by omega
      clear hn0 hk2 hH g3 a1 a3 hLl hLl2 hL hs
      have k1' : nx ≤ id2 := Nat.le_trans hm (Nat.le_trans (Nat.le_add_right _ _) k1)
      clear k1
      repeat' (first | ((with_reducible first | refine wA (by omega) ?_ | refine wB (by omega) ?_ | refine wC (by omega) ?_ | refine wD (by omega) ?_ | refine wE ?_ ?_ | refine wF ?_ ?_ | refine wG ?_ ?_ | refine wH ?_ ?_ | refine wI ?_ ?_ | refine wJ ?_ ?_ | refine wK ?_ ?_ | refine wL ?_ ?_) <;> intro _) | simp (maxSteps := 1000000) (disch := omega) only [go_sem, seval, *])
      refine Nx.mk (ls.length - (i + 1)) (by omega) ⟨i + 1, rfl, cE1, cE1, ?mm, ⟨m + 12, false, ?ma, ?ml, ?rc, ?rr⟩, ?hh⟩
      case mm => exact Nat.le_trans hm (Nat.le_trans hn (Nat.le_add_right _ _))
      case ma => exact Nat.le_trans hm (Nat.le_add_right _ _)
      case ml => omega
      case rc =>
        simp only [upd_get, Nat.reduceEqDiff, ↓reduceIte]
        have h9 := congrArg List.length hs2
        simp only [List.length_append] at h9
        rw [h9]
      case rr => rw [hs2]; simp [upd, bC_append]
      case hh =>
        refine Kept.mk ?_
        intro j hj
        rw [upd_ne _ _ (show j ≠ m + 12 by omega), upd_ne _ _ (show j ≠ id by omega)]; exact hH4 j hj
    obtain rfl : i = ls.length := by omega
    rw [List.take_length] at e3 g3
    obtain ⟨T, hT1⟩ : ∃ T, T0 ++ encLs ls = T := ⟨_, rfl⟩
    have hTq : T.length = T0.length + (encLs ls).length := by rw [← hT1, List.length_append]
    have hT2 : T.length ≤ 2 ^ 40 := by omega
    have hTl : T.length = T.length := rfl
    rw [hT1] at e3 g3 hT
    have hk1 := hH
    have hm1 := hm
    have hid := g1
    clear hm g1 hTq hle hT02 hT1 hH hi
    repeat' (first | ((with_reducible first | refine wA (by omega) ?_ | refine wB (by omega) ?_ | refine wC (by omega) ?_ | refine wD (by omega) ?_ | refine wE ?_ ?_ | refine wF ?_ ?_ | refine wG ?_ ?_ | refine wH ?_ ?_ | refine wI ?_ ?_ | refine wJ ?_ ?_ | refine wK ?_ ?_ | refine wL ?_ ?_) <;> intro _) | simp (maxSteps := 1000000) (disch := omega) only [go_sem, seval, *])
    refine c_loopW 2361111183840784678952 (by kernel_rfl) (fun j f H2 m => ∃ i : Nat, j = args.length - i ∧ i ≤ args.length ∧ f 5 = .sc (.int .i64 i) ∧ nx ≤ m ∧ (∃ id w, nx ≤ id ∧ id < m ∧ f 3 = .osl id 0 (T ++ encTs (args.take i)).length 1 ∧ H2 id = some ⟨bC (T ++ encTs (args.take i)), w⟩) ∧ Kept (∀ j, j < nx → H2 j = H j)) _ ⟨0, rfl, Nat.zero_le _, cE1, ?mm, ⟨id, w, ?ma, ?ml, ?rc, ?rr⟩, ?hh⟩ ?_
    case mm => exact Nat.le_trans hm1 (Nat.le_add_right _ _)
    case ma => exact hid
    case ml => exact Nat.lt_of_lt_of_le g2 (Nat.le_add_right _ _)
    case rc =>
      first
        | (simp only [upd_get, Nat.reduceEqDiff, ↓reduceIte, List.take_zero, encTs, List.append_nil]; done)
        | (simp only [upd_get, Nat.reduceEqDiff, ↓reduceIte, List.take_zero, encTs, List.append_nil]; rw [hTl]; done)
        | (simp (disch := omega) only [upd_get, ovr_get, Nat.reduceShiftRight, Nat.reduceMod, Nat.reduceEqDiff, ↓reduceIte, List.take_zero, encTs, List.append_nil, ite_neN, ite_eqN, e3]; done)
    case rr => simp only [List.take_zero, encTs, List.append_nil]; exact g3
    case hh => refine Kept.mk ?_; intro j hj; exact hk1 j hj
    try clear hk1
    try clear hk2
    clear hm1 hid g2
    rintro _ f H5 m ⟨i, rfl, hi, e5, hm, ⟨id, w, g1, g2, e3, g3⟩, hH⟩
    by_cases hlt : i < args.length
    · have eg : args[i]? = some args[i] := List.getElem?_eq_getElem hlt
      have hnm := nodesT_take_le args (i + 1)
      have hnm2 := nodesT_take_succ args i hlt
      have a1 := encTs_len hnp (args.take (i + 1)) (packPs_take args (i + 1) hfa)
      have hs := encTs_snoc args i hlt
      rw [hs] at a1
      rw [List.length_append] at a1
      obtain ⟨L, hL⟩ : ∃ L, T ++ encTs (args.take i) = L := ⟨_, rfl⟩
      have hLl : Kept (L.length = T.length + (encTs (args.take i)).length) := by refine Kept.mk ?_; rw [← hL, List.length_append]
      have hs2 : T ++ encTs (args.take (i + 1)) = L ++ args[i].enc := by rw [hs, ← hL, List.append_assoc]
      rw [hL] at e3 g3
      repeat' (first | ((with_reducible first | refine wA (by omega) ?_ | refine wB (by omega) ?_ | refine wC (by omega) ?_ | refine wD (by omega) ?_ | refine wE ?_ ?_ | refine wF ?_ ?_ | refine wG ?_ ?_ | refine wH ?_ ?_ | refine wI ?_ ?_ | refine wJ ?_ ?_ | refine wK ?_ ?_ | refine wL ?_ ?_) <;> intro _) | simp (maxSteps := 1000000) (disch := omega) only [go_sem, seval, *])
      refine call_mut (ih args[i] (by omega) (packPs_mem args i hlt hfa) (shPs_mem args i hlt hsha) (by omega) _ _) ?_
      rintro H' m' r' ⟨hn0, ⟨id2, w2, k1, k2, rfl, k3⟩, hk2⟩ -
      have hn : m ≤ m' := Nat.le_trans (Nat.le_add_right _ _) hn0
      have hn3 : m + 14 ≤ m' := hn0
      have hne : id ≠ id2 := by have : m ≤ id2 := Nat.le_trans (Nat.le_add_right _ _) k1; omega
      have g4 : H' id = some ⟨bC L, w⟩ := (hk2 id (Nat.lt_of_lt_of_le g2 (Nat.le_add_right _ _))).trans g3
      have hH4 : Kept (∀ j, j < nx → H' j = H j) := fun j hj => (hk2 j (Nat.lt_of_lt_of_le hj (Nat.le_trans hm (Nat.le_add_right _ _)))).trans (hH j hj)
      have hLl2 : L.length = T.length + (encTs (args.take i)).length := hLl
      have b1 : L.length + args[i].enc.length ≤ 140737488355328 := by omega
      have b2 : L.length + args[i].enc.length ≤ 4611686018427387904 := by omega
      clear hn0 hk2 hH g3 a1 hLl hLl2 hL hs
      have k1' : nx ≤ id2 := Nat.le_trans hm (Nat.le_trans (Nat.le_add_right _ _) k1)
      clear k1
      repeat' (first | ((with_reducible first | refine wA (by omega) ?_ | refine wB (by omega) ?_ | refine wC (by omega) ?_ | refine wD (by omega) ?_ | refine wE ?_ ?_ | refine wF ?_ ?_ | refine wG ?_ ?_ | refine wH ?_ ?_ | refine wI ?_ ?_ | refine wJ ?_ ?_ | refine wK ?_ ?_ | refine wL ?_ ?_) <;> intro _) | simp (maxSteps := 1000000) (disch := omega) only [go_sem, seval, *])
      refine Nx.mk (args.length - (i + 1)) (by omega) ⟨i + 1, rfl, cE1, cE1, ?mm, ⟨m + 12, false, ?ma, ?ml, ?rc, ?rr⟩, ?hh⟩
      case mm => exact Nat.le_trans hm (Nat.le_trans hn (Nat.le_add_right _ _))
      case ma => exact Nat.le_trans hm (Nat.le_add_right _ _)
      case ml => omega
      case rc =>
        simp only [upd_get, Nat.reduceEqDiff, ↓reduceIte]
        have h9 := congrArg List.length hs2
        simp only [List.length_append] at h9
        rw [h9]
      case rr => rw [hs2]; simp [upd, bC_append]
      case hh =>
        refine Kept.mk ?_
        intro j hj
        rw [upd_ne _ _ (show j ≠ m + 12 by omega), upd_ne _ _ (show j ≠ id by omega)]; exact hH4 j hj
    · obtain rfl : i = args.length := by omega
      rw [List.take_length] at e3 g3
      have g5 : H5 id = some ⟨bC (T ++ encTs args), w⟩ := g3
      repeat' (first | ((with_reducible first | refine wA (by omega) ?_ | refine wB (by omega) ?_ | refine wC (by omega) ?_ | refine wD (by omega) ?_ | refine wE ?_ ?_ | refine wF ?_ ?_ | refine wG ?_ ?_ | refine wH ?_ ?_ | refine wI ?_ ?_ | refine wJ ?_ ?_ | refine wK ?_ ?_ | refine wL ?_ ?_) <;> intro _) | simp (maxSteps := 1000000) (disch := omega) only [go_sem, seval, *])
      exact fin_mut (.osl id 0 (T.length + (encTs args).length) 1) (.inr rfl) cE2 ⟨Nat.le_trans hm (Nat.le_add_right _ _), ⟨id, w, g1, Nat.lt_of_lt_of_le g2 (Nat.le_add_right _ _), by first | rfl | simp only [hT, List.length_append], by first | exact g5 | (rw [hT]; exact g5)⟩, hH⟩
  · obtain rfl := hsh0 (by omega) (by omega)
    clear hsh0 hsh2
    obtain ⟨T, hT1⟩ : ∃ T, Plain.enc k = T := ⟨_, rfl⟩
    have hT : (Tm.mk (k : Int) n s [] args).enc = T ++ encTs args := by
      rw [← hT1]; simp only [Tm.enc, Int.toNat_natCast, encLs]; rw [if_neg (by omega), if_neg (by omega), List.nil_append, List.nil_append]
    rw [hT1] at hek g3
    have hTl : (Plain.enc k).length = T.length := by rw [hT1]
    have hT2 : T.length ≤ 70 := by omega
    repeat' (first | ((with_reducible first | refine wA (by omega) ?_ | refine wB (by omega) ?_ | refine wC (by omega) ?_ | refine wD (by omega) ?_ | refine wE ?_ ?_ | refine wF ?_ ?_ | refine wG ?_ ?_ | refine wH ?_ ?_ | refine wI ?_ ?_ | refine wJ ?_ ?_ | refine wK ?_ ?_ | refine wL ?_ ?_) <;> intro _) | simp (maxSteps := 1000000) (disch := omega) only [go_sem, seval, *])
    refine c_loopW 2361111183840784678952 (by kernel_rfl) (fun j f H2 m => ∃ i : Nat, j = args.length - i ∧ i ≤ args.length ∧ f 5 = .sc (.int .i64 i) ∧ nx ≤ m ∧ (∃ id w, nx ≤ id ∧ id < m ∧ f 3 = .osl id 0 (T ++ encTs (args.take i)).length 1 ∧ H2 id = some ⟨bC (T ++ encTs (args.take i)), w⟩) ∧ Kept (∀ j, j < nx → H2 j = H j)) _ ⟨0, rfl, Nat.zero_le _, cE1, ?mm, ⟨id, w, ?ma, ?ml, ?rc, ?rr⟩, ?hh⟩ ?_
    case mm => exact Nat.le_trans hm1 (Nat.le_add_right _ _)
    case ma => exact hid
    case ml => exact Nat.lt_of_lt_of_le g2 (Nat.le_add_right _ _)
    case rc =>
      first
        | (simp only [upd_get, Nat.reduceEqDiff, ↓reduceIte, List.take_zero, encTs, List.append_nil]; done)
        | (simp only [upd_get, Nat.reduceEqDiff, ↓reduceIte, List.take_zero, encTs, List.append_nil]; rw [hTl]; done)
        | (simp (disch := omega) only [upd_get, ovr_get, Nat.reduceShiftRight, Nat.reduceMod, Nat.reduceEqDiff, ↓reduceIte, List.take_zero, encTs, List.append_nil, ite_neN, ite_eqN, e3]; done)
    case rr => simp only [List.take_zero, encTs, List.append_nil]; exact g3
    case hh => refine Kept.mk ?_; intro j hj; exact hk1 j hj
    try clear hk1
    try clear hk2
    clear hm1 hid g2
    rintro _ f H5 m ⟨i, rfl, hi, e5, hm, ⟨id, w, g1, g2, e3, g3⟩, hH⟩
    by_cases hlt : i < args.length
    · have eg : args[i]? = some args[i] := List.getElem?_eq_getElem hlt
      have hnm := nodesT_take_le args (i + 1)
      have hnm2 := nodesT_take_succ args i hlt
      have a1 := encTs_len hnp (args.take (i + 1)) (packPs_take args (i + 1) hfa)
      have hs := encTs_snoc args i hlt
      rw [hs] at a1
      rw [List.length_append] at a1
      obtain ⟨L, hL⟩ : ∃ L, T ++ encTs (args.take i) = L := ⟨_, rfl⟩
      have hLl : Kept (L.length = T.length + (encTs (args.take i)).length) := by refine Kept.mk ?_; rw [← hL, List.length_append]
      have hs2 : T ++ encTs (args.take (i + 1)) = L ++ args[i].enc := by rw [hs, ← hL, List.append_assoc]
      rw [hL] at e3 g3
      repeat' (first | ((with_reducible first | refine wA (by omega) ?_ | refine wB (by omega) ?_ | refine wC (by omega) ?_ | refine wD (by omega) ?_ | refine wE ?_ ?_ | refine wF ?_ ?_ | refine wG ?_ ?_ | refine wH ?_ ?_ | refine wI ?_ ?_ | refine wJ ?_ ?_ | refine wK ?_ ?_ | refine wL ?_ ?_) <;> intro _) | simp (maxSteps := 1000000) (disch := omega) only [go_sem, seval, *])
      refine call_mut (ih args[i] (by omega) (packPs_mem args i hlt hfa) (shPs_mem args i hlt hsha) (by omega) _ _) ?_
      rintro H' m' r' ⟨hn0, ⟨id2, w2, k1, k2, rfl, k3⟩, hk2⟩ -
      have hn : m ≤ m' := Nat.le_trans (Nat.le_add_right _ _) hn0
      have hn3 : m + 14 ≤ m' := hn0
      have hne : id ≠ id2 := by have : m ≤ id2 := Nat.le_trans (Nat.le_add_right _ _) k1; omega
      have g4 : H' id = some ⟨bC L, w⟩ := (hk2 id (Nat.lt_of_lt_of_le g2 (Nat.le_add_right _ _))).trans g3
      have hH4 : Kept (∀ j, j < nx → H' j = H j) := fun j hj => (hk2 j (Nat.lt_of_lt_of_le hj (Nat.le_trans hm (Nat.le_add_right _ _)))).trans (hH j hj)
      have hLl2 : L.length = T.length + (encTs (args.take i)).length := hLl
      have b1 : L.length + args[i].enc.length ≤ 140737488355328 := by omega
      have b2 : L.length + args[i].enc.length ≤ 4611686018427387904 := by omega
      clear hn0 hk2 hH g3 a1 hLl hLl2 hL hs
      have k1' : nx ≤ id2 := Nat.le_trans hm (Nat.le_trans (Nat.le_add_right _ _) k1)
      clear k1
      repeat' (first | ((with_reducible first | refine wA (by omega) ?_ | refine wB (by omega) ?_ | refine wC (by omega) ?_ | refine wD (by omega) ?_ | refine wE ?_ ?_ | refine wF ?_ ?_ | refine wG ?_ ?_ | refine wH ?_ ?_ | refine wI ?_ ?_ | refine wJ ?_ ?_ | refine wK ?_ ?_ | refine wL ?_ ?_) <;> intro _) | simp (maxSteps := 1000000) (disch := omega) only [go_sem, seval, *])
      refine Nx.mk (args.length - (i + 1)) (by omega) ⟨i + 1, rfl, cE1, cE1, ?mm, ⟨m + 12, false, ?ma, ?ml, ?rc, ?rr⟩, ?hh⟩
      case mm => exact Nat.le_trans hm (Nat.le_trans hn (Nat.le_add_right _ _))
      case ma => exact Nat.le_trans hm (Nat.le_add_right _ _)
      case ml => omega
      case rc =>
        simp only [upd_get, Nat.reduceEqDiff, ↓reduceIte]
        have h9 := congrArg List.length hs2
        simp only [List.length_append] at h9
        rw [h9]
      case rr => rw [hs2]; simp [upd, bC_append]
      case hh =>
        refine Kept.mk ?_
        intro j hj
        rw [upd_ne _ _ (show j ≠ m + 12 by omega), upd_ne _ _ (show j ≠ id by omega)]; exact hH4 j hj
    · obtain rfl : i = args.length := by omega
      rw [List.take_length] at e3 g3
      have g5 : H5 id = some ⟨bC (T ++ encTs args), w⟩ := g3
      repeat' (first | ((with_reducible first | refine wA (by omega) ?_ | refine wB (by omega) ?_ | refine wC (by omega) ?_ | refine wD (by omega) ?_ | refine wE ?_ ?_ | refine wF ?_ ?_ | refine wG ?_ ?_ | refine wH ?_ ?_ | refine wI ?_ ?_ | refine wJ ?_ ?_ | refine wK ?_ ?_ | refine wL ?_ ?_) <;> intro _) | simp (maxSteps := 1000000) (disch := omega) only [go_sem, seval, *])
      exact fin_mut (.osl id 0 (T.length + (encTs args).length) 1) (.inr rfl) cE2 ⟨Nat.le_trans hm (Nat.le_add_right _ _), ⟨id, w, g1, Nat.lt_of_lt_of_le g2 (Nat.le_add_right _ _), by first | rfl | simp only [hT, List.length_append], by first | exact g5 | (rw [hT]; exact g5)⟩, hH⟩
end
section
set_option maxRecDepth 20000
attribute [local go_sem] Nat.add_assoc id_ne id_ne' id_ne2 List.append_assoc bC_len bC_one pv_take tm_take pv_len tm_len
set_option maxHeartbeats 8000000 in
theorem variables_p : ∀ (fuel : Nat) (t : Tm), t.size ≤ fuel → PPure Try.prog F.ref08_variables [.agg t.pv] (.sc (.bool t.nearB)) := by
  intro fuel
  induction fuel with
  | zero => intro t h; have := size_pos t; omega
  | succ fuel ih =>
  intro t hn
  cases t with
  | mk k n s ls args =>
  simp only [Tm.size] at hn
  refine pure_by is_ref08_variables (by simp) rfl fun hb nx => ?_
  have hba : args.length ≤ 9223372036854775807 := by simp [Tm.pv, bndL, PV.bnd] at hb; omega
  clear hb
  by_cases h1 : k = 1 ∧ 1099511627776 ≤ n
  · obtain ⟨h1, h2⟩ := h1
    repeat' (first | ((with_reducible first | refine wA (by omega) ?_ | refine wB (by omega) ?_ | refine wC (by omega) ?_ | refine wD (by omega) ?_ | refine wE ?_ ?_ | refine wF ?_ ?_ | refine wG ?_ ?_ | refine wH ?_ ?_ | refine wI ?_ ?_ | refine wJ ?_ ?_ | refine wK ?_ ?_ | refine wL ?_ ?_) <;> intro _) | simp (maxSteps := 1000000) (disch := omega) only [go_sem, seval, mc_ref08_variables, Tm.pv, *])
    refine fin_tmp (.inr rfl) ?_
    simp [upd, Tm.nearB, h1, h2]
  · have hnb : (Tm.mk k n s ls args).nearB = nearA args := by
      have : (decide (k = 1) && decide (1099511627776 ≤ n)) = false := by
        rw [Bool.eq_false_iff]; intro e; simp only [Bool.and_eq_true, decide_eq_true_eq] at e; exact h1 e
      simp [Tm.nearB, this]
    rw [hnb]
    clear hnb
    obtain h1 | ⟨h1, h2⟩ : k ≠ 1 ∨ (k = 1 ∧ ¬ 1099511627776 ≤ n) := by omega
    · repeat' (first | ((with_reducible first | refine wA (by omega) ?_ | refine wB (by omega) ?_ | refine wC (by omega) ?_ | refine wD (by omega) ?_ | refine wE ?_ ?_ | refine wF ?_ ?_ | refine wG ?_ ?_ | refine wH ?_ ?_ | refine wI ?_ ?_ | refine wJ ?_ ?_ | refine wK ?_ ?_ | refine wL ?_ ?_) <;> intro _) | simp (maxSteps := 1000000) (disch := omega) only [go_sem, seval, mc_ref08_variables, Tm.pv, *])
      refine c_loopW 67104780 (by kernel_rfl) (fun j f H m => ∃ i : Nat, j = args.length - i ∧ i ≤ args.length ∧ f 3 = .sc (.int .i64 i) ∧ Kept (nearA (args.take i) = true)) _ ⟨0, rfl, Nat.zero_le _, cE1, Kept.mk rfl⟩ ?_
      rintro _ f H m ⟨i, rfl, hi, e3, hs⟩
      by_cases hlt : i < args.length
      · have eg : args[i]? = some args[i] := List.getElem?_eq_getElem hlt
        have hz := sizeL_mem args i hlt
        have c1 := ih args[i] (by omega)
        have ht := nearA_take args i hlt
        cases hc : args[i].nearB with
        | false =>
          have e := nearA_false args i hlt hc
          rw [hc] at c1
          rw [e]
          clear ht hs e hc
          repeat' (first | ((with_reducible first | refine wA (by omega) ?_ | refine wB (by omega) ?_ | refine wC (by omega) ?_ | refine wD (by omega) ?_ | refine wE ?_ ?_ | refine wF ?_ ?_ | refine wG ?_ ?_ | refine wH ?_ ?_ | refine wI ?_ ?_ | refine wJ ?_ ?_ | refine wK ?_ ?_ | refine wL ?_ ?_) <;> intro _) | (((with_reducible refine call_id ?_); (first | (refine call_pure (c1) ?_)))) | simp (maxSteps := 1000000) (disch := omega) only [go_sem, seval, *])
          all_goals (exact fin_tmp (.inr rfl) cE3)
        | true =>
          have hs2 : Kept (nearA (args.take (i + 1)) = true) := Kept.mk (by rw [ht, hc, show nearA (args.take i) = true from hs]; rfl)
          rw [hc] at c1
          clear ht hs hc
          repeat' (first | ((with_reducible first | refine wA (by omega) ?_ | refine wB (by omega) ?_ | refine wC (by omega) ?_ | refine wD (by omega) ?_ | refine wE ?_ ?_ | refine wF ?_ ?_ | refine wG ?_ ?_ | refine wH ?_ ?_ | refine wI ?_ ?_ | refine wJ ?_ ?_ | refine wK ?_ ?_ | refine wL ?_ ?_) <;> intro _) | (((with_reducible refine call_id ?_); (first | (refine call_pure (c1) ?_)))) | simp (maxSteps := 1000000) (disch := omega) only [go_sem, seval, *])
          exact Nx.mk (args.length - (i + 1)) (by omega) ⟨i + 1, rfl, cE1, cE1, hs2⟩
      · obtain rfl : i = args.length := by omega
        rw [List.take_length] at hs
        rw [show nearA args = true from hs]
        repeat' (first | ((with_reducible first | refine wA (by omega) ?_ | refine wB (by omega) ?_ | refine wC (by omega) ?_ | refine wD (by omega) ?_ | refine wE ?_ ?_ | refine wF ?_ ?_ | refine wG ?_ ?_ | refine wH ?_ ?_ | refine wI ?_ ?_ | refine wJ ?_ ?_ | refine wK ?_ ?_ | refine wL ?_ ?_) <;> intro _) | simp (maxSteps := 1000000) (disch := omega) only [go_sem, seval, *])
        all_goals (exact fin_tmp (.inr rfl) cE3)
    · repeat' (first | ((with_reducible first | refine wA (by omega) ?_ | refine wB (by omega) ?_ | refine wC (by omega) ?_ | refine wD (by omega) ?_ | refine wE ?_ ?_ | refine wF ?_ ?_ | refine wG ?_ ?_ | refine wH ?_ ?_ | refine wI ?_ ?_ | refine wJ ?_ ?_ | refine wK ?_ ?_ | refine wL ?_ ?_) <;> intro _) | simp (maxSteps := 1000000) (disch := omega) only [go_sem, seval, mc_ref08_variables, Tm.pv, *])
      refine c_loopW 67104780 (by kernel_rfl) (fun j f H m => ∃ i : Nat, j = args.length - i ∧ i ≤ args.length ∧ f 3 = .sc (.int .i64 i) ∧ Kept (nearA (args.take i) = true)) _ ⟨0, rfl, Nat.zero_le _, cE1, Kept.mk rfl⟩ ?_
      rintro _ f H m ⟨i, rfl, hi, e3, hs⟩
      by_cases hlt : i < args.length
      · have eg : args[i]? = some args[i] := List.getElem?_eq_getElem hlt
        have hz := sizeL_mem args i hlt
        have c1 := ih args[i] (by omega)
        have ht := nearA_take args i hlt
        cases hc : args[i].nearB with
        | false =>
          have e := nearA_false args i hlt hc
          rw [hc] at c1
          rw [e]
          clear ht hs e hc
          repeat' (first | ((with_reducible first | refine wA (by omega) ?_ | refine wB (by omega) ?_ | refine wC (by omega) ?_ | refine wD (by omega) ?_ | refine wE ?_ ?_ | refine wF ?_ ?_ | refine wG ?_ ?_ | refine wH ?_ ?_ | refine wI ?_ ?_ | refine wJ ?_ ?_ | refine wK ?_ ?_ | refine wL ?_ ?_) <;> intro _) | (((with_reducible refine call_id ?_); (first | (refine call_pure (c1) ?_)))) | simp (maxSteps := 1000000) (disch := omega) only [go_sem, seval, *])
          all_goals (exact fin_tmp (.inr rfl) cE3)
        | true =>
          have hs2 : Kept (nearA (args.take (i + 1)) = true) := Kept.mk (by rw [ht, hc, show nearA (args.take i) = true from hs]; rfl)
          rw [hc] at c1
          clear ht hs hc
          repeat' (first | ((with_reducible first | refine wA (by omega) ?_ | refine wB (by omega) ?_ | refine wC (by omega) ?_ | refine wD (by omega) ?_ | refine wE ?_ ?_ | refine wF ?_ ?_ | refine wG ?_ ?_ | refine wH ?_ ?_ | refine wI ?_ ?_ | refine wJ ?_ ?_ | refine wK ?_ ?_ | refine wL ?_ ?_) <;> intro _) | (((with_reducible refine call_id ?_); (first | (refine call_pure (c1) ?_)))) | simp (maxSteps := 1000000) (disch := omega) only [go_sem, seval, *])
          exact Nx.mk (args.length - (i + 1)) (by omega) ⟨i + 1, rfl, cE1, cE1, hs2⟩
      · obtain rfl : i = args.length := by omega
        rw [List.take_length] at hs
        rw [show nearA args = true from hs]
        repeat' (first | ((with_reducible first | refine wA (by omega) ?_ | refine wB (by omega) ?_ | refine wC (by omega) ?_ | refine wD (by omega) ?_ | refine wE ?_ ?_ | refine wF ?_ ?_ | refine wG ?_ ?_ | refine wH ?_ ?_ | refine wI ?_ ?_ | refine wJ ?_ ?_ | refine wK ?_ ?_ | refine wL ?_ ?_) <;> intro _) | simp (maxSteps := 1000000) (disch := omega) only [go_sem, seval, *])
        all_goals (exact fin_tmp (.inr rfl) cE3)
def Tm.packR (t : Tm) : Bool := t.right 4 1099511627776 && t.nearB
theorem rRight_p (t : Tm) : PPure Try.prog F.ref08_Right [.agg t.pv] (.sc (.bool t.packR)) := by
  refine pure_by is_ref08_Right (by simp) rfl fun hb nx => ?_
  clear hb
  have c1 := ref04_Right_p t 4 1099511627776
  have c2 := variables_p _ t (Nat.le_refl _)
  unfold Tm.packR
  cases hr : t.right 4 1099511627776 with
  | false =>
    rw [hr] at c1
    clear hr
    repeat' (first | ((with_reducible first | refine wA (by omega) ?_ | refine wB (by omega) ?_ | refine wC (by omega) ?_ | refine wD (by omega) ?_ | refine wE ?_ ?_ | refine wF ?_ ?_ | refine wG ?_ ?_ | refine wH ?_ ?_ | refine wI ?_ ?_ | refine wJ ?_ ?_ | refine wK ?_ ?_ | refine wL ?_ ?_) <;> intro _) | (((with_reducible refine call_id ?_); (first | (refine call_pure (c1) ?_) | (refine call_pure (c2) ?_)))) | simp (maxSteps := 1000000) (disch := omega) only [go_sem, seval, mc_ref08_Right, *])
    all_goals (exact fin_tmp (.inr rfl) cE3)
  | true =>
    rw [hr] at c1
    clear hr
    repeat' (first | ((with_reducible first | refine wA (by omega) ?_ | refine wB (by omega) ?_ | refine wC (by omega) ?_ | refine wD (by omega) ?_ | refine wE ?_ ?_ | refine wF ?_ ?_ | refine wG ?_ ?_ | refine wH ?_ ?_ | refine wI ?_ ?_ | refine wJ ?_ ?_ | refine wK ?_ ?_ | refine wL ?_ ?_) <;> intro _) | (((with_reducible refine call_id ?_); (first | (refine call_pure (c1) ?_) | (refine call_pure (c2) ?_)))) | simp (maxSteps := 1000000) (disch := omega) only [go_sem, seval, mc_ref08_Right, *])
    all_goals (exact fin_tmp (.inr rfl) cE3)
set_option maxHeartbeats 4000000 in
theorem rLevelT_p (l : Lv) : PPure Try.prog F.ref08_Level [.agg l.pv] (rowN (l.right 4) l.enc) := by
  refine pure_by is_ref08_Level (by simp) (rowN_imm _ _) fun hb nx => ?_
  clear hb
  have c1 := ref_Right_p l 4
  cases hr : l.right 4 with
  | false =>
    rw [hr] at c1
    clear hr
    repeat' (first | ((with_reducible first | refine wA (by omega) ?_ | refine wB (by omega) ?_ | refine wC (by omega) ?_ | refine wD (by omega) ?_ | refine wE ?_ ?_ | refine wF ?_ ?_ | refine wG ?_ ?_ | refine wH ?_ ?_ | refine wI ?_ ?_ | refine wJ ?_ ?_ | refine wK ?_ ?_ | refine wL ?_ ?_) <;> intro _) | (((with_reducible refine call_id ?_); (first | (refine call_pure (c1) ?_)))) | simp (maxSteps := 1000000) (disch := omega) only [go_sem, seval, mc_ref08_Level, *])
    refine fin_ret (r0 := .tup [.sc (.slice none 0 0), .sc (.bool false)]) 0 cE2 ?_
    exact .of_eq rfl
  | true =>
    rw [hr] at c1
    simp only [Lv.right, Bool.and_eq_true, decide_eq_true_eq] at hr
    obtain ⟨_, _, h3, h4⟩ := hr
    repeat' (first | ((with_reducible first | refine wA (by omega) ?_ | refine wB (by omega) ?_ | refine wC (by omega) ?_ | refine wD (by omega) ?_ | refine wE ?_ ?_ | refine wF ?_ ?_ | refine wG ?_ ?_ | refine wH ?_ ?_ | refine wI ?_ ?_ | refine wJ ?_ ?_ | refine wK ?_ ?_ | refine wL ?_ ?_) <;> intro _) | (((with_reducible refine call_id ?_); (first | (refine call_pure (c1) ?_)))) | simp (maxSteps := 1000000) (disch := omega) only [go_sem, seval, mc_ref08_Level, *])
    refine call_mut (rLevel_m (by decide) _ l (Nat.le_refl _) h4 (by omega) _ _) ?_
    rintro H1 m1 r1 ⟨-, ⟨id, w, g1, g2, rfl, g3⟩, -⟩ -
    clear g1
    repeat' (first | ((with_reducible first | refine wA (by omega) ?_ | refine wB (by omega) ?_ | refine wC (by omega) ?_ | refine wD (by omega) ?_ | refine wE ?_ ?_ | refine wF ?_ ?_ | refine wG ?_ ?_ | refine wH ?_ ?_ | refine wI ?_ ?_ | refine wJ ?_ ?_ | refine wK ?_ ?_ | refine wL ?_ ?_) <;> intro _) | (((with_reducible refine call_id ?_); (first | (refine call_pure (c1) ?_)))) | simp (maxSteps := 1000000) (disch := omega) only [go_sem, seval, *])
    refine fin_ret (r0 := .tup [.osl id 0 l.enc.length 1, .sc (.bool true)]) 2 cE2 ?_
    rw [frz_tup1]
    simp only [List.map_cons, List.map_nil]
    exact Weak.tup ⟨.of_eq (pk_frz g3), .of_eq frz_sc1, trivial⟩
mutual
theorem Tm.shP_of {np : Int} : ∀ (t : Tm) (k : Int), t.formed np k = true → t.shP
  | .mk kind n s ls args, k, h => by
    unfold Tm.formed at h
    split at h
    · rename_i hk
      simp only [hasB, Bool.and_eq_true, decide_eq_true_eq] at h
      obtain ⟨h1, h2, _, _, h3, h4⟩ := h
      obtain rfl := List.eq_nil_of_length_eq_zero (by omega : ls.length = 0)
      obtain rfl := List.eq_nil_of_length_eq_zero (by omega : args.length = 0)
      exact ⟨fun _ => by omega, fun _ _ => rfl, trivial⟩
    · split at h
      · simp only [hasB, Bool.and_eq_true, decide_eq_true_eq] at h
        obtain ⟨⟨_, _, h3, h4⟩, h5⟩ := h
        obtain rfl := List.eq_nil_of_length_eq_zero (by omega : args.length = 0)
        exact ⟨fun _ => by omega, fun h _ => by omega, trivial⟩
      · split at h
        · simp only [constB, Bool.and_eq_true, decide_eq_true_eq] at h
          obtain ⟨_, h4, h5, _⟩ := h
          obtain rfl := List.eq_nil_of_length_eq_zero h4
          exact ⟨fun _ => by omega, fun _ h => by omega, trivial⟩
        · split at h
          · simp only [hasB, Bool.and_eq_true, decide_eq_true_eq] at h
            obtain ⟨⟨_, _, h3, h4⟩, h5⟩ := h
            obtain rfl := List.eq_nil_of_length_eq_zero (by omega : ls.length = 0)
            exact ⟨fun _ => by omega, fun _ _ => rfl, shPs_of args k kind args.length 0 h5⟩
          · split at h
            · simp only [hasB, Bool.and_eq_true, decide_eq_true_eq] at h
              obtain ⟨⟨_, _, h3, h4⟩, h5⟩ := h
              obtain rfl := List.eq_nil_of_length_eq_zero (by omega : ls.length = 0)
              exact ⟨fun _ => by omega, fun _ _ => rfl, shPs_of args k kind args.length 0 h5⟩
            · cases h
theorem shPs_of {np : Int} : ∀ (ts : List Tm) (k kind : Int) (len i : Nat), formedA np k kind len i ts = true → shPs ts
  | [], _, _, _, _, _ => trivial
  | x :: r, k, kind, len, i, h => by
    simp only [formedA, Bool.and_eq_true] at h
    exact ⟨Tm.shP_of x _ h.1, shPs_of r k kind len (i + 1) h.2⟩
end
theorem Tm.packR_P (t : Tm) (h : t.packR = true) : t.packP 4 ∧ t.shP ∧ t.nodes ≤ 2000 := by
  simp only [Tm.packR, Tm.right, Bool.and_eq_true, decide_eq_true_eq] at h
  exact ⟨Tm.packP_of t _ h.1.2.2.2.2 h.2, Tm.shP_of t _ h.1.2.2.2.2, h.1.2.2.2.1⟩
set_option maxHeartbeats 4000000 in
theorem rTermT_p (t : Tm) : PPure Try.prog F.ref08_Term [.agg t.pv] (rowN t.packR t.enc) := by
  refine pure_by is_ref08_Term (by simp) (rowN_imm _ _) fun hb nx => ?_
  clear hb
  have c1 := rRight_p t
  cases hr : t.packR with
  | false =>
    rw [hr] at c1
    clear hr
    repeat' (first | ((with_reducible first | refine wA (by omega) ?_ | refine wB (by omega) ?_ | refine wC (by omega) ?_ | refine wD (by omega) ?_ | refine wE ?_ ?_ | refine wF ?_ ?_ | refine wG ?_ ?_ | refine wH ?_ ?_ | refine wI ?_ ?_ | refine wJ ?_ ?_ | refine wK ?_ ?_ | refine wL ?_ ?_) <;> intro _) | (((with_reducible refine call_id ?_); (first | (refine call_pure (c1) ?_)))) | simp (maxSteps := 1000000) (disch := omega) only [go_sem, seval, mc_ref08_Term, *])
    refine fin_ret (r0 := .tup [.sc (.slice none 0 0), .sc (.bool false)]) 0 cE2 ?_
    exact .of_eq rfl
  | true =>
    rw [hr] at c1
    obtain ⟨h1, h2, h3⟩ := t.packR_P hr
    clear hr
    repeat' (first | ((with_reducible first | refine wA (by omega) ?_ | refine wB (by omega) ?_ | refine wC (by omega) ?_ | refine wD (by omega) ?_ | refine wE ?_ ?_ | refine wF ?_ ?_ | refine wG ?_ ?_ | refine wH ?_ ?_ | refine wI ?_ ?_ | refine wJ ?_ ?_ | refine wK ?_ ?_ | refine wL ?_ ?_) <;> intro _) | (((with_reducible refine call_id ?_); (first | (refine call_pure (c1) ?_)))) | simp (maxSteps := 1000000) (disch := omega) only [go_sem, seval, mc_ref08_Term, *])
    refine call_mut (rTerm_m (by decide) _ t (Nat.le_refl _) h1 h2 (by omega) _ _) ?_
    rintro H1 m1 r1 ⟨-, ⟨id, w, g1, g2, rfl, g3⟩, -⟩ -
    clear g1
    repeat' (first | ((with_reducible first | refine wA (by omega) ?_ | refine wB (by omega) ?_ | refine wC (by omega) ?_ | refine wD (by omega) ?_ | refine wE ?_ ?_ | refine wF ?_ ?_ | refine wG ?_ ?_ | refine wH ?_ ?_ | refine wI ?_ ?_ | refine wJ ?_ ?_ | refine wK ?_ ?_ | refine wL ?_ ?_) <;> intro _) | (((with_reducible refine call_id ?_); (first | (refine call_pure (c1) ?_)))) | simp (maxSteps := 1000000) (disch := omega) only [go_sem, seval, *])
    refine fin_ret (r0 := .tup [.osl id 0 t.enc.length 1, .sc (.bool true)]) 2 cE2 ?_
    rw [frz_tup1]
    simp only [List.map_cons, List.map_nil]
    exact Weak.tup ⟨.of_eq (pk_frz g3), .of_eq frz_sc1, trivial⟩
end
end Go.Proofs.Ytnelciclibknpaa
