/-
  Plain values: PkA, PkB.
-/
import Derived.Test.YtnelciclibknpaaXSa
import Derived.Test.YtnelciclibknpaaXSb
import Derived.Test.YtnelciclibknpaaXSc
import Derived.Test.YtnelciclibknpaaXSd
set_option linter.unusedVariables false
set_option linter.unusedSimpArgs false
namespace Go.Proofs.Ytnelciclibknpaa
open Go.RowKit
attribute [local go_sem ↓] c_seq c_region c_cond c_block c_ret c_skip c_exit c_cont t_normal t_ret t_exit b_normal b_ret b_exit run_nil run_cons g_some o_mv o_pick o_bin o_un o_ld o_ldf o_bld o_len o_mkf o_nilc o_fa o_fd o_ia o_iaa o_ix o_ixs o_ext o_al o_bxf o_bxt o_bsl o_bslf o_mks o_st o_stf o_call o_rng o_nxt o_callm o_callmA o_calvm o_calv cond_true cond_false upd_get sigF_cons o_eqa o_mm o_app o_slc o_apps o_cvt
attribute [local go_sem] num_nil num_cons isP chunks rngV next_is next_iter val_some new_some st_some stf_some guard_tt guard_ff guard_tf guard_ft guard_un calv_fn put_some put_none ev_tmp ev_const ev_func sig_eq sigF_nil q0 q1 nilcV faV fdV iaV iaaV ixV ixsV extV mksV loadP storeP lenPV binPV unPV intBin partsP fillP zeros PV.good PV.cellsOf PV.one q2 q3 q4 q5 q6 q7 q8 q9 q10 q11 q12 q13 q14 q15 q16 q17 q18 q19 q20 q21 q22 q23 q24 q25 q26 q27 q28 q29 q30 q31 q32 q33 q34 q35 q36 q37 q38 wrap64 app_some mmL mmV mm2 eqE eqParts eqInt eqBool eqStr partV q39 q40 pickV q41 q42 q43 q44 q45 q46 q47 q48 q49 appE oldOf rowOf updL q50 q51 q52 q53 zlt ovr_get ite_neN ite_eqN q54 q55 q56 q57 q58 q59 q60 q61 q62 q63 q64 q65 q66 q67 tailP_f tailP_t tailF_f tailF_t slcP bndO capO slcLen intOf Option.isSome_none Option.isNone_none Option.isSome_some Option.isNone_some nilP slc_sl slc_csl slc_osl slc_osl0 slc_ocap slc_str appR appS cvP shiftB false_or List.append_nil List.length_append resP resPs resP1 PV.sc.injEq Value.bool.injEq Value.int.injEq
section
set_option maxRecDepth 20000
attribute [local go_sem] Nat.add_assoc id_ne id_ne' id_ne2 List.append_assoc
def bC (l : List UInt8) : List PV := l.map fun c => .sc (.int .u8 c.toNat)
theorem bC_len (l : List UInt8) : (bC l).length = l.length := by simp [bC]
attribute [local go_sem] bC_len
theorem bC_append (a b : List UInt8) : bC (a ++ b) = bC a ++ bC b := by simp [bC]
theorem bC_one (l : List UInt8) : (bC l).all PV.one = true := by simp [bC, PV.one]
attribute [local go_sem] bC_one
theorem bC_imm : ∀ l : List UInt8, immL (bC l) = true
  | [] => rfl
  | x :: r => by have := bC_imm r; simp [bC, immL, PV.imm] at this ⊢; exact this
def BRow (H : Nat → Option PObj) (lo m : Nat) (a : PV) (l : List UInt8) : Prop := (l = [] ∧ a = .sc (.slice none 0 0)) ∨ ∃ id w, lo ≤ id ∧ id < m ∧ a = .osl id 0 l.length 1 ∧ H id = some ⟨bC l, w⟩
theorem BRow.weak {H : Nat → Option PObj} {lo m lo' m' : Nat} {a : PV} {l : List UInt8} (h : BRow H lo m a l) (h1 : lo' ≤ lo) (h2 : m ≤ m') : BRow H lo' m' a l := by
  obtain h | ⟨id, w, g1, g2, g3, g4⟩ := h
  · exact .inl h
  · exact .inr ⟨id, w, by omega, by omega, g3, g4⟩
def leadB : PV → Nat → Prop
  | .osl i _ _ _, j => j = i
  | _, _ => False
theorem isNumber_p (n : Int) : PPure Try.prog F.wire_isNumber [.sc (.int .i64 n)] (.sc (.bool (decide (0 ≤ n) && decide (n ≤ 1099511627776)))) := by
  refine pure_by is_wire_isNumber (by simp) rfl fun hb nx => ?_
  clear hb
  repeat' (first | ((with_reducible first | refine wA (by omega) ?_ | refine wB (by omega) ?_ | refine wC (by omega) ?_ | refine wD (by omega) ?_ | refine wE ?_ ?_ | refine wF ?_ ?_ | refine wG ?_ ?_ | refine wH ?_ ?_ | refine wI ?_ ?_ | refine wJ ?_ ?_ | refine wK ?_ ?_ | refine wL ?_ ?_) <;> intro _) | simp (maxSteps := 1000000) (disch := omega) only [go_sem, seval, mc_wire_isNumber, *])
  all_goals (refine fin_tmp (.inr rfl) ?_; simp [upd, *] <;> omega)
theorem and127 (m : Nat) (h : m ≤ 2 ^ 62) : IntKind.i64.wrap ((BitVec.ofInt 64 (m : Int) &&& BitVec.ofInt 64 127).toNat : Int) = ((m % 128 : Nat) : Int) := by
  have e1 := Plain.and_i64 m 127 (by omega) (by omega)
  rw [Nat.and_two_pow_sub_one_eq_mod m 7] at e1
  exact e1
theorem or128 (m : Nat) (h : m < 128) : IntKind.i64.wrap ((BitVec.ofInt 64 (m : Int) ||| BitVec.ofInt 64 128).toNat : Int) = ((m + 128 : Nat) : Int) := by
  have e1 := Plain.or_i64 m 128 (by omega) (by omega)
  rw [Plain.or_128 m h] at e1
  exact e1
theorem shr7 (m : Nat) : (m : Int).fdiv 128 = ((m / 128 : Nat) : Int) := by
  rw [Int.fdiv_eq_ediv_of_nonneg _ (by decide)]
  omega
theorem enc_len6 (n : Nat) (h : n ≤ 2 ^ 40) : (Plain.enc n).length ≤ 6 := Plain.enc_length_six (by unfold Plain.mc; omega)
set_option maxHeartbeats 8000000 in
theorem putNum_m (n : Nat) (hn : n ≤ 2 ^ 40) (l : List UInt8) (hl : l.length ≤ 2 ^ 40) (a : PV) (lo : Nat) (H : Nat → Option PObj) (nx : Nat) (ha : BRow H lo nx a l) :
    PMut Try.prog F.wire_putNum [a, .sc (.int .i64 n)] H nx (fun H' nx' r => nx ≤ nx' ∧ BRow H' nx nx' r (l ++ Plain.enc n) ∧ ∀ j, j < nx → ¬ leadB a j → H' j = H j) := by
  refine mut_by is_wire_putNum (by simp) fun hb => ?_
  clear hb
  repeat' (first | ((with_reducible first | refine wA (by omega) ?_ | refine wB (by omega) ?_ | refine wC (by omega) ?_ | refine wD (by omega) ?_ | refine wE ?_ ?_ | refine wF ?_ ?_ | refine wG ?_ ?_ | refine wH ?_ ?_ | refine wI ?_ ?_ | refine wJ ?_ ?_ | refine wK ?_ ?_ | refine wL ?_ ?_) <;> intro _) | simp (maxSteps := 1000000) (disch := omega) only [go_sem, Nat.reduceAdd, Nat.reduceMul, Nat.reduceSub, Nat.reduceLeDiff, Nat.reduceEqDiff, Nat.reduceBEq, ↓reduceIte, reduceCtorEq, Int.reduceEq, Int.reduceLE, Int.reduceLT, Int.reduceAdd, Int.reduceSub, Int.reduceNeg, Int.reduceToNat, Int.reduceNe, Nat.reducePow, Nat.reduceShiftRight, Nat.reduceMod, mc_wire_putNum, *])
  refine c_loopW 65507 (by kernel_rfl) (fun j f H2 m => ∃ (k : Nat) (l2 : List UInt8), j = k ∧ k ≤ n ∧ f 1 = .sc (.int .i64 k) ∧ nx ≤ m ∧ Kept (BRow H2 0 m (f 0) l2) ∧ Kept (l2 ++ Plain.enc k = l ++ Plain.enc n) ∧ Kept (∀ j, j < nx → ¬ leadB a j → ¬ leadB (f 0) j ∧ H2 j = H j)) _ ⟨n, l, rfl, Nat.le_refl _, cE1, Nat.le_add_right _ _, ?rr, Kept.mk rfl, ?hh⟩ ?_
  case rr => refine Kept.mk ?_; simp only [upd_get, sigF_cons, Nat.reduceEqDiff, ↓reduceIte]; exact ha.weak (Nat.zero_le _) (Nat.le_succ _)
  case hh => refine Kept.mk ?_; simp only [upd_get, sigF_cons, Nat.reduceEqDiff, ↓reduceIte]; exact fun j g1 g2 => ⟨g2, trivial⟩
  rintro _ f H2 m ⟨k, l2, rfl, hk, e1, hm, hr, he, hH⟩
  rename_i k
  have hlen : l2.length + (Plain.enc k).length = l.length + (Plain.enc n).length := by
    have := congrArg List.length (show l2 ++ Plain.enc k = l ++ Plain.enc n from he)
    simpa using this
  have hen := enc_len6 n hn
  have hl2 : l2.length ≤ 2 ^ 40 + 6 := by omega
  by_cases hb : 128 ≤ k
  · have h1 : IntKind.i64.wrap ((BitVec.ofInt IntKind.i64.bits (k : Int) &&& BitVec.ofInt IntKind.i64.bits 127).toNat : Int) = ((k % 128 : Nat) : Int) := and127 k (by omega)
    have h2 : IntKind.i64.wrap ((BitVec.ofInt IntKind.i64.bits ((k % 128 : Nat) : Int) ||| BitVec.ofInt IntKind.i64.bits 128).toNat : Int) = ((k % 128 + 128 : Nat) : Int) := or128 (k % 128) (by omega)
    have h3 : IntKind.u8.wrap ((k % 128 + 128 : Nat) : Int) = ((UInt8.ofNat (k % 128 + 128)).toNat : Int) := by rw [IntKind.wrap_u8, UInt8.toNat_ofNat']; omega
    have h4 : (k : Int).fdiv (2 ^ min 7 IntKind.i64.bits) = ((k / 128 : Nat) : Int) := shr7 k
    have h1' := h1
    have h2' := h2
    have h4' := h4
    simp only [IntKind.bits] at h1' h2' h4'
    obtain ⟨rfl, e0⟩ | ⟨id, w, g1, g2, e0, g3⟩ := hr
    · clear hlen hen hl2
      repeat' (first | ((with_reducible first | refine wA (by omega) ?_ | refine wB (by omega) ?_ | refine wC (by omega) ?_ | refine wD (by omega) ?_ | refine wE ?_ ?_ | refine wF ?_ ?_ | refine wG ?_ ?_ | refine wH ?_ ?_ | refine wI ?_ ?_ | refine wJ ?_ ?_ | refine wK ?_ ?_ | refine wL ?_ ?_) <;> intro _) | simp (maxSteps := 1000000) (disch := omega) only [go_sem, Nat.reduceAdd, Nat.reduceMul, Nat.reduceSub, Nat.reduceLeDiff, Nat.reduceEqDiff, Nat.reduceBEq, ↓reduceIte, reduceCtorEq, Int.reduceEq, Int.reduceLE, Int.reduceLT, Int.reduceAdd, Int.reduceSub, Int.reduceNeg, Int.reduceToNat, Int.reduceNe, Nat.reducePow, Nat.reduceShiftRight, Nat.reduceMod, *])
      refine Nx.mk (k / 128) (by omega) ⟨k / 128, [UInt8.ofNat (k % 128 + 128)], rfl, by omega, cE1, by omega, ?_, ?_, ?_⟩
      · refine Kept.mk (.inr ⟨m + 8, false, Nat.zero_le _, by omega, cE1, ?_⟩)
        simp [upd, bC]
      · refine Kept.mk ?_
        rw [← show [] ++ Plain.enc k = l ++ Plain.enc n from he, Plain.enc_big hb]; rfl
      · refine Kept.mk ?_
        intro j g1 g2
        have := hH j g1 g2
        refine ⟨?_, ?_⟩
        · simp only [upd_get, Nat.reduceEqDiff, ↓reduceIte, leadB]; omega
        · rw [upd_ne _ _ (show j ≠ m + 8 by omega)]; exact this.2
    · clear hlen
      have b1 : l2.length + 1 ≤ 140737488355328 := by omega
      have b2 : l2.length + 1 ≤ 4611686018427387904 := by omega
      repeat' (first | ((with_reducible first | refine wA (by omega) ?_ | refine wB (by omega) ?_ | refine wC (by omega) ?_ | refine wD (by omega) ?_ | refine wE ?_ ?_ | refine wF ?_ ?_ | refine wG ?_ ?_ | refine wH ?_ ?_ | refine wI ?_ ?_ | refine wJ ?_ ?_ | refine wK ?_ ?_ | refine wL ?_ ?_) <;> intro _) | simp (maxSteps := 1000000) (disch := omega) only [go_sem, Nat.reduceAdd, Nat.reduceMul, Nat.reduceSub, Nat.reduceLeDiff, Nat.reduceEqDiff, Nat.reduceBEq, ↓reduceIte, reduceCtorEq, Int.reduceEq, Int.reduceLE, Int.reduceLT, Int.reduceAdd, Int.reduceSub, Int.reduceNeg, Int.reduceToNat, Int.reduceNe, Nat.reducePow, Nat.reduceShiftRight, Nat.reduceMod, *])
      refine Nx.mk (k / 128) (by omega) ⟨k / 128, l2 ++ [UInt8.ofNat (k % 128 + 128)], rfl, by omega, cE1, by omega, ?_, ?_, ?_⟩
      · refine Kept.mk (.inr ⟨m + 8, false, Nat.zero_le _, by omega, cE1, ?_⟩)
        simp [upd, bC]
      · refine Kept.mk ?_
        rw [← show l2 ++ Plain.enc k = l ++ Plain.enc n from he, Plain.enc_big hb]; simp
      · refine Kept.mk ?_
        intro j g1 g2
        have := hH j g1 g2
        have hj : j ≠ id := fun e => this.1 (by rw [e0]; exact e)
        refine ⟨?_, ?_⟩
        · simp only [upd_get, Nat.reduceEqDiff, ↓reduceIte, leadB]; omega
        · rw [upd_ne _ _ (show j ≠ m + 8 by omega), upd_ne _ _ hj]; exact this.2
  · have ek : Plain.enc k = [UInt8.ofNat k] := Plain.enc_small (by omega)
    have h3 : IntKind.u8.wrap (k : Int) = ((UInt8.ofNat k).toNat : Int) := by rw [IntKind.wrap_u8, UInt8.toNat_ofNat']; omega
    rw [← show l2 ++ Plain.enc k = l ++ Plain.enc n from he, ek]
    obtain ⟨rfl, e0⟩ | ⟨id, w, g1, g2, e0, g3⟩ := hr
    · clear hlen hen hl2
      repeat' (first | ((with_reducible first | refine wA (by omega) ?_ | refine wB (by omega) ?_ | refine wC (by omega) ?_ | refine wD (by omega) ?_ | refine wE ?_ ?_ | refine wF ?_ ?_ | refine wG ?_ ?_ | refine wH ?_ ?_ | refine wI ?_ ?_ | refine wJ ?_ ?_ | refine wK ?_ ?_ | refine wL ?_ ?_) <;> intro _) | simp (maxSteps := 1000000) (disch := omega) only [go_sem, Nat.reduceAdd, Nat.reduceMul, Nat.reduceSub, Nat.reduceLeDiff, Nat.reduceEqDiff, Nat.reduceBEq, ↓reduceIte, reduceCtorEq, Int.reduceEq, Int.reduceLE, Int.reduceLT, Int.reduceAdd, Int.reduceSub, Int.reduceNeg, Int.reduceToNat, Int.reduceNe, Nat.reducePow, Nat.reduceShiftRight, Nat.reduceMod, *])
      refine fin_mut (.osl (m + 6) 0 1 1) (.inr rfl) rfl (show _ ≤ m + 8 ∧ BRow (upd _ _ _) _ (m + 8) _ _ ∧ ∀ j, _ → _ → upd _ _ _ j = _ from ?_)
      refine ⟨by omega, .inr ⟨m + 6, false, by omega, by omega, rfl, by simp [upd, bC]⟩, fun j g1 g2 => ?_⟩
      rw [upd_ne _ _ (show j ≠ m + 6 by omega)]; exact (hH j g1 g2).2
    · clear hlen
      have b1 : l2.length + 1 ≤ 140737488355328 := by omega
      have b2 : l2.length + 1 ≤ 4611686018427387904 := by omega
      repeat' (first | ((with_reducible first | refine wA (by omega) ?_ | refine wB (by omega) ?_ | refine wC (by omega) ?_ | refine wD (by omega) ?_ | refine wE ?_ ?_ | refine wF ?_ ?_ | refine wG ?_ ?_ | refine wH ?_ ?_ | refine wI ?_ ?_ | refine wJ ?_ ?_ | refine wK ?_ ?_ | refine wL ?_ ?_) <;> intro _) | simp (maxSteps := 1000000) (disch := omega) only [go_sem, Nat.reduceAdd, Nat.reduceMul, Nat.reduceSub, Nat.reduceLeDiff, Nat.reduceEqDiff, Nat.reduceBEq, ↓reduceIte, reduceCtorEq, Int.reduceEq, Int.reduceLE, Int.reduceLT, Int.reduceAdd, Int.reduceSub, Int.reduceNeg, Int.reduceToNat, Int.reduceNe, Nat.reducePow, Nat.reduceShiftRight, Nat.reduceMod, *])
      refine fin_mut (.osl (m + 6) 0 (l2.length + 1) 1) (.inr rfl) rfl (show _ ≤ m + 8 ∧ BRow (upd _ _ _) _ (m + 8) _ _ ∧ ∀ j, _ → _ → upd _ _ _ j = _ from ?_)
      refine ⟨by omega, .inr ⟨m + 6, false, by omega, by omega, by simp, by simp [upd, bC]⟩, fun j g1 g2 => ?_⟩
      have := hH j g1 g2
      have hj : j ≠ id := fun e => this.1 (by rw [e0]; exact e)
      rw [upd_ne _ _ (show j ≠ m + 6 by omega), upd_ne _ _ hj]; exact this.2
end
section
set_option maxRecDepth 20000
attribute [local go_sem] Nat.add_assoc id_ne id_ne' id_ne2 List.append_assoc bC_len bC_one
def intsPV (xs : List Nat) : PV := .sl 1 (xs.map fun n : Nat => [.sc (.int .i64 n)])
def rowB (l : List UInt8) : PV := .sl 1 (l.map fun c => [.sc (.int .u8 c.toNat)])
theorem chunks_bC (l : List UInt8) : chunks 1 l.length (bC l) = l.map fun c => [PV.sc (.int .u8 c.toNat)] := by
  induction l with
  | nil => rfl
  | cons x r ih => simp only [List.length_cons, bC, List.map_cons, chunks, List.take_succ_cons, List.take_zero, List.drop_succ_cons, List.drop_zero, List.cons.injEq, true_and]; exact ih
theorem pk_frz {k : Nat} {H : Nat → Option PObj} {id : Nat} {l : List UInt8} {w : Bool} (h : H id = some ⟨bC l, w⟩) : frz (k + 1) H (.osl id 0 l.length 1) = rowB l := by
  simp only [frz, h, bC_len, Nat.mul_one, Nat.zero_add, Nat.le_refl, if_true, List.drop_zero, rowB]
  rw [List.take_of_length_le (by rw [bC_len]; exact Nat.le_refl _)]
  have e : (bC l).map (frz k H) = bC l := by simp [bC, Function.comp_def, frz_sc1]
  rw [e, chunks_bC]
theorem rowB_imm (l : List UInt8) : (rowB l).imm = true := by
  show immLL (l.map fun c => [PV.sc (.int .u8 c.toNat)]) = true
  rw [immLL_flatten]
  have : (l.map fun c => [PV.sc (.int .u8 c.toNat)]).flatten = bC l := by
    induction l with
    | nil => rfl
    | cons x r ih => simp only [List.map_cons, List.flatten_cons, List.cons_append, List.nil_append, bC] at ih ⊢; rw [ih]
  rw [this, bC_imm]
def encs (xs : List Nat) : List UInt8 := xs.flatMap Plain.enc
theorem encs_len : ∀ xs : List Nat, (∀ n ∈ xs, n ≤ 2 ^ 40) → (encs xs).length ≤ 6 * xs.length
  | [], _ => Nat.le_refl _
  | x :: r, h => by
    have h1 := enc_len6 x (h x (by simp))
    have h2 := encs_len r fun n hn => h n (by simp [hn])
    simp only [encs, List.flatMap_cons, List.length_append, List.length_cons] at h2 ⊢
    omega
theorem encs_pos (xs : List Nat) (h : xs ≠ []) : encs xs ≠ [] := by
  cases xs with
  | nil => exact absurd rfl h
  | cons x r =>
    intro e
    have h1 := congrArg List.length e
    have h2 := Plain.enc_length_pos x
    simp only [encs, List.flatMap_cons, List.length_append, List.length_nil] at h1
    omega
theorem encs_snoc (xs : List Nat) (i : Nat) (h : i < xs.length) : encs (xs.take (i + 1)) = encs (xs.take i) ++ Plain.enc xs[i] := by
  unfold encs
  rw [List.take_succ_eq_append_getElem h, List.flatMap_append]
  simp
set_option maxHeartbeats 4000000 in
theorem Nums_p (xs : List Nat) (hx : ∀ n ∈ xs, n ≤ 2 ^ 40) (h0 : xs ≠ []) (hl : xs.length ≤ 2 ^ 30) : PPure Try.prog F.wire_Nums [intsPV xs] (.tup [rowB (encs xs), .sc (.bool true)]) := by
  refine pure_by is_wire_Nums (by simp) (by show (immL [rowB (encs xs), .sc (.bool true)]) = true; simp [immL, rowB_imm, PV.imm]) fun hb nx => ?_
  clear hb
  have hpos : 0 < xs.length := List.length_pos_iff.2 h0
  repeat' (first | ((with_reducible first | refine wA (by omega) ?_ | refine wB (by omega) ?_ | refine wC (by omega) ?_ | refine wD (by omega) ?_ | refine wE ?_ ?_ | refine wF ?_ ?_ | refine wG ?_ ?_ | refine wH ?_ ?_ | refine wI ?_ ?_ | refine wJ ?_ ?_ | refine wK ?_ ?_ | refine wL ?_ ?_) <;> intro _) | simp (maxSteps := 1000000) (disch := omega) only [go_sem, seval, mc_wire_Nums, intsPV, *])
  refine c_loopW 1048156 (by kernel_rfl) (fun j f H m => ∃ i : Nat, j = xs.length - i ∧ i ≤ xs.length ∧ f 9 = .sc (.int .i64 i) ∧ Kept (BRow H 0 m (f 4) (encs (xs.take i)))) _ ⟨0, rfl, Nat.zero_le _, cE1, ?rr⟩ ?_
  case rr => refine Kept.mk (.inl ⟨rfl, cE1⟩)
  rintro _ f H m ⟨i, rfl, hi, e9, hr⟩
  by_cases hlt : i < xs.length
  · have eg : xs[i]? = some xs[i] := List.getElem?_eq_getElem hlt
    have hxi := hx xs[i] (List.getElem_mem hlt)
    have c1 := isNumber_p (xs[i] : Int)
    have hd1 : decide (0 ≤ (xs[i] : Int)) = true := decide_eq_true (by omega)
    have hd2 : decide ((xs[i] : Int) ≤ 1099511627776) = true := decide_eq_true (by omega)
    rw [hd1, hd2] at c1
    clear hd1 hd2
    repeat' (first | ((with_reducible first | refine wA (by omega) ?_ | refine wB (by omega) ?_ | refine wC (by omega) ?_ | refine wD (by omega) ?_ | refine wE ?_ ?_ | refine wF ?_ ?_ | refine wG ?_ ?_ | refine wH ?_ ?_ | refine wI ?_ ?_ | refine wJ ?_ ?_ | refine wK ?_ ?_ | refine wL ?_ ?_) <;> intro _) | (((with_reducible refine call_id ?_); (first | (refine call_pure (c1) ?_)))) | simp (maxSteps := 1000000) (disch := omega) only [go_sem, seval, *])
    have hl1 := encs_len (xs.take i) fun n hn => hx n (List.mem_of_mem_take hn)
    rw [List.length_take] at hl1
    refine call_mut (putNum_m xs[i] hxi (encs (xs.take i)) (by omega) (f 4) 0 _ _ (BRow.weak hr (Nat.zero_le _) (Nat.le_add_right _ _))) ?_
    rintro H' nx' r' ⟨hn, hr2, hk2⟩ -
    rw [← encs_snoc xs i hlt] at hr2
    have hr3 := Kept.mk hr2
    clear hr hr2 hk2 hl1
    repeat' (first | ((with_reducible first | refine wA (by omega) ?_ | refine wB (by omega) ?_ | refine wC (by omega) ?_ | refine wD (by omega) ?_ | refine wE ?_ ?_ | refine wF ?_ ?_ | refine wG ?_ ?_ | refine wH ?_ ?_ | refine wI ?_ ?_ | refine wJ ?_ ?_ | refine wK ?_ ?_ | refine wL ?_ ?_) <;> intro _) | simp (maxSteps := 1000000) (disch := omega) only [go_sem, seval, *])
    refine Nx.mk (xs.length - (i + 1)) (by omega) ⟨i + 1, rfl, cE1, cE1, ?_⟩
    refine Kept.mk ?_
    simp only [upd_get, Nat.reduceEqDiff, ↓reduceIte]
    exact BRow.weak hr3 (Nat.zero_le _) (Nat.le_add_right _ _)
  · obtain rfl : i = xs.length := by omega
    have hne := encs_pos xs h0
    rw [List.take_length] at hr
    obtain ⟨g0, e0⟩ | ⟨id, w, g1, g2, e0, g3⟩ := hr
    · exact absurd g0 hne
    · repeat' (first | ((with_reducible first | refine wA (by omega) ?_ | refine wB (by omega) ?_ | refine wC (by omega) ?_ | refine wD (by omega) ?_ | refine wE ?_ ?_ | refine wF ?_ ?_ | refine wG ?_ ?_ | refine wH ?_ ?_ | refine wI ?_ ?_ | refine wJ ?_ ?_ | refine wK ?_ ?_ | refine wL ?_ ?_) <;> intro _) | simp (maxSteps := 1000000) (disch := omega) only [go_sem, seval, *])
      refine fin_ret (r0 := .tup [.osl id 0 (encs xs).length 1, .sc (.bool true)]) 2 cE2 ?_
      rw [frz_tup1]
      simp only [List.map_cons, List.map_nil]
      exact Weak.tup ⟨.of_eq (pk_frz g3), .of_eq frz_sc1, trivial⟩
end
end Go.Proofs.Ytnelciclibknpaa
