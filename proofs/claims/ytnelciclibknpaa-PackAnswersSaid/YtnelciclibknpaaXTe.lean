/-
  Plain values: PkA, PkB, PkC, LvA, LvB, LvC, PkD, LvD, NmA, NmB, TmA, LvE, LvG, LvI, LvP, LvQ, LvR, TmB, PkE, TmS, TmD, TmE, TmF, LvV.
-/
import Derived.RangeFuncKeeps
import Derived.RangeFuncBound
import Derived.RangeFuncLeaves
import Derived.TacticsInMore
import Derived.Test.YtnelciclibknpaaXTa
import Derived.Test.YtnelciclibknpaaXTb
import Derived.Test.YtnelciclibknpaaXTc
import Derived.Test.YtnelciclibknpaaXTd
set_option linter.unusedVariables false
set_option linter.unusedSimpArgs false
namespace Go.Proofs.Ytnelciclibknpaa
open Go.RowKit
attribute [local go_sem ↓] c_seq c_region c_cond c_block c_ret c_skip c_exit c_cont t_normal t_ret t_exit b_normal b_ret b_exit run_nil run_cons g_some o_mv o_pick o_bin o_un o_ld o_ldf o_bld o_len o_mkf o_nilc o_fa o_fd o_ia o_iaa o_ix o_ixs o_ext o_al o_bxf o_bxt o_bsl o_bslf o_mks o_st o_stf o_call o_rng o_nxt o_callm o_callmA o_calvm o_calv cond_true cond_false upd_get sigF_cons o_eqa o_mm o_app o_slc o_apps o_cvt
attribute [local go_sem] num_nil num_cons isP chunks rngV next_is next_iter val_some new_some st_some stf_some guard_tt guard_ff guard_tf guard_ft guard_un calv_fn put_some put_none ev_tmp ev_const ev_func sig_eq sigF_nil q0 q1 nilcV faV fdV iaV iaaV ixV ixsV extV mksV loadP storeP lenPV binPV unPV intBin partsP fillP zeros PV.good PV.cellsOf PV.one q2 q3 q4 q5 q6 q7 q8 q9 q10 q11 q12 q13 q14 q15 q16 q17 q18 q19 q20 q21 q22 q23 q24 q25 q26 q27 q28 q29 q30 q31 q32 q33 q34 q35 q36 q37 q38 wrap64 app_some mmL mmV mm2 eqE eqParts eqInt eqBool eqStr partV q39 q40 pickV q41 q42 q43 q44 q45 q46 q47 q48 q49 appE oldOf rowOf updL q50 q51 q52 q53 zlt ovr_get ite_neN ite_eqN q54 q55 q56 q57 q58 q59 q60 q61 q62 q63 q64 q65 q66 q67 tailP_f tailP_t tailF_f tailF_t slcP bndO capO slcLen intOf Option.isSome_none Option.isNone_none Option.isSome_some Option.isNone_some nilP slc_sl slc_csl slc_osl slc_osl0 slc_ocap slc_str appR appS cvP shiftB false_or List.append_nil List.length_append resP resPs resP1 PV.sc.injEq Value.bool.injEq Value.int.injEq
section
set_option maxRecDepth 20000
attribute [local go_sem] Nat.add_assoc id_ne id_ne' id_ne2 List.append_assoc
def bC (l : List UInt8) : List PV := l.map fun c => .sc (.int .u8 c.toNat)
theorem bC_len (l : List UInt8) : (bC l).length = l.length := by simp [bC]
attribute [local go_sem] bC_len
theorem bC_append (a b : List UInt8) : bC (a ++ b) = bC a ++ bC b := by simp [bC]
theorem bC_one (l : List UInt8) : (bC l).all PV.one = true := by simp [bC, PV.one]
attribute [local go_sem] bC_one
theorem bC_imm : ∀ l : List UInt8, immL (bC l) = true
  | [] => rfl
  | x :: r => by have := bC_imm r; simp [bC, immL, PV.imm] at this ⊢; exact this
def BRow (H : Nat → Option PObj) (lo m : Nat) (a : PV) (l : List UInt8) : Prop := (l = [] ∧ a = .sc (.slice none 0 0)) ∨ ∃ id w, lo ≤ id ∧ id < m ∧ a = .osl id 0 l.length 1 ∧ H id = some ⟨bC l, w⟩
theorem BRow.weak {H : Nat → Option PObj} {lo m lo' m' : Nat} {a : PV} {l : List UInt8} (h : BRow H lo m a l) (h1 : lo' ≤ lo) (h2 : m ≤ m') : BRow H lo' m' a l := by
  obtain h | ⟨id, w, g1, g2, g3, g4⟩ := h
  · exact .inl h
  · exact .inr ⟨id, w, by omega, by omega, g3, g4⟩
def leadB : PV → Nat → Prop
  | .osl i _ _ _, j => j = i
  | _, _ => False
theorem isNumber_p (n : Int) : PPure Try.prog F.wire_isNumber [.sc (.int .i64 n)] (.sc (.bool (decide (0 ≤ n) && decide (n ≤ 1099511627776)))) := by
  refine pure_by is_wire_isNumber (by simp) rfl fun hb nx => ?_
  clear hb
  repeat' (first | ((with_reducible first | refine wA (by omega) ?_ | refine wB (by omega) ?_ | refine wC (by omega) ?_ | refine wD (by omega) ?_ | refine wE ?_ ?_ | refine wF ?_ ?_ | refine wG ?_ ?_ | refine wH ?_ ?_ | refine wI ?_ ?_ | refine wJ ?_ ?_ | refine wK ?_ ?_ | refine wL ?_ ?_) <;> intro _) | simp (maxSteps := 1000000) (disch := omega) only [go_sem, seval, mc_wire_isNumber, *])
  all_goals (refine fin_tmp (.inr rfl) ?_; simp [upd, *] <;> omega)
theorem and127 (m : Nat) (h : m ≤ 2 ^ 62) : IntKind.i64.wrap ((BitVec.ofInt 64 (m : Int) &&& BitVec.ofInt 64 127).toNat : Int) = ((m % 128 : Nat) : Int) := by
  have e1 := Plain.and_i64 m 127 (by omega) (by omega)
  rw [Nat.and_two_pow_sub_one_eq_mod m 7] at e1
  exact e1
theorem or128 (m : Nat) (h : m < 128) : IntKind.i64.wrap ((BitVec.ofInt 64 (m : Int) ||| BitVec.ofInt 64 128).toNat : Int) = ((m + 128 : Nat) : Int) := by
  have e1 := Plain.or_i64 m 128 (by omega) (by omega)
  rw [Plain.or_128 m h] at e1
  exact e1
theorem shr7 (m : Nat) : (m : Int).fdiv 128 = ((m / 128 : Nat) : Int) := by
  rw [Int.fdiv_eq_ediv_of_nonneg _ (by decide)]
  omega
theorem enc_len6 (n : Nat) (h : n ≤ 2 ^ 40) : (Plain.enc n).length ≤ 6 := Plain.enc_length_six (by unfold Plain.mc; omega)
set_option maxHeartbeats 8000000 in
theorem putNum_m (n : Nat) (hn : n ≤ 2 ^ 40) (l : List UInt8) (hl : l.length ≤ 2 ^ 40) (a : PV) (lo : Nat) (H : Nat → Option PObj) (nx : Nat) (ha : BRow H lo nx a l) :
    PMut Try.prog F.wire_putNum [a, .sc (.int .i64 n)] H nx (fun H' nx' r => nx ≤ nx' ∧ BRow H' nx nx' r (l ++ Plain.enc n) ∧ ∀ j, j < nx → ¬ leadB a j → H' j = H j) := by
  refine mut_by is_wire_putNum (by simp) fun hb => ?_
  clear hb
  repeat' (first | ((with_reducible first | refine wA (by omega) ?_ | refine wB (by omega) ?_ | refine wC (by omega) ?_ | refine wD (by omega) ?_ | refine wE ?_ ?_ | refine wF ?_ ?_ | refine wG ?_ ?_ | refine wH ?_ ?_ | refine wI ?_ ?_ | refine wJ ?_ ?_ | refine wK ?_ ?_ | refine wL ?_ ?_) <;> intro _) | simp (maxSteps := 1000000) (disch := omega) only [go_sem, Nat.reduceAdd, Nat.reduceMul, Nat.reduceSub, Nat.reduceLeDiff, Nat.reduceEqDiff, Nat.reduceBEq, ↓reduceIte, reduceCtorEq, Int.reduceEq, Int.reduceLE, Int.reduceLT, Int.reduceAdd, Int.reduceSub, Int.reduceNeg, Int.reduceToNat, Int.reduceNe, Nat.reducePow, Nat.reduceShiftRight, Nat.reduceMod, mc_wire_putNum, *])
  refine c_loopW 65507 (by kernel_rfl) (fun j f H2 m => ∃ (k : Nat) (l2 : List UInt8), j = k ∧ k ≤ n ∧ f 1 = .sc (.int .i64 k) ∧ nx ≤ m ∧ Kept (BRow H2 0 m (f 0) l2) ∧ Kept (l2 ++ Plain.enc k = l ++ Plain.enc n) ∧ Kept (∀ j, j < nx → ¬ leadB a j → ¬ leadB (f 0) j ∧ H2 j = H j)) _ ⟨n, l, rfl, Nat.le_refl _, cE1, Nat.le_add_right _ _, ?rr, Kept.mk rfl, ?hh⟩ ?_
  case rr => refine Kept.mk ?_; simp only [upd_get, sigF_cons, Nat.reduceEqDiff, ↓reduceIte]; exact ha.weak (Nat.zero_le _) (Nat.le_succ _)
  case hh => refine Kept.mk ?_; simp only [upd_get, sigF_cons, Nat.reduceEqDiff, ↓reduceIte]; exact fun j g1 g2 => ⟨g2, trivial⟩
  rintro _ f H2 m ⟨k, l2, rfl, hk, e1, hm, hr, he, hH⟩
  rename_i k
  have hlen : l2.length + (Plain.enc k).length = l.length + (Plain.enc n).length := by
    have := congrArg List.length (show l2 ++ Plain.enc k = l ++ Plain.enc n from he)
    simpa using this
  have hen := enc_len6 n hn
  have hl2 : l2.length ≤ 2 ^ 40 + 6 := by omega
  by_cases hb : 128 ≤ k
  · have h1 : IntKind.i64.wrap ((BitVec.ofInt IntKind.i64.bits (k : Int) &&& BitVec.ofInt IntKind.i64.bits 127).toNat : Int) = ((k % 128 : Nat) : Int) := and127 k (by omega)
    have h2 : IntKind.i64.wrap ((BitVec.ofInt IntKind.i64.bits ((k % 128 : Nat) : Int) ||| BitVec.ofInt IntKind.i64.bits 128).toNat : Int) = ((k % 128 + 128 : Nat) : Int) := or128 (k % 128) (by omega)
    have h3 : IntKind.u8.wrap ((k % 128 + 128 : Nat) : Int) = ((UInt8.ofNat (k % 128 + 128)).toNat : Int) := by rw [IntKind.wrap_u8, UInt8.toNat_ofNat']; omega
    have h4 : (k : Int).fdiv (2 ^ min 7 IntKind.i64.bits) = ((k / 128 : Nat) : Int) := shr7 k
    have h1' := h1
    have h2' := h2
    have h4' := h4
    simp only [IntKind.bits] at h1' h2' h4'
    obtain ⟨rfl, e0⟩ | ⟨id, w, g1, g2, e0, g3⟩ := hr
    · clear hlen hen hl2
      repeat' (first | ((with_reducible first | refine wA (by omega) ?_ | refine wB (by omega) ?_ | refine wC (by omega) ?_ | refine wD (by omega) ?_ | refine wE ?_ ?_ | refine wF ?_ ?_ | refine wG ?_ ?_ | refine wH ?_ ?_ | refine wI ?_ ?_ | refine wJ ?_ ?_ | refine wK ?_ ?_ | refine wL ?_ ?_) <;> intro _) | simp (maxSteps := 1000000) (disch := omega) only [go_sem, Nat.reduceAdd, Nat.reduceMul, Nat.reduceSub, Nat.reduceLeDiff, Nat.reduceEqDiff, Nat.reduceBEq, ↓reduceIte, reduceCtorEq, Int.reduceEq, Int.reduceLE, Int.reduceLT, Int.reduceAdd, Int.reduceSub, Int.reduceNeg, Int.reduceToNat, Int.reduceNe, Nat.reducePow, Nat.reduceShiftRight, Nat.reduceMod, *])
      refine Nx.mk (k / 128) (by omega) ⟨k / 128, [UInt8.ofNat (k % 128 + 128)], rfl, by omega, cE1, by omega, ?_, ?_, ?_⟩
      · refine Kept.mk (.inr ⟨m + 8, false, Nat.zero_le _, by omega, cE1, ?_⟩)
        simp [upd, bC]
      · refine Kept.mk ?_
        rw [← show [] ++ Plain.enc k = l ++ Plain.enc n from he, Plain.enc_big hb]; rfl
      · refine Kept.mk ?_
        intro j g1 g2
        have := hH j g1 g2
        refine ⟨?_, ?_⟩
        · simp only [upd_get, Nat.reduceEqDiff, ↓reduceIte, leadB]; omega
        · rw [upd_ne _ _ (show j ≠ m + 8 by omega)]; exact this.2
    · clear hlen
      have b1 : l2.length + 1 ≤ 140737488355328 := by omega
      have b2 : l2.length + 1 ≤ 4611686018427387904 := by omega
      repeat' (first | ((with_reducible first | refine wA (by omega) ?_ | refine wB (by omega) ?_ | refine wC (by omega) ?_ | refine wD (by omega) ?_ | refine wE ?_ ?_ | refine wF ?_ ?_ | refine wG ?_ ?_ | refine wH ?_ ?_ | refine wI ?_ ?_ | refine wJ ?_ ?_ | refine wK ?_ ?_ | refine wL ?_ ?_) <;> intro _) | simp (maxSteps := 1000000) (disch := omega) only [go_sem, Nat.reduceAdd, Nat.reduceMul, Nat.reduceSub, Nat.reduceLeDiff, Nat.reduceEqDiff, Nat.reduceBEq, ↓reduceIte, reduceCtorEq, Int.reduceEq, Int.reduceLE, Int.reduceLT, Int.reduceAdd, Int.reduceSub, Int.reduceNeg, Int.reduceToNat, Int.reduceNe, Nat.reducePow, Nat.reduceShiftRight, Nat.reduceMod, *])
      refine Nx.mk (k / 128) (by omega) ⟨k / 128, l2 ++ [UInt8.ofNat (k % 128 + 128)], rfl, by omega, cE1, by omega, ?_, ?_, ?_⟩
      · refine Kept.mk (.inr ⟨m + 8, false, Nat.zero_le _, by omega, cE1, ?_⟩)
        simp [upd, bC]
      · refine Kept.mk ?_
        rw [← show l2 ++ Plain.enc k = l ++ Plain.enc n from he, Plain.enc_big hb]; simp
      · refine Kept.mk ?_
        intro j g1 g2
        have := hH j g1 g2
        have hj : j ≠ id := fun e => this.1 (by rw [e0]; exact e)
        refine ⟨?_, ?_⟩
        · simp only [upd_get, Nat.reduceEqDiff, ↓reduceIte, leadB]; omega
        · rw [upd_ne _ _ (show j ≠ m + 8 by omega), upd_ne _ _ hj]; exact this.2
  · have ek : Plain.enc k = [UInt8.ofNat k] := Plain.enc_small (by omega)
    have h3 : IntKind.u8.wrap (k : Int) = ((UInt8.ofNat k).toNat : Int) := by rw [IntKind.wrap_u8, UInt8.toNat_ofNat']; omega
    rw [← show l2 ++ Plain.enc k = l ++ Plain.enc n from he, ek]
    obtain ⟨rfl, e0⟩ | ⟨id, w, g1, g2, e0, g3⟩ := hr
    · clear hlen hen hl2
      repeat' (first | ((with_reducible first | refine wA (by omega) ?_ | refine wB (by omega) ?_ | refine wC (by omega) ?_ | refine wD (by omega) ?_ | refine wE ?_ ?_ | refine wF ?_ ?_ | refine wG ?_ ?_ | refine wH ?_ ?_ | refine wI ?_ ?_ | refine wJ ?_ ?_ | refine wK ?_ ?_ | refine wL ?_ ?_) <;> intro _) | simp (maxSteps := 1000000) (disch := omega) only [go_sem, Nat.reduceAdd, Nat.reduceMul, Nat.reduceSub, Nat.reduceLeDiff, Nat.reduceEqDiff, Nat.reduceBEq, ↓reduceIte, reduceCtorEq, Int.reduceEq, Int.reduceLE, Int.reduceLT, Int.reduceAdd, Int.reduceSub, Int.reduceNeg, Int.reduceToNat, Int.reduceNe, Nat.reducePow, Nat.reduceShiftRight, Nat.reduceMod, *])
      refine fin_mut (.osl (m + 6) 0 1 1) (.inr rfl) rfl (show _ ≤ m + 8 ∧ BRow (upd _ _ _) _ (m + 8) _ _ ∧ ∀ j, _ → _ → upd _ _ _ j = _ from ?_)
      refine ⟨by omega, .inr ⟨m + 6, false, by omega, by omega, rfl, by simp [upd, bC]⟩, fun j g1 g2 => ?_⟩
      rw [upd_ne _ _ (show j ≠ m + 6 by omega)]; exact (hH j g1 g2).2
    · clear hlen
      have b1 : l2.length + 1 ≤ 140737488355328 := by omega
      have b2 : l2.length + 1 ≤ 4611686018427387904 := by omega
      repeat' (first | ((with_reducible first | refine wA (by omega) ?_ | refine wB (by omega) ?_ | refine wC (by omega) ?_ | refine wD (by omega) ?_ | refine wE ?_ ?_ | refine wF ?_ ?_ | refine wG ?_ ?_ | refine wH ?_ ?_ | refine wI ?_ ?_ | refine wJ ?_ ?_ | refine wK ?_ ?_ | refine wL ?_ ?_) <;> intro _) | simp (maxSteps := 1000000) (disch := omega) only [go_sem, Nat.reduceAdd, Nat.reduceMul, Nat.reduceSub, Nat.reduceLeDiff, Nat.reduceEqDiff, Nat.reduceBEq, ↓reduceIte, reduceCtorEq, Int.reduceEq, Int.reduceLE, Int.reduceLT, Int.reduceAdd, Int.reduceSub, Int.reduceNeg, Int.reduceToNat, Int.reduceNe, Nat.reducePow, Nat.reduceShiftRight, Nat.reduceMod, *])
      refine fin_mut (.osl (m + 6) 0 (l2.length + 1) 1) (.inr rfl) rfl (show _ ≤ m + 8 ∧ BRow (upd _ _ _) _ (m + 8) _ _ ∧ ∀ j, _ → _ → upd _ _ _ j = _ from ?_)
      refine ⟨by omega, .inr ⟨m + 6, false, by omega, by omega, by simp, by simp [upd, bC]⟩, fun j g1 g2 => ?_⟩
      have := hH j g1 g2
      have hj : j ≠ id := fun e => this.1 (by rw [e0]; exact e)
      rw [upd_ne _ _ (show j ≠ m + 6 by omega), upd_ne _ _ hj]; exact this.2
end
section
set_option maxRecDepth 20000
attribute [local go_sem] Nat.add_assoc id_ne id_ne' id_ne2 List.append_assoc bC_len bC_one
def intsPV (xs : List Nat) : PV := .sl 1 (xs.map fun n : Nat => [.sc (.int .i64 n)])
def rowB (l : List UInt8) : PV := .sl 1 (l.map fun c => [.sc (.int .u8 c.toNat)])
theorem chunks_bC (l : List UInt8) : chunks 1 l.length (bC l) = l.map fun c => [PV.sc (.int .u8 c.toNat)] := by
  induction l with
  | nil => rfl
  | cons x r ih => simp only [List.length_cons, bC, List.map_cons, chunks, List.take_succ_cons, List.take_zero, List.drop_succ_cons, List.drop_zero, List.cons.injEq, true_and]; exact ih
theorem pk_frz {k : Nat} {H : Nat → Option PObj} {id : Nat} {l : List UInt8} {w : Bool} (h : H id = some ⟨bC l, w⟩) : frz (k + 1) H (.osl id 0 l.length 1) = rowB l := by
  simp only [frz, h, bC_len, Nat.mul_one, Nat.zero_add, Nat.le_refl, if_true, List.drop_zero, rowB]
  rw [List.take_of_length_le (by rw [bC_len]; exact Nat.le_refl _)]
  have e : (bC l).map (frz k H) = bC l := by simp [bC, Function.comp_def, frz_sc1]
  rw [e, chunks_bC]
theorem rowB_imm (l : List UInt8) : (rowB l).imm = true := by
  show immLL (l.map fun c => [PV.sc (.int .u8 c.toNat)]) = true
  rw [immLL_flatten]
  have : (l.map fun c => [PV.sc (.int .u8 c.toNat)]).flatten = bC l := by
    induction l with
    | nil => rfl
    | cons x r ih => simp only [List.map_cons, List.flatten_cons, List.cons_append, List.nil_append, bC] at ih ⊢; rw [ih]
  rw [this, bC_imm]
def encs (xs : List Nat) : List UInt8 := xs.flatMap Plain.enc
theorem encs_len : ∀ xs : List Nat, (∀ n ∈ xs, n ≤ 2 ^ 40) → (encs xs).length ≤ 6 * xs.length
  | [], _ => Nat.le_refl _
  | x :: r, h => by
    have h1 := enc_len6 x (h x (by simp))
    have h2 := encs_len r fun n hn => h n (by simp [hn])
    simp only [encs, List.flatMap_cons, List.length_append, List.length_cons] at h2 ⊢
    omega
theorem encs_pos (xs : List Nat) (h : xs ≠ []) : encs xs ≠ [] := by
  cases xs with
  | nil => exact absurd rfl h
  | cons x r =>
    intro e
    have h1 := congrArg List.length e
    have h2 := Plain.enc_length_pos x
    simp only [encs, List.flatMap_cons, List.length_append, List.length_nil] at h1
    omega
theorem encs_snoc (xs : List Nat) (i : Nat) (h : i < xs.length) : encs (xs.take (i + 1)) = encs (xs.take i) ++ Plain.enc xs[i] := by
  unfold encs
  rw [List.take_succ_eq_append_getElem h, List.flatMap_append]
  simp
set_option maxHeartbeats 4000000 in
theorem Nums_p (xs : List Nat) (hx : ∀ n ∈ xs, n ≤ 2 ^ 40) (h0 : xs ≠ []) (hl : xs.length ≤ 2 ^ 30) : PPure Try.prog F.wire_Nums [intsPV xs] (.tup [rowB (encs xs), .sc (.bool true)]) := by
  refine pure_by is_wire_Nums (by simp) (by show (immL [rowB (encs xs), .sc (.bool true)]) = true; simp [immL, rowB_imm, PV.imm]) fun hb nx => ?_
  clear hb
  have hpos : 0 < xs.length := List.length_pos_iff.2 h0
  repeat' (first | ((with_reducible first | refine wA (by omega) ?_ | refine wB (by omega) ?_ | refine wC (by omega) ?_ | refine wD (by omega) ?_ | refine wE ?_ ?_ | refine wF ?_ ?_ | refine wG ?_ ?_ | refine wH ?_ ?_ | refine wI ?_ ?_ | refine wJ ?_ ?_ | refine wK ?_ ?_ | refine wL ?_ ?_) <;> intro _) | simp (maxSteps := 1000000) (disch := omega) only [go_sem, seval, mc_wire_Nums, intsPV, *])
  refine c_loopW 1048156 (by kernel_rfl) (fun j f H m => ∃ i : Nat, j = xs.length - i ∧ i ≤ xs.length ∧ f 9 = .sc (.int .i64 i) ∧ Kept (BRow H 0 m (f 4) (encs (xs.take i)))) _ ⟨0, rfl, Nat.zero_le _, cE1, ?rr⟩ ?_
  case rr => refine Kept.mk (.inl ⟨rfl, cE1⟩)
  rintro _ f H m ⟨i, rfl, hi, e9, hr⟩
  by_cases hlt : i < xs.length
  · have eg : xs[i]? = some xs[i] := List.getElem?_eq_getElem hlt
    have hxi := hx xs[i] (List.getElem_mem hlt)
    have c1 := isNumber_p (xs[i] : Int)
    have hd1 : decide (0 ≤ (xs[i] : Int)) = true := decide_eq_true (by omega)
    have hd2 : decide ((xs[i] : Int) ≤ 1099511627776) = true := decide_eq_true (by omega)
    rw [hd1, hd2] at c1
    clear hd1 hd2
    repeat' (first | ((with_reducible first | refine wA (by omega) ?_ | refine wB (by omega) ?_ | refine wC (by omega) ?_ | refine wD (by omega) ?_ | refine wE ?_ ?_ | refine wF ?_ ?_ | refine wG ?_ ?_ | refine wH ?_ ?_ | refine wI ?_ ?_ | refine wJ ?_ ?_ | refine wK ?_ ?_ | refine wL ?_ ?_) <;> intro _) | (((with_reducible refine call_id ?_); (first | (refine call_pure (c1) ?_)))) | simp (maxSteps := 1000000) (disch := omega) only [go_sem, seval, *])
    have hl1 := encs_len (xs.take i) fun n hn => hx n (List.mem_of_mem_take hn)
    rw [List.length_take] at hl1
    refine call_mut (putNum_m xs[i] hxi (encs (xs.take i)) (by omega) (f 4) 0 _ _ (BRow.weak hr (Nat.zero_le _) (Nat.le_add_right _ _))) ?_
    rintro H' nx' r' ⟨hn, hr2, hk2⟩ -
    rw [← encs_snoc xs i hlt] at hr2
    have hr3 := Kept.mk hr2
    clear hr hr2 hk2 hl1
    repeat' (first | ((with_reducible first | refine wA (by omega) ?_ | refine wB (by omega) ?_ | refine wC (by omega) ?_ | refine wD (by omega) ?_ | refine wE ?_ ?_ | refine wF ?_ ?_ | refine wG ?_ ?_ | refine wH ?_ ?_ | refine wI ?_ ?_ | refine wJ ?_ ?_ | refine wK ?_ ?_ | refine wL ?_ ?_) <;> intro _) | simp (maxSteps := 1000000) (disch := omega) only [go_sem, seval, *])
    refine Nx.mk (xs.length - (i + 1)) (by omega) ⟨i + 1, rfl, cE1, cE1, ?_⟩
    refine Kept.mk ?_
    simp only [upd_get, Nat.reduceEqDiff, ↓reduceIte]
    exact BRow.weak hr3 (Nat.zero_le _) (Nat.le_add_right _ _)
  · obtain rfl : i = xs.length := by omega
    have hne := encs_pos xs h0
    rw [List.take_length] at hr
    obtain ⟨g0, e0⟩ | ⟨id, w, g1, g2, e0, g3⟩ := hr
    · exact absurd g0 hne
    · repeat' (first | ((with_reducible first | refine wA (by omega) ?_ | refine wB (by omega) ?_ | refine wC (by omega) ?_ | refine wD (by omega) ?_ | refine wE ?_ ?_ | refine wF ?_ ?_ | refine wG ?_ ?_ | refine wH ?_ ?_ | refine wI ?_ ?_ | refine wJ ?_ ?_ | refine wK ?_ ?_ | refine wL ?_ ?_) <;> intro _) | simp (maxSteps := 1000000) (disch := omega) only [go_sem, seval, *])
      refine fin_ret (r0 := .tup [.osl id 0 (encs xs).length 1, .sc (.bool true)]) 2 cE2 ?_
      rw [frz_tup1]
      simp only [List.map_cons, List.map_nil]
      exact Weak.tup ⟨.of_eq (pk_frz g3), .of_eq frz_sc1, trivial⟩
end
section
set_option maxRecDepth 20000
attribute [local go_sem] Nat.add_assoc id_ne id_ne' id_ne2 List.append_assoc bC_len bC_one
theorem rowB_flat (l : List UInt8) : (l.map fun c => [PV.sc (.int .u8 c.toNat)]).flatten = bC l := by
  induction l with
  | nil => rfl
  | cons x r ih => simp only [List.map_cons, List.flatten_cons, List.cons_append, List.nil_append, bC] at ih ⊢; rw [ih]
attribute [local go_sem] rowB_flat
def tb (s : ByteArray) : List UInt8 := s.data.toList
theorem strC (s : ByteArray) : strCells s = bC (tb s) := rfl
attribute [local go_sem] strC
theorem strC_len (s : ByteArray) : (tb s).length = s.size := Array.length_toList
attribute [local go_sem] strC_len
theorem strC_one (l : List UInt8) : (bC l).all PV.one = true := bC_one l
attribute [local go_sem] strC_one
set_option maxHeartbeats 4000000 in
theorem put_m (xs : List Nat) (hx : ∀ n ∈ xs, n ≤ 2 ^ 40) (h0 : xs ≠ []) (hl : xs.length ≤ 2 ^ 30) (l : List UInt8) (hl2 : l.length ≤ 2 ^ 40) (a : PV) (lo : Nat) (H : Nat → Option PObj) (nx : Nat) (ha : BRow H lo nx a l) :
    PMut Try.prog F.pack_put [a, intsPV xs] H nx (fun H' nx' r => nx ≤ nx' ∧ BRow H' nx nx' r (l ++ encs xs) ∧ ∀ j, j < nx → ¬ leadB a j → H' j = H j) := by
  refine mut_by is_pack_put (by simp) fun hb => ?_
  clear hb
  have c1 := Nums_p xs hx h0 hl
  have hel := encs_len xs hx
  have hne := encs_pos xs h0
  have hpos : 0 < (encs xs).length := List.length_pos_iff.2 hne
  obtain ⟨rfl, rfl⟩ | ⟨id, w, g1, g2, rfl, g3⟩ := ha
  · have b1 : (encs xs).length ≤ 140737488355328 := by omega
    have b2 : (encs xs).length ≤ 4611686018427387904 := by omega
    repeat' (first | ((with_reducible first | refine wA (by omega) ?_ | refine wB (by omega) ?_ | refine wC (by omega) ?_ | refine wD (by omega) ?_ | refine wE ?_ ?_ | refine wF ?_ ?_ | refine wG ?_ ?_ | refine wH ?_ ?_ | refine wI ?_ ?_ | refine wJ ?_ ?_ | refine wK ?_ ?_ | refine wL ?_ ?_) <;> intro _) | (((with_reducible refine call_id ?_); (first | (refine call_pure (c1) ?_)))) | simp (maxSteps := 1000000) (disch := omega) only [go_sem, seval, mc_pack_put, rowB, *])
    refine fin_mut (.osl (nx + 10) 0 (encs xs).length 1) (.inr rfl) rfl (show _ ≤ nx + 12 ∧ BRow (upd _ _ _) _ (nx + 12) _ _ ∧ ∀ j, _ → _ → upd _ _ _ j = _ from ?_)
    refine ⟨by omega, .inr ⟨nx + 10, false, by omega, by omega, rfl, by simp [upd]⟩, fun j g1 g2 => ?_⟩
    rw [upd_ne _ _ (show j ≠ nx + 10 by omega)]
  · have b1 : l.length + (encs xs).length ≤ 140737488355328 := by omega
    have b2 : l.length + (encs xs).length ≤ 4611686018427387904 := by omega
    repeat' (first | ((with_reducible first | refine wA (by omega) ?_ | refine wB (by omega) ?_ | refine wC (by omega) ?_ | refine wD (by omega) ?_ | refine wE ?_ ?_ | refine wF ?_ ?_ | refine wG ?_ ?_ | refine wH ?_ ?_ | refine wI ?_ ?_ | refine wJ ?_ ?_ | refine wK ?_ ?_ | refine wL ?_ ?_) <;> intro _) | (((with_reducible refine call_id ?_); (first | (refine call_pure (c1) ?_)))) | simp (maxSteps := 1000000) (disch := omega) only [go_sem, seval, mc_pack_put, rowB, *])
    refine fin_mut (.osl (nx + 10) 0 (l.length + (encs xs).length) 1) (.inr rfl) rfl (show _ ≤ nx + 12 ∧ BRow (upd _ _ _) _ (nx + 12) _ _ ∧ ∀ j, _ → _ → upd _ _ _ j = _ from ?_)
    refine ⟨by omega, .inr ⟨nx + 10, false, by omega, by omega, by simp, by simp [upd, bC_append]⟩, fun j g1 g2 => ?_⟩
    rw [upd_ne _ _ (show j ≠ nx + 10 by omega), upd_ne _ _ (show j ≠ id from g2)]
def encT (ss : List ByteArray) : List UInt8 := ss.flatMap fun s => Plain.enc s.size ++ tb s
def textsPV (ss : List ByteArray) : PV := .sl 1 (ss.map fun s => [.sc (.string s)])
theorem encT_snoc (ss : List ByteArray) (i : Nat) (h : i < ss.length) : encT (ss.take (i + 1)) = encT (ss.take i) ++ (Plain.enc ss[i].size ++ tb ss[i]) := by
  unfold encT
  rw [List.take_succ_eq_append_getElem h, List.flatMap_append]
  simp
theorem encT_take (ss : List ByteArray) (i : Nat) : (encT (ss.take i)).length ≤ (encT ss).length := by
  conv => rhs; rw [← List.take_append_drop i ss]
  unfold encT
  rw [List.flatMap_append, List.length_append]
  exact Nat.le_add_right _ _
set_option maxHeartbeats 4000000 in
theorem Texts_p (ss : List ByteArray) (h0 : ss ≠ []) (hl3 : ss.length ≤ 2 ^ 30) (hl : (encT ss).length ≤ 2 ^ 40) : PPure Try.prog F.wire_Texts [textsPV ss] (rowB (encT ss)) := by
  refine pure_by is_wire_Texts (by simp) (rowB_imm _) fun hb nx => ?_
  clear hb
  have hpos : 0 < ss.length := List.length_pos_iff.2 h0
  repeat' (first | ((with_reducible first | refine wA (by omega) ?_ | refine wB (by omega) ?_ | refine wC (by omega) ?_ | refine wD (by omega) ?_ | refine wE ?_ ?_ | refine wF ?_ ?_ | refine wG ?_ ?_ | refine wH ?_ ?_ | refine wI ?_ ?_ | refine wJ ?_ ?_ | refine wK ?_ ?_ | refine wL ?_ ?_) <;> intro _) | simp (maxSteps := 1000000) (disch := omega) only [go_sem, seval, mc_wire_Texts, textsPV, *])
  refine c_loopW 524072 (by kernel_rfl) (fun j f H m => ∃ i : Nat, j = ss.length - i ∧ i ≤ ss.length ∧ f 8 = .sc (.int .i64 i) ∧ Kept (BRow H 0 m (f 3) (encT (ss.take i)))) _ ⟨0, rfl, Nat.zero_le _, cE1, ?rr⟩ ?_
  case rr => refine Kept.mk (.inl ⟨rfl, cE1⟩)
  rintro _ f H m ⟨i, rfl, hi, e8, hr⟩
  by_cases hlt : i < ss.length
  · have eg : ss[i]? = some ss[i] := List.getElem?_eq_getElem hlt
    repeat' (first | ((with_reducible first | refine wA (by omega) ?_ | refine wB (by omega) ?_ | refine wC (by omega) ?_ | refine wD (by omega) ?_ | refine wE ?_ ?_ | refine wF ?_ ?_ | refine wG ?_ ?_ | refine wH ?_ ?_ | refine wI ?_ ?_ | refine wJ ?_ ?_ | refine wK ?_ ?_ | refine wL ?_ ?_) <;> intro _) | simp (maxSteps := 1000000) (disch := omega) only [go_sem, seval, *])
    have hl1 := encT_take ss (i + 1)
    have hl0 := encT_take ss i
    have hs := encT_snoc ss i hlt
    have hlen := congrArg List.length hs
    simp only [List.length_append, strC_len] at hlen
    have hep := Plain.enc_length_pos ss[i].size
    refine call_mut (putNum_m ss[i].size (by omega) (encT (ss.take i)) (by omega) (f 3) 0 _ _ (BRow.weak hr (Nat.zero_le _) (Nat.le_add_right _ _))) ?_
    rintro H' nx' r' ⟨hn0, hr2, hk2⟩ -
    have hn : m + 11 ≤ nx' := hn0
    clear hn0
    obtain ⟨g0, -⟩ | ⟨id, w, g1, g2, rfl, g3⟩ := hr2
    · have := congrArg List.length g0
      simp only [List.length_append, List.length_nil] at this
      omega
    · have b1 : (encT (ss.take i)).length + ((Plain.enc ss[i].size).length + ss[i].size) ≤ 140737488355328 := by omega
      have b2 : (encT (ss.take i)).length + ((Plain.enc ss[i].size).length + ss[i].size) ≤ 4611686018427387904 := by omega
      have hsz := strC_len ss[i]
      clear hr hk2 hl1 hl0 hlen g1
      repeat' (first | ((with_reducible first | refine wA (by omega) ?_ | refine wB (by omega) ?_ | refine wC (by omega) ?_ | refine wD (by omega) ?_ | refine wE ?_ ?_ | refine wF ?_ ?_ | refine wG ?_ ?_ | refine wH ?_ ?_ | refine wI ?_ ?_ | refine wJ ?_ ?_ | refine wK ?_ ?_ | refine wL ?_ ?_) <;> intro _) | simp (maxSteps := 1000000) (disch := omega) only [go_sem, seval, *])
      refine Nx.mk (ss.length - (i + 1)) (by omega) ⟨i + 1, rfl, cE1, cE1, ?_⟩
      refine Kept.mk (.inr ⟨m + 9, false, Nat.zero_le _, by omega, ?_, ?_⟩)
      · simp only [upd_get, Nat.reduceEqDiff, ↓reduceIte]
        rw [hs]; simp only [List.length_append, hsz]
      · rw [hs]; simp [upd, bC_append]
  · obtain rfl : i = ss.length := by omega
    have hne : encT ss ≠ [] := fun e => by
      cases ss with
      | nil => exact h0 rfl
      | cons x r =>
        have h1 := congrArg List.length e
        have h2 := Plain.enc_length_pos x.size
        simp only [encT, List.flatMap_cons, List.length_append, List.length_nil] at h1
        omega
    rw [List.take_length] at hr
    obtain ⟨g0, e0⟩ | ⟨id, w, g1, g2, e0, g3⟩ := hr
    · exact absurd g0 hne
    · repeat' (first | ((with_reducible first | refine wA (by omega) ?_ | refine wB (by omega) ?_ | refine wC (by omega) ?_ | refine wD (by omega) ?_ | refine wE ?_ ?_ | refine wF ?_ ?_ | refine wG ?_ ?_ | refine wH ?_ ?_ | refine wI ?_ ?_ | refine wJ ?_ ?_ | refine wK ?_ ?_ | refine wL ?_ ?_) <;> intro _) | simp (maxSteps := 1000000) (disch := omega) only [go_sem, seval, *])
      refine fin_ret (r0 := .osl id 0 (encT ss).length 1) 1 cE2 ?_
      exact .of_eq (pk_frz g3)
end
section
inductive Lv where
  | mk (kind n : Int) (args : List Lv)
mutual
def Lv.nodes : Lv → Nat
  | .mk _ _ args => 1 + nodesL args
def nodesL : List Lv → Nat
  | [] => 0
  | x :: r => x.nodes + nodesL r
end
def Lv.pv : Lv → List PV
  | .mk k n args => [.sc (.int .i64 k), .sc (.int .i64 n), .sl 3 (args.map Lv.pv)]
theorem pv_len (l : Lv) : l.pv.length = 3 := by cases l; simp [Lv.pv]
theorem pv_take (l : Lv) : l.pv.take 3 = l.pv := List.take_of_length_le (by rw [pv_len]; omega)
theorem nodesL_take_succ : ∀ (ls : List Lv) (k : Nat) (h : k < ls.length), nodesL (ls.take (k + 1)) = nodesL (ls.take k) + ls[k].nodes
  | x :: r, 0, h => by simp [nodesL]
  | x :: r, k + 1, h => by
    have := nodesL_take_succ r k (by simpa using h)
    simp only [List.take_succ_cons, nodesL, List.getElem_cons_succ, this]
    omega
theorem nodesL_append : ∀ a b : List Lv, nodesL (a ++ b) = nodesL a + nodesL b
  | [], b => by simp [nodesL]
  | x :: r, b => by simp only [List.cons_append, nodesL, nodesL_append r b]; omega
theorem nodesL_take_le (ls : List Lv) (k : Nat) : nodesL (ls.take k) ≤ nodesL ls := by
  have h := nodesL_append (ls.take k) (ls.drop k)
  rw [List.take_append_drop] at h
  omega
theorem nodesL_mem (ls : List Lv) (k : Nat) (h : k < ls.length) : ls[k].nodes ≤ nodesL ls := by
  have h1 := nodesL_take_succ ls k h
  have h2 := nodesL_take_le ls (k + 1)
  omega
theorem nodes_pos (l : Lv) : 0 < l.nodes := by cases l; simp only [Lv.nodes]; omega
theorem nodes_p : ∀ (fuel : Nat) (l : Lv) (most : Nat), l.nodes ≤ fuel ∨ most ≤ fuel → 1 ≤ most → most ≤ 3000 →
    PPure Try.prog F.level_nodes [.ptr l.pv, .sc (.int .i64 most)] (.sc (.int .i64 (min l.nodes most : Nat))) := by
  intro fuel
  induction fuel with
  | zero => intro l most h h1; have := nodes_pos l; omega
  | succ fuel ih =>
    intro l most hf h1 h2
    cases l with
    | mk k n args =>
    simp only [Lv.nodes] at hf
    refine pure_by is_level_nodes (by simp) rfl fun hb nx => ?_
    have hb0 : args.length ≤ 9223372036854775807 := by simp [Lv.pv, bndL, PV.bnd] at hb; exact hb.1
    simp (maxSteps := 1000000) (disch := omega) only [go_sem, seval, mc_level_nodes, Lv.pv]
    refine c_loop (fun j s => ∃ i t : Nat, j = args.length - i ∧ i ≤ args.length ∧ t = min (1 + nodesL (args.take i)) most ∧ s.s 0 = .ptr (Lv.mk k n args).pv ∧ s.s 1 = .sc (.int .i64 most) ∧ s.s 5 = .sc (.int .i64 t) ∧ s.s 11 = .sc (.int .i64 args.length) ∧ s.s 12 = .sc (.int .i64 i)) _ ⟨0, 1, rfl, by omega, by simp [nodesL]; omega, by simp [upd, sigF, sig_eq, Lv.pv]⟩ ?_
    rintro _ s ⟨i, t, rfl, hi, ht, e0, e1, e5, e11, e12⟩
    simp (maxSteps := 1000000) (disch := omega) only [go_sem, seval, Lv.pv, e0, e1, e5, e11, e12]
    by_cases hlt : i < args.length
    · have hs := nodesL_take_succ args i hlt
      have hp := nodes_pos args[i]
      simp (maxSteps := 1000000) (disch := omega) only [go_sem, seval, hlt, Lv.pv, e0, e1, e5, e11, e12]
      by_cases hfull : most ≤ t
      · simp (maxSteps := 1000000) (disch := omega) only [go_sem, seval, hfull, Lv.pv, e0, e1, e5, e11, e12]
        refine fin_tmp (.inr rfl) ?_
        have := nodesL_take_le args i
        simp only [go_sem, seval, Lv.nodes, PV.sc.injEq, Value.int.injEq]
        omega
      · have em : ((most : Int) - t) = ((most - t : Nat) : Int) := by omega
        have eg : args[i]? = some args[i] := List.getElem?_eq_getElem hlt
        simp (maxSteps := 1000000) (disch := omega) only [go_sem, seval, hfull, Lv.pv, e0, e1, e5, e11, e12, em, eg]
        refine call_pure (ih args[i] (most - t) (by have := nodesL_mem args i hlt; omega) (by omega) (by omega)) ?_
        simp (maxSteps := 1000000) (disch := omega) only [go_sem, seval, hfull, Lv.pv, e0, e1, e5, e11, e12, em, eg]
        exact ⟨args.length - (i + 1), by omega, i + 1, t + min args[i].nodes (most - t), rfl, by omega, by omega, by simp, by simp⟩
    · simp (maxSteps := 1000000) (disch := omega) only [go_sem, seval, hlt, Lv.pv, e0, e1, e5, e11, e12]
      refine fin_tmp (.inr rfl) ?_
      have hj : i = args.length := by omega
      subst hj
      rw [List.take_length] at ht
      simp only [go_sem, seval, Lv.nodes, PV.sc.injEq, Value.int.injEq]
      omega
theorem Nodes_p (l : Lv) : PPure Try.prog F.level_Nodes [.agg l.pv] (.sc (.int .i64 (min l.nodes 65 : Nat))) := by
  refine pure_by is_level_Nodes (by simp) rfl fun hb nx => ?_
  simp (maxSteps := 1000000) (disch := omega) only [go_sem, seval, mc_level_Nodes]
  refine call_pure (nodes_p l.nodes l 65 (by omega) (by omega) (by omega)) ?_
  simp (maxSteps := 1000000) (disch := omega) only [go_sem, seval]
  exact fin_tmp (.inr rfl) (by simp [upd])
theorem LevelNodes_p (most : Nat) (hm : most ≤ 1000000) : ∀ (fuel : Nat) (l : Lv), l.nodes ≤ fuel →
    PPure Try.prog F.ref00_LevelNodes [.agg l.pv, .sc (.int .i64 most)] (.sc (.int .i64 (min l.nodes (most + 1) : Nat))) := by
  intro fuel
  induction fuel with
  | zero => intro l h; have := nodes_pos l; omega
  | succ fuel ih =>
    intro l hf
    cases l with
    | mk k n args =>
    simp only [Lv.nodes] at hf
    refine pure_by is_ref00_LevelNodes (by simp) rfl fun hb nx => ?_
    have hb0 : args.length ≤ 9223372036854775807 := by simp [Lv.pv, bndL, PV.bnd] at hb; exact hb.1
    simp (maxSteps := 1000000) (disch := omega) only [go_sem, seval, mc_ref00_LevelNodes, Lv.pv]
    refine c_loop (fun j s => ∃ i t : Nat, j = args.length - i ∧ i ≤ args.length ∧ min t (most + 1) = min (1 + nodesL (args.take i)) (most + 1) ∧ t ≤ 2 * most + 1 ∧ s.s 2 = .ptr (Lv.mk k n args).pv ∧ s.s 1 = .sc (.int .i64 most) ∧ s.s 5 = .sc (.int .i64 t) ∧ s.s 6 = .sc (.int .i64 i)) _ ⟨0, 1, rfl, by omega, by simp [nodesL], by omega, by simp [upd, sigF, sig_eq, Lv.pv]⟩ ?_
    rintro _ s ⟨i, t, rfl, hi, ht, ht2, e2, e1, e5, e6⟩
    by_cases hlt : i < args.length
    · by_cases hfull : t ≤ most
      · have eg : args[i]? = some args[i] := List.getElem?_eq_getElem hlt
        have hs := nodesL_take_succ args i hlt
        simp (maxSteps := 1000000) (disch := omega) only [go_sem, seval, Lv.pv, e1, e2, e5, e6, hlt, hfull, eg, pv_len, pv_take]
        refine call_pure (ih args[i] (by have := nodesL_mem args i hlt; omega)) ?_
        simp (maxSteps := 1000000) (disch := omega) only [go_sem, seval, Lv.pv, e1, e2, e5, e6, hlt, hfull, eg, pv_len, pv_take]
        exact ⟨args.length - (i + 1), by omega, i + 1, t + min args[i].nodes (most + 1), rfl, by omega, by omega, by omega, by simp, by simp⟩
      · simp (maxSteps := 1000000) (disch := omega) only [go_sem, seval, Lv.pv, e1, e2, e5, e6, hlt, hfull]
        refine fin_tmp (.inr rfl) ?_
        have := nodesL_take_le args i
        simp (maxSteps := 1000000) (disch := omega) only [go_sem, seval, Lv.nodes, PV.sc.injEq, Value.int.injEq]
        omega
    · simp (maxSteps := 1000000) (disch := omega) only [go_sem, seval, Lv.pv, e1, e2, e5, e6, hlt]
      refine fin_tmp (.inr rfl) ?_
      have hj : i = args.length := by omega
      subst hj
      rw [List.take_length] at ht
      simp (maxSteps := 1000000) (disch := omega) only [go_sem, seval, Lv.nodes, PV.sc.injEq, Value.int.injEq]
      omega
end
section
mutual
def Lv.formed (np : Int) : Lv → Bool
  | .mk k n args =>
    if k = 1 then decide (0 ≤ n) && (decide (n ≤ 100) && decide (args.length = 0))
    else if k = 2 then decide (0 ≤ n) && (decide (n < np) && decide (args.length = 0))
    else if k = 3 then decide (n = 0) && (decide (args.length = 1) && formedL np args)
    else if k = 4 ∨ k = 5 then decide (n = 0) && (decide (args.length = 2) && formedL np args)
    else false
def formedL (np : Int) : List Lv → Bool
  | [] => true
  | x :: r => x.formed np && formedL np r
end
def B (b : Bool) : PV := .sc (.bool b)
def I (n : Int) : PV := .sc (.int .i64 n)
set_option maxHeartbeats 8000000 in
theorem formed_p (np : Int) : ∀ (fuel : Nat) (l : Lv), l.nodes ≤ fuel → PPure Try.prog F.level_formed [.ptr l.pv, .sc (.int .i64 np)] (.sc (.bool (l.formed np))) := by
  intro fuel
  induction fuel with
  | zero => intro l h; have := nodes_pos l; omega
  | succ fuel ih =>
    intro l hf
    cases l with
    | mk k n args =>
    simp only [Lv.nodes] at hf
    refine pure_by is_level_formed (by simp) rfl fun hb nx => ?_
    by_cases k1 : k = 1
    · subst k1
      by_cases h1 : 0 ≤ n <;> by_cases h2 : n ≤ 100 <;> by_cases h3 : args.length = 0 <;>
        (simp (maxSteps := 1000000) (disch := omega) only [go_sem, seval, mc_level_formed, Lv.pv, h1, h2, h3]
         exact fin_tmp (.inr rfl) (by simp [upd, Lv.formed, h1, h2, h3]))
    · by_cases k2 : k = 2
      · subst k2
        by_cases h1 : 0 ≤ n <;> by_cases h2 : n < np <;> by_cases h3 : args.length = 0 <;>
          (simp (maxSteps := 1000000) (disch := omega) only [go_sem, seval, mc_level_formed, Lv.pv, h1, h2, h3]
           exact fin_tmp (.inr rfl) (by simp [upd, Lv.formed, h1, h2, h3]))
      · by_cases k3 : k = 3
        · subst k3
          by_cases h1 : n = 0
          · subst h1
            by_cases h2 : args.length = 1
            · match args, h2 with
              | [x], _ =>
                have hx := ih x (by simp only [nodesL] at hf; omega)
                simp (maxSteps := 1000000) (disch := omega) only [go_sem, seval, mc_level_formed, Lv.pv]
                refine call_pure hx ?_
                cases hc : x.formed np <;>
                  (simp (maxSteps := 1000000) (disch := omega) only [go_sem, seval, Lv.pv]
                   exact fin_tmp (.inr rfl) (by simp [upd, Lv.formed, formedL, hc]))
            · have h3 : ¬ (args.length : Int) = 1 := by omega
              simp (maxSteps := 1000000) (disch := omega) only [go_sem, seval, mc_level_formed, Lv.pv, h3]
              exact fin_tmp (.inr rfl) (by simp [upd, Lv.formed, h2])
          · simp (maxSteps := 1000000) (disch := omega) only [go_sem, seval, mc_level_formed, Lv.pv, h1]
            exact fin_tmp (.inr rfl) (by simp [upd, Lv.formed, h1])
        · by_cases k45 : k = 4 ∨ k = 5
          · have hk : (Lv.mk k n args).formed np = (decide (n = 0) && (decide (args.length = 2) && formedL np args)) := by simp only [Lv.formed, if_neg k1, if_neg k2, if_neg k3, if_pos k45]
            rcases k45 with rfl | rfl
            all_goals
              by_cases h1 : n = 0
              · subst h1
                by_cases h2 : args.length = 2
                · match args, h2 with
                  | [x, y], _ =>
                    have hx := ih x (by simp only [nodesL] at hf; omega)
                    have hy := ih y (by simp only [nodesL] at hf; omega)
                    simp (maxSteps := 1000000) (disch := omega) only [go_sem, seval, mc_level_formed, Lv.pv]
                    refine call_pure hx ?_
                    cases hc : x.formed np
                    · simp (maxSteps := 1000000) (disch := omega) only [go_sem, seval, Lv.pv]
                      exact fin_tmp (.inr rfl) (by simp [upd, hk, formedL, hc])
                    · simp (maxSteps := 1000000) (disch := omega) only [go_sem, seval, Lv.pv]
                      refine call_pure hy ?_
                      simp (maxSteps := 1000000) (disch := omega) only [go_sem, seval, Lv.pv]
                      exact fin_tmp (.inr rfl) (by simp [upd, hk, formedL, hc])
                · have h3 : ¬ (args.length : Int) = 2 := by omega
                  simp (maxSteps := 1000000) (disch := omega) only [go_sem, seval, mc_level_formed, Lv.pv, h3]
                  exact fin_tmp (.inr rfl) (by simp [upd, hk, h2])
              · simp (maxSteps := 1000000) (disch := omega) only [go_sem, seval, mc_level_formed, Lv.pv, h1]
                exact fin_tmp (.inr rfl) (by simp [upd, hk, h1])
          · have k4 : ¬ k = 4 := fun e => k45 (.inl e)
            have k5 : ¬ k = 5 := fun e => k45 (.inr e)
            simp (maxSteps := 1000000) (disch := omega) only [go_sem, seval, mc_level_formed, Lv.pv, k1, k2, k3, k4, k5]
            exact fin_tmp (.inr rfl) (by simp [upd, Lv.formed, k1, k2, k3, k4, k5])
end
section
attribute [local go_sem] pv_len pv_take
def Lv.right (np : Int) (l : Lv) : Bool := decide (0 ≤ np) && (decide (np ≤ 4) && (decide (l.nodes ≤ 64) && l.formed np))
set_option maxHeartbeats 4000000 in
theorem Right_p (l : Lv) (np : Int) : PPure Try.prog F.level_Right [.agg l.pv, .sc (.int .i64 np)] (.sc (.bool (l.right np))) := by
  refine pure_by is_level_Right (by simp) rfl fun hb nx => ?_
  by_cases h1 : 0 ≤ np
  · by_cases h2 : np ≤ 4
    · simp (maxSteps := 1000000) (disch := omega) only [go_sem, seval, mc_level_Right, h1, h2]
      refine call_pure (Nodes_p l) ?_
      by_cases h3 : l.nodes ≤ 64
      · have h4 : ((min l.nodes 65 : Nat) : Int) ≤ 64 := by omega
        simp (maxSteps := 1000000) (disch := omega) only [go_sem, seval, h1, h2, h4]
        refine call_pure (formed_p np l.nodes l (Nat.le_refl _)) ?_
        simp (maxSteps := 1000000) (disch := omega) only [go_sem, seval]
        exact fin_tmp (.inr rfl) (by simp [upd, Lv.right, h1, h2, h3])
      · have h4 : ¬ ((min l.nodes 65 : Nat) : Int) ≤ 64 := by omega
        simp (maxSteps := 1000000) (disch := omega) only [go_sem, seval, h1, h2, h4]
        exact fin_tmp (.inr rfl) (by simp [upd, Lv.right, h1, h2, h3])
    · simp (maxSteps := 1000000) (disch := omega) only [go_sem, seval, mc_level_Right, h1, h2]
      exact fin_tmp (.inr rfl) (by simp [upd, Lv.right, h2])
  · simp (maxSteps := 1000000) (disch := omega) only [go_sem, seval, mc_level_Right, h1]
    exact fin_tmp (.inr rfl) (by simp [upd, Lv.right, h1])
theorem formedL_take (np : Int) : ∀ (ls : List Lv) (k : Nat) (h : k < ls.length), formedL np (ls.take (k + 1)) = (formedL np (ls.take k) && ls[k].formed np)
  | x :: r, 0, h => by simp [formedL]
  | x :: r, k + 1, h => by
    have := formedL_take np r k (by simpa using h)
    simp only [List.take_succ_cons, formedL, List.getElem_cons_succ, this, Bool.and_assoc]
theorem formedL_all (np : Int) : ∀ (ls : List Lv) (k : Nat), formedL np ls = true → formedL np (ls.take k) = true
  | [], k, h => by simp [formedL]
  | x :: r, 0, h => by simp [formedL]
  | x :: r, k + 1, h => by
    simp only [formedL, Bool.and_eq_true, List.take_succ_cons] at h ⊢
    exact ⟨h.1, formedL_all np r k h.2⟩
set_option maxHeartbeats 8000000 in
theorem ref_right_p (np : Int) : ∀ (fuel : Nat) (l : Lv), l.nodes ≤ fuel → PPure Try.prog F.ref03_right [.agg l.pv, .sc (.int .i64 np)] (.sc (.bool (l.formed np))) := by
  intro fuel
  induction fuel with
  | zero => intro l h; have := nodes_pos l; omega
  | succ fuel ih =>
    intro l hf
    cases l with
    | mk k n args =>
    simp only [Lv.nodes] at hf
    refine pure_by is_ref03_right (by simp) rfl fun hb nx => ?_
    by_cases k1 : k = 1
    · subst k1
      by_cases h1 : 0 ≤ n <;> by_cases h2 : n ≤ 100 <;> by_cases h3 : args.length = 0 <;>
        (simp (maxSteps := 1000000) (disch := omega) only [go_sem, seval, mc_ref03_right, Lv.pv, h1, h2, h3]
         exact fin_tmp (.inr rfl) (by simp [upd, Lv.formed, h1, h2, h3]))
    · by_cases k2 : k = 2
      · subst k2
        by_cases h1 : 0 ≤ n <;> by_cases h2 : n < np <;> by_cases h3 : args.length = 0 <;>
          (simp (maxSteps := 1000000) (disch := omega) only [go_sem, seval, mc_ref03_right, Lv.pv, h1, h2, h3]
           exact fin_tmp (.inr rfl) (by simp [upd, Lv.formed, h1, h2, h3]))
      · by_cases k345 : k = 3 ∨ k = 4 ∨ k = 5
        · rcases k345 with rfl | rfl | rfl
          · have hk : (Lv.mk 3 n args).formed np = (decide (n = 0) && (decide (args.length = 1) && formedL np args)) := by simp [Lv.formed]
            by_cases h1 : n = 0
            · subst h1
              by_cases h2 : args.length = 1
              · have h3 : (args.length : Int) = 1 := by omega
                simp (maxSteps := 1000000) (disch := omega) only [go_sem, seval, mc_ref03_right, Lv.pv, h3]
                refine c_loop (fun j s => ∃ i : Nat, j = 1 - i ∧ i ≤ 1 ∧ formedL np (args.take i) = true ∧ s.s 2 = .ptr (Lv.mk 3 0 args).pv ∧ s.s 1 = .sc (.int .i64 np) ∧ s.s 5 = .sc (.int .i64 1) ∧ s.s 6 = .sc (.int .i64 i)) _ ⟨0, rfl, by omega, by simp [formedL], by simp [upd, sigF, sig_eq, Lv.pv]⟩ ?_
                rintro _ s ⟨i, rfl, hi, ht, e2, e1, ew, ei⟩
                by_cases hlt : i < 1
                · have hlt2 : i < args.length := by omega
                  have hlt3 : (i : Int) < 1 := by omega
                  have eg : args[i]? = some args[i] := List.getElem?_eq_getElem hlt2
                  simp (maxSteps := 1000000) (disch := omega) only [go_sem, seval, Lv.pv, e1, e2, ew, ei, hlt3, eg, pv_len, pv_take]
                  refine call_pure (ih args[i] (by have := nodesL_mem args i hlt2; omega)) ?_
                  have hfs := formedL_take np args i hlt2
                  cases hc : args[i].formed np
                  · simp (maxSteps := 1000000) (disch := omega) only [go_sem, seval, Lv.pv]
                    refine fin_tmp (.inr rfl) ?_
                    rw [hk]
                    have : formedL np args = false := by
                      cases hh : formedL np args with
                      | false => rfl
                      | true =>
                        have := formedL_all np args (i + 1) hh
                        rw [hfs, hc, ht] at this
                        cases this
                    simp [upd, this]
                  · simp (maxSteps := 1000000) (disch := omega) only [go_sem, seval, Lv.pv, e1, e2, ew, ei]
                    exact ⟨1 - (i + 1), by omega, i + 1, rfl, by omega, by rw [hfs, hc, ht]; rfl, by simp⟩
                · have hlt3 : ¬ (i : Int) < 1 := by omega
                  simp (maxSteps := 1000000) (disch := omega) only [go_sem, seval, Lv.pv, e1, e2, ew, ei, hlt3]
                  refine fin_tmp (.inr rfl) ?_
                  rw [hk]
                  rw [List.take_of_length_le (by omega)] at ht
                  simp [upd, ht, h2]
              · have h3 : ¬ (args.length : Int) = 1 := by omega
                simp (maxSteps := 1000000) (disch := omega) only [go_sem, seval, mc_ref03_right, Lv.pv, h3]
                exact fin_tmp (.inr rfl) (by simp [upd, hk, h2])
            · simp (maxSteps := 1000000) (disch := omega) only [go_sem, seval, mc_ref03_right, Lv.pv, h1]
              exact fin_tmp (.inr rfl) (by simp [upd, hk, h1])
          · have hk : (Lv.mk 4 n args).formed np = (decide (n = 0) && (decide (args.length = 2) && formedL np args)) := by simp [Lv.formed]
            by_cases h1 : n = 0
            · subst h1
              by_cases h2 : args.length = 2
              · have h3 : (args.length : Int) = 2 := by omega
                simp (maxSteps := 1000000) (disch := omega) only [go_sem, seval, mc_ref03_right, Lv.pv, h3]
                refine c_loop (fun j s => ∃ i : Nat, j = 2 - i ∧ i ≤ 2 ∧ formedL np (args.take i) = true ∧ s.s 2 = .ptr (Lv.mk 4 0 args).pv ∧ s.s 1 = .sc (.int .i64 np) ∧ s.s 5 = .sc (.int .i64 2) ∧ s.s 6 = .sc (.int .i64 i)) _ ⟨0, rfl, by omega, by simp [formedL], by simp [upd, sigF, sig_eq, Lv.pv]⟩ ?_
                rintro _ s ⟨i, rfl, hi, ht, e2, e1, ew, ei⟩
                by_cases hlt : i < 2
                · have hlt2 : i < args.length := by omega
                  have hlt3 : (i : Int) < 2 := by omega
                  have eg : args[i]? = some args[i] := List.getElem?_eq_getElem hlt2
                  simp (maxSteps := 1000000) (disch := omega) only [go_sem, seval, Lv.pv, e1, e2, ew, ei, hlt3, eg, pv_len, pv_take]
                  refine call_pure (ih args[i] (by have := nodesL_mem args i hlt2; omega)) ?_
                  have hfs := formedL_take np args i hlt2
                  cases hc : args[i].formed np
                  · simp (maxSteps := 1000000) (disch := omega) only [go_sem, seval, Lv.pv]
                    refine fin_tmp (.inr rfl) ?_
                    rw [hk]
                    have : formedL np args = false := by
                      cases hh : formedL np args with
                      | false => rfl
                      | true =>
                        have := formedL_all np args (i + 1) hh
                        rw [hfs, hc, ht] at this
                        cases this
                    simp [upd, this]
                  · simp (maxSteps := 1000000) (disch := omega) only [go_sem, seval, Lv.pv, e1, e2, ew, ei]
                    exact ⟨2 - (i + 1), by omega, i + 1, rfl, by omega, by rw [hfs, hc, ht]; rfl, by simp⟩
                · have hlt3 : ¬ (i : Int) < 2 := by omega
                  simp (maxSteps := 1000000) (disch := omega) only [go_sem, seval, Lv.pv, e1, e2, ew, ei, hlt3]
                  refine fin_tmp (.inr rfl) ?_
                  rw [hk]
                  rw [List.take_of_length_le (by omega)] at ht
                  simp [upd, ht, h2]
              · have h3 : ¬ (args.length : Int) = 2 := by omega
                simp (maxSteps := 1000000) (disch := omega) only [go_sem, seval, mc_ref03_right, Lv.pv, h3]
                exact fin_tmp (.inr rfl) (by simp [upd, hk, h2])
            · simp (maxSteps := 1000000) (disch := omega) only [go_sem, seval, mc_ref03_right, Lv.pv, h1]
              exact fin_tmp (.inr rfl) (by simp [upd, hk, h1])
          · have hk : (Lv.mk 5 n args).formed np = (decide (n = 0) && (decide (args.length = 2) && formedL np args)) := by simp [Lv.formed]
            by_cases h1 : n = 0
            · subst h1
              by_cases h2 : args.length = 2
              · have h3 : (args.length : Int) = 2 := by omega
                simp (maxSteps := 1000000) (disch := omega) only [go_sem, seval, mc_ref03_right, Lv.pv, h3]
                refine c_loop (fun j s => ∃ i : Nat, j = 2 - i ∧ i ≤ 2 ∧ formedL np (args.take i) = true ∧ s.s 2 = .ptr (Lv.mk 5 0 args).pv ∧ s.s 1 = .sc (.int .i64 np) ∧ s.s 5 = .sc (.int .i64 2) ∧ s.s 6 = .sc (.int .i64 i)) _ ⟨0, rfl, by omega, by simp [formedL], by simp [upd, sigF, sig_eq, Lv.pv]⟩ ?_
                rintro _ s ⟨i, rfl, hi, ht, e2, e1, ew, ei⟩
                by_cases hlt : i < 2
                · have hlt2 : i < args.length := by omega
                  have hlt3 : (i : Int) < 2 := by omega
                  have eg : args[i]? = some args[i] := List.getElem?_eq_getElem hlt2
                  simp (maxSteps := 1000000) (disch := omega) only [go_sem, seval, Lv.pv, e1, e2, ew, ei, hlt3, eg, pv_len, pv_take]
                  refine call_pure (ih args[i] (by have := nodesL_mem args i hlt2; omega)) ?_
                  have hfs := formedL_take np args i hlt2
                  cases hc : args[i].formed np
                  · simp (maxSteps := 1000000) (disch := omega) only [go_sem, seval, Lv.pv]
                    refine fin_tmp (.inr rfl) ?_
                    rw [hk]
                    have : formedL np args = false := by
                      cases hh : formedL np args with
                      | false => rfl
                      | true =>
                        have := formedL_all np args (i + 1) hh
                        rw [hfs, hc, ht] at this
                        cases this
                    simp [upd, this]
                  · simp (maxSteps := 1000000) (disch := omega) only [go_sem, seval, Lv.pv, e1, e2, ew, ei]
                    exact ⟨2 - (i + 1), by omega, i + 1, rfl, by omega, by rw [hfs, hc, ht]; rfl, by simp⟩
                · have hlt3 : ¬ (i : Int) < 2 := by omega
                  simp (maxSteps := 1000000) (disch := omega) only [go_sem, seval, Lv.pv, e1, e2, ew, ei, hlt3]
                  refine fin_tmp (.inr rfl) ?_
                  rw [hk]
                  rw [List.take_of_length_le (by omega)] at ht
                  simp [upd, ht, h2]
              · have h3 : ¬ (args.length : Int) = 2 := by omega
                simp (maxSteps := 1000000) (disch := omega) only [go_sem, seval, mc_ref03_right, Lv.pv, h3]
                exact fin_tmp (.inr rfl) (by simp [upd, hk, h2])
            · simp (maxSteps := 1000000) (disch := omega) only [go_sem, seval, mc_ref03_right, Lv.pv, h1]
              exact fin_tmp (.inr rfl) (by simp [upd, hk, h1])
        · have k3 : ¬ k = 3 := fun e => k345 (.inl e)
          have k4 : ¬ k = 4 := fun e => k345 (.inr (.inl e))
          have k5 : ¬ k = 5 := fun e => k345 (.inr (.inr e))
          simp (maxSteps := 1000000) (disch := omega) only [go_sem, seval, mc_ref03_right, Lv.pv, k1, k2, k3, k4, k5]
          exact fin_tmp (.inr rfl) (by simp [upd, Lv.formed, k1, k2, k3, k4, k5])
end
section
set_option maxRecDepth 20000
attribute [local go_sem] Nat.add_assoc id_ne id_ne' id_ne2 List.append_assoc bC_len bC_one pv_take
mutual
def Lv.enc : Lv → List UInt8
  | .mk k n args => Plain.enc k.toNat ++ ((if k = 1 ∨ k = 2 then Plain.enc n.toNat else []) ++ encLs args)
def encLs : List Lv → List UInt8
  | [] => []
  | x :: r => x.enc ++ encLs r
end
theorem encs_one (n : Nat) : encs [n] = Plain.enc n := by simp [encs]
theorem encLs_snoc : ∀ (ls : List Lv) (i : Nat) (h : i < ls.length), encLs (ls.take (i + 1)) = encLs (ls.take i) ++ ls[i].enc
  | x :: r, 0, h => by simp [encLs]
  | x :: r, i + 1, h => by
    have := encLs_snoc r i (by simpa using h)
    simp only [List.take_succ_cons, encLs, List.getElem_cons_succ, this, List.append_assoc]
theorem pk_num {np : Int} (hnp : np ≤ 4) {k n : Int} {args : List Lv} (h : (Lv.mk k n args).formed np = true) : (1 ≤ k ∧ k ≤ 5) ∧ (0 ≤ n ∧ n ≤ 100) ∧ formedL np args = true ∧ (k = 1 ∨ k = 2 → args = []) := by
  unfold Lv.formed at h
  split at h
  · simp only [Bool.and_eq_true, decide_eq_true_eq] at h
    obtain ⟨h1, h2, h3⟩ := h
    obtain rfl := List.eq_nil_of_length_eq_zero h3
    exact ⟨by omega, by omega, rfl, fun _ => rfl⟩
  · split at h
    · simp only [Bool.and_eq_true, decide_eq_true_eq] at h
      obtain ⟨h1, h2, h3⟩ := h
      obtain rfl := List.eq_nil_of_length_eq_zero h3
      exact ⟨by omega, by omega, rfl, fun _ => rfl⟩
    · split at h
      · simp only [Bool.and_eq_true, decide_eq_true_eq] at h
        exact ⟨by omega, by omega, h.2.2, fun _ => by omega⟩
      · split at h
        · simp only [Bool.and_eq_true, decide_eq_true_eq] at h
          exact ⟨by omega, by omega, h.2.2, fun _ => by omega⟩
        · cases h
theorem formedL_mem {np : Int} : ∀ (ls : List Lv) (i : Nat) (h : i < ls.length), formedL np ls = true → ls[i].formed np = true
  | x :: r, 0, h, hf => by simp only [formedL, Bool.and_eq_true] at hf; exact hf.1
  | x :: r, i + 1, h, hf => by simp only [formedL, Bool.and_eq_true] at hf; exact formedL_mem r i (by simpa using h) hf.2
mutual
theorem Lv.enc_len {np : Int} (hnp : np ≤ 4) : ∀ l : Lv, l.formed np = true → l.enc.length ≤ 12 * l.nodes
  | .mk k n args, h => by
    obtain ⟨h1, h2, h3, h4⟩ := pk_num hnp h
    have a1 := enc_len6 k.toNat (by omega)
    have a2 := enc_len6 n.toNat (by omega)
    have a3 := encLs_len hnp args h3
    simp only [Lv.enc, Lv.nodes, List.length_append]
    split
    · omega
    · simp only [List.length_nil]; omega
theorem encLs_len {np : Int} (hnp : np ≤ 4) : ∀ ls : List Lv, formedL np ls = true → (encLs ls).length ≤ 12 * nodesL ls
  | [], _ => Nat.le_refl _
  | x :: r, h => by
    simp only [formedL, Bool.and_eq_true] at h
    have a1 := Lv.enc_len hnp x h.1
    have a2 := encLs_len hnp r h.2
    simp only [encLs, nodesL, List.length_append]
    omega
end
theorem BRow.lead {H : Nat → Option PObj} {lo m : Nat} {a : PV} {l : List UInt8} (h : BRow H lo m a l) {j : Nat} (hj : j < lo) : ¬ leadB a j := by
  obtain ⟨_, rfl⟩ | ⟨id, w, g1, g2, rfl, g4⟩ := h
  · exact fun h => h
  · intro e
    have : j = id := e
    omega
set_option maxHeartbeats 8000000 in
theorem putLevel_m {np : Int} (hnp : np ≤ 4) : ∀ (fuel : Nat) (l : Lv), l.nodes ≤ fuel → l.formed np = true → ∀ (b : List UInt8), b.length + 12 * l.nodes ≤ 2 ^ 40 → ∀ (a : PV) (lo : Nat) (H : Nat → Option PObj) (nx : Nat), BRow H lo nx a b →
    PMut Try.prog F.pack_putLevel [a, .ptr l.pv] H nx (fun H' nx' r => nx ≤ nx' ∧ BRow H' nx nx' r (b ++ l.enc) ∧ ∀ j, j < nx → ¬ leadB a j → H' j = H j) := by
  intro fuel
  induction fuel with
  | zero => intro l h; have := nodes_pos l; omega
  | succ fuel ih =>
  intro l hn hf b hb a lo H nx ha
  cases l with
  | mk k n args =>
  obtain ⟨hk, hn1, hfa, hnil⟩ := pk_num hnp hf
  clear hf
  simp only [Lv.nodes] at hn hb
  refine mut_by is_pack_putLevel (by simp) fun hbn => ?_
  have hb0 : args.length ≤ 9223372036854775807 := by simp [Lv.pv, bndL, PV.bnd] at hbn; exact hbn.2.1
  clear hbn
  obtain ⟨k, rfl⟩ : ∃ k' : Nat, k = k' := ⟨k.toNat, by omega⟩
  obtain ⟨n, rfl⟩ : ∃ n' : Nat, n = n' := ⟨n.toNat, by omega⟩
  repeat' (first | ((with_reducible first | refine wA (by omega) ?_ | refine wB (by omega) ?_ | refine wC (by omega) ?_ | refine wD (by omega) ?_ | refine wE ?_ ?_ | refine wF ?_ ?_ | refine wG ?_ ?_ | refine wH ?_ ?_ | refine wI ?_ ?_ | refine wJ ?_ ?_ | refine wK ?_ ?_ | refine wL ?_ ?_) <;> intro _) | simp (maxSteps := 1000000) (disch := omega) only [go_sem, seval, mc_pack_putLevel, Lv.pv, *])
  refine call_mut (put_m [k] (by simp; omega) (by simp) (by simp) b (by omega) a lo H _ (BRow.weak ha (Nat.le_refl _) (Nat.le_add_right _ _))) ?_
  rintro H1 m1 r1 ⟨hm0, hr0, hk0⟩ -
  have hm1 : nx + 9 ≤ m1 := hm0
  have hr1 : Kept (BRow H1 (nx + 9) m1 r1 (b ++ Plain.enc k)) := by rw [← encs_one]; exact hr0
  have hk1 : Kept (∀ j, j < nx → ¬ leadB a j → H1 j = H j) := fun j g1 g2 => hk0 j (Nat.lt_of_lt_of_le g1 (Nat.le_add_right _ _)) g2
  clear hm0 hr0 hk0 ha
  have hek := enc_len6 k (by omega)
  have hen := enc_len6 n (by omega)
  obtain rfl | rfl | ⟨h1, h2⟩ : k = 1 ∨ k = 2 ∨ (k ≠ 1 ∧ k ≠ 2) := by omega
  · obtain rfl := hnil (.inl rfl)
    repeat' (first | ((with_reducible first | refine wA (by omega) ?_ | refine wB (by omega) ?_ | refine wC (by omega) ?_ | refine wD (by omega) ?_ | refine wE ?_ ?_ | refine wF ?_ ?_ | refine wG ?_ ?_ | refine wH ?_ ?_ | refine wI ?_ ?_ | refine wJ ?_ ?_ | refine wK ?_ ?_ | refine wL ?_ ?_) <;> intro _) | simp (maxSteps := 1000000) (disch := omega) only [go_sem, seval, *])
    refine call_mut (put_m [n] (by simp; omega) (by simp) (by simp) (b ++ Plain.enc 1) (by simp only [List.length_append]; omega) r1 (nx + 9) H1 _ (BRow.weak hr1 (Nat.le_refl _) (Nat.le_add_right _ _))) ?_
    rintro H2 m2 r2 ⟨hm0, hr0, hk0⟩ -
    have hm2 : m1 + 20 ≤ m2 := hm0
    have hr2 : Kept (BRow H2 nx m2 r2 ((b ++ Plain.enc 1) ++ Plain.enc n)) := by rw [← encs_one n]; exact BRow.weak hr0 (by show nx ≤ m1 + 20; omega) (Nat.le_refl _)
    have hk2 : Kept (∀ j, j < nx → ¬ leadB a j → H2 j = H j) := fun j g1 g2 => by
      rw [hk0 j (show j < m1 + 20 by omega) (BRow.lead hr1 (by omega))]; exact hk1 j g1 g2
    clear hm0 hr0 hk0 hr1 hk1
    repeat' (first | ((with_reducible first | refine wA (by omega) ?_ | refine wB (by omega) ?_ | refine wC (by omega) ?_ | refine wD (by omega) ?_ | refine wE ?_ ?_ | refine wF ?_ ?_ | refine wG ?_ ?_ | refine wH ?_ ?_ | refine wI ?_ ?_ | refine wJ ?_ ?_ | refine wK ?_ ?_ | refine wL ?_ ?_) <;> intro _) | simp (maxSteps := 1000000) (disch := omega) only [go_sem, seval, *])
    refine c_rounds 1 ?_
    repeat' (first | ((with_reducible first | refine wA (by omega) ?_ | refine wB (by omega) ?_ | refine wC (by omega) ?_ | refine wD (by omega) ?_ | refine wE ?_ ?_ | refine wF ?_ ?_ | refine wG ?_ ?_ | refine wH ?_ ?_ | refine wI ?_ ?_ | refine wJ ?_ ?_ | refine wK ?_ ?_ | refine wL ?_ ?_) <;> intro _) | simp (maxSteps := 1000000) (disch := omega) only [go_sem, seval, rounds_next, *])
    refine fin_mut r2 (.inr rfl) rfl ⟨?g1, ?g2, hk2⟩
    case g1 => show nx ≤ m2 + _; omega
    case g2 => simp only [Lv.enc, encLs, Int.toNat_natCast]; simpa using BRow.weak hr2 (Nat.le_refl _) (Nat.le_add_right _ _)
  · obtain rfl := hnil (.inr rfl)
    repeat' (first | ((with_reducible first | refine wA (by omega) ?_ | refine wB (by omega) ?_ | refine wC (by omega) ?_ | refine wD (by omega) ?_ | refine wE ?_ ?_ | refine wF ?_ ?_ | refine wG ?_ ?_ | refine wH ?_ ?_ | refine wI ?_ ?_ | refine wJ ?_ ?_ | refine wK ?_ ?_ | refine wL ?_ ?_) <;> intro _) | simp (maxSteps := 1000000) (disch := omega) only [go_sem, seval, *])
    refine call_mut (put_m [n] (by simp; omega) (by simp) (by simp) (b ++ Plain.enc 2) (by simp only [List.length_append]; omega) r1 (nx + 9) H1 _ (BRow.weak hr1 (Nat.le_refl _) (Nat.le_add_right _ _))) ?_
    rintro H2 m2 r2 ⟨hm0, hr0, hk0⟩ -
    have hm2 : m1 + 20 ≤ m2 := hm0
    have hr2 : Kept (BRow H2 nx m2 r2 ((b ++ Plain.enc 2) ++ Plain.enc n)) := by rw [← encs_one n]; exact BRow.weak hr0 (by show nx ≤ m1 + 20; omega) (Nat.le_refl _)
    have hk2 : Kept (∀ j, j < nx → ¬ leadB a j → H2 j = H j) := fun j g1 g2 => by
      rw [hk0 j (show j < m1 + 20 by omega) (BRow.lead hr1 (by omega))]; exact hk1 j g1 g2
    clear hm0 hr0 hk0 hr1 hk1
    repeat' (first | ((with_reducible first | refine wA (by omega) ?_ | refine wB (by omega) ?_ | refine wC (by omega) ?_ | refine wD (by omega) ?_ | refine wE ?_ ?_ | refine wF ?_ ?_ | refine wG ?_ ?_ | refine wH ?_ ?_ | refine wI ?_ ?_ | refine wJ ?_ ?_ | refine wK ?_ ?_ | refine wL ?_ ?_) <;> intro _) | simp (maxSteps := 1000000) (disch := omega) only [go_sem, seval, *])
    refine c_rounds 1 ?_
    repeat' (first | ((with_reducible first | refine wA (by omega) ?_ | refine wB (by omega) ?_ | refine wC (by omega) ?_ | refine wD (by omega) ?_ | refine wE ?_ ?_ | refine wF ?_ ?_ | refine wG ?_ ?_ | refine wH ?_ ?_ | refine wI ?_ ?_ | refine wJ ?_ ?_ | refine wK ?_ ?_ | refine wL ?_ ?_) <;> intro _) | simp (maxSteps := 1000000) (disch := omega) only [go_sem, seval, rounds_next, *])
    refine fin_mut r2 (.inr rfl) rfl ⟨?g1, ?g2, hk2⟩
    case g1 => show nx ≤ m2 + _; omega
    case g2 => simp only [Lv.enc, encLs, Int.toNat_natCast]; simpa using BRow.weak hr2 (Nat.le_refl _) (Nat.le_add_right _ _)
  · repeat' (first | ((with_reducible first | refine wA (by omega) ?_ | refine wB (by omega) ?_ | refine wC (by omega) ?_ | refine wD (by omega) ?_ | refine wE ?_ ?_ | refine wF ?_ ?_ | refine wG ?_ ?_ | refine wH ?_ ?_ | refine wI ?_ ?_ | refine wJ ?_ ?_ | refine wK ?_ ?_ | refine wL ?_ ?_) <;> intro _) | simp (maxSteps := 1000000) (disch := omega) only [go_sem, seval, *])
    refine c_loopW 562812514467873 (by kernel_rfl) (fun j f H2 m => ∃ i : Nat, j = args.length - i ∧ i ≤ args.length ∧ f 37 = .sc (.int .i64 i) ∧ nx ≤ m ∧ Kept (BRow H2 nx m (f 0) (b ++ Plain.enc k ++ encLs (args.take i))) ∧ Kept (∀ j, j < nx → ¬ leadB a j → H2 j = H j)) _ ⟨0, rfl, Nat.zero_le _, cE1, ?mm, ?rr, hk1⟩ ?_
    case mm => show nx ≤ m1 + 18; omega
    case rr =>
      refine Kept.mk ?_
      simp only [upd_get, Nat.reduceEqDiff, ↓reduceIte, List.take_zero, encLs, List.append_nil]
      exact BRow.weak hr1 (show nx ≤ nx + 9 by omega) (show m1 ≤ m1 + 18 by omega)
    rintro _ f H2 m ⟨i, rfl, hi, e37, hm, hr, hkk⟩
    by_cases hlt : i < args.length
    · have eg : args[i]? = some args[i] := List.getElem?_eq_getElem hlt
      have hnm := nodesL_mem args i hlt
      repeat' (first | ((with_reducible first | refine wA (by omega) ?_ | refine wB (by omega) ?_ | refine wC (by omega) ?_ | refine wD (by omega) ?_ | refine wE ?_ ?_ | refine wF ?_ ?_ | refine wG ?_ ?_ | refine wH ?_ ?_ | refine wI ?_ ?_ | refine wJ ?_ ?_ | refine wK ?_ ?_ | refine wL ?_ ?_) <;> intro _) | simp (maxSteps := 1000000) (disch := omega) only [go_sem, seval, *])
      have a1 := encLs_len hnp (args.take i) (formedL_all np args i hfa)
      have a2 := nodesL_take_succ args i hlt
      have a3 := nodesL_take_le args (i + 1)
      refine call_mut (ih args[i] (by omega) (formedL_mem args i hlt hfa) (b ++ Plain.enc k ++ encLs (args.take i)) (by simp only [List.length_append]; omega) (f 0) nx H2 _ (BRow.weak hr (Nat.le_refl _) (Nat.le_add_right _ _))) ?_
      rintro H3 m3 r3 ⟨hm0, hr0, hk0⟩ -
      have hm3 : m ≤ m3 := Nat.le_trans (Nat.le_add_right _ _) hm0
      have hr3 : Kept (BRow H3 nx m3 r3 (b ++ Plain.enc k ++ encLs (args.take (i + 1)))) := by
        rw [encLs_snoc args i hlt, ← List.append_assoc]
        exact BRow.weak hr0 (Nat.le_trans hm (Nat.le_add_right _ _)) (Nat.le_refl _)
      have hk3 : Kept (∀ j, j < nx → ¬ leadB a j → H3 j = H j) := fun j g1 g2 => by
        rw [hk0 j (Nat.lt_of_lt_of_le g1 (Nat.le_trans hm (Nat.le_add_right _ _))) (BRow.lead hr g1)]; exact hkk j g1 g2
      clear hm0 hr0 hk0 hr hkk a1 a2 a3
      repeat' (first | ((with_reducible first | refine wA (by omega) ?_ | refine wB (by omega) ?_ | refine wC (by omega) ?_ | refine wD (by omega) ?_ | refine wE ?_ ?_ | refine wF ?_ ?_ | refine wG ?_ ?_ | refine wH ?_ ?_ | refine wI ?_ ?_ | refine wJ ?_ ?_ | refine wK ?_ ?_ | refine wL ?_ ?_) <;> intro _) | simp (maxSteps := 1000000) (disch := omega) only [go_sem, seval, *])
      refine Nx.mk (args.length - (i + 1)) (by omega) ⟨i + 1, rfl, cE1, cE1, ?mm, ?rr, hk3⟩
      case mm => exact Nat.le_trans hm (Nat.le_trans hm3 (Nat.le_add_right _ _))
      case rr =>
        refine Kept.mk ?_
        simp only [upd_get, Nat.reduceEqDiff, ↓reduceIte]
        simp only [List.append_assoc] at hr3 ⊢
        exact BRow.weak hr3 (Nat.le_refl _) (Nat.le_add_right _ _)
    · obtain rfl : i = args.length := by omega
      rw [List.take_length] at hr
      repeat' (first | ((with_reducible first | refine wA (by omega) ?_ | refine wB (by omega) ?_ | refine wC (by omega) ?_ | refine wD (by omega) ?_ | refine wE ?_ ?_ | refine wF ?_ ?_ | refine wG ?_ ?_ | refine wH ?_ ?_ | refine wI ?_ ?_ | refine wJ ?_ ?_ | refine wK ?_ ?_ | refine wL ?_ ?_) <;> intro _) | simp (maxSteps := 1000000) (disch := omega) only [go_sem, seval, *])
      refine fin_mut (f 0) (.inr rfl) rfl ⟨Nat.le_trans hm (Nat.le_add_right _ _), ?g2, hkk⟩
      case g2 =>
        simp only [Lv.enc, Int.toNat_natCast]
        rw [if_neg (by omega), List.nil_append, ← List.append_assoc]
        exact BRow.weak hr (Nat.le_refl _) (Nat.le_add_right _ _)
end
section
attribute [local go_sem] pv_len pv_take
def parV (vs : List Int) (n : Int) : Int := if (vs.length : Int) ≤ n then 0 else min (max (vs.getD n.toNat 0) 0) 1048576
def comb (vs : List Int) (k n : Int) (xs : List Int) : Int :=
  if k = 1 then n
  else if k = 2 then parV vs n
  else if k = 3 then 1 + xs.getD 0 0
  else if k = 5 ∧ xs.getD 1 0 = 0 then 0
  else max (xs.getD 0 0) (xs.getD 1 0)
mutual
def Lv.val (vs : List Int) : Lv → Int
  | .mk k n args => comb vs k n (valL vs args)
def valL (vs : List Int) : List Lv → List Int
  | [] => []
  | x :: r => x.val vs :: valL vs r
end
set_option maxHeartbeats 4000000 in
theorem ref_Right_p (l : Lv) (np : Int) : PPure Try.prog F.ref03_Right [.agg l.pv, .sc (.int .i64 np)] (.sc (.bool (l.right np))) := by
  refine pure_by is_ref03_Right (by simp) rfl fun hb nx => ?_
  by_cases h1 : 0 ≤ np
  · by_cases h2 : np ≤ 4
    · simp (maxSteps := 1000000) (disch := omega) only [go_sem, seval, mc_ref03_Right, h1, h2]
      refine call_pure (LevelNodes_p 64 (by omega) l.nodes l (Nat.le_refl _)) ?_
      by_cases h3 : l.nodes ≤ 64
      · have h4 : ((min l.nodes (64 + 1) : Nat) : Int) ≤ 64 := by omega
        have h5 : ((min l.nodes 65 : Nat) : Int) ≤ 64 := by omega
        simp (maxSteps := 1000000) (disch := omega) only [go_sem, seval, h1, h2, h4, h5]
        refine call_pure (ref_right_p np l.nodes l (Nat.le_refl _)) ?_
        simp (maxSteps := 1000000) (disch := omega) only [go_sem, seval]
        exact fin_tmp (.inr rfl) (by simp [upd, Lv.right, h1, h2, h3])
      · have h4 : ¬ ((min l.nodes (64 + 1) : Nat) : Int) ≤ 64 := by omega
        have h5 : ¬ ((min l.nodes 65 : Nat) : Int) ≤ 64 := by omega
        simp (maxSteps := 1000000) (disch := omega) only [go_sem, seval, h1, h2, h4, h5]
        exact fin_tmp (.inr rfl) (by simp [upd, Lv.right, h1, h2, h3])
    · simp (maxSteps := 1000000) (disch := omega) only [go_sem, seval, mc_ref03_Right, h1, h2]
      exact fin_tmp (.inr rfl) (by simp [upd, Lv.right, h2])
  · simp (maxSteps := 1000000) (disch := omega) only [go_sem, seval, mc_ref03_Right, h1]
    exact fin_tmp (.inr rfl) (by simp [upd, Lv.right, h1])
def Lv.value (l : Lv) (vs : List Int) : Int := if l.right 4 = true then l.val vs else 0
end
section
set_option maxRecDepth 20000
attribute [local go_sem] Nat.add_assoc
def plainB (r : Int) (first : Bool) : Bool :=
  if r = 95 ∨ (97 ≤ r ∧ r ≤ 122) then true else if r = 46 ∨ (48 ≤ r ∧ r ≤ 57) then !first else false
def scan : Bool → List UInt8 → Option Bool
  | st, [] => some st
  | st, c :: r => if plainB c.toNat st = true then scan (decide ((c.toNat : Int) = 46)) r else none
def nameB (s : ByteArray) : Bool := decide (s.size ≤ 40) && (scan true s.data.toList == some false)
theorem name_plain_p (r : Int) (first : Bool) : PPure Try.prog F.name_plain [.sc (.int .i32 r), .sc (.bool first)] (.sc (.bool (plainB r first))) := by
  refine pure_by is_name_plain (by simp) rfl fun hb nx => ?_
  repeat' (first | ((with_reducible first | refine wA (by omega) ?_ | refine wB (by omega) ?_ | refine wC (by omega) ?_ | refine wD (by omega) ?_ | refine wE ?_ ?_ | refine wF ?_ ?_ | refine wG ?_ ?_ | refine wH ?_ ?_ | refine wI ?_ ?_ | refine wJ ?_ ?_ | refine wK ?_ ?_ | refine wL ?_ ?_) <;> intro _) | simp (maxSteps := 1000000) (disch := omega) only [go_sem, seval, mc_name_plain, *])
  all_goals (refine fin_tmp (.inr rfl) ?_; simp [upd, plainB, *])
theorem decode_high (s : ByteArray) (p : Nat) (h : p < s.size) (hc : 128 ≤ (s[p]'h).toNat) : 128 ≤ (Utf8.decode s p).1 := by
  have e : s.get! (p + 0) = s[p]'h := by
    show s.get! p = _
    simp [ByteArray.get!, getElem!_pos, h]
    rfl
  simp only [Utf8.decode, e, Utf8.runeError]
  repeat' split
  all_goals simp_all
  all_goals omega
theorem Right_1_m (r : Int) (st : Bool) (id : Nat) (w : Bool) (H : Nat → Option PObj) (nx : Nat) (hH : H id = some ⟨[.sc (.bool st)], w⟩) :
    PMut Try.prog F.name_Right_1 [.sc (.int .i32 r), .optr id 0] H nx (fun H' nx' r' => H' = upd H id (some ⟨[.sc (.bool (decide (r = 46)))], w⟩) ∧ r' = .sc (.bool (!plainB r st))) := by
  refine mut_by is_name_Right_1 (by simp) fun hb => ?_
  repeat' (first | ((with_reducible first | refine wA (by omega) ?_ | refine wB (by omega) ?_ | refine wC (by omega) ?_ | refine wD (by omega) ?_ | refine wE ?_ ?_ | refine wF ?_ ?_ | refine wG ?_ ?_ | refine wH ?_ ?_ | refine wI ?_ ?_ | refine wJ ?_ ?_ | refine wK ?_ ?_ | refine wL ?_ ?_) <;> intro _) | (((with_reducible refine call_id ?_); (first | (refine call_pure (name_plain_p r st) ?_)))) | simp (maxSteps := 1000000) (disch := omega) only [go_sem, seval, mc_name_Right_1, *])
  refine fin_mut (.sc (.bool (!plainB r st))) (.inr rfl) ?_ ?_
  · simp (disch := omega) only [go_sem, seval, *]
  · exact ⟨rfl, rfl⟩
theorem scan_drop (st : Bool) (s : ByteArray) (p : Nat) (h : p < s.size) : scan st (s.data.toList.drop p) = if plainB (s[p]'h).toNat st = true then scan (decide (((s[p]'h).toNat : Int) = 46)) (s.data.toList.drop (p + 1)) else none := by
  have hl : p < s.data.toList.length := by simpa using h
  rw [List.drop_eq_getElem_cons hl]
  rfl
set_option maxHeartbeats 4000000 in
theorem indexFunc_m (s : ByteArray) (id : Nat) (w : Bool) (H : Nat → Option PObj) (nx : Nat) (hid : id < nx) (hH : H id = some ⟨[.sc (.bool true)], w⟩) :
    PMut Try.prog F.strings_indexFunc [.sc (.string s), .fn F.name_Right_1 [.optr id 0], .sc (.bool true)] H nx (fun H' nx' r' => ∃ st k, H' id = some ⟨[.sc (.bool st)], w⟩ ∧ r' = .sc (.int .i64 k) ∧ (scan true s.data.toList = some st ∧ k = -1 ∨ scan true s.data.toList = none ∧ 0 ≤ k)) := by
  refine mut_by is_strings_indexFunc (by simp) fun hb => ?_
  repeat' (first | ((with_reducible first | refine wA (by omega) ?_ | refine wB (by omega) ?_ | refine wC (by omega) ?_ | refine wD (by omega) ?_ | refine wE ?_ ?_ | refine wF ?_ ?_ | refine wG ?_ ?_ | refine wH ?_ ?_ | refine wI ?_ ?_ | refine wJ ?_ ?_ | refine wK ?_ ?_ | refine wL ?_ ?_) <;> intro _) | simp (maxSteps := 1000000) (disch := omega) only [go_sem, seval, mc_strings_indexFunc, *])
  refine c_loopW 2095552 (by kernel_rfl) (fun j f H m => ∃ p st, j = s.size - p ∧ p ≤ s.size ∧ scan true s.data.toList = scan st (s.data.toList.drop p) ∧ nx < m ∧ H (nx + 2) = some (.iter s p) ∧ H id = some ⟨[.sc (.bool st)], w⟩) _ ⟨0, true, rfl, cE1, rfl, cE1, cE1, cE1⟩ ?_
  rintro _ f H1 m ⟨p, st, rfl, hp, hs, hm, hi, hc⟩
  replace hs := Kept.mk hs
  by_cases hlt : p < s.size
  · have hd := Kept.mk (scan_drop st s p hlt)
    repeat' (first | ((with_reducible first | refine wA (by omega) ?_ | refine wB (by omega) ?_ | refine wC (by omega) ?_ | refine wD (by omega) ?_ | refine wE ?_ ?_ | refine wF ?_ ?_ | refine wG ?_ ?_ | refine wH ?_ ?_ | refine wI ?_ ?_ | refine wJ ?_ ?_ | refine wK ?_ ?_ | refine wL ?_ ?_) <;> intro _) | simp (maxSteps := 1000000) (disch := omega) only [go_sem, seval, *])
    refine call_mut (Right_1_m _ st id w _ _ cE1) ?_
    rintro H' nx' r ⟨rfl, rfl⟩ hnx
    replace hnx : m + 11 ≤ nx' := by simpa using hnx
    by_cases hasc : (s[p]'hlt).toNat < 128
    · have ha := decode_ascii s p hlt hasc
      simp only [ha]
      repeat' (first | ((with_reducible first | refine wA (by omega) ?_ | refine wB (by omega) ?_ | refine wC (by omega) ?_ | refine wD (by omega) ?_ | refine wE ?_ ?_ | refine wF ?_ ?_ | refine wG ?_ ?_ | refine wH ?_ ?_ | refine wI ?_ ?_ | refine wJ ?_ ?_ | refine wK ?_ ?_ | refine wL ?_ ?_) <;> intro _) | simp (maxSteps := 1000000) (disch := omega) only [go_sem, seval, *])
      · rename_i hpl
        refine fin_mut (.sc (.int .i64 p)) (.inr rfl) (by simp (disch := omega) only [go_sem, seval, *]) ⟨decide (((s[p]'hlt).toNat : Int) = 46), p, cE1, rfl, .inr ⟨?_, by omega⟩⟩
        rw [hs.out, hd.out, if_neg (by simpa using hpl)]
      · rename_i hpl
        refine Nx.mk (s.size - (p + 1)) cE1 ⟨p + 1, decide (((s[p]'hlt).toNat : Int) = 46), rfl, cE1, ?_, cE1, cE1, cE1⟩
        rw [hs.out, hd.out, if_pos (by simpa using hpl)]
    · have hh := decode_high s p hlt (by omega)
      generalize Utf8.decode s p = q at hh
      have hpl : ∀ (c : Nat), 128 ≤ c → plainB c st = false := fun c hc => by
        unfold plainB
        rw [if_neg (by omega), if_neg (by omega)]
      have h1 := hpl q.1 hh
      repeat' (first | ((with_reducible first | refine wA (by omega) ?_ | refine wB (by omega) ?_ | refine wC (by omega) ?_ | refine wD (by omega) ?_ | refine wE ?_ ?_ | refine wF ?_ ?_ | refine wG ?_ ?_ | refine wH ?_ ?_ | refine wI ?_ ?_ | refine wJ ?_ ?_ | refine wK ?_ ?_ | refine wL ?_ ?_) <;> intro _) | simp (maxSteps := 1000000) (disch := omega) only [go_sem, seval, *])
      refine fin_mut (.sc (.int .i64 p)) (.inr rfl) (by simp (disch := omega) only [go_sem, seval, *]) ⟨decide ((q.1 : Int) = 46), p, cE1, rfl, .inr ⟨?_, by omega⟩⟩
      rw [hs.out, hd.out, if_neg (by rw [hpl _ (by omega)]; simp)]
  · obtain rfl : p = s.size := by omega
    repeat' (first | ((with_reducible first | refine wA (by omega) ?_ | refine wB (by omega) ?_ | refine wC (by omega) ?_ | refine wD (by omega) ?_ | refine wE ?_ ?_ | refine wF ?_ ?_ | refine wG ?_ ?_ | refine wH ?_ ?_ | refine wI ?_ ?_ | refine wJ ?_ ?_ | refine wK ?_ ?_ | refine wL ?_ ?_) <;> intro _) | simp (maxSteps := 1000000) (disch := omega) only [go_sem, seval, *])
    refine fin_mut (.sc (.int .i64 (-1))) (.inr rfl) (by simp (disch := omega) only [go_sem, seval, *]) ⟨st, -1, hc, rfl, .inl ⟨?_, rfl⟩⟩
    rw [hs.out, List.drop_eq_nil_of_le (by show s.data.toList.length ≤ s.data.size; simp)]
    rfl
theorem IndexFunc_m (s : ByteArray) (id : Nat) (w : Bool) (H : Nat → Option PObj) (nx : Nat) (hid : id < nx) (hH : H id = some ⟨[.sc (.bool true)], w⟩) :
    PMut Try.prog F.strings_IndexFunc [.sc (.string s), .fn F.name_Right_1 [.optr id 0]] H nx (fun H' nx' r' => ∃ st k, H' id = some ⟨[.sc (.bool st)], w⟩ ∧ r' = .sc (.int .i64 k) ∧ (scan true s.data.toList = some st ∧ k = -1 ∨ scan true s.data.toList = none ∧ 0 ≤ k)) := by
  refine mut_by is_strings_IndexFunc (by simp) fun hb => ?_
  repeat' (first | ((with_reducible first | refine wA (by omega) ?_ | refine wB (by omega) ?_ | refine wC (by omega) ?_ | refine wD (by omega) ?_ | refine wE ?_ ?_ | refine wF ?_ ?_ | refine wG ?_ ?_ | refine wH ?_ ?_ | refine wI ?_ ?_ | refine wJ ?_ ?_ | refine wK ?_ ?_ | refine wL ?_ ?_) <;> intro _) | simp (maxSteps := 1000000) (disch := omega) only [go_sem, seval, mc_strings_IndexFunc, *])
  refine call_mut (indexFunc_m s id w _ _ cE1 hH) ?_
  rintro H' nx' r ⟨st, k, h1, rfl, h2⟩ hnx
  replace h2 := Kept.mk h2
  repeat' (first | ((with_reducible first | refine wA (by omega) ?_ | refine wB (by omega) ?_ | refine wC (by omega) ?_ | refine wD (by omega) ?_ | refine wE ?_ ?_ | refine wF ?_ ?_ | refine wG ?_ ?_ | refine wH ?_ ?_ | refine wI ?_ ?_ | refine wJ ?_ ?_ | refine wK ?_ ?_ | refine wL ?_ ?_) <;> intro _) | simp (maxSteps := 1000000) (disch := omega) only [go_sem, seval, *])
  exact fin_mut (.sc (.int .i64 k)) (.inr rfl) (by simp (disch := omega) only [go_sem, seval, *]) ⟨st, k, h1, rfl, h2.out⟩
set_option maxHeartbeats 4000000 in
theorem name_Right_p (s : ByteArray) : PPure Try.prog F.name_Right [.sc (.string s)] (.sc (.bool (nameB s))) := by
  refine pure_by is_name_Right (by simp) rfl fun hb nx => ?_
  repeat' (first | ((with_reducible first | refine wA (by omega) ?_ | refine wB (by omega) ?_ | refine wC (by omega) ?_ | refine wD (by omega) ?_ | refine wE ?_ ?_ | refine wF ?_ ?_ | refine wG ?_ ?_ | refine wH ?_ ?_ | refine wI ?_ ?_ | refine wJ ?_ ?_ | refine wK ?_ ?_ | refine wL ?_ ?_) <;> intro _) | simp (maxSteps := 1000000) (disch := omega) only [go_sem, seval, mc_name_Right, *])
  · (refine fin_tmp (.inr rfl) ?_; (first | rfl | (simp (disch := omega) only [go_sem, seval, nameB, *]; done) | (simp [nameB, upd, *]; done) | (simp [nameB, upd, *]; omega)))
  · refine call_mut (IndexFunc_m s (nx + 4) true _ _ cE1 cE1) ?_
    rintro H' nx' r ⟨st, k, h1, rfl, h2⟩ hnx
    rcases h2 with ⟨h2, rfl⟩ | ⟨h2, h3⟩
    · cases st
      · repeat' (first | ((with_reducible first | refine wA (by omega) ?_ | refine wB (by omega) ?_ | refine wC (by omega) ?_ | refine wD (by omega) ?_ | refine wE ?_ ?_ | refine wF ?_ ?_ | refine wG ?_ ?_ | refine wH ?_ ?_ | refine wI ?_ ?_ | refine wJ ?_ ?_ | refine wK ?_ ?_ | refine wL ?_ ?_) <;> intro _) | simp (maxSteps := 1000000) (disch := omega) only [go_sem, seval, *])
        (refine fin_tmp (.inr rfl) ?_; (first | rfl | (simp (disch := omega) only [go_sem, seval, nameB, *]; done) | (simp [nameB, upd, *]; done) | (simp [nameB, upd, *]; omega)))
      · repeat' (first | ((with_reducible first | refine wA (by omega) ?_ | refine wB (by omega) ?_ | refine wC (by omega) ?_ | refine wD (by omega) ?_ | refine wE ?_ ?_ | refine wF ?_ ?_ | refine wG ?_ ?_ | refine wH ?_ ?_ | refine wI ?_ ?_ | refine wJ ?_ ?_ | refine wK ?_ ?_ | refine wL ?_ ?_) <;> intro _) | simp (maxSteps := 1000000) (disch := omega) only [go_sem, seval, *])
        (refine fin_tmp (.inr rfl) ?_; (first | rfl | (simp (disch := omega) only [go_sem, seval, nameB, *]; done) | (simp [nameB, upd, *]; done) | (simp [nameB, upd, *]; omega)))
    · repeat' (first | ((with_reducible first | refine wA (by omega) ?_ | refine wB (by omega) ?_ | refine wC (by omega) ?_ | refine wD (by omega) ?_ | refine wE ?_ ?_ | refine wF ?_ ?_ | refine wG ?_ ?_ | refine wH ?_ ?_ | refine wI ?_ ?_ | refine wJ ?_ ?_ | refine wK ?_ ?_ | refine wL ?_ ?_) <;> intro _) | simp (maxSteps := 1000000) (disch := omega) only [go_sem, seval, *])
      (refine fin_tmp (.inr rfl) ?_; (first | rfl | (simp (disch := omega) only [go_sem, seval, nameB, *]; done) | (simp [nameB, upd, *]; done) | (simp [nameB, upd, *]; omega)))
end
section
set_option maxRecDepth 20000
attribute [local go_sem] Nat.add_assoc
def letterB (c : Int) : Bool := decide ((97 ≤ c ∧ c ≤ 122) ∨ c = 95)
def digitB (c : Int) : Bool := decide (48 ≤ c ∧ c ≤ 57)
theorem letter_p (c : Int) : PPure Try.prog F.ref01_letter [.sc (.int .u8 c)] (.sc (.bool (letterB c))) := by
  refine pure_by is_ref01_letter (by simp) rfl fun hb nx => ?_
  repeat' (first | ((with_reducible first | refine wA (by omega) ?_ | refine wB (by omega) ?_ | refine wC (by omega) ?_ | refine wD (by omega) ?_ | refine wE ?_ ?_ | refine wF ?_ ?_ | refine wG ?_ ?_ | refine wH ?_ ?_ | refine wI ?_ ?_ | refine wJ ?_ ?_ | refine wK ?_ ?_ | refine wL ?_ ?_) <;> intro _) | simp (maxSteps := 1000000) (disch := omega) only [go_sem, seval, mc_ref01_letter, *])
  all_goals (refine fin_tmp (.inr rfl) ?_; simp [upd, letterB, *])
theorem digit_p (c : Int) : PPure Try.prog F.ref01_digit [.sc (.int .u8 c)] (.sc (.bool (digitB c))) := by
  refine pure_by is_ref01_digit (by simp) rfl fun hb nx => ?_
  repeat' (first | ((with_reducible first | refine wA (by omega) ?_ | refine wB (by omega) ?_ | refine wC (by omega) ?_ | refine wD (by omega) ?_ | refine wE ?_ ?_ | refine wF ?_ ?_ | refine wG ?_ ?_ | refine wH ?_ ?_ | refine wI ?_ ?_ | refine wJ ?_ ?_ | refine wK ?_ ?_ | refine wL ?_ ?_) <;> intro _) | simp (maxSteps := 1000000) (disch := omega) only [go_sem, seval, mc_ref01_digit, *])
  all_goals (refine fin_tmp (.inr rfl) ?_; simp [upd, digitB, *])
theorem plain_parts (c : Int) (st : Bool) : plainB c st = if letterB c = true then true else if c = 46 ∨ digitB c = true then !st else false := by
  simp only [plainB, letterB, digitB, decide_eq_true_eq]
  have e : (c = 95 ∨ (97 ≤ c ∧ c ≤ 122)) ↔ ((97 ≤ c ∧ c ≤ 122) ∨ c = 95) := Or.comm
  simp only [e]
set_option maxRecDepth 20000 in
set_option maxHeartbeats 400000 in
theorem ref01_Right_p (s : ByteArray) : PPure Try.prog F.ref01_Right [.sc (.string s)] (.sc (.bool (nameB s))) := by
  refine pure_by is_ref01_Right (by simp) rfl fun hb nx => ?_
  by_cases h0 : s.size = 0
  · have hs : s.data.toList = [] := List.eq_nil_of_length_eq_zero (by have : s.data.size = 0 := h0; simpa using this)
    repeat' (first | ((with_reducible first | refine wA (by omega) ?_ | refine wB (by omega) ?_ | refine wC (by omega) ?_ | refine wD (by omega) ?_ | refine wE ?_ ?_ | refine wF ?_ ?_ | refine wG ?_ ?_ | refine wH ?_ ?_ | refine wI ?_ ?_ | refine wJ ?_ ?_ | refine wK ?_ ?_ | refine wL ?_ ?_) <;> intro _) | simp (maxSteps := 1000000) (disch := omega) only [go_sem, seval, mc_ref01_Right, *])
    refine fin_tmp (.inr rfl) ?_
    simp [upd, nameB, hs, scan]
  · repeat' (first | ((with_reducible first | refine wA (by omega) ?_ | refine wB (by omega) ?_ | refine wC (by omega) ?_ | refine wD (by omega) ?_ | refine wE ?_ ?_ | refine wF ?_ ?_ | refine wG ?_ ?_ | refine wH ?_ ?_ | refine wI ?_ ?_ | refine wJ ?_ ?_ | refine wK ?_ ?_ | refine wL ?_ ?_) <;> intro _) | simp (maxSteps := 1000000) (disch := omega) only [go_sem, seval, mc_ref01_Right, *])
    · (refine fin_tmp (.inr rfl) ?_; (first | rfl | (simp (disch := omega) only [go_sem, seval, nameB, *]; done) | (simp [nameB, upd, *]; done) | (simp [nameB, upd, *]; omega)))
    · refine c_loopW 1099511619612 (by kernel_rfl) (fun j f H m => ∃ i st, j = s.size - i ∧ i ≤ s.size ∧ f 4 = .sc (.int .i64 (i : Nat)) ∧ f 3 = .sc (.bool st) ∧ Kept (scan true s.data.toList = scan st (s.data.toList.drop i))) _ ⟨0, true, rfl, cE1, cE1, cE1, Kept.mk (by rw [List.drop_zero])⟩ ?_
      rintro _ f H m ⟨i, st, rfl, hi, e4, e3, hs⟩
      by_cases hlt : i < s.size
      · have hd := Kept.mk (scan_drop st s i hlt)
        have hg : s[i]? = some (s[i]'hlt) := getElem?_pos s i hlt
        have hp := Kept.mk (plain_parts (s[i]'hlt).toNat st)
        have hbt : ((s[i]'hlt).toNat : Int) < 256 := by have := (s[i]'hlt).toNat_lt; omega
        have hF : plainB (s[i]'hlt).toNat st = false → nameB s = false := fun h => by
          unfold nameB
          rw [hs.out, hd.out, h]
          simp
        have hT : plainB (s[i]'hlt).toNat st = true → Kept (scan true s.data.toList = scan (decide (((s[i]'hlt).toNat : Int) = 46)) (s.data.toList.drop (i + 1))) := fun h => Kept.mk (by rw [hs.out, hd.out, if_pos h])
        have hL : ∀ c : Int, letterB c = true → ¬ c = 46 := fun c h => by unfold letterB at h; simp at h; omega
        have hD : ∀ c : Int, digitB c = true → ¬ c = 46 := fun c h => by unfold digitB at h; simp at h; omega
        have lL := hL (s[i]'hlt).toNat
        have lD := hD (s[i]'hlt).toNat
        have lN : letterB 46 = false := by decide
        clear hd hL hD
        generalize s[i]'hlt = c at *
        repeat' (first | ((with_reducible first | refine wA (by omega) ?_ | refine wB (by omega) ?_ | refine wC (by omega) ?_ | refine wD (by omega) ?_ | refine wE ?_ ?_ | refine wF ?_ ?_ | refine wG ?_ ?_ | refine wH ?_ ?_ | refine wI ?_ ?_ | refine wJ ?_ ?_ | refine wK ?_ ?_ | refine wL ?_ ?_) <;> intro _) | (((with_reducible refine call_id ?_); (first | (refine call_pure (letter_p c.toNat) ?_) | (refine call_pure (digit_p c.toNat) ?_)))) | simp (maxSteps := 1000000) (disch := omega) only [go_sem, seval, *])
        all_goals first
          | (refine fin_tmp (.inr rfl) ?_; rw [hF (by rw [hp.out]; simp [*])]; simp (disch := omega) only [go_sem, seval, *]; done)
          | (refine Nx.mk (s.size - (i + 1)) cE1 ⟨i + 1, decide ((c.toNat : Int) = 46), rfl, cE1, cE1, ?_, hT (by rw [hp.out]; simp [*])⟩; simp [upd, ovr_get, *])
      · obtain rfl : i = s.size := by omega
        have h1 := hs.out
        rw [List.drop_eq_nil_of_le (by show s.data.toList.length ≤ s.data.size; simp)] at h1
        repeat' (first | ((with_reducible first | refine wA (by omega) ?_ | refine wB (by omega) ?_ | refine wC (by omega) ?_ | refine wD (by omega) ?_ | refine wE ?_ ?_ | refine wF ?_ ?_ | refine wG ?_ ?_ | refine wH ?_ ?_ | refine wI ?_ ?_ | refine wJ ?_ ?_ | refine wK ?_ ?_ | refine wL ?_ ?_) <;> intro _) | simp (maxSteps := 1000000) (disch := omega) only [go_sem, seval, *])
        refine fin_tmp (.inr rfl) ?_
        simp [upd, ovr_get, nameB, h1, scan, *]
        try omega
end
section
set_option maxRecDepth 20000
attribute [local go_sem] pv_len pv_take Nat.add_assoc
inductive Tm where
  | mk (kind n : Int) (name : ByteArray) (levels : List Lv) (args : List Tm)
mutual
def Tm.size : Tm → Nat
  | .mk _ _ _ _ args => 1 + sizeL args
def sizeL : List Tm → Nat
  | [] => 0
  | x :: r => x.size + sizeL r
end
def Tm.pv : Tm → List PV
  | .mk k n s ls args => [.sc (.int .i64 k), .sc (.int .i64 n), .sc (.string s), .sl 3 (ls.map Lv.pv), .sl 5 (args.map Tm.pv)]
theorem tm_len (t : Tm) : t.pv.length = 5 := by cases t; simp [Tm.pv]
attribute [local go_sem] tm_len
theorem tm_take (t : Tm) : t.pv.take 5 = t.pv := List.take_of_length_le (by rw [tm_len]; omega)
attribute [local go_sem] tm_take
theorem size_pos (t : Tm) : 0 < t.size := by cases t; simp only [Tm.size]; omega
theorem sizeL_mem : ∀ (ts : List Tm) (k : Nat) (h : k < ts.length), ts[k].size ≤ sizeL ts
  | x :: r, 0, h => by simp [sizeL]
  | x :: r, k + 1, h => by
    have := sizeL_mem r k (by simpa using h)
    simp only [List.getElem_cons_succ, sizeL]
    omega
def deepB (kind : Int) (len i : Nat) : Int := if 5 ≤ kind ∧ i + 1 = len then 1 else 0
theorem deep_bd (kind : Int) (len i : Nat) : 0 ≤ deepB kind len i ∧ deepB kind len i ≤ 1 := by unfold deepB; split <;> omega
def noS (s : ByteArray) : Bool := s.toList == (⟨#[]⟩ : ByteArray).toList
theorem fold_noS {s : ByteArray} : (s.toList == (⟨#[]⟩ : ByteArray).toList) = noS s := nr rfl
def hasB (n : Int) (s : ByteArray) (ls : List Lv) (args : List Tm) (a b c : Int) : Bool := decide (n = a) && (noS s && (decide ((ls.length : Int) = b) && decide ((args.length : Int) = c)))
def headR (np : Int) : List Lv → Bool
  | l :: _ => l.right np
  | [] => false
def constB (n : Int) (s : ByteArray) (ls : List Lv) (args : List Tm) (np : Int) : Bool := decide (n = 0) && (decide (args.length = 0) && (decide (ls.length ≤ 4) && (nameB s && ls.all (Lv.right np))))
mutual
def Tm.formed (np : Int) : Int → Tm → Bool
  | k, .mk kind n s ls args =>
    if kind = 1 then decide (0 ≤ n) && (decide (n < k) && hasB n s ls args n 0 0)
    else if kind = 2 then hasB n s ls args 0 1 0 && headR np ls
    else if kind = 3 then constB n s ls args np
    else if kind = 4 ∨ kind = 5 ∨ kind = 6 then hasB n s ls args 0 0 2 && formedA np k kind args.length 0 args
    else if kind = 7 then hasB n s ls args 0 0 3 && formedA np k kind args.length 0 args
    else false
def formedA (np : Int) : Int → Int → Nat → Nat → List Tm → Bool
  | _, _, _, _, [] => true
  | k, kind, len, i, x :: r => x.formed np (k + deepB kind len i) && formedA np k kind len (i + 1) r
end
theorem deeper_p (t : Tm) (i : Nat) (kind n : Int) (s : ByteArray) (ls : List Lv) (args : List Tm) (e : t = .mk kind n s ls args) : PPure Try.prog F.term_deeper [.ptr t.pv, .sc (.int .i64 i)] (.sc (.int .i64 (deepB kind args.length i))) := by
  subst e
  refine pure_by is_term_deeper (by simp) rfl fun hb nx => ?_
  have hb0 : args.length ≤ 9223372036854775807 := by simp [Tm.pv, bndL, PV.bnd] at hb; exact hb.2.1
  repeat' (first | ((with_reducible first | refine wA (by omega) ?_ | refine wB (by omega) ?_ | refine wC (by omega) ?_ | refine wD (by omega) ?_ | refine wE ?_ ?_ | refine wF ?_ ?_ | refine wG ?_ ?_ | refine wH ?_ ?_ | refine wI ?_ ?_ | refine wJ ?_ ?_ | refine wK ?_ ?_ | refine wL ?_ ?_) <;> intro _) | simp (maxSteps := 1000000) (disch := omega) only [go_sem, seval, mc_term_deeper, Tm.pv, *])
  all_goals (refine fin_tmp (.inr rfl) ?_; simp [upd, deepB, *]; try omega)
theorem has_p (kind n : Int) (s : ByteArray) (ls : List Lv) (args : List Tm) (a b c : Int) :
    PPure Try.prog F.term_has [.ptr (Tm.mk kind n s ls args).pv, .sc (.int .i64 a), .sc (.int .i64 b), .sc (.int .i64 c)] (.sc (.bool (hasB n s ls args a b c))) := by
  unfold hasB
  refine pure_by is_term_has (by simp) rfl fun hb nx => ?_
  repeat' (first | ((with_reducible first | refine wA (by omega) ?_ | refine wB (by omega) ?_ | refine wC (by omega) ?_ | refine wD (by omega) ?_ | refine wE ?_ ?_ | refine wF ?_ ?_ | refine wG ?_ ?_ | refine wH ?_ ?_ | refine wI ?_ ?_ | refine wJ ?_ ?_ | refine wK ?_ ?_ | refine wL ?_ ?_) <;> intro _) | simp (maxSteps := 1000000) (disch := omega) only [go_sem, seval, mc_term_has, Tm.pv, strBin, fold_noS, *])
  all_goals (refine fin_tmp (.inr rfl) ?_; simp [upd, *])
theorem all_right_take (np : Int) (ls : List Lv) (k : Nat) (h : k < ls.length) : (ls.take (k + 1)).all (Lv.right np) = ((ls.take k).all (Lv.right np) && ls[k].right np) := by
  rw [List.take_succ_eq_append_getElem h, List.all_append]; simp
theorem all_right_false (np : Int) (ls : List Lv) (k : Nat) (h : k < ls.length) (hp : ls[k].right np = false) : ls.all (Lv.right np) = false := by
  rw [List.all_eq_false]; exact ⟨_, List.getElem_mem h, by simp [hp]⟩
set_option maxHeartbeats 4000000 in
theorem constant_p (kind n : Int) (s : ByteArray) (ls : List Lv) (args : List Tm) (np : Int) :
    PPure Try.prog F.term_constant [.ptr (Tm.mk kind n s ls args).pv, .sc (.int .i64 np)] (.sc (.bool (constB n s ls args np))) := by
  unfold constB
  refine pure_by is_term_constant (by simp) rfl fun hb nx => ?_
  have hb0 : args.length ≤ 9223372036854775807 := by simp [Tm.pv, bndL, PV.bnd] at hb; exact hb.2.1
  repeat' (first | ((with_reducible first | refine wA (by omega) ?_ | refine wB (by omega) ?_ | refine wC (by omega) ?_ | refine wD (by omega) ?_ | refine wE ?_ ?_ | refine wF ?_ ?_ | refine wG ?_ ?_ | refine wH ?_ ?_ | refine wI ?_ ?_ | refine wJ ?_ ?_ | refine wK ?_ ?_ | refine wL ?_ ?_) <;> intro _) | (((with_reducible refine call_id ?_); (first | (refine call_pure (name_Right_p s) ?_)))) | simp (maxSteps := 1000000) (disch := omega) only [go_sem, seval, mc_term_constant, Tm.pv, *])
  all_goals (try (refine fin_tmp (.inr rfl) ?_; simp [upd, *] <;> (try omega); done))
  refine c_loopW 18013298997854256 (by kernel_rfl) (fun j f H m => ∃ i : Nat, j = ls.length - i ∧ i ≤ ls.length ∧ f 40 = .sc (.int .i64 i) ∧ (ls.take i).all (Lv.right np) = true) _ ⟨0, rfl, cE1, cE1, rfl⟩ ?_
  rintro _ f H m ⟨i, rfl, hi, e40, hall⟩
  by_cases hlt : i < ls.length
  · have eg : ls[i]? = some ls[i] := List.getElem?_eq_getElem hlt
    have ht := all_right_take np ls i hlt
    have hq := all_right_false np ls i hlt
    repeat' (first | ((with_reducible first | refine wA (by omega) ?_ | refine wB (by omega) ?_ | refine wC (by omega) ?_ | refine wD (by omega) ?_ | refine wE ?_ ?_ | refine wF ?_ ?_ | refine wG ?_ ?_ | refine wH ?_ ?_ | refine wI ?_ ?_ | refine wJ ?_ ?_ | refine wK ?_ ?_ | refine wL ?_ ?_) <;> intro _) | (((with_reducible refine call_id ?_); (first | (refine call_pure (Right_p ls[i] np) ?_)))) | simp (maxSteps := 1000000) (disch := omega) only [go_sem, seval, Tm.pv, *])
    · rename_i h
      have := hq h
      refine fin_tmp (.inr rfl) ?_
      simp [upd, *]
    · rename_i h
      refine Nx.mk (ls.length - (i + 1)) cE1 ⟨i + 1, cE1, cE1, cE1, by rw [ht, hall, h]; rfl⟩
  · obtain rfl : i = ls.length := by omega
    rw [List.take_length] at hall
    repeat' (first | ((with_reducible first | refine wA (by omega) ?_ | refine wB (by omega) ?_ | refine wC (by omega) ?_ | refine wD (by omega) ?_ | refine wE ?_ ?_ | refine wF ?_ ?_ | refine wG ?_ ?_ | refine wH ?_ ?_ | refine wI ?_ ?_ | refine wJ ?_ ?_ | refine wK ?_ ?_ | refine wL ?_ ?_) <;> intro _) | simp (maxSteps := 1000000) (disch := omega) only [go_sem, seval, Tm.pv, *])
    refine fin_tmp (.inr rfl) ?_
    simp [upd, *]
    omega
end
section
attribute [local go_sem] pv_len pv_take rounds_next Nat.add_assoc id_ne id_ne' id_ne2 List.append_assoc
structure Fm where
  num : Int
  a0 : Int
  a1 : Int
  a2 : Int
  a3 : Int
def Fm.pv (f : Fm) : List PV := [.sc (.int .i64 f.num), .sc (.int .i64 f.a0), .sc (.int .i64 f.a1), .sc (.int .i64 f.a2), .sc (.int .i64 f.a3)]
structure Fm.Ok (f : Fm) (m : Int) : Prop where
  n0 : 0 ≤ f.num
  n1 : f.num ≤ m
  b0 : -1 ≤ f.a0
  c0 : f.a0 ≤ m
  b1 : -1 ≤ f.a1
  c1 : f.a1 ≤ m
  b2 : -1 ≤ f.a2
  c2 : f.a2 ≤ m
  b3 : -1 ≤ f.a3
  c3 : f.a3 ≤ m
def up (n a : Int) : Int := if a = -1 then n else max n (a + 1)
def Fm.leastN (f : Fm) : Nat → Int
  | 0 => f.num
  | 1 => up f.num f.a0
  | 2 => up (up f.num f.a0) f.a1
  | 3 => up (up (up f.num f.a0) f.a1) f.a2
  | _ => up (up (up (up f.num f.a0) f.a1) f.a2) f.a3
def Fm.least (f : Fm) : Int := f.leastN 4
def Fm.short (f : Fm) : Fm := if (Fm.mk 0 f.a0 f.a1 f.a2 f.a3).least < f.num then f else ⟨0, f.a0, f.a1, f.a2, f.a3⟩
def inc (a : Int) : Int := if a = -1 then -1 else a + 1
def Fm.succ (f : Fm) : Fm := (Fm.mk (f.num + 1) (inc f.a0) (inc f.a1) (inc f.a2) (inc f.a3)).short
def Fm.max (f g : Fm) : Fm := (Fm.mk (Max.max f.num g.num) (Max.max f.a0 g.a0) (Max.max f.a1 g.a1) (Max.max f.a2 g.a2) (Max.max f.a3 g.a3)).short
def Fm.same (f g : Fm) : Bool := decide (f.num = g.num) && (decide (f.a0 = g.a0) && (decide (f.a1 = g.a1) && (decide (f.a2 = g.a2) && decide (f.a3 = g.a3))))
end
section
attribute [local go_sem] pv_len pv_take rounds_next List.append_assoc Nat.add_assoc id_ne id_ne' id_ne2
def Fm.one (n : Int) : Fm := ⟨0, if n = 0 then 0 else -1, if n = 1 then 0 else -1, if n = 2 then 0 else -1, if n = 3 then 0 else -1⟩
theorem Fm.Ok.mono {f : Fm} {m m' : Int} (h : f.Ok m) (hm : m ≤ m') : f.Ok m' :=
  ⟨h.n0, by have := h.n1; omega, h.b0, by have := h.c0; omega, h.b1, by have := h.c1; omega, h.b2, by have := h.c2; omega, h.b3, by have := h.c3; omega⟩
end
section
attribute [local go_sem] pv_len pv_take id_ne id_ne' id_ne2 rounds_next List.append_assoc Nat.add_assoc
theorem pv_one (l : Lv) : l.pv.all PV.one = true := by
  cases l
  simp [Lv.pv, PV.one, Value.oneCell']
theorem lv_imm : ∀ (fuel : Nat) (l : Lv), l.nodes ≤ fuel → immL l.pv = true := by
  intro fuel
  induction fuel with
  | zero => intro l h; have := nodes_pos l; omega
  | succ fuel ih =>
    intro l h
    cases l with
    | mk k n args =>
    simp only [Lv.nodes] at h
    simp only [Lv.pv, immL, PV.imm, Bool.true_and, Bool.and_true]
    have key : ∀ ls : List Lv, nodesL ls ≤ fuel → immLL (ls.map Lv.pv) = true := by
      intro ls
      induction ls with
      | nil => intro _; rfl
      | cons x r ihr =>
        intro hl
        simp only [nodesL] at hl
        simp only [List.map_cons, immLL, Bool.and_eq_true]
        exact ⟨ih x (by omega), ihr (by omega)⟩
    exact key args (by omega)
theorem pv_imm (l : Lv) : immL l.pv = true := lv_imm l.nodes l (Nat.le_refl _)
end
section
def tt (a x : Int) : Int := if a = -1 then 0 else a + x
def Fm.ev (f : Fm) (x0 x1 x2 x3 : Int) : Int := Max.max (Max.max (Max.max (Max.max f.num (tt f.a0 x0)) (tt f.a1 x1)) (tt f.a2 x2)) (tt f.a3 x3)
structure Fm.Min (f : Fm) : Prop where
  n0 : 0 ≤ f.num
  b0 : -1 ≤ f.a0
  b1 : -1 ≤ f.a1
  b2 : -1 ≤ f.a2
  b3 : -1 ≤ f.a3
theorem Fm.Ok.min {f : Fm} {m : Int} (h : f.Ok m) : f.Min := ⟨h.n0, h.b0, h.b1, h.b2, h.b3⟩
def s3 (i : Nat) : Int := if i = 0 then 0 else if i = 1 then 1 else 1000
end
section
set_option maxRecDepth 20000
attribute [local go_sem] pv_len pv_take id_ne id_ne' id_ne2 List.append_assoc Nat.add_assoc pv_one
theorem len_nodesL : ∀ ls : List Lv, ls.length ≤ nodesL ls
  | [] => Nat.le_refl _
  | x :: r => by have := len_nodesL r; have := nodes_pos x; simp only [List.length_cons, nodesL]; omega
mutual
def Lv.same : Lv → Lv → Bool
  | .mk k n xs, .mk k' n' ys => decide (k = k') && (decide (n = n') && (decide (xs.length = ys.length) && sameL xs ys))
def sameL : List Lv → List Lv → Bool
  | x :: xs, y :: ys => x.same y && sameL xs ys
  | _, _ => true
end
mutual
theorem same_iff_eq : ∀ a b : Lv, a.same b = true ↔ a = b
  | .mk k n xs, .mk k' n' ys => by
    simp only [Lv.same, Bool.and_eq_true, decide_eq_true_eq, Lv.mk.injEq]
    constructor
    · rintro ⟨h1, h2, h3, h4⟩
      exact ⟨h1, h2, (sameL_iff xs ys h3).1 h4⟩
    · rintro ⟨h1, h2, h3⟩
      exact ⟨h1, h2, by rw [h3], (sameL_iff xs ys (by rw [h3])).2 h3⟩
theorem sameL_iff : ∀ xs ys : List Lv, xs.length = ys.length → (sameL xs ys = true ↔ xs = ys)
  | [], [], _ => by simp [sameL]
  | x :: xs, y :: ys, h => by
    simp only [sameL, Bool.and_eq_true, List.cons.injEq]
    rw [same_iff_eq x y, sameL_iff xs ys (by simpa using h)]
  | [], y :: ys, h => by simp at h
  | x :: xs, [], h => by simp at h
end
theorem sameL_take : ∀ (xs ys : List Lv) (i : Nat) (h : i < xs.length) (h2 : i < ys.length), sameL (xs.take (i + 1)) (ys.take (i + 1)) = (sameL (xs.take i) (ys.take i) && xs[i].same ys[i])
  | x :: xs, y :: ys, 0, h, h2 => by simp [sameL]
  | x :: xs, y :: ys, i + 1, h, h2 => by
    have := sameL_take xs ys i (by simpa using h) (by simpa using h2)
    simp only [List.take_succ_cons, sameL, List.getElem_cons_succ, this, Bool.and_assoc]
theorem sameL_false : ∀ (xs ys : List Lv) (i : Nat) (h : i < xs.length) (h2 : i < ys.length), xs[i].same ys[i] = false → sameL xs ys = false
  | x :: xs, y :: ys, 0, h, h2, e => by simp at e; simp [sameL, e]
  | x :: xs, y :: ys, i + 1, h, h2, e => by
    have := sameL_false xs ys i (by simpa using h) (by simpa using h2) (by simpa using e)
    simp [sameL, this]
set_option maxHeartbeats 400000 in
theorem SameLevel_p : ∀ (fuel : Nat) (a b : Lv), a.nodes ≤ fuel → PPure Try.prog F.ref00_SameLevel [.agg a.pv, .agg b.pv] (.sc (.bool (a.same b))) := by
  intro fuel
  induction fuel with
  | zero => intro l _ h; have := nodes_pos l; omega
  | succ fuel ih =>
    intro a b hf
    cases a with
    | mk k n xs =>
    cases b with
    | mk k' n' ys =>
    simp only [Lv.nodes] at hf
    refine pure_by is_ref00_SameLevel (by simp) rfl fun hb nx => ?_
    have hb0 : xs.length ≤ 9223372036854775807 ∧ ys.length ≤ 9223372036854775807 := by simp [Lv.pv, bndL, PV.bnd] at hb; exact ⟨hb.1.1, hb.2.1⟩
    repeat' (first | ((with_reducible first | refine wA (by omega) ?_ | refine wB (by omega) ?_ | refine wC (by omega) ?_ | refine wD (by omega) ?_ | refine wE ?_ ?_ | refine wF ?_ ?_ | refine wG ?_ ?_ | refine wH ?_ ?_ | refine wI ?_ ?_ | refine wJ ?_ ?_ | refine wK ?_ ?_ | refine wL ?_ ?_) <;> intro _) | simp (maxSteps := 1000000) (disch := omega) only [go_sem, seval, mc_ref00_SameLevel, Lv.pv, *])
    all_goals (try (refine fin_tmp (.inr rfl) ?_; (first | rfl | (simp (disch := omega) only [go_sem, seval, Lv.same, *]; done) | (simp [Lv.same, upd, *]; done) | (simp [Lv.same, upd, *]; omega))))
    refine c_loopW 70368609959984 (by kernel_rfl) (fun j f H m => ∃ i : Nat, j = xs.length - i ∧ i ≤ xs.length ∧ f 5 = .sc (.int .i64 i) ∧ sameL (xs.take i) (ys.take i) = true) _ ⟨0, rfl, cE1, cE1, rfl⟩ ?_
    rintro _ f H m ⟨i, rfl, hi, e5, hs⟩
    by_cases hlt : i < xs.length
    · have hlt2 : i < ys.length := by omega
      have eg : xs[i]? = some xs[i] := List.getElem?_eq_getElem hlt
      have eg2 : ys[i]? = some ys[i] := List.getElem?_eq_getElem hlt2
      have hn := nodesL_mem xs i hlt
      have ht := sameL_take xs ys i hlt hlt2
      have hq := sameL_false xs ys i hlt hlt2
      repeat' (first | ((with_reducible first | refine wA (by omega) ?_ | refine wB (by omega) ?_ | refine wC (by omega) ?_ | refine wD (by omega) ?_ | refine wE ?_ ?_ | refine wF ?_ ?_ | refine wG ?_ ?_ | refine wH ?_ ?_ | refine wI ?_ ?_ | refine wJ ?_ ?_ | refine wK ?_ ?_ | refine wL ?_ ?_) <;> intro _) | (((with_reducible refine call_id ?_); (first | (refine call_pure (ih xs[i] ys[i] (by omega)) ?_)))) | simp (maxSteps := 1000000) (disch := omega) only [go_sem, seval, Lv.pv, *])
      · rename_i h0
        rw [h0] at hq
        (refine fin_tmp (.inr rfl) ?_; (first | rfl | (simp (disch := omega) only [go_sem, seval, Lv.same, *]; done) | (simp [Lv.same, upd, *]; done) | (simp [Lv.same, upd, *]; omega)))
      · rename_i h0
        refine Nx.mk (xs.length - (i + 1)) cE1 ⟨i + 1, cE1, cE1, cE1, by rw [ht, hs, h0]; rfl⟩
    · obtain rfl : i = xs.length := by omega
      have e : ys.take xs.length = ys := List.take_of_length_le (by omega)
      rw [List.take_length, e] at hs
      repeat' (first | ((with_reducible first | refine wA (by omega) ?_ | refine wB (by omega) ?_ | refine wC (by omega) ?_ | refine wD (by omega) ?_ | refine wE ?_ ?_ | refine wF ?_ ?_ | refine wG ?_ ?_ | refine wH ?_ ?_ | refine wI ?_ ?_ | refine wJ ?_ ?_ | refine wK ?_ ?_ | refine wL ?_ ?_) <;> intro _) | simp (maxSteps := 1000000) (disch := omega) only [go_sem, seval, Lv.pv, *])
      (refine fin_tmp (.inr rfl) ?_; (first | rfl | (simp (disch := omega) only [go_sem, seval, Lv.same, *]; done) | (simp [Lv.same, upd, *]; done) | (simp [Lv.same, upd, *]; omega)))
end
section
attribute [local go_sem] pv_len pv_take id_ne id_ne' id_ne2 List.append_assoc Nat.add_assoc pv_one
mutual
def Lv.grown (bys : List Lv) : Lv → Nat
  | .mk k n args => if k = 2 then min (bys.getD n.toNat (.mk 1 0 [])).nodes 65 else 1 + grownL bys args
def grownL (bys : List Lv) : List Lv → Nat
  | [] => 0
  | x :: r => x.grown bys + grownL bys r
end
end
section
set_option maxRecDepth 20000
attribute [local go_sem] pv_len pv_take Nat.add_assoc tm_len tm_take pv_one id_ne id_ne' id_ne2
mutual
def Tm.nodes : Tm → Nat
  | .mk _ _ _ ls args => 1 + (nodesL ls + nodesT args)
def nodesT : List Tm → Nat
  | [] => 0
  | x :: r => x.nodes + nodesT r
end
theorem nodesT_take_succ : ∀ (ts : List Tm) (k : Nat) (h : k < ts.length), nodesT (ts.take (k + 1)) = nodesT (ts.take k) + ts[k].nodes
  | x :: r, 0, h => by simp [nodesT]
  | x :: r, k + 1, h => by
    have := nodesT_take_succ r k (by simpa using h)
    simp only [List.take_succ_cons, nodesT, List.getElem_cons_succ, this]
    omega
theorem nodesT_append : ∀ a b : List Tm, nodesT (a ++ b) = nodesT a + nodesT b
  | [], b => by simp [nodesT]
  | x :: r, b => by simp only [List.cons_append, nodesT, nodesT_append r b]; omega
theorem nodesT_take_le (ts : List Tm) (k : Nat) : nodesT (ts.take k) ≤ nodesT ts := by
  have h := nodesT_append (ts.take k) (ts.drop k)
  rw [List.take_append_drop] at h
  omega
theorem nodesT_mem (ts : List Tm) (k : Nat) (h : k < ts.length) : ts[k].nodes ≤ nodesT ts := by
  have h1 := nodesT_take_succ ts k h
  have h2 := nodesT_take_le ts (k + 1)
  omega
theorem tnodes_pos (t : Tm) : 0 < t.nodes := by cases t; simp only [Tm.nodes]; omega
mutual
theorem size_nodes : ∀ t : Tm, t.size ≤ t.nodes
  | .mk k n s ls args => by have := sizeL_nodes args; simp only [Tm.size, Tm.nodes]; omega
theorem sizeL_nodes : ∀ ts : List Tm, sizeL ts ≤ nodesT ts
  | [] => Nat.le_refl _
  | x :: r => by have := size_nodes x; have := sizeL_nodes r; simp only [sizeL, nodesT]; omega
end
set_option maxHeartbeats 8000000 in
theorem ref_Nodes_p (most : Nat) (hm : most ≤ 1000000) : ∀ (fuel : Nat) (t : Tm), t.size ≤ fuel →
    PPure Try.prog F.ref04_Nodes [.agg t.pv, .sc (.int .i64 most)] (.sc (.int .i64 (min t.nodes (most + 1) : Nat))) := by
  intro fuel
  induction fuel with
  | zero => intro t h; have := size_pos t; omega
  | succ fuel ih =>
    intro t hf
    cases t with
    | mk k n s ls args =>
    simp only [Tm.size] at hf
    refine pure_by is_ref04_Nodes (by simp) rfl fun hb nx => ?_
    have hb0 : ls.length ≤ 9223372036854775807 ∧ args.length ≤ 9223372036854775807 := by simp [Tm.pv, bndL, PV.bnd] at hb; exact ⟨hb.1.1, hb.2.1⟩
    repeat' (first | ((with_reducible first | refine wA (by omega) ?_ | refine wB (by omega) ?_ | refine wC (by omega) ?_ | refine wD (by omega) ?_ | refine wE ?_ ?_ | refine wF ?_ ?_ | refine wG ?_ ?_ | refine wH ?_ ?_ | refine wI ?_ ?_ | refine wJ ?_ ?_ | refine wK ?_ ?_ | refine wL ?_ ?_) <;> intro _) | simp (maxSteps := 1000000) (disch := omega) only [go_sem, seval, mc_ref04_Nodes, Tm.pv, *])
    refine c_loopW 536870752 (by kernel_rfl) (fun j f H m => ∃ i t : Nat, j = ls.length - i ∧ i ≤ ls.length ∧ min t (most + 1) = min (1 + nodesL (ls.take i)) (most + 1) ∧ t ≤ 2 * most + 1 ∧ f 5 = .sc (.int .i64 t) ∧ f 6 = .sc (.int .i64 i)) _ ⟨0, 1, rfl, cE1, by simp [nodesL], cE1, cE1, cE1⟩ ?_
    rintro _ f H m ⟨i, t, rfl, hi, ht, ht2, e5, e6⟩
    by_cases hgo : i < ls.length ∧ t ≤ most
    · obtain ⟨hlt, hfull⟩ := hgo
      have eg : ls[i]? = some ls[i] := List.getElem?_eq_getElem hlt
      have hs := nodesL_take_succ ls i hlt
      repeat' (first | ((with_reducible first | refine wA (by omega) ?_ | refine wB (by omega) ?_ | refine wC (by omega) ?_ | refine wD (by omega) ?_ | refine wE ?_ ?_ | refine wF ?_ ?_ | refine wG ?_ ?_ | refine wH ?_ ?_ | refine wI ?_ ?_ | refine wJ ?_ ?_ | refine wK ?_ ?_ | refine wL ?_ ?_) <;> intro _) | (((with_reducible refine call_id ?_); (first | (refine call_pure (LevelNodes_p most hm ls[i].nodes ls[i] (Nat.le_refl _)) ?_)))) | simp (maxSteps := 1000000) (disch := omega) only [go_sem, seval, Tm.pv, *])
      exact Nx.mk (ls.length - (i + 1)) cE1 ⟨i + 1, t + min ls[i].nodes (most + 1), rfl, cE1, by omega, by omega, cE1, cE1⟩
    · have hfin : min t (most + 1) = min (1 + nodesL ls) (most + 1) := by
        by_cases h : i < ls.length
        · have := nodesL_take_le ls i; omega
        · have e : ls.take i = ls := List.take_of_length_le (by omega)
          rw [e] at ht
          exact ht
      have hor : (i < ls.length ∧ most < t) ∨ ¬ i < ls.length := by omega
      clear hgo ht
      rcases hor with ⟨h, h'⟩ | h
      all_goals
        repeat' (first | ((with_reducible first | refine wA (by omega) ?_ | refine wB (by omega) ?_ | refine wC (by omega) ?_ | refine wD (by omega) ?_ | refine wE ?_ ?_ | refine wF ?_ ?_ | refine wG ?_ ?_ | refine wH ?_ ?_ | refine wI ?_ ?_ | refine wJ ?_ ?_ | refine wK ?_ ?_ | refine wL ?_ ?_) <;> intro _) | simp (maxSteps := 1000000) (disch := omega) only [go_sem, seval, Tm.pv, *])
        refine c_loopW 1125899369971872 (by kernel_rfl) (fun j f H m => ∃ i2 t2 : Nat, j = args.length - i2 ∧ i2 ≤ args.length ∧ min t2 (most + 1) = min (1 + (nodesL ls + nodesT (args.take i2))) (most + 1) ∧ t2 ≤ 2 * most + 1 ∧ f 5 = .sc (.int .i64 t2) ∧ f 7 = .sc (.int .i64 i2)) _ ⟨0, t, rfl, cE1, by simp [nodesT]; omega, cE1, cE1, cE1⟩ ?_
        rintro _ f2 H2 m2 ⟨i2, t2, rfl, hi2, ht3, ht4, e5', e7⟩
        by_cases hgo : i2 < args.length ∧ t2 ≤ most
        · obtain ⟨hlt, hfull⟩ := hgo
          have eg : args[i2]? = some args[i2] := List.getElem?_eq_getElem hlt
          have hs := nodesT_take_succ args i2 hlt
          have hsz := sizeL_mem args i2 hlt
          repeat' (first | ((with_reducible first | refine wA (by omega) ?_ | refine wB (by omega) ?_ | refine wC (by omega) ?_ | refine wD (by omega) ?_ | refine wE ?_ ?_ | refine wF ?_ ?_ | refine wG ?_ ?_ | refine wH ?_ ?_ | refine wI ?_ ?_ | refine wJ ?_ ?_ | refine wK ?_ ?_ | refine wL ?_ ?_) <;> intro _) | (((with_reducible refine call_id ?_); (first | (refine call_pure (ih args[i2] (by omega)) ?_)))) | simp (maxSteps := 1000000) (disch := omega) only [go_sem, seval, Tm.pv, *])
          exact Nx.mk (args.length - (i2 + 1)) cE1 ⟨i2 + 1, t2 + min args[i2].nodes (most + 1), rfl, cE1, by omega, by omega, cE1, cE1⟩
        · have hfin2 : min t2 (most + 1) = min (1 + (nodesL ls + nodesT args)) (most + 1) := by
            by_cases h : i2 < args.length
            · have := nodesT_take_le args i2; omega
            · have e : args.take i2 = args := List.take_of_length_le (by omega)
              rw [e] at ht3
              exact ht3
          have hor : (i2 < args.length ∧ most < t2) ∨ ¬ i2 < args.length := by omega
          clear hgo ht3
          rcases hor with ⟨h2, h2'⟩ | h2
          all_goals
            repeat' (first | ((with_reducible first | refine wA (by omega) ?_ | refine wB (by omega) ?_ | refine wC (by omega) ?_ | refine wD (by omega) ?_ | refine wE ?_ ?_ | refine wF ?_ ?_ | refine wG ?_ ?_ | refine wH ?_ ?_ | refine wI ?_ ?_ | refine wJ ?_ ?_ | refine wK ?_ ?_ | refine wL ?_ ?_) <;> intro _) | simp (maxSteps := 1000000) (disch := omega) only [go_sem, seval, Tm.pv, *])
            refine fin_tmp (.inr rfl) ?_
            simp (disch := omega) only [go_sem, seval, Tm.nodes, *]
            omega
theorem binds_p (kind i : Int) (hi : 0 ≤ i) : PPure Try.prog F.ref04_binds [.sc (.int .i64 kind), .sc (.int .i64 i)] (.sc (.bool (decide (((kind = 5 ∨ kind = 6) ∧ i = 1) ∨ (kind = 7 ∧ i = 2))))) := by
  refine pure_by is_ref04_binds (by simp) rfl fun hb nx => ?_
  repeat' (first | ((with_reducible first | refine wA (by omega) ?_ | refine wB (by omega) ?_ | refine wC (by omega) ?_ | refine wD (by omega) ?_ | refine wE ?_ ?_ | refine wF ?_ ?_ | refine wG ?_ ?_ | refine wH ?_ ?_ | refine wI ?_ ?_ | refine wJ ?_ ?_ | refine wK ?_ ?_ | refine wL ?_ ?_) <;> intro _) | simp (maxSteps := 1000000) (disch := omega) only [go_sem, seval, mc_ref04_binds, *])
  all_goals (refine fin_tmp (.inr rfl) ?_; simp [upd, *] <;> omega)
end
section
set_option maxRecDepth 20000
attribute [local go_sem] Nat.add_assoc id_ne id_ne' id_ne2 List.append_assoc bC_len bC_one pv_take tm_take rowB_flat
mutual
def Tm.enc : Tm → List UInt8
  | .mk k n s ls args => Plain.enc k.toNat ++ ((if k = 1 then Plain.enc n.toNat else if k = 3 then encT [s] ++ Plain.enc ls.length else []) ++ (encLs ls ++ encTs args))
def encTs : List Tm → List UInt8
  | [] => []
  | x :: r => x.enc ++ encTs r
end
mutual
def Tm.packP (np : Int) : Tm → Prop
  | .mk k n s ls args => (1 ≤ k ∧ k ≤ 7) ∧ (k = 1 → 0 ≤ n ∧ n ≤ 2 ^ 40) ∧ (k = 3 → s.size ≤ 40 ∧ ls.length ≤ 4) ∧ formedL np ls = true ∧ packPs np args
def packPs (np : Int) : List Tm → Prop
  | [] => True
  | x :: r => x.packP np ∧ packPs np r
end
theorem encTs_snoc : ∀ (ls : List Tm) (i : Nat) (h : i < ls.length), encTs (ls.take (i + 1)) = encTs (ls.take i) ++ ls[i].enc
  | x :: r, 0, h => by simp [encTs]
  | x :: r, i + 1, h => by
    have := encTs_snoc r i (by simpa using h)
    simp only [List.take_succ_cons, encTs, List.getElem_cons_succ, this, List.append_assoc]
theorem packPs_mem {np : Int} : ∀ (ls : List Tm) (i : Nat) (h : i < ls.length), packPs np ls → ls[i].packP np
  | x :: r, 0, h, hf => hf.1
  | x :: r, i + 1, h, hf => packPs_mem r i (by simpa using h) hf.2
theorem packPs_take {np : Int} : ∀ (ls : List Tm) (i : Nat), packPs np ls → packPs np (ls.take i)
  | [], _, _ => by simp [packPs]
  | x :: r, 0, _ => by simp [packPs]
  | x :: r, i + 1, h => ⟨h.1, packPs_take r i h.2⟩
theorem encT_one (s : ByteArray) : encT [s] = Plain.enc s.size ++ tb s := by simp [encT]
mutual
theorem Tm.enc_len {np : Int} (hnp : np ≤ 4) : ∀ t : Tm, t.packP np → t.enc.length ≤ 64 * t.nodes
  | .mk k n s ls args, h => by
    obtain ⟨h1, h2, h3, h4, h5⟩ := h
    have a1 := enc_len6 k.toNat (by omega)
    have a3 := encLs_len hnp ls h4
    have a4 := encTs_len hnp args h5
    simp only [Tm.enc, Tm.nodes, List.length_append]
    split
    · rename_i hk
      have a2 := enc_len6 n.toNat (by have := h2 hk; omega)
      omega
    · split
      · rename_i hk
        have b3 := h3 hk
        have a2 := enc_len6 s.size (by omega)
        have a5 := enc_len6 ls.length (by omega)
        rw [encT_one]
        simp only [List.length_append, strC_len]
        omega
      · simp only [List.length_nil]; omega
theorem encTs_len {np : Int} (hnp : np ≤ 4) : ∀ ls : List Tm, packPs np ls → (encTs ls).length ≤ 64 * nodesT ls
  | [], _ => Nat.le_refl _
  | x :: r, h => by
    have a1 := Tm.enc_len hnp x h.1
    have a2 := encTs_len hnp r h.2
    simp only [encTs, nodesT, List.length_append]
    omega
end
set_option maxHeartbeats 16000000 in
theorem putTerm_m {np : Int} (hnp : np ≤ 4) : ∀ (fuel : Nat) (t : Tm), t.nodes ≤ fuel → t.packP np → ∀ (b : List UInt8), b.length + 64 * t.nodes ≤ 2 ^ 40 → ∀ (a : PV) (lo : Nat) (H : Nat → Option PObj) (nx : Nat), BRow H lo nx a b → ∀ rest : List PV,
    PMut Try.prog F.pack_putTerm [a, .ptr (t.pv ++ rest)] H nx (fun H' nx' r => nx ≤ nx' ∧ BRow H' nx nx' r (b ++ t.enc) ∧ ∀ j, j < nx → ¬ leadB a j → H' j = H j) := by
  intro fuel
  induction fuel with
  | zero => intro t h; have : 0 < t.nodes := (by cases t; simp only [Tm.nodes]; omega); omega
  | succ fuel ih =>
  intro t hn hf b hb a lo H nx ha rest
  cases t with
  | mk k n s ls args =>
  obtain ⟨hk, hn1, hs1, hfl, hfa⟩ := hf
  simp only [Tm.nodes] at hn hb
  refine mut_by is_pack_putTerm (by simp) fun hbn => ?_
  have hbl : ls.length ≤ 9223372036854775807 := by simp [Tm.pv, bndL, PV.bnd] at hbn; omega
  have hba : args.length ≤ 9223372036854775807 := by simp [Tm.pv, bndL, PV.bnd] at hbn; omega
  clear hbn
  obtain ⟨k, rfl⟩ : ∃ k' : Nat, k = k' := ⟨k.toNat, by omega⟩
  repeat' (first | ((with_reducible first | refine wA (by omega) ?_ | refine wB (by omega) ?_ | refine wC (by omega) ?_ | refine wD (by omega) ?_ | refine wE ?_ ?_ | refine wF ?_ ?_ | refine wG ?_ ?_ | refine wH ?_ ?_ | refine wI ?_ ?_ | refine wJ ?_ ?_ | refine wK ?_ ?_ | refine wL ?_ ?_) <;> intro _) | simp (maxSteps := 1000000) (disch := omega) only [go_sem, seval, mc_pack_putTerm, Tm.pv, *])
  refine call_mut (put_m [k] (by simp; omega) (by simp) (by simp) b (by omega) a lo H _ (BRow.weak ha (Nat.le_refl _) (Nat.le_add_right _ _))) ?_
  rintro H1 m1 r1 ⟨hm0, hr0, hk0⟩ -
  have hm1 : nx + 1 ≤ m1 := Nat.le_trans (Nat.add_le_add_left (by decide) _) hm0
  have hr1 : Kept (BRow H1 nx m1 r1 (b ++ Plain.enc k)) := by rw [← encs_one]; exact BRow.weak hr0 (Nat.le_add_right _ _) (Nat.le_refl _)
  have hk1 : Kept (∀ j, j < nx → ¬ leadB a j → H1 j = H j) := fun j g1 g2 => hk0 j (Nat.lt_of_lt_of_le g1 (Nat.le_add_right _ _)) g2
  clear hm0 hr0 hk0 ha
  have hek := enc_len6 k (by omega)
  obtain rfl | rfl | ⟨h1, h3⟩ : k = 1 ∨ k = 3 ∨ (k ≠ 1 ∧ k ≠ 3) := by omega
  · have hn2 := hn1 rfl
    obtain ⟨n, rfl⟩ : ∃ n' : Nat, n = n' := ⟨n.toNat, by omega⟩
    have hen := enc_len6 n (by omega)
    repeat' (first | ((with_reducible first | refine wA (by omega) ?_ | refine wB (by omega) ?_ | refine wC (by omega) ?_ | refine wD (by omega) ?_ | refine wE ?_ ?_ | refine wF ?_ ?_ | refine wG ?_ ?_ | refine wH ?_ ?_ | refine wI ?_ ?_ | refine wJ ?_ ?_ | refine wK ?_ ?_ | refine wL ?_ ?_) <;> intro _) | simp (maxSteps := 1000000) (disch := omega) only [go_sem, seval, *])
    refine call_mut (put_m [n] (by simp; omega) (by simp) (by simp) (b ++ Plain.enc 1) (by simp only [List.length_append]; omega) r1 nx H1 _ (BRow.weak hr1 (Nat.le_refl _) (Nat.le_add_right _ _))) ?_
    rintro H2 m2 r2 ⟨hm0, hr0, hk0⟩ -
    obtain ⟨T, hT1⟩ : ∃ T, T = Plain.enc 1 ++ Plain.enc n := ⟨_, rfl⟩
    have hm2 : nx ≤ m2 := Nat.le_trans (Nat.le_of_lt hm1) (Nat.le_trans (Nat.le_add_right _ _) hm0)
    have hr2 : Kept (BRow H2 nx m2 r2 (b ++ T)) := by
      rw [hT1, ← encs_one n, ← List.append_assoc]
      exact BRow.weak hr0 (Nat.le_trans (Nat.le_of_lt hm1) (Nat.le_add_right _ _)) (Nat.le_refl _)
    have hk2 : Kept (∀ j, j < nx → ¬ leadB a j → H2 j = H j) := fun j g1 g2 => by
      rw [hk0 j (Nat.lt_of_lt_of_le g1 (Nat.le_trans (Nat.le_of_lt hm1) (Nat.le_add_right _ _))) (BRow.lead hr1 g1)]; exact hk1 j g1 g2
    have hT2 : T.length ≤ 60 := by rw [hT1, List.length_append]; omega
    have hT : (Tm.mk 1 (n : Int) s ls args).enc = T ++ (encLs ls ++ encTs args) := by
      rw [hT1]; simp [Tm.enc]
    clear hm0 hr0 hk0 hr1 hk1 hm1 hen hT1
    repeat' (first | ((with_reducible first | refine wA (by omega) ?_ | refine wB (by omega) ?_ | refine wC (by omega) ?_ | refine wD (by omega) ?_ | refine wE ?_ ?_ | refine wF ?_ ?_ | refine wG ?_ ?_ | refine wH ?_ ?_ | refine wI ?_ ?_ | refine wJ ?_ ?_ | refine wK ?_ ?_ | refine wL ?_ ?_) <;> intro _) | simp (maxSteps := 1000000) (disch := omega) only [go_sem, seval, *])
    have hTl : T.length ≤ 60 := hT2
    refine c_loopW 2305280059260272673 (by kernel_rfl) (fun j f H2 m => ∃ i : Nat, j = ls.length - i ∧ i ≤ ls.length ∧ f 49 = .sc (.int .i64 i) ∧ nx ≤ m ∧ Kept (BRow H2 nx m (f 0) (b ++ (T ++ encLs (ls.take i)))) ∧ Kept (∀ j, j < nx → ¬ leadB a j → H2 j = H j)) _ ⟨0, rfl, Nat.zero_le _, cE1, ?mm, ?rr, hk2⟩ ?_
    case mm => exact Nat.le_trans hm2 (Nat.le_add_right _ _)
    case rr =>
      refine Kept.mk ?_
      simp only [upd_get, Nat.reduceEqDiff, ↓reduceIte, List.take_zero, encLs, List.append_nil]
      exact BRow.weak hr2 (Nat.le_refl _) (Nat.le_add_right _ _)
    clear hm2 hr2 hk2
    rintro _ f H3 m3 ⟨i, rfl, hi, e49, hm, hr, hkk⟩
    by_cases hlt : i < ls.length
    · have eg : ls[i]? = some ls[i] := List.getElem?_eq_getElem hlt
      have hnm := nodesL_mem ls i hlt
      repeat' (first | ((with_reducible first | refine wA (by omega) ?_ | refine wB (by omega) ?_ | refine wC (by omega) ?_ | refine wD (by omega) ?_ | refine wE ?_ ?_ | refine wF ?_ ?_ | refine wG ?_ ?_ | refine wH ?_ ?_ | refine wI ?_ ?_ | refine wJ ?_ ?_ | refine wK ?_ ?_ | refine wL ?_ ?_) <;> intro _) | simp (maxSteps := 1000000) (disch := omega) only [go_sem, seval, *])
      have a1 := encLs_len hnp (ls.take i) (formedL_all np ls i hfl)
      have a2 := nodesL_take_succ ls i hlt
      have a3 := nodesL_take_le ls (i + 1)
      refine call_mut (putLevel_m hnp _ ls[i] (Nat.le_refl _) (formedL_mem ls i hlt hfl) (b ++ (T ++ encLs (ls.take i))) (by simp only [List.length_append]; omega) (f 0) nx H3 _ (BRow.weak hr (Nat.le_refl _) (Nat.le_add_right _ _))) ?_
      rintro H4 m4 r4 ⟨hm0, hr0, hk0⟩ -
      have hm4 : m3 ≤ m4 := Nat.le_trans (Nat.le_add_right _ _) hm0
      have hr4 : Kept (BRow H4 nx m4 r4 (b ++ (T ++ encLs (ls.take (i + 1))))) := by
        rw [encLs_snoc ls i hlt]
        simp only [List.append_assoc] at hr0 ⊢
        exact BRow.weak hr0 (Nat.le_trans hm (Nat.le_add_right _ _)) (Nat.le_refl _)
      have hk4 : Kept (∀ j, j < nx → ¬ leadB a j → H4 j = H j) := fun j g1 g2 => by
        rw [hk0 j (Nat.lt_of_lt_of_le g1 (Nat.le_trans hm (Nat.le_add_right _ _))) (BRow.lead hr g1)]; exact hkk j g1 g2
      clear hm0 hr0 hk0 hr hkk a1 a2 a3
      repeat' (first | ((with_reducible first | refine wA (by omega) ?_ | refine wB (by omega) ?_ | refine wC (by omega) ?_ | refine wD (by omega) ?_ | refine wE ?_ ?_ | refine wF ?_ ?_ | refine wG ?_ ?_ | refine wH ?_ ?_ | refine wI ?_ ?_ | refine wJ ?_ ?_ | refine wK ?_ ?_ | refine wL ?_ ?_) <;> intro _) | simp (maxSteps := 1000000) (disch := omega) only [go_sem, seval, *])
      refine Nx.mk (ls.length - (i + 1)) (by omega) ⟨i + 1, rfl, cE1, cE1, ?mm, ?rr, hk4⟩
      case mm => exact Nat.le_trans hm (Nat.le_trans hm4 (Nat.le_add_right _ _))
      case rr =>
        refine Kept.mk ?_
        simp only [upd_get, Nat.reduceEqDiff, ↓reduceIte]
        exact BRow.weak hr4 (Nat.le_refl _) (Nat.le_add_right _ _)
    · obtain rfl : i = ls.length := by omega
      rw [List.take_length] at hr
      repeat' (first | ((with_reducible first | refine wA (by omega) ?_ | refine wB (by omega) ?_ | refine wC (by omega) ?_ | refine wD (by omega) ?_ | refine wE ?_ ?_ | refine wF ?_ ?_ | refine wG ?_ ?_ | refine wH ?_ ?_ | refine wI ?_ ?_ | refine wJ ?_ ?_ | refine wK ?_ ?_ | refine wL ?_ ?_) <;> intro _) | simp (maxSteps := 1000000) (disch := omega) only [go_sem, seval, *])
      have a0 := encLs_len hnp ls hfl
      refine c_loopW 302157667927362455470145 (by kernel_rfl) (fun j f H2 m => ∃ i : Nat, j = args.length - i ∧ i ≤ args.length ∧ f 66 = .sc (.int .i64 i) ∧ nx ≤ m ∧ Kept (BRow H2 nx m (f 0) (b ++ (T ++ (encLs ls ++ encTs (args.take i))))) ∧ Kept (∀ j, j < nx → ¬ leadB a j → H2 j = H j)) _ ⟨0, rfl, Nat.zero_le _, cE1, ?mm, ?rr, hkk⟩ ?_
      case mm => exact Nat.le_trans hm (Nat.le_add_right _ _)
      case rr =>
        refine Kept.mk ?_
        simp (disch := omega) only [upd_get, ovr_get, Nat.reduceShiftRight, Nat.reduceMod, Nat.reduceEqDiff, ↓reduceIte, List.take_zero, encTs, List.append_nil, ite_neN, ite_eqN]
        exact BRow.weak hr (Nat.le_refl _) (Nat.le_add_right _ _)
      clear hm hr hkk hi hlt
      rintro _ g H5 m5 ⟨i, rfl, hi, e66, hm, hr, hkk⟩
      by_cases hlt : i < args.length
      · have eg : args[i]? = some args[i] := List.getElem?_eq_getElem hlt
        repeat' (first | ((with_reducible first | refine wA (by omega) ?_ | refine wB (by omega) ?_ | refine wC (by omega) ?_ | refine wD (by omega) ?_ | refine wE ?_ ?_ | refine wF ?_ ?_ | refine wG ?_ ?_ | refine wH ?_ ?_ | refine wI ?_ ?_ | refine wJ ?_ ?_ | refine wK ?_ ?_ | refine wL ?_ ?_) <;> intro _) | simp (maxSteps := 1000000) (disch := omega) only [go_sem, seval, *])
        have a1 := encTs_len hnp (args.take i) (packPs_take args i hfa)
        have a2 := nodesT_take_succ args i hlt
        have a3 := nodesT_take_le args (i + 1)
        refine call_mut (ih args[i] (by omega) (packPs_mem args i hlt hfa) (b ++ (T ++ (encLs ls ++ encTs (args.take i)))) (by simp only [List.length_append]; omega) (g 0) nx H5 _ (BRow.weak hr (Nat.le_refl _) (Nat.le_add_right _ _)) [] |> fun h => by rwa [List.append_nil] at h) ?_
        rintro H6 m6 r6 ⟨hm0, hr0, hk0⟩ -
        have hm6 : m5 ≤ m6 := Nat.le_trans (Nat.le_add_right _ _) hm0
        have hr6 : Kept (BRow H6 nx m6 r6 (b ++ (T ++ (encLs ls ++ encTs (args.take (i + 1)))))) := by
          rw [encTs_snoc args i hlt]
          simp only [List.append_assoc] at hr0 ⊢
          exact BRow.weak hr0 (Nat.le_trans hm (Nat.le_add_right _ _)) (Nat.le_refl _)
        have hk6 : Kept (∀ j, j < nx → ¬ leadB a j → H6 j = H j) := fun j g1 g2 => by
          rw [hk0 j (Nat.lt_of_lt_of_le g1 (Nat.le_trans hm (Nat.le_add_right _ _))) (BRow.lead hr g1)]; exact hkk j g1 g2
        clear hm0 hr0 hk0 hr hkk a1 a2 a3
        repeat' (first | ((with_reducible first | refine wA (by omega) ?_ | refine wB (by omega) ?_ | refine wC (by omega) ?_ | refine wD (by omega) ?_ | refine wE ?_ ?_ | refine wF ?_ ?_ | refine wG ?_ ?_ | refine wH ?_ ?_ | refine wI ?_ ?_ | refine wJ ?_ ?_ | refine wK ?_ ?_ | refine wL ?_ ?_) <;> intro _) | simp (maxSteps := 1000000) (disch := omega) only [go_sem, seval, *])
        refine Nx.mk (args.length - (i + 1)) (by omega) ⟨i + 1, rfl, cE1, cE1, ?mm, ?rr, hk6⟩
        case mm => exact Nat.le_trans hm (Nat.le_trans hm6 (Nat.le_add_right _ _))
        case rr =>
          refine Kept.mk ?_
          simp only [upd_get, Nat.reduceEqDiff, ↓reduceIte]
          exact BRow.weak hr6 (Nat.le_refl _) (Nat.le_add_right _ _)
      · obtain rfl : i = args.length := by omega
        rw [List.take_length] at hr
        repeat' (first | ((with_reducible first | refine wA (by omega) ?_ | refine wB (by omega) ?_ | refine wC (by omega) ?_ | refine wD (by omega) ?_ | refine wE ?_ ?_ | refine wF ?_ ?_ | refine wG ?_ ?_ | refine wH ?_ ?_ | refine wI ?_ ?_ | refine wJ ?_ ?_ | refine wK ?_ ?_ | refine wL ?_ ?_) <;> intro _) | simp (maxSteps := 1000000) (disch := omega) only [go_sem, seval, *])
        refine fin_mut (g 0) (.inr rfl) rfl ⟨Nat.le_trans hm (Nat.le_add_right _ _), ?g2, hkk⟩
        case g2 =>
          first
            | exact BRow.weak hr (Nat.le_refl _) (Nat.le_add_right _ _)
            | (rw [hT]; exact BRow.weak hr (Nat.le_refl _) (Nat.le_add_right _ _))
  · have hs2 := hs1 rfl
    have hel := enc_len6 ls.length (by omega)
    have hes := enc_len6 s.size (by omega)
    have c1 := Texts_p [s] (by simp) (by simp) (by rw [encT_one]; simp only [List.length_append, strC_len]; omega)
    have het : (encT [s]).length ≤ 46 := by rw [encT_one]; simp only [List.length_append, strC_len]; omega
    obtain ⟨g0, -⟩ | ⟨id, w, g1, g2, rfl, g3⟩ := hr1
    · have h5 := congrArg List.length g0
      have h6 := Plain.enc_length_pos 3
      simp only [List.length_append, List.length_nil] at h5
      omega
    have hb1 : b.length + ((Plain.enc 3).length + (encT [s]).length) ≤ 140737488355328 := by omega
    have hb2 : b.length + ((Plain.enc 3).length + (encT [s]).length) ≤ 4611686018427387904 := by omega
    repeat' (first | ((with_reducible first | refine wA (by omega) ?_ | refine wB (by omega) ?_ | refine wC (by omega) ?_ | refine wD (by omega) ?_ | refine wE ?_ ?_ | refine wF ?_ ?_ | refine wG ?_ ?_ | refine wH ?_ ?_ | refine wI ?_ ?_ | refine wJ ?_ ?_ | refine wK ?_ ?_ | refine wL ?_ ?_) <;> intro _) | (((with_reducible refine call_id ?_); (first | (refine call_pure (c1) ?_)))) | simp (maxSteps := 1000000) (disch := omega) only [go_sem, seval, rowB, *])
    refine call_mut (put_m [ls.length] (by simp; omega) (by simp) (by simp) (b ++ (Plain.enc 3 ++ encT [s])) (by simp only [List.length_append]; omega) (.osl (m1 + 15) 0 (b.length + ((Plain.enc 3).length + (encT [s]).length)) 1) 0 _ _ (.inr ⟨m1 + 15, false, Nat.zero_le _, (show m1 + 15 < m1 + 24 by omega), by simp only [List.length_append], by simp [upd, bC_append]⟩)) ?_
    rintro H2 m2 r2 ⟨hm0, hr0, hk0⟩ -
    obtain ⟨T, hT1⟩ : ∃ T, T = Plain.enc 3 ++ (encT [s] ++ Plain.enc ls.length) := ⟨_, rfl⟩
    have hm2 : nx ≤ m2 := Nat.le_trans (show nx ≤ m1 + 24 by omega) hm0
    have hr2 : Kept (BRow H2 nx m2 r2 (b ++ T)) := by
      have := BRow.weak hr0 (show nx ≤ m1 + 24 by omega) (Nat.le_refl _)
      rw [encs_one] at this
      rw [hT1]
      simp only [List.append_assoc] at this ⊢
      exact this
    have hk2 : Kept (∀ j, j < nx → ¬ leadB a j → H2 j = H j) := fun j g5 g6 => by
      rw [hk0 j (show j < m1 + 24 by omega) (fun e => by have : j = m1 + 15 := e; omega)]
      show upd (upd H1 id none) (m1 + 15) _ j = H j
      rw [upd_ne _ _ (show j ≠ m1 + 15 by omega), upd_ne _ _ (show j ≠ id by omega)]
      exact hk1 j g5 g6
    have hT2 : T.length ≤ 60 := by rw [hT1]; simp only [List.length_append]; omega
    have hT : (Tm.mk 3 n s ls args).enc = T ++ (encLs ls ++ encTs args) := by
      rw [hT1]; simp [Tm.enc]
    clear hm0 hr0 hk0 hk1 hm1 hT1 c1 hb1 hb2 g1 g2 g3
    repeat' (first | ((with_reducible first | refine wA (by omega) ?_ | refine wB (by omega) ?_ | refine wC (by omega) ?_ | refine wD (by omega) ?_ | refine wE ?_ ?_ | refine wF ?_ ?_ | refine wG ?_ ?_ | refine wH ?_ ?_ | refine wI ?_ ?_ | refine wJ ?_ ?_ | refine wK ?_ ?_ | refine wL ?_ ?_) <;> intro _) | simp (maxSteps := 1000000) (disch := omega) only [go_sem, seval, *])
    have hTl : T.length ≤ 60 := hT2
    refine c_loopW 2305280059260272673 (by kernel_rfl) (fun j f H2 m => ∃ i : Nat, j = ls.length - i ∧ i ≤ ls.length ∧ f 49 = .sc (.int .i64 i) ∧ nx ≤ m ∧ Kept (BRow H2 nx m (f 0) (b ++ (T ++ encLs (ls.take i)))) ∧ Kept (∀ j, j < nx → ¬ leadB a j → H2 j = H j)) _ ⟨0, rfl, Nat.zero_le _, cE1, ?mm, ?rr, hk2⟩ ?_
    case mm => exact Nat.le_trans hm2 (Nat.le_add_right _ _)
    case rr =>
      refine Kept.mk ?_
      simp only [upd_get, Nat.reduceEqDiff, ↓reduceIte, List.take_zero, encLs, List.append_nil]
      exact BRow.weak hr2 (Nat.le_refl _) (Nat.le_add_right _ _)
    clear hm2 hr2 hk2
    rintro _ f H3 m3 ⟨i, rfl, hi, e49, hm, hr, hkk⟩
    by_cases hlt : i < ls.length
    · have eg : ls[i]? = some ls[i] := List.getElem?_eq_getElem hlt
      have hnm := nodesL_mem ls i hlt
      repeat' (first | ((with_reducible first | refine wA (by omega) ?_ | refine wB (by omega) ?_ | refine wC (by omega) ?_ | refine wD (by omega) ?_ | refine wE ?_ ?_ | refine wF ?_ ?_ | refine wG ?_ ?_ | refine wH ?_ ?_ | refine wI ?_ ?_ | refine wJ ?_ ?_ | refine wK ?_ ?_ | refine wL ?_ ?_) <;> intro _) | simp (maxSteps := 1000000) (disch := omega) only [go_sem, seval, *])
      have a1 := encLs_len hnp (ls.take i) (formedL_all np ls i hfl)
      have a2 := nodesL_take_succ ls i hlt
      have a3 := nodesL_take_le ls (i + 1)
      refine call_mut (putLevel_m hnp _ ls[i] (Nat.le_refl _) (formedL_mem ls i hlt hfl) (b ++ (T ++ encLs (ls.take i))) (by simp only [List.length_append]; omega) (f 0) nx H3 _ (BRow.weak hr (Nat.le_refl _) (Nat.le_add_right _ _))) ?_
      rintro H4 m4 r4 ⟨hm0, hr0, hk0⟩ -
      have hm4 : m3 ≤ m4 := Nat.le_trans (Nat.le_add_right _ _) hm0
      have hr4 : Kept (BRow H4 nx m4 r4 (b ++ (T ++ encLs (ls.take (i + 1))))) := by
        rw [encLs_snoc ls i hlt]
        simp only [List.append_assoc] at hr0 ⊢
        exact BRow.weak hr0 (Nat.le_trans hm (Nat.le_add_right _ _)) (Nat.le_refl _)
      have hk4 : Kept (∀ j, j < nx → ¬ leadB a j → H4 j = H j) := fun j g1 g2 => by
        rw [hk0 j (Nat.lt_of_lt_of_le g1 (Nat.le_trans hm (Nat.le_add_right _ _))) (BRow.lead hr g1)]; exact hkk j g1 g2
      clear hm0 hr0 hk0 hr hkk a1 a2 a3
      repeat' (first | ((with_reducible first | refine wA (by omega) ?_ | refine wB (by omega) ?_ | refine wC (by omega) ?_ | refine wD (by omega) ?_ | refine wE ?_ ?_ | refine wF ?_ ?_ | refine wG ?_ ?_ | refine wH ?_ ?_ | refine wI ?_ ?_ | refine wJ ?_ ?_ | refine wK ?_ ?_ | refine wL ?_ ?_) <;> intro _) | simp (maxSteps := 1000000) (disch := omega) only [go_sem, seval, *])
      refine Nx.mk (ls.length - (i + 1)) (by omega) ⟨i + 1, rfl, cE1, cE1, ?mm, ?rr, hk4⟩
      case mm => exact Nat.le_trans hm (Nat.le_trans hm4 (Nat.le_add_right _ _))
      case rr =>
        refine Kept.mk ?_
        simp only [upd_get, Nat.reduceEqDiff, ↓reduceIte]
        exact BRow.weak hr4 (Nat.le_refl _) (Nat.le_add_right _ _)
    · obtain rfl : i = ls.length := by omega
      rw [List.take_length] at hr
      repeat' (first | ((with_reducible first | refine wA (by omega) ?_ | refine wB (by omega) ?_ | refine wC (by omega) ?_ | refine wD (by omega) ?_ | refine wE ?_ ?_ | refine wF ?_ ?_ | refine wG ?_ ?_ | refine wH ?_ ?_ | refine wI ?_ ?_ | refine wJ ?_ ?_ | refine wK ?_ ?_ | refine wL ?_ ?_) <;> intro _) | simp (maxSteps := 1000000) (disch := omega) only [go_sem, seval, *])
      have a0 := encLs_len hnp ls hfl
      refine c_loopW 302157667927362455470145 (by kernel_rfl) (fun j f H2 m => ∃ i : Nat, j = args.length - i ∧ i ≤ args.length ∧ f 66 = .sc (.int .i64 i) ∧ nx ≤ m ∧ Kept (BRow H2 nx m (f 0) (b ++ (T ++ (encLs ls ++ encTs (args.take i))))) ∧ Kept (∀ j, j < nx → ¬ leadB a j → H2 j = H j)) _ ⟨0, rfl, Nat.zero_le _, cE1, ?mm, ?rr, hkk⟩ ?_
      case mm => exact Nat.le_trans hm (Nat.le_add_right _ _)
      case rr =>
        refine Kept.mk ?_
        simp (disch := omega) only [upd_get, ovr_get, Nat.reduceShiftRight, Nat.reduceMod, Nat.reduceEqDiff, ↓reduceIte, List.take_zero, encTs, List.append_nil, ite_neN, ite_eqN]
        exact BRow.weak hr (Nat.le_refl _) (Nat.le_add_right _ _)
      clear hm hr hkk hi hlt
      rintro _ g H5 m5 ⟨i, rfl, hi, e66, hm, hr, hkk⟩
      by_cases hlt : i < args.length
      · have eg : args[i]? = some args[i] := List.getElem?_eq_getElem hlt
        repeat' (first | ((with_reducible first | refine wA (by omega) ?_ | refine wB (by omega) ?_ | refine wC (by omega) ?_ | refine wD (by omega) ?_ | refine wE ?_ ?_ | refine wF ?_ ?_ | refine wG ?_ ?_ | refine wH ?_ ?_ | refine wI ?_ ?_ | refine wJ ?_ ?_ | refine wK ?_ ?_ | refine wL ?_ ?_) <;> intro _) | simp (maxSteps := 1000000) (disch := omega) only [go_sem, seval, *])
        have a1 := encTs_len hnp (args.take i) (packPs_take args i hfa)
        have a2 := nodesT_take_succ args i hlt
        have a3 := nodesT_take_le args (i + 1)
        refine call_mut (ih args[i] (by omega) (packPs_mem args i hlt hfa) (b ++ (T ++ (encLs ls ++ encTs (args.take i)))) (by simp only [List.length_append]; omega) (g 0) nx H5 _ (BRow.weak hr (Nat.le_refl _) (Nat.le_add_right _ _)) [] |> fun h => by rwa [List.append_nil] at h) ?_
        rintro H6 m6 r6 ⟨hm0, hr0, hk0⟩ -
        have hm6 : m5 ≤ m6 := Nat.le_trans (Nat.le_add_right _ _) hm0
        have hr6 : Kept (BRow H6 nx m6 r6 (b ++ (T ++ (encLs ls ++ encTs (args.take (i + 1)))))) := by
          rw [encTs_snoc args i hlt]
          simp only [List.append_assoc] at hr0 ⊢
          exact BRow.weak hr0 (Nat.le_trans hm (Nat.le_add_right _ _)) (Nat.le_refl _)
        have hk6 : Kept (∀ j, j < nx → ¬ leadB a j → H6 j = H j) := fun j g1 g2 => by
          rw [hk0 j (Nat.lt_of_lt_of_le g1 (Nat.le_trans hm (Nat.le_add_right _ _))) (BRow.lead hr g1)]; exact hkk j g1 g2
        clear hm0 hr0 hk0 hr hkk a1 a2 a3
        repeat' (first | ((with_reducible first | refine wA (by omega) ?_ | refine wB (by omega) ?_ | refine wC (by omega) ?_ | refine wD (by omega) ?_ | refine wE ?_ ?_ | refine wF ?_ ?_ | refine wG ?_ ?_ | refine wH ?_ ?_ | refine wI ?_ ?_ | refine wJ ?_ ?_ | refine wK ?_ ?_ | refine wL ?_ ?_) <;> intro _) | simp (maxSteps := 1000000) (disch := omega) only [go_sem, seval, *])
        refine Nx.mk (args.length - (i + 1)) (by omega) ⟨i + 1, rfl, cE1, cE1, ?mm, ?rr, hk6⟩
        case mm => exact Nat.le_trans hm (Nat.le_trans hm6 (Nat.le_add_right _ _))
        case rr =>
          refine Kept.mk ?_
          simp only [upd_get, Nat.reduceEqDiff, ↓reduceIte]
          exact BRow.weak hr6 (Nat.le_refl _) (Nat.le_add_right _ _)
      · obtain rfl : i = args.length := by omega
        rw [List.take_length] at hr
        repeat' (first | ((with_reducible first | refine wA (by omega) ?_ | refine wB (by omega) ?_ | refine wC (by omega) ?_ | refine wD (by omega) ?_ | refine wE ?_ ?_ | refine wF ?_ ?_ | refine wG ?_ ?_ | refine wH ?_ ?_ | refine wI ?_ ?_ | refine wJ ?_ ?_ | refine wK ?_ ?_ | refine wL ?_ ?_) <;> intro _) | simp (maxSteps := 1000000) (disch := omega) only [go_sem, seval, *])
        refine fin_mut (g 0) (.inr rfl) rfl ⟨Nat.le_trans hm (Nat.le_add_right _ _), ?g2, hkk⟩
        case g2 =>
          first
            | exact BRow.weak hr (Nat.le_refl _) (Nat.le_add_right _ _)
            | (rw [hT]; exact BRow.weak hr (Nat.le_refl _) (Nat.le_add_right _ _))
  · obtain ⟨T, hT1⟩ : ∃ T, T = Plain.enc k := ⟨_, rfl⟩
    have hm2 : nx ≤ m1 := Nat.le_of_lt hm1
    have hr2 : Kept (BRow H1 nx m1 r1 (b ++ T)) := by rw [hT1]; exact hr1
    have hk2 := hk1
    have hT2 : T.length ≤ 60 := by rw [hT1]; omega
    have hT : (Tm.mk (k : Int) n s ls args).enc = T ++ (encLs ls ++ encTs args) := by
      rw [hT1]; simp only [Tm.enc, Int.toNat_natCast]; rw [if_neg (by omega), if_neg (by omega), List.nil_append]
    clear hr1 hk1 hm1 hT1
    repeat' (first | ((with_reducible first | refine wA (by omega) ?_ | refine wB (by omega) ?_ | refine wC (by omega) ?_ | refine wD (by omega) ?_ | refine wE ?_ ?_ | refine wF ?_ ?_ | refine wG ?_ ?_ | refine wH ?_ ?_ | refine wI ?_ ?_ | refine wJ ?_ ?_ | refine wK ?_ ?_ | refine wL ?_ ?_) <;> intro _) | simp (maxSteps := 1000000) (disch := omega) only [go_sem, seval, *])
    have hTl : T.length ≤ 60 := hT2
    refine c_loopW 2305280059260272673 (by kernel_rfl) (fun j f H2 m => ∃ i : Nat, j = ls.length - i ∧ i ≤ ls.length ∧ f 49 = .sc (.int .i64 i) ∧ nx ≤ m ∧ Kept (BRow H2 nx m (f 0) (b ++ (T ++ encLs (ls.take i)))) ∧ Kept (∀ j, j < nx → ¬ leadB a j → H2 j = H j)) _ ⟨0, rfl, Nat.zero_le _, cE1, ?mm, ?rr, hk2⟩ ?_
    case mm => exact Nat.le_trans hm2 (Nat.le_add_right _ _)
    case rr =>
      refine Kept.mk ?_
      simp only [upd_get, Nat.reduceEqDiff, ↓reduceIte, List.take_zero, encLs, List.append_nil]
      exact BRow.weak hr2 (Nat.le_refl _) (Nat.le_add_right _ _)
    clear hm2 hr2 hk2
    rintro _ f H3 m3 ⟨i, rfl, hi, e49, hm, hr, hkk⟩
    by_cases hlt : i < ls.length
    · have eg : ls[i]? = some ls[i] := List.getElem?_eq_getElem hlt
      have hnm := nodesL_mem ls i hlt
      repeat' (first | ((with_reducible first | refine wA (by omega) ?_ | refine wB (by omega) ?_ | refine wC (by omega) ?_ | refine wD (by omega) ?_ | refine wE ?_ ?_ | refine wF ?_ ?_ | refine wG ?_ ?_ | refine wH ?_ ?_ | refine wI ?_ ?_ | refine wJ ?_ ?_ | refine wK ?_ ?_ | refine wL ?_ ?_) <;> intro _) | simp (maxSteps := 1000000) (disch := omega) only [go_sem, seval, *])
      have a1 := encLs_len hnp (ls.take i) (formedL_all np ls i hfl)
      have a2 := nodesL_take_succ ls i hlt
      have a3 := nodesL_take_le ls (i + 1)
      refine call_mut (putLevel_m hnp _ ls[i] (Nat.le_refl _) (formedL_mem ls i hlt hfl) (b ++ (T ++ encLs (ls.take i))) (by simp only [List.length_append]; omega) (f 0) nx H3 _ (BRow.weak hr (Nat.le_refl _) (Nat.le_add_right _ _))) ?_
      rintro H4 m4 r4 ⟨hm0, hr0, hk0⟩ -
      have hm4 : m3 ≤ m4 := Nat.le_trans (Nat.le_add_right _ _) hm0
      have hr4 : Kept (BRow H4 nx m4 r4 (b ++ (T ++ encLs (ls.take (i + 1))))) := by
        rw [encLs_snoc ls i hlt]
        simp only [List.append_assoc] at hr0 ⊢
        exact BRow.weak hr0 (Nat.le_trans hm (Nat.le_add_right _ _)) (Nat.le_refl _)
      have hk4 : Kept (∀ j, j < nx → ¬ leadB a j → H4 j = H j) := fun j g1 g2 => by
        rw [hk0 j (Nat.lt_of_lt_of_le g1 (Nat.le_trans hm (Nat.le_add_right _ _))) (BRow.lead hr g1)]; exact hkk j g1 g2
      clear hm0 hr0 hk0 hr hkk a1 a2 a3
      repeat' (first | ((with_reducible first | refine wA (by omega) ?_ | refine wB (by omega) ?_ | refine wC (by omega) ?_ | refine wD (by omega) ?_ | refine wE ?_ ?_ | refine wF ?_ ?_ | refine wG ?_ ?_ | refine wH ?_ ?_ | refine wI ?_ ?_ | refine wJ ?_ ?_ | refine wK ?_ ?_ | refine wL ?_ ?_) <;> intro _) | simp (maxSteps := 1000000) (disch := omega) only [go_sem, seval, *])
      refine Nx.mk (ls.length - (i + 1)) (by omega) ⟨i + 1, rfl, cE1, cE1, ?mm, ?rr, hk4⟩
      case mm => exact Nat.le_trans hm (Nat.le_trans hm4 (Nat.le_add_right _ _))
      case rr =>
        refine Kept.mk ?_
        simp only [upd_get, Nat.reduceEqDiff, ↓reduceIte]
        exact BRow.weak hr4 (Nat.le_refl _) (Nat.le_add_right _ _)
    · obtain rfl : i = ls.length := by omega
      rw [List.take_length] at hr
      repeat' (first | ((with_reducible first | refine wA (by omega) ?_ | refine wB (by omega) ?_ | refine wC (by omega) ?_ | refine wD (by omega) ?_ | refine wE ?_ ?_ | refine wF ?_ ?_ | refine wG ?_ ?_ | refine wH ?_ ?_ | refine wI ?_ ?_ | refine wJ ?_ ?_ | refine wK ?_ ?_ | refine wL ?_ ?_) <;> intro _) | simp (maxSteps := 1000000) (disch := omega) only [go_sem, seval, *])
      have a0 := encLs_len hnp ls hfl
      refine c_loopW 302157667927362455470145 (by kernel_rfl) (fun j f H2 m => ∃ i : Nat, j = args.length - i ∧ i ≤ args.length ∧ f 66 = .sc (.int .i64 i) ∧ nx ≤ m ∧ Kept (BRow H2 nx m (f 0) (b ++ (T ++ (encLs ls ++ encTs (args.take i))))) ∧ Kept (∀ j, j < nx → ¬ leadB a j → H2 j = H j)) _ ⟨0, rfl, Nat.zero_le _, cE1, ?mm, ?rr, hkk⟩ ?_
      case mm => exact Nat.le_trans hm (Nat.le_add_right _ _)
      case rr =>
        refine Kept.mk ?_
        simp (disch := omega) only [upd_get, ovr_get, Nat.reduceShiftRight, Nat.reduceMod, Nat.reduceEqDiff, ↓reduceIte, List.take_zero, encTs, List.append_nil, ite_neN, ite_eqN]
        exact BRow.weak hr (Nat.le_refl _) (Nat.le_add_right _ _)
      clear hm hr hkk hi hlt
      rintro _ g H5 m5 ⟨i, rfl, hi, e66, hm, hr, hkk⟩
      by_cases hlt : i < args.length
      · have eg : args[i]? = some args[i] := List.getElem?_eq_getElem hlt
        repeat' (first | ((with_reducible first | refine wA (by omega) ?_ | refine wB (by omega) ?_ | refine wC (by omega) ?_ | refine wD (by omega) ?_ | refine wE ?_ ?_ | refine wF ?_ ?_ | refine wG ?_ ?_ | refine wH ?_ ?_ | refine wI ?_ ?_ | refine wJ ?_ ?_ | refine wK ?_ ?_ | refine wL ?_ ?_) <;> intro _) | simp (maxSteps := 1000000) (disch := omega) only [go_sem, seval, *])
        have a1 := encTs_len hnp (args.take i) (packPs_take args i hfa)
        have a2 := nodesT_take_succ args i hlt
        have a3 := nodesT_take_le args (i + 1)
        refine call_mut (ih args[i] (by omega) (packPs_mem args i hlt hfa) (b ++ (T ++ (encLs ls ++ encTs (args.take i)))) (by simp only [List.length_append]; omega) (g 0) nx H5 _ (BRow.weak hr (Nat.le_refl _) (Nat.le_add_right _ _)) [] |> fun h => by rwa [List.append_nil] at h) ?_
        rintro H6 m6 r6 ⟨hm0, hr0, hk0⟩ -
        have hm6 : m5 ≤ m6 := Nat.le_trans (Nat.le_add_right _ _) hm0
        have hr6 : Kept (BRow H6 nx m6 r6 (b ++ (T ++ (encLs ls ++ encTs (args.take (i + 1)))))) := by
          rw [encTs_snoc args i hlt]
          simp only [List.append_assoc] at hr0 ⊢
          exact BRow.weak hr0 (Nat.le_trans hm (Nat.le_add_right _ _)) (Nat.le_refl _)
        have hk6 : Kept (∀ j, j < nx → ¬ leadB a j → H6 j = H j) := fun j g1 g2 => by
          rw [hk0 j (Nat.lt_of_lt_of_le g1 (Nat.le_trans hm (Nat.le_add_right _ _))) (BRow.lead hr g1)]; exact hkk j g1 g2
        clear hm0 hr0 hk0 hr hkk a1 a2 a3
        repeat' (first | ((with_reducible first | refine wA (by omega) ?_ | refine wB (by omega) ?_ | refine wC (by omega) ?_ | refine wD (by omega) ?_ | refine wE ?_ ?_ | refine wF ?_ ?_ | refine wG ?_ ?_ | refine wH ?_ ?_ | refine wI ?_ ?_ | refine wJ ?_ ?_ | refine wK ?_ ?_ | refine wL ?_ ?_) <;> intro _) | simp (maxSteps := 1000000) (disch := omega) only [go_sem, seval, *])
        refine Nx.mk (args.length - (i + 1)) (by omega) ⟨i + 1, rfl, cE1, cE1, ?mm, ?rr, hk6⟩
        case mm => exact Nat.le_trans hm (Nat.le_trans hm6 (Nat.le_add_right _ _))
        case rr =>
          refine Kept.mk ?_
          simp only [upd_get, Nat.reduceEqDiff, ↓reduceIte]
          exact BRow.weak hr6 (Nat.le_refl _) (Nat.le_add_right _ _)
      · obtain rfl : i = args.length := by omega
        rw [List.take_length] at hr
        repeat' (first | ((with_reducible first | refine wA (by omega) ?_ | refine wB (by omega) ?_ | refine wC (by omega) ?_ | refine wD (by omega) ?_ | refine wE ?_ ?_ | refine wF ?_ ?_ | refine wG ?_ ?_ | refine wH ?_ ?_ | refine wI ?_ ?_ | refine wJ ?_ ?_ | refine wK ?_ ?_ | refine wL ?_ ?_) <;> intro _) | simp (maxSteps := 1000000) (disch := omega) only [go_sem, seval, *])
        refine fin_mut (g 0) (.inr rfl) rfl ⟨Nat.le_trans hm (Nat.le_add_right _ _), ?g2, hkk⟩
        case g2 =>
          first
            | exact BRow.weak hr (Nat.le_refl _) (Nat.le_add_right _ _)
            | (rw [hT]; exact BRow.weak hr (Nat.le_refl _) (Nat.le_add_right _ _))
end
section
mutual
def Tm.pre : Tm → List Tm
  | .mk k n s ls args => .mk k n s ls args :: preL args
def preL : List Tm → List Tm
  | [] => []
  | t :: r => t.pre ++ preL r
end
theorem preL_append : ∀ xs ys : List Tm, preL (xs ++ ys) = preL xs ++ preL ys
  | [], ys => by simp [preL]
  | x :: r, ys => by simp [preL, preL_append r ys]
theorem preL_take (args : List Tm) (i : Nat) (h : i < args.length) : preL (args.take (i + 1)) = preL (args.take i) ++ args[i].pre := by
  rw [List.take_succ_eq_append_getElem h, preL_append]
  simp [preL]
def nodePV (t : Tm) : PV := .ptr t.pv
theorem sl_part {V : Vw} {sz : Nat} {es : List (List PV)} {v : Value} (h : Rep V (.sl sz es) v) :
    ∃ A cap, v = .slice A es.length cap ∧ es.length ≤ maxLen ∧ ∀ i x, es[i]? = some x → ∃ b off, A = some ⟨b, off, none⟩ ∧ Rep V (.ptr x) (.pointer (some ⟨b, off + i * sz, none⟩)) := by
  cases h with
  | slNil _ A cap hc => exact ⟨A, cap, rfl, Nat.zero_le _, fun i x hx => by simp at hx⟩
  | sl _ _ b off len cap hlen hs h1 h2 hp =>
    refine ⟨some ⟨b, off, none⟩, cap, by rw [hlen], by omega, fun i x hx => ⟨b, off, rfl, ?_⟩⟩
    obtain ⟨b', off', vs, e, hok, hr, hc⟩ := hp.ptr_inv
    cases e
    have hil : i < es.length := (List.getElem?_eq_some_iff.1 hx).1
    have hex : es[i] = x := (List.getElem?_eq_some_iff.1 hx).2
    have hx5 : x.length = sz := hs x (hex ▸ List.getElem_mem hil)
    have key : ∀ (es : List (List PV)) (i : Nat) (x : List PV), (∀ e ∈ es, e.length = sz) → es[i]? = some x → (es.flatten.drop (i * sz)).take sz = x := by
      intro es
      induction es with
      | nil => intro i x _ h; simp at h
      | cons e r ih =>
        intro i x hs h
        have he : e.length = sz := hs e (by simp)
        cases i with
        | zero =>
          simp only [List.getElem?_cons_zero, Option.some.injEq] at h
          subst h
          simp [← he]
        | succ i =>
          rw [List.flatten_cons, Nat.succ_mul, Nat.add_comm, ← List.drop_drop, show sz = e.length from he.symm, List.drop_left, he]
          exact ih i x (fun y hy => hs y (by simp [hy])) (by simpa using h)
    have h3 := (hr.drop (i * sz)).take sz
    rw [key es i x hs hx] at h3
    refine .ptr_mk hok h3 fun j u hu => ?_
    rw [List.getElem?_take] at hu
    split at hu
    · rw [List.getElem?_drop] at hu
      have := hc _ u hu
      rw [show off + i * sz + j = off + (i * sz + j) by omega]
      exact this
    · cases hu
theorem rounds_key {F : Fence} {n : Nat} {P : Program} {c : Code} {Q : Exit → Act → World → Prop} {N : Nat} (I : Nat → Act → World → Prop) (hstep : ∀ i a W, i < N → I i a W → c.wpIn F n P (Exit.then (I (i + 1)) Q) a W)
    (hend : ∀ a W, I N a W → c.wpIn F n P (Exit.then (fun _ _ => False) Q) a W) : ∀ k i a W, i + k = N → I i a W → Code.roundsIn F n P c Q (k + 1) a W := by
  intro k
  induction k with
  | zero =>
    intro i a W hi h
    obtain rfl : i = N := by omega
    exact hend a W h
  | succ k ih =>
    intro i a W hi h
    rw [roundsIn_succ]
    refine wpIn_mono (hstep i a W (by omega) h) fun e a' W' hp => ?_
    cases e with
    | normal => exact ih (i + 1) a' W' (by omega) hp
    | _ => exact hp
abbrev El (V : Vw) (xs : List PV) := { y : PV × Value // y.1 ∈ xs ∧ Rep V y.1 y.2 }
theorem RoundIn.any {Fc : Fence} (hd : Fc.depth = none) {m m' : Nat} {P : Program} {l : Nat} {f : FuncId} {tmps : Array Value} {assign body : Code} {w : World} {R : Ending → World → Prop}
    (h : RoundIn Fc m P l f tmps assign body w R) : RoundIn Fc m' P l f tmps assign body w R := ⟨h.1, fun c cs _ => h.2 c cs (fun d h => by rw [hd] at h; cases h)⟩
theorem YieldAt.any {Fc : Fence} (hd : Fc.depth = none) {m : Nat} (m' : Nat) {P : Program} {l : Nat} {args : Array Value} {W : World} {R : Ending → World → Prop} (h : YieldAt Fc m P l args W R) : YieldAt Fc m' P l args W R := by
  obtain ⟨fn, tmps, assign, body, hy, hR⟩ := h
  exact ⟨fn, tmps, assign, body, hy, RoundIn.any hd hR⟩
set_option maxRecDepth 100000 in
set_option maxHeartbeats 4000000 in
theorem walkNodes0 (V : Vw) (xs : List PV) (l N : Nat) (J Jx : List (El V xs) → World → Prop)
    (hY : ∀ m pre (x : El V xs) W, J pre W → pre.length < N → YieldAt Fence.wide m Try.prog l #[x.1.2] W fun e W' => (e = .returned (.bool true) ∧ J (pre ++ [x]) W' ∧ ∀ b, V.ok b → W'.heap[b]? = W.heap[b]?) ∨ (e = .returned (.bool false) ∧ Jx (pre ++ [x]) W')) :
    ∀ (fuel : Nat) (t : Tm), t.size ≤ fuel → ∀ (n : Nat) (p : Value) (pre : List (El V xs)) (W : World), Rep V (.ptr t.pv) p → (∀ u ∈ t.pre, nodePV u ∈ xs) → (∀ b, V.ok b → W.heap[b]? = V.w.heap[b]?) → J pre W → pre.length + t.pre.length ≤ N →
      CallsIn Fence.wide n Try.prog F.term_walk #[p, .func (.yield l) #[] #[]] W fun e W' =>
        (e = .returned (.bool true) ∧ ∃ ys : List (El V xs), ys.map (·.1.1) = t.pre.map nodePV ∧ J (pre ++ ys) W' ∧ ∀ b, V.ok b → W'.heap[b]? = V.w.heap[b]?) ∨
        (e = .returned (.bool false) ∧ ∃ ys : List (El V xs), ys.map (·.1.1) <+: t.pre.map nodePV ∧ Jx (pre ++ ys) W') := by
  have hdd : ∀ k : Nat, (Fence.wide.depth.isSome = true → 1 ≤ k) := fun k h => by cases h
  intro fuel
  induction fuel with
  | zero => intro t h; have := size_pos t; omega
  | succ fuel ih =>
    intro t hf n p pre W hp hxs hW hJ hN
    cases t with
    | mk k nn s ls args =>
    simp only [Tm.size] at hf
    simp only [Tm.pre, List.length_cons] at hN
    have hp0 := hp
    obtain ⟨b, off, vs, rfl, hok, hr, hc⟩ := hp.ptr_inv
    obtain ⟨v4, hv4, hr4⟩ := hr.get (i := 4) (x := .sl 5 (args.map Tm.pv)) (by rw [Tm.pv]; rfl)
    obtain ⟨A, cap, rfl, hmax, hpart⟩ := sl_part hr4
    rw [List.length_map] at hmax
    have hcell : ∀ W' : World, (∀ b, V.ok b → W'.heap[b]? = V.w.heap[b]?) → W'.cell? ⟨b, off + 4, none⟩ = some (.slice A (args.map Tm.pv).length cap) := fun W' h => (World.cell?_of_block (w := V.w) (w' := W') (a := ⟨b, off + 4, none⟩) (h b hok)).trans (hc 4 _ hv4)
    have hY0 := hY (n - 1) pre ⟨(nodePV (.mk k nn s ls args), .pointer (some ⟨b, off, none⟩)), hxs _ (by simp [Tm.pre]), hp0⟩ W hJ (by omega)
    obtain ⟨fn, tmps, assign, body, hy, hR⟩ := YieldAt.mono (R' := fun e W1 => (e = .returned (.bool true) ∧ W1.cell? ⟨b, off + 4, none⟩ = some (.slice A (args.map Tm.pv).length cap) ∧ (∃ ys : List (El V xs), ys.map (·.1.1) = [nodePV (.mk k nn s ls args)] ∧ J (pre ++ ys) W1) ∧ ∀ b, V.ok b → W1.heap[b]? = V.w.heap[b]?) ∨
      (e = .returned (.bool false) ∧ ∃ ys : List (El V xs), ys.map (·.1.1) = [nodePV (.mk k nn s ls args)] ∧ Jx (pre ++ ys) W1)) hY0 (fun e W1 h => h.elim (fun ⟨he, h1, h2⟩ => .inl ⟨he, hcell W1 fun b hb => (h2 b hb).trans (hW b hb), ⟨_, rfl, h1⟩, fun b hb => (h2 b hb).trans (hW b hb)⟩) fun ⟨he, h1⟩ => .inr ⟨he, _, rfl, h1⟩)
    clear hY0
    refine callsIn_of_wp Try.func96 rfl trivial ?_ rfl
    simp only [Try.ntmps96, List.size_toArray, List.length_cons, List.length_nil, Nat.reduceAdd, Nat.reduceSub, Array.replicate_succ, Array.replicate_zero, List.push_toArray, List.append_toArray, List.nil_append, List.cons_append]
    gi_wp2_with ((try refine ⟨hdd _, ?_⟩); refine hR.mono ?_; clear hR; rintro e W1 (⟨rfl, c4, hj1, hk1⟩ | ⟨rfl, hx1⟩))
    · refine wpIn_loop_rounds (args.length + 1) (rounds_key (N := args.length) (fun i a W => ∃ x2 x3 x4 x5 x6 x7 x8 x9 x10 x11 x12 x13 x16 x17 x18 x19 x20 x21 x22 x23 x24 x25 x26 x27, a = ⟨#[.pointer (some ⟨b, off, none⟩), .func (.yield l) #[] #[], x2, x3, x4, x5, x6, x7, x8, x9, x10, x11, x12, x13, .int .i64 (args.length : Int), .int .i64 (i : Int), x16, x17, x18, x19, x20, x21, x22, x23, x24, x25, x26, x27], []⟩ ∧ (∃ ys : List (El V xs), ys.map (·.1.1) = (Tm.mk k nn s ls args :: preL (args.take i)).map nodePV ∧ J (pre ++ ys) W) ∧ ∀ b, V.ok b → W.heap[b]? = V.w.heap[b]?) ?step ?fin args.length 0 _ _ (by omega) ?init)
      case init =>
        obtain ⟨ys, h1, h2⟩ := hj1
        exact ⟨_, _, _, _, _, _, _, _, _, _, _, _, _, _, _, _, _, _, _, _, _, _, _, _, rfl, ⟨ys, by simpa [preL] using h1, h2⟩, hk1⟩
      case step =>
        rintro i a W2 hi ⟨x2, x3, x4, x5, x6, x7, x8, x9, x10, x11, x12, x13, x16, x17, x18, x19, x20, x21, x22, x23, x24, x25, x26, x27, rfl, ⟨ys, hys, hj⟩, hk⟩
        obtain ⟨b2, off2, rfl, hpi⟩ := hpart i args[i].pv (by simp [hi])
        have c42 := hcell W2 hk
        rw [List.length_map] at c42
        have hni := sizeL_mem args i hi
        have hlen : ys.length = 1 + (preL (args.take i)).length := by
          have := congrArg List.length hys
          simpa [Nat.add_comm] using this
        have h1 : preL args = preL (args.take i) ++ (args[i].pre ++ preL (args.drop (i + 1))) := by rw [← List.append_assoc, ← preL_take args i hi, ← preL_append, List.take_append_drop]
        have ih1 := ih args[i] (by omega) (n - 1) _ (pre ++ ys) W2 hpi (fun u hu => hxs u (by rw [Tm.pre, h1]; simp [hu])) hk hj (by rw [h1] at hN; simp only [List.length_append] at hN ⊢; omega)
        clear ih
        gi_wp2_with (refine ⟨trivial, hdd _, ?_⟩; refine ih1.mono ?_; clear ih1; rintro e W3 (⟨rfl, ys3, hy3, hj3, hk3⟩ | ⟨rfl, ys3, hy3, hx3⟩))
        · have e1 : ((i + 1 : Nat) : Int) = RowKit.wrap64 ((i : Int) + 1) := by
            have : args.length ≤ 9223372036854775807 := hmax
            unfold RowKit.wrap64
            omega
          rw [e1]
          refine ⟨_, _, _, _, _, _, _, _, _, _, _, _, _, _, _, _, _, _, _, _, _, _, _, _, rfl, ⟨ys ++ ys3, ?_, by rw [← List.append_assoc]; exact hj3⟩, hk3⟩
          rw [List.map_append, hys, hy3, preL_take args i hi]
          simp
        · go_ret
          refine .inr ⟨rfl, ys ++ ys3, ?_, by rw [← List.append_assoc]; exact hx3⟩
          rw [List.map_append, hys, Tm.pre]
          rw [h1]
          obtain ⟨z, hz⟩ := hy3
          exact ⟨z ++ (preL (args.drop (i + 1))).map nodePV, by simp [← hz]⟩
      case fin =>
        rintro a W2 ⟨x2, x3, x4, x5, x6, x7, x8, x9, x10, x11, x12, x13, x16, x17, x18, x19, x20, x21, x22, x23, x24, x25, x26, x27, rfl, ⟨ys, hys, hj⟩, hk⟩
        rw [List.take_length] at hys
        gi_wp2
        go_ret
        exact .inl ⟨rfl, ys, by rw [hys, Tm.pre], hj, hk⟩
    · obtain ⟨ys, h1, h2⟩ := hx1
      go_ret
      exact .inr ⟨rfl, ys, by rw [h1, Tm.pre]; exact ⟨(preL args).map nodePV, by simp⟩, h2⟩
end
section
set_option maxRecDepth 20000
attribute [local go_sem] pv_len pv_take Nat.add_assoc tm_len tm_take
theorem all_nil {ls : List Lv} (np : Int) (h : ls.length = 0) : ls.all (Lv.right np) = true := by
  obtain rfl : ls = [] := List.eq_nil_of_length_eq_zero h
  rfl
theorem formed_levels (np k kind n : Int) (s : ByteArray) (ls : List Lv) (args : List Tm) (h : ls.all (Lv.right np) = false) : (Tm.mk kind n s ls args).formed np k = false := by
  have h0 : ls.length ≠ 0 := fun h0 => by rw [all_nil np h0] at h; exact absurd h (by decide)
  have h1 : (ls.length == 1 && headR np ls) = false := by
    match ls, h with
    | [], _ => rfl
    | [l], h => simp only [List.all_cons, List.all_nil, Bool.and_true] at h; simp [headR, h]
    | _ :: _ :: _, _ => simp
  have h2 : ∀ a c, hasB n s ls args a 0 c = false := fun a c => by simp [hasB, h0]
  have h3 : (hasB n s ls args 0 1 0 && headR np ls) = false := by
    by_cases h : ls.length = 1
    · rw [h] at h1; simp at h1; simp [h1]
    · have : ¬ (ls.length : Int) = 1 := by omega
      simp [hasB, this]
  simp only [Tm.formed, h2, h3, constB, h]
  simp
set_option maxHeartbeats 16000000 in
theorem ref04_right_p (np : Int) : ∀ (fuel : Nat) (t : Tm) (k : Int), t.size ≤ fuel → 0 ≤ k → k + t.size ≤ 2 ^ 60 → PPure Try.prog F.ref04_right [.agg t.pv, .sc (.int .i64 np), .sc (.int .i64 k)] (.sc (.bool (t.formed np k))) := by
  intro fuel
  induction fuel with
  | zero => intro t k h; have := size_pos t; omega
  | succ fuel ih =>
    intro t k hf h0 h1
    cases t with
    | mk kind n s ls args =>
    simp only [Tm.size] at hf h1
    refine pure_by is_ref04_right (by simp) rfl fun hb nx => ?_
    have hb0 : ls.length ≤ 9223372036854775807 ∧ args.length ≤ 9223372036854775807 := by simp [Tm.pv, bndL, PV.bnd] at hb; exact ⟨hb.1.1, hb.2.1⟩
    repeat' (first | ((with_reducible first | refine wA (by omega) ?_ | refine wB (by omega) ?_ | refine wC (by omega) ?_ | refine wD (by omega) ?_ | refine wE ?_ ?_ | refine wF ?_ ?_ | refine wG ?_ ?_ | refine wH ?_ ?_ | refine wI ?_ ?_ | refine wJ ?_ ?_ | refine wK ?_ ?_ | refine wL ?_ ?_) <;> intro _) | simp (maxSteps := 1000000) (disch := omega) only [go_sem, seval, mc_ref04_right, Tm.pv, *])
    refine c_loopW 134213824 (by kernel_rfl) (fun j f H m => ∃ i : Nat, j = ls.length - i ∧ i ≤ ls.length ∧ f 7 = .sc (.int .i64 i) ∧ (ls.take i).all (Lv.right np) = true) _ ⟨0, rfl, cE1, cE1, rfl⟩ ?_
    rintro _ f H m ⟨i, rfl, hi, e7, hall⟩
    by_cases hlt : i < ls.length
    · have eg : ls[i]? = some ls[i] := List.getElem?_eq_getElem hlt
      have ht := all_right_take np ls i hlt
      have hq := all_right_false np ls i hlt
      clear ih
      repeat' (first | ((with_reducible first | refine wA (by omega) ?_ | refine wB (by omega) ?_ | refine wC (by omega) ?_ | refine wD (by omega) ?_ | refine wE ?_ ?_ | refine wF ?_ ?_ | refine wG ?_ ?_ | refine wH ?_ ?_ | refine wI ?_ ?_ | refine wJ ?_ ?_ | refine wK ?_ ?_ | refine wL ?_ ?_) <;> intro _) | (((with_reducible refine call_id ?_); (first | (refine call_pure (ref_Right_p ls[i] np) ?_)))) | simp (maxSteps := 1000000) (disch := omega) only [go_sem, seval, Tm.pv, *])
      · rename_i h
        have hff := formed_levels np k kind n s ls args (hq h)
        clear hq ht
        refine fin_tmp (.inr rfl) ?_
        simp [upd, hff]
      · rename_i h
        refine Nx.mk (ls.length - (i + 1)) cE1 ⟨i + 1, cE1, cE1, cE1, by rw [ht, hall, h]; rfl⟩
    · obtain rfl : i = ls.length := by omega
      rw [List.take_length] at hall
      have hall' := Kept.mk hall
      clear hall
      have hal := hall'.out
      have hh : ls.length = 1 → headR np ls = true := fun h => by
        match ls, h, hal with
        | [l], _, h => simpa [headR] using h
      clear hal
      by_cases k1 : kind = 1
      · subst k1
        clear ih hh
        repeat' (first | ((with_reducible first | refine wA (by omega) ?_ | refine wB (by omega) ?_ | refine wC (by omega) ?_ | refine wD (by omega) ?_ | refine wE ?_ ?_ | refine wF ?_ ?_ | refine wG ?_ ?_ | refine wH ?_ ?_ | refine wI ?_ ?_ | refine wJ ?_ ?_ | refine wK ?_ ?_ | refine wL ?_ ?_) <;> intro _) | simp (maxSteps := 1000000) (disch := omega) only [go_sem, seval, Tm.pv, strBin, fold_noS, *])
        all_goals (try (refine fin_tmp (.inr rfl) ?_; simp [upd, Tm.formed, hasB, constB, *] <;> omega))
        refine c_rounds 1 ?_
        repeat' (first | ((with_reducible first | refine wA (by omega) ?_ | refine wB (by omega) ?_ | refine wC (by omega) ?_ | refine wD (by omega) ?_ | refine wE ?_ ?_ | refine wF ?_ ?_ | refine wG ?_ ?_ | refine wH ?_ ?_ | refine wI ?_ ?_ | refine wJ ?_ ?_ | refine wK ?_ ?_ | refine wL ?_ ?_) <;> intro _) | simp (maxSteps := 1000000) (disch := omega) only [go_sem, seval, rounds_next, *])
        refine fin_tmp (.inr rfl) ?_
        simp [upd, Tm.formed, hasB, constB, *]
        omega
      by_cases k2 : kind = 2
      · subst k2
        clear ih
        repeat' (first | ((with_reducible first | refine wA (by omega) ?_ | refine wB (by omega) ?_ | refine wC (by omega) ?_ | refine wD (by omega) ?_ | refine wE ?_ ?_ | refine wF ?_ ?_ | refine wG ?_ ?_ | refine wH ?_ ?_ | refine wI ?_ ?_ | refine wJ ?_ ?_ | refine wK ?_ ?_ | refine wL ?_ ?_) <;> intro _) | simp (maxSteps := 1000000) (disch := omega) only [go_sem, seval, Tm.pv, strBin, fold_noS, *])
        all_goals (try (refine fin_tmp (.inr rfl) ?_; simp [upd, Tm.formed, hasB, constB, *] <;> omega))
        have hh' := hh (by omega)
        refine c_rounds 1 ?_
        repeat' (first | ((with_reducible first | refine wA (by omega) ?_ | refine wB (by omega) ?_ | refine wC (by omega) ?_ | refine wD (by omega) ?_ | refine wE ?_ ?_ | refine wF ?_ ?_ | refine wG ?_ ?_ | refine wH ?_ ?_ | refine wI ?_ ?_ | refine wJ ?_ ?_ | refine wK ?_ ?_ | refine wL ?_ ?_) <;> intro _) | simp (maxSteps := 1000000) (disch := omega) only [go_sem, seval, rounds_next, *])
        refine fin_tmp (.inr rfl) ?_
        simp [upd, Tm.formed, hasB, constB, *] <;> omega
      clear hh
      by_cases k3 : kind = 3
      · subst k3
        clear ih
        have hal := hall'.out
        repeat' (first | ((with_reducible first | refine wA (by omega) ?_ | refine wB (by omega) ?_ | refine wC (by omega) ?_ | refine wD (by omega) ?_ | refine wE ?_ ?_ | refine wF ?_ ?_ | refine wG ?_ ?_ | refine wH ?_ ?_ | refine wI ?_ ?_ | refine wJ ?_ ?_ | refine wK ?_ ?_ | refine wL ?_ ?_) <;> intro _) | (((with_reducible refine call_id ?_); (first | (refine call_pure (ref01_Right_p s) ?_)))) | simp (maxSteps := 1000000) (disch := omega) only [go_sem, seval, Tm.pv, strBin, fold_noS, *])
        all_goals (try (refine fin_tmp (.inr rfl) ?_; simp [upd, Tm.formed, hasB, constB, *] <;> omega))
        refine c_rounds 1 ?_
        repeat' (first | ((with_reducible first | refine wA (by omega) ?_ | refine wB (by omega) ?_ | refine wC (by omega) ?_ | refine wD (by omega) ?_ | refine wE ?_ ?_ | refine wF ?_ ?_ | refine wG ?_ ?_ | refine wH ?_ ?_ | refine wI ?_ ?_ | refine wJ ?_ ?_ | refine wK ?_ ?_ | refine wL ?_ ?_) <;> intro _) | simp (maxSteps := 1000000) (disch := omega) only [go_sem, seval, rounds_next, *])
        refine fin_tmp (.inr rfl) ?_
        simp [upd, Tm.formed, hasB, constB, *] <;> omega
      by_cases k4 : kind = 4
      · subst k4
        have c0 : PPure Try.prog F.ref04_binds [.sc (.int .i64 4), .sc (.int .i64 0)] (.sc (.bool false)) := by simpa using binds_p 4 0 (by omega)
        have c1 : PPure Try.prog F.ref04_binds [.sc (.int .i64 4), .sc (.int .i64 1)] (.sc (.bool false)) := by simpa using binds_p 4 1 (by omega)
        by_cases hl2 : args.length = 2
        · match args, hl2, hf, h1 with
          | [x, y], _, hf, h1 =>
            have := size_pos x
            have := size_pos y
            simp only [sizeL] at hf h1
            have i0 := ih x k (by omega) h0 (by omega)
            have i1 := ih y (k + 0) (by omega) (by omega) (by omega)
            simp only [Int.add_zero] at i1
            clear ih
            repeat' (first | ((with_reducible first | refine wA (by omega) ?_ | refine wB (by omega) ?_ | refine wC (by omega) ?_ | refine wD (by omega) ?_ | refine wE ?_ ?_ | refine wF ?_ ?_ | refine wG ?_ ?_ | refine wH ?_ ?_ | refine wI ?_ ?_ | refine wJ ?_ ?_ | refine wK ?_ ?_ | refine wL ?_ ?_) <;> intro _) | simp (maxSteps := 1000000) (disch := omega) only [go_sem, seval, Tm.pv, strBin, fold_noS, *])
            all_goals (try (refine fin_tmp (.inr rfl) ?_; simp [upd, Tm.formed, hasB, constB, *] <;> omega))
            refine c_rounds 3 ?_
            repeat' (first | ((with_reducible first | refine wA (by omega) ?_ | refine wB (by omega) ?_ | refine wC (by omega) ?_ | refine wD (by omega) ?_ | refine wE ?_ ?_ | refine wF ?_ ?_ | refine wG ?_ ?_ | refine wH ?_ ?_ | refine wI ?_ ?_ | refine wJ ?_ ?_ | refine wK ?_ ?_ | refine wL ?_ ?_) <;> intro _) | (((with_reducible refine call_id ?_); (first | (refine call_pure (c0) ?_) | (refine call_pure (c1) ?_) | (refine call_pure (i0) ?_) | (refine call_pure (i1) ?_)))) | simp (maxSteps := 1000000) (disch := omega) only [go_sem, seval, rounds_next, Tm.pv, *])
            all_goals (refine fin_tmp (.inr rfl) ?_; simp [upd, Tm.formed, formedA, deepB, hasB, constB, *]; try omega)
        · clear ih c0 c1
          repeat' (first | ((with_reducible first | refine wA (by omega) ?_ | refine wB (by omega) ?_ | refine wC (by omega) ?_ | refine wD (by omega) ?_ | refine wE ?_ ?_ | refine wF ?_ ?_ | refine wG ?_ ?_ | refine wH ?_ ?_ | refine wI ?_ ?_ | refine wJ ?_ ?_ | refine wK ?_ ?_ | refine wL ?_ ?_) <;> intro _) | simp (maxSteps := 1000000) (disch := omega) only [go_sem, seval, Tm.pv, strBin, fold_noS, *])
          all_goals (refine fin_tmp (.inr rfl) ?_; simp [upd, Tm.formed, hasB, constB, *] <;> omega)
      by_cases k5 : kind = 5
      · subst k5
        have c0 : PPure Try.prog F.ref04_binds [.sc (.int .i64 5), .sc (.int .i64 0)] (.sc (.bool false)) := by simpa using binds_p 5 0 (by omega)
        have c1 : PPure Try.prog F.ref04_binds [.sc (.int .i64 5), .sc (.int .i64 1)] (.sc (.bool true)) := by simpa using binds_p 5 1 (by omega)
        by_cases hl2 : args.length = 2
        · match args, hl2, hf, h1 with
          | [x, y], _, hf, h1 =>
            have := size_pos x
            have := size_pos y
            simp only [sizeL] at hf h1
            have i0 := ih x k (by omega) h0 (by omega)
            have i1 := ih y (k + 1) (by omega) (by omega) (by omega)
            clear ih
            repeat' (first | ((with_reducible first | refine wA (by omega) ?_ | refine wB (by omega) ?_ | refine wC (by omega) ?_ | refine wD (by omega) ?_ | refine wE ?_ ?_ | refine wF ?_ ?_ | refine wG ?_ ?_ | refine wH ?_ ?_ | refine wI ?_ ?_ | refine wJ ?_ ?_ | refine wK ?_ ?_ | refine wL ?_ ?_) <;> intro _) | simp (maxSteps := 1000000) (disch := omega) only [go_sem, seval, Tm.pv, strBin, fold_noS, *])
            all_goals (try (refine fin_tmp (.inr rfl) ?_; simp [upd, Tm.formed, hasB, constB, *] <;> omega))
            refine c_rounds 3 ?_
            repeat' (first | ((with_reducible first | refine wA (by omega) ?_ | refine wB (by omega) ?_ | refine wC (by omega) ?_ | refine wD (by omega) ?_ | refine wE ?_ ?_ | refine wF ?_ ?_ | refine wG ?_ ?_ | refine wH ?_ ?_ | refine wI ?_ ?_ | refine wJ ?_ ?_ | refine wK ?_ ?_ | refine wL ?_ ?_) <;> intro _) | (((with_reducible refine call_id ?_); (first | (refine call_pure (c0) ?_) | (refine call_pure (c1) ?_) | (refine call_pure (i0) ?_) | (refine call_pure (i1) ?_)))) | simp (maxSteps := 1000000) (disch := omega) only [go_sem, seval, rounds_next, Tm.pv, *])
            all_goals (refine fin_tmp (.inr rfl) ?_; simp [upd, Tm.formed, formedA, deepB, hasB, constB, *]; try omega)
        · clear ih c0 c1
          repeat' (first | ((with_reducible first | refine wA (by omega) ?_ | refine wB (by omega) ?_ | refine wC (by omega) ?_ | refine wD (by omega) ?_ | refine wE ?_ ?_ | refine wF ?_ ?_ | refine wG ?_ ?_ | refine wH ?_ ?_ | refine wI ?_ ?_ | refine wJ ?_ ?_ | refine wK ?_ ?_ | refine wL ?_ ?_) <;> intro _) | simp (maxSteps := 1000000) (disch := omega) only [go_sem, seval, Tm.pv, strBin, fold_noS, *])
          all_goals (refine fin_tmp (.inr rfl) ?_; simp [upd, Tm.formed, hasB, constB, *] <;> omega)
      by_cases k6 : kind = 6
      · subst k6
        have c0 : PPure Try.prog F.ref04_binds [.sc (.int .i64 6), .sc (.int .i64 0)] (.sc (.bool false)) := by simpa using binds_p 6 0 (by omega)
        have c1 : PPure Try.prog F.ref04_binds [.sc (.int .i64 6), .sc (.int .i64 1)] (.sc (.bool true)) := by simpa using binds_p 6 1 (by omega)
        by_cases hl2 : args.length = 2
        · match args, hl2, hf, h1 with
          | [x, y], _, hf, h1 =>
            have := size_pos x
            have := size_pos y
            simp only [sizeL] at hf h1
            have i0 := ih x k (by omega) h0 (by omega)
            have i1 := ih y (k + 1) (by omega) (by omega) (by omega)
            clear ih
            repeat' (first | ((with_reducible first | refine wA (by omega) ?_ | refine wB (by omega) ?_ | refine wC (by omega) ?_ | refine wD (by omega) ?_ | refine wE ?_ ?_ | refine wF ?_ ?_ | refine wG ?_ ?_ | refine wH ?_ ?_ | refine wI ?_ ?_ | refine wJ ?_ ?_ | refine wK ?_ ?_ | refine wL ?_ ?_) <;> intro _) | simp (maxSteps := 1000000) (disch := omega) only [go_sem, seval, Tm.pv, strBin, fold_noS, *])
            all_goals (try (refine fin_tmp (.inr rfl) ?_; simp [upd, Tm.formed, hasB, constB, *] <;> omega))
            refine c_rounds 3 ?_
            repeat' (first | ((with_reducible first | refine wA (by omega) ?_ | refine wB (by omega) ?_ | refine wC (by omega) ?_ | refine wD (by omega) ?_ | refine wE ?_ ?_ | refine wF ?_ ?_ | refine wG ?_ ?_ | refine wH ?_ ?_ | refine wI ?_ ?_ | refine wJ ?_ ?_ | refine wK ?_ ?_ | refine wL ?_ ?_) <;> intro _) | (((with_reducible refine call_id ?_); (first | (refine call_pure (c0) ?_) | (refine call_pure (c1) ?_) | (refine call_pure (i0) ?_) | (refine call_pure (i1) ?_)))) | simp (maxSteps := 1000000) (disch := omega) only [go_sem, seval, rounds_next, Tm.pv, *])
            all_goals (refine fin_tmp (.inr rfl) ?_; simp [upd, Tm.formed, formedA, deepB, hasB, constB, *]; try omega)
        · clear ih c0 c1
          repeat' (first | ((with_reducible first | refine wA (by omega) ?_ | refine wB (by omega) ?_ | refine wC (by omega) ?_ | refine wD (by omega) ?_ | refine wE ?_ ?_ | refine wF ?_ ?_ | refine wG ?_ ?_ | refine wH ?_ ?_ | refine wI ?_ ?_ | refine wJ ?_ ?_ | refine wK ?_ ?_ | refine wL ?_ ?_) <;> intro _) | simp (maxSteps := 1000000) (disch := omega) only [go_sem, seval, Tm.pv, strBin, fold_noS, *])
          all_goals (refine fin_tmp (.inr rfl) ?_; simp [upd, Tm.formed, hasB, constB, *] <;> omega)
      by_cases k7 : kind = 7
      · subst k7
        have c0 : PPure Try.prog F.ref04_binds [.sc (.int .i64 7), .sc (.int .i64 0)] (.sc (.bool false)) := by simpa using binds_p 7 0 (by omega)
        have c1 : PPure Try.prog F.ref04_binds [.sc (.int .i64 7), .sc (.int .i64 1)] (.sc (.bool false)) := by simpa using binds_p 7 1 (by omega)
        have c2 : PPure Try.prog F.ref04_binds [.sc (.int .i64 7), .sc (.int .i64 2)] (.sc (.bool true)) := by simpa using binds_p 7 2 (by omega)
        by_cases hl2 : args.length = 3
        · match args, hl2, hf, h1 with
          | [x, y, z], _, hf, h1 =>
            have := size_pos x
            have := size_pos y
            have := size_pos z
            simp only [sizeL] at hf h1
            have i0 := ih x k (by omega) h0 (by omega)
            have i1 := ih y k (by omega) h0 (by omega)
            have i2 := ih z (k + 1) (by omega) (by omega) (by omega)
            clear ih
            repeat' (first | ((with_reducible first | refine wA (by omega) ?_ | refine wB (by omega) ?_ | refine wC (by omega) ?_ | refine wD (by omega) ?_ | refine wE ?_ ?_ | refine wF ?_ ?_ | refine wG ?_ ?_ | refine wH ?_ ?_ | refine wI ?_ ?_ | refine wJ ?_ ?_ | refine wK ?_ ?_ | refine wL ?_ ?_) <;> intro _) | simp (maxSteps := 1000000) (disch := omega) only [go_sem, seval, Tm.pv, strBin, fold_noS, *])
            all_goals (try (refine fin_tmp (.inr rfl) ?_; simp [upd, Tm.formed, hasB, constB, *] <;> omega))
            refine c_rounds 4 ?_
            repeat' (first | ((with_reducible first | refine wA (by omega) ?_ | refine wB (by omega) ?_ | refine wC (by omega) ?_ | refine wD (by omega) ?_ | refine wE ?_ ?_ | refine wF ?_ ?_ | refine wG ?_ ?_ | refine wH ?_ ?_ | refine wI ?_ ?_ | refine wJ ?_ ?_ | refine wK ?_ ?_ | refine wL ?_ ?_) <;> intro _) | (((with_reducible refine call_id ?_); (first | (refine call_pure (c0) ?_) | (refine call_pure (c1) ?_) | (refine call_pure (c2) ?_) | (refine call_pure (i0) ?_) | (refine call_pure (i1) ?_) | (refine call_pure (i2) ?_)))) | simp (maxSteps := 1000000) (disch := omega) only [go_sem, seval, rounds_next, Tm.pv, *])
            all_goals (refine fin_tmp (.inr rfl) ?_; simp [upd, Tm.formed, formedA, deepB, hasB, constB, *]; try omega)
        · clear ih c0 c1 c2
          repeat' (first | ((with_reducible first | refine wA (by omega) ?_ | refine wB (by omega) ?_ | refine wC (by omega) ?_ | refine wD (by omega) ?_ | refine wE ?_ ?_ | refine wF ?_ ?_ | refine wG ?_ ?_ | refine wH ?_ ?_ | refine wI ?_ ?_ | refine wJ ?_ ?_ | refine wK ?_ ?_ | refine wL ?_ ?_) <;> intro _) | simp (maxSteps := 1000000) (disch := omega) only [go_sem, seval, Tm.pv, strBin, fold_noS, *])
          all_goals (refine fin_tmp (.inr rfl) ?_; simp [upd, Tm.formed, hasB, constB, *] <;> omega)
      clear ih
      repeat' (first | ((with_reducible first | refine wA (by omega) ?_ | refine wB (by omega) ?_ | refine wC (by omega) ?_ | refine wD (by omega) ?_ | refine wE ?_ ?_ | refine wF ?_ ?_ | refine wG ?_ ?_ | refine wH ?_ ?_ | refine wI ?_ ?_ | refine wJ ?_ ?_ | refine wK ?_ ?_ | refine wL ?_ ?_) <;> intro _) | simp (maxSteps := 1000000) (disch := omega) only [go_sem, seval, Tm.pv, strBin, fold_noS, *])
      all_goals (refine fin_tmp (.inr rfl) ?_; simp [upd, Tm.formed, hasB, constB, *] <;> omega)
end
section
set_option maxRecDepth 20000
attribute [local go_sem] pv_len pv_take Nat.add_assoc tm_len tm_take
def Tm.right (np bound : Int) (t : Tm) : Bool := decide (0 ≤ bound) && (decide (0 ≤ np) && (decide (np ≤ 4) && (decide (t.nodes ≤ 2000) && t.formed np (min bound 1125899906842624))))
theorem ref04_Right_p (t : Tm) (np bound : Int) : PPure Try.prog F.ref04_Right [.agg t.pv, .sc (.int .i64 np), .sc (.int .i64 bound)] (.sc (.bool (t.right np bound))) := by
  refine pure_by is_ref04_Right (by simp) rfl fun hb nx => ?_
  have hs := size_nodes t
  have c1 := ref_Nodes_p 2000 (by omega) t.size t (Nat.le_refl _)
  by_cases hn : t.nodes ≤ 2000
  · by_cases h0 : 0 ≤ bound
    · have c2 := ref04_right_p np t.size t (min bound 1125899906842624) (Nat.le_refl _) (by omega) (by omega)
      have e1 : min t.nodes 2001 = t.nodes := by omega
      repeat' (first | ((with_reducible first | refine wA (by omega) ?_ | refine wB (by omega) ?_ | refine wC (by omega) ?_ | refine wD (by omega) ?_ | refine wE ?_ ?_ | refine wF ?_ ?_ | refine wG ?_ ?_ | refine wH ?_ ?_ | refine wI ?_ ?_ | refine wJ ?_ ?_ | refine wK ?_ ?_ | refine wL ?_ ?_) <;> intro _) | (((with_reducible refine call_id ?_); (first | (refine call_pure (c1) ?_) | (refine call_pure (c2) ?_)))) | simp (maxSteps := 1000000) (disch := omega) only [go_sem, seval, mc_ref04_Right, *])
      all_goals (refine fin_tmp (.inr rfl) ?_; simp [upd, Tm.right, *]; try omega)
    · repeat' (first | ((with_reducible first | refine wA (by omega) ?_ | refine wB (by omega) ?_ | refine wC (by omega) ?_ | refine wD (by omega) ?_ | refine wE ?_ ?_ | refine wF ?_ ?_ | refine wG ?_ ?_ | refine wH ?_ ?_ | refine wI ?_ ?_ | refine wJ ?_ ?_ | refine wK ?_ ?_ | refine wL ?_ ?_) <;> intro _) | (((with_reducible refine call_id ?_); (first | (refine call_pure (c1) ?_)))) | simp (maxSteps := 1000000) (disch := omega) only [go_sem, seval, mc_ref04_Right, *])
      all_goals (refine fin_tmp (.inr rfl) ?_; simp [upd, Tm.right, *]; try omega)
  · have e1 : min t.nodes 2001 = 2001 := by omega
    repeat' (first | ((with_reducible first | refine wA (by omega) ?_ | refine wB (by omega) ?_ | refine wC (by omega) ?_ | refine wD (by omega) ?_ | refine wE ?_ ?_ | refine wF ?_ ?_ | refine wG ?_ ?_ | refine wH ?_ ?_ | refine wI ?_ ?_ | refine wJ ?_ ?_ | refine wK ?_ ?_ | refine wL ?_ ?_) <;> intro _) | (((with_reducible refine call_id ?_); (first | (refine call_pure (c1) ?_)))) | simp (maxSteps := 1000000) (disch := omega) only [go_sem, seval, mc_ref04_Right, *])
    all_goals (refine fin_tmp (.inr rfl) ?_; simp [upd, Tm.right, *]; try omega)
end
section
set_option maxRecDepth 20000
attribute [local go_sem] pv_len pv_take Nat.add_assoc tm_len tm_take
def sameB (s t : ByteArray) : Bool := s.toList == t.toList
theorem fold_sameB {s t : ByteArray} : (s.toList == t.toList) = sameB s t := nr rfl
mutual
def Tm.same : Tm → Tm → Bool
  | .mk k n s ls xs, .mk k' n' s' ls' ys => decide (k = k') && (decide (n = n') && (sameB s s' && (decide (ls.length = ls'.length) && (decide (xs.length = ys.length) && (sameL ls ls' && sameT xs ys)))))
def sameT : List Tm → List Tm → Bool
  | x :: xs, y :: ys => x.same y && sameT xs ys
  | _, _ => true
end
theorem sameT_take : ∀ (xs ys : List Tm) (i : Nat) (h : i < xs.length) (h2 : i < ys.length), sameT (xs.take (i + 1)) (ys.take (i + 1)) = (sameT (xs.take i) (ys.take i) && xs[i].same ys[i])
  | x :: xs, y :: ys, 0, h, h2 => by simp [sameT]
  | x :: xs, y :: ys, i + 1, h, h2 => by
    have := sameT_take xs ys i (by simpa using h) (by simpa using h2)
    simp only [List.take_succ_cons, sameT, List.getElem_cons_succ, this, Bool.and_assoc]
theorem sameT_false : ∀ (xs ys : List Tm) (i : Nat) (h : i < xs.length) (h2 : i < ys.length), xs[i].same ys[i] = false → sameT xs ys = false
  | x :: xs, y :: ys, 0, h, h2, e => by simp at e; simp [sameT, e]
  | x :: xs, y :: ys, i + 1, h, h2, e => by
    have := sameT_false xs ys i (by simpa using h) (by simpa using h2) (by simpa using e)
    simp [sameT, this]
set_option maxHeartbeats 8000000 in
theorem SameTerm_p : ∀ (fuel : Nat) (a b : Tm), a.size ≤ fuel → PPure Try.prog F.ref00_SameTerm [.agg a.pv, .agg b.pv] (.sc (.bool (a.same b))) := by
  intro fuel
  induction fuel with
  | zero => intro l _ h; have := size_pos l; omega
  | succ fuel ih =>
    intro a b hf
    cases a with
    | mk k n s ls xs =>
    cases b with
    | mk k' n' s' ls' ys =>
    simp only [Tm.size] at hf
    refine pure_by is_ref00_SameTerm (by simp) rfl fun hb nx => ?_
    have hb0 : (xs.length ≤ 9223372036854775807 ∧ ys.length ≤ 9223372036854775807) ∧ ls.length ≤ 9223372036854775807 ∧ ls'.length ≤ 9223372036854775807 := by simp [Tm.pv, bndL, PV.bnd] at hb; omega
    repeat' (first | ((with_reducible first | refine wA (by omega) ?_ | refine wB (by omega) ?_ | refine wC (by omega) ?_ | refine wD (by omega) ?_ | refine wE ?_ ?_ | refine wF ?_ ?_ | refine wG ?_ ?_ | refine wH ?_ ?_ | refine wI ?_ ?_ | refine wJ ?_ ?_ | refine wK ?_ ?_ | refine wL ?_ ?_) <;> intro _) | simp (maxSteps := 1000000) (disch := omega) only [go_sem, seval, mc_ref00_SameTerm, Tm.pv, strBin, fold_sameB, *])
    all_goals (try (refine fin_tmp (.inr rfl) ?_; (first | rfl | (simp (disch := omega) only [go_sem, seval, Tm.same, *]; done) | (simp [Tm.same, upd, *]; done) | (simp [Tm.same, upd, *]; omega))))
    refine c_loopW 9223354444668731440 (by kernel_rfl) (fun j f H m => ∃ i : Nat, j = ls.length - i ∧ i ≤ ls.length ∧ f 5 = .sc (.int .i64 i) ∧ sameL (ls.take i) (ls'.take i) = true) _ ⟨0, rfl, cE1, cE1, rfl⟩ ?_
    rintro _ f H m ⟨i, rfl, hi, e5, hs⟩
    by_cases hlt : i < ls.length
    · have hlt2 : i < ls'.length := by omega
      have eg : ls[i]? = some ls[i] := List.getElem?_eq_getElem hlt
      have eg2 : ls'[i]? = some ls'[i] := List.getElem?_eq_getElem hlt2
      have hn := nodesL_mem ls i hlt
      have ht := sameL_take ls ls' i hlt hlt2
      have hq := sameL_false ls ls' i hlt hlt2
      clear ih
      repeat' (first | ((with_reducible first | refine wA (by omega) ?_ | refine wB (by omega) ?_ | refine wC (by omega) ?_ | refine wD (by omega) ?_ | refine wE ?_ ?_ | refine wF ?_ ?_ | refine wG ?_ ?_ | refine wH ?_ ?_ | refine wI ?_ ?_ | refine wJ ?_ ?_ | refine wK ?_ ?_ | refine wL ?_ ?_) <;> intro _) | (((with_reducible refine call_id ?_); (first | (refine call_pure (SameLevel_p _ ls[i] ls'[i] (Nat.le_refl _)) ?_)))) | simp (maxSteps := 1000000) (disch := omega) only [go_sem, seval, Lv.pv, *])
      · rename_i h0
        rw [h0] at hq
        (refine fin_tmp (.inr rfl) ?_; (first | rfl | (simp (disch := omega) only [go_sem, seval, Tm.same, *]; done) | (simp [Tm.same, upd, *]; done) | (simp [Tm.same, upd, *]; omega)))
      · rename_i h0
        refine Nx.mk (ls.length - (i + 1)) cE1 ⟨i + 1, cE1, cE1, cE1, by rw [ht, hs, h0]; rfl⟩
    · obtain rfl : i = ls.length := by omega
      have e : ls'.take ls.length = ls' := List.take_of_length_le (by omega)
      rw [List.take_length, e] at hs
      repeat' (first | ((with_reducible first | refine wA (by omega) ?_ | refine wB (by omega) ?_ | refine wC (by omega) ?_ | refine wD (by omega) ?_ | refine wE ?_ ?_ | refine wF ?_ ?_ | refine wG ?_ ?_ | refine wH ?_ ?_ | refine wI ?_ ?_ | refine wJ ?_ ?_ | refine wK ?_ ?_ | refine wL ?_ ?_) <;> intro _) | simp (maxSteps := 1000000) (disch := omega) only [go_sem, seval, *])
      refine c_loopW 4835694055086479844048976 (by kernel_rfl) (fun j f H m => ∃ i : Nat, j = xs.length - i ∧ i ≤ xs.length ∧ f 6 = .sc (.int .i64 i) ∧ sameT (xs.take i) (ys.take i) = true) _ ⟨0, rfl, cE1, cE1, rfl⟩ ?_
      rintro _ f2 H2 m2 ⟨i, rfl, hi2, e6, hs2⟩
      by_cases hlt2 : i < xs.length
      · have hlt3 : i < ys.length := by omega
        have eg : xs[i]? = some xs[i] := List.getElem?_eq_getElem hlt2
        have eg2 : ys[i]? = some ys[i] := List.getElem?_eq_getElem hlt3
        have hn := sizeL_mem xs i hlt2
        have ht := sameT_take xs ys i hlt2 hlt3
        have hq := sameT_false xs ys i hlt2 hlt3
        repeat' (first | ((with_reducible first | refine wA (by omega) ?_ | refine wB (by omega) ?_ | refine wC (by omega) ?_ | refine wD (by omega) ?_ | refine wE ?_ ?_ | refine wF ?_ ?_ | refine wG ?_ ?_ | refine wH ?_ ?_ | refine wI ?_ ?_ | refine wJ ?_ ?_ | refine wK ?_ ?_ | refine wL ?_ ?_) <;> intro _) | (((with_reducible refine call_id ?_); (first | (refine call_pure (ih xs[i] ys[i] (by omega)) ?_)))) | simp (maxSteps := 1000000) (disch := omega) only [go_sem, seval, Tm.pv, *])
        · rename_i h0
          rw [h0] at hq
          (refine fin_tmp (.inr rfl) ?_; (first | rfl | (simp (disch := omega) only [go_sem, seval, Tm.same, *]; done) | (simp [Tm.same, upd, *]; done) | (simp [Tm.same, upd, *]; omega)))
        · rename_i h0
          refine Nx.mk (xs.length - (i + 1)) cE1 ⟨i + 1, cE1, cE1, cE1, by rw [ht, hs2, h0]; rfl⟩
      · obtain rfl : i = xs.length := by omega
        have e : ys.take xs.length = ys := List.take_of_length_le (by omega)
        rw [List.take_length, e] at hs2
        repeat' (first | ((with_reducible first | refine wA (by omega) ?_ | refine wB (by omega) ?_ | refine wC (by omega) ?_ | refine wD (by omega) ?_ | refine wE ?_ ?_ | refine wF ?_ ?_ | refine wG ?_ ?_ | refine wH ?_ ?_ | refine wI ?_ ?_ | refine wJ ?_ ?_ | refine wK ?_ ?_ | refine wL ?_ ?_) <;> intro _) | simp (maxSteps := 1000000) (disch := omega) only [go_sem, seval, *])
        (refine fin_tmp (.inr rfl) ?_; (first | rfl | (simp (disch := omega) only [go_sem, seval, Tm.same, *]; done) | (simp [Tm.same, upd, *]; done) | (simp [Tm.same, upd, *]; omega)))
end
section
set_option maxRecDepth 20000
attribute [local go_sem] pv_len pv_take id_ne id_ne' id_ne2 List.append_assoc Nat.add_assoc pv_one
def slB (f : Bool) (sz : Nat) (es : List (List PV)) : PV := if f = true then .fsl sz es else .sl sz es
def Lv.pvB (f : Bool) : Lv → List PV
  | .mk k n args => [.sc (.int .i64 k), .sc (.int .i64 n), slB f 3 (args.map (Lv.pvB f))]
theorem pvB_len (f : Bool) (l : Lv) : (l.pvB f).length = 3 := by cases l; simp [Lv.pvB]
attribute [local go_sem] pvB_len
theorem pvB_take (f : Bool) (l : Lv) : (l.pvB f).take 3 = l.pvB f := List.take_of_length_le (by rw [pvB_len]; omega)
attribute [local go_sem] pvB_take
theorem slB_one (f : Bool) (sz : Nat) (es : List (List PV)) : (slB f sz es).one = true := by cases f <;> rfl
theorem pvB_one (f : Bool) (l : Lv) : (l.pvB f).all PV.one = true := by
  cases l
  simp only [Lv.pvB, List.all_cons, slB_one, List.all_nil, Bool.and_true]
  rfl
attribute [local go_sem] pvB_one
theorem slB_weak (f : Bool) (sz : Nat) (es : List (List PV)) : Weak (slB f sz es) (.sl sz es) := by
  cases f
  · exact .refl _
  · exact Weak.fsl sz es
theorem WeakL.append : ∀ {a b c d : List PV}, WeakL a b → WeakL c d → WeakL (a ++ c) (b ++ d)
  | [], [], _, _, _, h => h
  | _ :: _, _ :: _, _, _, h, h2 => ⟨h.1, WeakL.append h.2 h2⟩
  | [], _ :: _, _, _, h, _ => h.elim
  | _ :: _, [], _, _, h, _ => h.elim
theorem WeakL.rows {α : Type} {f g : α → List PV} : ∀ (xs : List α), (∀ x ∈ xs, WeakL (f x) (g x)) → WeakL (xs.map f).flatten (xs.map g).flatten
  | [], _ => trivial
  | x :: r, h => by
    simp only [List.map_cons, List.flatten_cons]
    exact (h x (by simp)).append (WeakL.rows r fun y hy => h y (by simp [hy]))
theorem slB_rows {α : Type} {f g : α → List PV} (b : Bool) {sz : Nat} (hg : ∀ x, (g x).length = sz) (xs : List α) (h : ∀ x ∈ xs, WeakL (f x) (g x)) : Weak (slB b sz (xs.map f)) (.sl sz (xs.map g)) := by
  refine (slB_weak b sz _).trans (Weak.sl (by simp) (fun e he => ?_) (WeakL.rows xs h))
  obtain ⟨x, _, rfl⟩ := List.mem_map.1 he
  exact hg x
theorem lv_weak (f : Bool) : ∀ (fuel : Nat) (l : Lv), l.nodes ≤ fuel → WeakL (l.pvB f) l.pv := by
  intro fuel
  induction fuel with
  | zero => intro l h; have := nodes_pos l; omega
  | succ fuel ih =>
    intro l h
    cases l with
    | mk k n args =>
    simp only [Lv.nodes] at h
    simp only [Lv.pvB, Lv.pv]
    refine ⟨.refl _, .refl _, slB_rows f pv_len args fun x hx => ih x ?_, trivial⟩
    obtain ⟨i, hi, rfl⟩ := List.getElem_of_mem hx
    have := nodesL_mem args i hi
    omega
theorem lv_weak' (f : Bool) (l : Lv) : WeakL (l.pvB f) l.pv := lv_weak f l.nodes l (Nat.le_refl _)
theorem lvs_weak (f : Bool) (ls : List Lv) : Weak (slB f 3 (ls.map (Lv.pvB f))) (.sl 3 (ls.map Lv.pv)) := slB_rows f pv_len ls fun x _ => lv_weak' f x
theorem imm_rows {α : Type} {f : α → List PV} : ∀ (xs : List α), (∀ x ∈ xs, immL (f x) = true) → immL (xs.map f).flatten = true
  | [], _ => rfl
  | x :: r, h => by simp only [List.map_cons, List.flatten_cons, immL_append, h x (by simp), imm_rows r fun y hy => h y (by simp [hy])]; rfl
theorem slB_imm (f : Bool) (sz : Nat) (es : List (List PV)) : (slB f sz es).imm = immL es.flatten := by cases f <;> simp [slB, PV.imm, immLL_flatten]
theorem pvB_imm' (f : Bool) : ∀ (fuel : Nat) (l : Lv), l.nodes ≤ fuel → immL (l.pvB f) = true := by
  intro fuel
  induction fuel with
  | zero => intro l h; have := nodes_pos l; omega
  | succ fuel ih =>
    intro l h
    cases l with
    | mk k n args =>
    simp only [Lv.nodes] at h
    simp only [Lv.pvB, immL, slB_imm]
    rw [imm_rows args fun x hx => ih x ?_]
    · rfl
    · obtain ⟨i, hi, rfl⟩ := List.getElem_of_mem hx
      have := nodesL_mem args i hi
      omega
theorem pvB_imm (f : Bool) (l : Lv) : immL (l.pvB f) = true := pvB_imm' f l.nodes l (Nat.le_refl _)
theorem flat_lenG {α : Type} (f : α → List PV) (sz : Nat) (hf : ∀ x, (f x).length = sz) : ∀ xs : List α, (xs.flatMap f).length = xs.length * sz
  | [] => by simp
  | x :: r => by simp only [List.flatMap_cons, List.length_append, hf, flat_lenG f sz hf r, List.length_cons, Nat.succ_mul]; omega
theorem chunks_flat {α : Type} (f : α → List PV) (sz : Nat) (hf : ∀ x, (f x).length = sz) : ∀ xs : List α, chunks sz xs.length (xs.flatMap f) = xs.map f
  | [] => rfl
  | x :: r => by
    simp only [List.length_cons, chunks, List.flatMap_cons, List.map_cons]
    rw [List.take_left' (hf x), List.drop_left' (hf x), chunks_flat f sz hf r]
theorem frzF_sc (k : Nat) (H : Nat → Option PObj) (v : Value) : frzF k H (.sc v) = .sc v := by cases k <;> rfl
theorem frzF_slB (k : Nat) (H : Nat → Option PObj) (f : Bool) (sz : Nat) (es : List (List PV)) : frzF k H (slB f sz es) = slB f sz es := by cases k <;> cases f <;> rfl
theorem frzF_pvB (k : Nat) (H : Nat → Option PObj) (f : Bool) (l : Lv) : (l.pvB f).map (frzF k H) = l.pvB f := by
  cases l
  simp [Lv.pvB, frzF_sc, frzF_slB]
theorem frzF_flat {α : Type} {g : α → List PV} {k : Nat} {H : Nat → Option PObj} (hg : ∀ x, (g x).map (frzF k H) = g x) : ∀ xs : List α, (xs.flatMap g).map (frzF k H) = xs.flatMap g
  | [] => rfl
  | x :: r => by simp only [List.flatMap_cons, List.map_append, hg, frzF_flat hg r]
theorem frzF_row {α : Type} {g : α → List PV} {k sz : Nat} {H : Nat → Option PObj} {id : Nat} {xs : List α} {w : Bool} (hg : ∀ x, (g x).length = sz) (hf : ∀ x, (g x).map (frzF k H) = g x) (h : H id = some ⟨xs.flatMap g, w⟩) : frzF (k + 1) H (.osl id 0 xs.length sz) = .fsl sz (xs.map g) := by
  have hl := flat_lenG g sz hg xs
  simp only [frzF, h, List.drop_zero]
  rw [if_pos (by omega), List.take_of_length_le (by omega), frzF_flat hf, chunks_flat g sz hg]
theorem frzF_agg1 {k : Nat} {H : Nat → Option PObj} {xs : List PV} : frzF (k + 1) H (.agg xs) = .agg (xs.map (frzF k H)) := rfl
theorem Weak.nilF (sz : Nat) : Weak (.sc (.slice none 0 0)) (.fsl sz []) := fun V v h => by
  refine .fsl sz [] v (fun b off len cap _ he => absurd rfl he) (Weak.nil sz V v h)
theorem Weak.nilB (f : Bool) (sz : Nat) : Weak (.sc (.slice none 0 0)) (slB f sz []) := by
  cases f
  · exact Weak.nil sz
  · exact Weak.nilF sz
abbrev z3 : List Value := [.int .i64 0, .int .i64 0, .slice none 0 0]
end
end Go.Proofs.Ytnelciclibknpaa
