/-
  Plain values: PkQ, PkR, PkS, TmR, TmX, TmW, TmY, LvM, TnA, PkT, PkU, PkV, PkW, PkX, Tm2, DeA, DeB, DeE, PkY, PkZ, PkF.
-/
import Derived.Laws.Strings
import Derived.Test.YtnelciclibknpaaXTa
import Derived.Test.YtnelciclibknpaaXTb
import Derived.Test.YtnelciclibknpaaXTc
import Derived.Test.YtnelciclibknpaaXTd
import Derived.Test.YtnelciclibknpaaXTe
import Derived.Test.YtnelciclibknpaaXTf
import Derived.Test.YtnelciclibknpaaXTg
import Derived.Test.YtnelciclibknpaaXTh
set_option linter.unusedVariables false
set_option linter.unusedSimpArgs false
namespace Go.Proofs.Ytnelciclibknpaa
open Go.RowKit
attribute [local go_sem ↓] c_seq c_region c_cond c_block c_ret c_skip c_exit c_cont t_normal t_ret t_exit b_normal b_ret b_exit run_nil run_cons g_some o_mv o_pick o_bin o_un o_ld o_ldf o_bld o_len o_mkf o_nilc o_fa o_fd o_ia o_iaa o_ix o_ixs o_ext o_al o_bxf o_bxt o_bsl o_bslf o_mks o_st o_stf o_call o_rng o_nxt o_callm o_callmA o_calvm o_calv cond_true cond_false upd_get sigF_cons o_eqa o_mm o_app o_slc o_apps o_cvt
attribute [local go_sem] num_nil num_cons isP chunks rngV next_is next_iter val_some new_some st_some stf_some guard_tt guard_ff guard_tf guard_ft guard_un calv_fn put_some put_none ev_tmp ev_const ev_func sig_eq sigF_nil q0 q1 nilcV faV fdV iaV iaaV ixV ixsV extV mksV loadP storeP lenPV binPV unPV intBin partsP fillP zeros PV.good PV.cellsOf PV.one q2 q3 q4 q5 q6 q7 q8 q9 q10 q11 q12 q13 q14 q15 q16 q17 q18 q19 q20 q21 q22 q23 q24 q25 q26 q27 q28 q29 q30 q31 q32 q33 q34 q35 q36 q37 q38 wrap64 app_some mmL mmV mm2 eqE eqParts eqInt eqBool eqStr partV q39 q40 pickV q41 q42 q43 q44 q45 q46 q47 q48 q49 appE oldOf rowOf updL q50 q51 q52 q53 zlt ovr_get ite_neN ite_eqN q54 q55 q56 q57 q58 q59 q60 q61 q62 q63 q64 q65 q66 q67 tailP_f tailP_t tailF_f tailF_t slcP bndO capO slcLen intOf Option.isSome_none Option.isNone_none Option.isSome_some Option.isNone_some nilP slc_sl slc_csl slc_osl slc_osl0 slc_ocap slc_str appR appS cvP shiftB false_or List.append_nil List.length_append resP resPs resP1 PV.sc.injEq Value.bool.injEq Value.int.injEq
section
set_option maxRecDepth 20000
attribute [local go_sem] Nat.add_assoc id_ne id_ne' id_ne2 List.append_assoc bC_len bC_one
theorem slc_map {α : Type} {g : α → List PV} {sz : Nat} {lo hi : Int} {xs : List α} (h0 : 0 ≤ lo) (h1 : lo ≤ hi) (h2 : hi ≤ xs.length) : slcI sz false lo hi none (.sl sz (xs.map g)) = some (.sl sz (((xs.drop lo.toNat).take (hi - lo).toNat).map g)) := by
  rw [slc_sl h0 h1 (by rw [List.length_map]; exact h2), ← List.map_drop, ← List.map_take]
theorem slc_front (ki : Int) (k : Nat) (hk : ki = k) (l : List UInt8) : slcI 1 false 0 (min ki l.length) none (.sl 1 (l.map fun c => [PV.sc (.int .u8 c.toNat)])) = some (.sl 1 ((l.take k).map fun c => [PV.sc (.int .u8 c.toNat)])) := by
  subst hk
  rw [slc_map (Int.le_refl _) (by omega) (by omega)]
  congr 2
  simp only [Int.toNat_zero, List.drop_zero, Int.sub_zero]
  by_cases h : k ≤ l.length
  · rw [show (min (k : Int) l.length).toNat = k by omega]
  · rw [show (min (k : Int) l.length).toNat = l.length by omega, List.take_length, List.take_of_length_le (by omega)]
set_option maxHeartbeats 4000000 in
theorem Size_p (n : Nat) : PPure Try.prog F.wire_Size [.sc (.int .i64 n)] (.sc (.int .i64 (if n ≤ 1099511627776 then (Plain.enc n).length else 0 : Nat))) := by
  refine pure_by is_wire_Size (by simp) rfl fun hb nx => ?_
  clear hb
  have c1 := isNumber_p (n : Int)
  by_cases hn : n ≤ 1099511627776
  · have hd1 : decide (0 ≤ (n : Int)) = true := decide_eq_true (by omega)
    have hd2 : decide ((n : Int) ≤ 1099511627776) = true := decide_eq_true (by omega)
    rw [hd1, hd2] at c1
    clear hd1 hd2
    rw [if_pos hn]
    have hen := enc_len6 n (by omega)
    repeat' (first | ((with_reducible first | refine wA (by omega) ?_ | refine wB (by omega) ?_ | refine wC (by omega) ?_ | refine wD (by omega) ?_ | refine wE ?_ ?_ | refine wF ?_ ?_ | refine wG ?_ ?_ | refine wH ?_ ?_ | refine wI ?_ ?_ | refine wJ ?_ ?_ | refine wK ?_ ?_ | refine wL ?_ ?_) <;> intro _) | (((with_reducible refine call_id ?_); (first | (refine call_pure (c1) ?_)))) | simp (maxSteps := 1000000) (disch := omega) only [go_sem, Nat.reduceAdd, Nat.reduceMul, Nat.reduceSub, Nat.reduceLeDiff, Nat.reduceEqDiff, Nat.reduceBEq, ↓reduceIte, reduceCtorEq, Int.reduceEq, Int.reduceLE, Int.reduceLT, Int.reduceAdd, Int.reduceSub, Int.reduceNeg, Int.reduceToNat, Int.reduceNe, Nat.reducePow, Nat.reduceShiftRight, Nat.reduceMod, mc_wire_Size, *])
    refine c_loopW 8073 (by kernel_rfl) (fun j f H m => ∃ k sz : Nat, j = k ∧ k ≤ n ∧ f 0 = .sc (.int .i64 k) ∧ f 3 = .sc (.int .i64 sz) ∧ Kept (sz + (Plain.enc k).length = (Plain.enc n).length + 1)) _ ⟨n, 1, rfl, Nat.le_refl _, cE1, cE1, Kept.mk (by omega)⟩ ?_
    rintro _ f H m ⟨k, sz, rfl, hk, e0, e3, hs⟩
    rename_i k
    by_cases hb : 128 ≤ k
    · have h4 : (k : Int).fdiv (2 ^ min 7 IntKind.i64.bits) = ((k / 128 : Nat) : Int) := shr7 k
      have h4' := h4
      simp only [IntKind.bits] at h4'
      have hs2 : Kept ((sz + 1) + (Plain.enc (k / 128)).length = (Plain.enc n).length + 1) := by
        have := hs.out
        rw [Plain.enc_big hb, List.length_cons] at this
        exact Kept.mk (by omega)
      have hsz : sz ≤ 7 := by have := hs.out; omega
      clear hs
      repeat' (first | ((with_reducible first | refine wA (by omega) ?_ | refine wB (by omega) ?_ | refine wC (by omega) ?_ | refine wD (by omega) ?_ | refine wE ?_ ?_ | refine wF ?_ ?_ | refine wG ?_ ?_ | refine wH ?_ ?_ | refine wI ?_ ?_ | refine wJ ?_ ?_ | refine wK ?_ ?_ | refine wL ?_ ?_) <;> intro _) | simp (maxSteps := 1000000) (disch := omega) only [go_sem, Nat.reduceAdd, Nat.reduceMul, Nat.reduceSub, Nat.reduceLeDiff, Nat.reduceEqDiff, Nat.reduceBEq, ↓reduceIte, reduceCtorEq, Int.reduceEq, Int.reduceLE, Int.reduceLT, Int.reduceAdd, Int.reduceSub, Int.reduceNeg, Int.reduceToNat, Int.reduceNe, Nat.reducePow, Nat.reduceShiftRight, Nat.reduceMod, *])
      exact Nx.mk (k / 128) (by omega) ⟨k / 128, sz + 1, rfl, by omega, cE1, cE1, hs2⟩
    · have hs2 : sz = (Plain.enc n).length := by
        have := hs.out
        rw [Plain.enc_small (by omega)] at this
        simpa using this
      subst hs2
      clear hs
      repeat' (first | ((with_reducible first | refine wA (by omega) ?_ | refine wB (by omega) ?_ | refine wC (by omega) ?_ | refine wD (by omega) ?_ | refine wE ?_ ?_ | refine wF ?_ ?_ | refine wG ?_ ?_ | refine wH ?_ ?_ | refine wI ?_ ?_ | refine wJ ?_ ?_ | refine wK ?_ ?_ | refine wL ?_ ?_) <;> intro _) | simp (maxSteps := 1000000) (disch := omega) only [go_sem, Nat.reduceAdd, Nat.reduceMul, Nat.reduceSub, Nat.reduceLeDiff, Nat.reduceEqDiff, Nat.reduceBEq, ↓reduceIte, reduceCtorEq, Int.reduceEq, Int.reduceLE, Int.reduceLT, Int.reduceAdd, Int.reduceSub, Int.reduceNeg, Int.reduceToNat, Int.reduceNe, Nat.reducePow, Nat.reduceShiftRight, Nat.reduceMod, *])
      all_goals (exact fin_tmp (.inr rfl) cE3)
  · have hd1 : decide (0 ≤ (n : Int)) = true := decide_eq_true (by omega)
    have hd2 : decide ((n : Int) ≤ 1099511627776) = false := decide_eq_false (by omega)
    rw [hd1, hd2] at c1
    clear hd1 hd2
    rw [if_neg hn]
    repeat' (first | ((with_reducible first | refine wA (by omega) ?_ | refine wB (by omega) ?_ | refine wC (by omega) ?_ | refine wD (by omega) ?_ | refine wE ?_ ?_ | refine wF ?_ ?_ | refine wG ?_ ?_ | refine wH ?_ ?_ | refine wI ?_ ?_ | refine wJ ?_ ?_ | refine wK ?_ ?_ | refine wL ?_ ?_) <;> intro _) | (((with_reducible refine call_id ?_); (first | (refine call_pure (c1) ?_)))) | simp (maxSteps := 1000000) (disch := omega) only [go_sem, Nat.reduceAdd, Nat.reduceMul, Nat.reduceSub, Nat.reduceLeDiff, Nat.reduceEqDiff, Nat.reduceBEq, ↓reduceIte, reduceCtorEq, Int.reduceEq, Int.reduceLE, Int.reduceLT, Int.reduceAdd, Int.reduceSub, Int.reduceNeg, Int.reduceToNat, Int.reduceNe, Nat.reducePow, Nat.reduceShiftRight, Nat.reduceMod, mc_wire_Size, *])
    all_goals (exact fin_tmp (.inr rfl) cE3)
theorem shl_val (r k : Nat) (hk : k < 6) (hr : r < 128) : (if 7 * (k : Int) < 0 then none else some (Value.int .i64 (IntKind.i64.wrap ((r : Int) * 2 ^ min (7 * (k : Int)).toNat IntKind.i64.bits)))) = some (Value.int .i64 ((r * 128 ^ k : Nat) : Int)) := by
  rw [if_neg (by omega)]
  have hp : (128 : Nat) ^ k ≤ 128 ^ 5 := Nat.pow_le_pow_right (by omega) (by omega)
  have hy : r * 128 ^ k ≤ 127 * 128 ^ 5 := Nat.mul_le_mul (by omega) hp
  have e0 : min (7 * (k : Int)).toNat IntKind.i64.bits = 7 * k := by
    show min (7 * (k : Int)).toNat 64 = 7 * k
    omega
  have e4 : (2 : Int) ^ (7 * k) = ((128 ^ k : Nat) : Int) := by rw [Int.pow_mul]; push_cast; rfl
  have e8 : IntKind.i64.wrap ((r * 128 ^ k : Nat) : Int) = ((r * 128 ^ k : Nat) : Int) := by rw [IntKind.wrap_i64]; omega
  rw [e0, e4, ← Int.natCast_mul, e8]
theorem or_val (v r k : Nat) (hk : k < 6) (hv : v < 128 ^ k) (hr : r < 128) : IntKind.i64.wrap ((BitVec.ofInt IntKind.i64.bits (v : Int) ||| BitVec.ofInt IntKind.i64.bits ((r * 128 ^ k : Nat) : Int)).toNat : Int) = ((v + r * 128 ^ k : Nat) : Int) := by
  have hp : (128 : Nat) ^ k ≤ 128 ^ 5 := Nat.pow_le_pow_right (by omega) (by omega)
  have hy : r * 128 ^ k ≤ 127 * 128 ^ 5 := Nat.mul_le_mul (by omega) hp
  have e1 := Plain.or_i64 v (r * 128 ^ k) (by omega) (by omega)
  have e6 : (128 : Nat) ^ k = 2 ^ (7 * k) := by rw [Nat.pow_mul]
  have e2 : v ||| r * 128 ^ k = v + r * 128 ^ k := by
    rw [e6] at hv ⊢
    have := Nat.two_pow_add_eq_or_of_lt hv r
    rw [Nat.or_comm, Nat.mul_comm r, ← this, Nat.add_comm]
  rw [e2] at e1
  exact e1
set_option maxHeartbeats 8000000 in
theorem takeNum_p (l : List UInt8) : PPure Try.prog F.wire_takeNum [rowB l] (.tup [.sc (.int .i64 ((Plain.tk l).1 : Nat)), .sc (.int .i64 ((Plain.tk l).2 : Nat))]) := by
  refine pure_by is_wire_takeNum (by simp) rfl fun hb nx => ?_
  have hlb : l.length ≤ 9223372036854775807 := by simp [rowB, bndL, PV.bnd] at hb; omega
  clear hb
  have c0 := slc_front 6 6 rfl l
  have ht : (l.take 6).length = min 6 l.length := List.length_take
  repeat' (first | ((with_reducible first | refine wA (by omega) ?_ | refine wB (by omega) ?_ | refine wC (by omega) ?_ | refine wD (by omega) ?_ | refine wE ?_ ?_ | refine wF ?_ ?_ | refine wG ?_ ?_ | refine wH ?_ ?_ | refine wI ?_ ?_ | refine wJ ?_ ?_ | refine wK ?_ ?_ | refine wL ?_ ?_) <;> intro _) | simp (maxSteps := 1000000) (disch := omega) only [go_sem, Nat.reduceAdd, Nat.reduceMul, Nat.reduceSub, Nat.reduceLeDiff, Nat.reduceEqDiff, Nat.reduceBEq, ↓reduceIte, reduceCtorEq, Int.reduceEq, Int.reduceLE, Int.reduceLT, Int.reduceAdd, Int.reduceSub, Int.reduceNeg, Int.reduceToNat, Int.reduceNe, Nat.reducePow, Nat.reduceShiftRight, Nat.reduceMod, mc_wire_takeNum, rowB, *])
  refine c_loopW 4398046503036 (by kernel_rfl) (fun j f H m => ∃ k v : Nat, j = min 6 l.length - k ∧ k ≤ min 6 l.length ∧ f 13 = .sc (.int .i64 k) ∧ f 4 = .sc (.int .i64 v) ∧ Kept (Plain.Mid l k v)) _ ⟨0, 0, rfl, Nat.zero_le _, cE1, cE1, Kept.mk (Plain.mid_start l)⟩ ?_
  rintro _ f H m ⟨k, v, rfl, hk, e13, e4, hm⟩
  by_cases hlt : k < min 6 l.length
  · have hkl : k < l.length := by omega
    have eg : (l.take 6)[k]? = some l[k] := by rw [List.getElem?_take, if_pos (by omega), List.getElem?_eq_getElem hkl]
    have hbyte := l[k].toNat_lt
    have h1 : IntKind.u8.wrap ((BitVec.ofInt IntKind.u8.bits ((l[k].toNat : Nat) : Int) &&& BitVec.ofInt IntKind.u8.bits 127).toNat : Int) = ((l[k].toNat % 128 : Nat) : Int) := by
      have e1 := Plain.and_u8 l[k].toNat 127 hbyte (by omega)
      rw [Nat.and_two_pow_sub_one_eq_mod l[k].toNat 7] at e1
      exact e1
    have h5 := shl_val (l[k].toNat % 128) k (by omega) (by omega)
    have h6 := or_val v (l[k].toNat % 128) k (by omega) hm.out.1 (by omega)
    have h1' := h1
    have h5' := h5
    have h6' := h6
    simp only [IntKind.bits] at h1' h5' h6'
    by_cases hx : 128 ≤ l[k].toNat
    · have hm2 := Kept.mk (Plain.mid_go hm.out (by omega) hkl hx)
      obtain ⟨v', hv'⟩ : ∃ v', v' = v + l[k].toNat % 128 * 128 ^ k := ⟨_, rfl⟩
      rw [← hv'] at h6 h6' hm2
      clear hm hv'
      repeat' (first | ((with_reducible first | refine wA (by omega) ?_ | refine wB (by omega) ?_ | refine wC (by omega) ?_ | refine wD (by omega) ?_ | refine wE ?_ ?_ | refine wF ?_ ?_ | refine wG ?_ ?_ | refine wH ?_ ?_ | refine wI ?_ ?_ | refine wJ ?_ ?_ | refine wK ?_ ?_ | refine wL ?_ ?_) <;> intro _) | simp (maxSteps := 1000000) (disch := omega) only [go_sem, Nat.reduceAdd, Nat.reduceMul, Nat.reduceSub, Nat.reduceLeDiff, Nat.reduceEqDiff, Nat.reduceBEq, ↓reduceIte, reduceCtorEq, Int.reduceEq, Int.reduceLE, Int.reduceLT, Int.reduceAdd, Int.reduceSub, Int.reduceNeg, Int.reduceToNat, Int.reduceNe, Nat.reducePow, Nat.reduceShiftRight, Nat.reduceMod, *])
      exact Nx.mk (min 6 l.length - (k + 1)) (by omega) ⟨k + 1, v', rfl, by omega, cE1, cE1, hm2⟩
    · have hend := Plain.tk_of_raw (Plain.mid_end hm.out (by omega) hkl (by omega))
      have hv1 := hm.out.1
      obtain ⟨v', hv'⟩ : ∃ v', v' = v + l[k].toNat * 128 ^ k := ⟨_, rfl⟩
      have ex : l[k].toNat % 128 = l[k].toNat := by omega
      rw [ex] at h1 h5 h6 h1' h5' h6'
      rw [← hv'] at h6 h6' hend
      rw [hend]
      clear hm hend ex hv1
      have c2 := isNumber_p (v' : Int)
      have c3 := Size_p v'
      by_cases hn : v' ≤ 1099511627776
      · have hd1 : decide (0 ≤ (v' : Int)) = true := decide_eq_true (by omega)
        have hd2 : decide ((v' : Int) ≤ 1099511627776) = true := decide_eq_true (by omega)
        rw [hd1, hd2] at c2
        rw [if_pos hn] at c3
        have hen := enc_len6 v' (by omega)
        clear hd1 hd2 hv'
        by_cases he : (Plain.enc v').length = k + 1
        · rw [if_pos ⟨by unfold Plain.mc; exact hn, he⟩]
          rw [he] at c3
          clear he hen
          repeat' (first | ((with_reducible first | refine wA (by omega) ?_ | refine wB (by omega) ?_ | refine wC (by omega) ?_ | refine wD (by omega) ?_ | refine wE ?_ ?_ | refine wF ?_ ?_ | refine wG ?_ ?_ | refine wH ?_ ?_ | refine wI ?_ ?_ | refine wJ ?_ ?_ | refine wK ?_ ?_ | refine wL ?_ ?_) <;> intro _) | (((with_reducible refine call_id ?_); (first | (refine call_pure (c2) ?_) | (refine call_pure (c3) ?_)))) | simp (maxSteps := 1000000) (disch := omega) only [go_sem, Nat.reduceAdd, Nat.reduceMul, Nat.reduceSub, Nat.reduceLeDiff, Nat.reduceEqDiff, Nat.reduceBEq, ↓reduceIte, reduceCtorEq, Int.reduceEq, Int.reduceLE, Int.reduceLT, Int.reduceAdd, Int.reduceSub, Int.reduceNeg, Int.reduceToNat, Int.reduceNe, Nat.reducePow, Nat.reduceShiftRight, Nat.reduceMod, *])
          refine fin_ret (r0 := .tup [.sc (.int .i64 (v' : Nat)), .sc (.int .i64 ((k + 1 : Nat) : Int))]) 0 cE2 ?_
          exact .of_eq rfl
        · rw [if_neg (fun h => he h.2)]
          have he2 : ¬ ((Plain.enc v').length : Int) = (k : Int) + 1 := by omega
          repeat' (first | ((with_reducible first | refine wA (by omega) ?_ | refine wB (by omega) ?_ | refine wC (by omega) ?_ | refine wD (by omega) ?_ | refine wE ?_ ?_ | refine wF ?_ ?_ | refine wG ?_ ?_ | refine wH ?_ ?_ | refine wI ?_ ?_ | refine wJ ?_ ?_ | refine wK ?_ ?_ | refine wL ?_ ?_) <;> intro _) | (((with_reducible refine call_id ?_); (first | (refine call_pure (c2) ?_) | (refine call_pure (c3) ?_)))) | simp (maxSteps := 1000000) (disch := omega) only [go_sem, Nat.reduceAdd, Nat.reduceMul, Nat.reduceSub, Nat.reduceLeDiff, Nat.reduceEqDiff, Nat.reduceBEq, ↓reduceIte, reduceCtorEq, Int.reduceEq, Int.reduceLE, Int.reduceLT, Int.reduceAdd, Int.reduceSub, Int.reduceNeg, Int.reduceToNat, Int.reduceNe, Nat.reducePow, Nat.reduceShiftRight, Nat.reduceMod, *])
          refine fin_ret (r0 := .tup [.sc (.int .i64 0), .sc (.int .i64 0)]) 0 cE2 ?_
          exact .of_eq rfl
      · have hd1 : decide (0 ≤ (v' : Int)) = true := decide_eq_true (by omega)
        have hd2 : decide ((v' : Int) ≤ 1099511627776) = false := decide_eq_false (by omega)
        rw [hd1, hd2] at c2
        rw [if_neg (fun h => hn (by have := h.1; unfold Plain.mc at this; exact this))]
        clear hd1 hd2 hv' c3
        repeat' (first | ((with_reducible first | refine wA (by omega) ?_ | refine wB (by omega) ?_ | refine wC (by omega) ?_ | refine wD (by omega) ?_ | refine wE ?_ ?_ | refine wF ?_ ?_ | refine wG ?_ ?_ | refine wH ?_ ?_ | refine wI ?_ ?_ | refine wJ ?_ ?_ | refine wK ?_ ?_ | refine wL ?_ ?_) <;> intro _) | (((with_reducible refine call_id ?_); (first | (refine call_pure (c2) ?_)))) | simp (maxSteps := 1000000) (disch := omega) only [go_sem, Nat.reduceAdd, Nat.reduceMul, Nat.reduceSub, Nat.reduceLeDiff, Nat.reduceEqDiff, Nat.reduceBEq, ↓reduceIte, reduceCtorEq, Int.reduceEq, Int.reduceLE, Int.reduceLT, Int.reduceAdd, Int.reduceSub, Int.reduceNeg, Int.reduceToNat, Int.reduceNe, Nat.reducePow, Nat.reduceShiftRight, Nat.reduceMod, *])
        refine fin_ret (r0 := .tup [.sc (.int .i64 0), .sc (.int .i64 0)]) 0 cE2 ?_
        exact .of_eq rfl
  · have h0 := Plain.mid_none hm.out (by omega)
    rw [h0]
    clear h0 hm
    repeat' (first | ((with_reducible first | refine wA (by omega) ?_ | refine wB (by omega) ?_ | refine wC (by omega) ?_ | refine wD (by omega) ?_ | refine wE ?_ ?_ | refine wF ?_ ?_ | refine wG ?_ ?_ | refine wH ?_ ?_ | refine wI ?_ ?_ | refine wJ ?_ ?_ | refine wK ?_ ?_ | refine wL ?_ ?_) <;> intro _) | simp (maxSteps := 1000000) (disch := omega) only [go_sem, Nat.reduceAdd, Nat.reduceMul, Nat.reduceSub, Nat.reduceLeDiff, Nat.reduceEqDiff, Nat.reduceBEq, ↓reduceIte, reduceCtorEq, Int.reduceEq, Int.reduceLE, Int.reduceLT, Int.reduceAdd, Int.reduceSub, Int.reduceNeg, Int.reduceToNat, Int.reduceNe, Nat.reducePow, Nat.reduceShiftRight, Nat.reduceMod, *])
    refine fin_ret (r0 := .tup [.sc (.int .i64 0), .sc (.int .i64 0)]) 0 cE2 ?_
    exact .of_eq rfl
end
section
set_option maxRecDepth 20000
attribute [local go_sem] Nat.add_assoc id_ne id_ne' id_ne2 List.append_assoc bC_len bC_one
theorem rowB_flatR (l : List UInt8) : (l.map fun c => [PV.sc (.int .u8 c.toNat)]).flatten = bC l := by
  induction l with
  | nil => rfl
  | cons x r ih => simp only [List.map_cons, List.flatten_cons, List.cons_append, List.nil_append, bC] at ih ⊢; rw [ih]
attribute [local go_sem] rowB_flatR
set_option maxHeartbeats 4000000 in
theorem sCloneB_p (l : List UInt8) (hl : l.length ≤ 2 ^ 40) : PPure Try.prog F.slices_Clone_byte_byte [rowB l] (rowB l) := by
  refine pure_by is_slices_Clone_byte_byte (by simp) (rowB_imm _) fun hb nx => ?_
  clear hb
  repeat' (first | ((with_reducible first | refine wA (by omega) ?_ | refine wB (by omega) ?_ | refine wC (by omega) ?_ | refine wD (by omega) ?_ | refine wE ?_ ?_ | refine wF ?_ ?_ | refine wG ?_ ?_ | refine wH ?_ ?_ | refine wI ?_ ?_ | refine wJ ?_ ?_ | refine wK ?_ ?_ | refine wL ?_ ?_) <;> intro _) | simp (maxSteps := 1000000) (disch := omega) only [go_sem, seval, mc_slices_Clone_byte_byte, *])
  refine o_slnil rfl rfl Try.underlying36 (n := l.length) (by simp [slN, ev, upd, rowB]) fun t ht => ?_
  cases t with
  | true =>
    obtain rfl : l = [] := List.eq_nil_of_length_eq_zero (ht rfl)
    clear ht
    repeat' (first | ((with_reducible first | refine wA (by omega) ?_ | refine wB (by omega) ?_ | refine wC (by omega) ?_ | refine wD (by omega) ?_ | refine wE ?_ ?_ | refine wF ?_ ?_ | refine wG ?_ ?_ | refine wH ?_ ?_ | refine wI ?_ ?_ | refine wJ ?_ ?_ | refine wK ?_ ?_ | refine wL ?_ ?_) <;> intro _) | simp (maxSteps := 1000000) (disch := omega) only [go_sem, seval, *])
    refine fin_ret (r0 := .sc (.slice none 0 0)) 0 cE2 ?_
    exact .nil 1
  | false =>
    clear ht
    have b1 : l.length ≤ 140737488355328 := by omega
    have b2 : l.length ≤ 4611686018427387904 := by omega
    repeat' (first | ((with_reducible first | refine wA (by omega) ?_ | refine wB (by omega) ?_ | refine wC (by omega) ?_ | refine wD (by omega) ?_ | refine wE ?_ ?_ | refine wF ?_ ?_ | refine wG ?_ ?_ | refine wH ?_ ?_ | refine wI ?_ ?_ | refine wJ ?_ ?_ | refine wK ?_ ?_ | refine wL ?_ ?_) <;> intro _) | simp (maxSteps := 1000000) (disch := omega) only [go_sem, seval, rowB, *])
    refine fin_ret (r0 := .osl (nx + 5) 0 l.length 1) 1 cE2 ?_
    exact .of_eq (pk_frz (w := false) (by simp [upd]))
set_option maxHeartbeats 4000000 in
theorem bCloneB_p (l : List UInt8) (hl : l.length ≤ 2 ^ 40) : PPure Try.prog F.bytes_Clone [rowB l] (rowB l) := by
  refine pure_by is_bytes_Clone (by simp) (rowB_imm _) fun hb nx => ?_
  clear hb
  repeat' (first | ((with_reducible first | refine wA (by omega) ?_ | refine wB (by omega) ?_ | refine wC (by omega) ?_ | refine wD (by omega) ?_ | refine wE ?_ ?_ | refine wF ?_ ?_ | refine wG ?_ ?_ | refine wH ?_ ?_ | refine wI ?_ ?_ | refine wJ ?_ ?_ | refine wK ?_ ?_ | refine wL ?_ ?_) <;> intro _) | simp (maxSteps := 1000000) (disch := omega) only [go_sem, seval, mc_bytes_Clone, *])
  refine o_slnil rfl rfl Try.underlying36 (n := l.length) (by simp [slN, ev, upd, rowB]) fun t ht => ?_
  cases t with
  | true =>
    obtain rfl : l = [] := List.eq_nil_of_length_eq_zero (ht rfl)
    clear ht
    repeat' (first | ((with_reducible first | refine wA (by omega) ?_ | refine wB (by omega) ?_ | refine wC (by omega) ?_ | refine wD (by omega) ?_ | refine wE ?_ ?_ | refine wF ?_ ?_ | refine wG ?_ ?_ | refine wH ?_ ?_ | refine wI ?_ ?_ | refine wJ ?_ ?_ | refine wK ?_ ?_ | refine wL ?_ ?_) <;> intro _) | simp (maxSteps := 1000000) (disch := omega) only [go_sem, seval, *])
    refine fin_ret (r0 := .sc (.slice none 0 0)) 0 cE2 ?_
    exact .nil 1
  | false =>
    clear ht
    have b1 : l.length ≤ 140737488355328 := by omega
    have b2 : l.length ≤ 4611686018427387904 := by omega
    repeat' (first | ((with_reducible first | refine wA (by omega) ?_ | refine wB (by omega) ?_ | refine wC (by omega) ?_ | refine wD (by omega) ?_ | refine wE ?_ ?_ | refine wF ?_ ?_ | refine wG ?_ ?_ | refine wH ?_ ?_ | refine wI ?_ ?_ | refine wJ ?_ ?_ | refine wK ?_ ?_ | refine wL ?_ ?_) <;> intro _) | simp (maxSteps := 1000000) (disch := omega) only [go_sem, seval, rowB, *])
    refine fin_ret (r0 := .osl (nx + 5) 0 l.length 1) 1 cE2 ?_
    exact .of_eq (pk_frz (w := false) (by simp [upd]))
theorem slc_back (ki : Int) (k : Nat) (l : List UInt8) (hk : ki = k) (h : k ≤ l.length) : slcI 1 false ki l.length none (.sl 1 (l.map fun c => [PV.sc (.int .u8 c.toNat)])) = some (.sl 1 ((l.drop k).map fun c => [PV.sc (.int .u8 c.toNat)])) := by
  subst hk
  rw [slc_map (by omega) (by omega) (by omega)]
  congr 2
  rw [Int.toNat_natCast, List.take_of_length_le (by rw [List.length_drop]; omega)]
def numV (l : List UInt8) : PV := if (Plain.tk l).2 = 0 then .tup [.sc (.int .i64 0), .sc (.slice none 0 0), .sc (.bool false)] else .tup [.sc (.int .i64 ((Plain.tk l).1 : Nat)), rowB (l.drop (Plain.tk l).2), .sc (.bool true)]
set_option maxHeartbeats 4000000 in
theorem Num_p (l : List UInt8) (hl : l.length ≤ 2 ^ 40) : PPure Try.prog F.wire_Num [rowB l] (numV l) := by
  unfold numV
  have c1 := takeNum_p l
  have hr := Plain.tk_read l
  by_cases h0 : (Plain.tk l).2 = 0
  · rw [if_pos h0]
    rw [h0] at c1
    clear hr h0
    refine pure_by is_wire_Num (by simp) rfl fun hb nx => ?_
    clear hb
    repeat' (first | ((with_reducible first | refine wA (by omega) ?_ | refine wB (by omega) ?_ | refine wC (by omega) ?_ | refine wD (by omega) ?_ | refine wE ?_ ?_ | refine wF ?_ ?_ | refine wG ?_ ?_ | refine wH ?_ ?_ | refine wI ?_ ?_ | refine wJ ?_ ?_ | refine wK ?_ ?_ | refine wL ?_ ?_) <;> intro _) | (((with_reducible refine call_id ?_); (first | (refine call_pure (c1) ?_)))) | simp (maxSteps := 1000000) (disch := omega) only [go_sem, seval, mc_wire_Num, *])
    refine fin_ret (r0 := .tup [.sc (.int .i64 0), .sc (.slice none 0 0), .sc (.bool false)]) 0 cE2 ?_
    exact .of_eq rfl
  · rw [if_neg h0]
    obtain ⟨h1, h2, h3, h4⟩ := hr h0
    refine pure_by is_wire_Num (by simp) (by show (immL [PV.sc _, rowB _, PV.sc _]) = true; simp [immL, rowB_imm, PV.imm]) fun hb nx => ?_
    clear hb h2 h3 hr
    generalize hn : (Plain.tk l).1 = n at *
    generalize hk : (Plain.tk l).2 = k at *
    clear hn hk
    have c2 := sCloneB_p (l.drop k) (by rw [List.length_drop]; omega)
    have c3 := slc_back k k l rfl h4
    repeat' (first | ((with_reducible first | refine wA (by omega) ?_ | refine wB (by omega) ?_ | refine wC (by omega) ?_ | refine wD (by omega) ?_ | refine wE ?_ ?_ | refine wF ?_ ?_ | refine wG ?_ ?_ | refine wH ?_ ?_ | refine wI ?_ ?_ | refine wJ ?_ ?_ | refine wK ?_ ?_ | refine wL ?_ ?_) <;> intro _) | (((with_reducible refine call_id ?_); (first | (refine call_pure (c1) ?_) | (refine call_pure (c2) ?_)))) | simp (maxSteps := 1000000) (disch := omega) only [go_sem, seval, mc_wire_Num, rowB, *])
    refine fin_ret (r0 := .tup [.sc (.int .i64 (n : Nat)), rowB (l.drop k), .sc (.bool true)]) 0 (by (simp (disch := omega) only [go_sem, seval, *, rowB]); all_goals rfl) ?_
    exact .of_eq rfl
theorem numsOf_bC (l : List UInt8) : numsOf (bC l) = some (l.map fun c => (c.toNat : Int)) := by
  induction l with
  | nil => rfl
  | cons x r ih =>
    show (numsOf (bC r)).map _ = _
    rw [ih]
    rfl
def tb0 (s : ByteArray) : List UInt8 := s.data.toList
def strB (l : List UInt8) : ByteArray := ⟨l.toArray⟩
theorem strB_tb (s : ByteArray) : strB (tb0 s) = s := by cases s; simp [strB, tb0]
theorem textOf_map (l : List UInt8) : textOf (l.map fun c => (c.toNat : Int)) = strB l := by
  unfold textOf
  have : ∀ (l : List UInt8) (b : ByteArray), (l.map fun c => (c.toNat : Int)).foldl (fun r n => r.push (UInt8.ofNat n.toNat)) b = ⟨b.data ++ l.toArray⟩ := by
    intro l
    induction l with
    | nil => intro b; simp
    | cons x r ih =>
      intro b
      rw [List.map_cons, List.foldl_cons, ih]
      simp [ByteArray.push]
  rw [this]
  simp [strB, ByteArray.empty, ByteArray.emptyWithCapacity]
  rfl
def txtS (l : List UInt8) : Option (ByteArray × List UInt8) :=
  if (Plain.tk l).2 = 0 ∨ l.length - (Plain.tk l).2 < (Plain.tk l).1 then none
  else some (strB ((l.drop (Plain.tk l).2).take (Plain.tk l).1), l.drop ((Plain.tk l).2 + (Plain.tk l).1))
def txtV (l : List UInt8) : PV := match txtS l with
  | none => .tup [.sc (.string ⟨#[]⟩), rowB [], .sc (.bool false)]
  | some (s, r) => .tup [.sc (.string s), rowB r, .sc (.bool true)]
theorem txtV_imm (l : List UInt8) : (txtV l).imm = true := by
  unfold txtV
  split
  · show (immL [PV.sc _, rowB _, PV.sc _]) = true; simp [immL, rowB_imm, PV.imm]
  · show (immL [PV.sc _, rowB _, PV.sc _]) = true; simp [immL, rowB_imm, PV.imm]
set_option maxHeartbeats 4000000 in
theorem takeText_p (l : List UInt8) (hl : l.length ≤ 2 ^ 40) : PPure Try.prog F.wire_takeText [rowB l] (txtV l) := by
  refine pure_by is_wire_takeText (by simp) (txtV_imm l) fun hb nx => ?_
  clear hb
  unfold txtV txtS
  have c1 := takeNum_p l
  have hr := Plain.tk_read l
  by_cases h0 : (Plain.tk l).2 = 0
  · rw [if_pos (.inl h0)]
    rw [h0] at c1
    clear hr h0
    simp only
    repeat' (first | ((with_reducible first | refine wA (by omega) ?_ | refine wB (by omega) ?_ | refine wC (by omega) ?_ | refine wD (by omega) ?_ | refine wE ?_ ?_ | refine wF ?_ ?_ | refine wG ?_ ?_ | refine wH ?_ ?_ | refine wI ?_ ?_ | refine wJ ?_ ?_ | refine wK ?_ ?_ | refine wL ?_ ?_) <;> intro _) | (((with_reducible refine call_id ?_); (first | (refine call_pure (c1) ?_)))) | simp (maxSteps := 1000000) (disch := omega) only [go_sem, seval, mc_wire_takeText, *])
    refine fin_ret (r0 := .tup [.sc (.string ⟨#[]⟩), .sc (.slice none 0 0), .sc (.bool false)]) 0 cE2 ?_
    exact Weak.tup ⟨.of_eq rfl, .nil 1, .of_eq rfl, trivial⟩
  · obtain ⟨h1, h2, h3, h4⟩ := hr h0
    have h1 : (Plain.tk l).1 ≤ 1099511627776 := h1
    clear h2 h3 hr
    generalize hn : (Plain.tk l).1 = n at *
    generalize hk : (Plain.tk l).2 = k at *
    clear hn hk
    by_cases h5 : l.length - k < n
    · rw [if_pos (.inr h5)]
      simp only
      repeat' (first | ((with_reducible first | refine wA (by omega) ?_ | refine wB (by omega) ?_ | refine wC (by omega) ?_ | refine wD (by omega) ?_ | refine wE ?_ ?_ | refine wF ?_ ?_ | refine wG ?_ ?_ | refine wH ?_ ?_ | refine wI ?_ ?_ | refine wJ ?_ ?_ | refine wK ?_ ?_ | refine wL ?_ ?_) <;> intro _) | (((with_reducible refine call_id ?_); (first | (refine call_pure (c1) ?_)))) | simp (maxSteps := 1000000) (disch := omega) only [go_sem, seval, mc_wire_takeText, rowB, *])
      refine fin_ret (r0 := .tup [.sc (.string ⟨#[]⟩), .sc (.slice none 0 0), .sc (.bool false)]) 0 cE2 ?_
      exact Weak.tup ⟨.of_eq rfl, .nil 1, .of_eq rfl, trivial⟩
    · rw [if_neg (by omega)]
      simp only
      have h6 : k + n ≤ l.length := by omega
      have h7 : IntKind.i64.wrap ((k : Int) + (n : Int)) = ((k + n : Nat) : Int) := by rw [IntKind.wrap_i64]; omega
      have c3 := slc_back ((k + n : Nat) : Int) (k + n) l rfl h6
      have c4 : slcI 1 false (k : Int) ((k + n : Nat) : Int) none (.sl 1 (l.map fun c => [PV.sc (.int .u8 c.toNat)])) = some (.sl 1 (((l.drop k).take n).map fun c => [PV.sc (.int .u8 c.toNat)])) := by
        rw [slc_map (by omega) (by omega) (by omega)]
        congr 2
        rw [Int.toNat_natCast, show (((k + n : Nat) : Int) - (k : Int)).toNat = n by omega]
      repeat' (first | ((with_reducible first | refine wA (by omega) ?_ | refine wB (by omega) ?_ | refine wC (by omega) ?_ | refine wD (by omega) ?_ | refine wE ?_ ?_ | refine wF ?_ ?_ | refine wG ?_ ?_ | refine wH ?_ ?_ | refine wI ?_ ?_ | refine wJ ?_ ?_ | refine wK ?_ ?_ | refine wL ?_ ?_) <;> intro _) | (((with_reducible refine call_id ?_); (first | (refine call_pure (c1) ?_)))) | simp (maxSteps := 1000000) (disch := omega) only [go_sem, seval, mc_wire_takeText, rowB, numsOf_bC, textOf_map, *])
      refine fin_ret (r0 := .tup [.sc (.string (strB ((l.drop k).take n))), rowB (l.drop (k + n)), .sc (.bool true)]) 0 (by (simp (disch := omega) only [go_sem, seval, *, rowB]); all_goals rfl) ?_
      exact .of_eq rfl
set_option maxHeartbeats 4000000 in
theorem wText_p (l : List UInt8) (hl : l.length ≤ 2 ^ 40) : PPure Try.prog F.wire_Text [rowB l] (txtV l) := by
  refine pure_by is_wire_Text (by simp) (txtV_imm l) fun hb nx => ?_
  clear hb
  have c1 := takeText_p l hl
  unfold txtV at c1 ⊢
  cases ht : txtS l with
  | none =>
    rw [ht] at c1
    clear ht
    simp only at c1 ⊢
    have c2 := sCloneB_p [] (Nat.zero_le _)
    repeat' (first | ((with_reducible first | refine wA (by omega) ?_ | refine wB (by omega) ?_ | refine wC (by omega) ?_ | refine wD (by omega) ?_ | refine wE ?_ ?_ | refine wF ?_ ?_ | refine wG ?_ ?_ | refine wH ?_ ?_ | refine wI ?_ ?_ | refine wJ ?_ ?_ | refine wK ?_ ?_ | refine wL ?_ ?_) <;> intro _) | (((with_reducible refine call_id ?_); (first | (refine call_pure (c1) ?_) | (refine call_pure (c2) ?_)))) | simp (maxSteps := 1000000) (disch := omega) only [go_sem, seval, mc_wire_Text, rowB, *])
    refine fin_ret (r0 := .tup [.sc (.string ⟨#[]⟩), rowB [], .sc (.bool false)]) 0 (by (simp (disch := omega) only [go_sem, seval, *, rowB]); all_goals rfl) ?_
    exact .of_eq rfl
  | some q =>
    obtain ⟨S, L⟩ := q
    have hL : L.length ≤ l.length := by
      unfold txtS at ht
      split at ht
      · cases ht
      · simp only [Option.some.injEq, Prod.mk.injEq] at ht
        rw [← ht.2, List.length_drop]; omega
    rw [ht] at c1
    clear ht
    simp only at c1 ⊢
    have c2 := sCloneB_p L (by omega)
    repeat' (first | ((with_reducible first | refine wA (by omega) ?_ | refine wB (by omega) ?_ | refine wC (by omega) ?_ | refine wD (by omega) ?_ | refine wE ?_ ?_ | refine wF ?_ ?_ | refine wG ?_ ?_ | refine wH ?_ ?_ | refine wI ?_ ?_ | refine wJ ?_ ?_ | refine wK ?_ ?_ | refine wL ?_ ?_) <;> intro _) | (((with_reducible refine call_id ?_); (first | (refine call_pure (c1) ?_) | (refine call_pure (c2) ?_)))) | simp (maxSteps := 1000000) (disch := omega) only [go_sem, seval, mc_wire_Text, rowB, *])
    refine fin_ret (r0 := .tup [.sc (.string S), rowB L, .sc (.bool true)]) 0 (by (simp (disch := omega) only [go_sem, seval, *, rowB]); all_goals rfl) ?_
    exact .of_eq rfl
end
section
set_option maxRecDepth 20000
attribute [local go_sem] Nat.add_assoc id_ne id_ne' id_ne2 List.append_assoc bC_len bC_one rowB_flatR
theorem raw_take : ∀ (f : Nat) (l : List UInt8), Plain.raw f (l.take f) = Plain.raw f l
  | 0, l => by simp [Plain.raw]
  | f + 1, [] => by simp
  | f + 1, c :: l => by simp only [List.take_succ_cons, Plain.raw, raw_take f l]
theorem tk_take (l : List UInt8) : Plain.tk (l.take 6) = Plain.tk l := by unfold Plain.tk; rw [raw_take]
structure RS where
  l : List UInt8
  nodes : Int
  bad : Bool
def rdC (s : RS) : List PV := [rowB s.l, .sc (.int .i64 s.nodes), .sc (.bool s.bad)]
def numF (s : RS) : Nat × RS := if (Plain.tk s.l).2 = 0 then (0, ⟨s.l.drop 6, s.nodes, true⟩) else ((Plain.tk s.l).1, ⟨s.l.drop (Plain.tk s.l).2, s.nodes, s.bad⟩)
def nameF (s : RS) : ByteArray × RS := match txtS (s.l.take 46) with
  | none => (⟨#[]⟩, ⟨s.l.drop 46, s.nodes, true⟩)
  | some (t, r) => (t, ⟨s.l.drop ((s.l.take 46).length - r.length), s.nodes, s.bad⟩)
def roomF (s : RS) : RS := ⟨s.l, IntKind.i64.wrap (s.nodes + 1), s.bad || decide (2000 < IntKind.i64.wrap (s.nodes + 1))⟩
def RdQ (H : Nat → Option PObj) (nx rid : Nat) (w : Bool) (s : RS) (x : PV) (H' : Nat → Option PObj) (nx' : Nat) (r : PV) : Prop :=
  nx ≤ nx' ∧ r = x ∧ H' rid = some ⟨rdC s, w⟩ ∧ ∀ j, j < nx → j ≠ rid → H' j = H j
theorem numF_len (s : RS) : (numF s).2.l.length ≤ s.l.length := by
  unfold numF
  split <;> simp only [List.length_drop] <;> omega
theorem nameF_len (s : RS) : (nameF s).2.l.length ≤ s.l.length := by
  unfold nameF
  split <;> simp only [List.length_drop] <;> omega
set_option maxHeartbeats 8000000 in
theorem number_m (s : RS) (hl : s.l.length ≤ 2 ^ 40) (rid : Nat) (w : Bool) (H : Nat → Option PObj) (nx : Nat) (hr : rid < nx) (hH : H rid = some ⟨rdC s, w⟩) :
    PMut Try.prog F.pack_reader_number [.optr rid 0] H nx (RdQ H nx rid w (numF s).2 (.sc (.int .i64 ((numF s).1 : Nat)))) := by
  obtain ⟨l, nodes, bad⟩ := s
  refine mut_by is_pack_reader_number (by simp) fun hb => ?_
  clear hb
  simp only [rdC, rowB] at hH hl
  have c0 := slc_front 6 6 rfl l
  have ht : (l.take 6).length = min 6 l.length := List.length_take
  have c1 := Num_p (l.take 6) (by omega)
  unfold numV at c1
  rw [tk_take] at c1
  have hrd := Plain.tk_read l
  have hrd2 := Plain.tk_read (l.take 6)
  rw [tk_take] at hrd2
  unfold numF
  simp only
  by_cases h0 : (Plain.tk l).2 = 0
  · rw [if_pos h0] at c1 ⊢
    have c2 : slcI 1 false (((min 6 l.length : Nat) : Int) - 0) l.length none (.sl 1 (l.map fun c => [PV.sc (.int .u8 c.toNat)])) = some (.sl 1 ((l.drop 6).map fun c => [PV.sc (.int .u8 c.toNat)])) := by
      have := slc_back (((min 6 l.length : Nat) : Int) - 0) (min 6 l.length) l (by omega) (Nat.min_le_right _ _)
      rw [this]
      by_cases h6 : 6 ≤ l.length
      · rw [Nat.min_eq_left h6]
      · rw [Nat.min_eq_right (by omega), List.drop_eq_nil_of_le (Nat.le_refl _), List.drop_eq_nil_of_le (by omega)]
    clear hrd hrd2 h0
    cases bad
    all_goals
      repeat' (first | ((with_reducible first | refine wA (by omega) ?_ | refine wB (by omega) ?_ | refine wC (by omega) ?_ | refine wD (by omega) ?_ | refine wE ?_ ?_ | refine wF ?_ ?_ | refine wG ?_ ?_ | refine wH ?_ ?_ | refine wI ?_ ?_ | refine wJ ?_ ?_ | refine wK ?_ ?_ | refine wL ?_ ?_) <;> intro _) | (((with_reducible refine call_id ?_); (first | (refine call_pure (c1) ?_)))) | simp (maxSteps := 1000000) (disch := omega) only [go_sem, seval, mc_pack_reader_number, rowB, *])
      refine fin_mut (.sc (.int .i64 0)) (.inr rfl) cE2 ⟨cE1, rfl, ?_, fun j g1 g2 => ?_⟩
      · simp [upd, rdC, rowB]
      · simp [upd, g2]
  · rw [if_neg h0] at c1 ⊢
    obtain ⟨-, -, -, h4⟩ := hrd h0
    obtain ⟨-, -, -, h5⟩ := hrd2 h0
    clear hrd hrd2 h0
    generalize (Plain.tk l).1 = n at *
    generalize (Plain.tk l).2 = k at *
    have ht2 : ((l.take 6).drop k).length = min 6 l.length - k := by rw [List.length_drop, ht]
    rw [ht] at h5
    have c2 : slcI 1 false (((min 6 l.length : Nat) : Int) - ((min 6 l.length - k : Nat) : Int)) l.length none (.sl 1 (l.map fun c => [PV.sc (.int .u8 c.toNat)])) = some (.sl 1 ((l.drop k).map fun c => [PV.sc (.int .u8 c.toNat)])) := slc_back _ k l (by omega) h4
    cases bad
    all_goals
      repeat' (first | ((with_reducible first | refine wA (by omega) ?_ | refine wB (by omega) ?_ | refine wC (by omega) ?_ | refine wD (by omega) ?_ | refine wE ?_ ?_ | refine wF ?_ ?_ | refine wG ?_ ?_ | refine wH ?_ ?_ | refine wI ?_ ?_ | refine wJ ?_ ?_ | refine wK ?_ ?_ | refine wL ?_ ?_) <;> intro _) | (((with_reducible refine call_id ?_); (first | (refine call_pure (c1) ?_)))) | simp (maxSteps := 1000000) (disch := omega) only [go_sem, seval, mc_pack_reader_number, rowB, *])
      refine fin_mut (.sc (.int .i64 (n : Nat))) (.inr rfl) cE2 ⟨cE1, rfl, ?_, fun j g1 g2 => ?_⟩
      · simp [upd, rdC, rowB]
      · simp [upd, g2]
theorem room_m (s : RS) (rid : Nat) (w : Bool) (H : Nat → Option PObj) (nx : Nat) (hr : rid < nx) (hH : H rid = some ⟨rdC s, w⟩) :
    PMut Try.prog F.pack_reader_room [.optr rid 0] H nx (RdQ H nx rid w (roomF s) (.sc (.bool (!(roomF s).bad)))) := by
  obtain ⟨l, nodes, bad⟩ := s
  refine mut_by is_pack_reader_room (by simp) fun hb => ?_
  clear hb
  simp only [rdC] at hH
  unfold roomF
  simp only
  generalize hn : IntKind.i64.wrap (nodes + 1) = n
  cases bad
  · by_cases h : 2000 < n
    · repeat' (first | ((with_reducible first | refine wA (by omega) ?_ | refine wB (by omega) ?_ | refine wC (by omega) ?_ | refine wD (by omega) ?_ | refine wE ?_ ?_ | refine wF ?_ ?_ | refine wG ?_ ?_ | refine wH ?_ ?_ | refine wI ?_ ?_ | refine wJ ?_ ?_ | refine wK ?_ ?_ | refine wL ?_ ?_) <;> intro _) | simp (maxSteps := 1000000) (disch := omega) only [go_sem, seval, mc_pack_reader_room, *])
      refine fin_mut (.sc (.bool false)) (.inr rfl) cE2 ⟨cE1, cE1, ?_, fun j g1 g2 => ?_⟩
      · simp [upd, rdC, h]
      · simp [upd, g2]
    · repeat' (first | ((with_reducible first | refine wA (by omega) ?_ | refine wB (by omega) ?_ | refine wC (by omega) ?_ | refine wD (by omega) ?_ | refine wE ?_ ?_ | refine wF ?_ ?_ | refine wG ?_ ?_ | refine wH ?_ ?_ | refine wI ?_ ?_ | refine wJ ?_ ?_ | refine wK ?_ ?_ | refine wL ?_ ?_) <;> intro _) | simp (maxSteps := 1000000) (disch := omega) only [go_sem, seval, mc_pack_reader_room, *])
      refine fin_mut (.sc (.bool true)) (.inr rfl) cE2 ⟨cE1, cE1, ?_, fun j g1 g2 => ?_⟩
      · simp [upd, rdC, h]
      · simp [upd, g2]
  · repeat' (first | ((with_reducible first | refine wA (by omega) ?_ | refine wB (by omega) ?_ | refine wC (by omega) ?_ | refine wD (by omega) ?_ | refine wE ?_ ?_ | refine wF ?_ ?_ | refine wG ?_ ?_ | refine wH ?_ ?_ | refine wI ?_ ?_ | refine wJ ?_ ?_ | refine wK ?_ ?_ | refine wL ?_ ?_) <;> intro _) | simp (maxSteps := 1000000) (disch := omega) only [go_sem, seval, mc_pack_reader_room, *])
    refine fin_mut (.sc (.bool false)) (.inr rfl) cE2 ⟨cE1, cE1, ?_, fun j g1 g2 => ?_⟩
    · simp [upd, rdC]
    · simp [upd, g2]
set_option maxHeartbeats 8000000 in
theorem name_m (s : RS) (hl : s.l.length ≤ 2 ^ 40) (rid : Nat) (w : Bool) (H : Nat → Option PObj) (nx : Nat) (hr : rid < nx) (hH : H rid = some ⟨rdC s, w⟩) :
    PMut Try.prog F.pack_reader_name [.optr rid 0] H nx (RdQ H nx rid w (nameF s).2 (.sc (.string (nameF s).1))) := by
  obtain ⟨l, nodes, bad⟩ := s
  refine mut_by is_pack_reader_name (by simp) fun hb => ?_
  clear hb
  simp only [rdC, rowB] at hH hl
  have c0 := slc_front 46 46 rfl l
  have ht : (l.take 46).length = min 46 l.length := List.length_take
  have c1 := wText_p (l.take 46) (by omega)
  unfold txtV at c1
  unfold nameF
  simp only
  cases hx : txtS (l.take 46) with
  | none =>
    rw [hx] at c1
    simp only at c1 ⊢
    have c2 : slcI 1 false (((min 46 l.length : Nat) : Int) - 0) l.length none (.sl 1 (l.map fun c => [PV.sc (.int .u8 c.toNat)])) = some (.sl 1 ((l.drop 46).map fun c => [PV.sc (.int .u8 c.toNat)])) := by
      have := slc_back (((min 46 l.length : Nat) : Int) - 0) (min 46 l.length) l (by omega) (Nat.min_le_right _ _)
      rw [this]
      by_cases h6 : 46 ≤ l.length
      · rw [Nat.min_eq_left h6]
      · rw [Nat.min_eq_right (by omega), List.drop_eq_nil_of_le (Nat.le_refl _), List.drop_eq_nil_of_le (by omega)]
    clear hx
    cases bad
    all_goals
      repeat' (first | ((with_reducible first | refine wA (by omega) ?_ | refine wB (by omega) ?_ | refine wC (by omega) ?_ | refine wD (by omega) ?_ | refine wE ?_ ?_ | refine wF ?_ ?_ | refine wG ?_ ?_ | refine wH ?_ ?_ | refine wI ?_ ?_ | refine wJ ?_ ?_ | refine wK ?_ ?_ | refine wL ?_ ?_) <;> intro _) | (((with_reducible refine call_id ?_); (first | (refine call_pure (c1) ?_)))) | simp (maxSteps := 1000000) (disch := omega) only [go_sem, seval, mc_pack_reader_name, rowB, *])
      refine fin_mut (.sc (.string ⟨#[]⟩)) (.inr rfl) cE2 ⟨cE1, rfl, ?_, fun j g1 g2 => ?_⟩
      · simp [upd, rdC, rowB]
      · simp [upd, g2]
  | some q =>
    obtain ⟨t, L⟩ := q
    have hL : L.length ≤ (l.take 46).length := by
      unfold txtS at hx
      split at hx
      · cases hx
      · simp only [Option.some.injEq, Prod.mk.injEq] at hx
        rw [← hx.2, List.length_drop]; omega
    rw [hx] at c1
    simp only at c1 ⊢
    rw [ht] at hL ⊢
    have c2 : slcI 1 false (((min 46 l.length : Nat) : Int) - ((L.length : Nat) : Int)) l.length none (.sl 1 (l.map fun c => [PV.sc (.int .u8 c.toNat)])) = some (.sl 1 ((l.drop (min 46 l.length - L.length)).map fun c => [PV.sc (.int .u8 c.toNat)])) := slc_back _ _ l (by omega) (by omega)
    clear hx
    cases bad
    all_goals
      repeat' (first | ((with_reducible first | refine wA (by omega) ?_ | refine wB (by omega) ?_ | refine wC (by omega) ?_ | refine wD (by omega) ?_ | refine wE ?_ ?_ | refine wF ?_ ?_ | refine wG ?_ ?_ | refine wH ?_ ?_ | refine wI ?_ ?_ | refine wJ ?_ ?_ | refine wK ?_ ?_ | refine wL ?_ ?_) <;> intro _) | (((with_reducible refine call_id ?_); (first | (refine call_pure (c1) ?_)))) | simp (maxSteps := 1000000) (disch := omega) only [go_sem, seval, mc_pack_reader_name, rowB, *])
      refine fin_mut (.sc (.string t)) (.inr rfl) cE2 ⟨cE1, rfl, ?_, fun j g1 g2 => ?_⟩
      · simp [upd, rdC, rowB]
      · simp [upd, g2]
end
section
set_option maxRecDepth 20000
attribute [local go_sem] pv_len pv_take Nat.add_assoc tm_len tm_take pv_one tm_one tpvB_len tpvB_take tpvB_one pvB_len pvB_take pvB_one id_ne id_ne' id_ne2 List.append_assoc
mutual
def Tm.lift (by_ : Int) : Int → Tm → Tm
  | frm, .mk k n s ls args => .mk k (if k = 1 ∧ frm ≤ n then n + by_ else n) s ls (liftA by_ frm k args.length 0 args)
def liftA (by_ : Int) : Int → Int → Nat → Nat → List Tm → List Tm
  | _, _, _, _, [] => []
  | frm, kind, len, i, x :: r => x.lift by_ (frm + deepB kind len i) :: liftA by_ frm kind len (i + 1) r
end
end
section
set_option maxRecDepth 20000
attribute [local go_sem] pv_len pv_take Nat.add_assoc tm_len tm_take pv_one tm_one tpvB_len tpvB_take tpvB_one pvB_len pvB_take pvB_one id_ne id_ne' id_ne2 List.append_assoc
theorem frgF_sc (G : Nat → Bool) (k : Nat) (H : Nat → Option PObj) (v : Value) : frgF G k H (.sc v) = .sc v := by cases k <;> rfl
theorem frgF_imm (G : Nat → Bool) (H : Nat → Option PObj) : ∀ (k : Nat) (x : PV), x.imm = true → frgF G k H x = x := by
  intro k
  induction k with
  | zero => intro x _; rfl
  | succ k ih =>
    have hl : ∀ xs : List PV, immL xs = true → xs.map (frgF G k H) = xs := by
      intro xs
      induction xs with
      | nil => intro _; rfl
      | cons x r ihr =>
        intro h
        simp only [immL, Bool.and_eq_true] at h
        rw [List.map_cons, ih x h.1, ihr h.2]
    intro x hx
    cases x with
    | agg xs => simp only [PV.imm] at hx; simp only [frgF, hl xs hx]
    | tup xs => simp only [PV.imm] at hx; simp only [frgF, hl xs hx]
    | fn f xs => simp only [PV.imm] at hx; simp only [frgF, hl xs hx]
    | optr id off => simp [PV.imm] at hx
    | osl id off len sz => simp [PV.imm] at hx
    | _ => rfl
theorem frgF_immL (G : Nat → Bool) (H : Nat → Option PObj) (k : Nat) : ∀ xs : List PV, immL xs = true → xs.map (frgF G k H) = xs
  | [], _ => rfl
  | x :: r, h => by
    simp only [immL, Bool.and_eq_true] at h
    rw [List.map_cons, frgF_imm G H k x h.1, frgF_immL G H k r h.2]
mutual
theorem OwnT.frg {H : Nat → Option PObj} {G : Nat → Bool} : ∀ (t : Tm) (lo m : Nat) (cs : List PV), OwnT H lo m cs t → (∀ j, lo ≤ j → j < m → G j = true) → ∀ k, t.size ≤ k → WeakL (cs.map (frgF G k H)) (t.pvB true)
  | .mk kind n s ls args, lo, m, cs, h, hG, k, hk => by
    simp only [OwnT] at h
    obtain ⟨a, b, rfl, ha, hb⟩ := h
    simp only [Tm.size] at hk
    obtain ⟨k, rfl⟩ : ∃ k', k = k' + 1 := ⟨k - 1, by omega⟩
    rw [Tm.pvB]
    simp only [List.map_cons, List.map_nil]
    refine ⟨.of_eq (frgF_sc _ _ _ _), .of_eq (frgF_sc _ _ _ _), .of_eq (frgF_sc _ _ _ _), ?_, ?_, trivial⟩
    · rcases ha with ⟨rfl, rfl⟩ | rfl
      · exact .trans (.of_eq (frgF_sc _ _ _ _)) (Weak.nilF 3)
      · exact .refl _
    · rcases hb with ⟨rfl, rfl⟩ | ⟨id, cells, w, h1, h2, rfl, h4, h5⟩
      · exact .trans (.of_eq (frgF_sc _ _ _ _)) (Weak.nilF 5)
      · have hl := OwnTs.len args cells h5
        have hw := OwnTs.frg args (id + 1) m cells h5 (fun j a b => hG j (by omega) b) k (by omega)
        simp only [frgF, hG id h1 h2, if_true, h4, List.drop_zero]
        rw [if_pos (by omega), List.take_of_length_le (by omega)]
        refine Weak.fslW (by rw [chunks_length, List.length_map]) (fun e he => ?_) ?_
        · obtain ⟨t, _, rfl⟩ := List.mem_map.1 he
          exact tpvB_len true t
        · rw [chunks_flatten 5 args.length _ (by rw [List.length_map, hl])]
          exact hw
theorem OwnTs.frg {H : Nat → Option PObj} {G : Nat → Bool} : ∀ (ts : List Tm) (lo m : Nat) (cs : List PV), OwnTs H lo m cs ts → (∀ j, lo ≤ j → j < m → G j = true) → ∀ k, sizeL ts ≤ k → WeakL (cs.map (frgF G k H)) (ts.map (Tm.pvB true)).flatten
  | [], _, _, cs, h, _, _, _ => by
    simp only [OwnTs] at h
    subst h
    trivial
  | t :: r, lo, m, cs, h, hG, k, hk => by
    simp only [OwnTs] at h
    obtain ⟨c, cr, mid, rfl, g1, g2, h1, h2⟩ := h
    simp only [sizeL] at hk
    simp only [List.map_append, List.map_cons, List.flatten_cons]
    exact (OwnT.frg t lo mid c h1 (fun j a b => hG j a (by omega)) k (by omega)).append (OwnTs.frg r mid m cr h2 (fun j a b => hG j (by omega) b) k (by omega))
end
theorem OwnW.frg {H : Nat → Option PObj} {G : Nat → Bool} {lo m : Nat} (hG : ∀ j, lo ≤ j → j < m → G j = true) : ∀ (ts : List Tm) (cs : List PV), OwnW H lo m cs ts → ∀ k, sizeL ts ≤ k → WeakL (cs.map (frgF G k H)) (ts.map (Tm.pvB true)).flatten
  | [], cs, h, _, _ => by cases h; trivial
  | t :: r, cs, ⟨c, cr, e, h1, h2⟩, k, hk => by
    subst e
    simp only [sizeL] at hk
    simp only [List.map_append, List.map_cons, List.flatten_cons]
    exact (OwnT.frg t _ _ c h1 hG k (by omega)).append (OwnW.frg hG r cr h2 k (by omega))
theorem WeakL.trans : ∀ {xs ys zs : List PV}, WeakL xs ys → WeakL ys zs → WeakL xs zs
  | [], [], [], _, _ => trivial
  | _ :: _, _ :: _, _ :: _, h, k => ⟨h.1.trans k.1, WeakL.trans h.2 k.2⟩
  | [], _ :: _, _, h, _ => h.elim
  | _ :: _, [], _, h, _ => h.elim
  | [], [], _ :: _, _, k => k.elim
  | _ :: _, _ :: _, [], _, k => k.elim
theorem isIt_len {o : PObj} (h : o.cells.length ≠ 1) : o.isIt = false := by
  unfold PObj.isIt
  split
  · rename_i e; rw [e] at h; simp at h
  · rename_i e; rw [e] at h; simp at h
  · rfl
end
section
set_option maxRecDepth 20000
attribute [local go_sem] pv_len pv_take Nat.add_assoc tm_len tm_take pv_one tm_one tpvB_len tpvB_take tpvB_one pvB_len pvB_take pvB_one id_ne id_ne' id_ne2 List.append_assoc
theorem RowAt.low {H H' : Nat → Option PObj} {lo lo' m m' sz : Nat} {a : PV} {cells : List PV} {n : Nat} (h : RowAt H lo m sz a cells n) (hl : lo' ≤ lo) (hm : m ≤ m') (hH : ∀ id, lo < id → id < m → H' id = H id) : RowAt H' lo' m' sz a cells n := by
  rcases h with h | ⟨id, h1, h2, h3, h4⟩
  · exact .inl h
  · exact .inr ⟨id, by omega, by omega, h3, by rw [hH id h1 h2, h4]⟩
end
section
set_option maxRecDepth 20000
attribute [local go_sem] pv_len pv_take Nat.add_assoc tm_len tm_take pv_one tm_one tpvB_len tpvB_take tpvB_one pvB_len pvB_take pvB_one id_ne id_ne' id_ne2 List.append_assoc
theorem RowAt.one {H : Nat → Option PObj} {lo m sz : Nat} {a : PV} {cells : List PV} {n : Nat} (h : RowAt H lo m sz a cells n) : PV.one a = true := by
  rcases h with ⟨_, rfl⟩ | ⟨_, _, _, rfl, _⟩ <;> rfl
end
section
attribute [local go_sem] pv_len pv_take id_ne id_ne' id_ne2 rounds_next Nat.add_assoc pv_one
def p0 : Lv := .mk 2 0 []
def p1 : Lv := .mk 2 1 []
theorem PPure.is {f : FuncId} {args : List PV} {r r' : PV} (h : PPure Try.prog f args r) (e : r = r') : PPure Try.prog f args r' := e ▸ h
end
section
set_option maxRecDepth 20000
attribute [local go_sem] pv_len pv_take Nat.add_assoc tm_len tm_take pv_one tm_one id_ne id_ne' id_ne2 List.append_assoc
def FixL (nx : Nat) (cs : List PV) : Prop := ∀ (G : Nat → Bool) (k : Nat) (H : Nat → Option PObj), (∀ j, j < nx → G j = false) → cs.map (frgF G k H) = cs
theorem FixL.mono {nx nx' : Nat} {cs : List PV} (h : FixL nx cs) (hn : nx ≤ nx') : FixL nx' cs := fun G k H hG => h G k H fun j hj => hG j (Nat.lt_of_lt_of_le hj hn)
theorem FixL.imm {nx : Nat} {cs : List PV} (h : immL cs = true) : FixL nx cs := fun G k H _ => frgF_immL G H k cs h
theorem FixL.nil {nx : Nat} : FixL nx [] := fun _ _ _ _ => rfl
theorem FixL.append {nx : Nat} {cs ds : List PV} (h : FixL nx cs) (g : FixL nx ds) : FixL nx (cs ++ ds) := fun G k H hG => by rw [List.map_append, h G k H hG, g G k H hG]
theorem FixL.cons {nx : Nat} {c : PV} {ds : List PV} (h : c.imm = true) (g : FixL nx ds) : FixL nx (c :: ds) := fun G k H hG => by rw [List.map_cons, frgF_imm G H k c h, g G k H hG]
theorem frgF_osl {G : Nat → Bool} {id : Nat} (h : G id = false) (k : Nat) (H : Nat → Option PObj) (off n sz : Nat) : frgF G k H (.osl id off n sz) = .osl id off n sz := by
  cases k with
  | zero => rfl
  | succ k => simp [frgF, h]
theorem FixL.osl {nx id off n sz : Nat} {ds : List PV} (h : id < nx) (g : FixL nx ds) : FixL nx (.osl id off n sz :: ds) := fun G k H hG => by rw [List.map_cons, frgF_osl (hG id h), g G k H hG]
def RowP (H : Nat → Option PObj) (lo m sz : Nat) (a : PV) (es : List (List PV)) : Prop := (es = [] ∧ a = .sc (.slice none 0 0)) ∨ ∃ id, lo ≤ id ∧ id < m ∧ a = .osl id 0 es.length sz ∧ H id = some ⟨es.flatten, true⟩
def HalfP (H : Nat → Option PObj) (lo m sz : Nat) (a : PV) (done : List PV) (z : List Value) (r n : Nat) : Prop := (n = 0 ∧ a = .sc (.slice none 0 0)) ∨ ∃ id, lo ≤ id ∧ id < m ∧ a = .osl id 0 n sz ∧ H id = some ⟨done ++ zeros z r, true⟩
def leads : PV → Nat → Bool
  | .osl i _ _ _, j => decide (j = i)
  | _, _ => false
theorem HalfP.row {H : Nat → Option PObj} {lo m sz : Nat} {a : PV} {es : List (List PV)} {z : List Value} {n : Nat} (h : HalfP H lo m sz a es.flatten z 0 n) (hn : es.length = n) : RowP H lo m sz a es := by
  rcases h with ⟨h1, h2⟩ | ⟨id, h1, h2, h3, h4⟩
  · exact .inl ⟨List.eq_nil_of_length_eq_zero (by omega), h2⟩
  · exact .inr ⟨id, h1, h2, by rw [hn]; exact h3, by simpa [zeros] using h4⟩
theorem RowP.mono {H H' : Nat → Option PObj} {lo m m' sz : Nat} {a : PV} {es : List (List PV)} (h : RowP H lo m sz a es) (hm : m ≤ m') (hH : ∀ j, lo ≤ j → j < m → leads a j = true → H' j = H j) : RowP H' lo m' sz a es := by
  rcases h with h | ⟨id, h1, h2, rfl, h4⟩
  · exact .inl h
  · exact .inr ⟨id, h1, by omega, rfl, by rw [hH id h1 h2 (by simp [leads]), h4]⟩
theorem HalfP.mono {H H' : Nat → Option PObj} {lo m m' sz : Nat} {a : PV} {done : List PV} {z : List Value} {r n : Nat} (h : HalfP H lo m sz a done z r n) (hm : m ≤ m') (hH : ∀ j, lo ≤ j → j < m → leads a j = true → H' j = H j) : HalfP H' lo m' sz a done z r n := by
  rcases h with h | ⟨id, h1, h2, rfl, h4⟩
  · exact .inl h
  · exact .inr ⟨id, h1, by omega, rfl, by rw [hH id h1 h2 (by simp [leads]), h4]⟩
theorem RowP.lead {H : Nat → Option PObj} {lo m sz : Nat} {a : PV} {es : List (List PV)} (h : RowP H lo m sz a es) (hl : es.flatten.length ≠ 1) (hi : immL es.flatten = true) {j : Nat} (hj : leads a j = true) (nx : Nat) :
    lo ≤ j ∧ j < m ∧ ∀ o, H j = some o → o.isIt = false ∧ FixL nx o.cells := by
  rcases h with ⟨_, rfl⟩ | ⟨id, h1, h2, rfl, h4⟩
  · cases hj
  · obtain rfl : j = id := by simpa [leads] using hj
    refine ⟨h1, h2, fun o ho => ?_⟩
    rw [h4] at ho
    cases ho
    exact ⟨isIt_len hl, .imm hi⟩
theorem RowP.frg {H : Nat → Option PObj} {lo m sz : Nat} {a : PV} {es : List (List PV)} (h : RowP H lo m sz a es) (hs : ∀ e ∈ es, e.length = sz) (G : Nat → Bool) (hG : ∀ j, lo ≤ j → G j = true) : Weak (frgF G 1 H a) (.sl sz es) := by
  rcases h with ⟨rfl, rfl⟩ | ⟨id, h1, h2, rfl, h4⟩
  · exact .nil sz
  · have hl : es.flatten.length = es.length * sz := by
      clear h4
      induction es with
      | nil => simp
      | cons e r ih =>
        rw [List.flatten_cons, List.length_append, ih (fun x hx => hs x (by simp [hx])), hs e (by simp), List.length_cons, Nat.succ_mul]
        omega
    simp only [frgF, hG id h1, if_true, h4, List.drop_zero]
    rw [if_pos (by omega), List.take_of_length_le (by omega)]
    refine .trans (Weak.fslW (es' := es) (by rw [chunks_length]) hs ?_) (Weak.fsl sz es)
    rw [List.map_id', chunks_flatten sz es.length _ (by omega)]
    exact .refl _
end
section
theorem frg_fix {V : Vw} {nx : Nat} (hfree : ∀ id, nx ≤ id → V.rho id = none) : ∀ (k : Nat) (x : PV) (v : Value), Rep V x v → ∀ (G : Nat → Bool) (H : Nat → Option PObj), (∀ j, j < nx → G j = false) → frgF G k H x = x := by
  have low : ∀ id b, V.rho id = some b → id < nx := fun id b h => by
    by_cases hlt : id < nx
    · exact hlt
    · rw [hfree id (by omega)] at h
      cases h
  have many : ∀ {k : Nat}, (∀ (x : PV) (v : Value), Rep V x v → ∀ (G : Nat → Bool) (H : Nat → Option PObj), (∀ j, j < nx → G j = false) → frgF G k H x = x) →
      ∀ {xs : List PV} {vs : List Value}, RepL V xs vs → ∀ (G : Nat → Bool) (H : Nat → Option PObj), (∀ j, j < nx → G j = false) → xs.map (frgF G k H) = xs := by
    intro k ih xs vs hr G H hG
    refine (List.map_congr_left fun x hx => ?_).trans (List.map_id xs)
    obtain ⟨i, hi, rfl⟩ := List.mem_iff_getElem.1 hx
    have hiv : i < vs.length := hr.1 ▸ hi
    exact ih _ _ (hr.2 i _ _ (List.getElem?_eq_getElem hi) (List.getElem?_eq_getElem hiv)) G H hG
  intro k
  induction k with
  | zero => intro x v h G H hG; rfl
  | succ k ih =>
    intro x v h G H hG
    cases x with
    | optr id off =>
      obtain ⟨b, rfl, hb⟩ := h.optr_inv
      simp [frgF, hG id (low id b hb)]
    | osl id off len sz =>
      obtain ⟨b, cap, c0, T0, fr0, rfl, hb, _⟩ := h.osl_inv
      simp [frgF, hG id (low id b hb)]
    | agg xs =>
      obtain ⟨vs, rfl, hr⟩ := h.agg_inv
      simp only [frgF, many ih hr G H hG]
    | tup xs =>
      obtain ⟨vs, rfl, hr⟩ := h.tup_inv
      simp only [frgF, many ih hr G H hG]
    | fn f xs =>
      cases h with
      | fn _ _ vs hl hr => simp only [frgF, many ih ⟨hl, hr⟩ G H hG]
    | _ => rfl
theorem relH_fix {w0 : World} {ok0 : Nat → Prop} {H : Nat → Option PObj} {rho : Nat → Option Nat} {w : World} {nx : Nat} (hH : RelH w0 ok0 H rho w) (hfree : ∀ id, nx ≤ id → rho id = none) : ∀ j o, H j = some o → FixL nx o.cells := by
  intro j o hj G k H' hG
  obtain ⟨b, h1, h2, h3⟩ := hH.own j o hj
  rcases h3 with ⟨c, T, hh, l1, l2, l3⟩ | ⟨s, pos, rfl, hh⟩ | ⟨kv, es, clk, rfl, hh, hm⟩
  · refine (List.map_congr_left fun x hx => ?_).trans (List.map_id _)
    obtain ⟨i, hi, rfl⟩ := List.mem_iff_getElem.1 hx
    obtain ⟨v, hv⟩ : ∃ v, c[i]? = some v := ⟨_, Array.getElem?_eq_getElem (by omega)⟩
    exact frg_fix hfree k _ v (l3 i _ v (List.getElem?_eq_getElem hi) hv) G H' hG
  · cases k <;> rfl
  · cases k <;> rfl
theorem PMut.start {P : Program} {f : FuncId} {args : List PV} {H : Nat → Option PObj} {nx : Nat} {Q : (Nat → Option PObj) → Nat → PV → Prop} (he : enters P f = true)
    (h : (∀ j o, H j = some o → j < nx ∧ FixL nx o.cells) → PMut P f args H nx Q) : PMut P f args H nx Q := by
  refine ⟨he, fun w0 ok0 rho w vals hH hfree hv => (h fun j o hj => ⟨?_, relH_fix hH hfree j o hj⟩).2 w0 ok0 rho w vals hH hfree hv⟩
  obtain ⟨b, hb, _⟩ := hH.own j o hj
  by_cases hlt : j < nx
  · exact hlt
  · rw [hfree j (by omega)] at hb
    cases hb
theorem toldL_leq {w0 : World} {ok0 : Nat → Prop} {H H2 : Nat → Option PObj} {rho : Nat → Option Nat} {w : World} (ht : ∀ id o2, H2 id = some o2 → H id = some o2) : (viewOf w0 ok0 H rho w).Leq (viewOf w0 ok0 H2 rho w) :=
  ⟨fun b hb => ⟨hb.1, fun id o2 ho => hb.2 id o2 (ht id o2 ho)⟩, fun _ _ => rfl, fun _ _ h => h, fun _ _ c T fr _ hh => ⟨c, T, fr, hh, Nat.le_refl _⟩, Nat.le_refl _⟩
theorem toldL_rel {w0 : World} {ok0 : Nat → Prop} {H H2 : Nat → Option PObj} {rho : Nat → Option Nat} {w : World} (ht : ∀ id o2, H2 id = some o2 → H id = some o2) (hH : RelH w0 ok0 H rho w) : RelH w0 ok0 H2 rho w := by
  refine ⟨hH.okb, hH.bel, fun id o2 ho => ?_, fun id id' b h h' => ?_⟩
  · obtain ⟨b, h1, h2, h3⟩ := hH.own id o2 (ht id o2 ho)
    exact ⟨b, h1, h2, h3.mono (toldL_leq ht) rfl⟩
  · have key : ∀ id, H2 id ≠ none → H id ≠ none := fun id h => by
      obtain ⟨o2, ho⟩ := Option.ne_none_iff_exists'.1 h
      rw [ht id o2 ho]
      simp
    exact hH.inj id id' b (key id h) (key id' h')
theorem PMut.tell {P : Program} {f : FuncId} {args : List PV} {H : Nat → Option PObj} {nx : Nat} {Q Q2 : (Nat → Option PObj) → Nat → PV → Prop} (h : PMut P f args H nx Q)
    (hq : ∀ H' nx' r, Q H' nx' r → (∀ j o, j < nx → H' j = some o → FixL nx o.cells) ∧ ∃ k r2, Weak (frgF (fun j => decide (nx ≤ j)) k H' r) r2 ∧ Q2 (fun j => if j < nx then H' j else none) nx' r2) : PMut P f args H nx Q2 := by
  refine ⟨h.1, fun w0 ok0 rho w vals hH hfree hv => (h.2 w0 ok0 rho w vals hH hfree hv).mono ?_⟩
  rintro e w' ⟨v, H', nx', r, rho', h1, h2, h3, h4, h5, h6, h7, h8⟩
  obtain ⟨g1, k, r2, g2, g3⟩ := hq H' nx' r h2
  have ht : ∀ id o2, (fun j => if j < nx then H' j else none) id = some o2 → lessC (fun j => decide (nx ≤ j)) k H' id = some o2 := by
    intro id o2 ho
    have ho : (if id < nx then H' id else none) = some o2 := ho
    split at ho
    · rename_i hlt
      have := g1 id o2 hlt ho (fun j => decide (nx ≤ j)) k H' (fun j hj => by simp; omega)
      simp only [lessC, Nat.not_le.2 hlt, decide_false, Bool.false_eq_true, if_false, ho, Option.map_some, this]
    · cases ho
  exact ⟨v, _, nx', r2, rho', h1, g3, toldL_rel ht (lessC_rel h3), ((h4.trans (less_leq ..)).trans (less_lessC ..)).trans (toldL_leq ht), h5, h6, h7, (g2 _ _ ((frgF_sound h3 k r v h8).mono (less_lessC ..))).mono (toldL_leq ht)⟩
end
section
set_option maxRecDepth 20000
attribute [local go_sem] Nat.add_assoc id_ne id_ne' id_ne2 List.append_assoc pv_len pv_take pv_one
def repF {α : Type} (g : RS → α × RS) : Nat → RS → List α × RS
  | 0, s => ([], s)
  | n + 1, s => ((repF g n s).1 ++ [(g (repF g n s).2).1], (g (repF g n s).2).2)
theorem repF_len {α : Type} (g : RS → α × RS) : ∀ (n : Nat) (s : RS), (repF g n s).1.length = n
  | 0, s => rfl
  | n + 1, s => by simp [repF, repF_len g n s]
def levelF : Nat → RS → Lv × RS
  | 0, s => (.mk 0 0 [], roomF (numF s).2)
  | f + 1, s =>
    if (roomF (numF s).2).bad = true then (.mk 0 0 [], roomF (numF s).2)
    else if (numF s).1 = 1 ∨ (numF s).1 = 2 then (.mk (numF s).1 (numF (roomF (numF s).2)).1 [], (numF (roomF (numF s).2)).2)
    else if (numF s).1 = 3 then (.mk 3 0 (repF (levelF f) 1 (roomF (numF s).2)).1, (repF (levelF f) 1 (roomF (numF s).2)).2)
    else if (numF s).1 = 4 ∨ (numF s).1 = 5 then (.mk (numF s).1 0 (repF (levelF f) 2 (roomF (numF s).2)).1, (repF (levelF f) 2 (roomF (numF s).2)).2)
    else (.mk (numF s).1 0 [], ⟨(roomF (numF s).2).l, (roomF (numF s).2).nodes, true⟩)
def Rdy (fuel : Nat) (s : RS) : Prop := s.bad = true ∨ (0 ≤ s.nodes ∧ s.nodes ≤ 2000 ∧ 2001 ≤ (fuel : Int) + s.nodes)
theorem numF_nodes (s : RS) : (numF s).2.nodes = s.nodes := by unfold numF; split <;> rfl
theorem numF_bad (s : RS) (h : (numF s).2.bad = false) : s.bad = false ∧ (Plain.tk s.l).2 ≠ 0 := by
  unfold numF at h
  split at h
  · cases h
  · rename_i h0; exact ⟨h, h0⟩
theorem nameF_nodes (s : RS) : (nameF s).2.nodes = s.nodes := by unfold nameF; split <;> rfl
theorem nameF_bad (s : RS) (h : (nameF s).2.bad = false) : s.bad = false := by
  unfold nameF at h
  split at h
  · cases h
  · exact h
theorem roomF_bad (s : RS) (h : (roomF s).bad = false) : s.bad = false ∧ (roomF s).nodes ≤ 2000 := by
  unfold roomF at h ⊢
  simp only [Bool.or_eq_false_iff, decide_eq_false_iff_not] at h
  exact ⟨h.1, by have := h.2; show IntKind.i64.wrap (s.nodes + 1) ≤ 2000; omega⟩
theorem roomF_nodes (s : RS) (h0 : 0 ≤ s.nodes) (h1 : s.nodes ≤ 2000) : (roomF s).nodes = s.nodes + 1 := by
  unfold roomF
  simp only
  rw [IntKind.wrap_i64]
  omega
theorem room_step {fuel : Nat} {s : RS} (h : Rdy fuel s) (hb : (roomF (numF s).2).bad = false) : s.bad = false ∧ 0 ≤ s.nodes ∧ (roomF (numF s).2).nodes = s.nodes + 1 ∧ s.nodes + 1 ≤ 2000 ∧ 2001 ≤ (fuel : Int) + s.nodes := by
  obtain ⟨h1, h2⟩ := roomF_bad _ hb
  obtain ⟨h3, -⟩ := numF_bad s h1
  rcases h with h | ⟨g1, g2, g3⟩
  · rw [h3] at h; cases h
  · have := roomF_nodes (numF s).2 (by rw [numF_nodes]; exact g1) (by rw [numF_nodes]; exact g2)
    rw [numF_nodes] at this
    exact ⟨h3, g1, this, by omega, g3⟩
def Step (s s' : RS) : Prop := s'.bad = true ∨ (s.bad = false ∧ s.nodes ≤ s'.nodes ∧ s'.nodes ≤ 2000)
theorem Step.rdy {fuel : Nat} {s s' : RS} (h : Step s s') (hr : Rdy fuel s) : Rdy fuel s' := by
  rcases h with h | ⟨h1, h2, h3⟩
  · exact .inl h
  · rcases hr with g | ⟨g1, g2, g3⟩
    · rw [h1] at g; cases g
    · exact .inr ⟨by omega, h3, by omega⟩
theorem Step.trans {s s' s2 : RS} (h : Step s s') (g : Step s' s2) : Step s s2 := by
  rcases g with g | ⟨g1, g2, g3⟩
  · exact .inl g
  · rcases h with h | ⟨h1, h2, h3⟩
    · rw [h] at g1; cases g1
    · exact .inr ⟨h1, by omega, g3⟩
theorem Step.num {s : RS} (h : s.bad = false → s.nodes ≤ 2000) : Step s (numF s).2 := by
  cases hb : (numF s).2.bad with
  | true => exact .inl hb
  | false => exact .inr ⟨(numF_bad s hb).1, by rw [numF_nodes]; omega, by rw [numF_nodes]; exact h (numF_bad s hb).1⟩
theorem Step.name {s : RS} (h : s.bad = false → s.nodes ≤ 2000) : Step s (nameF s).2 := by
  cases hb : (nameF s).2.bad with
  | true => exact .inl hb
  | false => exact .inr ⟨nameF_bad s hb, by rw [nameF_nodes]; omega, by rw [nameF_nodes]; exact h (nameF_bad s hb)⟩
theorem Rdy.top {fuel : Nat} {s : RS} (h : Rdy fuel s) (hb : s.bad = false) : s.nodes ≤ 2000 := by
  rcases h with h | h
  · rw [hb] at h; cases h
  · exact h.2.1
theorem rep_step {α : Type} {g : RS → α × RS} {fuel : Nat} (hg : ∀ s, Rdy fuel s → Step s (g s).2) : ∀ (n : Nat) (s : RS), Rdy fuel s → Step s (repF g n s).2
  | 0, s, h => by
    cases hb : s.bad with
    | true => exact .inl hb
    | false => exact .inr ⟨hb, Int.le_refl _, h.top hb⟩
  | n + 1, s, h => by
    have h1 := rep_step hg n s h
    exact h1.trans (hg _ (h1.rdy h))
theorem level_step : ∀ (fuel : Nat) (s : RS), Rdy fuel s → Step s (levelF fuel s).2
  | 0, s, h => by
    cases hb : (roomF (numF s).2).bad with
    | true => exact .inl hb
    | false =>
      obtain ⟨h1, h2, h3, h4, h5⟩ := room_step h hb
      omega
  | f + 1, s, h => by
    unfold levelF
    cases hb : (roomF (numF s).2).bad with
    | true => rw [if_pos rfl]; exact .inl hb
    | false =>
      rw [if_neg (by simp)]
      obtain ⟨h1, h2, h3, h4, h5⟩ := room_step h hb
      have hs : Step s (roomF (numF s).2) := .inr ⟨h1, by omega, by omega⟩
      have hr : Rdy f (roomF (numF s).2) := .inr ⟨by omega, by omega, by omega⟩
      split
      · exact hs.trans (.num fun _ => by omega)
      · split
        · exact hs.trans (rep_step (level_step f) 1 _ hr)
        · split
          · exact hs.trans (rep_step (level_step f) 2 _ hr)
          · exact .inl rfl
theorem rep_shrink {α : Type} {g : RS → α × RS} (hg : ∀ s, (g s).2.l.length ≤ s.l.length) : ∀ (n : Nat) (s : RS), (repF g n s).2.l.length ≤ s.l.length
  | 0, s => Nat.le_refl _
  | n + 1, s => Nat.le_trans (hg _) (rep_shrink hg n s)
theorem roomF_l (s : RS) : (roomF s).l = s.l := rfl
theorem level_shrink : ∀ (fuel : Nat) (s : RS), (levelF fuel s).2.l.length ≤ s.l.length
  | 0, s => numF_len s
  | f + 1, s => by
    have h1 := numF_len s
    have h2 := numF_len (roomF (numF s).2)
    have h3 := rep_shrink (level_shrink f) 1 (roomF (numF s).2)
    have h4 := rep_shrink (level_shrink f) 2 (roomF (numF s).2)
    rw [roomF_l] at h2 h3 h4
    unfold levelF
    (repeat' split) <;> simp only [roomF_l] <;> omega
def LRow {α : Type} (f : α → List PV) (sz : Nat) (H : Nat → Option PObj) (lo m : Nat) (a : PV) (xs : List α) : Prop := (xs = [] ∧ a = .sc (.slice none 0 0)) ∨ ∃ id w, lo ≤ id ∧ id < m ∧ a = .osl id 0 xs.length sz ∧ H id = some ⟨xs.flatMap f, w⟩
theorem LRow.frg {α : Type} {f : α → List PV} {sz : Nat} (hf : ∀ x, (f x).length = sz) {H : Nat → Option PObj} {lo m : Nat} {a : PV} {xs : List α} (h : LRow f sz H lo m a xs) (G : Nat → Bool) (hG : ∀ j, lo ≤ j → G j = true) : Weak (frgF G 1 H a) (.sl sz (xs.map f)) := by
  rcases h with ⟨rfl, rfl⟩ | ⟨id, w, h1, h2, rfl, h4⟩
  · exact .nil sz
  · have hl : (xs.flatMap f).length = xs.length * sz := flat_lenG f sz hf xs
    simp only [frgF, hG id h1, if_true, h4, List.drop_zero]
    rw [if_pos (by omega), List.take_of_length_le (by omega)]
    refine .trans (Weak.fslW (es' := xs.map f) (by rw [chunks_length, List.length_map]) (fun e he => ?_) ?_) (Weak.fsl sz _)
    · obtain ⟨x, _, rfl⟩ := List.mem_map.1 he; exact hf x
    · rw [List.map_id', chunks_flatten sz xs.length _ (by omega), List.flatMap_def]
      exact .refl _
theorem LRow.weak {α : Type} {f : α → List PV} {sz : Nat} {H H' : Nat → Option PObj} {lo m m' : Nat} {a : PV} {xs : List α} (h : LRow f sz H lo m a xs) (hm : m ≤ m') (hH : ∀ j, lo ≤ j → j < m → H' j = H j) : LRow f sz H' lo m' a xs := by
  rcases h with h | ⟨id, w, h1, h2, h3, h4⟩
  · exact .inl h
  · exact .inr ⟨id, w, h1, by omega, h3, by rw [hH id h1 h2, h4]⟩
theorem rdC_imm (s : RS) : immL (rdC s) = true := by simp [rdC, immL, rowB_imm, PV.imm]
theorem rd_tell {f : FuncId} {args : List PV} {H : Nat → Option PObj} {nx rid : Nat} {w : Bool} {s : RS} {x : PV} (he : enters Try.prog f = true) (hr : rid < nx)
    (h : PMut Try.prog f args H nx (fun H' nx' r => nx ≤ nx' ∧ (∃ k, Weak (frgF (fun j => decide (nx ≤ j)) k H' r) x) ∧ H' rid = some ⟨rdC s, w⟩ ∧ ∀ j, j < nx → j ≠ rid → H' j = H j)) :
    PMut Try.prog f args H nx (RdQ H nx rid w s x) := by
  refine PMut.start he fun hlow => PMut.tell h ?_
  rintro H' nx' r ⟨h1, ⟨k, h2⟩, h3, h4⟩
  refine ⟨fun j o hj ho => ?_, k, x, h2, h1, rfl, ?_, fun j g1 g2 => ?_⟩
  · by_cases e : j = rid
    · subst e
      rw [h3] at ho
      cases ho
      exact FixL.imm (rdC_imm s)
    · rw [h4 j hj e] at ho
      exact (hlow j o ho).2
  · simp only [hr, if_true]; exact h3
  · simp only [g1, if_true]; exact h4 j g1 g2
set_option maxHeartbeats 8000000 in
theorem levels_m {fuel : Nat} {g : RS → Lv × RS} (hgs : ∀ s, Rdy fuel s → Step s (g s).2) (hgl : ∀ s, (g s).2.l.length ≤ s.l.length)
    (hg : ∀ s, Rdy fuel s → s.l.length ≤ 2 ^ 40 → ∀ (rid : Nat) (w : Bool) (H : Nat → Option PObj) (nx : Nat), rid < nx → H rid = some ⟨rdC s, w⟩ → PMut Try.prog F.pack_reader_level [.optr rid 0] H nx (RdQ H nx rid w (g s).2 (.agg (g s).1.pv)))
    (n : Nat) (hn : n ≤ 10) (s : RS) (hs : Rdy fuel s) (hl : s.l.length ≤ 2 ^ 40) (rid : Nat) (w : Bool) (H : Nat → Option PObj) (nx : Nat) (hr : rid < nx) (hH : H rid = some ⟨rdC s, w⟩) :
    PMut Try.prog F.pack_reader_levels [.optr rid 0, .sc (.int .i64 n)] H nx (RdQ H nx rid w (repF g n s).2 (.sl 3 ((repF g n s).1.map Lv.pv))) := by
  refine rd_tell is_pack_reader_levels.enters hr ?_
  refine mut_by is_pack_reader_levels (by simp) fun hb => ?_
  clear hb
  repeat' (first | ((with_reducible first | refine wA (by omega) ?_ | refine wB (by omega) ?_ | refine wC (by omega) ?_ | refine wD (by omega) ?_ | refine wE ?_ ?_ | refine wF ?_ ?_ | refine wG ?_ ?_ | refine wH ?_ ?_ | refine wI ?_ ?_ | refine wJ ?_ ?_ | refine wK ?_ ?_ | refine wL ?_ ?_) <;> intro _) | simp (maxSteps := 1000000) (disch := omega) only [go_sem, seval, mc_pack_reader_levels, *])
  refine c_loopW 32672 (by kernel_rfl) (fun j f H2 m => ∃ i : Nat, j = n - i ∧ i ≤ n ∧ f 7 = .sc (.int .i64 i) ∧ nx ≤ m ∧ Kept (LRow Lv.pv 3 H2 nx m (f 5) (repF g i s).1) ∧ H2 rid = some ⟨rdC (repF g i s).2, w⟩ ∧ Kept (∀ j, j < nx → j ≠ rid → H2 j = H j)) _ ⟨0, rfl, Nat.zero_le _, cE1, cE1, ?rr, hH, Kept.mk fun _ _ _ => rfl⟩ ?_
  case rr => refine Kept.mk (.inl ⟨rfl, cE1⟩)
  rintro _ f H2 m ⟨i, rfl, hi, e7, hm, hrow, hrd, hk⟩
  by_cases hlt : i < n
  · have hst := rep_step hgs i s hs
    have hll := rep_shrink hgl i s
    have c1 := hg (repF g i s).2 (hst.rdy hs) (by omega) rid w
    repeat' (first | ((with_reducible first | refine wA (by omega) ?_ | refine wB (by omega) ?_ | refine wC (by omega) ?_ | refine wD (by omega) ?_ | refine wE ?_ ?_ | refine wF ?_ ?_ | refine wG ?_ ?_ | refine wH ?_ ?_ | refine wI ?_ ?_ | refine wJ ?_ ?_ | refine wK ?_ ?_ | refine wL ?_ ?_) <;> intro _) | simp (maxSteps := 1000000) (disch := omega) only [go_sem, seval, *])
    refine call_mut (c1 H2 _ (Nat.lt_of_lt_of_le hr (Nat.le_trans hm (Nat.le_add_right _ _))) hrd) ?_
    rintro H3 m3 r3 ⟨g1', rfl, g3, g4'⟩ -
    have hm3 : m + 7 ≤ m3 := g1'
    have g1 : m ≤ m3 := Nat.le_trans (Nat.le_add_right _ _) g1'
    have g4 : Kept (∀ j, j < m → j ≠ rid → H3 j = H2 j) := fun j h1 h2 => g4' j (Nat.lt_of_lt_of_le h1 (Nat.le_add_right _ _)) h2
    have hlen := repF_len g i s
    have hE1 : (repF g (i + 1) s).1 = (repF g i s).1 ++ [(g (repF g i s).2).1] := rfl
    have hE2 : (repF g (i + 1) s).2 = (g (repF g i s).2).2 := rfl
    rw [← hE2] at g3
    generalize (g (repF g i s).2).1 = x at *
    clear c1 hst hll g1' g4'
    have hrm : rid < m := Nat.lt_of_lt_of_le hr hm
    obtain ⟨h0, e5⟩ | ⟨id, w', h1, h2, e5, h4⟩ := hrow
    · have hi0 : i = 0 := by rw [← hlen, h0]; rfl
      subst hi0
      repeat' (first | ((with_reducible first | refine wA (by omega) ?_ | refine wB (by omega) ?_ | refine wC (by omega) ?_ | refine wD (by omega) ?_ | refine wE ?_ ?_ | refine wF ?_ ?_ | refine wG ?_ ?_ | refine wH ?_ ?_ | refine wI ?_ ?_ | refine wJ ?_ ?_ | refine wK ?_ ?_ | refine wL ?_ ?_) <;> intro _) | simp (maxSteps := 1000000) (disch := omega) only [go_sem, seval, *])
      refine Nx.mk (n - 1) cE1 ⟨1, rfl, cE1, cE1, ?mm, ?rr, ?hh, ?kk⟩
      case mm => exact Nat.le_trans hm (Nat.le_trans g1 (Nat.le_add_right _ _))
      case rr =>
        refine Kept.mk (.inr ⟨m + 5, false, by omega, by omega, cE1, ?_⟩)
        rw [upd_same]
        simp [hE1, h0]
      case hh => rw [upd_ne _ _ (show rid ≠ m + 5 by omega)]; exact g3
      case kk => exact Kept.mk fun j k1 k2 => by rw [upd_ne _ _ (show j ≠ m + 5 by omega), g4 j (Nat.lt_of_lt_of_le k1 hm) k2]; exact hk j k1 k2
    · have h5 : H3 id = some ⟨(repF g i s).1.flatMap Lv.pv, w'⟩ := by rw [g4 id h2 (fun e => by omega)]; exact h4
      have hfl : ((repF g i s).1.flatMap Lv.pv).length = i * 3 := by rw [flat_lenG _ 3 pv_len, hlen]
      have hz : (i + 1) * 40 ≤ 140737488355328 ∧ i ≤ 4611686018427387903 := by omega
      rw [hlen] at e5
      clear h4
      repeat' (first | ((with_reducible first | refine wA (by omega) ?_ | refine wB (by omega) ?_ | refine wC (by omega) ?_ | refine wD (by omega) ?_ | refine wE ?_ ?_ | refine wF ?_ ?_ | refine wG ?_ ?_ | refine wH ?_ ?_ | refine wI ?_ ?_ | refine wJ ?_ ?_ | refine wK ?_ ?_ | refine wL ?_ ?_) <;> intro _) | simp (maxSteps := 1000000) (disch := omega) only [go_sem, seval, *])
      refine Nx.mk (n - (i + 1)) cE1 ⟨i + 1, rfl, cE1, cE1, ?mm, ?rr, ?hh, ?kk⟩
      case mm => exact Nat.le_trans hm (Nat.le_trans g1 (Nat.le_add_right _ _))
      case rr =>
        refine Kept.mk (.inr ⟨m + 5, false, by omega, by omega, ?_, ?_⟩)
        · simp only [upd_get, Nat.reduceEqDiff, ↓reduceIte]
          rw [hE1, List.length_append, hlen]; rfl
        · rw [upd_same]
          simp [hE1]
      case hh => rw [upd_ne _ _ (show rid ≠ m + 5 by omega), upd_ne _ _ (show rid ≠ id by omega)]; exact g3
      case kk => exact Kept.mk fun j k1 k2 => by rw [upd_ne _ _ (show j ≠ m + 5 by omega), upd_ne _ _ (show j ≠ id by omega), g4 j (Nat.lt_of_lt_of_le k1 hm) k2]; exact hk j k1 k2
  · obtain rfl : i = n := by omega
    repeat' (first | ((with_reducible first | refine wA (by omega) ?_ | refine wB (by omega) ?_ | refine wC (by omega) ?_ | refine wD (by omega) ?_ | refine wE ?_ ?_ | refine wF ?_ ?_ | refine wG ?_ ?_ | refine wH ?_ ?_ | refine wI ?_ ?_ | refine wJ ?_ ?_ | refine wK ?_ ?_ | refine wL ?_ ?_) <;> intro _) | simp (maxSteps := 1000000) (disch := omega) only [go_sem, seval, *])
    refine fin_mut (f 5) (.inr rfl) cE2 ⟨Nat.le_trans hm (Nat.le_add_right _ _), ⟨1, hrow.out.frg pv_len _ fun j hj => by simpa using hj⟩, hrd, hk⟩
end
section
set_option maxRecDepth 20000
attribute [local go_sem] Nat.add_assoc id_ne id_ne' id_ne2 List.append_assoc pv_len pv_take pv_one
theorem upd_out {α : Type} {f : Nat → α} {k j : Nat} {x : α} {y : α} (h : j ≠ k) (g : f j = y) : upd f k x j = y := by rw [upd_ne _ _ h]; exact g
theorem lv0_weak (k n : Int) : Weak (.agg [.sc (.int .i64 k), .sc (.int .i64 n), .sc (.slice none 0 0)]) (.agg (Lv.mk k n []).pv) := by
  simp only [Lv.pv]
  exact Weak.agg ⟨.refl _, .refl _, .nil 3, trivial⟩
set_option maxHeartbeats 16000000 in
theorem level_m : ∀ (fuel : Nat) (s : RS), Rdy fuel s → s.l.length ≤ 2 ^ 40 → ∀ (rid : Nat) (w : Bool) (H : Nat → Option PObj) (nx : Nat), rid < nx → H rid = some ⟨rdC s, w⟩ →
    PMut Try.prog F.pack_reader_level [.optr rid 0] H nx (RdQ H nx rid w (levelF fuel s).2 (.agg (levelF fuel s).1.pv)) := by
  intro fuel
  induction fuel with
  | zero =>
    intro s hs hl rid w H nx hr hH
    refine rd_tell is_pack_reader_level.enters hr ?_
    refine mut_by is_pack_reader_level (by simp) fun hb => ?_
    clear hb
    have hbad : (roomF (numF s).2).bad = true := by
      cases hb : (roomF (numF s).2).bad with
      | true => rfl
      | false => obtain ⟨h1, h2, h3, h4, h5⟩ := room_step hs hb; omega
    unfold levelF
    simp only
    have hl1 : (numF s).2.l.length ≤ 2 ^ 40 := Nat.le_trans (numF_len s) hl
    repeat' (first | ((with_reducible first | refine wA (by omega) ?_ | refine wB (by omega) ?_ | refine wC (by omega) ?_ | refine wD (by omega) ?_ | refine wE ?_ ?_ | refine wF ?_ ?_ | refine wG ?_ ?_ | refine wH ?_ ?_ | refine wI ?_ ?_ | refine wJ ?_ ?_ | refine wK ?_ ?_ | refine wL ?_ ?_) <;> intro _) | simp (maxSteps := 1000000) (disch := omega) only [go_sem, seval, mc_pack_reader_level, *])
    refine call_mut (number_m s hl rid w _ _ (Nat.lt_of_lt_of_le hr (Nat.le_add_right _ _)) (upd_out (by omega) hH)) ?_
    rintro H1 m1 r1 ⟨hm1', rfl, g1, k1'⟩ -
    have hm1 : nx + 6 ≤ m1 := hm1'
    have b1 : H1 nx = some ⟨[.sc (.int .i64 0), .sc (.int .i64 0), .sc (.slice none 0 0)], true⟩ := (k1' nx (Nat.lt_add_of_pos_right (by decide)) (by omega)).trans (upd_same _ _ _)
    have k1 : Kept (∀ j, j < nx → j ≠ rid → H1 j = H j) := fun j e1 e2 => (k1' j (Nat.lt_of_lt_of_le e1 (Nat.le_add_right _ _)) e2).trans (upd_ne _ _ (by omega))
    clear hm1' k1' hH
    generalize (numF s).1 = k at *
    generalize (numF s).2 = s1 at *
    repeat' (first | ((with_reducible first | refine wA (by omega) ?_ | refine wB (by omega) ?_ | refine wC (by omega) ?_ | refine wD (by omega) ?_ | refine wE ?_ ?_ | refine wF ?_ ?_ | refine wG ?_ ?_ | refine wH ?_ ?_ | refine wI ?_ ?_ | refine wJ ?_ ?_ | refine wK ?_ ?_ | refine wL ?_ ?_) <;> intro _) | simp (maxSteps := 1000000) (disch := omega) only [go_sem, seval, *])
    refine call_mut (room_m s1 rid w _ _ (show rid < _ from Nat.lt_of_lt_of_le (show rid < m1 by omega) (Nat.le_add_right _ _)) (upd_out (by omega) (upd_out (by omega) g1))) ?_
    rintro H2 m2 r2 ⟨hm2', rfl, g2, k2'⟩ -
    have hm2 : m1 ≤ m2 := Nat.le_trans (Nat.le_add_right _ _) hm2'
    have b2 : H2 nx = some ⟨[.sc (.int .i64 0), .sc (.int .i64 0), .sc (.slice none 0 0)], true⟩ := (k2' nx (Nat.lt_of_lt_of_le (show nx < m1 by omega) (Nat.le_add_right _ _)) (by omega)).trans (upd_out (by omega) (upd_out (by omega) b1))
    have b3 : H2 (nx + 4) = some ⟨[.sc (.int .i64 k), .sc (.int .i64 0), .sc (.slice none 0 0)], true⟩ := (k2' (nx + 4) (Nat.lt_of_lt_of_le (show nx + 4 < m1 by omega) (Nat.le_add_right _ _)) (by omega)).trans (upd_same _ _ _)
    have k2 : Kept (∀ j, j < nx → j ≠ rid → H2 j = H j) := fun j e1 e2 => (k2' j (Nat.lt_of_lt_of_le (show j < m1 by omega) (Nat.le_add_right _ _)) e2).trans (upd_out (by omega) (upd_out (by omega) (k1 j e1 e2)))
    clear hm2' k2' k1 b1 g1
    have hl2 : (roomF s1).l.length ≤ 2 ^ 40 := hl1
    rw [hbad]
    generalize roomF s1 = s2 at *
    clear hl1
    repeat' (first | ((with_reducible first | refine wA (by omega) ?_ | refine wB (by omega) ?_ | refine wC (by omega) ?_ | refine wD (by omega) ?_ | refine wE ?_ ?_ | refine wF ?_ ?_ | refine wG ?_ ?_ | refine wH ?_ ?_ | refine wI ?_ ?_ | refine wJ ?_ ?_ | refine wK ?_ ?_ | refine wL ?_ ?_) <;> intro _) | simp (maxSteps := 1000000) (disch := omega) only [go_sem, seval, *])
    refine fin_mut (.agg [.sc (.int .i64 0), .sc (.int .i64 0), .sc (.slice none 0 0)]) (.inr rfl) cE2 ⟨Nat.le_trans (Nat.le_trans (Nat.le_trans (Nat.le_add_right _ _) hm1) hm2) (Nat.le_add_right _ _), ⟨0, lv0_weak 0 0⟩, upd_out (by omega) g2, fun j e1 e2 => upd_out (by omega) (k2 j e1 e2)⟩
  | succ fuel ih =>
  intro s hs hl rid w H nx hr hH
  refine rd_tell is_pack_reader_level.enters hr ?_
  refine mut_by is_pack_reader_level (by simp) fun hb => ?_
  clear hb
  unfold levelF
  cases hbad : (roomF (numF s).2).bad with
  | true =>
    rw [if_pos rfl]
    simp only
    have hl1 : (numF s).2.l.length ≤ 2 ^ 40 := Nat.le_trans (numF_len s) hl
    repeat' (first | ((with_reducible first | refine wA (by omega) ?_ | refine wB (by omega) ?_ | refine wC (by omega) ?_ | refine wD (by omega) ?_ | refine wE ?_ ?_ | refine wF ?_ ?_ | refine wG ?_ ?_ | refine wH ?_ ?_ | refine wI ?_ ?_ | refine wJ ?_ ?_ | refine wK ?_ ?_ | refine wL ?_ ?_) <;> intro _) | simp (maxSteps := 1000000) (disch := omega) only [go_sem, seval, mc_pack_reader_level, *])
    refine call_mut (number_m s hl rid w _ _ (Nat.lt_of_lt_of_le hr (Nat.le_add_right _ _)) (upd_out (by omega) hH)) ?_
    rintro H1 m1 r1 ⟨hm1', rfl, g1, k1'⟩ -
    have hm1 : nx + 6 ≤ m1 := hm1'
    have b1 : H1 nx = some ⟨[.sc (.int .i64 0), .sc (.int .i64 0), .sc (.slice none 0 0)], true⟩ := (k1' nx (Nat.lt_add_of_pos_right (by decide)) (by omega)).trans (upd_same _ _ _)
    have k1 : Kept (∀ j, j < nx → j ≠ rid → H1 j = H j) := fun j e1 e2 => (k1' j (Nat.lt_of_lt_of_le e1 (Nat.le_add_right _ _)) e2).trans (upd_ne _ _ (by omega))
    clear hm1' k1' hH
    generalize (numF s).1 = k at *
    generalize (numF s).2 = s1 at *
    repeat' (first | ((with_reducible first | refine wA (by omega) ?_ | refine wB (by omega) ?_ | refine wC (by omega) ?_ | refine wD (by omega) ?_ | refine wE ?_ ?_ | refine wF ?_ ?_ | refine wG ?_ ?_ | refine wH ?_ ?_ | refine wI ?_ ?_ | refine wJ ?_ ?_ | refine wK ?_ ?_ | refine wL ?_ ?_) <;> intro _) | simp (maxSteps := 1000000) (disch := omega) only [go_sem, seval, *])
    refine call_mut (room_m s1 rid w _ _ (show rid < _ from Nat.lt_of_lt_of_le (show rid < m1 by omega) (Nat.le_add_right _ _)) (upd_out (by omega) (upd_out (by omega) g1))) ?_
    rintro H2 m2 r2 ⟨hm2', rfl, g2, k2'⟩ -
    have hm2 : m1 ≤ m2 := Nat.le_trans (Nat.le_add_right _ _) hm2'
    have b2 : H2 nx = some ⟨[.sc (.int .i64 0), .sc (.int .i64 0), .sc (.slice none 0 0)], true⟩ := (k2' nx (Nat.lt_of_lt_of_le (show nx < m1 by omega) (Nat.le_add_right _ _)) (by omega)).trans (upd_out (by omega) (upd_out (by omega) b1))
    have b3 : H2 (nx + 4) = some ⟨[.sc (.int .i64 k), .sc (.int .i64 0), .sc (.slice none 0 0)], true⟩ := (k2' (nx + 4) (Nat.lt_of_lt_of_le (show nx + 4 < m1 by omega) (Nat.le_add_right _ _)) (by omega)).trans (upd_same _ _ _)
    have k2 : Kept (∀ j, j < nx → j ≠ rid → H2 j = H j) := fun j e1 e2 => (k2' j (Nat.lt_of_lt_of_le (show j < m1 by omega) (Nat.le_add_right _ _)) e2).trans (upd_out (by omega) (upd_out (by omega) (k1 j e1 e2)))
    clear hm2' k2' k1 b1 g1
    have hl2 : (roomF s1).l.length ≤ 2 ^ 40 := hl1
    rw [hbad]
    generalize roomF s1 = s2 at *
    clear hl1
    repeat' (first | ((with_reducible first | refine wA (by omega) ?_ | refine wB (by omega) ?_ | refine wC (by omega) ?_ | refine wD (by omega) ?_ | refine wE ?_ ?_ | refine wF ?_ ?_ | refine wG ?_ ?_ | refine wH ?_ ?_ | refine wI ?_ ?_ | refine wJ ?_ ?_ | refine wK ?_ ?_ | refine wL ?_ ?_) <;> intro _) | simp (maxSteps := 1000000) (disch := omega) only [go_sem, seval, *])
    refine fin_mut (.agg [.sc (.int .i64 0), .sc (.int .i64 0), .sc (.slice none 0 0)]) (.inr rfl) cE2 ⟨Nat.le_trans (Nat.le_trans (Nat.le_trans (Nat.le_add_right _ _) hm1) hm2) (Nat.le_add_right _ _), ⟨0, lv0_weak 0 0⟩, upd_out (by omega) g2, fun j e1 e2 => upd_out (by omega) (k2 j e1 e2)⟩
  | false =>
    rw [if_neg (by simp)]
    obtain ⟨-, n0, n1, n2, n3⟩ := room_step hs hbad
    have hrdy : Rdy fuel (roomF (numF s).2) := .inr ⟨by omega, by omega, by omega⟩
    clear n0 n1 n2 n3
    have hl1 : (numF s).2.l.length ≤ 2 ^ 40 := Nat.le_trans (numF_len s) hl
    repeat' (first | ((with_reducible first | refine wA (by omega) ?_ | refine wB (by omega) ?_ | refine wC (by omega) ?_ | refine wD (by omega) ?_ | refine wE ?_ ?_ | refine wF ?_ ?_ | refine wG ?_ ?_ | refine wH ?_ ?_ | refine wI ?_ ?_ | refine wJ ?_ ?_ | refine wK ?_ ?_ | refine wL ?_ ?_) <;> intro _) | simp (maxSteps := 1000000) (disch := omega) only [go_sem, seval, mc_pack_reader_level, *])
    refine call_mut (number_m s hl rid w _ _ (Nat.lt_of_lt_of_le hr (Nat.le_add_right _ _)) (upd_out (by omega) hH)) ?_
    rintro H1 m1 r1 ⟨hm1', rfl, g1, k1'⟩ -
    have hm1 : nx + 6 ≤ m1 := hm1'
    have b1 : H1 nx = some ⟨[.sc (.int .i64 0), .sc (.int .i64 0), .sc (.slice none 0 0)], true⟩ := (k1' nx (Nat.lt_add_of_pos_right (by decide)) (by omega)).trans (upd_same _ _ _)
    have k1 : Kept (∀ j, j < nx → j ≠ rid → H1 j = H j) := fun j e1 e2 => (k1' j (Nat.lt_of_lt_of_le e1 (Nat.le_add_right _ _)) e2).trans (upd_ne _ _ (by omega))
    clear hm1' k1' hH
    generalize (numF s).1 = k at *
    generalize (numF s).2 = s1 at *
    repeat' (first | ((with_reducible first | refine wA (by omega) ?_ | refine wB (by omega) ?_ | refine wC (by omega) ?_ | refine wD (by omega) ?_ | refine wE ?_ ?_ | refine wF ?_ ?_ | refine wG ?_ ?_ | refine wH ?_ ?_ | refine wI ?_ ?_ | refine wJ ?_ ?_ | refine wK ?_ ?_ | refine wL ?_ ?_) <;> intro _) | simp (maxSteps := 1000000) (disch := omega) only [go_sem, seval, *])
    refine call_mut (room_m s1 rid w _ _ (show rid < _ from Nat.lt_of_lt_of_le (show rid < m1 by omega) (Nat.le_add_right _ _)) (upd_out (by omega) (upd_out (by omega) g1))) ?_
    rintro H2 m2 r2 ⟨hm2', rfl, g2, k2'⟩ -
    have hm2 : m1 ≤ m2 := Nat.le_trans (Nat.le_add_right _ _) hm2'
    have b2 : H2 nx = some ⟨[.sc (.int .i64 0), .sc (.int .i64 0), .sc (.slice none 0 0)], true⟩ := (k2' nx (Nat.lt_of_lt_of_le (show nx < m1 by omega) (Nat.le_add_right _ _)) (by omega)).trans (upd_out (by omega) (upd_out (by omega) b1))
    have b3 : H2 (nx + 4) = some ⟨[.sc (.int .i64 k), .sc (.int .i64 0), .sc (.slice none 0 0)], true⟩ := (k2' (nx + 4) (Nat.lt_of_lt_of_le (show nx + 4 < m1 by omega) (Nat.le_add_right _ _)) (by omega)).trans (upd_same _ _ _)
    have k2 : Kept (∀ j, j < nx → j ≠ rid → H2 j = H j) := fun j e1 e2 => (k2' j (Nat.lt_of_lt_of_le (show j < m1 by omega) (Nat.le_add_right _ _)) e2).trans (upd_out (by omega) (upd_out (by omega) (k1 j e1 e2)))
    clear hm2' k2' k1 b1 g1
    have hl2 : (roomF s1).l.length ≤ 2 ^ 40 := hl1
    rw [hbad]
    generalize roomF s1 = s2 at *
    clear hl1
    obtain rfl | rfl | rfl | rfl | rfl | ⟨h1, h2, h3, h4, h5⟩ : k = 1 ∨ k = 2 ∨ k = 3 ∨ k = 4 ∨ k = 5 ∨ (k ≠ 1 ∧ k ≠ 2 ∧ k ≠ 3 ∧ k ≠ 4 ∧ k ≠ 5) := by omega
    · rw [if_pos (.inl rfl)]
      simp only
      repeat' (first | ((with_reducible first | refine wA (by omega) ?_ | refine wB (by omega) ?_ | refine wC (by omega) ?_ | refine wD (by omega) ?_ | refine wE ?_ ?_ | refine wF ?_ ?_ | refine wG ?_ ?_ | refine wH ?_ ?_ | refine wI ?_ ?_ | refine wJ ?_ ?_ | refine wK ?_ ?_ | refine wL ?_ ?_) <;> intro _) | simp (maxSteps := 1000000) (disch := omega) only [go_sem, seval, *])
      refine call_mut (number_m s2 hl2 rid w _ _ (Nat.lt_of_lt_of_le (show rid < m2 by omega) (Nat.le_add_right _ _)) g2) ?_
      rintro H3 m3 r3 ⟨hm3', rfl, g3, k3'⟩ -
      have hm3 : m2 ≤ m3 := Nat.le_trans (Nat.le_add_right _ _) hm3'
      have b5 : H3 nx = some ⟨[.sc (.int .i64 0), .sc (.int .i64 0), .sc (.slice none 0 0)], true⟩ := (k3' nx (Nat.lt_of_lt_of_le (show nx < m2 by omega) (Nat.le_add_right _ _)) (by omega)).trans b2
      have b6 : H3 (nx + 4) = some ⟨[.sc (.int .i64 (1 : Nat)), .sc (.int .i64 0), .sc (.slice none 0 0)], true⟩ := (k3' (nx + 4) (Nat.lt_of_lt_of_le (show nx + 4 < m2 by omega) (Nat.le_add_right _ _)) (by omega)).trans b3
      have k3 : Kept (∀ j, j < nx → j ≠ rid → H3 j = H j) := fun j e1 e2 => (k3' j (Nat.lt_of_lt_of_le (show j < m2 by omega) (Nat.le_add_right _ _)) e2).trans (k2 j e1 e2)
      clear hm3' k3' k2 b2 b3 g2
      repeat' (first | ((with_reducible first | refine wA (by omega) ?_ | refine wB (by omega) ?_ | refine wC (by omega) ?_ | refine wD (by omega) ?_ | refine wE ?_ ?_ | refine wF ?_ ?_ | refine wG ?_ ?_ | refine wH ?_ ?_ | refine wI ?_ ?_ | refine wJ ?_ ?_ | refine wK ?_ ?_ | refine wL ?_ ?_) <;> intro _) | simp (maxSteps := 1000000) (disch := omega) only [go_sem, seval, *])
      refine fin_mut (.agg [.sc (.int .i64 (1 : Nat)), .sc (.int .i64 ((numF s2).1 : Nat)), .sc (.slice none 0 0)]) (.inr rfl) cE2 ⟨by simp only [Nat.add_assoc]; exact Nat.le_trans (by omega) (Nat.le_add_right _ _), ⟨0, lv0_weak _ _⟩, upd_out (by omega) (upd_out (by omega) g3), fun j e1 e2 => upd_out (by omega) (upd_out (by omega) (k3 j e1 e2))⟩
    · rw [if_pos (.inr rfl)]
      simp only
      repeat' (first | ((with_reducible first | refine wA (by omega) ?_ | refine wB (by omega) ?_ | refine wC (by omega) ?_ | refine wD (by omega) ?_ | refine wE ?_ ?_ | refine wF ?_ ?_ | refine wG ?_ ?_ | refine wH ?_ ?_ | refine wI ?_ ?_ | refine wJ ?_ ?_ | refine wK ?_ ?_ | refine wL ?_ ?_) <;> intro _) | simp (maxSteps := 1000000) (disch := omega) only [go_sem, seval, *])
      refine call_mut (number_m s2 hl2 rid w _ _ (Nat.lt_of_lt_of_le (show rid < m2 by omega) (Nat.le_add_right _ _)) g2) ?_
      rintro H3 m3 r3 ⟨hm3', rfl, g3, k3'⟩ -
      have hm3 : m2 ≤ m3 := Nat.le_trans (Nat.le_add_right _ _) hm3'
      have b5 : H3 nx = some ⟨[.sc (.int .i64 0), .sc (.int .i64 0), .sc (.slice none 0 0)], true⟩ := (k3' nx (Nat.lt_of_lt_of_le (show nx < m2 by omega) (Nat.le_add_right _ _)) (by omega)).trans b2
      have b6 : H3 (nx + 4) = some ⟨[.sc (.int .i64 (2 : Nat)), .sc (.int .i64 0), .sc (.slice none 0 0)], true⟩ := (k3' (nx + 4) (Nat.lt_of_lt_of_le (show nx + 4 < m2 by omega) (Nat.le_add_right _ _)) (by omega)).trans b3
      have k3 : Kept (∀ j, j < nx → j ≠ rid → H3 j = H j) := fun j e1 e2 => (k3' j (Nat.lt_of_lt_of_le (show j < m2 by omega) (Nat.le_add_right _ _)) e2).trans (k2 j e1 e2)
      clear hm3' k3' k2 b2 b3 g2
      repeat' (first | ((with_reducible first | refine wA (by omega) ?_ | refine wB (by omega) ?_ | refine wC (by omega) ?_ | refine wD (by omega) ?_ | refine wE ?_ ?_ | refine wF ?_ ?_ | refine wG ?_ ?_ | refine wH ?_ ?_ | refine wI ?_ ?_ | refine wJ ?_ ?_ | refine wK ?_ ?_ | refine wL ?_ ?_) <;> intro _) | simp (maxSteps := 1000000) (disch := omega) only [go_sem, seval, *])
      refine fin_mut (.agg [.sc (.int .i64 (2 : Nat)), .sc (.int .i64 ((numF s2).1 : Nat)), .sc (.slice none 0 0)]) (.inr rfl) cE2 ⟨by simp only [Nat.add_assoc]; exact Nat.le_trans (by omega) (Nat.le_add_right _ _), ⟨0, lv0_weak _ _⟩, upd_out (by omega) (upd_out (by omega) g3), fun j e1 e2 => upd_out (by omega) (upd_out (by omega) (k3 j e1 e2))⟩
    · rw [if_neg (by decide), if_pos rfl]
      simp only
      repeat' (first | ((with_reducible first | refine wA (by omega) ?_ | refine wB (by omega) ?_ | refine wC (by omega) ?_ | refine wD (by omega) ?_ | refine wE ?_ ?_ | refine wF ?_ ?_ | refine wG ?_ ?_ | refine wH ?_ ?_ | refine wI ?_ ?_ | refine wJ ?_ ?_ | refine wK ?_ ?_ | refine wL ?_ ?_) <;> intro _) | simp (maxSteps := 1000000) (disch := omega) only [go_sem, seval, *])
      refine call_mut (levels_m (level_step fuel) (level_shrink fuel) ih 1 (by decide) s2 hrdy hl2 rid w _ _ (Nat.lt_of_lt_of_le (show rid < m2 by omega) (Nat.le_add_right _ _)) g2) ?_
      rintro H3 m3 r3 ⟨hm3', rfl, g3, k3'⟩ -
      have hm3 : m2 ≤ m3 := Nat.le_trans (Nat.le_add_right _ _) hm3'
      have b5 : H3 nx = some ⟨[.sc (.int .i64 0), .sc (.int .i64 0), .sc (.slice none 0 0)], true⟩ := (k3' nx (Nat.lt_of_lt_of_le (show nx < m2 by omega) (Nat.le_add_right _ _)) (by omega)).trans b2
      have b6 : H3 (nx + 4) = some ⟨[.sc (.int .i64 (3 : Nat)), .sc (.int .i64 0), .sc (.slice none 0 0)], true⟩ := (k3' (nx + 4) (Nat.lt_of_lt_of_le (show nx + 4 < m2 by omega) (Nat.le_add_right _ _)) (by omega)).trans b3
      have k3 : Kept (∀ j, j < nx → j ≠ rid → H3 j = H j) := fun j e1 e2 => (k3' j (Nat.lt_of_lt_of_le (show j < m2 by omega) (Nat.le_add_right _ _)) e2).trans (k2 j e1 e2)
      clear hm3' k3' k2 b2 b3 g2
      repeat' (first | ((with_reducible first | refine wA (by omega) ?_ | refine wB (by omega) ?_ | refine wC (by omega) ?_ | refine wD (by omega) ?_ | refine wE ?_ ?_ | refine wF ?_ ?_ | refine wG ?_ ?_ | refine wH ?_ ?_ | refine wI ?_ ?_ | refine wJ ?_ ?_ | refine wK ?_ ?_ | refine wL ?_ ?_) <;> intro _) | simp (maxSteps := 1000000) (disch := omega) only [go_sem, seval, *])
      refine fin_mut (.agg [.sc (.int .i64 (3 : Nat)), .sc (.int .i64 0), .sl 3 ((repF (levelF fuel) 1 s2).1.map Lv.pv)]) (.inr rfl) cE2 ⟨by simp only [Nat.add_assoc]; exact Nat.le_trans (by omega) (Nat.le_add_right _ _), ⟨0, .of_eq (by simp only [frgF, Lv.pv]; rfl)⟩, upd_out (by omega) (upd_out (by omega) g3), fun j e1 e2 => upd_out (by omega) (upd_out (by omega) (k3 j e1 e2))⟩
    · rw [if_neg (by decide), if_neg (by decide), if_pos (.inl rfl)]
      simp only
      repeat' (first | ((with_reducible first | refine wA (by omega) ?_ | refine wB (by omega) ?_ | refine wC (by omega) ?_ | refine wD (by omega) ?_ | refine wE ?_ ?_ | refine wF ?_ ?_ | refine wG ?_ ?_ | refine wH ?_ ?_ | refine wI ?_ ?_ | refine wJ ?_ ?_ | refine wK ?_ ?_ | refine wL ?_ ?_) <;> intro _) | simp (maxSteps := 1000000) (disch := omega) only [go_sem, seval, *])
      refine call_mut (levels_m (level_step fuel) (level_shrink fuel) ih 2 (by decide) s2 hrdy hl2 rid w _ _ (Nat.lt_of_lt_of_le (show rid < m2 by omega) (Nat.le_add_right _ _)) g2) ?_
      rintro H3 m3 r3 ⟨hm3', rfl, g3, k3'⟩ -
      have hm3 : m2 ≤ m3 := Nat.le_trans (Nat.le_add_right _ _) hm3'
      have b5 : H3 nx = some ⟨[.sc (.int .i64 0), .sc (.int .i64 0), .sc (.slice none 0 0)], true⟩ := (k3' nx (Nat.lt_of_lt_of_le (show nx < m2 by omega) (Nat.le_add_right _ _)) (by omega)).trans b2
      have b6 : H3 (nx + 4) = some ⟨[.sc (.int .i64 (4 : Nat)), .sc (.int .i64 0), .sc (.slice none 0 0)], true⟩ := (k3' (nx + 4) (Nat.lt_of_lt_of_le (show nx + 4 < m2 by omega) (Nat.le_add_right _ _)) (by omega)).trans b3
      have k3 : Kept (∀ j, j < nx → j ≠ rid → H3 j = H j) := fun j e1 e2 => (k3' j (Nat.lt_of_lt_of_le (show j < m2 by omega) (Nat.le_add_right _ _)) e2).trans (k2 j e1 e2)
      clear hm3' k3' k2 b2 b3 g2
      repeat' (first | ((with_reducible first | refine wA (by omega) ?_ | refine wB (by omega) ?_ | refine wC (by omega) ?_ | refine wD (by omega) ?_ | refine wE ?_ ?_ | refine wF ?_ ?_ | refine wG ?_ ?_ | refine wH ?_ ?_ | refine wI ?_ ?_ | refine wJ ?_ ?_ | refine wK ?_ ?_ | refine wL ?_ ?_) <;> intro _) | simp (maxSteps := 1000000) (disch := omega) only [go_sem, seval, *])
      refine fin_mut (.agg [.sc (.int .i64 (4 : Nat)), .sc (.int .i64 0), .sl 3 ((repF (levelF fuel) 2 s2).1.map Lv.pv)]) (.inr rfl) cE2 ⟨by simp only [Nat.add_assoc]; exact Nat.le_trans (by omega) (Nat.le_add_right _ _), ⟨0, .of_eq (by simp only [frgF, Lv.pv]; rfl)⟩, upd_out (by omega) (upd_out (by omega) g3), fun j e1 e2 => upd_out (by omega) (upd_out (by omega) (k3 j e1 e2))⟩
    · rw [if_neg (by decide), if_neg (by decide), if_pos (.inr rfl)]
      simp only
      repeat' (first | ((with_reducible first | refine wA (by omega) ?_ | refine wB (by omega) ?_ | refine wC (by omega) ?_ | refine wD (by omega) ?_ | refine wE ?_ ?_ | refine wF ?_ ?_ | refine wG ?_ ?_ | refine wH ?_ ?_ | refine wI ?_ ?_ | refine wJ ?_ ?_ | refine wK ?_ ?_ | refine wL ?_ ?_) <;> intro _) | simp (maxSteps := 1000000) (disch := omega) only [go_sem, seval, *])
      refine call_mut (levels_m (level_step fuel) (level_shrink fuel) ih 2 (by decide) s2 hrdy hl2 rid w _ _ (Nat.lt_of_lt_of_le (show rid < m2 by omega) (Nat.le_add_right _ _)) g2) ?_
      rintro H3 m3 r3 ⟨hm3', rfl, g3, k3'⟩ -
      have hm3 : m2 ≤ m3 := Nat.le_trans (Nat.le_add_right _ _) hm3'
      have b5 : H3 nx = some ⟨[.sc (.int .i64 0), .sc (.int .i64 0), .sc (.slice none 0 0)], true⟩ := (k3' nx (Nat.lt_of_lt_of_le (show nx < m2 by omega) (Nat.le_add_right _ _)) (by omega)).trans b2
      have b6 : H3 (nx + 4) = some ⟨[.sc (.int .i64 (5 : Nat)), .sc (.int .i64 0), .sc (.slice none 0 0)], true⟩ := (k3' (nx + 4) (Nat.lt_of_lt_of_le (show nx + 4 < m2 by omega) (Nat.le_add_right _ _)) (by omega)).trans b3
      have k3 : Kept (∀ j, j < nx → j ≠ rid → H3 j = H j) := fun j e1 e2 => (k3' j (Nat.lt_of_lt_of_le (show j < m2 by omega) (Nat.le_add_right _ _)) e2).trans (k2 j e1 e2)
      clear hm3' k3' k2 b2 b3 g2
      repeat' (first | ((with_reducible first | refine wA (by omega) ?_ | refine wB (by omega) ?_ | refine wC (by omega) ?_ | refine wD (by omega) ?_ | refine wE ?_ ?_ | refine wF ?_ ?_ | refine wG ?_ ?_ | refine wH ?_ ?_ | refine wI ?_ ?_ | refine wJ ?_ ?_ | refine wK ?_ ?_ | refine wL ?_ ?_) <;> intro _) | simp (maxSteps := 1000000) (disch := omega) only [go_sem, seval, *])
      refine fin_mut (.agg [.sc (.int .i64 (5 : Nat)), .sc (.int .i64 0), .sl 3 ((repF (levelF fuel) 2 s2).1.map Lv.pv)]) (.inr rfl) cE2 ⟨by simp only [Nat.add_assoc]; exact Nat.le_trans (by omega) (Nat.le_add_right _ _), ⟨0, .of_eq (by simp only [frgF, Lv.pv]; rfl)⟩, upd_out (by omega) (upd_out (by omega) g3), fun j e1 e2 => upd_out (by omega) (upd_out (by omega) (k3 j e1 e2))⟩
    · rw [if_neg (by omega), if_neg h3, if_neg (by omega)]
      simp only
      obtain ⟨l2, no2, ba2⟩ := s2
      simp only [rdC] at g2
      repeat' (first | ((with_reducible first | refine wA (by omega) ?_ | refine wB (by omega) ?_ | refine wC (by omega) ?_ | refine wD (by omega) ?_ | refine wE ?_ ?_ | refine wF ?_ ?_ | refine wG ?_ ?_ | refine wH ?_ ?_ | refine wI ?_ ?_ | refine wJ ?_ ?_ | refine wK ?_ ?_ | refine wL ?_ ?_) <;> intro _) | simp (maxSteps := 1000000) (disch := omega) only [go_sem, seval, *])
      refine fin_mut (.agg [.sc (.int .i64 (k : Nat)), .sc (.int .i64 0), .sc (.slice none 0 0)]) (.inr rfl) cE2 ⟨by simp only [Nat.add_assoc]; exact Nat.le_trans (by omega) (Nat.le_add_right _ _), ⟨0, lv0_weak _ _⟩, ?_, fun j e1 e2 => ?_⟩
      · simp [upd, rdC, show rid ≠ nx by omega]
      · simp only [upd, e2, show j ≠ nx by omega, if_false]; exact k2 j e1 e2
end
section
set_option maxRecDepth 20000
attribute [local go_sem] Nat.add_assoc id_ne id_ne' id_ne2 List.append_assoc tm_len tm_take tm_one
def noStr : ByteArray := ⟨#[]⟩
def termF : Nat → RS → Tm × RS
  | 0, s => (.mk 0 0 noStr [] [], roomF (numF s).2)
  | f + 1, s =>
    if (roomF (numF s).2).bad = true then (.mk 0 0 noStr [] [], roomF (numF s).2)
    else if (numF s).1 = 1 then (.mk 1 (numF (roomF (numF s).2)).1 noStr [] [], (numF (roomF (numF s).2)).2)
    else if (numF s).1 = 2 then (.mk 2 0 noStr (repF (levelF f) 1 (roomF (numF s).2)).1 [], (repF (levelF f) 1 (roomF (numF s).2)).2)
    else if (numF s).1 = 3 then
      (.mk 3 0 (nameF (roomF (numF s).2)).1 (repF (levelF f) (min (numF (nameF (roomF (numF s).2)).2).1 5) (numF (nameF (roomF (numF s).2)).2).2).1 [],
        (repF (levelF f) (min (numF (nameF (roomF (numF s).2)).2).1 5) (numF (nameF (roomF (numF s).2)).2).2).2)
    else if (numF s).1 = 4 ∨ (numF s).1 = 5 ∨ (numF s).1 = 6 then (.mk (numF s).1 0 noStr [] (repF (termF f) 2 (roomF (numF s).2)).1, (repF (termF f) 2 (roomF (numF s).2)).2)
    else if (numF s).1 = 7 then (.mk 7 0 noStr [] (repF (termF f) 3 (roomF (numF s).2)).1, (repF (termF f) 3 (roomF (numF s).2)).2)
    else (.mk (numF s).1 0 noStr [] [], ⟨(roomF (numF s).2).l, (roomF (numF s).2).nodes, true⟩)
theorem term_step : ∀ (fuel : Nat) (s : RS), Rdy fuel s → Step s (termF fuel s).2
  | 0, s, h => by
    cases hb : (roomF (numF s).2).bad with
    | true => exact .inl hb
    | false =>
      obtain ⟨h1, h2, h3, h4, h5⟩ := room_step h hb
      omega
  | f + 1, s, h => by
    unfold termF
    cases hb : (roomF (numF s).2).bad with
    | true => rw [if_pos rfl]; exact .inl hb
    | false =>
      rw [if_neg (by simp)]
      obtain ⟨h1, h2, h3, h4, h5⟩ := room_step h hb
      have hs : Step s (roomF (numF s).2) := .inr ⟨h1, by omega, by omega⟩
      have hr : Rdy f (roomF (numF s).2) := .inr ⟨by omega, by omega, by omega⟩
      split
      · exact hs.trans (.num fun _ => by omega)
      split
      · exact hs.trans (rep_step (level_step f) 1 _ hr)
      split
      · have n1 : Step (roomF (numF s).2) (nameF (roomF (numF s).2)).2 := .name hr.top
        have n2 : Step (nameF (roomF (numF s).2)).2 (numF (nameF (roomF (numF s).2)).2).2 := .num (n1.rdy hr).top
        exact hs.trans (n1.trans (n2.trans (rep_step (level_step f) _ _ (n2.rdy (n1.rdy hr)))))
      split
      · exact hs.trans (rep_step (term_step f) 2 _ hr)
      split
      · exact hs.trans (rep_step (term_step f) 3 _ hr)
      · exact .inl rfl
theorem term_shrink : ∀ (fuel : Nat) (s : RS), (termF fuel s).2.l.length ≤ s.l.length
  | 0, s => numF_len s
  | f + 1, s => by
    have h1 := numF_len s
    have h2 := numF_len (roomF (numF s).2)
    have h3 := rep_shrink (level_shrink f) 1 (roomF (numF s).2)
    have h4 := rep_shrink (term_shrink f) 2 (roomF (numF s).2)
    have h5 := rep_shrink (term_shrink f) 3 (roomF (numF s).2)
    have h6 := nameF_len (roomF (numF s).2)
    have h7 := numF_len (nameF (roomF (numF s).2)).2
    have h8 := rep_shrink (level_shrink f) (min (numF (nameF (roomF (numF s).2)).2).1 5) (numF (nameF (roomF (numF s).2)).2).2
    rw [roomF_l] at h2 h3 h4 h5 h6
    unfold termF
    (repeat' split) <;> simp only [roomF_l] <;> omega
set_option maxHeartbeats 8000000 in
theorem terms_m {fuel : Nat} {g : RS → Tm × RS} (hgs : ∀ s, Rdy fuel s → Step s (g s).2) (hgl : ∀ s, (g s).2.l.length ≤ s.l.length)
    (hg : ∀ s, Rdy fuel s → s.l.length ≤ 2 ^ 40 → ∀ (rid : Nat) (w : Bool) (H : Nat → Option PObj) (nx : Nat), rid < nx → H rid = some ⟨rdC s, w⟩ → PMut Try.prog F.pack_reader_term [.optr rid 0] H nx (RdQ H nx rid w (g s).2 (.agg (g s).1.pv)))
    (n : Nat) (hn : n ≤ 10) (s : RS) (hs : Rdy fuel s) (hl : s.l.length ≤ 2 ^ 40) (rid : Nat) (w : Bool) (H : Nat → Option PObj) (nx : Nat) (hr : rid < nx) (hH : H rid = some ⟨rdC s, w⟩) :
    PMut Try.prog F.pack_reader_terms [.optr rid 0, .sc (.int .i64 n)] H nx (RdQ H nx rid w (repF g n s).2 (.sl 5 ((repF g n s).1.map Tm.pv))) := by
  refine rd_tell is_pack_reader_terms.enters hr ?_
  refine mut_by is_pack_reader_terms (by simp) fun hb => ?_
  clear hb
  repeat' (first | ((with_reducible first | refine wA (by omega) ?_ | refine wB (by omega) ?_ | refine wC (by omega) ?_ | refine wD (by omega) ?_ | refine wE ?_ ?_ | refine wF ?_ ?_ | refine wG ?_ ?_ | refine wH ?_ ?_ | refine wI ?_ ?_ | refine wJ ?_ ?_ | refine wK ?_ ?_ | refine wL ?_ ?_) <;> intro _) | simp (maxSteps := 1000000) (disch := omega) only [go_sem, seval, mc_pack_reader_terms, *])
  refine c_loopW 32672 (by kernel_rfl) (fun j f H2 m => ∃ i : Nat, j = n - i ∧ i ≤ n ∧ f 7 = .sc (.int .i64 i) ∧ nx ≤ m ∧ Kept (LRow Tm.pv 5 H2 nx m (f 5) (repF g i s).1) ∧ H2 rid = some ⟨rdC (repF g i s).2, w⟩ ∧ Kept (∀ j, j < nx → j ≠ rid → H2 j = H j)) _ ⟨0, rfl, Nat.zero_le _, cE1, cE1, ?rr, hH, Kept.mk fun _ _ _ => rfl⟩ ?_
  case rr => refine Kept.mk (.inl ⟨rfl, cE1⟩)
  rintro _ f H2 m ⟨i, rfl, hi, e7, hm, hrow, hrd, hk⟩
  by_cases hlt : i < n
  · have hst := rep_step hgs i s hs
    have hll := rep_shrink hgl i s
    have c1 := hg (repF g i s).2 (hst.rdy hs) (by omega) rid w
    repeat' (first | ((with_reducible first | refine wA (by omega) ?_ | refine wB (by omega) ?_ | refine wC (by omega) ?_ | refine wD (by omega) ?_ | refine wE ?_ ?_ | refine wF ?_ ?_ | refine wG ?_ ?_ | refine wH ?_ ?_ | refine wI ?_ ?_ | refine wJ ?_ ?_ | refine wK ?_ ?_ | refine wL ?_ ?_) <;> intro _) | simp (maxSteps := 1000000) (disch := omega) only [go_sem, seval, *])
    refine call_mut (c1 H2 _ (Nat.lt_of_lt_of_le hr (Nat.le_trans hm (Nat.le_add_right _ _))) hrd) ?_
    rintro H3 m3 r3 ⟨g1', rfl, g3, g4'⟩ -
    have hm3 : m + 7 ≤ m3 := g1'
    have g1 : m ≤ m3 := Nat.le_trans (Nat.le_add_right _ _) g1'
    have g4 : Kept (∀ j, j < m → j ≠ rid → H3 j = H2 j) := fun j h1 h2 => g4' j (Nat.lt_of_lt_of_le h1 (Nat.le_add_right _ _)) h2
    have hlen := repF_len g i s
    have hE1 : (repF g (i + 1) s).1 = (repF g i s).1 ++ [(g (repF g i s).2).1] := rfl
    have hE2 : (repF g (i + 1) s).2 = (g (repF g i s).2).2 := rfl
    rw [← hE2] at g3
    generalize (g (repF g i s).2).1 = x at *
    clear c1 hst hll g1' g4'
    have hrm : rid < m := Nat.lt_of_lt_of_le hr hm
    obtain ⟨h0, e5⟩ | ⟨id, w', h1, h2, e5, h4⟩ := hrow
    · have hi0 : i = 0 := by rw [← hlen, h0]; rfl
      subst hi0
      repeat' (first | ((with_reducible first | refine wA (by omega) ?_ | refine wB (by omega) ?_ | refine wC (by omega) ?_ | refine wD (by omega) ?_ | refine wE ?_ ?_ | refine wF ?_ ?_ | refine wG ?_ ?_ | refine wH ?_ ?_ | refine wI ?_ ?_ | refine wJ ?_ ?_ | refine wK ?_ ?_ | refine wL ?_ ?_) <;> intro _) | simp (maxSteps := 1000000) (disch := omega) only [go_sem, seval, *])
      refine Nx.mk (n - 1) cE1 ⟨1, rfl, cE1, cE1, ?mm, ?rr, ?hh, ?kk⟩
      case mm => exact Nat.le_trans hm (Nat.le_trans g1 (Nat.le_add_right _ _))
      case rr =>
        refine Kept.mk (.inr ⟨m + 5, false, by omega, by omega, cE1, ?_⟩)
        rw [upd_same]
        simp [hE1, h0]
      case hh => rw [upd_ne _ _ (show rid ≠ m + 5 by omega)]; exact g3
      case kk => exact Kept.mk fun j k1 k2 => by rw [upd_ne _ _ (show j ≠ m + 5 by omega), g4 j (Nat.lt_of_lt_of_le k1 hm) k2]; exact hk j k1 k2
    · have h5 : H3 id = some ⟨(repF g i s).1.flatMap Tm.pv, w'⟩ := by rw [g4 id h2 (fun e => by omega)]; exact h4
      have hfl : ((repF g i s).1.flatMap Tm.pv).length = i * 5 := by rw [flat_lenG _ 5 tm_len, hlen]
      have hz : (i + 1) * 80 ≤ 140737488355328 ∧ i ≤ 4611686018427387903 := by omega
      rw [hlen] at e5
      clear h4
      repeat' (first | ((with_reducible first | refine wA (by omega) ?_ | refine wB (by omega) ?_ | refine wC (by omega) ?_ | refine wD (by omega) ?_ | refine wE ?_ ?_ | refine wF ?_ ?_ | refine wG ?_ ?_ | refine wH ?_ ?_ | refine wI ?_ ?_ | refine wJ ?_ ?_ | refine wK ?_ ?_ | refine wL ?_ ?_) <;> intro _) | simp (maxSteps := 1000000) (disch := omega) only [go_sem, seval, *])
      refine Nx.mk (n - (i + 1)) cE1 ⟨i + 1, rfl, cE1, cE1, ?mm, ?rr, ?hh, ?kk⟩
      case mm => exact Nat.le_trans hm (Nat.le_trans g1 (Nat.le_add_right _ _))
      case rr =>
        refine Kept.mk (.inr ⟨m + 5, false, by omega, by omega, ?_, ?_⟩)
        · simp only [upd_get, Nat.reduceEqDiff, ↓reduceIte]
          rw [hE1, List.length_append, hlen]; rfl
        · rw [upd_same]
          simp [hE1]
      case hh => rw [upd_ne _ _ (show rid ≠ m + 5 by omega), upd_ne _ _ (show rid ≠ id by omega)]; exact g3
      case kk => exact Kept.mk fun j k1 k2 => by rw [upd_ne _ _ (show j ≠ m + 5 by omega), upd_ne _ _ (show j ≠ id by omega), g4 j (Nat.lt_of_lt_of_le k1 hm) k2]; exact hk j k1 k2
  · obtain rfl : i = n := by omega
    repeat' (first | ((with_reducible first | refine wA (by omega) ?_ | refine wB (by omega) ?_ | refine wC (by omega) ?_ | refine wD (by omega) ?_ | refine wE ?_ ?_ | refine wF ?_ ?_ | refine wG ?_ ?_ | refine wH ?_ ?_ | refine wI ?_ ?_ | refine wJ ?_ ?_ | refine wK ?_ ?_ | refine wL ?_ ?_) <;> intro _) | simp (maxSteps := 1000000) (disch := omega) only [go_sem, seval, *])
    refine fin_mut (f 5) (.inr rfl) cE2 ⟨Nat.le_trans hm (Nat.le_add_right _ _), ⟨1, hrow.out.frg tm_len _ fun j hj => by simpa using hj⟩, hrd, hk⟩
end
section
set_option maxRecDepth 20000
attribute [local go_sem] Nat.add_assoc id_ne id_ne' id_ne2 List.append_assoc tm_len tm_take tm_one
theorem tm0_weak (k n : Int) (s : ByteArray) (ls : List Lv) (args : List Tm) {a b : PV} (ha : Weak a (.sl 3 (ls.map Lv.pv))) (hb : Weak b (.sl 5 (args.map Tm.pv))) : Weak (.agg [.sc (.int .i64 k), .sc (.int .i64 n), .sc (.string s), a, b]) (.agg (Tm.mk k n s ls args).pv) := by
  simp only [Tm.pv]
  exact Weak.agg ⟨.refl _, .refl _, .refl _, ha, hb, trivial⟩
set_option maxHeartbeats 32000000 in
theorem term_m : ∀ (fuel : Nat) (s : RS), Rdy fuel s → s.l.length ≤ 2 ^ 40 → ∀ (rid : Nat) (w : Bool) (H : Nat → Option PObj) (nx : Nat), rid < nx → H rid = some ⟨rdC s, w⟩ →
    PMut Try.prog F.pack_reader_term [.optr rid 0] H nx (RdQ H nx rid w (termF fuel s).2 (.agg (termF fuel s).1.pv)) := by
  intro fuel
  induction fuel with
  | zero =>
    intro s hs hl rid w H nx hr hH
    refine rd_tell is_pack_reader_term.enters hr ?_
    refine mut_by is_pack_reader_term (by simp) fun hb => ?_
    clear hb
    have hbad : (roomF (numF s).2).bad = true := by
      cases hb : (roomF (numF s).2).bad with
      | true => rfl
      | false => obtain ⟨h1, h2, h3, h4, h5⟩ := room_step hs hb; omega
    unfold termF
    simp only
    have hl1 : (numF s).2.l.length ≤ 2 ^ 40 := Nat.le_trans (numF_len s) hl
    repeat' (first | ((with_reducible first | refine wA (by omega) ?_ | refine wB (by omega) ?_ | refine wC (by omega) ?_ | refine wD (by omega) ?_ | refine wE ?_ ?_ | refine wF ?_ ?_ | refine wG ?_ ?_ | refine wH ?_ ?_ | refine wI ?_ ?_ | refine wJ ?_ ?_ | refine wK ?_ ?_ | refine wL ?_ ?_) <;> intro _) | simp (maxSteps := 1000000) (disch := omega) only [go_sem, seval, mc_pack_reader_term, *])
    refine call_mut (number_m s hl rid w _ _ (Nat.lt_of_lt_of_le hr (Nat.le_add_right _ _)) (upd_out (by omega) hH)) ?_
    rintro H1 m1 r1 ⟨hm1', rfl, g1, k1'⟩ -
    have hm1 : nx + 6 ≤ m1 := hm1'
    have b1 : H1 nx = some ⟨[.sc (.int .i64 0), .sc (.int .i64 0), .sc (.string ⟨#[]⟩), .sc (.slice none 0 0), .sc (.slice none 0 0)], true⟩ := (k1' nx (Nat.lt_add_of_pos_right (by decide)) (by omega)).trans (upd_same _ _ _)
    have k1 : Kept (∀ j, j < nx → j ≠ rid → H1 j = H j) := fun j e1 e2 => (k1' j (Nat.lt_of_lt_of_le e1 (Nat.le_add_right _ _)) e2).trans (upd_ne _ _ (by omega))
    clear hm1' k1' hH
    generalize (numF s).1 = k at *
    generalize (numF s).2 = s1 at *
    repeat' (first | ((with_reducible first | refine wA (by omega) ?_ | refine wB (by omega) ?_ | refine wC (by omega) ?_ | refine wD (by omega) ?_ | refine wE ?_ ?_ | refine wF ?_ ?_ | refine wG ?_ ?_ | refine wH ?_ ?_ | refine wI ?_ ?_ | refine wJ ?_ ?_ | refine wK ?_ ?_ | refine wL ?_ ?_) <;> intro _) | simp (maxSteps := 1000000) (disch := omega) only [go_sem, seval, *])
    refine call_mut (room_m s1 rid w _ _ (show rid < _ from Nat.lt_of_lt_of_le (show rid < m1 by omega) (Nat.le_add_right _ _)) (upd_out (by omega) (upd_out (by omega) g1))) ?_
    rintro H2 m2 r2 ⟨hm2', rfl, g2, k2'⟩ -
    have hm2 : m1 ≤ m2 := Nat.le_trans (Nat.le_add_right _ _) hm2'
    have b2 : H2 nx = some ⟨[.sc (.int .i64 0), .sc (.int .i64 0), .sc (.string ⟨#[]⟩), .sc (.slice none 0 0), .sc (.slice none 0 0)], true⟩ := (k2' nx (Nat.lt_of_lt_of_le (show nx < m1 by omega) (Nat.le_add_right _ _)) (by omega)).trans (upd_out (by omega) (upd_out (by omega) b1))
    have b3 : H2 (nx + 4) = some ⟨[.sc (.int .i64 k), .sc (.int .i64 0), .sc (.string ⟨#[]⟩), .sc (.slice none 0 0), .sc (.slice none 0 0)], true⟩ := (k2' (nx + 4) (Nat.lt_of_lt_of_le (show nx + 4 < m1 by omega) (Nat.le_add_right _ _)) (by omega)).trans (upd_same _ _ _)
    have k2 : Kept (∀ j, j < nx → j ≠ rid → H2 j = H j) := fun j e1 e2 => (k2' j (Nat.lt_of_lt_of_le (show j < m1 by omega) (Nat.le_add_right _ _)) e2).trans (upd_out (by omega) (upd_out (by omega) (k1 j e1 e2)))
    clear hm2' k2' k1 b1 g1
    have hl2 : (roomF s1).l.length ≤ 2 ^ 40 := hl1
    rw [hbad]
    generalize roomF s1 = s2 at *
    clear hl1
    repeat' (first | ((with_reducible first | refine wA (by omega) ?_ | refine wB (by omega) ?_ | refine wC (by omega) ?_ | refine wD (by omega) ?_ | refine wE ?_ ?_ | refine wF ?_ ?_ | refine wG ?_ ?_ | refine wH ?_ ?_ | refine wI ?_ ?_ | refine wJ ?_ ?_ | refine wK ?_ ?_ | refine wL ?_ ?_) <;> intro _) | simp (maxSteps := 1000000) (disch := omega) only [go_sem, seval, *])
    refine fin_mut (.agg [.sc (.int .i64 0), .sc (.int .i64 0), .sc (.string ⟨#[]⟩), .sc (.slice none 0 0), .sc (.slice none 0 0)]) (.inr rfl) cE2 ⟨Nat.le_trans (Nat.le_trans (Nat.le_trans (Nat.le_add_right _ _) hm1) hm2) (Nat.le_add_right _ _), ⟨0, tm0_weak 0 0 _ [] [] (.nil 3) (.nil 5)⟩, upd_out (by omega) g2, fun j e1 e2 => upd_out (by omega) (k2 j e1 e2)⟩
  | succ fuel ih =>
  intro s hs hl rid w H nx hr hH
  refine rd_tell is_pack_reader_term.enters hr ?_
  refine mut_by is_pack_reader_term (by simp) fun hb => ?_
  clear hb
  unfold termF
  cases hbad : (roomF (numF s).2).bad with
  | true =>
    rw [if_pos rfl]
    simp only
    have hl1 : (numF s).2.l.length ≤ 2 ^ 40 := Nat.le_trans (numF_len s) hl
    repeat' (first | ((with_reducible first | refine wA (by omega) ?_ | refine wB (by omega) ?_ | refine wC (by omega) ?_ | refine wD (by omega) ?_ | refine wE ?_ ?_ | refine wF ?_ ?_ | refine wG ?_ ?_ | refine wH ?_ ?_ | refine wI ?_ ?_ | refine wJ ?_ ?_ | refine wK ?_ ?_ | refine wL ?_ ?_) <;> intro _) | simp (maxSteps := 1000000) (disch := omega) only [go_sem, seval, mc_pack_reader_term, *])
    refine call_mut (number_m s hl rid w _ _ (Nat.lt_of_lt_of_le hr (Nat.le_add_right _ _)) (upd_out (by omega) hH)) ?_
    rintro H1 m1 r1 ⟨hm1', rfl, g1, k1'⟩ -
    have hm1 : nx + 6 ≤ m1 := hm1'
    have b1 : H1 nx = some ⟨[.sc (.int .i64 0), .sc (.int .i64 0), .sc (.string ⟨#[]⟩), .sc (.slice none 0 0), .sc (.slice none 0 0)], true⟩ := (k1' nx (Nat.lt_add_of_pos_right (by decide)) (by omega)).trans (upd_same _ _ _)
    have k1 : Kept (∀ j, j < nx → j ≠ rid → H1 j = H j) := fun j e1 e2 => (k1' j (Nat.lt_of_lt_of_le e1 (Nat.le_add_right _ _)) e2).trans (upd_ne _ _ (by omega))
    clear hm1' k1' hH
    generalize (numF s).1 = k at *
    generalize (numF s).2 = s1 at *
    repeat' (first | ((with_reducible first | refine wA (by omega) ?_ | refine wB (by omega) ?_ | refine wC (by omega) ?_ | refine wD (by omega) ?_ | refine wE ?_ ?_ | refine wF ?_ ?_ | refine wG ?_ ?_ | refine wH ?_ ?_ | refine wI ?_ ?_ | refine wJ ?_ ?_ | refine wK ?_ ?_ | refine wL ?_ ?_) <;> intro _) | simp (maxSteps := 1000000) (disch := omega) only [go_sem, seval, *])
    refine call_mut (room_m s1 rid w _ _ (show rid < _ from Nat.lt_of_lt_of_le (show rid < m1 by omega) (Nat.le_add_right _ _)) (upd_out (by omega) (upd_out (by omega) g1))) ?_
    rintro H2 m2 r2 ⟨hm2', rfl, g2, k2'⟩ -
    have hm2 : m1 ≤ m2 := Nat.le_trans (Nat.le_add_right _ _) hm2'
    have b2 : H2 nx = some ⟨[.sc (.int .i64 0), .sc (.int .i64 0), .sc (.string ⟨#[]⟩), .sc (.slice none 0 0), .sc (.slice none 0 0)], true⟩ := (k2' nx (Nat.lt_of_lt_of_le (show nx < m1 by omega) (Nat.le_add_right _ _)) (by omega)).trans (upd_out (by omega) (upd_out (by omega) b1))
    have b3 : H2 (nx + 4) = some ⟨[.sc (.int .i64 k), .sc (.int .i64 0), .sc (.string ⟨#[]⟩), .sc (.slice none 0 0), .sc (.slice none 0 0)], true⟩ := (k2' (nx + 4) (Nat.lt_of_lt_of_le (show nx + 4 < m1 by omega) (Nat.le_add_right _ _)) (by omega)).trans (upd_same _ _ _)
    have k2 : Kept (∀ j, j < nx → j ≠ rid → H2 j = H j) := fun j e1 e2 => (k2' j (Nat.lt_of_lt_of_le (show j < m1 by omega) (Nat.le_add_right _ _)) e2).trans (upd_out (by omega) (upd_out (by omega) (k1 j e1 e2)))
    clear hm2' k2' k1 b1 g1
    have hl2 : (roomF s1).l.length ≤ 2 ^ 40 := hl1
    rw [hbad]
    generalize roomF s1 = s2 at *
    clear hl1
    repeat' (first | ((with_reducible first | refine wA (by omega) ?_ | refine wB (by omega) ?_ | refine wC (by omega) ?_ | refine wD (by omega) ?_ | refine wE ?_ ?_ | refine wF ?_ ?_ | refine wG ?_ ?_ | refine wH ?_ ?_ | refine wI ?_ ?_ | refine wJ ?_ ?_ | refine wK ?_ ?_ | refine wL ?_ ?_) <;> intro _) | simp (maxSteps := 1000000) (disch := omega) only [go_sem, seval, *])
    refine fin_mut (.agg [.sc (.int .i64 0), .sc (.int .i64 0), .sc (.string ⟨#[]⟩), .sc (.slice none 0 0), .sc (.slice none 0 0)]) (.inr rfl) cE2 ⟨Nat.le_trans (Nat.le_trans (Nat.le_trans (Nat.le_add_right _ _) hm1) hm2) (Nat.le_add_right _ _), ⟨0, tm0_weak 0 0 _ [] [] (.nil 3) (.nil 5)⟩, upd_out (by omega) g2, fun j e1 e2 => upd_out (by omega) (k2 j e1 e2)⟩
  | false =>
    rw [if_neg (by simp)]
    obtain ⟨-, n0, n1, n2, n3⟩ := room_step hs hbad
    have hrdy : Rdy fuel (roomF (numF s).2) := .inr ⟨by omega, by omega, by omega⟩
    clear n0 n1 n2 n3
    have hl1 : (numF s).2.l.length ≤ 2 ^ 40 := Nat.le_trans (numF_len s) hl
    repeat' (first | ((with_reducible first | refine wA (by omega) ?_ | refine wB (by omega) ?_ | refine wC (by omega) ?_ | refine wD (by omega) ?_ | refine wE ?_ ?_ | refine wF ?_ ?_ | refine wG ?_ ?_ | refine wH ?_ ?_ | refine wI ?_ ?_ | refine wJ ?_ ?_ | refine wK ?_ ?_ | refine wL ?_ ?_) <;> intro _) | simp (maxSteps := 1000000) (disch := omega) only [go_sem, seval, mc_pack_reader_term, *])
    refine call_mut (number_m s hl rid w _ _ (Nat.lt_of_lt_of_le hr (Nat.le_add_right _ _)) (upd_out (by omega) hH)) ?_
    rintro H1 m1 r1 ⟨hm1', rfl, g1, k1'⟩ -
    have hm1 : nx + 6 ≤ m1 := hm1'
    have b1 : H1 nx = some ⟨[.sc (.int .i64 0), .sc (.int .i64 0), .sc (.string ⟨#[]⟩), .sc (.slice none 0 0), .sc (.slice none 0 0)], true⟩ := (k1' nx (Nat.lt_add_of_pos_right (by decide)) (by omega)).trans (upd_same _ _ _)
    have k1 : Kept (∀ j, j < nx → j ≠ rid → H1 j = H j) := fun j e1 e2 => (k1' j (Nat.lt_of_lt_of_le e1 (Nat.le_add_right _ _)) e2).trans (upd_ne _ _ (by omega))
    clear hm1' k1' hH
    generalize (numF s).1 = k at *
    generalize (numF s).2 = s1 at *
    repeat' (first | ((with_reducible first | refine wA (by omega) ?_ | refine wB (by omega) ?_ | refine wC (by omega) ?_ | refine wD (by omega) ?_ | refine wE ?_ ?_ | refine wF ?_ ?_ | refine wG ?_ ?_ | refine wH ?_ ?_ | refine wI ?_ ?_ | refine wJ ?_ ?_ | refine wK ?_ ?_ | refine wL ?_ ?_) <;> intro _) | simp (maxSteps := 1000000) (disch := omega) only [go_sem, seval, *])
    refine call_mut (room_m s1 rid w _ _ (show rid < _ from Nat.lt_of_lt_of_le (show rid < m1 by omega) (Nat.le_add_right _ _)) (upd_out (by omega) (upd_out (by omega) g1))) ?_
    rintro H2 m2 r2 ⟨hm2', rfl, g2, k2'⟩ -
    have hm2 : m1 ≤ m2 := Nat.le_trans (Nat.le_add_right _ _) hm2'
    have b2 : H2 nx = some ⟨[.sc (.int .i64 0), .sc (.int .i64 0), .sc (.string ⟨#[]⟩), .sc (.slice none 0 0), .sc (.slice none 0 0)], true⟩ := (k2' nx (Nat.lt_of_lt_of_le (show nx < m1 by omega) (Nat.le_add_right _ _)) (by omega)).trans (upd_out (by omega) (upd_out (by omega) b1))
    have b3 : H2 (nx + 4) = some ⟨[.sc (.int .i64 k), .sc (.int .i64 0), .sc (.string ⟨#[]⟩), .sc (.slice none 0 0), .sc (.slice none 0 0)], true⟩ := (k2' (nx + 4) (Nat.lt_of_lt_of_le (show nx + 4 < m1 by omega) (Nat.le_add_right _ _)) (by omega)).trans (upd_same _ _ _)
    have k2 : Kept (∀ j, j < nx → j ≠ rid → H2 j = H j) := fun j e1 e2 => (k2' j (Nat.lt_of_lt_of_le (show j < m1 by omega) (Nat.le_add_right _ _)) e2).trans (upd_out (by omega) (upd_out (by omega) (k1 j e1 e2)))
    clear hm2' k2' k1 b1 g1
    have hl2 : (roomF s1).l.length ≤ 2 ^ 40 := hl1
    rw [hbad]
    generalize roomF s1 = s2 at *
    clear hl1
    obtain rfl | rfl | rfl | rfl | rfl | rfl | rfl | ⟨h1, h2, h3, h4, h5, h6, h7⟩ : k = 1 ∨ k = 2 ∨ k = 3 ∨ k = 4 ∨ k = 5 ∨ k = 6 ∨ k = 7 ∨ (k ≠ 1 ∧ k ≠ 2 ∧ k ≠ 3 ∧ k ≠ 4 ∧ k ≠ 5 ∧ k ≠ 6 ∧ k ≠ 7) := by omega
    · rw [if_pos rfl]
      simp only
      have c2 := b3
      clear b3
      repeat' (first | ((with_reducible first | refine wA (by omega) ?_ | refine wB (by omega) ?_ | refine wC (by omega) ?_ | refine wD (by omega) ?_ | refine wE ?_ ?_ | refine wF ?_ ?_ | refine wG ?_ ?_ | refine wH ?_ ?_ | refine wI ?_ ?_ | refine wJ ?_ ?_ | refine wK ?_ ?_ | refine wL ?_ ?_) <;> intro _) | simp (maxSteps := 1000000) (disch := omega) only [go_sem, seval, *])
      refine call_mut (number_m s2 hl2 rid w _ _ (Nat.lt_of_lt_of_le (show rid < m2 by omega) (Nat.le_add_right _ _)) (g2)) ?_
      rintro H3 m3 r3 ⟨hm3', rfl, g3, k3'⟩ -
      have hm3 : m2 ≤ m3 := Nat.le_trans (Nat.le_add_right _ _) hm3'
      have b3 : H3 nx = some ⟨[.sc (.int .i64 0), .sc (.int .i64 0), .sc (.string ⟨#[]⟩), .sc (.slice none 0 0), .sc (.slice none 0 0)], true⟩ := (k3' nx (Nat.lt_of_lt_of_le (show nx < m2 by omega) (Nat.le_add_right _ _)) (by omega)).trans (b2)
      have c3 : H3 (nx + 4) = some ⟨[.sc (.int .i64 (1 : Nat)), .sc (.int .i64 0), .sc (.string ⟨#[]⟩), .sc (.slice none 0 0), .sc (.slice none 0 0)], true⟩ := (k3' (nx + 4) (Nat.lt_of_lt_of_le (show nx + 4 < m2 by omega) (Nat.le_add_right _ _)) (by omega)).trans c2
      have k3 : Kept (∀ j, j < nx → j ≠ rid → H3 j = H j) := fun j e1 e2 => (k3' j (Nat.lt_of_lt_of_le (show j < m2 by omega) (Nat.le_add_right _ _)) e2).trans (k2 j e1 e2)
      clear hm3' k3' k2 b2 c2 g2
      repeat' (first | ((with_reducible first | refine wA (by omega) ?_ | refine wB (by omega) ?_ | refine wC (by omega) ?_ | refine wD (by omega) ?_ | refine wE ?_ ?_ | refine wF ?_ ?_ | refine wG ?_ ?_ | refine wH ?_ ?_ | refine wI ?_ ?_ | refine wJ ?_ ?_ | refine wK ?_ ?_ | refine wL ?_ ?_) <;> intro _) | simp (maxSteps := 1000000) (disch := omega) only [go_sem, seval, *])
      refine fin_mut (.agg [.sc (.int .i64 (1 : Nat)), .sc (.int .i64 ((numF s2).1 : Nat)), .sc (.string ⟨#[]⟩), .sc (.slice none 0 0), .sc (.slice none 0 0)]) (.inr rfl) cE2 ⟨by simp only [Nat.add_assoc]; exact Nat.le_trans (by omega) (Nat.le_add_right _ _), ⟨0, tm0_weak _ _ _ [] [] (.nil 3) (.nil 5)⟩, upd_out (by omega) (upd_out (by omega) g3), fun j e1 e2 => upd_out (by omega) (upd_out (by omega) (k3 j e1 e2))⟩
    · rw [if_neg (by decide), if_pos rfl]
      simp only
      have c2 := b3
      clear b3
      repeat' (first | ((with_reducible first | refine wA (by omega) ?_ | refine wB (by omega) ?_ | refine wC (by omega) ?_ | refine wD (by omega) ?_ | refine wE ?_ ?_ | refine wF ?_ ?_ | refine wG ?_ ?_ | refine wH ?_ ?_ | refine wI ?_ ?_ | refine wJ ?_ ?_ | refine wK ?_ ?_ | refine wL ?_ ?_) <;> intro _) | simp (maxSteps := 1000000) (disch := omega) only [go_sem, seval, *])
      refine call_mut (levels_m (level_step fuel) (level_shrink fuel) (level_m fuel) 1 (by decide) s2 hrdy hl2 rid w _ _ (Nat.lt_of_lt_of_le (show rid < m2 by omega) (Nat.le_add_right _ _)) (g2)) ?_
      rintro H3 m3 r3 ⟨hm3', rfl, g3, k3'⟩ -
      have hm3 : m2 ≤ m3 := Nat.le_trans (Nat.le_add_right _ _) hm3'
      have b3 : H3 nx = some ⟨[.sc (.int .i64 0), .sc (.int .i64 0), .sc (.string ⟨#[]⟩), .sc (.slice none 0 0), .sc (.slice none 0 0)], true⟩ := (k3' nx (Nat.lt_of_lt_of_le (show nx < m2 by omega) (Nat.le_add_right _ _)) (by omega)).trans (b2)
      have c3 : H3 (nx + 4) = some ⟨[.sc (.int .i64 (2 : Nat)), .sc (.int .i64 0), .sc (.string ⟨#[]⟩), .sc (.slice none 0 0), .sc (.slice none 0 0)], true⟩ := (k3' (nx + 4) (Nat.lt_of_lt_of_le (show nx + 4 < m2 by omega) (Nat.le_add_right _ _)) (by omega)).trans c2
      have k3 : Kept (∀ j, j < nx → j ≠ rid → H3 j = H j) := fun j e1 e2 => (k3' j (Nat.lt_of_lt_of_le (show j < m2 by omega) (Nat.le_add_right _ _)) e2).trans (k2 j e1 e2)
      clear hm3' k3' k2 b2 c2 g2
      repeat' (first | ((with_reducible first | refine wA (by omega) ?_ | refine wB (by omega) ?_ | refine wC (by omega) ?_ | refine wD (by omega) ?_ | refine wE ?_ ?_ | refine wF ?_ ?_ | refine wG ?_ ?_ | refine wH ?_ ?_ | refine wI ?_ ?_ | refine wJ ?_ ?_ | refine wK ?_ ?_ | refine wL ?_ ?_) <;> intro _) | simp (maxSteps := 1000000) (disch := omega) only [go_sem, seval, *])
      refine fin_mut (.agg [.sc (.int .i64 (2 : Nat)), .sc (.int .i64 0), .sc (.string ⟨#[]⟩), .sl 3 ((repF (levelF fuel) 1 s2).1.map Lv.pv), .sc (.slice none 0 0)]) (.inr rfl) cE2 ⟨by simp only [Nat.add_assoc]; exact Nat.le_trans (by omega) (Nat.le_add_right _ _), ⟨0, tm0_weak _ _ _ _ [] (.refl _) (.nil 5)⟩, upd_out (by omega) (upd_out (by omega) g3), fun j e1 e2 => upd_out (by omega) (upd_out (by omega) (k3 j e1 e2))⟩
    · rw [if_neg (by decide), if_neg (by decide), if_pos rfl]
      simp only
      have c2 := b3
      clear b3
      have n1 : Step s2 (nameF s2).2 := .name hrdy.top
      have hrdy3 := n1.rdy hrdy
      have n2 : Step (nameF s2).2 (numF (nameF s2).2).2 := .num hrdy3.top
      have hrdy4 := n2.rdy hrdy3
      have hl3 : (nameF s2).2.l.length ≤ 2 ^ 40 := Nat.le_trans (nameF_len s2) hl2
      have hl4 : (numF (nameF s2).2).2.l.length ≤ 2 ^ 40 := Nat.le_trans (numF_len _) hl3
      clear n1 n2
      repeat' (first | ((with_reducible first | refine wA (by omega) ?_ | refine wB (by omega) ?_ | refine wC (by omega) ?_ | refine wD (by omega) ?_ | refine wE ?_ ?_ | refine wF ?_ ?_ | refine wG ?_ ?_ | refine wH ?_ ?_ | refine wI ?_ ?_ | refine wJ ?_ ?_ | refine wK ?_ ?_ | refine wL ?_ ?_) <;> intro _) | simp (maxSteps := 1000000) (disch := omega) only [go_sem, seval, *])
      refine call_mut (name_m s2 hl2 rid w _ _ (Nat.lt_of_lt_of_le (show rid < m2 by omega) (Nat.le_add_right _ _)) (g2)) ?_
      rintro H3 m3 r3 ⟨hm3', rfl, g3, k3'⟩ -
      have hm3 : m2 ≤ m3 := Nat.le_trans (Nat.le_add_right _ _) hm3'
      have b3 : H3 nx = some ⟨[.sc (.int .i64 0), .sc (.int .i64 0), .sc (.string ⟨#[]⟩), .sc (.slice none 0 0), .sc (.slice none 0 0)], true⟩ := (k3' nx (Nat.lt_of_lt_of_le (show nx < m2 by omega) (Nat.le_add_right _ _)) (by omega)).trans (b2)
      have c3 : H3 (nx + 4) = some ⟨[.sc (.int .i64 (3 : Nat)), .sc (.int .i64 0), .sc (.string ⟨#[]⟩), .sc (.slice none 0 0), .sc (.slice none 0 0)], true⟩ := (k3' (nx + 4) (Nat.lt_of_lt_of_le (show nx + 4 < m2 by omega) (Nat.le_add_right _ _)) (by omega)).trans c2
      have k3 : Kept (∀ j, j < nx → j ≠ rid → H3 j = H j) := fun j e1 e2 => (k3' j (Nat.lt_of_lt_of_le (show j < m2 by omega) (Nat.le_add_right _ _)) e2).trans (k2 j e1 e2)
      clear hm3' k3' k2 b2 c2 g2
      repeat' (first | ((with_reducible first | refine wA (by omega) ?_ | refine wB (by omega) ?_ | refine wC (by omega) ?_ | refine wD (by omega) ?_ | refine wE ?_ ?_ | refine wF ?_ ?_ | refine wG ?_ ?_ | refine wH ?_ ?_ | refine wI ?_ ?_ | refine wJ ?_ ?_ | refine wK ?_ ?_ | refine wL ?_ ?_) <;> intro _) | simp (maxSteps := 1000000) (disch := omega) only [go_sem, seval, *])
      refine call_mut (number_m (nameF s2).2 hl3 rid w _ _ (Nat.lt_of_lt_of_le (show rid < m3 by omega) (Nat.le_add_right _ _)) (upd_out (by omega) (g3))) ?_
      rintro H4 m4 r4 ⟨hm4', rfl, g4, k4'⟩ -
      have hm4 : m3 ≤ m4 := Nat.le_trans (Nat.le_add_right _ _) hm4'
      have b4 : H4 nx = some ⟨[.sc (.int .i64 0), .sc (.int .i64 0), .sc (.string ⟨#[]⟩), .sc (.slice none 0 0), .sc (.slice none 0 0)], true⟩ := (k4' nx (Nat.lt_of_lt_of_le (show nx < m3 by omega) (Nat.le_add_right _ _)) (by omega)).trans (upd_out (by omega) (b3))
      have c4 : H4 (nx + 4) = some ⟨[.sc (.int .i64 (3 : Nat)), .sc (.int .i64 0), .sc (.string (nameF s2).1), .sc (.slice none 0 0), .sc (.slice none 0 0)], true⟩ := (k4' (nx + 4) (Nat.lt_of_lt_of_le (show nx + 4 < m3 by omega) (Nat.le_add_right _ _)) (by omega)).trans (upd_same _ _ _)
      have k4 : Kept (∀ j, j < nx → j ≠ rid → H4 j = H j) := fun j e1 e2 => (k4' j (Nat.lt_of_lt_of_le (show j < m3 by omega) (Nat.le_add_right _ _)) e2).trans (upd_out (by omega) (k3 j e1 e2))
      clear hm4' k4' k3 b3 c3 g3
      have hmin : min (((numF (nameF s2).2).1 : Nat) : Int) 5 = ((min (numF (nameF s2).2).1 5 : Nat) : Int) := by omega
      generalize (numF (nameF s2).2).1 = c at *
      generalize (numF (nameF s2).2).2 = s4 at *
      generalize (nameF s2).1 = nm at *
      repeat' (first | ((with_reducible first | refine wA (by omega) ?_ | refine wB (by omega) ?_ | refine wC (by omega) ?_ | refine wD (by omega) ?_ | refine wE ?_ ?_ | refine wF ?_ ?_ | refine wG ?_ ?_ | refine wH ?_ ?_ | refine wI ?_ ?_ | refine wJ ?_ ?_ | refine wK ?_ ?_ | refine wL ?_ ?_) <;> intro _) | simp (maxSteps := 1000000) (disch := omega) only [go_sem, seval, *])
      refine call_mut (levels_m (level_step fuel) (level_shrink fuel) (level_m fuel) (min c 5) (by omega) s4 hrdy4 hl4 rid w _ _ (Nat.lt_of_lt_of_le (show rid < m4 by omega) (Nat.le_refl _)) g4) ?_
      rintro H5 m5 r5 ⟨hm5', rfl, g5, k5'⟩ -
      have hm5 : m4 ≤ m5 := hm5'
      have b5 : H5 nx = some ⟨[.sc (.int .i64 0), .sc (.int .i64 0), .sc (.string ⟨#[]⟩), .sc (.slice none 0 0), .sc (.slice none 0 0)], true⟩ := (k5' nx (Nat.lt_of_lt_of_le (show nx < m4 by omega) (Nat.le_refl _)) (by omega)).trans (b4)
      have c5 : H5 (nx + 4) = some ⟨[.sc (.int .i64 (3 : Nat)), .sc (.int .i64 0), .sc (.string nm), .sc (.slice none 0 0), .sc (.slice none 0 0)], true⟩ := (k5' (nx + 4) (Nat.lt_of_lt_of_le (show nx + 4 < m4 by omega) (Nat.le_refl _)) (by omega)).trans c4
      have k5 : Kept (∀ j, j < nx → j ≠ rid → H5 j = H j) := fun j e1 e2 => (k5' j (Nat.lt_of_lt_of_le (show j < m4 by omega) (Nat.le_refl _)) e2).trans (k4 j e1 e2)
      clear hm5' k5' k4 b4 c4 g4
      repeat' (first | ((with_reducible first | refine wA (by omega) ?_ | refine wB (by omega) ?_ | refine wC (by omega) ?_ | refine wD (by omega) ?_ | refine wE ?_ ?_ | refine wF ?_ ?_ | refine wG ?_ ?_ | refine wH ?_ ?_ | refine wI ?_ ?_ | refine wJ ?_ ?_ | refine wK ?_ ?_ | refine wL ?_ ?_) <;> intro _) | simp (maxSteps := 1000000) (disch := omega) only [go_sem, seval, *])
      refine fin_mut (.agg [.sc (.int .i64 (3 : Nat)), .sc (.int .i64 0), .sc (.string nm), .sl 3 ((repF (levelF fuel) (min c 5) s4).1.map Lv.pv), .sc (.slice none 0 0)]) (.inr rfl) cE2 ⟨by simp only [Nat.add_assoc]; exact Nat.le_trans (by omega) (Nat.le_add_right _ _), ⟨0, tm0_weak _ _ _ _ [] (.refl _) (.nil 5)⟩, upd_out (by omega) (upd_out (by omega) g5), fun j e1 e2 => upd_out (by omega) (upd_out (by omega) (k5 j e1 e2))⟩
    · rw [if_neg (by decide), if_neg (by decide), if_neg (by decide), if_pos (.inl rfl)]
      simp only
      have c2 := b3
      clear b3
      repeat' (first | ((with_reducible first | refine wA (by omega) ?_ | refine wB (by omega) ?_ | refine wC (by omega) ?_ | refine wD (by omega) ?_ | refine wE ?_ ?_ | refine wF ?_ ?_ | refine wG ?_ ?_ | refine wH ?_ ?_ | refine wI ?_ ?_ | refine wJ ?_ ?_ | refine wK ?_ ?_ | refine wL ?_ ?_) <;> intro _) | simp (maxSteps := 1000000) (disch := omega) only [go_sem, seval, *])
      refine call_mut (terms_m (term_step fuel) (term_shrink fuel) ih 2 (by decide) s2 hrdy hl2 rid w _ _ (Nat.lt_of_lt_of_le (show rid < m2 by omega) (Nat.le_add_right _ _)) (g2)) ?_
      rintro H3 m3 r3 ⟨hm3', rfl, g3, k3'⟩ -
      have hm3 : m2 ≤ m3 := Nat.le_trans (Nat.le_add_right _ _) hm3'
      have b3 : H3 nx = some ⟨[.sc (.int .i64 0), .sc (.int .i64 0), .sc (.string ⟨#[]⟩), .sc (.slice none 0 0), .sc (.slice none 0 0)], true⟩ := (k3' nx (Nat.lt_of_lt_of_le (show nx < m2 by omega) (Nat.le_add_right _ _)) (by omega)).trans (b2)
      have c3 : H3 (nx + 4) = some ⟨[.sc (.int .i64 (4 : Nat)), .sc (.int .i64 0), .sc (.string ⟨#[]⟩), .sc (.slice none 0 0), .sc (.slice none 0 0)], true⟩ := (k3' (nx + 4) (Nat.lt_of_lt_of_le (show nx + 4 < m2 by omega) (Nat.le_add_right _ _)) (by omega)).trans c2
      have k3 : Kept (∀ j, j < nx → j ≠ rid → H3 j = H j) := fun j e1 e2 => (k3' j (Nat.lt_of_lt_of_le (show j < m2 by omega) (Nat.le_add_right _ _)) e2).trans (k2 j e1 e2)
      clear hm3' k3' k2 b2 c2 g2
      repeat' (first | ((with_reducible first | refine wA (by omega) ?_ | refine wB (by omega) ?_ | refine wC (by omega) ?_ | refine wD (by omega) ?_ | refine wE ?_ ?_ | refine wF ?_ ?_ | refine wG ?_ ?_ | refine wH ?_ ?_ | refine wI ?_ ?_ | refine wJ ?_ ?_ | refine wK ?_ ?_ | refine wL ?_ ?_) <;> intro _) | simp (maxSteps := 1000000) (disch := omega) only [go_sem, seval, *])
      refine fin_mut (.agg [.sc (.int .i64 (4 : Nat)), .sc (.int .i64 0), .sc (.string ⟨#[]⟩), .sc (.slice none 0 0), .sl 5 ((repF (termF fuel) 2 s2).1.map Tm.pv)]) (.inr rfl) cE2 ⟨by simp only [Nat.add_assoc]; exact Nat.le_trans (by omega) (Nat.le_add_right _ _), ⟨0, tm0_weak _ _ _ [] _ (.nil 3) (.refl _)⟩, upd_out (by omega) (upd_out (by omega) g3), fun j e1 e2 => upd_out (by omega) (upd_out (by omega) (k3 j e1 e2))⟩
    · rw [if_neg (by decide), if_neg (by decide), if_neg (by decide), if_pos (.inr (.inl rfl))]
      simp only
      have c2 := b3
      clear b3
      repeat' (first | ((with_reducible first | refine wA (by omega) ?_ | refine wB (by omega) ?_ | refine wC (by omega) ?_ | refine wD (by omega) ?_ | refine wE ?_ ?_ | refine wF ?_ ?_ | refine wG ?_ ?_ | refine wH ?_ ?_ | refine wI ?_ ?_ | refine wJ ?_ ?_ | refine wK ?_ ?_ | refine wL ?_ ?_) <;> intro _) | simp (maxSteps := 1000000) (disch := omega) only [go_sem, seval, *])
      refine call_mut (terms_m (term_step fuel) (term_shrink fuel) ih 2 (by decide) s2 hrdy hl2 rid w _ _ (Nat.lt_of_lt_of_le (show rid < m2 by omega) (Nat.le_add_right _ _)) (g2)) ?_
      rintro H3 m3 r3 ⟨hm3', rfl, g3, k3'⟩ -
      have hm3 : m2 ≤ m3 := Nat.le_trans (Nat.le_add_right _ _) hm3'
      have b3 : H3 nx = some ⟨[.sc (.int .i64 0), .sc (.int .i64 0), .sc (.string ⟨#[]⟩), .sc (.slice none 0 0), .sc (.slice none 0 0)], true⟩ := (k3' nx (Nat.lt_of_lt_of_le (show nx < m2 by omega) (Nat.le_add_right _ _)) (by omega)).trans (b2)
      have c3 : H3 (nx + 4) = some ⟨[.sc (.int .i64 (5 : Nat)), .sc (.int .i64 0), .sc (.string ⟨#[]⟩), .sc (.slice none 0 0), .sc (.slice none 0 0)], true⟩ := (k3' (nx + 4) (Nat.lt_of_lt_of_le (show nx + 4 < m2 by omega) (Nat.le_add_right _ _)) (by omega)).trans c2
      have k3 : Kept (∀ j, j < nx → j ≠ rid → H3 j = H j) := fun j e1 e2 => (k3' j (Nat.lt_of_lt_of_le (show j < m2 by omega) (Nat.le_add_right _ _)) e2).trans (k2 j e1 e2)
      clear hm3' k3' k2 b2 c2 g2
      repeat' (first | ((with_reducible first | refine wA (by omega) ?_ | refine wB (by omega) ?_ | refine wC (by omega) ?_ | refine wD (by omega) ?_ | refine wE ?_ ?_ | refine wF ?_ ?_ | refine wG ?_ ?_ | refine wH ?_ ?_ | refine wI ?_ ?_ | refine wJ ?_ ?_ | refine wK ?_ ?_ | refine wL ?_ ?_) <;> intro _) | simp (maxSteps := 1000000) (disch := omega) only [go_sem, seval, *])
      refine fin_mut (.agg [.sc (.int .i64 (5 : Nat)), .sc (.int .i64 0), .sc (.string ⟨#[]⟩), .sc (.slice none 0 0), .sl 5 ((repF (termF fuel) 2 s2).1.map Tm.pv)]) (.inr rfl) cE2 ⟨by simp only [Nat.add_assoc]; exact Nat.le_trans (by omega) (Nat.le_add_right _ _), ⟨0, tm0_weak _ _ _ [] _ (.nil 3) (.refl _)⟩, upd_out (by omega) (upd_out (by omega) g3), fun j e1 e2 => upd_out (by omega) (upd_out (by omega) (k3 j e1 e2))⟩
    · rw [if_neg (by decide), if_neg (by decide), if_neg (by decide), if_pos (.inr (.inr rfl))]
      simp only
      have c2 := b3
      clear b3
      repeat' (first | ((with_reducible first | refine wA (by omega) ?_ | refine wB (by omega) ?_ | refine wC (by omega) ?_ | refine wD (by omega) ?_ | refine wE ?_ ?_ | refine wF ?_ ?_ | refine wG ?_ ?_ | refine wH ?_ ?_ | refine wI ?_ ?_ | refine wJ ?_ ?_ | refine wK ?_ ?_ | refine wL ?_ ?_) <;> intro _) | simp (maxSteps := 1000000) (disch := omega) only [go_sem, seval, *])
      refine call_mut (terms_m (term_step fuel) (term_shrink fuel) ih 2 (by decide) s2 hrdy hl2 rid w _ _ (Nat.lt_of_lt_of_le (show rid < m2 by omega) (Nat.le_add_right _ _)) (g2)) ?_
      rintro H3 m3 r3 ⟨hm3', rfl, g3, k3'⟩ -
      have hm3 : m2 ≤ m3 := Nat.le_trans (Nat.le_add_right _ _) hm3'
      have b3 : H3 nx = some ⟨[.sc (.int .i64 0), .sc (.int .i64 0), .sc (.string ⟨#[]⟩), .sc (.slice none 0 0), .sc (.slice none 0 0)], true⟩ := (k3' nx (Nat.lt_of_lt_of_le (show nx < m2 by omega) (Nat.le_add_right _ _)) (by omega)).trans (b2)
      have c3 : H3 (nx + 4) = some ⟨[.sc (.int .i64 (6 : Nat)), .sc (.int .i64 0), .sc (.string ⟨#[]⟩), .sc (.slice none 0 0), .sc (.slice none 0 0)], true⟩ := (k3' (nx + 4) (Nat.lt_of_lt_of_le (show nx + 4 < m2 by omega) (Nat.le_add_right _ _)) (by omega)).trans c2
      have k3 : Kept (∀ j, j < nx → j ≠ rid → H3 j = H j) := fun j e1 e2 => (k3' j (Nat.lt_of_lt_of_le (show j < m2 by omega) (Nat.le_add_right _ _)) e2).trans (k2 j e1 e2)
      clear hm3' k3' k2 b2 c2 g2
      repeat' (first | ((with_reducible first | refine wA (by omega) ?_ | refine wB (by omega) ?_ | refine wC (by omega) ?_ | refine wD (by omega) ?_ | refine wE ?_ ?_ | refine wF ?_ ?_ | refine wG ?_ ?_ | refine wH ?_ ?_ | refine wI ?_ ?_ | refine wJ ?_ ?_ | refine wK ?_ ?_ | refine wL ?_ ?_) <;> intro _) | simp (maxSteps := 1000000) (disch := omega) only [go_sem, seval, *])
      refine fin_mut (.agg [.sc (.int .i64 (6 : Nat)), .sc (.int .i64 0), .sc (.string ⟨#[]⟩), .sc (.slice none 0 0), .sl 5 ((repF (termF fuel) 2 s2).1.map Tm.pv)]) (.inr rfl) cE2 ⟨by simp only [Nat.add_assoc]; exact Nat.le_trans (by omega) (Nat.le_add_right _ _), ⟨0, tm0_weak _ _ _ [] _ (.nil 3) (.refl _)⟩, upd_out (by omega) (upd_out (by omega) g3), fun j e1 e2 => upd_out (by omega) (upd_out (by omega) (k3 j e1 e2))⟩
    · rw [if_neg (by decide), if_neg (by decide), if_neg (by decide), if_neg (by decide), if_pos rfl]
      simp only
      have c2 := b3
      clear b3
      repeat' (first | ((with_reducible first | refine wA (by omega) ?_ | refine wB (by omega) ?_ | refine wC (by omega) ?_ | refine wD (by omega) ?_ | refine wE ?_ ?_ | refine wF ?_ ?_ | refine wG ?_ ?_ | refine wH ?_ ?_ | refine wI ?_ ?_ | refine wJ ?_ ?_ | refine wK ?_ ?_ | refine wL ?_ ?_) <;> intro _) | simp (maxSteps := 1000000) (disch := omega) only [go_sem, seval, *])
      refine call_mut (terms_m (term_step fuel) (term_shrink fuel) ih 3 (by decide) s2 hrdy hl2 rid w _ _ (Nat.lt_of_lt_of_le (show rid < m2 by omega) (Nat.le_add_right _ _)) (g2)) ?_
      rintro H3 m3 r3 ⟨hm3', rfl, g3, k3'⟩ -
      have hm3 : m2 ≤ m3 := Nat.le_trans (Nat.le_add_right _ _) hm3'
      have b3 : H3 nx = some ⟨[.sc (.int .i64 0), .sc (.int .i64 0), .sc (.string ⟨#[]⟩), .sc (.slice none 0 0), .sc (.slice none 0 0)], true⟩ := (k3' nx (Nat.lt_of_lt_of_le (show nx < m2 by omega) (Nat.le_add_right _ _)) (by omega)).trans (b2)
      have c3 : H3 (nx + 4) = some ⟨[.sc (.int .i64 (7 : Nat)), .sc (.int .i64 0), .sc (.string ⟨#[]⟩), .sc (.slice none 0 0), .sc (.slice none 0 0)], true⟩ := (k3' (nx + 4) (Nat.lt_of_lt_of_le (show nx + 4 < m2 by omega) (Nat.le_add_right _ _)) (by omega)).trans c2
      have k3 : Kept (∀ j, j < nx → j ≠ rid → H3 j = H j) := fun j e1 e2 => (k3' j (Nat.lt_of_lt_of_le (show j < m2 by omega) (Nat.le_add_right _ _)) e2).trans (k2 j e1 e2)
      clear hm3' k3' k2 b2 c2 g2
      repeat' (first | ((with_reducible first | refine wA (by omega) ?_ | refine wB (by omega) ?_ | refine wC (by omega) ?_ | refine wD (by omega) ?_ | refine wE ?_ ?_ | refine wF ?_ ?_ | refine wG ?_ ?_ | refine wH ?_ ?_ | refine wI ?_ ?_ | refine wJ ?_ ?_ | refine wK ?_ ?_ | refine wL ?_ ?_) <;> intro _) | simp (maxSteps := 1000000) (disch := omega) only [go_sem, seval, *])
      refine fin_mut (.agg [.sc (.int .i64 (7 : Nat)), .sc (.int .i64 0), .sc (.string ⟨#[]⟩), .sc (.slice none 0 0), .sl 5 ((repF (termF fuel) 3 s2).1.map Tm.pv)]) (.inr rfl) cE2 ⟨by simp only [Nat.add_assoc]; exact Nat.le_trans (by omega) (Nat.le_add_right _ _), ⟨0, tm0_weak _ _ _ [] _ (.nil 3) (.refl _)⟩, upd_out (by omega) (upd_out (by omega) g3), fun j e1 e2 => upd_out (by omega) (upd_out (by omega) (k3 j e1 e2))⟩
    · rw [if_neg h1, if_neg h2, if_neg h3, if_neg (by omega), if_neg h7]
      simp only
      obtain ⟨l2, no2, ba2⟩ := s2
      simp only [rdC] at g2
      repeat' (first | ((with_reducible first | refine wA (by omega) ?_ | refine wB (by omega) ?_ | refine wC (by omega) ?_ | refine wD (by omega) ?_ | refine wE ?_ ?_ | refine wF ?_ ?_ | refine wG ?_ ?_ | refine wH ?_ ?_ | refine wI ?_ ?_ | refine wJ ?_ ?_ | refine wK ?_ ?_ | refine wL ?_ ?_) <;> intro _) | simp (maxSteps := 1000000) (disch := omega) only [go_sem, seval, *])
      refine fin_mut (.agg [.sc (.int .i64 (k : Nat)), .sc (.int .i64 0), .sc (.string ⟨#[]⟩), .sc (.slice none 0 0), .sc (.slice none 0 0)]) (.inr rfl) cE2 ⟨by simp only [Nat.add_assoc]; exact Nat.le_trans (by omega) (Nat.le_add_right _ _), ⟨0, tm0_weak _ _ _ [] [] (.nil 3) (.nil 5)⟩, ?_, fun j e1 e2 => ?_⟩
      · simp [upd, rdC, show rid ≠ nx by omega]
      · simp only [upd, e2, show j ≠ nx by omega, if_false]; exact k2 j e1 e2
end
section
set_option maxRecDepth 20000
attribute [local go_sem] pv_len pv_take id_ne id_ne' id_ne2 List.append_assoc
def txt (s : ByteArray) : List PV := [.sc (.string s)]
end
section
set_option maxRecDepth 20000
attribute [local go_sem] pv_len pv_take Nat.add_assoc tm_len tm_take pv_one tm_one id_ne id_ne' id_ne2 List.append_assoc tm_take_app tm_drop_app
structure Ent where
  kind : Int
  params : Int
  name : ByteArray
  typ : Tm
  val : Tm
  height : Int
  family : ByteArray
  fixed : Int
  index : Int
  fields : Int
  ctors : List ByteArray
def Ent.pv (e : Ent) : List PV := .sc (.int .i64 e.kind) :: .sc (.int .i64 e.params) :: .sc (.string e.name) :: (e.typ.pv ++ (e.val.pv ++ [.sc (.int .i64 e.height), .sc (.string e.family), .sc (.int .i64 e.fixed), .sc (.int .i64 e.index), .sc (.int .i64 e.fields), .sl 1 (e.ctors.map txt)]))
theorem ent_len (e : Ent) : e.pv.length = 19 := by simp [Ent.pv, tm_len]
attribute [local go_sem] ent_len
theorem ent_take (e : Ent) : e.pv.take 19 = e.pv := List.take_of_length_le (by rw [ent_len]; omega)
attribute [local go_sem] ent_take
theorem ent_one (e : Ent) : e.pv.all PV.one = true := by simp [Ent.pv, tm_one, PV.one]
attribute [local go_sem] ent_one
theorem tm_d6 (t : Tm) (r : List PV) : (t.pv ++ r).drop 6 = r.drop 1 := by rw [show 6 = 5 + 1 by rfl, ← List.drop_drop, List.drop_left' (tm_len t)]
attribute [local go_sem] tm_d6
theorem tm_d7 (t : Tm) (r : List PV) : (t.pv ++ r).drop 7 = r.drop 2 := by rw [show 7 = 5 + 2 by rfl, ← List.drop_drop, List.drop_left' (tm_len t)]
attribute [local go_sem] tm_d7
theorem tm_d8 (t : Tm) (r : List PV) : (t.pv ++ r).drop 8 = r.drop 3 := by rw [show 8 = 5 + 3 by rfl, ← List.drop_drop, List.drop_left' (tm_len t)]
attribute [local go_sem] tm_d8
theorem tm_d9 (t : Tm) (r : List PV) : (t.pv ++ r).drop 9 = r.drop 4 := by rw [show 9 = 5 + 4 by rfl, ← List.drop_drop, List.drop_left' (tm_len t)]
attribute [local go_sem] tm_d9
theorem tm_d10 (t : Tm) (r : List PV) : (t.pv ++ r).drop 10 = r.drop 5 := by rw [show 10 = 5 + 5 by rfl, ← List.drop_drop, List.drop_left' (tm_len t)]
attribute [local go_sem] tm_d10
theorem tm_d11 (t : Tm) (r : List PV) : (t.pv ++ r).drop 11 = r.drop 6 := by rw [show 11 = 5 + 6 by rfl, ← List.drop_drop, List.drop_left' (tm_len t)]
theorem tm_d12 (t : Tm) (r : List PV) : (t.pv ++ r).drop 12 = r.drop 7 := by rw [show 12 = 5 + 7 by rfl, ← List.drop_drop, List.drop_left' (tm_len t)]
theorem tm_d13 (t : Tm) (r : List PV) : (t.pv ++ r).drop 13 = r.drop 8 := by rw [show 13 = 5 + 8 by rfl, ← List.drop_drop, List.drop_left' (tm_len t)]
theorem tm_d14 (t : Tm) (r : List PV) : (t.pv ++ r).drop 14 = r.drop 9 := by rw [show 14 = 5 + 9 by rfl, ← List.drop_drop, List.drop_left' (tm_len t)]
theorem tm_d15 (t : Tm) (r : List PV) : (t.pv ++ r).drop 15 = r.drop 10 := by rw [show 15 = 5 + 10 by rfl, ← List.drop_drop, List.drop_left' (tm_len t)]
mutual
theorem dlv_false : ∀ l : Lv, l.pvB false = l.pv
  | .mk k n args => by simp only [Lv.pvB, Lv.pv, slB, dlvs_false args]; rfl
theorem dlvs_false : ∀ ls : List Lv, ls.map (Lv.pvB false) = ls.map Lv.pv
  | [] => rfl
  | x :: r => by rw [List.map_cons, List.map_cons, dlv_false x, dlvs_false r]
end
mutual
theorem dtv_false : ∀ t : Tm, t.pvB false = t.pv
  | .mk k n s ls args => by simp only [Tm.pvB, Tm.pv, slB, dlvs_false ls, dtvs_false args]; rfl
theorem dtvs_false : ∀ ts : List Tm, ts.map (Tm.pvB false) = ts.map Tm.pv
  | [] => rfl
  | x :: r => by rw [List.map_cons, List.map_cons, dtv_false x, dtvs_false r]
end
def noTm : Tm := .mk 0 0 emp [] []
def noughtB (t : Tm) : Bool := t.same noTm
def valueB (e : Ent) : Bool := if e.kind = 2 ∨ e.kind = 3 ∨ e.kind = 4 then e.val.right e.params 0 else if e.kind = 6 then noughtB e.val || e.val.right (min (e.params + 1) 4) 0 else noughtB e.val
def heightB (e : Ent) : Bool := if e.kind = 2 then decide (1 ≤ e.height) && decide (e.height ≤ 1048576) else decide (e.height = 0)
end
section
set_option maxRecDepth 20000
attribute [local go_sem] pv_len pv_take Nat.add_assoc tm_len tm_take pv_one tm_one id_ne id_ne' id_ne2 List.append_assoc tm_take_app tm_drop_app tm_d6 tm_d7 tm_d8 tm_d9 tm_d10 tm_d11 tm_d12 tm_d13 tm_d14 tm_d15 ent_len ent_take ent_one
def spanB (n most : Int) : Bool := decide (0 ≤ n) && decide (n ≤ most)
def most1 (kind : Int) : Int := if kind = 6 ∨ kind = 7 then 32 else if kind = 5 then 16 else 0
def most2 (kind : Int) : Int := if kind = 6 ∨ kind = 7 then 32 else 0
def familyB (e : Ent) : Bool := (spanB e.fixed (most1 e.kind) && (spanB e.index (most2 e.kind) && spanB e.fields (most2 e.kind))) && (if e.kind = 6 ∨ e.kind = 7 then nameB e.family else noS e.family)
def ctorsB (e : Ent) : Bool := if e.kind = 5 ∨ e.kind = 7 then decide (e.ctors.length ≤ 8) && e.ctors.all nameB else decide (e.ctors.length = 0)
def Ent.right (e : Ent) : Bool := decide (1 ≤ e.kind) && (decide (e.kind ≤ 7) && (nameB e.name && (decide (0 ≤ e.params) && (decide (e.params ≤ 4) && (e.typ.right e.params 0 && (valueB e && (heightB e && (familyB e && ctorsB e))))))))
end
section
set_option maxRecDepth 20000
attribute [local go_sem] pv_len pv_take Nat.add_assoc tm_len tm_take pv_one tm_one id_ne id_ne' id_ne2 List.append_assoc tm_take_app tm_drop_app tm_d6 tm_d7 tm_d8 tm_d9 tm_d10 tm_d11 tm_d12 tm_d13 tm_d14 tm_d15 ent_len ent_take ent_one
structure Ctr where
  name : ByteArray
  typ : Tm
def Ctr.pv (c : Ctr) : List PV := .sc (.string c.name) :: c.typ.pv
theorem ctr_len (c : Ctr) : c.pv.length = 6 := by simp [Ctr.pv, tm_len]
structure Dcl where
  kind : Int
  params : Int
  name : ByteArray
  typ : Tm
  val : Tm
  fixed : Int
  ctors : List Ctr
def Dcl.pv (d : Dcl) : List PV := .sc (.int .i64 d.kind) :: .sc (.int .i64 d.params) :: .sc (.string d.name) :: (d.typ.pv ++ (d.val.pv ++ [.sc (.int .i64 d.fixed), .sl 6 (d.ctors.map Ctr.pv)]))
theorem dcl_len (d : Dcl) : d.pv.length = 15 := by simp [Dcl.pv, tm_len]
theorem dcl_take (d : Dcl) : d.pv.take 15 = d.pv := List.take_of_length_le (by rw [dcl_len]; omega)
theorem noValue_p (d : Dcl) : PPure Try.prog F.pack_noValue [.ptr d.pv] (.sc (.bool (noughtB d.val))) := by
  obtain ⟨kind, params, name, typ, val, fixed, ctors⟩ := d
  refine pure_by is_pack_noValue (by simp) rfl fun hb nx => ?_
  clear hb
  have c1 : PPure Try.prog F.term_Same [.agg val.pv, .agg [.sc (.int .i64 0), .sc (.int .i64 0), .sc (.string ⟨#[]⟩), .sc (.slice none 0 0), .sc (.slice none 0 0)]] (.sc (.bool (noughtB val))) := by
    have h := tSame_p val noTm false true rfl
    refine h.weak ⟨.of_eq (by rw [dtv_false]), ?_, trivial⟩ (.refl _)
    simp only [noTm, Tm.pvB, List.map_nil]
    exact Weak.agg ⟨.refl _, .refl _, .refl _, .nilB true 3, .nilB true 5, trivial⟩
  repeat' (first | ((with_reducible first | refine wA (by omega) ?_ | refine wB (by omega) ?_ | refine wC (by omega) ?_ | refine wD (by omega) ?_ | refine wE ?_ ?_ | refine wF ?_ ?_ | refine wG ?_ ?_ | refine wH ?_ ?_ | refine wI ?_ ?_ | refine wJ ?_ ?_ | refine wK ?_ ?_ | refine wL ?_ ?_) <;> intro _) | (((with_reducible refine call_id ?_); (first | (refine call_pure (c1) ?_)))) | simp (maxSteps := 1000000) (disch := omega) only [go_sem, seval, mc_pack_noValue, Dcl.pv, *])
  all_goals (exact fin_tmp (.inr rfl) cE3)
def noFamB (d : Dcl) : Bool := decide (d.fixed = 0) && decide (d.ctors.length = 0)
theorem noFamily_p (d : Dcl) : PPure Try.prog F.pack_noFamily [.ptr d.pv] (.sc (.bool (noFamB d))) := by
  obtain ⟨kind, params, name, typ, val, fixed, ctors⟩ := d
  refine pure_by is_pack_noFamily (by simp) rfl fun hb nx => ?_
  clear hb
  simp only [noFamB]
  repeat' (first | ((with_reducible first | refine wA (by omega) ?_ | refine wB (by omega) ?_ | refine wC (by omega) ?_ | refine wD (by omega) ?_ | refine wE ?_ ?_ | refine wF ?_ ?_ | refine wG ?_ ?_ | refine wH ?_ ?_ | refine wI ?_ ?_ | refine wJ ?_ ?_ | refine wK ?_ ?_ | refine wL ?_ ?_) <;> intro _) | simp (maxSteps := 1000000) (disch := omega) only [go_sem, seval, mc_pack_noFamily, Dcl.pv, *])
  all_goals (refine fin_tmp (.inr rfl) ?_; simp [upd, *] <;> (intros; omega))
def ctrB (params : Int) (c : Ctr) : Bool := nameB c.name && c.typ.right params 0
def famB (d : Dcl) : Bool := spanB d.fixed 16 && (decide (d.ctors.length ≤ 8) && d.ctors.all (ctrB d.params))
set_option maxHeartbeats 4000000 in
theorem pfamily_p (d : Dcl) : PPure Try.prog F.pack_family [.ptr d.pv] (.sc (.bool (famB d))) := by
  obtain ⟨kind, params, name, typ, val, fixed, ctors⟩ := d
  refine pure_by is_pack_family (by simp) rfl fun hb nx => ?_
  clear hb
  simp only [famB, spanB]
  by_cases h : 0 ≤ fixed ∧ fixed ≤ 16 ∧ ctors.length ≤ 8
  · obtain ⟨h0, h1, h2⟩ := h
    rw [decide_eq_true h0, decide_eq_true h1, decide_eq_true h2]
    simp only [Bool.true_and]
    repeat' (first | ((with_reducible first | refine wA (by omega) ?_ | refine wB (by omega) ?_ | refine wC (by omega) ?_ | refine wD (by omega) ?_ | refine wE ?_ ?_ | refine wF ?_ ?_ | refine wG ?_ ?_ | refine wH ?_ ?_ | refine wI ?_ ?_ | refine wJ ?_ ?_ | refine wK ?_ ?_ | refine wL ?_ ?_) <;> intro _) | simp (maxSteps := 1000000) (disch := omega) only [go_sem, seval, mc_pack_family, Dcl.pv, *])
    refine c_loopW 576460751766552588 (by kernel_rfl) (fun j f H m => ∃ i : Nat, j = ctors.length - i ∧ i ≤ ctors.length ∧ f 29 = .sc (.int .i64 i) ∧ Kept ((ctors.take i).all (ctrB params) = true)) _ ⟨0, rfl, Nat.zero_le _, cE1, Kept.mk rfl⟩ ?_
    rintro _ f H m ⟨i, rfl, hi, e29, hs⟩
    by_cases hlt : i < ctors.length
    · have eg : ctors[i]? = some ctors[i] := List.getElem?_eq_getElem hlt
      have c1 := name_Right_p ctors[i].name
      have c2 := tRightG_p ctors[i].typ params 0
      cases hc : ctrB params ctors[i] with
      | false =>
        have e : ctors.all (ctrB params) = false := by
          rw [Bool.eq_false_iff]
          intro h
          have := List.all_eq_true.1 h _ (List.getElem_mem hlt)
          rw [hc] at this
          cases this
        rw [e]
        clear e hs
        cases hn : nameB ctors[i].name with
        | false =>
          rw [hn] at c1
          clear hn hc c2
          repeat' (first | ((with_reducible first | refine wA (by omega) ?_ | refine wB (by omega) ?_ | refine wC (by omega) ?_ | refine wD (by omega) ?_ | refine wE ?_ ?_ | refine wF ?_ ?_ | refine wG ?_ ?_ | refine wH ?_ ?_ | refine wI ?_ ?_ | refine wJ ?_ ?_ | refine wK ?_ ?_ | refine wL ?_ ?_) <;> intro _) | (((with_reducible refine call_id ?_); (first | (refine call_pure (c1) ?_)))) | simp (maxSteps := 1000000) (disch := omega) only [go_sem, seval, Ctr.pv, *])
          all_goals (exact fin_tmp (.inr rfl) cE3)
        | true =>
          have hr : ctors[i].typ.right params 0 = false := by simpa [ctrB, hn] using hc
          rw [hn] at c1
          rw [hr] at c2
          clear hn hc hr
          repeat' (first | ((with_reducible first | refine wA (by omega) ?_ | refine wB (by omega) ?_ | refine wC (by omega) ?_ | refine wD (by omega) ?_ | refine wE ?_ ?_ | refine wF ?_ ?_ | refine wG ?_ ?_ | refine wH ?_ ?_ | refine wI ?_ ?_ | refine wJ ?_ ?_ | refine wK ?_ ?_ | refine wL ?_ ?_) <;> intro _) | (((with_reducible refine call_id ?_); (first | (refine call_pure (c1) ?_) | (refine call_pure (c2) ?_)))) | simp (maxSteps := 1000000) (disch := omega) only [go_sem, seval, Ctr.pv, *])
          all_goals (exact fin_tmp (.inr rfl) cE3)
      | true =>
        have h3 : nameB ctors[i].name = true ∧ ctors[i].typ.right params 0 = true := by simpa [ctrB] using hc
        rw [h3.1] at c1
        rw [h3.2] at c2
        have hs2 : Kept ((ctors.take (i + 1)).all (ctrB params) = true) := Kept.mk (by rw [List.take_succ_eq_append_getElem hlt, List.all_append, hs.out, List.all_cons, hc]; rfl)
        clear h3 hc hs
        repeat' (first | ((with_reducible first | refine wA (by omega) ?_ | refine wB (by omega) ?_ | refine wC (by omega) ?_ | refine wD (by omega) ?_ | refine wE ?_ ?_ | refine wF ?_ ?_ | refine wG ?_ ?_ | refine wH ?_ ?_ | refine wI ?_ ?_ | refine wJ ?_ ?_ | refine wK ?_ ?_ | refine wL ?_ ?_) <;> intro _) | (((with_reducible refine call_id ?_); (first | (refine call_pure (c1) ?_) | (refine call_pure (c2) ?_)))) | simp (maxSteps := 1000000) (disch := omega) only [go_sem, seval, Ctr.pv, *])
        exact Nx.mk (ctors.length - (i + 1)) cE1 ⟨i + 1, rfl, cE1, by simp [upd], hs2⟩
    · obtain rfl : i = ctors.length := by omega
      have h3 := hs.out
      rw [List.take_length] at h3
      rw [h3]
      clear hs h3
      repeat' (first | ((with_reducible first | refine wA (by omega) ?_ | refine wB (by omega) ?_ | refine wC (by omega) ?_ | refine wD (by omega) ?_ | refine wE ?_ ?_ | refine wF ?_ ?_ | refine wG ?_ ?_ | refine wH ?_ ?_ | refine wI ?_ ?_ | refine wJ ?_ ?_ | refine wK ?_ ?_ | refine wL ?_ ?_) <;> intro _) | simp (maxSteps := 1000000) (disch := omega) only [go_sem, seval, *])
      all_goals (exact fin_tmp (.inr rfl) cE3)
  · have e : (decide (0 ≤ fixed) && decide (fixed ≤ 16) && (decide (ctors.length ≤ 8) && ctors.all (ctrB params))) = false := by
      rw [Bool.eq_false_iff]
      intro h2
      simp only [Bool.and_eq_true, decide_eq_true_eq] at h2
      exact h ⟨h2.1.1, h2.1.2, h2.2.1⟩
    rw [e]
    clear e
    have h9 : fixed < 0 ∨ (0 ≤ fixed ∧ 16 < fixed) ∨ (0 ≤ fixed ∧ fixed ≤ 16 ∧ 8 < ctors.length) := by omega
    clear h
    rcases h9 with h | ⟨h, h2⟩ | ⟨h, h2, h3⟩
    all_goals
      repeat' (first | ((with_reducible first | refine wA (by omega) ?_ | refine wB (by omega) ?_ | refine wC (by omega) ?_ | refine wD (by omega) ?_ | refine wE ?_ ?_ | refine wF ?_ ?_ | refine wG ?_ ?_ | refine wH ?_ ?_ | refine wI ?_ ?_ | refine wJ ?_ ?_ | refine wK ?_ ?_ | refine wL ?_ ?_) <;> intro _) | simp (maxSteps := 1000000) (disch := omega) only [go_sem, seval, mc_pack_family, Dcl.pv, *])
      all_goals (exact fin_tmp (.inr rfl) cE3)
def Dcl.formed (d : Dcl) : Bool := decide (0 ≤ d.params) && (decide (d.params ≤ 4) && (nameB d.name && (d.typ.right d.params 0 && (if d.kind = 1 then noughtB d.val && noFamB d else if d.kind = 2 ∨ d.kind = 3 ∨ d.kind = 4 then d.val.right d.params 0 && noFamB d else if d.kind = 5 then noughtB d.val && famB d else false))))
set_option maxHeartbeats 16000000 in
theorem formed11_p (d : Dcl) : PPure Try.prog F.pack_Formed [.agg d.pv] (.sc (.bool d.formed)) := by
  refine pure_by is_pack_Formed (by simp) rfl fun hb nx => ?_
  clear hb
  have c1 := name_Right_p d.name
  have c2 := tRightG_p d.typ d.params 0
  have c3 := noValue_p d
  have c4 := noFamily_p d
  have c5 := pfamily_p d
  have c6 := tRightG_p d.val d.params 0
  simp only [Dcl.formed]
  generalize noughtB d.val = b3 at c3
  generalize noFamB d = b4 at c4
  generalize famB d = b5 at c5
  obtain ⟨kind, params, name, typ, val, fixed, ctors⟩ := d
  simp only [Dcl.pv] at c1 c2 c3 c4 c5 c6 ⊢
  generalize nameB name = b1 at c1
  generalize typ.right params 0 = b2 at c2
  generalize val.right params 0 = b6 at c6
  by_cases hp : 0 ≤ params ∧ params ≤ 4
  rotate_left
  · have h9 : params < 0 ∨ (0 ≤ params ∧ 4 < params) := by omega
    clear hp c2 c3 c4 c5 c6
    rcases h9 with h | ⟨h, h2⟩
    all_goals
      cases b1
      all_goals
        repeat' (first | ((with_reducible first | refine wA (by omega) ?_ | refine wB (by omega) ?_ | refine wC (by omega) ?_ | refine wD (by omega) ?_ | refine wE ?_ ?_ | refine wF ?_ ?_ | refine wG ?_ ?_ | refine wH ?_ ?_ | refine wI ?_ ?_ | refine wJ ?_ ?_ | refine wK ?_ ?_ | refine wL ?_ ?_) <;> intro _) | (((with_reducible refine call_id ?_); (first | (refine call_pure (c1) ?_)))) | simp (maxSteps := 1000000) (disch := omega) only [go_sem, seval, mc_pack_Formed, *])
        all_goals (refine fin_tmp (.inr rfl) ?_; simp [upd, *] <;> (intros; omega))
  obtain ⟨h0, h4⟩ := hp
  cases b1 with
  | false =>
    repeat' (first | ((with_reducible first | refine wA (by omega) ?_ | refine wB (by omega) ?_ | refine wC (by omega) ?_ | refine wD (by omega) ?_ | refine wE ?_ ?_ | refine wF ?_ ?_ | refine wG ?_ ?_ | refine wH ?_ ?_ | refine wI ?_ ?_ | refine wJ ?_ ?_ | refine wK ?_ ?_ | refine wL ?_ ?_) <;> intro _) | (((with_reducible refine call_id ?_); (first | (refine call_pure (c1) ?_)))) | simp (maxSteps := 1000000) (disch := omega) only [go_sem, seval, mc_pack_Formed, *])
    all_goals (refine fin_tmp (.inr rfl) ?_; simp [upd, *] <;> (intros; omega))
  | true =>
  cases b2 with
  | false =>
    repeat' (first | ((with_reducible first | refine wA (by omega) ?_ | refine wB (by omega) ?_ | refine wC (by omega) ?_ | refine wD (by omega) ?_ | refine wE ?_ ?_ | refine wF ?_ ?_ | refine wG ?_ ?_ | refine wH ?_ ?_ | refine wI ?_ ?_ | refine wJ ?_ ?_ | refine wK ?_ ?_ | refine wL ?_ ?_) <;> intro _) | (((with_reducible refine call_id ?_); (first | (refine call_pure (c1) ?_) | (refine call_pure (c2) ?_)))) | simp (maxSteps := 1000000) (disch := omega) only [go_sem, seval, mc_pack_Formed, *])
    all_goals (refine fin_tmp (.inr rfl) ?_; simp [upd, *] <;> (intros; omega))
  | true =>
  have hk : kind = 1 ∨ (kind = 2 ∨ kind = 3 ∨ kind = 4) ∨ kind = 5 ∨ (kind ≠ 1 ∧ kind ≠ 2 ∧ kind ≠ 3 ∧ kind ≠ 4 ∧ kind ≠ 5) := by omega
  rcases hk with rfl | (rfl | rfl | rfl) | rfl | ⟨k1, k2, k3, k4, k5⟩
  · cases b3
    all_goals
      repeat' (first | ((with_reducible first | refine wA (by omega) ?_ | refine wB (by omega) ?_ | refine wC (by omega) ?_ | refine wD (by omega) ?_ | refine wE ?_ ?_ | refine wF ?_ ?_ | refine wG ?_ ?_ | refine wH ?_ ?_ | refine wI ?_ ?_ | refine wJ ?_ ?_ | refine wK ?_ ?_ | refine wL ?_ ?_) <;> intro _) | (((with_reducible refine call_id ?_); (first | (refine call_pure (c1) ?_) | (refine call_pure (c2) ?_) | (refine call_pure (c3) ?_) | (refine call_pure (c4) ?_)))) | simp (maxSteps := 1000000) (disch := omega) only [go_sem, seval, mc_pack_Formed, *])
      all_goals (refine fin_tmp (.inr rfl) ?_; simp [upd, *] <;> (intros; omega))
  · cases b6
    all_goals
      repeat' (first | ((with_reducible first | refine wA (by omega) ?_ | refine wB (by omega) ?_ | refine wC (by omega) ?_ | refine wD (by omega) ?_ | refine wE ?_ ?_ | refine wF ?_ ?_ | refine wG ?_ ?_ | refine wH ?_ ?_ | refine wI ?_ ?_ | refine wJ ?_ ?_ | refine wK ?_ ?_ | refine wL ?_ ?_) <;> intro _) | (((with_reducible refine call_id ?_); (first | (refine call_pure (c1) ?_) | (refine call_pure (c2) ?_) | (refine call_pure (c6) ?_) | (refine call_pure (c4) ?_)))) | simp (maxSteps := 1000000) (disch := omega) only [go_sem, seval, mc_pack_Formed, *])
      all_goals (refine fin_tmp (.inr rfl) ?_; simp [upd, *] <;> (intros; omega))
  · cases b6
    all_goals
      repeat' (first | ((with_reducible first | refine wA (by omega) ?_ | refine wB (by omega) ?_ | refine wC (by omega) ?_ | refine wD (by omega) ?_ | refine wE ?_ ?_ | refine wF ?_ ?_ | refine wG ?_ ?_ | refine wH ?_ ?_ | refine wI ?_ ?_ | refine wJ ?_ ?_ | refine wK ?_ ?_ | refine wL ?_ ?_) <;> intro _) | (((with_reducible refine call_id ?_); (first | (refine call_pure (c1) ?_) | (refine call_pure (c2) ?_) | (refine call_pure (c6) ?_) | (refine call_pure (c4) ?_)))) | simp (maxSteps := 1000000) (disch := omega) only [go_sem, seval, mc_pack_Formed, *])
      all_goals (refine fin_tmp (.inr rfl) ?_; simp [upd, *] <;> (intros; omega))
  · cases b6
    all_goals
      repeat' (first | ((with_reducible first | refine wA (by omega) ?_ | refine wB (by omega) ?_ | refine wC (by omega) ?_ | refine wD (by omega) ?_ | refine wE ?_ ?_ | refine wF ?_ ?_ | refine wG ?_ ?_ | refine wH ?_ ?_ | refine wI ?_ ?_ | refine wJ ?_ ?_ | refine wK ?_ ?_ | refine wL ?_ ?_) <;> intro _) | (((with_reducible refine call_id ?_); (first | (refine call_pure (c1) ?_) | (refine call_pure (c2) ?_) | (refine call_pure (c6) ?_) | (refine call_pure (c4) ?_)))) | simp (maxSteps := 1000000) (disch := omega) only [go_sem, seval, mc_pack_Formed, *])
      all_goals (refine fin_tmp (.inr rfl) ?_; simp [upd, *] <;> (intros; omega))
  · cases b3
    all_goals
      repeat' (first | ((with_reducible first | refine wA (by omega) ?_ | refine wB (by omega) ?_ | refine wC (by omega) ?_ | refine wD (by omega) ?_ | refine wE ?_ ?_ | refine wF ?_ ?_ | refine wG ?_ ?_ | refine wH ?_ ?_ | refine wI ?_ ?_ | refine wJ ?_ ?_ | refine wK ?_ ?_ | refine wL ?_ ?_) <;> intro _) | (((with_reducible refine call_id ?_); (first | (refine call_pure (c1) ?_) | (refine call_pure (c2) ?_) | (refine call_pure (c3) ?_) | (refine call_pure (c5) ?_)))) | simp (maxSteps := 1000000) (disch := omega) only [go_sem, seval, mc_pack_Formed, *])
      all_goals (refine fin_tmp (.inr rfl) ?_; simp [upd, *] <;> (intros; omega))
  · repeat' (first | ((with_reducible first | refine wA (by omega) ?_ | refine wB (by omega) ?_ | refine wC (by omega) ?_ | refine wD (by omega) ?_ | refine wE ?_ ?_ | refine wF ?_ ?_ | refine wG ?_ ?_ | refine wH ?_ ?_ | refine wI ?_ ?_ | refine wJ ?_ ?_ | refine wK ?_ ?_ | refine wL ?_ ?_) <;> intro _) | (((with_reducible refine call_id ?_); (first | (refine call_pure (c1) ?_) | (refine call_pure (c2) ?_)))) | simp (maxSteps := 1000000) (disch := omega) only [go_sem, seval, mc_pack_Formed, *])
    all_goals (refine fin_tmp (.inr rfl) ?_; simp [upd, *] <;> (intros; omega))
end
section
set_option maxRecDepth 20000
attribute [local go_sem] Nat.add_assoc id_ne id_ne' id_ne2 List.append_assoc tm_len tm_take tm_one tm_take_app tm_drop_app tm_d6 tm_d7 tm_d8 tm_d9 tm_d10 tm_d11 tm_d12 tm_d13 tm_d14 tm_d15 o_callmF List.all_append
theorem o_ldoR {P : Program} {b : Bool} {id : Nat} {d : Option Nat} {K : St → Prop} {s : St} {x : Operand} {k sz : Nat} {ag : Bool} : opG P b id ⟨d, .ldo x [k] sz ag, none⟩ K s = valP (if apartP (ev s x) (s.s k) = true then (loadP s (ev s x) sz).bind fun cs => if ag then some (.agg cs) else if sz = 1 then cs.head? else none else none) d K s := by
  rw [o_ldo]
  simp only [List.all_cons, List.all_nil, Bool.and_true]
attribute [local go_sem] o_ldoR
theorem apartR {i j a b : Nat} : apartP (.optr i a) (.optr j b) = decide (i ≠ j) := rfl
attribute [local go_sem] apartR
theorem call_rdF {f : FuncId} {rid : Nat} {w : Bool} {s' : RS} {x : PV} {d : Option Nat} {K : St → Prop} {st : St} (h : PMut Try.prog f [.optr rid 0] st.H st.nx (RdQ st.H st.nx rid w s' x))
    (hk : ∀ H' nx' r, RdQ st.H st.nx rid w s' x H' nx' r → st.nx ≤ nx' → K (put { st with H := H', nx := nx' } d r)) : callE Try.prog f [.optr rid 0] (some (.optr rid 0)) d K st :=
  call_mutF h ⟨upd st.H rid (some ⟨rdC s', w⟩), st.nx, x, ⟨Nat.le_refl _, rfl, upd_same _ _ _, fun j _ h2 => upd_ne _ _ h2⟩, Nat.le_refl _, fun j _ hno => upd_ne _ _ fun e => hno (by subst e; exact .inl ⟨0, rfl⟩)⟩
    (fun H' nx' r hq j hj hno => hq.2.2.2 j hj fun e => hno (by subst e; exact .inl ⟨0, rfl⟩)) hk
def wholeF (s : RS) : Tm × RS := termF 2001 ⟨s.l, 0, s.bad⟩
theorem whole_rdy (s : RS) : Rdy 2001 ⟨s.l, 0, s.bad⟩ := .inr ⟨Int.le_refl _, by show (0 : Int) ≤ 2000; omega, by show (2001 : Int) ≤ 2001 + 0; omega⟩
theorem whole_shrink (s : RS) : (wholeF s).2.l.length ≤ s.l.length := term_shrink 2001 _
set_option maxHeartbeats 8000000 in
theorem whole_m (s : RS) (hl : s.l.length ≤ 2 ^ 40) (rid : Nat) (w : Bool) (H : Nat → Option PObj) (nx : Nat) (hr : rid < nx) (hH : H rid = some ⟨rdC s, w⟩) :
    PMut Try.prog F.pack_reader_whole [.optr rid 0] H nx (RdQ H nx rid w (wholeF s).2 (.agg (wholeF s).1.pv)) := by
  obtain ⟨l, nodes, bad⟩ := s
  have hrd := whole_rdy ⟨l, nodes, bad⟩
  refine mut_by is_pack_reader_whole (by simp) fun hb => ?_
  clear hb
  simp only [rdC] at hH
  unfold wholeF
  have hlen := tm_len (termF 2001 ⟨l, 0, bad⟩).1
  repeat' (first | ((with_reducible first | refine wA (by omega) ?_ | refine wB (by omega) ?_ | refine wC (by omega) ?_ | refine wD (by omega) ?_ | refine wE ?_ ?_ | refine wF ?_ ?_ | refine wG ?_ ?_ | refine wH ?_ ?_ | refine wI ?_ ?_ | refine wJ ?_ ?_ | refine wK ?_ ?_ | refine wL ?_ ?_) <;> intro _) | simp (maxSteps := 1000000) (disch := omega) only [go_sem, seval, mc_pack_reader_whole, *])
  refine call_mut (term_m 2001 ⟨l, 0, bad⟩ hrd hl rid w _ _ (Nat.lt_of_lt_of_le hr (Nat.le_add_right _ _)) (by simp [upd, rdC])) ?_
  rintro H1 m1 r1 ⟨hm1', rfl, g1, k1'⟩ -
  have hm1 : nx + 8 ≤ m1 := hm1'
  have b1 : H1 nx = some ⟨[.sc (.int .i64 0), .sc (.int .i64 0), .sc (.string ⟨#[]⟩), .sc (.slice none 0 0), .sc (.slice none 0 0)], true⟩ := (k1' nx (Nat.lt_add_of_pos_right (by decide)) (by omega)).trans (by simp [upd, show nx ≠ rid by omega])
  have k1 : Kept (∀ j, j < nx → j ≠ rid → H1 j = H j) := fun j e1 e2 => (k1' j (Nat.lt_of_lt_of_le e1 (Nat.le_add_right _ _)) e2).trans (by simp [upd, e2, show j ≠ nx by omega])
  clear hm1' k1' hH
  generalize (termF 2001 ⟨l, 0, bad⟩).1 = t at *
  repeat' (first | ((with_reducible first | refine wA (by omega) ?_ | refine wB (by omega) ?_ | refine wC (by omega) ?_ | refine wD (by omega) ?_ | refine wE ?_ ?_ | refine wF ?_ ?_ | refine wG ?_ ?_ | refine wH ?_ ?_ | refine wI ?_ ?_ | refine wJ ?_ ?_ | refine wK ?_ ?_ | refine wL ?_ ?_) <;> intro _) | simp (maxSteps := 1000000) (disch := omega) only [go_sem, seval, *])
  refine fin_mut (.agg t.pv) (.inr rfl) cE2 ⟨Nat.le_trans (show nx ≤ m1 by omega) (Nat.le_refl _), rfl, upd_out (by omega) g1, fun j e1 e2 => upd_out (by omega) (k1 j e1 e2)⟩
end
section
set_option maxRecDepth 20000
attribute [local go_sem] Nat.add_assoc id_ne id_ne' id_ne2 List.append_assoc tm_len tm_take tm_one tm_take_app tm_drop_app tm_d6 tm_d7 tm_d8 tm_d9 tm_d10 tm_d11 tm_d12 tm_d13 tm_d14 tm_d15 o_callmF o_ldoR apartR List.all_append
def ctorF (s : RS) : Ctr × RS := (⟨(nameF s).1, (wholeF (nameF s).2).1⟩, (wholeF (nameF s).2).2)
def declF (s : RS) : Dcl × RS :=
  if (numF s).1 = 2 ∨ (numF s).1 = 3 ∨ (numF s).1 = 4 then
    (⟨(numF s).1, (numF (nameF (numF s).2).2).1, (nameF (numF s).2).1, (wholeF (numF (nameF (numF s).2).2).2).1, (wholeF (wholeF (numF (nameF (numF s).2).2).2).2).1, 0, []⟩, (wholeF (wholeF (numF (nameF (numF s).2).2).2).2).2)
  else if (numF s).1 = 5 then
    (⟨(numF s).1, (numF (nameF (numF s).2).2).1, (nameF (numF s).2).1, (wholeF (numF (nameF (numF s).2).2).2).1, .mk 0 0 noStr [] [], (numF (wholeF (numF (nameF (numF s).2).2).2).2).1,
        (repF ctorF (min (numF (numF (wholeF (numF (nameF (numF s).2).2).2).2).2).1 9) (numF (numF (wholeF (numF (nameF (numF s).2).2).2).2).2).2).1⟩,
      (repF ctorF (min (numF (numF (wholeF (numF (nameF (numF s).2).2).2).2).2).1 9) (numF (numF (wholeF (numF (nameF (numF s).2).2).2).2).2).2).2)
  else (⟨(numF s).1, (numF (nameF (numF s).2).2).1, (nameF (numF s).2).1, (wholeF (numF (nameF (numF s).2).2).2).1, .mk 0 0 noStr [] [], 0, []⟩, (wholeF (numF (nameF (numF s).2).2).2).2)
theorem ctor_shrink (s : RS) : (ctorF s).2.l.length ≤ s.l.length := Nat.le_trans (whole_shrink _) (nameF_len s)
theorem tm_y7 (t : Tm) (r : List PV) : (t.pv ++ r).take 7 = t.pv ++ r.take 2 := by rw [List.take_append, tm_len, List.take_of_length_le (by rw [tm_len]; omega)]
attribute [local go_sem] tm_y7
theorem tm_y6 (t : Tm) (r : List PV) : (t.pv ++ r).take 6 = t.pv ++ r.take 1 := by rw [List.take_append, tm_len, List.take_of_length_le (by rw [tm_len]; omega)]
attribute [local go_sem] tm_y6
theorem tm_y12 (t : Tm) (r : List PV) : (t.pv ++ r).take 12 = t.pv ++ r.take 7 := by rw [List.take_append, tm_len, List.take_of_length_le (by rw [tm_len]; omega)]
attribute [local go_sem] tm_y12
theorem tm_y11 (t : Tm) (r : List PV) : (t.pv ++ r).take 11 = t.pv ++ r.take 6 := by rw [List.take_append, tm_len, List.take_of_length_le (by rw [tm_len]; omega)]
attribute [local go_sem] tm_y11
theorem tm_y10 (t : Tm) (r : List PV) : (t.pv ++ r).take 10 = t.pv ++ r.take 5 := by rw [List.take_append, tm_len, List.take_of_length_le (by rw [tm_len]; omega)]
attribute [local go_sem] tm_y10
theorem dcl_tell (G : Nat → Bool) (H : Nat → Option PObj) {k p : Int} {nm : ByteArray} {ty val : Tm} {v : List PV} {fx : Int} {a : PV} {ctors : List Ctr} (hv : immL v = true) (hw : WeakL v val.pv) (ha : Weak (frgF G 1 H a) (.sl 6 (ctors.map Ctr.pv))) :
    Weak (frgF G 2 H (.agg (.sc (.int .i64 k) :: .sc (.int .i64 p) :: .sc (.string nm) :: (ty.pv ++ (v ++ [.sc (.int .i64 fx), a]))))) (.agg (Dcl.mk k p nm ty val fx ctors).pv) := by
  have e : frgF G 2 H (.agg (.sc (.int .i64 k) :: .sc (.int .i64 p) :: .sc (.string nm) :: (ty.pv ++ (v ++ [.sc (.int .i64 fx), a])))) = .agg (.sc (.int .i64 k) :: .sc (.int .i64 p) :: .sc (.string nm) :: (ty.pv ++ (v ++ [.sc (.int .i64 fx), frgF G 1 H a]))) := by
    simp only [frgF, List.map_cons, List.map_append, List.map_nil, frgF_immL G H 1 ty.pv (tm_imm ty), frgF_immL G H 1 v hv]
  rw [e]
  simp only [Dcl.pv]
  exact Weak.agg ⟨.refl _, .refl _, .refl _, WeakL.append (WeakL.refl _) (WeakL.append hw ⟨.refl _, ha, trivial⟩)⟩
theorem z5_imm : immL ([.sc (.int .i64 0), .sc (.int .i64 0), .sc (.string ⟨#[]⟩), .sc (.slice none 0 0), .sc (.slice none 0 0)] : List PV) = true := rfl
theorem z5_weak : WeakL [.sc (.int .i64 0), .sc (.int .i64 0), .sc (.string ⟨#[]⟩), .sc (.slice none 0 0), .sc (.slice none 0 0)] (Tm.mk 0 0 noStr [] []).pv := by
  simp only [Tm.pv]
  exact ⟨.refl _, .refl _, .refl _, .nil 3, .nil 5, trivial⟩
theorem frg_nil6 (G : Nat → Bool) (H : Nat → Option PObj) : Weak (frgF G 1 H (.sc (.slice none 0 0))) (.sl 6 (([] : List Ctr).map Ctr.pv)) := .nil 6
theorem ctr_lenZ (c : Ctr) : c.pv.length = 6 := ctr_len c
attribute [local go_sem] ctr_lenZ
set_option maxHeartbeats 32000000 in
theorem decl_m (s : RS) (hl : s.l.length ≤ 2 ^ 40) (rid : Nat) (w : Bool) (H : Nat → Option PObj) (nx : Nat) (hr : rid < nx) (hH : H rid = some ⟨rdC s, w⟩) :
    PMut Try.prog F.pack_reader_decl [.optr rid 0] H nx (RdQ H nx rid w (declF s).2 (.agg (declF s).1.pv)) := by
  refine rd_tell is_pack_reader_decl.enters hr ?_
  refine mut_by is_pack_reader_decl (by simp) fun hb => ?_
  clear hb
  unfold declF
  have hl1 : (numF s).2.l.length ≤ 2 ^ 40 := Nat.le_trans (numF_len s) hl
  have hl2 : (nameF (numF s).2).2.l.length ≤ 2 ^ 40 := Nat.le_trans (nameF_len _) hl1
  have hl3 : (numF (nameF (numF s).2).2).2.l.length ≤ 2 ^ 40 := Nat.le_trans (numF_len _) hl2
  have hl4 : (wholeF (numF (nameF (numF s).2).2).2).2.l.length ≤ 2 ^ 40 := Nat.le_trans (whole_shrink _) hl3
  repeat' (first | ((with_reducible first | refine wA (by omega) ?_ | refine wB (by omega) ?_ | refine wC (by omega) ?_ | refine wD (by omega) ?_ | refine wE ?_ ?_ | refine wF ?_ ?_ | refine wG ?_ ?_ | refine wH ?_ ?_ | refine wI ?_ ?_ | refine wJ ?_ ?_ | refine wK ?_ ?_ | refine wL ?_ ?_) <;> intro _) | simp (maxSteps := 1000000) (disch := omega) only [go_sem, seval, mc_pack_reader_decl, *])
  refine call_mut (number_m s hl rid w _ _ (Nat.lt_of_lt_of_le hr (Nat.le_add_right _ _)) (upd_out (by omega) hH)) ?_
  rintro H1 m1 r1 ⟨hm1', rfl, g1, k1'⟩ -
  have hm1 : nx + 12 ≤ m1 := hm1'
  have b1 : H1 nx = some ⟨[.sc (.int .i64 0), .sc (.int .i64 0), .sc (.string ⟨#[]⟩), .sc (.int .i64 0), .sc (.int .i64 0), .sc (.string ⟨#[]⟩), .sc (.slice none 0 0), .sc (.slice none 0 0), .sc (.int .i64 0), .sc (.int .i64 0), .sc (.string ⟨#[]⟩), .sc (.slice none 0 0), .sc (.slice none 0 0), .sc (.int .i64 0), .sc (.slice none 0 0)], true⟩ := (k1' nx (Nat.lt_add_of_pos_right (by decide)) (by omega)).trans (upd_same _ _ _)
  have k1 : Kept (∀ j, j < nx → j ≠ rid → H1 j = H j) := fun j e1 e2 => (k1' j (Nat.lt_of_lt_of_le e1 (Nat.le_add_right _ _)) e2).trans (upd_ne _ _ (by omega))
  clear hm1' k1' hH
  generalize (numF s).1 = k at *
  generalize (numF s).2 = s1 at *
  repeat' (first | ((with_reducible first | refine wA (by omega) ?_ | refine wB (by omega) ?_ | refine wC (by omega) ?_ | refine wD (by omega) ?_ | refine wE ?_ ?_ | refine wF ?_ ?_ | refine wG ?_ ?_ | refine wH ?_ ?_ | refine wI ?_ ?_ | refine wJ ?_ ?_ | refine wK ?_ ?_ | refine wL ?_ ?_) <;> intro _) | simp (maxSteps := 1000000) (disch := omega) only [go_sem, seval, *])
  refine call_mut (name_m s1 hl1 rid w _ _ (show rid < m1 by omega) g1) ?_
  rintro H2 m2 r2 ⟨hm2', rfl, g2, k2'⟩ -
  have hm2 : m1 ≤ m2 := Nat.le_trans (Nat.le_refl _) hm2'
  have b2 : H2 nx = some ⟨[.sc (.int .i64 0), .sc (.int .i64 0), .sc (.string ⟨#[]⟩), .sc (.int .i64 0), .sc (.int .i64 0), .sc (.string ⟨#[]⟩), .sc (.slice none 0 0), .sc (.slice none 0 0), .sc (.int .i64 0), .sc (.int .i64 0), .sc (.string ⟨#[]⟩), .sc (.slice none 0 0), .sc (.slice none 0 0), .sc (.int .i64 0), .sc (.slice none 0 0)], true⟩ := (k2' nx (Nat.lt_of_lt_of_le (show nx < m1 by omega) (Nat.le_refl _)) (by omega)).trans (b1)
  have k2 : Kept (∀ j, j < nx → j ≠ rid → H2 j = H j) := fun j e1 e2 => (k2' j (Nat.lt_of_lt_of_le (show j < m1 by omega) (Nat.le_refl _)) e2).trans (k1 j e1 e2)
  clear hm2' k2' k1 b1 g1
  generalize (nameF s1).1 = nm at *
  generalize (nameF s1).2 = s2 at *
  repeat' (first | ((with_reducible first | refine wA (by omega) ?_ | refine wB (by omega) ?_ | refine wC (by omega) ?_ | refine wD (by omega) ?_ | refine wE ?_ ?_ | refine wF ?_ ?_ | refine wG ?_ ?_ | refine wH ?_ ?_ | refine wI ?_ ?_ | refine wJ ?_ ?_ | refine wK ?_ ?_ | refine wL ?_ ?_) <;> intro _) | simp (maxSteps := 1000000) (disch := omega) only [go_sem, seval, *])
  refine call_mut (number_m s2 hl2 rid w _ _ (show rid < m2 by omega) g2) ?_
  rintro H3 m3 r3 ⟨hm3', rfl, g3, k3'⟩ -
  have hm3 : m2 ≤ m3 := Nat.le_trans (Nat.le_refl _) hm3'
  have b3 : H3 nx = some ⟨[.sc (.int .i64 0), .sc (.int .i64 0), .sc (.string ⟨#[]⟩), .sc (.int .i64 0), .sc (.int .i64 0), .sc (.string ⟨#[]⟩), .sc (.slice none 0 0), .sc (.slice none 0 0), .sc (.int .i64 0), .sc (.int .i64 0), .sc (.string ⟨#[]⟩), .sc (.slice none 0 0), .sc (.slice none 0 0), .sc (.int .i64 0), .sc (.slice none 0 0)], true⟩ := (k3' nx (Nat.lt_of_lt_of_le (show nx < m2 by omega) (Nat.le_refl _)) (by omega)).trans (b2)
  have k3 : Kept (∀ j, j < nx → j ≠ rid → H3 j = H j) := fun j e1 e2 => (k3' j (Nat.lt_of_lt_of_le (show j < m2 by omega) (Nat.le_refl _)) e2).trans (k2 j e1 e2)
  clear hm3' k3' k2 b2 g2
  generalize (numF s2).1 = p at *
  generalize (numF s2).2 = s3 at *
  repeat' (first | ((with_reducible first | refine wA (by omega) ?_ | refine wB (by omega) ?_ | refine wC (by omega) ?_ | refine wD (by omega) ?_ | refine wE ?_ ?_ | refine wF ?_ ?_ | refine wG ?_ ?_ | refine wH ?_ ?_ | refine wI ?_ ?_ | refine wJ ?_ ?_ | refine wK ?_ ?_ | refine wL ?_ ?_) <;> intro _) | simp (maxSteps := 1000000) (disch := omega) only [go_sem, seval, *])
  refine call_mut (whole_m s3 hl3 rid w _ _ (show rid < m3 by omega) g3) ?_
  rintro H4 m4 r4 ⟨hm4', rfl, g4, k4'⟩ -
  have hm4 : m3 ≤ m4 := Nat.le_trans (Nat.le_refl _) hm4'
  have b4 : H4 nx = some ⟨[.sc (.int .i64 0), .sc (.int .i64 0), .sc (.string ⟨#[]⟩), .sc (.int .i64 0), .sc (.int .i64 0), .sc (.string ⟨#[]⟩), .sc (.slice none 0 0), .sc (.slice none 0 0), .sc (.int .i64 0), .sc (.int .i64 0), .sc (.string ⟨#[]⟩), .sc (.slice none 0 0), .sc (.slice none 0 0), .sc (.int .i64 0), .sc (.slice none 0 0)], true⟩ := (k4' nx (Nat.lt_of_lt_of_le (show nx < m3 by omega) (Nat.le_refl _)) (by omega)).trans (b3)
  have k4 : Kept (∀ j, j < nx → j ≠ rid → H4 j = H j) := fun j e1 e2 => (k4' j (Nat.lt_of_lt_of_le (show j < m3 by omega) (Nat.le_refl _)) e2).trans (k3 j e1 e2)
  clear hm4' k4' k3 b3 g3
  generalize (wholeF s3).1 = ty at *
  generalize (wholeF s3).2 = s4 at *
  clear hl1 hl2 hl3
  have hty := tm_len ty
  obtain h | rfl | h : (k = 2 ∨ k = 3 ∨ k = 4) ∨ k = 5 ∨ (k ≠ 2 ∧ k ≠ 3 ∧ k ≠ 4 ∧ k ≠ 5) := by omega
  · rw [if_pos h]
    simp only
    obtain rfl | rfl | rfl := h
    · repeat' (first | ((with_reducible first | refine wA (by omega) ?_ | refine wB (by omega) ?_ | refine wC (by omega) ?_ | refine wD (by omega) ?_ | refine wE ?_ ?_ | refine wF ?_ ?_ | refine wG ?_ ?_ | refine wH ?_ ?_ | refine wI ?_ ?_ | refine wJ ?_ ?_ | refine wK ?_ ?_ | refine wL ?_ ?_) <;> intro _) | simp (maxSteps := 1000000) (disch := omega) only [go_sem, seval, *])
      refine call_mut (whole_m s4 hl4 rid w _ _ (Nat.lt_of_lt_of_le (show rid < m4 by omega) (by simp only [Nat.add_assoc]; exact Nat.le_add_right _ _)) (upd_out (by omega) (upd_out (by omega) g4))) ?_
      rintro H5 m5 r5 ⟨hm5', rfl, g5, k5'⟩ -
      have hm5 : m4 ≤ m5 := Nat.le_trans (by simp only [Nat.add_assoc]; exact Nat.le_add_right _ _) hm5'
      have b5 : H5 nx = some ⟨[.sc (.int .i64 0), .sc (.int .i64 0), .sc (.string ⟨#[]⟩), .sc (.int .i64 0), .sc (.int .i64 0), .sc (.string ⟨#[]⟩), .sc (.slice none 0 0), .sc (.slice none 0 0), .sc (.int .i64 0), .sc (.int .i64 0), .sc (.string ⟨#[]⟩), .sc (.slice none 0 0), .sc (.slice none 0 0), .sc (.int .i64 0), .sc (.slice none 0 0)], true⟩ := (k5' nx (Nat.lt_of_lt_of_le (show nx < m4 by omega) (by simp only [Nat.add_assoc]; exact Nat.le_add_right _ _)) (by omega)).trans (upd_out (by omega) (upd_out (by omega) (b4)))
      have c5 : H5 (nx + 10) = some ⟨.sc (.int .i64 (2 : Nat)) :: .sc (.int .i64 (p : Nat)) :: .sc (.string nm) :: (ty.pv ++ [.sc (.int .i64 0), .sc (.int .i64 0), .sc (.string ⟨#[]⟩), .sc (.slice none 0 0), .sc (.slice none 0 0), .sc (.int .i64 0), .sc (.slice none 0 0)]), true⟩ := (k5' (nx + 10) (Nat.lt_of_lt_of_le (show nx + 10 < m4 by omega) (by simp only [Nat.add_assoc]; exact Nat.le_add_right _ _)) (by omega)).trans (upd_same _ _ _)
      have k5 : Kept (∀ j, j < nx → j ≠ rid → H5 j = H j) := fun j e1 e2 => (k5' j (Nat.lt_of_lt_of_le (show j < m4 by omega) (by simp only [Nat.add_assoc]; exact Nat.le_add_right _ _)) e2).trans (upd_out (by omega) (upd_out (by omega) (k4 j e1 e2)))
      clear hm5' k5' k4 b4 g4
      have hv := tm_len (wholeF s4).1
      have hvi := tm_imm (wholeF s4).1
      generalize (wholeF s4).1 = v at *
      repeat' (first | ((with_reducible first | refine wA (by omega) ?_ | refine wB (by omega) ?_ | refine wC (by omega) ?_ | refine wD (by omega) ?_ | refine wE ?_ ?_ | refine wF ?_ ?_ | refine wG ?_ ?_ | refine wH ?_ ?_ | refine wI ?_ ?_ | refine wJ ?_ ?_ | refine wK ?_ ?_ | refine wL ?_ ?_) <;> intro _) | simp (maxSteps := 1000000) (disch := omega) only [go_sem, seval, *])
      refine fin_mut (.agg (.sc (.int .i64 (2 : Nat)) :: .sc (.int .i64 (p : Nat)) :: .sc (.string nm) :: (ty.pv ++ (v.pv ++ [.sc (.int .i64 0), .sc (.slice none 0 0)])))) (.inr rfl) cE2 ⟨by simp only [Nat.add_assoc]; exact Nat.le_trans (by omega) (Nat.le_add_right _ _), ⟨2, dcl_tell _ _ hvi (WeakL.refl _) (frg_nil6 _ _)⟩, upd_out (by omega) (upd_out (by omega) g5), fun j e1 e2 => upd_out (by omega) (upd_out (by omega) (k5 j e1 e2))⟩
    · repeat' (first | ((with_reducible first | refine wA (by omega) ?_ | refine wB (by omega) ?_ | refine wC (by omega) ?_ | refine wD (by omega) ?_ | refine wE ?_ ?_ | refine wF ?_ ?_ | refine wG ?_ ?_ | refine wH ?_ ?_ | refine wI ?_ ?_ | refine wJ ?_ ?_ | refine wK ?_ ?_ | refine wL ?_ ?_) <;> intro _) | simp (maxSteps := 1000000) (disch := omega) only [go_sem, seval, *])
      refine call_mut (whole_m s4 hl4 rid w _ _ (Nat.lt_of_lt_of_le (show rid < m4 by omega) (by simp only [Nat.add_assoc]; exact Nat.le_add_right _ _)) (upd_out (by omega) (upd_out (by omega) g4))) ?_
      rintro H5 m5 r5 ⟨hm5', rfl, g5, k5'⟩ -
      have hm5 : m4 ≤ m5 := Nat.le_trans (by simp only [Nat.add_assoc]; exact Nat.le_add_right _ _) hm5'
      have b5 : H5 nx = some ⟨[.sc (.int .i64 0), .sc (.int .i64 0), .sc (.string ⟨#[]⟩), .sc (.int .i64 0), .sc (.int .i64 0), .sc (.string ⟨#[]⟩), .sc (.slice none 0 0), .sc (.slice none 0 0), .sc (.int .i64 0), .sc (.int .i64 0), .sc (.string ⟨#[]⟩), .sc (.slice none 0 0), .sc (.slice none 0 0), .sc (.int .i64 0), .sc (.slice none 0 0)], true⟩ := (k5' nx (Nat.lt_of_lt_of_le (show nx < m4 by omega) (by simp only [Nat.add_assoc]; exact Nat.le_add_right _ _)) (by omega)).trans (upd_out (by omega) (upd_out (by omega) (b4)))
      have c5 : H5 (nx + 10) = some ⟨.sc (.int .i64 (3 : Nat)) :: .sc (.int .i64 (p : Nat)) :: .sc (.string nm) :: (ty.pv ++ [.sc (.int .i64 0), .sc (.int .i64 0), .sc (.string ⟨#[]⟩), .sc (.slice none 0 0), .sc (.slice none 0 0), .sc (.int .i64 0), .sc (.slice none 0 0)]), true⟩ := (k5' (nx + 10) (Nat.lt_of_lt_of_le (show nx + 10 < m4 by omega) (by simp only [Nat.add_assoc]; exact Nat.le_add_right _ _)) (by omega)).trans (upd_same _ _ _)
      have k5 : Kept (∀ j, j < nx → j ≠ rid → H5 j = H j) := fun j e1 e2 => (k5' j (Nat.lt_of_lt_of_le (show j < m4 by omega) (by simp only [Nat.add_assoc]; exact Nat.le_add_right _ _)) e2).trans (upd_out (by omega) (upd_out (by omega) (k4 j e1 e2)))
      clear hm5' k5' k4 b4 g4
      have hv := tm_len (wholeF s4).1
      have hvi := tm_imm (wholeF s4).1
      generalize (wholeF s4).1 = v at *
      repeat' (first | ((with_reducible first | refine wA (by omega) ?_ | refine wB (by omega) ?_ | refine wC (by omega) ?_ | refine wD (by omega) ?_ | refine wE ?_ ?_ | refine wF ?_ ?_ | refine wG ?_ ?_ | refine wH ?_ ?_ | refine wI ?_ ?_ | refine wJ ?_ ?_ | refine wK ?_ ?_ | refine wL ?_ ?_) <;> intro _) | simp (maxSteps := 1000000) (disch := omega) only [go_sem, seval, *])
      refine fin_mut (.agg (.sc (.int .i64 (3 : Nat)) :: .sc (.int .i64 (p : Nat)) :: .sc (.string nm) :: (ty.pv ++ (v.pv ++ [.sc (.int .i64 0), .sc (.slice none 0 0)])))) (.inr rfl) cE2 ⟨by simp only [Nat.add_assoc]; exact Nat.le_trans (by omega) (Nat.le_add_right _ _), ⟨2, dcl_tell _ _ hvi (WeakL.refl _) (frg_nil6 _ _)⟩, upd_out (by omega) (upd_out (by omega) g5), fun j e1 e2 => upd_out (by omega) (upd_out (by omega) (k5 j e1 e2))⟩
    · repeat' (first | ((with_reducible first | refine wA (by omega) ?_ | refine wB (by omega) ?_ | refine wC (by omega) ?_ | refine wD (by omega) ?_ | refine wE ?_ ?_ | refine wF ?_ ?_ | refine wG ?_ ?_ | refine wH ?_ ?_ | refine wI ?_ ?_ | refine wJ ?_ ?_ | refine wK ?_ ?_ | refine wL ?_ ?_) <;> intro _) | simp (maxSteps := 1000000) (disch := omega) only [go_sem, seval, *])
      refine call_mut (whole_m s4 hl4 rid w _ _ (Nat.lt_of_lt_of_le (show rid < m4 by omega) (by simp only [Nat.add_assoc]; exact Nat.le_add_right _ _)) (upd_out (by omega) (upd_out (by omega) g4))) ?_
      rintro H5 m5 r5 ⟨hm5', rfl, g5, k5'⟩ -
      have hm5 : m4 ≤ m5 := Nat.le_trans (by simp only [Nat.add_assoc]; exact Nat.le_add_right _ _) hm5'
      have b5 : H5 nx = some ⟨[.sc (.int .i64 0), .sc (.int .i64 0), .sc (.string ⟨#[]⟩), .sc (.int .i64 0), .sc (.int .i64 0), .sc (.string ⟨#[]⟩), .sc (.slice none 0 0), .sc (.slice none 0 0), .sc (.int .i64 0), .sc (.int .i64 0), .sc (.string ⟨#[]⟩), .sc (.slice none 0 0), .sc (.slice none 0 0), .sc (.int .i64 0), .sc (.slice none 0 0)], true⟩ := (k5' nx (Nat.lt_of_lt_of_le (show nx < m4 by omega) (by simp only [Nat.add_assoc]; exact Nat.le_add_right _ _)) (by omega)).trans (upd_out (by omega) (upd_out (by omega) (b4)))
      have c5 : H5 (nx + 10) = some ⟨.sc (.int .i64 (4 : Nat)) :: .sc (.int .i64 (p : Nat)) :: .sc (.string nm) :: (ty.pv ++ [.sc (.int .i64 0), .sc (.int .i64 0), .sc (.string ⟨#[]⟩), .sc (.slice none 0 0), .sc (.slice none 0 0), .sc (.int .i64 0), .sc (.slice none 0 0)]), true⟩ := (k5' (nx + 10) (Nat.lt_of_lt_of_le (show nx + 10 < m4 by omega) (by simp only [Nat.add_assoc]; exact Nat.le_add_right _ _)) (by omega)).trans (upd_same _ _ _)
      have k5 : Kept (∀ j, j < nx → j ≠ rid → H5 j = H j) := fun j e1 e2 => (k5' j (Nat.lt_of_lt_of_le (show j < m4 by omega) (by simp only [Nat.add_assoc]; exact Nat.le_add_right _ _)) e2).trans (upd_out (by omega) (upd_out (by omega) (k4 j e1 e2)))
      clear hm5' k5' k4 b4 g4
      have hv := tm_len (wholeF s4).1
      have hvi := tm_imm (wholeF s4).1
      generalize (wholeF s4).1 = v at *
      repeat' (first | ((with_reducible first | refine wA (by omega) ?_ | refine wB (by omega) ?_ | refine wC (by omega) ?_ | refine wD (by omega) ?_ | refine wE ?_ ?_ | refine wF ?_ ?_ | refine wG ?_ ?_ | refine wH ?_ ?_ | refine wI ?_ ?_ | refine wJ ?_ ?_ | refine wK ?_ ?_ | refine wL ?_ ?_) <;> intro _) | simp (maxSteps := 1000000) (disch := omega) only [go_sem, seval, *])
      refine fin_mut (.agg (.sc (.int .i64 (4 : Nat)) :: .sc (.int .i64 (p : Nat)) :: .sc (.string nm) :: (ty.pv ++ (v.pv ++ [.sc (.int .i64 0), .sc (.slice none 0 0)])))) (.inr rfl) cE2 ⟨by simp only [Nat.add_assoc]; exact Nat.le_trans (by omega) (Nat.le_add_right _ _), ⟨2, dcl_tell _ _ hvi (WeakL.refl _) (frg_nil6 _ _)⟩, upd_out (by omega) (upd_out (by omega) g5), fun j e1 e2 => upd_out (by omega) (upd_out (by omega) (k5 j e1 e2))⟩
  · rw [if_neg (by decide), if_pos rfl]
    simp only
    have hl5 : (numF s4).2.l.length ≤ 2 ^ 40 := Nat.le_trans (numF_len _) hl4
    have hl6 : (numF (numF s4).2).2.l.length ≤ 2 ^ 40 := Nat.le_trans (numF_len _) hl5
    repeat' (first | ((with_reducible first | refine wA (by omega) ?_ | refine wB (by omega) ?_ | refine wC (by omega) ?_ | refine wD (by omega) ?_ | refine wE ?_ ?_ | refine wF ?_ ?_ | refine wG ?_ ?_ | refine wH ?_ ?_ | refine wI ?_ ?_ | refine wJ ?_ ?_ | refine wK ?_ ?_ | refine wL ?_ ?_) <;> intro _) | simp (maxSteps := 1000000) (disch := omega) only [go_sem, seval, *])
    refine call_mut (number_m s4 hl4 rid w _ _ (Nat.lt_of_lt_of_le (show rid < m4 by omega) (by simp only [Nat.add_assoc]; exact Nat.le_add_right _ _)) (upd_out (by omega) (upd_out (by omega) g4))) ?_
    rintro H5 m5 r5 ⟨hm5', rfl, g5, k5'⟩ -
    have hm5 : m4 ≤ m5 := Nat.le_trans (by simp only [Nat.add_assoc]; exact Nat.le_add_right _ _) hm5'
    have b5 : H5 nx = some ⟨[.sc (.int .i64 0), .sc (.int .i64 0), .sc (.string ⟨#[]⟩), .sc (.int .i64 0), .sc (.int .i64 0), .sc (.string ⟨#[]⟩), .sc (.slice none 0 0), .sc (.slice none 0 0), .sc (.int .i64 0), .sc (.int .i64 0), .sc (.string ⟨#[]⟩), .sc (.slice none 0 0), .sc (.slice none 0 0), .sc (.int .i64 0), .sc (.slice none 0 0)], true⟩ := (k5' nx (Nat.lt_of_lt_of_le (show nx < m4 by omega) (by simp only [Nat.add_assoc]; exact Nat.le_add_right _ _)) (by omega)).trans (upd_out (by omega) (upd_out (by omega) (b4)))
    have c5 : H5 (nx + 10) = some ⟨.sc (.int .i64 (5 : Nat)) :: .sc (.int .i64 (p : Nat)) :: .sc (.string nm) :: (ty.pv ++ [.sc (.int .i64 0), .sc (.int .i64 0), .sc (.string ⟨#[]⟩), .sc (.slice none 0 0), .sc (.slice none 0 0), .sc (.int .i64 0), .sc (.slice none 0 0)]), true⟩ := (k5' (nx + 10) (Nat.lt_of_lt_of_le (show nx + 10 < m4 by omega) (by simp only [Nat.add_assoc]; exact Nat.le_add_right _ _)) (by omega)).trans (upd_same _ _ _)
    have k5 : Kept (∀ j, j < nx → j ≠ rid → H5 j = H j) := fun j e1 e2 => (k5' j (Nat.lt_of_lt_of_le (show j < m4 by omega) (by simp only [Nat.add_assoc]; exact Nat.le_add_right _ _)) e2).trans (upd_out (by omega) (upd_out (by omega) (k4 j e1 e2)))
    clear hm5' k5' k4 b4 g4
    generalize (numF s4).1 = fx at *
    generalize (numF s4).2 = s5 at *
    repeat' (first | ((with_reducible first | refine wA (by omega) ?_ | refine wB (by omega) ?_ | refine wC (by omega) ?_ | refine wD (by omega) ?_ | refine wE ?_ ?_ | refine wF ?_ ?_ | refine wG ?_ ?_ | refine wH ?_ ?_ | refine wI ?_ ?_ | refine wJ ?_ ?_ | refine wK ?_ ?_ | refine wL ?_ ?_) <;> intro _) | simp (maxSteps := 1000000) (disch := omega) only [go_sem, seval, *])
    refine call_mut (number_m s5 hl5 rid w _ _ (Nat.lt_of_lt_of_le (show rid < m5 by omega) (by simp only [Nat.add_assoc]; exact Nat.le_add_right _ _)) (upd_out (by omega) g5)) ?_
    rintro H6 m6 r6 ⟨hm6', rfl, g6, k6'⟩ -
    have hm6 : m5 ≤ m6 := Nat.le_trans (by simp only [Nat.add_assoc]; exact Nat.le_add_right _ _) hm6'
    have b6 : H6 nx = some ⟨[.sc (.int .i64 0), .sc (.int .i64 0), .sc (.string ⟨#[]⟩), .sc (.int .i64 0), .sc (.int .i64 0), .sc (.string ⟨#[]⟩), .sc (.slice none 0 0), .sc (.slice none 0 0), .sc (.int .i64 0), .sc (.int .i64 0), .sc (.string ⟨#[]⟩), .sc (.slice none 0 0), .sc (.slice none 0 0), .sc (.int .i64 0), .sc (.slice none 0 0)], true⟩ := (k6' nx (Nat.lt_of_lt_of_le (show nx < m5 by omega) (by simp only [Nat.add_assoc]; exact Nat.le_add_right _ _)) (by omega)).trans (upd_out (by omega) (b5))
    have c6 : H6 (nx + 10) = some ⟨.sc (.int .i64 (5 : Nat)) :: .sc (.int .i64 (p : Nat)) :: .sc (.string nm) :: (ty.pv ++ [.sc (.int .i64 0), .sc (.int .i64 0), .sc (.string ⟨#[]⟩), .sc (.slice none 0 0), .sc (.slice none 0 0), .sc (.int .i64 (fx : Nat)), .sc (.slice none 0 0)]), true⟩ := (k6' (nx + 10) (Nat.lt_of_lt_of_le (show nx + 10 < m5 by omega) (by simp only [Nat.add_assoc]; exact Nat.le_add_right _ _)) (by omega)).trans (upd_same _ _ _)
    have k6 : Kept (∀ j, j < nx → j ≠ rid → H6 j = H j) := fun j e1 e2 => (k6' j (Nat.lt_of_lt_of_le (show j < m5 by omega) (by simp only [Nat.add_assoc]; exact Nat.le_add_right _ _)) e2).trans (upd_out (by omega) (k5 j e1 e2))
    clear hm6' k6' k5 b5 g5
    have hmin : min (((numF s5).1 : Nat) : Int) 9 = ((min (numF s5).1 9 : Nat) : Int) := by omega
    have hcn : min (numF s5).1 9 ≤ 9 := Nat.min_le_right _ _
    generalize (numF s5).1 = c at *
    generalize (numF s5).2 = s6 at *
    generalize min c 9 = cn at *
    clear hl5 hl4 c5
    repeat' (first | ((with_reducible first | refine wA (by omega) ?_ | refine wB (by omega) ?_ | refine wC (by omega) ?_ | refine wD (by omega) ?_ | refine wE ?_ ?_ | refine wF ?_ ?_ | refine wG ?_ ?_ | refine wH ?_ ?_ | refine wI ?_ ?_ | refine wJ ?_ ?_ | refine wK ?_ ?_ | refine wL ?_ ?_) <;> intro _) | simp (maxSteps := 1000000) (disch := omega) only [go_sem, seval, *])
    refine c_loopW 8795019280384 (by kernel_rfl) (fun j f H7 m => ∃ i : Nat, j = cn - i ∧ i ≤ cn ∧ f 30 = .sc (.int .i64 i) ∧ nx + 12 ≤ m ∧ H7 nx = some ⟨[.sc (.int .i64 0), .sc (.int .i64 0), .sc (.string ⟨#[]⟩), .sc (.int .i64 0), .sc (.int .i64 0), .sc (.string ⟨#[]⟩), .sc (.slice none 0 0), .sc (.slice none 0 0), .sc (.int .i64 0), .sc (.int .i64 0), .sc (.string ⟨#[]⟩), .sc (.slice none 0 0), .sc (.slice none 0 0), .sc (.int .i64 0), .sc (.slice none 0 0)], true⟩ ∧ (∃ a, H7 (nx + 10) = some ⟨.sc (.int .i64 (5 : Nat)) :: .sc (.int .i64 (p : Nat)) :: .sc (.string nm) :: (ty.pv ++ [.sc (.int .i64 0), .sc (.int .i64 0), .sc (.string ⟨#[]⟩), .sc (.slice none 0 0), .sc (.slice none 0 0), .sc (.int .i64 (fx : Nat)), a]), true⟩ ∧ Kept (LRow Ctr.pv 6 H7 (nx + 11) m a (repF ctorF i s6).1)) ∧ H7 rid = some ⟨rdC (repF ctorF i s6).2, w⟩ ∧ Kept (∀ j, j < nx → j ≠ rid → H7 j = H j)) _ ⟨0, rfl, Nat.zero_le _, cE1, ?mm, b6, ⟨_, c6, Kept.mk (.inl ⟨rfl, rfl⟩)⟩, g6, k6⟩ ?_
    case mm => exact (show nx + 12 ≤ m6 by omega)
    rintro _ f H7 m ⟨i, rfl, hi, e30, hm, b7, ⟨a, c7, hrow⟩, g7, k7⟩
    clear c6 b6 g6 k6
    by_cases hlt : i < cn
    · have hll := rep_shrink ctor_shrink i s6
      have hl7 : (repF ctorF i s6).2.l.length ≤ 2 ^ 40 := by omega
      have hl8 : (nameF (repF ctorF i s6).2).2.l.length ≤ 2 ^ 40 := Nat.le_trans (nameF_len _) hl7
      clear hll
      have hdec : decide (¬ nx + 10 = rid) = true := decide_eq_true (by omega)
      repeat' (first | ((with_reducible first | refine wA (by omega) ?_ | refine wB (by omega) ?_ | refine wC (by omega) ?_ | refine wD (by omega) ?_ | refine wE ?_ ?_ | refine wF ?_ ?_ | refine wG ?_ ?_ | refine wH ?_ ?_ | refine wI ?_ ?_ | refine wJ ?_ ?_ | refine wK ?_ ?_ | refine wL ?_ ?_) <;> intro _) | simp (maxSteps := 1000000) (disch := omega) only [go_sem, seval, *])
      refine call_rdF (name_m (repF ctorF i s6).2 hl7 rid w _ _ (Nat.lt_of_lt_of_le (show rid < m by omega) (by simp only [Nat.add_assoc]; exact Nat.le_add_right _ _)) g7) ?_
      rintro H8 m8 r8 ⟨hm8', rfl, g8, k8'⟩ -
      have hm8 : m + 12 ≤ m8 := hm8'
      have b8 : H8 nx = some ⟨[.sc (.int .i64 0), .sc (.int .i64 0), .sc (.string ⟨#[]⟩), .sc (.int .i64 0), .sc (.int .i64 0), .sc (.string ⟨#[]⟩), .sc (.slice none 0 0), .sc (.slice none 0 0), .sc (.int .i64 0), .sc (.int .i64 0), .sc (.string ⟨#[]⟩), .sc (.slice none 0 0), .sc (.slice none 0 0), .sc (.int .i64 0), .sc (.slice none 0 0)], true⟩ := (k8' nx (Nat.lt_of_lt_of_le (show nx < m by omega) (by simp only [Nat.add_assoc]; exact Nat.le_add_right _ _)) (by omega)).trans b7
      have c8 : H8 (nx + 10) = some ⟨.sc (.int .i64 (5 : Nat)) :: .sc (.int .i64 (p : Nat)) :: .sc (.string nm) :: (ty.pv ++ [.sc (.int .i64 0), .sc (.int .i64 0), .sc (.string ⟨#[]⟩), .sc (.slice none 0 0), .sc (.slice none 0 0), .sc (.int .i64 (fx : Nat)), a]), true⟩ := (k8' (nx + 10) (Nat.lt_of_lt_of_le (show nx + 10 < m by omega) (by simp only [Nat.add_assoc]; exact Nat.le_add_right _ _)) (by omega)).trans c7
      have hrow8 := Kept.mk (hrow.out.weak (H' := H8) (Nat.le_refl m) fun j e1 e2 => k8' j (Nat.lt_of_lt_of_le e2 (by simp only [Nat.add_assoc]; exact Nat.le_add_right _ _)) (by omega))
      have k8 : Kept (∀ j, j < nx → j ≠ rid → H8 j = H j) := fun j e1 e2 => (k8' j (Nat.lt_of_lt_of_le (show j < m by omega) (by simp only [Nat.add_assoc]; exact Nat.le_add_right _ _)) e2).trans (k7 j e1 e2)
      clear hm8' k8' k7 b7 g7 c7 hrow
      repeat' (first | ((with_reducible first | refine wA (by omega) ?_ | refine wB (by omega) ?_ | refine wC (by omega) ?_ | refine wD (by omega) ?_ | refine wE ?_ ?_ | refine wF ?_ ?_ | refine wG ?_ ?_ | refine wH ?_ ?_ | refine wI ?_ ?_ | refine wJ ?_ ?_ | refine wK ?_ ?_ | refine wL ?_ ?_) <;> intro _) | simp (maxSteps := 1000000) (disch := omega) only [go_sem, seval, *])
      refine call_rdF (whole_m (nameF (repF ctorF i s6).2).2 hl8 rid w _ _ (show rid < m8 by omega) g8) ?_
      rintro H9 m9 r9 ⟨hm9, rfl, g9, k9'⟩ -
      have hm9 : m8 ≤ m9 := hm9
      have b9 : H9 nx = some ⟨[.sc (.int .i64 0), .sc (.int .i64 0), .sc (.string ⟨#[]⟩), .sc (.int .i64 0), .sc (.int .i64 0), .sc (.string ⟨#[]⟩), .sc (.slice none 0 0), .sc (.slice none 0 0), .sc (.int .i64 0), .sc (.int .i64 0), .sc (.string ⟨#[]⟩), .sc (.slice none 0 0), .sc (.slice none 0 0), .sc (.int .i64 0), .sc (.slice none 0 0)], true⟩ := (k9' nx (show nx < m8 by omega) (by omega)).trans b8
      have c9 : H9 (nx + 10) = some ⟨.sc (.int .i64 (5 : Nat)) :: .sc (.int .i64 (p : Nat)) :: .sc (.string nm) :: (ty.pv ++ [.sc (.int .i64 0), .sc (.int .i64 0), .sc (.string ⟨#[]⟩), .sc (.slice none 0 0), .sc (.slice none 0 0), .sc (.int .i64 (fx : Nat)), a]), true⟩ := (k9' (nx + 10) (show nx + 10 < m8 by omega) (by omega)).trans c8
      have hrow9 := hrow8.out.weak (H' := H9) (Nat.le_refl m) fun j e1 e2 => k9' j (show j < m8 by omega) (by omega)
      have k9 : Kept (∀ j, j < nx → j ≠ rid → H9 j = H j) := fun j e1 e2 => (k9' j (show j < m8 by omega) e2).trans (k8 j e1 e2)
      clear k9' k8 b8 g8 c8 hrow8
      have hlen := repF_len ctorF i s6
      have hE1 : (repF ctorF (i + 1) s6).1 = (repF ctorF i s6).1 ++ [⟨(nameF (repF ctorF i s6).2).1, (wholeF (nameF (repF ctorF i s6).2).2).1⟩] := rfl
      have hE2 : (repF ctorF (i + 1) s6).2 = (wholeF (nameF (repF ctorF i s6).2).2).2 := rfl
      rw [← hE2] at g9
      generalize (wholeF (nameF (repF ctorF i s6).2).2).1 = ct at *
      generalize (nameF (repF ctorF i s6).2).1 = cm at *
      clear hl7 hl8
      have hct := tm_len ct
      obtain ⟨h0, rfl⟩ | ⟨id, w', h1, h2, rfl, h4⟩ := hrow9
      · have hi0 : i = 0 := by rw [← hlen, h0]; rfl
        subst hi0
        repeat' (first | ((with_reducible first | refine wA (by omega) ?_ | refine wB (by omega) ?_ | refine wC (by omega) ?_ | refine wD (by omega) ?_ | refine wE ?_ ?_ | refine wF ?_ ?_ | refine wG ?_ ?_ | refine wH ?_ ?_ | refine wI ?_ ?_ | refine wJ ?_ ?_ | refine wK ?_ ?_ | refine wL ?_ ?_) <;> intro _) | simp (maxSteps := 1000000) (disch := omega) only [go_sem, seval, *])
        refine Nx.mk (cn - 1) cE1 ⟨1, rfl, cE1, cE1, ?mm, ?bb, ⟨.osl (m + 9) 0 1 6, ?cc, ?rr⟩, ?gg, ?kk⟩
        case mm => omega
        case bb => exact upd_out (by omega) (upd_out (by omega) b9)
        case cc => rw [upd_same]
        case rr =>
          refine Kept.mk (.inr ⟨m + 9, false, by omega, by omega, ?_, ?_⟩)
          · rw [hE1, h0]; rfl
          · rw [upd_ne _ _ (show m + 9 ≠ nx + 10 by omega), upd_same]
            simp [hE1, h0, Ctr.pv]
        case gg => exact upd_out (by omega) (upd_out (by omega) g9)
        case kk => exact Kept.mk fun j e1 e2 => upd_out (by omega) (upd_out (by omega) (k9 j e1 e2))
      · have hfl : ((repF ctorF i s6).1.flatMap Ctr.pv).length = i * 6 := by rw [flat_lenG _ 6 ctr_len, hlen]
        have hz : (i + 1) * 96 ≤ 140737488355328 ∧ i ≤ 4611686018427387903 := by omega
        rw [hlen] at c9 ⊢
        repeat' (first | ((with_reducible first | refine wA (by omega) ?_ | refine wB (by omega) ?_ | refine wC (by omega) ?_ | refine wD (by omega) ?_ | refine wE ?_ ?_ | refine wF ?_ ?_ | refine wG ?_ ?_ | refine wH ?_ ?_ | refine wI ?_ ?_ | refine wJ ?_ ?_ | refine wK ?_ ?_ | refine wL ?_ ?_) <;> intro _) | simp (maxSteps := 1000000) (disch := omega) only [go_sem, seval, *])
        refine Nx.mk (cn - (i + 1)) cE1 ⟨i + 1, rfl, cE1, cE1, ?mm, ?bb, ⟨.osl (m + 9) 0 (i + 1) 6, ?cc, ?rr⟩, ?gg, ?kk⟩
        case mm => omega
        case bb => exact upd_out (by omega) (upd_out (by omega) (upd_out (by omega) b9))
        case cc => rw [upd_same]
        case rr =>
          refine Kept.mk (.inr ⟨m + 9, false, by omega, by omega, ?_, ?_⟩)
          · rw [hE1, List.length_append, hlen]; rfl
          · rw [upd_ne _ _ (show m + 9 ≠ nx + 10 by omega), upd_same]
            simp [hE1, Ctr.pv]
        case gg => exact upd_out (by omega) (upd_out (by omega) (upd_out (by omega) g9))
        case kk => exact Kept.mk fun j e1 e2 => upd_out (by omega) (upd_out (by omega) (upd_out (by omega) (k9 j e1 e2)))
    · obtain rfl : i = cn := by omega
      have hfrg := (hrow.out.weak (H' := upd H7 nx none) (Nat.le_refl m) fun j e1 e2 => upd_ne _ _ (show j ≠ nx by omega)).frg ctr_len (fun j => decide (nx ≤ j)) fun j hj => by simpa using (show nx ≤ j by omega)
      obtain ⟨h0, rfl⟩ | ⟨id, w', h1, h2, rfl, h4⟩ := hrow.out
      · rw [h0] at hfrg
        clear hrow
        repeat' (first | ((with_reducible first | refine wA (by omega) ?_ | refine wB (by omega) ?_ | refine wC (by omega) ?_ | refine wD (by omega) ?_ | refine wE ?_ ?_ | refine wF ?_ ?_ | refine wG ?_ ?_ | refine wH ?_ ?_ | refine wI ?_ ?_ | refine wJ ?_ ?_ | refine wK ?_ ?_ | refine wL ?_ ?_) <;> intro _) | simp (maxSteps := 1000000) (disch := omega) only [go_sem, seval, *])
        refine fin_mut (.agg (.sc (.int .i64 (5 : Nat)) :: .sc (.int .i64 (p : Nat)) :: .sc (.string nm) :: (ty.pv ++ ([.sc (.int .i64 0), .sc (.int .i64 0), .sc (.string ⟨#[]⟩), .sc (.slice none 0 0), .sc (.slice none 0 0)] ++ [.sc (.int .i64 (fx : Nat)), .sc (.slice none 0 0)])))) (.inr rfl) cE2 ⟨by simp only [Nat.add_assoc]; exact Nat.le_trans (by omega) (Nat.le_add_right _ _), ⟨2, dcl_tell _ _ z5_imm z5_weak hfrg⟩, upd_out (by omega) g7, fun j e1 e2 => upd_out (by omega) (k7 j e1 e2)⟩
      · clear hrow
        generalize hlz : (repF ctorF i s6).1.length = lz at *
        repeat' (first | ((with_reducible first | refine wA (by omega) ?_ | refine wB (by omega) ?_ | refine wC (by omega) ?_ | refine wD (by omega) ?_ | refine wE ?_ ?_ | refine wF ?_ ?_ | refine wG ?_ ?_ | refine wH ?_ ?_ | refine wI ?_ ?_ | refine wJ ?_ ?_ | refine wK ?_ ?_ | refine wL ?_ ?_) <;> intro _) | simp (maxSteps := 1000000) (disch := omega) only [go_sem, seval, *])
        refine fin_mut (.agg (.sc (.int .i64 (5 : Nat)) :: .sc (.int .i64 (p : Nat)) :: .sc (.string nm) :: (ty.pv ++ ([.sc (.int .i64 0), .sc (.int .i64 0), .sc (.string ⟨#[]⟩), .sc (.slice none 0 0), .sc (.slice none 0 0)] ++ [.sc (.int .i64 (fx : Nat)), .osl id 0 lz 6])))) (.inr rfl) cE2 ⟨by simp only [Nat.add_assoc]; exact Nat.le_trans (by omega) (Nat.le_add_right _ _), ⟨2, dcl_tell _ _ z5_imm z5_weak hfrg⟩, upd_out (by omega) g7, fun j e1 e2 => upd_out (by omega) (k7 j e1 e2)⟩
  · rw [if_neg (by omega), if_neg h.2.2.2]
    simp only
    obtain ⟨h1, h2, h3, h5⟩ := h
    repeat' (first | ((with_reducible first | refine wA (by omega) ?_ | refine wB (by omega) ?_ | refine wC (by omega) ?_ | refine wD (by omega) ?_ | refine wE ?_ ?_ | refine wF ?_ ?_ | refine wG ?_ ?_ | refine wH ?_ ?_ | refine wI ?_ ?_ | refine wJ ?_ ?_ | refine wK ?_ ?_ | refine wL ?_ ?_) <;> intro _) | simp (maxSteps := 1000000) (disch := omega) only [go_sem, seval, *])
    refine fin_mut (.agg (.sc (.int .i64 (k : Nat)) :: .sc (.int .i64 (p : Nat)) :: .sc (.string nm) :: (ty.pv ++ ([.sc (.int .i64 0), .sc (.int .i64 0), .sc (.string ⟨#[]⟩), .sc (.slice none 0 0), .sc (.slice none 0 0)] ++ [.sc (.int .i64 0), .sc (.slice none 0 0)])))) (.inr rfl) cE2 ⟨by simp only [Nat.add_assoc]; exact Nat.le_trans (by omega) (Nat.le_add_right _ _), ⟨2, dcl_tell _ _ z5_imm z5_weak (frg_nil6 _ _)⟩, upd_out (by omega) (upd_out (by omega) (upd_out (by omega) g4)), fun j e1 e2 => upd_out (by omega) (upd_out (by omega) (upd_out (by omega) (k4 j e1 e2)))⟩
end
section
set_option maxRecDepth 20000
attribute [local go_sem] Nat.add_assoc id_ne id_ne' id_ne2 List.append_assoc bC_len bC_one pv_take tm_take rowB_flat tm_d6 tm_d10 tm_d11 tm_d12 tm_d8 tm_len
theorem tm_d5 (t : Tm) (r : List PV) : (t.pv ++ r).drop 5 = r := List.drop_left' (tm_len t)
attribute [local go_sem] tm_d5
def Ctr.enc (c : Ctr) : List UInt8 := encT [c.name] ++ c.typ.enc
def encCs (cs : List Ctr) : List UInt8 := cs.flatMap Ctr.enc
def Dcl.enc (d : Dcl) : List UInt8 :=
  Plain.enc d.kind.toNat ++ (encT [d.name] ++ (Plain.enc d.params.toNat ++ (d.typ.enc ++
    (if d.kind = 2 ∨ d.kind = 3 ∨ d.kind = 4 then d.val.enc else if d.kind = 5 then Plain.enc d.fixed.toNat ++ (Plain.enc d.ctors.length ++ encCs d.ctors) else []))))
structure Dcl.PackP (d : Dcl) : Prop where
  kind : 1 ≤ d.kind ∧ d.kind ≤ 5
  params : 0 ≤ d.params ∧ d.params ≤ 4
  name : d.name.size ≤ 40
  typ : d.typ.packP d.params ∧ d.typ.nodes ≤ 2000
  val : d.kind = 2 ∨ d.kind = 3 ∨ d.kind = 4 → d.val.packP d.params ∧ d.val.nodes ≤ 2000
  ind : d.kind = 5 → (0 ≤ d.fixed ∧ d.fixed ≤ 16) ∧ d.ctors.length ≤ 8 ∧ ∀ c ∈ d.ctors, c.name.size ≤ 40 ∧ c.typ.packP d.params ∧ c.typ.nodes ≤ 2000
theorem encT_len1 (s : ByteArray) (h : s.size ≤ 40) : (encT [s]).length ≤ 46 := by
  have := enc_len6 s.size (by omega)
  rw [encT_one]; simp only [List.length_append, strC_len]; omega
theorem Text_p (s : ByteArray) (h : s.size ≤ 40) : PPure Try.prog F.wire_Texts [.sl 1 [[.sc (.string s)]]] (rowB (encT [s])) :=
  Texts_p [s] (by simp) (by simp) (by have := encT_len1 s h; omega)
end
end Go.Proofs.Ytnelciclibknpaa
