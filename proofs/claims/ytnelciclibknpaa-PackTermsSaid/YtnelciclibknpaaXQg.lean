/-
  Plain values: PkQ, PkR, PkS, LvA, LvB, LvC, LvD, NmA, TmA, LvE, LvG, LvI, LvP, LvQ, LvR, TmB, TmD, TmE, TmF, LvV, TmP, TmC, TmK, TmM, TmN, TmO, TmQ, TmR, TmS, TmU, TmT, TmG, TmV, TmX, TmW, TmY, LvM, TnA, PkT.
-/
import Derived.Lib.SlicesS
import Derived.RangeFuncKeeps
import Derived.RangeFuncBound
import Derived.RangeFuncLeaves
import Derived.TacticsInMore
import Derived.Test.YtnelciclibknpaaXQa
import Derived.Test.YtnelciclibknpaaXQb
import Derived.Test.YtnelciclibknpaaXQc
import Derived.Test.YtnelciclibknpaaXQd
import Derived.Test.YtnelciclibknpaaXQe
import Derived.Test.YtnelciclibknpaaXQf
set_option linter.unusedVariables false
set_option linter.unusedSimpArgs false
namespace Go.Proofs.Ytnelciclibknpaa
open Go.RowKit
attribute [local go_sem ↓] c_seq c_region c_cond c_block c_ret c_skip c_exit c_cont t_normal t_ret t_exit b_normal b_ret b_exit run_nil run_cons g_some o_mv o_pick o_bin o_un o_ld o_ldf o_bld o_len o_mkf o_nilc o_fa o_fd o_ia o_iaa o_ix o_ixs o_ext o_al o_bxf o_bxt o_bsl o_bslf o_mks o_st o_stf o_call o_rng o_nxt o_callm o_callmA o_calvm o_calv cond_true cond_false upd_get sigF_cons o_eqa o_mm o_app o_slc o_apps o_cvt
attribute [local go_sem] num_nil num_cons isP chunks rngV next_is next_iter val_some new_some st_some stf_some guard_tt guard_ff guard_tf guard_ft guard_un calv_fn put_some put_none ev_tmp ev_const ev_func sig_eq sigF_nil q0 q1 nilcV faV fdV iaV iaaV ixV ixsV extV mksV loadP storeP lenPV binPV unPV intBin partsP fillP zeros PV.good PV.cellsOf PV.one q2 q3 q4 q5 q6 q7 q8 q9 q10 q11 q12 q13 q14 q15 q16 q17 q18 q19 q20 q21 q22 q23 q24 q25 q26 q27 q28 q29 q30 q31 q32 q33 q34 q35 q36 q37 q38 wrap64 app_some mmL mmV mm2 eqE eqParts eqInt eqBool eqStr partV q39 q40 pickV q41 q42 q43 q44 q45 q46 q47 q48 q49 appE oldOf rowOf updL q50 q51 q52 q53 zlt ovr_get ite_neN ite_eqN q54 q55 q56 q57 q58 q59 q60 q61 q62 q63 q64 q65 q66 q67 tailP_f tailP_t tailF_f tailF_t slcP bndO capO slcLen intOf Option.isSome_none Option.isNone_none Option.isSome_some Option.isNone_some nilP slc_sl slc_csl slc_osl slc_osl0 slc_ocap slc_str appR appS cvP shiftB false_or List.append_nil List.length_append resP resPs resP1 PV.sc.injEq Value.bool.injEq Value.int.injEq
section
set_option maxRecDepth 20000
attribute [local go_sem] Nat.add_assoc id_ne id_ne' id_ne2 List.append_assoc bC_len bC_one
theorem slc_map {α : Type} {g : α → List PV} {sz : Nat} {lo hi : Int} {xs : List α} (h0 : 0 ≤ lo) (h1 : lo ≤ hi) (h2 : hi ≤ xs.length) : slcI sz false lo hi none (.sl sz (xs.map g)) = some (.sl sz (((xs.drop lo.toNat).take (hi - lo).toNat).map g)) := by
  rw [slc_sl h0 h1 (by rw [List.length_map]; exact h2), ← List.map_drop, ← List.map_take]
theorem slc_front (ki : Int) (k : Nat) (hk : ki = k) (l : List UInt8) : slcI 1 false 0 (min ki l.length) none (.sl 1 (l.map fun c => [PV.sc (.int .u8 c.toNat)])) = some (.sl 1 ((l.take k).map fun c => [PV.sc (.int .u8 c.toNat)])) := by
  subst hk
  rw [slc_map (Int.le_refl _) (by omega) (by omega)]
  congr 2
  simp only [Int.toNat_zero, List.drop_zero, Int.sub_zero]
  by_cases h : k ≤ l.length
  · rw [show (min (k : Int) l.length).toNat = k by omega]
  · rw [show (min (k : Int) l.length).toNat = l.length by omega, List.take_length, List.take_of_length_le (by omega)]
set_option maxHeartbeats 4000000 in
theorem Size_p (n : Nat) : PPure Try.prog F.wire_Size [.sc (.int .i64 n)] (.sc (.int .i64 (if n ≤ 1099511627776 then (Plain.enc n).length else 0 : Nat))) := by
  refine pure_by is_wire_Size (by simp) rfl fun hb nx => ?_
  clear hb
  have c1 := isNumber_p (n : Int)
  by_cases hn : n ≤ 1099511627776
  · have hd1 : decide (0 ≤ (n : Int)) = true := decide_eq_true (by omega)
    have hd2 : decide ((n : Int) ≤ 1099511627776) = true := decide_eq_true (by omega)
    rw [hd1, hd2] at c1
    clear hd1 hd2
    rw [if_pos hn]
    have hen := enc_len6 n (by omega)
    repeat' (first | ((with_reducible first | refine wA (by omega) ?_ | refine wB (by omega) ?_ | refine wC (by omega) ?_ | refine wD (by omega) ?_ | refine wE ?_ ?_ | refine wF ?_ ?_ | refine wG ?_ ?_ | refine wH ?_ ?_ | refine wI ?_ ?_ | refine wJ ?_ ?_ | refine wK ?_ ?_ | refine wL ?_ ?_) <;> intro _) | (((with_reducible refine call_id ?_); (first | (refine call_pure (c1) ?_)))) | simp (maxSteps := 1000000) (disch := omega) only [go_sem, Nat.reduceAdd, Nat.reduceMul, Nat.reduceSub, Nat.reduceLeDiff, Nat.reduceEqDiff, Nat.reduceBEq, ↓reduceIte, reduceCtorEq, Int.reduceEq, Int.reduceLE, Int.reduceLT, Int.reduceAdd, Int.reduceSub, Int.reduceNeg, Int.reduceToNat, Int.reduceNe, Nat.reducePow, Nat.reduceShiftRight, Nat.reduceMod, mc_wire_Size, *])
    refine c_loopW 8073 (by kernel_rfl) (fun j f H m => ∃ k sz : Nat, j = k ∧ k ≤ n ∧ f 0 = .sc (.int .i64 k) ∧ f 3 = .sc (.int .i64 sz) ∧ Kept (sz + (Plain.enc k).length = (Plain.enc n).length + 1)) _ ⟨n, 1, rfl, Nat.le_refl _, cE1, cE1, Kept.mk (by omega)⟩ ?_
    rintro _ f H m ⟨k, sz, rfl, hk, e0, e3, hs⟩
    rename_i k
    by_cases hb : 128 ≤ k
    · have h4 : (k : Int).fdiv (2 ^ min 7 IntKind.i64.bits) = ((k / 128 : Nat) : Int) := shr7 k
      have h4' := h4
      simp only [IntKind.bits] at h4'
      have hs2 : Kept ((sz + 1) + (Plain.enc (k / 128)).length = (Plain.enc n).length + 1) := by
        have := hs.out
        rw [Plain.enc_big hb, List.length_cons] at this
        exact Kept.mk (by omega)
      have hsz : sz ≤ 7 := by have := hs.out; omega
      clear hs
      repeat' (first | ((with_reducible first | refine wA (by omega) ?_ | refine wB (by omega) ?_ | refine wC (by omega) ?_ | refine wD (by omega) ?_ | refine wE ?_ ?_ | refine wF ?_ ?_ | refine wG ?_ ?_ | refine wH ?_ ?_ | refine wI ?_ ?_ | refine wJ ?_ ?_ | refine wK ?_ ?_ | refine wL ?_ ?_) <;> intro _) | simp (maxSteps := 1000000) (disch := omega) only [go_sem, Nat.reduceAdd, Nat.reduceMul, Nat.reduceSub, Nat.reduceLeDiff, Nat.reduceEqDiff, Nat.reduceBEq, ↓reduceIte, reduceCtorEq, Int.reduceEq, Int.reduceLE, Int.reduceLT, Int.reduceAdd, Int.reduceSub, Int.reduceNeg, Int.reduceToNat, Int.reduceNe, Nat.reducePow, Nat.reduceShiftRight, Nat.reduceMod, *])
      exact Nx.mk (k / 128) (by omega) ⟨k / 128, sz + 1, rfl, by omega, cE1, cE1, hs2⟩
    · have hs2 : sz = (Plain.enc n).length := by
        have := hs.out
        rw [Plain.enc_small (by omega)] at this
        simpa using this
      subst hs2
      clear hs
      repeat' (first | ((with_reducible first | refine wA (by omega) ?_ | refine wB (by omega) ?_ | refine wC (by omega) ?_ | refine wD (by omega) ?_ | refine wE ?_ ?_ | refine wF ?_ ?_ | refine wG ?_ ?_ | refine wH ?_ ?_ | refine wI ?_ ?_ | refine wJ ?_ ?_ | refine wK ?_ ?_ | refine wL ?_ ?_) <;> intro _) | simp (maxSteps := 1000000) (disch := omega) only [go_sem, Nat.reduceAdd, Nat.reduceMul, Nat.reduceSub, Nat.reduceLeDiff, Nat.reduceEqDiff, Nat.reduceBEq, ↓reduceIte, reduceCtorEq, Int.reduceEq, Int.reduceLE, Int.reduceLT, Int.reduceAdd, Int.reduceSub, Int.reduceNeg, Int.reduceToNat, Int.reduceNe, Nat.reducePow, Nat.reduceShiftRight, Nat.reduceMod, *])
      all_goals (exact fin_tmp (.inr rfl) cE3)
  · have hd1 : decide (0 ≤ (n : Int)) = true := decide_eq_true (by omega)
    have hd2 : decide ((n : Int) ≤ 1099511627776) = false := decide_eq_false (by omega)
    rw [hd1, hd2] at c1
    clear hd1 hd2
    rw [if_neg hn]
    repeat' (first | ((with_reducible first | refine wA (by omega) ?_ | refine wB (by omega) ?_ | refine wC (by omega) ?_ | refine wD (by omega) ?_ | refine wE ?_ ?_ | refine wF ?_ ?_ | refine wG ?_ ?_ | refine wH ?_ ?_ | refine wI ?_ ?_ | refine wJ ?_ ?_ | refine wK ?_ ?_ | refine wL ?_ ?_) <;> intro _) | (((with_reducible refine call_id ?_); (first | (refine call_pure (c1) ?_)))) | simp (maxSteps := 1000000) (disch := omega) only [go_sem, Nat.reduceAdd, Nat.reduceMul, Nat.reduceSub, Nat.reduceLeDiff, Nat.reduceEqDiff, Nat.reduceBEq, ↓reduceIte, reduceCtorEq, Int.reduceEq, Int.reduceLE, Int.reduceLT, Int.reduceAdd, Int.reduceSub, Int.reduceNeg, Int.reduceToNat, Int.reduceNe, Nat.reducePow, Nat.reduceShiftRight, Nat.reduceMod, mc_wire_Size, *])
    all_goals (exact fin_tmp (.inr rfl) cE3)
theorem shl_val (r k : Nat) (hk : k < 6) (hr : r < 128) : (if 7 * (k : Int) < 0 then none else some (Value.int .i64 (IntKind.i64.wrap ((r : Int) * 2 ^ min (7 * (k : Int)).toNat IntKind.i64.bits)))) = some (Value.int .i64 ((r * 128 ^ k : Nat) : Int)) := by
  rw [if_neg (by omega)]
  have hp : (128 : Nat) ^ k ≤ 128 ^ 5 := Nat.pow_le_pow_right (by omega) (by omega)
  have hy : r * 128 ^ k ≤ 127 * 128 ^ 5 := Nat.mul_le_mul (by omega) hp
  have e0 : min (7 * (k : Int)).toNat IntKind.i64.bits = 7 * k := by
    show min (7 * (k : Int)).toNat 64 = 7 * k
    omega
  have e4 : (2 : Int) ^ (7 * k) = ((128 ^ k : Nat) : Int) := by rw [Int.pow_mul]; push_cast; rfl
  have e8 : IntKind.i64.wrap ((r * 128 ^ k : Nat) : Int) = ((r * 128 ^ k : Nat) : Int) := by rw [IntKind.wrap_i64]; omega
  rw [e0, e4, ← Int.natCast_mul, e8]
theorem or_val (v r k : Nat) (hk : k < 6) (hv : v < 128 ^ k) (hr : r < 128) : IntKind.i64.wrap ((BitVec.ofInt IntKind.i64.bits (v : Int) ||| BitVec.ofInt IntKind.i64.bits ((r * 128 ^ k : Nat) : Int)).toNat : Int) = ((v + r * 128 ^ k : Nat) : Int) := by
  have hp : (128 : Nat) ^ k ≤ 128 ^ 5 := Nat.pow_le_pow_right (by omega) (by omega)
  have hy : r * 128 ^ k ≤ 127 * 128 ^ 5 := Nat.mul_le_mul (by omega) hp
  have e1 := Plain.or_i64 v (r * 128 ^ k) (by omega) (by omega)
  have e6 : (128 : Nat) ^ k = 2 ^ (7 * k) := by rw [Nat.pow_mul]
  have e2 : v ||| r * 128 ^ k = v + r * 128 ^ k := by
    rw [e6] at hv ⊢
    have := Nat.two_pow_add_eq_or_of_lt hv r
    rw [Nat.or_comm, Nat.mul_comm r, ← this, Nat.add_comm]
  rw [e2] at e1
  exact e1
set_option maxHeartbeats 8000000 in
theorem takeNum_p (l : List UInt8) : PPure Try.prog F.wire_takeNum [rowB l] (.tup [.sc (.int .i64 ((Plain.tk l).1 : Nat)), .sc (.int .i64 ((Plain.tk l).2 : Nat))]) := by
  refine pure_by is_wire_takeNum (by simp) rfl fun hb nx => ?_
  have hlb : l.length ≤ 9223372036854775807 := by simp [rowB, bndL, PV.bnd] at hb; omega
  clear hb
  have c0 := slc_front 6 6 rfl l
  have ht : (l.take 6).length = min 6 l.length := List.length_take
  repeat' (first | ((with_reducible first | refine wA (by omega) ?_ | refine wB (by omega) ?_ | refine wC (by omega) ?_ | refine wD (by omega) ?_ | refine wE ?_ ?_ | refine wF ?_ ?_ | refine wG ?_ ?_ | refine wH ?_ ?_ | refine wI ?_ ?_ | refine wJ ?_ ?_ | refine wK ?_ ?_ | refine wL ?_ ?_) <;> intro _) | simp (maxSteps := 1000000) (disch := omega) only [go_sem, Nat.reduceAdd, Nat.reduceMul, Nat.reduceSub, Nat.reduceLeDiff, Nat.reduceEqDiff, Nat.reduceBEq, ↓reduceIte, reduceCtorEq, Int.reduceEq, Int.reduceLE, Int.reduceLT, Int.reduceAdd, Int.reduceSub, Int.reduceNeg, Int.reduceToNat, Int.reduceNe, Nat.reducePow, Nat.reduceShiftRight, Nat.reduceMod, mc_wire_takeNum, rowB, *])
  refine c_loopW 4398046503036 (by kernel_rfl) (fun j f H m => ∃ k v : Nat, j = min 6 l.length - k ∧ k ≤ min 6 l.length ∧ f 13 = .sc (.int .i64 k) ∧ f 4 = .sc (.int .i64 v) ∧ Kept (Plain.Mid l k v)) _ ⟨0, 0, rfl, Nat.zero_le _, cE1, cE1, Kept.mk (Plain.mid_start l)⟩ ?_
  rintro _ f H m ⟨k, v, rfl, hk, e13, e4, hm⟩
  by_cases hlt : k < min 6 l.length
  · have hkl : k < l.length := by omega
    have eg : (l.take 6)[k]? = some l[k] := by rw [List.getElem?_take, if_pos (by omega), List.getElem?_eq_getElem hkl]
    have hbyte := l[k].toNat_lt
    have h1 : IntKind.u8.wrap ((BitVec.ofInt IntKind.u8.bits ((l[k].toNat : Nat) : Int) &&& BitVec.ofInt IntKind.u8.bits 127).toNat : Int) = ((l[k].toNat % 128 : Nat) : Int) := by
      have e1 := Plain.and_u8 l[k].toNat 127 hbyte (by omega)
      rw [Nat.and_two_pow_sub_one_eq_mod l[k].toNat 7] at e1
      exact e1
    have h5 := shl_val (l[k].toNat % 128) k (by omega) (by omega)
    have h6 := or_val v (l[k].toNat % 128) k (by omega) hm.out.1 (by omega)
    have h1' := h1
    have h5' := h5
    have h6' := h6
    simp only [IntKind.bits] at h1' h5' h6'
    by_cases hx : 128 ≤ l[k].toNat
    · have hm2 := Kept.mk (Plain.mid_go hm.out (by omega) hkl hx)
      obtain ⟨v', hv'⟩ : ∃ v', v' = v + l[k].toNat % 128 * 128 ^ k := ⟨_, rfl⟩
      rw [← hv'] at h6 h6' hm2
      clear hm hv'
      repeat' (first | ((with_reducible first | refine wA (by omega) ?_ | refine wB (by omega) ?_ | refine wC (by omega) ?_ | refine wD (by omega) ?_ | refine wE ?_ ?_ | refine wF ?_ ?_ | refine wG ?_ ?_ | refine wH ?_ ?_ | refine wI ?_ ?_ | refine wJ ?_ ?_ | refine wK ?_ ?_ | refine wL ?_ ?_) <;> intro _) | simp (maxSteps := 1000000) (disch := omega) only [go_sem, Nat.reduceAdd, Nat.reduceMul, Nat.reduceSub, Nat.reduceLeDiff, Nat.reduceEqDiff, Nat.reduceBEq, ↓reduceIte, reduceCtorEq, Int.reduceEq, Int.reduceLE, Int.reduceLT, Int.reduceAdd, Int.reduceSub, Int.reduceNeg, Int.reduceToNat, Int.reduceNe, Nat.reducePow, Nat.reduceShiftRight, Nat.reduceMod, *])
      exact Nx.mk (min 6 l.length - (k + 1)) (by omega) ⟨k + 1, v', rfl, by omega, cE1, cE1, hm2⟩
    · have hend := Plain.tk_of_raw (Plain.mid_end hm.out (by omega) hkl (by omega))
      have hv1 := hm.out.1
      obtain ⟨v', hv'⟩ : ∃ v', v' = v + l[k].toNat * 128 ^ k := ⟨_, rfl⟩
      have ex : l[k].toNat % 128 = l[k].toNat := by omega
      rw [ex] at h1 h5 h6 h1' h5' h6'
      rw [← hv'] at h6 h6' hend
      rw [hend]
      clear hm hend ex hv1
      have c2 := isNumber_p (v' : Int)
      have c3 := Size_p v'
      by_cases hn : v' ≤ 1099511627776
      · have hd1 : decide (0 ≤ (v' : Int)) = true := decide_eq_true (by omega)
        have hd2 : decide ((v' : Int) ≤ 1099511627776) = true := decide_eq_true (by omega)
        rw [hd1, hd2] at c2
        rw [if_pos hn] at c3
        have hen := enc_len6 v' (by omega)
        clear hd1 hd2 hv'
        by_cases he : (Plain.enc v').length = k + 1
        · rw [if_pos ⟨by unfold Plain.mc; exact hn, he⟩]
          rw [he] at c3
          clear he hen
          repeat' (first | ((with_reducible first | refine wA (by omega) ?_ | refine wB (by omega) ?_ | refine wC (by omega) ?_ | refine wD (by omega) ?_ | refine wE ?_ ?_ | refine wF ?_ ?_ | refine wG ?_ ?_ | refine wH ?_ ?_ | refine wI ?_ ?_ | refine wJ ?_ ?_ | refine wK ?_ ?_ | refine wL ?_ ?_) <;> intro _) | (((with_reducible refine call_id ?_); (first | (refine call_pure (c2) ?_) | (refine call_pure (c3) ?_)))) | simp (maxSteps := 1000000) (disch := omega) only [go_sem, Nat.reduceAdd, Nat.reduceMul, Nat.reduceSub, Nat.reduceLeDiff, Nat.reduceEqDiff, Nat.reduceBEq, ↓reduceIte, reduceCtorEq, Int.reduceEq, Int.reduceLE, Int.reduceLT, Int.reduceAdd, Int.reduceSub, Int.reduceNeg, Int.reduceToNat, Int.reduceNe, Nat.reducePow, Nat.reduceShiftRight, Nat.reduceMod, *])
          refine fin_ret (r0 := .tup [.sc (.int .i64 (v' : Nat)), .sc (.int .i64 ((k + 1 : Nat) : Int))]) 0 cE2 ?_
          exact .of_eq rfl
        · rw [if_neg (fun h => he h.2)]
          have he2 : ¬ ((Plain.enc v').length : Int) = (k : Int) + 1 := by omega
          repeat' (first | ((with_reducible first | refine wA (by omega) ?_ | refine wB (by omega) ?_ | refine wC (by omega) ?_ | refine wD (by omega) ?_ | refine wE ?_ ?_ | refine wF ?_ ?_ | refine wG ?_ ?_ | refine wH ?_ ?_ | refine wI ?_ ?_ | refine wJ ?_ ?_ | refine wK ?_ ?_ | refine wL ?_ ?_) <;> intro _) | (((with_reducible refine call_id ?_); (first | (refine call_pure (c2) ?_) | (refine call_pure (c3) ?_)))) | simp (maxSteps := 1000000) (disch := omega) only [go_sem, Nat.reduceAdd, Nat.reduceMul, Nat.reduceSub, Nat.reduceLeDiff, Nat.reduceEqDiff, Nat.reduceBEq, ↓reduceIte, reduceCtorEq, Int.reduceEq, Int.reduceLE, Int.reduceLT, Int.reduceAdd, Int.reduceSub, Int.reduceNeg, Int.reduceToNat, Int.reduceNe, Nat.reducePow, Nat.reduceShiftRight, Nat.reduceMod, *])
          refine fin_ret (r0 := .tup [.sc (.int .i64 0), .sc (.int .i64 0)]) 0 cE2 ?_
          exact .of_eq rfl
      · have hd1 : decide (0 ≤ (v' : Int)) = true := decide_eq_true (by omega)
        have hd2 : decide ((v' : Int) ≤ 1099511627776) = false := decide_eq_false (by omega)
        rw [hd1, hd2] at c2
        rw [if_neg (fun h => hn (by have := h.1; unfold Plain.mc at this; exact this))]
        clear hd1 hd2 hv' c3
        repeat' (first | ((with_reducible first | refine wA (by omega) ?_ | refine wB (by omega) ?_ | refine wC (by omega) ?_ | refine wD (by omega) ?_ | refine wE ?_ ?_ | refine wF ?_ ?_ | refine wG ?_ ?_ | refine wH ?_ ?_ | refine wI ?_ ?_ | refine wJ ?_ ?_ | refine wK ?_ ?_ | refine wL ?_ ?_) <;> intro _) | (((with_reducible refine call_id ?_); (first | (refine call_pure (c2) ?_)))) | simp (maxSteps := 1000000) (disch := omega) only [go_sem, Nat.reduceAdd, Nat.reduceMul, Nat.reduceSub, Nat.reduceLeDiff, Nat.reduceEqDiff, Nat.reduceBEq, ↓reduceIte, reduceCtorEq, Int.reduceEq, Int.reduceLE, Int.reduceLT, Int.reduceAdd, Int.reduceSub, Int.reduceNeg, Int.reduceToNat, Int.reduceNe, Nat.reducePow, Nat.reduceShiftRight, Nat.reduceMod, *])
        refine fin_ret (r0 := .tup [.sc (.int .i64 0), .sc (.int .i64 0)]) 0 cE2 ?_
        exact .of_eq rfl
  · have h0 := Plain.mid_none hm.out (by omega)
    rw [h0]
    clear h0 hm
    repeat' (first | ((with_reducible first | refine wA (by omega) ?_ | refine wB (by omega) ?_ | refine wC (by omega) ?_ | refine wD (by omega) ?_ | refine wE ?_ ?_ | refine wF ?_ ?_ | refine wG ?_ ?_ | refine wH ?_ ?_ | refine wI ?_ ?_ | refine wJ ?_ ?_ | refine wK ?_ ?_ | refine wL ?_ ?_) <;> intro _) | simp (maxSteps := 1000000) (disch := omega) only [go_sem, Nat.reduceAdd, Nat.reduceMul, Nat.reduceSub, Nat.reduceLeDiff, Nat.reduceEqDiff, Nat.reduceBEq, ↓reduceIte, reduceCtorEq, Int.reduceEq, Int.reduceLE, Int.reduceLT, Int.reduceAdd, Int.reduceSub, Int.reduceNeg, Int.reduceToNat, Int.reduceNe, Nat.reducePow, Nat.reduceShiftRight, Nat.reduceMod, *])
    refine fin_ret (r0 := .tup [.sc (.int .i64 0), .sc (.int .i64 0)]) 0 cE2 ?_
    exact .of_eq rfl
end
section
set_option maxRecDepth 20000
attribute [local go_sem] Nat.add_assoc id_ne id_ne' id_ne2 List.append_assoc bC_len bC_one
theorem rowB_flatR (l : List UInt8) : (l.map fun c => [PV.sc (.int .u8 c.toNat)]).flatten = bC l := by
  induction l with
  | nil => rfl
  | cons x r ih => simp only [List.map_cons, List.flatten_cons, List.cons_append, List.nil_append, bC] at ih ⊢; rw [ih]
attribute [local go_sem] rowB_flatR
set_option maxHeartbeats 4000000 in
theorem sCloneB_p (l : List UInt8) (hl : l.length ≤ 2 ^ 40) : PPure Try.prog F.slices_Clone_byte_byte [rowB l] (rowB l) := by
  refine pure_by is_slices_Clone_byte_byte (by simp) (rowB_imm _) fun hb nx => ?_
  clear hb
  repeat' (first | ((with_reducible first | refine wA (by omega) ?_ | refine wB (by omega) ?_ | refine wC (by omega) ?_ | refine wD (by omega) ?_ | refine wE ?_ ?_ | refine wF ?_ ?_ | refine wG ?_ ?_ | refine wH ?_ ?_ | refine wI ?_ ?_ | refine wJ ?_ ?_ | refine wK ?_ ?_ | refine wL ?_ ?_) <;> intro _) | simp (maxSteps := 1000000) (disch := omega) only [go_sem, Nat.reduceAdd, Nat.reduceMul, Nat.reduceSub, Nat.reduceLeDiff, Nat.reduceEqDiff, Nat.reduceBEq, ↓reduceIte, reduceCtorEq, Int.reduceEq, Int.reduceLE, Int.reduceLT, Int.reduceAdd, Int.reduceSub, Int.reduceNeg, Int.reduceToNat, Int.reduceNe, Nat.reducePow, Nat.reduceShiftRight, Nat.reduceMod, mc_slices_Clone_byte_byte, *])
  refine o_slnil rfl rfl Try.underlying36 (n := l.length) (by simp [slN, ev, upd, rowB]) fun t ht => ?_
  cases t with
  | true =>
    obtain rfl : l = [] := List.eq_nil_of_length_eq_zero (ht rfl)
    clear ht
    repeat' (first | ((with_reducible first | refine wA (by omega) ?_ | refine wB (by omega) ?_ | refine wC (by omega) ?_ | refine wD (by omega) ?_ | refine wE ?_ ?_ | refine wF ?_ ?_ | refine wG ?_ ?_ | refine wH ?_ ?_ | refine wI ?_ ?_ | refine wJ ?_ ?_ | refine wK ?_ ?_ | refine wL ?_ ?_) <;> intro _) | simp (maxSteps := 1000000) (disch := omega) only [go_sem, Nat.reduceAdd, Nat.reduceMul, Nat.reduceSub, Nat.reduceLeDiff, Nat.reduceEqDiff, Nat.reduceBEq, ↓reduceIte, reduceCtorEq, Int.reduceEq, Int.reduceLE, Int.reduceLT, Int.reduceAdd, Int.reduceSub, Int.reduceNeg, Int.reduceToNat, Int.reduceNe, Nat.reducePow, Nat.reduceShiftRight, Nat.reduceMod, *])
    refine fin_ret (r0 := .sc (.slice none 0 0)) 0 cE2 ?_
    exact .nil 1
  | false =>
    clear ht
    have b1 : l.length ≤ 140737488355328 := by omega
    have b2 : l.length ≤ 4611686018427387904 := by omega
    repeat' (first | ((with_reducible first | refine wA (by omega) ?_ | refine wB (by omega) ?_ | refine wC (by omega) ?_ | refine wD (by omega) ?_ | refine wE ?_ ?_ | refine wF ?_ ?_ | refine wG ?_ ?_ | refine wH ?_ ?_ | refine wI ?_ ?_ | refine wJ ?_ ?_ | refine wK ?_ ?_ | refine wL ?_ ?_) <;> intro _) | simp (maxSteps := 1000000) (disch := omega) only [go_sem, Nat.reduceAdd, Nat.reduceMul, Nat.reduceSub, Nat.reduceLeDiff, Nat.reduceEqDiff, Nat.reduceBEq, ↓reduceIte, reduceCtorEq, Int.reduceEq, Int.reduceLE, Int.reduceLT, Int.reduceAdd, Int.reduceSub, Int.reduceNeg, Int.reduceToNat, Int.reduceNe, Nat.reducePow, Nat.reduceShiftRight, Nat.reduceMod, rowB, *])
    refine fin_ret (r0 := .osl (nx + 5) 0 l.length 1) 1 cE2 ?_
    exact .of_eq (pk_frz (w := false) (by simp [upd]))
set_option maxHeartbeats 4000000 in
theorem bCloneB_p (l : List UInt8) (hl : l.length ≤ 2 ^ 40) : PPure Try.prog F.bytes_Clone [rowB l] (rowB l) := by
  refine pure_by is_bytes_Clone (by simp) (rowB_imm _) fun hb nx => ?_
  clear hb
  repeat' (first | ((with_reducible first | refine wA (by omega) ?_ | refine wB (by omega) ?_ | refine wC (by omega) ?_ | refine wD (by omega) ?_ | refine wE ?_ ?_ | refine wF ?_ ?_ | refine wG ?_ ?_ | refine wH ?_ ?_ | refine wI ?_ ?_ | refine wJ ?_ ?_ | refine wK ?_ ?_ | refine wL ?_ ?_) <;> intro _) | simp (maxSteps := 1000000) (disch := omega) only [go_sem, Nat.reduceAdd, Nat.reduceMul, Nat.reduceSub, Nat.reduceLeDiff, Nat.reduceEqDiff, Nat.reduceBEq, ↓reduceIte, reduceCtorEq, Int.reduceEq, Int.reduceLE, Int.reduceLT, Int.reduceAdd, Int.reduceSub, Int.reduceNeg, Int.reduceToNat, Int.reduceNe, Nat.reducePow, Nat.reduceShiftRight, Nat.reduceMod, mc_bytes_Clone, *])
  refine o_slnil rfl rfl Try.underlying36 (n := l.length) (by simp [slN, ev, upd, rowB]) fun t ht => ?_
  cases t with
  | true =>
    obtain rfl : l = [] := List.eq_nil_of_length_eq_zero (ht rfl)
    clear ht
    repeat' (first | ((with_reducible first | refine wA (by omega) ?_ | refine wB (by omega) ?_ | refine wC (by omega) ?_ | refine wD (by omega) ?_ | refine wE ?_ ?_ | refine wF ?_ ?_ | refine wG ?_ ?_ | refine wH ?_ ?_ | refine wI ?_ ?_ | refine wJ ?_ ?_ | refine wK ?_ ?_ | refine wL ?_ ?_) <;> intro _) | simp (maxSteps := 1000000) (disch := omega) only [go_sem, Nat.reduceAdd, Nat.reduceMul, Nat.reduceSub, Nat.reduceLeDiff, Nat.reduceEqDiff, Nat.reduceBEq, ↓reduceIte, reduceCtorEq, Int.reduceEq, Int.reduceLE, Int.reduceLT, Int.reduceAdd, Int.reduceSub, Int.reduceNeg, Int.reduceToNat, Int.reduceNe, Nat.reducePow, Nat.reduceShiftRight, Nat.reduceMod, *])
    refine fin_ret (r0 := .sc (.slice none 0 0)) 0 cE2 ?_
    exact .nil 1
  | false =>
    clear ht
    have b1 : l.length ≤ 140737488355328 := by omega
    have b2 : l.length ≤ 4611686018427387904 := by omega
    repeat' (first | ((with_reducible first | refine wA (by omega) ?_ | refine wB (by omega) ?_ | refine wC (by omega) ?_ | refine wD (by omega) ?_ | refine wE ?_ ?_ | refine wF ?_ ?_ | refine wG ?_ ?_ | refine wH ?_ ?_ | refine wI ?_ ?_ | refine wJ ?_ ?_ | refine wK ?_ ?_ | refine wL ?_ ?_) <;> intro _) | simp (maxSteps := 1000000) (disch := omega) only [go_sem, Nat.reduceAdd, Nat.reduceMul, Nat.reduceSub, Nat.reduceLeDiff, Nat.reduceEqDiff, Nat.reduceBEq, ↓reduceIte, reduceCtorEq, Int.reduceEq, Int.reduceLE, Int.reduceLT, Int.reduceAdd, Int.reduceSub, Int.reduceNeg, Int.reduceToNat, Int.reduceNe, Nat.reducePow, Nat.reduceShiftRight, Nat.reduceMod, rowB, *])
    refine fin_ret (r0 := .osl (nx + 5) 0 l.length 1) 1 cE2 ?_
    exact .of_eq (pk_frz (w := false) (by simp [upd]))
theorem slc_back (ki : Int) (k : Nat) (l : List UInt8) (hk : ki = k) (h : k ≤ l.length) : slcI 1 false ki l.length none (.sl 1 (l.map fun c => [PV.sc (.int .u8 c.toNat)])) = some (.sl 1 ((l.drop k).map fun c => [PV.sc (.int .u8 c.toNat)])) := by
  subst hk
  rw [slc_map (by omega) (by omega) (by omega)]
  congr 2
  rw [Int.toNat_natCast, List.take_of_length_le (by rw [List.length_drop]; omega)]
def numV (l : List UInt8) : PV := if (Plain.tk l).2 = 0 then .tup [.sc (.int .i64 0), .sc (.slice none 0 0), .sc (.bool false)] else .tup [.sc (.int .i64 ((Plain.tk l).1 : Nat)), rowB (l.drop (Plain.tk l).2), .sc (.bool true)]
set_option maxHeartbeats 4000000 in
theorem Num_p (l : List UInt8) (hl : l.length ≤ 2 ^ 40) : PPure Try.prog F.wire_Num [rowB l] (numV l) := by
  unfold numV
  have c1 := takeNum_p l
  have hr := Plain.tk_read l
  by_cases h0 : (Plain.tk l).2 = 0
  · rw [if_pos h0]
    rw [h0] at c1
    clear hr h0
    refine pure_by is_wire_Num (by simp) rfl fun hb nx => ?_
    clear hb
    repeat' (first | ((with_reducible first | refine wA (by omega) ?_ | refine wB (by omega) ?_ | refine wC (by omega) ?_ | refine wD (by omega) ?_ | refine wE ?_ ?_ | refine wF ?_ ?_ | refine wG ?_ ?_ | refine wH ?_ ?_ | refine wI ?_ ?_ | refine wJ ?_ ?_ | refine wK ?_ ?_ | refine wL ?_ ?_) <;> intro _) | (((with_reducible refine call_id ?_); (first | (refine call_pure (c1) ?_)))) | simp (maxSteps := 1000000) (disch := omega) only [go_sem, Nat.reduceAdd, Nat.reduceMul, Nat.reduceSub, Nat.reduceLeDiff, Nat.reduceEqDiff, Nat.reduceBEq, ↓reduceIte, reduceCtorEq, Int.reduceEq, Int.reduceLE, Int.reduceLT, Int.reduceAdd, Int.reduceSub, Int.reduceNeg, Int.reduceToNat, Int.reduceNe, Nat.reducePow, Nat.reduceShiftRight, Nat.reduceMod, mc_wire_Num, *])
    refine fin_ret (r0 := .tup [.sc (.int .i64 0), .sc (.slice none 0 0), .sc (.bool false)]) 0 cE2 ?_
    exact .of_eq rfl
  · rw [if_neg h0]
    obtain ⟨h1, h2, h3, h4⟩ := hr h0
    refine pure_by is_wire_Num (by simp) (by show (immL [PV.sc _, rowB _, PV.sc _]) = true; simp [immL, rowB_imm, PV.imm]) fun hb nx => ?_
    clear hb h2 h3 hr
    generalize hn : (Plain.tk l).1 = n at *
    generalize hk : (Plain.tk l).2 = k at *
    clear hn hk
    have c2 := sCloneB_p (l.drop k) (by rw [List.length_drop]; omega)
    have c3 := slc_back k k l rfl h4
    repeat' (first | ((with_reducible first | refine wA (by omega) ?_ | refine wB (by omega) ?_ | refine wC (by omega) ?_ | refine wD (by omega) ?_ | refine wE ?_ ?_ | refine wF ?_ ?_ | refine wG ?_ ?_ | refine wH ?_ ?_ | refine wI ?_ ?_ | refine wJ ?_ ?_ | refine wK ?_ ?_ | refine wL ?_ ?_) <;> intro _) | (((with_reducible refine call_id ?_); (first | (refine call_pure (c1) ?_) | (refine call_pure (c2) ?_)))) | simp (maxSteps := 1000000) (disch := omega) only [go_sem, Nat.reduceAdd, Nat.reduceMul, Nat.reduceSub, Nat.reduceLeDiff, Nat.reduceEqDiff, Nat.reduceBEq, ↓reduceIte, reduceCtorEq, Int.reduceEq, Int.reduceLE, Int.reduceLT, Int.reduceAdd, Int.reduceSub, Int.reduceNeg, Int.reduceToNat, Int.reduceNe, Nat.reducePow, Nat.reduceShiftRight, Nat.reduceMod, mc_wire_Num, rowB, *])
    refine fin_ret (r0 := .tup [.sc (.int .i64 (n : Nat)), rowB (l.drop k), .sc (.bool true)]) 0 (by (simp (disch := omega) only [go_sem, Nat.reduceMul, Nat.reduceSub, Nat.reduceShiftRight, Nat.reduceMod, Nat.reduceEqDiff, Nat.reduceAdd, ↓reduceIte, Nat.reduceLeDiff, *, rowB]); all_goals rfl) ?_
    exact .of_eq rfl
theorem numsOf_bC (l : List UInt8) : numsOf (bC l) = some (l.map fun c => (c.toNat : Int)) := by
  induction l with
  | nil => rfl
  | cons x r ih =>
    show (numsOf (bC r)).map _ = _
    rw [ih]
    rfl
def tb0 (s : ByteArray) : List UInt8 := s.data.toList
def strB (l : List UInt8) : ByteArray := ⟨l.toArray⟩
theorem strB_tb (s : ByteArray) : strB (tb0 s) = s := by cases s; simp [strB, tb0]
theorem textOf_map (l : List UInt8) : textOf (l.map fun c => (c.toNat : Int)) = strB l := by
  unfold textOf
  have : ∀ (l : List UInt8) (b : ByteArray), (l.map fun c => (c.toNat : Int)).foldl (fun r n => r.push (UInt8.ofNat n.toNat)) b = ⟨b.data ++ l.toArray⟩ := by
    intro l
    induction l with
    | nil => intro b; simp
    | cons x r ih =>
      intro b
      rw [List.map_cons, List.foldl_cons, ih]
      simp [ByteArray.push]
  rw [this]
  simp [strB, ByteArray.empty, ByteArray.emptyWithCapacity]
  rfl
def txtS (l : List UInt8) : Option (ByteArray × List UInt8) :=
  if (Plain.tk l).2 = 0 ∨ l.length - (Plain.tk l).2 < (Plain.tk l).1 then none
  else some (strB ((l.drop (Plain.tk l).2).take (Plain.tk l).1), l.drop ((Plain.tk l).2 + (Plain.tk l).1))
def txtV (l : List UInt8) : PV := match txtS l with
  | none => .tup [.sc (.string ⟨#[]⟩), rowB [], .sc (.bool false)]
  | some (s, r) => .tup [.sc (.string s), rowB r, .sc (.bool true)]
theorem txtV_imm (l : List UInt8) : (txtV l).imm = true := by
  unfold txtV
  split
  · show (immL [PV.sc _, rowB _, PV.sc _]) = true; simp [immL, rowB_imm, PV.imm]
  · show (immL [PV.sc _, rowB _, PV.sc _]) = true; simp [immL, rowB_imm, PV.imm]
set_option maxHeartbeats 4000000 in
theorem takeText_p (l : List UInt8) (hl : l.length ≤ 2 ^ 40) : PPure Try.prog F.wire_takeText [rowB l] (txtV l) := by
  refine pure_by is_wire_takeText (by simp) (txtV_imm l) fun hb nx => ?_
  clear hb
  unfold txtV txtS
  have c1 := takeNum_p l
  have hr := Plain.tk_read l
  by_cases h0 : (Plain.tk l).2 = 0
  · rw [if_pos (.inl h0)]
    rw [h0] at c1
    clear hr h0
    simp only
    repeat' (first | ((with_reducible first | refine wA (by omega) ?_ | refine wB (by omega) ?_ | refine wC (by omega) ?_ | refine wD (by omega) ?_ | refine wE ?_ ?_ | refine wF ?_ ?_ | refine wG ?_ ?_ | refine wH ?_ ?_ | refine wI ?_ ?_ | refine wJ ?_ ?_ | refine wK ?_ ?_ | refine wL ?_ ?_) <;> intro _) | (((with_reducible refine call_id ?_); (first | (refine call_pure (c1) ?_)))) | simp (maxSteps := 1000000) (disch := omega) only [go_sem, Nat.reduceAdd, Nat.reduceMul, Nat.reduceSub, Nat.reduceLeDiff, Nat.reduceEqDiff, Nat.reduceBEq, ↓reduceIte, reduceCtorEq, Int.reduceEq, Int.reduceLE, Int.reduceLT, Int.reduceAdd, Int.reduceSub, Int.reduceNeg, Int.reduceToNat, Int.reduceNe, Nat.reducePow, Nat.reduceShiftRight, Nat.reduceMod, mc_wire_takeText, *])
    refine fin_ret (r0 := .tup [.sc (.string ⟨#[]⟩), .sc (.slice none 0 0), .sc (.bool false)]) 0 cE2 ?_
    exact Weak.tup ⟨.of_eq rfl, .nil 1, .of_eq rfl, trivial⟩
  · obtain ⟨h1, h2, h3, h4⟩ := hr h0
    have h1 : (Plain.tk l).1 ≤ 1099511627776 := h1
    clear h2 h3 hr
    generalize hn : (Plain.tk l).1 = n at *
    generalize hk : (Plain.tk l).2 = k at *
    clear hn hk
    by_cases h5 : l.length - k < n
    · rw [if_pos (.inr h5)]
      simp only
      repeat' (first | ((with_reducible first | refine wA (by omega) ?_ | refine wB (by omega) ?_ | refine wC (by omega) ?_ | refine wD (by omega) ?_ | refine wE ?_ ?_ | refine wF ?_ ?_ | refine wG ?_ ?_ | refine wH ?_ ?_ | refine wI ?_ ?_ | refine wJ ?_ ?_ | refine wK ?_ ?_ | refine wL ?_ ?_) <;> intro _) | (((with_reducible refine call_id ?_); (first | (refine call_pure (c1) ?_)))) | simp (maxSteps := 1000000) (disch := omega) only [go_sem, Nat.reduceAdd, Nat.reduceMul, Nat.reduceSub, Nat.reduceLeDiff, Nat.reduceEqDiff, Nat.reduceBEq, ↓reduceIte, reduceCtorEq, Int.reduceEq, Int.reduceLE, Int.reduceLT, Int.reduceAdd, Int.reduceSub, Int.reduceNeg, Int.reduceToNat, Int.reduceNe, Nat.reducePow, Nat.reduceShiftRight, Nat.reduceMod, mc_wire_takeText, rowB, *])
      refine fin_ret (r0 := .tup [.sc (.string ⟨#[]⟩), .sc (.slice none 0 0), .sc (.bool false)]) 0 cE2 ?_
      exact Weak.tup ⟨.of_eq rfl, .nil 1, .of_eq rfl, trivial⟩
    · rw [if_neg (by omega)]
      simp only
      have h6 : k + n ≤ l.length := by omega
      have h7 : IntKind.i64.wrap ((k : Int) + (n : Int)) = ((k + n : Nat) : Int) := by rw [IntKind.wrap_i64]; omega
      have c3 := slc_back ((k + n : Nat) : Int) (k + n) l rfl h6
      have c4 : slcI 1 false (k : Int) ((k + n : Nat) : Int) none (.sl 1 (l.map fun c => [PV.sc (.int .u8 c.toNat)])) = some (.sl 1 (((l.drop k).take n).map fun c => [PV.sc (.int .u8 c.toNat)])) := by
        rw [slc_map (by omega) (by omega) (by omega)]
        congr 2
        rw [Int.toNat_natCast, show (((k + n : Nat) : Int) - (k : Int)).toNat = n by omega]
      repeat' (first | ((with_reducible first | refine wA (by omega) ?_ | refine wB (by omega) ?_ | refine wC (by omega) ?_ | refine wD (by omega) ?_ | refine wE ?_ ?_ | refine wF ?_ ?_ | refine wG ?_ ?_ | refine wH ?_ ?_ | refine wI ?_ ?_ | refine wJ ?_ ?_ | refine wK ?_ ?_ | refine wL ?_ ?_) <;> intro _) | (((with_reducible refine call_id ?_); (first | (refine call_pure (c1) ?_)))) | simp (maxSteps := 1000000) (disch := omega) only [go_sem, Nat.reduceAdd, Nat.reduceMul, Nat.reduceSub, Nat.reduceLeDiff, Nat.reduceEqDiff, Nat.reduceBEq, ↓reduceIte, reduceCtorEq, Int.reduceEq, Int.reduceLE, Int.reduceLT, Int.reduceAdd, Int.reduceSub, Int.reduceNeg, Int.reduceToNat, Int.reduceNe, Nat.reducePow, Nat.reduceShiftRight, Nat.reduceMod, mc_wire_takeText, rowB, numsOf_bC, textOf_map, *])
      refine fin_ret (r0 := .tup [.sc (.string (strB ((l.drop k).take n))), rowB (l.drop (k + n)), .sc (.bool true)]) 0 (by (simp (disch := omega) only [go_sem, Nat.reduceMul, Nat.reduceSub, Nat.reduceShiftRight, Nat.reduceMod, Nat.reduceEqDiff, Nat.reduceAdd, ↓reduceIte, Nat.reduceLeDiff, *, rowB]); all_goals rfl) ?_
      exact .of_eq rfl
set_option maxHeartbeats 4000000 in
theorem wText_p (l : List UInt8) (hl : l.length ≤ 2 ^ 40) : PPure Try.prog F.wire_Text [rowB l] (txtV l) := by
  refine pure_by is_wire_Text (by simp) (txtV_imm l) fun hb nx => ?_
  clear hb
  have c1 := takeText_p l hl
  unfold txtV at c1 ⊢
  cases ht : txtS l with
  | none =>
    rw [ht] at c1
    clear ht
    simp only at c1 ⊢
    have c2 := sCloneB_p [] (Nat.zero_le _)
    repeat' (first | ((with_reducible first | refine wA (by omega) ?_ | refine wB (by omega) ?_ | refine wC (by omega) ?_ | refine wD (by omega) ?_ | refine wE ?_ ?_ | refine wF ?_ ?_ | refine wG ?_ ?_ | refine wH ?_ ?_ | refine wI ?_ ?_ | refine wJ ?_ ?_ | refine wK ?_ ?_ | refine wL ?_ ?_) <;> intro _) | (((with_reducible refine call_id ?_); (first | (refine call_pure (c1) ?_) | (refine call_pure (c2) ?_)))) | simp (maxSteps := 1000000) (disch := omega) only [go_sem, Nat.reduceAdd, Nat.reduceMul, Nat.reduceSub, Nat.reduceLeDiff, Nat.reduceEqDiff, Nat.reduceBEq, ↓reduceIte, reduceCtorEq, Int.reduceEq, Int.reduceLE, Int.reduceLT, Int.reduceAdd, Int.reduceSub, Int.reduceNeg, Int.reduceToNat, Int.reduceNe, Nat.reducePow, Nat.reduceShiftRight, Nat.reduceMod, mc_wire_Text, rowB, *])
    refine fin_ret (r0 := .tup [.sc (.string ⟨#[]⟩), rowB [], .sc (.bool false)]) 0 (by (simp (disch := omega) only [go_sem, Nat.reduceMul, Nat.reduceSub, Nat.reduceShiftRight, Nat.reduceMod, Nat.reduceEqDiff, Nat.reduceAdd, ↓reduceIte, Nat.reduceLeDiff, *, rowB]); all_goals rfl) ?_
    exact .of_eq rfl
  | some q =>
    obtain ⟨S, L⟩ := q
    have hL : L.length ≤ l.length := by
      unfold txtS at ht
      split at ht
      · cases ht
      · simp only [Option.some.injEq, Prod.mk.injEq] at ht
        rw [← ht.2, List.length_drop]; omega
    rw [ht] at c1
    clear ht
    simp only at c1 ⊢
    have c2 := sCloneB_p L (by omega)
    repeat' (first | ((with_reducible first | refine wA (by omega) ?_ | refine wB (by omega) ?_ | refine wC (by omega) ?_ | refine wD (by omega) ?_ | refine wE ?_ ?_ | refine wF ?_ ?_ | refine wG ?_ ?_ | refine wH ?_ ?_ | refine wI ?_ ?_ | refine wJ ?_ ?_ | refine wK ?_ ?_ | refine wL ?_ ?_) <;> intro _) | (((with_reducible refine call_id ?_); (first | (refine call_pure (c1) ?_) | (refine call_pure (c2) ?_)))) | simp (maxSteps := 1000000) (disch := omega) only [go_sem, Nat.reduceAdd, Nat.reduceMul, Nat.reduceSub, Nat.reduceLeDiff, Nat.reduceEqDiff, Nat.reduceBEq, ↓reduceIte, reduceCtorEq, Int.reduceEq, Int.reduceLE, Int.reduceLT, Int.reduceAdd, Int.reduceSub, Int.reduceNeg, Int.reduceToNat, Int.reduceNe, Nat.reducePow, Nat.reduceShiftRight, Nat.reduceMod, mc_wire_Text, rowB, *])
    refine fin_ret (r0 := .tup [.sc (.string S), rowB L, .sc (.bool true)]) 0 (by (simp (disch := omega) only [go_sem, Nat.reduceMul, Nat.reduceSub, Nat.reduceShiftRight, Nat.reduceMod, Nat.reduceEqDiff, Nat.reduceAdd, ↓reduceIte, Nat.reduceLeDiff, *, rowB]); all_goals rfl) ?_
    exact .of_eq rfl
end
section
set_option maxRecDepth 20000
attribute [local go_sem] Nat.add_assoc id_ne id_ne' id_ne2 List.append_assoc bC_len bC_one rowB_flatR
theorem raw_take : ∀ (f : Nat) (l : List UInt8), Plain.raw f (l.take f) = Plain.raw f l
  | 0, l => by simp [Plain.raw]
  | f + 1, [] => by simp
  | f + 1, c :: l => by simp only [List.take_succ_cons, Plain.raw, raw_take f l]
theorem tk_take (l : List UInt8) : Plain.tk (l.take 6) = Plain.tk l := by unfold Plain.tk; rw [raw_take]
structure RS where
  l : List UInt8
  nodes : Int
  bad : Bool
def rdC (s : RS) : List PV := [rowB s.l, .sc (.int .i64 s.nodes), .sc (.bool s.bad)]
def numF (s : RS) : Nat × RS := if (Plain.tk s.l).2 = 0 then (0, ⟨s.l.drop 6, s.nodes, true⟩) else ((Plain.tk s.l).1, ⟨s.l.drop (Plain.tk s.l).2, s.nodes, s.bad⟩)
def nameF (s : RS) : ByteArray × RS := match txtS (s.l.take 46) with
  | none => (⟨#[]⟩, ⟨s.l.drop 46, s.nodes, true⟩)
  | some (t, r) => (t, ⟨s.l.drop ((s.l.take 46).length - r.length), s.nodes, s.bad⟩)
def roomF (s : RS) : RS := ⟨s.l, IntKind.i64.wrap (s.nodes + 1), s.bad || decide (2000 < IntKind.i64.wrap (s.nodes + 1))⟩
def RdQ (H : Nat → Option PObj) (nx rid : Nat) (w : Bool) (s : RS) (x : PV) (H' : Nat → Option PObj) (nx' : Nat) (r : PV) : Prop :=
  nx ≤ nx' ∧ r = x ∧ H' rid = some ⟨rdC s, w⟩ ∧ ∀ j, j < nx → j ≠ rid → H' j = H j
theorem numF_len (s : RS) : (numF s).2.l.length ≤ s.l.length := by
  unfold numF
  split <;> simp only [List.length_drop] <;> omega
theorem nameF_len (s : RS) : (nameF s).2.l.length ≤ s.l.length := by
  unfold nameF
  split <;> simp only [List.length_drop] <;> omega
set_option maxHeartbeats 8000000 in
theorem number_m (s : RS) (hl : s.l.length ≤ 2 ^ 40) (rid : Nat) (w : Bool) (H : Nat → Option PObj) (nx : Nat) (hr : rid < nx) (hH : H rid = some ⟨rdC s, w⟩) :
    PMut Try.prog F.pack_reader_number [.optr rid 0] H nx (RdQ H nx rid w (numF s).2 (.sc (.int .i64 ((numF s).1 : Nat)))) := by
  obtain ⟨l, nodes, bad⟩ := s
  refine mut_by is_pack_reader_number (by simp) fun hb => ?_
  clear hb
  simp only [rdC, rowB] at hH hl
  have c0 := slc_front 6 6 rfl l
  have ht : (l.take 6).length = min 6 l.length := List.length_take
  have c1 := Num_p (l.take 6) (by omega)
  unfold numV at c1
  rw [tk_take] at c1
  have hrd := Plain.tk_read l
  have hrd2 := Plain.tk_read (l.take 6)
  rw [tk_take] at hrd2
  unfold numF
  simp only
  by_cases h0 : (Plain.tk l).2 = 0
  · rw [if_pos h0] at c1 ⊢
    have c2 : slcI 1 false (((min 6 l.length : Nat) : Int) - 0) l.length none (.sl 1 (l.map fun c => [PV.sc (.int .u8 c.toNat)])) = some (.sl 1 ((l.drop 6).map fun c => [PV.sc (.int .u8 c.toNat)])) := by
      have := slc_back (((min 6 l.length : Nat) : Int) - 0) (min 6 l.length) l (by omega) (Nat.min_le_right _ _)
      rw [this]
      by_cases h6 : 6 ≤ l.length
      · rw [Nat.min_eq_left h6]
      · rw [Nat.min_eq_right (by omega), List.drop_eq_nil_of_le (Nat.le_refl _), List.drop_eq_nil_of_le (by omega)]
    clear hrd hrd2 h0
    cases bad
    all_goals
      repeat' (first | ((with_reducible first | refine wA (by omega) ?_ | refine wB (by omega) ?_ | refine wC (by omega) ?_ | refine wD (by omega) ?_ | refine wE ?_ ?_ | refine wF ?_ ?_ | refine wG ?_ ?_ | refine wH ?_ ?_ | refine wI ?_ ?_ | refine wJ ?_ ?_ | refine wK ?_ ?_ | refine wL ?_ ?_) <;> intro _) | (((with_reducible refine call_id ?_); (first | (refine call_pure (c1) ?_)))) | simp (maxSteps := 1000000) (disch := omega) only [go_sem, Nat.reduceAdd, Nat.reduceMul, Nat.reduceSub, Nat.reduceLeDiff, Nat.reduceEqDiff, Nat.reduceBEq, ↓reduceIte, reduceCtorEq, Int.reduceEq, Int.reduceLE, Int.reduceLT, Int.reduceAdd, Int.reduceSub, Int.reduceNeg, Int.reduceToNat, Int.reduceNe, Nat.reducePow, Nat.reduceShiftRight, Nat.reduceMod, mc_pack_reader_number, rowB, *])
      refine fin_mut (.sc (.int .i64 0)) (.inr rfl) cE2 ⟨cE1, rfl, ?_, fun j g1 g2 => ?_⟩
      · simp [upd, rdC, rowB]
      · simp [upd, g2]
  · rw [if_neg h0] at c1 ⊢
    obtain ⟨-, -, -, h4⟩ := hrd h0
    obtain ⟨-, -, -, h5⟩ := hrd2 h0
    clear hrd hrd2 h0
    generalize (Plain.tk l).1 = n at *
    generalize (Plain.tk l).2 = k at *
    have ht2 : ((l.take 6).drop k).length = min 6 l.length - k := by rw [List.length_drop, ht]
    rw [ht] at h5
    have c2 : slcI 1 false (((min 6 l.length : Nat) : Int) - ((min 6 l.length - k : Nat) : Int)) l.length none (.sl 1 (l.map fun c => [PV.sc (.int .u8 c.toNat)])) = some (.sl 1 ((l.drop k).map fun c => [PV.sc (.int .u8 c.toNat)])) := slc_back _ k l (by omega) h4
    cases bad
    all_goals
      repeat' (first | ((with_reducible first | refine wA (by omega) ?_ | refine wB (by omega) ?_ | refine wC (by omega) ?_ | refine wD (by omega) ?_ | refine wE ?_ ?_ | refine wF ?_ ?_ | refine wG ?_ ?_ | refine wH ?_ ?_ | refine wI ?_ ?_ | refine wJ ?_ ?_ | refine wK ?_ ?_ | refine wL ?_ ?_) <;> intro _) | (((with_reducible refine call_id ?_); (first | (refine call_pure (c1) ?_)))) | simp (maxSteps := 1000000) (disch := omega) only [go_sem, Nat.reduceAdd, Nat.reduceMul, Nat.reduceSub, Nat.reduceLeDiff, Nat.reduceEqDiff, Nat.reduceBEq, ↓reduceIte, reduceCtorEq, Int.reduceEq, Int.reduceLE, Int.reduceLT, Int.reduceAdd, Int.reduceSub, Int.reduceNeg, Int.reduceToNat, Int.reduceNe, Nat.reducePow, Nat.reduceShiftRight, Nat.reduceMod, mc_pack_reader_number, rowB, *])
      refine fin_mut (.sc (.int .i64 (n : Nat))) (.inr rfl) cE2 ⟨cE1, rfl, ?_, fun j g1 g2 => ?_⟩
      · simp [upd, rdC, rowB]
      · simp [upd, g2]
theorem room_m (s : RS) (rid : Nat) (w : Bool) (H : Nat → Option PObj) (nx : Nat) (hr : rid < nx) (hH : H rid = some ⟨rdC s, w⟩) :
    PMut Try.prog F.pack_reader_room [.optr rid 0] H nx (RdQ H nx rid w (roomF s) (.sc (.bool (!(roomF s).bad)))) := by
  obtain ⟨l, nodes, bad⟩ := s
  refine mut_by is_pack_reader_room (by simp) fun hb => ?_
  clear hb
  simp only [rdC] at hH
  unfold roomF
  simp only
  generalize hn : IntKind.i64.wrap (nodes + 1) = n
  cases bad
  · by_cases h : 2000 < n
    · repeat' (first | ((with_reducible first | refine wA (by omega) ?_ | refine wB (by omega) ?_ | refine wC (by omega) ?_ | refine wD (by omega) ?_ | refine wE ?_ ?_ | refine wF ?_ ?_ | refine wG ?_ ?_ | refine wH ?_ ?_ | refine wI ?_ ?_ | refine wJ ?_ ?_ | refine wK ?_ ?_ | refine wL ?_ ?_) <;> intro _) | simp (maxSteps := 1000000) (disch := omega) only [go_sem, Nat.reduceAdd, Nat.reduceMul, Nat.reduceSub, Nat.reduceLeDiff, Nat.reduceEqDiff, Nat.reduceBEq, ↓reduceIte, reduceCtorEq, Int.reduceEq, Int.reduceLE, Int.reduceLT, Int.reduceAdd, Int.reduceSub, Int.reduceNeg, Int.reduceToNat, Int.reduceNe, Nat.reducePow, Nat.reduceShiftRight, Nat.reduceMod, mc_pack_reader_room, *])
      refine fin_mut (.sc (.bool false)) (.inr rfl) cE2 ⟨cE1, cE1, ?_, fun j g1 g2 => ?_⟩
      · simp [upd, rdC, h]
      · simp [upd, g2]
    · repeat' (first | ((with_reducible first | refine wA (by omega) ?_ | refine wB (by omega) ?_ | refine wC (by omega) ?_ | refine wD (by omega) ?_ | refine wE ?_ ?_ | refine wF ?_ ?_ | refine wG ?_ ?_ | refine wH ?_ ?_ | refine wI ?_ ?_ | refine wJ ?_ ?_ | refine wK ?_ ?_ | refine wL ?_ ?_) <;> intro _) | simp (maxSteps := 1000000) (disch := omega) only [go_sem, Nat.reduceAdd, Nat.reduceMul, Nat.reduceSub, Nat.reduceLeDiff, Nat.reduceEqDiff, Nat.reduceBEq, ↓reduceIte, reduceCtorEq, Int.reduceEq, Int.reduceLE, Int.reduceLT, Int.reduceAdd, Int.reduceSub, Int.reduceNeg, Int.reduceToNat, Int.reduceNe, Nat.reducePow, Nat.reduceShiftRight, Nat.reduceMod, mc_pack_reader_room, *])
      refine fin_mut (.sc (.bool true)) (.inr rfl) cE2 ⟨cE1, cE1, ?_, fun j g1 g2 => ?_⟩
      · simp [upd, rdC, h]
      · simp [upd, g2]
  · repeat' (first | ((with_reducible first | refine wA (by omega) ?_ | refine wB (by omega) ?_ | refine wC (by omega) ?_ | refine wD (by omega) ?_ | refine wE ?_ ?_ | refine wF ?_ ?_ | refine wG ?_ ?_ | refine wH ?_ ?_ | refine wI ?_ ?_ | refine wJ ?_ ?_ | refine wK ?_ ?_ | refine wL ?_ ?_) <;> intro _) | simp (maxSteps := 1000000) (disch := omega) only [go_sem, Nat.reduceAdd, Nat.reduceMul, Nat.reduceSub, Nat.reduceLeDiff, Nat.reduceEqDiff, Nat.reduceBEq, ↓reduceIte, reduceCtorEq, Int.reduceEq, Int.reduceLE, Int.reduceLT, Int.reduceAdd, Int.reduceSub, Int.reduceNeg, Int.reduceToNat, Int.reduceNe, Nat.reducePow, Nat.reduceShiftRight, Nat.reduceMod, mc_pack_reader_room, *])
    refine fin_mut (.sc (.bool false)) (.inr rfl) cE2 ⟨cE1, cE1, ?_, fun j g1 g2 => ?_⟩
    · simp [upd, rdC]
    · simp [upd, g2]
set_option maxHeartbeats 8000000 in
theorem name_m (s : RS) (hl : s.l.length ≤ 2 ^ 40) (rid : Nat) (w : Bool) (H : Nat → Option PObj) (nx : Nat) (hr : rid < nx) (hH : H rid = some ⟨rdC s, w⟩) :
    PMut Try.prog F.pack_reader_name [.optr rid 0] H nx (RdQ H nx rid w (nameF s).2 (.sc (.string (nameF s).1))) := by
  obtain ⟨l, nodes, bad⟩ := s
  refine mut_by is_pack_reader_name (by simp) fun hb => ?_
  clear hb
  simp only [rdC, rowB] at hH hl
  have c0 := slc_front 46 46 rfl l
  have ht : (l.take 46).length = min 46 l.length := List.length_take
  have c1 := wText_p (l.take 46) (by omega)
  unfold txtV at c1
  unfold nameF
  simp only
  cases hx : txtS (l.take 46) with
  | none =>
    rw [hx] at c1
    simp only at c1 ⊢
    have c2 : slcI 1 false (((min 46 l.length : Nat) : Int) - 0) l.length none (.sl 1 (l.map fun c => [PV.sc (.int .u8 c.toNat)])) = some (.sl 1 ((l.drop 46).map fun c => [PV.sc (.int .u8 c.toNat)])) := by
      have := slc_back (((min 46 l.length : Nat) : Int) - 0) (min 46 l.length) l (by omega) (Nat.min_le_right _ _)
      rw [this]
      by_cases h6 : 46 ≤ l.length
      · rw [Nat.min_eq_left h6]
      · rw [Nat.min_eq_right (by omega), List.drop_eq_nil_of_le (Nat.le_refl _), List.drop_eq_nil_of_le (by omega)]
    clear hx
    cases bad
    all_goals
      repeat' (first | ((with_reducible first | refine wA (by omega) ?_ | refine wB (by omega) ?_ | refine wC (by omega) ?_ | refine wD (by omega) ?_ | refine wE ?_ ?_ | refine wF ?_ ?_ | refine wG ?_ ?_ | refine wH ?_ ?_ | refine wI ?_ ?_ | refine wJ ?_ ?_ | refine wK ?_ ?_ | refine wL ?_ ?_) <;> intro _) | (((with_reducible refine call_id ?_); (first | (refine call_pure (c1) ?_)))) | simp (maxSteps := 1000000) (disch := omega) only [go_sem, Nat.reduceAdd, Nat.reduceMul, Nat.reduceSub, Nat.reduceLeDiff, Nat.reduceEqDiff, Nat.reduceBEq, ↓reduceIte, reduceCtorEq, Int.reduceEq, Int.reduceLE, Int.reduceLT, Int.reduceAdd, Int.reduceSub, Int.reduceNeg, Int.reduceToNat, Int.reduceNe, Nat.reducePow, Nat.reduceShiftRight, Nat.reduceMod, mc_pack_reader_name, rowB, *])
      refine fin_mut (.sc (.string ⟨#[]⟩)) (.inr rfl) cE2 ⟨cE1, rfl, ?_, fun j g1 g2 => ?_⟩
      · simp [upd, rdC, rowB]
      · simp [upd, g2]
  | some q =>
    obtain ⟨t, L⟩ := q
    have hL : L.length ≤ (l.take 46).length := by
      unfold txtS at hx
      split at hx
      · cases hx
      · simp only [Option.some.injEq, Prod.mk.injEq] at hx
        rw [← hx.2, List.length_drop]; omega
    rw [hx] at c1
    simp only at c1 ⊢
    rw [ht] at hL ⊢
    have c2 : slcI 1 false (((min 46 l.length : Nat) : Int) - ((L.length : Nat) : Int)) l.length none (.sl 1 (l.map fun c => [PV.sc (.int .u8 c.toNat)])) = some (.sl 1 ((l.drop (min 46 l.length - L.length)).map fun c => [PV.sc (.int .u8 c.toNat)])) := slc_back _ _ l (by omega) (by omega)
    clear hx
    cases bad
    all_goals
      repeat' (first | ((with_reducible first | refine wA (by omega) ?_ | refine wB (by omega) ?_ | refine wC (by omega) ?_ | refine wD (by omega) ?_ | refine wE ?_ ?_ | refine wF ?_ ?_ | refine wG ?_ ?_ | refine wH ?_ ?_ | refine wI ?_ ?_ | refine wJ ?_ ?_ | refine wK ?_ ?_ | refine wL ?_ ?_) <;> intro _) | (((with_reducible refine call_id ?_); (first | (refine call_pure (c1) ?_)))) | simp (maxSteps := 1000000) (disch := omega) only [go_sem, Nat.reduceAdd, Nat.reduceMul, Nat.reduceSub, Nat.reduceLeDiff, Nat.reduceEqDiff, Nat.reduceBEq, ↓reduceIte, reduceCtorEq, Int.reduceEq, Int.reduceLE, Int.reduceLT, Int.reduceAdd, Int.reduceSub, Int.reduceNeg, Int.reduceToNat, Int.reduceNe, Nat.reducePow, Nat.reduceShiftRight, Nat.reduceMod, mc_pack_reader_name, rowB, *])
      refine fin_mut (.sc (.string t)) (.inr rfl) cE2 ⟨cE1, rfl, ?_, fun j g1 g2 => ?_⟩
      · simp [upd, rdC, rowB]
      · simp [upd, g2]
end
section
inductive Lv where
  | mk (kind n : Int) (args : List Lv)
mutual
def Lv.nodes : Lv → Nat
  | .mk _ _ args => 1 + nodesL args
def nodesL : List Lv → Nat
  | [] => 0
  | x :: r => x.nodes + nodesL r
end
def Lv.pv : Lv → List PV
  | .mk k n args => [.sc (.int .i64 k), .sc (.int .i64 n), .sl 3 (args.map Lv.pv)]
theorem pv_len (l : Lv) : l.pv.length = 3 := by cases l; simp [Lv.pv]
theorem pv_take (l : Lv) : l.pv.take 3 = l.pv := List.take_of_length_le (by rw [pv_len]; omega)
theorem nodesL_take_succ : ∀ (ls : List Lv) (k : Nat) (h : k < ls.length), nodesL (ls.take (k + 1)) = nodesL (ls.take k) + ls[k].nodes
  | x :: r, 0, h => by simp [nodesL]
  | x :: r, k + 1, h => by
    have := nodesL_take_succ r k (by simpa using h)
    simp only [List.take_succ_cons, nodesL, List.getElem_cons_succ, this]
    omega
theorem nodesL_append : ∀ a b : List Lv, nodesL (a ++ b) = nodesL a + nodesL b
  | [], b => by simp [nodesL]
  | x :: r, b => by simp only [List.cons_append, nodesL, nodesL_append r b]; omega
theorem nodesL_take_le (ls : List Lv) (k : Nat) : nodesL (ls.take k) ≤ nodesL ls := by
  have h := nodesL_append (ls.take k) (ls.drop k)
  rw [List.take_append_drop] at h
  omega
theorem nodesL_mem (ls : List Lv) (k : Nat) (h : k < ls.length) : ls[k].nodes ≤ nodesL ls := by
  have h1 := nodesL_take_succ ls k h
  have h2 := nodesL_take_le ls (k + 1)
  omega
theorem nodes_pos (l : Lv) : 0 < l.nodes := by cases l; simp only [Lv.nodes]; omega
theorem nodes_p : ∀ (fuel : Nat) (l : Lv) (most : Nat), l.nodes ≤ fuel ∨ most ≤ fuel → 1 ≤ most → most ≤ 3000 →
    PPure Try.prog F.level_nodes [.ptr l.pv, .sc (.int .i64 most)] (.sc (.int .i64 (min l.nodes most : Nat))) := by
  intro fuel
  induction fuel with
  | zero => intro l most h h1; have := nodes_pos l; omega
  | succ fuel ih =>
    intro l most hf h1 h2
    cases l with
    | mk k n args =>
    simp only [Lv.nodes] at hf
    refine pure_by is_level_nodes (by simp) rfl fun hb nx => ?_
    have hb0 : args.length ≤ 9223372036854775807 := by simp [Lv.pv, bndL, PV.bnd] at hb; exact hb.1
    simp (maxSteps := 1000000) (disch := omega) only [go_sem, Nat.reduceAdd, Nat.reduceMul, Nat.reduceSub, Nat.reduceLeDiff, Nat.reduceEqDiff, Nat.reduceBEq, ↓reduceIte, reduceCtorEq, Int.reduceEq, Int.reduceLE, Int.reduceLT, Int.reduceAdd, Int.reduceSub, Int.reduceNeg, Int.reduceToNat, Int.reduceNe, Nat.reducePow, Nat.reduceShiftRight, Nat.reduceMod, mc_level_nodes, Lv.pv]
    refine c_loop (fun j s => ∃ i t : Nat, j = args.length - i ∧ i ≤ args.length ∧ t = min (1 + nodesL (args.take i)) most ∧ s.s 0 = .ptr (Lv.mk k n args).pv ∧ s.s 1 = .sc (.int .i64 most) ∧ s.s 5 = .sc (.int .i64 t) ∧ s.s 11 = .sc (.int .i64 args.length) ∧ s.s 12 = .sc (.int .i64 i)) _ ⟨0, 1, rfl, by omega, by simp [nodesL]; omega, by simp [upd, sigF, sig_eq, Lv.pv]⟩ ?_
    rintro _ s ⟨i, t, rfl, hi, ht, e0, e1, e5, e11, e12⟩
    simp (maxSteps := 1000000) (disch := omega) only [go_sem, Nat.reduceAdd, Nat.reduceMul, Nat.reduceSub, Nat.reduceLeDiff, Nat.reduceEqDiff, Nat.reduceBEq, ↓reduceIte, reduceCtorEq, Int.reduceEq, Int.reduceLE, Int.reduceLT, Int.reduceAdd, Int.reduceSub, Int.reduceNeg, Int.reduceToNat, Int.reduceNe, Nat.reducePow, Nat.reduceShiftRight, Nat.reduceMod, Lv.pv, e0, e1, e5, e11, e12]
    by_cases hlt : i < args.length
    · have hs := nodesL_take_succ args i hlt
      have hp := nodes_pos args[i]
      simp (maxSteps := 1000000) (disch := omega) only [go_sem, Nat.reduceAdd, Nat.reduceMul, Nat.reduceSub, Nat.reduceLeDiff, Nat.reduceEqDiff, Nat.reduceBEq, ↓reduceIte, reduceCtorEq, Int.reduceEq, Int.reduceLE, Int.reduceLT, Int.reduceAdd, Int.reduceSub, Int.reduceNeg, Int.reduceToNat, Int.reduceNe, Nat.reducePow, Nat.reduceShiftRight, Nat.reduceMod, hlt, Lv.pv, e0, e1, e5, e11, e12]
      by_cases hfull : most ≤ t
      · simp (maxSteps := 1000000) (disch := omega) only [go_sem, Nat.reduceAdd, Nat.reduceMul, Nat.reduceSub, Nat.reduceLeDiff, Nat.reduceEqDiff, Nat.reduceBEq, ↓reduceIte, reduceCtorEq, Int.reduceEq, Int.reduceLE, Int.reduceLT, Int.reduceAdd, Int.reduceSub, Int.reduceNeg, Int.reduceToNat, Int.reduceNe, Nat.reducePow, Nat.reduceShiftRight, Nat.reduceMod, hfull, Lv.pv, e0, e1, e5, e11, e12]
        refine fin_tmp (.inr rfl) ?_
        have := nodesL_take_le args i
        simp only [go_sem, Nat.reduceAdd, Nat.reduceMul, Nat.reduceSub, Nat.reduceLeDiff, Nat.reduceEqDiff, Nat.reduceBEq, ↓reduceIte, reduceCtorEq, Int.reduceEq, Int.reduceLE, Int.reduceLT, Int.reduceAdd, Int.reduceSub, Int.reduceNeg, Int.reduceToNat, Int.reduceNe, Nat.reducePow, Nat.reduceShiftRight, Nat.reduceMod, Lv.nodes, PV.sc.injEq, Value.int.injEq]
        omega
      · have em : ((most : Int) - t) = ((most - t : Nat) : Int) := by omega
        have eg : args[i]? = some args[i] := List.getElem?_eq_getElem hlt
        simp (maxSteps := 1000000) (disch := omega) only [go_sem, Nat.reduceAdd, Nat.reduceMul, Nat.reduceSub, Nat.reduceLeDiff, Nat.reduceEqDiff, Nat.reduceBEq, ↓reduceIte, reduceCtorEq, Int.reduceEq, Int.reduceLE, Int.reduceLT, Int.reduceAdd, Int.reduceSub, Int.reduceNeg, Int.reduceToNat, Int.reduceNe, Nat.reducePow, Nat.reduceShiftRight, Nat.reduceMod, hfull, Lv.pv, e0, e1, e5, e11, e12, em, eg]
        refine call_pure (ih args[i] (most - t) (by have := nodesL_mem args i hlt; omega) (by omega) (by omega)) ?_
        simp (maxSteps := 1000000) (disch := omega) only [go_sem, Nat.reduceAdd, Nat.reduceMul, Nat.reduceSub, Nat.reduceLeDiff, Nat.reduceEqDiff, Nat.reduceBEq, ↓reduceIte, reduceCtorEq, Int.reduceEq, Int.reduceLE, Int.reduceLT, Int.reduceAdd, Int.reduceSub, Int.reduceNeg, Int.reduceToNat, Int.reduceNe, Nat.reducePow, Nat.reduceShiftRight, Nat.reduceMod, hfull, Lv.pv, e0, e1, e5, e11, e12, em, eg]
        exact ⟨args.length - (i + 1), by omega, i + 1, t + min args[i].nodes (most - t), rfl, by omega, by omega, by simp, by simp⟩
    · simp (maxSteps := 1000000) (disch := omega) only [go_sem, Nat.reduceAdd, Nat.reduceMul, Nat.reduceSub, Nat.reduceLeDiff, Nat.reduceEqDiff, Nat.reduceBEq, ↓reduceIte, reduceCtorEq, Int.reduceEq, Int.reduceLE, Int.reduceLT, Int.reduceAdd, Int.reduceSub, Int.reduceNeg, Int.reduceToNat, Int.reduceNe, Nat.reducePow, Nat.reduceShiftRight, Nat.reduceMod, hlt, Lv.pv, e0, e1, e5, e11, e12]
      refine fin_tmp (.inr rfl) ?_
      have hj : i = args.length := by omega
      subst hj
      rw [List.take_length] at ht
      simp only [go_sem, Nat.reduceAdd, Nat.reduceMul, Nat.reduceSub, Nat.reduceLeDiff, Nat.reduceEqDiff, Nat.reduceBEq, ↓reduceIte, reduceCtorEq, Int.reduceEq, Int.reduceLE, Int.reduceLT, Int.reduceAdd, Int.reduceSub, Int.reduceNeg, Int.reduceToNat, Int.reduceNe, Nat.reducePow, Nat.reduceShiftRight, Nat.reduceMod, Lv.nodes, PV.sc.injEq, Value.int.injEq]
      omega
theorem Nodes_p (l : Lv) : PPure Try.prog F.level_Nodes [.agg l.pv] (.sc (.int .i64 (min l.nodes 65 : Nat))) := by
  refine pure_by is_level_Nodes (by simp) rfl fun hb nx => ?_
  simp (maxSteps := 1000000) (disch := omega) only [go_sem, Nat.reduceAdd, Nat.reduceMul, Nat.reduceSub, Nat.reduceLeDiff, Nat.reduceEqDiff, Nat.reduceBEq, ↓reduceIte, reduceCtorEq, Int.reduceEq, Int.reduceLE, Int.reduceLT, Int.reduceAdd, Int.reduceSub, Int.reduceNeg, Int.reduceToNat, Int.reduceNe, Nat.reducePow, Nat.reduceShiftRight, Nat.reduceMod, mc_level_Nodes]
  refine call_pure (nodes_p l.nodes l 65 (by omega) (by omega) (by omega)) ?_
  simp (maxSteps := 1000000) (disch := omega) only [go_sem, Nat.reduceAdd, Nat.reduceMul, Nat.reduceSub, Nat.reduceLeDiff, Nat.reduceEqDiff, Nat.reduceBEq, ↓reduceIte, reduceCtorEq, Int.reduceEq, Int.reduceLE, Int.reduceLT, Int.reduceAdd, Int.reduceSub, Int.reduceNeg, Int.reduceToNat, Int.reduceNe, Nat.reducePow, Nat.reduceShiftRight, Nat.reduceMod]
  exact fin_tmp (.inr rfl) (by simp [upd])
theorem LevelNodes_p (most : Nat) (hm : most ≤ 1000000) : ∀ (fuel : Nat) (l : Lv), l.nodes ≤ fuel →
    PPure Try.prog F.ref00_LevelNodes [.agg l.pv, .sc (.int .i64 most)] (.sc (.int .i64 (min l.nodes (most + 1) : Nat))) := by
  intro fuel
  induction fuel with
  | zero => intro l h; have := nodes_pos l; omega
  | succ fuel ih =>
    intro l hf
    cases l with
    | mk k n args =>
    simp only [Lv.nodes] at hf
    refine pure_by is_ref00_LevelNodes (by simp) rfl fun hb nx => ?_
    have hb0 : args.length ≤ 9223372036854775807 := by simp [Lv.pv, bndL, PV.bnd] at hb; exact hb.1
    simp (maxSteps := 1000000) (disch := omega) only [go_sem, Nat.reduceAdd, Nat.reduceMul, Nat.reduceSub, Nat.reduceLeDiff, Nat.reduceEqDiff, Nat.reduceBEq, ↓reduceIte, reduceCtorEq, Int.reduceEq, Int.reduceLE, Int.reduceLT, Int.reduceAdd, Int.reduceSub, Int.reduceNeg, Int.reduceToNat, Int.reduceNe, Nat.reducePow, Nat.reduceShiftRight, Nat.reduceMod, mc_ref00_LevelNodes, Lv.pv]
    refine c_loop (fun j s => ∃ i t : Nat, j = args.length - i ∧ i ≤ args.length ∧ min t (most + 1) = min (1 + nodesL (args.take i)) (most + 1) ∧ t ≤ 2 * most + 1 ∧ s.s 2 = .ptr (Lv.mk k n args).pv ∧ s.s 1 = .sc (.int .i64 most) ∧ s.s 5 = .sc (.int .i64 t) ∧ s.s 6 = .sc (.int .i64 i)) _ ⟨0, 1, rfl, by omega, by simp [nodesL], by omega, by simp [upd, sigF, sig_eq, Lv.pv]⟩ ?_
    rintro _ s ⟨i, t, rfl, hi, ht, ht2, e2, e1, e5, e6⟩
    by_cases hlt : i < args.length
    · by_cases hfull : t ≤ most
      · have eg : args[i]? = some args[i] := List.getElem?_eq_getElem hlt
        have hs := nodesL_take_succ args i hlt
        simp (maxSteps := 1000000) (disch := omega) only [go_sem, Nat.reduceAdd, Nat.reduceMul, Nat.reduceSub, Nat.reduceLeDiff, Nat.reduceEqDiff, Nat.reduceBEq, ↓reduceIte, reduceCtorEq, Int.reduceEq, Int.reduceLE, Int.reduceLT, Int.reduceAdd, Int.reduceSub, Int.reduceNeg, Int.reduceToNat, Int.reduceNe, Nat.reducePow, Nat.reduceShiftRight, Nat.reduceMod, Lv.pv, e1, e2, e5, e6, hlt, hfull, eg, pv_len, pv_take]
        refine call_pure (ih args[i] (by have := nodesL_mem args i hlt; omega)) ?_
        simp (maxSteps := 1000000) (disch := omega) only [go_sem, Nat.reduceAdd, Nat.reduceMul, Nat.reduceSub, Nat.reduceLeDiff, Nat.reduceEqDiff, Nat.reduceBEq, ↓reduceIte, reduceCtorEq, Int.reduceEq, Int.reduceLE, Int.reduceLT, Int.reduceAdd, Int.reduceSub, Int.reduceNeg, Int.reduceToNat, Int.reduceNe, Nat.reducePow, Nat.reduceShiftRight, Nat.reduceMod, Lv.pv, e1, e2, e5, e6, hlt, hfull, eg, pv_len, pv_take]
        exact ⟨args.length - (i + 1), by omega, i + 1, t + min args[i].nodes (most + 1), rfl, by omega, by omega, by omega, by simp, by simp⟩
      · simp (maxSteps := 1000000) (disch := omega) only [go_sem, Nat.reduceAdd, Nat.reduceMul, Nat.reduceSub, Nat.reduceLeDiff, Nat.reduceEqDiff, Nat.reduceBEq, ↓reduceIte, reduceCtorEq, Int.reduceEq, Int.reduceLE, Int.reduceLT, Int.reduceAdd, Int.reduceSub, Int.reduceNeg, Int.reduceToNat, Int.reduceNe, Nat.reducePow, Nat.reduceShiftRight, Nat.reduceMod, Lv.pv, e1, e2, e5, e6, hlt, hfull]
        refine fin_tmp (.inr rfl) ?_
        have := nodesL_take_le args i
        simp (maxSteps := 1000000) (disch := omega) only [go_sem, Nat.reduceAdd, Nat.reduceMul, Nat.reduceSub, Nat.reduceLeDiff, Nat.reduceEqDiff, Nat.reduceBEq, ↓reduceIte, reduceCtorEq, Int.reduceEq, Int.reduceLE, Int.reduceLT, Int.reduceAdd, Int.reduceSub, Int.reduceNeg, Int.reduceToNat, Int.reduceNe, Nat.reducePow, Nat.reduceShiftRight, Nat.reduceMod, Lv.nodes, PV.sc.injEq, Value.int.injEq]
        omega
    · simp (maxSteps := 1000000) (disch := omega) only [go_sem, Nat.reduceAdd, Nat.reduceMul, Nat.reduceSub, Nat.reduceLeDiff, Nat.reduceEqDiff, Nat.reduceBEq, ↓reduceIte, reduceCtorEq, Int.reduceEq, Int.reduceLE, Int.reduceLT, Int.reduceAdd, Int.reduceSub, Int.reduceNeg, Int.reduceToNat, Int.reduceNe, Nat.reducePow, Nat.reduceShiftRight, Nat.reduceMod, Lv.pv, e1, e2, e5, e6, hlt]
      refine fin_tmp (.inr rfl) ?_
      have hj : i = args.length := by omega
      subst hj
      rw [List.take_length] at ht
      simp (maxSteps := 1000000) (disch := omega) only [go_sem, Nat.reduceAdd, Nat.reduceMul, Nat.reduceSub, Nat.reduceLeDiff, Nat.reduceEqDiff, Nat.reduceBEq, ↓reduceIte, reduceCtorEq, Int.reduceEq, Int.reduceLE, Int.reduceLT, Int.reduceAdd, Int.reduceSub, Int.reduceNeg, Int.reduceToNat, Int.reduceNe, Nat.reducePow, Nat.reduceShiftRight, Nat.reduceMod, Lv.nodes, PV.sc.injEq, Value.int.injEq]
      omega
end
section
mutual
def Lv.formed (np : Int) : Lv → Bool
  | .mk k n args =>
    if k = 1 then decide (0 ≤ n) && (decide (n ≤ 100) && decide (args.length = 0))
    else if k = 2 then decide (0 ≤ n) && (decide (n < np) && decide (args.length = 0))
    else if k = 3 then decide (n = 0) && (decide (args.length = 1) && formedL np args)
    else if k = 4 ∨ k = 5 then decide (n = 0) && (decide (args.length = 2) && formedL np args)
    else false
def formedL (np : Int) : List Lv → Bool
  | [] => true
  | x :: r => x.formed np && formedL np r
end
def B (b : Bool) : PV := .sc (.bool b)
def I (n : Int) : PV := .sc (.int .i64 n)
set_option maxHeartbeats 8000000 in
theorem formed_p (np : Int) : ∀ (fuel : Nat) (l : Lv), l.nodes ≤ fuel → PPure Try.prog F.level_formed [.ptr l.pv, .sc (.int .i64 np)] (.sc (.bool (l.formed np))) := by
  intro fuel
  induction fuel with
  | zero => intro l h; have := nodes_pos l; omega
  | succ fuel ih =>
    intro l hf
    cases l with
    | mk k n args =>
    simp only [Lv.nodes] at hf
    refine pure_by is_level_formed (by simp) rfl fun hb nx => ?_
    by_cases k1 : k = 1
    · subst k1
      by_cases h1 : 0 ≤ n <;> by_cases h2 : n ≤ 100 <;> by_cases h3 : args.length = 0 <;>
        (simp (maxSteps := 1000000) (disch := omega) only [go_sem, Nat.reduceAdd, Nat.reduceMul, Nat.reduceSub, Nat.reduceLeDiff, Nat.reduceEqDiff, Nat.reduceBEq, ↓reduceIte, reduceCtorEq, Int.reduceEq, Int.reduceLE, Int.reduceLT, Int.reduceAdd, Int.reduceSub, Int.reduceNeg, Int.reduceToNat, Int.reduceNe, Nat.reducePow, Nat.reduceShiftRight, Nat.reduceMod, mc_level_formed, Lv.pv, h1, h2, h3]
         exact fin_tmp (.inr rfl) (by simp [upd, Lv.formed, h1, h2, h3]))
    · by_cases k2 : k = 2
      · subst k2
        by_cases h1 : 0 ≤ n <;> by_cases h2 : n < np <;> by_cases h3 : args.length = 0 <;>
          (simp (maxSteps := 1000000) (disch := omega) only [go_sem, Nat.reduceAdd, Nat.reduceMul, Nat.reduceSub, Nat.reduceLeDiff, Nat.reduceEqDiff, Nat.reduceBEq, ↓reduceIte, reduceCtorEq, Int.reduceEq, Int.reduceLE, Int.reduceLT, Int.reduceAdd, Int.reduceSub, Int.reduceNeg, Int.reduceToNat, Int.reduceNe, Nat.reducePow, Nat.reduceShiftRight, Nat.reduceMod, mc_level_formed, Lv.pv, h1, h2, h3]
           exact fin_tmp (.inr rfl) (by simp [upd, Lv.formed, h1, h2, h3]))
      · by_cases k3 : k = 3
        · subst k3
          by_cases h1 : n = 0
          · subst h1
            by_cases h2 : args.length = 1
            · match args, h2 with
              | [x], _ =>
                have hx := ih x (by simp only [nodesL] at hf; omega)
                simp (maxSteps := 1000000) (disch := omega) only [go_sem, Nat.reduceAdd, Nat.reduceMul, Nat.reduceSub, Nat.reduceLeDiff, Nat.reduceEqDiff, Nat.reduceBEq, ↓reduceIte, reduceCtorEq, Int.reduceEq, Int.reduceLE, Int.reduceLT, Int.reduceAdd, Int.reduceSub, Int.reduceNeg, Int.reduceToNat, Int.reduceNe, Nat.reducePow, Nat.reduceShiftRight, Nat.reduceMod, mc_level_formed, Lv.pv]
                refine call_pure hx ?_
                cases hc : x.formed np <;>
                  (simp (maxSteps := 1000000) (disch := omega) only [go_sem, Nat.reduceAdd, Nat.reduceMul, Nat.reduceSub, Nat.reduceLeDiff, Nat.reduceEqDiff, Nat.reduceBEq, ↓reduceIte, reduceCtorEq, Int.reduceEq, Int.reduceLE, Int.reduceLT, Int.reduceAdd, Int.reduceSub, Int.reduceNeg, Int.reduceToNat, Int.reduceNe, Nat.reducePow, Nat.reduceShiftRight, Nat.reduceMod, Lv.pv]
                   exact fin_tmp (.inr rfl) (by simp [upd, Lv.formed, formedL, hc]))
            · have h3 : ¬ (args.length : Int) = 1 := by omega
              simp (maxSteps := 1000000) (disch := omega) only [go_sem, Nat.reduceAdd, Nat.reduceMul, Nat.reduceSub, Nat.reduceLeDiff, Nat.reduceEqDiff, Nat.reduceBEq, ↓reduceIte, reduceCtorEq, Int.reduceEq, Int.reduceLE, Int.reduceLT, Int.reduceAdd, Int.reduceSub, Int.reduceNeg, Int.reduceToNat, Int.reduceNe, Nat.reducePow, Nat.reduceShiftRight, Nat.reduceMod, mc_level_formed, Lv.pv, h3]
              exact fin_tmp (.inr rfl) (by simp [upd, Lv.formed, h2])
          · simp (maxSteps := 1000000) (disch := omega) only [go_sem, Nat.reduceAdd, Nat.reduceMul, Nat.reduceSub, Nat.reduceLeDiff, Nat.reduceEqDiff, Nat.reduceBEq, ↓reduceIte, reduceCtorEq, Int.reduceEq, Int.reduceLE, Int.reduceLT, Int.reduceAdd, Int.reduceSub, Int.reduceNeg, Int.reduceToNat, Int.reduceNe, Nat.reducePow, Nat.reduceShiftRight, Nat.reduceMod, mc_level_formed, Lv.pv, h1]
            exact fin_tmp (.inr rfl) (by simp [upd, Lv.formed, h1])
        · by_cases k45 : k = 4 ∨ k = 5
          · have hk : (Lv.mk k n args).formed np = (decide (n = 0) && (decide (args.length = 2) && formedL np args)) := by simp only [Lv.formed, if_neg k1, if_neg k2, if_neg k3, if_pos k45]
            rcases k45 with rfl | rfl
            all_goals
              by_cases h1 : n = 0
              · subst h1
                by_cases h2 : args.length = 2
                · match args, h2 with
                  | [x, y], _ =>
                    have hx := ih x (by simp only [nodesL] at hf; omega)
                    have hy := ih y (by simp only [nodesL] at hf; omega)
                    simp (maxSteps := 1000000) (disch := omega) only [go_sem, Nat.reduceAdd, Nat.reduceMul, Nat.reduceSub, Nat.reduceLeDiff, Nat.reduceEqDiff, Nat.reduceBEq, ↓reduceIte, reduceCtorEq, Int.reduceEq, Int.reduceLE, Int.reduceLT, Int.reduceAdd, Int.reduceSub, Int.reduceNeg, Int.reduceToNat, Int.reduceNe, Nat.reducePow, Nat.reduceShiftRight, Nat.reduceMod, mc_level_formed, Lv.pv]
                    refine call_pure hx ?_
                    cases hc : x.formed np
                    · simp (maxSteps := 1000000) (disch := omega) only [go_sem, Nat.reduceAdd, Nat.reduceMul, Nat.reduceSub, Nat.reduceLeDiff, Nat.reduceEqDiff, Nat.reduceBEq, ↓reduceIte, reduceCtorEq, Int.reduceEq, Int.reduceLE, Int.reduceLT, Int.reduceAdd, Int.reduceSub, Int.reduceNeg, Int.reduceToNat, Int.reduceNe, Nat.reducePow, Nat.reduceShiftRight, Nat.reduceMod, Lv.pv]
                      exact fin_tmp (.inr rfl) (by simp [upd, hk, formedL, hc])
                    · simp (maxSteps := 1000000) (disch := omega) only [go_sem, Nat.reduceAdd, Nat.reduceMul, Nat.reduceSub, Nat.reduceLeDiff, Nat.reduceEqDiff, Nat.reduceBEq, ↓reduceIte, reduceCtorEq, Int.reduceEq, Int.reduceLE, Int.reduceLT, Int.reduceAdd, Int.reduceSub, Int.reduceNeg, Int.reduceToNat, Int.reduceNe, Nat.reducePow, Nat.reduceShiftRight, Nat.reduceMod, Lv.pv]
                      refine call_pure hy ?_
                      simp (maxSteps := 1000000) (disch := omega) only [go_sem, Nat.reduceAdd, Nat.reduceMul, Nat.reduceSub, Nat.reduceLeDiff, Nat.reduceEqDiff, Nat.reduceBEq, ↓reduceIte, reduceCtorEq, Int.reduceEq, Int.reduceLE, Int.reduceLT, Int.reduceAdd, Int.reduceSub, Int.reduceNeg, Int.reduceToNat, Int.reduceNe, Nat.reducePow, Nat.reduceShiftRight, Nat.reduceMod, Lv.pv]
                      exact fin_tmp (.inr rfl) (by simp [upd, hk, formedL, hc])
                · have h3 : ¬ (args.length : Int) = 2 := by omega
                  simp (maxSteps := 1000000) (disch := omega) only [go_sem, Nat.reduceAdd, Nat.reduceMul, Nat.reduceSub, Nat.reduceLeDiff, Nat.reduceEqDiff, Nat.reduceBEq, ↓reduceIte, reduceCtorEq, Int.reduceEq, Int.reduceLE, Int.reduceLT, Int.reduceAdd, Int.reduceSub, Int.reduceNeg, Int.reduceToNat, Int.reduceNe, Nat.reducePow, Nat.reduceShiftRight, Nat.reduceMod, mc_level_formed, Lv.pv, h3]
                  exact fin_tmp (.inr rfl) (by simp [upd, hk, h2])
              · simp (maxSteps := 1000000) (disch := omega) only [go_sem, Nat.reduceAdd, Nat.reduceMul, Nat.reduceSub, Nat.reduceLeDiff, Nat.reduceEqDiff, Nat.reduceBEq, ↓reduceIte, reduceCtorEq, Int.reduceEq, Int.reduceLE, Int.reduceLT, Int.reduceAdd, Int.reduceSub, Int.reduceNeg, Int.reduceToNat, Int.reduceNe, Nat.reducePow, Nat.reduceShiftRight, Nat.reduceMod, mc_level_formed, Lv.pv, h1]
                exact fin_tmp (.inr rfl) (by simp [upd, hk, h1])
          · have k4 : ¬ k = 4 := fun e => k45 (.inl e)
            have k5 : ¬ k = 5 := fun e => k45 (.inr e)
            simp (maxSteps := 1000000) (disch := omega) only [go_sem, Nat.reduceAdd, Nat.reduceMul, Nat.reduceSub, Nat.reduceLeDiff, Nat.reduceEqDiff, Nat.reduceBEq, ↓reduceIte, reduceCtorEq, Int.reduceEq, Int.reduceLE, Int.reduceLT, Int.reduceAdd, Int.reduceSub, Int.reduceNeg, Int.reduceToNat, Int.reduceNe, Nat.reducePow, Nat.reduceShiftRight, Nat.reduceMod, mc_level_formed, Lv.pv, k1, k2, k3, k4, k5]
            exact fin_tmp (.inr rfl) (by simp [upd, Lv.formed, k1, k2, k3, k4, k5])
end
section
attribute [local go_sem] pv_len pv_take
def Lv.right (np : Int) (l : Lv) : Bool := decide (0 ≤ np) && (decide (np ≤ 4) && (decide (l.nodes ≤ 64) && l.formed np))
set_option maxHeartbeats 4000000 in
theorem Right_p (l : Lv) (np : Int) : PPure Try.prog F.level_Right [.agg l.pv, .sc (.int .i64 np)] (.sc (.bool (l.right np))) := by
  refine pure_by is_level_Right (by simp) rfl fun hb nx => ?_
  by_cases h1 : 0 ≤ np
  · by_cases h2 : np ≤ 4
    · simp (maxSteps := 1000000) (disch := omega) only [go_sem, Nat.reduceAdd, Nat.reduceMul, Nat.reduceSub, Nat.reduceLeDiff, Nat.reduceEqDiff, Nat.reduceBEq, ↓reduceIte, reduceCtorEq, Int.reduceEq, Int.reduceLE, Int.reduceLT, Int.reduceAdd, Int.reduceSub, Int.reduceNeg, Int.reduceToNat, Int.reduceNe, Nat.reducePow, Nat.reduceShiftRight, Nat.reduceMod, mc_level_Right, h1, h2]
      refine call_pure (Nodes_p l) ?_
      by_cases h3 : l.nodes ≤ 64
      · have h4 : ((min l.nodes 65 : Nat) : Int) ≤ 64 := by omega
        simp (maxSteps := 1000000) (disch := omega) only [go_sem, Nat.reduceAdd, Nat.reduceMul, Nat.reduceSub, Nat.reduceLeDiff, Nat.reduceEqDiff, Nat.reduceBEq, ↓reduceIte, reduceCtorEq, Int.reduceEq, Int.reduceLE, Int.reduceLT, Int.reduceAdd, Int.reduceSub, Int.reduceNeg, Int.reduceToNat, Int.reduceNe, Nat.reducePow, Nat.reduceShiftRight, Nat.reduceMod, h1, h2, h4]
        refine call_pure (formed_p np l.nodes l (Nat.le_refl _)) ?_
        simp (maxSteps := 1000000) (disch := omega) only [go_sem, Nat.reduceAdd, Nat.reduceMul, Nat.reduceSub, Nat.reduceLeDiff, Nat.reduceEqDiff, Nat.reduceBEq, ↓reduceIte, reduceCtorEq, Int.reduceEq, Int.reduceLE, Int.reduceLT, Int.reduceAdd, Int.reduceSub, Int.reduceNeg, Int.reduceToNat, Int.reduceNe, Nat.reducePow, Nat.reduceShiftRight, Nat.reduceMod]
        exact fin_tmp (.inr rfl) (by simp [upd, Lv.right, h1, h2, h3])
      · have h4 : ¬ ((min l.nodes 65 : Nat) : Int) ≤ 64 := by omega
        simp (maxSteps := 1000000) (disch := omega) only [go_sem, Nat.reduceAdd, Nat.reduceMul, Nat.reduceSub, Nat.reduceLeDiff, Nat.reduceEqDiff, Nat.reduceBEq, ↓reduceIte, reduceCtorEq, Int.reduceEq, Int.reduceLE, Int.reduceLT, Int.reduceAdd, Int.reduceSub, Int.reduceNeg, Int.reduceToNat, Int.reduceNe, Nat.reducePow, Nat.reduceShiftRight, Nat.reduceMod, h1, h2, h4]
        exact fin_tmp (.inr rfl) (by simp [upd, Lv.right, h1, h2, h3])
    · simp (maxSteps := 1000000) (disch := omega) only [go_sem, Nat.reduceAdd, Nat.reduceMul, Nat.reduceSub, Nat.reduceLeDiff, Nat.reduceEqDiff, Nat.reduceBEq, ↓reduceIte, reduceCtorEq, Int.reduceEq, Int.reduceLE, Int.reduceLT, Int.reduceAdd, Int.reduceSub, Int.reduceNeg, Int.reduceToNat, Int.reduceNe, Nat.reducePow, Nat.reduceShiftRight, Nat.reduceMod, mc_level_Right, h1, h2]
      exact fin_tmp (.inr rfl) (by simp [upd, Lv.right, h2])
  · simp (maxSteps := 1000000) (disch := omega) only [go_sem, Nat.reduceAdd, Nat.reduceMul, Nat.reduceSub, Nat.reduceLeDiff, Nat.reduceEqDiff, Nat.reduceBEq, ↓reduceIte, reduceCtorEq, Int.reduceEq, Int.reduceLE, Int.reduceLT, Int.reduceAdd, Int.reduceSub, Int.reduceNeg, Int.reduceToNat, Int.reduceNe, Nat.reducePow, Nat.reduceShiftRight, Nat.reduceMod, mc_level_Right, h1]
    exact fin_tmp (.inr rfl) (by simp [upd, Lv.right, h1])
theorem formedL_all (np : Int) : ∀ (ls : List Lv) (k : Nat), formedL np ls = true → formedL np (ls.take k) = true
  | [], k, h => by simp [formedL]
  | x :: r, 0, h => by simp [formedL]
  | x :: r, k + 1, h => by
    simp only [formedL, Bool.and_eq_true, List.take_succ_cons] at h ⊢
    exact ⟨h.1, formedL_all np r k h.2⟩
end
section
attribute [local go_sem] pv_len pv_take
def parV (vs : List Int) (n : Int) : Int := if (vs.length : Int) ≤ n then 0 else min (max (vs.getD n.toNat 0) 0) 1048576
def comb (vs : List Int) (k n : Int) (xs : List Int) : Int :=
  if k = 1 then n
  else if k = 2 then parV vs n
  else if k = 3 then 1 + xs.getD 0 0
  else if k = 5 ∧ xs.getD 1 0 = 0 then 0
  else max (xs.getD 0 0) (xs.getD 1 0)
mutual
def Lv.val (vs : List Int) : Lv → Int
  | .mk k n args => comb vs k n (valL vs args)
def valL (vs : List Int) : List Lv → List Int
  | [] => []
  | x :: r => x.val vs :: valL vs r
end
def Lv.value (l : Lv) (vs : List Int) : Int := if l.right 4 = true then l.val vs else 0
end
section
set_option maxRecDepth 20000
attribute [local go_sem] Nat.add_assoc
def plainB (r : Int) (first : Bool) : Bool :=
  if r = 95 ∨ (97 ≤ r ∧ r ≤ 122) then true else if r = 46 ∨ (48 ≤ r ∧ r ≤ 57) then !first else false
def scan : Bool → List UInt8 → Option Bool
  | st, [] => some st
  | st, c :: r => if plainB c.toNat st = true then scan (decide ((c.toNat : Int) = 46)) r else none
def nameB (s : ByteArray) : Bool := decide (s.size ≤ 40) && (scan true s.data.toList == some false)
theorem name_plain_p (r : Int) (first : Bool) : PPure Try.prog F.name_plain [.sc (.int .i32 r), .sc (.bool first)] (.sc (.bool (plainB r first))) := by
  refine pure_by is_name_plain (by simp) rfl fun hb nx => ?_
  repeat' (first | ((with_reducible first | refine wA (by omega) ?_ | refine wB (by omega) ?_ | refine wC (by omega) ?_ | refine wD (by omega) ?_ | refine wE ?_ ?_ | refine wF ?_ ?_ | refine wG ?_ ?_ | refine wH ?_ ?_ | refine wI ?_ ?_ | refine wJ ?_ ?_ | refine wK ?_ ?_ | refine wL ?_ ?_) <;> intro _) | simp (maxSteps := 1000000) (disch := omega) only [go_sem, Nat.reduceAdd, Nat.reduceMul, Nat.reduceSub, Nat.reduceLeDiff, Nat.reduceEqDiff, Nat.reduceBEq, ↓reduceIte, reduceCtorEq, Int.reduceEq, Int.reduceLE, Int.reduceLT, Int.reduceAdd, Int.reduceSub, Int.reduceNeg, Int.reduceToNat, Int.reduceNe, Nat.reducePow, Nat.reduceShiftRight, Nat.reduceMod, mc_name_plain, *])
  all_goals (refine fin_tmp (.inr rfl) ?_; simp [upd, plainB, *])
theorem decode_high (s : ByteArray) (p : Nat) (h : p < s.size) (hc : 128 ≤ (s[p]'h).toNat) : 128 ≤ (Utf8.decode s p).1 := by
  have e : s.get! (p + 0) = s[p]'h := by
    show s.get! p = _
    simp [ByteArray.get!, getElem!_pos, h]
    rfl
  simp only [Utf8.decode, e, Utf8.runeError]
  repeat' split
  all_goals simp_all
  all_goals omega
theorem Right_1_m (r : Int) (st : Bool) (id : Nat) (w : Bool) (H : Nat → Option PObj) (nx : Nat) (hH : H id = some ⟨[.sc (.bool st)], w⟩) :
    PMut Try.prog F.name_Right_1 [.sc (.int .i32 r), .optr id 0] H nx (fun H' nx' r' => H' = upd H id (some ⟨[.sc (.bool (decide (r = 46)))], w⟩) ∧ r' = .sc (.bool (!plainB r st))) := by
  refine mut_by is_name_Right_1 (by simp) fun hb => ?_
  repeat' (first | ((with_reducible first | refine wA (by omega) ?_ | refine wB (by omega) ?_ | refine wC (by omega) ?_ | refine wD (by omega) ?_ | refine wE ?_ ?_ | refine wF ?_ ?_ | refine wG ?_ ?_ | refine wH ?_ ?_ | refine wI ?_ ?_ | refine wJ ?_ ?_ | refine wK ?_ ?_ | refine wL ?_ ?_) <;> intro _) | (((with_reducible refine call_id ?_); (first | (refine call_pure (name_plain_p r st) ?_)))) | simp (maxSteps := 1000000) (disch := omega) only [go_sem, Nat.reduceAdd, Nat.reduceMul, Nat.reduceSub, Nat.reduceLeDiff, Nat.reduceEqDiff, Nat.reduceBEq, ↓reduceIte, reduceCtorEq, Int.reduceEq, Int.reduceLE, Int.reduceLT, Int.reduceAdd, Int.reduceSub, Int.reduceNeg, Int.reduceToNat, Int.reduceNe, Nat.reducePow, Nat.reduceShiftRight, Nat.reduceMod, mc_name_Right_1, *])
  refine fin_mut (.sc (.bool (!plainB r st))) (.inr rfl) ?_ ?_
  · simp (disch := omega) only [go_sem, Nat.reduceMul, Nat.reduceSub, Nat.reduceShiftRight, Nat.reduceMod, Nat.reduceEqDiff, Nat.reduceAdd, ↓reduceIte, Nat.reduceLeDiff, *]
  · exact ⟨rfl, rfl⟩
theorem scan_drop (st : Bool) (s : ByteArray) (p : Nat) (h : p < s.size) : scan st (s.data.toList.drop p) = if plainB (s[p]'h).toNat st = true then scan (decide (((s[p]'h).toNat : Int) = 46)) (s.data.toList.drop (p + 1)) else none := by
  have hl : p < s.data.toList.length := by simpa using h
  rw [List.drop_eq_getElem_cons hl]
  rfl
set_option maxHeartbeats 4000000 in
theorem indexFunc_m (s : ByteArray) (id : Nat) (w : Bool) (H : Nat → Option PObj) (nx : Nat) (hid : id < nx) (hH : H id = some ⟨[.sc (.bool true)], w⟩) :
    PMut Try.prog F.strings_indexFunc [.sc (.string s), .fn F.name_Right_1 [.optr id 0], .sc (.bool true)] H nx (fun H' nx' r' => ∃ st k, H' id = some ⟨[.sc (.bool st)], w⟩ ∧ r' = .sc (.int .i64 k) ∧ (scan true s.data.toList = some st ∧ k = -1 ∨ scan true s.data.toList = none ∧ 0 ≤ k)) := by
  refine mut_by is_strings_indexFunc (by simp) fun hb => ?_
  repeat' (first | ((with_reducible first | refine wA (by omega) ?_ | refine wB (by omega) ?_ | refine wC (by omega) ?_ | refine wD (by omega) ?_ | refine wE ?_ ?_ | refine wF ?_ ?_ | refine wG ?_ ?_ | refine wH ?_ ?_ | refine wI ?_ ?_ | refine wJ ?_ ?_ | refine wK ?_ ?_ | refine wL ?_ ?_) <;> intro _) | simp (maxSteps := 1000000) (disch := omega) only [go_sem, Nat.reduceAdd, Nat.reduceMul, Nat.reduceSub, Nat.reduceLeDiff, Nat.reduceEqDiff, Nat.reduceBEq, ↓reduceIte, reduceCtorEq, Int.reduceEq, Int.reduceLE, Int.reduceLT, Int.reduceAdd, Int.reduceSub, Int.reduceNeg, Int.reduceToNat, Int.reduceNe, Nat.reducePow, Nat.reduceShiftRight, Nat.reduceMod, mc_strings_indexFunc, *])
  refine c_loopW 2095552 (by kernel_rfl) (fun j f H m => ∃ p st, j = s.size - p ∧ p ≤ s.size ∧ scan true s.data.toList = scan st (s.data.toList.drop p) ∧ nx < m ∧ H (nx + 2) = some (.iter s p) ∧ H id = some ⟨[.sc (.bool st)], w⟩) _ ⟨0, true, rfl, cE1, rfl, cE1, cE1, cE1⟩ ?_
  rintro _ f H1 m ⟨p, st, rfl, hp, hs, hm, hi, hc⟩
  replace hs := Kept.mk hs
  by_cases hlt : p < s.size
  · have hd := Kept.mk (scan_drop st s p hlt)
    repeat' (first | ((with_reducible first | refine wA (by omega) ?_ | refine wB (by omega) ?_ | refine wC (by omega) ?_ | refine wD (by omega) ?_ | refine wE ?_ ?_ | refine wF ?_ ?_ | refine wG ?_ ?_ | refine wH ?_ ?_ | refine wI ?_ ?_ | refine wJ ?_ ?_ | refine wK ?_ ?_ | refine wL ?_ ?_) <;> intro _) | simp (maxSteps := 1000000) (disch := omega) only [go_sem, Nat.reduceAdd, Nat.reduceMul, Nat.reduceSub, Nat.reduceLeDiff, Nat.reduceEqDiff, Nat.reduceBEq, ↓reduceIte, reduceCtorEq, Int.reduceEq, Int.reduceLE, Int.reduceLT, Int.reduceAdd, Int.reduceSub, Int.reduceNeg, Int.reduceToNat, Int.reduceNe, Nat.reducePow, Nat.reduceShiftRight, Nat.reduceMod, *])
    refine call_mut (Right_1_m _ st id w _ _ cE1) ?_
    rintro H' nx' r ⟨rfl, rfl⟩ hnx
    replace hnx : m + 11 ≤ nx' := by simpa using hnx
    by_cases hasc : (s[p]'hlt).toNat < 128
    · have ha := decode_ascii s p hlt hasc
      simp only [ha]
      repeat' (first | ((with_reducible first | refine wA (by omega) ?_ | refine wB (by omega) ?_ | refine wC (by omega) ?_ | refine wD (by omega) ?_ | refine wE ?_ ?_ | refine wF ?_ ?_ | refine wG ?_ ?_ | refine wH ?_ ?_ | refine wI ?_ ?_ | refine wJ ?_ ?_ | refine wK ?_ ?_ | refine wL ?_ ?_) <;> intro _) | simp (maxSteps := 1000000) (disch := omega) only [go_sem, Nat.reduceAdd, Nat.reduceMul, Nat.reduceSub, Nat.reduceLeDiff, Nat.reduceEqDiff, Nat.reduceBEq, ↓reduceIte, reduceCtorEq, Int.reduceEq, Int.reduceLE, Int.reduceLT, Int.reduceAdd, Int.reduceSub, Int.reduceNeg, Int.reduceToNat, Int.reduceNe, Nat.reducePow, Nat.reduceShiftRight, Nat.reduceMod, *])
      · rename_i hpl
        refine fin_mut (.sc (.int .i64 p)) (.inr rfl) (by simp (disch := omega) only [go_sem, Nat.reduceMul, Nat.reduceSub, Nat.reduceShiftRight, Nat.reduceMod, Nat.reduceEqDiff, Nat.reduceAdd, ↓reduceIte, Nat.reduceLeDiff, *]) ⟨decide (((s[p]'hlt).toNat : Int) = 46), p, cE1, rfl, .inr ⟨?_, by omega⟩⟩
        rw [hs.out, hd.out, if_neg (by simpa using hpl)]
      · rename_i hpl
        refine Nx.mk (s.size - (p + 1)) cE1 ⟨p + 1, decide (((s[p]'hlt).toNat : Int) = 46), rfl, cE1, ?_, cE1, cE1, cE1⟩
        rw [hs.out, hd.out, if_pos (by simpa using hpl)]
    · have hh := decode_high s p hlt (by omega)
      generalize Utf8.decode s p = q at hh
      have hpl : ∀ (c : Nat), 128 ≤ c → plainB c st = false := fun c hc => by
        unfold plainB
        rw [if_neg (by omega), if_neg (by omega)]
      have h1 := hpl q.1 hh
      repeat' (first | ((with_reducible first | refine wA (by omega) ?_ | refine wB (by omega) ?_ | refine wC (by omega) ?_ | refine wD (by omega) ?_ | refine wE ?_ ?_ | refine wF ?_ ?_ | refine wG ?_ ?_ | refine wH ?_ ?_ | refine wI ?_ ?_ | refine wJ ?_ ?_ | refine wK ?_ ?_ | refine wL ?_ ?_) <;> intro _) | simp (maxSteps := 1000000) (disch := omega) only [go_sem, Nat.reduceAdd, Nat.reduceMul, Nat.reduceSub, Nat.reduceLeDiff, Nat.reduceEqDiff, Nat.reduceBEq, ↓reduceIte, reduceCtorEq, Int.reduceEq, Int.reduceLE, Int.reduceLT, Int.reduceAdd, Int.reduceSub, Int.reduceNeg, Int.reduceToNat, Int.reduceNe, Nat.reducePow, Nat.reduceShiftRight, Nat.reduceMod, *])
      refine fin_mut (.sc (.int .i64 p)) (.inr rfl) (by simp (disch := omega) only [go_sem, Nat.reduceMul, Nat.reduceSub, Nat.reduceShiftRight, Nat.reduceMod, Nat.reduceEqDiff, Nat.reduceAdd, ↓reduceIte, Nat.reduceLeDiff, *]) ⟨decide ((q.1 : Int) = 46), p, cE1, rfl, .inr ⟨?_, by omega⟩⟩
      rw [hs.out, hd.out, if_neg (by rw [hpl _ (by omega)]; simp)]
  · obtain rfl : p = s.size := by omega
    repeat' (first | ((with_reducible first | refine wA (by omega) ?_ | refine wB (by omega) ?_ | refine wC (by omega) ?_ | refine wD (by omega) ?_ | refine wE ?_ ?_ | refine wF ?_ ?_ | refine wG ?_ ?_ | refine wH ?_ ?_ | refine wI ?_ ?_ | refine wJ ?_ ?_ | refine wK ?_ ?_ | refine wL ?_ ?_) <;> intro _) | simp (maxSteps := 1000000) (disch := omega) only [go_sem, Nat.reduceAdd, Nat.reduceMul, Nat.reduceSub, Nat.reduceLeDiff, Nat.reduceEqDiff, Nat.reduceBEq, ↓reduceIte, reduceCtorEq, Int.reduceEq, Int.reduceLE, Int.reduceLT, Int.reduceAdd, Int.reduceSub, Int.reduceNeg, Int.reduceToNat, Int.reduceNe, Nat.reducePow, Nat.reduceShiftRight, Nat.reduceMod, *])
    refine fin_mut (.sc (.int .i64 (-1))) (.inr rfl) (by simp (disch := omega) only [go_sem, Nat.reduceMul, Nat.reduceSub, Nat.reduceShiftRight, Nat.reduceMod, Nat.reduceEqDiff, Nat.reduceAdd, ↓reduceIte, Nat.reduceLeDiff, *]) ⟨st, -1, hc, rfl, .inl ⟨?_, rfl⟩⟩
    rw [hs.out, List.drop_eq_nil_of_le (by show s.data.toList.length ≤ s.data.size; simp)]
    rfl
theorem IndexFunc_m (s : ByteArray) (id : Nat) (w : Bool) (H : Nat → Option PObj) (nx : Nat) (hid : id < nx) (hH : H id = some ⟨[.sc (.bool true)], w⟩) :
    PMut Try.prog F.strings_IndexFunc [.sc (.string s), .fn F.name_Right_1 [.optr id 0]] H nx (fun H' nx' r' => ∃ st k, H' id = some ⟨[.sc (.bool st)], w⟩ ∧ r' = .sc (.int .i64 k) ∧ (scan true s.data.toList = some st ∧ k = -1 ∨ scan true s.data.toList = none ∧ 0 ≤ k)) := by
  refine mut_by is_strings_IndexFunc (by simp) fun hb => ?_
  repeat' (first | ((with_reducible first | refine wA (by omega) ?_ | refine wB (by omega) ?_ | refine wC (by omega) ?_ | refine wD (by omega) ?_ | refine wE ?_ ?_ | refine wF ?_ ?_ | refine wG ?_ ?_ | refine wH ?_ ?_ | refine wI ?_ ?_ | refine wJ ?_ ?_ | refine wK ?_ ?_ | refine wL ?_ ?_) <;> intro _) | simp (maxSteps := 1000000) (disch := omega) only [go_sem, Nat.reduceAdd, Nat.reduceMul, Nat.reduceSub, Nat.reduceLeDiff, Nat.reduceEqDiff, Nat.reduceBEq, ↓reduceIte, reduceCtorEq, Int.reduceEq, Int.reduceLE, Int.reduceLT, Int.reduceAdd, Int.reduceSub, Int.reduceNeg, Int.reduceToNat, Int.reduceNe, Nat.reducePow, Nat.reduceShiftRight, Nat.reduceMod, mc_strings_IndexFunc, *])
  refine call_mut (indexFunc_m s id w _ _ cE1 hH) ?_
  rintro H' nx' r ⟨st, k, h1, rfl, h2⟩ hnx
  replace h2 := Kept.mk h2
  repeat' (first | ((with_reducible first | refine wA (by omega) ?_ | refine wB (by omega) ?_ | refine wC (by omega) ?_ | refine wD (by omega) ?_ | refine wE ?_ ?_ | refine wF ?_ ?_ | refine wG ?_ ?_ | refine wH ?_ ?_ | refine wI ?_ ?_ | refine wJ ?_ ?_ | refine wK ?_ ?_ | refine wL ?_ ?_) <;> intro _) | simp (maxSteps := 1000000) (disch := omega) only [go_sem, Nat.reduceAdd, Nat.reduceMul, Nat.reduceSub, Nat.reduceLeDiff, Nat.reduceEqDiff, Nat.reduceBEq, ↓reduceIte, reduceCtorEq, Int.reduceEq, Int.reduceLE, Int.reduceLT, Int.reduceAdd, Int.reduceSub, Int.reduceNeg, Int.reduceToNat, Int.reduceNe, Nat.reducePow, Nat.reduceShiftRight, Nat.reduceMod, *])
  exact fin_mut (.sc (.int .i64 k)) (.inr rfl) (by simp (disch := omega) only [go_sem, Nat.reduceMul, Nat.reduceSub, Nat.reduceShiftRight, Nat.reduceMod, Nat.reduceEqDiff, Nat.reduceAdd, ↓reduceIte, Nat.reduceLeDiff, *]) ⟨st, k, h1, rfl, h2.out⟩
set_option maxHeartbeats 4000000 in
theorem name_Right_p (s : ByteArray) : PPure Try.prog F.name_Right [.sc (.string s)] (.sc (.bool (nameB s))) := by
  refine pure_by is_name_Right (by simp) rfl fun hb nx => ?_
  repeat' (first | ((with_reducible first | refine wA (by omega) ?_ | refine wB (by omega) ?_ | refine wC (by omega) ?_ | refine wD (by omega) ?_ | refine wE ?_ ?_ | refine wF ?_ ?_ | refine wG ?_ ?_ | refine wH ?_ ?_ | refine wI ?_ ?_ | refine wJ ?_ ?_ | refine wK ?_ ?_ | refine wL ?_ ?_) <;> intro _) | simp (maxSteps := 1000000) (disch := omega) only [go_sem, Nat.reduceAdd, Nat.reduceMul, Nat.reduceSub, Nat.reduceLeDiff, Nat.reduceEqDiff, Nat.reduceBEq, ↓reduceIte, reduceCtorEq, Int.reduceEq, Int.reduceLE, Int.reduceLT, Int.reduceAdd, Int.reduceSub, Int.reduceNeg, Int.reduceToNat, Int.reduceNe, Nat.reducePow, Nat.reduceShiftRight, Nat.reduceMod, mc_name_Right, *])
  · (refine fin_tmp (.inr rfl) ?_; (first | rfl | (simp (disch := omega) only [go_sem, Nat.reduceMul, Nat.reduceSub, Nat.reduceShiftRight, Nat.reduceMod, Nat.reduceEqDiff, Nat.reduceAdd, ↓reduceIte, Nat.reduceLeDiff, nameB, *]; done) | (simp [nameB, upd, *]; done) | (simp [nameB, upd, *]; omega)))
  · refine call_mut (IndexFunc_m s (nx + 4) true _ _ cE1 cE1) ?_
    rintro H' nx' r ⟨st, k, h1, rfl, h2⟩ hnx
    rcases h2 with ⟨h2, rfl⟩ | ⟨h2, h3⟩
    · cases st
      · repeat' (first | ((with_reducible first | refine wA (by omega) ?_ | refine wB (by omega) ?_ | refine wC (by omega) ?_ | refine wD (by omega) ?_ | refine wE ?_ ?_ | refine wF ?_ ?_ | refine wG ?_ ?_ | refine wH ?_ ?_ | refine wI ?_ ?_ | refine wJ ?_ ?_ | refine wK ?_ ?_ | refine wL ?_ ?_) <;> intro _) | simp (maxSteps := 1000000) (disch := omega) only [go_sem, Nat.reduceAdd, Nat.reduceMul, Nat.reduceSub, Nat.reduceLeDiff, Nat.reduceEqDiff, Nat.reduceBEq, ↓reduceIte, reduceCtorEq, Int.reduceEq, Int.reduceLE, Int.reduceLT, Int.reduceAdd, Int.reduceSub, Int.reduceNeg, Int.reduceToNat, Int.reduceNe, Nat.reducePow, Nat.reduceShiftRight, Nat.reduceMod, *])
        (refine fin_tmp (.inr rfl) ?_; (first | rfl | (simp (disch := omega) only [go_sem, Nat.reduceMul, Nat.reduceSub, Nat.reduceShiftRight, Nat.reduceMod, Nat.reduceEqDiff, Nat.reduceAdd, ↓reduceIte, Nat.reduceLeDiff, nameB, *]; done) | (simp [nameB, upd, *]; done) | (simp [nameB, upd, *]; omega)))
      · repeat' (first | ((with_reducible first | refine wA (by omega) ?_ | refine wB (by omega) ?_ | refine wC (by omega) ?_ | refine wD (by omega) ?_ | refine wE ?_ ?_ | refine wF ?_ ?_ | refine wG ?_ ?_ | refine wH ?_ ?_ | refine wI ?_ ?_ | refine wJ ?_ ?_ | refine wK ?_ ?_ | refine wL ?_ ?_) <;> intro _) | simp (maxSteps := 1000000) (disch := omega) only [go_sem, Nat.reduceAdd, Nat.reduceMul, Nat.reduceSub, Nat.reduceLeDiff, Nat.reduceEqDiff, Nat.reduceBEq, ↓reduceIte, reduceCtorEq, Int.reduceEq, Int.reduceLE, Int.reduceLT, Int.reduceAdd, Int.reduceSub, Int.reduceNeg, Int.reduceToNat, Int.reduceNe, Nat.reducePow, Nat.reduceShiftRight, Nat.reduceMod, *])
        (refine fin_tmp (.inr rfl) ?_; (first | rfl | (simp (disch := omega) only [go_sem, Nat.reduceMul, Nat.reduceSub, Nat.reduceShiftRight, Nat.reduceMod, Nat.reduceEqDiff, Nat.reduceAdd, ↓reduceIte, Nat.reduceLeDiff, nameB, *]; done) | (simp [nameB, upd, *]; done) | (simp [nameB, upd, *]; omega)))
    · repeat' (first | ((with_reducible first | refine wA (by omega) ?_ | refine wB (by omega) ?_ | refine wC (by omega) ?_ | refine wD (by omega) ?_ | refine wE ?_ ?_ | refine wF ?_ ?_ | refine wG ?_ ?_ | refine wH ?_ ?_ | refine wI ?_ ?_ | refine wJ ?_ ?_ | refine wK ?_ ?_ | refine wL ?_ ?_) <;> intro _) | simp (maxSteps := 1000000) (disch := omega) only [go_sem, Nat.reduceAdd, Nat.reduceMul, Nat.reduceSub, Nat.reduceLeDiff, Nat.reduceEqDiff, Nat.reduceBEq, ↓reduceIte, reduceCtorEq, Int.reduceEq, Int.reduceLE, Int.reduceLT, Int.reduceAdd, Int.reduceSub, Int.reduceNeg, Int.reduceToNat, Int.reduceNe, Nat.reducePow, Nat.reduceShiftRight, Nat.reduceMod, *])
      (refine fin_tmp (.inr rfl) ?_; (first | rfl | (simp (disch := omega) only [go_sem, Nat.reduceMul, Nat.reduceSub, Nat.reduceShiftRight, Nat.reduceMod, Nat.reduceEqDiff, Nat.reduceAdd, ↓reduceIte, Nat.reduceLeDiff, nameB, *]; done) | (simp [nameB, upd, *]; done) | (simp [nameB, upd, *]; omega)))
end
section
set_option maxRecDepth 20000
attribute [local go_sem] pv_len pv_take Nat.add_assoc
inductive Tm where
  | mk (kind n : Int) (name : ByteArray) (levels : List Lv) (args : List Tm)
mutual
def Tm.size : Tm → Nat
  | .mk _ _ _ _ args => 1 + sizeL args
def sizeL : List Tm → Nat
  | [] => 0
  | x :: r => x.size + sizeL r
end
def Tm.pv : Tm → List PV
  | .mk k n s ls args => [.sc (.int .i64 k), .sc (.int .i64 n), .sc (.string s), .sl 3 (ls.map Lv.pv), .sl 5 (args.map Tm.pv)]
theorem tm_len (t : Tm) : t.pv.length = 5 := by cases t; simp [Tm.pv]
attribute [local go_sem] tm_len
theorem tm_take (t : Tm) : t.pv.take 5 = t.pv := List.take_of_length_le (by rw [tm_len]; omega)
attribute [local go_sem] tm_take
theorem size_pos (t : Tm) : 0 < t.size := by cases t; simp only [Tm.size]; omega
theorem sizeL_mem : ∀ (ts : List Tm) (k : Nat) (h : k < ts.length), ts[k].size ≤ sizeL ts
  | x :: r, 0, h => by simp [sizeL]
  | x :: r, k + 1, h => by
    have := sizeL_mem r k (by simpa using h)
    simp only [List.getElem_cons_succ, sizeL]
    omega
def deepB (kind : Int) (len i : Nat) : Int := if 5 ≤ kind ∧ i + 1 = len then 1 else 0
theorem deep_bd (kind : Int) (len i : Nat) : 0 ≤ deepB kind len i ∧ deepB kind len i ≤ 1 := by unfold deepB; split <;> omega
def noS (s : ByteArray) : Bool := s.toList == (⟨#[]⟩ : ByteArray).toList
theorem fold_noS {s : ByteArray} : (s.toList == (⟨#[]⟩ : ByteArray).toList) = noS s := nr rfl
def hasB (n : Int) (s : ByteArray) (ls : List Lv) (args : List Tm) (a b c : Int) : Bool := decide (n = a) && (noS s && (decide ((ls.length : Int) = b) && decide ((args.length : Int) = c)))
def headR (np : Int) : List Lv → Bool
  | l :: _ => l.right np
  | [] => false
def constB (n : Int) (s : ByteArray) (ls : List Lv) (args : List Tm) (np : Int) : Bool := decide (n = 0) && (decide (args.length = 0) && (decide (ls.length ≤ 4) && (nameB s && ls.all (Lv.right np))))
mutual
def Tm.formed (np : Int) : Int → Tm → Bool
  | k, .mk kind n s ls args =>
    if kind = 1 then decide (0 ≤ n) && (decide (n < k) && hasB n s ls args n 0 0)
    else if kind = 2 then hasB n s ls args 0 1 0 && headR np ls
    else if kind = 3 then constB n s ls args np
    else if kind = 4 ∨ kind = 5 ∨ kind = 6 then hasB n s ls args 0 0 2 && formedA np k kind args.length 0 args
    else if kind = 7 then hasB n s ls args 0 0 3 && formedA np k kind args.length 0 args
    else false
def formedA (np : Int) : Int → Int → Nat → Nat → List Tm → Bool
  | _, _, _, _, [] => true
  | k, kind, len, i, x :: r => x.formed np (k + deepB kind len i) && formedA np k kind len (i + 1) r
end
theorem deeper_p (t : Tm) (i : Nat) (kind n : Int) (s : ByteArray) (ls : List Lv) (args : List Tm) (e : t = .mk kind n s ls args) : PPure Try.prog F.term_deeper [.ptr t.pv, .sc (.int .i64 i)] (.sc (.int .i64 (deepB kind args.length i))) := by
  subst e
  refine pure_by is_term_deeper (by simp) rfl fun hb nx => ?_
  have hb0 : args.length ≤ 9223372036854775807 := by simp [Tm.pv, bndL, PV.bnd] at hb; exact hb.2.1
  repeat' (first | ((with_reducible first | refine wA (by omega) ?_ | refine wB (by omega) ?_ | refine wC (by omega) ?_ | refine wD (by omega) ?_ | refine wE ?_ ?_ | refine wF ?_ ?_ | refine wG ?_ ?_ | refine wH ?_ ?_ | refine wI ?_ ?_ | refine wJ ?_ ?_ | refine wK ?_ ?_ | refine wL ?_ ?_) <;> intro _) | simp (maxSteps := 1000000) (disch := omega) only [go_sem, Nat.reduceAdd, Nat.reduceMul, Nat.reduceSub, Nat.reduceLeDiff, Nat.reduceEqDiff, Nat.reduceBEq, ↓reduceIte, reduceCtorEq, Int.reduceEq, Int.reduceLE, Int.reduceLT, Int.reduceAdd, Int.reduceSub, Int.reduceNeg, Int.reduceToNat, Int.reduceNe, Nat.reducePow, Nat.reduceShiftRight, Nat.reduceMod, mc_term_deeper, Tm.pv, *])
  all_goals (refine fin_tmp (.inr rfl) ?_; simp [upd, deepB, *]; try omega)
theorem has_p (kind n : Int) (s : ByteArray) (ls : List Lv) (args : List Tm) (a b c : Int) :
    PPure Try.prog F.term_has [.ptr (Tm.mk kind n s ls args).pv, .sc (.int .i64 a), .sc (.int .i64 b), .sc (.int .i64 c)] (.sc (.bool (hasB n s ls args a b c))) := by
  unfold hasB
  refine pure_by is_term_has (by simp) rfl fun hb nx => ?_
  repeat' (first | ((with_reducible first | refine wA (by omega) ?_ | refine wB (by omega) ?_ | refine wC (by omega) ?_ | refine wD (by omega) ?_ | refine wE ?_ ?_ | refine wF ?_ ?_ | refine wG ?_ ?_ | refine wH ?_ ?_ | refine wI ?_ ?_ | refine wJ ?_ ?_ | refine wK ?_ ?_ | refine wL ?_ ?_) <;> intro _) | simp (maxSteps := 1000000) (disch := omega) only [go_sem, Nat.reduceAdd, Nat.reduceMul, Nat.reduceSub, Nat.reduceLeDiff, Nat.reduceEqDiff, Nat.reduceBEq, ↓reduceIte, reduceCtorEq, Int.reduceEq, Int.reduceLE, Int.reduceLT, Int.reduceAdd, Int.reduceSub, Int.reduceNeg, Int.reduceToNat, Int.reduceNe, Nat.reducePow, Nat.reduceShiftRight, Nat.reduceMod, mc_term_has, Tm.pv, strBin, fold_noS, *])
  all_goals (refine fin_tmp (.inr rfl) ?_; simp [upd, *])
theorem all_right_take (np : Int) (ls : List Lv) (k : Nat) (h : k < ls.length) : (ls.take (k + 1)).all (Lv.right np) = ((ls.take k).all (Lv.right np) && ls[k].right np) := by
  rw [List.take_succ_eq_append_getElem h, List.all_append]; simp
theorem all_right_false (np : Int) (ls : List Lv) (k : Nat) (h : k < ls.length) (hp : ls[k].right np = false) : ls.all (Lv.right np) = false := by
  rw [List.all_eq_false]; exact ⟨_, List.getElem_mem h, by simp [hp]⟩
set_option maxHeartbeats 4000000 in
theorem constant_p (kind n : Int) (s : ByteArray) (ls : List Lv) (args : List Tm) (np : Int) :
    PPure Try.prog F.term_constant [.ptr (Tm.mk kind n s ls args).pv, .sc (.int .i64 np)] (.sc (.bool (constB n s ls args np))) := by
  unfold constB
  refine pure_by is_term_constant (by simp) rfl fun hb nx => ?_
  have hb0 : args.length ≤ 9223372036854775807 := by simp [Tm.pv, bndL, PV.bnd] at hb; exact hb.2.1
  repeat' (first | ((with_reducible first | refine wA (by omega) ?_ | refine wB (by omega) ?_ | refine wC (by omega) ?_ | refine wD (by omega) ?_ | refine wE ?_ ?_ | refine wF ?_ ?_ | refine wG ?_ ?_ | refine wH ?_ ?_ | refine wI ?_ ?_ | refine wJ ?_ ?_ | refine wK ?_ ?_ | refine wL ?_ ?_) <;> intro _) | (((with_reducible refine call_id ?_); (first | (refine call_pure (name_Right_p s) ?_)))) | simp (maxSteps := 1000000) (disch := omega) only [go_sem, Nat.reduceAdd, Nat.reduceMul, Nat.reduceSub, Nat.reduceLeDiff, Nat.reduceEqDiff, Nat.reduceBEq, ↓reduceIte, reduceCtorEq, Int.reduceEq, Int.reduceLE, Int.reduceLT, Int.reduceAdd, Int.reduceSub, Int.reduceNeg, Int.reduceToNat, Int.reduceNe, Nat.reducePow, Nat.reduceShiftRight, Nat.reduceMod, mc_term_constant, Tm.pv, *])
  all_goals (try (refine fin_tmp (.inr rfl) ?_; simp [upd, *] <;> (try omega); done))
  refine c_loopW 18013298997854256 (by kernel_rfl) (fun j f H m => ∃ i : Nat, j = ls.length - i ∧ i ≤ ls.length ∧ f 40 = .sc (.int .i64 i) ∧ (ls.take i).all (Lv.right np) = true) _ ⟨0, rfl, cE1, cE1, rfl⟩ ?_
  rintro _ f H m ⟨i, rfl, hi, e40, hall⟩
  by_cases hlt : i < ls.length
  · have eg : ls[i]? = some ls[i] := List.getElem?_eq_getElem hlt
    have ht := all_right_take np ls i hlt
    have hq := all_right_false np ls i hlt
    repeat' (first | ((with_reducible first | refine wA (by omega) ?_ | refine wB (by omega) ?_ | refine wC (by omega) ?_ | refine wD (by omega) ?_ | refine wE ?_ ?_ | refine wF ?_ ?_ | refine wG ?_ ?_ | refine wH ?_ ?_ | refine wI ?_ ?_ | refine wJ ?_ ?_ | refine wK ?_ ?_ | refine wL ?_ ?_) <;> intro _) | (((with_reducible refine call_id ?_); (first | (refine call_pure (Right_p ls[i] np) ?_)))) | simp (maxSteps := 1000000) (disch := omega) only [go_sem, Nat.reduceAdd, Nat.reduceMul, Nat.reduceSub, Nat.reduceLeDiff, Nat.reduceEqDiff, Nat.reduceBEq, ↓reduceIte, reduceCtorEq, Int.reduceEq, Int.reduceLE, Int.reduceLT, Int.reduceAdd, Int.reduceSub, Int.reduceNeg, Int.reduceToNat, Int.reduceNe, Nat.reducePow, Nat.reduceShiftRight, Nat.reduceMod, Tm.pv, *])
    · rename_i h
      have := hq h
      refine fin_tmp (.inr rfl) ?_
      simp [upd, *]
    · rename_i h
      refine Nx.mk (ls.length - (i + 1)) cE1 ⟨i + 1, cE1, cE1, cE1, by rw [ht, hall, h]; rfl⟩
  · obtain rfl : i = ls.length := by omega
    rw [List.take_length] at hall
    repeat' (first | ((with_reducible first | refine wA (by omega) ?_ | refine wB (by omega) ?_ | refine wC (by omega) ?_ | refine wD (by omega) ?_ | refine wE ?_ ?_ | refine wF ?_ ?_ | refine wG ?_ ?_ | refine wH ?_ ?_ | refine wI ?_ ?_ | refine wJ ?_ ?_ | refine wK ?_ ?_ | refine wL ?_ ?_) <;> intro _) | simp (maxSteps := 1000000) (disch := omega) only [go_sem, Nat.reduceAdd, Nat.reduceMul, Nat.reduceSub, Nat.reduceLeDiff, Nat.reduceEqDiff, Nat.reduceBEq, ↓reduceIte, reduceCtorEq, Int.reduceEq, Int.reduceLE, Int.reduceLT, Int.reduceAdd, Int.reduceSub, Int.reduceNeg, Int.reduceToNat, Int.reduceNe, Nat.reducePow, Nat.reduceShiftRight, Nat.reduceMod, Tm.pv, *])
    refine fin_tmp (.inr rfl) ?_
    simp [upd, *]
    omega
end
section
attribute [local go_sem] pv_len pv_take rounds_next Nat.add_assoc id_ne id_ne' id_ne2 List.append_assoc
structure Fm where
  num : Int
  a0 : Int
  a1 : Int
  a2 : Int
  a3 : Int
def Fm.pv (f : Fm) : List PV := [.sc (.int .i64 f.num), .sc (.int .i64 f.a0), .sc (.int .i64 f.a1), .sc (.int .i64 f.a2), .sc (.int .i64 f.a3)]
structure Fm.Ok (f : Fm) (m : Int) : Prop where
  n0 : 0 ≤ f.num
  n1 : f.num ≤ m
  b0 : -1 ≤ f.a0
  c0 : f.a0 ≤ m
  b1 : -1 ≤ f.a1
  c1 : f.a1 ≤ m
  b2 : -1 ≤ f.a2
  c2 : f.a2 ≤ m
  b3 : -1 ≤ f.a3
  c3 : f.a3 ≤ m
def up (n a : Int) : Int := if a = -1 then n else max n (a + 1)
def Fm.leastN (f : Fm) : Nat → Int
  | 0 => f.num
  | 1 => up f.num f.a0
  | 2 => up (up f.num f.a0) f.a1
  | 3 => up (up (up f.num f.a0) f.a1) f.a2
  | _ => up (up (up (up f.num f.a0) f.a1) f.a2) f.a3
def Fm.least (f : Fm) : Int := f.leastN 4
def Fm.short (f : Fm) : Fm := if (Fm.mk 0 f.a0 f.a1 f.a2 f.a3).least < f.num then f else ⟨0, f.a0, f.a1, f.a2, f.a3⟩
def inc (a : Int) : Int := if a = -1 then -1 else a + 1
def Fm.succ (f : Fm) : Fm := (Fm.mk (f.num + 1) (inc f.a0) (inc f.a1) (inc f.a2) (inc f.a3)).short
def Fm.max (f g : Fm) : Fm := (Fm.mk (Max.max f.num g.num) (Max.max f.a0 g.a0) (Max.max f.a1 g.a1) (Max.max f.a2 g.a2) (Max.max f.a3 g.a3)).short
def Fm.same (f g : Fm) : Bool := decide (f.num = g.num) && (decide (f.a0 = g.a0) && (decide (f.a1 = g.a1) && (decide (f.a2 = g.a2) && decide (f.a3 = g.a3))))
end
section
attribute [local go_sem] pv_len pv_take rounds_next List.append_assoc Nat.add_assoc id_ne id_ne' id_ne2
def Fm.one (n : Int) : Fm := ⟨0, if n = 0 then 0 else -1, if n = 1 then 0 else -1, if n = 2 then 0 else -1, if n = 3 then 0 else -1⟩
theorem Fm.Ok.mono {f : Fm} {m m' : Int} (h : f.Ok m) (hm : m ≤ m') : f.Ok m' :=
  ⟨h.n0, by have := h.n1; omega, h.b0, by have := h.c0; omega, h.b1, by have := h.c1; omega, h.b2, by have := h.c2; omega, h.b3, by have := h.c3; omega⟩
end
section
attribute [local go_sem] pv_len pv_take id_ne id_ne' id_ne2 rounds_next List.append_assoc Nat.add_assoc
theorem pv_one (l : Lv) : l.pv.all PV.one = true := by
  cases l
  simp [Lv.pv, PV.one, Value.oneCell']
theorem lv_imm : ∀ (fuel : Nat) (l : Lv), l.nodes ≤ fuel → immL l.pv = true := by
  intro fuel
  induction fuel with
  | zero => intro l h; have := nodes_pos l; omega
  | succ fuel ih =>
    intro l h
    cases l with
    | mk k n args =>
    simp only [Lv.nodes] at h
    simp only [Lv.pv, immL, PV.imm, Bool.true_and, Bool.and_true]
    have key : ∀ ls : List Lv, nodesL ls ≤ fuel → immLL (ls.map Lv.pv) = true := by
      intro ls
      induction ls with
      | nil => intro _; rfl
      | cons x r ihr =>
        intro hl
        simp only [nodesL] at hl
        simp only [List.map_cons, immLL, Bool.and_eq_true]
        exact ⟨ih x (by omega), ihr (by omega)⟩
    exact key args (by omega)
theorem pv_imm (l : Lv) : immL l.pv = true := lv_imm l.nodes l (Nat.le_refl _)
end
section
def tt (a x : Int) : Int := if a = -1 then 0 else a + x
def Fm.ev (f : Fm) (x0 x1 x2 x3 : Int) : Int := Max.max (Max.max (Max.max (Max.max f.num (tt f.a0 x0)) (tt f.a1 x1)) (tt f.a2 x2)) (tt f.a3 x3)
structure Fm.Min (f : Fm) : Prop where
  n0 : 0 ≤ f.num
  b0 : -1 ≤ f.a0
  b1 : -1 ≤ f.a1
  b2 : -1 ≤ f.a2
  b3 : -1 ≤ f.a3
theorem Fm.Ok.min {f : Fm} {m : Int} (h : f.Ok m) : f.Min := ⟨h.n0, h.b0, h.b1, h.b2, h.b3⟩
def s3 (i : Nat) : Int := if i = 0 then 0 else if i = 1 then 1 else 1000
end
section
set_option maxRecDepth 20000
attribute [local go_sem] pv_len pv_take id_ne id_ne' id_ne2 List.append_assoc Nat.add_assoc pv_one
mutual
def Lv.same : Lv → Lv → Bool
  | .mk k n xs, .mk k' n' ys => decide (k = k') && (decide (n = n') && (decide (xs.length = ys.length) && sameL xs ys))
def sameL : List Lv → List Lv → Bool
  | x :: xs, y :: ys => x.same y && sameL xs ys
  | _, _ => true
end
mutual
theorem same_iff_eq : ∀ a b : Lv, a.same b = true ↔ a = b
  | .mk k n xs, .mk k' n' ys => by
    simp only [Lv.same, Bool.and_eq_true, decide_eq_true_eq, Lv.mk.injEq]
    constructor
    · rintro ⟨h1, h2, h3, h4⟩
      exact ⟨h1, h2, (sameL_iff xs ys h3).1 h4⟩
    · rintro ⟨h1, h2, h3⟩
      exact ⟨h1, h2, by rw [h3], (sameL_iff xs ys (by rw [h3])).2 h3⟩
theorem sameL_iff : ∀ xs ys : List Lv, xs.length = ys.length → (sameL xs ys = true ↔ xs = ys)
  | [], [], _ => by simp [sameL]
  | x :: xs, y :: ys, h => by
    simp only [sameL, Bool.and_eq_true, List.cons.injEq]
    rw [same_iff_eq x y, sameL_iff xs ys (by simpa using h)]
  | [], y :: ys, h => by simp at h
  | x :: xs, [], h => by simp at h
end
theorem sameL_take : ∀ (xs ys : List Lv) (i : Nat) (h : i < xs.length) (h2 : i < ys.length), sameL (xs.take (i + 1)) (ys.take (i + 1)) = (sameL (xs.take i) (ys.take i) && xs[i].same ys[i])
  | x :: xs, y :: ys, 0, h, h2 => by simp [sameL]
  | x :: xs, y :: ys, i + 1, h, h2 => by
    have := sameL_take xs ys i (by simpa using h) (by simpa using h2)
    simp only [List.take_succ_cons, sameL, List.getElem_cons_succ, this, Bool.and_assoc]
theorem sameL_false : ∀ (xs ys : List Lv) (i : Nat) (h : i < xs.length) (h2 : i < ys.length), xs[i].same ys[i] = false → sameL xs ys = false
  | x :: xs, y :: ys, 0, h, h2, e => by simp at e; simp [sameL, e]
  | x :: xs, y :: ys, i + 1, h, h2, e => by
    have := sameL_false xs ys i (by simpa using h) (by simpa using h2) (by simpa using e)
    simp [sameL, this]
set_option maxHeartbeats 400000 in
theorem SameLevel_p : ∀ (fuel : Nat) (a b : Lv), a.nodes ≤ fuel → PPure Try.prog F.ref00_SameLevel [.agg a.pv, .agg b.pv] (.sc (.bool (a.same b))) := by
  intro fuel
  induction fuel with
  | zero => intro l _ h; have := nodes_pos l; omega
  | succ fuel ih =>
    intro a b hf
    cases a with
    | mk k n xs =>
    cases b with
    | mk k' n' ys =>
    simp only [Lv.nodes] at hf
    refine pure_by is_ref00_SameLevel (by simp) rfl fun hb nx => ?_
    have hb0 : xs.length ≤ 9223372036854775807 ∧ ys.length ≤ 9223372036854775807 := by simp [Lv.pv, bndL, PV.bnd] at hb; exact ⟨hb.1.1, hb.2.1⟩
    repeat' (first | ((with_reducible first | refine wA (by omega) ?_ | refine wB (by omega) ?_ | refine wC (by omega) ?_ | refine wD (by omega) ?_ | refine wE ?_ ?_ | refine wF ?_ ?_ | refine wG ?_ ?_ | refine wH ?_ ?_ | refine wI ?_ ?_ | refine wJ ?_ ?_ | refine wK ?_ ?_ | refine wL ?_ ?_) <;> intro _) | simp (maxSteps := 1000000) (disch := omega) only [go_sem, Nat.reduceAdd, Nat.reduceMul, Nat.reduceSub, Nat.reduceLeDiff, Nat.reduceEqDiff, Nat.reduceBEq, ↓reduceIte, reduceCtorEq, Int.reduceEq, Int.reduceLE, Int.reduceLT, Int.reduceAdd, Int.reduceSub, Int.reduceNeg, Int.reduceToNat, Int.reduceNe, Nat.reducePow, Nat.reduceShiftRight, Nat.reduceMod, mc_ref00_SameLevel, Lv.pv, *])
    all_goals (try (refine fin_tmp (.inr rfl) ?_; (first | rfl | (simp (disch := omega) only [go_sem, Nat.reduceMul, Nat.reduceSub, Nat.reduceShiftRight, Nat.reduceMod, Nat.reduceEqDiff, Nat.reduceAdd, ↓reduceIte, Nat.reduceLeDiff, Lv.same, *]; done) | (simp [Lv.same, upd, *]; done) | (simp [Lv.same, upd, *]; omega))))
    refine c_loopW 70368609959984 (by kernel_rfl) (fun j f H m => ∃ i : Nat, j = xs.length - i ∧ i ≤ xs.length ∧ f 5 = .sc (.int .i64 i) ∧ sameL (xs.take i) (ys.take i) = true) _ ⟨0, rfl, cE1, cE1, rfl⟩ ?_
    rintro _ f H m ⟨i, rfl, hi, e5, hs⟩
    by_cases hlt : i < xs.length
    · have hlt2 : i < ys.length := by omega
      have eg : xs[i]? = some xs[i] := List.getElem?_eq_getElem hlt
      have eg2 : ys[i]? = some ys[i] := List.getElem?_eq_getElem hlt2
      have hn := nodesL_mem xs i hlt
      have ht := sameL_take xs ys i hlt hlt2
      have hq := sameL_false xs ys i hlt hlt2
      repeat' (first | ((with_reducible first | refine wA (by omega) ?_ | refine wB (by omega) ?_ | refine wC (by omega) ?_ | refine wD (by omega) ?_ | refine wE ?_ ?_ | refine wF ?_ ?_ | refine wG ?_ ?_ | refine wH ?_ ?_ | refine wI ?_ ?_ | refine wJ ?_ ?_ | refine wK ?_ ?_ | refine wL ?_ ?_) <;> intro _) | (((with_reducible refine call_id ?_); (first | (refine call_pure (ih xs[i] ys[i] (by omega)) ?_)))) | simp (maxSteps := 1000000) (disch := omega) only [go_sem, Nat.reduceAdd, Nat.reduceMul, Nat.reduceSub, Nat.reduceLeDiff, Nat.reduceEqDiff, Nat.reduceBEq, ↓reduceIte, reduceCtorEq, Int.reduceEq, Int.reduceLE, Int.reduceLT, Int.reduceAdd, Int.reduceSub, Int.reduceNeg, Int.reduceToNat, Int.reduceNe, Nat.reducePow, Nat.reduceShiftRight, Nat.reduceMod, Lv.pv, *])
      · rename_i h0
        rw [h0] at hq
        (refine fin_tmp (.inr rfl) ?_; (first | rfl | (simp (disch := omega) only [go_sem, Nat.reduceMul, Nat.reduceSub, Nat.reduceShiftRight, Nat.reduceMod, Nat.reduceEqDiff, Nat.reduceAdd, ↓reduceIte, Nat.reduceLeDiff, Lv.same, *]; done) | (simp [Lv.same, upd, *]; done) | (simp [Lv.same, upd, *]; omega)))
      · rename_i h0
        refine Nx.mk (xs.length - (i + 1)) cE1 ⟨i + 1, cE1, cE1, cE1, by rw [ht, hs, h0]; rfl⟩
    · obtain rfl : i = xs.length := by omega
      have e : ys.take xs.length = ys := List.take_of_length_le (by omega)
      rw [List.take_length, e] at hs
      repeat' (first | ((with_reducible first | refine wA (by omega) ?_ | refine wB (by omega) ?_ | refine wC (by omega) ?_ | refine wD (by omega) ?_ | refine wE ?_ ?_ | refine wF ?_ ?_ | refine wG ?_ ?_ | refine wH ?_ ?_ | refine wI ?_ ?_ | refine wJ ?_ ?_ | refine wK ?_ ?_ | refine wL ?_ ?_) <;> intro _) | simp (maxSteps := 1000000) (disch := omega) only [go_sem, Nat.reduceAdd, Nat.reduceMul, Nat.reduceSub, Nat.reduceLeDiff, Nat.reduceEqDiff, Nat.reduceBEq, ↓reduceIte, reduceCtorEq, Int.reduceEq, Int.reduceLE, Int.reduceLT, Int.reduceAdd, Int.reduceSub, Int.reduceNeg, Int.reduceToNat, Int.reduceNe, Nat.reducePow, Nat.reduceShiftRight, Nat.reduceMod, Lv.pv, *])
      (refine fin_tmp (.inr rfl) ?_; (first | rfl | (simp (disch := omega) only [go_sem, Nat.reduceMul, Nat.reduceSub, Nat.reduceShiftRight, Nat.reduceMod, Nat.reduceEqDiff, Nat.reduceAdd, ↓reduceIte, Nat.reduceLeDiff, Lv.same, *]; done) | (simp [Lv.same, upd, *]; done) | (simp [Lv.same, upd, *]; omega)))
end
section
attribute [local go_sem] pv_len pv_take id_ne id_ne' id_ne2 List.append_assoc Nat.add_assoc pv_one
mutual
def Lv.grown (bys : List Lv) : Lv → Nat
  | .mk k n args => if k = 2 then min (bys.getD n.toNat (.mk 1 0 [])).nodes 65 else 1 + grownL bys args
def grownL (bys : List Lv) : List Lv → Nat
  | [] => 0
  | x :: r => x.grown bys + grownL bys r
end
end
section
set_option maxRecDepth 20000
attribute [local go_sem] pv_len pv_take Nat.add_assoc tm_len tm_take pv_one id_ne id_ne' id_ne2
mutual
def Tm.nodes : Tm → Nat
  | .mk _ _ _ ls args => 1 + (nodesL ls + nodesT args)
def nodesT : List Tm → Nat
  | [] => 0
  | x :: r => x.nodes + nodesT r
end
theorem nodesT_take_succ : ∀ (ts : List Tm) (k : Nat) (h : k < ts.length), nodesT (ts.take (k + 1)) = nodesT (ts.take k) + ts[k].nodes
  | x :: r, 0, h => by simp [nodesT]
  | x :: r, k + 1, h => by
    have := nodesT_take_succ r k (by simpa using h)
    simp only [List.take_succ_cons, nodesT, List.getElem_cons_succ, this]
    omega
theorem nodesT_append : ∀ a b : List Tm, nodesT (a ++ b) = nodesT a + nodesT b
  | [], b => by simp [nodesT]
  | x :: r, b => by simp only [List.cons_append, nodesT, nodesT_append r b]; omega
theorem nodesT_take_le (ts : List Tm) (k : Nat) : nodesT (ts.take k) ≤ nodesT ts := by
  have h := nodesT_append (ts.take k) (ts.drop k)
  rw [List.take_append_drop] at h
  omega
end
section
set_option maxRecDepth 20000
attribute [local go_sem] pv_len pv_take Nat.add_assoc tm_len tm_take
theorem all_nil {ls : List Lv} (np : Int) (h : ls.length = 0) : ls.all (Lv.right np) = true := by
  obtain rfl : ls = [] := List.eq_nil_of_length_eq_zero h
  rfl
end
section
set_option maxRecDepth 20000
attribute [local go_sem] pv_len pv_take Nat.add_assoc tm_len tm_take
def Tm.right (np bound : Int) (t : Tm) : Bool := decide (0 ≤ bound) && (decide (0 ≤ np) && (decide (np ≤ 4) && (decide (t.nodes ≤ 2000) && t.formed np (min bound 1125899906842624))))
end
section
set_option maxRecDepth 20000
attribute [local go_sem] pv_len pv_take Nat.add_assoc tm_len tm_take
def sameB (s t : ByteArray) : Bool := s.toList == t.toList
theorem fold_sameB {s t : ByteArray} : (s.toList == t.toList) = sameB s t := nr rfl
mutual
def Tm.same : Tm → Tm → Bool
  | .mk k n s ls xs, .mk k' n' s' ls' ys => decide (k = k') && (decide (n = n') && (sameB s s' && (decide (ls.length = ls'.length) && (decide (xs.length = ys.length) && (sameL ls ls' && sameT xs ys)))))
def sameT : List Tm → List Tm → Bool
  | x :: xs, y :: ys => x.same y && sameT xs ys
  | _, _ => true
end
theorem sameT_take : ∀ (xs ys : List Tm) (i : Nat) (h : i < xs.length) (h2 : i < ys.length), sameT (xs.take (i + 1)) (ys.take (i + 1)) = (sameT (xs.take i) (ys.take i) && xs[i].same ys[i])
  | x :: xs, y :: ys, 0, h, h2 => by simp [sameT]
  | x :: xs, y :: ys, i + 1, h, h2 => by
    have := sameT_take xs ys i (by simpa using h) (by simpa using h2)
    simp only [List.take_succ_cons, sameT, List.getElem_cons_succ, this, Bool.and_assoc]
theorem sameT_false : ∀ (xs ys : List Tm) (i : Nat) (h : i < xs.length) (h2 : i < ys.length), xs[i].same ys[i] = false → sameT xs ys = false
  | x :: xs, y :: ys, 0, h, h2, e => by simp at e; simp [sameT, e]
  | x :: xs, y :: ys, i + 1, h, h2, e => by
    have := sameT_false xs ys i (by simpa using h) (by simpa using h2) (by simpa using e)
    simp [sameT, this]
set_option maxHeartbeats 8000000 in
theorem SameTerm_p : ∀ (fuel : Nat) (a b : Tm), a.size ≤ fuel → PPure Try.prog F.ref00_SameTerm [.agg a.pv, .agg b.pv] (.sc (.bool (a.same b))) := by
  intro fuel
  induction fuel with
  | zero => intro l _ h; have := size_pos l; omega
  | succ fuel ih =>
    intro a b hf
    cases a with
    | mk k n s ls xs =>
    cases b with
    | mk k' n' s' ls' ys =>
    simp only [Tm.size] at hf
    refine pure_by is_ref00_SameTerm (by simp) rfl fun hb nx => ?_
    have hb0 : (xs.length ≤ 9223372036854775807 ∧ ys.length ≤ 9223372036854775807) ∧ ls.length ≤ 9223372036854775807 ∧ ls'.length ≤ 9223372036854775807 := by simp [Tm.pv, bndL, PV.bnd] at hb; omega
    repeat' (first | ((with_reducible first | refine wA (by omega) ?_ | refine wB (by omega) ?_ | refine wC (by omega) ?_ | refine wD (by omega) ?_ | refine wE ?_ ?_ | refine wF ?_ ?_ | refine wG ?_ ?_ | refine wH ?_ ?_ | refine wI ?_ ?_ | refine wJ ?_ ?_ | refine wK ?_ ?_ | refine wL ?_ ?_) <;> intro _) | simp (maxSteps := 1000000) (disch := omega) only [go_sem, Nat.reduceAdd, Nat.reduceMul, Nat.reduceSub, Nat.reduceLeDiff, Nat.reduceEqDiff, Nat.reduceBEq, ↓reduceIte, reduceCtorEq, Int.reduceEq, Int.reduceLE, Int.reduceLT, Int.reduceAdd, Int.reduceSub, Int.reduceNeg, Int.reduceToNat, Int.reduceNe, Nat.reducePow, Nat.reduceShiftRight, Nat.reduceMod, mc_ref00_SameTerm, Tm.pv, strBin, fold_sameB, *])
    all_goals (try (refine fin_tmp (.inr rfl) ?_; (first | rfl | (simp (disch := omega) only [go_sem, Nat.reduceMul, Nat.reduceSub, Nat.reduceShiftRight, Nat.reduceMod, Nat.reduceEqDiff, Nat.reduceAdd, ↓reduceIte, Nat.reduceLeDiff, Tm.same, *]; done) | (simp [Tm.same, upd, *]; done) | (simp [Tm.same, upd, *]; omega))))
    refine c_loopW 9223354444668731440 (by kernel_rfl) (fun j f H m => ∃ i : Nat, j = ls.length - i ∧ i ≤ ls.length ∧ f 5 = .sc (.int .i64 i) ∧ sameL (ls.take i) (ls'.take i) = true) _ ⟨0, rfl, cE1, cE1, rfl⟩ ?_
    rintro _ f H m ⟨i, rfl, hi, e5, hs⟩
    by_cases hlt : i < ls.length
    · have hlt2 : i < ls'.length := by omega
      have eg : ls[i]? = some ls[i] := List.getElem?_eq_getElem hlt
      have eg2 : ls'[i]? = some ls'[i] := List.getElem?_eq_getElem hlt2
      have hn := nodesL_mem ls i hlt
      have ht := sameL_take ls ls' i hlt hlt2
      have hq := sameL_false ls ls' i hlt hlt2
      clear ih
      repeat' (first | ((with_reducible first | refine wA (by omega) ?_ | refine wB (by omega) ?_ | refine wC (by omega) ?_ | refine wD (by omega) ?_ | refine wE ?_ ?_ | refine wF ?_ ?_ | refine wG ?_ ?_ | refine wH ?_ ?_ | refine wI ?_ ?_ | refine wJ ?_ ?_ | refine wK ?_ ?_ | refine wL ?_ ?_) <;> intro _) | (((with_reducible refine call_id ?_); (first | (refine call_pure (SameLevel_p _ ls[i] ls'[i] (Nat.le_refl _)) ?_)))) | simp (maxSteps := 1000000) (disch := omega) only [go_sem, Nat.reduceAdd, Nat.reduceMul, Nat.reduceSub, Nat.reduceLeDiff, Nat.reduceEqDiff, Nat.reduceBEq, ↓reduceIte, reduceCtorEq, Int.reduceEq, Int.reduceLE, Int.reduceLT, Int.reduceAdd, Int.reduceSub, Int.reduceNeg, Int.reduceToNat, Int.reduceNe, Nat.reducePow, Nat.reduceShiftRight, Nat.reduceMod, Lv.pv, *])
      · rename_i h0
        rw [h0] at hq
        (refine fin_tmp (.inr rfl) ?_; (first | rfl | (simp (disch := omega) only [go_sem, Nat.reduceMul, Nat.reduceSub, Nat.reduceShiftRight, Nat.reduceMod, Nat.reduceEqDiff, Nat.reduceAdd, ↓reduceIte, Nat.reduceLeDiff, Tm.same, *]; done) | (simp [Tm.same, upd, *]; done) | (simp [Tm.same, upd, *]; omega)))
      · rename_i h0
        refine Nx.mk (ls.length - (i + 1)) cE1 ⟨i + 1, cE1, cE1, cE1, by rw [ht, hs, h0]; rfl⟩
    · obtain rfl : i = ls.length := by omega
      have e : ls'.take ls.length = ls' := List.take_of_length_le (by omega)
      rw [List.take_length, e] at hs
      repeat' (first | ((with_reducible first | refine wA (by omega) ?_ | refine wB (by omega) ?_ | refine wC (by omega) ?_ | refine wD (by omega) ?_ | refine wE ?_ ?_ | refine wF ?_ ?_ | refine wG ?_ ?_ | refine wH ?_ ?_ | refine wI ?_ ?_ | refine wJ ?_ ?_ | refine wK ?_ ?_ | refine wL ?_ ?_) <;> intro _) | simp (maxSteps := 1000000) (disch := omega) only [go_sem, Nat.reduceAdd, Nat.reduceMul, Nat.reduceSub, Nat.reduceLeDiff, Nat.reduceEqDiff, Nat.reduceBEq, ↓reduceIte, reduceCtorEq, Int.reduceEq, Int.reduceLE, Int.reduceLT, Int.reduceAdd, Int.reduceSub, Int.reduceNeg, Int.reduceToNat, Int.reduceNe, Nat.reducePow, Nat.reduceShiftRight, Nat.reduceMod, *])
      refine c_loopW 4835694055086479844048976 (by kernel_rfl) (fun j f H m => ∃ i : Nat, j = xs.length - i ∧ i ≤ xs.length ∧ f 6 = .sc (.int .i64 i) ∧ sameT (xs.take i) (ys.take i) = true) _ ⟨0, rfl, cE1, cE1, rfl⟩ ?_
      rintro _ f2 H2 m2 ⟨i, rfl, hi2, e6, hs2⟩
      by_cases hlt2 : i < xs.length
      · have hlt3 : i < ys.length := by omega
        have eg : xs[i]? = some xs[i] := List.getElem?_eq_getElem hlt2
        have eg2 : ys[i]? = some ys[i] := List.getElem?_eq_getElem hlt3
        have hn := sizeL_mem xs i hlt2
        have ht := sameT_take xs ys i hlt2 hlt3
        have hq := sameT_false xs ys i hlt2 hlt3
        repeat' (first | ((with_reducible first | refine wA (by omega) ?_ | refine wB (by omega) ?_ | refine wC (by omega) ?_ | refine wD (by omega) ?_ | refine wE ?_ ?_ | refine wF ?_ ?_ | refine wG ?_ ?_ | refine wH ?_ ?_ | refine wI ?_ ?_ | refine wJ ?_ ?_ | refine wK ?_ ?_ | refine wL ?_ ?_) <;> intro _) | (((with_reducible refine call_id ?_); (first | (refine call_pure (ih xs[i] ys[i] (by omega)) ?_)))) | simp (maxSteps := 1000000) (disch := omega) only [go_sem, Nat.reduceAdd, Nat.reduceMul, Nat.reduceSub, Nat.reduceLeDiff, Nat.reduceEqDiff, Nat.reduceBEq, ↓reduceIte, reduceCtorEq, Int.reduceEq, Int.reduceLE, Int.reduceLT, Int.reduceAdd, Int.reduceSub, Int.reduceNeg, Int.reduceToNat, Int.reduceNe, Nat.reducePow, Nat.reduceShiftRight, Nat.reduceMod, Tm.pv, *])
        · rename_i h0
          rw [h0] at hq
          (refine fin_tmp (.inr rfl) ?_; (first | rfl | (simp (disch := omega) only [go_sem, Nat.reduceMul, Nat.reduceSub, Nat.reduceShiftRight, Nat.reduceMod, Nat.reduceEqDiff, Nat.reduceAdd, ↓reduceIte, Nat.reduceLeDiff, Tm.same, *]; done) | (simp [Tm.same, upd, *]; done) | (simp [Tm.same, upd, *]; omega)))
        · rename_i h0
          refine Nx.mk (xs.length - (i + 1)) cE1 ⟨i + 1, cE1, cE1, cE1, by rw [ht, hs2, h0]; rfl⟩
      · obtain rfl : i = xs.length := by omega
        have e : ys.take xs.length = ys := List.take_of_length_le (by omega)
        rw [List.take_length, e] at hs2
        repeat' (first | ((with_reducible first | refine wA (by omega) ?_ | refine wB (by omega) ?_ | refine wC (by omega) ?_ | refine wD (by omega) ?_ | refine wE ?_ ?_ | refine wF ?_ ?_ | refine wG ?_ ?_ | refine wH ?_ ?_ | refine wI ?_ ?_ | refine wJ ?_ ?_ | refine wK ?_ ?_ | refine wL ?_ ?_) <;> intro _) | simp (maxSteps := 1000000) (disch := omega) only [go_sem, Nat.reduceAdd, Nat.reduceMul, Nat.reduceSub, Nat.reduceLeDiff, Nat.reduceEqDiff, Nat.reduceBEq, ↓reduceIte, reduceCtorEq, Int.reduceEq, Int.reduceLE, Int.reduceLT, Int.reduceAdd, Int.reduceSub, Int.reduceNeg, Int.reduceToNat, Int.reduceNe, Nat.reducePow, Nat.reduceShiftRight, Nat.reduceMod, *])
        (refine fin_tmp (.inr rfl) ?_; (first | rfl | (simp (disch := omega) only [go_sem, Nat.reduceMul, Nat.reduceSub, Nat.reduceShiftRight, Nat.reduceMod, Nat.reduceEqDiff, Nat.reduceAdd, ↓reduceIte, Nat.reduceLeDiff, Tm.same, *]; done) | (simp [Tm.same, upd, *]; done) | (simp [Tm.same, upd, *]; omega)))
end
section
set_option maxRecDepth 20000
attribute [local go_sem] pv_len pv_take id_ne id_ne' id_ne2 List.append_assoc Nat.add_assoc pv_one
def slB (f : Bool) (sz : Nat) (es : List (List PV)) : PV := if f = true then .fsl sz es else .sl sz es
def Lv.pvB (f : Bool) : Lv → List PV
  | .mk k n args => [.sc (.int .i64 k), .sc (.int .i64 n), slB f 3 (args.map (Lv.pvB f))]
theorem pvB_len (f : Bool) (l : Lv) : (l.pvB f).length = 3 := by cases l; simp [Lv.pvB]
attribute [local go_sem] pvB_len
theorem pvB_take (f : Bool) (l : Lv) : (l.pvB f).take 3 = l.pvB f := List.take_of_length_le (by rw [pvB_len]; omega)
attribute [local go_sem] pvB_take
theorem slB_one (f : Bool) (sz : Nat) (es : List (List PV)) : (slB f sz es).one = true := by cases f <;> rfl
theorem pvB_one (f : Bool) (l : Lv) : (l.pvB f).all PV.one = true := by
  cases l
  simp only [Lv.pvB, List.all_cons, slB_one, List.all_nil, Bool.and_true]
  rfl
attribute [local go_sem] pvB_one
theorem slB_weak (f : Bool) (sz : Nat) (es : List (List PV)) : Weak (slB f sz es) (.sl sz es) := by
  cases f
  · exact .refl _
  · exact Weak.fsl sz es
theorem WeakL.append : ∀ {a b c d : List PV}, WeakL a b → WeakL c d → WeakL (a ++ c) (b ++ d)
  | [], [], _, _, _, h => h
  | _ :: _, _ :: _, _, _, h, h2 => ⟨h.1, WeakL.append h.2 h2⟩
  | [], _ :: _, _, _, h, _ => h.elim
  | _ :: _, [], _, _, h, _ => h.elim
theorem WeakL.rows {α : Type} {f g : α → List PV} : ∀ (xs : List α), (∀ x ∈ xs, WeakL (f x) (g x)) → WeakL (xs.map f).flatten (xs.map g).flatten
  | [], _ => trivial
  | x :: r, h => by
    simp only [List.map_cons, List.flatten_cons]
    exact (h x (by simp)).append (WeakL.rows r fun y hy => h y (by simp [hy]))
theorem slB_rows {α : Type} {f g : α → List PV} (b : Bool) {sz : Nat} (hg : ∀ x, (g x).length = sz) (xs : List α) (h : ∀ x ∈ xs, WeakL (f x) (g x)) : Weak (slB b sz (xs.map f)) (.sl sz (xs.map g)) := by
  refine (slB_weak b sz _).trans (Weak.sl (by simp) (fun e he => ?_) (WeakL.rows xs h))
  obtain ⟨x, _, rfl⟩ := List.mem_map.1 he
  exact hg x
theorem lv_weak (f : Bool) : ∀ (fuel : Nat) (l : Lv), l.nodes ≤ fuel → WeakL (l.pvB f) l.pv := by
  intro fuel
  induction fuel with
  | zero => intro l h; have := nodes_pos l; omega
  | succ fuel ih =>
    intro l h
    cases l with
    | mk k n args =>
    simp only [Lv.nodes] at h
    simp only [Lv.pvB, Lv.pv]
    refine ⟨.refl _, .refl _, slB_rows f pv_len args fun x hx => ih x ?_, trivial⟩
    obtain ⟨i, hi, rfl⟩ := List.getElem_of_mem hx
    have := nodesL_mem args i hi
    omega
theorem lv_weak' (f : Bool) (l : Lv) : WeakL (l.pvB f) l.pv := lv_weak f l.nodes l (Nat.le_refl _)
theorem lvs_weak (f : Bool) (ls : List Lv) : Weak (slB f 3 (ls.map (Lv.pvB f))) (.sl 3 (ls.map Lv.pv)) := slB_rows f pv_len ls fun x _ => lv_weak' f x
theorem imm_rows {α : Type} {f : α → List PV} : ∀ (xs : List α), (∀ x ∈ xs, immL (f x) = true) → immL (xs.map f).flatten = true
  | [], _ => rfl
  | x :: r, h => by simp only [List.map_cons, List.flatten_cons, immL_append, h x (by simp), imm_rows r fun y hy => h y (by simp [hy])]; rfl
theorem flat_lenG {α : Type} (f : α → List PV) (sz : Nat) (hf : ∀ x, (f x).length = sz) : ∀ xs : List α, (xs.flatMap f).length = xs.length * sz
  | [] => by simp
  | x :: r => by simp only [List.flatMap_cons, List.length_append, hf, flat_lenG f sz hf r, List.length_cons, Nat.succ_mul]; omega
theorem chunks_flat {α : Type} (f : α → List PV) (sz : Nat) (hf : ∀ x, (f x).length = sz) : ∀ xs : List α, chunks sz xs.length (xs.flatMap f) = xs.map f
  | [] => rfl
  | x :: r => by
    simp only [List.length_cons, chunks, List.flatMap_cons, List.map_cons]
    rw [List.take_left' (hf x), List.drop_left' (hf x), chunks_flat f sz hf r]
theorem frzF_sc (k : Nat) (H : Nat → Option PObj) (v : Value) : frzF k H (.sc v) = .sc v := by cases k <;> rfl
theorem Weak.nilF (sz : Nat) : Weak (.sc (.slice none 0 0)) (.fsl sz []) := fun V v h => by
  refine .fsl sz [] v (fun b off len cap _ he => absurd rfl he) (Weak.nil sz V v h)
theorem Weak.nilB (f : Bool) (sz : Nat) : Weak (.sc (.slice none 0 0)) (slB f sz []) := by
  cases f
  · exact Weak.nil sz
  · exact Weak.nilF sz
end
section
set_option maxRecDepth 20000
theorem tm_one (t : Tm) : t.pv.all PV.one = true := by cases t; simp [Tm.pv, PV.one]
def Tm.pvB (f : Bool) : Tm → List PV
  | .mk k n s ls args => [.sc (.int .i64 k), .sc (.int .i64 n), .sc (.string s), slB f 3 (ls.map (Lv.pvB f)), slB f 5 (args.map (Tm.pvB f))]
theorem tpvB_len (f : Bool) (t : Tm) : (t.pvB f).length = 5 := by cases t; simp [Tm.pvB]
theorem tpvB_take (f : Bool) (t : Tm) : (t.pvB f).take 5 = t.pvB f := List.take_of_length_le (by rw [tpvB_len]; omega)
theorem tpvB_one (f : Bool) (t : Tm) : (t.pvB f).all PV.one = true := by
  cases t
  simp only [Tm.pvB, List.all_cons, slB_one, List.all_nil, Bool.and_true]
  rfl
theorem tm_weak' (f : Bool) : ∀ (fuel : Nat) (t : Tm), t.size ≤ fuel → WeakL (t.pvB f) t.pv := by
  intro fuel
  induction fuel with
  | zero => intro l h; have := size_pos l; omega
  | succ fuel ih =>
    intro t h
    cases t with
    | mk k n s ls args =>
    simp only [Tm.size] at h
    simp only [Tm.pvB, Tm.pv]
    refine ⟨.refl _, .refl _, .refl _, lvs_weak f ls, slB_rows f tm_len args fun x hx => ih x ?_, trivial⟩
    obtain ⟨i, hi, rfl⟩ := List.getElem_of_mem hx
    have := sizeL_mem args i hi
    omega
theorem tm_weak (f : Bool) (t : Tm) : WeakL (t.pvB f) t.pv := tm_weak' f t.size t (Nat.le_refl _)
end
section
set_option maxRecDepth 20000
attribute [local go_sem] pv_len pv_take Nat.add_assoc tm_len tm_take pv_one tm_one tpvB_len tpvB_take tpvB_one pvB_len pvB_take pvB_one id_ne id_ne' id_ne2 List.append_assoc
theorem frz_rowG {α : Type} (f : α → List PV) (sz : Nat) (hf : ∀ x, (f x).length = sz) {H : Nat → Option PObj} {id : Nat} {xs : List α} {w : Bool} (h : H id = some ⟨xs.flatMap f, w⟩) : frz 1 H (.osl id 0 xs.length sz) = .sl sz (xs.map f) := by
  have hl := flat_lenG f sz hf xs
  simp only [frz, h, List.drop_zero]
  rw [if_pos (by omega), List.take_of_length_le (by omega), List.map_id', chunks_flat f sz hf]
def RowAt (H : Nat → Option PObj) (lo m sz : Nat) (a : PV) (cells : List PV) (n : Nat) : Prop := (n = 0 ∧ a = .sc (.slice none 0 0)) ∨ ∃ id, lo < id ∧ id < m ∧ a = .osl id 0 n sz ∧ H id = some ⟨cells, false⟩
theorem Weak.row {α : Type} (f : α → List PV) (sz : Nat) (hf : ∀ x, (f x).length = sz) {H : Nat → Option PObj} {lo m : Nat} {a : PV} {xs : List α} (h : RowAt H lo m sz a (xs.flatMap f) xs.length) : Weak (frz 1 H a) (.sl sz (xs.map f)) := by
  rcases h with ⟨h1, rfl⟩ | ⟨id, _, _, rfl, h2⟩
  · obtain rfl : xs = [] := List.eq_nil_of_length_eq_zero h1
    rw [frz_sc1]
    exact .nil sz
  · rw [frz_rowG f sz hf h2]
    exact .refl _
theorem RowAt.mono {H H' : Nat → Option PObj} {lo m m' sz : Nat} {a : PV} {cells : List PV} {n : Nat} (h : RowAt H lo m sz a cells n) (hm : m ≤ m') (hH : ∀ id, lo < id → id < m → H' id = H id) : RowAt H' lo m' sz a cells n := by
  rcases h with h | ⟨id, h1, h2, h3, h4⟩
  · exact .inl h
  · exact .inr ⟨id, h1, by omega, h3, by rw [hH id h1 h2, h4]⟩
mutual
theorem tm_imm : ∀ t : Tm, immL t.pv = true
  | .mk k n s ls args => by
    have h := tms_imm args
    have h2 : immL (ls.map Lv.pv).flatten = true := by
      induction ls with
      | nil => rfl
      | cons l r ih => simp only [List.map_cons, List.flatten_cons, immL_append, pv_imm, ih]; rfl
    simp only [Tm.pv, immL, PV.imm, immLL_flatten, h, h2]
    rfl
theorem tms_imm : ∀ ts : List Tm, immL (ts.map Tm.pv).flatten = true
  | [] => rfl
  | t :: r => by simp only [List.map_cons, List.flatten_cons, immL_append, tm_imm t, tms_imm r]; rfl
end
end
section
set_option maxRecDepth 20000
mutual
def OwnT (H : Nat → Option PObj) : Nat → Nat → List PV → Tm → Prop
  | lo, m, cs, .mk k n s ls args => ∃ a b, cs = [.sc (.int .i64 k), .sc (.int .i64 n), .sc (.string s), a, b] ∧
      ((ls = [] ∧ a = .sc (.slice none 0 0)) ∨ a = .fsl 3 (ls.map (Lv.pvB true))) ∧
      ((args = [] ∧ b = .sc (.slice none 0 0)) ∨ ∃ id cells w, lo ≤ id ∧ id < m ∧ b = .osl id 0 args.length 5 ∧ H id = some ⟨cells, w⟩ ∧ OwnTs H (id + 1) m cells args)
def OwnTs (H : Nat → Option PObj) : Nat → Nat → List PV → List Tm → Prop
  | _, _, cs, [] => cs = []
  | lo, m, cs, t :: r => ∃ c cr mid, cs = c ++ cr ∧ lo ≤ mid ∧ mid ≤ m ∧ OwnT H lo mid c t ∧ OwnTs H mid m cr r
end
mutual
theorem OwnT.mono {H H' : Nat → Option PObj} : ∀ (t : Tm) (lo lo' m m' : Nat) (cs : List PV), OwnT H lo m cs t → lo' ≤ lo → m ≤ m' → (∀ j, lo ≤ j → j < m → H' j = H j) → OwnT H' lo' m' cs t
  | .mk k n s ls args, lo, lo', m, m', cs, h, hlo, hm, hH => by
    simp only [OwnT] at h ⊢
    obtain ⟨a, b, e, ha, hb⟩ := h
    refine ⟨a, b, e, ha, ?_⟩
    rcases hb with hb | ⟨id, cells, w, h1, h2, h3, h4, h5⟩
    · exact .inl hb
    · exact .inr ⟨id, cells, w, by omega, by omega, h3, by rw [hH id h1 h2, h4], OwnTs.mono args (id + 1) (id + 1) m m' cells h5 (Nat.le_refl _) hm fun j h6 h7 => hH j (by omega) h7⟩
theorem OwnTs.mono {H H' : Nat → Option PObj} : ∀ (ts : List Tm) (lo lo' m m' : Nat) (cs : List PV), OwnTs H lo m cs ts → lo' ≤ lo → m ≤ m' → (∀ j, lo ≤ j → j < m → H' j = H j) → OwnTs H' lo' m' cs ts
  | [], _, _, _, _, cs, h, _, _, _ => by simpa only [OwnTs] using h
  | t :: r, lo, lo', m, m', cs, h, hlo, hm, hH => by
    simp only [OwnTs] at h ⊢
    obtain ⟨c, cr, mid, e, g1, g2, h1, h2⟩ := h
    exact ⟨c, cr, mid, e, by omega, by omega, OwnT.mono t lo lo' mid mid c h1 hlo (Nat.le_refl _) fun j a b => hH j a (by omega), OwnTs.mono r mid mid m m' cr h2 (Nat.le_refl _) hm fun j a b => hH j (by omega) b⟩
end
theorem OwnT.len {H : Nat → Option PObj} {lo m : Nat} {cs : List PV} {t : Tm} (h : OwnT H lo m cs t) : cs.length = 5 := by
  cases t
  simp only [OwnT] at h
  obtain ⟨a, b, rfl, _⟩ := h
  rfl
theorem OwnTs.len {H : Nat → Option PObj} {lo m : Nat} : ∀ (ts : List Tm) (cs : List PV), OwnTs H lo m cs ts → cs.length = ts.length * 5
  | [], cs, h => by simp only [OwnTs] at h; subst h; rfl
  | t :: r, cs, h => by
    simp only [OwnTs] at h
    obtain ⟨c, cr, mid, rfl, _, _, h1, h2⟩ := h
    rw [List.length_append, h1.len, OwnTs.len r cr h2, List.length_cons]
    omega
def OwnW (H : Nat → Option PObj) (lo m : Nat) : List PV → List Tm → Prop
  | cs, [] => cs = []
  | cs, t :: r => ∃ c cr, cs = c ++ cr ∧ OwnT H lo m c t ∧ OwnW H lo m cr r
theorem OwnTs.weak {H : Nat → Option PObj} : ∀ (ts : List Tm) (lo m : Nat) (cs : List PV), OwnTs H lo m cs ts → ∀ lo' m', lo' ≤ lo → m ≤ m' → OwnW H lo' m' cs ts
  | [], _, _, cs, h, _, _, _, _ => by simpa only [OwnTs, OwnW] using h
  | t :: r, lo, m, cs, h, lo', m', h1, h2 => by
    simp only [OwnTs] at h
    obtain ⟨c, cr, mid, e, g1, g2, h3, h4⟩ := h
    exact ⟨c, cr, e, h3.mono _ _ _ _ _ _ h1 (by omega) fun _ _ _ => rfl, OwnTs.weak r mid m cr h4 lo' m' (by omega) h2⟩
theorem OwnW.mono {H H' : Nat → Option PObj} {lo lo' m m' : Nat} (hlo : lo' ≤ lo) (hm : m ≤ m') (hH : ∀ j, lo ≤ j → j < m → H' j = H j) : ∀ (ts : List Tm) (cs : List PV), OwnW H lo m cs ts → OwnW H' lo' m' cs ts
  | [], cs, h => h
  | t :: r, cs, ⟨c, cr, e, h1, h2⟩ => ⟨c, cr, e, h1.mono _ _ _ _ _ _ hlo hm hH, OwnW.mono hlo hm hH r cr h2⟩
theorem OwnW.len {H : Nat → Option PObj} {lo m : Nat} : ∀ (ts : List Tm) (cs : List PV), OwnW H lo m cs ts → cs.length = ts.length * 5
  | [], cs, h => by cases h; rfl
  | t :: r, cs, ⟨c, cr, e, h1, h2⟩ => by
    subst e
    rw [List.length_append, h1.len, OwnW.len r cr h2, List.length_cons]
    omega
theorem OwnTs.at {H : Nat → Option PObj} {m : Nat} : ∀ (ts : List Tm) (lo : Nat) (cs : List PV) (i : Nat) (hi : i < ts.length), OwnTs H lo m cs ts → lo ≤ m →
    ∃ p c q a b, cs = p ++ (c ++ q) ∧ p.length = i * 5 ∧ lo ≤ a ∧ a ≤ b ∧ b ≤ m ∧ OwnTs H lo a p (ts.take i) ∧ OwnT H a b c ts[i] ∧ OwnTs H b m q (ts.drop (i + 1))
  | t :: r, lo, cs, 0, hi, h, hlm => by
    simp only [OwnTs] at h
    obtain ⟨c, cr, mid, e, g1, g2, h1, h2⟩ := h
    exact ⟨[], c, cr, lo, mid, by simp [e], rfl, Nat.le_refl _, g1, g2, rfl, h1, h2⟩
  | t :: r, lo, cs, i + 1, hi, h, hlm => by
    simp only [OwnTs] at h
    obtain ⟨c, cr, mid, e, g1, g2, h1, h2⟩ := h
    obtain ⟨p, c', q, a, b, e2, hl, ha, hab, hb, k1, k2, k3⟩ := OwnTs.at r mid cr i (by simpa using hi) h2 g2
    refine ⟨c ++ p, c', q, a, b, by rw [e, e2, List.append_assoc], by rw [List.length_append, h1.len, hl]; omega, by omega, hab, hb, ?_, by simpa using k2, by simpa using k3⟩
    simp only [List.take_succ_cons, OwnTs]
    exact ⟨c, p, mid, rfl, g1, ha, h1, k1⟩
theorem OwnTs.append {H : Nat → Option PObj} {m b : Nat} : ∀ (ts us : List Tm) (lo : Nat) (cs ds : List PV), OwnTs H lo b cs ts → OwnTs H b m ds us → lo ≤ b → b ≤ m → OwnTs H lo m (cs ++ ds) (ts ++ us)
  | [], us, lo, cs, ds, h, k, h1, h2 => by
    simp only [OwnTs] at h
    subst h
    exact k.mono _ _ _ _ _ _ h1 (Nat.le_refl _) fun _ _ _ => rfl
  | t :: r, us, lo, cs, ds, h, k, h1, h2 => by
    simp only [OwnTs] at h
    obtain ⟨c, cr, mid, e, g1, g2, h3, h4⟩ := h
    simp only [List.cons_append, OwnTs]
    exact ⟨c, cr ++ ds, mid, by rw [e, List.append_assoc], g1, by omega, h3, OwnTs.append r us mid cr ds h4 k g2 h2⟩
theorem chunks_flatten (sz : Nat) : ∀ (n : Nat) (xs : List PV), xs.length = n * sz → (chunks sz n xs).flatten = xs
  | 0, xs, h => by
    obtain rfl : xs = [] := List.eq_nil_of_length_eq_zero (by simpa using h)
    rfl
  | n + 1, xs, h => by
    simp only [chunks, List.flatten_cons]
    rw [chunks_flatten sz n (xs.drop sz) (by rw [List.length_drop, h, Nat.succ_mul]; omega), List.take_append_drop]
theorem chunks_length (sz : Nat) : ∀ (n : Nat) (xs : List PV), (chunks sz n xs).length = n
  | 0, _ => rfl
  | n + 1, xs => by simp only [chunks, List.length_cons, chunks_length sz n]
theorem Weak.fslW {sz : Nat} {es es' : List (List PV)} (hl : es.length = es'.length) (hs : ∀ e ∈ es', e.length = sz) (h : WeakL es.flatten es'.flatten) : Weak (.fsl sz es) (.fsl sz es') := fun V v hv => by
  cases hv with
  | fsl _ _ _ hcl hv =>
    refine .fsl sz es' v (fun b off len cap e he => hcl b off len cap e fun h0 => he ?_) (Weak.sl hl hs h V v hv)
    rw [h0] at hl
    exact List.eq_nil_of_length_eq_zero hl.symm
mutual
theorem OwnT.frz {H : Nat → Option PObj} : ∀ (t : Tm) (lo m : Nat) (cs : List PV), OwnT H lo m cs t → ∀ k, t.size ≤ k → WeakL (cs.map (frzF k H)) (t.pvB true)
  | .mk kind n s ls args, lo, m, cs, h, k, hk => by
    simp only [OwnT] at h
    obtain ⟨a, b, rfl, ha, hb⟩ := h
    simp only [Tm.size] at hk
    obtain ⟨k, rfl⟩ : ∃ k', k = k' + 1 := ⟨k - 1, by omega⟩
    rw [Tm.pvB]
    simp only [List.map_cons, List.map_nil]
    refine ⟨.of_eq (frzF_sc _ _ _), .of_eq (frzF_sc _ _ _), .of_eq (frzF_sc _ _ _), ?_, ?_, trivial⟩
    · rcases ha with ⟨rfl, rfl⟩ | rfl
      · exact .trans (.of_eq (frzF_sc _ _ _)) (Weak.nilF 3)
      · exact .refl _
    · rcases hb with ⟨rfl, rfl⟩ | ⟨id, cells, w, h1, h2, rfl, h4, h5⟩
      · exact .trans (.of_eq (frzF_sc _ _ _)) (Weak.nilF 5)
      · have hl := OwnTs.len args cells h5
        have hw := OwnTs.frz args (id + 1) m cells h5 k (by omega)
        simp only [Go.Proofs.Ytnelciclibknpaa.frzF, h4, List.drop_zero]
        rw [if_pos (by omega), List.take_of_length_le (by omega)]
        refine Weak.fslW (by rw [chunks_length, List.length_map]) (fun e he => ?_) ?_
        · obtain ⟨t, _, rfl⟩ := List.mem_map.1 he
          exact tpvB_len true t
        · rw [chunks_flatten 5 args.length _ (by rw [List.length_map, hl])]
          exact hw
theorem OwnTs.frz {H : Nat → Option PObj} : ∀ (ts : List Tm) (lo m : Nat) (cs : List PV), OwnTs H lo m cs ts → ∀ k, sizeL ts ≤ k → WeakL (cs.map (Go.Proofs.Ytnelciclibknpaa.frzF k H)) (ts.map (Tm.pvB true)).flatten
  | [], _, _, cs, h, _, _ => by
    simp only [OwnTs] at h
    subst h
    trivial
  | t :: r, lo, m, cs, h, k, hk => by
    simp only [OwnTs] at h
    obtain ⟨c, cr, mid, rfl, _, _, h1, h2⟩ := h
    simp only [sizeL] at hk
    simp only [List.map_append, List.map_cons, List.flatten_cons]
    exact (OwnT.frz t lo mid c h1 k (by omega)).append (OwnTs.frz r mid m cr h2 k (by omega))
end
theorem OwnW.frz {H : Nat → Option PObj} {lo m : Nat} : ∀ (ts : List Tm) (cs : List PV), OwnW H lo m cs ts → ∀ k, sizeL ts ≤ k → WeakL (cs.map (Go.Proofs.Ytnelciclibknpaa.frzF k H)) (ts.map (Tm.pvB true)).flatten
  | [], cs, h, _, _ => by cases h; trivial
  | t :: r, cs, ⟨c, cr, e, h1, h2⟩, k, hk => by
    subst e
    simp only [sizeL] at hk
    simp only [List.map_append, List.map_cons, List.flatten_cons]
    exact (OwnT.frz t _ _ c h1 k (by omega)).append (OwnW.frz r cr h2 k (by omega))
end
section
set_option maxRecDepth 20000
attribute [local go_sem] pv_len pv_take Nat.add_assoc tm_len tm_take pv_one tm_one tpvB_len tpvB_take tpvB_one pvB_len pvB_take pvB_one id_ne id_ne' id_ne2 List.append_assoc
theorem OwnT.one {H : Nat → Option PObj} {lo m : Nat} {cs : List PV} {t : Tm} (h : OwnT H lo m cs t) : cs.all PV.one = true := by
  cases t
  simp only [OwnT] at h
  obtain ⟨a, b, rfl, h1, h2⟩ := h
  rcases h1 with ⟨_, rfl⟩ | rfl <;> rcases h2 with ⟨_, rfl⟩ | ⟨_, _, _, _, _, rfl, _⟩ <;> rfl
end
section
set_option maxRecDepth 20000
attribute [local go_sem] pv_len pv_take Nat.add_assoc tm_len tm_take pv_one tm_one tpvB_len tpvB_take tpvB_one pvB_len pvB_take pvB_one id_ne id_ne' id_ne2 List.append_assoc
def ptrB (f : Bool) (cs : List PV) : PV := if f = true then .fptr cs else .ptr cs
theorem lenPV_slB {f : Bool} {sz : Nat} {es : List (List PV)} : lenPV false (slB f sz es) = some es.length := by cases f <;> rfl
attribute [local go_sem] lenPV_slB
theorem iaV_slB_f {f : Bool} {sz : Nat} {es : List (List PV)} {k : IntKind} {n : Int} : iaV (slB f sz es) (.sc (.int k n)) sz false = if 0 ≤ n then (es[n.toNat]?).map .ptr else none := by
  cases f <;> (simp only [slB, Bool.false_eq_true, if_false, if_true, iaV, and_true]; rfl)
attribute [local go_sem] iaV_slB_f
theorem iaV_slB_t {f : Bool} {sz : Nat} {es : List (List PV)} {k : IntKind} {n : Int} : iaV (slB f sz es) (.sc (.int k n)) sz true = if 0 ≤ n then (es[n.toNat]?).map (fun _ => ptrB f (es.drop n.toNat).flatten) else none := by
  cases f <;> (simp only [slB, Bool.false_eq_true, if_false, if_true, iaV, and_true]; rfl)
attribute [local go_sem] iaV_slB_t
theorem ptrOf_B {f : Bool} {cs : List PV} : ptrOf (ptrB f cs) = some (f, cs) := by cases f <;> rfl
theorem slB_bnd {f : Bool} {sz : Nat} {es : List (List PV)} : (slB f sz es).bnd ↔ es.length ≤ 9223372036854775807 ∧ bndLL es := by cases f <;> rfl
theorem sc_eq {V : Vw} {a b v : Value} (h : Rep V (.sc a) v) (k : Rep V (.sc b) v) : a = b := by
  cases h; cases k; rfl
theorem repl_cons {V : Vw} {x : PV} {xs : List PV} {vs : List Value} (h : RepL V (x :: xs) vs) : ∃ v r, vs = v :: r ∧ Rep V x v ∧ RepL V xs r := by
  match vs, h with
  | v :: r, h => exact ⟨v, r, rfl, h.2 0 x v rfl rfl, by simpa using h.1, fun i a b ha hb => h.2 (i + 1) a b (by simpa using ha) (by simpa using hb)⟩
  | [], h => exact absurd h.1 (by simp)
theorem ptr_both {V : Vw} {xs ys : List PV} {v : Value} (h : Rep V (.ptr xs) v) (k : Rep V (.ptr ys) v) (hl : xs.length = ys.length) : ∃ vs, RepL V xs vs ∧ RepL V ys vs := by
  obtain ⟨b, off, vs, rfl, _, h1, h2⟩ := h.ptr_inv
  obtain ⟨b', off', us, e, _, k1, k2⟩ := k.ptr_inv
  cases e
  have : vs = us := by
    apply List.ext_getElem (by rw [h1.1, k1.1, hl])
    intro i hi hj
    have a := h2 i vs[i] (List.getElem?_eq_getElem hi)
    have c := k2 i us[i] (List.getElem?_eq_getElem hj)
    rw [a] at c
    exact Option.some.inj c
  subst this
  exact ⟨vs, h1, k1⟩
theorem sl_both {α : Type} {V : Vw} {f : α → List PV} {sz : Nat} {xs ys : List α} {v : Value} (hf : ∀ x, (f x).length = sz) (h : Rep V (.sl sz (xs.map f)) v) (k : Rep V (.sl sz (ys.map f)) v) :
    xs.length = ys.length ∧ ∃ vs, RepL V (xs.map f).flatten vs ∧ RepL V (ys.map f).flatten vs := by
  have hl : ∀ {zs : List α} {A : Option Addr} {len cap : Nat}, Rep V (.sl sz (zs.map f)) (.slice A len cap) → zs.length = len := by
    intro zs A len cap h
    generalize he : zs.map f = es at h
    cases h with
    | slNil => simpa using he
    | sl _ _ b off len cap hlen => rw [← he] at hlen; simpa using hlen
  have hv : ∃ A len cap, v = .slice A len cap := by
    generalize xs.map f = es at h
    cases h with
    | slNil _ A cap => exact ⟨_, _, _, rfl⟩
    | sl _ _ b off len cap => exact ⟨_, _, _, rfl⟩
  obtain ⟨A, len, cap, rfl⟩ := hv
  have e := (hl h).trans (hl k).symm
  refine ⟨e, ?_⟩
  by_cases h0 : xs = []
  · subst h0
    obtain rfl : ys = [] := List.eq_nil_of_length_eq_zero (by simpa using e.symm)
    exact ⟨[], RepL.nil, RepL.nil⟩
  · have h1 : ∃ b off, A = some ⟨b, off, none⟩ ∧ Rep V (.ptr (xs.map f).flatten) (.pointer (some ⟨b, off, none⟩)) := by
      generalize he : xs.map f = es at h
      cases h with
      | slNil => exact absurd (by simpa using he) h0
      | sl _ _ b off len cap _ _ _ _ hp => exact ⟨b, off, rfl, hp⟩
    obtain ⟨b, off, rfl, hp⟩ := h1
    have h2 : Rep V (.ptr (ys.map f).flatten) (.pointer (some ⟨b, off, none⟩)) := by
      generalize he : ys.map f = es at k
      cases k with
      | slNil => exact absurd (List.eq_nil_of_length_eq_zero (by rw [e]; simpa using he)) h0
      | sl _ _ b off len cap _ _ _ _ hp => exact hp
    have hfl : ∀ zs : List α, (zs.map f).flatten.length = zs.length * sz := fun zs => by
      rw [← List.flatMap_def]
      exact flat_lenG f sz hf zs
    exact ptr_both hp h2 (by rw [hfl, hfl, e])
theorem rows_both {α : Type} {V : Vw} {f : α → List PV} {sz : Nat} (hf : ∀ x, (f x).length = sz) : ∀ (xs ys : List α), xs.length = ys.length → (∀ x ∈ xs, ∀ y vs, RepL V (f x) vs → RepL V (f y) vs → x = y) → ∀ vs, RepL V (xs.map f).flatten vs → RepL V (ys.map f).flatten vs → xs = ys
  | [], [], _, _, _, _, _ => rfl
  | x :: r, y :: s, hl, hx, vs, h, k => by
    simp only [List.map_cons, List.flatten_cons] at h k
    have h1 := h.take sz
    have k1 := k.take sz
    have h2 := h.drop sz
    have k2 := k.drop sz
    rw [List.take_left' (hf x)] at h1
    rw [List.take_left' (hf y)] at k1
    rw [List.drop_left' (hf x)] at h2
    rw [List.drop_left' (hf y)] at k2
    rw [hx x (by simp) y _ h1 k1, rows_both hf r s (by simpa using hl) (fun z hz => hx z (by simp [hz])) _ h2 k2]
  | [], _ :: _, hl, _, _, _, _ => by simp at hl
  | _ :: _, [], hl, _, _, _, _ => by simp at hl
theorem lv_both {V : Vw} : ∀ (fuel : Nat) (x : Lv), x.nodes ≤ fuel → ∀ (y : Lv) vs, RepL V x.pv vs → RepL V y.pv vs → x = y := by
  intro fuel
  induction fuel with
  | zero => intro x h; have := nodes_pos x; omega
  | succ fuel ih =>
    intro x hx y vs h k
    cases x with
    | mk a n args =>
    cases y with
    | mk b m args' =>
    simp only [Lv.nodes] at hx
    simp only [Lv.pv] at h k
    obtain ⟨v0, r0, rfl, h0, h⟩ := repl_cons h
    obtain ⟨v1, r1, rfl, h1, h⟩ := repl_cons h
    obtain ⟨v2, r2, rfl, h2, h⟩ := repl_cons h
    obtain ⟨_, _, e, k0, k⟩ := repl_cons k
    cases e
    obtain ⟨_, _, e, k1, k⟩ := repl_cons k
    cases e
    obtain ⟨_, _, e, k2, k⟩ := repl_cons k
    cases e
    cases sc_eq h0 k0
    cases sc_eq h1 k1
    obtain ⟨hl, vs, p, q⟩ := sl_both pv_len h2 k2
    rw [rows_both pv_len args args' hl (fun z hz => ih z (by
      obtain ⟨i, hi, rfl⟩ := List.getElem_of_mem hz
      have := nodesL_mem args i hi
      omega)) vs p q]
theorem tm_both {V : Vw} : ∀ (fuel : Nat) (x : Tm), x.size ≤ fuel → ∀ (y : Tm) vs, RepL V x.pv vs → RepL V y.pv vs → x = y := by
  intro fuel
  induction fuel with
  | zero => intro x h; have := size_pos x; omega
  | succ fuel ih =>
    intro x hx y vs h k
    cases x with
    | mk a n s ls args =>
    cases y with
    | mk b m s' ls' args' =>
    simp only [Tm.size] at hx
    simp only [Tm.pv] at h k
    obtain ⟨v0, r0, rfl, h0, h⟩ := repl_cons h
    obtain ⟨v1, r1, rfl, h1, h⟩ := repl_cons h
    obtain ⟨v2, r2, rfl, h2, h⟩ := repl_cons h
    obtain ⟨v3, r3, rfl, h3, h⟩ := repl_cons h
    obtain ⟨v4, r4, rfl, h4, h⟩ := repl_cons h
    obtain ⟨_, _, e, k0, k⟩ := repl_cons k
    cases e
    obtain ⟨_, _, e, k1, k⟩ := repl_cons k
    cases e
    obtain ⟨_, _, e, k2, k⟩ := repl_cons k
    cases e
    obtain ⟨_, _, e, k3, k⟩ := repl_cons k
    cases e
    obtain ⟨_, _, e, k4, k⟩ := repl_cons k
    cases e
    cases sc_eq h0 k0
    cases sc_eq h1 k1
    cases sc_eq h2 k2
    obtain ⟨hl, vs, p, q⟩ := sl_both pv_len h3 k3
    rw [rows_both pv_len ls ls' hl (fun z hz => lv_both z.nodes z (Nat.le_refl _)) vs p q]
    obtain ⟨hl, vs, p, q⟩ := sl_both tm_len h4 k4
    rw [rows_both tm_len args args' hl (fun z hz => ih z (by
      obtain ⟨i, hi, rfl⟩ := List.getElem_of_mem hz
      have := sizeL_mem args i hi
      omega)) vs p q]
theorem meet_lvs {f g : Bool} {xs ys : List Lv} (hl : xs.length = ys.length) (h : Meet (xs.map (Lv.pvB f)).flatten (ys.map (Lv.pvB g)).flatten) : xs = ys := by
  obtain ⟨V, v, p, q⟩ := h
  have p' := Weak.ptr (WeakL.rows xs fun x _ => lv_weak' f x) V v p
  have q' := Weak.ptr (WeakL.rows ys fun x _ => lv_weak' g x) V v q
  have hfl : ∀ zs : List Lv, (zs.map Lv.pv).flatten.length = zs.length * 3 := fun zs => by
    rw [← List.flatMap_def]
    exact flat_lenG _ 3 pv_len zs
  obtain ⟨vs, h1, h2⟩ := ptr_both p' q' (by rw [hfl, hfl, hl])
  exact rows_both pv_len xs ys hl (fun z hz => lv_both z.nodes z (Nat.le_refl _)) vs h1 h2
theorem meet_tms {f g : Bool} {xs ys : List Tm} (hl : xs.length = ys.length) (h : Meet (xs.map (Tm.pvB f)).flatten (ys.map (Tm.pvB g)).flatten) : xs = ys := by
  obtain ⟨V, v, p, q⟩ := h
  have p' := Weak.ptr (WeakL.rows xs fun x _ => tm_weak f x) V v p
  have q' := Weak.ptr (WeakL.rows ys fun x _ => tm_weak g x) V v q
  have hfl : ∀ zs : List Tm, (zs.map Tm.pv).flatten.length = zs.length * 5 := fun zs => by
    rw [← List.flatMap_def]
    exact flat_lenG _ 5 tm_len zs
  obtain ⟨vs, h1, h2⟩ := ptr_both p' q' (by rw [hfl, hfl, hl])
  exact rows_both tm_len xs ys hl (fun z hz => tm_both z.size z (Nat.le_refl _)) vs h1 h2
theorem sameL_refl (xs : List Lv) : sameL xs xs = true := (sameL_iff xs xs rfl).2 rfl
theorem flat_ne {α : Type} {f : α → List PV} {sz : Nat} (hf : ∀ x, (f x).length = sz + 1) {xs : List α} (h : 0 < xs.length) : (xs.map f).flatten ≠ [] := by
  match xs, h with
  | x :: r, _ =>
    intro e
    have := hf x
    simp only [List.map_cons, List.flatten_cons, List.append_eq_nil_iff] at e
    rw [e.1] at this
    simp at this
set_option maxHeartbeats 8000000 in
theorem sameLevels_p (f g : Bool) (hfg : (f || g) = true) : ∀ (fuel : Nat) (xs ys : List Lv), nodesL xs < fuel → PPure Try.prog F.term_sameLevels [slB f 3 (xs.map (Lv.pvB f)), slB g 3 (ys.map (Lv.pvB g))] (.sc (.bool (decide (xs.length = ys.length) && sameL xs ys))) := by
  intro fuel
  induction fuel with
  | zero => intro xs ys h; omega
  | succ fuel ih =>
    intro xs ys hf
    refine pure_by is_term_sameLevels (by simp) rfl fun hb nx => ?_
    have hb0 : xs.length ≤ 9223372036854775807 ∧ ys.length ≤ 9223372036854775807 := by simp [bndL, slB_bnd] at hb; exact ⟨hb.1.1, hb.2.1⟩
    by_cases hl : xs.length = ys.length
    · by_cases h0 : xs.length = 0
      · obtain rfl : xs = [] := List.eq_nil_of_length_eq_zero h0
        obtain rfl : ys = [] := List.eq_nil_of_length_eq_zero hl.symm
        clear ih
        repeat' (first | ((with_reducible first | refine wA (by omega) ?_ | refine wB (by omega) ?_ | refine wC (by omega) ?_ | refine wD (by omega) ?_ | refine wE ?_ ?_ | refine wF ?_ ?_ | refine wG ?_ ?_ | refine wH ?_ ?_ | refine wI ?_ ?_ | refine wJ ?_ ?_ | refine wK ?_ ?_ | refine wL ?_ ?_) <;> intro _) | simp (maxSteps := 1000000) (disch := omega) only [↓c_seq, ↓c_region, ↓c_cond, ↓c_block, ↓c_ret, ↓c_skip, ↓c_exit, ↓c_cont, ↓t_normal, ↓t_ret, ↓t_exit, ↓b_normal, ↓b_ret, ↓b_exit, ↓run_nil, ↓run_cons, num_nil, num_cons, ↓g_some, ↓o_mv, ↓o_pick, ↓o_bin, ↓o_un, ↓o_ld, ↓o_ldf, isP, ↓o_bld, ↓o_len, ↓o_mkf, ↓o_nilc, ↓o_fa, ↓o_fd, ↓o_ia, ↓o_iaa, ↓o_ix, ↓o_ixs, ↓o_ext, ↓o_al, ↓o_bxf, ↓o_bxt, ↓o_bsl, ↓o_bslf, chunks, ↓o_mks, ↓o_st, ↓o_stf, ↓o_call, ↓o_rng, ↓o_nxt, rngV, next_is, next_iter, ↓o_callm, ↓o_callmA, ↓o_calvm, ↓o_calv, val_some, new_some, st_some, stf_some, guard_tt, guard_ff, guard_tf, guard_ft, guard_un, ↓cond_true, ↓cond_false, calv_fn, put_some, put_none, ev_tmp, ev_const, ev_func, ↓upd_get, sig_eq, sigF_nil, ↓sigF_cons, q0, q1, nilcV, faV, fdV, iaaV, ixV, ixsV, extV, mksV, loadP, storeP, binPV, unPV, intBin, partsP, fillP, zeros, PV.good, PV.cellsOf, PV.one, q2, q3, q4, q5, q6, q7, q8, q9, q10, q11, q12, q13, q14, Nat.reduceAdd, Nat.reduceMul, Nat.reduceSub, Nat.reduceLeDiff, Nat.reduceEqDiff, Nat.reduceBEq, q15, q16, q17, q18, ↓reduceIte, reduceCtorEq, q19, q20, q21, q22, q23, q24, q25, q26, q27, q28, q29, q30, q31, q32, q33, q34, q35, q36, q37, q38, wrap64, ↓o_eqa, ↓o_mm, ↓o_app, app_some, mmL, mmV, mm2, eqE, eqParts, eqInt, eqBool, eqStr, partV, q39, q40, pickV, q41, Int.reduceEq, Int.reduceLE, Int.reduceLT, Int.reduceAdd, Int.reduceSub, Int.reduceNeg, Int.reduceToNat, Int.reduceNe, q42, q43, q44, q45, q46, q47, q48, q49, appE, oldOf, rowOf, updL, q50, q51, q52, q53, Nat.reducePow, zlt, ovr_get, Nat.reduceShiftRight, Nat.reduceMod, ite_neN, ite_eqN, q54, q55, q56, q57, q58, q59, q60, q61, q62, q63, q64, q65, q66, q67, tailP_f, tailP_t, tailF_f, tailF_t, ↓o_slc, slcP, bndO, capO, slcLen, intOf, Option.isSome_none, Option.isNone_none, Option.isSome_some, Option.isNone_some, nilP, slc_sl, slc_csl, slc_osl, slc_osl0, slc_ocap, slc_str, appR, appS, ↓o_apps, ↓o_cvt, cvP, shiftB, false_or, pv_len, pv_take, Nat.add_assoc, tm_len, tm_take, pv_one, tm_one, tpvB_len, tpvB_take, tpvB_one, pvB_len, pvB_take, pvB_one, List.length_append, id_ne, id_ne', id_ne2, List.append_nil, List.append_assoc, lenPV_slB, iaV_slB_f, iaV_slB_t, mc_term_sameLevels, *])
        refine c_rounds 1 ?_
        repeat' (first | ((with_reducible first | refine wA (by omega) ?_ | refine wB (by omega) ?_ | refine wC (by omega) ?_ | refine wD (by omega) ?_ | refine wE ?_ ?_ | refine wF ?_ ?_ | refine wG ?_ ?_ | refine wH ?_ ?_ | refine wI ?_ ?_ | refine wJ ?_ ?_ | refine wK ?_ ?_ | refine wL ?_ ?_) <;> intro _) | simp (maxSteps := 1000000) (disch := omega) only [↓c_seq, ↓c_region, ↓c_cond, ↓c_block, ↓c_ret, ↓c_skip, ↓c_exit, ↓c_cont, ↓t_normal, ↓t_ret, ↓t_exit, ↓b_normal, ↓b_ret, ↓b_exit, ↓run_nil, ↓run_cons, num_nil, num_cons, ↓g_some, ↓o_mv, ↓o_pick, ↓o_bin, ↓o_un, ↓o_ld, ↓o_ldf, isP, ↓o_bld, ↓o_len, ↓o_mkf, ↓o_nilc, ↓o_fa, ↓o_fd, ↓o_ia, ↓o_iaa, ↓o_ix, ↓o_ixs, ↓o_ext, ↓o_al, ↓o_bxf, ↓o_bxt, ↓o_bsl, ↓o_bslf, chunks, ↓o_mks, ↓o_st, ↓o_stf, ↓o_call, ↓o_rng, ↓o_nxt, rngV, next_is, next_iter, ↓o_callm, ↓o_callmA, ↓o_calvm, ↓o_calv, val_some, new_some, st_some, stf_some, guard_tt, guard_ff, guard_tf, guard_ft, guard_un, ↓cond_true, ↓cond_false, calv_fn, put_some, put_none, ev_tmp, ev_const, ev_func, ↓upd_get, sig_eq, sigF_nil, ↓sigF_cons, q0, q1, nilcV, faV, fdV, iaaV, ixV, ixsV, extV, mksV, loadP, storeP, binPV, unPV, intBin, partsP, fillP, zeros, PV.good, PV.cellsOf, PV.one, q2, q3, q4, q5, q6, q7, q8, q9, q10, q11, q12, q13, q14, Nat.reduceAdd, Nat.reduceMul, Nat.reduceSub, Nat.reduceLeDiff, Nat.reduceEqDiff, Nat.reduceBEq, q15, q16, q17, q18, ↓reduceIte, reduceCtorEq, q19, q20, q21, q22, q23, q24, q25, q26, q27, q28, q29, q30, q31, q32, q33, q34, q35, q36, q37, q38, wrap64, ↓o_eqa, ↓o_mm, ↓o_app, app_some, mmL, mmV, mm2, eqE, eqParts, eqInt, eqBool, eqStr, partV, q39, q40, pickV, q41, Int.reduceEq, Int.reduceLE, Int.reduceLT, Int.reduceAdd, Int.reduceSub, Int.reduceNeg, Int.reduceToNat, Int.reduceNe, q42, q43, q44, q45, q46, q47, q48, q49, appE, oldOf, rowOf, updL, q50, q51, q52, q53, Nat.reducePow, zlt, ovr_get, Nat.reduceShiftRight, Nat.reduceMod, ite_neN, ite_eqN, q54, q55, q56, q57, q58, q59, q60, q61, q62, q63, q64, q65, q66, q67, tailP_f, tailP_t, tailF_f, tailF_t, ↓o_slc, slcP, bndO, capO, slcLen, intOf, Option.isSome_none, Option.isNone_none, Option.isSome_some, Option.isNone_some, nilP, slc_sl, slc_csl, slc_osl, slc_osl0, slc_ocap, slc_str, appR, appS, ↓o_apps, ↓o_cvt, cvP, shiftB, false_or, pv_len, pv_take, Nat.add_assoc, tm_len, tm_take, pv_one, tm_one, tpvB_len, tpvB_take, tpvB_one, pvB_len, pvB_take, pvB_one, List.length_append, id_ne, id_ne', id_ne2, List.append_nil, List.append_assoc, lenPV_slB, iaV_slB_f, iaV_slB_t, rounds_next, *])
        refine fin_tmp (.inr rfl) ?_
        simp [upd, sameL]
      · have h00 : 0 < xs.length := by omega
        have eg : xs[0]? = some xs[0] := List.getElem?_eq_getElem h00
        have eg2 : ys[0]? = some ys[0] := List.getElem?_eq_getElem (by omega)
        repeat' (first | ((with_reducible first | refine wA (by omega) ?_ | refine wB (by omega) ?_ | refine wC (by omega) ?_ | refine wD (by omega) ?_ | refine wE ?_ ?_ | refine wF ?_ ?_ | refine wG ?_ ?_ | refine wH ?_ ?_ | refine wI ?_ ?_ | refine wJ ?_ ?_ | refine wK ?_ ?_ | refine wL ?_ ?_) <;> intro _) | simp (maxSteps := 1000000) (disch := omega) only [↓c_seq, ↓c_region, ↓c_cond, ↓c_block, ↓c_ret, ↓c_skip, ↓c_exit, ↓c_cont, ↓t_normal, ↓t_ret, ↓t_exit, ↓b_normal, ↓b_ret, ↓b_exit, ↓run_nil, ↓run_cons, num_nil, num_cons, ↓g_some, ↓o_mv, ↓o_pick, ↓o_bin, ↓o_un, ↓o_ld, ↓o_ldf, isP, ↓o_bld, ↓o_len, ↓o_mkf, ↓o_nilc, ↓o_fa, ↓o_fd, ↓o_ia, ↓o_iaa, ↓o_ix, ↓o_ixs, ↓o_ext, ↓o_al, ↓o_bxf, ↓o_bxt, ↓o_bsl, ↓o_bslf, chunks, ↓o_mks, ↓o_st, ↓o_stf, ↓o_call, ↓o_rng, ↓o_nxt, rngV, next_is, next_iter, ↓o_callm, ↓o_callmA, ↓o_calvm, ↓o_calv, val_some, new_some, st_some, stf_some, guard_tt, guard_ff, guard_tf, guard_ft, guard_un, ↓cond_true, ↓cond_false, calv_fn, put_some, put_none, ev_tmp, ev_const, ev_func, ↓upd_get, sig_eq, sigF_nil, ↓sigF_cons, q0, q1, nilcV, faV, fdV, iaaV, ixV, ixsV, extV, mksV, loadP, storeP, binPV, unPV, intBin, partsP, fillP, zeros, PV.good, PV.cellsOf, PV.one, q2, q3, q4, q5, q6, q7, q8, q9, q10, q11, q12, q13, q14, Nat.reduceAdd, Nat.reduceMul, Nat.reduceSub, Nat.reduceLeDiff, Nat.reduceEqDiff, Nat.reduceBEq, q15, q16, q17, q18, ↓reduceIte, reduceCtorEq, q19, q20, q21, q22, q23, q24, q25, q26, q27, q28, q29, q30, q31, q32, q33, q34, q35, q36, q37, q38, wrap64, ↓o_eqa, ↓o_mm, ↓o_app, app_some, mmL, mmV, mm2, eqE, eqParts, eqInt, eqBool, eqStr, partV, q39, q40, pickV, q41, Int.reduceEq, Int.reduceLE, Int.reduceLT, Int.reduceAdd, Int.reduceSub, Int.reduceNeg, Int.reduceToNat, Int.reduceNe, q42, q43, q44, q45, q46, q47, q48, q49, appE, oldOf, rowOf, updL, q50, q51, q52, q53, Nat.reducePow, zlt, ovr_get, Nat.reduceShiftRight, Nat.reduceMod, ite_neN, ite_eqN, q54, q55, q56, q57, q58, q59, q60, q61, q62, q63, q64, q65, q66, q67, tailP_f, tailP_t, tailF_f, tailF_t, ↓o_slc, slcP, bndO, capO, slcLen, intOf, Option.isSome_none, Option.isNone_none, Option.isSome_some, Option.isNone_some, nilP, slc_sl, slc_csl, slc_osl, slc_osl0, slc_ocap, slc_str, appR, appS, ↓o_apps, ↓o_cvt, cvP, shiftB, false_or, pv_len, pv_take, Nat.add_assoc, tm_len, tm_take, pv_one, tm_one, tpvB_len, tpvB_take, tpvB_one, pvB_len, pvB_take, pvB_one, List.length_append, id_ne, id_ne', id_ne2, List.append_nil, List.append_assoc, lenPV_slB, iaV_slB_f, iaV_slB_t, mc_term_sameLevels, *])
        refine o_peq (f := f) (g := g) (cs := (xs.map (Lv.pvB f)).flatten) (ds := (ys.map (Lv.pvB g)).flatten) (n := 2) rfl rfl Try.underlying64 (by kernel_rfl) (by (simp (disch := omega) only [go_sem, Nat.reduceMul, Nat.reduceSub, Nat.reduceShiftRight, Nat.reduceMod, Nat.reduceEqDiff, Nat.reduceAdd, ↓reduceIte, Nat.reduceLeDiff, ev_tmp, ptrOf_B])) (by (simp (disch := omega) only [go_sem, Nat.reduceMul, Nat.reduceSub, Nat.reduceShiftRight, Nat.reduceMod, Nat.reduceEqDiff, Nat.reduceAdd, ↓reduceIte, Nat.reduceLeDiff, ev_tmp, ptrOf_B])) hfg (flat_ne (pvB_len f) h00) (flat_ne (pvB_len g) (by omega)) fun t ht => ?_
        cases t with
        | true =>
          obtain rfl := meet_lvs hl (ht rfl)
          have hrf := sameL_refl xs
          clear ih ht
          repeat' (first | ((with_reducible first | refine wA (by omega) ?_ | refine wB (by omega) ?_ | refine wC (by omega) ?_ | refine wD (by omega) ?_ | refine wE ?_ ?_ | refine wF ?_ ?_ | refine wG ?_ ?_ | refine wH ?_ ?_ | refine wI ?_ ?_ | refine wJ ?_ ?_ | refine wK ?_ ?_ | refine wL ?_ ?_) <;> intro _) | simp (maxSteps := 1000000) (disch := omega) only [↓c_seq, ↓c_region, ↓c_cond, ↓c_block, ↓c_ret, ↓c_skip, ↓c_exit, ↓c_cont, ↓t_normal, ↓t_ret, ↓t_exit, ↓b_normal, ↓b_ret, ↓b_exit, ↓run_nil, ↓run_cons, num_nil, num_cons, ↓g_some, ↓o_mv, ↓o_pick, ↓o_bin, ↓o_un, ↓o_ld, ↓o_ldf, isP, ↓o_bld, ↓o_len, ↓o_mkf, ↓o_nilc, ↓o_fa, ↓o_fd, ↓o_ia, ↓o_iaa, ↓o_ix, ↓o_ixs, ↓o_ext, ↓o_al, ↓o_bxf, ↓o_bxt, ↓o_bsl, ↓o_bslf, chunks, ↓o_mks, ↓o_st, ↓o_stf, ↓o_call, ↓o_rng, ↓o_nxt, rngV, next_is, next_iter, ↓o_callm, ↓o_callmA, ↓o_calvm, ↓o_calv, val_some, new_some, st_some, stf_some, guard_tt, guard_ff, guard_tf, guard_ft, guard_un, ↓cond_true, ↓cond_false, calv_fn, put_some, put_none, ev_tmp, ev_const, ev_func, ↓upd_get, sig_eq, sigF_nil, ↓sigF_cons, q0, q1, nilcV, faV, fdV, iaaV, ixV, ixsV, extV, mksV, loadP, storeP, binPV, unPV, intBin, partsP, fillP, zeros, PV.good, PV.cellsOf, PV.one, q2, q3, q4, q5, q6, q7, q8, q9, q10, q11, q12, q13, q14, Nat.reduceAdd, Nat.reduceMul, Nat.reduceSub, Nat.reduceLeDiff, Nat.reduceEqDiff, Nat.reduceBEq, q15, q16, q17, q18, ↓reduceIte, reduceCtorEq, q19, q20, q21, q22, q23, q24, q25, q26, q27, q28, q29, q30, q31, q32, q33, q34, q35, q36, q37, q38, wrap64, ↓o_eqa, ↓o_mm, ↓o_app, app_some, mmL, mmV, mm2, eqE, eqParts, eqInt, eqBool, eqStr, partV, q39, q40, pickV, q41, Int.reduceEq, Int.reduceLE, Int.reduceLT, Int.reduceAdd, Int.reduceSub, Int.reduceNeg, Int.reduceToNat, Int.reduceNe, q42, q43, q44, q45, q46, q47, q48, q49, appE, oldOf, rowOf, updL, q50, q51, q52, q53, Nat.reducePow, zlt, ovr_get, Nat.reduceShiftRight, Nat.reduceMod, ite_neN, ite_eqN, q54, q55, q56, q57, q58, q59, q60, q61, q62, q63, q64, q65, q66, q67, tailP_f, tailP_t, tailF_f, tailF_t, ↓o_slc, slcP, bndO, capO, slcLen, intOf, Option.isSome_none, Option.isNone_none, Option.isSome_some, Option.isNone_some, nilP, slc_sl, slc_csl, slc_osl, slc_osl0, slc_ocap, slc_str, appR, appS, ↓o_apps, ↓o_cvt, cvP, shiftB, false_or, pv_len, pv_take, Nat.add_assoc, tm_len, tm_take, pv_one, tm_one, tpvB_len, tpvB_take, tpvB_one, pvB_len, pvB_take, pvB_one, List.length_append, id_ne, id_ne', id_ne2, List.append_nil, List.append_assoc, lenPV_slB, iaV_slB_f, iaV_slB_t, *])
          refine fin_tmp (.inr rfl) ?_
          simp [upd, hrf]
        | false =>
          clear ht eg eg2
          repeat' (first | ((with_reducible first | refine wA (by omega) ?_ | refine wB (by omega) ?_ | refine wC (by omega) ?_ | refine wD (by omega) ?_ | refine wE ?_ ?_ | refine wF ?_ ?_ | refine wG ?_ ?_ | refine wH ?_ ?_ | refine wI ?_ ?_ | refine wJ ?_ ?_ | refine wK ?_ ?_ | refine wL ?_ ?_) <;> intro _) | simp (maxSteps := 1000000) (disch := omega) only [↓c_seq, ↓c_region, ↓c_cond, ↓c_block, ↓c_ret, ↓c_skip, ↓c_exit, ↓c_cont, ↓t_normal, ↓t_ret, ↓t_exit, ↓b_normal, ↓b_ret, ↓b_exit, ↓run_nil, ↓run_cons, num_nil, num_cons, ↓g_some, ↓o_mv, ↓o_pick, ↓o_bin, ↓o_un, ↓o_ld, ↓o_ldf, isP, ↓o_bld, ↓o_len, ↓o_mkf, ↓o_nilc, ↓o_fa, ↓o_fd, ↓o_ia, ↓o_iaa, ↓o_ix, ↓o_ixs, ↓o_ext, ↓o_al, ↓o_bxf, ↓o_bxt, ↓o_bsl, ↓o_bslf, chunks, ↓o_mks, ↓o_st, ↓o_stf, ↓o_call, ↓o_rng, ↓o_nxt, rngV, next_is, next_iter, ↓o_callm, ↓o_callmA, ↓o_calvm, ↓o_calv, val_some, new_some, st_some, stf_some, guard_tt, guard_ff, guard_tf, guard_ft, guard_un, ↓cond_true, ↓cond_false, calv_fn, put_some, put_none, ev_tmp, ev_const, ev_func, ↓upd_get, sig_eq, sigF_nil, ↓sigF_cons, q0, q1, nilcV, faV, fdV, iaaV, ixV, ixsV, extV, mksV, loadP, storeP, binPV, unPV, intBin, partsP, fillP, zeros, PV.good, PV.cellsOf, PV.one, q2, q3, q4, q5, q6, q7, q8, q9, q10, q11, q12, q13, q14, Nat.reduceAdd, Nat.reduceMul, Nat.reduceSub, Nat.reduceLeDiff, Nat.reduceEqDiff, Nat.reduceBEq, q15, q16, q17, q18, ↓reduceIte, reduceCtorEq, q19, q20, q21, q22, q23, q24, q25, q26, q27, q28, q29, q30, q31, q32, q33, q34, q35, q36, q37, q38, wrap64, ↓o_eqa, ↓o_mm, ↓o_app, app_some, mmL, mmV, mm2, eqE, eqParts, eqInt, eqBool, eqStr, partV, q39, q40, pickV, q41, Int.reduceEq, Int.reduceLE, Int.reduceLT, Int.reduceAdd, Int.reduceSub, Int.reduceNeg, Int.reduceToNat, Int.reduceNe, q42, q43, q44, q45, q46, q47, q48, q49, appE, oldOf, rowOf, updL, q50, q51, q52, q53, Nat.reducePow, zlt, ovr_get, Nat.reduceShiftRight, Nat.reduceMod, ite_neN, ite_eqN, q54, q55, q56, q57, q58, q59, q60, q61, q62, q63, q64, q65, q66, q67, tailP_f, tailP_t, tailF_f, tailF_t, ↓o_slc, slcP, bndO, capO, slcLen, intOf, Option.isSome_none, Option.isNone_none, Option.isSome_some, Option.isNone_some, nilP, slc_sl, slc_csl, slc_osl, slc_osl0, slc_ocap, slc_str, appR, appS, ↓o_apps, ↓o_cvt, cvP, shiftB, false_or, pv_len, pv_take, Nat.add_assoc, tm_len, tm_take, pv_one, tm_one, tpvB_len, tpvB_take, tpvB_one, pvB_len, pvB_take, pvB_one, List.length_append, id_ne, id_ne', id_ne2, List.append_nil, List.append_assoc, lenPV_slB, iaV_slB_f, iaV_slB_t, *])
          refine c_loopW 36893488147410714672 (by kernel_rfl) (fun j F H m => ∃ i : Nat, j = xs.length - i ∧ i ≤ xs.length ∧ F 23 = .sc (.int .i64 i) ∧ sameL (xs.take i) (ys.take i) = true) _ ⟨0, rfl, cE1, cE1, rfl⟩ ?_
          rintro _ F H m ⟨i, rfl, hi, e23, hs⟩
          by_cases hlt : i < xs.length
          · have hlt2 : i < ys.length := by omega
            have eg : xs[i]? = some xs[i] := List.getElem?_eq_getElem hlt
            have eg2 : ys[i]? = some ys[i] := List.getElem?_eq_getElem hlt2
            have hn := nodesL_mem xs i hlt
            have ht := sameL_take xs ys i hlt hlt2
            have hq := sameL_false xs ys i hlt hlt2
            generalize xs[i] = x at *
            generalize ys[i] = y at *
            cases x with
            | mk k1 n1 a1 =>
            cases y with
            | mk k2 n2 a2 =>
            simp only [Lv.nodes] at hn
            simp only [Lv.same] at ht hq
            have hc := ih a1 a2 (by omega)
            have ht' := Kept.mk ht
            have hq' := Kept.mk hq
            have hl' := Kept.mk hl
            clear ih ht hq
            repeat' (first | ((with_reducible first | refine wA (by omega) ?_ | refine wB (by omega) ?_ | refine wC (by omega) ?_ | refine wD (by omega) ?_ | refine wE ?_ ?_ | refine wF ?_ ?_ | refine wG ?_ ?_ | refine wH ?_ ?_ | refine wI ?_ ?_ | refine wJ ?_ ?_ | refine wK ?_ ?_ | refine wL ?_ ?_) <;> intro _) | (((with_reducible refine call_id ?_); (first | (refine call_pure (hc) ?_)))) | simp (maxSteps := 1000000) (disch := omega) only [↓c_seq, ↓c_region, ↓c_cond, ↓c_block, ↓c_ret, ↓c_skip, ↓c_exit, ↓c_cont, ↓t_normal, ↓t_ret, ↓t_exit, ↓b_normal, ↓b_ret, ↓b_exit, ↓run_nil, ↓run_cons, num_nil, num_cons, ↓g_some, ↓o_mv, ↓o_pick, ↓o_bin, ↓o_un, ↓o_ld, ↓o_ldf, isP, ↓o_bld, ↓o_len, ↓o_mkf, ↓o_nilc, ↓o_fa, ↓o_fd, ↓o_ia, ↓o_iaa, ↓o_ix, ↓o_ixs, ↓o_ext, ↓o_al, ↓o_bxf, ↓o_bxt, ↓o_bsl, ↓o_bslf, chunks, ↓o_mks, ↓o_st, ↓o_stf, ↓o_call, ↓o_rng, ↓o_nxt, rngV, next_is, next_iter, ↓o_callm, ↓o_callmA, ↓o_calvm, ↓o_calv, val_some, new_some, st_some, stf_some, guard_tt, guard_ff, guard_tf, guard_ft, guard_un, ↓cond_true, ↓cond_false, calv_fn, put_some, put_none, ev_tmp, ev_const, ev_func, ↓upd_get, sig_eq, sigF_nil, ↓sigF_cons, q0, q1, nilcV, faV, fdV, iaaV, ixV, ixsV, extV, mksV, loadP, storeP, binPV, unPV, intBin, partsP, fillP, zeros, PV.good, PV.cellsOf, PV.one, q2, q3, q4, q5, q6, q7, q8, q9, q10, q11, q12, q13, q14, Nat.reduceAdd, Nat.reduceMul, Nat.reduceSub, Nat.reduceLeDiff, Nat.reduceEqDiff, Nat.reduceBEq, q15, q16, q17, q18, ↓reduceIte, reduceCtorEq, q19, q20, q21, q22, q23, q24, q25, q26, q27, q28, q29, q30, q31, q32, q33, q34, q35, q36, q37, q38, wrap64, ↓o_eqa, ↓o_mm, ↓o_app, app_some, mmL, mmV, mm2, eqE, eqParts, eqInt, eqBool, eqStr, partV, q39, q40, pickV, q41, Int.reduceEq, Int.reduceLE, Int.reduceLT, Int.reduceAdd, Int.reduceSub, Int.reduceNeg, Int.reduceToNat, Int.reduceNe, q42, q43, q44, q45, q46, q47, q48, q49, appE, oldOf, rowOf, updL, q50, q51, q52, q53, Nat.reducePow, zlt, ovr_get, Nat.reduceShiftRight, Nat.reduceMod, ite_neN, ite_eqN, q54, q55, q56, q57, q58, q59, q60, q61, q62, q63, q64, q65, q66, q67, tailP_f, tailP_t, tailF_f, tailF_t, ↓o_slc, slcP, bndO, capO, slcLen, intOf, Option.isSome_none, Option.isNone_none, Option.isSome_some, Option.isNone_some, nilP, slc_sl, slc_csl, slc_osl, slc_osl0, slc_ocap, slc_str, appR, appS, ↓o_apps, ↓o_cvt, cvP, shiftB, false_or, pv_len, pv_take, Nat.add_assoc, tm_len, tm_take, pv_one, tm_one, tpvB_len, tpvB_take, tpvB_one, pvB_len, pvB_take, pvB_one, List.length_append, id_ne, id_ne', id_ne2, List.append_nil, List.append_assoc, lenPV_slB, iaV_slB_f, iaV_slB_t, Lv.pvB, *])
            all_goals (try (have hqq := hq'.out (by simp [*]); refine fin_tmp (.inr rfl) ?_; simp [upd, hqq]; done))
            refine Nx.mk (xs.length - (i + 1)) cE1 ⟨i + 1, cE1, cE1, cE1, by rw [ht'.out]; simp [*]⟩
          · obtain rfl : i = xs.length := by omega
            have e : ys.take xs.length = ys := List.take_of_length_le (by omega)
            rw [List.take_length, e] at hs
            clear ih
            repeat' (first | ((with_reducible first | refine wA (by omega) ?_ | refine wB (by omega) ?_ | refine wC (by omega) ?_ | refine wD (by omega) ?_ | refine wE ?_ ?_ | refine wF ?_ ?_ | refine wG ?_ ?_ | refine wH ?_ ?_ | refine wI ?_ ?_ | refine wJ ?_ ?_ | refine wK ?_ ?_ | refine wL ?_ ?_) <;> intro _) | simp (maxSteps := 1000000) (disch := omega) only [↓c_seq, ↓c_region, ↓c_cond, ↓c_block, ↓c_ret, ↓c_skip, ↓c_exit, ↓c_cont, ↓t_normal, ↓t_ret, ↓t_exit, ↓b_normal, ↓b_ret, ↓b_exit, ↓run_nil, ↓run_cons, num_nil, num_cons, ↓g_some, ↓o_mv, ↓o_pick, ↓o_bin, ↓o_un, ↓o_ld, ↓o_ldf, isP, ↓o_bld, ↓o_len, ↓o_mkf, ↓o_nilc, ↓o_fa, ↓o_fd, ↓o_ia, ↓o_iaa, ↓o_ix, ↓o_ixs, ↓o_ext, ↓o_al, ↓o_bxf, ↓o_bxt, ↓o_bsl, ↓o_bslf, chunks, ↓o_mks, ↓o_st, ↓o_stf, ↓o_call, ↓o_rng, ↓o_nxt, rngV, next_is, next_iter, ↓o_callm, ↓o_callmA, ↓o_calvm, ↓o_calv, val_some, new_some, st_some, stf_some, guard_tt, guard_ff, guard_tf, guard_ft, guard_un, ↓cond_true, ↓cond_false, calv_fn, put_some, put_none, ev_tmp, ev_const, ev_func, ↓upd_get, sig_eq, sigF_nil, ↓sigF_cons, q0, q1, nilcV, faV, fdV, iaaV, ixV, ixsV, extV, mksV, loadP, storeP, binPV, unPV, intBin, partsP, fillP, zeros, PV.good, PV.cellsOf, PV.one, q2, q3, q4, q5, q6, q7, q8, q9, q10, q11, q12, q13, q14, Nat.reduceAdd, Nat.reduceMul, Nat.reduceSub, Nat.reduceLeDiff, Nat.reduceEqDiff, Nat.reduceBEq, q15, q16, q17, q18, ↓reduceIte, reduceCtorEq, q19, q20, q21, q22, q23, q24, q25, q26, q27, q28, q29, q30, q31, q32, q33, q34, q35, q36, q37, q38, wrap64, ↓o_eqa, ↓o_mm, ↓o_app, app_some, mmL, mmV, mm2, eqE, eqParts, eqInt, eqBool, eqStr, partV, q39, q40, pickV, q41, Int.reduceEq, Int.reduceLE, Int.reduceLT, Int.reduceAdd, Int.reduceSub, Int.reduceNeg, Int.reduceToNat, Int.reduceNe, q42, q43, q44, q45, q46, q47, q48, q49, appE, oldOf, rowOf, updL, q50, q51, q52, q53, Nat.reducePow, zlt, ovr_get, Nat.reduceShiftRight, Nat.reduceMod, ite_neN, ite_eqN, q54, q55, q56, q57, q58, q59, q60, q61, q62, q63, q64, q65, q66, q67, tailP_f, tailP_t, tailF_f, tailF_t, ↓o_slc, slcP, bndO, capO, slcLen, intOf, Option.isSome_none, Option.isNone_none, Option.isSome_some, Option.isNone_some, nilP, slc_sl, slc_csl, slc_osl, slc_osl0, slc_ocap, slc_str, appR, appS, ↓o_apps, ↓o_cvt, cvP, shiftB, false_or, pv_len, pv_take, Nat.add_assoc, tm_len, tm_take, pv_one, tm_one, tpvB_len, tpvB_take, tpvB_one, pvB_len, pvB_take, pvB_one, List.length_append, id_ne, id_ne', id_ne2, List.append_nil, List.append_assoc, lenPV_slB, iaV_slB_f, iaV_slB_t, *])
            refine fin_tmp (.inr rfl) ?_
            simp [upd, hs]
    · repeat' (first | ((with_reducible first | refine wA (by omega) ?_ | refine wB (by omega) ?_ | refine wC (by omega) ?_ | refine wD (by omega) ?_ | refine wE ?_ ?_ | refine wF ?_ ?_ | refine wG ?_ ?_ | refine wH ?_ ?_ | refine wI ?_ ?_ | refine wJ ?_ ?_ | refine wK ?_ ?_ | refine wL ?_ ?_) <;> intro _) | simp (maxSteps := 1000000) (disch := omega) only [↓c_seq, ↓c_region, ↓c_cond, ↓c_block, ↓c_ret, ↓c_skip, ↓c_exit, ↓c_cont, ↓t_normal, ↓t_ret, ↓t_exit, ↓b_normal, ↓b_ret, ↓b_exit, ↓run_nil, ↓run_cons, num_nil, num_cons, ↓g_some, ↓o_mv, ↓o_pick, ↓o_bin, ↓o_un, ↓o_ld, ↓o_ldf, isP, ↓o_bld, ↓o_len, ↓o_mkf, ↓o_nilc, ↓o_fa, ↓o_fd, ↓o_ia, ↓o_iaa, ↓o_ix, ↓o_ixs, ↓o_ext, ↓o_al, ↓o_bxf, ↓o_bxt, ↓o_bsl, ↓o_bslf, chunks, ↓o_mks, ↓o_st, ↓o_stf, ↓o_call, ↓o_rng, ↓o_nxt, rngV, next_is, next_iter, ↓o_callm, ↓o_callmA, ↓o_calvm, ↓o_calv, val_some, new_some, st_some, stf_some, guard_tt, guard_ff, guard_tf, guard_ft, guard_un, ↓cond_true, ↓cond_false, calv_fn, put_some, put_none, ev_tmp, ev_const, ev_func, ↓upd_get, sig_eq, sigF_nil, ↓sigF_cons, q0, q1, nilcV, faV, fdV, iaaV, ixV, ixsV, extV, mksV, loadP, storeP, binPV, unPV, intBin, partsP, fillP, zeros, PV.good, PV.cellsOf, PV.one, q2, q3, q4, q5, q6, q7, q8, q9, q10, q11, q12, q13, q14, Nat.reduceAdd, Nat.reduceMul, Nat.reduceSub, Nat.reduceLeDiff, Nat.reduceEqDiff, Nat.reduceBEq, q15, q16, q17, q18, ↓reduceIte, reduceCtorEq, q19, q20, q21, q22, q23, q24, q25, q26, q27, q28, q29, q30, q31, q32, q33, q34, q35, q36, q37, q38, wrap64, ↓o_eqa, ↓o_mm, ↓o_app, app_some, mmL, mmV, mm2, eqE, eqParts, eqInt, eqBool, eqStr, partV, q39, q40, pickV, q41, Int.reduceEq, Int.reduceLE, Int.reduceLT, Int.reduceAdd, Int.reduceSub, Int.reduceNeg, Int.reduceToNat, Int.reduceNe, q42, q43, q44, q45, q46, q47, q48, q49, appE, oldOf, rowOf, updL, q50, q51, q52, q53, Nat.reducePow, zlt, ovr_get, Nat.reduceShiftRight, Nat.reduceMod, ite_neN, ite_eqN, q54, q55, q56, q57, q58, q59, q60, q61, q62, q63, q64, q65, q66, q67, tailP_f, tailP_t, tailF_f, tailF_t, ↓o_slc, slcP, bndO, capO, slcLen, intOf, Option.isSome_none, Option.isNone_none, Option.isSome_some, Option.isNone_some, nilP, slc_sl, slc_csl, slc_osl, slc_osl0, slc_ocap, slc_str, appR, appS, ↓o_apps, ↓o_cvt, cvP, shiftB, false_or, pv_len, pv_take, Nat.add_assoc, tm_len, tm_take, pv_one, tm_one, tpvB_len, tpvB_take, tpvB_one, pvB_len, pvB_take, pvB_one, List.length_append, id_ne, id_ne', id_ne2, List.append_nil, List.append_assoc, lenPV_slB, iaV_slB_f, iaV_slB_t, mc_term_sameLevels, *])
      all_goals (refine fin_tmp (.inr rfl) ?_; simp [upd, *])
end
section
set_option maxRecDepth 20000
attribute [local go_sem] pv_len pv_take Nat.add_assoc tm_len tm_take pv_one tm_one tpvB_len tpvB_take tpvB_one pvB_len pvB_take pvB_one id_ne id_ne' id_ne2 List.append_assoc lenPV_slB iaV_slB_f iaV_slB_t
mutual
theorem tsame_iff : ∀ a b : Tm, a.same b = true ↔ a = b
  | .mk k n s ls xs, .mk k' n' s' ls' ys => by
    simp only [Tm.same, Bool.and_eq_true, decide_eq_true_eq, Tm.mk.injEq]
    constructor
    · rintro ⟨h1, h2, h3, h4, h5, h6, h7⟩
      refine ⟨h1, h2, ?_, (sameL_iff ls ls' (by simpa using h4)).1 h6, (sameT_iff xs ys (by simpa using h5)).1 h7⟩
      unfold sameB at h3
      exact (Lib.bytes_beq_iff s s').1 h3
    · rintro ⟨h1, h2, h3, h4, h5⟩
      subst h3; subst h4; subst h5
      refine ⟨h1, h2, ?_, by simp, by simp, sameL_refl ls, (sameT_iff xs xs rfl).2 rfl⟩
      unfold sameB
      exact (Lib.bytes_beq_iff s s).2 rfl
theorem sameT_iff : ∀ xs ys : List Tm, xs.length = ys.length → (sameT xs ys = true ↔ xs = ys)
  | [], [], _ => by simp [sameT]
  | x :: xs, y :: ys, h => by
    simp only [sameT, Bool.and_eq_true, List.cons.injEq]
    rw [tsame_iff x y, sameT_iff xs ys (by simpa using h)]
  | [], y :: ys, h => by simp at h
  | x :: xs, [], h => by simp at h
end
theorem sameT_refl (xs : List Tm) : sameT xs xs = true := (sameT_iff xs xs rfl).2 rfl
set_option maxHeartbeats 16000000 in
theorem term_same_p (f g : Bool) (hfg : (f || g) = true) : ∀ (fuel : Nat) (a b : Tm), a.size ≤ fuel → PPure Try.prog F.term_same [.ptr (a.pvB f), .ptr (b.pvB g)] (.sc (.bool (a.same b))) := by
  intro fuel
  induction fuel with
  | zero => intro l _ h; have := size_pos l; omega
  | succ fuel ih =>
    intro a b hf
    cases a with
    | mk k n s ls xs =>
    cases b with
    | mk k' n' s' ls' ys =>
    simp only [Tm.size] at hf
    refine pure_by is_term_same (by simp) rfl fun hb nx => ?_
    have hb0 : (xs.length ≤ 9223372036854775807 ∧ ys.length ≤ 9223372036854775807) := by simp [Tm.pvB, bndL, PV.bnd, slB_bnd] at hb; omega
    have hc1 := sameLevels_p f g hfg _ ls ls' (Nat.lt_succ_self _)
    by_cases h0 : xs.length = 0
    · obtain rfl : xs = [] := List.eq_nil_of_length_eq_zero h0
      clear ih
      repeat' (first | ((with_reducible first | refine wA (by omega) ?_ | refine wB (by omega) ?_ | refine wC (by omega) ?_ | refine wD (by omega) ?_ | refine wE ?_ ?_ | refine wF ?_ ?_ | refine wG ?_ ?_ | refine wH ?_ ?_ | refine wI ?_ ?_ | refine wJ ?_ ?_ | refine wK ?_ ?_ | refine wL ?_ ?_) <;> intro _) | (((with_reducible refine call_id ?_); (first | (refine call_pure (hc1) ?_)))) | simp (maxSteps := 1000000) (disch := omega) only [↓c_seq, ↓c_region, ↓c_cond, ↓c_block, ↓c_ret, ↓c_skip, ↓c_exit, ↓c_cont, ↓t_normal, ↓t_ret, ↓t_exit, ↓b_normal, ↓b_ret, ↓b_exit, ↓run_nil, ↓run_cons, num_nil, num_cons, ↓g_some, ↓o_mv, ↓o_pick, ↓o_bin, ↓o_un, ↓o_ld, ↓o_ldf, isP, ↓o_bld, ↓o_len, ↓o_mkf, ↓o_nilc, ↓o_fa, ↓o_fd, ↓o_ia, ↓o_iaa, ↓o_ix, ↓o_ixs, ↓o_ext, ↓o_al, ↓o_bxf, ↓o_bxt, ↓o_bsl, ↓o_bslf, chunks, ↓o_mks, ↓o_st, ↓o_stf, ↓o_call, ↓o_rng, ↓o_nxt, rngV, next_is, next_iter, ↓o_callm, ↓o_callmA, ↓o_calvm, ↓o_calv, val_some, new_some, st_some, stf_some, guard_tt, guard_ff, guard_tf, guard_ft, guard_un, ↓cond_true, ↓cond_false, calv_fn, put_some, put_none, ev_tmp, ev_const, ev_func, ↓upd_get, sig_eq, sigF_nil, ↓sigF_cons, q0, q1, nilcV, faV, fdV, iaaV, ixV, ixsV, extV, mksV, loadP, storeP, binPV, unPV, intBin, partsP, fillP, zeros, PV.good, PV.cellsOf, PV.one, q2, q3, q4, q5, q6, q7, q8, q9, q10, q11, q12, q13, q14, Nat.reduceAdd, Nat.reduceMul, Nat.reduceSub, Nat.reduceLeDiff, Nat.reduceEqDiff, Nat.reduceBEq, q15, q16, q17, q18, ↓reduceIte, reduceCtorEq, q19, q20, q21, q22, q23, q24, q25, q26, q27, q28, q29, q30, q31, q32, q33, q34, q35, q36, q37, q38, wrap64, ↓o_eqa, ↓o_mm, ↓o_app, app_some, mmL, mmV, mm2, eqE, eqParts, eqInt, eqBool, eqStr, partV, q39, q40, pickV, q41, Int.reduceEq, Int.reduceLE, Int.reduceLT, Int.reduceAdd, Int.reduceSub, Int.reduceNeg, Int.reduceToNat, Int.reduceNe, q42, q43, q44, q45, q46, q47, q48, q49, appE, oldOf, rowOf, updL, q50, q51, q52, q53, Nat.reducePow, zlt, ovr_get, Nat.reduceShiftRight, Nat.reduceMod, ite_neN, ite_eqN, q54, q55, q56, q57, q58, q59, q60, q61, q62, q63, q64, q65, q66, q67, tailP_f, tailP_t, tailF_f, tailF_t, ↓o_slc, slcP, bndO, capO, slcLen, intOf, Option.isSome_none, Option.isNone_none, Option.isSome_some, Option.isNone_some, nilP, slc_sl, slc_csl, slc_osl, slc_osl0, slc_ocap, slc_str, appR, appS, ↓o_apps, ↓o_cvt, cvP, shiftB, false_or, pv_len, pv_take, Nat.add_assoc, tm_len, tm_take, pv_one, tm_one, tpvB_len, tpvB_take, tpvB_one, pvB_len, pvB_take, pvB_one, List.length_append, id_ne, id_ne', id_ne2, List.append_nil, List.append_assoc, lenPV_slB, iaV_slB_f, iaV_slB_t, mc_term_same, Tm.pvB, strBin, fold_sameB, *])
      all_goals (try (refine fin_tmp (.inr rfl) ?_; simp [upd, Tm.same, sameT, *]; done))
      · rename_i q
        refine fin_tmp (.inr rfl) ?_
        have q' : ¬ ([] : List Tm).length = ys.length := by simp at q ⊢; omega
        simp only [Tm.same, decide_eq_false q']
        simp [upd]
      · rename_i q
        refine fin_tmp (.inr rfl) ?_
        have q' : (decide (ls.length = ls'.length) && (decide (([] : List Tm).length = ys.length) && (sameL ls ls' && sameT [] ys))) = false := by
          rw [Bool.and_eq_false_iff] at q ⊢
          rcases q with q | q
          · exact .inl q
          · right; simp [q]
        simp only [Tm.same, q']
        simp [upd]
      · rename_i u5 u4 u3 u2 u1 u0
        obtain rfl : ys = [] := List.eq_nil_of_length_eq_zero (by omega)
        clear u0 u2
        refine c_rounds 1 ?_
        repeat' (first | ((with_reducible first | refine wA (by omega) ?_ | refine wB (by omega) ?_ | refine wC (by omega) ?_ | refine wD (by omega) ?_ | refine wE ?_ ?_ | refine wF ?_ ?_ | refine wG ?_ ?_ | refine wH ?_ ?_ | refine wI ?_ ?_ | refine wJ ?_ ?_ | refine wK ?_ ?_ | refine wL ?_ ?_) <;> intro _) | simp (maxSteps := 1000000) (disch := omega) only [↓c_seq, ↓c_region, ↓c_cond, ↓c_block, ↓c_ret, ↓c_skip, ↓c_exit, ↓c_cont, ↓t_normal, ↓t_ret, ↓t_exit, ↓b_normal, ↓b_ret, ↓b_exit, ↓run_nil, ↓run_cons, num_nil, num_cons, ↓g_some, ↓o_mv, ↓o_pick, ↓o_bin, ↓o_un, ↓o_ld, ↓o_ldf, isP, ↓o_bld, ↓o_len, ↓o_mkf, ↓o_nilc, ↓o_fa, ↓o_fd, ↓o_ia, ↓o_iaa, ↓o_ix, ↓o_ixs, ↓o_ext, ↓o_al, ↓o_bxf, ↓o_bxt, ↓o_bsl, ↓o_bslf, chunks, ↓o_mks, ↓o_st, ↓o_stf, ↓o_call, ↓o_rng, ↓o_nxt, rngV, next_is, next_iter, ↓o_callm, ↓o_callmA, ↓o_calvm, ↓o_calv, val_some, new_some, st_some, stf_some, guard_tt, guard_ff, guard_tf, guard_ft, guard_un, ↓cond_true, ↓cond_false, calv_fn, put_some, put_none, ev_tmp, ev_const, ev_func, ↓upd_get, sig_eq, sigF_nil, ↓sigF_cons, q0, q1, nilcV, faV, fdV, iaaV, ixV, ixsV, extV, mksV, loadP, storeP, binPV, unPV, intBin, partsP, fillP, zeros, PV.good, PV.cellsOf, PV.one, q2, q3, q4, q5, q6, q7, q8, q9, q10, q11, q12, q13, q14, Nat.reduceAdd, Nat.reduceMul, Nat.reduceSub, Nat.reduceLeDiff, Nat.reduceEqDiff, Nat.reduceBEq, q15, q16, q17, q18, ↓reduceIte, reduceCtorEq, q19, q20, q21, q22, q23, q24, q25, q26, q27, q28, q29, q30, q31, q32, q33, q34, q35, q36, q37, q38, wrap64, ↓o_eqa, ↓o_mm, ↓o_app, app_some, mmL, mmV, mm2, eqE, eqParts, eqInt, eqBool, eqStr, partV, q39, q40, pickV, q41, Int.reduceEq, Int.reduceLE, Int.reduceLT, Int.reduceAdd, Int.reduceSub, Int.reduceNeg, Int.reduceToNat, Int.reduceNe, q42, q43, q44, q45, q46, q47, q48, q49, appE, oldOf, rowOf, updL, q50, q51, q52, q53, Nat.reducePow, zlt, ovr_get, Nat.reduceShiftRight, Nat.reduceMod, ite_neN, ite_eqN, q54, q55, q56, q57, q58, q59, q60, q61, q62, q63, q64, q65, q66, q67, tailP_f, tailP_t, tailF_f, tailF_t, ↓o_slc, slcP, bndO, capO, slcLen, intOf, Option.isSome_none, Option.isNone_none, Option.isSome_some, Option.isNone_some, nilP, slc_sl, slc_csl, slc_osl, slc_osl0, slc_ocap, slc_str, appR, appS, ↓o_apps, ↓o_cvt, cvP, shiftB, false_or, pv_len, pv_take, Nat.add_assoc, tm_len, tm_take, pv_one, tm_one, tpvB_len, tpvB_take, tpvB_one, pvB_len, pvB_take, pvB_one, List.length_append, id_ne, id_ne', id_ne2, List.append_nil, List.append_assoc, lenPV_slB, iaV_slB_f, iaV_slB_t, rounds_next, *])
        refine fin_tmp (.inr rfl) ?_
        simp only [Bool.and_eq_true, decide_eq_true_eq] at u1
        simp [upd, Tm.same, sameT, *]
    · have h00 : 0 < xs.length := by omega
      have eg : xs[0]? = some xs[0] := List.getElem?_eq_getElem h00
      by_cases hl : xs.length = ys.length
      · have eg2 : ys[0]? = some ys[0] := List.getElem?_eq_getElem (by omega)
        have ih' := Kept.mk ih
        clear ih
        repeat' (first | ((with_reducible first | refine wA (by omega) ?_ | refine wB (by omega) ?_ | refine wC (by omega) ?_ | refine wD (by omega) ?_ | refine wE ?_ ?_ | refine wF ?_ ?_ | refine wG ?_ ?_ | refine wH ?_ ?_ | refine wI ?_ ?_ | refine wJ ?_ ?_ | refine wK ?_ ?_ | refine wL ?_ ?_) <;> intro _) | (((with_reducible refine call_id ?_); (first | (refine call_pure (hc1) ?_)))) | simp (maxSteps := 1000000) (disch := omega) only [↓c_seq, ↓c_region, ↓c_cond, ↓c_block, ↓c_ret, ↓c_skip, ↓c_exit, ↓c_cont, ↓t_normal, ↓t_ret, ↓t_exit, ↓b_normal, ↓b_ret, ↓b_exit, ↓run_nil, ↓run_cons, num_nil, num_cons, ↓g_some, ↓o_mv, ↓o_pick, ↓o_bin, ↓o_un, ↓o_ld, ↓o_ldf, isP, ↓o_bld, ↓o_len, ↓o_mkf, ↓o_nilc, ↓o_fa, ↓o_fd, ↓o_ia, ↓o_iaa, ↓o_ix, ↓o_ixs, ↓o_ext, ↓o_al, ↓o_bxf, ↓o_bxt, ↓o_bsl, ↓o_bslf, chunks, ↓o_mks, ↓o_st, ↓o_stf, ↓o_call, ↓o_rng, ↓o_nxt, rngV, next_is, next_iter, ↓o_callm, ↓o_callmA, ↓o_calvm, ↓o_calv, val_some, new_some, st_some, stf_some, guard_tt, guard_ff, guard_tf, guard_ft, guard_un, ↓cond_true, ↓cond_false, calv_fn, put_some, put_none, ev_tmp, ev_const, ev_func, ↓upd_get, sig_eq, sigF_nil, ↓sigF_cons, q0, q1, nilcV, faV, fdV, iaaV, ixV, ixsV, extV, mksV, loadP, storeP, binPV, unPV, intBin, partsP, fillP, zeros, PV.good, PV.cellsOf, PV.one, q2, q3, q4, q5, q6, q7, q8, q9, q10, q11, q12, q13, q14, Nat.reduceAdd, Nat.reduceMul, Nat.reduceSub, Nat.reduceLeDiff, Nat.reduceEqDiff, Nat.reduceBEq, q15, q16, q17, q18, ↓reduceIte, reduceCtorEq, q19, q20, q21, q22, q23, q24, q25, q26, q27, q28, q29, q30, q31, q32, q33, q34, q35, q36, q37, q38, wrap64, ↓o_eqa, ↓o_mm, ↓o_app, app_some, mmL, mmV, mm2, eqE, eqParts, eqInt, eqBool, eqStr, partV, q39, q40, pickV, q41, Int.reduceEq, Int.reduceLE, Int.reduceLT, Int.reduceAdd, Int.reduceSub, Int.reduceNeg, Int.reduceToNat, Int.reduceNe, q42, q43, q44, q45, q46, q47, q48, q49, appE, oldOf, rowOf, updL, q50, q51, q52, q53, Nat.reducePow, zlt, ovr_get, Nat.reduceShiftRight, Nat.reduceMod, ite_neN, ite_eqN, q54, q55, q56, q57, q58, q59, q60, q61, q62, q63, q64, q65, q66, q67, tailP_f, tailP_t, tailF_f, tailF_t, ↓o_slc, slcP, bndO, capO, slcLen, intOf, Option.isSome_none, Option.isNone_none, Option.isSome_some, Option.isNone_some, nilP, slc_sl, slc_csl, slc_osl, slc_osl0, slc_ocap, slc_str, appR, appS, ↓o_apps, ↓o_cvt, cvP, shiftB, false_or, pv_len, pv_take, Nat.add_assoc, tm_len, tm_take, pv_one, tm_one, tpvB_len, tpvB_take, tpvB_one, pvB_len, pvB_take, pvB_one, List.length_append, id_ne, id_ne', id_ne2, List.append_nil, List.append_assoc, lenPV_slB, iaV_slB_f, iaV_slB_t, mc_term_same, Tm.pvB, strBin, fold_sameB, *])
        all_goals (try (refine fin_tmp (.inr rfl) ?_; simp [upd, Tm.same, sameT, *]; done))
        · rename_i q
          refine fin_tmp (.inr rfl) ?_
          have q' : (decide (ls.length = ls'.length) && (decide (xs.length = ys.length) && (sameL ls ls' && sameT xs ys))) = false := by
            rw [Bool.and_eq_false_iff] at q ⊢
            rcases q with q | q
            · exact .inl q
            · right; simp [q]
          simp only [Tm.same, q']
          simp [upd]
        · rename_i u4 u3 u2 u1 u0
          clear u0
          simp only [Bool.and_eq_true, decide_eq_true_eq] at u1
          have hall : Kept (sameT xs ys = true → (Tm.mk k' n' s ls xs).same (Tm.mk k' n' s' ls' ys) = true) := Kept.mk fun h => by simp [Tm.same, *]
          have hno : Kept (sameT xs ys = false → (Tm.mk k' n' s ls xs).same (Tm.mk k' n' s' ls' ys) = false) := Kept.mk fun h => by simp [Tm.same, *]
          refine o_peq (f := f) (g := g) (cs := (xs.map (Tm.pvB f)).flatten) (ds := (ys.map (Tm.pvB g)).flatten) (n := 4) rfl rfl Try.underlying67 (by kernel_rfl) (by (simp (disch := omega) only [go_sem, Nat.reduceMul, Nat.reduceSub, Nat.reduceShiftRight, Nat.reduceMod, Nat.reduceEqDiff, Nat.reduceAdd, ↓reduceIte, Nat.reduceLeDiff, ev_tmp, ptrOf_B])) (by (simp (disch := omega) only [go_sem, Nat.reduceMul, Nat.reduceSub, Nat.reduceShiftRight, Nat.reduceMod, Nat.reduceEqDiff, Nat.reduceAdd, ↓reduceIte, Nat.reduceLeDiff, ev_tmp, ptrOf_B])) hfg (flat_ne (tpvB_len f) h00) (flat_ne (tpvB_len g) (by omega)) fun t ht => ?_
          clear u1 u2 hc1
          cases t with
          | true =>
            have hx := meet_tms hl (ht rfl)
            have hrf := hall.out (by rw [hx]; exact sameT_refl ys)
            clear ih' ht hall hno hx
            repeat' (first | ((with_reducible first | refine wA (by omega) ?_ | refine wB (by omega) ?_ | refine wC (by omega) ?_ | refine wD (by omega) ?_ | refine wE ?_ ?_ | refine wF ?_ ?_ | refine wG ?_ ?_ | refine wH ?_ ?_ | refine wI ?_ ?_ | refine wJ ?_ ?_ | refine wK ?_ ?_ | refine wL ?_ ?_) <;> intro _) | simp (maxSteps := 1000000) (disch := omega) only [↓c_seq, ↓c_region, ↓c_cond, ↓c_block, ↓c_ret, ↓c_skip, ↓c_exit, ↓c_cont, ↓t_normal, ↓t_ret, ↓t_exit, ↓b_normal, ↓b_ret, ↓b_exit, ↓run_nil, ↓run_cons, num_nil, num_cons, ↓g_some, ↓o_mv, ↓o_pick, ↓o_bin, ↓o_un, ↓o_ld, ↓o_ldf, isP, ↓o_bld, ↓o_len, ↓o_mkf, ↓o_nilc, ↓o_fa, ↓o_fd, ↓o_ia, ↓o_iaa, ↓o_ix, ↓o_ixs, ↓o_ext, ↓o_al, ↓o_bxf, ↓o_bxt, ↓o_bsl, ↓o_bslf, chunks, ↓o_mks, ↓o_st, ↓o_stf, ↓o_call, ↓o_rng, ↓o_nxt, rngV, next_is, next_iter, ↓o_callm, ↓o_callmA, ↓o_calvm, ↓o_calv, val_some, new_some, st_some, stf_some, guard_tt, guard_ff, guard_tf, guard_ft, guard_un, ↓cond_true, ↓cond_false, calv_fn, put_some, put_none, ev_tmp, ev_const, ev_func, ↓upd_get, sig_eq, sigF_nil, ↓sigF_cons, q0, q1, nilcV, faV, fdV, iaaV, ixV, ixsV, extV, mksV, loadP, storeP, binPV, unPV, intBin, partsP, fillP, zeros, PV.good, PV.cellsOf, PV.one, q2, q3, q4, q5, q6, q7, q8, q9, q10, q11, q12, q13, q14, Nat.reduceAdd, Nat.reduceMul, Nat.reduceSub, Nat.reduceLeDiff, Nat.reduceEqDiff, Nat.reduceBEq, q15, q16, q17, q18, ↓reduceIte, reduceCtorEq, q19, q20, q21, q22, q23, q24, q25, q26, q27, q28, q29, q30, q31, q32, q33, q34, q35, q36, q37, q38, wrap64, ↓o_eqa, ↓o_mm, ↓o_app, app_some, mmL, mmV, mm2, eqE, eqParts, eqInt, eqBool, eqStr, partV, q39, q40, pickV, q41, Int.reduceEq, Int.reduceLE, Int.reduceLT, Int.reduceAdd, Int.reduceSub, Int.reduceNeg, Int.reduceToNat, Int.reduceNe, q42, q43, q44, q45, q46, q47, q48, q49, appE, oldOf, rowOf, updL, q50, q51, q52, q53, Nat.reducePow, zlt, ovr_get, Nat.reduceShiftRight, Nat.reduceMod, ite_neN, ite_eqN, q54, q55, q56, q57, q58, q59, q60, q61, q62, q63, q64, q65, q66, q67, tailP_f, tailP_t, tailF_f, tailF_t, ↓o_slc, slcP, bndO, capO, slcLen, intOf, Option.isSome_none, Option.isNone_none, Option.isSome_some, Option.isNone_some, nilP, slc_sl, slc_csl, slc_osl, slc_osl0, slc_ocap, slc_str, appR, appS, ↓o_apps, ↓o_cvt, cvP, shiftB, false_or, pv_len, pv_take, Nat.add_assoc, tm_len, tm_take, pv_one, tm_one, tpvB_len, tpvB_take, tpvB_one, pvB_len, pvB_take, pvB_one, List.length_append, id_ne, id_ne', id_ne2, List.append_nil, List.append_assoc, lenPV_slB, iaV_slB_f, iaV_slB_t, *])
            refine fin_tmp (.inr rfl) ?_
            simp [upd, hrf]
          | false =>
            clear ht eg eg2
            repeat' (first | ((with_reducible first | refine wA (by omega) ?_ | refine wB (by omega) ?_ | refine wC (by omega) ?_ | refine wD (by omega) ?_ | refine wE ?_ ?_ | refine wF ?_ ?_ | refine wG ?_ ?_ | refine wH ?_ ?_ | refine wI ?_ ?_ | refine wJ ?_ ?_ | refine wK ?_ ?_ | refine wL ?_ ?_) <;> intro _) | simp (maxSteps := 1000000) (disch := omega) only [↓c_seq, ↓c_region, ↓c_cond, ↓c_block, ↓c_ret, ↓c_skip, ↓c_exit, ↓c_cont, ↓t_normal, ↓t_ret, ↓t_exit, ↓b_normal, ↓b_ret, ↓b_exit, ↓run_nil, ↓run_cons, num_nil, num_cons, ↓g_some, ↓o_mv, ↓o_pick, ↓o_bin, ↓o_un, ↓o_ld, ↓o_ldf, isP, ↓o_bld, ↓o_len, ↓o_mkf, ↓o_nilc, ↓o_fa, ↓o_fd, ↓o_ia, ↓o_iaa, ↓o_ix, ↓o_ixs, ↓o_ext, ↓o_al, ↓o_bxf, ↓o_bxt, ↓o_bsl, ↓o_bslf, chunks, ↓o_mks, ↓o_st, ↓o_stf, ↓o_call, ↓o_rng, ↓o_nxt, rngV, next_is, next_iter, ↓o_callm, ↓o_callmA, ↓o_calvm, ↓o_calv, val_some, new_some, st_some, stf_some, guard_tt, guard_ff, guard_tf, guard_ft, guard_un, ↓cond_true, ↓cond_false, calv_fn, put_some, put_none, ev_tmp, ev_const, ev_func, ↓upd_get, sig_eq, sigF_nil, ↓sigF_cons, q0, q1, nilcV, faV, fdV, iaaV, ixV, ixsV, extV, mksV, loadP, storeP, binPV, unPV, intBin, partsP, fillP, zeros, PV.good, PV.cellsOf, PV.one, q2, q3, q4, q5, q6, q7, q8, q9, q10, q11, q12, q13, q14, Nat.reduceAdd, Nat.reduceMul, Nat.reduceSub, Nat.reduceLeDiff, Nat.reduceEqDiff, Nat.reduceBEq, q15, q16, q17, q18, ↓reduceIte, reduceCtorEq, q19, q20, q21, q22, q23, q24, q25, q26, q27, q28, q29, q30, q31, q32, q33, q34, q35, q36, q37, q38, wrap64, ↓o_eqa, ↓o_mm, ↓o_app, app_some, mmL, mmV, mm2, eqE, eqParts, eqInt, eqBool, eqStr, partV, q39, q40, pickV, q41, Int.reduceEq, Int.reduceLE, Int.reduceLT, Int.reduceAdd, Int.reduceSub, Int.reduceNeg, Int.reduceToNat, Int.reduceNe, q42, q43, q44, q45, q46, q47, q48, q49, appE, oldOf, rowOf, updL, q50, q51, q52, q53, Nat.reducePow, zlt, ovr_get, Nat.reduceShiftRight, Nat.reduceMod, ite_neN, ite_eqN, q54, q55, q56, q57, q58, q59, q60, q61, q62, q63, q64, q65, q66, q67, tailP_f, tailP_t, tailF_f, tailF_t, ↓o_slc, slcP, bndO, capO, slcLen, intOf, Option.isSome_none, Option.isNone_none, Option.isSome_some, Option.isNone_some, nilP, slc_sl, slc_csl, slc_osl, slc_osl0, slc_ocap, slc_str, appR, appS, ↓o_apps, ↓o_cvt, cvP, shiftB, false_or, pv_len, pv_take, Nat.add_assoc, tm_len, tm_take, pv_one, tm_one, tpvB_len, tpvB_take, tpvB_one, pvB_len, pvB_take, pvB_one, List.length_append, id_ne, id_ne', id_ne2, List.append_nil, List.append_assoc, lenPV_slB, iaV_slB_f, iaV_slB_t, *])
            refine c_loopW 20282332232399215087680070090800 (by kernel_rfl) (fun j F H m => ∃ i : Nat, j = xs.length - i ∧ i ≤ xs.length ∧ F 86 = .sc (.int .i64 i) ∧ sameT (xs.take i) (ys.take i) = true) _ ⟨0, rfl, Nat.zero_le _, by simp [upd], rfl⟩ ?_
            rintro _ F H m ⟨i, rfl, hi, e86, hs⟩
            by_cases hlt : i < xs.length
            · have hlt2 : i < ys.length := by omega
              have eg : xs[i]? = some xs[i] := List.getElem?_eq_getElem hlt
              have eg2 : ys[i]? = some ys[i] := List.getElem?_eq_getElem hlt2
              have hn := sizeL_mem xs i hlt
              have ht := sameT_take xs ys i hlt hlt2
              have hq := sameT_false xs ys i hlt hlt2
              have hc := ih'.out xs[i] ys[i] (by omega)
              have ht' := Kept.mk ht
              have hq' := Kept.mk hq
              have hl' := Kept.mk hl
              clear ih' ht hq
              repeat' (first | ((with_reducible first | refine wA (by omega) ?_ | refine wB (by omega) ?_ | refine wC (by omega) ?_ | refine wD (by omega) ?_ | refine wE ?_ ?_ | refine wF ?_ ?_ | refine wG ?_ ?_ | refine wH ?_ ?_ | refine wI ?_ ?_ | refine wJ ?_ ?_ | refine wK ?_ ?_ | refine wL ?_ ?_) <;> intro _) | (((with_reducible refine call_id ?_); (first | (refine call_pure (hc) ?_)))) | simp (maxSteps := 1000000) (disch := omega) only [↓c_seq, ↓c_region, ↓c_cond, ↓c_block, ↓c_ret, ↓c_skip, ↓c_exit, ↓c_cont, ↓t_normal, ↓t_ret, ↓t_exit, ↓b_normal, ↓b_ret, ↓b_exit, ↓run_nil, ↓run_cons, num_nil, num_cons, ↓g_some, ↓o_mv, ↓o_pick, ↓o_bin, ↓o_un, ↓o_ld, ↓o_ldf, isP, ↓o_bld, ↓o_len, ↓o_mkf, ↓o_nilc, ↓o_fa, ↓o_fd, ↓o_ia, ↓o_iaa, ↓o_ix, ↓o_ixs, ↓o_ext, ↓o_al, ↓o_bxf, ↓o_bxt, ↓o_bsl, ↓o_bslf, chunks, ↓o_mks, ↓o_st, ↓o_stf, ↓o_call, ↓o_rng, ↓o_nxt, rngV, next_is, next_iter, ↓o_callm, ↓o_callmA, ↓o_calvm, ↓o_calv, val_some, new_some, st_some, stf_some, guard_tt, guard_ff, guard_tf, guard_ft, guard_un, ↓cond_true, ↓cond_false, calv_fn, put_some, put_none, ev_tmp, ev_const, ev_func, ↓upd_get, sig_eq, sigF_nil, ↓sigF_cons, q0, q1, nilcV, faV, fdV, iaaV, ixV, ixsV, extV, mksV, loadP, storeP, binPV, unPV, intBin, partsP, fillP, zeros, PV.good, PV.cellsOf, PV.one, q2, q3, q4, q5, q6, q7, q8, q9, q10, q11, q12, q13, q14, Nat.reduceAdd, Nat.reduceMul, Nat.reduceSub, Nat.reduceLeDiff, Nat.reduceEqDiff, Nat.reduceBEq, q15, q16, q17, q18, ↓reduceIte, reduceCtorEq, q19, q20, q21, q22, q23, q24, q25, q26, q27, q28, q29, q30, q31, q32, q33, q34, q35, q36, q37, q38, wrap64, ↓o_eqa, ↓o_mm, ↓o_app, app_some, mmL, mmV, mm2, eqE, eqParts, eqInt, eqBool, eqStr, partV, q39, q40, pickV, q41, Int.reduceEq, Int.reduceLE, Int.reduceLT, Int.reduceAdd, Int.reduceSub, Int.reduceNeg, Int.reduceToNat, Int.reduceNe, q42, q43, q44, q45, q46, q47, q48, q49, appE, oldOf, rowOf, updL, q50, q51, q52, q53, Nat.reducePow, zlt, ovr_get, Nat.reduceShiftRight, Nat.reduceMod, ite_neN, ite_eqN, q54, q55, q56, q57, q58, q59, q60, q61, q62, q63, q64, q65, q66, q67, tailP_f, tailP_t, tailF_f, tailF_t, ↓o_slc, slcP, bndO, capO, slcLen, intOf, Option.isSome_none, Option.isNone_none, Option.isSome_some, Option.isNone_some, nilP, slc_sl, slc_csl, slc_osl, slc_osl0, slc_ocap, slc_str, appR, appS, ↓o_apps, ↓o_cvt, cvP, shiftB, false_or, pv_len, pv_take, Nat.add_assoc, tm_len, tm_take, pv_one, tm_one, tpvB_len, tpvB_take, tpvB_one, pvB_len, pvB_take, pvB_one, List.length_append, id_ne, id_ne', id_ne2, List.append_nil, List.append_assoc, lenPV_slB, iaV_slB_f, iaV_slB_t, *])
              · rename_i q
                have hqq := hno.out (hq'.out q)
                refine fin_tmp (.inr rfl) ?_
                simp [upd, hqq]
              · rename_i q
                refine Nx.mk (xs.length - (i + 1)) cE1 ⟨i + 1, cE1, cE1, cE1, by rw [ht'.out, hs, q]; rfl⟩
            · obtain rfl : i = xs.length := by omega
              have e : ys.take xs.length = ys := List.take_of_length_le (by omega)
              rw [List.take_length, e] at hs
              have hrf := hall.out hs
              clear ih' hall hno
              repeat' (first | ((with_reducible first | refine wA (by omega) ?_ | refine wB (by omega) ?_ | refine wC (by omega) ?_ | refine wD (by omega) ?_ | refine wE ?_ ?_ | refine wF ?_ ?_ | refine wG ?_ ?_ | refine wH ?_ ?_ | refine wI ?_ ?_ | refine wJ ?_ ?_ | refine wK ?_ ?_ | refine wL ?_ ?_) <;> intro _) | simp (maxSteps := 1000000) (disch := omega) only [↓c_seq, ↓c_region, ↓c_cond, ↓c_block, ↓c_ret, ↓c_skip, ↓c_exit, ↓c_cont, ↓t_normal, ↓t_ret, ↓t_exit, ↓b_normal, ↓b_ret, ↓b_exit, ↓run_nil, ↓run_cons, num_nil, num_cons, ↓g_some, ↓o_mv, ↓o_pick, ↓o_bin, ↓o_un, ↓o_ld, ↓o_ldf, isP, ↓o_bld, ↓o_len, ↓o_mkf, ↓o_nilc, ↓o_fa, ↓o_fd, ↓o_ia, ↓o_iaa, ↓o_ix, ↓o_ixs, ↓o_ext, ↓o_al, ↓o_bxf, ↓o_bxt, ↓o_bsl, ↓o_bslf, chunks, ↓o_mks, ↓o_st, ↓o_stf, ↓o_call, ↓o_rng, ↓o_nxt, rngV, next_is, next_iter, ↓o_callm, ↓o_callmA, ↓o_calvm, ↓o_calv, val_some, new_some, st_some, stf_some, guard_tt, guard_ff, guard_tf, guard_ft, guard_un, ↓cond_true, ↓cond_false, calv_fn, put_some, put_none, ev_tmp, ev_const, ev_func, ↓upd_get, sig_eq, sigF_nil, ↓sigF_cons, q0, q1, nilcV, faV, fdV, iaaV, ixV, ixsV, extV, mksV, loadP, storeP, binPV, unPV, intBin, partsP, fillP, zeros, PV.good, PV.cellsOf, PV.one, q2, q3, q4, q5, q6, q7, q8, q9, q10, q11, q12, q13, q14, Nat.reduceAdd, Nat.reduceMul, Nat.reduceSub, Nat.reduceLeDiff, Nat.reduceEqDiff, Nat.reduceBEq, q15, q16, q17, q18, ↓reduceIte, reduceCtorEq, q19, q20, q21, q22, q23, q24, q25, q26, q27, q28, q29, q30, q31, q32, q33, q34, q35, q36, q37, q38, wrap64, ↓o_eqa, ↓o_mm, ↓o_app, app_some, mmL, mmV, mm2, eqE, eqParts, eqInt, eqBool, eqStr, partV, q39, q40, pickV, q41, Int.reduceEq, Int.reduceLE, Int.reduceLT, Int.reduceAdd, Int.reduceSub, Int.reduceNeg, Int.reduceToNat, Int.reduceNe, q42, q43, q44, q45, q46, q47, q48, q49, appE, oldOf, rowOf, updL, q50, q51, q52, q53, Nat.reducePow, zlt, ovr_get, Nat.reduceShiftRight, Nat.reduceMod, ite_neN, ite_eqN, q54, q55, q56, q57, q58, q59, q60, q61, q62, q63, q64, q65, q66, q67, tailP_f, tailP_t, tailF_f, tailF_t, ↓o_slc, slcP, bndO, capO, slcLen, intOf, Option.isSome_none, Option.isNone_none, Option.isSome_some, Option.isNone_some, nilP, slc_sl, slc_csl, slc_osl, slc_osl0, slc_ocap, slc_str, appR, appS, ↓o_apps, ↓o_cvt, cvP, shiftB, false_or, pv_len, pv_take, Nat.add_assoc, tm_len, tm_take, pv_one, tm_one, tpvB_len, tpvB_take, tpvB_one, pvB_len, pvB_take, pvB_one, List.length_append, id_ne, id_ne', id_ne2, List.append_nil, List.append_assoc, lenPV_slB, iaV_slB_f, iaV_slB_t, *])
              refine fin_tmp (.inr rfl) ?_
              simp [upd, hrf]
      · clear ih
        repeat' (first | ((with_reducible first | refine wA (by omega) ?_ | refine wB (by omega) ?_ | refine wC (by omega) ?_ | refine wD (by omega) ?_ | refine wE ?_ ?_ | refine wF ?_ ?_ | refine wG ?_ ?_ | refine wH ?_ ?_ | refine wI ?_ ?_ | refine wJ ?_ ?_ | refine wK ?_ ?_ | refine wL ?_ ?_) <;> intro _) | (((with_reducible refine call_id ?_); (first | (refine call_pure (hc1) ?_)))) | simp (maxSteps := 1000000) (disch := omega) only [↓c_seq, ↓c_region, ↓c_cond, ↓c_block, ↓c_ret, ↓c_skip, ↓c_exit, ↓c_cont, ↓t_normal, ↓t_ret, ↓t_exit, ↓b_normal, ↓b_ret, ↓b_exit, ↓run_nil, ↓run_cons, num_nil, num_cons, ↓g_some, ↓o_mv, ↓o_pick, ↓o_bin, ↓o_un, ↓o_ld, ↓o_ldf, isP, ↓o_bld, ↓o_len, ↓o_mkf, ↓o_nilc, ↓o_fa, ↓o_fd, ↓o_ia, ↓o_iaa, ↓o_ix, ↓o_ixs, ↓o_ext, ↓o_al, ↓o_bxf, ↓o_bxt, ↓o_bsl, ↓o_bslf, chunks, ↓o_mks, ↓o_st, ↓o_stf, ↓o_call, ↓o_rng, ↓o_nxt, rngV, next_is, next_iter, ↓o_callm, ↓o_callmA, ↓o_calvm, ↓o_calv, val_some, new_some, st_some, stf_some, guard_tt, guard_ff, guard_tf, guard_ft, guard_un, ↓cond_true, ↓cond_false, calv_fn, put_some, put_none, ev_tmp, ev_const, ev_func, ↓upd_get, sig_eq, sigF_nil, ↓sigF_cons, q0, q1, nilcV, faV, fdV, iaaV, ixV, ixsV, extV, mksV, loadP, storeP, binPV, unPV, intBin, partsP, fillP, zeros, PV.good, PV.cellsOf, PV.one, q2, q3, q4, q5, q6, q7, q8, q9, q10, q11, q12, q13, q14, Nat.reduceAdd, Nat.reduceMul, Nat.reduceSub, Nat.reduceLeDiff, Nat.reduceEqDiff, Nat.reduceBEq, q15, q16, q17, q18, ↓reduceIte, reduceCtorEq, q19, q20, q21, q22, q23, q24, q25, q26, q27, q28, q29, q30, q31, q32, q33, q34, q35, q36, q37, q38, wrap64, ↓o_eqa, ↓o_mm, ↓o_app, app_some, mmL, mmV, mm2, eqE, eqParts, eqInt, eqBool, eqStr, partV, q39, q40, pickV, q41, Int.reduceEq, Int.reduceLE, Int.reduceLT, Int.reduceAdd, Int.reduceSub, Int.reduceNeg, Int.reduceToNat, Int.reduceNe, q42, q43, q44, q45, q46, q47, q48, q49, appE, oldOf, rowOf, updL, q50, q51, q52, q53, Nat.reducePow, zlt, ovr_get, Nat.reduceShiftRight, Nat.reduceMod, ite_neN, ite_eqN, q54, q55, q56, q57, q58, q59, q60, q61, q62, q63, q64, q65, q66, q67, tailP_f, tailP_t, tailF_f, tailF_t, ↓o_slc, slcP, bndO, capO, slcLen, intOf, Option.isSome_none, Option.isNone_none, Option.isSome_some, Option.isNone_some, nilP, slc_sl, slc_csl, slc_osl, slc_osl0, slc_ocap, slc_str, appR, appS, ↓o_apps, ↓o_cvt, cvP, shiftB, false_or, pv_len, pv_take, Nat.add_assoc, tm_len, tm_take, pv_one, tm_one, tpvB_len, tpvB_take, tpvB_one, pvB_len, pvB_take, pvB_one, List.length_append, id_ne, id_ne', id_ne2, List.append_nil, List.append_assoc, lenPV_slB, iaV_slB_f, iaV_slB_t, mc_term_same, Tm.pvB, strBin, fold_sameB, *])
        all_goals (try (refine fin_tmp (.inr rfl) ?_; simp [upd, Tm.same, sameT, *]; done))
end
section
set_option maxRecDepth 20000
attribute [local go_sem] pv_len pv_take Nat.add_assoc tm_len tm_take pv_one tm_one tpvB_len tpvB_take tpvB_one pvB_len pvB_take pvB_one id_ne id_ne' id_ne2 List.append_assoc
abbrev emp : ByteArray := ⟨#[]⟩
theorem tm_take_app (l : Tm) (r : List PV) : (l.pv ++ r).take 5 = l.pv := List.take_left' (tm_len l)
attribute [local go_sem] tm_take_app
theorem tm_drop_app (l : Tm) (r : List PV) : (l.pv ++ r).drop 5 = r := List.drop_left' (tm_len l)
attribute [local go_sem] tm_drop_app
end
section
set_option maxRecDepth 20000
attribute [local go_sem] pv_len pv_take Nat.add_assoc tm_len tm_take pv_one tm_one tpvB_len tpvB_take tpvB_one pvB_len pvB_take pvB_one id_ne id_ne' id_ne2 List.append_assoc
mutual
def Tm.lift (by_ : Int) : Int → Tm → Tm
  | frm, .mk k n s ls args => .mk k (if k = 1 ∧ frm ≤ n then n + by_ else n) s ls (liftA by_ frm k args.length 0 args)
def liftA (by_ : Int) : Int → Int → Nat → Nat → List Tm → List Tm
  | _, _, _, _, [] => []
  | frm, kind, len, i, x :: r => x.lift by_ (frm + deepB kind len i) :: liftA by_ frm kind len (i + 1) r
end
end
section
mutual
def Tm.pre : Tm → List Tm
  | .mk k n s ls args => .mk k n s ls args :: preL args
def preL : List Tm → List Tm
  | [] => []
  | t :: r => t.pre ++ preL r
end
theorem preL_append : ∀ xs ys : List Tm, preL (xs ++ ys) = preL xs ++ preL ys
  | [], ys => by simp [preL]
  | x :: r, ys => by simp [preL, preL_append r ys]
theorem preL_take (args : List Tm) (i : Nat) (h : i < args.length) : preL (args.take (i + 1)) = preL (args.take i) ++ args[i].pre := by
  rw [List.take_succ_eq_append_getElem h, preL_append]
  simp [preL]
def nodePV (t : Tm) : PV := .ptr t.pv
theorem sl_part {V : Vw} {sz : Nat} {es : List (List PV)} {v : Value} (h : Rep V (.sl sz es) v) :
    ∃ A cap, v = .slice A es.length cap ∧ es.length ≤ maxLen ∧ ∀ i x, es[i]? = some x → ∃ b off, A = some ⟨b, off, none⟩ ∧ Rep V (.ptr x) (.pointer (some ⟨b, off + i * sz, none⟩)) := by
  cases h with
  | slNil _ A cap hc => exact ⟨A, cap, rfl, Nat.zero_le _, fun i x hx => by simp at hx⟩
  | sl _ _ b off len cap hlen hs h1 h2 hp =>
    refine ⟨some ⟨b, off, none⟩, cap, by rw [hlen], by omega, fun i x hx => ⟨b, off, rfl, ?_⟩⟩
    obtain ⟨b', off', vs, e, hok, hr, hc⟩ := hp.ptr_inv
    cases e
    have hil : i < es.length := (List.getElem?_eq_some_iff.1 hx).1
    have hex : es[i] = x := (List.getElem?_eq_some_iff.1 hx).2
    have hx5 : x.length = sz := hs x (hex ▸ List.getElem_mem hil)
    have key : ∀ (es : List (List PV)) (i : Nat) (x : List PV), (∀ e ∈ es, e.length = sz) → es[i]? = some x → (es.flatten.drop (i * sz)).take sz = x := by
      intro es
      induction es with
      | nil => intro i x _ h; simp at h
      | cons e r ih =>
        intro i x hs h
        have he : e.length = sz := hs e (by simp)
        cases i with
        | zero =>
          simp only [List.getElem?_cons_zero, Option.some.injEq] at h
          subst h
          simp [← he]
        | succ i =>
          rw [List.flatten_cons, Nat.succ_mul, Nat.add_comm, ← List.drop_drop, show sz = e.length from he.symm, List.drop_left, he]
          exact ih i x (fun y hy => hs y (by simp [hy])) (by simpa using h)
    have h3 := (hr.drop (i * sz)).take sz
    rw [key es i x hs hx] at h3
    refine .ptr_mk hok h3 fun j u hu => ?_
    rw [List.getElem?_take] at hu
    split at hu
    · rw [List.getElem?_drop] at hu
      have := hc _ u hu
      rw [show off + i * sz + j = off + (i * sz + j) by omega]
      exact this
    · cases hu
theorem rounds_key {F : Fence} {n : Nat} {P : Program} {c : Code} {Q : Exit → Act → World → Prop} {N : Nat} (I : Nat → Act → World → Prop) (hstep : ∀ i a W, i < N → I i a W → c.wpIn F n P (Exit.then (I (i + 1)) Q) a W)
    (hend : ∀ a W, I N a W → c.wpIn F n P (Exit.then (fun _ _ => False) Q) a W) : ∀ k i a W, i + k = N → I i a W → Code.roundsIn F n P c Q (k + 1) a W := by
  intro k
  induction k with
  | zero =>
    intro i a W hi h
    obtain rfl : i = N := by omega
    exact hend a W h
  | succ k ih =>
    intro i a W hi h
    rw [roundsIn_succ]
    refine wpIn_mono (hstep i a W (by omega) h) fun e a' W' hp => ?_
    cases e with
    | normal => exact ih (i + 1) a' W' (by omega) hp
    | _ => exact hp
abbrev El (V : Vw) (xs : List PV) := { y : PV × Value // y.1 ∈ xs ∧ Rep V y.1 y.2 }
theorem RoundIn.any {Fc : Fence} (hd : Fc.depth = none) {m m' : Nat} {P : Program} {l : Nat} {f : FuncId} {tmps : Array Value} {assign body : Code} {w : World} {R : Ending → World → Prop}
    (h : RoundIn Fc m P l f tmps assign body w R) : RoundIn Fc m' P l f tmps assign body w R := ⟨h.1, fun c cs _ => h.2 c cs (fun d h => by rw [hd] at h; cases h)⟩
theorem YieldAt.any {Fc : Fence} (hd : Fc.depth = none) {m : Nat} (m' : Nat) {P : Program} {l : Nat} {args : Array Value} {W : World} {R : Ending → World → Prop} (h : YieldAt Fc m P l args W R) : YieldAt Fc m' P l args W R := by
  obtain ⟨fn, tmps, assign, body, hy, hR⟩ := h
  exact ⟨fn, tmps, assign, body, hy, RoundIn.any hd hR⟩
set_option maxRecDepth 100000 in
set_option maxHeartbeats 4000000 in
theorem walkNodes0 (V : Vw) (xs : List PV) (l N : Nat) (J Jx : List (El V xs) → World → Prop)
    (hY : ∀ m pre (x : El V xs) W, J pre W → pre.length < N → YieldAt Fence.wide m Try.prog l #[x.1.2] W fun e W' => (e = .returned (.bool true) ∧ J (pre ++ [x]) W' ∧ ∀ b, V.ok b → W'.heap[b]? = W.heap[b]?) ∨ (e = .returned (.bool false) ∧ Jx (pre ++ [x]) W')) :
    ∀ (fuel : Nat) (t : Tm), t.size ≤ fuel → ∀ (n : Nat) (p : Value) (pre : List (El V xs)) (W : World), Rep V (.ptr t.pv) p → (∀ u ∈ t.pre, nodePV u ∈ xs) → (∀ b, V.ok b → W.heap[b]? = V.w.heap[b]?) → J pre W → pre.length + t.pre.length ≤ N →
      CallsIn Fence.wide n Try.prog F.term_walk #[p, .func (.yield l) #[] #[]] W fun e W' =>
        (e = .returned (.bool true) ∧ ∃ ys : List (El V xs), ys.map (·.1.1) = t.pre.map nodePV ∧ J (pre ++ ys) W' ∧ ∀ b, V.ok b → W'.heap[b]? = V.w.heap[b]?) ∨
        (e = .returned (.bool false) ∧ ∃ ys : List (El V xs), ys.map (·.1.1) <+: t.pre.map nodePV ∧ Jx (pre ++ ys) W') := by
  have hdd : ∀ k : Nat, (Fence.wide.depth.isSome = true → 1 ≤ k) := fun k h => by cases h
  intro fuel
  induction fuel with
  | zero => intro t h; have := size_pos t; omega
  | succ fuel ih =>
    intro t hf n p pre W hp hxs hW hJ hN
    cases t with
    | mk k nn s ls args =>
    simp only [Tm.size] at hf
    simp only [Tm.pre, List.length_cons] at hN
    have hp0 := hp
    obtain ⟨b, off, vs, rfl, hok, hr, hc⟩ := hp.ptr_inv
    obtain ⟨v4, hv4, hr4⟩ := hr.get (i := 4) (x := .sl 5 (args.map Tm.pv)) (by rw [Tm.pv]; rfl)
    obtain ⟨A, cap, rfl, hmax, hpart⟩ := sl_part hr4
    rw [List.length_map] at hmax
    have hcell : ∀ W' : World, (∀ b, V.ok b → W'.heap[b]? = V.w.heap[b]?) → W'.cell? ⟨b, off + 4, none⟩ = some (.slice A (args.map Tm.pv).length cap) := fun W' h => (World.cell?_of_block (w := V.w) (w' := W') (a := ⟨b, off + 4, none⟩) (h b hok)).trans (hc 4 _ hv4)
    have hY0 := hY (n - 1) pre ⟨(nodePV (.mk k nn s ls args), .pointer (some ⟨b, off, none⟩)), hxs _ (by simp [Tm.pre]), hp0⟩ W hJ (by omega)
    obtain ⟨fn, tmps, assign, body, hy, hR⟩ := YieldAt.mono (R' := fun e W1 => (e = .returned (.bool true) ∧ W1.cell? ⟨b, off + 4, none⟩ = some (.slice A (args.map Tm.pv).length cap) ∧ (∃ ys : List (El V xs), ys.map (·.1.1) = [nodePV (.mk k nn s ls args)] ∧ J (pre ++ ys) W1) ∧ ∀ b, V.ok b → W1.heap[b]? = V.w.heap[b]?) ∨
      (e = .returned (.bool false) ∧ ∃ ys : List (El V xs), ys.map (·.1.1) = [nodePV (.mk k nn s ls args)] ∧ Jx (pre ++ ys) W1)) hY0 (fun e W1 h => h.elim (fun ⟨he, h1, h2⟩ => .inl ⟨he, hcell W1 fun b hb => (h2 b hb).trans (hW b hb), ⟨_, rfl, h1⟩, fun b hb => (h2 b hb).trans (hW b hb)⟩) fun ⟨he, h1⟩ => .inr ⟨he, _, rfl, h1⟩)
    clear hY0
    refine callsIn_of_wp Try.func96 rfl trivial ?_ rfl
    simp only [Try.ntmps96, List.size_toArray, List.length_cons, List.length_nil, Nat.reduceAdd, Nat.reduceSub, Array.replicate_succ, Array.replicate_zero, List.push_toArray, List.append_toArray, List.nil_append, List.cons_append]
    gi_wp2_with ((try refine ⟨hdd _, ?_⟩); refine hR.mono ?_; clear hR; rintro e W1 (⟨rfl, c4, hj1, hk1⟩ | ⟨rfl, hx1⟩))
    · refine wpIn_loop_rounds (args.length + 1) (rounds_key (N := args.length) (fun i a W => ∃ x2 x3 x4 x5 x6 x7 x8 x9 x10 x11 x12 x13 x16 x17 x18 x19 x20 x21 x22 x23 x24 x25 x26 x27, a = ⟨#[.pointer (some ⟨b, off, none⟩), .func (.yield l) #[] #[], x2, x3, x4, x5, x6, x7, x8, x9, x10, x11, x12, x13, .int .i64 (args.length : Int), .int .i64 (i : Int), x16, x17, x18, x19, x20, x21, x22, x23, x24, x25, x26, x27], []⟩ ∧ (∃ ys : List (El V xs), ys.map (·.1.1) = (Tm.mk k nn s ls args :: preL (args.take i)).map nodePV ∧ J (pre ++ ys) W) ∧ ∀ b, V.ok b → W.heap[b]? = V.w.heap[b]?) ?step ?fin args.length 0 _ _ (by omega) ?init)
      case init =>
        obtain ⟨ys, h1, h2⟩ := hj1
        exact ⟨_, _, _, _, _, _, _, _, _, _, _, _, _, _, _, _, _, _, _, _, _, _, _, _, rfl, ⟨ys, by simpa [preL] using h1, h2⟩, hk1⟩
      case step =>
        rintro i a W2 hi ⟨x2, x3, x4, x5, x6, x7, x8, x9, x10, x11, x12, x13, x16, x17, x18, x19, x20, x21, x22, x23, x24, x25, x26, x27, rfl, ⟨ys, hys, hj⟩, hk⟩
        obtain ⟨b2, off2, rfl, hpi⟩ := hpart i args[i].pv (by simp [hi])
        have c42 := hcell W2 hk
        rw [List.length_map] at c42
        have hni := sizeL_mem args i hi
        have hlen : ys.length = 1 + (preL (args.take i)).length := by
          have := congrArg List.length hys
          simpa [Nat.add_comm] using this
        have h1 : preL args = preL (args.take i) ++ (args[i].pre ++ preL (args.drop (i + 1))) := by rw [← List.append_assoc, ← preL_take args i hi, ← preL_append, List.take_append_drop]
        have ih1 := ih args[i] (by omega) (n - 1) _ (pre ++ ys) W2 hpi (fun u hu => hxs u (by rw [Tm.pre, h1]; simp [hu])) hk hj (by rw [h1] at hN; simp only [List.length_append] at hN ⊢; omega)
        clear ih
        gi_wp2_with (refine ⟨trivial, hdd _, ?_⟩; refine ih1.mono ?_; clear ih1; rintro e W3 (⟨rfl, ys3, hy3, hj3, hk3⟩ | ⟨rfl, ys3, hy3, hx3⟩))
        · have e1 : ((i + 1 : Nat) : Int) = RowKit.wrap64 ((i : Int) + 1) := by
            have : args.length ≤ 9223372036854775807 := hmax
            unfold RowKit.wrap64
            omega
          rw [e1]
          refine ⟨_, _, _, _, _, _, _, _, _, _, _, _, _, _, _, _, _, _, _, _, _, _, _, _, rfl, ⟨ys ++ ys3, ?_, by rw [← List.append_assoc]; exact hj3⟩, hk3⟩
          rw [List.map_append, hys, hy3, preL_take args i hi]
          simp
        · go_ret
          refine .inr ⟨rfl, ys ++ ys3, ?_, by rw [← List.append_assoc]; exact hx3⟩
          rw [List.map_append, hys, Tm.pre]
          rw [h1]
          obtain ⟨z, hz⟩ := hy3
          exact ⟨z ++ (preL (args.drop (i + 1))).map nodePV, by simp [← hz]⟩
      case fin =>
        rintro a W2 ⟨x2, x3, x4, x5, x6, x7, x8, x9, x10, x11, x12, x13, x16, x17, x18, x19, x20, x21, x22, x23, x24, x25, x26, x27, rfl, ⟨ys, hys, hj⟩, hk⟩
        rw [List.take_length] at hys
        gi_wp2
        go_ret
        exact .inl ⟨rfl, ys, by rw [hys, Tm.pre], hj, hk⟩
    · obtain ⟨ys, h1, h2⟩ := hx1
      go_ret
      exact .inr ⟨rfl, ys, by rw [h1, Tm.pre]; exact ⟨(preL args).map nodePV, by simp⟩, h2⟩
end
section
theorem tlNodes_p : ∀ (fuel : Nat) (l : Lv) (most : Nat), l.nodes ≤ fuel ∨ most ≤ fuel → 1 ≤ most → most ≤ 3000 →
    PPure Try.prog F.term_levelNodes [.ptr l.pv, .sc (.int .i64 most)] (.sc (.int .i64 (min l.nodes most : Nat))) := by
  intro fuel
  induction fuel with
  | zero => intro l most h h1; have := nodes_pos l; omega
  | succ fuel ih =>
    intro l most hf h1 h2
    cases l with
    | mk k n args =>
    simp only [Lv.nodes] at hf
    refine pure_by is_term_levelNodes (by simp) rfl fun hb nx => ?_
    have hb0 : args.length ≤ 9223372036854775807 := by simp [Lv.pv, bndL, PV.bnd] at hb; exact hb.1
    simp (maxSteps := 1000000) (disch := omega) only [go_sem, Nat.reduceAdd, Nat.reduceMul, Nat.reduceSub, Nat.reduceLeDiff, Nat.reduceEqDiff, Nat.reduceBEq, ↓reduceIte, reduceCtorEq, Int.reduceEq, Int.reduceLE, Int.reduceLT, Int.reduceAdd, Int.reduceSub, Int.reduceNeg, Int.reduceToNat, Int.reduceNe, Nat.reducePow, Nat.reduceShiftRight, Nat.reduceMod, mc_term_levelNodes, Lv.pv]
    refine c_loop (fun j s => ∃ i t : Nat, j = args.length - i ∧ i ≤ args.length ∧ t = min (1 + nodesL (args.take i)) most ∧ s.s 0 = .ptr (Lv.mk k n args).pv ∧ s.s 1 = .sc (.int .i64 most) ∧ s.s 5 = .sc (.int .i64 t) ∧ s.s 11 = .sc (.int .i64 args.length) ∧ s.s 12 = .sc (.int .i64 i)) _ ⟨0, 1, rfl, by omega, by simp [nodesL]; omega, by simp [upd, sigF, sig_eq, Lv.pv]⟩ ?_
    rintro _ s ⟨i, t, rfl, hi, ht, e0, e1, e5, e11, e12⟩
    simp (maxSteps := 1000000) (disch := omega) only [go_sem, Nat.reduceAdd, Nat.reduceMul, Nat.reduceSub, Nat.reduceLeDiff, Nat.reduceEqDiff, Nat.reduceBEq, ↓reduceIte, reduceCtorEq, Int.reduceEq, Int.reduceLE, Int.reduceLT, Int.reduceAdd, Int.reduceSub, Int.reduceNeg, Int.reduceToNat, Int.reduceNe, Nat.reducePow, Nat.reduceShiftRight, Nat.reduceMod, Lv.pv, e0, e1, e5, e11, e12]
    by_cases hlt : i < args.length
    · have hs := nodesL_take_succ args i hlt
      have hp := nodes_pos args[i]
      simp (maxSteps := 1000000) (disch := omega) only [go_sem, Nat.reduceAdd, Nat.reduceMul, Nat.reduceSub, Nat.reduceLeDiff, Nat.reduceEqDiff, Nat.reduceBEq, ↓reduceIte, reduceCtorEq, Int.reduceEq, Int.reduceLE, Int.reduceLT, Int.reduceAdd, Int.reduceSub, Int.reduceNeg, Int.reduceToNat, Int.reduceNe, Nat.reducePow, Nat.reduceShiftRight, Nat.reduceMod, hlt, Lv.pv, e0, e1, e5, e11, e12]
      by_cases hfull : most ≤ t
      · simp (maxSteps := 1000000) (disch := omega) only [go_sem, Nat.reduceAdd, Nat.reduceMul, Nat.reduceSub, Nat.reduceLeDiff, Nat.reduceEqDiff, Nat.reduceBEq, ↓reduceIte, reduceCtorEq, Int.reduceEq, Int.reduceLE, Int.reduceLT, Int.reduceAdd, Int.reduceSub, Int.reduceNeg, Int.reduceToNat, Int.reduceNe, Nat.reducePow, Nat.reduceShiftRight, Nat.reduceMod, hfull, Lv.pv, e0, e1, e5, e11, e12]
        refine fin_tmp (.inr rfl) ?_
        have := nodesL_take_le args i
        simp only [go_sem, Nat.reduceAdd, Nat.reduceMul, Nat.reduceSub, Nat.reduceLeDiff, Nat.reduceEqDiff, Nat.reduceBEq, ↓reduceIte, reduceCtorEq, Int.reduceEq, Int.reduceLE, Int.reduceLT, Int.reduceAdd, Int.reduceSub, Int.reduceNeg, Int.reduceToNat, Int.reduceNe, Nat.reducePow, Nat.reduceShiftRight, Nat.reduceMod, Lv.nodes, PV.sc.injEq, Value.int.injEq]
        omega
      · have em : ((most : Int) - t) = ((most - t : Nat) : Int) := by omega
        have eg : args[i]? = some args[i] := List.getElem?_eq_getElem hlt
        simp (maxSteps := 1000000) (disch := omega) only [go_sem, Nat.reduceAdd, Nat.reduceMul, Nat.reduceSub, Nat.reduceLeDiff, Nat.reduceEqDiff, Nat.reduceBEq, ↓reduceIte, reduceCtorEq, Int.reduceEq, Int.reduceLE, Int.reduceLT, Int.reduceAdd, Int.reduceSub, Int.reduceNeg, Int.reduceToNat, Int.reduceNe, Nat.reducePow, Nat.reduceShiftRight, Nat.reduceMod, hfull, Lv.pv, e0, e1, e5, e11, e12, em, eg]
        refine call_pure (ih args[i] (most - t) (by have := nodesL_mem args i hlt; omega) (by omega) (by omega)) ?_
        simp (maxSteps := 1000000) (disch := omega) only [go_sem, Nat.reduceAdd, Nat.reduceMul, Nat.reduceSub, Nat.reduceLeDiff, Nat.reduceEqDiff, Nat.reduceBEq, ↓reduceIte, reduceCtorEq, Int.reduceEq, Int.reduceLE, Int.reduceLT, Int.reduceAdd, Int.reduceSub, Int.reduceNeg, Int.reduceToNat, Int.reduceNe, Nat.reducePow, Nat.reduceShiftRight, Nat.reduceMod, hfull, Lv.pv, e0, e1, e5, e11, e12, em, eg]
        exact ⟨args.length - (i + 1), by omega, i + 1, t + min args[i].nodes (most - t), rfl, by omega, by omega, by simp, by simp⟩
    · simp (maxSteps := 1000000) (disch := omega) only [go_sem, Nat.reduceAdd, Nat.reduceMul, Nat.reduceSub, Nat.reduceLeDiff, Nat.reduceEqDiff, Nat.reduceBEq, ↓reduceIte, reduceCtorEq, Int.reduceEq, Int.reduceLE, Int.reduceLT, Int.reduceAdd, Int.reduceSub, Int.reduceNeg, Int.reduceToNat, Int.reduceNe, Nat.reducePow, Nat.reduceShiftRight, Nat.reduceMod, hlt, Lv.pv, e0, e1, e5, e11, e12]
      refine fin_tmp (.inr rfl) ?_
      have hj : i = args.length := by omega
      subst hj
      rw [List.take_length] at ht
      simp only [go_sem, Nat.reduceAdd, Nat.reduceMul, Nat.reduceSub, Nat.reduceLeDiff, Nat.reduceEqDiff, Nat.reduceBEq, ↓reduceIte, reduceCtorEq, Int.reduceEq, Int.reduceLE, Int.reduceLT, Int.reduceAdd, Int.reduceSub, Int.reduceNeg, Int.reduceToNat, Int.reduceNe, Nat.reducePow, Nat.reduceShiftRight, Nat.reduceMod, Lv.nodes, PV.sc.injEq, Value.int.injEq]
      omega
end
section
set_option maxRecDepth 20000
attribute [local go_sem] pv_len pv_take tm_len tm_take pv_one tm_one id_ne id_ne' id_ne2
set_option maxRecDepth 100000 in
set_option maxHeartbeats 4000000 in
theorem all_seq (t : Tm) : PSeq Try.prog F.term_all_1 [.ptr [.ptr t.pv]] (t.pre.map nodePV) := by
  refine ⟨is_term_all_1.enters, fun V vals hok hv => ?_⟩
  intro l J Jx W hW _ _ hY h0
  have hdd : ∀ k : Nat, (Fence.wide.depth.isSome = true → 1 ≤ k) := fun k h => by cases h
  obtain ⟨v1, hv1, hr1⟩ := hv.get (i := 0) (x := .ptr [.ptr t.pv]) rfl
  have hvals : vals = [v1] := by
    have h1 := hv.1
    match vals, h1, hv1 with
    | [x], _, h => simp at h; rw [h]
  subst hvals
  obtain ⟨b, off, vs, rfl, hokb, hr, hc⟩ := hr1.ptr_inv
  obtain ⟨p, hp1, hrep⟩ := hr.get (i := 0) (x := .ptr t.pv) rfl
  have hkeep : ∀ b, V.ok b → W.heap[b]? = V.w.heap[b]? := fun b hb => hW.block b (hok b hb)
  have hcell : W.cell? ⟨b, off, none⟩ = some p := (World.cell?_of_block (w := V.w) (w' := W) (a := ⟨b, off, none⟩) (hkeep b hokb)).trans (hc 0 p hp1)
  have hw := walkNodes0 V (t.pre.map nodePV) l (t.pre.map nodePV).length J Jx (fun m pre x W hj hl => YieldAt.any rfl m (hY pre x W hj hl)) t.size t (Nat.le_refl _) 0 p [] W hrep (fun u hu => List.mem_map_of_mem hu) hkeep h0 (by simp)
  refine callsIn_of_wp Try.func95 rfl trivial ?_ rfl
  simp only [Try.ntmps95, List.size_toArray, List.length_cons, List.length_nil, Nat.reduceAdd, Nat.reduceSub, Array.replicate_succ, Array.replicate_zero, List.push_toArray, List.append_toArray, List.nil_append, List.cons_append]
  gi_wp2_with (refine ⟨trivial, ?_⟩; refine hw.mono ?_; clear hw; rintro e W1 (⟨rfl, ys, h1, h2, h3⟩ | ⟨rfl, ys, h1, h2⟩))
  · go_end0
    exact ⟨⟨_, rfl⟩, .inl ⟨ys, h1, by simpa using h2⟩⟩
  · go_end0
    exact ⟨⟨_, rfl⟩, .inr ⟨ys, h1, by simpa using h2⟩⟩
theorem all_p (t : Tm) : PPure Try.prog F.term_all [.ptr t.pv] (.fn F.term_all_1 [.ptr [.ptr t.pv]]) := by
  refine pure_by is_term_all (by simp) (by simp [PV.imm, immL, tm_imm]) fun hb nx => ?_
  repeat' (first | ((with_reducible first | refine wA (by omega) ?_ | refine wB (by omega) ?_ | refine wC (by omega) ?_ | refine wD (by omega) ?_ | refine wE ?_ ?_ | refine wF ?_ ?_ | refine wG ?_ ?_ | refine wH ?_ ?_ | refine wI ?_ ?_ | refine wJ ?_ ?_ | refine wK ?_ ?_ | refine wL ?_ ?_) <;> intro _) | simp (maxSteps := 1000000) (disch := omega) only [go_sem, Nat.reduceAdd, Nat.reduceMul, Nat.reduceSub, Nat.reduceLeDiff, Nat.reduceEqDiff, Nat.reduceBEq, ↓reduceIte, reduceCtorEq, Int.reduceEq, Int.reduceLE, Int.reduceLT, Int.reduceAdd, Int.reduceSub, Int.reduceNeg, Int.reduceToNat, Int.reduceNe, Nat.reducePow, Nat.reduceShiftRight, Nat.reduceMod, mc_term_all, *])
  exact fin_tmp (.inr rfl) (by simp [upd])
mutual
theorem Lv.pv_inj : ∀ a b : Lv, a.pv = b.pv → a = b
  | .mk k n args, .mk k' n' args', h => by
    simp only [Lv.pv, List.cons.injEq, PV.sc.injEq, Value.int.injEq, PV.sl.injEq, true_and, and_true] at h
    rw [h.1, h.2.1, pvL_inj args args' h.2.2]
theorem pvL_inj : ∀ a b : List Lv, a.map Lv.pv = b.map Lv.pv → a = b
  | [], [], _ => rfl
  | [], y :: s, h => by simp at h
  | x :: r, [], h => by simp at h
  | x :: r, y :: s, h => by
    simp only [List.map_cons, List.cons.injEq] at h
    rw [Lv.pv_inj x y h.1, pvL_inj r s h.2]
end
def Tm.wt : Tm → Nat
  | .mk _ _ _ ls _ => 1 + (ls.map fun l => min l.nodes 2001).sum
def Tm.own : Tm → Nat
  | .mk _ _ _ ls _ => 1 + nodesL ls
theorem wt_of_pv {a b : Tm} (h : nodePV a = nodePV b) : a.wt = b.wt := by
  cases a; cases b
  simp only [nodePV, Tm.pv, PV.ptr.injEq, List.cons.injEq, PV.sl.injEq, true_and, and_true] at h
  simp only [Tm.wt]
  rw [pvL_inj _ _ h.2.2.2.1]
def wts (us : List Tm) : Nat := (us.map Tm.wt).sum
theorem wts_of_pv : ∀ {us vs : List Tm}, us.map nodePV = vs.map nodePV → wts us = wts vs
  | [], [], _ => rfl
  | [], _ :: _, h => by simp at h
  | _ :: _, [], h => by simp at h
  | a :: us, b :: vs, h => by
    simp only [List.map_cons, List.cons.injEq] at h
    have := wts_of_pv h.2
    simp only [wts, List.map_cons, List.sum_cons] at this ⊢
    rw [wt_of_pv h.1, this]
theorem mins_le : ∀ ls : List Lv, (ls.map fun l => min l.nodes 2001).sum ≤ nodesL ls
  | [] => by simp [nodesL]
  | x :: r => by have := mins_le r; simp only [List.map_cons, List.sum_cons, nodesL]; omega
theorem mins_eq : ∀ ls : List Lv, (ls.map fun l => min l.nodes 2001).sum ≤ 2000 → (ls.map fun l => min l.nodes 2001).sum = nodesL ls
  | [], _ => by simp [nodesL]
  | x :: r, h => by
    simp only [List.map_cons, List.sum_cons, nodesL] at h ⊢
    have := mins_eq r (by omega)
    omega
theorem wt_le (t : Tm) : t.wt ≤ t.own := by
  cases t
  simp only [Tm.wt, Tm.own]
  have := mins_le ‹List Lv›
  omega
theorem wt_eq (t : Tm) (h : t.wt ≤ 2000) : t.wt = t.own := by
  cases t
  rename_i ls _
  simp only [Tm.wt, Tm.own] at h ⊢
  have := mins_eq ls (by omega)
  omega
theorem wts_le : ∀ us : List Tm, wts us ≤ (us.map Tm.own).sum
  | [] => by simp [wts]
  | x :: r => by have := wts_le r; have := wt_le x; simp only [wts, List.map_cons, List.sum_cons] at *; omega
theorem wts_eq : ∀ us : List Tm, wts us ≤ 2000 → wts us = (us.map Tm.own).sum
  | [], _ => by simp [wts]
  | x :: r, h => by
    simp only [wts, List.map_cons, List.sum_cons] at h ⊢
    have h1 := wts_eq r (by simp only [wts]; omega)
    have h2 := wt_eq x (by omega)
    simp only [wts] at h1
    omega
mutual
theorem own_pre : ∀ t : Tm, (t.pre.map Tm.own).sum = t.nodes
  | .mk k n s ls args => by
    simp only [Tm.pre, List.map_cons, List.sum_cons, Tm.own, Tm.nodes, own_preL args]
    omega
theorem own_preL : ∀ ts : List Tm, ((preL ts).map Tm.own).sum = nodesT ts
  | [] => by simp [preL, nodesT]
  | x :: r => by simp only [preL, List.map_append, List.sum_append, nodesT, own_pre x, own_preL r]
end
theorem wts_prefix {us vs : List Tm} (h : us.map nodePV <+: vs.map nodePV) : wts us ≤ wts vs := by
  obtain ⟨z, hz⟩ := h
  have h1 : us.map nodePV = (vs.take us.length).map nodePV := by
    rw [List.map_take, ← hz, List.take_left' (by simp)]
  rw [wts_of_pv h1]
  have h2 : wts vs = wts (vs.take us.length) + wts (vs.drop us.length) := by
    simp only [wts]
    rw [← List.sum_append, ← List.map_append, List.take_append_drop]
  omega
def minsL (ls : List Lv) : Nat := (ls.map fun l => min l.nodes 2001).sum
theorem minsL_take (ls : List Lv) (i : Nat) (h : i < ls.length) : minsL (ls.take (i + 1)) = minsL (ls.take i) + min ls[i].nodes 2001 := by
  unfold minsL
  rw [List.take_succ_eq_append_getElem h, List.map_append, List.sum_append]
  simp
end
section
set_option maxRecDepth 20000
attribute [local go_sem] pv_len pv_take Nat.add_assoc tm_len tm_take
mutual
def Tm.mass : Tm → Nat
  | .mk _ _ s ls args => 1 + s.size / 16 + (nodesL ls + massT args)
def massT : List Tm → Nat
  | [] => 0
  | x :: r => x.mass + massT r
end
mutual
def Tm.fits : Tm → Prop
  | .mk _ _ s _ args => s.size ≤ 9223372036854775807 ∧ fitsT args
def fitsT : List Tm → Prop
  | [] => True
  | x :: r => x.fits ∧ fitsT r
end
theorem fitsT_mem : ∀ (ts : List Tm) (k : Nat) (h : k < ts.length), fitsT ts → ts[k].fits
  | x :: r, 0, h, hf => by simpa using hf.1
  | x :: r, k + 1, h, hf => by simpa using fitsT_mem r k (by simpa using h) hf.2
theorem massT_take_succ : ∀ (ts : List Tm) (k : Nat) (h : k < ts.length), massT (ts.take (k + 1)) = massT (ts.take k) + ts[k].mass
  | x :: r, 0, h => by simp [massT]
  | x :: r, k + 1, h => by
    have := massT_take_succ r k (by simpa using h)
    simp only [List.take_succ_cons, massT, List.getElem_cons_succ, this]
    omega
theorem massT_append : ∀ a b : List Tm, massT (a ++ b) = massT a + massT b
  | [], b => by simp [massT]
  | x :: r, b => by simp only [List.cons_append, massT, massT_append r b]; omega
theorem massT_take_le (ts : List Tm) (k : Nat) : massT (ts.take k) ≤ massT ts := by
  have h := massT_append (ts.take k) (ts.drop k)
  rw [List.take_append_drop] at h
  omega
set_option maxHeartbeats 8000000 in
theorem Mass_p (most : Nat) (hm : most ≤ 1000000) : ∀ (fuel : Nat) (t : Tm), t.size ≤ fuel → t.fits →
    PPure Try.prog F.ref00_Nodes [.agg t.pv, .sc (.int .i64 most)] (.sc (.int .i64 (min t.mass (most + 1) : Nat))) := by
  intro fuel
  induction fuel with
  | zero => intro t h _; have := size_pos t; omega
  | succ fuel ih =>
    intro t hf hfit
    cases t with
    | mk k n s ls args =>
    simp only [Tm.size] at hf
    refine pure_by is_ref00_Nodes (by simp) rfl fun hb nx => ?_
    have hb0 : ls.length ≤ 9223372036854775807 ∧ args.length ≤ 9223372036854775807 := by simp [Tm.pv, bndL, PV.bnd] at hb; exact ⟨hb.1.1, hb.2.1⟩
    have hsz := hfit.1
    have hfits := Kept.mk hfit.2
    clear hfit
    have htd : Int.tdiv (s.size : Int) 16 = ((s.size / 16 : Nat) : Int) := by rw [Int.tdiv_eq_ediv_of_nonneg (by omega)]; omega
    repeat' (first | ((with_reducible first | refine wA (by omega) ?_ | refine wB (by omega) ?_ | refine wC (by omega) ?_ | refine wD (by omega) ?_ | refine wE ?_ ?_ | refine wF ?_ ?_ | refine wG ?_ ?_ | refine wH ?_ ?_ | refine wI ?_ ?_ | refine wJ ?_ ?_ | refine wK ?_ ?_ | refine wL ?_ ?_) <;> intro _) | simp (maxSteps := 1000000) (disch := omega) only [go_sem, Nat.reduceAdd, Nat.reduceMul, Nat.reduceSub, Nat.reduceLeDiff, Nat.reduceEqDiff, Nat.reduceBEq, ↓reduceIte, reduceCtorEq, Int.reduceEq, Int.reduceLE, Int.reduceLT, Int.reduceAdd, Int.reduceSub, Int.reduceNeg, Int.reduceToNat, Int.reduceNe, Nat.reducePow, Nat.reduceShiftRight, Nat.reduceMod, mc_ref00_Nodes, Tm.pv, htd, *])
    refine c_loopW 17179861088 (by kernel_rfl) (fun j f H m => ∃ i t : Nat, j = ls.length - i ∧ i ≤ ls.length ∧ min t (most + 1) = min (1 + s.size / 16 + nodesL (ls.take i)) (most + 1) ∧ t ≤ 2 * most + 1 + s.size / 16 ∧ f 5 = .sc (.int .i64 t) ∧ f 6 = .sc (.int .i64 i)) _ ⟨0, 1 + s.size / 16, rfl, cE1, by simp [nodesL], by omega, cE1, cE1⟩ ?_
    rintro _ f H m ⟨i, t, rfl, hi, ht, ht2, e5, e6⟩
    by_cases hgo : i < ls.length ∧ t ≤ most
    · obtain ⟨hlt, hfull⟩ := hgo
      have eg : ls[i]? = some ls[i] := List.getElem?_eq_getElem hlt
      have hs := nodesL_take_succ ls i hlt
      repeat' (first | ((with_reducible first | refine wA (by omega) ?_ | refine wB (by omega) ?_ | refine wC (by omega) ?_ | refine wD (by omega) ?_ | refine wE ?_ ?_ | refine wF ?_ ?_ | refine wG ?_ ?_ | refine wH ?_ ?_ | refine wI ?_ ?_ | refine wJ ?_ ?_ | refine wK ?_ ?_ | refine wL ?_ ?_) <;> intro _) | (((with_reducible refine call_id ?_); (first | (refine call_pure (LevelNodes_p most hm ls[i].nodes ls[i] (Nat.le_refl _)) ?_)))) | simp (maxSteps := 1000000) (disch := omega) only [go_sem, Nat.reduceAdd, Nat.reduceMul, Nat.reduceSub, Nat.reduceLeDiff, Nat.reduceEqDiff, Nat.reduceBEq, ↓reduceIte, reduceCtorEq, Int.reduceEq, Int.reduceLE, Int.reduceLT, Int.reduceAdd, Int.reduceSub, Int.reduceNeg, Int.reduceToNat, Int.reduceNe, Nat.reducePow, Nat.reduceShiftRight, Nat.reduceMod, Tm.pv, *])
      exact Nx.mk (ls.length - (i + 1)) cE1 ⟨i + 1, t + min ls[i].nodes (most + 1), rfl, cE1, by omega, by omega, cE1, cE1⟩
    · have hfin : min t (most + 1) = min (1 + s.size / 16 + nodesL ls) (most + 1) := by
        by_cases h : i < ls.length
        · have := nodesL_take_le ls i; omega
        · have e : ls.take i = ls := List.take_of_length_le (by omega)
          rw [e] at ht
          exact ht
      have hor : (i < ls.length ∧ most < t) ∨ ¬ i < ls.length := by omega
      clear hgo ht
      rcases hor with ⟨h, h'⟩ | h
      all_goals
        repeat' (first | ((with_reducible first | refine wA (by omega) ?_ | refine wB (by omega) ?_ | refine wC (by omega) ?_ | refine wD (by omega) ?_ | refine wE ?_ ?_ | refine wF ?_ ?_ | refine wG ?_ ?_ | refine wH ?_ ?_ | refine wI ?_ ?_ | refine wJ ?_ ?_ | refine wK ?_ ?_ | refine wL ?_ ?_) <;> intro _) | simp (maxSteps := 1000000) (disch := omega) only [go_sem, Nat.reduceAdd, Nat.reduceMul, Nat.reduceSub, Nat.reduceLeDiff, Nat.reduceEqDiff, Nat.reduceBEq, ↓reduceIte, reduceCtorEq, Int.reduceEq, Int.reduceLE, Int.reduceLT, Int.reduceAdd, Int.reduceSub, Int.reduceNeg, Int.reduceToNat, Int.reduceNe, Nat.reducePow, Nat.reduceShiftRight, Nat.reduceMod, Tm.pv, *])
        refine c_loopW 36028779839094944 (by kernel_rfl) (fun j f H m => ∃ i2 t2 : Nat, j = args.length - i2 ∧ i2 ≤ args.length ∧ min t2 (most + 1) = min (1 + s.size / 16 + (nodesL ls + massT (args.take i2))) (most + 1) ∧ t2 ≤ 2 * most + 1 + s.size / 16 ∧ f 5 = .sc (.int .i64 t2) ∧ f 7 = .sc (.int .i64 i2)) _ ⟨0, t, rfl, cE1, by simp [massT]; omega, cE1, cE1, cE1⟩ ?_
        rintro _ f2 H2 m2 ⟨i2, t2, rfl, hi2, ht3, ht4, e5', e7⟩
        by_cases hgo : i2 < args.length ∧ t2 ≤ most
        · obtain ⟨hlt, hfull⟩ := hgo
          have eg : args[i2]? = some args[i2] := List.getElem?_eq_getElem hlt
          have hs := massT_take_succ args i2 hlt
          have hsz := sizeL_mem args i2 hlt
          repeat' (first | ((with_reducible first | refine wA (by omega) ?_ | refine wB (by omega) ?_ | refine wC (by omega) ?_ | refine wD (by omega) ?_ | refine wE ?_ ?_ | refine wF ?_ ?_ | refine wG ?_ ?_ | refine wH ?_ ?_ | refine wI ?_ ?_ | refine wJ ?_ ?_ | refine wK ?_ ?_ | refine wL ?_ ?_) <;> intro _) | (((with_reducible refine call_id ?_); (first | (refine call_pure (ih args[i2] (by omega) (fitsT_mem args i2 hlt hfits.out)) ?_)))) | simp (maxSteps := 1000000) (disch := omega) only [go_sem, Nat.reduceAdd, Nat.reduceMul, Nat.reduceSub, Nat.reduceLeDiff, Nat.reduceEqDiff, Nat.reduceBEq, ↓reduceIte, reduceCtorEq, Int.reduceEq, Int.reduceLE, Int.reduceLT, Int.reduceAdd, Int.reduceSub, Int.reduceNeg, Int.reduceToNat, Int.reduceNe, Nat.reducePow, Nat.reduceShiftRight, Nat.reduceMod, Tm.pv, *])
          exact Nx.mk (args.length - (i2 + 1)) cE1 ⟨i2 + 1, t2 + min args[i2].mass (most + 1), rfl, cE1, by omega, by omega, cE1, cE1⟩
        · have hfin2 : min t2 (most + 1) = min (1 + s.size / 16 + (nodesL ls + massT args)) (most + 1) := by
            by_cases h : i2 < args.length
            · have := massT_take_le args i2; omega
            · have e : args.take i2 = args := List.take_of_length_le (by omega)
              rw [e] at ht3
              exact ht3
          have hor : (i2 < args.length ∧ most < t2) ∨ ¬ i2 < args.length := by omega
          clear hgo ht3
          rcases hor with ⟨h2, h2'⟩ | h2
          all_goals
            repeat' (first | ((with_reducible first | refine wA (by omega) ?_ | refine wB (by omega) ?_ | refine wC (by omega) ?_ | refine wD (by omega) ?_ | refine wE ?_ ?_ | refine wF ?_ ?_ | refine wG ?_ ?_ | refine wH ?_ ?_ | refine wI ?_ ?_ | refine wJ ?_ ?_ | refine wK ?_ ?_ | refine wL ?_ ?_) <;> intro _) | simp (maxSteps := 1000000) (disch := omega) only [go_sem, Nat.reduceAdd, Nat.reduceMul, Nat.reduceSub, Nat.reduceLeDiff, Nat.reduceEqDiff, Nat.reduceBEq, ↓reduceIte, reduceCtorEq, Int.reduceEq, Int.reduceLE, Int.reduceLT, Int.reduceAdd, Int.reduceSub, Int.reduceNeg, Int.reduceToNat, Int.reduceNe, Nat.reducePow, Nat.reduceShiftRight, Nat.reduceMod, Tm.pv, *])
            refine fin_tmp (.inr rfl) ?_
            simp (disch := omega) only [go_sem, Nat.reduceMul, Nat.reduceSub, Nat.reduceShiftRight, Nat.reduceMod, Nat.reduceEqDiff, Nat.reduceAdd, ↓reduceIte, Nat.reduceLeDiff, Tm.mass, *]
            omega
end
section
set_option maxRecDepth 20000
attribute [local go_sem] pv_len pv_take Nat.add_assoc tm_len tm_take pv_one tm_one
theorem tSame_p (a b : Tm) (f g : Bool) (hfg : (f || g) = true) : PPure Try.prog F.term_Same [.agg (a.pvB f), .agg (b.pvB g)] (.sc (.bool (a.same b))) := by
  refine pure_by is_term_Same (by simp) rfl fun hb nx => ?_
  repeat' (first | ((with_reducible first | refine wA (by omega) ?_ | refine wB (by omega) ?_ | refine wC (by omega) ?_ | refine wD (by omega) ?_ | refine wE ?_ ?_ | refine wF ?_ ?_ | refine wG ?_ ?_ | refine wH ?_ ?_ | refine wI ?_ ?_ | refine wJ ?_ ?_ | refine wK ?_ ?_ | refine wL ?_ ?_) <;> intro _) | (((with_reducible refine call_id ?_); (first | (refine call_pure (term_same_p f g hfg a.size a b (Nat.le_refl _)) ?_)))) | simp (maxSteps := 1000000) (disch := omega) only [go_sem, Nat.reduceAdd, Nat.reduceMul, Nat.reduceSub, Nat.reduceLeDiff, Nat.reduceEqDiff, Nat.reduceBEq, ↓reduceIte, reduceCtorEq, Int.reduceEq, Int.reduceLE, Int.reduceLT, Int.reduceAdd, Int.reduceSub, Int.reduceNeg, Int.reduceToNat, Int.reduceNe, Nat.reducePow, Nat.reduceShiftRight, Nat.reduceMod, mc_term_Same, *])
  all_goals (refine fin_tmp (.inr rfl) ?_; simp [upd])
end
section
set_option maxRecDepth 20000
attribute [local go_sem] pv_len pv_take Nat.add_assoc tm_len tm_take pv_one tm_one tpvB_len tpvB_take tpvB_one pvB_len pvB_take pvB_one id_ne id_ne' id_ne2 List.append_assoc
theorem frgF_sc (G : Nat → Bool) (k : Nat) (H : Nat → Option PObj) (v : Value) : frgF G k H (.sc v) = .sc v := by cases k <;> rfl
theorem frgF_imm (G : Nat → Bool) (H : Nat → Option PObj) : ∀ (k : Nat) (x : PV), x.imm = true → frgF G k H x = x := by
  intro k
  induction k with
  | zero => intro x _; rfl
  | succ k ih =>
    have hl : ∀ xs : List PV, immL xs = true → xs.map (frgF G k H) = xs := by
      intro xs
      induction xs with
      | nil => intro _; rfl
      | cons x r ihr =>
        intro h
        simp only [immL, Bool.and_eq_true] at h
        rw [List.map_cons, ih x h.1, ihr h.2]
    intro x hx
    cases x with
    | agg xs => simp only [PV.imm] at hx; simp only [frgF, hl xs hx]
    | tup xs => simp only [PV.imm] at hx; simp only [frgF, hl xs hx]
    | fn f xs => simp only [PV.imm] at hx; simp only [frgF, hl xs hx]
    | optr id off => simp [PV.imm] at hx
    | osl id off len sz => simp [PV.imm] at hx
    | _ => rfl
theorem frgF_immL (G : Nat → Bool) (H : Nat → Option PObj) (k : Nat) : ∀ xs : List PV, immL xs = true → xs.map (frgF G k H) = xs
  | [], _ => rfl
  | x :: r, h => by
    simp only [immL, Bool.and_eq_true] at h
    rw [List.map_cons, frgF_imm G H k x h.1, frgF_immL G H k r h.2]
mutual
theorem OwnT.frg {H : Nat → Option PObj} {G : Nat → Bool} : ∀ (t : Tm) (lo m : Nat) (cs : List PV), OwnT H lo m cs t → (∀ j, lo ≤ j → j < m → G j = true) → ∀ k, t.size ≤ k → WeakL (cs.map (frgF G k H)) (t.pvB true)
  | .mk kind n s ls args, lo, m, cs, h, hG, k, hk => by
    simp only [OwnT] at h
    obtain ⟨a, b, rfl, ha, hb⟩ := h
    simp only [Tm.size] at hk
    obtain ⟨k, rfl⟩ : ∃ k', k = k' + 1 := ⟨k - 1, by omega⟩
    rw [Tm.pvB]
    simp only [List.map_cons, List.map_nil]
    refine ⟨.of_eq (frgF_sc _ _ _ _), .of_eq (frgF_sc _ _ _ _), .of_eq (frgF_sc _ _ _ _), ?_, ?_, trivial⟩
    · rcases ha with ⟨rfl, rfl⟩ | rfl
      · exact .trans (.of_eq (frgF_sc _ _ _ _)) (Weak.nilF 3)
      · exact .refl _
    · rcases hb with ⟨rfl, rfl⟩ | ⟨id, cells, w, h1, h2, rfl, h4, h5⟩
      · exact .trans (.of_eq (frgF_sc _ _ _ _)) (Weak.nilF 5)
      · have hl := OwnTs.len args cells h5
        have hw := OwnTs.frg args (id + 1) m cells h5 (fun j a b => hG j (by omega) b) k (by omega)
        simp only [frgF, hG id h1 h2, if_true, h4, List.drop_zero]
        rw [if_pos (by omega), List.take_of_length_le (by omega)]
        refine Weak.fslW (by rw [chunks_length, List.length_map]) (fun e he => ?_) ?_
        · obtain ⟨t, _, rfl⟩ := List.mem_map.1 he
          exact tpvB_len true t
        · rw [chunks_flatten 5 args.length _ (by rw [List.length_map, hl])]
          exact hw
theorem OwnTs.frg {H : Nat → Option PObj} {G : Nat → Bool} : ∀ (ts : List Tm) (lo m : Nat) (cs : List PV), OwnTs H lo m cs ts → (∀ j, lo ≤ j → j < m → G j = true) → ∀ k, sizeL ts ≤ k → WeakL (cs.map (frgF G k H)) (ts.map (Tm.pvB true)).flatten
  | [], _, _, cs, h, _, _, _ => by
    simp only [OwnTs] at h
    subst h
    trivial
  | t :: r, lo, m, cs, h, hG, k, hk => by
    simp only [OwnTs] at h
    obtain ⟨c, cr, mid, rfl, g1, g2, h1, h2⟩ := h
    simp only [sizeL] at hk
    simp only [List.map_append, List.map_cons, List.flatten_cons]
    exact (OwnT.frg t lo mid c h1 (fun j a b => hG j a (by omega)) k (by omega)).append (OwnTs.frg r mid m cr h2 (fun j a b => hG j (by omega) b) k (by omega))
end
theorem OwnW.frg {H : Nat → Option PObj} {G : Nat → Bool} {lo m : Nat} (hG : ∀ j, lo ≤ j → j < m → G j = true) : ∀ (ts : List Tm) (cs : List PV), OwnW H lo m cs ts → ∀ k, sizeL ts ≤ k → WeakL (cs.map (frgF G k H)) (ts.map (Tm.pvB true)).flatten
  | [], cs, h, _, _ => by cases h; trivial
  | t :: r, cs, ⟨c, cr, e, h1, h2⟩, k, hk => by
    subst e
    simp only [sizeL] at hk
    simp only [List.map_append, List.map_cons, List.flatten_cons]
    exact (OwnT.frg t _ _ c h1 hG k (by omega)).append (OwnW.frg hG r cr h2 k (by omega))
theorem WeakL.trans : ∀ {xs ys zs : List PV}, WeakL xs ys → WeakL ys zs → WeakL xs zs
  | [], [], [], _, _ => trivial
  | _ :: _, _ :: _, _ :: _, h, k => ⟨h.1.trans k.1, WeakL.trans h.2 k.2⟩
  | [], _ :: _, _, h, _ => h.elim
  | _ :: _, [], _, h, _ => h.elim
  | [], [], _ :: _, _, k => k.elim
  | _ :: _, _ :: _, [], _, k => k.elim
theorem isIt_len {o : PObj} (h : o.cells.length ≠ 1) : o.isIt = false := by
  unfold PObj.isIt
  split
  · rename_i e; rw [e] at h; simp at h
  · rename_i e; rw [e] at h; simp at h
  · rfl
end
section
set_option maxRecDepth 20000
attribute [local go_sem] pv_len pv_take Nat.add_assoc tm_len tm_take pv_one tm_one tpvB_len tpvB_take tpvB_one pvB_len pvB_take pvB_one id_ne id_ne' id_ne2 List.append_assoc
theorem RowAt.low {H H' : Nat → Option PObj} {lo lo' m m' sz : Nat} {a : PV} {cells : List PV} {n : Nat} (h : RowAt H lo m sz a cells n) (hl : lo' ≤ lo) (hm : m ≤ m') (hH : ∀ id, lo < id → id < m → H' id = H id) : RowAt H' lo' m' sz a cells n := by
  rcases h with h | ⟨id, h1, h2, h3, h4⟩
  · exact .inl h
  · exact .inr ⟨id, by omega, by omega, h3, by rw [hH id h1 h2, h4]⟩
end
section
set_option maxRecDepth 20000
attribute [local go_sem] pv_len pv_take Nat.add_assoc tm_len tm_take pv_one tm_one tpvB_len tpvB_take tpvB_one pvB_len pvB_take pvB_one id_ne id_ne' id_ne2 List.append_assoc
theorem RowAt.one {H : Nat → Option PObj} {lo m sz : Nat} {a : PV} {cells : List PV} {n : Nat} (h : RowAt H lo m sz a cells n) : PV.one a = true := by
  rcases h with ⟨_, rfl⟩ | ⟨_, _, _, rfl, _⟩ <;> rfl
end
section
attribute [local go_sem] pv_len pv_take id_ne id_ne' id_ne2 rounds_next Nat.add_assoc pv_one
def p0 : Lv := .mk 2 0 []
def p1 : Lv := .mk 2 1 []
theorem PPure.is {f : FuncId} {args : List PV} {r r' : PV} (h : PPure Try.prog f args r) (e : r = r') : PPure Try.prog f args r' := e ▸ h
end
section
set_option maxRecDepth 20000
attribute [local go_sem] pv_len pv_take Nat.add_assoc tm_len tm_take pv_one tm_one id_ne id_ne' id_ne2 List.append_assoc
def FixL (nx : Nat) (cs : List PV) : Prop := ∀ (G : Nat → Bool) (k : Nat) (H : Nat → Option PObj), (∀ j, j < nx → G j = false) → cs.map (frgF G k H) = cs
theorem FixL.mono {nx nx' : Nat} {cs : List PV} (h : FixL nx cs) (hn : nx ≤ nx') : FixL nx' cs := fun G k H hG => h G k H fun j hj => hG j (Nat.lt_of_lt_of_le hj hn)
theorem FixL.imm {nx : Nat} {cs : List PV} (h : immL cs = true) : FixL nx cs := fun G k H _ => frgF_immL G H k cs h
theorem FixL.nil {nx : Nat} : FixL nx [] := fun _ _ _ _ => rfl
theorem FixL.append {nx : Nat} {cs ds : List PV} (h : FixL nx cs) (g : FixL nx ds) : FixL nx (cs ++ ds) := fun G k H hG => by rw [List.map_append, h G k H hG, g G k H hG]
theorem FixL.cons {nx : Nat} {c : PV} {ds : List PV} (h : c.imm = true) (g : FixL nx ds) : FixL nx (c :: ds) := fun G k H hG => by rw [List.map_cons, frgF_imm G H k c h, g G k H hG]
theorem frgF_osl {G : Nat → Bool} {id : Nat} (h : G id = false) (k : Nat) (H : Nat → Option PObj) (off n sz : Nat) : frgF G k H (.osl id off n sz) = .osl id off n sz := by
  cases k with
  | zero => rfl
  | succ k => simp [frgF, h]
theorem FixL.osl {nx id off n sz : Nat} {ds : List PV} (h : id < nx) (g : FixL nx ds) : FixL nx (.osl id off n sz :: ds) := fun G k H hG => by rw [List.map_cons, frgF_osl (hG id h), g G k H hG]
def RowP (H : Nat → Option PObj) (lo m sz : Nat) (a : PV) (es : List (List PV)) : Prop := (es = [] ∧ a = .sc (.slice none 0 0)) ∨ ∃ id, lo ≤ id ∧ id < m ∧ a = .osl id 0 es.length sz ∧ H id = some ⟨es.flatten, true⟩
def HalfP (H : Nat → Option PObj) (lo m sz : Nat) (a : PV) (done : List PV) (z : List Value) (r n : Nat) : Prop := (n = 0 ∧ a = .sc (.slice none 0 0)) ∨ ∃ id, lo ≤ id ∧ id < m ∧ a = .osl id 0 n sz ∧ H id = some ⟨done ++ zeros z r, true⟩
def leads : PV → Nat → Bool
  | .osl i _ _ _, j => decide (j = i)
  | _, _ => false
theorem HalfP.row {H : Nat → Option PObj} {lo m sz : Nat} {a : PV} {es : List (List PV)} {z : List Value} {n : Nat} (h : HalfP H lo m sz a es.flatten z 0 n) (hn : es.length = n) : RowP H lo m sz a es := by
  rcases h with ⟨h1, h2⟩ | ⟨id, h1, h2, h3, h4⟩
  · exact .inl ⟨List.eq_nil_of_length_eq_zero (by omega), h2⟩
  · exact .inr ⟨id, h1, h2, by rw [hn]; exact h3, by simpa [zeros] using h4⟩
theorem RowP.mono {H H' : Nat → Option PObj} {lo m m' sz : Nat} {a : PV} {es : List (List PV)} (h : RowP H lo m sz a es) (hm : m ≤ m') (hH : ∀ j, lo ≤ j → j < m → leads a j = true → H' j = H j) : RowP H' lo m' sz a es := by
  rcases h with h | ⟨id, h1, h2, rfl, h4⟩
  · exact .inl h
  · exact .inr ⟨id, h1, by omega, rfl, by rw [hH id h1 h2 (by simp [leads]), h4]⟩
theorem HalfP.mono {H H' : Nat → Option PObj} {lo m m' sz : Nat} {a : PV} {done : List PV} {z : List Value} {r n : Nat} (h : HalfP H lo m sz a done z r n) (hm : m ≤ m') (hH : ∀ j, lo ≤ j → j < m → leads a j = true → H' j = H j) : HalfP H' lo m' sz a done z r n := by
  rcases h with h | ⟨id, h1, h2, rfl, h4⟩
  · exact .inl h
  · exact .inr ⟨id, h1, by omega, rfl, by rw [hH id h1 h2 (by simp [leads]), h4]⟩
theorem RowP.lead {H : Nat → Option PObj} {lo m sz : Nat} {a : PV} {es : List (List PV)} (h : RowP H lo m sz a es) (hl : es.flatten.length ≠ 1) (hi : immL es.flatten = true) {j : Nat} (hj : leads a j = true) (nx : Nat) :
    lo ≤ j ∧ j < m ∧ ∀ o, H j = some o → o.isIt = false ∧ FixL nx o.cells := by
  rcases h with ⟨_, rfl⟩ | ⟨id, h1, h2, rfl, h4⟩
  · cases hj
  · obtain rfl : j = id := by simpa [leads] using hj
    refine ⟨h1, h2, fun o ho => ?_⟩
    rw [h4] at ho
    cases ho
    exact ⟨isIt_len hl, .imm hi⟩
theorem RowP.frg {H : Nat → Option PObj} {lo m sz : Nat} {a : PV} {es : List (List PV)} (h : RowP H lo m sz a es) (hs : ∀ e ∈ es, e.length = sz) (G : Nat → Bool) (hG : ∀ j, lo ≤ j → G j = true) : Weak (frgF G 1 H a) (.sl sz es) := by
  rcases h with ⟨rfl, rfl⟩ | ⟨id, h1, h2, rfl, h4⟩
  · exact .nil sz
  · have hl : es.flatten.length = es.length * sz := by
      clear h4
      induction es with
      | nil => simp
      | cons e r ih =>
        rw [List.flatten_cons, List.length_append, ih (fun x hx => hs x (by simp [hx])), hs e (by simp), List.length_cons, Nat.succ_mul]
        omega
    simp only [frgF, hG id h1, if_true, h4, List.drop_zero]
    rw [if_pos (by omega), List.take_of_length_le (by omega)]
    refine .trans (Weak.fslW (es' := es) (by rw [chunks_length]) hs ?_) (Weak.fsl sz es)
    rw [List.map_id', chunks_flatten sz es.length _ (by omega)]
    exact .refl _
end
section
theorem frg_fix {V : Vw} {nx : Nat} (hfree : ∀ id, nx ≤ id → V.rho id = none) : ∀ (k : Nat) (x : PV) (v : Value), Rep V x v → ∀ (G : Nat → Bool) (H : Nat → Option PObj), (∀ j, j < nx → G j = false) → frgF G k H x = x := by
  have low : ∀ id b, V.rho id = some b → id < nx := fun id b h => by
    by_cases hlt : id < nx
    · exact hlt
    · rw [hfree id (by omega)] at h
      cases h
  have many : ∀ {k : Nat}, (∀ (x : PV) (v : Value), Rep V x v → ∀ (G : Nat → Bool) (H : Nat → Option PObj), (∀ j, j < nx → G j = false) → frgF G k H x = x) →
      ∀ {xs : List PV} {vs : List Value}, RepL V xs vs → ∀ (G : Nat → Bool) (H : Nat → Option PObj), (∀ j, j < nx → G j = false) → xs.map (frgF G k H) = xs := by
    intro k ih xs vs hr G H hG
    refine (List.map_congr_left fun x hx => ?_).trans (List.map_id xs)
    obtain ⟨i, hi, rfl⟩ := List.mem_iff_getElem.1 hx
    have hiv : i < vs.length := hr.1 ▸ hi
    exact ih _ _ (hr.2 i _ _ (List.getElem?_eq_getElem hi) (List.getElem?_eq_getElem hiv)) G H hG
  intro k
  induction k with
  | zero => intro x v h G H hG; rfl
  | succ k ih =>
    intro x v h G H hG
    cases x with
    | optr id off =>
      obtain ⟨b, rfl, hb⟩ := h.optr_inv
      simp [frgF, hG id (low id b hb)]
    | osl id off len sz =>
      obtain ⟨b, cap, c0, T0, fr0, rfl, hb, _⟩ := h.osl_inv
      simp [frgF, hG id (low id b hb)]
    | agg xs =>
      obtain ⟨vs, rfl, hr⟩ := h.agg_inv
      simp only [frgF, many ih hr G H hG]
    | tup xs =>
      obtain ⟨vs, rfl, hr⟩ := h.tup_inv
      simp only [frgF, many ih hr G H hG]
    | fn f xs =>
      cases h with
      | fn _ _ vs hl hr => simp only [frgF, many ih ⟨hl, hr⟩ G H hG]
    | _ => rfl
theorem relH_fix {w0 : World} {ok0 : Nat → Prop} {H : Nat → Option PObj} {rho : Nat → Option Nat} {w : World} {nx : Nat} (hH : RelH w0 ok0 H rho w) (hfree : ∀ id, nx ≤ id → rho id = none) : ∀ j o, H j = some o → FixL nx o.cells := by
  intro j o hj G k H' hG
  obtain ⟨b, h1, h2, h3⟩ := hH.own j o hj
  rcases h3 with ⟨c, T, hh, l1, l2, l3⟩ | ⟨s, pos, rfl, hh⟩ | ⟨kv, es, clk, rfl, hh, hm⟩
  · refine (List.map_congr_left fun x hx => ?_).trans (List.map_id _)
    obtain ⟨i, hi, rfl⟩ := List.mem_iff_getElem.1 hx
    obtain ⟨v, hv⟩ : ∃ v, c[i]? = some v := ⟨_, Array.getElem?_eq_getElem (by omega)⟩
    exact frg_fix hfree k _ v (l3 i _ v (List.getElem?_eq_getElem hi) hv) G H' hG
  · cases k <;> rfl
  · cases k <;> rfl
theorem PMut.start {P : Program} {f : FuncId} {args : List PV} {H : Nat → Option PObj} {nx : Nat} {Q : (Nat → Option PObj) → Nat → PV → Prop} (he : enters P f = true)
    (h : (∀ j o, H j = some o → j < nx ∧ FixL nx o.cells) → PMut P f args H nx Q) : PMut P f args H nx Q := by
  refine ⟨he, fun w0 ok0 rho w vals hH hfree hv => (h fun j o hj => ⟨?_, relH_fix hH hfree j o hj⟩).2 w0 ok0 rho w vals hH hfree hv⟩
  obtain ⟨b, hb, _⟩ := hH.own j o hj
  by_cases hlt : j < nx
  · exact hlt
  · rw [hfree j (by omega)] at hb
    cases hb
theorem toldL_leq {w0 : World} {ok0 : Nat → Prop} {H H2 : Nat → Option PObj} {rho : Nat → Option Nat} {w : World} (ht : ∀ id o2, H2 id = some o2 → H id = some o2) : (viewOf w0 ok0 H rho w).Leq (viewOf w0 ok0 H2 rho w) :=
  ⟨fun b hb => ⟨hb.1, fun id o2 ho => hb.2 id o2 (ht id o2 ho)⟩, fun _ _ => rfl, fun _ _ h => h, fun _ _ c T fr _ hh => ⟨c, T, fr, hh, Nat.le_refl _⟩, Nat.le_refl _⟩
theorem toldL_rel {w0 : World} {ok0 : Nat → Prop} {H H2 : Nat → Option PObj} {rho : Nat → Option Nat} {w : World} (ht : ∀ id o2, H2 id = some o2 → H id = some o2) (hH : RelH w0 ok0 H rho w) : RelH w0 ok0 H2 rho w := by
  refine ⟨hH.okb, hH.bel, fun id o2 ho => ?_, fun id id' b h h' => ?_⟩
  · obtain ⟨b, h1, h2, h3⟩ := hH.own id o2 (ht id o2 ho)
    exact ⟨b, h1, h2, h3.mono (toldL_leq ht) rfl⟩
  · have key : ∀ id, H2 id ≠ none → H id ≠ none := fun id h => by
      obtain ⟨o2, ho⟩ := Option.ne_none_iff_exists'.1 h
      rw [ht id o2 ho]
      simp
    exact hH.inj id id' b (key id h) (key id' h')
theorem PMut.tell {P : Program} {f : FuncId} {args : List PV} {H : Nat → Option PObj} {nx : Nat} {Q Q2 : (Nat → Option PObj) → Nat → PV → Prop} (h : PMut P f args H nx Q)
    (hq : ∀ H' nx' r, Q H' nx' r → (∀ j o, j < nx → H' j = some o → FixL nx o.cells) ∧ ∃ k r2, Weak (frgF (fun j => decide (nx ≤ j)) k H' r) r2 ∧ Q2 (fun j => if j < nx then H' j else none) nx' r2) : PMut P f args H nx Q2 := by
  refine ⟨h.1, fun w0 ok0 rho w vals hH hfree hv => (h.2 w0 ok0 rho w vals hH hfree hv).mono ?_⟩
  rintro e w' ⟨v, H', nx', r, rho', h1, h2, h3, h4, h5, h6, h7, h8⟩
  obtain ⟨g1, k, r2, g2, g3⟩ := hq H' nx' r h2
  have ht : ∀ id o2, (fun j => if j < nx then H' j else none) id = some o2 → lessC (fun j => decide (nx ≤ j)) k H' id = some o2 := by
    intro id o2 ho
    have ho : (if id < nx then H' id else none) = some o2 := ho
    split at ho
    · rename_i hlt
      have := g1 id o2 hlt ho (fun j => decide (nx ≤ j)) k H' (fun j hj => by simp; omega)
      simp only [lessC, Nat.not_le.2 hlt, decide_false, Bool.false_eq_true, if_false, ho, Option.map_some, this]
    · cases ho
  exact ⟨v, _, nx', r2, rho', h1, g3, toldL_rel ht (lessC_rel h3), ((h4.trans (less_leq ..)).trans (less_lessC ..)).trans (toldL_leq ht), h5, h6, h7, (g2 _ _ ((frgF_sound h3 k r v h8).mono (less_lessC ..))).mono (toldL_leq ht)⟩
end
end Go.Proofs.Ytnelciclibknpaa
