/-
  Plain values: NmA, NmB, TmA, TmS, LvE, LvG, LvI, LvJ, LvK, LvP, LvQ, LvR, TmB, TmD, TmE, TmH, TmF, TmI, LvV, LvW, TmP, TmC, TmJ, TmK, TmL, TmM.
-/
import Derived.RangeFuncKeeps
import Derived.RangeFuncBound
import Derived.RangeFuncLeaves
import Derived.TacticsInMore
import Derived.Test.YtnoilfjeamffnaaXNa
import Derived.Test.YtnoilfjeamffnaaXNb
import Derived.Test.YtnoilfjeamffnaaXNc
set_option linter.unusedVariables false
set_option linter.unusedSimpArgs false
namespace Go.Proofs.Ytnoilfjeamffnaa
open Go.RowKit
attribute [local go_sem ↓] c_seq c_region c_cond c_block c_ret c_skip c_exit c_cont t_normal t_ret t_exit b_normal b_ret b_exit run_nil run_cons g_some o_mv o_pick o_bin o_un o_ld o_ldf o_bld o_len o_mkf o_nilc o_fa o_fd o_ia o_iaa o_ix o_ixs o_ext o_al o_bxf o_bxt o_bsl o_bslf o_mks o_st o_stf o_call o_rng o_nxt o_callm o_callmA o_calvm o_calv cond_true cond_false upd_get sigF_cons o_eqa o_mm o_app o_slc
attribute [local go_sem] num_nil num_cons isP chunks rngV next_is next_iter val_some new_some st_some stf_some guard_tt guard_ff guard_tf guard_ft guard_un calv_fn put_some put_none ev_tmp ev_const ev_func sig_eq sigF_nil q0 q1 nilcV faV fdV iaV iaaV ixV ixsV extV mksV loadP storeP lenPV binPV unPV intBin partsP fillP zeros PV.good PV.cellsOf PV.one q2 q3 q4 q5 q6 q7 q8 q9 q10 q11 q12 q13 q14 q15 q16 q17 q18 q19 q20 q21 q22 q23 q24 q25 q26 q27 q28 q29 q30 q31 q32 q33 q34 q35 q36 q37 q38 wrap64 app_some mmL mmV mm2 eqE eqParts eqInt eqBool eqStr partV q39 q40 pickV q41 q42 q43 q44 q45 q46 q47 q48 q49 appE oldOf rowOf updL q50 q51 q52 q53 zlt ovr_get ite_neN ite_eqN q54 q55 q56 q57 q58 q59 q60 q61 q62 q63 q64 q65 q66 q67 tailP_f tailP_t tailF_f tailF_t slcP bndO capO slcLen intOf Option.isSome_none Option.isNone_none Option.isSome_some Option.isNone_some nilP slc_sl slc_csl slc_osl slc_osl0 slc_ocap slc_str List.append_nil List.length_append resP resPs resP1 PV.sc.injEq Value.bool.injEq Value.int.injEq
section
set_option maxRecDepth 20000
attribute [local go_sem] Nat.add_assoc
def plainB (r : Int) (first : Bool) : Bool :=
  if r = 95 ∨ (97 ≤ r ∧ r ≤ 122) then true else if r = 46 ∨ (48 ≤ r ∧ r ≤ 57) then !first else false
def scan : Bool → List UInt8 → Option Bool
  | st, [] => some st
  | st, c :: r => if plainB c.toNat st = true then scan (decide ((c.toNat : Int) = 46)) r else none
def nameB (s : ByteArray) : Bool := decide (s.size ≤ 40) && (scan true s.data.toList == some false)
theorem name_plain_p (r : Int) (first : Bool) : PPure Try.prog F.name_plain [.sc (.int .i32 r), .sc (.bool first)] (.sc (.bool (plainB r first))) := by
  refine pure_by is_name_plain (by simp) rfl fun hb nx => ?_
  repeat' (first | ((with_reducible first | refine wA (by omega) ?_ | refine wB (by omega) ?_ | refine wC (by omega) ?_ | refine wD (by omega) ?_ | refine wE ?_ ?_ | refine wF ?_ ?_ | refine wG ?_ ?_ | refine wH ?_ ?_ | refine wI ?_ ?_ | refine wJ ?_ ?_ | refine wK ?_ ?_ | refine wL ?_ ?_) <;> intro _) | simp (maxSteps := 1000000) (disch := omega) only [go_sem, Nat.reduceAdd, Nat.reduceMul, Nat.reduceSub, Nat.reduceLeDiff, Nat.reduceEqDiff, Nat.reduceBEq, ↓reduceIte, reduceCtorEq, Int.reduceEq, Int.reduceLE, Int.reduceLT, Int.reduceAdd, Int.reduceSub, Int.reduceNeg, Int.reduceToNat, Int.reduceNe, Nat.reducePow, Nat.reduceShiftRight, Nat.reduceMod, mc_name_plain, *])
  all_goals (refine fin_tmp (.inr rfl) ?_; simp [upd, plainB, *])
theorem decode_high (s : ByteArray) (p : Nat) (h : p < s.size) (hc : 128 ≤ (s[p]'h).toNat) : 128 ≤ (Utf8.decode s p).1 := by
  have e : s.get! (p + 0) = s[p]'h := by
    show s.get! p = _
    simp [ByteArray.get!, getElem!_pos, h]
    rfl
  simp only [Utf8.decode, e, Utf8.runeError]
  repeat' split
  all_goals simp_all
  all_goals omega
theorem Right_1_m (r : Int) (st : Bool) (id : Nat) (w : Bool) (H : Nat → Option PObj) (nx : Nat) (hH : H id = some ⟨[.sc (.bool st)], w⟩) :
    PMut Try.prog F.name_Right_1 [.sc (.int .i32 r), .optr id 0] H nx (fun H' nx' r' => H' = upd H id (some ⟨[.sc (.bool (decide (r = 46)))], w⟩) ∧ r' = .sc (.bool (!plainB r st))) := by
  refine mut_by is_name_Right_1 (by simp) fun hb => ?_
  repeat' (first | ((with_reducible first | refine wA (by omega) ?_ | refine wB (by omega) ?_ | refine wC (by omega) ?_ | refine wD (by omega) ?_ | refine wE ?_ ?_ | refine wF ?_ ?_ | refine wG ?_ ?_ | refine wH ?_ ?_ | refine wI ?_ ?_ | refine wJ ?_ ?_ | refine wK ?_ ?_ | refine wL ?_ ?_) <;> intro _) | (((with_reducible refine call_id ?_); (first | (refine call_pure (name_plain_p r st) ?_)))) | simp (maxSteps := 1000000) (disch := omega) only [go_sem, Nat.reduceAdd, Nat.reduceMul, Nat.reduceSub, Nat.reduceLeDiff, Nat.reduceEqDiff, Nat.reduceBEq, ↓reduceIte, reduceCtorEq, Int.reduceEq, Int.reduceLE, Int.reduceLT, Int.reduceAdd, Int.reduceSub, Int.reduceNeg, Int.reduceToNat, Int.reduceNe, Nat.reducePow, Nat.reduceShiftRight, Nat.reduceMod, mc_name_Right_1, *])
  refine fin_mut (.sc (.bool (!plainB r st))) (.inr rfl) ?_ ?_
  · simp (disch := omega) only [go_sem, Nat.reduceMul, Nat.reduceSub, Nat.reduceShiftRight, Nat.reduceMod, Nat.reduceEqDiff, Nat.reduceAdd, ↓reduceIte, Nat.reduceLeDiff, *]
  · exact ⟨rfl, rfl⟩
theorem scan_drop (st : Bool) (s : ByteArray) (p : Nat) (h : p < s.size) : scan st (s.data.toList.drop p) = if plainB (s[p]'h).toNat st = true then scan (decide (((s[p]'h).toNat : Int) = 46)) (s.data.toList.drop (p + 1)) else none := by
  have hl : p < s.data.toList.length := by simpa using h
  rw [List.drop_eq_getElem_cons hl]
  rfl
set_option maxHeartbeats 4000000 in
theorem indexFunc_m (s : ByteArray) (id : Nat) (w : Bool) (H : Nat → Option PObj) (nx : Nat) (hid : id < nx) (hH : H id = some ⟨[.sc (.bool true)], w⟩) :
    PMut Try.prog F.strings_indexFunc [.sc (.string s), .fn F.name_Right_1 [.optr id 0], .sc (.bool true)] H nx (fun H' nx' r' => ∃ st k, H' id = some ⟨[.sc (.bool st)], w⟩ ∧ r' = .sc (.int .i64 k) ∧ (scan true s.data.toList = some st ∧ k = -1 ∨ scan true s.data.toList = none ∧ 0 ≤ k)) := by
  refine mut_by is_strings_indexFunc (by simp) fun hb => ?_
  repeat' (first | ((with_reducible first | refine wA (by omega) ?_ | refine wB (by omega) ?_ | refine wC (by omega) ?_ | refine wD (by omega) ?_ | refine wE ?_ ?_ | refine wF ?_ ?_ | refine wG ?_ ?_ | refine wH ?_ ?_ | refine wI ?_ ?_ | refine wJ ?_ ?_ | refine wK ?_ ?_ | refine wL ?_ ?_) <;> intro _) | simp (maxSteps := 1000000) (disch := omega) only [go_sem, Nat.reduceAdd, Nat.reduceMul, Nat.reduceSub, Nat.reduceLeDiff, Nat.reduceEqDiff, Nat.reduceBEq, ↓reduceIte, reduceCtorEq, Int.reduceEq, Int.reduceLE, Int.reduceLT, Int.reduceAdd, Int.reduceSub, Int.reduceNeg, Int.reduceToNat, Int.reduceNe, Nat.reducePow, Nat.reduceShiftRight, Nat.reduceMod, mc_strings_indexFunc, *])
  refine c_loopW 2095552 (by kernel_rfl) (fun j f H m => ∃ p st, j = s.size - p ∧ p ≤ s.size ∧ scan true s.data.toList = scan st (s.data.toList.drop p) ∧ nx < m ∧ H (nx + 2) = some (.iter s p) ∧ H id = some ⟨[.sc (.bool st)], w⟩) _ ⟨0, true, rfl, cE1, rfl, cE1, cE1, cE1⟩ ?_
  rintro _ f H1 m ⟨p, st, rfl, hp, hs, hm, hi, hc⟩
  replace hs := Kept.mk hs
  by_cases hlt : p < s.size
  · have hd := Kept.mk (scan_drop st s p hlt)
    repeat' (first | ((with_reducible first | refine wA (by omega) ?_ | refine wB (by omega) ?_ | refine wC (by omega) ?_ | refine wD (by omega) ?_ | refine wE ?_ ?_ | refine wF ?_ ?_ | refine wG ?_ ?_ | refine wH ?_ ?_ | refine wI ?_ ?_ | refine wJ ?_ ?_ | refine wK ?_ ?_ | refine wL ?_ ?_) <;> intro _) | simp (maxSteps := 1000000) (disch := omega) only [go_sem, Nat.reduceAdd, Nat.reduceMul, Nat.reduceSub, Nat.reduceLeDiff, Nat.reduceEqDiff, Nat.reduceBEq, ↓reduceIte, reduceCtorEq, Int.reduceEq, Int.reduceLE, Int.reduceLT, Int.reduceAdd, Int.reduceSub, Int.reduceNeg, Int.reduceToNat, Int.reduceNe, Nat.reducePow, Nat.reduceShiftRight, Nat.reduceMod, *])
    refine call_mut (Right_1_m _ st id w _ _ cE1) ?_
    rintro H' nx' r ⟨rfl, rfl⟩ hnx
    replace hnx : m + 11 ≤ nx' := by simpa using hnx
    by_cases hasc : (s[p]'hlt).toNat < 128
    · have ha := decode_ascii s p hlt hasc
      simp only [ha]
      repeat' (first | ((with_reducible first | refine wA (by omega) ?_ | refine wB (by omega) ?_ | refine wC (by omega) ?_ | refine wD (by omega) ?_ | refine wE ?_ ?_ | refine wF ?_ ?_ | refine wG ?_ ?_ | refine wH ?_ ?_ | refine wI ?_ ?_ | refine wJ ?_ ?_ | refine wK ?_ ?_ | refine wL ?_ ?_) <;> intro _) | simp (maxSteps := 1000000) (disch := omega) only [go_sem, Nat.reduceAdd, Nat.reduceMul, Nat.reduceSub, Nat.reduceLeDiff, Nat.reduceEqDiff, Nat.reduceBEq, ↓reduceIte, reduceCtorEq, Int.reduceEq, Int.reduceLE, Int.reduceLT, Int.reduceAdd, Int.reduceSub, Int.reduceNeg, Int.reduceToNat, Int.reduceNe, Nat.reducePow, Nat.reduceShiftRight, Nat.reduceMod, *])
      · rename_i hpl
        refine fin_mut (.sc (.int .i64 p)) (.inr rfl) (by simp (disch := omega) only [go_sem, Nat.reduceMul, Nat.reduceSub, Nat.reduceShiftRight, Nat.reduceMod, Nat.reduceEqDiff, Nat.reduceAdd, ↓reduceIte, Nat.reduceLeDiff, *]) ⟨decide (((s[p]'hlt).toNat : Int) = 46), p, cE1, rfl, .inr ⟨?_, by omega⟩⟩
        rw [hs.out, hd.out, if_neg (by simpa using hpl)]
      · rename_i hpl
        refine Nx.mk (s.size - (p + 1)) cE1 ⟨p + 1, decide (((s[p]'hlt).toNat : Int) = 46), rfl, cE1, ?_, cE1, cE1, cE1⟩
        rw [hs.out, hd.out, if_pos (by simpa using hpl)]
    · have hh := decode_high s p hlt (by omega)
      generalize Utf8.decode s p = q at hh
      have hpl : ∀ (c : Nat), 128 ≤ c → plainB c st = false := fun c hc => by
        unfold plainB
        rw [if_neg (by omega), if_neg (by omega)]
      have h1 := hpl q.1 hh
      repeat' (first | ((with_reducible first | refine wA (by omega) ?_ | refine wB (by omega) ?_ | refine wC (by omega) ?_ | refine wD (by omega) ?_ | refine wE ?_ ?_ | refine wF ?_ ?_ | refine wG ?_ ?_ | refine wH ?_ ?_ | refine wI ?_ ?_ | refine wJ ?_ ?_ | refine wK ?_ ?_ | refine wL ?_ ?_) <;> intro _) | simp (maxSteps := 1000000) (disch := omega) only [go_sem, Nat.reduceAdd, Nat.reduceMul, Nat.reduceSub, Nat.reduceLeDiff, Nat.reduceEqDiff, Nat.reduceBEq, ↓reduceIte, reduceCtorEq, Int.reduceEq, Int.reduceLE, Int.reduceLT, Int.reduceAdd, Int.reduceSub, Int.reduceNeg, Int.reduceToNat, Int.reduceNe, Nat.reducePow, Nat.reduceShiftRight, Nat.reduceMod, *])
      refine fin_mut (.sc (.int .i64 p)) (.inr rfl) (by simp (disch := omega) only [go_sem, Nat.reduceMul, Nat.reduceSub, Nat.reduceShiftRight, Nat.reduceMod, Nat.reduceEqDiff, Nat.reduceAdd, ↓reduceIte, Nat.reduceLeDiff, *]) ⟨decide ((q.1 : Int) = 46), p, cE1, rfl, .inr ⟨?_, by omega⟩⟩
      rw [hs.out, hd.out, if_neg (by rw [hpl _ (by omega)]; simp)]
  · obtain rfl : p = s.size := by omega
    repeat' (first | ((with_reducible first | refine wA (by omega) ?_ | refine wB (by omega) ?_ | refine wC (by omega) ?_ | refine wD (by omega) ?_ | refine wE ?_ ?_ | refine wF ?_ ?_ | refine wG ?_ ?_ | refine wH ?_ ?_ | refine wI ?_ ?_ | refine wJ ?_ ?_ | refine wK ?_ ?_ | refine wL ?_ ?_) <;> intro _) | simp (maxSteps := 1000000) (disch := omega) only [go_sem, Nat.reduceAdd, Nat.reduceMul, Nat.reduceSub, Nat.reduceLeDiff, Nat.reduceEqDiff, Nat.reduceBEq, ↓reduceIte, reduceCtorEq, Int.reduceEq, Int.reduceLE, Int.reduceLT, Int.reduceAdd, Int.reduceSub, Int.reduceNeg, Int.reduceToNat, Int.reduceNe, Nat.reducePow, Nat.reduceShiftRight, Nat.reduceMod, *])
    refine fin_mut (.sc (.int .i64 (-1))) (.inr rfl) (by simp (disch := omega) only [go_sem, Nat.reduceMul, Nat.reduceSub, Nat.reduceShiftRight, Nat.reduceMod, Nat.reduceEqDiff, Nat.reduceAdd, ↓reduceIte, Nat.reduceLeDiff, *]) ⟨st, -1, hc, rfl, .inl ⟨?_, rfl⟩⟩
    rw [hs.out, List.drop_eq_nil_of_le (by show s.data.toList.length ≤ s.data.size; simp)]
    rfl
theorem IndexFunc_m (s : ByteArray) (id : Nat) (w : Bool) (H : Nat → Option PObj) (nx : Nat) (hid : id < nx) (hH : H id = some ⟨[.sc (.bool true)], w⟩) :
    PMut Try.prog F.strings_IndexFunc [.sc (.string s), .fn F.name_Right_1 [.optr id 0]] H nx (fun H' nx' r' => ∃ st k, H' id = some ⟨[.sc (.bool st)], w⟩ ∧ r' = .sc (.int .i64 k) ∧ (scan true s.data.toList = some st ∧ k = -1 ∨ scan true s.data.toList = none ∧ 0 ≤ k)) := by
  refine mut_by is_strings_IndexFunc (by simp) fun hb => ?_
  repeat' (first | ((with_reducible first | refine wA (by omega) ?_ | refine wB (by omega) ?_ | refine wC (by omega) ?_ | refine wD (by omega) ?_ | refine wE ?_ ?_ | refine wF ?_ ?_ | refine wG ?_ ?_ | refine wH ?_ ?_ | refine wI ?_ ?_ | refine wJ ?_ ?_ | refine wK ?_ ?_ | refine wL ?_ ?_) <;> intro _) | simp (maxSteps := 1000000) (disch := omega) only [go_sem, Nat.reduceAdd, Nat.reduceMul, Nat.reduceSub, Nat.reduceLeDiff, Nat.reduceEqDiff, Nat.reduceBEq, ↓reduceIte, reduceCtorEq, Int.reduceEq, Int.reduceLE, Int.reduceLT, Int.reduceAdd, Int.reduceSub, Int.reduceNeg, Int.reduceToNat, Int.reduceNe, Nat.reducePow, Nat.reduceShiftRight, Nat.reduceMod, mc_strings_IndexFunc, *])
  refine call_mut (indexFunc_m s id w _ _ cE1 hH) ?_
  rintro H' nx' r ⟨st, k, h1, rfl, h2⟩ hnx
  replace h2 := Kept.mk h2
  repeat' (first | ((with_reducible first | refine wA (by omega) ?_ | refine wB (by omega) ?_ | refine wC (by omega) ?_ | refine wD (by omega) ?_ | refine wE ?_ ?_ | refine wF ?_ ?_ | refine wG ?_ ?_ | refine wH ?_ ?_ | refine wI ?_ ?_ | refine wJ ?_ ?_ | refine wK ?_ ?_ | refine wL ?_ ?_) <;> intro _) | simp (maxSteps := 1000000) (disch := omega) only [go_sem, Nat.reduceAdd, Nat.reduceMul, Nat.reduceSub, Nat.reduceLeDiff, Nat.reduceEqDiff, Nat.reduceBEq, ↓reduceIte, reduceCtorEq, Int.reduceEq, Int.reduceLE, Int.reduceLT, Int.reduceAdd, Int.reduceSub, Int.reduceNeg, Int.reduceToNat, Int.reduceNe, Nat.reducePow, Nat.reduceShiftRight, Nat.reduceMod, *])
  exact fin_mut (.sc (.int .i64 k)) (.inr rfl) (by simp (disch := omega) only [go_sem, Nat.reduceMul, Nat.reduceSub, Nat.reduceShiftRight, Nat.reduceMod, Nat.reduceEqDiff, Nat.reduceAdd, ↓reduceIte, Nat.reduceLeDiff, *]) ⟨st, k, h1, rfl, h2.out⟩
set_option maxHeartbeats 4000000 in
theorem name_Right_p (s : ByteArray) : PPure Try.prog F.name_Right [.sc (.string s)] (.sc (.bool (nameB s))) := by
  refine pure_by is_name_Right (by simp) rfl fun hb nx => ?_
  repeat' (first | ((with_reducible first | refine wA (by omega) ?_ | refine wB (by omega) ?_ | refine wC (by omega) ?_ | refine wD (by omega) ?_ | refine wE ?_ ?_ | refine wF ?_ ?_ | refine wG ?_ ?_ | refine wH ?_ ?_ | refine wI ?_ ?_ | refine wJ ?_ ?_ | refine wK ?_ ?_ | refine wL ?_ ?_) <;> intro _) | simp (maxSteps := 1000000) (disch := omega) only [go_sem, Nat.reduceAdd, Nat.reduceMul, Nat.reduceSub, Nat.reduceLeDiff, Nat.reduceEqDiff, Nat.reduceBEq, ↓reduceIte, reduceCtorEq, Int.reduceEq, Int.reduceLE, Int.reduceLT, Int.reduceAdd, Int.reduceSub, Int.reduceNeg, Int.reduceToNat, Int.reduceNe, Nat.reducePow, Nat.reduceShiftRight, Nat.reduceMod, mc_name_Right, *])
  · (refine fin_tmp (.inr rfl) ?_; (first | rfl | (simp (disch := omega) only [go_sem, Nat.reduceMul, Nat.reduceSub, Nat.reduceShiftRight, Nat.reduceMod, Nat.reduceEqDiff, Nat.reduceAdd, ↓reduceIte, Nat.reduceLeDiff, nameB, *]; done) | (simp [nameB, upd, *]; done) | (simp [nameB, upd, *]; omega)))
  · refine call_mut (IndexFunc_m s (nx + 4) true _ _ cE1 cE1) ?_
    rintro H' nx' r ⟨st, k, h1, rfl, h2⟩ hnx
    rcases h2 with ⟨h2, rfl⟩ | ⟨h2, h3⟩
    · cases st
      · repeat' (first | ((with_reducible first | refine wA (by omega) ?_ | refine wB (by omega) ?_ | refine wC (by omega) ?_ | refine wD (by omega) ?_ | refine wE ?_ ?_ | refine wF ?_ ?_ | refine wG ?_ ?_ | refine wH ?_ ?_ | refine wI ?_ ?_ | refine wJ ?_ ?_ | refine wK ?_ ?_ | refine wL ?_ ?_) <;> intro _) | simp (maxSteps := 1000000) (disch := omega) only [go_sem, Nat.reduceAdd, Nat.reduceMul, Nat.reduceSub, Nat.reduceLeDiff, Nat.reduceEqDiff, Nat.reduceBEq, ↓reduceIte, reduceCtorEq, Int.reduceEq, Int.reduceLE, Int.reduceLT, Int.reduceAdd, Int.reduceSub, Int.reduceNeg, Int.reduceToNat, Int.reduceNe, Nat.reducePow, Nat.reduceShiftRight, Nat.reduceMod, *])
        (refine fin_tmp (.inr rfl) ?_; (first | rfl | (simp (disch := omega) only [go_sem, Nat.reduceMul, Nat.reduceSub, Nat.reduceShiftRight, Nat.reduceMod, Nat.reduceEqDiff, Nat.reduceAdd, ↓reduceIte, Nat.reduceLeDiff, nameB, *]; done) | (simp [nameB, upd, *]; done) | (simp [nameB, upd, *]; omega)))
      · repeat' (first | ((with_reducible first | refine wA (by omega) ?_ | refine wB (by omega) ?_ | refine wC (by omega) ?_ | refine wD (by omega) ?_ | refine wE ?_ ?_ | refine wF ?_ ?_ | refine wG ?_ ?_ | refine wH ?_ ?_ | refine wI ?_ ?_ | refine wJ ?_ ?_ | refine wK ?_ ?_ | refine wL ?_ ?_) <;> intro _) | simp (maxSteps := 1000000) (disch := omega) only [go_sem, Nat.reduceAdd, Nat.reduceMul, Nat.reduceSub, Nat.reduceLeDiff, Nat.reduceEqDiff, Nat.reduceBEq, ↓reduceIte, reduceCtorEq, Int.reduceEq, Int.reduceLE, Int.reduceLT, Int.reduceAdd, Int.reduceSub, Int.reduceNeg, Int.reduceToNat, Int.reduceNe, Nat.reducePow, Nat.reduceShiftRight, Nat.reduceMod, *])
        (refine fin_tmp (.inr rfl) ?_; (first | rfl | (simp (disch := omega) only [go_sem, Nat.reduceMul, Nat.reduceSub, Nat.reduceShiftRight, Nat.reduceMod, Nat.reduceEqDiff, Nat.reduceAdd, ↓reduceIte, Nat.reduceLeDiff, nameB, *]; done) | (simp [nameB, upd, *]; done) | (simp [nameB, upd, *]; omega)))
    · repeat' (first | ((with_reducible first | refine wA (by omega) ?_ | refine wB (by omega) ?_ | refine wC (by omega) ?_ | refine wD (by omega) ?_ | refine wE ?_ ?_ | refine wF ?_ ?_ | refine wG ?_ ?_ | refine wH ?_ ?_ | refine wI ?_ ?_ | refine wJ ?_ ?_ | refine wK ?_ ?_ | refine wL ?_ ?_) <;> intro _) | simp (maxSteps := 1000000) (disch := omega) only [go_sem, Nat.reduceAdd, Nat.reduceMul, Nat.reduceSub, Nat.reduceLeDiff, Nat.reduceEqDiff, Nat.reduceBEq, ↓reduceIte, reduceCtorEq, Int.reduceEq, Int.reduceLE, Int.reduceLT, Int.reduceAdd, Int.reduceSub, Int.reduceNeg, Int.reduceToNat, Int.reduceNe, Nat.reducePow, Nat.reduceShiftRight, Nat.reduceMod, *])
      (refine fin_tmp (.inr rfl) ?_; (first | rfl | (simp (disch := omega) only [go_sem, Nat.reduceMul, Nat.reduceSub, Nat.reduceShiftRight, Nat.reduceMod, Nat.reduceEqDiff, Nat.reduceAdd, ↓reduceIte, Nat.reduceLeDiff, nameB, *]; done) | (simp [nameB, upd, *]; done) | (simp [nameB, upd, *]; omega)))
end
section
set_option maxRecDepth 20000
attribute [local go_sem] Nat.add_assoc
def letterB (c : Int) : Bool := decide ((97 ≤ c ∧ c ≤ 122) ∨ c = 95)
def digitB (c : Int) : Bool := decide (48 ≤ c ∧ c ≤ 57)
theorem letter_p (c : Int) : PPure Try.prog F.ref01_letter [.sc (.int .u8 c)] (.sc (.bool (letterB c))) := by
  refine pure_by is_ref01_letter (by simp) rfl fun hb nx => ?_
  repeat' (first | ((with_reducible first | refine wA (by omega) ?_ | refine wB (by omega) ?_ | refine wC (by omega) ?_ | refine wD (by omega) ?_ | refine wE ?_ ?_ | refine wF ?_ ?_ | refine wG ?_ ?_ | refine wH ?_ ?_ | refine wI ?_ ?_ | refine wJ ?_ ?_ | refine wK ?_ ?_ | refine wL ?_ ?_) <;> intro _) | simp (maxSteps := 1000000) (disch := omega) only [go_sem, Nat.reduceAdd, Nat.reduceMul, Nat.reduceSub, Nat.reduceLeDiff, Nat.reduceEqDiff, Nat.reduceBEq, ↓reduceIte, reduceCtorEq, Int.reduceEq, Int.reduceLE, Int.reduceLT, Int.reduceAdd, Int.reduceSub, Int.reduceNeg, Int.reduceToNat, Int.reduceNe, Nat.reducePow, Nat.reduceShiftRight, Nat.reduceMod, mc_ref01_letter, *])
  all_goals (refine fin_tmp (.inr rfl) ?_; simp [upd, letterB, *])
theorem digit_p (c : Int) : PPure Try.prog F.ref01_digit [.sc (.int .u8 c)] (.sc (.bool (digitB c))) := by
  refine pure_by is_ref01_digit (by simp) rfl fun hb nx => ?_
  repeat' (first | ((with_reducible first | refine wA (by omega) ?_ | refine wB (by omega) ?_ | refine wC (by omega) ?_ | refine wD (by omega) ?_ | refine wE ?_ ?_ | refine wF ?_ ?_ | refine wG ?_ ?_ | refine wH ?_ ?_ | refine wI ?_ ?_ | refine wJ ?_ ?_ | refine wK ?_ ?_ | refine wL ?_ ?_) <;> intro _) | simp (maxSteps := 1000000) (disch := omega) only [go_sem, Nat.reduceAdd, Nat.reduceMul, Nat.reduceSub, Nat.reduceLeDiff, Nat.reduceEqDiff, Nat.reduceBEq, ↓reduceIte, reduceCtorEq, Int.reduceEq, Int.reduceLE, Int.reduceLT, Int.reduceAdd, Int.reduceSub, Int.reduceNeg, Int.reduceToNat, Int.reduceNe, Nat.reducePow, Nat.reduceShiftRight, Nat.reduceMod, mc_ref01_digit, *])
  all_goals (refine fin_tmp (.inr rfl) ?_; simp [upd, digitB, *])
theorem plain_parts (c : Int) (st : Bool) : plainB c st = if letterB c = true then true else if c = 46 ∨ digitB c = true then !st else false := by
  simp only [plainB, letterB, digitB, decide_eq_true_eq]
  have e : (c = 95 ∨ (97 ≤ c ∧ c ≤ 122)) ↔ ((97 ≤ c ∧ c ≤ 122) ∨ c = 95) := Or.comm
  simp only [e]
set_option maxRecDepth 20000 in
set_option maxHeartbeats 400000 in
theorem ref01_Right_p (s : ByteArray) : PPure Try.prog F.ref01_Right [.sc (.string s)] (.sc (.bool (nameB s))) := by
  refine pure_by is_ref01_Right (by simp) rfl fun hb nx => ?_
  by_cases h0 : s.size = 0
  · have hs : s.data.toList = [] := List.eq_nil_of_length_eq_zero (by have : s.data.size = 0 := h0; simpa using this)
    repeat' (first | ((with_reducible first | refine wA (by omega) ?_ | refine wB (by omega) ?_ | refine wC (by omega) ?_ | refine wD (by omega) ?_ | refine wE ?_ ?_ | refine wF ?_ ?_ | refine wG ?_ ?_ | refine wH ?_ ?_ | refine wI ?_ ?_ | refine wJ ?_ ?_ | refine wK ?_ ?_ | refine wL ?_ ?_) <;> intro _) | simp (maxSteps := 1000000) (disch := omega) only [go_sem, Nat.reduceAdd, Nat.reduceMul, Nat.reduceSub, Nat.reduceLeDiff, Nat.reduceEqDiff, Nat.reduceBEq, ↓reduceIte, reduceCtorEq, Int.reduceEq, Int.reduceLE, Int.reduceLT, Int.reduceAdd, Int.reduceSub, Int.reduceNeg, Int.reduceToNat, Int.reduceNe, Nat.reducePow, Nat.reduceShiftRight, Nat.reduceMod, mc_ref01_Right, *])
    refine fin_tmp (.inr rfl) ?_
    simp [upd, nameB, hs, scan]
  · repeat' (first | ((with_reducible first | refine wA (by omega) ?_ | refine wB (by omega) ?_ | refine wC (by omega) ?_ | refine wD (by omega) ?_ | refine wE ?_ ?_ | refine wF ?_ ?_ | refine wG ?_ ?_ | refine wH ?_ ?_ | refine wI ?_ ?_ | refine wJ ?_ ?_ | refine wK ?_ ?_ | refine wL ?_ ?_) <;> intro _) | simp (maxSteps := 1000000) (disch := omega) only [go_sem, Nat.reduceAdd, Nat.reduceMul, Nat.reduceSub, Nat.reduceLeDiff, Nat.reduceEqDiff, Nat.reduceBEq, ↓reduceIte, reduceCtorEq, Int.reduceEq, Int.reduceLE, Int.reduceLT, Int.reduceAdd, Int.reduceSub, Int.reduceNeg, Int.reduceToNat, Int.reduceNe, Nat.reducePow, Nat.reduceShiftRight, Nat.reduceMod, mc_ref01_Right, *])
    · (refine fin_tmp (.inr rfl) ?_; (first | rfl | (simp (disch := omega) only [go_sem, Nat.reduceMul, Nat.reduceSub, Nat.reduceShiftRight, Nat.reduceMod, Nat.reduceEqDiff, Nat.reduceAdd, ↓reduceIte, Nat.reduceLeDiff, nameB, *]; done) | (simp [nameB, upd, *]; done) | (simp [nameB, upd, *]; omega)))
    · refine c_loopW 1099511619612 (by kernel_rfl) (fun j f H m => ∃ i st, j = s.size - i ∧ i ≤ s.size ∧ f 4 = .sc (.int .i64 (i : Nat)) ∧ f 3 = .sc (.bool st) ∧ Kept (scan true s.data.toList = scan st (s.data.toList.drop i))) _ ⟨0, true, rfl, cE1, cE1, cE1, Kept.mk (by rw [List.drop_zero])⟩ ?_
      rintro _ f H m ⟨i, st, rfl, hi, e4, e3, hs⟩
      by_cases hlt : i < s.size
      · have hd := Kept.mk (scan_drop st s i hlt)
        have hg : s[i]? = some (s[i]'hlt) := getElem?_pos s i hlt
        have hp := Kept.mk (plain_parts (s[i]'hlt).toNat st)
        have hbt : ((s[i]'hlt).toNat : Int) < 256 := by have := (s[i]'hlt).toNat_lt; omega
        have hF : plainB (s[i]'hlt).toNat st = false → nameB s = false := fun h => by
          unfold nameB
          rw [hs.out, hd.out, h]
          simp
        have hT : plainB (s[i]'hlt).toNat st = true → Kept (scan true s.data.toList = scan (decide (((s[i]'hlt).toNat : Int) = 46)) (s.data.toList.drop (i + 1))) := fun h => Kept.mk (by rw [hs.out, hd.out, if_pos h])
        have hL : ∀ c : Int, letterB c = true → ¬ c = 46 := fun c h => by unfold letterB at h; simp at h; omega
        have hD : ∀ c : Int, digitB c = true → ¬ c = 46 := fun c h => by unfold digitB at h; simp at h; omega
        have lL := hL (s[i]'hlt).toNat
        have lD := hD (s[i]'hlt).toNat
        have lN : letterB 46 = false := by decide
        clear hd hL hD
        generalize s[i]'hlt = c at *
        repeat' (first | ((with_reducible first | refine wA (by omega) ?_ | refine wB (by omega) ?_ | refine wC (by omega) ?_ | refine wD (by omega) ?_ | refine wE ?_ ?_ | refine wF ?_ ?_ | refine wG ?_ ?_ | refine wH ?_ ?_ | refine wI ?_ ?_ | refine wJ ?_ ?_ | refine wK ?_ ?_ | refine wL ?_ ?_) <;> intro _) | (((with_reducible refine call_id ?_); (first | (refine call_pure (letter_p c.toNat) ?_) | (refine call_pure (digit_p c.toNat) ?_)))) | simp (maxSteps := 1000000) (disch := omega) only [go_sem, Nat.reduceAdd, Nat.reduceMul, Nat.reduceSub, Nat.reduceLeDiff, Nat.reduceEqDiff, Nat.reduceBEq, ↓reduceIte, reduceCtorEq, Int.reduceEq, Int.reduceLE, Int.reduceLT, Int.reduceAdd, Int.reduceSub, Int.reduceNeg, Int.reduceToNat, Int.reduceNe, Nat.reducePow, Nat.reduceShiftRight, Nat.reduceMod, *])
        all_goals first
          | (refine fin_tmp (.inr rfl) ?_; rw [hF (by rw [hp.out]; simp [*])]; simp (disch := omega) only [go_sem, Nat.reduceMul, Nat.reduceSub, Nat.reduceShiftRight, Nat.reduceMod, Nat.reduceEqDiff, Nat.reduceAdd, ↓reduceIte, Nat.reduceLeDiff, *]; done)
          | (refine Nx.mk (s.size - (i + 1)) cE1 ⟨i + 1, decide ((c.toNat : Int) = 46), rfl, cE1, cE1, ?_, hT (by rw [hp.out]; simp [*])⟩; simp [upd, ovr_get, *])
      · obtain rfl : i = s.size := by omega
        have h1 := hs.out
        rw [List.drop_eq_nil_of_le (by show s.data.toList.length ≤ s.data.size; simp)] at h1
        repeat' (first | ((with_reducible first | refine wA (by omega) ?_ | refine wB (by omega) ?_ | refine wC (by omega) ?_ | refine wD (by omega) ?_ | refine wE ?_ ?_ | refine wF ?_ ?_ | refine wG ?_ ?_ | refine wH ?_ ?_ | refine wI ?_ ?_ | refine wJ ?_ ?_ | refine wK ?_ ?_ | refine wL ?_ ?_) <;> intro _) | simp (maxSteps := 1000000) (disch := omega) only [go_sem, Nat.reduceAdd, Nat.reduceMul, Nat.reduceSub, Nat.reduceLeDiff, Nat.reduceEqDiff, Nat.reduceBEq, ↓reduceIte, reduceCtorEq, Int.reduceEq, Int.reduceLE, Int.reduceLT, Int.reduceAdd, Int.reduceSub, Int.reduceNeg, Int.reduceToNat, Int.reduceNe, Nat.reducePow, Nat.reduceShiftRight, Nat.reduceMod, *])
        refine fin_tmp (.inr rfl) ?_
        simp [upd, ovr_get, nameB, h1, scan, *]
        try omega
end
section
set_option maxRecDepth 20000
attribute [local go_sem] pv_len pv_take Nat.add_assoc
inductive Tm where
  | mk (kind n : Int) (name : ByteArray) (levels : List Lv) (args : List Tm)
mutual
def Tm.size : Tm → Nat
  | .mk _ _ _ _ args => 1 + sizeL args
def sizeL : List Tm → Nat
  | [] => 0
  | x :: r => x.size + sizeL r
end
def Tm.pv : Tm → List PV
  | .mk k n s ls args => [.sc (.int .i64 k), .sc (.int .i64 n), .sc (.string s), .sl 3 (ls.map Lv.pv), .sl 5 (args.map Tm.pv)]
theorem tm_len (t : Tm) : t.pv.length = 5 := by cases t; simp [Tm.pv]
attribute [local go_sem] tm_len
theorem tm_take (t : Tm) : t.pv.take 5 = t.pv := List.take_of_length_le (by rw [tm_len]; omega)
attribute [local go_sem] tm_take
theorem size_pos (t : Tm) : 0 < t.size := by cases t; simp only [Tm.size]; omega
theorem sizeL_mem : ∀ (ts : List Tm) (k : Nat) (h : k < ts.length), ts[k].size ≤ sizeL ts
  | x :: r, 0, h => by simp [sizeL]
  | x :: r, k + 1, h => by
    have := sizeL_mem r k (by simpa using h)
    simp only [List.getElem_cons_succ, sizeL]
    omega
theorem len_sizeL : ∀ ts : List Tm, ts.length ≤ sizeL ts
  | [] => Nat.le_refl _
  | x :: r => by have := len_sizeL r; have := size_pos x; simp only [List.length_cons, sizeL]; omega
def deepB (kind : Int) (len i : Nat) : Int := if 5 ≤ kind ∧ i + 1 = len then 1 else 0
theorem deep_bd (kind : Int) (len i : Nat) : 0 ≤ deepB kind len i ∧ deepB kind len i ≤ 1 := by unfold deepB; split <;> omega
def noS (s : ByteArray) : Bool := s.toList == (⟨#[]⟩ : ByteArray).toList
theorem fold_noS {s : ByteArray} : (s.toList == (⟨#[]⟩ : ByteArray).toList) = noS s := nr rfl
def hasB (n : Int) (s : ByteArray) (ls : List Lv) (args : List Tm) (a b c : Int) : Bool := decide (n = a) && (noS s && (decide ((ls.length : Int) = b) && decide ((args.length : Int) = c)))
def headR (np : Int) : List Lv → Bool
  | l :: _ => l.right np
  | [] => false
def constB (n : Int) (s : ByteArray) (ls : List Lv) (args : List Tm) (np : Int) : Bool := decide (n = 0) && (decide (args.length = 0) && (decide (ls.length ≤ 4) && (nameB s && ls.all (Lv.right np))))
mutual
def Tm.formed (np : Int) : Int → Tm → Bool
  | k, .mk kind n s ls args =>
    if kind = 1 then decide (0 ≤ n) && (decide (n < k) && hasB n s ls args n 0 0)
    else if kind = 2 then hasB n s ls args 0 1 0 && headR np ls
    else if kind = 3 then constB n s ls args np
    else if kind = 4 ∨ kind = 5 ∨ kind = 6 then hasB n s ls args 0 0 2 && formedA np k kind args.length 0 args
    else if kind = 7 then hasB n s ls args 0 0 3 && formedA np k kind args.length 0 args
    else false
def formedA (np : Int) : Int → Int → Nat → Nat → List Tm → Bool
  | _, _, _, _, [] => true
  | k, kind, len, i, x :: r => x.formed np (k + deepB kind len i) && formedA np k kind len (i + 1) r
end
theorem deeper_p (t : Tm) (i : Nat) (kind n : Int) (s : ByteArray) (ls : List Lv) (args : List Tm) (e : t = .mk kind n s ls args) : PPure Try.prog F.term_deeper [.ptr t.pv, .sc (.int .i64 i)] (.sc (.int .i64 (deepB kind args.length i))) := by
  subst e
  refine pure_by is_term_deeper (by simp) rfl fun hb nx => ?_
  have hb0 : args.length ≤ 9223372036854775807 := by simp [Tm.pv, bndL, PV.bnd] at hb; exact hb.2.1
  repeat' (first | ((with_reducible first | refine wA (by omega) ?_ | refine wB (by omega) ?_ | refine wC (by omega) ?_ | refine wD (by omega) ?_ | refine wE ?_ ?_ | refine wF ?_ ?_ | refine wG ?_ ?_ | refine wH ?_ ?_ | refine wI ?_ ?_ | refine wJ ?_ ?_ | refine wK ?_ ?_ | refine wL ?_ ?_) <;> intro _) | simp (maxSteps := 1000000) (disch := omega) only [go_sem, Nat.reduceAdd, Nat.reduceMul, Nat.reduceSub, Nat.reduceLeDiff, Nat.reduceEqDiff, Nat.reduceBEq, ↓reduceIte, reduceCtorEq, Int.reduceEq, Int.reduceLE, Int.reduceLT, Int.reduceAdd, Int.reduceSub, Int.reduceNeg, Int.reduceToNat, Int.reduceNe, Nat.reducePow, Nat.reduceShiftRight, Nat.reduceMod, mc_term_deeper, Tm.pv, *])
  all_goals (refine fin_tmp (.inr rfl) ?_; simp [upd, deepB, *]; try omega)
theorem has_p (kind n : Int) (s : ByteArray) (ls : List Lv) (args : List Tm) (a b c : Int) :
    PPure Try.prog F.term_has [.ptr (Tm.mk kind n s ls args).pv, .sc (.int .i64 a), .sc (.int .i64 b), .sc (.int .i64 c)] (.sc (.bool (hasB n s ls args a b c))) := by
  unfold hasB
  refine pure_by is_term_has (by simp) rfl fun hb nx => ?_
  repeat' (first | ((with_reducible first | refine wA (by omega) ?_ | refine wB (by omega) ?_ | refine wC (by omega) ?_ | refine wD (by omega) ?_ | refine wE ?_ ?_ | refine wF ?_ ?_ | refine wG ?_ ?_ | refine wH ?_ ?_ | refine wI ?_ ?_ | refine wJ ?_ ?_ | refine wK ?_ ?_ | refine wL ?_ ?_) <;> intro _) | simp (maxSteps := 1000000) (disch := omega) only [go_sem, Nat.reduceAdd, Nat.reduceMul, Nat.reduceSub, Nat.reduceLeDiff, Nat.reduceEqDiff, Nat.reduceBEq, ↓reduceIte, reduceCtorEq, Int.reduceEq, Int.reduceLE, Int.reduceLT, Int.reduceAdd, Int.reduceSub, Int.reduceNeg, Int.reduceToNat, Int.reduceNe, Nat.reducePow, Nat.reduceShiftRight, Nat.reduceMod, mc_term_has, Tm.pv, strBin, fold_noS, *])
  all_goals (refine fin_tmp (.inr rfl) ?_; simp [upd, *])
theorem all_right_take (np : Int) (ls : List Lv) (k : Nat) (h : k < ls.length) : (ls.take (k + 1)).all (Lv.right np) = ((ls.take k).all (Lv.right np) && ls[k].right np) := by
  rw [List.take_succ_eq_append_getElem h, List.all_append]; simp
theorem all_right_false (np : Int) (ls : List Lv) (k : Nat) (h : k < ls.length) (hp : ls[k].right np = false) : ls.all (Lv.right np) = false := by
  rw [List.all_eq_false]; exact ⟨_, List.getElem_mem h, by simp [hp]⟩
set_option maxHeartbeats 4000000 in
theorem constant_p (kind n : Int) (s : ByteArray) (ls : List Lv) (args : List Tm) (np : Int) :
    PPure Try.prog F.term_constant [.ptr (Tm.mk kind n s ls args).pv, .sc (.int .i64 np)] (.sc (.bool (constB n s ls args np))) := by
  unfold constB
  refine pure_by is_term_constant (by simp) rfl fun hb nx => ?_
  have hb0 : args.length ≤ 9223372036854775807 := by simp [Tm.pv, bndL, PV.bnd] at hb; exact hb.2.1
  repeat' (first | ((with_reducible first | refine wA (by omega) ?_ | refine wB (by omega) ?_ | refine wC (by omega) ?_ | refine wD (by omega) ?_ | refine wE ?_ ?_ | refine wF ?_ ?_ | refine wG ?_ ?_ | refine wH ?_ ?_ | refine wI ?_ ?_ | refine wJ ?_ ?_ | refine wK ?_ ?_ | refine wL ?_ ?_) <;> intro _) | (((with_reducible refine call_id ?_); (first | (refine call_pure (name_Right_p s) ?_)))) | simp (maxSteps := 1000000) (disch := omega) only [go_sem, Nat.reduceAdd, Nat.reduceMul, Nat.reduceSub, Nat.reduceLeDiff, Nat.reduceEqDiff, Nat.reduceBEq, ↓reduceIte, reduceCtorEq, Int.reduceEq, Int.reduceLE, Int.reduceLT, Int.reduceAdd, Int.reduceSub, Int.reduceNeg, Int.reduceToNat, Int.reduceNe, Nat.reducePow, Nat.reduceShiftRight, Nat.reduceMod, mc_term_constant, Tm.pv, *])
  all_goals (try (refine fin_tmp (.inr rfl) ?_; simp [upd, *] <;> (try omega); done))
  refine c_loopW 18013298997854256 (by kernel_rfl) (fun j f H m => ∃ i : Nat, j = ls.length - i ∧ i ≤ ls.length ∧ f 40 = .sc (.int .i64 i) ∧ (ls.take i).all (Lv.right np) = true) _ ⟨0, rfl, cE1, cE1, rfl⟩ ?_
  rintro _ f H m ⟨i, rfl, hi, e40, hall⟩
  by_cases hlt : i < ls.length
  · have eg : ls[i]? = some ls[i] := List.getElem?_eq_getElem hlt
    have ht := all_right_take np ls i hlt
    have hq := all_right_false np ls i hlt
    repeat' (first | ((with_reducible first | refine wA (by omega) ?_ | refine wB (by omega) ?_ | refine wC (by omega) ?_ | refine wD (by omega) ?_ | refine wE ?_ ?_ | refine wF ?_ ?_ | refine wG ?_ ?_ | refine wH ?_ ?_ | refine wI ?_ ?_ | refine wJ ?_ ?_ | refine wK ?_ ?_ | refine wL ?_ ?_) <;> intro _) | (((with_reducible refine call_id ?_); (first | (refine call_pure (Right_p ls[i] np) ?_)))) | simp (maxSteps := 1000000) (disch := omega) only [go_sem, Nat.reduceAdd, Nat.reduceMul, Nat.reduceSub, Nat.reduceLeDiff, Nat.reduceEqDiff, Nat.reduceBEq, ↓reduceIte, reduceCtorEq, Int.reduceEq, Int.reduceLE, Int.reduceLT, Int.reduceAdd, Int.reduceSub, Int.reduceNeg, Int.reduceToNat, Int.reduceNe, Nat.reducePow, Nat.reduceShiftRight, Nat.reduceMod, Tm.pv, *])
    · rename_i h
      have := hq h
      refine fin_tmp (.inr rfl) ?_
      simp [upd, *]
    · rename_i h
      refine Nx.mk (ls.length - (i + 1)) cE1 ⟨i + 1, cE1, cE1, cE1, by rw [ht, hall, h]; rfl⟩
  · obtain rfl : i = ls.length := by omega
    rw [List.take_length] at hall
    repeat' (first | ((with_reducible first | refine wA (by omega) ?_ | refine wB (by omega) ?_ | refine wC (by omega) ?_ | refine wD (by omega) ?_ | refine wE ?_ ?_ | refine wF ?_ ?_ | refine wG ?_ ?_ | refine wH ?_ ?_ | refine wI ?_ ?_ | refine wJ ?_ ?_ | refine wK ?_ ?_ | refine wL ?_ ?_) <;> intro _) | simp (maxSteps := 1000000) (disch := omega) only [go_sem, Nat.reduceAdd, Nat.reduceMul, Nat.reduceSub, Nat.reduceLeDiff, Nat.reduceEqDiff, Nat.reduceBEq, ↓reduceIte, reduceCtorEq, Int.reduceEq, Int.reduceLE, Int.reduceLT, Int.reduceAdd, Int.reduceSub, Int.reduceNeg, Int.reduceToNat, Int.reduceNe, Nat.reducePow, Nat.reduceShiftRight, Nat.reduceMod, Tm.pv, *])
    refine fin_tmp (.inr rfl) ?_
    simp [upd, *]
    omega
set_option maxHeartbeats 16000000 in
theorem formed_parts (np : Int) : ∀ fuel : Nat,
    (∀ (t : Tm) (k : Int), t.size ≤ fuel → 0 ≤ k → k + t.size ≤ 2 ^ 60 → PPure Try.prog F.term_formed [.ptr t.pv, .sc (.int .i64 np), .sc (.int .i64 k)] (.sc (.bool (t.formed np k)))) ∧
    (∀ (kind n : Int) (s : ByteArray) (ls : List Lv) (args : List Tm) (k : Int), sizeL args ≤ fuel → 0 ≤ k → k + sizeL args + 1 ≤ 2 ^ 60 → PPure Try.prog F.term_parts [.ptr (Tm.mk kind n s ls args).pv, .sc (.int .i64 np), .sc (.int .i64 k)] (.sc (.bool (formedA np k kind args.length 0 args)))) := by
  intro fuel
  induction fuel with
  | zero =>
    refine ⟨fun t k h => ?_, fun kind n s ls args k h h1 h2 => ?_⟩
    · have := size_pos t; omega
    · obtain rfl : args = [] := by have := len_sizeL args; exact List.eq_nil_of_length_eq_zero (by omega)
      refine pure_by is_term_parts (by simp) rfl fun hb nx => ?_
      repeat' (first | ((with_reducible first | refine wA (by omega) ?_ | refine wB (by omega) ?_ | refine wC (by omega) ?_ | refine wD (by omega) ?_ | refine wE ?_ ?_ | refine wF ?_ ?_ | refine wG ?_ ?_ | refine wH ?_ ?_ | refine wI ?_ ?_ | refine wJ ?_ ?_ | refine wK ?_ ?_ | refine wL ?_ ?_) <;> intro _) | simp (maxSteps := 1000000) (disch := omega) only [go_sem, Nat.reduceAdd, Nat.reduceMul, Nat.reduceSub, Nat.reduceLeDiff, Nat.reduceEqDiff, Nat.reduceBEq, ↓reduceIte, reduceCtorEq, Int.reduceEq, Int.reduceLE, Int.reduceLT, Int.reduceAdd, Int.reduceSub, Int.reduceNeg, Int.reduceToNat, Int.reduceNe, Nat.reducePow, Nat.reduceShiftRight, Nat.reduceMod, mc_term_parts, Tm.pv, *])
      refine c_rounds 1 ?_
      repeat' (first | ((with_reducible first | refine wA (by omega) ?_ | refine wB (by omega) ?_ | refine wC (by omega) ?_ | refine wD (by omega) ?_ | refine wE ?_ ?_ | refine wF ?_ ?_ | refine wG ?_ ?_ | refine wH ?_ ?_ | refine wI ?_ ?_ | refine wJ ?_ ?_ | refine wK ?_ ?_ | refine wL ?_ ?_) <;> intro _) | simp (maxSteps := 1000000) (disch := omega) only [go_sem, Nat.reduceAdd, Nat.reduceMul, Nat.reduceSub, Nat.reduceLeDiff, Nat.reduceEqDiff, Nat.reduceBEq, ↓reduceIte, reduceCtorEq, Int.reduceEq, Int.reduceLE, Int.reduceLT, Int.reduceAdd, Int.reduceSub, Int.reduceNeg, Int.reduceToNat, Int.reduceNe, Nat.reducePow, Nat.reduceShiftRight, Nat.reduceMod, rounds_next, *])
      (refine fin_tmp (.inr rfl) ?_; (first | rfl | (simp (disch := omega) only [go_sem, Nat.reduceMul, Nat.reduceSub, Nat.reduceShiftRight, Nat.reduceMod, Nat.reduceEqDiff, Nat.reduceAdd, ↓reduceIte, Nat.reduceLeDiff, formedA, *]; done) | (simp [formedA, upd, *]; done) | (simp [formedA, upd, *]; omega)))
  | succ fuel ih =>
    obtain ⟨ih1, ih2⟩ := ih
    have hparts : ∀ (kind n : Int) (s : ByteArray) (ls : List Lv) (args : List Tm) (k : Int), sizeL args ≤ fuel + 1 → 0 ≤ k → k + sizeL args + 1 ≤ 2 ^ 60 → (∀ x ∈ args, ∀ k' : Int, 0 ≤ k' → k' ≤ k + 1 → PPure Try.prog F.term_formed [.ptr x.pv, .sc (.int .i64 np), .sc (.int .i64 k')] (.sc (.bool (x.formed np k')))) →
        PPure Try.prog F.term_parts [.ptr (Tm.mk kind n s ls args).pv, .sc (.int .i64 np), .sc (.int .i64 k)] (.sc (.bool (formedA np k kind args.length 0 args))) := by
      intro kind n s ls args k hsz h0 h1 hx
      refine pure_by is_term_parts (by simp) rfl fun hb nx => ?_
      have hb0 : args.length ≤ 9223372036854775807 := by simp [Tm.pv, bndL, PV.bnd] at hb; exact hb.2.1
      repeat' (first | ((with_reducible first | refine wA (by omega) ?_ | refine wB (by omega) ?_ | refine wC (by omega) ?_ | refine wD (by omega) ?_ | refine wE ?_ ?_ | refine wF ?_ ?_ | refine wG ?_ ?_ | refine wH ?_ ?_ | refine wI ?_ ?_ | refine wJ ?_ ?_ | refine wK ?_ ?_ | refine wL ?_ ?_) <;> intro _) | simp (maxSteps := 1000000) (disch := omega) only [go_sem, Nat.reduceAdd, Nat.reduceMul, Nat.reduceSub, Nat.reduceLeDiff, Nat.reduceEqDiff, Nat.reduceBEq, ↓reduceIte, reduceCtorEq, Int.reduceEq, Int.reduceLE, Int.reduceLT, Int.reduceAdd, Int.reduceSub, Int.reduceNeg, Int.reduceToNat, Int.reduceNe, Nat.reducePow, Nat.reduceShiftRight, Nat.reduceMod, mc_term_parts, Tm.pv, *])
      refine c_loopW 2147475648 (by kernel_rfl) (fun j f H m => ∃ i : Nat, j = args.length - i ∧ i ≤ args.length ∧ f 13 = .sc (.int .i64 i) ∧ Kept (formedA np k kind args.length 0 args = formedA np k kind args.length i (args.drop i))) _ ⟨0, rfl, cE1, cE1, Kept.mk (by rw [List.drop_zero])⟩ ?_
      rintro _ f H m ⟨i, rfl, hi, e13, hs⟩
      by_cases hlt : i < args.length
      · have eg : args[i]? = some args[i] := List.getElem?_eq_getElem hlt
        have hd := deep_bd kind args.length i
        have hst : Kept (formedA np k kind args.length i (args.drop i) = (args[i].formed np (k + deepB kind args.length i) && formedA np k kind args.length (i + 1) (args.drop (i + 1)))) := Kept.mk (by rw [List.drop_eq_getElem_cons hlt]; rfl)
        have hlen := len_sizeL args
        have hc1 := deeper_p (.mk kind n s ls args) i
        have hc2 := hc1 kind n s ls args rfl
        simp only [Tm.pv] at hc2
        have hc3 := hx args[i] (List.getElem_mem hlt) (k + deepB kind args.length i) (by omega) (by omega)
        clear hc1
        repeat' (first | ((with_reducible first | refine wA (by omega) ?_ | refine wB (by omega) ?_ | refine wC (by omega) ?_ | refine wD (by omega) ?_ | refine wE ?_ ?_ | refine wF ?_ ?_ | refine wG ?_ ?_ | refine wH ?_ ?_ | refine wI ?_ ?_ | refine wJ ?_ ?_ | refine wK ?_ ?_ | refine wL ?_ ?_) <;> intro _) | (((with_reducible refine call_id ?_); (first | (refine call_pure (hc2) ?_) | (refine call_pure (hc3) ?_)))) | simp (maxSteps := 1000000) (disch := omega) only [go_sem, Nat.reduceAdd, Nat.reduceMul, Nat.reduceSub, Nat.reduceLeDiff, Nat.reduceEqDiff, Nat.reduceBEq, ↓reduceIte, reduceCtorEq, Int.reduceEq, Int.reduceLE, Int.reduceLT, Int.reduceAdd, Int.reduceSub, Int.reduceNeg, Int.reduceToNat, Int.reduceNe, Nat.reducePow, Nat.reduceShiftRight, Nat.reduceMod, Tm.pv, *])
        · rename_i h
          refine fin_tmp (.inr rfl) ?_
          rw [hs.out, hst.out, h]
          rfl
        · rename_i h
          refine Nx.mk (args.length - (i + 1)) cE1 ⟨i + 1, cE1, cE1, cE1, Kept.mk (by rw [hs.out, hst.out, h]; rfl)⟩
      · obtain rfl : i = args.length := by omega
        repeat' (first | ((with_reducible first | refine wA (by omega) ?_ | refine wB (by omega) ?_ | refine wC (by omega) ?_ | refine wD (by omega) ?_ | refine wE ?_ ?_ | refine wF ?_ ?_ | refine wG ?_ ?_ | refine wH ?_ ?_ | refine wI ?_ ?_ | refine wJ ?_ ?_ | refine wK ?_ ?_ | refine wL ?_ ?_) <;> intro _) | simp (maxSteps := 1000000) (disch := omega) only [go_sem, Nat.reduceAdd, Nat.reduceMul, Nat.reduceSub, Nat.reduceLeDiff, Nat.reduceEqDiff, Nat.reduceBEq, ↓reduceIte, reduceCtorEq, Int.reduceEq, Int.reduceLE, Int.reduceLT, Int.reduceAdd, Int.reduceSub, Int.reduceNeg, Int.reduceToNat, Int.reduceNe, Nat.reducePow, Nat.reduceShiftRight, Nat.reduceMod, Tm.pv, *])
        have h2 := hs.out
        rw [List.drop_length] at h2
        refine fin_tmp (.inr rfl) ?_
        rw [h2]
        simp (disch := omega) only [go_sem, Nat.reduceMul, Nat.reduceSub, Nat.reduceShiftRight, Nat.reduceMod, Nat.reduceEqDiff, Nat.reduceAdd, ↓reduceIte, Nat.reduceLeDiff, formedA]
    have hmem : ∀ (args : List Tm) (x : Tm), x ∈ args → x.size ≤ sizeL args := fun args x hx => by
      obtain ⟨i, hi, e⟩ := List.getElem_of_mem hx
      rw [← e]; exact sizeL_mem args i hi
    have hformed : ∀ (t : Tm) (k : Int), t.size ≤ fuel + 1 → 0 ≤ k → k + t.size ≤ 2 ^ 60 → PPure Try.prog F.term_formed [.ptr t.pv, .sc (.int .i64 np), .sc (.int .i64 k)] (.sc (.bool (t.formed np k))) := by
      intro t k hsz h0 h1
      cases t with
      | mk kind n s ls args =>
      simp only [Tm.size] at hsz h1
      have c1 := has_p kind n s ls args
      have c2 := constant_p kind n s ls args np
      have c3 := hparts kind n s ls args k (by omega) h0 (by omega) fun x hx k' h2 h3 => ih1 x k' (by have := hmem args x hx; omega) h2 (by have := hmem args x hx; omega)
      simp only [Tm.pv] at c1 c2 c3
      clear ih1 ih2 hparts hmem
      refine pure_by is_term_formed (by simp) rfl fun hb nx => ?_
      by_cases k1 : kind = 1
      · subst k1
        repeat' (first | ((with_reducible first | refine wA (by omega) ?_ | refine wB (by omega) ?_ | refine wC (by omega) ?_ | refine wD (by omega) ?_ | refine wE ?_ ?_ | refine wF ?_ ?_ | refine wG ?_ ?_ | refine wH ?_ ?_ | refine wI ?_ ?_ | refine wJ ?_ ?_ | refine wK ?_ ?_ | refine wL ?_ ?_) <;> intro _) | (((with_reducible refine call_id ?_); (first | (refine call_pure (c1 n 0 0) ?_)))) | simp (maxSteps := 1000000) (disch := omega) only [go_sem, Nat.reduceAdd, Nat.reduceMul, Nat.reduceSub, Nat.reduceLeDiff, Nat.reduceEqDiff, Nat.reduceBEq, ↓reduceIte, reduceCtorEq, Int.reduceEq, Int.reduceLE, Int.reduceLT, Int.reduceAdd, Int.reduceSub, Int.reduceNeg, Int.reduceToNat, Int.reduceNe, Nat.reducePow, Nat.reduceShiftRight, Nat.reduceMod, mc_term_formed, Tm.pv, *])
        all_goals (refine fin_tmp (.inr rfl) ?_; simp [upd, Tm.formed, headR, *]; try omega)
      by_cases k2 : kind = 2
      · subst k2
        by_cases h2 : hasB n s ls args 0 1 0 = true
        · have hl : ls.length = 1 := by
            simp only [hasB, Bool.and_eq_true, decide_eq_true_eq] at h2
            omega
          match ls, hl with
          | [l], _ =>
            repeat' (first | ((with_reducible first | refine wA (by omega) ?_ | refine wB (by omega) ?_ | refine wC (by omega) ?_ | refine wD (by omega) ?_ | refine wE ?_ ?_ | refine wF ?_ ?_ | refine wG ?_ ?_ | refine wH ?_ ?_ | refine wI ?_ ?_ | refine wJ ?_ ?_ | refine wK ?_ ?_ | refine wL ?_ ?_) <;> intro _) | (((with_reducible refine call_id ?_); (first | (refine call_pure (c1 0 1 0) ?_) | (refine call_pure (Right_p l np) ?_)))) | simp (maxSteps := 1000000) (disch := omega) only [go_sem, Nat.reduceAdd, Nat.reduceMul, Nat.reduceSub, Nat.reduceLeDiff, Nat.reduceEqDiff, Nat.reduceBEq, ↓reduceIte, reduceCtorEq, Int.reduceEq, Int.reduceLE, Int.reduceLT, Int.reduceAdd, Int.reduceSub, Int.reduceNeg, Int.reduceToNat, Int.reduceNe, Nat.reducePow, Nat.reduceShiftRight, Nat.reduceMod, mc_term_formed, Tm.pv, *])
            all_goals (refine fin_tmp (.inr rfl) ?_; simp [upd, Tm.formed, headR, *]; try omega)
        · repeat' (first | ((with_reducible first | refine wA (by omega) ?_ | refine wB (by omega) ?_ | refine wC (by omega) ?_ | refine wD (by omega) ?_ | refine wE ?_ ?_ | refine wF ?_ ?_ | refine wG ?_ ?_ | refine wH ?_ ?_ | refine wI ?_ ?_ | refine wJ ?_ ?_ | refine wK ?_ ?_ | refine wL ?_ ?_) <;> intro _) | (((with_reducible refine call_id ?_); (first | (refine call_pure (c1 0 1 0) ?_)))) | simp (maxSteps := 1000000) (disch := omega) only [go_sem, Nat.reduceAdd, Nat.reduceMul, Nat.reduceSub, Nat.reduceLeDiff, Nat.reduceEqDiff, Nat.reduceBEq, ↓reduceIte, reduceCtorEq, Int.reduceEq, Int.reduceLE, Int.reduceLT, Int.reduceAdd, Int.reduceSub, Int.reduceNeg, Int.reduceToNat, Int.reduceNe, Nat.reducePow, Nat.reduceShiftRight, Nat.reduceMod, mc_term_formed, Tm.pv, *])
          all_goals (refine fin_tmp (.inr rfl) ?_; simp [upd, Tm.formed, headR, *]; try omega)
      by_cases k3 : kind = 3
      · subst k3
        repeat' (first | ((with_reducible first | refine wA (by omega) ?_ | refine wB (by omega) ?_ | refine wC (by omega) ?_ | refine wD (by omega) ?_ | refine wE ?_ ?_ | refine wF ?_ ?_ | refine wG ?_ ?_ | refine wH ?_ ?_ | refine wI ?_ ?_ | refine wJ ?_ ?_ | refine wK ?_ ?_ | refine wL ?_ ?_) <;> intro _) | (((with_reducible refine call_id ?_); (first | (refine call_pure (c2) ?_)))) | simp (maxSteps := 1000000) (disch := omega) only [go_sem, Nat.reduceAdd, Nat.reduceMul, Nat.reduceSub, Nat.reduceLeDiff, Nat.reduceEqDiff, Nat.reduceBEq, ↓reduceIte, reduceCtorEq, Int.reduceEq, Int.reduceLE, Int.reduceLT, Int.reduceAdd, Int.reduceSub, Int.reduceNeg, Int.reduceToNat, Int.reduceNe, Nat.reducePow, Nat.reduceShiftRight, Nat.reduceMod, mc_term_formed, Tm.pv, *])
        all_goals (refine fin_tmp (.inr rfl) ?_; simp [upd, Tm.formed, headR, *]; try omega)
      by_cases k4 : kind = 4
      · subst k4
        repeat' (first | ((with_reducible first | refine wA (by omega) ?_ | refine wB (by omega) ?_ | refine wC (by omega) ?_ | refine wD (by omega) ?_ | refine wE ?_ ?_ | refine wF ?_ ?_ | refine wG ?_ ?_ | refine wH ?_ ?_ | refine wI ?_ ?_ | refine wJ ?_ ?_ | refine wK ?_ ?_ | refine wL ?_ ?_) <;> intro _) | (((with_reducible refine call_id ?_); (first | (refine call_pure (c1 0 0 2) ?_) | (refine call_pure (c3) ?_)))) | simp (maxSteps := 1000000) (disch := omega) only [go_sem, Nat.reduceAdd, Nat.reduceMul, Nat.reduceSub, Nat.reduceLeDiff, Nat.reduceEqDiff, Nat.reduceBEq, ↓reduceIte, reduceCtorEq, Int.reduceEq, Int.reduceLE, Int.reduceLT, Int.reduceAdd, Int.reduceSub, Int.reduceNeg, Int.reduceToNat, Int.reduceNe, Nat.reducePow, Nat.reduceShiftRight, Nat.reduceMod, mc_term_formed, Tm.pv, *])
        all_goals (refine fin_tmp (.inr rfl) ?_; simp [upd, Tm.formed, headR, *]; try omega)
      by_cases k5 : kind = 5
      · subst k5
        repeat' (first | ((with_reducible first | refine wA (by omega) ?_ | refine wB (by omega) ?_ | refine wC (by omega) ?_ | refine wD (by omega) ?_ | refine wE ?_ ?_ | refine wF ?_ ?_ | refine wG ?_ ?_ | refine wH ?_ ?_ | refine wI ?_ ?_ | refine wJ ?_ ?_ | refine wK ?_ ?_ | refine wL ?_ ?_) <;> intro _) | (((with_reducible refine call_id ?_); (first | (refine call_pure (c1 0 0 2) ?_) | (refine call_pure (c3) ?_)))) | simp (maxSteps := 1000000) (disch := omega) only [go_sem, Nat.reduceAdd, Nat.reduceMul, Nat.reduceSub, Nat.reduceLeDiff, Nat.reduceEqDiff, Nat.reduceBEq, ↓reduceIte, reduceCtorEq, Int.reduceEq, Int.reduceLE, Int.reduceLT, Int.reduceAdd, Int.reduceSub, Int.reduceNeg, Int.reduceToNat, Int.reduceNe, Nat.reducePow, Nat.reduceShiftRight, Nat.reduceMod, mc_term_formed, Tm.pv, *])
        all_goals (refine fin_tmp (.inr rfl) ?_; simp [upd, Tm.formed, headR, *]; try omega)
      by_cases k6 : kind = 6
      · subst k6
        repeat' (first | ((with_reducible first | refine wA (by omega) ?_ | refine wB (by omega) ?_ | refine wC (by omega) ?_ | refine wD (by omega) ?_ | refine wE ?_ ?_ | refine wF ?_ ?_ | refine wG ?_ ?_ | refine wH ?_ ?_ | refine wI ?_ ?_ | refine wJ ?_ ?_ | refine wK ?_ ?_ | refine wL ?_ ?_) <;> intro _) | (((with_reducible refine call_id ?_); (first | (refine call_pure (c1 0 0 2) ?_) | (refine call_pure (c3) ?_)))) | simp (maxSteps := 1000000) (disch := omega) only [go_sem, Nat.reduceAdd, Nat.reduceMul, Nat.reduceSub, Nat.reduceLeDiff, Nat.reduceEqDiff, Nat.reduceBEq, ↓reduceIte, reduceCtorEq, Int.reduceEq, Int.reduceLE, Int.reduceLT, Int.reduceAdd, Int.reduceSub, Int.reduceNeg, Int.reduceToNat, Int.reduceNe, Nat.reducePow, Nat.reduceShiftRight, Nat.reduceMod, mc_term_formed, Tm.pv, *])
        all_goals (refine fin_tmp (.inr rfl) ?_; simp [upd, Tm.formed, headR, *]; try omega)
      by_cases k7 : kind = 7
      · subst k7
        repeat' (first | ((with_reducible first | refine wA (by omega) ?_ | refine wB (by omega) ?_ | refine wC (by omega) ?_ | refine wD (by omega) ?_ | refine wE ?_ ?_ | refine wF ?_ ?_ | refine wG ?_ ?_ | refine wH ?_ ?_ | refine wI ?_ ?_ | refine wJ ?_ ?_ | refine wK ?_ ?_ | refine wL ?_ ?_) <;> intro _) | (((with_reducible refine call_id ?_); (first | (refine call_pure (c1 0 0 3) ?_) | (refine call_pure (c3) ?_)))) | simp (maxSteps := 1000000) (disch := omega) only [go_sem, Nat.reduceAdd, Nat.reduceMul, Nat.reduceSub, Nat.reduceLeDiff, Nat.reduceEqDiff, Nat.reduceBEq, ↓reduceIte, reduceCtorEq, Int.reduceEq, Int.reduceLE, Int.reduceLT, Int.reduceAdd, Int.reduceSub, Int.reduceNeg, Int.reduceToNat, Int.reduceNe, Nat.reducePow, Nat.reduceShiftRight, Nat.reduceMod, mc_term_formed, Tm.pv, *])
        all_goals (refine fin_tmp (.inr rfl) ?_; simp [upd, Tm.formed, headR, *]; try omega)
      clear c1 c2 c3
      repeat' (first | ((with_reducible first | refine wA (by omega) ?_ | refine wB (by omega) ?_ | refine wC (by omega) ?_ | refine wD (by omega) ?_ | refine wE ?_ ?_ | refine wF ?_ ?_ | refine wG ?_ ?_ | refine wH ?_ ?_ | refine wI ?_ ?_ | refine wJ ?_ ?_ | refine wK ?_ ?_ | refine wL ?_ ?_) <;> intro _) | simp (maxSteps := 1000000) (disch := omega) only [go_sem, Nat.reduceAdd, Nat.reduceMul, Nat.reduceSub, Nat.reduceLeDiff, Nat.reduceEqDiff, Nat.reduceBEq, ↓reduceIte, reduceCtorEq, Int.reduceEq, Int.reduceLE, Int.reduceLT, Int.reduceAdd, Int.reduceSub, Int.reduceNeg, Int.reduceToNat, Int.reduceNe, Nat.reducePow, Nat.reduceShiftRight, Nat.reduceMod, mc_term_formed, Tm.pv, *])
      all_goals (refine fin_tmp (.inr rfl) ?_; simp [upd, Tm.formed, headR, *]; try omega)
    exact ⟨hformed, fun kind n s ls args k hsz h0 h1 => hparts kind n s ls args k hsz h0 h1 fun x hx k' h2 h3 => hformed x k' (by have := hmem args x hx; omega) h2 (by have := hmem args x hx; omega)⟩
end
section
mutual
def Tm.pre : Tm → List Tm
  | .mk k n s ls args => .mk k n s ls args :: preL args
def preL : List Tm → List Tm
  | [] => []
  | t :: r => t.pre ++ preL r
end
theorem preL_append : ∀ xs ys : List Tm, preL (xs ++ ys) = preL xs ++ preL ys
  | [], ys => by simp [preL]
  | x :: r, ys => by simp [preL, preL_append r ys]
theorem preL_take (args : List Tm) (i : Nat) (h : i < args.length) : preL (args.take (i + 1)) = preL (args.take i) ++ args[i].pre := by
  rw [List.take_succ_eq_append_getElem h, preL_append]
  simp [preL]
def nodePV (t : Tm) : PV := .ptr t.pv
theorem sl_part {V : Vw} {sz : Nat} {es : List (List PV)} {v : Value} (h : Rep V (.sl sz es) v) :
    ∃ A cap, v = .slice A es.length cap ∧ es.length ≤ maxLen ∧ ∀ i x, es[i]? = some x → ∃ b off, A = some ⟨b, off, none⟩ ∧ Rep V (.ptr x) (.pointer (some ⟨b, off + i * sz, none⟩)) := by
  cases h with
  | slNil _ A cap hc => exact ⟨A, cap, rfl, Nat.zero_le _, fun i x hx => by simp at hx⟩
  | sl _ _ b off len cap hlen hs h1 h2 hp =>
    refine ⟨some ⟨b, off, none⟩, cap, by rw [hlen], by omega, fun i x hx => ⟨b, off, rfl, ?_⟩⟩
    obtain ⟨b', off', vs, e, hok, hr, hc⟩ := hp.ptr_inv
    cases e
    have hil : i < es.length := (List.getElem?_eq_some_iff.1 hx).1
    have hex : es[i] = x := (List.getElem?_eq_some_iff.1 hx).2
    have hx5 : x.length = sz := hs x (hex ▸ List.getElem_mem hil)
    have key : ∀ (es : List (List PV)) (i : Nat) (x : List PV), (∀ e ∈ es, e.length = sz) → es[i]? = some x → (es.flatten.drop (i * sz)).take sz = x := by
      intro es
      induction es with
      | nil => intro i x _ h; simp at h
      | cons e r ih =>
        intro i x hs h
        have he : e.length = sz := hs e (by simp)
        cases i with
        | zero =>
          simp only [List.getElem?_cons_zero, Option.some.injEq] at h
          subst h
          simp [← he]
        | succ i =>
          rw [List.flatten_cons, Nat.succ_mul, Nat.add_comm, ← List.drop_drop, show sz = e.length from he.symm, List.drop_left, he]
          exact ih i x (fun y hy => hs y (by simp [hy])) (by simpa using h)
    have h3 := (hr.drop (i * sz)).take sz
    rw [key es i x hs hx] at h3
    refine .ptr_mk hok h3 fun j u hu => ?_
    rw [List.getElem?_take] at hu
    split at hu
    · rw [List.getElem?_drop] at hu
      have := hc _ u hu
      rw [show off + i * sz + j = off + (i * sz + j) by omega]
      exact this
    · cases hu
theorem rounds_key {F : Fence} {n : Nat} {P : Program} {c : Code} {Q : Exit → Act → World → Prop} {N : Nat} (I : Nat → Act → World → Prop) (hstep : ∀ i a W, i < N → I i a W → c.wpIn F n P (Exit.then (I (i + 1)) Q) a W)
    (hend : ∀ a W, I N a W → c.wpIn F n P (Exit.then (fun _ _ => False) Q) a W) : ∀ k i a W, i + k = N → I i a W → Code.roundsIn F n P c Q (k + 1) a W := by
  intro k
  induction k with
  | zero =>
    intro i a W hi h
    obtain rfl : i = N := by omega
    exact hend a W h
  | succ k ih =>
    intro i a W hi h
    rw [roundsIn_succ]
    refine wpIn_mono (hstep i a W (by omega) h) fun e a' W' hp => ?_
    cases e with
    | normal => exact ih (i + 1) a' W' (by omega) hp
    | _ => exact hp
abbrev El (V : Vw) (xs : List PV) := { y : PV × Value // y.1 ∈ xs ∧ Rep V y.1 y.2 }
theorem RoundIn.any {Fc : Fence} (hd : Fc.depth = none) {m m' : Nat} {P : Program} {l : Nat} {f : FuncId} {tmps : Array Value} {assign body : Code} {w : World} {R : Ending → World → Prop}
    (h : RoundIn Fc m P l f tmps assign body w R) : RoundIn Fc m' P l f tmps assign body w R := ⟨h.1, fun c cs _ => h.2 c cs (fun d h => by rw [hd] at h; cases h)⟩
theorem YieldAt.any {Fc : Fence} (hd : Fc.depth = none) {m : Nat} (m' : Nat) {P : Program} {l : Nat} {args : Array Value} {W : World} {R : Ending → World → Prop} (h : YieldAt Fc m P l args W R) : YieldAt Fc m' P l args W R := by
  obtain ⟨fn, tmps, assign, body, hy, hR⟩ := h
  exact ⟨fn, tmps, assign, body, hy, RoundIn.any hd hR⟩
set_option maxRecDepth 100000 in
set_option maxHeartbeats 4000000 in
theorem walkNodes0 (V : Vw) (xs : List PV) (l N : Nat) (J Jx : List (El V xs) → World → Prop)
    (hY : ∀ m pre (x : El V xs) W, J pre W → pre.length < N → YieldAt Fence.wide m Try.prog l #[x.1.2] W fun e W' => (e = .returned (.bool true) ∧ J (pre ++ [x]) W' ∧ ∀ b, V.ok b → W'.heap[b]? = W.heap[b]?) ∨ (e = .returned (.bool false) ∧ Jx (pre ++ [x]) W')) :
    ∀ (fuel : Nat) (t : Tm), t.size ≤ fuel → ∀ (n : Nat) (p : Value) (pre : List (El V xs)) (W : World), Rep V (.ptr t.pv) p → (∀ u ∈ t.pre, nodePV u ∈ xs) → (∀ b, V.ok b → W.heap[b]? = V.w.heap[b]?) → J pre W → pre.length + t.pre.length ≤ N →
      CallsIn Fence.wide n Try.prog F.term_walk #[p, .func (.yield l) #[] #[]] W fun e W' =>
        (e = .returned (.bool true) ∧ ∃ ys : List (El V xs), ys.map (·.1.1) = t.pre.map nodePV ∧ J (pre ++ ys) W' ∧ ∀ b, V.ok b → W'.heap[b]? = V.w.heap[b]?) ∨
        (e = .returned (.bool false) ∧ ∃ ys : List (El V xs), ys.map (·.1.1) <+: t.pre.map nodePV ∧ Jx (pre ++ ys) W') := by
  have hdd : ∀ k : Nat, (Fence.wide.depth.isSome = true → 1 ≤ k) := fun k h => by cases h
  intro fuel
  induction fuel with
  | zero => intro t h; have := size_pos t; omega
  | succ fuel ih =>
    intro t hf n p pre W hp hxs hW hJ hN
    cases t with
    | mk k nn s ls args =>
    simp only [Tm.size] at hf
    simp only [Tm.pre, List.length_cons] at hN
    have hp0 := hp
    obtain ⟨b, off, vs, rfl, hok, hr, hc⟩ := hp.ptr_inv
    obtain ⟨v4, hv4, hr4⟩ := hr.get (i := 4) (x := .sl 5 (args.map Tm.pv)) (by rw [Tm.pv]; rfl)
    obtain ⟨A, cap, rfl, hmax, hpart⟩ := sl_part hr4
    rw [List.length_map] at hmax
    have hcell : ∀ W' : World, (∀ b, V.ok b → W'.heap[b]? = V.w.heap[b]?) → W'.cell? ⟨b, off + 4, none⟩ = some (.slice A (args.map Tm.pv).length cap) := fun W' h => (World.cell?_of_block (w := V.w) (w' := W') (a := ⟨b, off + 4, none⟩) (h b hok)).trans (hc 4 _ hv4)
    have hY0 := hY (n - 1) pre ⟨(nodePV (.mk k nn s ls args), .pointer (some ⟨b, off, none⟩)), hxs _ (by simp [Tm.pre]), hp0⟩ W hJ (by omega)
    obtain ⟨fn, tmps, assign, body, hy, hR⟩ := YieldAt.mono (R' := fun e W1 => (e = .returned (.bool true) ∧ W1.cell? ⟨b, off + 4, none⟩ = some (.slice A (args.map Tm.pv).length cap) ∧ (∃ ys : List (El V xs), ys.map (·.1.1) = [nodePV (.mk k nn s ls args)] ∧ J (pre ++ ys) W1) ∧ ∀ b, V.ok b → W1.heap[b]? = V.w.heap[b]?) ∨
      (e = .returned (.bool false) ∧ ∃ ys : List (El V xs), ys.map (·.1.1) = [nodePV (.mk k nn s ls args)] ∧ Jx (pre ++ ys) W1)) hY0 (fun e W1 h => h.elim (fun ⟨he, h1, h2⟩ => .inl ⟨he, hcell W1 fun b hb => (h2 b hb).trans (hW b hb), ⟨_, rfl, h1⟩, fun b hb => (h2 b hb).trans (hW b hb)⟩) fun ⟨he, h1⟩ => .inr ⟨he, _, rfl, h1⟩)
    clear hY0
    refine callsIn_of_wp Try.func89 rfl trivial ?_ rfl
    simp only [Try.ntmps89, List.size_toArray, List.length_cons, List.length_nil, Nat.reduceAdd, Nat.reduceSub, Array.replicate_succ, Array.replicate_zero, List.push_toArray, List.append_toArray, List.nil_append, List.cons_append]
    gi_wp2_with ((try refine ⟨hdd _, ?_⟩); refine hR.mono ?_; clear hR; rintro e W1 (⟨rfl, c4, hj1, hk1⟩ | ⟨rfl, hx1⟩))
    · refine wpIn_loop_rounds (args.length + 1) (rounds_key (N := args.length) (fun i a W => ∃ x2 x3 x4 x5 x6 x7 x8 x9 x10 x11 x12 x13 x16 x17 x18 x19 x20 x21 x22 x23 x24 x25 x26 x27, a = ⟨#[.pointer (some ⟨b, off, none⟩), .func (.yield l) #[] #[], x2, x3, x4, x5, x6, x7, x8, x9, x10, x11, x12, x13, .int .i64 (args.length : Int), .int .i64 (i : Int), x16, x17, x18, x19, x20, x21, x22, x23, x24, x25, x26, x27], []⟩ ∧ (∃ ys : List (El V xs), ys.map (·.1.1) = (Tm.mk k nn s ls args :: preL (args.take i)).map nodePV ∧ J (pre ++ ys) W) ∧ ∀ b, V.ok b → W.heap[b]? = V.w.heap[b]?) ?step ?fin args.length 0 _ _ (by omega) ?init)
      case init =>
        obtain ⟨ys, h1, h2⟩ := hj1
        exact ⟨_, _, _, _, _, _, _, _, _, _, _, _, _, _, _, _, _, _, _, _, _, _, _, _, rfl, ⟨ys, by simpa [preL] using h1, h2⟩, hk1⟩
      case step =>
        rintro i a W2 hi ⟨x2, x3, x4, x5, x6, x7, x8, x9, x10, x11, x12, x13, x16, x17, x18, x19, x20, x21, x22, x23, x24, x25, x26, x27, rfl, ⟨ys, hys, hj⟩, hk⟩
        obtain ⟨b2, off2, rfl, hpi⟩ := hpart i args[i].pv (by simp [hi])
        have c42 := hcell W2 hk
        rw [List.length_map] at c42
        have hni := sizeL_mem args i hi
        have hlen : ys.length = 1 + (preL (args.take i)).length := by
          have := congrArg List.length hys
          simpa [Nat.add_comm] using this
        have h1 : preL args = preL (args.take i) ++ (args[i].pre ++ preL (args.drop (i + 1))) := by rw [← List.append_assoc, ← preL_take args i hi, ← preL_append, List.take_append_drop]
        have ih1 := ih args[i] (by omega) (n - 1) _ (pre ++ ys) W2 hpi (fun u hu => hxs u (by rw [Tm.pre, h1]; simp [hu])) hk hj (by rw [h1] at hN; simp only [List.length_append] at hN ⊢; omega)
        clear ih
        gi_wp2_with (refine ⟨trivial, hdd _, ?_⟩; refine ih1.mono ?_; clear ih1; rintro e W3 (⟨rfl, ys3, hy3, hj3, hk3⟩ | ⟨rfl, ys3, hy3, hx3⟩))
        · have e1 : ((i + 1 : Nat) : Int) = RowKit.wrap64 ((i : Int) + 1) := by
            have : args.length ≤ 9223372036854775807 := hmax
            unfold RowKit.wrap64
            omega
          rw [e1]
          refine ⟨_, _, _, _, _, _, _, _, _, _, _, _, _, _, _, _, _, _, _, _, _, _, _, _, rfl, ⟨ys ++ ys3, ?_, by rw [← List.append_assoc]; exact hj3⟩, hk3⟩
          rw [List.map_append, hys, hy3, preL_take args i hi]
          simp
        · go_ret
          refine .inr ⟨rfl, ys ++ ys3, ?_, by rw [← List.append_assoc]; exact hx3⟩
          rw [List.map_append, hys, Tm.pre]
          rw [h1]
          obtain ⟨z, hz⟩ := hy3
          exact ⟨z ++ (preL (args.drop (i + 1))).map nodePV, by simp [← hz]⟩
      case fin =>
        rintro a W2 ⟨x2, x3, x4, x5, x6, x7, x8, x9, x10, x11, x12, x13, x16, x17, x18, x19, x20, x21, x22, x23, x24, x25, x26, x27, rfl, ⟨ys, hys, hj⟩, hk⟩
        rw [List.take_length] at hys
        gi_wp2
        go_ret
        exact .inl ⟨rfl, ys, by rw [hys, Tm.pre], hj, hk⟩
    · obtain ⟨ys, h1, h2⟩ := hx1
      go_ret
      exact .inr ⟨rfl, ys, by rw [h1, Tm.pre]; exact ⟨(preL args).map nodePV, by simp⟩, h2⟩
end
section
attribute [local go_sem] pv_len pv_take rounds_next Nat.add_assoc id_ne id_ne' id_ne2 List.append_assoc
structure Fm where
  num : Int
  a0 : Int
  a1 : Int
  a2 : Int
  a3 : Int
def Fm.pv (f : Fm) : List PV := [.sc (.int .i64 f.num), .sc (.int .i64 f.a0), .sc (.int .i64 f.a1), .sc (.int .i64 f.a2), .sc (.int .i64 f.a3)]
structure Fm.Ok (f : Fm) (m : Int) : Prop where
  n0 : 0 ≤ f.num
  n1 : f.num ≤ m
  b0 : -1 ≤ f.a0
  c0 : f.a0 ≤ m
  b1 : -1 ≤ f.a1
  c1 : f.a1 ≤ m
  b2 : -1 ≤ f.a2
  c2 : f.a2 ≤ m
  b3 : -1 ≤ f.a3
  c3 : f.a3 ≤ m
def up (n a : Int) : Int := if a = -1 then n else max n (a + 1)
def Fm.leastN (f : Fm) : Nat → Int
  | 0 => f.num
  | 1 => up f.num f.a0
  | 2 => up (up f.num f.a0) f.a1
  | 3 => up (up (up f.num f.a0) f.a1) f.a2
  | _ => up (up (up (up f.num f.a0) f.a1) f.a2) f.a3
def Fm.least (f : Fm) : Int := f.leastN 4
def Fm.short (f : Fm) : Fm := if (Fm.mk 0 f.a0 f.a1 f.a2 f.a3).least < f.num then f else ⟨0, f.a0, f.a1, f.a2, f.a3⟩
def inc (a : Int) : Int := if a = -1 then -1 else a + 1
def Fm.succ (f : Fm) : Fm := (Fm.mk (f.num + 1) (inc f.a0) (inc f.a1) (inc f.a2) (inc f.a3)).short
def Fm.max (f g : Fm) : Fm := (Fm.mk (Max.max f.num g.num) (Max.max f.a0 g.a0) (Max.max f.a1 g.a1) (Max.max f.a2 g.a2) (Max.max f.a3 g.a3)).short
def Fm.same (f g : Fm) : Bool := decide (f.num = g.num) && (decide (f.a0 = g.a0) && (decide (f.a1 = g.a1) && (decide (f.a2 = g.a2) && decide (f.a3 = g.a3))))
end
section
attribute [local go_sem] pv_len pv_take rounds_next List.append_assoc Nat.add_assoc id_ne id_ne' id_ne2
def Fm.one (n : Int) : Fm := ⟨0, if n = 0 then 0 else -1, if n = 1 then 0 else -1, if n = 2 then 0 else -1, if n = 3 then 0 else -1⟩
theorem Fm.Ok.mono {f : Fm} {m m' : Int} (h : f.Ok m) (hm : m ≤ m') : f.Ok m' :=
  ⟨h.n0, by have := h.n1; omega, h.b0, by have := h.c0; omega, h.b1, by have := h.c1; omega, h.b2, by have := h.c2; omega, h.b3, by have := h.c3; omega⟩
end
section
attribute [local go_sem] pv_len pv_take id_ne id_ne' id_ne2 rounds_next List.append_assoc Nat.add_assoc
theorem frz_sc (k : Nat) (H : Nat → Option PObj) (v : Value) : frz k H (.sc v) = .sc v := by cases k <;> rfl
theorem frz_sl (k : Nat) (H : Nat → Option PObj) (sz : Nat) (es : List (List PV)) : frz k H (.sl sz es) = .sl sz es := by cases k <;> rfl
theorem frz_pv (k : Nat) (H : Nat → Option PObj) (l : Lv) : l.pv.map (frz k H) = l.pv := by
  cases l
  simp [Lv.pv, frz_sc, frz_sl]
theorem pv_one (l : Lv) : l.pv.all PV.one = true := by
  cases l
  simp [Lv.pv, PV.one, Value.oneCell']
theorem lv_imm : ∀ (fuel : Nat) (l : Lv), l.nodes ≤ fuel → immL l.pv = true := by
  intro fuel
  induction fuel with
  | zero => intro l h; have := nodes_pos l; omega
  | succ fuel ih =>
    intro l h
    cases l with
    | mk k n args =>
    simp only [Lv.nodes] at h
    simp only [Lv.pv, immL, PV.imm, Bool.true_and, Bool.and_true]
    have key : ∀ ls : List Lv, nodesL ls ≤ fuel → immLL (ls.map Lv.pv) = true := by
      intro ls
      induction ls with
      | nil => intro _; rfl
      | cons x r ihr =>
        intro hl
        simp only [nodesL] at hl
        simp only [List.map_cons, immLL, Bool.and_eq_true]
        exact ⟨ih x (by omega), ihr (by omega)⟩
    exact key args (by omega)
theorem pv_imm (l : Lv) : immL l.pv = true := lv_imm l.nodes l (Nat.le_refl _)
def halfL (xs : List Lv) (n : Nat) : List PV := xs.flatMap Lv.pv ++ zeros [.int .i64 0, .int .i64 0, .slice none 0 0] n
theorem flat_len : ∀ xs : List Lv, (xs.flatMap Lv.pv).length = xs.length * 3
  | [] => rfl
  | x :: r => by simp only [List.flatMap_cons, List.length_append, pv_len, flat_len r, List.length_cons]; omega
theorem zeros_len (z : List Value) : ∀ n, (zeros z n).length = n * z.length
  | 0 => by simp [zeros]
  | n + 1 => by simp only [zeros, List.length_append, List.length_map, zeros_len z n, Nat.succ_mul]; omega
theorem half_len (xs : List Lv) (n : Nat) : (halfL xs n).length = xs.length * 3 + n * 3 := by
  simp only [halfL, List.length_append, flat_len, zeros_len]
  rfl
theorem half_set (xs : List Lv) (x : Lv) (n : Nat) : (halfL xs (n + 1)).take (xs.length * 3) ++ x.pv ++ (halfL xs (n + 1)).drop (xs.length * 3 + 3) = halfL (xs ++ [x]) n := by
  have h := flat_len xs
  have h3 : ([.int .i64 0, .int .i64 0, .slice none 0 0] : List Value).length = 3 := rfl
  simp only [halfL, zeros]
  rw [List.take_left' h, List.flatMap_append, ← List.drop_drop, List.drop_left' h, List.drop_left' (by simp)]
  simp [List.append_assoc]
theorem half_set' (xs : List Lv) (i n : Nat) (x : Lv) (hi : i < n) (h : xs.length = i) : (halfL xs (n - i)).take (i * 3) ++ (x.pv ++ (halfL xs (n - i)).drop (i * 3 + 3)) = halfL (xs ++ [x]) (n - (i + 1)) := by
  have e : n - i = (n - (i + 1)) + 1 := by omega
  have := half_set xs x (n - (i + 1))
  rw [h] at this
  rw [e, ← List.append_assoc]
  exact this
theorem half_chunks (H : Nat → Option PObj) (k : Nat) : ∀ xs : List Lv, chunks 3 xs.length ((halfL xs 0).map (frz k H)) = xs.map Lv.pv
  | [] => rfl
  | x :: r => by
    have ih := half_chunks H k r
    have e : (halfL (x :: r) 0).map (frz k H) = x.pv ++ (halfL r 0).map (frz k H) := by
      simp [halfL, zeros, frz_pv]
    have h3 := pv_len x
    rw [e]
    simp only [List.length_cons, chunks, List.map_cons]
    rw [List.take_left' h3, List.drop_left' h3, ih]
set_option maxHeartbeats 8000000 in
theorem clone_p : ∀ (fuel : Nat) (l : Lv), l.nodes ≤ fuel → l.nodes ≤ 2 ^ 40 → PPure Try.prog F.level_clone [.ptr l.pv] (.agg l.pv) := by
  intro fuel
  induction fuel with
  | zero => intro l h; have := nodes_pos l; omega
  | succ fuel ih =>
    intro l hf hm
    refine pure_by is_level_clone (by simp) (by simp [PV.imm, pv_imm]) fun hb nx => ?_
    cases l with
    | mk k n args =>
    simp only [Lv.nodes] at hf hm
    by_cases h0 : args = []
    · subst h0
      simp (maxSteps := 1000000) (disch := omega) only [go_sem, Nat.reduceAdd, Nat.reduceMul, Nat.reduceSub, Nat.reduceLeDiff, Nat.reduceEqDiff, Nat.reduceBEq, ↓reduceIte, reduceCtorEq, Int.reduceEq, Int.reduceLE, Int.reduceLT, Int.reduceAdd, Int.reduceSub, Int.reduceNeg, Int.reduceToNat, Int.reduceNe, Nat.reducePow, Nat.reduceShiftRight, Nat.reduceMod, mc_level_clone, Lv.pv]
      refine c_rounds 1 ?_
      simp (maxSteps := 1000000) (disch := omega) only [go_sem, Nat.reduceAdd, Nat.reduceMul, Nat.reduceSub, Nat.reduceLeDiff, Nat.reduceEqDiff, Nat.reduceBEq, ↓reduceIte, reduceCtorEq, Int.reduceEq, Int.reduceLE, Int.reduceLT, Int.reduceAdd, Int.reduceSub, Int.reduceNeg, Int.reduceToNat, Int.reduceNe, Nat.reducePow, Nat.reduceShiftRight, Nat.reduceMod]
      exact fin_ret 1 (by simp [resP, resPs, resP1, upd, loadP]; rfl) (by simp only [frz, List.map_cons, List.map_nil, frz_sc]; exact .agg ⟨.refl _, .refl _, .nil 3, trivial⟩)
    · have hpos : 0 < args.length := List.length_pos_iff.2 h0
      have hlen : args.length ≤ nodesL args := by
        clear hf hm hb h0 hpos
        induction args with
        | nil => simp
        | cons x r ihr => have := nodes_pos x; simp only [List.length_cons, nodesL]; omega
      have q1 : (0 : Int) < (args.length : Int) := by omega
      have q47 : (2 : Int) ^ 47 = 140737488355328 := by decide
      have q2 : (40 : Int) * (args.length : Int) ≤ 2 ^ 47 := by omega
      have q3 : (args.length : Int) ≤ 2 ^ 47 := by omega
      simp (maxSteps := 1000000) (disch := omega) only [go_sem, Nat.reduceAdd, Nat.reduceMul, Nat.reduceSub, Nat.reduceLeDiff, Nat.reduceEqDiff, Nat.reduceBEq, ↓reduceIte, reduceCtorEq, Int.reduceEq, Int.reduceLE, Int.reduceLT, Int.reduceAdd, Int.reduceSub, Int.reduceNeg, Int.reduceToNat, Int.reduceNe, Nat.reducePow, Nat.reduceShiftRight, Nat.reduceMod, mc_level_clone, Lv.pv, q1, q2, q3]
      refine c_loop (fun j s => ∃ i a b c : Nat, ∃ oc : PObj, j = args.length - i ∧ i ≤ args.length ∧ a ≠ b ∧ b ≠ a ∧ c ≠ a ∧ c ≠ b ∧ a ≠ c ∧ b ≠ c ∧ oc.cells.length = 3 ∧ s.s 2 = .optr c 0 ∧ s.H c = some oc ∧ s.s 0 = .ptr (Lv.mk k n args).pv ∧ s.s 3 = .optr a 0 ∧ s.s 31 = .sc (.int .i64 args.length) ∧ s.s 32 = .sc (.int .i64 i) ∧
        s.H a = some ⟨[.sc (.int .i64 k), .sc (.int .i64 n), .osl b 0 args.length 3], true⟩ ∧ s.H b = some ⟨halfL (args.take i) (args.length - i), true⟩) _ ⟨0, nx + 10, nx + 23, nx, ⟨[.sc (.int .i64 0), .sc (.int .i64 0), .sc (.slice none 0 0)], true⟩, rfl, by omega, by omega, by omega, by omega, by omega, by omega, by omega, rfl, by simp only [go_sem, Nat.reduceAdd, Nat.reduceMul, Nat.reduceSub, Nat.reduceLeDiff, Nat.reduceEqDiff, Nat.reduceBEq, ↓reduceIte, reduceCtorEq, Int.reduceEq, Int.reduceLE, Int.reduceLT, Int.reduceAdd, Int.reduceSub, Int.reduceNeg, Int.reduceToNat, Int.reduceNe, Nat.reducePow, Nat.reduceShiftRight, Nat.reduceMod], by simp (disch := omega) only [go_sem, Nat.reduceAdd, Nat.reduceMul, Nat.reduceSub, Nat.reduceLeDiff, Nat.reduceEqDiff, Nat.reduceBEq, ↓reduceIte, reduceCtorEq, Int.reduceEq, Int.reduceLE, Int.reduceLT, Int.reduceAdd, Int.reduceSub, Int.reduceNeg, Int.reduceToNat, Int.reduceNe, Nat.reducePow, Nat.reduceShiftRight, Nat.reduceMod], by simp [upd, sigF, sig_eq, Lv.pv], by simp only [go_sem, Nat.reduceAdd, Nat.reduceMul, Nat.reduceSub, Nat.reduceLeDiff, Nat.reduceEqDiff, Nat.reduceBEq, ↓reduceIte, reduceCtorEq, Int.reduceEq, Int.reduceLE, Int.reduceLT, Int.reduceAdd, Int.reduceSub, Int.reduceNeg, Int.reduceToNat, Int.reduceNe, Nat.reducePow, Nat.reduceShiftRight, Nat.reduceMod], by simp only [go_sem, Nat.reduceAdd, Nat.reduceMul, Nat.reduceSub, Nat.reduceLeDiff, Nat.reduceEqDiff, Nat.reduceBEq, ↓reduceIte, reduceCtorEq, Int.reduceEq, Int.reduceLE, Int.reduceLT, Int.reduceAdd, Int.reduceSub, Int.reduceNeg, Int.reduceToNat, Int.reduceNe, Nat.reducePow, Nat.reduceShiftRight, Nat.reduceMod], by simp only [go_sem, Nat.reduceAdd, Nat.reduceMul, Nat.reduceSub, Nat.reduceLeDiff, Nat.reduceEqDiff, Nat.reduceBEq, ↓reduceIte, reduceCtorEq, Int.reduceEq, Int.reduceLE, Int.reduceLT, Int.reduceAdd, Int.reduceSub, Int.reduceNeg, Int.reduceToNat, Int.reduceNe, Nat.reducePow, Nat.reduceShiftRight, Nat.reduceMod, Int.ofNat_zero], by simp only [go_sem, Nat.reduceAdd, Nat.reduceMul, Nat.reduceSub, Nat.reduceLeDiff, Nat.reduceEqDiff, Nat.reduceBEq, ↓reduceIte, reduceCtorEq, Int.reduceEq, Int.reduceLE, Int.reduceLT, Int.reduceAdd, Int.reduceSub, Int.reduceNeg, Int.reduceToNat, Int.reduceNe, Nat.reducePow, Nat.reduceShiftRight, Nat.reduceMod], by simp only [go_sem, Nat.reduceAdd, Nat.reduceMul, Nat.reduceSub, Nat.reduceLeDiff, Nat.reduceEqDiff, Nat.reduceBEq, ↓reduceIte, reduceCtorEq, Int.reduceEq, Int.reduceLE, Int.reduceLT, Int.reduceAdd, Int.reduceSub, Int.reduceNeg, Int.reduceToNat, Int.reduceNe, Nat.reducePow, Nat.reduceShiftRight, Nat.reduceMod]; rfl⟩ ?_
      rintro _ s ⟨i, a, b, c, oc, rfl, hi, hab, hba, hca, hcb, hac, hbc, hoc, e2, hc, e0, e3, e31, e32, ha, hbk⟩
      by_cases hlt : i < args.length
      · have eg : args[i]? = some args[i] := List.getElem?_eq_getElem hlt
        have hfit : i * 3 + 3 ≤ i * 3 + (args.length - i) * 3 := by omega
        have htl : (args.take i).length = i := by simp; omega
        simp (maxSteps := 1000000) (disch := omega) only [go_sem, Nat.reduceAdd, Nat.reduceMul, Nat.reduceSub, Nat.reduceLeDiff, Nat.reduceEqDiff, Nat.reduceBEq, ↓reduceIte, reduceCtorEq, Int.reduceEq, Int.reduceLE, Int.reduceLT, Int.reduceAdd, Int.reduceSub, Int.reduceNeg, Int.reduceToNat, Int.reduceNe, Nat.reducePow, Nat.reduceShiftRight, Nat.reduceMod, hlt, Lv.pv, e0, e3, e31, e32, ha, hbk, hab, hba, e2, hc, hoc, hca, hcb, hac, hbc, eg]
        refine call_pure (ih args[i] (by have := nodesL_mem args i hlt; omega) (by have := nodesL_mem args i hlt; omega)) ?_
        simp (maxSteps := 1000000) (disch := omega) only [go_sem, Nat.reduceAdd, Nat.reduceMul, Nat.reduceSub, Nat.reduceLeDiff, Nat.reduceEqDiff, Nat.reduceBEq, ↓reduceIte, reduceCtorEq, Int.reduceEq, Int.reduceLE, Int.reduceLT, Int.reduceAdd, Int.reduceSub, Int.reduceNeg, Int.reduceToNat, Int.reduceNe, Nat.reducePow, Nat.reduceShiftRight, Nat.reduceMod, hlt, Lv.pv, e0, e3, e31, e32, ha, hbk, hab, hba, e2, hc, hoc, hca, hcb, hac, hbc, eg, pv_one, half_len, htl, hfit]
        refine ⟨args.length - (i + 1), by omega, i + 1, a, b, c, oc, rfl, by omega, hab, hba, hca, hcb, hac, hbc, hoc, rfl, ?_, rfl, by simp, ?_, ?_⟩
        · rw [if_neg hcb]; exact hc
        · rw [if_neg hab]; exact ha
        · rw [if_pos rfl, half_set' (args.take i) i args.length args[i] hlt htl]
          simp
      · have hj : i = args.length := by omega
        subst hj
        simp (maxSteps := 1000000) (disch := omega) only [go_sem, Nat.reduceAdd, Nat.reduceMul, Nat.reduceSub, Nat.reduceLeDiff, Nat.reduceEqDiff, Nat.reduceBEq, ↓reduceIte, reduceCtorEq, Int.reduceEq, Int.reduceLE, Int.reduceLT, Int.reduceAdd, Int.reduceSub, Int.reduceNeg, Int.reduceToNat, Int.reduceNe, Nat.reducePow, Nat.reduceShiftRight, Nat.reduceMod, hlt, Lv.pv, e0, e3, e31, e32, ha, hbk, hab, hba, e2, hc, hoc, hca, hcb, hac, hbc]
        have hbk2 : s.H b = some ⟨halfL args 0, true⟩ := by rw [hbk, List.take_length, Nat.sub_self]
        have hfl := half_len args 0
        simp only [Nat.zero_mul, Nat.add_zero] at hfl
        refine fin_ret (r0 := .agg [.sc (.int .i64 k), .sc (.int .i64 n), .osl b 0 args.length 3]) 2 (by simp [resP, resPs, resP1, upd, loadP]) (.of_eq ?_)
        have hch : chunks 3 args.length (halfL args 0) = args.map Lv.pv := by simpa [frz] using half_chunks noneOwn 0 args
        have htk : (halfL args 0).take (args.length * 3) = halfL args 0 := List.take_of_length_le (by omega)
        simp only [frz, List.map_cons, List.map_nil, hbk2, hab, hba, hbc, upd_get, if_false, List.drop_zero, hfl, Nat.zero_add, Nat.le_refl, if_true, htk]
        rw [List.map_id', hch]
end
section
attribute [local go_sem] pv_len pv_take id_ne id_ne' id_ne2 rounds_next Nat.add_assoc pv_one
theorem pv_take_app (l : Lv) (r : List PV) : (l.pv ++ r).take 3 = l.pv := List.take_left' (pv_len l)
attribute [local go_sem] pv_take_app
theorem frz_agg_pv (k : Nat) (H : Nat → Option PObj) (l : Lv) : frz k H (.agg l.pv) = .agg l.pv := by
  cases k with
  | zero => rfl
  | succ k => show PV.agg (l.pv.map (frz k H)) = _; rw [frz_pv]
def lvs (ls : List Lv) : PV := .sl 3 (ls.map Lv.pv)
end
section
attribute [local go_sem] pv_len pv_take id_ne id_ne' id_ne2 rounds_next List.append_assoc Nat.add_assoc pv_one
mutual
def Lv.inst (bys : List Lv) : Lv → Lv
  | .mk k n args => if k = 2 then bys.getD n.toNat (.mk 1 0 []) else .mk k n (instL bys args)
def instL (bys : List Lv) : List Lv → List Lv
  | [] => []
  | x :: r => x.inst bys :: instL bys r
end
theorem instL_eq (bys : List Lv) : ∀ ls, instL bys ls = ls.map (Lv.inst bys)
  | [] => rfl
  | x :: r => by simp only [instL, List.map_cons, instL_eq bys r]
theorem formed_kid {k n np : Int} {args : List Lv} (h : (Lv.mk k n args).formed np = true) : ∀ x ∈ args, x.formed np = true := by
  rcases formed_num h with ⟨rfl, h0, h1, rfl⟩ | ⟨rfl, h0, h1, rfl⟩ | ⟨rfl, rfl, x, rfl, hx⟩ | ⟨hk, rfl, x, y, rfl, hx, hy⟩
  · simp
  · simp
  · simpa using hx
  · simp [hx, hy]
set_option maxHeartbeats 8000000 in
theorem inst_p (bys : List Lv) (hbys : ∀ b ∈ bys, b.nodes ≤ 2 ^ 40) : ∀ (fuel : Nat) (l : Lv), l.nodes ≤ fuel → l.nodes ≤ 2 ^ 40 → l.formed bys.length = true → PPure Try.prog F.level_inst [.ptr l.pv, lvs bys] (.agg (l.inst bys).pv) := by
  intro fuel
  induction fuel with
  | zero => intro l h; have := nodes_pos l; omega
  | succ fuel ih =>
    intro l hf hm hr
    refine pure_by is_level_inst (by simp) (by simp [PV.imm, pv_imm]) fun hb nx => ?_
    cases l with
    | mk k n args =>
    simp only [Lv.nodes] at hf hm
    by_cases hk2 : k = 2
    · subst hk2
      have hn : 0 ≤ n ∧ n < bys.length := by
        rcases formed_num hr with ⟨h, _⟩ | ⟨_, h0, h1, _⟩ | ⟨h, _⟩ | ⟨h, _⟩ <;> omega
      have hlt : n.toNat < bys.length := by omega
      have eg : bys[n.toNat]? = some bys[n.toNat] := List.getElem?_eq_getElem hlt
      have e : (Lv.mk 2 n args).inst bys = bys[n.toNat] := by simp [Lv.inst, List.getD, eg]
      have hn0 := hn.1
      rw [e]
      simp (maxSteps := 1000000) (disch := omega) only [go_sem, Nat.reduceAdd, Nat.reduceMul, Nat.reduceSub, Nat.reduceLeDiff, Nat.reduceEqDiff, Nat.reduceBEq, ↓reduceIte, reduceCtorEq, Int.reduceEq, Int.reduceLE, Int.reduceLT, Int.reduceAdd, Int.reduceSub, Int.reduceNeg, Int.reduceToNat, Int.reduceNe, Nat.reducePow, Nat.reduceShiftRight, Nat.reduceMod, mc_level_inst, Lv.pv, lvs, hn0, eg]
      refine call_pure (clone_p _ bys[n.toNat] (Nat.le_refl _) (hbys _ (List.getElem_mem _))) ?_
      simp (maxSteps := 1000000) (disch := omega) only [go_sem, Nat.reduceAdd, Nat.reduceMul, Nat.reduceSub, Nat.reduceLeDiff, Nat.reduceEqDiff, Nat.reduceBEq, ↓reduceIte, reduceCtorEq, Int.reduceEq, Int.reduceLE, Int.reduceLT, Int.reduceAdd, Int.reduceSub, Int.reduceNeg, Int.reduceToNat, Int.reduceNe, Nat.reducePow, Nat.reduceShiftRight, Nat.reduceMod]
      exact fin_ret (r0 := .agg bys[n.toNat].pv) 1 (by simp [resP, resPs, resP1, upd, loadP, pv_len, pv_take]) (.of_eq (frz_agg_pv 1 _ _))
    · have e : (Lv.mk k n args).inst bys = .mk k n (args.map (Lv.inst bys)) := by simp [Lv.inst, hk2, instL_eq]
      rw [e]
      by_cases h0 : args = []
      · subst h0
        simp (maxSteps := 1000000) (disch := omega) only [go_sem, Nat.reduceAdd, Nat.reduceMul, Nat.reduceSub, Nat.reduceLeDiff, Nat.reduceEqDiff, Nat.reduceBEq, ↓reduceIte, reduceCtorEq, Int.reduceEq, Int.reduceLE, Int.reduceLT, Int.reduceAdd, Int.reduceSub, Int.reduceNeg, Int.reduceToNat, Int.reduceNe, Nat.reducePow, Nat.reduceShiftRight, Nat.reduceMod, mc_level_inst, Lv.pv, lvs, hk2]
        refine c_rounds 1 ?_
        simp (maxSteps := 1000000) (disch := omega) only [go_sem, Nat.reduceAdd, Nat.reduceMul, Nat.reduceSub, Nat.reduceLeDiff, Nat.reduceEqDiff, Nat.reduceBEq, ↓reduceIte, reduceCtorEq, Int.reduceEq, Int.reduceLE, Int.reduceLT, Int.reduceAdd, Int.reduceSub, Int.reduceNeg, Int.reduceToNat, Int.reduceNe, Nat.reducePow, Nat.reduceShiftRight, Nat.reduceMod]
        exact fin_ret (r0 := .agg [.sc (.int .i64 k), .sc (.int .i64 n), .sc (.slice none 0 0)]) 1 (by simp [resP, resPs, resP1, upd, loadP]) (by simp only [frz, List.map_cons, List.map_nil, frz_sc]; exact .agg ⟨.refl _, .refl _, .nil 3, trivial⟩)
      · have hpos : 0 < args.length := List.length_pos_iff.2 h0
        have hlen : args.length ≤ nodesL args := by
          clear hf hm hb h0 hpos hr e
          induction args with
          | nil => simp
          | cons x r ihr => have := nodes_pos x; simp only [List.length_cons, nodesL]; omega
        have q1 : (0 : Int) < (args.length : Int) := by omega
        have q47 : (2 : Int) ^ 47 = 140737488355328 := by decide
        have q2 : (40 : Int) * (args.length : Int) ≤ 2 ^ 47 := by omega
        have q3 : (args.length : Int) ≤ 2 ^ 47 := by omega
        simp (maxSteps := 1000000) (disch := omega) only [go_sem, Nat.reduceAdd, Nat.reduceMul, Nat.reduceSub, Nat.reduceLeDiff, Nat.reduceEqDiff, Nat.reduceBEq, ↓reduceIte, reduceCtorEq, Int.reduceEq, Int.reduceLE, Int.reduceLT, Int.reduceAdd, Int.reduceSub, Int.reduceNeg, Int.reduceToNat, Int.reduceNe, Nat.reducePow, Nat.reduceShiftRight, Nat.reduceMod, mc_level_inst, Lv.pv, lvs, hk2, q1, q2, q3]
        refine c_loop (fun j s => ∃ i a b c : Nat, ∃ oc : PObj, j = args.length - i ∧ i ≤ args.length ∧ a ≠ b ∧ b ≠ a ∧ c ≠ a ∧ c ≠ b ∧ a ≠ c ∧ b ≠ c ∧ oc.cells.length = 3 ∧ s.s 4 = .optr c 0 ∧ s.H c = some oc ∧ s.s 0 = .ptr (Lv.mk k n args).pv ∧ s.s 5 = .optr a 0 ∧ s.s 1 = lvs bys ∧ s.s 45 = .sc (.int .i64 args.length) ∧ s.s 46 = .sc (.int .i64 i) ∧
          s.H a = some ⟨[.sc (.int .i64 k), .sc (.int .i64 n), .osl b 0 args.length 3], true⟩ ∧ s.H b = some ⟨halfL ((args.take i).map (Lv.inst bys)) (args.length - i), true⟩) _ ⟨0, nx + 15, nx + 28, nx, ⟨[.sc (.int .i64 0), .sc (.int .i64 0), .sc (.slice none 0 0)], true⟩, rfl, by omega, by omega, by omega, by omega, by omega, by omega, by omega, rfl, by simp only [go_sem, Nat.reduceAdd, Nat.reduceMul, Nat.reduceSub, Nat.reduceLeDiff, Nat.reduceEqDiff, Nat.reduceBEq, ↓reduceIte, reduceCtorEq, Int.reduceEq, Int.reduceLE, Int.reduceLT, Int.reduceAdd, Int.reduceSub, Int.reduceNeg, Int.reduceToNat, Int.reduceNe, Nat.reducePow, Nat.reduceShiftRight, Nat.reduceMod], by simp (disch := omega) only [go_sem, Nat.reduceAdd, Nat.reduceMul, Nat.reduceSub, Nat.reduceLeDiff, Nat.reduceEqDiff, Nat.reduceBEq, ↓reduceIte, reduceCtorEq, Int.reduceEq, Int.reduceLE, Int.reduceLT, Int.reduceAdd, Int.reduceSub, Int.reduceNeg, Int.reduceToNat, Int.reduceNe, Nat.reducePow, Nat.reduceShiftRight, Nat.reduceMod], by simp [upd, sigF, sig_eq, Lv.pv], by simp only [go_sem, Nat.reduceAdd, Nat.reduceMul, Nat.reduceSub, Nat.reduceLeDiff, Nat.reduceEqDiff, Nat.reduceBEq, ↓reduceIte, reduceCtorEq, Int.reduceEq, Int.reduceLE, Int.reduceLT, Int.reduceAdd, Int.reduceSub, Int.reduceNeg, Int.reduceToNat, Int.reduceNe, Nat.reducePow, Nat.reduceShiftRight, Nat.reduceMod], by simp only [go_sem, Nat.reduceAdd, Nat.reduceMul, Nat.reduceSub, Nat.reduceLeDiff, Nat.reduceEqDiff, Nat.reduceBEq, ↓reduceIte, reduceCtorEq, Int.reduceEq, Int.reduceLE, Int.reduceLT, Int.reduceAdd, Int.reduceSub, Int.reduceNeg, Int.reduceToNat, Int.reduceNe, Nat.reducePow, Nat.reduceShiftRight, Nat.reduceMod]; rfl, by simp only [go_sem, Nat.reduceAdd, Nat.reduceMul, Nat.reduceSub, Nat.reduceLeDiff, Nat.reduceEqDiff, Nat.reduceBEq, ↓reduceIte, reduceCtorEq, Int.reduceEq, Int.reduceLE, Int.reduceLT, Int.reduceAdd, Int.reduceSub, Int.reduceNeg, Int.reduceToNat, Int.reduceNe, Nat.reducePow, Nat.reduceShiftRight, Nat.reduceMod], by simp only [go_sem, Nat.reduceAdd, Nat.reduceMul, Nat.reduceSub, Nat.reduceLeDiff, Nat.reduceEqDiff, Nat.reduceBEq, ↓reduceIte, reduceCtorEq, Int.reduceEq, Int.reduceLE, Int.reduceLT, Int.reduceAdd, Int.reduceSub, Int.reduceNeg, Int.reduceToNat, Int.reduceNe, Nat.reducePow, Nat.reduceShiftRight, Nat.reduceMod, Int.ofNat_zero], by simp only [go_sem, Nat.reduceAdd, Nat.reduceMul, Nat.reduceSub, Nat.reduceLeDiff, Nat.reduceEqDiff, Nat.reduceBEq, ↓reduceIte, reduceCtorEq, Int.reduceEq, Int.reduceLE, Int.reduceLT, Int.reduceAdd, Int.reduceSub, Int.reduceNeg, Int.reduceToNat, Int.reduceNe, Nat.reducePow, Nat.reduceShiftRight, Nat.reduceMod], by simp only [go_sem, Nat.reduceAdd, Nat.reduceMul, Nat.reduceSub, Nat.reduceLeDiff, Nat.reduceEqDiff, Nat.reduceBEq, ↓reduceIte, reduceCtorEq, Int.reduceEq, Int.reduceLE, Int.reduceLT, Int.reduceAdd, Int.reduceSub, Int.reduceNeg, Int.reduceToNat, Int.reduceNe, Nat.reducePow, Nat.reduceShiftRight, Nat.reduceMod]; rfl⟩ ?_
        rintro _ s ⟨i, a, b, c, oc, rfl, hi, hab, hba, hca, hcb, hac, hbc, hoc, e4, hc, e0, e5, e1, e45, e46, ha, hbk⟩
        by_cases hlt : i < args.length
        · have eg : args[i]? = some args[i] := List.getElem?_eq_getElem hlt
          have hfit : i * 3 + 3 ≤ i * 3 + (args.length - i) * 3 := by omega
          have htl : ((args.take i).map (Lv.inst bys)).length = i := by simp; omega
          simp (maxSteps := 1000000) (disch := omega) only [go_sem, Nat.reduceAdd, Nat.reduceMul, Nat.reduceSub, Nat.reduceLeDiff, Nat.reduceEqDiff, Nat.reduceBEq, ↓reduceIte, reduceCtorEq, Int.reduceEq, Int.reduceLE, Int.reduceLT, Int.reduceAdd, Int.reduceSub, Int.reduceNeg, Int.reduceToNat, Int.reduceNe, Nat.reducePow, Nat.reduceShiftRight, Nat.reduceMod, hlt, Lv.pv, hk2, e0, e5, e1, e45, e46, ha, hbk, hab, hba, e4, hc, hoc, hca, hcb, hac, hbc, eg]
          refine call_pure (ih args[i] (by have := nodesL_mem args i hlt; omega) (by have := nodesL_mem args i hlt; omega) (formed_kid hr _ (List.getElem_mem hlt))) ?_
          simp (maxSteps := 1000000) (disch := omega) only [go_sem, Nat.reduceAdd, Nat.reduceMul, Nat.reduceSub, Nat.reduceLeDiff, Nat.reduceEqDiff, Nat.reduceBEq, ↓reduceIte, reduceCtorEq, Int.reduceEq, Int.reduceLE, Int.reduceLT, Int.reduceAdd, Int.reduceSub, Int.reduceNeg, Int.reduceToNat, Int.reduceNe, Nat.reducePow, Nat.reduceShiftRight, Nat.reduceMod, hlt, Lv.pv, hk2, e0, e5, e1, e45, e46, ha, hbk, hab, hba, e4, hc, hoc, hca, hcb, hac, hbc, eg, pv_one, half_len, htl, hfit]
          refine ⟨args.length - (i + 1), by omega, i + 1, a, b, c, oc, rfl, by omega, hab, hba, hca, hcb, hac, hbc, hoc, rfl, ?_, rfl, by simp, ?_, ?_⟩
          · rw [if_neg hcb]; exact hc
          · rw [if_neg hab]; exact ha
          · have et : (args.take (i + 1)).map (Lv.inst bys) = (args.take i).map (Lv.inst bys) ++ [args[i].inst bys] := by rw [List.take_add_one, eg, Option.toList_some, List.map_append]; rfl
            rw [if_pos rfl, half_set' ((args.take i).map (Lv.inst bys)) i args.length (args[i].inst bys) hlt htl, et]
        · have hj : i = args.length := by omega
          subst hj
          simp (maxSteps := 1000000) (disch := omega) only [go_sem, Nat.reduceAdd, Nat.reduceMul, Nat.reduceSub, Nat.reduceLeDiff, Nat.reduceEqDiff, Nat.reduceBEq, ↓reduceIte, reduceCtorEq, Int.reduceEq, Int.reduceLE, Int.reduceLT, Int.reduceAdd, Int.reduceSub, Int.reduceNeg, Int.reduceToNat, Int.reduceNe, Nat.reducePow, Nat.reduceShiftRight, Nat.reduceMod, hlt, Lv.pv, hk2, e0, e5, e1, e45, e46, ha, hbk, hab, hba, e4, hc, hoc, hca, hcb, hac, hbc]
          have hbk2 : s.H b = some ⟨halfL (args.map (Lv.inst bys)) 0, true⟩ := by rw [hbk, List.take_length, Nat.sub_self]
          have hfl := half_len (args.map (Lv.inst bys)) 0
          simp only [Nat.zero_mul, Nat.add_zero, List.length_map] at hfl
          refine fin_ret (r0 := .agg [.sc (.int .i64 k), .sc (.int .i64 n), .osl b 0 args.length 3]) 2 (by simp [resP, resPs, resP1, upd, loadP, e4]) (.of_eq ?_)
          have hch : chunks 3 args.length (halfL (args.map (Lv.inst bys)) 0) = (args.map (Lv.inst bys)).map Lv.pv := by simpa [frz] using half_chunks noneOwn 0 (args.map (Lv.inst bys))
          have htk : (halfL (args.map (Lv.inst bys)) 0).take (args.length * 3) = halfL (args.map (Lv.inst bys)) 0 := List.take_of_length_le (by omega)
          simp only [frz, List.map_cons, List.map_nil, hbk2, hab, hba, hbc, upd_get, if_false, List.drop_zero, hfl, Nat.zero_add, Nat.le_refl, if_true, htk]
          rw [List.map_id', hch]
def Lv.instR (l : Lv) (bys : List Lv) : Option Lv :=
  if l.right bys.length = true ∧ (bys.all fun b => b.right 4) = true ∧ (l.inst bys).nodes ≤ 64 then some (l.inst bys) else none
def instPV : Option Lv → PV
  | some l => .tup [.agg l.pv, .sc (.bool true)]
  | none => .tup [.agg [.sc (.int .i64 0), .sc (.int .i64 0), .sc (.slice none 0 0)], .sc (.bool false)]
theorem frz_tup (k : Nat) (H : Nat → Option PObj) (l : Lv) (b : Bool) : frz (k + 1) H (.tup [.agg l.pv, .sc (.bool b)]) = .tup [.agg l.pv, .sc (.bool b)] := by
  simp only [frz, List.map_cons, List.map_nil, frz_agg_pv, frz_sc]
theorem frz_tup0 (k : Nat) (H : Nat → Option PObj) : frz (k + 2) H (instPV none) = instPV none := by
  simp only [instPV, frz, List.map_cons, List.map_nil, frz_sc]
set_option maxHeartbeats 8000000 in
theorem Inst_p (l : Lv) (bys : List Lv) : PPure Try.prog F.level_Inst [.agg l.pv, lvs bys] (instPV (l.instR bys)) := by
  refine pure_by is_level_Inst (by simp) (by unfold instPV; split <;> simp [PV.imm, immL, pv_imm]) fun hb nx => ?_
  simp (maxSteps := 1000000) (disch := omega) only [go_sem, Nat.reduceAdd, Nat.reduceMul, Nat.reduceSub, Nat.reduceLeDiff, Nat.reduceEqDiff, Nat.reduceBEq, ↓reduceIte, reduceCtorEq, Int.reduceEq, Int.reduceLE, Int.reduceLT, Int.reduceAdd, Int.reduceSub, Int.reduceNeg, Int.reduceToNat, Int.reduceNe, Nat.reducePow, Nat.reduceShiftRight, Nat.reduceMod, mc_level_Inst, lvs]
  refine call_pure (Right_p l bys.length) ?_
  cases hr : l.right bys.length
  · have e : l.instR bys = none := by simp [Lv.instR, hr]
    rw [e]
    simp (maxSteps := 1000000) (disch := omega) only [go_sem, Nat.reduceAdd, Nat.reduceMul, Nat.reduceSub, Nat.reduceLeDiff, Nat.reduceEqDiff, Nat.reduceBEq, ↓reduceIte, reduceCtorEq, Int.reduceEq, Int.reduceLE, Int.reduceLT, Int.reduceAdd, Int.reduceSub, Int.reduceNeg, Int.reduceToNat, Int.reduceNe, Nat.reducePow, Nat.reduceShiftRight, Nat.reduceMod]
    exact fin_ret (r0 := instPV none) 2 (by simp [resP, resPs, resP1, upd, loadP, instPV]) (.of_eq (frz_tup0 0 _))
  · obtain ⟨_, hb4, hn, hf⟩ := right_parts hr
    simp (maxSteps := 1000000) (disch := omega) only [go_sem, Nat.reduceAdd, Nat.reduceMul, Nat.reduceSub, Nat.reduceLeDiff, Nat.reduceEqDiff, Nat.reduceBEq, ↓reduceIte, reduceCtorEq, Int.reduceEq, Int.reduceLE, Int.reduceLT, Int.reduceAdd, Int.reduceSub, Int.reduceNeg, Int.reduceToNat, Int.reduceNe, Nat.reducePow, Nat.reduceShiftRight, Nat.reduceMod]
    refine c_loop (fun j s => ∃ i c : Nat, ∃ oc : PObj, j = bys.length - i ∧ i ≤ bys.length ∧ ((bys.take i).all fun b => b.right 4) = true ∧ s.s 1 = lvs bys ∧ s.s 2 = .ptr l.pv ∧ s.s 4 = .optr c 0 ∧ s.s 15 = lvs bys ∧ s.s 16 = .sc (.int .i64 bys.length) ∧ s.s 17 = .sc (.int .i64 i) ∧ s.H c = some oc ∧ oc.cells.length = 3 ∧ c < s.nx) bys.length ?_ ?_
    · exact ⟨0, nx + 1, ⟨[.sc (.int .i64 0), .sc (.int .i64 0), .sc (.slice none 0 0)], true⟩, by omega, by omega, by simp, by simp only [go_sem, Nat.reduceAdd, Nat.reduceMul, Nat.reduceSub, Nat.reduceLeDiff, Nat.reduceEqDiff, Nat.reduceBEq, ↓reduceIte, reduceCtorEq, Int.reduceEq, Int.reduceLE, Int.reduceLT, Int.reduceAdd, Int.reduceSub, Int.reduceNeg, Int.reduceToNat, Int.reduceNe, Nat.reducePow, Nat.reduceShiftRight, Nat.reduceMod]; simp [sigF, lvs], by simp only [go_sem, Nat.reduceAdd, Nat.reduceMul, Nat.reduceSub, Nat.reduceLeDiff, Nat.reduceEqDiff, Nat.reduceBEq, ↓reduceIte, reduceCtorEq, Int.reduceEq, Int.reduceLE, Int.reduceLT, Int.reduceAdd, Int.reduceSub, Int.reduceNeg, Int.reduceToNat, Int.reduceNe, Nat.reducePow, Nat.reduceShiftRight, Nat.reduceMod], by simp only [go_sem, Nat.reduceAdd, Nat.reduceMul, Nat.reduceSub, Nat.reduceLeDiff, Nat.reduceEqDiff, Nat.reduceBEq, ↓reduceIte, reduceCtorEq, Int.reduceEq, Int.reduceLE, Int.reduceLT, Int.reduceAdd, Int.reduceSub, Int.reduceNeg, Int.reduceToNat, Int.reduceNe, Nat.reducePow, Nat.reduceShiftRight, Nat.reduceMod], by simp only [go_sem, Nat.reduceAdd, Nat.reduceMul, Nat.reduceSub, Nat.reduceLeDiff, Nat.reduceEqDiff, Nat.reduceBEq, ↓reduceIte, reduceCtorEq, Int.reduceEq, Int.reduceLE, Int.reduceLT, Int.reduceAdd, Int.reduceSub, Int.reduceNeg, Int.reduceToNat, Int.reduceNe, Nat.reducePow, Nat.reduceShiftRight, Nat.reduceMod]; rfl, by simp only [go_sem, Nat.reduceAdd, Nat.reduceMul, Nat.reduceSub, Nat.reduceLeDiff, Nat.reduceEqDiff, Nat.reduceBEq, ↓reduceIte, reduceCtorEq, Int.reduceEq, Int.reduceLE, Int.reduceLT, Int.reduceAdd, Int.reduceSub, Int.reduceNeg, Int.reduceToNat, Int.reduceNe, Nat.reducePow, Nat.reduceShiftRight, Nat.reduceMod], by simp only [go_sem, Nat.reduceAdd, Nat.reduceMul, Nat.reduceSub, Nat.reduceLeDiff, Nat.reduceEqDiff, Nat.reduceBEq, ↓reduceIte, reduceCtorEq, Int.reduceEq, Int.reduceLE, Int.reduceLT, Int.reduceAdd, Int.reduceSub, Int.reduceNeg, Int.reduceToNat, Int.reduceNe, Nat.reducePow, Nat.reduceShiftRight, Nat.reduceMod, Int.ofNat_zero], by simp (disch := omega) only [go_sem, Nat.reduceAdd, Nat.reduceMul, Nat.reduceSub, Nat.reduceLeDiff, Nat.reduceEqDiff, Nat.reduceBEq, ↓reduceIte, reduceCtorEq, Int.reduceEq, Int.reduceLE, Int.reduceLT, Int.reduceAdd, Int.reduceSub, Int.reduceNeg, Int.reduceToNat, Int.reduceNe, Nat.reducePow, Nat.reduceShiftRight, Nat.reduceMod], rfl, by simp only [go_sem, Nat.reduceAdd, Nat.reduceMul, Nat.reduceSub, Nat.reduceLeDiff, Nat.reduceEqDiff, Nat.reduceBEq, ↓reduceIte, reduceCtorEq, Int.reduceEq, Int.reduceLE, Int.reduceLT, Int.reduceAdd, Int.reduceSub, Int.reduceNeg, Int.reduceToNat, Int.reduceNe, Nat.reducePow, Nat.reduceShiftRight, Nat.reduceMod]; omega⟩
    · rintro _ s ⟨i, c, oc, rfl, hi, hall, e1, e2, e4, e15, e16, e17, hc, hoc, hcn⟩
      have hne : ∀ k, (c = s.nx + k) = False := fun k => by simp; omega
      have hne' : ∀ k, (s.nx + k = c) = False := fun k => by simp; omega
      have hn0 : (c = s.nx) = False := by simp; omega
      have hn0' : (s.nx = c) = False := by simp; omega
      by_cases hlt : i < bys.length
      · have eg : bys[i]? = some bys[i] := List.getElem?_eq_getElem hlt
        simp (maxSteps := 1000000) (disch := omega) only [go_sem, Nat.reduceAdd, Nat.reduceMul, Nat.reduceSub, Nat.reduceLeDiff, Nat.reduceEqDiff, Nat.reduceBEq, ↓reduceIte, reduceCtorEq, Int.reduceEq, Int.reduceLE, Int.reduceLT, Int.reduceAdd, Int.reduceSub, Int.reduceNeg, Int.reduceToNat, Int.reduceNe, Nat.reducePow, Nat.reduceShiftRight, Nat.reduceMod, hlt, lvs, e1, e2, e4, e15, e16, e17, hc, hoc, eg, hne, hne', hn0, hn0']
        refine call_pure (Right_p bys[i] 4) ?_
        cases hq : bys[i].right 4
        · have e : l.instR bys = none := by
            have : (bys.all fun b => b.right 4) = false := by
              rw [List.all_eq_false]
              exact ⟨bys[i], List.getElem_mem hlt, by simp [hq]⟩
            simp [Lv.instR, this]
          rw [e]
          simp (maxSteps := 1000000) (disch := omega) only [go_sem, Nat.reduceAdd, Nat.reduceMul, Nat.reduceSub, Nat.reduceLeDiff, Nat.reduceEqDiff, Nat.reduceBEq, ↓reduceIte, reduceCtorEq, Int.reduceEq, Int.reduceLE, Int.reduceLT, Int.reduceAdd, Int.reduceSub, Int.reduceNeg, Int.reduceToNat, Int.reduceNe, Nat.reducePow, Nat.reduceShiftRight, Nat.reduceMod, hlt, lvs, e1, e2, e4, e15, e16, e17, hc, hoc, eg, hne, hne', hn0, hn0']
          exact fin_ret (r0 := instPV none) 2 (by simp [resP, resPs, resP1, upd, loadP, instPV, e4]) (.of_eq (frz_tup0 0 _))
        · simp (maxSteps := 1000000) (disch := omega) only [go_sem, Nat.reduceAdd, Nat.reduceMul, Nat.reduceSub, Nat.reduceLeDiff, Nat.reduceEqDiff, Nat.reduceBEq, ↓reduceIte, reduceCtorEq, Int.reduceEq, Int.reduceLE, Int.reduceLT, Int.reduceAdd, Int.reduceSub, Int.reduceNeg, Int.reduceToNat, Int.reduceNe, Nat.reducePow, Nat.reduceShiftRight, Nat.reduceMod, hlt, lvs, e1, e2, e4, e15, e16, e17, hc, hoc, eg, hne, hne', hn0, hn0']
          refine ⟨bys.length - (i + 1), by omega, i + 1, c, oc, rfl, by omega, ?_, ?_⟩
          · rw [List.take_add_one, eg, Option.toList_some, List.all_append, hall]
            simp [hq]
          · exact ⟨rfl, by simp, by simp only [hne, if_false]; exact hc, hoc, by omega⟩
      · have hj : i = bys.length := by omega
        subst hj
        rw [List.take_length] at hall
        have hbn : ∀ b ∈ bys, b.nodes ≤ 2 ^ 40 := fun b hb => by
          have := (right_parts (List.all_eq_true.1 hall b hb)).2.2.1
          omega
        simp (maxSteps := 1000000) (disch := omega) only [go_sem, Nat.reduceAdd, Nat.reduceMul, Nat.reduceSub, Nat.reduceLeDiff, Nat.reduceEqDiff, Nat.reduceBEq, ↓reduceIte, reduceCtorEq, Int.reduceEq, Int.reduceLE, Int.reduceLT, Int.reduceAdd, Int.reduceSub, Int.reduceNeg, Int.reduceToNat, Int.reduceNe, Nat.reducePow, Nat.reduceShiftRight, Nat.reduceMod, hlt, lvs, e1, e2, e4, e15, e16, e17, hc, hoc, hne, hne', hn0, hn0']
        refine call_pure (inst_p bys hbn l.nodes l (Nat.le_refl _) (by omega) hf) ?_
        simp (maxSteps := 1000000) (disch := omega) only [go_sem, Nat.reduceAdd, Nat.reduceMul, Nat.reduceSub, Nat.reduceLeDiff, Nat.reduceEqDiff, Nat.reduceBEq, ↓reduceIte, reduceCtorEq, Int.reduceEq, Int.reduceLE, Int.reduceLT, Int.reduceAdd, Int.reduceSub, Int.reduceNeg, Int.reduceToNat, Int.reduceNe, Nat.reducePow, Nat.reduceShiftRight, Nat.reduceMod, hlt, lvs, e1, e2, e4, e15, e16, e17, hc, hoc, hne, hne', hn0, hn0']
        refine call_pure (Nodes_p (l.inst bys)) ?_
        by_cases hnn : (l.inst bys).nodes ≤ 64
        · have hq : ¬ (64 : Int) < ((min (l.inst bys).nodes 65 : Nat) : Int) := by omega
          have e : l.instR bys = some (l.inst bys) := by simp only [Lv.instR, hr, hall, hnn, and_self, if_true]
          rw [e]
          simp (maxSteps := 1000000) (disch := omega) only [go_sem, Nat.reduceAdd, Nat.reduceMul, Nat.reduceSub, Nat.reduceLeDiff, Nat.reduceEqDiff, Nat.reduceBEq, ↓reduceIte, reduceCtorEq, Int.reduceEq, Int.reduceLE, Int.reduceLT, Int.reduceAdd, Int.reduceSub, Int.reduceNeg, Int.reduceToNat, Int.reduceNe, Nat.reducePow, Nat.reduceShiftRight, Nat.reduceMod, hlt, lvs, e1, e2, e4, e15, e16, e17, hc, hoc, hne, hne', hn0, hn0', hq]
          exact fin_ret (r0 := .tup [.agg (l.inst bys).pv, .sc (.bool true)]) 1 (by simp [resP, resPs, resP1, upd, loadP, pv_len, e4, pv_take_app]) (.of_eq (frz_tup 0 _ _ _))
        · have hq : (64 : Int) < ((min (l.inst bys).nodes 65 : Nat) : Int) := by omega
          have e : l.instR bys = none := by simp [Lv.instR, hnn]
          rw [e]
          simp (maxSteps := 1000000) (disch := omega) only [go_sem, Nat.reduceAdd, Nat.reduceMul, Nat.reduceSub, Nat.reduceLeDiff, Nat.reduceEqDiff, Nat.reduceBEq, ↓reduceIte, reduceCtorEq, Int.reduceEq, Int.reduceLE, Int.reduceLT, Int.reduceAdd, Int.reduceSub, Int.reduceNeg, Int.reduceToNat, Int.reduceNe, Nat.reducePow, Nat.reduceShiftRight, Nat.reduceMod, hlt, lvs, e1, e2, e4, e15, e16, e17, hc, hoc, hne, hne', hn0, hn0', hq]
          exact fin_ret (r0 := instPV none) 2 (by simp [resP, resPs, resP1, upd, loadP, instPV, e4]) (.of_eq (frz_tup0 0 _))
end
section
def tt (a x : Int) : Int := if a = -1 then 0 else a + x
def Fm.ev (f : Fm) (x0 x1 x2 x3 : Int) : Int := Max.max (Max.max (Max.max (Max.max f.num (tt f.a0 x0)) (tt f.a1 x1)) (tt f.a2 x2)) (tt f.a3 x3)
structure Fm.Min (f : Fm) : Prop where
  n0 : 0 ≤ f.num
  b0 : -1 ≤ f.a0
  b1 : -1 ≤ f.a1
  b2 : -1 ≤ f.a2
  b3 : -1 ≤ f.a3
theorem Fm.Ok.min {f : Fm} {m : Int} (h : f.Ok m) : f.Min := ⟨h.n0, h.b0, h.b1, h.b2, h.b3⟩
def s3 (i : Nat) : Int := if i = 0 then 0 else if i = 1 then 1 else 1000
end
section
set_option maxRecDepth 20000
attribute [local go_sem] pv_len pv_take id_ne id_ne' id_ne2 List.append_assoc Nat.add_assoc pv_one
theorem len_nodesL : ∀ ls : List Lv, ls.length ≤ nodesL ls
  | [] => Nat.le_refl _
  | x :: r => by have := len_nodesL r; have := nodes_pos x; simp only [List.length_cons, nodesL]; omega
mutual
def Lv.same : Lv → Lv → Bool
  | .mk k n xs, .mk k' n' ys => decide (k = k') && (decide (n = n') && (decide (xs.length = ys.length) && sameL xs ys))
def sameL : List Lv → List Lv → Bool
  | x :: xs, y :: ys => x.same y && sameL xs ys
  | _, _ => true
end
mutual
theorem same_iff_eq : ∀ a b : Lv, a.same b = true ↔ a = b
  | .mk k n xs, .mk k' n' ys => by
    simp only [Lv.same, Bool.and_eq_true, decide_eq_true_eq, Lv.mk.injEq]
    constructor
    · rintro ⟨h1, h2, h3, h4⟩
      exact ⟨h1, h2, (sameL_iff xs ys h3).1 h4⟩
    · rintro ⟨h1, h2, h3⟩
      exact ⟨h1, h2, by rw [h3], (sameL_iff xs ys (by rw [h3])).2 h3⟩
theorem sameL_iff : ∀ xs ys : List Lv, xs.length = ys.length → (sameL xs ys = true ↔ xs = ys)
  | [], [], _ => by simp [sameL]
  | x :: xs, y :: ys, h => by
    simp only [sameL, Bool.and_eq_true, List.cons.injEq]
    rw [same_iff_eq x y, sameL_iff xs ys (by simpa using h)]
  | [], y :: ys, h => by simp at h
  | x :: xs, [], h => by simp at h
end
theorem sameL_take : ∀ (xs ys : List Lv) (i : Nat) (h : i < xs.length) (h2 : i < ys.length), sameL (xs.take (i + 1)) (ys.take (i + 1)) = (sameL (xs.take i) (ys.take i) && xs[i].same ys[i])
  | x :: xs, y :: ys, 0, h, h2 => by simp [sameL]
  | x :: xs, y :: ys, i + 1, h, h2 => by
    have := sameL_take xs ys i (by simpa using h) (by simpa using h2)
    simp only [List.take_succ_cons, sameL, List.getElem_cons_succ, this, Bool.and_assoc]
theorem sameL_false : ∀ (xs ys : List Lv) (i : Nat) (h : i < xs.length) (h2 : i < ys.length), xs[i].same ys[i] = false → sameL xs ys = false
  | x :: xs, y :: ys, 0, h, h2, e => by simp at e; simp [sameL, e]
  | x :: xs, y :: ys, i + 1, h, h2, e => by
    have := sameL_false xs ys i (by simpa using h) (by simpa using h2) (by simpa using e)
    simp [sameL, this]
set_option maxHeartbeats 400000 in
theorem SameLevel_p : ∀ (fuel : Nat) (a b : Lv), a.nodes ≤ fuel → PPure Try.prog F.ref00_SameLevel [.agg a.pv, .agg b.pv] (.sc (.bool (a.same b))) := by
  intro fuel
  induction fuel with
  | zero => intro l _ h; have := nodes_pos l; omega
  | succ fuel ih =>
    intro a b hf
    cases a with
    | mk k n xs =>
    cases b with
    | mk k' n' ys =>
    simp only [Lv.nodes] at hf
    refine pure_by is_ref00_SameLevel (by simp) rfl fun hb nx => ?_
    have hb0 : xs.length ≤ 9223372036854775807 ∧ ys.length ≤ 9223372036854775807 := by simp [Lv.pv, bndL, PV.bnd] at hb; exact ⟨hb.1.1, hb.2.1⟩
    repeat' (first | ((with_reducible first | refine wA (by omega) ?_ | refine wB (by omega) ?_ | refine wC (by omega) ?_ | refine wD (by omega) ?_ | refine wE ?_ ?_ | refine wF ?_ ?_ | refine wG ?_ ?_ | refine wH ?_ ?_ | refine wI ?_ ?_ | refine wJ ?_ ?_ | refine wK ?_ ?_ | refine wL ?_ ?_) <;> intro _) | simp (maxSteps := 1000000) (disch := omega) only [go_sem, Nat.reduceAdd, Nat.reduceMul, Nat.reduceSub, Nat.reduceLeDiff, Nat.reduceEqDiff, Nat.reduceBEq, ↓reduceIte, reduceCtorEq, Int.reduceEq, Int.reduceLE, Int.reduceLT, Int.reduceAdd, Int.reduceSub, Int.reduceNeg, Int.reduceToNat, Int.reduceNe, Nat.reducePow, Nat.reduceShiftRight, Nat.reduceMod, mc_ref00_SameLevel, Lv.pv, *])
    all_goals (try (refine fin_tmp (.inr rfl) ?_; (first | rfl | (simp (disch := omega) only [go_sem, Nat.reduceMul, Nat.reduceSub, Nat.reduceShiftRight, Nat.reduceMod, Nat.reduceEqDiff, Nat.reduceAdd, ↓reduceIte, Nat.reduceLeDiff, Lv.same, *]; done) | (simp [Lv.same, upd, *]; done) | (simp [Lv.same, upd, *]; omega))))
    refine c_loopW 70368609959984 (by kernel_rfl) (fun j f H m => ∃ i : Nat, j = xs.length - i ∧ i ≤ xs.length ∧ f 5 = .sc (.int .i64 i) ∧ sameL (xs.take i) (ys.take i) = true) _ ⟨0, rfl, cE1, cE1, rfl⟩ ?_
    rintro _ f H m ⟨i, rfl, hi, e5, hs⟩
    by_cases hlt : i < xs.length
    · have hlt2 : i < ys.length := by omega
      have eg : xs[i]? = some xs[i] := List.getElem?_eq_getElem hlt
      have eg2 : ys[i]? = some ys[i] := List.getElem?_eq_getElem hlt2
      have hn := nodesL_mem xs i hlt
      have ht := sameL_take xs ys i hlt hlt2
      have hq := sameL_false xs ys i hlt hlt2
      repeat' (first | ((with_reducible first | refine wA (by omega) ?_ | refine wB (by omega) ?_ | refine wC (by omega) ?_ | refine wD (by omega) ?_ | refine wE ?_ ?_ | refine wF ?_ ?_ | refine wG ?_ ?_ | refine wH ?_ ?_ | refine wI ?_ ?_ | refine wJ ?_ ?_ | refine wK ?_ ?_ | refine wL ?_ ?_) <;> intro _) | (((with_reducible refine call_id ?_); (first | (refine call_pure (ih xs[i] ys[i] (by omega)) ?_)))) | simp (maxSteps := 1000000) (disch := omega) only [go_sem, Nat.reduceAdd, Nat.reduceMul, Nat.reduceSub, Nat.reduceLeDiff, Nat.reduceEqDiff, Nat.reduceBEq, ↓reduceIte, reduceCtorEq, Int.reduceEq, Int.reduceLE, Int.reduceLT, Int.reduceAdd, Int.reduceSub, Int.reduceNeg, Int.reduceToNat, Int.reduceNe, Nat.reducePow, Nat.reduceShiftRight, Nat.reduceMod, Lv.pv, *])
      · rename_i h0
        rw [h0] at hq
        (refine fin_tmp (.inr rfl) ?_; (first | rfl | (simp (disch := omega) only [go_sem, Nat.reduceMul, Nat.reduceSub, Nat.reduceShiftRight, Nat.reduceMod, Nat.reduceEqDiff, Nat.reduceAdd, ↓reduceIte, Nat.reduceLeDiff, Lv.same, *]; done) | (simp [Lv.same, upd, *]; done) | (simp [Lv.same, upd, *]; omega)))
      · rename_i h0
        refine Nx.mk (xs.length - (i + 1)) cE1 ⟨i + 1, cE1, cE1, cE1, by rw [ht, hs, h0]; rfl⟩
    · obtain rfl : i = xs.length := by omega
      have e : ys.take xs.length = ys := List.take_of_length_le (by omega)
      rw [List.take_length, e] at hs
      repeat' (first | ((with_reducible first | refine wA (by omega) ?_ | refine wB (by omega) ?_ | refine wC (by omega) ?_ | refine wD (by omega) ?_ | refine wE ?_ ?_ | refine wF ?_ ?_ | refine wG ?_ ?_ | refine wH ?_ ?_ | refine wI ?_ ?_ | refine wJ ?_ ?_ | refine wK ?_ ?_ | refine wL ?_ ?_) <;> intro _) | simp (maxSteps := 1000000) (disch := omega) only [go_sem, Nat.reduceAdd, Nat.reduceMul, Nat.reduceSub, Nat.reduceLeDiff, Nat.reduceEqDiff, Nat.reduceBEq, ↓reduceIte, reduceCtorEq, Int.reduceEq, Int.reduceLE, Int.reduceLT, Int.reduceAdd, Int.reduceSub, Int.reduceNeg, Int.reduceToNat, Int.reduceNe, Nat.reducePow, Nat.reduceShiftRight, Nat.reduceMod, Lv.pv, *])
      (refine fin_tmp (.inr rfl) ?_; (first | rfl | (simp (disch := omega) only [go_sem, Nat.reduceMul, Nat.reduceSub, Nat.reduceShiftRight, Nat.reduceMod, Nat.reduceEqDiff, Nat.reduceAdd, ↓reduceIte, Nat.reduceLeDiff, Lv.same, *]; done) | (simp [Lv.same, upd, *]; done) | (simp [Lv.same, upd, *]; omega)))
end
section
attribute [local go_sem] pv_len pv_take id_ne id_ne' id_ne2 List.append_assoc Nat.add_assoc pv_one
mutual
def Lv.grown (bys : List Lv) : Lv → Nat
  | .mk k n args => if k = 2 then min (bys.getD n.toNat (.mk 1 0 [])).nodes 65 else 1 + grownL bys args
def grownL (bys : List Lv) : List Lv → Nat
  | [] => 0
  | x :: r => x.grown bys + grownL bys r
end
theorem par_of {np n : Int} {args : List Lv} (h : (Lv.mk 2 n args).formed np = true) : 0 ≤ n ∧ n < np ∧ args = [] := by
  rcases formed_num h with ⟨h1, _⟩ | ⟨_, h1, h2, h3⟩ | ⟨h1, _⟩ | ⟨h1, _⟩
  · omega
  · exact ⟨h1, h2, h3⟩
  · omega
  · omega
def Lv.instV (l : Lv) (bys : List Lv) : Option Lv :=
  if (l.right bys.length && (bys.all (Lv.right 4) && decide (l.grown bys ≤ 64))) = true then some (l.inst bys) else none
end
section
set_option maxRecDepth 20000
attribute [local go_sem] pv_len pv_take Nat.add_assoc tm_len tm_take pv_one id_ne id_ne' id_ne2
mutual
def Tm.nodes : Tm → Nat
  | .mk _ _ _ ls args => 1 + (nodesL ls + nodesT args)
def nodesT : List Tm → Nat
  | [] => 0
  | x :: r => x.nodes + nodesT r
end
theorem nodesT_take_succ : ∀ (ts : List Tm) (k : Nat) (h : k < ts.length), nodesT (ts.take (k + 1)) = nodesT (ts.take k) + ts[k].nodes
  | x :: r, 0, h => by simp [nodesT]
  | x :: r, k + 1, h => by
    have := nodesT_take_succ r k (by simpa using h)
    simp only [List.take_succ_cons, nodesT, List.getElem_cons_succ, this]
    omega
theorem nodesT_append : ∀ a b : List Tm, nodesT (a ++ b) = nodesT a + nodesT b
  | [], b => by simp [nodesT]
  | x :: r, b => by simp only [List.cons_append, nodesT, nodesT_append r b]; omega
theorem nodesT_take_le (ts : List Tm) (k : Nat) : nodesT (ts.take k) ≤ nodesT ts := by
  have h := nodesT_append (ts.take k) (ts.drop k)
  rw [List.take_append_drop] at h
  omega
theorem nodesT_mem (ts : List Tm) (k : Nat) (h : k < ts.length) : ts[k].nodes ≤ nodesT ts := by
  have h1 := nodesT_take_succ ts k h
  have h2 := nodesT_take_le ts (k + 1)
  omega
theorem tnodes_pos (t : Tm) : 0 < t.nodes := by cases t; simp only [Tm.nodes]; omega
mutual
theorem size_nodes : ∀ t : Tm, t.size ≤ t.nodes
  | .mk k n s ls args => by have := sizeL_nodes args; simp only [Tm.size, Tm.nodes]; omega
theorem sizeL_nodes : ∀ ts : List Tm, sizeL ts ≤ nodesT ts
  | [] => Nat.le_refl _
  | x :: r => by have := size_nodes x; have := sizeL_nodes r; simp only [sizeL, nodesT]; omega
end
set_option maxHeartbeats 8000000 in
theorem ref_Nodes_p (most : Nat) (hm : most ≤ 1000000) : ∀ (fuel : Nat) (t : Tm), t.size ≤ fuel →
    PPure Try.prog F.ref04_Nodes [.agg t.pv, .sc (.int .i64 most)] (.sc (.int .i64 (min t.nodes (most + 1) : Nat))) := by
  intro fuel
  induction fuel with
  | zero => intro t h; have := size_pos t; omega
  | succ fuel ih =>
    intro t hf
    cases t with
    | mk k n s ls args =>
    simp only [Tm.size] at hf
    refine pure_by is_ref04_Nodes (by simp) rfl fun hb nx => ?_
    have hb0 : ls.length ≤ 9223372036854775807 ∧ args.length ≤ 9223372036854775807 := by simp [Tm.pv, bndL, PV.bnd] at hb; exact ⟨hb.1.1, hb.2.1⟩
    repeat' (first | ((with_reducible first | refine wA (by omega) ?_ | refine wB (by omega) ?_ | refine wC (by omega) ?_ | refine wD (by omega) ?_ | refine wE ?_ ?_ | refine wF ?_ ?_ | refine wG ?_ ?_ | refine wH ?_ ?_ | refine wI ?_ ?_ | refine wJ ?_ ?_ | refine wK ?_ ?_ | refine wL ?_ ?_) <;> intro _) | simp (maxSteps := 1000000) (disch := omega) only [go_sem, Nat.reduceAdd, Nat.reduceMul, Nat.reduceSub, Nat.reduceLeDiff, Nat.reduceEqDiff, Nat.reduceBEq, ↓reduceIte, reduceCtorEq, Int.reduceEq, Int.reduceLE, Int.reduceLT, Int.reduceAdd, Int.reduceSub, Int.reduceNeg, Int.reduceToNat, Int.reduceNe, Nat.reducePow, Nat.reduceShiftRight, Nat.reduceMod, mc_ref04_Nodes, Tm.pv, *])
    refine c_loopW 536870752 (by kernel_rfl) (fun j f H m => ∃ i t : Nat, j = ls.length - i ∧ i ≤ ls.length ∧ min t (most + 1) = min (1 + nodesL (ls.take i)) (most + 1) ∧ t ≤ 2 * most + 1 ∧ f 5 = .sc (.int .i64 t) ∧ f 6 = .sc (.int .i64 i)) _ ⟨0, 1, rfl, cE1, by simp [nodesL], cE1, cE1, cE1⟩ ?_
    rintro _ f H m ⟨i, t, rfl, hi, ht, ht2, e5, e6⟩
    by_cases hgo : i < ls.length ∧ t ≤ most
    · obtain ⟨hlt, hfull⟩ := hgo
      have eg : ls[i]? = some ls[i] := List.getElem?_eq_getElem hlt
      have hs := nodesL_take_succ ls i hlt
      repeat' (first | ((with_reducible first | refine wA (by omega) ?_ | refine wB (by omega) ?_ | refine wC (by omega) ?_ | refine wD (by omega) ?_ | refine wE ?_ ?_ | refine wF ?_ ?_ | refine wG ?_ ?_ | refine wH ?_ ?_ | refine wI ?_ ?_ | refine wJ ?_ ?_ | refine wK ?_ ?_ | refine wL ?_ ?_) <;> intro _) | (((with_reducible refine call_id ?_); (first | (refine call_pure (LevelNodes_p most hm ls[i].nodes ls[i] (Nat.le_refl _)) ?_)))) | simp (maxSteps := 1000000) (disch := omega) only [go_sem, Nat.reduceAdd, Nat.reduceMul, Nat.reduceSub, Nat.reduceLeDiff, Nat.reduceEqDiff, Nat.reduceBEq, ↓reduceIte, reduceCtorEq, Int.reduceEq, Int.reduceLE, Int.reduceLT, Int.reduceAdd, Int.reduceSub, Int.reduceNeg, Int.reduceToNat, Int.reduceNe, Nat.reducePow, Nat.reduceShiftRight, Nat.reduceMod, Tm.pv, *])
      exact Nx.mk (ls.length - (i + 1)) cE1 ⟨i + 1, t + min ls[i].nodes (most + 1), rfl, cE1, by omega, by omega, cE1, cE1⟩
    · have hfin : min t (most + 1) = min (1 + nodesL ls) (most + 1) := by
        by_cases h : i < ls.length
        · have := nodesL_take_le ls i; omega
        · have e : ls.take i = ls := List.take_of_length_le (by omega)
          rw [e] at ht
          exact ht
      have hor : (i < ls.length ∧ most < t) ∨ ¬ i < ls.length := by omega
      clear hgo ht
      rcases hor with ⟨h, h'⟩ | h
      all_goals
        repeat' (first | ((with_reducible first | refine wA (by omega) ?_ | refine wB (by omega) ?_ | refine wC (by omega) ?_ | refine wD (by omega) ?_ | refine wE ?_ ?_ | refine wF ?_ ?_ | refine wG ?_ ?_ | refine wH ?_ ?_ | refine wI ?_ ?_ | refine wJ ?_ ?_ | refine wK ?_ ?_ | refine wL ?_ ?_) <;> intro _) | simp (maxSteps := 1000000) (disch := omega) only [go_sem, Nat.reduceAdd, Nat.reduceMul, Nat.reduceSub, Nat.reduceLeDiff, Nat.reduceEqDiff, Nat.reduceBEq, ↓reduceIte, reduceCtorEq, Int.reduceEq, Int.reduceLE, Int.reduceLT, Int.reduceAdd, Int.reduceSub, Int.reduceNeg, Int.reduceToNat, Int.reduceNe, Nat.reducePow, Nat.reduceShiftRight, Nat.reduceMod, Tm.pv, *])
        refine c_loopW 1125899369971872 (by kernel_rfl) (fun j f H m => ∃ i2 t2 : Nat, j = args.length - i2 ∧ i2 ≤ args.length ∧ min t2 (most + 1) = min (1 + (nodesL ls + nodesT (args.take i2))) (most + 1) ∧ t2 ≤ 2 * most + 1 ∧ f 5 = .sc (.int .i64 t2) ∧ f 7 = .sc (.int .i64 i2)) _ ⟨0, t, rfl, cE1, by simp [nodesT]; omega, cE1, cE1, cE1⟩ ?_
        rintro _ f2 H2 m2 ⟨i2, t2, rfl, hi2, ht3, ht4, e5', e7⟩
        by_cases hgo : i2 < args.length ∧ t2 ≤ most
        · obtain ⟨hlt, hfull⟩ := hgo
          have eg : args[i2]? = some args[i2] := List.getElem?_eq_getElem hlt
          have hs := nodesT_take_succ args i2 hlt
          have hsz := sizeL_mem args i2 hlt
          repeat' (first | ((with_reducible first | refine wA (by omega) ?_ | refine wB (by omega) ?_ | refine wC (by omega) ?_ | refine wD (by omega) ?_ | refine wE ?_ ?_ | refine wF ?_ ?_ | refine wG ?_ ?_ | refine wH ?_ ?_ | refine wI ?_ ?_ | refine wJ ?_ ?_ | refine wK ?_ ?_ | refine wL ?_ ?_) <;> intro _) | (((with_reducible refine call_id ?_); (first | (refine call_pure (ih args[i2] (by omega)) ?_)))) | simp (maxSteps := 1000000) (disch := omega) only [go_sem, Nat.reduceAdd, Nat.reduceMul, Nat.reduceSub, Nat.reduceLeDiff, Nat.reduceEqDiff, Nat.reduceBEq, ↓reduceIte, reduceCtorEq, Int.reduceEq, Int.reduceLE, Int.reduceLT, Int.reduceAdd, Int.reduceSub, Int.reduceNeg, Int.reduceToNat, Int.reduceNe, Nat.reducePow, Nat.reduceShiftRight, Nat.reduceMod, Tm.pv, *])
          exact Nx.mk (args.length - (i2 + 1)) cE1 ⟨i2 + 1, t2 + min args[i2].nodes (most + 1), rfl, cE1, by omega, by omega, cE1, cE1⟩
        · have hfin2 : min t2 (most + 1) = min (1 + (nodesL ls + nodesT args)) (most + 1) := by
            by_cases h : i2 < args.length
            · have := nodesT_take_le args i2; omega
            · have e : args.take i2 = args := List.take_of_length_le (by omega)
              rw [e] at ht3
              exact ht3
          have hor : (i2 < args.length ∧ most < t2) ∨ ¬ i2 < args.length := by omega
          clear hgo ht3
          rcases hor with ⟨h2, h2'⟩ | h2
          all_goals
            repeat' (first | ((with_reducible first | refine wA (by omega) ?_ | refine wB (by omega) ?_ | refine wC (by omega) ?_ | refine wD (by omega) ?_ | refine wE ?_ ?_ | refine wF ?_ ?_ | refine wG ?_ ?_ | refine wH ?_ ?_ | refine wI ?_ ?_ | refine wJ ?_ ?_ | refine wK ?_ ?_ | refine wL ?_ ?_) <;> intro _) | simp (maxSteps := 1000000) (disch := omega) only [go_sem, Nat.reduceAdd, Nat.reduceMul, Nat.reduceSub, Nat.reduceLeDiff, Nat.reduceEqDiff, Nat.reduceBEq, ↓reduceIte, reduceCtorEq, Int.reduceEq, Int.reduceLE, Int.reduceLT, Int.reduceAdd, Int.reduceSub, Int.reduceNeg, Int.reduceToNat, Int.reduceNe, Nat.reducePow, Nat.reduceShiftRight, Nat.reduceMod, Tm.pv, *])
            refine fin_tmp (.inr rfl) ?_
            simp (disch := omega) only [go_sem, Nat.reduceMul, Nat.reduceSub, Nat.reduceShiftRight, Nat.reduceMod, Nat.reduceEqDiff, Nat.reduceAdd, ↓reduceIte, Nat.reduceLeDiff, Tm.nodes, *]
            omega
theorem binds_p (kind i : Int) (hi : 0 ≤ i) : PPure Try.prog F.ref04_binds [.sc (.int .i64 kind), .sc (.int .i64 i)] (.sc (.bool (decide (((kind = 5 ∨ kind = 6) ∧ i = 1) ∨ (kind = 7 ∧ i = 2))))) := by
  refine pure_by is_ref04_binds (by simp) rfl fun hb nx => ?_
  repeat' (first | ((with_reducible first | refine wA (by omega) ?_ | refine wB (by omega) ?_ | refine wC (by omega) ?_ | refine wD (by omega) ?_ | refine wE ?_ ?_ | refine wF ?_ ?_ | refine wG ?_ ?_ | refine wH ?_ ?_ | refine wI ?_ ?_ | refine wJ ?_ ?_ | refine wK ?_ ?_ | refine wL ?_ ?_) <;> intro _) | simp (maxSteps := 1000000) (disch := omega) only [go_sem, Nat.reduceAdd, Nat.reduceMul, Nat.reduceSub, Nat.reduceLeDiff, Nat.reduceEqDiff, Nat.reduceBEq, ↓reduceIte, reduceCtorEq, Int.reduceEq, Int.reduceLE, Int.reduceLT, Int.reduceAdd, Int.reduceSub, Int.reduceNeg, Int.reduceToNat, Int.reduceNe, Nat.reducePow, Nat.reduceShiftRight, Nat.reduceMod, mc_ref04_binds, *])
  all_goals (refine fin_tmp (.inr rfl) ?_; simp [upd, *] <;> omega)
end
section
set_option maxRecDepth 20000
attribute [local go_sem] pv_len pv_take Nat.add_assoc tm_len tm_take
theorem all_nil {ls : List Lv} (np : Int) (h : ls.length = 0) : ls.all (Lv.right np) = true := by
  obtain rfl : ls = [] := List.eq_nil_of_length_eq_zero h
  rfl
theorem formed_levels (np k kind n : Int) (s : ByteArray) (ls : List Lv) (args : List Tm) (h : ls.all (Lv.right np) = false) : (Tm.mk kind n s ls args).formed np k = false := by
  have h0 : ls.length ≠ 0 := fun h0 => by rw [all_nil np h0] at h; exact absurd h (by decide)
  have h1 : (ls.length == 1 && headR np ls) = false := by
    match ls, h with
    | [], _ => rfl
    | [l], h => simp only [List.all_cons, List.all_nil, Bool.and_true] at h; simp [headR, h]
    | _ :: _ :: _, _ => simp
  have h2 : ∀ a c, hasB n s ls args a 0 c = false := fun a c => by simp [hasB, h0]
  have h3 : (hasB n s ls args 0 1 0 && headR np ls) = false := by
    by_cases h : ls.length = 1
    · rw [h] at h1; simp at h1; simp [h1]
    · have : ¬ (ls.length : Int) = 1 := by omega
      simp [hasB, this]
  simp only [Tm.formed, h2, h3, constB, h]
  simp
set_option maxHeartbeats 16000000 in
theorem ref04_right_p (np : Int) : ∀ (fuel : Nat) (t : Tm) (k : Int), t.size ≤ fuel → 0 ≤ k → k + t.size ≤ 2 ^ 60 → PPure Try.prog F.ref04_right [.agg t.pv, .sc (.int .i64 np), .sc (.int .i64 k)] (.sc (.bool (t.formed np k))) := by
  intro fuel
  induction fuel with
  | zero => intro t k h; have := size_pos t; omega
  | succ fuel ih =>
    intro t k hf h0 h1
    cases t with
    | mk kind n s ls args =>
    simp only [Tm.size] at hf h1
    refine pure_by is_ref04_right (by simp) rfl fun hb nx => ?_
    have hb0 : ls.length ≤ 9223372036854775807 ∧ args.length ≤ 9223372036854775807 := by simp [Tm.pv, bndL, PV.bnd] at hb; exact ⟨hb.1.1, hb.2.1⟩
    repeat' (first | ((with_reducible first | refine wA (by omega) ?_ | refine wB (by omega) ?_ | refine wC (by omega) ?_ | refine wD (by omega) ?_ | refine wE ?_ ?_ | refine wF ?_ ?_ | refine wG ?_ ?_ | refine wH ?_ ?_ | refine wI ?_ ?_ | refine wJ ?_ ?_ | refine wK ?_ ?_ | refine wL ?_ ?_) <;> intro _) | simp (maxSteps := 1000000) (disch := omega) only [go_sem, Nat.reduceAdd, Nat.reduceMul, Nat.reduceSub, Nat.reduceLeDiff, Nat.reduceEqDiff, Nat.reduceBEq, ↓reduceIte, reduceCtorEq, Int.reduceEq, Int.reduceLE, Int.reduceLT, Int.reduceAdd, Int.reduceSub, Int.reduceNeg, Int.reduceToNat, Int.reduceNe, Nat.reducePow, Nat.reduceShiftRight, Nat.reduceMod, mc_ref04_right, Tm.pv, *])
    refine c_loopW 134213824 (by kernel_rfl) (fun j f H m => ∃ i : Nat, j = ls.length - i ∧ i ≤ ls.length ∧ f 7 = .sc (.int .i64 i) ∧ (ls.take i).all (Lv.right np) = true) _ ⟨0, rfl, cE1, cE1, rfl⟩ ?_
    rintro _ f H m ⟨i, rfl, hi, e7, hall⟩
    by_cases hlt : i < ls.length
    · have eg : ls[i]? = some ls[i] := List.getElem?_eq_getElem hlt
      have ht := all_right_take np ls i hlt
      have hq := all_right_false np ls i hlt
      clear ih
      repeat' (first | ((with_reducible first | refine wA (by omega) ?_ | refine wB (by omega) ?_ | refine wC (by omega) ?_ | refine wD (by omega) ?_ | refine wE ?_ ?_ | refine wF ?_ ?_ | refine wG ?_ ?_ | refine wH ?_ ?_ | refine wI ?_ ?_ | refine wJ ?_ ?_ | refine wK ?_ ?_ | refine wL ?_ ?_) <;> intro _) | (((with_reducible refine call_id ?_); (first | (refine call_pure (ref_Right_p ls[i] np) ?_)))) | simp (maxSteps := 1000000) (disch := omega) only [go_sem, Nat.reduceAdd, Nat.reduceMul, Nat.reduceSub, Nat.reduceLeDiff, Nat.reduceEqDiff, Nat.reduceBEq, ↓reduceIte, reduceCtorEq, Int.reduceEq, Int.reduceLE, Int.reduceLT, Int.reduceAdd, Int.reduceSub, Int.reduceNeg, Int.reduceToNat, Int.reduceNe, Nat.reducePow, Nat.reduceShiftRight, Nat.reduceMod, Tm.pv, *])
      · rename_i h
        have hff := formed_levels np k kind n s ls args (hq h)
        clear hq ht
        refine fin_tmp (.inr rfl) ?_
        simp [upd, hff]
      · rename_i h
        refine Nx.mk (ls.length - (i + 1)) cE1 ⟨i + 1, cE1, cE1, cE1, by rw [ht, hall, h]; rfl⟩
    · obtain rfl : i = ls.length := by omega
      rw [List.take_length] at hall
      have hall' := Kept.mk hall
      clear hall
      have hal := hall'.out
      have hh : ls.length = 1 → headR np ls = true := fun h => by
        match ls, h, hal with
        | [l], _, h => simpa [headR] using h
      clear hal
      by_cases k1 : kind = 1
      · subst k1
        clear ih hh
        repeat' (first | ((with_reducible first | refine wA (by omega) ?_ | refine wB (by omega) ?_ | refine wC (by omega) ?_ | refine wD (by omega) ?_ | refine wE ?_ ?_ | refine wF ?_ ?_ | refine wG ?_ ?_ | refine wH ?_ ?_ | refine wI ?_ ?_ | refine wJ ?_ ?_ | refine wK ?_ ?_ | refine wL ?_ ?_) <;> intro _) | simp (maxSteps := 1000000) (disch := omega) only [go_sem, Nat.reduceAdd, Nat.reduceMul, Nat.reduceSub, Nat.reduceLeDiff, Nat.reduceEqDiff, Nat.reduceBEq, ↓reduceIte, reduceCtorEq, Int.reduceEq, Int.reduceLE, Int.reduceLT, Int.reduceAdd, Int.reduceSub, Int.reduceNeg, Int.reduceToNat, Int.reduceNe, Nat.reducePow, Nat.reduceShiftRight, Nat.reduceMod, Tm.pv, strBin, fold_noS, *])
        all_goals (try (refine fin_tmp (.inr rfl) ?_; simp [upd, Tm.formed, hasB, constB, *] <;> omega))
        refine c_rounds 1 ?_
        repeat' (first | ((with_reducible first | refine wA (by omega) ?_ | refine wB (by omega) ?_ | refine wC (by omega) ?_ | refine wD (by omega) ?_ | refine wE ?_ ?_ | refine wF ?_ ?_ | refine wG ?_ ?_ | refine wH ?_ ?_ | refine wI ?_ ?_ | refine wJ ?_ ?_ | refine wK ?_ ?_ | refine wL ?_ ?_) <;> intro _) | simp (maxSteps := 1000000) (disch := omega) only [go_sem, Nat.reduceAdd, Nat.reduceMul, Nat.reduceSub, Nat.reduceLeDiff, Nat.reduceEqDiff, Nat.reduceBEq, ↓reduceIte, reduceCtorEq, Int.reduceEq, Int.reduceLE, Int.reduceLT, Int.reduceAdd, Int.reduceSub, Int.reduceNeg, Int.reduceToNat, Int.reduceNe, Nat.reducePow, Nat.reduceShiftRight, Nat.reduceMod, rounds_next, *])
        refine fin_tmp (.inr rfl) ?_
        simp [upd, Tm.formed, hasB, constB, *]
        omega
      by_cases k2 : kind = 2
      · subst k2
        clear ih
        repeat' (first | ((with_reducible first | refine wA (by omega) ?_ | refine wB (by omega) ?_ | refine wC (by omega) ?_ | refine wD (by omega) ?_ | refine wE ?_ ?_ | refine wF ?_ ?_ | refine wG ?_ ?_ | refine wH ?_ ?_ | refine wI ?_ ?_ | refine wJ ?_ ?_ | refine wK ?_ ?_ | refine wL ?_ ?_) <;> intro _) | simp (maxSteps := 1000000) (disch := omega) only [go_sem, Nat.reduceAdd, Nat.reduceMul, Nat.reduceSub, Nat.reduceLeDiff, Nat.reduceEqDiff, Nat.reduceBEq, ↓reduceIte, reduceCtorEq, Int.reduceEq, Int.reduceLE, Int.reduceLT, Int.reduceAdd, Int.reduceSub, Int.reduceNeg, Int.reduceToNat, Int.reduceNe, Nat.reducePow, Nat.reduceShiftRight, Nat.reduceMod, Tm.pv, strBin, fold_noS, *])
        all_goals (try (refine fin_tmp (.inr rfl) ?_; simp [upd, Tm.formed, hasB, constB, *] <;> omega))
        have hh' := hh (by omega)
        refine c_rounds 1 ?_
        repeat' (first | ((with_reducible first | refine wA (by omega) ?_ | refine wB (by omega) ?_ | refine wC (by omega) ?_ | refine wD (by omega) ?_ | refine wE ?_ ?_ | refine wF ?_ ?_ | refine wG ?_ ?_ | refine wH ?_ ?_ | refine wI ?_ ?_ | refine wJ ?_ ?_ | refine wK ?_ ?_ | refine wL ?_ ?_) <;> intro _) | simp (maxSteps := 1000000) (disch := omega) only [go_sem, Nat.reduceAdd, Nat.reduceMul, Nat.reduceSub, Nat.reduceLeDiff, Nat.reduceEqDiff, Nat.reduceBEq, ↓reduceIte, reduceCtorEq, Int.reduceEq, Int.reduceLE, Int.reduceLT, Int.reduceAdd, Int.reduceSub, Int.reduceNeg, Int.reduceToNat, Int.reduceNe, Nat.reducePow, Nat.reduceShiftRight, Nat.reduceMod, rounds_next, *])
        refine fin_tmp (.inr rfl) ?_
        simp [upd, Tm.formed, hasB, constB, *] <;> omega
      clear hh
      by_cases k3 : kind = 3
      · subst k3
        clear ih
        have hal := hall'.out
        repeat' (first | ((with_reducible first | refine wA (by omega) ?_ | refine wB (by omega) ?_ | refine wC (by omega) ?_ | refine wD (by omega) ?_ | refine wE ?_ ?_ | refine wF ?_ ?_ | refine wG ?_ ?_ | refine wH ?_ ?_ | refine wI ?_ ?_ | refine wJ ?_ ?_ | refine wK ?_ ?_ | refine wL ?_ ?_) <;> intro _) | (((with_reducible refine call_id ?_); (first | (refine call_pure (ref01_Right_p s) ?_)))) | simp (maxSteps := 1000000) (disch := omega) only [go_sem, Nat.reduceAdd, Nat.reduceMul, Nat.reduceSub, Nat.reduceLeDiff, Nat.reduceEqDiff, Nat.reduceBEq, ↓reduceIte, reduceCtorEq, Int.reduceEq, Int.reduceLE, Int.reduceLT, Int.reduceAdd, Int.reduceSub, Int.reduceNeg, Int.reduceToNat, Int.reduceNe, Nat.reducePow, Nat.reduceShiftRight, Nat.reduceMod, Tm.pv, strBin, fold_noS, *])
        all_goals (try (refine fin_tmp (.inr rfl) ?_; simp [upd, Tm.formed, hasB, constB, *] <;> omega))
        refine c_rounds 1 ?_
        repeat' (first | ((with_reducible first | refine wA (by omega) ?_ | refine wB (by omega) ?_ | refine wC (by omega) ?_ | refine wD (by omega) ?_ | refine wE ?_ ?_ | refine wF ?_ ?_ | refine wG ?_ ?_ | refine wH ?_ ?_ | refine wI ?_ ?_ | refine wJ ?_ ?_ | refine wK ?_ ?_ | refine wL ?_ ?_) <;> intro _) | simp (maxSteps := 1000000) (disch := omega) only [go_sem, Nat.reduceAdd, Nat.reduceMul, Nat.reduceSub, Nat.reduceLeDiff, Nat.reduceEqDiff, Nat.reduceBEq, ↓reduceIte, reduceCtorEq, Int.reduceEq, Int.reduceLE, Int.reduceLT, Int.reduceAdd, Int.reduceSub, Int.reduceNeg, Int.reduceToNat, Int.reduceNe, Nat.reducePow, Nat.reduceShiftRight, Nat.reduceMod, rounds_next, *])
        refine fin_tmp (.inr rfl) ?_
        simp [upd, Tm.formed, hasB, constB, *] <;> omega
      by_cases k4 : kind = 4
      · subst k4
        have c0 : PPure Try.prog F.ref04_binds [.sc (.int .i64 4), .sc (.int .i64 0)] (.sc (.bool false)) := by simpa using binds_p 4 0 (by omega)
        have c1 : PPure Try.prog F.ref04_binds [.sc (.int .i64 4), .sc (.int .i64 1)] (.sc (.bool false)) := by simpa using binds_p 4 1 (by omega)
        by_cases hl2 : args.length = 2
        · match args, hl2, hf, h1 with
          | [x, y], _, hf, h1 =>
            have := size_pos x
            have := size_pos y
            simp only [sizeL] at hf h1
            have i0 := ih x k (by omega) h0 (by omega)
            have i1 := ih y (k + 0) (by omega) (by omega) (by omega)
            simp only [Int.add_zero] at i1
            clear ih
            repeat' (first | ((with_reducible first | refine wA (by omega) ?_ | refine wB (by omega) ?_ | refine wC (by omega) ?_ | refine wD (by omega) ?_ | refine wE ?_ ?_ | refine wF ?_ ?_ | refine wG ?_ ?_ | refine wH ?_ ?_ | refine wI ?_ ?_ | refine wJ ?_ ?_ | refine wK ?_ ?_ | refine wL ?_ ?_) <;> intro _) | simp (maxSteps := 1000000) (disch := omega) only [go_sem, Nat.reduceAdd, Nat.reduceMul, Nat.reduceSub, Nat.reduceLeDiff, Nat.reduceEqDiff, Nat.reduceBEq, ↓reduceIte, reduceCtorEq, Int.reduceEq, Int.reduceLE, Int.reduceLT, Int.reduceAdd, Int.reduceSub, Int.reduceNeg, Int.reduceToNat, Int.reduceNe, Nat.reducePow, Nat.reduceShiftRight, Nat.reduceMod, Tm.pv, strBin, fold_noS, *])
            all_goals (try (refine fin_tmp (.inr rfl) ?_; simp [upd, Tm.formed, hasB, constB, *] <;> omega))
            refine c_rounds 3 ?_
            repeat' (first | ((with_reducible first | refine wA (by omega) ?_ | refine wB (by omega) ?_ | refine wC (by omega) ?_ | refine wD (by omega) ?_ | refine wE ?_ ?_ | refine wF ?_ ?_ | refine wG ?_ ?_ | refine wH ?_ ?_ | refine wI ?_ ?_ | refine wJ ?_ ?_ | refine wK ?_ ?_ | refine wL ?_ ?_) <;> intro _) | (((with_reducible refine call_id ?_); (first | (refine call_pure (c0) ?_) | (refine call_pure (c1) ?_) | (refine call_pure (i0) ?_) | (refine call_pure (i1) ?_)))) | simp (maxSteps := 1000000) (disch := omega) only [go_sem, Nat.reduceAdd, Nat.reduceMul, Nat.reduceSub, Nat.reduceLeDiff, Nat.reduceEqDiff, Nat.reduceBEq, ↓reduceIte, reduceCtorEq, Int.reduceEq, Int.reduceLE, Int.reduceLT, Int.reduceAdd, Int.reduceSub, Int.reduceNeg, Int.reduceToNat, Int.reduceNe, Nat.reducePow, Nat.reduceShiftRight, Nat.reduceMod, rounds_next, Tm.pv, *])
            all_goals (refine fin_tmp (.inr rfl) ?_; simp [upd, Tm.formed, formedA, deepB, hasB, constB, *]; try omega)
        · clear ih c0 c1
          repeat' (first | ((with_reducible first | refine wA (by omega) ?_ | refine wB (by omega) ?_ | refine wC (by omega) ?_ | refine wD (by omega) ?_ | refine wE ?_ ?_ | refine wF ?_ ?_ | refine wG ?_ ?_ | refine wH ?_ ?_ | refine wI ?_ ?_ | refine wJ ?_ ?_ | refine wK ?_ ?_ | refine wL ?_ ?_) <;> intro _) | simp (maxSteps := 1000000) (disch := omega) only [go_sem, Nat.reduceAdd, Nat.reduceMul, Nat.reduceSub, Nat.reduceLeDiff, Nat.reduceEqDiff, Nat.reduceBEq, ↓reduceIte, reduceCtorEq, Int.reduceEq, Int.reduceLE, Int.reduceLT, Int.reduceAdd, Int.reduceSub, Int.reduceNeg, Int.reduceToNat, Int.reduceNe, Nat.reducePow, Nat.reduceShiftRight, Nat.reduceMod, Tm.pv, strBin, fold_noS, *])
          all_goals (refine fin_tmp (.inr rfl) ?_; simp [upd, Tm.formed, hasB, constB, *] <;> omega)
      by_cases k5 : kind = 5
      · subst k5
        have c0 : PPure Try.prog F.ref04_binds [.sc (.int .i64 5), .sc (.int .i64 0)] (.sc (.bool false)) := by simpa using binds_p 5 0 (by omega)
        have c1 : PPure Try.prog F.ref04_binds [.sc (.int .i64 5), .sc (.int .i64 1)] (.sc (.bool true)) := by simpa using binds_p 5 1 (by omega)
        by_cases hl2 : args.length = 2
        · match args, hl2, hf, h1 with
          | [x, y], _, hf, h1 =>
            have := size_pos x
            have := size_pos y
            simp only [sizeL] at hf h1
            have i0 := ih x k (by omega) h0 (by omega)
            have i1 := ih y (k + 1) (by omega) (by omega) (by omega)
            clear ih
            repeat' (first | ((with_reducible first | refine wA (by omega) ?_ | refine wB (by omega) ?_ | refine wC (by omega) ?_ | refine wD (by omega) ?_ | refine wE ?_ ?_ | refine wF ?_ ?_ | refine wG ?_ ?_ | refine wH ?_ ?_ | refine wI ?_ ?_ | refine wJ ?_ ?_ | refine wK ?_ ?_ | refine wL ?_ ?_) <;> intro _) | simp (maxSteps := 1000000) (disch := omega) only [go_sem, Nat.reduceAdd, Nat.reduceMul, Nat.reduceSub, Nat.reduceLeDiff, Nat.reduceEqDiff, Nat.reduceBEq, ↓reduceIte, reduceCtorEq, Int.reduceEq, Int.reduceLE, Int.reduceLT, Int.reduceAdd, Int.reduceSub, Int.reduceNeg, Int.reduceToNat, Int.reduceNe, Nat.reducePow, Nat.reduceShiftRight, Nat.reduceMod, Tm.pv, strBin, fold_noS, *])
            all_goals (try (refine fin_tmp (.inr rfl) ?_; simp [upd, Tm.formed, hasB, constB, *] <;> omega))
            refine c_rounds 3 ?_
            repeat' (first | ((with_reducible first | refine wA (by omega) ?_ | refine wB (by omega) ?_ | refine wC (by omega) ?_ | refine wD (by omega) ?_ | refine wE ?_ ?_ | refine wF ?_ ?_ | refine wG ?_ ?_ | refine wH ?_ ?_ | refine wI ?_ ?_ | refine wJ ?_ ?_ | refine wK ?_ ?_ | refine wL ?_ ?_) <;> intro _) | (((with_reducible refine call_id ?_); (first | (refine call_pure (c0) ?_) | (refine call_pure (c1) ?_) | (refine call_pure (i0) ?_) | (refine call_pure (i1) ?_)))) | simp (maxSteps := 1000000) (disch := omega) only [go_sem, Nat.reduceAdd, Nat.reduceMul, Nat.reduceSub, Nat.reduceLeDiff, Nat.reduceEqDiff, Nat.reduceBEq, ↓reduceIte, reduceCtorEq, Int.reduceEq, Int.reduceLE, Int.reduceLT, Int.reduceAdd, Int.reduceSub, Int.reduceNeg, Int.reduceToNat, Int.reduceNe, Nat.reducePow, Nat.reduceShiftRight, Nat.reduceMod, rounds_next, Tm.pv, *])
            all_goals (refine fin_tmp (.inr rfl) ?_; simp [upd, Tm.formed, formedA, deepB, hasB, constB, *]; try omega)
        · clear ih c0 c1
          repeat' (first | ((with_reducible first | refine wA (by omega) ?_ | refine wB (by omega) ?_ | refine wC (by omega) ?_ | refine wD (by omega) ?_ | refine wE ?_ ?_ | refine wF ?_ ?_ | refine wG ?_ ?_ | refine wH ?_ ?_ | refine wI ?_ ?_ | refine wJ ?_ ?_ | refine wK ?_ ?_ | refine wL ?_ ?_) <;> intro _) | simp (maxSteps := 1000000) (disch := omega) only [go_sem, Nat.reduceAdd, Nat.reduceMul, Nat.reduceSub, Nat.reduceLeDiff, Nat.reduceEqDiff, Nat.reduceBEq, ↓reduceIte, reduceCtorEq, Int.reduceEq, Int.reduceLE, Int.reduceLT, Int.reduceAdd, Int.reduceSub, Int.reduceNeg, Int.reduceToNat, Int.reduceNe, Nat.reducePow, Nat.reduceShiftRight, Nat.reduceMod, Tm.pv, strBin, fold_noS, *])
          all_goals (refine fin_tmp (.inr rfl) ?_; simp [upd, Tm.formed, hasB, constB, *] <;> omega)
      by_cases k6 : kind = 6
      · subst k6
        have c0 : PPure Try.prog F.ref04_binds [.sc (.int .i64 6), .sc (.int .i64 0)] (.sc (.bool false)) := by simpa using binds_p 6 0 (by omega)
        have c1 : PPure Try.prog F.ref04_binds [.sc (.int .i64 6), .sc (.int .i64 1)] (.sc (.bool true)) := by simpa using binds_p 6 1 (by omega)
        by_cases hl2 : args.length = 2
        · match args, hl2, hf, h1 with
          | [x, y], _, hf, h1 =>
            have := size_pos x
            have := size_pos y
            simp only [sizeL] at hf h1
            have i0 := ih x k (by omega) h0 (by omega)
            have i1 := ih y (k + 1) (by omega) (by omega) (by omega)
            clear ih
            repeat' (first | ((with_reducible first | refine wA (by omega) ?_ | refine wB (by omega) ?_ | refine wC (by omega) ?_ | refine wD (by omega) ?_ | refine wE ?_ ?_ | refine wF ?_ ?_ | refine wG ?_ ?_ | refine wH ?_ ?_ | refine wI ?_ ?_ | refine wJ ?_ ?_ | refine wK ?_ ?_ | refine wL ?_ ?_) <;> intro _) | simp (maxSteps := 1000000) (disch := omega) only [go_sem, Nat.reduceAdd, Nat.reduceMul, Nat.reduceSub, Nat.reduceLeDiff, Nat.reduceEqDiff, Nat.reduceBEq, ↓reduceIte, reduceCtorEq, Int.reduceEq, Int.reduceLE, Int.reduceLT, Int.reduceAdd, Int.reduceSub, Int.reduceNeg, Int.reduceToNat, Int.reduceNe, Nat.reducePow, Nat.reduceShiftRight, Nat.reduceMod, Tm.pv, strBin, fold_noS, *])
            all_goals (try (refine fin_tmp (.inr rfl) ?_; simp [upd, Tm.formed, hasB, constB, *] <;> omega))
            refine c_rounds 3 ?_
            repeat' (first | ((with_reducible first | refine wA (by omega) ?_ | refine wB (by omega) ?_ | refine wC (by omega) ?_ | refine wD (by omega) ?_ | refine wE ?_ ?_ | refine wF ?_ ?_ | refine wG ?_ ?_ | refine wH ?_ ?_ | refine wI ?_ ?_ | refine wJ ?_ ?_ | refine wK ?_ ?_ | refine wL ?_ ?_) <;> intro _) | (((with_reducible refine call_id ?_); (first | (refine call_pure (c0) ?_) | (refine call_pure (c1) ?_) | (refine call_pure (i0) ?_) | (refine call_pure (i1) ?_)))) | simp (maxSteps := 1000000) (disch := omega) only [go_sem, Nat.reduceAdd, Nat.reduceMul, Nat.reduceSub, Nat.reduceLeDiff, Nat.reduceEqDiff, Nat.reduceBEq, ↓reduceIte, reduceCtorEq, Int.reduceEq, Int.reduceLE, Int.reduceLT, Int.reduceAdd, Int.reduceSub, Int.reduceNeg, Int.reduceToNat, Int.reduceNe, Nat.reducePow, Nat.reduceShiftRight, Nat.reduceMod, rounds_next, Tm.pv, *])
            all_goals (refine fin_tmp (.inr rfl) ?_; simp [upd, Tm.formed, formedA, deepB, hasB, constB, *]; try omega)
        · clear ih c0 c1
          repeat' (first | ((with_reducible first | refine wA (by omega) ?_ | refine wB (by omega) ?_ | refine wC (by omega) ?_ | refine wD (by omega) ?_ | refine wE ?_ ?_ | refine wF ?_ ?_ | refine wG ?_ ?_ | refine wH ?_ ?_ | refine wI ?_ ?_ | refine wJ ?_ ?_ | refine wK ?_ ?_ | refine wL ?_ ?_) <;> intro _) | simp (maxSteps := 1000000) (disch := omega) only [go_sem, Nat.reduceAdd, Nat.reduceMul, Nat.reduceSub, Nat.reduceLeDiff, Nat.reduceEqDiff, Nat.reduceBEq, ↓reduceIte, reduceCtorEq, Int.reduceEq, Int.reduceLE, Int.reduceLT, Int.reduceAdd, Int.reduceSub, Int.reduceNeg, Int.reduceToNat, Int.reduceNe, Nat.reducePow, Nat.reduceShiftRight, Nat.reduceMod, Tm.pv, strBin, fold_noS, *])
          all_goals (refine fin_tmp (.inr rfl) ?_; simp [upd, Tm.formed, hasB, constB, *] <;> omega)
      by_cases k7 : kind = 7
      · subst k7
        have c0 : PPure Try.prog F.ref04_binds [.sc (.int .i64 7), .sc (.int .i64 0)] (.sc (.bool false)) := by simpa using binds_p 7 0 (by omega)
        have c1 : PPure Try.prog F.ref04_binds [.sc (.int .i64 7), .sc (.int .i64 1)] (.sc (.bool false)) := by simpa using binds_p 7 1 (by omega)
        have c2 : PPure Try.prog F.ref04_binds [.sc (.int .i64 7), .sc (.int .i64 2)] (.sc (.bool true)) := by simpa using binds_p 7 2 (by omega)
        by_cases hl2 : args.length = 3
        · match args, hl2, hf, h1 with
          | [x, y, z], _, hf, h1 =>
            have := size_pos x
            have := size_pos y
            have := size_pos z
            simp only [sizeL] at hf h1
            have i0 := ih x k (by omega) h0 (by omega)
            have i1 := ih y k (by omega) h0 (by omega)
            have i2 := ih z (k + 1) (by omega) (by omega) (by omega)
            clear ih
            repeat' (first | ((with_reducible first | refine wA (by omega) ?_ | refine wB (by omega) ?_ | refine wC (by omega) ?_ | refine wD (by omega) ?_ | refine wE ?_ ?_ | refine wF ?_ ?_ | refine wG ?_ ?_ | refine wH ?_ ?_ | refine wI ?_ ?_ | refine wJ ?_ ?_ | refine wK ?_ ?_ | refine wL ?_ ?_) <;> intro _) | simp (maxSteps := 1000000) (disch := omega) only [go_sem, Nat.reduceAdd, Nat.reduceMul, Nat.reduceSub, Nat.reduceLeDiff, Nat.reduceEqDiff, Nat.reduceBEq, ↓reduceIte, reduceCtorEq, Int.reduceEq, Int.reduceLE, Int.reduceLT, Int.reduceAdd, Int.reduceSub, Int.reduceNeg, Int.reduceToNat, Int.reduceNe, Nat.reducePow, Nat.reduceShiftRight, Nat.reduceMod, Tm.pv, strBin, fold_noS, *])
            all_goals (try (refine fin_tmp (.inr rfl) ?_; simp [upd, Tm.formed, hasB, constB, *] <;> omega))
            refine c_rounds 4 ?_
            repeat' (first | ((with_reducible first | refine wA (by omega) ?_ | refine wB (by omega) ?_ | refine wC (by omega) ?_ | refine wD (by omega) ?_ | refine wE ?_ ?_ | refine wF ?_ ?_ | refine wG ?_ ?_ | refine wH ?_ ?_ | refine wI ?_ ?_ | refine wJ ?_ ?_ | refine wK ?_ ?_ | refine wL ?_ ?_) <;> intro _) | (((with_reducible refine call_id ?_); (first | (refine call_pure (c0) ?_) | (refine call_pure (c1) ?_) | (refine call_pure (c2) ?_) | (refine call_pure (i0) ?_) | (refine call_pure (i1) ?_) | (refine call_pure (i2) ?_)))) | simp (maxSteps := 1000000) (disch := omega) only [go_sem, Nat.reduceAdd, Nat.reduceMul, Nat.reduceSub, Nat.reduceLeDiff, Nat.reduceEqDiff, Nat.reduceBEq, ↓reduceIte, reduceCtorEq, Int.reduceEq, Int.reduceLE, Int.reduceLT, Int.reduceAdd, Int.reduceSub, Int.reduceNeg, Int.reduceToNat, Int.reduceNe, Nat.reducePow, Nat.reduceShiftRight, Nat.reduceMod, rounds_next, Tm.pv, *])
            all_goals (refine fin_tmp (.inr rfl) ?_; simp [upd, Tm.formed, formedA, deepB, hasB, constB, *]; try omega)
        · clear ih c0 c1 c2
          repeat' (first | ((with_reducible first | refine wA (by omega) ?_ | refine wB (by omega) ?_ | refine wC (by omega) ?_ | refine wD (by omega) ?_ | refine wE ?_ ?_ | refine wF ?_ ?_ | refine wG ?_ ?_ | refine wH ?_ ?_ | refine wI ?_ ?_ | refine wJ ?_ ?_ | refine wK ?_ ?_ | refine wL ?_ ?_) <;> intro _) | simp (maxSteps := 1000000) (disch := omega) only [go_sem, Nat.reduceAdd, Nat.reduceMul, Nat.reduceSub, Nat.reduceLeDiff, Nat.reduceEqDiff, Nat.reduceBEq, ↓reduceIte, reduceCtorEq, Int.reduceEq, Int.reduceLE, Int.reduceLT, Int.reduceAdd, Int.reduceSub, Int.reduceNeg, Int.reduceToNat, Int.reduceNe, Nat.reducePow, Nat.reduceShiftRight, Nat.reduceMod, Tm.pv, strBin, fold_noS, *])
          all_goals (refine fin_tmp (.inr rfl) ?_; simp [upd, Tm.formed, hasB, constB, *] <;> omega)
      clear ih
      repeat' (first | ((with_reducible first | refine wA (by omega) ?_ | refine wB (by omega) ?_ | refine wC (by omega) ?_ | refine wD (by omega) ?_ | refine wE ?_ ?_ | refine wF ?_ ?_ | refine wG ?_ ?_ | refine wH ?_ ?_ | refine wI ?_ ?_ | refine wJ ?_ ?_ | refine wK ?_ ?_ | refine wL ?_ ?_) <;> intro _) | simp (maxSteps := 1000000) (disch := omega) only [go_sem, Nat.reduceAdd, Nat.reduceMul, Nat.reduceSub, Nat.reduceLeDiff, Nat.reduceEqDiff, Nat.reduceBEq, ↓reduceIte, reduceCtorEq, Int.reduceEq, Int.reduceLE, Int.reduceLT, Int.reduceAdd, Int.reduceSub, Int.reduceNeg, Int.reduceToNat, Int.reduceNe, Nat.reducePow, Nat.reduceShiftRight, Nat.reduceMod, Tm.pv, strBin, fold_noS, *])
      all_goals (refine fin_tmp (.inr rfl) ?_; simp [upd, Tm.formed, hasB, constB, *] <;> omega)
end
section
set_option maxRecDepth 20000
attribute [local go_sem] pv_len pv_take Nat.add_assoc tm_len tm_take
def Tm.right (np bound : Int) (t : Tm) : Bool := decide (0 ≤ bound) && (decide (0 ≤ np) && (decide (np ≤ 4) && (decide (t.nodes ≤ 2000) && t.formed np (min bound 1125899906842624))))
theorem ref04_Right_p (t : Tm) (np bound : Int) : PPure Try.prog F.ref04_Right [.agg t.pv, .sc (.int .i64 np), .sc (.int .i64 bound)] (.sc (.bool (t.right np bound))) := by
  refine pure_by is_ref04_Right (by simp) rfl fun hb nx => ?_
  have hs := size_nodes t
  have c1 := ref_Nodes_p 2000 (by omega) t.size t (Nat.le_refl _)
  by_cases hn : t.nodes ≤ 2000
  · by_cases h0 : 0 ≤ bound
    · have c2 := ref04_right_p np t.size t (min bound 1125899906842624) (Nat.le_refl _) (by omega) (by omega)
      have e1 : min t.nodes 2001 = t.nodes := by omega
      repeat' (first | ((with_reducible first | refine wA (by omega) ?_ | refine wB (by omega) ?_ | refine wC (by omega) ?_ | refine wD (by omega) ?_ | refine wE ?_ ?_ | refine wF ?_ ?_ | refine wG ?_ ?_ | refine wH ?_ ?_ | refine wI ?_ ?_ | refine wJ ?_ ?_ | refine wK ?_ ?_ | refine wL ?_ ?_) <;> intro _) | (((with_reducible refine call_id ?_); (first | (refine call_pure (c1) ?_) | (refine call_pure (c2) ?_)))) | simp (maxSteps := 1000000) (disch := omega) only [go_sem, Nat.reduceAdd, Nat.reduceMul, Nat.reduceSub, Nat.reduceLeDiff, Nat.reduceEqDiff, Nat.reduceBEq, ↓reduceIte, reduceCtorEq, Int.reduceEq, Int.reduceLE, Int.reduceLT, Int.reduceAdd, Int.reduceSub, Int.reduceNeg, Int.reduceToNat, Int.reduceNe, Nat.reducePow, Nat.reduceShiftRight, Nat.reduceMod, mc_ref04_Right, *])
      all_goals (refine fin_tmp (.inr rfl) ?_; simp [upd, Tm.right, *]; try omega)
    · repeat' (first | ((with_reducible first | refine wA (by omega) ?_ | refine wB (by omega) ?_ | refine wC (by omega) ?_ | refine wD (by omega) ?_ | refine wE ?_ ?_ | refine wF ?_ ?_ | refine wG ?_ ?_ | refine wH ?_ ?_ | refine wI ?_ ?_ | refine wJ ?_ ?_ | refine wK ?_ ?_ | refine wL ?_ ?_) <;> intro _) | (((with_reducible refine call_id ?_); (first | (refine call_pure (c1) ?_)))) | simp (maxSteps := 1000000) (disch := omega) only [go_sem, Nat.reduceAdd, Nat.reduceMul, Nat.reduceSub, Nat.reduceLeDiff, Nat.reduceEqDiff, Nat.reduceBEq, ↓reduceIte, reduceCtorEq, Int.reduceEq, Int.reduceLE, Int.reduceLT, Int.reduceAdd, Int.reduceSub, Int.reduceNeg, Int.reduceToNat, Int.reduceNe, Nat.reducePow, Nat.reduceShiftRight, Nat.reduceMod, mc_ref04_Right, *])
      all_goals (refine fin_tmp (.inr rfl) ?_; simp [upd, Tm.right, *]; try omega)
  · have e1 : min t.nodes 2001 = 2001 := by omega
    repeat' (first | ((with_reducible first | refine wA (by omega) ?_ | refine wB (by omega) ?_ | refine wC (by omega) ?_ | refine wD (by omega) ?_ | refine wE ?_ ?_ | refine wF ?_ ?_ | refine wG ?_ ?_ | refine wH ?_ ?_ | refine wI ?_ ?_ | refine wJ ?_ ?_ | refine wK ?_ ?_ | refine wL ?_ ?_) <;> intro _) | (((with_reducible refine call_id ?_); (first | (refine call_pure (c1) ?_)))) | simp (maxSteps := 1000000) (disch := omega) only [go_sem, Nat.reduceAdd, Nat.reduceMul, Nat.reduceSub, Nat.reduceLeDiff, Nat.reduceEqDiff, Nat.reduceBEq, ↓reduceIte, reduceCtorEq, Int.reduceEq, Int.reduceLE, Int.reduceLT, Int.reduceAdd, Int.reduceSub, Int.reduceNeg, Int.reduceToNat, Int.reduceNe, Nat.reducePow, Nat.reduceShiftRight, Nat.reduceMod, mc_ref04_Right, *])
    all_goals (refine fin_tmp (.inr rfl) ?_; simp [upd, Tm.right, *]; try omega)
end
section
set_option maxRecDepth 20000
attribute [local go_sem] pv_len pv_take Nat.add_assoc tm_len tm_take
mutual
def Tm.loose : Tm → Int
  | .mk kind n _ _ args => if kind = 1 then n + 1 else looseA kind args.length 0 args
def looseA : Int → Nat → Nat → List Tm → Int
  | _, _, _, [] => 0
  | kind, len, i, x :: r => max (x.loose - deepB kind len i) (looseA kind len (i + 1) r)
end
theorem formed_cases (np k kind n : Int) (s : ByteArray) (ls : List Lv) (args : List Tm) (h : (Tm.mk kind n s ls args).formed np k = true) :
    (kind = 1 ∧ 0 ≤ n ∧ n < k ∧ args = []) ∨ ((kind = 2 ∨ kind = 3) ∧ args = []) ∨ ((kind = 4 ∨ kind = 5 ∨ kind = 6) ∧ args.length = 2 ∧ formedA np k kind args.length 0 args = true) ∨ (kind = 7 ∧ args.length = 3 ∧ formedA np k kind args.length 0 args = true) := by
  have hn : ∀ a b, hasB n s ls args a b 0 = true → args = [] := fun a b h => by
    simp only [hasB, Bool.and_eq_true, decide_eq_true_eq] at h
    exact List.eq_nil_of_length_eq_zero (by omega)
  have h2 : ∀ a b, hasB n s ls args a b 2 = true → args.length = 2 := fun a b h => by
    simp only [hasB, Bool.and_eq_true, decide_eq_true_eq] at h
    omega
  have h3 : ∀ a b, hasB n s ls args a b 3 = true → args.length = 3 := fun a b h => by
    simp only [hasB, Bool.and_eq_true, decide_eq_true_eq] at h
    omega
  simp only [Tm.formed] at h
  split at h
  · simp only [Bool.and_eq_true, decide_eq_true_eq] at h
    exact .inl ⟨by assumption, h.1, h.2.1, hn _ _ h.2.2⟩
  split at h
  · simp only [Bool.and_eq_true] at h
    exact .inr (.inl ⟨.inl (by assumption), by
      have := h.1
      simp only [hasB, Bool.and_eq_true, decide_eq_true_eq] at this
      exact List.eq_nil_of_length_eq_zero (by omega)⟩)
  split at h
  · simp only [constB, Bool.and_eq_true, decide_eq_true_eq] at h
    exact .inr (.inl ⟨.inr (by assumption), List.eq_nil_of_length_eq_zero h.2.1⟩)
  split at h
  · simp only [Bool.and_eq_true] at h
    exact .inr (.inr (.inl ⟨by assumption, h2 _ _ h.1, h.2⟩))
  split at h
  · simp only [Bool.and_eq_true] at h
    exact .inr (.inr (.inr ⟨by assumption, h3 _ _ h.1, h.2⟩))
  · cases h
theorem formed_args (np k kind n : Int) (s : ByteArray) (ls : List Lv) (args : List Tm) (h : (Tm.mk kind n s ls args).formed np k = true) : formedA np k kind args.length 0 args = true := by
  rcases formed_cases np k kind n s ls args h with ⟨_, _, _, rfl⟩ | ⟨_, rfl⟩ | ⟨_, _, h⟩ | ⟨_, _, h⟩
  · rfl
  · rfl
  · exact h
  · exact h
theorem formedA_mem (np k kind : Int) (len : Nat) : ∀ (xs : List Tm) (i j : Nat) (h : j < xs.length), formedA np k kind len i xs = true → xs[j].formed np (k + deepB kind len (i + j)) = true
  | x :: r, i, 0, h, hf => by simp only [formedA, Bool.and_eq_true] at hf; exact hf.1
  | x :: r, i, j + 1, h, hf => by
    simp only [formedA, Bool.and_eq_true] at hf
    have := formedA_mem np k kind len r (i + 1) j (by simpa using h) hf.2
    rw [List.getElem_cons_succ, show i + (j + 1) = i + 1 + j by omega]
    exact this
mutual
theorem loose_bd (np : Int) : ∀ (t : Tm) (k : Int), 0 ≤ k → t.formed np k = true → 0 ≤ t.loose ∧ t.loose ≤ k
  | .mk kind n s ls args, k, h0, h => by
    have hA := formed_args np k kind n s ls args h
    simp only [Tm.loose]
    split
    · rcases formed_cases np k kind n s ls args h with h | h | h | h <;> omega
    · exact looseA_bd np args kind args.length 0 k h0 hA
theorem looseA_bd (np : Int) : ∀ (xs : List Tm) (kind : Int) (len i : Nat) (k : Int), 0 ≤ k → formedA np k kind len i xs = true → 0 ≤ looseA kind len i xs ∧ looseA kind len i xs ≤ k
  | [], _, _, _, k, h0, _ => by simp [looseA, h0]
  | x :: r, kind, len, i, k, h0, h => by
    simp only [formedA, Bool.and_eq_true] at h
    have hd := deep_bd kind len i
    have h1 := loose_bd np x (k + deepB kind len i) (by omega) h.1
    have h2 := looseA_bd np r kind len (i + 1) k h0 h.2
    simp only [looseA]
    omega
end
def looseR (k : Int) (t : Tm) : Int := max (t.loose - k) 0
set_option maxHeartbeats 8000000 in
theorem ref04_loose_p (np : Int) : ∀ (fuel : Nat) (t : Tm) (k q : Int), t.size ≤ fuel → 0 ≤ k → k + t.size ≤ 2 ^ 60 → 0 ≤ q → q + t.size ≤ 2 ^ 60 → t.formed np k = true → PPure Try.prog F.ref04_loose [.agg t.pv, .sc (.int .i64 q)] (.sc (.int .i64 (looseR q t))) := by
  intro fuel
  induction fuel with
  | zero => intro t k q h; have := size_pos t; omega
  | succ fuel ih =>
    intro t k q hf h0 h1 hq0 hq1 hfm
    cases t with
    | mk kind n s ls args =>
    simp only [Tm.size] at hf h1 hq1
    have hc := formed_cases np k kind n s ls args hfm
    have hA := Kept.mk (formed_args np k kind n s ls args hfm)
    have hAb := looseA_bd np args kind args.length 0 k h0 hA.out
    refine pure_by is_ref04_loose (by simp) rfl fun hb nx => ?_
    have hb0 : args.length ≤ 9223372036854775807 := by simp [Tm.pv, bndL, PV.bnd] at hb; exact hb.2.1
    by_cases k1 : kind = 1
    · subst k1
      have hn : 0 ≤ n ∧ n < k := by rcases hc with h | h | h | h <;> omega
      clear hc ih
      repeat' (first | ((with_reducible first | refine wA (by omega) ?_ | refine wB (by omega) ?_ | refine wC (by omega) ?_ | refine wD (by omega) ?_ | refine wE ?_ ?_ | refine wF ?_ ?_ | refine wG ?_ ?_ | refine wH ?_ ?_ | refine wI ?_ ?_ | refine wJ ?_ ?_ | refine wK ?_ ?_ | refine wL ?_ ?_) <;> intro _) | simp (maxSteps := 1000000) (disch := omega) only [go_sem, Nat.reduceAdd, Nat.reduceMul, Nat.reduceSub, Nat.reduceLeDiff, Nat.reduceEqDiff, Nat.reduceBEq, ↓reduceIte, reduceCtorEq, Int.reduceEq, Int.reduceLE, Int.reduceLT, Int.reduceAdd, Int.reduceSub, Int.reduceNeg, Int.reduceToNat, Int.reduceNe, Nat.reducePow, Nat.reduceShiftRight, Nat.reduceMod, mc_ref04_loose, Tm.pv, *])
      refine fin_tmp (.inr rfl) ?_
      simp [upd, Tm.loose, looseR, *]
      try omega
    have hdp : Kept (∀ i : Nat, i < args.length → deepB kind args.length i = if ((kind = 5 ∨ kind = 6) ∧ (i : Int) = 1) ∨ (kind = 7 ∧ (i : Int) = 2) then 1 else 0) := .mk fun i hi => by
      unfold deepB
      rcases hc with h | h | h | h
      · omega
      · rw [h.2] at hi; simp at hi
      · split <;> split <;> omega
      · split <;> split <;> omega
    clear hc
    repeat' (first | ((with_reducible first | refine wA (by omega) ?_ | refine wB (by omega) ?_ | refine wC (by omega) ?_ | refine wD (by omega) ?_ | refine wE ?_ ?_ | refine wF ?_ ?_ | refine wG ?_ ?_ | refine wH ?_ ?_ | refine wI ?_ ?_ | refine wJ ?_ ?_ | refine wK ?_ ?_ | refine wL ?_ ?_) <;> intro _) | simp (maxSteps := 1000000) (disch := omega) only [go_sem, Nat.reduceAdd, Nat.reduceMul, Nat.reduceSub, Nat.reduceLeDiff, Nat.reduceEqDiff, Nat.reduceBEq, ↓reduceIte, reduceCtorEq, Int.reduceEq, Int.reduceLE, Int.reduceLT, Int.reduceAdd, Int.reduceSub, Int.reduceNeg, Int.reduceToNat, Int.reduceNe, Nat.reducePow, Nat.reduceShiftRight, Nat.reduceMod, mc_ref04_loose, Tm.pv, *])
    refine c_loopW 1099511496928 (by kernel_rfl) (fun j f H m => ∃ (i : Nat) (v : Int), j = args.length - i ∧ i ≤ args.length ∧ f 6 = .sc (.int .i64 i) ∧ f 5 = .sc (.int .i64 v) ∧ 0 ≤ v ∧ v ≤ k ∧ Kept (max (looseA kind args.length 0 args - q) 0 = max v (looseA kind args.length i (args.drop i) - q))) _ ⟨0, 0, rfl, cE1, cE1, cE1, by omega, h0, Kept.mk (by rw [List.drop_zero]; omega)⟩ ?_
    rintro _ f H m ⟨i, v, rfl, hi, e6, e5, hv, hv2, hs⟩
    by_cases hlt : i < args.length
    · have eg : args[i]? = some args[i] := List.getElem?_eq_getElem hlt
      have hd := deep_bd kind args.length i
      have hfi := formedA_mem np k kind args.length args 0 i hlt hA.out
      rw [Nat.zero_add] at hfi
      have hst : Kept (looseA kind args.length i (args.drop i) = max (args[i].loose - deepB kind args.length i) (looseA kind args.length (i + 1) (args.drop (i + 1)))) := Kept.mk (by rw [List.drop_eq_getElem_cons hlt]; rfl)
      have hsz := sizeL_mem args i hlt
      have hlb := loose_bd np args[i] _ (by omega) hfi
      have hc3 := ih args[i] _ (q + deepB kind args.length i) (by omega) (by omega) (by omega) (by omega) (by omega) hfi
      have hc1 := binds_p kind i (by omega)
      have hdi := hdp.out i hlt
      have hfi' := Kept.mk hfi
      clear hfi ih
      by_cases hbd : ((kind = 5 ∨ kind = 6) ∧ (i : Int) = 1) ∨ (kind = 7 ∧ (i : Int) = 2)
      · rw [if_pos hbd] at hdi
        rw [hdi] at hc3 hlb hd
        rw [decide_eq_true hbd] at hc1
        have hst' := hst.out
        rw [hdi] at hst'
        have hst := Kept.mk hst'
        clear hst' hbd
        repeat' (first | ((with_reducible first | refine wA (by omega) ?_ | refine wB (by omega) ?_ | refine wC (by omega) ?_ | refine wD (by omega) ?_ | refine wE ?_ ?_ | refine wF ?_ ?_ | refine wG ?_ ?_ | refine wH ?_ ?_ | refine wI ?_ ?_ | refine wJ ?_ ?_ | refine wK ?_ ?_ | refine wL ?_ ?_) <;> intro _) | (((with_reducible refine call_id ?_); (first | (refine call_pure (hc1) ?_) | (refine call_pure (hc3) ?_)))) | simp (maxSteps := 1000000) (disch := omega) only [go_sem, Nat.reduceAdd, Nat.reduceMul, Nat.reduceSub, Nat.reduceLeDiff, Nat.reduceEqDiff, Nat.reduceBEq, ↓reduceIte, reduceCtorEq, Int.reduceEq, Int.reduceLE, Int.reduceLT, Int.reduceAdd, Int.reduceSub, Int.reduceNeg, Int.reduceToNat, Int.reduceNe, Nat.reducePow, Nat.reduceShiftRight, Nat.reduceMod, Tm.pv, *])
        exact Nx.mk (args.length - (i + 1)) cE1 ⟨i + 1, max v (looseR (q + 1) args[i]), cE1, cE1, cE1, cE1, by unfold looseR; omega, by unfold looseR; omega, Kept.mk (by rw [hs.out, hst.out]; unfold looseR; omega)⟩
      · rw [if_neg hbd] at hdi
        rw [hdi, Int.add_zero] at hc3 hlb
        rw [hdi] at hd
        rw [decide_eq_false hbd] at hc1
        have hst' := hst.out
        rw [hdi] at hst'
        have hst := Kept.mk hst'
        clear hst' hbd
        repeat' (first | ((with_reducible first | refine wA (by omega) ?_ | refine wB (by omega) ?_ | refine wC (by omega) ?_ | refine wD (by omega) ?_ | refine wE ?_ ?_ | refine wF ?_ ?_ | refine wG ?_ ?_ | refine wH ?_ ?_ | refine wI ?_ ?_ | refine wJ ?_ ?_ | refine wK ?_ ?_ | refine wL ?_ ?_) <;> intro _) | (((with_reducible refine call_id ?_); (first | (refine call_pure (hc1) ?_) | (refine call_pure (hc3) ?_)))) | simp (maxSteps := 1000000) (disch := omega) only [go_sem, Nat.reduceAdd, Nat.reduceMul, Nat.reduceSub, Nat.reduceLeDiff, Nat.reduceEqDiff, Nat.reduceBEq, ↓reduceIte, reduceCtorEq, Int.reduceEq, Int.reduceLE, Int.reduceLT, Int.reduceAdd, Int.reduceSub, Int.reduceNeg, Int.reduceToNat, Int.reduceNe, Nat.reducePow, Nat.reduceShiftRight, Nat.reduceMod, Tm.pv, *])
        exact Nx.mk (args.length - (i + 1)) cE1 ⟨i + 1, max v (looseR q args[i]), cE1, cE1, cE1, cE1, by unfold looseR; omega, by unfold looseR; omega, Kept.mk (by rw [hs.out, hst.out]; unfold looseR; omega)⟩
    · obtain rfl : i = args.length := by omega
      have h2 := hs.out
      rw [List.drop_length] at h2
      simp only [looseA] at h2
      repeat' (first | ((with_reducible first | refine wA (by omega) ?_ | refine wB (by omega) ?_ | refine wC (by omega) ?_ | refine wD (by omega) ?_ | refine wE ?_ ?_ | refine wF ?_ ?_ | refine wG ?_ ?_ | refine wH ?_ ?_ | refine wI ?_ ?_ | refine wJ ?_ ?_ | refine wK ?_ ?_ | refine wL ?_ ?_) <;> intro _) | simp (maxSteps := 1000000) (disch := omega) only [go_sem, Nat.reduceAdd, Nat.reduceMul, Nat.reduceSub, Nat.reduceLeDiff, Nat.reduceEqDiff, Nat.reduceBEq, ↓reduceIte, reduceCtorEq, Int.reduceEq, Int.reduceLE, Int.reduceLT, Int.reduceAdd, Int.reduceSub, Int.reduceNeg, Int.reduceToNat, Int.reduceNe, Nat.reducePow, Nat.reduceShiftRight, Nat.reduceMod, Tm.pv, *])
      refine fin_tmp (.inr rfl) ?_
      have h3 : max (looseA kind args.length 0 args - q) 0 = v := by omega
      simp [upd, Tm.loose, looseR, h3, k1, e5]
end
section
set_option maxRecDepth 20000
attribute [local go_sem] pv_len pv_take Nat.add_assoc tm_len tm_take
def sameB (s t : ByteArray) : Bool := s.toList == t.toList
theorem fold_sameB {s t : ByteArray} : (s.toList == t.toList) = sameB s t := nr rfl
mutual
def Tm.same : Tm → Tm → Bool
  | .mk k n s ls xs, .mk k' n' s' ls' ys => decide (k = k') && (decide (n = n') && (sameB s s' && (decide (ls.length = ls'.length) && (decide (xs.length = ys.length) && (sameL ls ls' && sameT xs ys)))))
def sameT : List Tm → List Tm → Bool
  | x :: xs, y :: ys => x.same y && sameT xs ys
  | _, _ => true
end
theorem sameT_take : ∀ (xs ys : List Tm) (i : Nat) (h : i < xs.length) (h2 : i < ys.length), sameT (xs.take (i + 1)) (ys.take (i + 1)) = (sameT (xs.take i) (ys.take i) && xs[i].same ys[i])
  | x :: xs, y :: ys, 0, h, h2 => by simp [sameT]
  | x :: xs, y :: ys, i + 1, h, h2 => by
    have := sameT_take xs ys i (by simpa using h) (by simpa using h2)
    simp only [List.take_succ_cons, sameT, List.getElem_cons_succ, this, Bool.and_assoc]
theorem sameT_false : ∀ (xs ys : List Tm) (i : Nat) (h : i < xs.length) (h2 : i < ys.length), xs[i].same ys[i] = false → sameT xs ys = false
  | x :: xs, y :: ys, 0, h, h2, e => by simp at e; simp [sameT, e]
  | x :: xs, y :: ys, i + 1, h, h2, e => by
    have := sameT_false xs ys i (by simpa using h) (by simpa using h2) (by simpa using e)
    simp [sameT, this]
set_option maxHeartbeats 8000000 in
theorem SameTerm_p : ∀ (fuel : Nat) (a b : Tm), a.size ≤ fuel → PPure Try.prog F.ref00_SameTerm [.agg a.pv, .agg b.pv] (.sc (.bool (a.same b))) := by
  intro fuel
  induction fuel with
  | zero => intro l _ h; have := size_pos l; omega
  | succ fuel ih =>
    intro a b hf
    cases a with
    | mk k n s ls xs =>
    cases b with
    | mk k' n' s' ls' ys =>
    simp only [Tm.size] at hf
    refine pure_by is_ref00_SameTerm (by simp) rfl fun hb nx => ?_
    have hb0 : (xs.length ≤ 9223372036854775807 ∧ ys.length ≤ 9223372036854775807) ∧ ls.length ≤ 9223372036854775807 ∧ ls'.length ≤ 9223372036854775807 := by simp [Tm.pv, bndL, PV.bnd] at hb; omega
    repeat' (first | ((with_reducible first | refine wA (by omega) ?_ | refine wB (by omega) ?_ | refine wC (by omega) ?_ | refine wD (by omega) ?_ | refine wE ?_ ?_ | refine wF ?_ ?_ | refine wG ?_ ?_ | refine wH ?_ ?_ | refine wI ?_ ?_ | refine wJ ?_ ?_ | refine wK ?_ ?_ | refine wL ?_ ?_) <;> intro _) | simp (maxSteps := 1000000) (disch := omega) only [go_sem, Nat.reduceAdd, Nat.reduceMul, Nat.reduceSub, Nat.reduceLeDiff, Nat.reduceEqDiff, Nat.reduceBEq, ↓reduceIte, reduceCtorEq, Int.reduceEq, Int.reduceLE, Int.reduceLT, Int.reduceAdd, Int.reduceSub, Int.reduceNeg, Int.reduceToNat, Int.reduceNe, Nat.reducePow, Nat.reduceShiftRight, Nat.reduceMod, mc_ref00_SameTerm, Tm.pv, strBin, fold_sameB, *])
    all_goals (try (refine fin_tmp (.inr rfl) ?_; (first | rfl | (simp (disch := omega) only [go_sem, Nat.reduceMul, Nat.reduceSub, Nat.reduceShiftRight, Nat.reduceMod, Nat.reduceEqDiff, Nat.reduceAdd, ↓reduceIte, Nat.reduceLeDiff, Tm.same, *]; done) | (simp [Tm.same, upd, *]; done) | (simp [Tm.same, upd, *]; omega))))
    refine c_loopW 9223354444668731440 (by kernel_rfl) (fun j f H m => ∃ i : Nat, j = ls.length - i ∧ i ≤ ls.length ∧ f 5 = .sc (.int .i64 i) ∧ sameL (ls.take i) (ls'.take i) = true) _ ⟨0, rfl, cE1, cE1, rfl⟩ ?_
    rintro _ f H m ⟨i, rfl, hi, e5, hs⟩
    by_cases hlt : i < ls.length
    · have hlt2 : i < ls'.length := by omega
      have eg : ls[i]? = some ls[i] := List.getElem?_eq_getElem hlt
      have eg2 : ls'[i]? = some ls'[i] := List.getElem?_eq_getElem hlt2
      have hn := nodesL_mem ls i hlt
      have ht := sameL_take ls ls' i hlt hlt2
      have hq := sameL_false ls ls' i hlt hlt2
      clear ih
      repeat' (first | ((with_reducible first | refine wA (by omega) ?_ | refine wB (by omega) ?_ | refine wC (by omega) ?_ | refine wD (by omega) ?_ | refine wE ?_ ?_ | refine wF ?_ ?_ | refine wG ?_ ?_ | refine wH ?_ ?_ | refine wI ?_ ?_ | refine wJ ?_ ?_ | refine wK ?_ ?_ | refine wL ?_ ?_) <;> intro _) | (((with_reducible refine call_id ?_); (first | (refine call_pure (SameLevel_p _ ls[i] ls'[i] (Nat.le_refl _)) ?_)))) | simp (maxSteps := 1000000) (disch := omega) only [go_sem, Nat.reduceAdd, Nat.reduceMul, Nat.reduceSub, Nat.reduceLeDiff, Nat.reduceEqDiff, Nat.reduceBEq, ↓reduceIte, reduceCtorEq, Int.reduceEq, Int.reduceLE, Int.reduceLT, Int.reduceAdd, Int.reduceSub, Int.reduceNeg, Int.reduceToNat, Int.reduceNe, Nat.reducePow, Nat.reduceShiftRight, Nat.reduceMod, Lv.pv, *])
      · rename_i h0
        rw [h0] at hq
        (refine fin_tmp (.inr rfl) ?_; (first | rfl | (simp (disch := omega) only [go_sem, Nat.reduceMul, Nat.reduceSub, Nat.reduceShiftRight, Nat.reduceMod, Nat.reduceEqDiff, Nat.reduceAdd, ↓reduceIte, Nat.reduceLeDiff, Tm.same, *]; done) | (simp [Tm.same, upd, *]; done) | (simp [Tm.same, upd, *]; omega)))
      · rename_i h0
        refine Nx.mk (ls.length - (i + 1)) cE1 ⟨i + 1, cE1, cE1, cE1, by rw [ht, hs, h0]; rfl⟩
    · obtain rfl : i = ls.length := by omega
      have e : ls'.take ls.length = ls' := List.take_of_length_le (by omega)
      rw [List.take_length, e] at hs
      repeat' (first | ((with_reducible first | refine wA (by omega) ?_ | refine wB (by omega) ?_ | refine wC (by omega) ?_ | refine wD (by omega) ?_ | refine wE ?_ ?_ | refine wF ?_ ?_ | refine wG ?_ ?_ | refine wH ?_ ?_ | refine wI ?_ ?_ | refine wJ ?_ ?_ | refine wK ?_ ?_ | refine wL ?_ ?_) <;> intro _) | simp (maxSteps := 1000000) (disch := omega) only [go_sem, Nat.reduceAdd, Nat.reduceMul, Nat.reduceSub, Nat.reduceLeDiff, Nat.reduceEqDiff, Nat.reduceBEq, ↓reduceIte, reduceCtorEq, Int.reduceEq, Int.reduceLE, Int.reduceLT, Int.reduceAdd, Int.reduceSub, Int.reduceNeg, Int.reduceToNat, Int.reduceNe, Nat.reducePow, Nat.reduceShiftRight, Nat.reduceMod, *])
      refine c_loopW 4835694055086479844048976 (by kernel_rfl) (fun j f H m => ∃ i : Nat, j = xs.length - i ∧ i ≤ xs.length ∧ f 6 = .sc (.int .i64 i) ∧ sameT (xs.take i) (ys.take i) = true) _ ⟨0, rfl, cE1, cE1, rfl⟩ ?_
      rintro _ f2 H2 m2 ⟨i, rfl, hi2, e6, hs2⟩
      by_cases hlt2 : i < xs.length
      · have hlt3 : i < ys.length := by omega
        have eg : xs[i]? = some xs[i] := List.getElem?_eq_getElem hlt2
        have eg2 : ys[i]? = some ys[i] := List.getElem?_eq_getElem hlt3
        have hn := sizeL_mem xs i hlt2
        have ht := sameT_take xs ys i hlt2 hlt3
        have hq := sameT_false xs ys i hlt2 hlt3
        repeat' (first | ((with_reducible first | refine wA (by omega) ?_ | refine wB (by omega) ?_ | refine wC (by omega) ?_ | refine wD (by omega) ?_ | refine wE ?_ ?_ | refine wF ?_ ?_ | refine wG ?_ ?_ | refine wH ?_ ?_ | refine wI ?_ ?_ | refine wJ ?_ ?_ | refine wK ?_ ?_ | refine wL ?_ ?_) <;> intro _) | (((with_reducible refine call_id ?_); (first | (refine call_pure (ih xs[i] ys[i] (by omega)) ?_)))) | simp (maxSteps := 1000000) (disch := omega) only [go_sem, Nat.reduceAdd, Nat.reduceMul, Nat.reduceSub, Nat.reduceLeDiff, Nat.reduceEqDiff, Nat.reduceBEq, ↓reduceIte, reduceCtorEq, Int.reduceEq, Int.reduceLE, Int.reduceLT, Int.reduceAdd, Int.reduceSub, Int.reduceNeg, Int.reduceToNat, Int.reduceNe, Nat.reducePow, Nat.reduceShiftRight, Nat.reduceMod, Tm.pv, *])
        · rename_i h0
          rw [h0] at hq
          (refine fin_tmp (.inr rfl) ?_; (first | rfl | (simp (disch := omega) only [go_sem, Nat.reduceMul, Nat.reduceSub, Nat.reduceShiftRight, Nat.reduceMod, Nat.reduceEqDiff, Nat.reduceAdd, ↓reduceIte, Nat.reduceLeDiff, Tm.same, *]; done) | (simp [Tm.same, upd, *]; done) | (simp [Tm.same, upd, *]; omega)))
        · rename_i h0
          refine Nx.mk (xs.length - (i + 1)) cE1 ⟨i + 1, cE1, cE1, cE1, by rw [ht, hs2, h0]; rfl⟩
      · obtain rfl : i = xs.length := by omega
        have e : ys.take xs.length = ys := List.take_of_length_le (by omega)
        rw [List.take_length, e] at hs2
        repeat' (first | ((with_reducible first | refine wA (by omega) ?_ | refine wB (by omega) ?_ | refine wC (by omega) ?_ | refine wD (by omega) ?_ | refine wE ?_ ?_ | refine wF ?_ ?_ | refine wG ?_ ?_ | refine wH ?_ ?_ | refine wI ?_ ?_ | refine wJ ?_ ?_ | refine wK ?_ ?_ | refine wL ?_ ?_) <;> intro _) | simp (maxSteps := 1000000) (disch := omega) only [go_sem, Nat.reduceAdd, Nat.reduceMul, Nat.reduceSub, Nat.reduceLeDiff, Nat.reduceEqDiff, Nat.reduceBEq, ↓reduceIte, reduceCtorEq, Int.reduceEq, Int.reduceLE, Int.reduceLT, Int.reduceAdd, Int.reduceSub, Int.reduceNeg, Int.reduceToNat, Int.reduceNe, Nat.reducePow, Nat.reduceShiftRight, Nat.reduceMod, *])
        (refine fin_tmp (.inr rfl) ?_; (first | rfl | (simp (disch := omega) only [go_sem, Nat.reduceMul, Nat.reduceSub, Nat.reduceShiftRight, Nat.reduceMod, Nat.reduceEqDiff, Nat.reduceAdd, ↓reduceIte, Nat.reduceLeDiff, Tm.same, *]; done) | (simp [Tm.same, upd, *]; done) | (simp [Tm.same, upd, *]; omega)))
end
section
set_option maxRecDepth 20000
attribute [local go_sem] pv_len pv_take Nat.add_assoc tm_len tm_take
theorem right_formed {t : Tm} {np b : Int} (h : t.right np b = true) : t.formed np (min b 1125899906842624) = true ∧ 0 ≤ b ∧ 0 ≤ np ∧ np ≤ 4 ∧ t.nodes ≤ 2000 := by
  simp only [Tm.right, Bool.and_eq_true, decide_eq_true_eq] at h
  exact ⟨h.2.2.2.2, h.1, h.2.1, h.2.2.1, h.2.2.2.1⟩
theorem ref04_Any_p (t : Tm) (np : Int) : PPure Try.prog F.ref04_Any [.agg t.pv, .sc (.int .i64 np)] (.sc (.bool (t.right np 1125899906842624))) := by
  refine pure_by is_ref04_Any (by simp) rfl fun hb nx => ?_
  repeat' (first | ((with_reducible first | refine wA (by omega) ?_ | refine wB (by omega) ?_ | refine wC (by omega) ?_ | refine wD (by omega) ?_ | refine wE ?_ ?_ | refine wF ?_ ?_ | refine wG ?_ ?_ | refine wH ?_ ?_ | refine wI ?_ ?_ | refine wJ ?_ ?_ | refine wK ?_ ?_ | refine wL ?_ ?_) <;> intro _) | (((with_reducible refine call_id ?_); (first | (refine call_pure (ref04_Right_p t np 1125899906842624) ?_)))) | simp (maxSteps := 1000000) (disch := omega) only [go_sem, Nat.reduceAdd, Nat.reduceMul, Nat.reduceSub, Nat.reduceLeDiff, Nat.reduceEqDiff, Nat.reduceBEq, ↓reduceIte, reduceCtorEq, Int.reduceEq, Int.reduceLE, Int.reduceLT, Int.reduceAdd, Int.reduceSub, Int.reduceNeg, Int.reduceToNat, Int.reduceNe, Nat.reducePow, Nat.reduceShiftRight, Nat.reduceMod, mc_ref04_Any, *])
  all_goals (refine fin_tmp (.inr rfl) ?_; simp [upd, *])
def looseT (t : Tm) : Int := if t.right 4 1125899906842624 = true then t.loose else 0
theorem ref04_Loose_p (t : Tm) : PPure Try.prog F.ref04_Loose [.agg t.pv] (.sc (.int .i64 (looseT t))) := by
  refine pure_by is_ref04_Loose (by simp) rfl fun hb nx => ?_
  by_cases hr : t.right 4 1125899906842624 = true
  · have hf := right_formed hr
    have hs := size_nodes t
    have hl := loose_bd 4 t _ (by omega) hf.1
    have e : looseR 0 t = t.loose := by unfold looseR; omega
    have c2 := ref04_loose_p 4 t.size t _ 0 (Nat.le_refl _) (by omega) (by omega) (by omega) (by omega) hf.1
    have c1 := ref04_Any_p t 4
    rw [e] at c2
    rw [hr] at c1
    clear hf hs hl e
    repeat' (first | ((with_reducible first | refine wA (by omega) ?_ | refine wB (by omega) ?_ | refine wC (by omega) ?_ | refine wD (by omega) ?_ | refine wE ?_ ?_ | refine wF ?_ ?_ | refine wG ?_ ?_ | refine wH ?_ ?_ | refine wI ?_ ?_ | refine wJ ?_ ?_ | refine wK ?_ ?_ | refine wL ?_ ?_) <;> intro _) | (((with_reducible refine call_id ?_); (first | (refine call_pure (c1) ?_) | (refine call_pure (c2) ?_)))) | simp (maxSteps := 1000000) (disch := omega) only [go_sem, Nat.reduceAdd, Nat.reduceMul, Nat.reduceSub, Nat.reduceLeDiff, Nat.reduceEqDiff, Nat.reduceBEq, ↓reduceIte, reduceCtorEq, Int.reduceEq, Int.reduceLE, Int.reduceLT, Int.reduceAdd, Int.reduceSub, Int.reduceNeg, Int.reduceToNat, Int.reduceNe, Nat.reducePow, Nat.reduceShiftRight, Nat.reduceMod, mc_ref04_Loose, *])
    all_goals (refine fin_tmp (.inr rfl) ?_; simp [upd, looseT, *])
  · have c1 := ref04_Any_p t 4
    rw [Bool.not_eq_true] at hr
    rw [hr] at c1
    repeat' (first | ((with_reducible first | refine wA (by omega) ?_ | refine wB (by omega) ?_ | refine wC (by omega) ?_ | refine wD (by omega) ?_ | refine wE ?_ ?_ | refine wF ?_ ?_ | refine wG ?_ ?_ | refine wH ?_ ?_ | refine wI ?_ ?_ | refine wJ ?_ ?_ | refine wK ?_ ?_ | refine wL ?_ ?_) <;> intro _) | (((with_reducible refine call_id ?_); (first | (refine call_pure (c1) ?_)))) | simp (maxSteps := 1000000) (disch := omega) only [go_sem, Nat.reduceAdd, Nat.reduceMul, Nat.reduceSub, Nat.reduceLeDiff, Nat.reduceEqDiff, Nat.reduceBEq, ↓reduceIte, reduceCtorEq, Int.reduceEq, Int.reduceLE, Int.reduceLT, Int.reduceAdd, Int.reduceSub, Int.reduceNeg, Int.reduceToNat, Int.reduceNe, Nat.reducePow, Nat.reduceShiftRight, Nat.reduceMod, mc_ref04_Loose, *])
    all_goals (refine fin_tmp (.inr rfl) ?_; simp [upd, looseT, *])
end
section
set_option maxRecDepth 20000
attribute [local go_sem] pv_len pv_take id_ne id_ne' id_ne2 List.append_assoc Nat.add_assoc pv_one
def slB (f : Bool) (sz : Nat) (es : List (List PV)) : PV := if f = true then .fsl sz es else .sl sz es
def Lv.pvB (f : Bool) : Lv → List PV
  | .mk k n args => [.sc (.int .i64 k), .sc (.int .i64 n), slB f 3 (args.map (Lv.pvB f))]
theorem pvB_len (f : Bool) (l : Lv) : (l.pvB f).length = 3 := by cases l; simp [Lv.pvB]
attribute [local go_sem] pvB_len
theorem pvB_take (f : Bool) (l : Lv) : (l.pvB f).take 3 = l.pvB f := List.take_of_length_le (by rw [pvB_len]; omega)
attribute [local go_sem] pvB_take
theorem slB_one (f : Bool) (sz : Nat) (es : List (List PV)) : (slB f sz es).one = true := by cases f <;> rfl
theorem pvB_one (f : Bool) (l : Lv) : (l.pvB f).all PV.one = true := by
  cases l
  simp only [Lv.pvB, List.all_cons, slB_one, List.all_nil, Bool.and_true]
  rfl
attribute [local go_sem] pvB_one
theorem slB_weak (f : Bool) (sz : Nat) (es : List (List PV)) : Weak (slB f sz es) (.sl sz es) := by
  cases f
  · exact .refl _
  · exact Weak.fsl sz es
theorem WeakL.append : ∀ {a b c d : List PV}, WeakL a b → WeakL c d → WeakL (a ++ c) (b ++ d)
  | [], [], _, _, _, h => h
  | _ :: _, _ :: _, _, _, h, h2 => ⟨h.1, WeakL.append h.2 h2⟩
  | [], _ :: _, _, _, h, _ => h.elim
  | _ :: _, [], _, _, h, _ => h.elim
theorem WeakL.rows {α : Type} {f g : α → List PV} : ∀ (xs : List α), (∀ x ∈ xs, WeakL (f x) (g x)) → WeakL (xs.map f).flatten (xs.map g).flatten
  | [], _ => trivial
  | x :: r, h => by
    simp only [List.map_cons, List.flatten_cons]
    exact (h x (by simp)).append (WeakL.rows r fun y hy => h y (by simp [hy]))
theorem slB_rows {α : Type} {f g : α → List PV} (b : Bool) {sz : Nat} (hg : ∀ x, (g x).length = sz) (xs : List α) (h : ∀ x ∈ xs, WeakL (f x) (g x)) : Weak (slB b sz (xs.map f)) (.sl sz (xs.map g)) := by
  refine (slB_weak b sz _).trans (Weak.sl (by simp) (fun e he => ?_) (WeakL.rows xs h))
  obtain ⟨x, _, rfl⟩ := List.mem_map.1 he
  exact hg x
theorem lv_weak (f : Bool) : ∀ (fuel : Nat) (l : Lv), l.nodes ≤ fuel → WeakL (l.pvB f) l.pv := by
  intro fuel
  induction fuel with
  | zero => intro l h; have := nodes_pos l; omega
  | succ fuel ih =>
    intro l h
    cases l with
    | mk k n args =>
    simp only [Lv.nodes] at h
    simp only [Lv.pvB, Lv.pv]
    refine ⟨.refl _, .refl _, slB_rows f pv_len args fun x hx => ih x ?_, trivial⟩
    obtain ⟨i, hi, rfl⟩ := List.getElem_of_mem hx
    have := nodesL_mem args i hi
    omega
theorem lv_weak' (f : Bool) (l : Lv) : WeakL (l.pvB f) l.pv := lv_weak f l.nodes l (Nat.le_refl _)
theorem lvs_weak (f : Bool) (ls : List Lv) : Weak (slB f 3 (ls.map (Lv.pvB f))) (.sl 3 (ls.map Lv.pv)) := slB_rows f pv_len ls fun x _ => lv_weak' f x
theorem imm_rows {α : Type} {f : α → List PV} : ∀ (xs : List α), (∀ x ∈ xs, immL (f x) = true) → immL (xs.map f).flatten = true
  | [], _ => rfl
  | x :: r, h => by simp only [List.map_cons, List.flatten_cons, immL_append, h x (by simp), imm_rows r fun y hy => h y (by simp [hy])]; rfl
theorem slB_imm (f : Bool) (sz : Nat) (es : List (List PV)) : (slB f sz es).imm = immL es.flatten := by cases f <;> simp [slB, PV.imm, immLL_flatten]
theorem pvB_imm' (f : Bool) : ∀ (fuel : Nat) (l : Lv), l.nodes ≤ fuel → immL (l.pvB f) = true := by
  intro fuel
  induction fuel with
  | zero => intro l h; have := nodes_pos l; omega
  | succ fuel ih =>
    intro l h
    cases l with
    | mk k n args =>
    simp only [Lv.nodes] at h
    simp only [Lv.pvB, immL, slB_imm]
    rw [imm_rows args fun x hx => ih x ?_]
    · rfl
    · obtain ⟨i, hi, rfl⟩ := List.getElem_of_mem hx
      have := nodesL_mem args i hi
      omega
theorem pvB_imm (f : Bool) (l : Lv) : immL (l.pvB f) = true := pvB_imm' f l.nodes l (Nat.le_refl _)
theorem lvsB_imm (f : Bool) (ls : List Lv) : immLL (ls.map (Lv.pvB f)) = true := by rw [immLL_flatten]; exact imm_rows ls fun x _ => pvB_imm f x
def halfG {α : Type} (g : α → List PV) (z : List Value) (xs : List α) (n : Nat) : List PV := xs.flatMap g ++ zeros z n
theorem flat_lenG {α : Type} (f : α → List PV) (sz : Nat) (hf : ∀ x, (f x).length = sz) : ∀ xs : List α, (xs.flatMap f).length = xs.length * sz
  | [] => by simp
  | x :: r => by simp only [List.flatMap_cons, List.length_append, hf, flat_lenG f sz hf r, List.length_cons, Nat.succ_mul]; omega
theorem chunks_flat {α : Type} (f : α → List PV) (sz : Nat) (hf : ∀ x, (f x).length = sz) : ∀ xs : List α, chunks sz xs.length (xs.flatMap f) = xs.map f
  | [] => rfl
  | x :: r => by
    simp only [List.length_cons, chunks, List.flatMap_cons, List.map_cons]
    rw [List.take_left' (hf x), List.drop_left' (hf x), chunks_flat f sz hf r]
theorem halfG_len {α : Type} {g : α → List PV} {z : List Value} {sz : Nat} (hg : ∀ x, (g x).length = sz) (hz : z.length = sz) (xs : List α) (n : Nat) : (halfG g z xs n).length = xs.length * sz + n * sz := by
  rw [halfG, List.length_append, flat_lenG g sz hg, zeros_len, hz]
theorem halfG_set {α : Type} {g : α → List PV} {z : List Value} {sz : Nat} (hg : ∀ x, (g x).length = sz) (hz : z.length = sz) (xs : List α) (x : α) (n : Nat) : (halfG g z xs (n + 1)).take (xs.length * sz) ++ (g x ++ (halfG g z xs (n + 1)).drop (xs.length * sz + sz)) = halfG g z (xs ++ [x]) n := by
  have hl := flat_lenG g sz hg xs
  simp only [halfG, zeros]
  rw [List.take_left' hl, ← List.drop_drop, List.drop_left' hl, List.drop_left' (by rw [List.length_map]; exact hz), List.flatMap_append]
  simp
theorem halfG_set' {α : Type} {g : α → List PV} {z : List Value} {sz : Nat} (hg : ∀ x, (g x).length = sz) (hz : z.length = sz) (xs : List α) (i n : Nat) (x : α) (hi : i < n) (h : xs.length = i) : (halfG g z xs (n - i)).take (i * sz) ++ (g x ++ (halfG g z xs (n - i)).drop (i * sz + sz)) = halfG g z (xs ++ [x]) (n - (i + 1)) := by
  have e : n - i = (n - (i + 1)) + 1 := by omega
  have := halfG_set hg hz xs x (n - (i + 1))
  rw [h] at this
  rw [e]
  exact this
theorem frzF_sc (k : Nat) (H : Nat → Option PObj) (v : Value) : frzF k H (.sc v) = .sc v := by cases k <;> rfl
theorem frzF_slB (k : Nat) (H : Nat → Option PObj) (f : Bool) (sz : Nat) (es : List (List PV)) : frzF k H (slB f sz es) = slB f sz es := by cases k <;> cases f <;> rfl
theorem frzF_pvB (k : Nat) (H : Nat → Option PObj) (f : Bool) (l : Lv) : (l.pvB f).map (frzF k H) = l.pvB f := by
  cases l
  simp [Lv.pvB, frzF_sc, frzF_slB]
theorem frzF_flat {α : Type} {g : α → List PV} {k : Nat} {H : Nat → Option PObj} (hg : ∀ x, (g x).map (frzF k H) = g x) : ∀ xs : List α, (xs.flatMap g).map (frzF k H) = xs.flatMap g
  | [] => rfl
  | x :: r => by simp only [List.flatMap_cons, List.map_append, hg, frzF_flat hg r]
theorem frzF_row {α : Type} {g : α → List PV} {k sz : Nat} {H : Nat → Option PObj} {id : Nat} {xs : List α} {w : Bool} (hg : ∀ x, (g x).length = sz) (hf : ∀ x, (g x).map (frzF k H) = g x) (h : H id = some ⟨xs.flatMap g, w⟩) : frzF (k + 1) H (.osl id 0 xs.length sz) = .fsl sz (xs.map g) := by
  have hl := flat_lenG g sz hg xs
  simp only [frzF, h, List.drop_zero]
  rw [if_pos (by omega), List.take_of_length_le (by omega), frzF_flat hf, chunks_flat g sz hg]
theorem frzF_agg1 {k : Nat} {H : Nat → Option PObj} {xs : List PV} : frzF (k + 1) H (.agg xs) = .agg (xs.map (frzF k H)) := rfl
theorem Weak.nilF (sz : Nat) : Weak (.sc (.slice none 0 0)) (.fsl sz []) := fun V v h => by
  refine .fsl sz [] v (fun b off len cap _ he => absurd rfl he) (Weak.nil sz V v h)
theorem Weak.nilB (f : Bool) (sz : Nat) : Weak (.sc (.slice none 0 0)) (slB f sz []) := by
  cases f
  · exact Weak.nil sz
  · exact Weak.nilF sz
abbrev z3 : List Value := [.int .i64 0, .int .i64 0, .slice none 0 0]
set_option maxHeartbeats 8000000 in
theorem clone_pF : ∀ (fuel : Nat) (l : Lv), l.nodes ≤ fuel → l.nodes ≤ 2 ^ 40 → PPure Try.prog F.level_clone [.ptr l.pv] (.agg (l.pvB true)) := by
  intro fuel
  induction fuel with
  | zero => intro l h; have := nodes_pos l; omega
  | succ fuel ih =>
    intro l hf hm
    cases l with
    | mk k n args =>
    simp only [Lv.nodes] at hf hm
    refine pure_by is_level_clone (by simp) (by simp [PV.imm, pvB_imm]) fun hb nx => ?_
    have hb0 := len_nodesL args
    by_cases h0 : args.length = 0
    · obtain rfl : args = [] := List.eq_nil_of_length_eq_zero h0
      repeat' (first | ((with_reducible first | refine wA (by omega) ?_ | refine wB (by omega) ?_ | refine wC (by omega) ?_ | refine wD (by omega) ?_ | refine wE ?_ ?_ | refine wF ?_ ?_ | refine wG ?_ ?_ | refine wH ?_ ?_ | refine wI ?_ ?_ | refine wJ ?_ ?_ | refine wK ?_ ?_ | refine wL ?_ ?_) <;> intro _) | simp (maxSteps := 1000000) (disch := omega) only [go_sem, Nat.reduceAdd, Nat.reduceMul, Nat.reduceSub, Nat.reduceLeDiff, Nat.reduceEqDiff, Nat.reduceBEq, ↓reduceIte, reduceCtorEq, Int.reduceEq, Int.reduceLE, Int.reduceLT, Int.reduceAdd, Int.reduceSub, Int.reduceNeg, Int.reduceToNat, Int.reduceNe, Nat.reducePow, Nat.reduceShiftRight, Nat.reduceMod, mc_level_clone, Lv.pv, *])
      refine c_rounds 1 ?_
      repeat' (first | ((with_reducible first | refine wA (by omega) ?_ | refine wB (by omega) ?_ | refine wC (by omega) ?_ | refine wD (by omega) ?_ | refine wE ?_ ?_ | refine wF ?_ ?_ | refine wG ?_ ?_ | refine wH ?_ ?_ | refine wI ?_ ?_ | refine wJ ?_ ?_ | refine wK ?_ ?_ | refine wL ?_ ?_) <;> intro _) | simp (maxSteps := 1000000) (disch := omega) only [go_sem, Nat.reduceAdd, Nat.reduceMul, Nat.reduceSub, Nat.reduceLeDiff, Nat.reduceEqDiff, Nat.reduceBEq, ↓reduceIte, reduceCtorEq, Int.reduceEq, Int.reduceLE, Int.reduceLT, Int.reduceAdd, Int.reduceSub, Int.reduceNeg, Int.reduceToNat, Int.reduceNe, Nat.reducePow, Nat.reduceShiftRight, Nat.reduceMod, rounds_next, *])
      refine fin_retF (r0 := .agg [.sc (.int .i64 k), .sc (.int .i64 n), .sc (.slice none 0 0)]) 2 cE2 ?_
      rw [frzF_agg1]
      simp only [List.map_cons, List.map_nil, Lv.pvB]
      exact Weak.agg ⟨.of_eq (frzF_sc _ _ _), .of_eq (frzF_sc _ _ _), .trans (.of_eq (frzF_sc _ _ _)) (Weak.nilB true 3), trivial⟩
    · have hz1 : 40 * (args.length : Int) ≤ 2 ^ 47 := by omega
      have hz2 : (args.length : Int) ≤ 2 ^ 47 := by omega
      repeat' (first | ((with_reducible first | refine wA (by omega) ?_ | refine wB (by omega) ?_ | refine wC (by omega) ?_ | refine wD (by omega) ?_ | refine wE ?_ ?_ | refine wF ?_ ?_ | refine wG ?_ ?_ | refine wH ?_ ?_ | refine wI ?_ ?_ | refine wJ ?_ ?_ | refine wK ?_ ?_ | refine wL ?_ ?_) <;> intro _) | simp (maxSteps := 1000000) (disch := omega) only [go_sem, Nat.reduceAdd, Nat.reduceMul, Nat.reduceSub, Nat.reduceLeDiff, Nat.reduceEqDiff, Nat.reduceBEq, ↓reduceIte, reduceCtorEq, Int.reduceEq, Int.reduceLE, Int.reduceLT, Int.reduceAdd, Int.reduceSub, Int.reduceNeg, Int.reduceToNat, Int.reduceNe, Nat.reducePow, Nat.reduceShiftRight, Nat.reduceMod, mc_level_clone, Lv.pv, hz1, hz2, and_self, *])
      refine c_loopW 140733193388048 (by kernel_rfl) (fun j f H m => ∃ i : Nat, j = args.length - i ∧ i ≤ args.length ∧ f 32 = .sc (.int .i64 i) ∧ nx + 23 < m ∧ H nx = some ⟨[.sc (.int .i64 0), .sc (.int .i64 0), .sc (.slice none 0 0)], true⟩ ∧ H (nx + 10) = some ⟨[.sc (.int .i64 k), .sc (.int .i64 n), .osl (nx + 23) 0 args.length 3], true⟩ ∧ H (nx + 23) = some ⟨halfG (Lv.pvB true) z3 (args.take i) (args.length - i), true⟩) _ ⟨0, rfl, cE1, cE1, ?mm, ?r0, ?r1, ?r2⟩ ?_
      case mm => exact (by omega : nx + 23 < nx + 32)
      case r0 => simp [upd]
      case r1 => simp [upd]
      case r2 => simp [upd, halfG]
      rintro _ f H m ⟨i, rfl, hi, e32, hm2, hH0, hH1, hH⟩
      by_cases hlt : i < args.length
      · have eg : args[i]? = some args[i] := List.getElem?_eq_getElem hlt
        have hn := nodesL_mem args i hlt
        have hhl := halfG_len (pvB_len true) (rfl : z3.length = 3) (args.take i) (args.length - i)
        rw [List.length_take, Nat.min_eq_left hi] at hhl
        have hhs := halfG_set' (pvB_len true) (rfl : z3.length = 3) (args.take i) i args.length args[i] hlt (by rw [List.length_take, Nat.min_eq_left hi])
        have hc := ih args[i] (by omega) (by omega)
        have hle : i * 3 + 3 ≤ i * 3 + (args.length - i) * 3 := by omega
        rw [← List.take_succ_eq_append_getElem hlt] at hhs
        clear ih
        repeat' (first | ((with_reducible first | refine wA (by omega) ?_ | refine wB (by omega) ?_ | refine wC (by omega) ?_ | refine wD (by omega) ?_ | refine wE ?_ ?_ | refine wF ?_ ?_ | refine wG ?_ ?_ | refine wH ?_ ?_ | refine wI ?_ ?_ | refine wJ ?_ ?_ | refine wK ?_ ?_ | refine wL ?_ ?_) <;> intro _) | (((with_reducible refine call_id ?_); (first | (refine call_pure (hc) ?_)))) | simp (maxSteps := 1000000) (disch := omega) only [go_sem, Nat.reduceAdd, Nat.reduceMul, Nat.reduceSub, Nat.reduceLeDiff, Nat.reduceEqDiff, Nat.reduceBEq, ↓reduceIte, reduceCtorEq, Int.reduceEq, Int.reduceLE, Int.reduceLT, Int.reduceAdd, Int.reduceSub, Int.reduceNeg, Int.reduceToNat, Int.reduceNe, Nat.reducePow, Nat.reduceShiftRight, Nat.reduceMod, Lv.pv, *])
        refine Nx.mk (args.length - (i + 1)) cE1 ⟨i + 1, cE1, cE1, cE1, cE1, cE1, cE1, cE1⟩
      · obtain rfl : i = args.length := by omega
        have h1 : halfG (Lv.pvB true) z3 (List.take args.length args) (args.length - args.length) = args.flatMap (Lv.pvB true) := by rw [List.take_length, Nat.sub_self]; simp [halfG, zeros]
        rw [h1] at hH
        clear ih
        repeat' (first | ((with_reducible first | refine wA (by omega) ?_ | refine wB (by omega) ?_ | refine wC (by omega) ?_ | refine wD (by omega) ?_ | refine wE ?_ ?_ | refine wF ?_ ?_ | refine wG ?_ ?_ | refine wH ?_ ?_ | refine wI ?_ ?_ | refine wJ ?_ ?_ | refine wK ?_ ?_ | refine wL ?_ ?_) <;> intro _) | simp (maxSteps := 1000000) (disch := omega) only [go_sem, Nat.reduceAdd, Nat.reduceMul, Nat.reduceSub, Nat.reduceLeDiff, Nat.reduceEqDiff, Nat.reduceBEq, ↓reduceIte, reduceCtorEq, Int.reduceEq, Int.reduceLE, Int.reduceLT, Int.reduceAdd, Int.reduceSub, Int.reduceNeg, Int.reduceToNat, Int.reduceNe, Nat.reducePow, Nat.reduceShiftRight, Nat.reduceMod, Lv.pv, *])
        refine fin_retF (r0 := .agg [.sc (.int .i64 k), .sc (.int .i64 n), .osl (nx + 23) 0 args.length 3]) 2 cE2 ?_
        rw [frzF_agg1]
        simp only [List.map_cons, List.map_nil, Lv.pvB]
        refine Weak.agg ⟨.of_eq (frzF_sc _ _ _), .of_eq (frzF_sc _ _ _), .of_eq ?_, trivial⟩
        exact frzF_row (pvB_len true) (frzF_pvB 0 _ true) (by simp only [upd_ne _ _ (show nx + 23 ≠ nx by omega)]; exact hH)
end
section
set_option maxRecDepth 20000
attribute [local go_sem] pv_len pv_take id_ne id_ne' id_ne2 List.append_assoc Nat.add_assoc pv_one pvB_len pvB_take pvB_one
theorem Max1_pF (l : Lv) (hl : l.nodes ≤ 2 ^ 40) : PPure Try.prog F.level_Max [.sl 3 [l.pv]] (.agg (l.pvB true)) := by
  refine pure_by is_level_Max (by simp) (by simp [PV.imm, pvB_imm]) fun hb nx => ?_
  repeat' (first | ((with_reducible first | refine wA (by omega) ?_ | refine wB (by omega) ?_ | refine wC (by omega) ?_ | refine wD (by omega) ?_ | refine wE ?_ ?_ | refine wF ?_ ?_ | refine wG ?_ ?_ | refine wH ?_ ?_ | refine wI ?_ ?_ | refine wJ ?_ ?_ | refine wK ?_ ?_ | refine wL ?_ ?_) <;> intro _) | (((with_reducible refine call_id ?_); (first | (refine call_pure (clone_pF l.nodes l (Nat.le_refl _) hl) ?_)))) | simp (maxSteps := 1000000) (disch := omega) only [go_sem, Nat.reduceAdd, Nat.reduceMul, Nat.reduceSub, Nat.reduceLeDiff, Nat.reduceEqDiff, Nat.reduceBEq, ↓reduceIte, reduceCtorEq, Int.reduceEq, Int.reduceLE, Int.reduceLT, Int.reduceAdd, Int.reduceSub, Int.reduceNeg, Int.reduceToNat, Int.reduceNe, Nat.reducePow, Nat.reduceShiftRight, Nat.reduceMod, mc_level_Max, *])
  refine c_rounds 1 ?_
  repeat' (first | ((with_reducible first | refine wA (by omega) ?_ | refine wB (by omega) ?_ | refine wC (by omega) ?_ | refine wD (by omega) ?_ | refine wE ?_ ?_ | refine wF ?_ ?_ | refine wG ?_ ?_ | refine wH ?_ ?_ | refine wI ?_ ?_ | refine wJ ?_ ?_ | refine wK ?_ ?_ | refine wL ?_ ?_) <;> intro _) | simp (maxSteps := 1000000) (disch := omega) only [go_sem, Nat.reduceAdd, Nat.reduceMul, Nat.reduceSub, Nat.reduceLeDiff, Nat.reduceEqDiff, Nat.reduceBEq, ↓reduceIte, reduceCtorEq, Int.reduceEq, Int.reduceLE, Int.reduceLT, Int.reduceAdd, Int.reduceSub, Int.reduceNeg, Int.reduceToNat, Int.reduceNe, Nat.reducePow, Nat.reduceShiftRight, Nat.reduceMod, rounds_next, *])
  refine fin_retF (r0 := .agg (l.pvB true)) 1 cE2 (.of_eq ?_)
  rw [frzF_agg1, frzF_pvB]
end
section
set_option maxRecDepth 20000
theorem tm_one (t : Tm) : t.pv.all PV.one = true := by cases t; simp [Tm.pv, PV.one]
def Tm.pvB (f : Bool) : Tm → List PV
  | .mk k n s ls args => [.sc (.int .i64 k), .sc (.int .i64 n), .sc (.string s), slB f 3 (ls.map (Lv.pvB f)), slB f 5 (args.map (Tm.pvB f))]
theorem tpvB_len (f : Bool) (t : Tm) : (t.pvB f).length = 5 := by cases t; simp [Tm.pvB]
theorem tpvB_take (f : Bool) (t : Tm) : (t.pvB f).take 5 = t.pvB f := List.take_of_length_le (by rw [tpvB_len]; omega)
theorem tpvB_one (f : Bool) (t : Tm) : (t.pvB f).all PV.one = true := by
  cases t
  simp only [Tm.pvB, List.all_cons, slB_one, List.all_nil, Bool.and_true]
  rfl
theorem tm_weak' (f : Bool) : ∀ (fuel : Nat) (t : Tm), t.size ≤ fuel → WeakL (t.pvB f) t.pv := by
  intro fuel
  induction fuel with
  | zero => intro l h; have := size_pos l; omega
  | succ fuel ih =>
    intro t h
    cases t with
    | mk k n s ls args =>
    simp only [Tm.size] at h
    simp only [Tm.pvB, Tm.pv]
    refine ⟨.refl _, .refl _, .refl _, lvs_weak f ls, slB_rows f tm_len args fun x hx => ih x ?_, trivial⟩
    obtain ⟨i, hi, rfl⟩ := List.getElem_of_mem hx
    have := sizeL_mem args i hi
    omega
theorem tm_weak (f : Bool) (t : Tm) : WeakL (t.pvB f) t.pv := tm_weak' f t.size t (Nat.le_refl _)
theorem tm_agg (f : Bool) (t : Tm) : Weak (.agg (t.pvB f)) (.agg t.pv) := Weak.agg (tm_weak f t)
theorem tpvB_imm' (f : Bool) : ∀ (fuel : Nat) (t : Tm), t.size ≤ fuel → immL (t.pvB f) = true := by
  intro fuel
  induction fuel with
  | zero => intro l h; have := size_pos l; omega
  | succ fuel ih =>
    intro t h
    cases t with
    | mk k n s ls args =>
    simp only [Tm.size] at h
    simp only [Tm.pvB, immL, slB_imm]
    rw [imm_rows ls fun x _ => pvB_imm f x, imm_rows args fun x hx => ih x ?_]
    · rfl
    · obtain ⟨i, hi, rfl⟩ := List.getElem_of_mem hx
      have := sizeL_mem args i hi
      omega
theorem tpvB_imm (f : Bool) (t : Tm) : immL (t.pvB f) = true := tpvB_imm' f t.size t (Nat.le_refl _)
theorem frzF_tpvB (k : Nat) (H : Nat → Option PObj) (f : Bool) (t : Tm) : (t.pvB f).map (frzF k H) = t.pvB f := by
  cases t
  simp [Tm.pvB, frzF_sc, frzF_slB]
end
section
set_option maxRecDepth 20000
attribute [local go_sem] pv_len pv_take Nat.add_assoc tm_len tm_take pv_one tm_one tpvB_len tpvB_take tpvB_one pvB_len pvB_take pvB_one id_ne id_ne' id_ne2 List.append_assoc
theorem frz_rowG {α : Type} (f : α → List PV) (sz : Nat) (hf : ∀ x, (f x).length = sz) {H : Nat → Option PObj} {id : Nat} {xs : List α} {w : Bool} (h : H id = some ⟨xs.flatMap f, w⟩) : frz 1 H (.osl id 0 xs.length sz) = .sl sz (xs.map f) := by
  have hl := flat_lenG f sz hf xs
  simp only [frz, h, List.drop_zero]
  rw [if_pos (by omega), List.take_of_length_le (by omega), List.map_id', chunks_flat f sz hf]
def RowAt (H : Nat → Option PObj) (lo m sz : Nat) (a : PV) (cells : List PV) (n : Nat) : Prop := (n = 0 ∧ a = .sc (.slice none 0 0)) ∨ ∃ id, lo < id ∧ id < m ∧ a = .osl id 0 n sz ∧ H id = some ⟨cells, false⟩
theorem Weak.row {α : Type} (f : α → List PV) (sz : Nat) (hf : ∀ x, (f x).length = sz) {H : Nat → Option PObj} {lo m : Nat} {a : PV} {xs : List α} (h : RowAt H lo m sz a (xs.flatMap f) xs.length) : Weak (frz 1 H a) (.sl sz (xs.map f)) := by
  rcases h with ⟨h1, rfl⟩ | ⟨id, _, _, rfl, h2⟩
  · obtain rfl : xs = [] := List.eq_nil_of_length_eq_zero h1
    rw [frz_sc1]
    exact .nil sz
  · rw [frz_rowG f sz hf h2]
    exact .refl _
theorem RowAt.mono {H H' : Nat → Option PObj} {lo m m' sz : Nat} {a : PV} {cells : List PV} {n : Nat} (h : RowAt H lo m sz a cells n) (hm : m ≤ m') (hH : ∀ id, lo < id → id < m → H' id = H id) : RowAt H' lo m' sz a cells n := by
  rcases h with h | ⟨id, h1, h2, h3, h4⟩
  · exact .inl h
  · exact .inr ⟨id, h1, by omega, h3, by rw [hH id h1 h2, h4]⟩
theorem len_nodesT : ∀ ts : List Tm, ts.length ≤ nodesT ts
  | [] => Nat.le_refl _
  | x :: r => by have := len_nodesT r; have := tnodes_pos x; simp only [List.length_cons, nodesT]; omega
mutual
theorem tm_imm : ∀ t : Tm, immL t.pv = true
  | .mk k n s ls args => by
    have h := tms_imm args
    have h2 : immL (ls.map Lv.pv).flatten = true := by
      induction ls with
      | nil => rfl
      | cons l r ih => simp only [List.map_cons, List.flatten_cons, immL_append, pv_imm, ih]; rfl
    simp only [Tm.pv, immL, PV.imm, immLL_flatten, h, h2]
    rfl
theorem tms_imm : ∀ ts : List Tm, immL (ts.map Tm.pv).flatten = true
  | [] => rfl
  | t :: r => by simp only [List.map_cons, List.flatten_cons, immL_append, tm_imm t, tms_imm r]; rfl
end
end
section
set_option maxRecDepth 20000
attribute [local go_sem] pv_len pv_take Nat.add_assoc tm_len tm_take pv_one tm_one tpvB_len tpvB_take tpvB_one pvB_len pvB_take pvB_one id_ne id_ne' id_ne2 List.append_assoc
set_option maxHeartbeats 8000000 in
theorem cloneLevels_pF (ls : List Lv) (hl : nodesL ls ≤ 2 ^ 40) : PPure Try.prog F.term_cloneLevels [.sl 3 (ls.map Lv.pv)] (.fsl 3 (ls.map (Lv.pvB true))) := by
  refine pure_by is_term_cloneLevels (by simp) (by simp [PV.imm, lvsB_imm]) fun hb nx => ?_
  have hb0 := len_nodesL ls
  by_cases h0 : ls.length = 0
  · obtain rfl : ls = [] := List.eq_nil_of_length_eq_zero h0
    repeat' (first | ((with_reducible first | refine wA (by omega) ?_ | refine wB (by omega) ?_ | refine wC (by omega) ?_ | refine wD (by omega) ?_ | refine wE ?_ ?_ | refine wF ?_ ?_ | refine wG ?_ ?_ | refine wH ?_ ?_ | refine wI ?_ ?_ | refine wJ ?_ ?_ | refine wK ?_ ?_ | refine wL ?_ ?_) <;> intro _) | simp (maxSteps := 1000000) (disch := omega) only [go_sem, Nat.reduceAdd, Nat.reduceMul, Nat.reduceSub, Nat.reduceLeDiff, Nat.reduceEqDiff, Nat.reduceBEq, ↓reduceIte, reduceCtorEq, Int.reduceEq, Int.reduceLE, Int.reduceLT, Int.reduceAdd, Int.reduceSub, Int.reduceNeg, Int.reduceToNat, Int.reduceNe, Nat.reducePow, Nat.reduceShiftRight, Nat.reduceMod, mc_term_cloneLevels, *])
    all_goals (exact fin_retF 1 (by (simp [resP, resPs, resP1, upd, loadP]); all_goals rfl) (.trans (.of_eq (frzF_sc _ _ _)) (.nilF 3)))
  · have hz1 : 40 * (ls.length : Int) ≤ 2 ^ 47 := by omega
    have hz2 : (ls.length : Int) ≤ 2 ^ 47 := by omega
    repeat' (first | ((with_reducible first | refine wA (by omega) ?_ | refine wB (by omega) ?_ | refine wC (by omega) ?_ | refine wD (by omega) ?_ | refine wE ?_ ?_ | refine wF ?_ ?_ | refine wG ?_ ?_ | refine wH ?_ ?_ | refine wI ?_ ?_ | refine wJ ?_ ?_ | refine wK ?_ ?_ | refine wL ?_ ?_) <;> intro _) | simp (maxSteps := 1000000) (disch := omega) only [go_sem, Nat.reduceAdd, Nat.reduceMul, Nat.reduceSub, Nat.reduceLeDiff, Nat.reduceEqDiff, Nat.reduceBEq, ↓reduceIte, reduceCtorEq, Int.reduceEq, Int.reduceLE, Int.reduceLT, Int.reduceAdd, Int.reduceSub, Int.reduceNeg, Int.reduceToNat, Int.reduceNe, Nat.reducePow, Nat.reduceShiftRight, Nat.reduceMod, mc_term_cloneLevels, hz1, hz2, and_self, *])
    refine c_loopW 67100688 (by kernel_rfl) (fun j f H m => ∃ i : Nat, j = ls.length - i ∧ i ≤ ls.length ∧ f 13 = .sc (.int .i64 i) ∧ nx + 6 < m ∧ H (nx + 6) = some ⟨halfG (Lv.pvB true) z3 (ls.take i) (ls.length - i), true⟩) _ ⟨0, rfl, cE1, cE1, ?mm, ?rr⟩ ?_
    case mm => exact (by omega : nx + 6 < nx + 11)
    case rr => exact (upd_same _ _ _).trans (by simp [halfG])
    rintro _ f H m ⟨i, rfl, hi, e13, hm, hH⟩
    by_cases hlt : i < ls.length
    · have eg : ls[i]? = some ls[i] := List.getElem?_eq_getElem hlt
      have hn := nodesL_mem ls i hlt
      have hhl := halfG_len (pvB_len true) (rfl : z3.length = 3) (ls.take i) (ls.length - i)
      rw [List.length_take, Nat.min_eq_left hi] at hhl
      have hhs := halfG_set' (pvB_len true) (rfl : z3.length = 3) (ls.take i) i ls.length ls[i] hlt (by rw [List.length_take, Nat.min_eq_left hi])
      have hc := Max1_pF ls[i] (by omega)
      have hle : i * 3 + 3 ≤ i * 3 + (ls.length - i) * 3 := by omega
      rw [← List.take_succ_eq_append_getElem hlt] at hhs
      repeat' (first | ((with_reducible first | refine wA (by omega) ?_ | refine wB (by omega) ?_ | refine wC (by omega) ?_ | refine wD (by omega) ?_ | refine wE ?_ ?_ | refine wF ?_ ?_ | refine wG ?_ ?_ | refine wH ?_ ?_ | refine wI ?_ ?_ | refine wJ ?_ ?_ | refine wK ?_ ?_ | refine wL ?_ ?_) <;> intro _) | (((with_reducible refine call_id ?_); (first | (refine call_pure (hc) ?_)))) | simp (maxSteps := 1000000) (disch := omega) only [go_sem, Nat.reduceAdd, Nat.reduceMul, Nat.reduceSub, Nat.reduceLeDiff, Nat.reduceEqDiff, Nat.reduceBEq, ↓reduceIte, reduceCtorEq, Int.reduceEq, Int.reduceLE, Int.reduceLT, Int.reduceAdd, Int.reduceSub, Int.reduceNeg, Int.reduceToNat, Int.reduceNe, Nat.reducePow, Nat.reduceShiftRight, Nat.reduceMod, Lv.pv, *])
      refine Nx.mk (ls.length - (i + 1)) cE1 ⟨i + 1, cE1, cE1, cE1, cE1, cE1⟩
    · obtain rfl : i = ls.length := by omega
      have h1 : halfG (Lv.pvB true) z3 (List.take ls.length ls) (ls.length - ls.length) = ls.flatMap (Lv.pvB true) := by rw [List.take_length, Nat.sub_self]; simp [halfG, zeros]
      rw [h1] at hH
      repeat' (first | ((with_reducible first | refine wA (by omega) ?_ | refine wB (by omega) ?_ | refine wC (by omega) ?_ | refine wD (by omega) ?_ | refine wE ?_ ?_ | refine wF ?_ ?_ | refine wG ?_ ?_ | refine wH ?_ ?_ | refine wI ?_ ?_ | refine wJ ?_ ?_ | refine wK ?_ ?_ | refine wL ?_ ?_) <;> intro _) | simp (maxSteps := 1000000) (disch := omega) only [go_sem, Nat.reduceAdd, Nat.reduceMul, Nat.reduceSub, Nat.reduceLeDiff, Nat.reduceEqDiff, Nat.reduceBEq, ↓reduceIte, reduceCtorEq, Int.reduceEq, Int.reduceLE, Int.reduceLT, Int.reduceAdd, Int.reduceSub, Int.reduceNeg, Int.reduceToNat, Int.reduceNe, Nat.reducePow, Nat.reduceShiftRight, Nat.reduceMod, Lv.pv, *])
      refine fin_retF (r0 := .osl (nx + 6) 0 ls.length 3) 1 cE2 (.of_eq ?_)
      exact frzF_row (pvB_len true) (frzF_pvB 0 _ true) hH
end
section
set_option maxRecDepth 20000
mutual
def OwnT (H : Nat → Option PObj) : Nat → Nat → List PV → Tm → Prop
  | lo, m, cs, .mk k n s ls args => ∃ a b, cs = [.sc (.int .i64 k), .sc (.int .i64 n), .sc (.string s), a, b] ∧
      ((ls = [] ∧ a = .sc (.slice none 0 0)) ∨ a = .fsl 3 (ls.map (Lv.pvB true))) ∧
      ((args = [] ∧ b = .sc (.slice none 0 0)) ∨ ∃ id cells w, lo ≤ id ∧ id < m ∧ b = .osl id 0 args.length 5 ∧ H id = some ⟨cells, w⟩ ∧ OwnTs H (id + 1) m cells args)
def OwnTs (H : Nat → Option PObj) : Nat → Nat → List PV → List Tm → Prop
  | _, _, cs, [] => cs = []
  | lo, m, cs, t :: r => ∃ c cr mid, cs = c ++ cr ∧ lo ≤ mid ∧ mid ≤ m ∧ OwnT H lo mid c t ∧ OwnTs H mid m cr r
end
mutual
theorem OwnT.mono {H H' : Nat → Option PObj} : ∀ (t : Tm) (lo lo' m m' : Nat) (cs : List PV), OwnT H lo m cs t → lo' ≤ lo → m ≤ m' → (∀ j, lo ≤ j → j < m → H' j = H j) → OwnT H' lo' m' cs t
  | .mk k n s ls args, lo, lo', m, m', cs, h, hlo, hm, hH => by
    simp only [OwnT] at h ⊢
    obtain ⟨a, b, e, ha, hb⟩ := h
    refine ⟨a, b, e, ha, ?_⟩
    rcases hb with hb | ⟨id, cells, w, h1, h2, h3, h4, h5⟩
    · exact .inl hb
    · exact .inr ⟨id, cells, w, by omega, by omega, h3, by rw [hH id h1 h2, h4], OwnTs.mono args (id + 1) (id + 1) m m' cells h5 (Nat.le_refl _) hm fun j h6 h7 => hH j (by omega) h7⟩
theorem OwnTs.mono {H H' : Nat → Option PObj} : ∀ (ts : List Tm) (lo lo' m m' : Nat) (cs : List PV), OwnTs H lo m cs ts → lo' ≤ lo → m ≤ m' → (∀ j, lo ≤ j → j < m → H' j = H j) → OwnTs H' lo' m' cs ts
  | [], _, _, _, _, cs, h, _, _, _ => by simpa only [OwnTs] using h
  | t :: r, lo, lo', m, m', cs, h, hlo, hm, hH => by
    simp only [OwnTs] at h ⊢
    obtain ⟨c, cr, mid, e, g1, g2, h1, h2⟩ := h
    exact ⟨c, cr, mid, e, by omega, by omega, OwnT.mono t lo lo' mid mid c h1 hlo (Nat.le_refl _) fun j a b => hH j a (by omega), OwnTs.mono r mid mid m m' cr h2 (Nat.le_refl _) hm fun j a b => hH j (by omega) b⟩
end
theorem OwnT.len {H : Nat → Option PObj} {lo m : Nat} {cs : List PV} {t : Tm} (h : OwnT H lo m cs t) : cs.length = 5 := by
  cases t
  simp only [OwnT] at h
  obtain ⟨a, b, rfl, _⟩ := h
  rfl
theorem OwnTs.len {H : Nat → Option PObj} {lo m : Nat} : ∀ (ts : List Tm) (cs : List PV), OwnTs H lo m cs ts → cs.length = ts.length * 5
  | [], cs, h => by simp only [OwnTs] at h; subst h; rfl
  | t :: r, cs, h => by
    simp only [OwnTs] at h
    obtain ⟨c, cr, mid, rfl, _, _, h1, h2⟩ := h
    rw [List.length_append, h1.len, OwnTs.len r cr h2, List.length_cons]
    omega
theorem OwnTs.snoc {H : Nat → Option PObj} {m m' : Nat} {t : Tm} {c : List PV} (hc : OwnT H m m' c t) (hm : m ≤ m') : ∀ (ts : List Tm) (lo : Nat) (cs : List PV), OwnTs H lo m cs ts → lo ≤ m → OwnTs H lo m' (cs ++ c) (ts ++ [t])
  | [], lo, cs, h, hl => by
    simp only [OwnTs] at h
    subst h
    simp only [List.nil_append, OwnTs]
    exact ⟨c, [], m', by simp, by omega, Nat.le_refl _, hc.mono _ _ _ _ _ _ hl (Nat.le_refl _) fun _ _ _ => rfl, rfl⟩
  | x :: r, lo, cs, h, hl => by
    simp only [OwnTs] at h
    obtain ⟨d, cr, mid, rfl, g1, g2, h1, h2⟩ := h
    simp only [List.cons_append, OwnTs]
    exact ⟨d, cr ++ c, mid, by simp, g1, by omega, h1, OwnTs.snoc hc hm r mid cr h2 g2⟩
def OwnW (H : Nat → Option PObj) (lo m : Nat) : List PV → List Tm → Prop
  | cs, [] => cs = []
  | cs, t :: r => ∃ c cr, cs = c ++ cr ∧ OwnT H lo m c t ∧ OwnW H lo m cr r
theorem OwnTs.weak {H : Nat → Option PObj} : ∀ (ts : List Tm) (lo m : Nat) (cs : List PV), OwnTs H lo m cs ts → ∀ lo' m', lo' ≤ lo → m ≤ m' → OwnW H lo' m' cs ts
  | [], _, _, cs, h, _, _, _, _ => by simpa only [OwnTs, OwnW] using h
  | t :: r, lo, m, cs, h, lo', m', h1, h2 => by
    simp only [OwnTs] at h
    obtain ⟨c, cr, mid, e, g1, g2, h3, h4⟩ := h
    exact ⟨c, cr, e, h3.mono _ _ _ _ _ _ h1 (by omega) fun _ _ _ => rfl, OwnTs.weak r mid m cr h4 lo' m' (by omega) h2⟩
theorem OwnW.mono {H H' : Nat → Option PObj} {lo lo' m m' : Nat} (hlo : lo' ≤ lo) (hm : m ≤ m') (hH : ∀ j, lo ≤ j → j < m → H' j = H j) : ∀ (ts : List Tm) (cs : List PV), OwnW H lo m cs ts → OwnW H' lo' m' cs ts
  | [], cs, h => h
  | t :: r, cs, ⟨c, cr, e, h1, h2⟩ => ⟨c, cr, e, h1.mono _ _ _ _ _ _ hlo hm hH, OwnW.mono hlo hm hH r cr h2⟩
theorem OwnW.len {H : Nat → Option PObj} {lo m : Nat} : ∀ (ts : List Tm) (cs : List PV), OwnW H lo m cs ts → cs.length = ts.length * 5
  | [], cs, h => by cases h; rfl
  | t :: r, cs, ⟨c, cr, e, h1, h2⟩ => by
    subst e
    rw [List.length_append, h1.len, OwnW.len r cr h2, List.length_cons]
    omega
theorem OwnTs.at {H : Nat → Option PObj} {m : Nat} : ∀ (ts : List Tm) (lo : Nat) (cs : List PV) (i : Nat) (hi : i < ts.length), OwnTs H lo m cs ts → lo ≤ m →
    ∃ p c q a b, cs = p ++ (c ++ q) ∧ p.length = i * 5 ∧ lo ≤ a ∧ a ≤ b ∧ b ≤ m ∧ OwnTs H lo a p (ts.take i) ∧ OwnT H a b c ts[i] ∧ OwnTs H b m q (ts.drop (i + 1))
  | t :: r, lo, cs, 0, hi, h, hlm => by
    simp only [OwnTs] at h
    obtain ⟨c, cr, mid, e, g1, g2, h1, h2⟩ := h
    exact ⟨[], c, cr, lo, mid, by simp [e], rfl, Nat.le_refl _, g1, g2, rfl, h1, h2⟩
  | t :: r, lo, cs, i + 1, hi, h, hlm => by
    simp only [OwnTs] at h
    obtain ⟨c, cr, mid, e, g1, g2, h1, h2⟩ := h
    obtain ⟨p, c', q, a, b, e2, hl, ha, hab, hb, k1, k2, k3⟩ := OwnTs.at r mid cr i (by simpa using hi) h2 g2
    refine ⟨c ++ p, c', q, a, b, by rw [e, e2, List.append_assoc], by rw [List.length_append, h1.len, hl]; omega, by omega, hab, hb, ?_, by simpa using k2, by simpa using k3⟩
    simp only [List.take_succ_cons, OwnTs]
    exact ⟨c, p, mid, rfl, g1, ha, h1, k1⟩
theorem OwnTs.append {H : Nat → Option PObj} {m b : Nat} : ∀ (ts us : List Tm) (lo : Nat) (cs ds : List PV), OwnTs H lo b cs ts → OwnTs H b m ds us → lo ≤ b → b ≤ m → OwnTs H lo m (cs ++ ds) (ts ++ us)
  | [], us, lo, cs, ds, h, k, h1, h2 => by
    simp only [OwnTs] at h
    subst h
    exact k.mono _ _ _ _ _ _ h1 (Nat.le_refl _) fun _ _ _ => rfl
  | t :: r, us, lo, cs, ds, h, k, h1, h2 => by
    simp only [OwnTs] at h
    obtain ⟨c, cr, mid, e, g1, g2, h3, h4⟩ := h
    simp only [List.cons_append, OwnTs]
    exact ⟨c, cr ++ ds, mid, by rw [e, List.append_assoc], g1, by omega, h3, OwnTs.append r us mid cr ds h4 k g2 h2⟩
theorem chunks_flatten (sz : Nat) : ∀ (n : Nat) (xs : List PV), xs.length = n * sz → (chunks sz n xs).flatten = xs
  | 0, xs, h => by
    obtain rfl : xs = [] := List.eq_nil_of_length_eq_zero (by simpa using h)
    rfl
  | n + 1, xs, h => by
    simp only [chunks, List.flatten_cons]
    rw [chunks_flatten sz n (xs.drop sz) (by rw [List.length_drop, h, Nat.succ_mul]; omega), List.take_append_drop]
theorem chunks_length (sz : Nat) : ∀ (n : Nat) (xs : List PV), (chunks sz n xs).length = n
  | 0, _ => rfl
  | n + 1, xs => by simp only [chunks, List.length_cons, chunks_length sz n]
theorem Weak.fslW {sz : Nat} {es es' : List (List PV)} (hl : es.length = es'.length) (hs : ∀ e ∈ es', e.length = sz) (h : WeakL es.flatten es'.flatten) : Weak (.fsl sz es) (.fsl sz es') := fun V v hv => by
  cases hv with
  | fsl _ _ _ hcl hv =>
    refine .fsl sz es' v (fun b off len cap e he => hcl b off len cap e fun h0 => he ?_) (Weak.sl hl hs h V v hv)
    rw [h0] at hl
    exact List.eq_nil_of_length_eq_zero hl.symm
mutual
theorem OwnT.frz {H : Nat → Option PObj} : ∀ (t : Tm) (lo m : Nat) (cs : List PV), OwnT H lo m cs t → ∀ k, t.size ≤ k → WeakL (cs.map (frzF k H)) (t.pvB true)
  | .mk kind n s ls args, lo, m, cs, h, k, hk => by
    simp only [OwnT] at h
    obtain ⟨a, b, rfl, ha, hb⟩ := h
    simp only [Tm.size] at hk
    obtain ⟨k, rfl⟩ : ∃ k', k = k' + 1 := ⟨k - 1, by omega⟩
    rw [Tm.pvB]
    simp only [List.map_cons, List.map_nil]
    refine ⟨.of_eq (frzF_sc _ _ _), .of_eq (frzF_sc _ _ _), .of_eq (frzF_sc _ _ _), ?_, ?_, trivial⟩
    · rcases ha with ⟨rfl, rfl⟩ | rfl
      · exact .trans (.of_eq (frzF_sc _ _ _)) (Weak.nilF 3)
      · exact .refl _
    · rcases hb with ⟨rfl, rfl⟩ | ⟨id, cells, w, h1, h2, rfl, h4, h5⟩
      · exact .trans (.of_eq (frzF_sc _ _ _)) (Weak.nilF 5)
      · have hl := OwnTs.len args cells h5
        have hw := OwnTs.frz args (id + 1) m cells h5 k (by omega)
        simp only [Go.Proofs.Ytnoilfjeamffnaa.frzF, h4, List.drop_zero]
        rw [if_pos (by omega), List.take_of_length_le (by omega)]
        refine Weak.fslW (by rw [chunks_length, List.length_map]) (fun e he => ?_) ?_
        · obtain ⟨t, _, rfl⟩ := List.mem_map.1 he
          exact tpvB_len true t
        · rw [chunks_flatten 5 args.length _ (by rw [List.length_map, hl])]
          exact hw
theorem OwnTs.frz {H : Nat → Option PObj} : ∀ (ts : List Tm) (lo m : Nat) (cs : List PV), OwnTs H lo m cs ts → ∀ k, sizeL ts ≤ k → WeakL (cs.map (Go.Proofs.Ytnoilfjeamffnaa.frzF k H)) (ts.map (Tm.pvB true)).flatten
  | [], _, _, cs, h, _, _ => by
    simp only [OwnTs] at h
    subst h
    trivial
  | t :: r, lo, m, cs, h, k, hk => by
    simp only [OwnTs] at h
    obtain ⟨c, cr, mid, rfl, _, _, h1, h2⟩ := h
    simp only [sizeL] at hk
    simp only [List.map_append, List.map_cons, List.flatten_cons]
    exact (OwnT.frz t lo mid c h1 k (by omega)).append (OwnTs.frz r mid m cr h2 k (by omega))
end
theorem OwnW.frz {H : Nat → Option PObj} {lo m : Nat} : ∀ (ts : List Tm) (cs : List PV), OwnW H lo m cs ts → ∀ k, sizeL ts ≤ k → WeakL (cs.map (Go.Proofs.Ytnoilfjeamffnaa.frzF k H)) (ts.map (Tm.pvB true)).flatten
  | [], cs, h, _, _ => by cases h; trivial
  | t :: r, cs, ⟨c, cr, e, h1, h2⟩, k, hk => by
    subst e
    simp only [sizeL] at hk
    simp only [List.map_append, List.map_cons, List.flatten_cons]
    exact (OwnT.frz t _ _ c h1 k (by omega)).append (OwnW.frz r cr h2 k (by omega))
end
section
set_option maxRecDepth 20000
attribute [local go_sem] pv_len pv_take Nat.add_assoc tm_len tm_take pv_one tm_one tpvB_len tpvB_take tpvB_one pvB_len pvB_take pvB_one id_ne id_ne' id_ne2 List.append_assoc
def zero5 : List PV := [.sc (.int .i64 0), .sc (.int .i64 0), .sc (.string ⟨#[]⟩), .sc (.slice none 0 0), .sc (.slice none 0 0)]
theorem at_take (p q : List PV) (off i : Nat) (h : p.length = off) : (p ++ q).take (off + i) = p ++ q.take i := by subst h; rw [List.take_append, List.take_of_length_le (by omega), Nat.add_sub_cancel_left]
theorem at_drop (p q : List PV) (off i : Nat) (h : p.length = off) : (p ++ q).drop (off + i) = q.drop i := by subst h; rw [List.drop_append, List.drop_eq_nil_of_le (by omega), Nat.add_sub_cancel_left, List.nil_append]
set_option maxHeartbeats 16000000 in
theorem copyTo_p : ∀ (fuel : Nat) (t : Tm), t.size ≤ fuel → t.nodes ≤ 2 ^ 40 → ∀ (H : Nat → Option PObj) (nx id off : Nat) (p q : List PV) (w : Bool), H id = some ⟨p ++ (zero5 ++ q), w⟩ → id < nx → p.length = off →
    PMut Try.prog F.term_copyTo [.optr id off, .ptr t.pv] H nx (fun H' nx' r => nx ≤ nx' ∧ ∃ cs, H' id = some ⟨p ++ (cs ++ q), w⟩ ∧ OwnT H' nx nx' cs t ∧ ∀ j, j ≠ id → j < nx → H' j = H j) := by
  intro fuel
  induction fuel with
  | zero => intro t h; have := size_pos t; omega
  | succ fuel ih =>
    intro t hf hm H nx id off p q w hH hid hoff
    cases t with
    | mk k n s ls args =>
    simp only [Tm.size] at hf
    simp only [Tm.nodes] at hm
    refine mut_by is_term_copyTo (by simp) fun hb => ?_
    have hb0 : ls.length ≤ 9223372036854775807 ∧ args.length ≤ 9223372036854775807 := by simp [Tm.pv, bndL, PV.bnd] at hb; exact ⟨hb.1.1, hb.2.1⟩
    rw [zero5] at hH
    have at0 : ∀ x, List.take off (p ++ x) = p := fun x => List.take_left' hoff
    have at1 : ∀ x i, List.take (off + i) (p ++ x) = p ++ List.take i x := fun x i => at_take p x off i hoff
    have at2 : ∀ x i, List.drop (off + i) (p ++ x) = List.drop i x := fun x i => at_drop p x off i hoff
    have at3 : off + 1 ≤ off + (q.length + 5) ∧ off + 2 ≤ off + (q.length + 5) ∧ off + 3 ≤ off + (q.length + 5) ∧ off + 4 ≤ off + (q.length + 5) ∧ off + 5 ≤ off + (q.length + 5) := by omega
    by_cases hz : args.length = 0
    · obtain rfl : args = [] := List.eq_nil_of_length_eq_zero hz
      repeat' (first | ((with_reducible first | refine wA (by omega) ?_ | refine wB (by omega) ?_ | refine wC (by omega) ?_ | refine wD (by omega) ?_ | refine wE ?_ ?_ | refine wF ?_ ?_ | refine wG ?_ ?_ | refine wH ?_ ?_ | refine wI ?_ ?_ | refine wJ ?_ ?_ | refine wK ?_ ?_ | refine wL ?_ ?_) <;> intro _) | (((with_reducible refine call_id ?_); (first | (refine call_pure (cloneLevels_pF ls (by omega)) ?_)))) | simp (maxSteps := 1000000) (disch := omega) only [go_sem, Nat.reduceAdd, Nat.reduceMul, Nat.reduceSub, Nat.reduceLeDiff, Nat.reduceEqDiff, Nat.reduceBEq, ↓reduceIte, reduceCtorEq, Int.reduceEq, Int.reduceLE, Int.reduceLT, Int.reduceAdd, Int.reduceSub, Int.reduceNeg, Int.reduceToNat, Int.reduceNe, Nat.reducePow, Nat.reduceShiftRight, Nat.reduceMod, mc_term_copyTo, Tm.pv, at0, at1, at2, at3, List.take_succ_cons, List.drop_succ_cons, List.take_zero, List.drop_zero, List.cons_append, List.nil_append, *])
      refine c_rounds 1 ?_
      repeat' (first | ((with_reducible first | refine wA (by omega) ?_ | refine wB (by omega) ?_ | refine wC (by omega) ?_ | refine wD (by omega) ?_ | refine wE ?_ ?_ | refine wF ?_ ?_ | refine wG ?_ ?_ | refine wH ?_ ?_ | refine wI ?_ ?_ | refine wJ ?_ ?_ | refine wK ?_ ?_ | refine wL ?_ ?_) <;> intro _) | simp (maxSteps := 1000000) (disch := omega) only [go_sem, Nat.reduceAdd, Nat.reduceMul, Nat.reduceSub, Nat.reduceLeDiff, Nat.reduceEqDiff, Nat.reduceBEq, ↓reduceIte, reduceCtorEq, Int.reduceEq, Int.reduceLE, Int.reduceLT, Int.reduceAdd, Int.reduceSub, Int.reduceNeg, Int.reduceToNat, Int.reduceNe, Nat.reducePow, Nat.reduceShiftRight, Nat.reduceMod, rounds_next, *])
      refine fin_mut (.tup []) (.inl rfl) rfl ⟨Nat.le_add_right _ _, [.sc (.int .i64 k), .sc (.int .i64 n), .sc (.string s), .fsl 3 (ls.map (Lv.pvB true)), .sc (.slice none 0 0)], ?_, ?_, fun j h1 h2 => ?_⟩
      · simp [upd]
      · exact ⟨_, _, rfl, .inr rfl, .inl ⟨rfl, rfl⟩⟩
      · simp [upd, h1]
    · have hz0 : 0 < args.length := by omega
      have hla := len_nodesT args
      have hz1 : 80 * (args.length : Int) ≤ 2 ^ 47 := by omega
      have hz2 : (args.length : Int) ≤ 2 ^ 47 := by omega
      repeat' (first | ((with_reducible first | refine wA (by omega) ?_ | refine wB (by omega) ?_ | refine wC (by omega) ?_ | refine wD (by omega) ?_ | refine wE ?_ ?_ | refine wF ?_ ?_ | refine wG ?_ ?_ | refine wH ?_ ?_ | refine wI ?_ ?_ | refine wJ ?_ ?_ | refine wK ?_ ?_ | refine wL ?_ ?_) <;> intro _) | (((with_reducible refine call_id ?_); (first | (refine call_pure (cloneLevels_pF ls (by omega)) ?_)))) | simp (maxSteps := 1000000) (disch := omega) only [go_sem, Nat.reduceAdd, Nat.reduceMul, Nat.reduceSub, Nat.reduceLeDiff, Nat.reduceEqDiff, Nat.reduceBEq, ↓reduceIte, reduceCtorEq, Int.reduceEq, Int.reduceLE, Int.reduceLT, Int.reduceAdd, Int.reduceSub, Int.reduceNeg, Int.reduceToNat, Int.reduceNe, Nat.reducePow, Nat.reduceShiftRight, Nat.reduceMod, mc_term_copyTo, Tm.pv, at0, at1, at2, at3, List.take_succ_cons, List.drop_succ_cons, List.take_zero, List.drop_zero, List.cons_append, List.nil_append, hz1, hz2, and_self, *])
      refine c_loopW 2361165227036313124880 (by kernel_rfl) (fun j f H2 m => ∃ (i : Nat) (cs : List PV), j = args.length - i ∧ i ≤ args.length ∧ f 54 = .sc (.int .i64 i) ∧ nx + 45 < m ∧ H2 id = some ⟨p ++ .sc (.int .i64 k) :: .sc (.int .i64 n) :: .sc (.string s) :: .fsl 3 (ls.map (Lv.pvB true)) :: .osl (nx + 45) 0 args.length 5 :: q, w⟩ ∧ H2 (nx + 45) = some ⟨cs ++ zeros [.int .i64 0, .int .i64 0, .string ⟨#[]⟩, .slice none 0 0, .slice none 0 0] (args.length - i), true⟩ ∧ cs.length = i * 5 ∧ Kept (OwnTs H2 (nx + 46) m cs (args.take i)) ∧ Kept (∀ j', j' ≠ id → j' < nx → H2 j' = H j')) _ ⟨0, [], rfl, cE1, cE1, ?mm, ?h1, ?h2, rfl, Kept.mk rfl, Kept.mk fun j' g1 g2 => ?h3⟩ ?_
      case mm => exact (by omega : nx + 45 < nx + 55)
      case h1 => simp [upd]; try omega
      case h2 => simp [upd]; try omega
      case h3 => simp [upd, g1]; try omega
      rintro _ f H2 m ⟨i, cs, rfl, hi, e54, hm2, hHi, hHb, hcl, ho, hk⟩
      by_cases hlt : i < args.length
      · have eg : args[i]? = some args[i] := List.getElem?_eq_getElem hlt
        have hn := nodesT_mem args i hlt
        have hs := sizeL_mem args i hlt
        repeat' (first | ((with_reducible first | refine wA (by omega) ?_ | refine wB (by omega) ?_ | refine wC (by omega) ?_ | refine wD (by omega) ?_ | refine wE ?_ ?_ | refine wF ?_ ?_ | refine wG ?_ ?_ | refine wH ?_ ?_ | refine wI ?_ ?_ | refine wJ ?_ ?_ | refine wK ?_ ?_ | refine wL ?_ ?_) <;> intro _) | simp (maxSteps := 1000000) (disch := omega) only [go_sem, Nat.reduceAdd, Nat.reduceMul, Nat.reduceSub, Nat.reduceLeDiff, Nat.reduceEqDiff, Nat.reduceBEq, ↓reduceIte, reduceCtorEq, Int.reduceEq, Int.reduceLE, Int.reduceLT, Int.reduceAdd, Int.reduceSub, Int.reduceNeg, Int.reduceToNat, Int.reduceNe, Nat.reducePow, Nat.reduceShiftRight, Nat.reduceMod, Tm.pv, at0, at1, at2, at3, List.take_succ_cons, List.drop_succ_cons, List.take_zero, List.drop_zero, List.cons_append, List.nil_append, *])
        obtain ⟨r, hr⟩ : ∃ r, args.length - i = r + 1 := ⟨args.length - i - 1, by omega⟩
        rw [hr] at hHb
        refine call_mut (ih args[i] (by omega) (by omega) _ _ (nx + 45) (i * 5) cs (zeros [.int .i64 0, .int .i64 0, .string ⟨#[]⟩, .slice none 0 0, .slice none 0 0] r) true hHb (Nat.lt_of_lt_of_le hm2 (Nat.le_add_right _ _)) hcl) ?_
        rintro H' nx' r' ⟨hn1, c, hc1, hc2, hc4⟩ -
        have hn2 : m ≤ nx' := Nat.le_trans (Nat.le_add_right _ _) hn1
        have hc3 : ∀ j, j ≠ nx + 45 → j < m → H' j = H2 j := fun j a b => hc4 j a (Nat.lt_of_lt_of_le b (Nat.le_add_right _ _))
        have hne : nx + 45 ≠ id := by omega
        have hHi' : H' id = _ := (hc3 id hne.symm (by omega)).trans hHi
        have hrr : args.length - (i + 1) = r := by omega
        have hl5 := hc2.len
        have ho' : Kept (OwnTs H' (nx + 46) nx' (cs ++ c) (args.take (i + 1))) := Kept.mk (by
          rw [List.take_succ_eq_append_getElem hlt]
          exact OwnTs.snoc (hc2.mono _ _ _ _ _ _ (Nat.le_add_right _ _ : m ≤ _) (Nat.le_refl _) fun j _ _ => rfl) (by omega) _ _ _ (ho.out.mono _ _ _ _ _ _ (Nat.le_refl _) (Nat.le_refl _) fun j h1 h2 => hc3 j (by omega) (by omega)) (by omega))
        have hk' : Kept (∀ j', j' ≠ id → j' < nx → H' j' = H j') := Kept.mk fun j' g1 g2 => by rw [hc3 j' (by omega) (by omega), hk.out j' g1 g2]
        clear ih ho hk hc3 hc4 hc2 hn1 hHi hHb
        repeat' (first | ((with_reducible first | refine wA (by omega) ?_ | refine wB (by omega) ?_ | refine wC (by omega) ?_ | refine wD (by omega) ?_ | refine wE ?_ ?_ | refine wF ?_ ?_ | refine wG ?_ ?_ | refine wH ?_ ?_ | refine wI ?_ ?_ | refine wJ ?_ ?_ | refine wK ?_ ?_ | refine wL ?_ ?_) <;> intro _) | simp (maxSteps := 1000000) (disch := omega) only [go_sem, Nat.reduceAdd, Nat.reduceMul, Nat.reduceSub, Nat.reduceLeDiff, Nat.reduceEqDiff, Nat.reduceBEq, ↓reduceIte, reduceCtorEq, Int.reduceEq, Int.reduceLE, Int.reduceLT, Int.reduceAdd, Int.reduceSub, Int.reduceNeg, Int.reduceToNat, Int.reduceNe, Nat.reducePow, Nat.reduceShiftRight, Nat.reduceMod, *])
        refine Nx.mk (args.length - (i + 1)) cE1 ⟨i + 1, cs ++ c, rfl, cE1, cE1, ?mm, hHi', ?h1, ?h2, ?h4, hk'⟩
        case mm => exact (by omega : nx + 45 < nx' + 2)
        case h4 => exact Kept.mk (ho'.out.mono _ _ _ _ _ _ (Nat.le_refl _) (by omega : nx' ≤ nx' + 2) fun _ _ _ => rfl)
        case h1 => rw [hrr, List.append_assoc]; exact hc1
        case h2 => rw [List.length_append, hl5, hcl, Nat.succ_mul]
      · obtain rfl : i = args.length := by omega
        have hkk := hk.out
        have hoo := ho.out
        rw [List.take_length] at hoo
        have hk2 := Kept.mk hkk
        have ho2 := Kept.mk hoo
        clear hk ho hkk hoo ih
        repeat' (first | ((with_reducible first | refine wA (by omega) ?_ | refine wB (by omega) ?_ | refine wC (by omega) ?_ | refine wD (by omega) ?_ | refine wE ?_ ?_ | refine wF ?_ ?_ | refine wG ?_ ?_ | refine wH ?_ ?_ | refine wI ?_ ?_ | refine wJ ?_ ?_ | refine wK ?_ ?_ | refine wL ?_ ?_) <;> intro _) | simp (maxSteps := 1000000) (disch := omega) only [go_sem, Nat.reduceAdd, Nat.reduceMul, Nat.reduceSub, Nat.reduceLeDiff, Nat.reduceEqDiff, Nat.reduceBEq, ↓reduceIte, reduceCtorEq, Int.reduceEq, Int.reduceLE, Int.reduceLT, Int.reduceAdd, Int.reduceSub, Int.reduceNeg, Int.reduceToNat, Int.reduceNe, Nat.reducePow, Nat.reduceShiftRight, Nat.reduceMod, *])
        refine fin_mut (.tup []) (.inl rfl) rfl ⟨?g1, [.sc (.int .i64 k), .sc (.int .i64 n), .sc (.string s), .fsl 3 (ls.map (Lv.pvB true)), .osl (nx + 45) 0 args.length 5], hHi, ?g2, hk2.out⟩
        case g1 => exact Nat.le_trans (by omega : nx ≤ m) (Nat.le_add_right _ _)
        case g2 =>
          have hfin : OwnT H2 nx m [.sc (.int .i64 k), .sc (.int .i64 n), .sc (.string s), .fsl 3 (ls.map (Lv.pvB true)), .osl (nx + 45) 0 args.length 5] (.mk k n s ls args) := ⟨_, _, rfl, .inr rfl, .inr ⟨nx + 45, _, _, by omega, hm2, rfl, hHb, by rw [Nat.sub_self]; simp only [zeros, List.append_nil]; exact ho2.out⟩⟩
          exact OwnT.mono _ _ _ _ _ _ hfin (Nat.le_refl _) (Nat.le_add_right _ _) fun _ _ _ => rfl
end
section
set_option maxRecDepth 20000
attribute [local go_sem] pv_len pv_take Nat.add_assoc tm_len tm_take pv_one tm_one tpvB_len tpvB_take tpvB_one pvB_len pvB_take pvB_one id_ne id_ne' id_ne2 List.append_assoc
theorem OwnT.one {H : Nat → Option PObj} {lo m : Nat} {cs : List PV} {t : Tm} (h : OwnT H lo m cs t) : cs.all PV.one = true := by
  cases t
  simp only [OwnT] at h
  obtain ⟨a, b, rfl, h1, h2⟩ := h
  rcases h1 with ⟨_, rfl⟩ | rfl <;> rcases h2 with ⟨_, rfl⟩ | ⟨_, _, _, _, _, rfl, _⟩ <;> rfl
set_option maxHeartbeats 4000000 in
theorem clone_m (t : Tm) (hm : t.nodes ≤ 2 ^ 40) (H : Nat → Option PObj) (nx : Nat) :
    PMut Try.prog F.term_clone [.ptr t.pv] H nx (fun H' nx' r => nx ≤ nx' ∧ ∃ cs, r = .agg cs ∧ OwnT H' nx nx' cs t ∧ ∀ j, j < nx → H' j = H j) := by
  refine mut_by is_term_clone (by simp) fun hb => ?_
  repeat' (first | ((with_reducible first | refine wA (by omega) ?_ | refine wB (by omega) ?_ | refine wC (by omega) ?_ | refine wD (by omega) ?_ | refine wE ?_ ?_ | refine wF ?_ ?_ | refine wG ?_ ?_ | refine wH ?_ ?_ | refine wI ?_ ?_ | refine wJ ?_ ?_ | refine wK ?_ ?_ | refine wL ?_ ?_) <;> intro _) | simp (maxSteps := 1000000) (disch := omega) only [go_sem, Nat.reduceAdd, Nat.reduceMul, Nat.reduceSub, Nat.reduceLeDiff, Nat.reduceEqDiff, Nat.reduceBEq, ↓reduceIte, reduceCtorEq, Int.reduceEq, Int.reduceLE, Int.reduceLT, Int.reduceAdd, Int.reduceSub, Int.reduceNeg, Int.reduceToNat, Int.reduceNe, Nat.reducePow, Nat.reduceShiftRight, Nat.reduceMod, mc_term_clone, *])
  refine call_mut (copyTo_p t.size t (Nat.le_refl _) hm _ _ (nx + 1) 0 [] [] true (by simp [upd, zero5]) (by simp) rfl) ?_
  rintro H' nx' r' ⟨hn1, cs, hc1, hc2, hc4⟩ -
  have hl := hc2.len
  have hone := hc2.one
  simp only [List.nil_append, List.append_nil] at hc1
  have ht : List.take 5 cs = cs := List.take_of_length_le (by omega)
  have h0 : H' nx = some ⟨[.sc (.int .i64 0), .sc (.int .i64 0), .sc (.string ⟨#[]⟩), .sc (.slice none 0 0), .sc (.slice none 0 0)], true⟩ := (hc4 nx (by omega) (by show nx < nx + 4; omega)).trans (by simp [upd])
  have hn1' : nx + 4 ≤ nx' := hn1
  have hc2' : OwnT H' (nx + 4) nx' cs t := hc2
  have hc4' : Kept (∀ j, j < nx → H' j = H j) := Kept.mk fun j hj => (hc4 j (by omega) (by show j < nx + 4; omega)).trans (by simp [upd, show j ≠ nx by omega, show j ≠ nx + 1 by omega])
  have hc3 := Kept.mk hc2'
  clear hc4 hc2 hc2' hn1
  repeat' (first | ((with_reducible first | refine wA (by omega) ?_ | refine wB (by omega) ?_ | refine wC (by omega) ?_ | refine wD (by omega) ?_ | refine wE ?_ ?_ | refine wF ?_ ?_ | refine wG ?_ ?_ | refine wH ?_ ?_ | refine wI ?_ ?_ | refine wJ ?_ ?_ | refine wK ?_ ?_ | refine wL ?_ ?_) <;> intro _) | simp (maxSteps := 1000000) (disch := omega) only [go_sem, Nat.reduceAdd, Nat.reduceMul, Nat.reduceSub, Nat.reduceLeDiff, Nat.reduceEqDiff, Nat.reduceBEq, ↓reduceIte, reduceCtorEq, Int.reduceEq, Int.reduceLE, Int.reduceLT, Int.reduceAdd, Int.reduceSub, Int.reduceNeg, Int.reduceToNat, Int.reduceNe, Nat.reducePow, Nat.reduceShiftRight, Nat.reduceMod, *])
  refine fin_mut (.agg cs) (.inr rfl) (by (simp (disch := omega) only [go_sem, Nat.reduceMul, Nat.reduceSub, Nat.reduceShiftRight, Nat.reduceMod, Nat.reduceEqDiff, Nat.reduceAdd, ↓reduceIte, Nat.reduceLeDiff, hl, ht, *]); all_goals rfl) ⟨?g1, cs, rfl, ?g2, fun j hj => ?g3⟩
  case g1 => exact Nat.le_trans (by omega : nx ≤ nx') (Nat.le_add_right _ _)
  case g2 => exact hc3.out.mono _ _ _ _ _ _ (by omega) (Nat.le_add_right _ _) fun j h1 h2 => upd_ne _ _ (by omega)
  case g3 =>
    exact (upd_ne _ _ (by omega)).trans (hc4'.out j hj)
theorem clone_pF2 (t : Tm) (hm : t.nodes ≤ 2 ^ 40) : PPure Try.prog F.term_clone [.ptr t.pv] (.agg (t.pvB true)) := by
  refine PMut.pure (by simp [PV.imm, tpvB_imm]) (fun nx => clone_m t hm noneOwn nx) fun nx H' nx' r0 h => ?_
  obtain ⟨_, cs, rfl, h, _⟩ := h
  refine ⟨t.size + 1, ?_⟩
  rw [frzF_agg1]
  exact Weak.agg (h.frz _ _ _ _ _ (Nat.le_refl _))
end
end Go.Proofs.Ytnoilfjeamffnaa
