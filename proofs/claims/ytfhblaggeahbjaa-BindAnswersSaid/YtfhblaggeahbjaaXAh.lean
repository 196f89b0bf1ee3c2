/-
  Plain values: TnL, TnM, TrB, TrC, TnN, TrE, TrD, ToJ, ToK, TrG, ToL, TpA.
-/
import Derived.Sort.Walk0
import Derived.Lib.ByteType
import Derived.Test.YtfhblaggeahbjaaXAa
import Derived.Test.YtfhblaggeahbjaaXAb
import Derived.Test.YtfhblaggeahbjaaXAc
import Derived.Test.YtfhblaggeahbjaaXAd
import Derived.Test.YtfhblaggeahbjaaXAe
import Derived.Test.YtfhblaggeahbjaaXAf
import Derived.Test.YtfhblaggeahbjaaXAg
set_option linter.unusedVariables false
set_option linter.unusedSimpArgs false
namespace Go.Proofs.Ytfhblaggeahbjaa
open Go.RowKit
attribute [local go_sem ↓] c_seq c_region c_cond c_block c_ret c_skip c_exit c_cont t_normal t_ret t_exit b_normal b_ret b_exit run_nil run_cons g_some o_mv o_pick o_bin o_un o_ld o_ldf o_bld o_len o_mkf o_nilc o_fa o_fd o_ia o_iaa o_ix o_ixs o_ext o_al o_bxf o_bxt o_bsl o_bslf o_mks o_st o_stf o_call o_rng o_nxt o_callm o_callmA o_calvm o_calv cond_true cond_false upd_get sigF_cons o_eqa o_mm o_app o_slc
attribute [local go_sem] num_nil num_cons isP chunks rngV next_is next_iter val_some new_some st_some stf_some guard_tt guard_ff guard_tf guard_ft guard_un calv_fn put_some put_none ev_tmp ev_const ev_func sig_eq sigF_nil q0 q1 nilcV faV fdV iaV iaaV ixV ixsV extV mksV loadP storeP lenPV binPV unPV intBin partsP fillP zeros PV.good PV.cellsOf PV.one q2 q3 q4 q5 q6 q7 q8 q9 q10 q11 q12 q13 q14 q15 q16 q17 q18 q19 q20 q21 q22 q23 q24 q25 q26 q27 q28 q29 q30 q31 q32 q33 q34 q35 q36 q37 q38 wrap64 app_some mmL mmV mm2 eqE eqParts eqInt eqBool eqStr partV q39 q40 pickV q41 q42 q43 q44 q45 q46 q47 q48 q49 appE oldOf rowOf updL q50 q51 q52 q53 zlt ovr_get ite_neN ite_eqN q54 q55 q56 q57 q58 q59 q60 q61 q62 q63 q64 q65 q66 q67 tailP_f tailP_t tailF_f tailF_t slcP bndO capO slcLen intOf Option.isSome_none Option.isNone_none Option.isSome_some Option.isNone_some nilP slc_sl slc_csl slc_osl slc_osl0 slc_ocap slc_str List.append_nil List.length_append resP resPs resP1 PV.sc.injEq Value.bool.injEq Value.int.injEq
section
set_option maxRecDepth 20000
attribute [local go_sem] pv_len pv_take Nat.add_assoc id_ne id_ne' id_ne2 List.append_assoc
def bl (y x : ByteArray) : Bool := Op.bytesLess y.toList x.toList
theorem fold_bl {y x : ByteArray} : Op.bytesLess y.toList x.toList = bl y x := nr rfl
def strP (s : ByteArray) : PV := .sc (.string s)
def posT (x : ByteArray) : List ByteArray → Nat
  | [] => 0
  | y :: r => if bl y x = true then posT x r + 1 else 0
theorem posT_eq (x : ByteArray) : ∀ (ys : List ByteArray) (k : Nat), k ≤ ys.length → (∀ j (h : j < ys.length), j < k → bl ys[j] x = true) → (∀ h : k < ys.length, bl ys[k] x = false) → posT x ys = k
  | [], k, h, _, _ => by simp at h; subst h; rfl
  | y :: r, 0, _, _, h2 => by
    have := h2 (by simp)
    simp only [posT]
    rw [if_neg]
    simpa using this
  | y :: r, k + 1, h, h1, h2 => by
    have hy := h1 0 (by simp) (by omega)
    simp only [posT]
    rw [if_pos (by simpa using hy), posT_eq x r k (by simpa using h) (fun j hj hk => h1 (j + 1) (by simpa using hj) (by omega)) fun hk => h2 (by simpa using hk)]
def insT (x : ByteArray) (ys : List ByteArray) : List ByteArray := if ys[posT x ys]? = some x then ys else ys.take (posT x ys) ++ x :: ys.drop (posT x ys)
theorem insT_len (x : ByteArray) (ys : List ByteArray) : (insT x ys).length ≤ ys.length + 1 := by
  unfold insT
  split
  · omega
  · simp; omega
def insAll (xs : List ByteArray) : List ByteArray := xs.foldl (fun ys x => insT x ys) []
theorem insAll_snoc (xs : List ByteArray) (x : ByteArray) : insAll (xs ++ [x]) = insT x (insAll xs) := by simp [insAll]
theorem insAll_len (xs : List ByteArray) : (insAll xs).length ≤ xs.length := by
  suffices h : ∀ (xs ys : List ByteArray), (xs.foldl (fun ys x => insT x ys) ys).length ≤ ys.length + xs.length by have := h xs []; simp only [List.length_nil, Nat.zero_add] at this; exact this
  intro xs
  induction xs with
  | nil => intro ys; simp
  | cons x r ih =>
    intro ys
    have h1 := ih (insT x ys)
    have h2 := insT_len x ys
    simp only [List.foldl_cons, List.length_cons]
    omega
theorem strP_flat : ∀ ys : List ByteArray, (ys.map txt).flatten = ys.map strP
  | [] => rfl
  | y :: r => by simp only [List.map_cons, List.flatten_cons, strP_flat r]; rfl
theorem row_frS {H : Nat → Option PObj} {id : Nat} {ys : List ByteArray} {w : Bool} (h : H id = some ⟨ys.map strP, w⟩) : Weak (frzF 1 H (.osl id 0 ys.length 1)) (.sl 1 (ys.map txt)) := by
  simp only [frzF, h, List.drop_zero]
  rw [if_pos (by simp), List.take_of_length_le (by simp), List.map_id']
  refine .trans (Weak.fslW (es' := ys.map txt) (by rw [chunks_length, List.length_map]) (fun e he => ?_) ?_) (Weak.fsl 1 _)
  · obtain ⟨t, _, rfl⟩ := List.mem_map.1 he; rfl
  · rw [chunks_flatten 1 _ _ (by simp), strP_flat]
    exact .refl _
theorem txts_immLL : ∀ ys : List ByteArray, immLL (ys.map txt) = true
  | [] => rfl
  | y :: r => by simp only [List.map_cons, immLL, txts_immLL r]; rfl
def RowS (H : Nat → Option PObj) (m : Nat) (a : PV) (ys : List ByteArray) : Prop := (ys = [] ∧ a = .sl 1 []) ∨ ∃ id w, id < m ∧ a = .osl id 0 ys.length 1 ∧ H id = some ⟨ys.map strP, w⟩
set_option maxRecDepth 100000 in
set_option maxHeartbeats 16000000 in
theorem ref01_Sort_p (xs : List ByteArray) (hl : xs.length ≤ 2 ^ 40) : PPure Try.prog F.ref01_Sort [.sl 1 (xs.map txt)] (.sl 1 ((insAll xs).map txt)) := by
  refine pure_by is_ref01_Sort (by simp) (by simp [PV.imm, txts_immLL]) fun hb nx => ?_
  clear hb
  repeat' (first | ((with_reducible first | refine wA (by omega) ?_ | refine wB (by omega) ?_ | refine wC (by omega) ?_ | refine wD (by omega) ?_ | refine wE ?_ ?_ | refine wF ?_ ?_ | refine wG ?_ ?_ | refine wH ?_ ?_ | refine wI ?_ ?_ | refine wJ ?_ ?_ | refine wK ?_ ?_ | refine wL ?_ ?_) <;> intro _) | simp (maxSteps := 1000000) (disch := omega) only [go_sem, Nat.reduceAdd, Nat.reduceMul, Nat.reduceSub, Nat.reduceLeDiff, Nat.reduceEqDiff, Nat.reduceBEq, ↓reduceIte, reduceCtorEq, Int.reduceEq, Int.reduceLE, Int.reduceLT, Int.reduceAdd, Int.reduceSub, Int.reduceNeg, Int.reduceToNat, Int.reduceNe, Nat.reducePow, Nat.reduceShiftRight, Nat.reduceMod, mc_ref01_Sort, *])
  refine c_loopW 9223372036854775672 (by kernel_rfl) (fun j f H m => ∃ (i : Nat) (a : PV), j = xs.length - i ∧ i ≤ xs.length ∧ f 4 = .sc (.int .i64 i) ∧ f 3 = a ∧ RowS H m a (insAll (xs.take i))) _ ⟨0, .sl 1 [], rfl, cE1, by simp [upd], by simp [upd], .inl ⟨rfl, rfl⟩⟩ ?_
  rintro _ f H m ⟨i, a, rfl, hi, e4, e3, hrow⟩
  by_cases hlt : i < xs.length
  · have eg : xs[i]? = some xs[i] := List.getElem?_eq_getElem hlt
    have hst : insAll (xs.take (i + 1)) = insT xs[i] (insAll (xs.take i)) := by rw [List.take_succ_eq_append_getElem hlt, insAll_snoc]
    have hyl := insAll_len (xs.take i)
    rw [List.length_take, Nat.min_eq_left hi] at hyl
    have hstk := Kept.mk hst
    clear hst
    generalize insAll (xs.take i) = ys at hrow hstk hyl
    rcases hrow with ⟨rfl, rfl⟩ | ⟨id, w, hid, rfl, hH⟩
    · repeat' (first | ((with_reducible first | refine wA (by omega) ?_ | refine wB (by omega) ?_ | refine wC (by omega) ?_ | refine wD (by omega) ?_ | refine wE ?_ ?_ | refine wF ?_ ?_ | refine wG ?_ ?_ | refine wH ?_ ?_ | refine wI ?_ ?_ | refine wJ ?_ ?_ | refine wK ?_ ?_ | refine wL ?_ ?_) <;> intro _) | simp (maxSteps := 1000000) (disch := omega) only [go_sem, Nat.reduceAdd, Nat.reduceMul, Nat.reduceSub, Nat.reduceLeDiff, Nat.reduceEqDiff, Nat.reduceBEq, ↓reduceIte, reduceCtorEq, Int.reduceEq, Int.reduceLE, Int.reduceLT, Int.reduceAdd, Int.reduceSub, Int.reduceNeg, Int.reduceToNat, Int.reduceNe, Nat.reducePow, Nat.reduceShiftRight, Nat.reduceMod, *])
      refine c_rounds 1 ?_
      repeat' (first | ((with_reducible first | refine wA (by omega) ?_ | refine wB (by omega) ?_ | refine wC (by omega) ?_ | refine wD (by omega) ?_ | refine wE ?_ ?_ | refine wF ?_ ?_ | refine wG ?_ ?_ | refine wH ?_ ?_ | refine wI ?_ ?_ | refine wJ ?_ ?_ | refine wK ?_ ?_ | refine wL ?_ ?_) <;> intro _) | simp (maxSteps := 1000000) (disch := omega) only [go_sem, Nat.reduceAdd, Nat.reduceMul, Nat.reduceSub, Nat.reduceLeDiff, Nat.reduceEqDiff, Nat.reduceBEq, ↓reduceIte, reduceCtorEq, Int.reduceEq, Int.reduceLE, Int.reduceLT, Int.reduceAdd, Int.reduceSub, Int.reduceNeg, Int.reduceToNat, Int.reduceNe, Nat.reducePow, Nat.reduceShiftRight, Nat.reduceMod, rounds_next, txt, *])
      exact Nx.mk (xs.length - (i + 1)) cE1 ⟨i + 1, .osl (m + 52) 0 1 1, rfl, cE1, by simp [upd], by simp [upd], by rw [hstk.out]; exact .inr ⟨m + 52, false, Nat.add_lt_add_left (by decide) _, rfl, by simp [upd, insT, posT, strP]⟩⟩
    · repeat' (first | ((with_reducible first | refine wA (by omega) ?_ | refine wB (by omega) ?_ | refine wC (by omega) ?_ | refine wD (by omega) ?_ | refine wE ?_ ?_ | refine wF ?_ ?_ | refine wG ?_ ?_ | refine wH ?_ ?_ | refine wI ?_ ?_ | refine wJ ?_ ?_ | refine wK ?_ ?_ | refine wL ?_ ?_) <;> intro _) | simp (maxSteps := 1000000) (disch := omega) only [go_sem, Nat.reduceAdd, Nat.reduceMul, Nat.reduceSub, Nat.reduceLeDiff, Nat.reduceEqDiff, Nat.reduceBEq, ↓reduceIte, reduceCtorEq, Int.reduceEq, Int.reduceLE, Int.reduceLT, Int.reduceAdd, Int.reduceSub, Int.reduceNeg, Int.reduceToNat, Int.reduceNe, Nat.reducePow, Nat.reduceShiftRight, Nat.reduceMod, *])
      refine c_loopW 2147467296 (by kernel_rfl) (fun j g H2 m2 => ∃ (k : Nat), j = ys.length - k ∧ k ≤ ys.length ∧ g 5 = .sc (.int .i64 k) ∧ m ≤ m2 ∧ H2 id = some ⟨ys.map strP, w⟩ ∧ Kept (∀ j (h : j < ys.length), j < k → bl ys[j] xs[i] = true)) _ ⟨0, rfl, Nat.zero_le _, by simp [upd], Nat.le_add_right _ _, hH, Kept.mk fun j _ h => by omega⟩ ?_
      rintro _ g H2 m2 ⟨k, rfl, hk, e5, hm2, hH2, hb⟩
      by_cases hlt2 : k < ys.length
      · have eg2 : ys[k]? = some ys[k] := List.getElem?_eq_getElem hlt2
        have hdr : List.drop k (ys.map strP) = .sc (.string ys[k]) :: List.drop (k + 1) (ys.map strP) := by
          rw [List.drop_eq_getElem_cons (by simpa using hlt2)]
          simp [strP]
        have hk1 : k + 1 ≤ ys.length := hlt2
        have hz1 : (k + 1) * 16 ≤ 140737488355328 ∧ k ≤ 4611686018427387903 := by omega
        have hz2 : (ys.length - k) * 16 ≤ 140737488355328 := by omega
        have hbk := hb
        clear hb
        cases hc : bl ys[k] xs[i] with
        | true =>
          repeat' (first | ((with_reducible first | refine wA (by omega) ?_ | refine wB (by omega) ?_ | refine wC (by omega) ?_ | refine wD (by omega) ?_ | refine wE ?_ ?_ | refine wF ?_ ?_ | refine wG ?_ ?_ | refine wH ?_ ?_ | refine wI ?_ ?_ | refine wJ ?_ ?_ | refine wK ?_ ?_ | refine wL ?_ ?_) <;> intro _) | simp (maxSteps := 1000000) (disch := omega) only [go_sem, Nat.reduceAdd, Nat.reduceMul, Nat.reduceSub, Nat.reduceLeDiff, Nat.reduceEqDiff, Nat.reduceBEq, ↓reduceIte, reduceCtorEq, Int.reduceEq, Int.reduceLE, Int.reduceLT, Int.reduceAdd, Int.reduceSub, Int.reduceNeg, Int.reduceToNat, Int.reduceNe, Nat.reducePow, Nat.reduceShiftRight, Nat.reduceMod, strBin, fold_bl, txt, *])
          exact Nx.mk (ys.length - (k + 1)) cE1 ⟨k + 1, rfl, cE1, by simp [upd], cE1, hH2, Kept.mk fun j h g => by
            rcases Nat.lt_succ_iff_lt_or_eq.1 g with g | rfl
            · exact hbk.out j h g
            · exact hc⟩
        | false =>
          have hpos := posT_eq xs[i] ys k hk hbk.out (fun _ => hc)
          have hposk := Kept.mk hpos
          clear hpos
          by_cases he : ys[k] = xs[i]
          · have hs1 : sameB ys[k] xs[i] = true := by rw [he]; exact (Lib.bytes_beq_iff _ _).2 rfl
            have hins : insT xs[i] ys = ys := by
              unfold insT
              rw [hposk.out, eg2, he]
              exact if_pos rfl
            have hk' := Kept.mk hins
            clear he hins
            repeat' (first | ((with_reducible first | refine wA (by omega) ?_ | refine wB (by omega) ?_ | refine wC (by omega) ?_ | refine wD (by omega) ?_ | refine wE ?_ ?_ | refine wF ?_ ?_ | refine wG ?_ ?_ | refine wH ?_ ?_ | refine wI ?_ ?_ | refine wJ ?_ ?_ | refine wK ?_ ?_ | refine wL ?_ ?_) <;> intro _) | simp (maxSteps := 1000000) (disch := omega) only [go_sem, Nat.reduceAdd, Nat.reduceMul, Nat.reduceSub, Nat.reduceLeDiff, Nat.reduceEqDiff, Nat.reduceBEq, ↓reduceIte, reduceCtorEq, Int.reduceEq, Int.reduceLE, Int.reduceLT, Int.reduceAdd, Int.reduceSub, Int.reduceNeg, Int.reduceToNat, Int.reduceNe, Nat.reducePow, Nat.reduceShiftRight, Nat.reduceMod, strBin, fold_bl, fold_sameB, txt, Int.sub_zero, Nat.sub_zero, Nat.sub_self, *])
            exact Nx.mk (xs.length - (i + 1)) cE1 ⟨i + 1, .osl id 0 ys.length 1, rfl, cE1, by simp [upd], cE1, by rw [hstk.out, hk'.out]; exact .inr ⟨id, w, Nat.lt_of_lt_of_le hid (Nat.le_trans hm2 (Nat.le_add_right _ _)), rfl, hH2⟩⟩
          · have hs1 : sameB ys[k] xs[i] = false := by
              rw [← Bool.not_eq_true]
              intro h
              exact he (txt_inj (by simpa [sameB] using h))
            have hins : insT xs[i] ys = ys.take k ++ xs[i] :: ys.drop k := by
              unfold insT
              rw [hposk.out, eg2, if_neg]
              intro h
              exact he (Option.some.inj h)
            have hto : ((ys.length : Int) - k).toNat = ys.length - k := by omega
            have hz3 : k + (ys.length - k) ≤ ys.length := by omega
            have hz4 : ys.length - k ≤ 4611686018427387904 := by omega
            have hl3 : (List.drop (k + 1) (List.map strP ys)).length + 1 = ys.length - k := by rw [List.length_drop, List.length_map]; omega
            have htk : List.take (ys.length - k) (.sc (.string ys[k]) :: List.drop (k + 1) (ys.map strP)) = .sc (.string ys[k]) :: List.drop (k + 1) (ys.map strP) := List.take_of_length_le (by rw [List.length_cons, hl3]; exact Nat.le_refl _)
            have hall : (List.drop (k + 1) (List.map strP ys)).all PV.one = true := by
              rw [List.all_eq_true]
              intro x hx
              obtain ⟨y, _, rfl⟩ := List.mem_map.1 (List.mem_of_mem_drop hx)
              rfl
            have hl4 : (List.take k (List.map strP ys)).length = k := by rw [List.length_take, List.length_map]; omega
            have hz5 : (k + (1 + (ys.length - k))) * 16 ≤ 140737488355328 := by omega
            have hz6 : k + (1 + (ys.length - k)) ≤ 4611686018427387904 := by omega
            have hink := Kept.mk hins
            clear he hins
            repeat' (first | ((with_reducible first | refine wA (by omega) ?_ | refine wB (by omega) ?_ | refine wC (by omega) ?_ | refine wD (by omega) ?_ | refine wE ?_ ?_ | refine wF ?_ ?_ | refine wG ?_ ?_ | refine wH ?_ ?_ | refine wI ?_ ?_ | refine wJ ?_ ?_ | refine wK ?_ ?_ | refine wL ?_ ?_) <;> intro _) | simp (maxSteps := 1000000) (disch := omega) only [go_sem, Nat.reduceAdd, Nat.reduceMul, Nat.reduceSub, Nat.reduceLeDiff, Nat.reduceEqDiff, Nat.reduceBEq, ↓reduceIte, reduceCtorEq, Int.reduceEq, Int.reduceLE, Int.reduceLT, Int.reduceAdd, Int.reduceSub, Int.reduceNeg, Int.reduceToNat, Int.reduceNe, Nat.reducePow, Nat.reduceShiftRight, Nat.reduceMod, strBin, fold_bl, fold_sameB, txt, Int.sub_zero, Nat.sub_zero, Nat.sub_self, *])
            have hfin : Kept (List.take k (List.map strP ys) ++ ([.sc (.string xs[i])] ++ (.sc (.string ys[k]) :: List.drop (k + 1) (List.map strP ys))) = (insT xs[i] ys).map strP ∧ (insT xs[i] ys).length = k + (1 + (ys.length - k))) := Kept.mk (by
              rw [hink.out]
              constructor
              · rw [← hdr, List.map_append, List.map_cons, List.map_take, List.map_drop]; rfl
              · rw [List.length_append, List.length_cons, List.length_take, List.length_drop]; omega)
            exact Nx.mk (xs.length - (i + 1)) cE1 ⟨i + 1, .osl (m2 + 47) 0 (k + (1 + (ys.length - k))) 1, rfl, cE1, by simp [upd], by simp [upd], by rw [hstk.out]; exact .inr ⟨m2 + 47, false, Nat.add_lt_add_left (by decide) _, by rw [hfin.out.2], by rw [← hfin.out.1]; simp [upd]⟩⟩
      · obtain rfl : k = ys.length := by omega
        have hpos := posT_eq xs[i] ys ys.length hk hb.out (fun h => by omega)
        have hta : List.take ys.length (List.map strP ys) = List.map strP ys := List.take_of_length_le (by simp)
        have hz1 : (ys.length + 1) * 16 ≤ 140737488355328 ∧ ys.length ≤ 4611686018427387903 := by omega
        repeat' (first | ((with_reducible first | refine wA (by omega) ?_ | refine wB (by omega) ?_ | refine wC (by omega) ?_ | refine wD (by omega) ?_ | refine wE ?_ ?_ | refine wF ?_ ?_ | refine wG ?_ ?_ | refine wH ?_ ?_ | refine wI ?_ ?_ | refine wJ ?_ ?_ | refine wK ?_ ?_ | refine wL ?_ ?_) <;> intro _) | simp (maxSteps := 1000000) (disch := omega) only [go_sem, Nat.reduceAdd, Nat.reduceMul, Nat.reduceSub, Nat.reduceLeDiff, Nat.reduceEqDiff, Nat.reduceBEq, ↓reduceIte, reduceCtorEq, Int.reduceEq, Int.reduceLE, Int.reduceLT, Int.reduceAdd, Int.reduceSub, Int.reduceNeg, Int.reduceToNat, Int.reduceNe, Nat.reducePow, Nat.reduceShiftRight, Nat.reduceMod, txt, Int.sub_zero, Nat.sub_zero, Nat.sub_self, Int.sub_self, *])
        have hfin : Kept (insT xs[i] ys = ys ++ [xs[i]]) := Kept.mk (by
          unfold insT
          rw [hpos, List.getElem?_eq_none (Nat.le_refl _), if_neg (by simp), List.take_length, List.drop_length])
        exact Nx.mk (xs.length - (i + 1)) cE1 ⟨i + 1, .osl (m2 + 47) 0 (ys.length + 1) 1, rfl, cE1, by simp [upd], by simp [upd], by rw [hstk.out, hfin.out]; exact .inr ⟨m2 + 47, false, Nat.add_lt_add_left (by decide) _, by simp, by simp [upd, strP]⟩⟩
  · obtain rfl : i = xs.length := by omega
    rw [List.take_length] at hrow
    have hrk := Kept.mk hrow
    clear hrow
    repeat' (first | ((with_reducible first | refine wA (by omega) ?_ | refine wB (by omega) ?_ | refine wC (by omega) ?_ | refine wD (by omega) ?_ | refine wE ?_ ?_ | refine wF ?_ ?_ | refine wG ?_ ?_ | refine wH ?_ ?_ | refine wI ?_ ?_ | refine wJ ?_ ?_ | refine wK ?_ ?_ | refine wL ?_ ?_) <;> intro _) | simp (maxSteps := 1000000) (disch := omega) only [go_sem, Nat.reduceAdd, Nat.reduceMul, Nat.reduceSub, Nat.reduceLeDiff, Nat.reduceEqDiff, Nat.reduceBEq, ↓reduceIte, reduceCtorEq, Int.reduceEq, Int.reduceLE, Int.reduceLT, Int.reduceAdd, Int.reduceSub, Int.reduceNeg, Int.reduceToNat, Int.reduceNe, Nat.reducePow, Nat.reduceShiftRight, Nat.reduceMod, *])
    rcases hrk.out with ⟨h0, rfl⟩ | ⟨id, w, hid, rfl, hH⟩
    · refine fin_ret (r0 := .sl 1 []) 0 cE2 ?_
      rw [h0]
      exact .refl _
    · refine fin_retF (r0 := .osl id 0 (insAll xs).length 1) 1 cE2 ?_
      exact row_frS hH
end
section
set_option maxRecDepth 20000
attribute [local go_sem] pv_len pv_take Nat.add_assoc tm_len tm_take pv_one tm_one id_ne id_ne' id_ne2 List.append_assoc
def rconstsT (t : Tm) : List ByteArray := if t.right 4 1125899906842624 = true then insAll (namesOf t.pre) else []
theorem ref04_Consts_p (t : Tm) (hm : t.nodes ≤ 2 ^ 40) : PPure Try.prog F.ref04_Consts [.agg t.pv] (.sl 1 ((rconstsT t).map txt)) := by
  refine pure_by is_ref04_Consts (by simp) (by simp [PV.imm, txts_immLL]) fun hb nx => ?_
  clear hb
  have c1 := ref04_Any_p t 4
  by_cases hr : t.right 4 1125899906842624 = true
  · have c2 := ref_consts_p t.size t (Nat.le_refl _) hm
    have hl : (namesOf t.pre).length ≤ 2 ^ 40 := by
      have h1 := pre_len t
      have h2 := namesOf_len t.pre
      have h3 := size_nodes t
      omega
    have c3 := ref01_Sort_p (namesOf t.pre) hl
    have e : rconstsT t = insAll (namesOf t.pre) := if_pos hr
    rw [hr] at c1
    rw [e]
    clear hr e hl
    repeat' (first | ((with_reducible first | refine wA (by omega) ?_ | refine wB (by omega) ?_ | refine wC (by omega) ?_ | refine wD (by omega) ?_ | refine wE ?_ ?_ | refine wF ?_ ?_ | refine wG ?_ ?_ | refine wH ?_ ?_ | refine wI ?_ ?_ | refine wJ ?_ ?_ | refine wK ?_ ?_ | refine wL ?_ ?_) <;> intro _) | (((with_reducible refine call_id ?_); (first | (refine call_pure (c1) ?_) | (refine call_pure (c2) ?_) | (refine call_pure (c3) ?_)))) | simp (maxSteps := 1000000) (disch := omega) only [go_sem, Nat.reduceAdd, Nat.reduceMul, Nat.reduceSub, Nat.reduceLeDiff, Nat.reduceEqDiff, Nat.reduceBEq, ↓reduceIte, reduceCtorEq, Int.reduceEq, Int.reduceLE, Int.reduceLT, Int.reduceAdd, Int.reduceSub, Int.reduceNeg, Int.reduceToNat, Int.reduceNe, Nat.reducePow, Nat.reduceShiftRight, Nat.reduceMod, mc_ref04_Consts, *])
    all_goals (refine fin_tmp (.inr rfl) ?_; simp [upd])
  · have e : rconstsT t = [] := if_neg hr
    rw [Bool.not_eq_true] at hr
    rw [hr] at c1
    rw [e]
    clear e hr
    repeat' (first | ((with_reducible first | refine wA (by omega) ?_ | refine wB (by omega) ?_ | refine wC (by omega) ?_ | refine wD (by omega) ?_ | refine wE ?_ ?_ | refine wF ?_ ?_ | refine wG ?_ ?_ | refine wH ?_ ?_ | refine wI ?_ ?_ | refine wJ ?_ ?_ | refine wK ?_ ?_ | refine wL ?_ ?_) <;> intro _) | (((with_reducible refine call_id ?_); (first | (refine call_pure (c1) ?_)))) | simp (maxSteps := 1000000) (disch := omega) only [go_sem, Nat.reduceAdd, Nat.reduceMul, Nat.reduceSub, Nat.reduceLeDiff, Nat.reduceEqDiff, Nat.reduceBEq, ↓reduceIte, reduceCtorEq, Int.reduceEq, Int.reduceLE, Int.reduceLT, Int.reduceAdd, Int.reduceSub, Int.reduceNeg, Int.reduceToNat, Int.reduceNe, Nat.reducePow, Nat.reduceShiftRight, Nat.reduceMod, mc_ref04_Consts, *])
    refine fin_ret (r0 := .sc (.slice none 0 0)) 0 (by (simp (disch := omega) only [go_sem, Nat.reduceMul, Nat.reduceSub, Nat.reduceShiftRight, Nat.reduceMod, Nat.reduceEqDiff, Nat.reduceAdd, ↓reduceIte, Nat.reduceLeDiff]); all_goals rfl) ?_
    exact Weak.nil 1
end
section
set_option maxRecDepth 20000
attribute [local go_sem] pv_len pv_take Nat.add_assoc tm_len tm_take pv_one tm_one id_ne id_ne' id_ne2 List.append_assoc
set_option maxHeartbeats 8000000 in
theorem lowest6_p : ∀ (fuel : Nat) (t : Tm) (k deep : Int), t.size ≤ fuel → t.size ≤ 2 ^ 40 → t.formed 4 k = true → 0 ≤ k → k + t.size ≤ 2 ^ 59 → 0 ≤ deep → deep + t.size ≤ 2 ^ 59 →
    PPure Try.prog F.ref06_lowest [.agg t.pv, .sc (.int .i64 deep)] (.sc (.int .i64 (t.low deep))) := by
  intro fuel
  induction fuel with
  | zero => intro t k deep h; have := size_pos t; omega
  | succ fuel ih =>
    intro t k deep hf h40 hfm hk0 hk1 hd0 hd1
    cases t with
    | mk kind n s ls args =>
    simp only [Tm.size] at hf hk1 hd1 h40
    have hA := Kept.mk (formed_args 4 k kind n s ls args hfm)
    have hdp := Kept.mk (inner_deep hfm)
    refine pure_by is_ref06_lowest (by simp) rfl fun hb nx => ?_
    have hb0 : args.length ≤ 9223372036854775807 := by simp [Tm.pv, bndL, PV.bnd] at hb; exact hb.2.1
    clear hb
    have hih := Kept.mk ih
    clear ih
    by_cases h1 : kind = 1
    · subst h1
      obtain ⟨hn0, hn1, rfl, rfl⟩ := fm_var hfm
      clear hih hA hdp hfm
      by_cases h2 : deep ≤ n
      · have e : (Tm.mk 1 n s [] []).low deep = n - deep := by simp [Tm.low, lowA, h2]
        rw [e]
        repeat' (first | ((with_reducible first | refine wA (by omega) ?_ | refine wB (by omega) ?_ | refine wC (by omega) ?_ | refine wD (by omega) ?_ | refine wE ?_ ?_ | refine wF ?_ ?_ | refine wG ?_ ?_ | refine wH ?_ ?_ | refine wI ?_ ?_ | refine wJ ?_ ?_ | refine wK ?_ ?_ | refine wL ?_ ?_) <;> intro _) | simp (maxSteps := 1000000) (disch := omega) only [go_sem, Nat.reduceAdd, Nat.reduceMul, Nat.reduceSub, Nat.reduceLeDiff, Nat.reduceEqDiff, Nat.reduceBEq, ↓reduceIte, reduceCtorEq, Int.reduceEq, Int.reduceLE, Int.reduceLT, Int.reduceAdd, Int.reduceSub, Int.reduceNeg, Int.reduceToNat, Int.reduceNe, Nat.reducePow, Nat.reduceShiftRight, Nat.reduceMod, mc_ref06_lowest, Tm.pv, *])
        refine c_rounds 1 ?_
        repeat' (first | ((with_reducible first | refine wA (by omega) ?_ | refine wB (by omega) ?_ | refine wC (by omega) ?_ | refine wD (by omega) ?_ | refine wE ?_ ?_ | refine wF ?_ ?_ | refine wG ?_ ?_ | refine wH ?_ ?_ | refine wI ?_ ?_ | refine wJ ?_ ?_ | refine wK ?_ ?_ | refine wL ?_ ?_) <;> intro _) | simp (maxSteps := 1000000) (disch := omega) only [go_sem, Nat.reduceAdd, Nat.reduceMul, Nat.reduceSub, Nat.reduceLeDiff, Nat.reduceEqDiff, Nat.reduceBEq, ↓reduceIte, reduceCtorEq, Int.reduceEq, Int.reduceLE, Int.reduceLT, Int.reduceAdd, Int.reduceSub, Int.reduceNeg, Int.reduceToNat, Int.reduceNe, Nat.reducePow, Nat.reduceShiftRight, Nat.reduceMod, rounds_next, *])
        all_goals (exact fin_tmp (.inr rfl) cE3)
      · have e : (Tm.mk 1 n s [] []).low deep = -1 := by simp [Tm.low, lowA, h2]
        rw [e]
        repeat' (first | ((with_reducible first | refine wA (by omega) ?_ | refine wB (by omega) ?_ | refine wC (by omega) ?_ | refine wD (by omega) ?_ | refine wE ?_ ?_ | refine wF ?_ ?_ | refine wG ?_ ?_ | refine wH ?_ ?_ | refine wI ?_ ?_ | refine wJ ?_ ?_ | refine wK ?_ ?_ | refine wL ?_ ?_) <;> intro _) | simp (maxSteps := 1000000) (disch := omega) only [go_sem, Nat.reduceAdd, Nat.reduceMul, Nat.reduceSub, Nat.reduceLeDiff, Nat.reduceEqDiff, Nat.reduceBEq, ↓reduceIte, reduceCtorEq, Int.reduceEq, Int.reduceLE, Int.reduceLT, Int.reduceAdd, Int.reduceSub, Int.reduceNeg, Int.reduceToNat, Int.reduceNe, Nat.reducePow, Nat.reduceShiftRight, Nat.reduceMod, mc_ref06_lowest, Tm.pv, *])
        refine c_rounds 1 ?_
        repeat' (first | ((with_reducible first | refine wA (by omega) ?_ | refine wB (by omega) ?_ | refine wC (by omega) ?_ | refine wD (by omega) ?_ | refine wE ?_ ?_ | refine wF ?_ ?_ | refine wG ?_ ?_ | refine wH ?_ ?_ | refine wI ?_ ?_ | refine wJ ?_ ?_ | refine wK ?_ ?_ | refine wL ?_ ?_) <;> intro _) | simp (maxSteps := 1000000) (disch := omega) only [go_sem, Nat.reduceAdd, Nat.reduceMul, Nat.reduceSub, Nat.reduceLeDiff, Nat.reduceEqDiff, Nat.reduceBEq, ↓reduceIte, reduceCtorEq, Int.reduceEq, Int.reduceLE, Int.reduceLT, Int.reduceAdd, Int.reduceSub, Int.reduceNeg, Int.reduceToNat, Int.reduceNe, Nat.reducePow, Nat.reduceShiftRight, Nat.reduceMod, rounds_next, *])
        all_goals (exact fin_tmp (.inr rfl) cE3)
    · have htot : Kept ((Tm.mk kind n s ls args).low deep = lowA deep kind args.length 0 (-1) args) := Kept.mk (by
        simp only [Tm.low]
        rw [if_neg (fun h => h1 h.1)])
      clear hfm
      repeat' (first | ((with_reducible first | refine wA (by omega) ?_ | refine wB (by omega) ?_ | refine wC (by omega) ?_ | refine wD (by omega) ?_ | refine wE ?_ ?_ | refine wF ?_ ?_ | refine wG ?_ ?_ | refine wH ?_ ?_ | refine wI ?_ ?_ | refine wJ ?_ ?_ | refine wK ?_ ?_ | refine wL ?_ ?_) <;> intro _) | simp (maxSteps := 1000000) (disch := omega) only [go_sem, Nat.reduceAdd, Nat.reduceMul, Nat.reduceSub, Nat.reduceLeDiff, Nat.reduceEqDiff, Nat.reduceBEq, ↓reduceIte, reduceCtorEq, Int.reduceEq, Int.reduceLE, Int.reduceLT, Int.reduceAdd, Int.reduceSub, Int.reduceNeg, Int.reduceToNat, Int.reduceNe, Nat.reducePow, Nat.reduceShiftRight, Nat.reduceMod, mc_ref06_lowest, Tm.pv, *])
      refine c_loopW 2251799811588320 (by kernel_rfl) (fun j f H m => ∃ (i : Nat) (c : Int), j = args.length - i ∧ i ≤ args.length ∧ f 6 = .sc (.int .i64 i) ∧ f 5 = .sc (.int .i64 c) ∧ Kept ((Tm.mk kind n s ls args).low deep = lowA deep kind args.length i c (args.drop i))) _ ⟨0, -1, rfl, Nat.zero_le _, cE1, cE1, Kept.mk (by rw [htot.out, List.drop_zero])⟩ ?_
      clear htot
      rintro _ f H m ⟨i, c, rfl, hi, e6, e5, hs⟩
      by_cases hlt : i < args.length
      · have eg : args[i]? = some args[i] := List.getElem?_eq_getElem hlt
        have hd := deep_bd kind args.length i
        have hfi := formedA_mem 4 k kind args.length args 0 i hlt hA.out
        rw [Nat.zero_add] at hfi
        have hsz := sizeL_mem args i hlt
        have hs2 : Kept ((Tm.mk kind n s ls args).low deep = lowA deep kind args.length (i + 1) (minLow c (args[i].low (deep + deepB kind args.length i))) (args.drop (i + 1))) := Kept.mk (by rw [hs.out, List.drop_eq_getElem_cons hlt, lowA])
        have c1 := inner6_p kind deep i ⟨hd0, by omega⟩
        rw [← hdp.out i hlt] at c1
        have c2 := hih.out args[i] (k + deepB kind args.length i) (deep + deepB kind args.length i) (by omega) (by omega) hfi (by omega) (by omega) (by omega) (by omega)
        clear hfi hs
        generalize args[i].low (deep + deepB kind args.length i) = v at c2 hs2
        have h9 : (0 ≤ v ∧ c < 0 ∧ minLow c v = v) ∨ (0 ≤ v ∧ 0 ≤ c ∧ v < c ∧ minLow c v = v) ∨ (0 ≤ v ∧ 0 ≤ c ∧ c ≤ v ∧ minLow c v = c) ∨ (v < 0 ∧ minLow c v = c) := by
          unfold minLow
          split <;> omega
        rcases h9 with ⟨g1, g2, g3⟩ | ⟨g1, g2, g4, g3⟩ | ⟨g1, g2, g4, g3⟩ | ⟨g1, g3⟩
        all_goals
          rw [g3] at hs2
          clear g3
          repeat' (first | ((with_reducible first | refine wA (by omega) ?_ | refine wB (by omega) ?_ | refine wC (by omega) ?_ | refine wD (by omega) ?_ | refine wE ?_ ?_ | refine wF ?_ ?_ | refine wG ?_ ?_ | refine wH ?_ ?_ | refine wI ?_ ?_ | refine wJ ?_ ?_ | refine wK ?_ ?_ | refine wL ?_ ?_) <;> intro _) | (((with_reducible refine call_id ?_); (first | (refine call_pure (c1) ?_) | (refine call_pure (c2) ?_)))) | simp (maxSteps := 1000000) (disch := omega) only [go_sem, Nat.reduceAdd, Nat.reduceMul, Nat.reduceSub, Nat.reduceLeDiff, Nat.reduceEqDiff, Nat.reduceBEq, ↓reduceIte, reduceCtorEq, Int.reduceEq, Int.reduceLE, Int.reduceLT, Int.reduceAdd, Int.reduceSub, Int.reduceNeg, Int.reduceToNat, Int.reduceNe, Nat.reducePow, Nat.reduceShiftRight, Nat.reduceMod, Tm.pv, *])
          first
            | exact Nx.mk (args.length - (i + 1)) cE1 ⟨i + 1, v, rfl, cE1, by simp [upd], by simp [upd], hs2⟩
            | exact Nx.mk (args.length - (i + 1)) cE1 ⟨i + 1, c, rfl, cE1, by simp [upd], cE1, hs2⟩
      · obtain rfl : i = args.length := by omega
        have hs2 := hs.out
        rw [List.drop_length, lowA] at hs2
        rw [hs2]
        clear hs hs2
        repeat' (first | ((with_reducible first | refine wA (by omega) ?_ | refine wB (by omega) ?_ | refine wC (by omega) ?_ | refine wD (by omega) ?_ | refine wE ?_ ?_ | refine wF ?_ ?_ | refine wG ?_ ?_ | refine wH ?_ ?_ | refine wI ?_ ?_ | refine wJ ?_ ?_ | refine wK ?_ ?_ | refine wL ?_ ?_) <;> intro _) | simp (maxSteps := 1000000) (disch := omega) only [go_sem, Nat.reduceAdd, Nat.reduceMul, Nat.reduceSub, Nat.reduceLeDiff, Nat.reduceEqDiff, Nat.reduceBEq, ↓reduceIte, reduceCtorEq, Int.reduceEq, Int.reduceLE, Int.reduceLT, Int.reduceAdd, Int.reduceSub, Int.reduceNeg, Int.reduceToNat, Int.reduceNe, Nat.reducePow, Nat.reduceShiftRight, Nat.reduceMod, *])
        all_goals (exact fin_tmp (.inr rfl) cE3)
theorem low_R {t : Tm} {by_ : Int} (h0 : 0 ≤ by_) (h1 : by_ ≤ 1048576) (hr : t.right 4 1125899906842624 = true) : lowR t by_ = if 0 ≤ t.low 0 ∧ t.low 0 < by_ then none else some (t.lift (-by_) 0) := by
  unfold lowR
  rw [if_pos ⟨h0, h1, hr⟩]
  have h := fill_low by_ h0 t 0
  by_cases hb : 0 ≤ t.low 0 ∧ t.low 0 < by_
  · rw [if_pos hb, h.1 hb]
    rfl
  · rw [if_neg hb, h.2 hb]
    exact if_pos (by rw [lift_nodes]; exact (right_far hr).2)
set_option maxHeartbeats 8000000 in
theorem ref06_Lower_p (t : Tm) (by_ : Int) : PPure Try.prog F.ref06_Lower [.agg t.pv, .sc (.int .i64 by_)] (optT (lowR t by_)) := by
  refine pure_by is_ref06_Lower (by simp) (optT_imm _) fun hb nx => ?_
  clear hb
  have c1 := ref04_Any_p t 4
  have c2 := small6_p by_
  by_cases h : 0 ≤ by_ ∧ by_ ≤ 1048576 ∧ t.right 4 1125899906842624 = true
  · obtain ⟨h1, h2, hr⟩ := h
    have hrf := right_far hr
    have hs := size_nodes t
    rw [low_R h1 h2 hr]
    rw [hr] at c1
    rw [decide_eq_true ⟨h1, h2⟩] at c2
    have c3 := lowest6_p t.size t 1125899906842624 0 (Nat.le_refl _) (by omega) hrf.1 (by omega) (by omega) (by omega) (by omega)
    have c4 := Lift_p 4 (-by_) ⟨by omega, by omega⟩ t.size t 1125899906842624 0 (Nat.le_refl _) (by omega) (by omega) (by omega) hrf.1 (by omega) (by omega)
    have c4 : PPure Try.prog F.ref04_Lift [.agg t.pv, .sc (.int .i64 (0 - by_)), .sc (.int .i64 0)] (.agg (t.lift (-by_) 0).pv) := by rw [Int.zero_sub]; exact c4
    have hlb := low_bd 4 t 1125899906842624 0 hrf.1 (by omega) (by omega)
    clear hr hrf
    by_cases hb : 0 ≤ t.low 0 ∧ t.low 0 < by_
    · rw [if_pos hb]
      obtain ⟨g1, g2⟩ := hb
      simp only [optT, zeroT]
      clear c4
      repeat' (first | ((with_reducible first | refine wA (by omega) ?_ | refine wB (by omega) ?_ | refine wC (by omega) ?_ | refine wD (by omega) ?_ | refine wE ?_ ?_ | refine wF ?_ ?_ | refine wG ?_ ?_ | refine wH ?_ ?_ | refine wI ?_ ?_ | refine wJ ?_ ?_ | refine wK ?_ ?_ | refine wL ?_ ?_) <;> intro _) | (((with_reducible refine call_id ?_); (first | (refine call_pure (c1) ?_) | (refine call_pure (c2) ?_) | (refine call_pure (c3) ?_)))) | simp (maxSteps := 1000000) (disch := omega) only [go_sem, Nat.reduceAdd, Nat.reduceMul, Nat.reduceSub, Nat.reduceLeDiff, Nat.reduceEqDiff, Nat.reduceBEq, ↓reduceIte, reduceCtorEq, Int.reduceEq, Int.reduceLE, Int.reduceLT, Int.reduceAdd, Int.reduceSub, Int.reduceNeg, Int.reduceToNat, Int.reduceNe, Nat.reducePow, Nat.reduceShiftRight, Nat.reduceMod, mc_ref06_Lower, *])
      all_goals
        refine fin_ret (r0 := .tup [.agg [.sc (.int .i64 0), .sc (.int .i64 0), .sc (.string ⟨#[]⟩), .sc (.slice none 0 0), .sc (.slice none 0 0)], .sc (.bool false)]) 2 cE2 ?_
        exact .of_eq (by simp [frz, frz_sc])
    · rw [if_neg hb]
      have h9 : t.low 0 < 0 ∨ (0 ≤ t.low 0 ∧ ¬ t.low 0 < by_) := by omega
      simp only [optT]
      clear hb
      rcases h9 with g1 | ⟨g1, g2⟩
      all_goals
        repeat' (first | ((with_reducible first | refine wA (by omega) ?_ | refine wB (by omega) ?_ | refine wC (by omega) ?_ | refine wD (by omega) ?_ | refine wE ?_ ?_ | refine wF ?_ ?_ | refine wG ?_ ?_ | refine wH ?_ ?_ | refine wI ?_ ?_ | refine wJ ?_ ?_ | refine wK ?_ ?_ | refine wL ?_ ?_) <;> intro _) | (((with_reducible refine call_id ?_); (first | (refine call_pure (c1) ?_) | (refine call_pure (c2) ?_) | (refine call_pure (c3) ?_) | (refine call_pure (c4) ?_)))) | simp (maxSteps := 1000000) (disch := omega) only [go_sem, Nat.reduceAdd, Nat.reduceMul, Nat.reduceSub, Nat.reduceLeDiff, Nat.reduceEqDiff, Nat.reduceBEq, ↓reduceIte, reduceCtorEq, Int.reduceEq, Int.reduceLE, Int.reduceLT, Int.reduceAdd, Int.reduceSub, Int.reduceNeg, Int.reduceToNat, Int.reduceNe, Nat.reducePow, Nat.reduceShiftRight, Nat.reduceMod, mc_ref06_Lower, *])
        refine fin_ret (r0 := .tup [.agg (t.lift (-by_) 0).pv, .sc (.bool true)]) 1 cE2 ?_
        exact .of_eq (by simp [frz])
  · have e : lowR t by_ = none := if_neg h
    rw [e]
    simp only [optT, zeroT]
    clear e
    cases hr : t.right 4 1125899906842624 with
    | false =>
      rw [hr] at c1
      clear hr h
      repeat' (first | ((with_reducible first | refine wA (by omega) ?_ | refine wB (by omega) ?_ | refine wC (by omega) ?_ | refine wD (by omega) ?_ | refine wE ?_ ?_ | refine wF ?_ ?_ | refine wG ?_ ?_ | refine wH ?_ ?_ | refine wI ?_ ?_ | refine wJ ?_ ?_ | refine wK ?_ ?_ | refine wL ?_ ?_) <;> intro _) | (((with_reducible refine call_id ?_); (first | (refine call_pure (c1) ?_)))) | simp (maxSteps := 1000000) (disch := omega) only [go_sem, Nat.reduceAdd, Nat.reduceMul, Nat.reduceSub, Nat.reduceLeDiff, Nat.reduceEqDiff, Nat.reduceBEq, ↓reduceIte, reduceCtorEq, Int.reduceEq, Int.reduceLE, Int.reduceLT, Int.reduceAdd, Int.reduceSub, Int.reduceNeg, Int.reduceToNat, Int.reduceNe, Nat.reducePow, Nat.reduceShiftRight, Nat.reduceMod, mc_ref06_Lower, *])
      all_goals
        refine fin_ret (r0 := .tup [.agg [.sc (.int .i64 0), .sc (.int .i64 0), .sc (.string ⟨#[]⟩), .sc (.slice none 0 0), .sc (.slice none 0 0)], .sc (.bool false)]) 2 cE2 ?_
        exact .of_eq (by simp [frz, frz_sc])
    | true =>
      rw [hr] at c1 h
      have h1 : ¬ (0 ≤ by_ ∧ by_ ≤ 1048576) := fun h1 => h ⟨h1.1, h1.2, rfl⟩
      rw [decide_eq_false h1] at c2
      clear hr h h1
      repeat' (first | ((with_reducible first | refine wA (by omega) ?_ | refine wB (by omega) ?_ | refine wC (by omega) ?_ | refine wD (by omega) ?_ | refine wE ?_ ?_ | refine wF ?_ ?_ | refine wG ?_ ?_ | refine wH ?_ ?_ | refine wI ?_ ?_ | refine wJ ?_ ?_ | refine wK ?_ ?_ | refine wL ?_ ?_) <;> intro _) | (((with_reducible refine call_id ?_); (first | (refine call_pure (c1) ?_) | (refine call_pure (c2) ?_)))) | simp (maxSteps := 1000000) (disch := omega) only [go_sem, Nat.reduceAdd, Nat.reduceMul, Nat.reduceSub, Nat.reduceLeDiff, Nat.reduceEqDiff, Nat.reduceBEq, ↓reduceIte, reduceCtorEq, Int.reduceEq, Int.reduceLE, Int.reduceLT, Int.reduceAdd, Int.reduceSub, Int.reduceNeg, Int.reduceToNat, Int.reduceNe, Nat.reducePow, Nat.reduceShiftRight, Nat.reduceMod, mc_ref06_Lower, *])
      all_goals
        refine fin_ret (r0 := .tup [.agg [.sc (.int .i64 0), .sc (.int .i64 0), .sc (.string ⟨#[]⟩), .sc (.slice none 0 0), .sc (.slice none 0 0)], .sc (.bool false)]) 2 cE2 ?_
        exact .of_eq (by simp [frz, frz_sc])
end
section
set_option maxRecDepth 20000
attribute [local go_sem] pv_len pv_take Nat.add_assoc tm_len tm_take pv_one tm_one id_ne id_ne' id_ne2 List.append_assoc
theorem tell_res {P : Program} {f : FuncId} {args : List PV} {H : Nat → Option PObj} {nx : Nat} {Q Q2 : (Nat → Option PObj) → Nat → PV → Prop} (kp : Nat → Bool) (hkp : ∀ j, kp j = true → j < nx) (h : PMut P f args H nx Q)
    (hq : ∀ H' nx' r, Q H' nx' r → (∀ j o, kp j = true → H' j = some o → FixL nx o.cells) ∧ ∃ k r2, Weak (frgF (fun j => decide (nx ≤ j)) k H' r) r2 ∧ ∀ H2 : Nat → Option PObj, (∀ j, kp j = true → H2 j = H' j) → Q2 H2 nx' r2) : PMut P f args H nx Q2 := by
  refine PMut.becomeM h fun H' nx' r hQ => ?_
  obtain ⟨h1, k, r2, hw, h3⟩ := hq H' nx' r hQ
  refine ⟨fun j => decide (nx ≤ j), k, fun j => if kp j = true then H' j else none, r2, fun j o2 hj => ?_, hw, h3 _ (fun j hj => by simp [hj])⟩
  by_cases hk : kp j = true
  · simp only [hk, if_true] at hj
    refine ⟨o2, ?_, .inl rfl⟩
    have := h1 j o2 hk hj (fun j => decide (nx ≤ j)) k H' (fun j hj => by simp; omega)
    simp only [lessC, Nat.not_le.2 (hkp j hk), decide_false, Bool.false_eq_true, if_false, hj, Option.map_some, this]
  · simp [hk] at hj
theorem RowAt.monoL {H H' : Nat → Option PObj} {lo m m' sz n : Nat} {a : PV} {cells : List PV} (h : RowAt H lo m sz a cells n) (hm : m ≤ m') (hH : ∀ j, lo < j → j < m → leads a j = true → H' j = H j) : RowAt H' lo m' sz a cells n := by
  rcases h with h | ⟨id, h1, h2, rfl, h4⟩
  · exact .inl h
  · exact .inr ⟨id, h1, by omega, rfl, by rw [hH id h1 h2 (by simp [leads]), h4]⟩
theorem RowAt.oneL {H : Nat → Option PObj} {lo m sz n : Nat} {a : PV} {cells : List PV} (h : RowAt H lo m sz a cells n) : a.one = true := by
  rcases h with ⟨_, rfl⟩ | ⟨id, h1, h2, rfl, h4⟩ <;> rfl
theorem RowAt.fixL {H : Nat → Option PObj} {lo m sz n : Nat} {a : PV} {cells : List PV} (h : RowAt H lo m sz a cells n) {nx : Nat} (hm : m ≤ nx) {ds : List PV} (hd : FixL nx ds) : FixL nx (a :: ds) := by
  rcases h with ⟨_, rfl⟩ | ⟨id, h1, h2, rfl, h4⟩
  · exact .cons rfl hd
  · exact .osl (by omega) hd
theorem RowAt.leadL {H : Nat → Option PObj} {lo m sz n : Nat} {a : PV} {cells : List PV} (h : RowAt H lo m sz a cells n) (hi : immL cells = true) {j : Nat} (hj : leads a j = true) (nx : Nat) : lo < j ∧ j < m ∧ ∀ o, H j = some o → FixL nx o.cells := by
  rcases h with ⟨_, rfl⟩ | ⟨id, h1, h2, rfl, h4⟩
  · cases hj
  · obtain rfl : j = id := by simpa [leads] using hj
    refine ⟨h1, h2, fun o ho => ?_⟩
    rw [h4] at ho
    cases ho
    exact .imm hi
theorem RowAt.frgL {α : Type} {f : α → List PV} {sz : Nat} (hf : ∀ x, (f x).length = sz) {H : Nat → Option PObj} {lo m : Nat} {a : PV} {xs : List α} (h : RowAt H lo m sz a (xs.flatMap f) xs.length) (G : Nat → Bool) (hG : ∀ j, lo < j → G j = true) : Weak (frgF G 1 H a) (.sl sz (xs.map f)) := by
  rcases h with ⟨h1, rfl⟩ | ⟨id, h1, h2, rfl, h4⟩
  · obtain rfl : xs = [] := List.eq_nil_of_length_eq_zero h1
    exact .nil sz
  · have hl : (xs.flatMap f).length = xs.length * sz := flat_lenG f sz hf xs
    simp only [frgF, hG id h1, if_true, h4, List.drop_zero]
    rw [if_pos (by omega), List.take_of_length_le (by omega)]
    refine .trans (Weak.fslW (es' := xs.map f) (by rw [chunks_length, List.length_map]) (fun e he => ?_) ?_) (Weak.fsl sz _)
    · obtain ⟨x, _, rfl⟩ := List.mem_map.1 he; exact hf x
    · rw [List.map_id', chunks_flatten sz xs.length _ (by omega), List.flatMap_def]
      exact .refl _
def failPV (c d : Int) : PV := .tup [.agg [.sc (.int .i64 c), .sc (.int .i64 d), .sc (.string ⟨#[]⟩), .sc (.slice none 0 0), .sc (.slice none 0 0)], .sc (.bool false)]
def wholeQ (y : Tm) (H : Nat → Option PObj) (nx lid : Nat) (left : Int) (kp : Nat → Bool) (w : Bool) (H' : Nat → Option PObj) (nx' : Nat) (r : PV) : Prop :=
  nx ≤ nx' ∧ (∀ j, kp j = true → H' j = H j) ∧ ∃ x : Int, H' lid = some ⟨[.sc (.int .i64 x)], w⟩ ∧
    ((left < y.nodes ∧ ∃ c d : Int, r = failPV c d ∧ (1 ≤ left → c = 0 ∧ d = 0)) ∨ ((y.nodes : Int) ≤ left ∧ x = left - y.nodes ∧ r = .tup [.agg y.pv, .sc (.bool true)]))
def wholeRaw (y : Tm) (H : Nat → Option PObj) (nx lid : Nat) (left : Int) (kp : Nat → Bool) (w : Bool) (H' : Nat → Option PObj) (nx' : Nat) (r : PV) : Prop :=
  nx ≤ nx' ∧ (∀ j, kp j = true → H' j = H j) ∧ ∃ x : Int, H' lid = some ⟨[.sc (.int .i64 x)], w⟩ ∧
    ((left < y.nodes ∧ ∃ c d : Int, r = failPV c d ∧ (1 ≤ left → c = 0 ∧ d = 0)) ∨ ((y.nodes : Int) ≤ left ∧ x = left - y.nodes ∧ (r = .tup [.agg y.pv, .sc (.bool true)] ∨ ∃ (kind m : Int) (s : ByteArray) (ls : List Lv) (args : List Tm) (a b : PV), y = .mk kind m s ls args ∧ r = .tup [.agg [.sc (.int .i64 kind), .sc (.int .i64 m), .sc (.string s), a, b], .sc (.bool true)] ∧
      RowAt H' nx nx' 3 a (ls.flatMap Lv.pv) ls.length ∧ RowAt H' nx nx' 5 b (args.flatMap Tm.pv) args.length)))
theorem immL_sc : ∀ zs : List Value, immL (zs.map PV.sc) = true
  | [] => rfl
  | z :: r => by simp [immL, PV.imm, immL_sc r]
theorem RowAt.lowL {H : Nat → Option PObj} {lo lo' m sz n : Nat} {a : PV} {cells : List PV} (h : RowAt H lo m sz a cells n) (hl : lo' ≤ lo) : RowAt H lo' m sz a cells n := by
  rcases h with h | ⟨id, h1, h2⟩
  · exact .inl h
  · exact .inr ⟨id, by omega, h2⟩
theorem wholeQ_del {y : Tm} {H : Nat → Option PObj} {nx lid : Nat} {left : Int} {kp : Nat → Bool} {w : Bool} {H2 : Nat → Option PObj} {nx2 : Nat} {r : PV} {ida : Nat} {z : PObj} (hl : lid ≠ ida) (hk : ∀ j, kp j = true → j ≠ ida)
    (h : wholeQ y (upd H ida (some z)) nx lid left (fun j => kp j || decide (j = ida)) w H2 nx2 r) : wholeQ y H nx lid left kp w (upd H2 ida none) nx2 r ∧ H2 ida = some z := by
  obtain ⟨h1, h2, x, hx, h3⟩ := h
  refine ⟨⟨h1, fun j hj => ?_, x, ?_, h3⟩, ?_⟩
  · rw [upd_ne _ _ (hk j hj), h2 j (by simp [hj]), upd_ne _ _ (hk j hj)]
  · rw [upd_ne _ _ hl]; exact hx
  · rw [h2 ida (by simp)]; exact upd_same _ _ _
theorem whole_callA {P : Program} {f : FuncId} {args : List PV} {y : Tm} {lid : Nat} {left : Int} {w : Bool} {id k : Nat} {d : Option Nat} {K : St → Prop} {s : St} (kp : Nat → Bool)
    (hspec : ∀ (H : Nat → Option PObj) (nx : Nat) (kp : Nat → Bool), H lid = some ⟨[.sc (.int .i64 left)], w⟩ → lid < nx → (∀ j, kp j = true → j ≠ lid ∧ j < nx ∧ ∀ o, H j = some o → FixL nx o.cells) → PMut P f args H nx (wholeQ y H nx lid left kp w))
    (hL : s.H lid = some ⟨[.sc (.int .i64 left)], w⟩) (hlid : lid < s.nx) (hkp : ∀ j, kp j = true → j ≠ lid ∧ j < s.nx ∧ ∀ o, s.H j = some o → FixL s.nx o.cells) (hl : lid ≠ id + k) (hkn : ∀ j, kp j = true → j ≠ id + k) (hlt : id + k < s.nx)
    (hk : ∀ H' nx' r, wholeQ y s.H s.nx lid left kp w H' nx' r → s.nx ≤ nx' → K (put { s with H := H', nx := nx' } d r)) : callA P id k f args d K s := by
  refine call_mutA (hspec s.H s.nx kp hL hlid hkp) (fun zs hz => ?_) hk
  refine (hspec (upd s.H (id + k) (some ⟨zs.map .sc, true⟩)) s.nx (fun j => kp j || decide (j = id + k)) (by rw [upd_ne _ _ hl]; exact hL) hlid (fun j hj => ?_)).mono fun H2 nx2 r h => wholeQ_del hl hkn h
  simp only [Bool.or_eq_true, decide_eq_true_eq] at hj
  rcases hj with hj | rfl
  · have h1 := hkp j hj
    exact ⟨h1.1, h1.2.1, fun o ho => h1.2.2 o (by rw [upd_ne _ _ (hkn j hj)] at ho; exact ho)⟩
  · refine ⟨hl.symm, hlt, fun o ho => ?_⟩
    rw [upd_same] at ho
    cases ho
    exact .imm (immL_sc zs)
theorem whole_tell {f : FuncId} {as_ : List PV} {y : Tm} {H : Nat → Option PObj} {nx lid : Nat} {left : Int} {kp : Nat → Bool} {w : Bool} (hlid : lid < nx) (hkp : ∀ j, kp j = true → j ≠ lid ∧ j < nx ∧ ∀ o, H j = some o → FixL nx o.cells)
    (h : PMut Try.prog f as_ H nx (wholeRaw y H nx lid left kp w)) : PMut Try.prog f as_ H nx (wholeQ y H nx lid left kp w) := by
  refine tell_res (fun j => kp j || decide (j = lid)) (fun j hj => ?_) h ?_
  · simp only [Bool.or_eq_true, decide_eq_true_eq] at hj
    rcases hj with hj | rfl
    · exact (hkp j hj).2.1
    · exact hlid
  rintro H' nx' r ⟨h1, h2, x, hx, h3⟩
  refine ⟨fun j o hj ho => ?_, ?_⟩
  · simp only [Bool.or_eq_true, decide_eq_true_eq] at hj
    rcases hj with hj | rfl
    · exact (hkp j hj).2.2 o ((h2 j hj).symm.trans ho)
    · rw [hx] at ho
      cases ho
      exact .imm rfl
  rcases h3 with ⟨h3, c, d, rfl, hcd⟩ | ⟨h3, hxe, rfl | ⟨kind, m, s, ls, args, a, b, rfl, rfl, h6, h7⟩⟩
  · exact ⟨0, _, .refl _, fun H2 g1 => ⟨h1, fun j hj => (g1 j (by simp [hj])).trans (h2 j hj), x, (g1 lid (by simp)).trans hx, .inl ⟨h3, c, d, rfl, hcd⟩⟩⟩
  · exact ⟨0, _, .refl _, fun H2 g1 => ⟨h1, fun j hj => (g1 j (by simp [hj])).trans (h2 j hj), x, (g1 lid (by simp)).trans hx, .inr ⟨h3, hxe, rfl⟩⟩⟩
  · refine ⟨3, .tup [.agg (Tm.mk kind m s ls args).pv, .sc (.bool true)], ?_, fun H2 g1 => ⟨h1, fun j hj => (g1 j (by simp [hj])).trans (h2 j hj), x, (g1 lid (by simp)).trans hx, .inr ⟨h3, hxe, rfl⟩⟩⟩
    have e : frgF (fun j => decide (nx ≤ j)) 3 H' (.tup [.agg [.sc (.int .i64 kind), .sc (.int .i64 m), .sc (.string s), a, b], .sc (.bool true)]) = .tup [.agg [.sc (.int .i64 kind), .sc (.int .i64 m), .sc (.string s), frgF (fun j => decide (nx ≤ j)) 1 H' a, frgF (fun j => decide (nx ≤ j)) 1 H' b], .sc (.bool true)] := by
      simp only [frgF, List.map_cons, List.map_nil]
    rw [e, Tm.pv]
    exact Weak.tup ⟨Weak.agg ⟨.refl _, .refl _, .refl _, h6.frgL pv_len _ (fun j hj => by simp; omega), h7.frgL tm_len _ (fun j hj => by simp; omega), trivial⟩, .refl _, trivial⟩
theorem fillA_at (L : Tm → Int → LeafR) : ∀ (xs ys : List Tm) (deep kind : Int) (len i j : Nat) (hj : j < xs.length) (hy : j < ys.length), fillA L deep kind len i xs = some ys → xs[j].fill L (deep + deepB kind len (i + j)) = some ys[j]
  | x :: r, ys, deep, kind, len, i, j, hj, hy, h => by
    simp only [fillA] at h
    split at h
    · rename_i y ys' h1 h2
      cases h
      cases j with
      | zero => exact h1
      | succ j =>
        have := fillA_at L r ys' deep kind len (i + 1) j (by simpa using hj) (by simpa using hy) h2
        rw [show i + (j + 1) = i + 1 + j by omega]
        exact this
    · cases h
theorem apart_lt {i j a c : Nat} (h : i < j) : apartP (.optr i a) (.optr j c) = true := by
  rw [apart_optr]
  exact decide_eq_true (by omega)
theorem o_ldo1 {P : Program} {b : Bool} {id : Nat} {d : Option Nat} {K : St → Prop} {s : St} {x : Operand} {k sz : Nat} {ag : Bool} : opG P b id ⟨d, .ldo x [k] sz ag, none⟩ K s = valP (if apartP (ev s x) (s.s k) = true then (loadP s (ev s x) sz).bind fun cs => if ag then some (.agg cs) else if sz = 1 then cs.head? else none else none) d K s := by
  rw [o_ldo]
  simp only [List.all_cons, List.all_nil, Bool.and_true]
theorem lvs_flat_imm (ls : List Lv) : immL (ls.flatMap Lv.pv) = true := by
  rw [List.flatMap_def]
  exact lvs_immF ls
theorem tms_flat_imm (ts : List Tm) : immL (ts.flatMap Tm.pv) = true := tms_immF ts
theorem noS_nil {s : ByteArray} (h : noS s = true) : s = ⟨#[]⟩ := by
  unfold noS at h
  rw [bytes_eq] at h
  exact of_decide_eq_true h
set_option maxRecDepth 100000 in
set_option maxHeartbeats 32000000 in
theorem whole_p (xs : List Tm) (hl : xs.length ≤ 2 ^ 20) (hxs : ∀ x ∈ xs, x.right 4 1125899906842624 = true) : ∀ (fuel : Nat) (t y : Tm) (k deep : Int), t.size ≤ fuel → t.nodes ≤ 2000 → t.formed 4 k = true → 0 ≤ k → k + t.size ≤ 2 ^ 59 → 0 ≤ deep → deep + t.size ≤ 2 ^ 40 → t.fill (instL6 xs) deep = some y →
    ∀ (H : Nat → Option PObj) (nx lid : Nat) (left : Int) (kp : Nat → Bool) (w : Bool), H lid = some ⟨[.sc (.int .i64 left)], w⟩ → lid < nx → -(2 ^ 40) ≤ left - t.nodes ∧ left ≤ 2 ^ 40 → (∀ j, kp j = true → j ≠ lid ∧ j < nx ∧ ∀ o, H j = some o → FixL nx o.cells) →
    PMut Try.prog F.ref06_whole [.agg t.pv, .sl 5 (xs.map Tm.pv), .sc (.int .i64 deep), .osl lid 0 1 1] H nx (wholeQ y H nx lid left kp w) := by
  have hxk := Kept.mk fun i (h : i < xs.length) => hxs _ (List.getElem_mem h)
  clear hxs
  intro fuel
  induction fuel with
  | zero => intro t y k deep h; have := size_pos t; omega
  | succ fuel ih =>
    intro t y k deep hf hm hfm hk0 hk1 hd0 hd1 hfill H nx lid left kp w hH hlid hleft hkp
    cases t with
    | mk kind n s ls args =>
    simp only [Tm.size] at hf hk1 hd1
    simp only [Tm.nodes] at hm hleft
    have hA := Kept.mk (formed_args 4 k kind n s ls args hfm)
    have hdp := Kept.mk (inner_deep hfm)
    have hkpk := Kept.mk hkp
    refine whole_tell hlid hkp ?_
    clear hkp
    have hkp2 := Kept.mk fun j (hj : kp j = true) => (⟨(hkpk.out j hj).1, (hkpk.out j hj).2.1⟩ : j ≠ lid ∧ j < nx)
    have hih := Kept.mk ih
    clear ih
    refine mut_by is_ref06_whole (by simp) fun hb => ?_
    have hb0 : ls.length ≤ 9223372036854775807 ∧ args.length ≤ 9223372036854775807 := by simp [Tm.pv, bndL, PV.bnd] at hb; exact ⟨hb.1.1.1, hb.1.2.1⟩
    clear hb
    by_cases hv : kind = 1 ∧ deep ≤ n
    · obtain ⟨rfl, hv⟩ := hv
      obtain ⟨hn0, hn1, rfl, rfl⟩ := fm_var hfm
      have hs0 : s = ⟨#[]⟩ := noS_nil (by simp [Tm.formed, hasB] at hfm; exact hfm.2.2)
      by_cases hfar : deep + xs.length ≤ n
      · rw [inst_far _ _ _ _ _ _ hfar] at hfill
        simp only [fillA, Option.map_some, Option.some.injEq] at hfill
        have hyn : y.nodes = 1 := by rw [← hfill]; simp [Tm.nodes, nodesL, nodesT]
        have hyk := Kept.mk hfill
        clear hfill hfm hA hdp hih
        by_cases hneg : left - 1 < 0
        · have eb : decide (0 ≤ left - 1) = false := decide_eq_false (by omega)
          repeat' (first | ((with_reducible first | refine wA (by omega) ?_ | refine wB (by omega) ?_ | refine wC (by omega) ?_ | refine wD (by omega) ?_ | refine wE ?_ ?_ | refine wF ?_ ?_ | refine wG ?_ ?_ | refine wH ?_ ?_ | refine wI ?_ ?_ | refine wJ ?_ ?_ | refine wK ?_ ?_ | refine wL ?_ ?_) <;> intro _) | simp (maxSteps := 1000000) (disch := omega) only [go_sem, Nat.reduceAdd, Nat.reduceMul, Nat.reduceSub, Nat.reduceLeDiff, Nat.reduceEqDiff, Nat.reduceBEq, ↓reduceIte, reduceCtorEq, Int.reduceEq, Int.reduceLE, Int.reduceLT, Int.reduceAdd, Int.reduceSub, Int.reduceNeg, Int.reduceToNat, Int.reduceNe, Nat.reducePow, Nat.reduceShiftRight, Nat.reduceMod, mc_ref06_whole, Tm.pv, o_ldo1, apart_lt, *])
          exact fin_mut (failPV 1 (n - xs.length)) (.inr rfl) cE2 (show wholeRaw y H nx lid left kp w _ _ _ from ⟨Nat.le_add_right _ _, fun j hj => by have h1 := hkp2.out j hj; simp [upd, h1.1, show j ≠ nx + 1 by omega], left - 1, by simp [upd, show lid ≠ nx + 1 by omega], .inl ⟨by omega, 1, n - xs.length, rfl, by omega⟩⟩)
        · have eb : decide (0 ≤ left - 1) = true := decide_eq_true (by omega)
          repeat' (first | ((with_reducible first | refine wA (by omega) ?_ | refine wB (by omega) ?_ | refine wC (by omega) ?_ | refine wD (by omega) ?_ | refine wE ?_ ?_ | refine wF ?_ ?_ | refine wG ?_ ?_ | refine wH ?_ ?_ | refine wI ?_ ?_ | refine wJ ?_ ?_ | refine wK ?_ ?_ | refine wL ?_ ?_) <;> intro _) | simp (maxSteps := 1000000) (disch := omega) only [go_sem, Nat.reduceAdd, Nat.reduceMul, Nat.reduceSub, Nat.reduceLeDiff, Nat.reduceEqDiff, Nat.reduceBEq, ↓reduceIte, reduceCtorEq, Int.reduceEq, Int.reduceLE, Int.reduceLT, Int.reduceAdd, Int.reduceSub, Int.reduceNeg, Int.reduceToNat, Int.reduceNe, Nat.reducePow, Nat.reduceShiftRight, Nat.reduceMod, mc_ref06_whole, Tm.pv, o_ldo1, apart_lt, *])
          exact fin_mut (.tup [.agg [.sc (.int .i64 1), .sc (.int .i64 (n - xs.length)), .sc (.string ⟨#[]⟩), .sc (.slice none 0 0), .sc (.slice none 0 0)], .sc (.bool true)]) (.inr rfl) cE2 (show wholeRaw y H nx lid left kp w _ _ _ from ⟨Nat.le_add_right _ _, fun j hj => by have h1 := hkp2.out j hj; simp [upd, h1.1, show j ≠ nx + 1 by omega], left - 1, by simp [upd, show lid ≠ nx + 1 by omega], .inr ⟨by omega, by omega, .inr ⟨1, n - xs.length, ⟨#[]⟩, [], [], _, _, by rw [← hyk.out, hs0], rfl, .inl ⟨rfl, rfl⟩, .inl ⟨rfl, rfl⟩⟩⟩⟩)
      · obtain ⟨i, hi⟩ : ∃ i : Nat, (xs.length : Int) - 1 - (n - deep) = (i : Int) := ⟨((xs.length : Int) - 1 - (n - deep)).toNat, by omega⟩
        have hil : i < xs.length := by omega
        have eg : xs[i]? = some xs[i] := List.getElem?_eq_getElem hil
        rw [inst_put xs n s [] [] deep xs[i] hv (by rw [List.getElem?_reverse (by omega), show xs.length - 1 - (n - deep).toNat = i by omega, eg])] at hfill
        simp only [Option.some.injEq] at hfill
        have hyn : y.nodes = xs[i].nodes := by rw [← hfill, lift_nodes]
        have hyk := Kept.mk hfill
        have hur := right_far (hxk.out i hil)
        have hus := size_nodes xs[i]
        have c1 := ref_Nodes_p 2000 (by omega) xs[i].size xs[i] (Nat.le_refl _)
        rw [show min xs[i].nodes (2000 + 1) = xs[i].nodes by omega] at c1
        have c2 := Lift_p 4 deep ⟨by omega, by omega⟩ xs[i].size xs[i] 1125899906842624 0 (Nat.le_refl _) (by omega) (by omega) (by omega) hur.1 (by omega) (by omega)
        have hun := hur.2
        clear hfill hfm hA hdp hih hur hus hxk
        by_cases hneg : left - 1 - ((xs[i].nodes : Int) - 1) < 0
        · repeat' (first | ((with_reducible first | refine wA (by omega) ?_ | refine wB (by omega) ?_ | refine wC (by omega) ?_ | refine wD (by omega) ?_ | refine wE ?_ ?_ | refine wF ?_ ?_ | refine wG ?_ ?_ | refine wH ?_ ?_ | refine wI ?_ ?_ | refine wJ ?_ ?_ | refine wK ?_ ?_ | refine wL ?_ ?_) <;> intro _) | (((with_reducible refine call_id ?_); (first | (refine call_pure (c1) ?_) | (refine call_pure (c2) ?_)))) | simp (maxSteps := 1000000) (disch := omega) only [go_sem, Nat.reduceAdd, Nat.reduceMul, Nat.reduceSub, Nat.reduceLeDiff, Nat.reduceEqDiff, Nat.reduceBEq, ↓reduceIte, reduceCtorEq, Int.reduceEq, Int.reduceLE, Int.reduceLT, Int.reduceAdd, Int.reduceSub, Int.reduceNeg, Int.reduceToNat, Int.reduceNe, Nat.reducePow, Nat.reduceShiftRight, Nat.reduceMod, mc_ref06_whole, Tm.pv, hi, *])
          exact fin_mut (failPV 0 0) (.inr rfl) cE2 (show wholeRaw y H nx lid left kp w _ _ _ from ⟨Nat.le_add_right _ _, fun j hj => by have h1 := hkp2.out j hj; simp [upd, h1.1, show j ≠ nx + 1 by omega, show j ≠ nx + 37 by omega], _, by simp [upd, show lid ≠ nx + 1 by omega, show lid ≠ nx + 37 by omega]; rfl, .inl ⟨by omega, 0, 0, rfl, fun _ => ⟨rfl, rfl⟩⟩⟩)
        · repeat' (first | ((with_reducible first | refine wA (by omega) ?_ | refine wB (by omega) ?_ | refine wC (by omega) ?_ | refine wD (by omega) ?_ | refine wE ?_ ?_ | refine wF ?_ ?_ | refine wG ?_ ?_ | refine wH ?_ ?_ | refine wI ?_ ?_ | refine wJ ?_ ?_ | refine wK ?_ ?_ | refine wL ?_ ?_) <;> intro _) | (((with_reducible refine call_id ?_); (first | (refine call_pure (c1) ?_) | (refine call_pure (c2) ?_)))) | simp (maxSteps := 1000000) (disch := omega) only [go_sem, Nat.reduceAdd, Nat.reduceMul, Nat.reduceSub, Nat.reduceLeDiff, Nat.reduceEqDiff, Nat.reduceBEq, ↓reduceIte, reduceCtorEq, Int.reduceEq, Int.reduceLE, Int.reduceLT, Int.reduceAdd, Int.reduceSub, Int.reduceNeg, Int.reduceToNat, Int.reduceNe, Nat.reducePow, Nat.reduceShiftRight, Nat.reduceMod, mc_ref06_whole, Tm.pv, hi, *])
          rw [hyk.out]
          exact fin_mut (.tup [.agg y.pv, .sc (.bool true)]) (.inr (by simp [PV.imm, immL, tm_imm])) cE2 (show wholeRaw _ H nx lid left kp w _ _ _ from ⟨Nat.le_add_right _ _, fun j hj => by have h1 := hkp2.out j hj; simp [upd, h1.1, show j ≠ nx + 1 by omega, show j ≠ nx + 37 by omega], _, by simp [upd, show lid ≠ nx + 1 by omega, show lid ≠ nx + 37 by omega]; rfl, .inr ⟨by omega, by omega, .inl rfl⟩⟩)
    · have hnv : kind ≠ 1 ∨ (kind = 1 ∧ n < deep) := by omega
      have hy : ∃ as_, fillA (instL6 xs) deep kind args.length 0 args = some as_ ∧ y = .mk kind n s ls as_ := by
        by_cases h1 : kind = 1
        · subst h1
          rw [inst_low _ _ _ _ _ _ (by omega), Option.map_eq_some_iff] at hfill
          obtain ⟨as_, h, rfl⟩ := hfill
          exact ⟨as_, h, rfl⟩
        · rw [inst_node _ _ _ _ _ _ _ h1, Option.map_eq_some_iff] at hfill
          obtain ⟨as_, h, rfl⟩ := hfill
          exact ⟨as_, h, rfl⟩
      obtain ⟨as_, hfa, rfl⟩ := hy
      have hal := fillA_lenM _ _ _ _ _ _ _ hfa
      have hfak := Kept.mk hfa
      have hyn : (Tm.mk kind n s ls as_).nodes = 1 + (nodesL ls + nodesT as_) := by simp only [Tm.nodes]
      have hsl := len_nodesL ls
      have hsa := len_nodesT args
      clear hfill hfa hv
      rcases hnv with h1 | ⟨rfl, h1⟩
      · have hln : Kept (∀ i (h : i < ls.length), ls[i].nodes ≤ 2000) := Kept.mk fun i h => by
          have := nodesL_mem ls i h
          omega
        clear hfm
        repeat' (first | ((with_reducible first | refine wA (by omega) ?_ | refine wB (by omega) ?_ | refine wC (by omega) ?_ | refine wD (by omega) ?_ | refine wE ?_ ?_ | refine wF ?_ ?_ | refine wG ?_ ?_ | refine wH ?_ ?_ | refine wI ?_ ?_ | refine wJ ?_ ?_ | refine wK ?_ ?_ | refine wL ?_ ?_) <;> intro _) | simp (maxSteps := 1000000) (disch := omega) only [go_sem, Nat.reduceAdd, Nat.reduceMul, Nat.reduceSub, Nat.reduceLeDiff, Nat.reduceEqDiff, Nat.reduceBEq, ↓reduceIte, reduceCtorEq, Int.reduceEq, Int.reduceLE, Int.reduceLT, Int.reduceAdd, Int.reduceSub, Int.reduceNeg, Int.reduceToNat, Int.reduceNe, Nat.reducePow, Nat.reduceShiftRight, Nat.reduceMod, mc_ref06_whole, Tm.pv, *])
        refine c_loopW 1298074212215855267903365732900864 (by kernel_rfl) (fun j f H2 m => ∃ (i : Nat) (a : PV), j = ls.length - i ∧ i ≤ ls.length ∧ f 13 = .sc (.int .i64 i) ∧ nx + 31 ≤ m ∧ Kept (∀ j, kp j = true → H2 j = H j) ∧ H2 lid = some ⟨[.sc (.int .i64 (left - 1 - (nodesL (ls.take i) : Nat)))], w⟩ ∧ H2 (nx + 1) = some ⟨[.sc (.int .i64 0), .sc (.int .i64 0), .sc (.string ⟨#[]⟩), .sc (.slice none 0 0), .sc (.slice none 0 0)], true⟩ ∧
          H2 (nx + 28) = some ⟨[.sc (.int .i64 kind), .sc (.int .i64 n), .sc (.string s), a, .sc (.slice none 0 0)], true⟩ ∧ RowAt H2 (nx + 28) m 3 a ((ls.take i).flatMap Lv.pv) i) _
          ⟨0, _, rfl, Nat.zero_le _, cE1, Nat.le_refl _, Kept.mk (fun j hj => by have h1 := hkp2.out j hj; simp [upd, h1.1, show j ≠ nx + 1 by omega, show j ≠ nx + 28 by omega]), by simp [upd, show lid ≠ nx + 1 by omega, show lid ≠ nx + 28 by omega, nodesL], by simp [upd, show nx + 1 ≠ lid by omega], by simp [upd], .inl ⟨rfl, rfl⟩⟩ ?_
        clear hH
        rintro _ f H2 m ⟨i, a, rfl, hi, e13, hm2, hkk, hL, hz, ho, hrow⟩
        by_cases hlt : i < ls.length
        · have eg : ls[i]? = some ls[i] := List.getElem?_eq_getElem hlt
          have hni := hln.out i hlt
          have hnt := nodesL_take_le ls i
          have hsn := nodesL_take_succ' ls i hlt
          have hnt2 : nodesL (ls.take (i + 1)) ≤ nodesL ls := nodesL_take_le ls (i + 1)
          have c1 := CopyLevel_p ls[i].nodes ls[i] (Nat.le_refl _) (by omega)
          have c2 := LevelNodes_p 2000 (by omega) ls[i].nodes ls[i] (Nat.le_refl _)
          rw [show min ls[i].nodes (2000 + 1) = ls[i].nodes by omega] at c2
          have hrs : Kept ((ls.take (i + 1)).flatMap Lv.pv = (ls.take i).flatMap Lv.pv ++ ls[i].pv) := Kept.mk (by rw [List.take_succ_eq_append_getElem hlt, List.flatMap_append]; simp)
          have hrl : ((ls.take i).flatMap Lv.pv).length = i * 3 := by rw [flat_lenG _ 3 pv_len, List.length_take]; omega
          have hzz : (i + 1) * 40 ≤ 140737488355328 ∧ i ≤ 4611686018427387903 := by omega
          have hlo : lid ≠ nx + 28 := by omega
          have hlo2 : nx + 28 ≠ lid := by omega
          have hce : left - 1 - (nodesL (ls.take i) : Int) - ls[i].nodes = left - 1 - (nodesL (ls.take (i + 1)) : Int) := by omega
          have hcek := Kept.mk hce
          clear hih hA hdp hce
          rcases hrow with ⟨rfl, rfl⟩ | ⟨id, g1, g2, rfl, g3⟩
          · have hl0 : nodesL ([] : List Lv) = 0 := by simp [nodesL]
            repeat' (first | ((with_reducible first | refine wA (by omega) ?_ | refine wB (by omega) ?_ | refine wC (by omega) ?_ | refine wD (by omega) ?_ | refine wE ?_ ?_ | refine wF ?_ ?_ | refine wG ?_ ?_ | refine wH ?_ ?_ | refine wI ?_ ?_ | refine wJ ?_ ?_ | refine wK ?_ ?_ | refine wL ?_ ?_) <;> intro _) | (((with_reducible refine call_id ?_); (first | (refine call_pure (c1) ?_) | (refine call_pure (c2) ?_)))) | simp (maxSteps := 1000000) (disch := omega) only [go_sem, Nat.reduceAdd, Nat.reduceMul, Nat.reduceSub, Nat.reduceLeDiff, Nat.reduceEqDiff, Nat.reduceBEq, ↓reduceIte, reduceCtorEq, Int.reduceEq, Int.reduceLE, Int.reduceLT, Int.reduceAdd, Int.reduceSub, Int.reduceNeg, Int.reduceToNat, Int.reduceNe, Nat.reducePow, Nat.reduceShiftRight, Nat.reduceMod, Tm.pv, *])
            exact Nx.mk (ls.length - 1) cE1 ⟨1, .osl (m + 14) 0 1 3, rfl, cE1, by simp [upd], Nat.le_trans hm2 (Nat.le_add_right _ _), Kept.mk (fun j hj => by have h1 := hkp2.out j hj; have h2 := hkk.out j hj; simp [upd, h1.1, show j ≠ nx + 28 by omega, show j ≠ m + 14 by omega, h2]), by (have hh := hcek.out; simp [nodesL] at hh; simp [upd]; omega), by (simp [upd, show nx + 1 ≠ lid by omega, show nx + 1 ≠ m + 14 by omega, hz]; try omega), by simp [upd, hlo2], .inr ⟨m + 14, by omega, Nat.add_lt_add_left (by omega) _, rfl, by (have hh := hrs.out; simp at hh; simp [upd, show m + 14 ≠ lid by omega, show m + 14 ≠ nx + 28 by omega, hh]; try omega)⟩⟩
          · have hli : id ≠ lid := by omega
            have hli2 : lid ≠ id := by omega
            repeat' (first | ((with_reducible first | refine wA (by omega) ?_ | refine wB (by omega) ?_ | refine wC (by omega) ?_ | refine wD (by omega) ?_ | refine wE ?_ ?_ | refine wF ?_ ?_ | refine wG ?_ ?_ | refine wH ?_ ?_ | refine wI ?_ ?_ | refine wJ ?_ ?_ | refine wK ?_ ?_ | refine wL ?_ ?_) <;> intro _) | (((with_reducible refine call_id ?_); (first | (refine call_pure (c1) ?_) | (refine call_pure (c2) ?_)))) | simp (maxSteps := 1000000) (disch := omega) only [go_sem, Nat.reduceAdd, Nat.reduceMul, Nat.reduceSub, Nat.reduceLeDiff, Nat.reduceEqDiff, Nat.reduceBEq, ↓reduceIte, reduceCtorEq, Int.reduceEq, Int.reduceLE, Int.reduceLT, Int.reduceAdd, Int.reduceSub, Int.reduceNeg, Int.reduceToNat, Int.reduceNe, Nat.reducePow, Nat.reduceShiftRight, Nat.reduceMod, Tm.pv, *])
            exact Nx.mk (ls.length - (i + 1)) cE1 ⟨i + 1, .osl (m + 14) 0 (i + 1) 3, rfl, cE1, by simp [upd], Nat.le_trans hm2 (Nat.le_add_right _ _), Kept.mk (fun j hj => by have h1 := hkp2.out j hj; have h2 := hkk.out j hj; simp [upd, h1.1, show j ≠ nx + 28 by omega, show j ≠ m + 14 by omega, show j ≠ id by omega, h2]), by (have hh := hcek.out; simp [upd]; omega), by (simp [upd, show nx + 1 ≠ lid by omega, show nx + 1 ≠ m + 14 by omega, show nx + 1 ≠ id by omega, hz]; try omega), by simp [upd, hlo2], .inr ⟨m + 14, by omega, Nat.add_lt_add_left (by omega) _, rfl, by (have hh := hrs.out; simp [upd, show m + 14 ≠ lid by omega, show m + 14 ≠ nx + 28 by omega, hh]; try omega)⟩⟩
        · obtain rfl : i = ls.length := by omega
          rw [List.take_length] at hL hrow
          clear hlt hi hln
          have hrk := Kept.mk hrow
          clear hrow
          repeat' (first | ((with_reducible first | refine wA (by omega) ?_ | refine wB (by omega) ?_ | refine wC (by omega) ?_ | refine wD (by omega) ?_ | refine wE ?_ ?_ | refine wF ?_ ?_ | refine wG ?_ ?_ | refine wH ?_ ?_ | refine wI ?_ ?_ | refine wJ ?_ ?_ | refine wK ?_ ?_ | refine wL ?_ ?_) <;> intro _) | simp (maxSteps := 1000000) (disch := omega) only [go_sem, Nat.reduceAdd, Nat.reduceMul, Nat.reduceSub, Nat.reduceLeDiff, Nat.reduceEqDiff, Nat.reduceBEq, ↓reduceIte, reduceCtorEq, Int.reduceEq, Int.reduceLE, Int.reduceLT, Int.reduceAdd, Int.reduceSub, Int.reduceNeg, Int.reduceToNat, Int.reduceNe, Nat.reducePow, Nat.reduceShiftRight, Nat.reduceMod, *])
          refine c_loopW 5575186298334581570750222661029466294305280 (by kernel_rfl) (fun j f H3 m3 => ∃ (i2 : Nat) (b : PV) (v : Int), j = args.length - i2 ∧ i2 ≤ args.length ∧ f 14 = .sc (.int .i64 i2) ∧ m ≤ m3 ∧ Kept (∀ j, kp j = true → H3 j = H j) ∧ H3 lid = some ⟨[.sc (.int .i64 v)], w⟩ ∧ Kept (v = left - 1 - (nodesL ls : Nat) - (nodesT (as_.take i2) : Nat)) ∧ ((i2 = 0 ∧ v = left - 1 - (nodesL ls : Nat)) ∨ 0 ≤ v) ∧ v ≤ 2 ^ 40 ∧ H3 (nx + 1) = some ⟨[.sc (.int .i64 0), .sc (.int .i64 0), .sc (.string ⟨#[]⟩), .sc (.slice none 0 0), .sc (.slice none 0 0)], true⟩ ∧
            H3 (nx + 28) = some ⟨[.sc (.int .i64 kind), .sc (.int .i64 n), .sc (.string s), a, b], true⟩ ∧ Kept (RowAt H3 (nx + 28) m 3 a (ls.flatMap Lv.pv) ls.length) ∧ RowAt H3 m m3 5 b ((as_.take i2).flatMap Tm.pv) i2) _
            ⟨0, _, _, rfl, Nat.zero_le _, cE1, Nat.le_add_right _ _, hkk, hL, Kept.mk (by simp [nodesT]), .inl ⟨rfl, rfl⟩, by omega, hz, ho, hrk, .inl ⟨rfl, rfl⟩⟩ ?_
          clear hkk hL hz ho hrk
          rintro _ f3 H3 m3 ⟨i2, b, v, rfl, hi2, e14, hm3, hkk, hL, hv, hv2, hv3, hz, ho', hrk, hrow⟩
          by_cases hlt2 : i2 < args.length
          · have eg : args[i2]? = some args[i2] := List.getElem?_eq_getElem hlt2
            have hlt3 : i2 < as_.length := by omega
            have hd := deep_bd kind args.length i2
            have hn := nodesT_mem args i2 hlt2
            have hs := sizeL_mem args i2 hlt2
            have hfi := formedA_mem 4 k kind args.length args 0 i2 hlt2 hA.out
            rw [Nat.zero_add] at hfi
            have hfl := fillA_at (instL6 xs) args as_ deep kind args.length 0 i2 hlt2 hlt3 hfak.out
            rw [Nat.zero_add] at hfl
            have c1 := inner6_p kind deep i2 ⟨hd0, by omega⟩
            rw [← hdp.out i2 hlt2] at c1
            have hfik := Kept.mk hfi
            have hflk := Kept.mk hfl
            have hrwk := Kept.mk hrow
            clear hfi hfl hrow
            repeat' (first | ((with_reducible first | refine wA (by omega) ?_ | refine wB (by omega) ?_ | refine wC (by omega) ?_ | refine wD (by omega) ?_ | refine wE ?_ ?_ | refine wF ?_ ?_ | refine wG ?_ ?_ | refine wH ?_ ?_ | refine wI ?_ ?_ | refine wJ ?_ ?_ | refine wK ?_ ?_ | refine wL ?_ ?_) <;> intro _) | (((with_reducible refine call_id ?_); (first | (refine call_pure (c1) ?_)))) | simp (maxSteps := 1000000) (disch := omega) only [go_sem, Nat.reduceAdd, Nat.reduceMul, Nat.reduceSub, Nat.reduceLeDiff, Nat.reduceEqDiff, Nat.reduceBEq, ↓reduceIte, reduceCtorEq, Int.reduceEq, Int.reduceLE, Int.reduceLT, Int.reduceAdd, Int.reduceSub, Int.reduceNeg, Int.reduceToNat, Int.reduceNe, Nat.reducePow, Nat.reduceShiftRight, Nat.reduceMod, Tm.pv, *])
            refine whole_callA (fun j => kp j || decide (j = nx + 1) || decide (j = nx + 28) || leads a j || leads b j) (fun H nx kp => hih.out args[i2] as_[i2] (k + deepB kind args.length i2) (deep + deepB kind args.length i2) (by omega) (by omega) hfik.out (by omega) (by omega) (by omega) (by omega) hflk.out H nx lid v kp w |> fun g h1 h2 => g h1 h2 ⟨by omega, by omega⟩) hL (Nat.lt_of_lt_of_le (by omega : lid < m3) (Nat.le_add_right _ _)) ?kp ?hl ?hkn ?hlt ?_
            case hl => exact Nat.ne_of_lt (Nat.lt_of_lt_of_le (by omega : lid < m3) (by show m3 ≤ m3 + _ + _; omega))
            case hkn =>
              intro j hj
              have hlt : j < m3 := by
                simp only [Bool.or_eq_true, decide_eq_true_eq] at hj
                rcases hj with (((hj | rfl) | rfl) | hj) | hj
                · have h1 := hkpk.out j hj; omega
                · omega
                · omega
                · have h1 := hrk.out.leadL (lvs_flat_imm ls) hj 0; omega
                · have h1 := hrwk.out.leadL (tms_flat_imm _) hj 0; omega
              exact Nat.ne_of_lt (Nat.lt_of_lt_of_le hlt (by show m3 ≤ m3 + _ + _; omega))
            case hlt => show m3 + _ + _ < m3 + _; omega
            case kp =>
              intro j hj
              simp only [Bool.or_eq_true, decide_eq_true_eq] at hj
              rcases hj with (((hj | rfl) | rfl) | hj) | hj
              · have h1 := hkpk.out j hj
                exact ⟨h1.1, Nat.lt_of_lt_of_le (by omega : j < m3) (Nat.le_add_right _ _), fun o ho => (h1.2.2 o ((hkk.out j hj).symm.trans ho)).mono (Nat.le_trans (by omega : nx ≤ m3) (Nat.le_add_right _ _))⟩
              · refine ⟨by omega, Nat.lt_of_lt_of_le (by omega : nx + 1 < m3) (Nat.le_add_right _ _), fun o ho => ?_⟩
                have := hz.symm.trans ho
                cases this
                exact .imm rfl
              · refine ⟨by omega, Nat.lt_of_lt_of_le (by omega : nx + 28 < m3) (Nat.le_add_right _ _), fun o ho => ?_⟩
                have := ho'.symm.trans ho
                cases this
                exact .cons rfl (.cons rfl (.cons rfl (hrk.out.fixL (Nat.le_trans (by omega : m ≤ m3) (Nat.le_add_right _ _)) (hrwk.out.fixL (Nat.le_add_right _ _) .nil))))
              · have h1 := hrk.out.leadL (lvs_flat_imm ls) hj 0
                exact ⟨by omega, Nat.lt_of_lt_of_le (by omega : j < m3) (Nat.le_add_right _ _), fun o ho => (hrk.out.leadL (lvs_flat_imm ls) hj _).2.2 o ho⟩
              · have h1 := hrwk.out.leadL (tms_flat_imm _) hj 0
                exact ⟨by omega, Nat.lt_of_lt_of_le (by omega : j < m3) (Nat.le_add_right _ _), fun o ho => (hrwk.out.leadL (tms_flat_imm _) hj _).2.2 o ho⟩
            rintro H' nx' r' ⟨hn1, hk1, x, hx, hcase⟩ -
            have hn2 : m3 ≤ nx' := Nat.le_trans (Nat.le_add_right _ _) hn1
            have hkk' : Kept (∀ j, kp j = true → H' j = H j) := Kept.mk fun j hj => (hk1 j (by simp [hj])).trans (hkk.out j hj)
            have hz' : H' (nx + 1) = _ := (hk1 (nx + 1) (by simp)).trans hz
            have ho2 : H' (nx + 28) = _ := (hk1 (nx + 28) (by simp)).trans ho'
            have hrk' : Kept (RowAt H' (nx + 28) m 3 a (ls.flatMap Lv.pv) ls.length) := Kept.mk (hrk.out.monoL (Nat.le_refl _) fun j g1 g2 g3 => hk1 j (by simp [g3]))
            have hrw' : RowAt H' m m3 5 b ((as_.take i2).flatMap Tm.pv) i2 := hrwk.out.monoL (Nat.le_refl _) fun j g1 g2 g3 => hk1 j (by simp [g3])
            have hnt := nodesT_take_succ as_ i2 hlt3
            have hnl := nodesT_take_le as_ (i2 + 1)
            have hv' := hv.out
            clear hk1 hkk hz ho' hrk hrwk hih hfik hflk hA hdp hn1 c1 hL
            rcases hcase with ⟨hbad, cc, dd, rfl, _⟩ | ⟨hle, rfl, rfl⟩
            · have hno : left < 1 + (nodesL ls + nodesT as_ : Nat) := by omega
              clear hnt hnl hv' hv hv2 hbad
              simp only [failPV]
              repeat' (first | ((with_reducible first | refine wA (by omega) ?_ | refine wB (by omega) ?_ | refine wC (by omega) ?_ | refine wD (by omega) ?_ | refine wE ?_ ?_ | refine wF ?_ ?_ | refine wG ?_ ?_ | refine wH ?_ ?_ | refine wI ?_ ?_ | refine wJ ?_ ?_ | refine wK ?_ ?_ | refine wL ?_ ?_) <;> intro _) | simp (maxSteps := 1000000) (disch := omega) only [go_sem, Nat.reduceAdd, Nat.reduceMul, Nat.reduceSub, Nat.reduceLeDiff, Nat.reduceEqDiff, Nat.reduceBEq, ↓reduceIte, reduceCtorEq, Int.reduceEq, Int.reduceLE, Int.reduceLT, Int.reduceAdd, Int.reduceSub, Int.reduceNeg, Int.reduceToNat, Int.reduceNe, Nat.reducePow, Nat.reduceShiftRight, Nat.reduceMod, Tm.pv, *])
              exact fin_mut (failPV 0 0) (.inr rfl) cE2 (show wholeRaw _ H nx lid left kp w _ _ _ from ⟨Nat.le_trans (by omega : nx ≤ nx') (Nat.le_add_right _ _), fun j hj => (by have h1 := hkp2.out j hj; have h2 := hkk'.out j hj; simp [upd, show j ≠ nx + 1 by omega, show j ≠ m3 + 21 by omega, h2]), x, by simp [upd, show lid ≠ nx + 1 by omega, show lid ≠ m3 + 21 by omega, hx], .inl ⟨by omega, 0, 0, rfl, fun _ => ⟨rfl, rfl⟩⟩⟩)
            · have hvn : Kept (v - as_[i2].nodes = left - 1 - (nodesL ls : Nat) - (nodesT (as_.take (i2 + 1)) : Nat)) := Kept.mk (by omega)
              have hrs : Kept ((as_.take (i2 + 1)).flatMap Tm.pv = (as_.take i2).flatMap Tm.pv ++ as_[i2].pv) := Kept.mk (by rw [List.take_succ_eq_append_getElem hlt3, List.flatMap_append]; simp)
              have hrl : ((as_.take i2).flatMap Tm.pv).length = i2 * 5 := by rw [flat_lenG _ 5 tm_len, List.length_take]; omega
              have hzz : (i2 + 1) * 80 ≤ 140737488355328 ∧ i2 ≤ 4611686018427387903 := by omega
              clear hnt hnl hv' hv hv2
              rcases hrw' with ⟨rfl, rfl⟩ | ⟨id, g1, g2, rfl, g3⟩
              · repeat' (first | ((with_reducible first | refine wA (by omega) ?_ | refine wB (by omega) ?_ | refine wC (by omega) ?_ | refine wD (by omega) ?_ | refine wE ?_ ?_ | refine wF ?_ ?_ | refine wG ?_ ?_ | refine wH ?_ ?_ | refine wI ?_ ?_ | refine wJ ?_ ?_ | refine wK ?_ ?_ | refine wL ?_ ?_) <;> intro _) | simp (maxSteps := 1000000) (disch := omega) only [go_sem, Nat.reduceAdd, Nat.reduceMul, Nat.reduceSub, Nat.reduceLeDiff, Nat.reduceEqDiff, Nat.reduceBEq, ↓reduceIte, reduceCtorEq, Int.reduceEq, Int.reduceLE, Int.reduceLT, Int.reduceAdd, Int.reduceSub, Int.reduceNeg, Int.reduceToNat, Int.reduceNe, Nat.reducePow, Nat.reduceShiftRight, Nat.reduceMod, Tm.pv, *])
                exact Nx.mk (args.length - 1) cE1 ⟨1, .osl (nx' + 6) 0 1 5, v - as_[0].nodes, rfl, cE1, by simp [upd], Nat.le_trans (by omega : m ≤ nx') (Nat.le_add_right _ _), Kept.mk (fun j hj => by have h1 := hkp2.out j hj; have h2 := hkk'.out j hj; simp [upd, show j ≠ nx + 28 by omega, show j ≠ nx' + 6 by omega, show j ≠ m3 + 21 by omega, h2]), by simp [upd, show lid ≠ nx + 28 by omega, show lid ≠ nx' + 6 by omega, show lid ≠ m3 + 21 by omega, hx], hvn, .inr (by omega), by omega, by (simp [upd, show nx + 1 ≠ nx' + 6 by omega, show nx + 1 ≠ m3 + 21 by omega, show nx ≠ nx' + 5 by omega, show nx ≠ m3 + 20 by omega, hz']; try omega), by simp [upd], Kept.mk (hrk'.out.monoL (Nat.le_refl _) fun j g1 g2 _ => by simp [upd, show j ≠ nx + 28 by omega, show j ≠ nx' + 6 by omega, show j ≠ m3 + 21 by omega]), .inr ⟨nx' + 6, by omega, Nat.add_lt_add_left (by omega) _, rfl, by (have hh := hrs.out; simp at hh; simp [upd, show nx' + 6 ≠ nx + 28 by omega, hh]; try omega)⟩⟩
              · have hid : id ≠ m3 + 21 := by omega
                have hid2 : m3 + 21 ≠ id := by omega
                have hid3 : id ≠ nx + 28 := by omega
                have hid4 : id ≠ nx' + 6 := by omega
                repeat' (first | ((with_reducible first | refine wA (by omega) ?_ | refine wB (by omega) ?_ | refine wC (by omega) ?_ | refine wD (by omega) ?_ | refine wE ?_ ?_ | refine wF ?_ ?_ | refine wG ?_ ?_ | refine wH ?_ ?_ | refine wI ?_ ?_ | refine wJ ?_ ?_ | refine wK ?_ ?_ | refine wL ?_ ?_) <;> intro _) | simp (maxSteps := 1000000) (disch := omega) only [go_sem, Nat.reduceAdd, Nat.reduceMul, Nat.reduceSub, Nat.reduceLeDiff, Nat.reduceEqDiff, Nat.reduceBEq, ↓reduceIte, reduceCtorEq, Int.reduceEq, Int.reduceLE, Int.reduceLT, Int.reduceAdd, Int.reduceSub, Int.reduceNeg, Int.reduceToNat, Int.reduceNe, Nat.reducePow, Nat.reduceShiftRight, Nat.reduceMod, Tm.pv, *])
                exact Nx.mk (args.length - (i2 + 1)) cE1 ⟨i2 + 1, .osl (nx' + 6) 0 (i2 + 1) 5, v - as_[i2].nodes, rfl, cE1, by simp [upd], Nat.le_trans (by omega : m ≤ nx') (Nat.le_add_right _ _), Kept.mk (fun j hj => by have h1 := hkp2.out j hj; have h2 := hkk'.out j hj; simp [upd, show j ≠ nx + 28 by omega, show j ≠ nx' + 6 by omega, show j ≠ m3 + 21 by omega, show j ≠ id by omega, h2]), by simp [upd, show lid ≠ nx + 28 by omega, show lid ≠ nx' + 6 by omega, show lid ≠ m3 + 21 by omega, show lid ≠ id by omega, hx], hvn, .inr (by omega), by omega, by (simp [upd, show nx + 1 ≠ nx' + 6 by omega, show nx + 1 ≠ m3 + 21 by omega, show nx + 1 ≠ id by omega, show nx ≠ nx' + 5 by omega, show nx ≠ m3 + 20 by omega, hz']; try omega), by simp [upd], Kept.mk (hrk'.out.monoL (Nat.le_refl _) fun j g1 g2 _ => by simp [upd, show j ≠ nx + 28 by omega, show j ≠ nx' + 6 by omega, show j ≠ m3 + 21 by omega, show j ≠ id by omega]), .inr ⟨nx' + 6, by omega, Nat.add_lt_add_left (by omega) _, rfl, by (have hh := hrs.out; simp [upd, show nx' + 6 ≠ nx + 28 by omega, hh]; try omega)⟩⟩
          · obtain rfl : i2 = args.length := by omega
            have hrow2 : RowAt H3 m m3 5 b (as_.flatMap Tm.pv) as_.length := by rw [List.take_of_length_le (by omega)] at hrow; rw [hal]; exact hrow
            have hv' := hv.out
            rw [List.take_of_length_le (by omega)] at hv'
            have hrowk := Kept.mk hrow2
            have hoa := hrk.out.oneL
            have hob := hrow2.oneL
            unfold PV.one at hoa hob
            clear hrow hrow2 hih hA hdp hfak
            by_cases hneg : v < 0
            · repeat' (first | ((with_reducible first | refine wA (by omega) ?_ | refine wB (by omega) ?_ | refine wC (by omega) ?_ | refine wD (by omega) ?_ | refine wE ?_ ?_ | refine wF ?_ ?_ | refine wG ?_ ?_ | refine wH ?_ ?_ | refine wI ?_ ?_ | refine wJ ?_ ?_ | refine wK ?_ ?_ | refine wL ?_ ?_) <;> intro _) | simp (maxSteps := 1000000) (disch := omega) only [go_sem, Nat.reduceAdd, Nat.reduceMul, Nat.reduceSub, Nat.reduceLeDiff, Nat.reduceEqDiff, Nat.reduceBEq, ↓reduceIte, reduceCtorEq, Int.reduceEq, Int.reduceLE, Int.reduceLT, Int.reduceAdd, Int.reduceSub, Int.reduceNeg, Int.reduceToNat, Int.reduceNe, Nat.reducePow, Nat.reduceShiftRight, Nat.reduceMod, Tm.pv, *])
              exact fin_mut (failPV 0 0) (.inr rfl) cE2 (show wholeRaw _ H nx lid left kp w _ _ _ from ⟨Nat.le_trans (by omega : nx ≤ m3) (Nat.le_add_right _ _), fun j hj => by have h1 := hkp2.out j hj; have h2 := hkk.out j hj; simp [upd, h1.1, show j ≠ nx + 1 by omega, h2], v, by simp [upd, show lid ≠ nx + 1 by omega, hL], .inl ⟨by omega, 0, 0, rfl, fun _ => ⟨rfl, rfl⟩⟩⟩)
            · repeat' (first | ((with_reducible first | refine wA (by omega) ?_ | refine wB (by omega) ?_ | refine wC (by omega) ?_ | refine wD (by omega) ?_ | refine wE ?_ ?_ | refine wF ?_ ?_ | refine wG ?_ ?_ | refine wH ?_ ?_ | refine wI ?_ ?_ | refine wJ ?_ ?_ | refine wK ?_ ?_ | refine wL ?_ ?_) <;> intro _) | simp (maxSteps := 1000000) (disch := omega) only [go_sem, Nat.reduceAdd, Nat.reduceMul, Nat.reduceSub, Nat.reduceLeDiff, Nat.reduceEqDiff, Nat.reduceBEq, ↓reduceIte, reduceCtorEq, Int.reduceEq, Int.reduceLE, Int.reduceLT, Int.reduceAdd, Int.reduceSub, Int.reduceNeg, Int.reduceToNat, Int.reduceNe, Nat.reducePow, Nat.reduceShiftRight, Nat.reduceMod, Tm.pv, *])
              exact fin_mut (.tup [.agg [.sc (.int .i64 kind), .sc (.int .i64 n), .sc (.string s), a, b], .sc (.bool true)]) (.inr rfl) cE2 (show wholeRaw _ H nx lid left kp w _ _ _ from ⟨Nat.le_trans (by omega : nx ≤ m3) (Nat.le_add_right _ _), fun j hj => by have h1 := hkp2.out j hj; have h2 := hkk.out j hj; simp [upd, h1.1, show j ≠ nx + 1 by omega, h2], v, by simp [upd, show lid ≠ nx + 1 by omega, hL], .inr ⟨by omega, by omega, .inr ⟨kind, n, s, ls, as_, a, b, rfl, rfl, (hrk.out.monoL (Nat.le_trans (by omega : m ≤ m3) (Nat.le_add_right _ _)) (fun j g1 g2 _ => by simp [upd, show j ≠ nx + 1 by omega])).lowL (Nat.le_add_right _ _), (hrowk.out.monoL (Nat.le_add_right _ _) (fun j g1 g2 _ => by simp [upd, show j ≠ nx + 1 by omega])).lowL (by omega)⟩⟩⟩)
      · obtain ⟨hn0, hn1, rfl, rfl⟩ := fm_var hfm
        obtain rfl : as_ = [] := List.eq_nil_of_length_eq_zero hal
        have hnn : (Tm.mk 1 n s [] []).nodes = 1 := by simp [Tm.nodes, nodesL, nodesT]
        clear hfm hyn hfak hih hA hdp
        repeat' (first | ((with_reducible first | refine wA (by omega) ?_ | refine wB (by omega) ?_ | refine wC (by omega) ?_ | refine wD (by omega) ?_ | refine wE ?_ ?_ | refine wF ?_ ?_ | refine wG ?_ ?_ | refine wH ?_ ?_ | refine wI ?_ ?_ | refine wJ ?_ ?_ | refine wK ?_ ?_ | refine wL ?_ ?_) <;> intro _) | simp (maxSteps := 1000000) (disch := omega) only [go_sem, Nat.reduceAdd, Nat.reduceMul, Nat.reduceSub, Nat.reduceLeDiff, Nat.reduceEqDiff, Nat.reduceBEq, ↓reduceIte, reduceCtorEq, Int.reduceEq, Int.reduceLE, Int.reduceLT, Int.reduceAdd, Int.reduceSub, Int.reduceNeg, Int.reduceToNat, Int.reduceNe, Nat.reducePow, Nat.reduceShiftRight, Nat.reduceMod, mc_ref06_whole, Tm.pv, *])
        refine c_rounds 1 ?_
        repeat' (first | ((with_reducible first | refine wA (by omega) ?_ | refine wB (by omega) ?_ | refine wC (by omega) ?_ | refine wD (by omega) ?_ | refine wE ?_ ?_ | refine wF ?_ ?_ | refine wG ?_ ?_ | refine wH ?_ ?_ | refine wI ?_ ?_ | refine wJ ?_ ?_ | refine wK ?_ ?_ | refine wL ?_ ?_) <;> intro _) | simp (maxSteps := 1000000) (disch := omega) only [go_sem, Nat.reduceAdd, Nat.reduceMul, Nat.reduceSub, Nat.reduceLeDiff, Nat.reduceEqDiff, Nat.reduceBEq, ↓reduceIte, reduceCtorEq, Int.reduceEq, Int.reduceLE, Int.reduceLT, Int.reduceAdd, Int.reduceSub, Int.reduceNeg, Int.reduceToNat, Int.reduceNe, Nat.reducePow, Nat.reduceShiftRight, Nat.reduceMod, rounds_next, *])
        refine c_rounds 1 ?_
        by_cases hneg : left - 1 < 0
        · repeat' (first | ((with_reducible first | refine wA (by omega) ?_ | refine wB (by omega) ?_ | refine wC (by omega) ?_ | refine wD (by omega) ?_ | refine wE ?_ ?_ | refine wF ?_ ?_ | refine wG ?_ ?_ | refine wH ?_ ?_ | refine wI ?_ ?_ | refine wJ ?_ ?_ | refine wK ?_ ?_ | refine wL ?_ ?_) <;> intro _) | simp (maxSteps := 1000000) (disch := omega) only [go_sem, Nat.reduceAdd, Nat.reduceMul, Nat.reduceSub, Nat.reduceLeDiff, Nat.reduceEqDiff, Nat.reduceBEq, ↓reduceIte, reduceCtorEq, Int.reduceEq, Int.reduceLE, Int.reduceLT, Int.reduceAdd, Int.reduceSub, Int.reduceNeg, Int.reduceToNat, Int.reduceNe, Nat.reducePow, Nat.reduceShiftRight, Nat.reduceMod, rounds_next, *])
          exact fin_mut (failPV 0 0) (.inr rfl) cE2 (show wholeRaw _ H nx lid left kp w _ _ _ from ⟨Nat.le_add_right _ _, fun j hj => by have h1 := hkp2.out j hj; simp [upd, h1.1, show j ≠ nx + 1 by omega, show j ≠ nx + 28 by omega], left - 1, by simp [upd, show lid ≠ nx + 1 by omega, show lid ≠ nx + 28 by omega], .inl ⟨by omega, 0, 0, rfl, fun _ => ⟨rfl, rfl⟩⟩⟩)
        · repeat' (first | ((with_reducible first | refine wA (by omega) ?_ | refine wB (by omega) ?_ | refine wC (by omega) ?_ | refine wD (by omega) ?_ | refine wE ?_ ?_ | refine wF ?_ ?_ | refine wG ?_ ?_ | refine wH ?_ ?_ | refine wI ?_ ?_ | refine wJ ?_ ?_ | refine wK ?_ ?_ | refine wL ?_ ?_) <;> intro _) | simp (maxSteps := 1000000) (disch := omega) only [go_sem, Nat.reduceAdd, Nat.reduceMul, Nat.reduceSub, Nat.reduceLeDiff, Nat.reduceEqDiff, Nat.reduceBEq, ↓reduceIte, reduceCtorEq, Int.reduceEq, Int.reduceLE, Int.reduceLT, Int.reduceAdd, Int.reduceSub, Int.reduceNeg, Int.reduceToNat, Int.reduceNe, Nat.reducePow, Nat.reduceShiftRight, Nat.reduceMod, rounds_next, *])
          exact fin_mut (.tup [.agg [.sc (.int .i64 1), .sc (.int .i64 n), .sc (.string s), .sc (.slice none 0 0), .sc (.slice none 0 0)], .sc (.bool true)]) (.inr rfl) cE2 (show wholeRaw _ H nx lid left kp w _ _ _ from ⟨Nat.le_add_right _ _, fun j hj => by have h1 := hkp2.out j hj; simp [upd, h1.1, show j ≠ nx + 1 by omega, show j ≠ nx + 28 by omega], left - 1, by simp [upd, show lid ≠ nx + 1 by omega, show lid ≠ nx + 28 by omega], .inr ⟨by omega, by omega, .inr ⟨1, n, s, [], [], _, _, rfl, rfl, .inl ⟨rfl, rfl⟩, .inl ⟨rfl, rfl⟩⟩⟩⟩)
end
section
set_option maxRecDepth 20000
theorem bl_iff {a b : ByteArray} : bl a b = true ↔ a.data.toList < b.data.toList := by
  unfold bl
  rw [Go.Proofs.bytesLess_eq, decide_eq_true_eq, ByteArray.toList_eq, ByteArray.toList_eq]
theorem insT_cons (x y : ByteArray) (r : List ByteArray) : insT x (y :: r) = if bl y x = true then y :: insT x r else if y = x then y :: r else x :: y :: r := by
  by_cases h : bl y x = true
  · rw [if_pos h]
    unfold insT
    simp only [posT, if_pos h, List.getElem?_cons_succ, List.take_succ_cons, List.drop_succ_cons, List.cons_append]
    split <;> rfl
  · rw [if_neg h]
    unfold insT
    simp only [posT, if_neg h, List.getElem?_cons_zero, List.take_zero, List.drop_zero, List.nil_append, Option.some.injEq]
theorem insT_mem (x : ByteArray) : ∀ (ys : List ByteArray) (a : ByteArray), a ∈ insT x ys ↔ a = x ∨ a ∈ ys
  | [], a => by simp [insT, posT]
  | y :: r, a => by
    rw [insT_cons]
    split
    · rw [List.mem_cons, insT_mem x r a, List.mem_cons]
      constructor
      · rintro (h | h | h)
        · exact .inr (.inl h)
        · exact .inl h
        · exact .inr (.inr h)
      · rintro (h | h | h)
        · exact .inr (.inl h)
        · exact .inl h
        · exact .inr (.inr h)
    · split
      · rename_i e
        subst e
        simp
      · simp
theorem lt_tri (a b : List UInt8) : a < b ∨ a = b ∨ b < a := by
  by_cases h : a < b
  · exact .inl h
  · by_cases h2 : b < a
    · exact .inr (.inr h2)
    · exact .inr (.inl (List.le_antisymm (List.not_lt.1 h2) (List.not_lt.1 h)))
theorem insT_sorted (x : ByteArray) : ∀ ys : List ByteArray, ys.Pairwise (fun a b => bl a b = true) → (insT x ys).Pairwise (fun a b => bl a b = true)
  | [], _ => by simp [insT, posT]
  | y :: r, h => by
    rw [List.pairwise_cons] at h
    rw [insT_cons]
    split
    · rename_i hy
      rw [List.pairwise_cons]
      refine ⟨fun a ha => ?_, insT_sorted x r h.2⟩
      rcases (insT_mem x r a).1 ha with rfl | ha
      · exact hy
      · exact h.1 a ha
    · rename_i hy
      split
      · exact List.pairwise_cons.2 h
      · rename_i hne
        have hxy : bl x y = true := by
          rw [bl_iff] at hy ⊢
          rcases lt_tri x.data.toList y.data.toList with h1 | h1 | h1
          · exact h1
          · exact absurd (txt_inj (by rw [ByteArray.toList_eq, ByteArray.toList_eq, h1])) (fun e => hne e.symm)
          · exact absurd h1 hy
        rw [List.pairwise_cons]
        refine ⟨fun a ha => ?_, List.pairwise_cons.2 h⟩
        rcases List.mem_cons.1 ha with rfl | ha
        · exact hxy
        · have := h.1 a ha
          rw [bl_iff] at hxy this ⊢
          exact List.lt_trans hxy this
theorem insAll_spec : ∀ (n : Nat) (xs : List ByteArray), xs.length = n → (insAll xs).Pairwise (fun a b => bl a b = true) ∧ ∀ a, a ∈ insAll xs ↔ a ∈ xs := by
  intro n
  induction n with
  | zero =>
    intro xs h
    obtain rfl := List.eq_nil_of_length_eq_zero h
    exact ⟨.nil, fun a => by simp [insAll]⟩
  | succ n ih =>
    intro xs h
    obtain ⟨ys, y, rfl⟩ : ∃ ys y, xs = ys ++ [y] := ⟨xs.dropLast, xs.getLast (by intro e; subst e; cases h), (List.dropLast_concat_getLast _).symm⟩
    obtain ⟨h1, h2⟩ := ih ys (by simpa using h)
    rw [insAll_snoc]
    refine ⟨insT_sorted y _ h1, fun a => ?_⟩
    rw [insT_mem, h2, List.mem_append, List.mem_singleton]
    exact Or.comm
end
section
set_option maxRecDepth 20000
attribute [local go_sem] pv_len pv_take Nat.add_assoc tm_len tm_take pv_one tm_one id_ne id_ne' id_ne2 List.append_assoc
mutual
theorem con_pre (name : ByteArray) : ∀ (t : Tm) (deep : Int), 0 < t.cnt (conL name) deep ↔ name ∈ namesOf t.pre
  | .mk k n s ls args, deep => by
    have hA := con_preA name args deep k args.length 0
    simp only [Tm.cnt, Tm.pre, namesOf, List.flatMap_cons, List.mem_append]
    have h1 : name ∈ nameOf (.mk k n s ls args) ↔ (k = 3 ∧ s = name) := by
      simp only [nameOf]
      split
      · rename_i h
        simp only [List.mem_singleton]
        exact ⟨fun e => ⟨h, e.symm⟩, fun e => e.2.symm⟩
      · rename_i h
        simp only [List.not_mem_nil, false_iff]
        exact fun e => h e.1
    rw [h1, ← namesOf, ← hA]
    by_cases h : k = 3 ∧ s = name
    · simp [conL, h]
      try omega
    · have hc : conL name (.mk k n s ls args) deep = false := by simp only [conL, decide_eq_false h]
      simp only [hc, h, false_or, Bool.false_eq_true, if_false, Nat.zero_add]
theorem con_preA (name : ByteArray) : ∀ (ts : List Tm) (deep kind : Int) (len i : Nat), 0 < cntA (conL name) deep kind len i ts ↔ name ∈ namesOf (preL ts)
  | [], _, _, _, _ => by simp [cntA, preL, namesOf]
  | t :: r, deep, kind, len, i => by
    have h1 := con_pre name t (deep + deepB kind len i)
    have h2 := con_preA name r deep kind len (i + 1)
    simp only [cntA, preL, namesOf_append, List.mem_append]
    rw [← h1, ← h2]
    omega
end
theorem occ_consts (t : Tm) (name : ByteArray) : occR t name = true ↔ name ∈ rconstsT t := by
  unfold occR rconstsT
  cases hr : t.right 4 1125899906842624 with
  | false => simp
  | true =>
    rw [if_pos rfl, (insAll_spec _ _ rfl).2, Bool.true_and, decide_eq_true_eq]
    exact con_pre name t 0
set_option maxHeartbeats 4000000 in
theorem ref06_Occurs_p (t : Tm) (hm : t.nodes ≤ 2 ^ 40) (name : ByteArray) : PPure Try.prog F.ref06_Occurs [.agg t.pv, .sc (.string name)] (.sc (.bool (occR t name))) := by
  have hoc := occ_consts t name
  refine pure_by is_ref06_Occurs (by simp) rfl fun hb nx => ?_
  clear hb
  have c1 := ref04_Consts_p t hm
  have hlen : (rconstsT t).length ≤ 2 ^ 40 := by
    unfold rconstsT
    split
    · have h1 := insAll_len (namesOf t.pre)
      have h2 := namesOf_len t.pre
      have h3 := pre_len t
      omega
    · simp
  generalize rconstsT t = xs at c1 hoc hlen
  clear hm
  repeat' (first | ((with_reducible first | refine wA (by omega) ?_ | refine wB (by omega) ?_ | refine wC (by omega) ?_ | refine wD (by omega) ?_ | refine wE ?_ ?_ | refine wF ?_ ?_ | refine wG ?_ ?_ | refine wH ?_ ?_ | refine wI ?_ ?_ | refine wJ ?_ ?_ | refine wK ?_ ?_ | refine wL ?_ ?_) <;> intro _) | (((with_reducible refine call_id ?_); (first | (refine call_pure (c1) ?_)))) | simp (maxSteps := 1000000) (disch := omega) only [go_sem, Nat.reduceAdd, Nat.reduceMul, Nat.reduceSub, Nat.reduceLeDiff, Nat.reduceEqDiff, Nat.reduceBEq, ↓reduceIte, reduceCtorEq, Int.reduceEq, Int.reduceLE, Int.reduceLT, Int.reduceAdd, Int.reduceSub, Int.reduceNeg, Int.reduceToNat, Int.reduceNe, Nat.reducePow, Nat.reduceShiftRight, Nat.reduceMod, mc_ref06_Occurs, *])
  clear c1
  refine c_loopW 2096720 (by kernel_rfl) (fun j f H m => ∃ i : Nat, j = xs.length - i ∧ i ≤ xs.length ∧ f 6 = .sc (.int .i64 i) ∧ Kept (name ∉ xs.take i)) _ ⟨0, rfl, Nat.zero_le _, cE1, Kept.mk (by simp)⟩ ?_
  rintro _ f H m ⟨i, rfl, hi, e6, hn⟩
  by_cases hlt : i < xs.length
  · have eg : xs[i]? = some xs[i] := List.getElem?_eq_getElem hlt
    by_cases he : xs[i] = name
    · have e : occR t name = true := hoc.2 (by rw [← he]; exact List.getElem_mem hlt)
      rw [e]
      clear e hn hoc
      repeat' (first | ((with_reducible first | refine wA (by omega) ?_ | refine wB (by omega) ?_ | refine wC (by omega) ?_ | refine wD (by omega) ?_ | refine wE ?_ ?_ | refine wF ?_ ?_ | refine wG ?_ ?_ | refine wH ?_ ?_ | refine wI ?_ ?_ | refine wJ ?_ ?_ | refine wK ?_ ?_ | refine wL ?_ ?_) <;> intro _) | simp (maxSteps := 1000000) (disch := omega) only [go_sem, Nat.reduceAdd, Nat.reduceMul, Nat.reduceSub, Nat.reduceLeDiff, Nat.reduceEqDiff, Nat.reduceBEq, ↓reduceIte, reduceCtorEq, Int.reduceEq, Int.reduceLE, Int.reduceLT, Int.reduceAdd, Int.reduceSub, Int.reduceNeg, Int.reduceToNat, Int.reduceNe, Nat.reducePow, Nat.reduceShiftRight, Nat.reduceMod, txt, strBin, bytes_eq, *])
      all_goals (exact fin_tmp (.inr rfl) cE3)
    · have hn2 : Kept (name ∉ xs.take (i + 1)) := Kept.mk (by
        rw [List.take_succ_eq_append_getElem hlt, List.mem_append, List.mem_singleton]
        exact fun h => h.elim hn.out (fun h => he h.symm))
      have hock := Kept.mk hoc
      clear hn hoc
      repeat' (first | ((with_reducible first | refine wA (by omega) ?_ | refine wB (by omega) ?_ | refine wC (by omega) ?_ | refine wD (by omega) ?_ | refine wE ?_ ?_ | refine wF ?_ ?_ | refine wG ?_ ?_ | refine wH ?_ ?_ | refine wI ?_ ?_ | refine wJ ?_ ?_ | refine wK ?_ ?_ | refine wL ?_ ?_) <;> intro _) | simp (maxSteps := 1000000) (disch := omega) only [go_sem, Nat.reduceAdd, Nat.reduceMul, Nat.reduceSub, Nat.reduceLeDiff, Nat.reduceEqDiff, Nat.reduceBEq, ↓reduceIte, reduceCtorEq, Int.reduceEq, Int.reduceLE, Int.reduceLT, Int.reduceAdd, Int.reduceSub, Int.reduceNeg, Int.reduceToNat, Int.reduceNe, Nat.reducePow, Nat.reduceShiftRight, Nat.reduceMod, txt, strBin, bytes_eq, *])
      exact Nx.mk (xs.length - (i + 1)) cE1 ⟨i + 1, rfl, cE1, by simp [upd], hn2⟩
  · obtain rfl : i = xs.length := by omega
    have h2 := hn.out
    rw [List.take_length] at h2
    have e : occR t name = false := Bool.eq_false_iff.2 fun h => h2 (hoc.1 h)
    rw [e]
    clear e hn h2 hoc
    repeat' (first | ((with_reducible first | refine wA (by omega) ?_ | refine wB (by omega) ?_ | refine wC (by omega) ?_ | refine wD (by omega) ?_ | refine wE ?_ ?_ | refine wF ?_ ?_ | refine wG ?_ ?_ | refine wH ?_ ?_ | refine wI ?_ ?_ | refine wJ ?_ ?_ | refine wK ?_ ?_ | refine wL ?_ ?_) <;> intro _) | simp (maxSteps := 1000000) (disch := omega) only [go_sem, Nat.reduceAdd, Nat.reduceMul, Nat.reduceSub, Nat.reduceLeDiff, Nat.reduceEqDiff, Nat.reduceBEq, ↓reduceIte, reduceCtorEq, Int.reduceEq, Int.reduceLE, Int.reduceLT, Int.reduceAdd, Int.reduceSub, Int.reduceNeg, Int.reduceToNat, Int.reduceNe, Nat.reducePow, Nat.reduceShiftRight, Nat.reduceMod, *])
    all_goals (exact fin_tmp (.inr rfl) cE3)
def swapsL (names : List ByteArray) (us : List Tm) : Tm → Int → LeafR
  | .mk k n s _ _, _ => if k = 3 then (match firstAt s names with
    | some i => (match us[i]? with
      | some u => .put u
      | none => .num n)
    | none => .num n) else .num n
theorem swaps_put {names : List ByteArray} {us : List Tm} {n : Int} {s : ByteArray} {ls : List Lv} {args : List Tm} {deep : Int} {i : Nat} {u : Tm} (h : firstAt s names = some i) (hu : us[i]? = some u) : (Tm.mk 3 n s ls args).fill (swapsL names us) deep = some (u.lift deep 0) := by
  simp [Tm.fill, swapsL, h, hu]
theorem swaps_num {names : List ByteArray} {us : List Tm} {k n : Int} {s : ByteArray} {ls : List Lv} {args : List Tm} {deep : Int} (h : k ≠ 3 ∨ firstAt s names = none) : (Tm.mk k n s ls args).fill (swapsL names us) deep = (fillA (swapsL names us) deep k args.length 0 args).map fun as_ => .mk k n s ls as_ := by
  by_cases h3 : k = 3
  · subst h3
    have h4 : firstAt s names = none := h.elim (fun h => absurd rfl h) id
    simp [Tm.fill, swapsL, h4]
  · by_cases h1 : k = 1
    · subst h1
      simp [Tm.fill, swapsL]
    · simp [Tm.fill, h1, h3]
theorem swaps_one (name : ByteArray) (u : Tm) : swapsL [name] [u] = swapL name u := by
  funext t deep
  cases t with
  | mk k n s ls args =>
  simp only [swapsL, swapL, firstAt]
  by_cases h3 : k = 3
  · by_cases hs : s = name
    · simp [h3, hs]
    · have : ¬ name = s := fun e => hs e.symm
      simp [h3, hs, this]
  · simp [h3]
mutual
theorem swaps_total (names : List ByteArray) (us : List Tm) (hl : us.length = names.length) : ∀ (t : Tm) (deep : Int), ∃ y, t.fill (swapsL names us) deep = some y
  | .mk k n s ls args, deep => by
    obtain ⟨as_, ha⟩ := swapsA_total names us hl args deep k args.length 0
    by_cases h3 : k = 3
    · subst h3
      cases hf : firstAt s names with
      | none => exact ⟨_, by rw [swaps_num (.inr hf), ha]; rfl⟩
      | some i =>
        have hi := (firstAt_lt hf).1
        exact ⟨_, swaps_put hf (List.getElem?_eq_getElem (by omega))⟩
    · exact ⟨_, by rw [swaps_num (.inl h3), ha]; rfl⟩
theorem swapsA_total (names : List ByteArray) (us : List Tm) (hl : us.length = names.length) : ∀ (ts : List Tm) (deep kind : Int) (len i : Nat), ∃ ys, fillA (swapsL names us) deep kind len i ts = some ys
  | [], _, _, _, _ => ⟨[], rfl⟩
  | t :: r, deep, kind, len, i => by
    obtain ⟨y, hy⟩ := swaps_total names us hl t (deep + deepB kind len i)
    obtain ⟨ys, hys⟩ := swapsA_total names us hl r deep kind len (i + 1)
    exact ⟨y :: ys, by simp only [fillA, hy, hys]⟩
end
mutual
theorem abs_swaps (names : List ByteArray) (us : List Tm) (hu : ∀ i, i < names.length → us[i]? = some (varT ((names.length : Int) - 1 - i))) : ∀ (t : Tm) (deep : Int), (t.lift names.length deep).fill (swapsL names us) deep = t.fill (absL names) deep
  | .mk k n s ls args, deep => by
    have hA := absA_swaps names us hu args deep k args.length 0
    have hl := liftA_len names.length deep k args.length args 0
    simp only [Tm.lift]
    by_cases h3 : k = 3
    · subst h3
      rw [if_neg (by omega)]
      cases hf : firstAt s names with
      | none => rw [swaps_num (.inr hf), abs_con0 hf, hl, hA]
      | some i =>
        have hi := (firstAt_lt hf).1
        rw [swaps_put hf (hu i hi), abs_put hf]
        have h0 : (0 : Int) ≤ (names.length : Int) - 1 - i := by omega
        simp [varT, Tm.lift, liftA, h0]
        try omega
    · rw [swaps_num (.inl h3), hl, hA]
      by_cases h1 : k = 1
      · subst h1
        rw [abs_var]
        congr 1
        funext as_
        congr 1
        by_cases hd : deep ≤ n
        · rw [if_pos ⟨rfl, hd⟩, if_pos hd]
        · rw [if_neg (fun h => hd h.2), if_neg hd]
      · rw [abs_node h1 h3, if_neg (fun h => h1 h.1)]
theorem absA_swaps (names : List ByteArray) (us : List Tm) (hu : ∀ i, i < names.length → us[i]? = some (varT ((names.length : Int) - 1 - i))) : ∀ (ts : List Tm) (deep kind : Int) (len i : Nat), fillA (swapsL names us) deep kind len i (liftA names.length deep kind len i ts) = fillA (absL names) deep kind len i ts
  | [], _, _, _, _ => rfl
  | t :: r, deep, kind, len, i => by
    simp only [liftA, fillA, abs_swaps names us hu t (deep + deepB kind len i), absA_swaps names us hu r deep kind len (i + 1)]
end
end
section
set_option maxRecDepth 20000
attribute [local go_sem] pv_len pv_take Nat.add_assoc tm_len tm_take pv_one tm_one id_ne id_ne' id_ne2 List.append_assoc
theorem firstAt_before {key : ByteArray} : ∀ {names : List ByteArray} {i : Nat}, firstAt key names = some i → ∀ (j : Nat) (hj : j < names.length), j < i → names[j] ≠ key
  | s :: r, i, h, j, hj, hji => by
    simp only [firstAt] at h
    split at h
    · cases h; omega
    · rename_i hs
      rw [Option.map_eq_some_iff] at h
      obtain ⟨i', h', rfl⟩ := h
      cases j with
      | zero => exact hs
      | succ j => exact firstAt_before h' j (by simpa using hj) (by omega)
theorem firstAt_none {key : ByteArray} : ∀ {names : List ByteArray}, firstAt key names = none → ∀ (j : Nat) (hj : j < names.length), names[j] ≠ key
  | s :: r, h, j, hj => by
    simp only [firstAt] at h
    split at h
    · cases h
    · rename_i hs
      rw [Option.map_eq_none_iff] at h
      cases j with
      | zero => exact hs
      | succ j => exact firstAt_none h j (by simpa using hj)
set_option maxRecDepth 100000 in
set_option maxHeartbeats 32000000 in
theorem swap_p (names : List ByteArray) (us : List Tm) (hul : us.length = names.length) (hnl : names.length ≤ 2 ^ 20) (hus : ∀ u ∈ us, u.nodes ≤ 2000 ∧ u.formed 4 1125899906842624 = true) : ∀ (fuel : Nat) (t y : Tm) (k deep : Int), t.size ≤ fuel → t.nodes ≤ 2000 → t.formed 4 k = true → 0 ≤ k → k + t.size ≤ 2 ^ 59 → 0 ≤ deep → deep + t.size ≤ 2 ^ 40 → t.fill (swapsL names us) deep = some y →
    ∀ (H : Nat → Option PObj) (nx lid : Nat) (left : Int) (kp : Nat → Bool) (w : Bool), H lid = some ⟨[.sc (.int .i64 left)], w⟩ → lid < nx → -(2 ^ 40) ≤ left - t.nodes ∧ left ≤ 2 ^ 40 → (∀ j, kp j = true → j ≠ lid ∧ j < nx ∧ ∀ o, H j = some o → FixL nx o.cells) →
    PMut Try.prog F.ref06_swap [.agg t.pv, .sl 1 (names.map txt), .sl 5 (us.map Tm.pv), .sc (.int .i64 deep), .osl lid 0 1 1] H nx (wholeQ y H nx lid left kp w) := by
  have hxk := Kept.mk fun i (h : i < us.length) => hus _ (List.getElem_mem h)
  clear hus
  intro fuel
  induction fuel with
  | zero => intro t y k deep h; have := size_pos t; omega
  | succ fuel ih =>
    intro t y k deep hf hm hfm hk0 hk1 hd0 hd1 hfill H nx lid left kp w hH hlid hleft hkp
    cases t with
    | mk kind n s ls args =>
    simp only [Tm.size] at hf hk1 hd1
    simp only [Tm.nodes] at hm hleft
    have hA := Kept.mk (formed_args 4 k kind n s ls args hfm)
    have hdp := Kept.mk (inner_deep hfm)
    have hkpk := Kept.mk hkp
    refine whole_tell hlid hkp ?_
    clear hkp
    have hkp2 := Kept.mk fun j (hj : kp j = true) => (⟨(hkpk.out j hj).1, (hkpk.out j hj).2.1⟩ : j ≠ lid ∧ j < nx)
    have hih := Kept.mk ih
    clear ih
    refine mut_by is_ref06_swap (by simp) fun hb => ?_
    have hb0 : ls.length ≤ 9223372036854775807 ∧ args.length ≤ 9223372036854775807 := by simp [Tm.pv, bndL, PV.bnd] at hb; exact ⟨hb.1.1.1, hb.1.2.1⟩
    clear hb
    by_cases h3 : kind = 3
    · subst h3
      obtain ⟨rfl, rfl, hnm⟩ := fm_con hfm
      cases hfi : firstAt s names with
      | some i =>
        have hil := (firstAt_lt hfi).1
        have hui : i < us.length := by omega
        have egu : us[i]? = some us[i] := List.getElem?_eq_getElem hui
        rw [swaps_put hfi egu] at hfill
        simp only [Option.some.injEq] at hfill
        have hyn : y.nodes = us[i].nodes := by rw [← hfill, lift_nodes]
        have hyk := Kept.mk hfill
        have hur := hxk.out i hui
        have husz := size_nodes us[i]
        have c1 := ref_Nodes_p 2000 (by omega) us[i].size us[i] (Nat.le_refl _)
        rw [show min us[i].nodes (2000 + 1) = us[i].nodes by omega] at c1
        have c2 := Lift_p 4 deep ⟨by omega, by omega⟩ us[i].size us[i] 1125899906842624 0 (Nat.le_refl _) (by omega) (by omega) (by omega) hur.2 (by omega) (by omega)
        have hun := hur.1
        have hbf := Kept.mk (firstAt_before hfi)
        have hat : names[i] = s := by have := (firstAt_lt hfi).2; rw [List.getElem?_eq_getElem hil] at this; exact Option.some.inj this
        clear hfill hfm hA hdp hih hur husz hxk hfi hnm
        repeat' (first | ((with_reducible first | refine wA (by omega) ?_ | refine wB (by omega) ?_ | refine wC (by omega) ?_ | refine wD (by omega) ?_ | refine wE ?_ ?_ | refine wF ?_ ?_ | refine wG ?_ ?_ | refine wH ?_ ?_ | refine wI ?_ ?_ | refine wJ ?_ ?_ | refine wK ?_ ?_ | refine wL ?_ ?_) <;> intro _) | simp (maxSteps := 1000000) (disch := omega) only [go_sem, Nat.reduceAdd, Nat.reduceMul, Nat.reduceSub, Nat.reduceLeDiff, Nat.reduceEqDiff, Nat.reduceBEq, ↓reduceIte, reduceCtorEq, Int.reduceEq, Int.reduceLE, Int.reduceLT, Int.reduceAdd, Int.reduceSub, Int.reduceNeg, Int.reduceToNat, Int.reduceNe, Nat.reducePow, Nat.reduceShiftRight, Nat.reduceMod, mc_ref06_swap, Tm.pv, *])
        refine c_loopW 2305843009146591232 (by kernel_rfl) (fun j f H2 m => ∃ i0 : Nat, j = names.length - i0 ∧ i0 ≤ i ∧ f 12 = .sc (.int .i64 i0) ∧ nx + 13 ≤ m ∧ Kept (∀ j, kp j = true → H2 j = H j) ∧ H2 lid = some ⟨[.sc (.int .i64 (left - 1))], w⟩ ∧ H2 (nx + 1) = some ⟨[.sc (.int .i64 0), .sc (.int .i64 0), .sc (.string ⟨#[]⟩), .sc (.slice none 0 0), .sc (.slice none 0 0)], true⟩) _
          ⟨0, rfl, Nat.zero_le _, cE1, Nat.le_refl _, Kept.mk (fun j hj => by have h1 := hkp2.out j hj; simp [upd, h1.1, show j ≠ nx + 1 by omega]), by simp [upd, show lid ≠ nx + 1 by omega], by simp [upd, show nx + 1 ≠ lid by omega]⟩ ?_
        clear hH
        rintro _ f H2 m ⟨i0, rfl, hi0, e12, hm2, hkk, hL, hz⟩
        have hlt0 : i0 < names.length := by omega
        have eg : names[i0]? = some names[i0] := List.getElem?_eq_getElem hlt0
        by_cases he : i0 = i
        · subst he
          by_cases hneg : left - 1 - ((us[i0].nodes : Int) - 1) < 0
          · repeat' (first | ((with_reducible first | refine wA (by omega) ?_ | refine wB (by omega) ?_ | refine wC (by omega) ?_ | refine wD (by omega) ?_ | refine wE ?_ ?_ | refine wF ?_ ?_ | refine wG ?_ ?_ | refine wH ?_ ?_ | refine wI ?_ ?_ | refine wJ ?_ ?_ | refine wK ?_ ?_ | refine wL ?_ ?_) <;> intro _) | (((with_reducible refine call_id ?_); (first | (refine call_pure (c1) ?_) | (refine call_pure (c2) ?_)))) | simp (maxSteps := 1000000) (disch := omega) only [go_sem, Nat.reduceAdd, Nat.reduceMul, Nat.reduceSub, Nat.reduceLeDiff, Nat.reduceEqDiff, Nat.reduceBEq, ↓reduceIte, reduceCtorEq, Int.reduceEq, Int.reduceLE, Int.reduceLT, Int.reduceAdd, Int.reduceSub, Int.reduceNeg, Int.reduceToNat, Int.reduceNe, Nat.reducePow, Nat.reduceShiftRight, Nat.reduceMod, Tm.pv, txt, strBin, bytes_eq, *])
            exact fin_mut (failPV 0 0) (.inr rfl) cE2 (show wholeRaw y H nx lid left kp w _ _ _ from ⟨Nat.le_trans (by omega : nx ≤ m) (Nat.le_add_right _ _), fun j hj => by have h1 := hkp2.out j hj; have h2 := hkk.out j hj; simp [upd, h1.1, show j ≠ nx + 1 by omega, h2], _, by simp [upd, show lid ≠ nx + 1 by omega]; rfl, .inl ⟨by omega, 0, 0, rfl, fun _ => ⟨rfl, rfl⟩⟩⟩)
          · repeat' (first | ((with_reducible first | refine wA (by omega) ?_ | refine wB (by omega) ?_ | refine wC (by omega) ?_ | refine wD (by omega) ?_ | refine wE ?_ ?_ | refine wF ?_ ?_ | refine wG ?_ ?_ | refine wH ?_ ?_ | refine wI ?_ ?_ | refine wJ ?_ ?_ | refine wK ?_ ?_ | refine wL ?_ ?_) <;> intro _) | (((with_reducible refine call_id ?_); (first | (refine call_pure (c1) ?_) | (refine call_pure (c2) ?_)))) | simp (maxSteps := 1000000) (disch := omega) only [go_sem, Nat.reduceAdd, Nat.reduceMul, Nat.reduceSub, Nat.reduceLeDiff, Nat.reduceEqDiff, Nat.reduceBEq, ↓reduceIte, reduceCtorEq, Int.reduceEq, Int.reduceLE, Int.reduceLT, Int.reduceAdd, Int.reduceSub, Int.reduceNeg, Int.reduceToNat, Int.reduceNe, Nat.reducePow, Nat.reduceShiftRight, Nat.reduceMod, Tm.pv, txt, strBin, bytes_eq, *])
            rw [hyk.out]
            exact fin_mut (.tup [.agg y.pv, .sc (.bool true)]) (.inr (by simp [PV.imm, immL, tm_imm])) cE2 (show wholeRaw y H nx lid left kp w _ _ _ from ⟨Nat.le_trans (by omega : nx ≤ m) (Nat.le_add_right _ _), fun j hj => by have h1 := hkp2.out j hj; have h2 := hkk.out j hj; simp [upd, h1.1, show j ≠ nx + 1 by omega, h2], _, by simp [upd, show lid ≠ nx + 1 by omega]; rfl, .inr ⟨by omega, by omega, .inl rfl⟩⟩)
        · have hne := hbf.out i0 hlt0 (by omega)
          clear c1 c2
          repeat' (first | ((with_reducible first | refine wA (by omega) ?_ | refine wB (by omega) ?_ | refine wC (by omega) ?_ | refine wD (by omega) ?_ | refine wE ?_ ?_ | refine wF ?_ ?_ | refine wG ?_ ?_ | refine wH ?_ ?_ | refine wI ?_ ?_ | refine wJ ?_ ?_ | refine wK ?_ ?_ | refine wL ?_ ?_) <;> intro _) | simp (maxSteps := 1000000) (disch := omega) only [go_sem, Nat.reduceAdd, Nat.reduceMul, Nat.reduceSub, Nat.reduceLeDiff, Nat.reduceEqDiff, Nat.reduceBEq, ↓reduceIte, reduceCtorEq, Int.reduceEq, Int.reduceLE, Int.reduceLT, Int.reduceAdd, Int.reduceSub, Int.reduceNeg, Int.reduceToNat, Int.reduceNe, Nat.reducePow, Nat.reduceShiftRight, Nat.reduceMod, Tm.pv, txt, strBin, bytes_eq, *])
          exact Nx.mk (names.length - (i0 + 1)) cE1 ⟨i0 + 1, rfl, by omega, by simp [upd], Nat.le_trans hm2 (Nat.le_add_right _ _), hkk, hL, hz⟩
      | none =>
        rw [swaps_num (.inr hfi)] at hfill
        simp only [fillA, Option.map_some, Option.some.injEq] at hfill
        subst hfill
        have hyn : (Tm.mk 3 0 s ls []).nodes = 1 + nodesL ls := by simp [Tm.nodes, nodesT]
        have hln : Kept (∀ i (h : i < ls.length), ls[i].nodes ≤ 2000) := Kept.mk fun i h => by
          have := nodesL_mem ls i h
          omega
        have hsl := len_nodesL ls
        have hbf := Kept.mk (firstAt_none hfi)
        clear hfm hA hdp hih hxk hfi hnm
        repeat' (first | ((with_reducible first | refine wA (by omega) ?_ | refine wB (by omega) ?_ | refine wC (by omega) ?_ | refine wD (by omega) ?_ | refine wE ?_ ?_ | refine wF ?_ ?_ | refine wG ?_ ?_ | refine wH ?_ ?_ | refine wI ?_ ?_ | refine wJ ?_ ?_ | refine wK ?_ ?_ | refine wL ?_ ?_) <;> intro _) | simp (maxSteps := 1000000) (disch := omega) only [go_sem, Nat.reduceAdd, Nat.reduceMul, Nat.reduceSub, Nat.reduceLeDiff, Nat.reduceEqDiff, Nat.reduceBEq, ↓reduceIte, reduceCtorEq, Int.reduceEq, Int.reduceLE, Int.reduceLT, Int.reduceAdd, Int.reduceSub, Int.reduceNeg, Int.reduceToNat, Int.reduceNe, Nat.reducePow, Nat.reduceShiftRight, Nat.reduceMod, mc_ref06_swap, Tm.pv, *])
        refine c_loopW 2305843009146591232 (by kernel_rfl) (fun j f H2 m => ∃ i0 : Nat, j = names.length - i0 ∧ i0 ≤ names.length ∧ f 12 = .sc (.int .i64 i0) ∧ nx + 13 ≤ m ∧ Kept (∀ j, kp j = true → H2 j = H j) ∧ H2 lid = some ⟨[.sc (.int .i64 (left - 1))], w⟩ ∧ H2 (nx + 1) = some ⟨[.sc (.int .i64 0), .sc (.int .i64 0), .sc (.string ⟨#[]⟩), .sc (.slice none 0 0), .sc (.slice none 0 0)], true⟩) _
          ⟨0, rfl, Nat.zero_le _, cE1, Nat.le_refl _, Kept.mk (fun j hj => by have h1 := hkp2.out j hj; simp [upd, h1.1, show j ≠ nx + 1 by omega]), by simp [upd, show lid ≠ nx + 1 by omega], by simp [upd, show nx + 1 ≠ lid by omega]⟩ ?_
        clear hH
        rintro _ f0 H0 m0 ⟨i0, rfl, hi0, e12, hm0, hkk0, hL0, hz0⟩
        by_cases hlt0 : i0 < names.length
        · have eg : names[i0]? = some names[i0] := List.getElem?_eq_getElem hlt0
          have hne := hbf.out i0 hlt0
          repeat' (first | ((with_reducible first | refine wA (by omega) ?_ | refine wB (by omega) ?_ | refine wC (by omega) ?_ | refine wD (by omega) ?_ | refine wE ?_ ?_ | refine wF ?_ ?_ | refine wG ?_ ?_ | refine wH ?_ ?_ | refine wI ?_ ?_ | refine wJ ?_ ?_ | refine wK ?_ ?_ | refine wL ?_ ?_) <;> intro _) | simp (maxSteps := 1000000) (disch := omega) only [go_sem, Nat.reduceAdd, Nat.reduceMul, Nat.reduceSub, Nat.reduceLeDiff, Nat.reduceEqDiff, Nat.reduceBEq, ↓reduceIte, reduceCtorEq, Int.reduceEq, Int.reduceLE, Int.reduceLT, Int.reduceAdd, Int.reduceSub, Int.reduceNeg, Int.reduceToNat, Int.reduceNe, Nat.reducePow, Nat.reduceShiftRight, Nat.reduceMod, Tm.pv, txt, strBin, bytes_eq, *])
          exact Nx.mk (names.length - (i0 + 1)) cE1 ⟨i0 + 1, rfl, by omega, by simp [upd], Nat.le_trans hm0 (Nat.le_add_right _ _), hkk0, hL0, hz0⟩
        · obtain rfl : i0 = names.length := by omega
          clear hlt0 hbf
          repeat' (first | ((with_reducible first | refine wA (by omega) ?_ | refine wB (by omega) ?_ | refine wC (by omega) ?_ | refine wD (by omega) ?_ | refine wE ?_ ?_ | refine wF ?_ ?_ | refine wG ?_ ?_ | refine wH ?_ ?_ | refine wI ?_ ?_ | refine wJ ?_ ?_ | refine wK ?_ ?_ | refine wL ?_ ?_) <;> intro _) | simp (maxSteps := 1000000) (disch := omega) only [go_sem, Nat.reduceAdd, Nat.reduceMul, Nat.reduceSub, Nat.reduceLeDiff, Nat.reduceEqDiff, Nat.reduceBEq, ↓reduceIte, reduceCtorEq, Int.reduceEq, Int.reduceLE, Int.reduceLT, Int.reduceAdd, Int.reduceSub, Int.reduceNeg, Int.reduceToNat, Int.reduceNe, Nat.reducePow, Nat.reduceShiftRight, Nat.reduceMod, Tm.pv, *])
          refine c_loopW 158456324733380770007735091200 (by kernel_rfl) (fun j f H2 m => ∃ (i : Nat) (a : PV), j = ls.length - i ∧ i ≤ ls.length ∧ f 14 = .sc (.int .i64 i) ∧ m0 + 14 ≤ m ∧ Kept (∀ j, kp j = true → H2 j = H j) ∧ H2 lid = some ⟨[.sc (.int .i64 (left - 1 - (nodesL (ls.take i) : Nat)))], w⟩ ∧ H2 (nx + 1) = some ⟨[.sc (.int .i64 0), .sc (.int .i64 0), .sc (.string ⟨#[]⟩), .sc (.slice none 0 0), .sc (.slice none 0 0)], true⟩ ∧
            H2 (m0 + 11) = some ⟨[.sc (.int .i64 3), .sc (.int .i64 0), .sc (.string s), a, .sc (.slice none 0 0)], true⟩ ∧ RowAt H2 (m0 + 11) m 3 a ((ls.take i).flatMap Lv.pv) i) _
            ⟨0, _, rfl, Nat.zero_le _, cE1, Nat.le_refl _, Kept.mk (fun j hj => by have h1 := hkp2.out j hj; have h2 := hkk0.out j hj; simp [upd, show j ≠ m0 + 11 by omega, h2]), by simp [upd, show lid ≠ m0 + 11 by omega, nodesL, hL0], by (simp [upd, hz0]; try omega), by simp [upd], .inl ⟨rfl, rfl⟩⟩ ?_
          clear hkk0 hL0 hz0
          rintro _ f H2 m ⟨i, a, rfl, hi, e13, hm2, hkk, hL, hz, ho, hrow⟩
          by_cases hlt : i < ls.length
          · have eg : ls[i]? = some ls[i] := List.getElem?_eq_getElem hlt
            have hni := hln.out i hlt
            have hnt := nodesL_take_le ls i
            have hsn := nodesL_take_succ' ls i hlt
            have hnt2 : nodesL (ls.take (i + 1)) ≤ nodesL ls := nodesL_take_le ls (i + 1)
            have c1 := CopyLevel_p ls[i].nodes ls[i] (Nat.le_refl _) (by omega)
            have c2 := LevelNodes_p 2000 (by omega) ls[i].nodes ls[i] (Nat.le_refl _)
            rw [show min ls[i].nodes (2000 + 1) = ls[i].nodes by omega] at c2
            have hrs : Kept ((ls.take (i + 1)).flatMap Lv.pv = (ls.take i).flatMap Lv.pv ++ ls[i].pv) := Kept.mk (by rw [List.take_succ_eq_append_getElem hlt, List.flatMap_append]; simp)
            have hrl : ((ls.take i).flatMap Lv.pv).length = i * 3 := by rw [flat_lenG _ 3 pv_len, List.length_take]; omega
            have hzz : (i + 1) * 40 ≤ 140737488355328 ∧ i ≤ 4611686018427387903 := by omega
            have hlo : lid ≠ m0 + 11 := by omega
            have hlo2 : m0 + 11 ≠ lid := by omega
            have hce : left - 1 - (nodesL (ls.take i) : Int) - ls[i].nodes = left - 1 - (nodesL (ls.take (i + 1)) : Int) := by omega
            have hcek := Kept.mk hce
            clear hce
            rcases hrow with ⟨rfl, rfl⟩ | ⟨id, g1, g2, rfl, g3⟩
            · have hl0 : nodesL ([] : List Lv) = 0 := by simp [nodesL]
              repeat' (first | ((with_reducible first | refine wA (by omega) ?_ | refine wB (by omega) ?_ | refine wC (by omega) ?_ | refine wD (by omega) ?_ | refine wE ?_ ?_ | refine wF ?_ ?_ | refine wG ?_ ?_ | refine wH ?_ ?_ | refine wI ?_ ?_ | refine wJ ?_ ?_ | refine wK ?_ ?_ | refine wL ?_ ?_) <;> intro _) | (((with_reducible refine call_id ?_); (first | (refine call_pure (c1) ?_) | (refine call_pure (c2) ?_)))) | simp (maxSteps := 1000000) (disch := omega) only [go_sem, Nat.reduceAdd, Nat.reduceMul, Nat.reduceSub, Nat.reduceLeDiff, Nat.reduceEqDiff, Nat.reduceBEq, ↓reduceIte, reduceCtorEq, Int.reduceEq, Int.reduceLE, Int.reduceLT, Int.reduceAdd, Int.reduceSub, Int.reduceNeg, Int.reduceToNat, Int.reduceNe, Nat.reducePow, Nat.reduceShiftRight, Nat.reduceMod, Tm.pv, *])
              exact Nx.mk (ls.length - 1) cE1 ⟨1, .osl (m + 14) 0 1 3, rfl, cE1, by simp [upd], Nat.le_trans hm2 (Nat.le_add_right _ _), Kept.mk (fun j hj => by have h1 := hkp2.out j hj; have h2 := hkk.out j hj; simp [upd, h1.1, show j ≠ m0 + 11 by omega, show j ≠ m + 14 by omega, h2]), by (have hh := hcek.out; simp [nodesL] at hh; simp [upd]; omega), by (simp [upd, show nx + 1 ≠ lid by omega, show nx + 1 ≠ m + 14 by omega, show nx ≠ m0 + 10 by omega, show nx ≠ m + 13 by omega, hz]; try omega), by simp [upd, hlo2], .inr ⟨m + 14, by omega, Nat.add_lt_add_left (by omega) _, rfl, by (have hh := hrs.out; simp at hh; simp [upd, show m + 14 ≠ lid by omega, show m + 14 ≠ m0 + 11 by omega, hh]; try omega)⟩⟩
            · have hli : id ≠ lid := by omega
              have hli2 : lid ≠ id := by omega
              repeat' (first | ((with_reducible first | refine wA (by omega) ?_ | refine wB (by omega) ?_ | refine wC (by omega) ?_ | refine wD (by omega) ?_ | refine wE ?_ ?_ | refine wF ?_ ?_ | refine wG ?_ ?_ | refine wH ?_ ?_ | refine wI ?_ ?_ | refine wJ ?_ ?_ | refine wK ?_ ?_ | refine wL ?_ ?_) <;> intro _) | (((with_reducible refine call_id ?_); (first | (refine call_pure (c1) ?_) | (refine call_pure (c2) ?_)))) | simp (maxSteps := 1000000) (disch := omega) only [go_sem, Nat.reduceAdd, Nat.reduceMul, Nat.reduceSub, Nat.reduceLeDiff, Nat.reduceEqDiff, Nat.reduceBEq, ↓reduceIte, reduceCtorEq, Int.reduceEq, Int.reduceLE, Int.reduceLT, Int.reduceAdd, Int.reduceSub, Int.reduceNeg, Int.reduceToNat, Int.reduceNe, Nat.reducePow, Nat.reduceShiftRight, Nat.reduceMod, Tm.pv, *])
              exact Nx.mk (ls.length - (i + 1)) cE1 ⟨i + 1, .osl (m + 14) 0 (i + 1) 3, rfl, cE1, by simp [upd], Nat.le_trans hm2 (Nat.le_add_right _ _), Kept.mk (fun j hj => by have h1 := hkp2.out j hj; have h2 := hkk.out j hj; simp [upd, h1.1, show j ≠ m0 + 11 by omega, show j ≠ m + 14 by omega, show j ≠ id by omega, h2]), by (have hh := hcek.out; simp [upd]; omega), by (simp [upd, show nx + 1 ≠ lid by omega, show nx + 1 ≠ m + 14 by omega, show nx ≠ m0 + 10 by omega, show nx ≠ m + 13 by omega, show nx + 1 ≠ id by omega, hz]; try omega), by simp [upd, hlo2], .inr ⟨m + 14, by omega, Nat.add_lt_add_left (by omega) _, rfl, by (have hh := hrs.out; simp [upd, show m + 14 ≠ lid by omega, show m + 14 ≠ m0 + 11 by omega, hh]; try omega)⟩⟩
          · obtain rfl : i = ls.length := by omega
            rw [List.take_length] at hL hrow
            clear hlt hi hln
            have hrk := Kept.mk hrow
            have hoa := hrow.oneL
            unfold PV.one at hoa
            clear hrow
            repeat' (first | ((with_reducible first | refine wA (by omega) ?_ | refine wB (by omega) ?_ | refine wC (by omega) ?_ | refine wD (by omega) ?_ | refine wE ?_ ?_ | refine wF ?_ ?_ | refine wG ?_ ?_ | refine wH ?_ ?_ | refine wI ?_ ?_ | refine wJ ?_ ?_ | refine wK ?_ ?_ | refine wL ?_ ?_) <;> intro _) | simp (maxSteps := 1000000) (disch := omega) only [go_sem, Nat.reduceAdd, Nat.reduceMul, Nat.reduceSub, Nat.reduceLeDiff, Nat.reduceEqDiff, Nat.reduceBEq, ↓reduceIte, reduceCtorEq, Int.reduceEq, Int.reduceLE, Int.reduceLT, Int.reduceAdd, Int.reduceSub, Int.reduceNeg, Int.reduceToNat, Int.reduceNe, Nat.reducePow, Nat.reduceShiftRight, Nat.reduceMod, *])
            refine c_rounds 1 ?_
            by_cases hneg : left - 1 - (nodesL ls : Int) < 0
            · repeat' (first | ((with_reducible first | refine wA (by omega) ?_ | refine wB (by omega) ?_ | refine wC (by omega) ?_ | refine wD (by omega) ?_ | refine wE ?_ ?_ | refine wF ?_ ?_ | refine wG ?_ ?_ | refine wH ?_ ?_ | refine wI ?_ ?_ | refine wJ ?_ ?_ | refine wK ?_ ?_ | refine wL ?_ ?_) <;> intro _) | simp (maxSteps := 1000000) (disch := omega) only [go_sem, Nat.reduceAdd, Nat.reduceMul, Nat.reduceSub, Nat.reduceLeDiff, Nat.reduceEqDiff, Nat.reduceBEq, ↓reduceIte, reduceCtorEq, Int.reduceEq, Int.reduceLE, Int.reduceLT, Int.reduceAdd, Int.reduceSub, Int.reduceNeg, Int.reduceToNat, Int.reduceNe, Nat.reducePow, Nat.reduceShiftRight, Nat.reduceMod, rounds_next, *])
              exact fin_mut (failPV 0 0) (.inr rfl) cE2 (show wholeRaw _ H nx lid left kp w _ _ _ from ⟨Nat.le_trans (by omega : nx ≤ m) (Nat.le_add_right _ _), fun j hj => by have h1 := hkp2.out j hj; have h2 := hkk.out j hj; simp [upd, h1.1, show j ≠ nx + 1 by omega, h2], _, by simp [upd, show lid ≠ nx + 1 by omega, hL]; rfl, .inl ⟨by omega, 0, 0, rfl, fun _ => ⟨rfl, rfl⟩⟩⟩)
            · repeat' (first | ((with_reducible first | refine wA (by omega) ?_ | refine wB (by omega) ?_ | refine wC (by omega) ?_ | refine wD (by omega) ?_ | refine wE ?_ ?_ | refine wF ?_ ?_ | refine wG ?_ ?_ | refine wH ?_ ?_ | refine wI ?_ ?_ | refine wJ ?_ ?_ | refine wK ?_ ?_ | refine wL ?_ ?_) <;> intro _) | simp (maxSteps := 1000000) (disch := omega) only [go_sem, Nat.reduceAdd, Nat.reduceMul, Nat.reduceSub, Nat.reduceLeDiff, Nat.reduceEqDiff, Nat.reduceBEq, ↓reduceIte, reduceCtorEq, Int.reduceEq, Int.reduceLE, Int.reduceLT, Int.reduceAdd, Int.reduceSub, Int.reduceNeg, Int.reduceToNat, Int.reduceNe, Nat.reducePow, Nat.reduceShiftRight, Nat.reduceMod, rounds_next, *])
              exact fin_mut (.tup [.agg [.sc (.int .i64 3), .sc (.int .i64 0), .sc (.string s), a, .sc (.slice none 0 0)], .sc (.bool true)]) (.inr rfl) cE2 (show wholeRaw _ H nx lid left kp w _ _ _ from ⟨Nat.le_trans (by omega : nx ≤ m) (Nat.le_add_right _ _), fun j hj => by have h1 := hkp2.out j hj; have h2 := hkk.out j hj; simp [upd, h1.1, show j ≠ nx + 1 by omega, h2], _, by simp [upd, show lid ≠ nx + 1 by omega, hL]; rfl, .inr ⟨by omega, by omega, .inr ⟨3, 0, s, ls, [], a, _, rfl, rfl, (hrk.out.monoL (Nat.le_add_right _ _) (fun j g1 g2 _ => by simp [upd, show j ≠ nx + 1 by omega])).lowL (by omega), .inl ⟨rfl, rfl⟩⟩⟩⟩)
    · have hy : ∃ as_, fillA (swapsL names us) deep kind args.length 0 args = some as_ ∧ y = .mk kind n s ls as_ := by
        rw [swaps_num (.inl h3), Option.map_eq_some_iff] at hfill
        obtain ⟨as_, h, rfl⟩ := hfill
        exact ⟨as_, h, rfl⟩
      obtain ⟨as_, hfa, rfl⟩ := hy
      have hal := fillA_lenM _ _ _ _ _ _ _ hfa
      have hfak := Kept.mk hfa
      have hyn : (Tm.mk kind n s ls as_).nodes = 1 + (nodesL ls + nodesT as_) := by simp only [Tm.nodes]
      have hsl := len_nodesL ls
      have hsa := len_nodesT args
      clear hfill hfa
      have h1 := h3
      clear h3
      · have hln : Kept (∀ i (h : i < ls.length), ls[i].nodes ≤ 2000) := Kept.mk fun i h => by
          have := nodesL_mem ls i h
          omega
        clear hfm
        repeat' (first | ((with_reducible first | refine wA (by omega) ?_ | refine wB (by omega) ?_ | refine wC (by omega) ?_ | refine wD (by omega) ?_ | refine wE ?_ ?_ | refine wF ?_ ?_ | refine wG ?_ ?_ | refine wH ?_ ?_ | refine wI ?_ ?_ | refine wJ ?_ ?_ | refine wK ?_ ?_ | refine wL ?_ ?_) <;> intro _) | simp (maxSteps := 1000000) (disch := omega) only [go_sem, Nat.reduceAdd, Nat.reduceMul, Nat.reduceSub, Nat.reduceLeDiff, Nat.reduceEqDiff, Nat.reduceBEq, ↓reduceIte, reduceCtorEq, Int.reduceEq, Int.reduceLE, Int.reduceLT, Int.reduceAdd, Int.reduceSub, Int.reduceNeg, Int.reduceToNat, Int.reduceNe, Nat.reducePow, Nat.reduceShiftRight, Nat.reduceMod, mc_ref06_swap, Tm.pv, *])
        refine c_loopW 158456324733380770007735091200 (by kernel_rfl) (fun j f H2 m => ∃ (i : Nat) (a : PV), j = ls.length - i ∧ i ≤ ls.length ∧ f 14 = .sc (.int .i64 i) ∧ nx + 22 ≤ m ∧ Kept (∀ j, kp j = true → H2 j = H j) ∧ H2 lid = some ⟨[.sc (.int .i64 (left - 1 - (nodesL (ls.take i) : Nat)))], w⟩ ∧ H2 (nx + 1) = some ⟨[.sc (.int .i64 0), .sc (.int .i64 0), .sc (.string ⟨#[]⟩), .sc (.slice none 0 0), .sc (.slice none 0 0)], true⟩ ∧
          H2 (nx + 19) = some ⟨[.sc (.int .i64 kind), .sc (.int .i64 n), .sc (.string s), a, .sc (.slice none 0 0)], true⟩ ∧ RowAt H2 (nx + 19) m 3 a ((ls.take i).flatMap Lv.pv) i) _
          ⟨0, _, rfl, Nat.zero_le _, cE1, Nat.le_refl _, Kept.mk (fun j hj => by have h1 := hkp2.out j hj; simp [upd, h1.1, show j ≠ nx + 1 by omega, show j ≠ nx + 19 by omega]), by simp [upd, show lid ≠ nx + 1 by omega, show lid ≠ nx + 19 by omega, nodesL], by simp [upd, show nx + 1 ≠ lid by omega], by simp [upd], .inl ⟨rfl, rfl⟩⟩ ?_
        clear hH
        rintro _ f H2 m ⟨i, a, rfl, hi, e13, hm2, hkk, hL, hz, ho, hrow⟩
        by_cases hlt : i < ls.length
        · have eg : ls[i]? = some ls[i] := List.getElem?_eq_getElem hlt
          have hni := hln.out i hlt
          have hnt := nodesL_take_le ls i
          have hsn := nodesL_take_succ' ls i hlt
          have hnt2 : nodesL (ls.take (i + 1)) ≤ nodesL ls := nodesL_take_le ls (i + 1)
          have c1 := CopyLevel_p ls[i].nodes ls[i] (Nat.le_refl _) (by omega)
          have c2 := LevelNodes_p 2000 (by omega) ls[i].nodes ls[i] (Nat.le_refl _)
          rw [show min ls[i].nodes (2000 + 1) = ls[i].nodes by omega] at c2
          have hrs : Kept ((ls.take (i + 1)).flatMap Lv.pv = (ls.take i).flatMap Lv.pv ++ ls[i].pv) := Kept.mk (by rw [List.take_succ_eq_append_getElem hlt, List.flatMap_append]; simp)
          have hrl : ((ls.take i).flatMap Lv.pv).length = i * 3 := by rw [flat_lenG _ 3 pv_len, List.length_take]; omega
          have hzz : (i + 1) * 40 ≤ 140737488355328 ∧ i ≤ 4611686018427387903 := by omega
          have hlo : lid ≠ nx + 19 := by omega
          have hlo2 : nx + 19 ≠ lid := by omega
          have hce : left - 1 - (nodesL (ls.take i) : Int) - ls[i].nodes = left - 1 - (nodesL (ls.take (i + 1)) : Int) := by omega
          have hcek := Kept.mk hce
          clear hih hA hdp hce
          rcases hrow with ⟨rfl, rfl⟩ | ⟨id, g1, g2, rfl, g3⟩
          · have hl0 : nodesL ([] : List Lv) = 0 := by simp [nodesL]
            repeat' (first | ((with_reducible first | refine wA (by omega) ?_ | refine wB (by omega) ?_ | refine wC (by omega) ?_ | refine wD (by omega) ?_ | refine wE ?_ ?_ | refine wF ?_ ?_ | refine wG ?_ ?_ | refine wH ?_ ?_ | refine wI ?_ ?_ | refine wJ ?_ ?_ | refine wK ?_ ?_ | refine wL ?_ ?_) <;> intro _) | (((with_reducible refine call_id ?_); (first | (refine call_pure (c1) ?_) | (refine call_pure (c2) ?_)))) | simp (maxSteps := 1000000) (disch := omega) only [go_sem, Nat.reduceAdd, Nat.reduceMul, Nat.reduceSub, Nat.reduceLeDiff, Nat.reduceEqDiff, Nat.reduceBEq, ↓reduceIte, reduceCtorEq, Int.reduceEq, Int.reduceLE, Int.reduceLT, Int.reduceAdd, Int.reduceSub, Int.reduceNeg, Int.reduceToNat, Int.reduceNe, Nat.reducePow, Nat.reduceShiftRight, Nat.reduceMod, Tm.pv, *])
            exact Nx.mk (ls.length - 1) cE1 ⟨1, .osl (m + 14) 0 1 3, rfl, cE1, by simp [upd], Nat.le_trans hm2 (Nat.le_add_right _ _), Kept.mk (fun j hj => by have h1 := hkp2.out j hj; have h2 := hkk.out j hj; simp [upd, h1.1, show j ≠ nx + 19 by omega, show j ≠ m + 14 by omega, h2]), by (have hh := hcek.out; simp [nodesL] at hh; simp [upd]; omega), by (simp [upd, show nx + 1 ≠ lid by omega, show nx + 1 ≠ m + 14 by omega, hz]; try omega), by simp [upd, hlo2], .inr ⟨m + 14, by omega, Nat.add_lt_add_left (by omega) _, rfl, by (have hh := hrs.out; simp at hh; simp [upd, show m + 14 ≠ lid by omega, show m + 14 ≠ nx + 19 by omega, hh]; try omega)⟩⟩
          · have hli : id ≠ lid := by omega
            have hli2 : lid ≠ id := by omega
            repeat' (first | ((with_reducible first | refine wA (by omega) ?_ | refine wB (by omega) ?_ | refine wC (by omega) ?_ | refine wD (by omega) ?_ | refine wE ?_ ?_ | refine wF ?_ ?_ | refine wG ?_ ?_ | refine wH ?_ ?_ | refine wI ?_ ?_ | refine wJ ?_ ?_ | refine wK ?_ ?_ | refine wL ?_ ?_) <;> intro _) | (((with_reducible refine call_id ?_); (first | (refine call_pure (c1) ?_) | (refine call_pure (c2) ?_)))) | simp (maxSteps := 1000000) (disch := omega) only [go_sem, Nat.reduceAdd, Nat.reduceMul, Nat.reduceSub, Nat.reduceLeDiff, Nat.reduceEqDiff, Nat.reduceBEq, ↓reduceIte, reduceCtorEq, Int.reduceEq, Int.reduceLE, Int.reduceLT, Int.reduceAdd, Int.reduceSub, Int.reduceNeg, Int.reduceToNat, Int.reduceNe, Nat.reducePow, Nat.reduceShiftRight, Nat.reduceMod, Tm.pv, *])
            exact Nx.mk (ls.length - (i + 1)) cE1 ⟨i + 1, .osl (m + 14) 0 (i + 1) 3, rfl, cE1, by simp [upd], Nat.le_trans hm2 (Nat.le_add_right _ _), Kept.mk (fun j hj => by have h1 := hkp2.out j hj; have h2 := hkk.out j hj; simp [upd, h1.1, show j ≠ nx + 19 by omega, show j ≠ m + 14 by omega, show j ≠ id by omega, h2]), by (have hh := hcek.out; simp [upd]; omega), by (simp [upd, show nx + 1 ≠ lid by omega, show nx + 1 ≠ m + 14 by omega, show nx + 1 ≠ id by omega, hz]; try omega), by simp [upd, hlo2], .inr ⟨m + 14, by omega, Nat.add_lt_add_left (by omega) _, rfl, by (have hh := hrs.out; simp [upd, show m + 14 ≠ lid by omega, show m + 14 ≠ nx + 19 by omega, hh]; try omega)⟩⟩
        · obtain rfl : i = ls.length := by omega
          rw [List.take_length] at hL hrow
          clear hlt hi hln
          have hrk := Kept.mk hrow
          clear hrow
          repeat' (first | ((with_reducible first | refine wA (by omega) ?_ | refine wB (by omega) ?_ | refine wC (by omega) ?_ | refine wD (by omega) ?_ | refine wE ?_ ?_ | refine wF ?_ ?_ | refine wG ?_ ?_ | refine wH ?_ ?_ | refine wI ?_ ?_ | refine wJ ?_ ?_ | refine wK ?_ ?_ | refine wL ?_ ?_) <;> intro _) | simp (maxSteps := 1000000) (disch := omega) only [go_sem, Nat.reduceAdd, Nat.reduceMul, Nat.reduceSub, Nat.reduceLeDiff, Nat.reduceEqDiff, Nat.reduceBEq, ↓reduceIte, reduceCtorEq, Int.reduceEq, Int.reduceLE, Int.reduceLT, Int.reduceAdd, Int.reduceSub, Int.reduceNeg, Int.reduceToNat, Int.reduceNe, Nat.reducePow, Nat.reduceShiftRight, Nat.reduceMod, *])
          refine c_loopW 1361129467525297528824969754539985176576 (by kernel_rfl) (fun j f H3 m3 => ∃ (i2 : Nat) (b : PV) (v : Int), j = args.length - i2 ∧ i2 ≤ args.length ∧ f 15 = .sc (.int .i64 i2) ∧ m ≤ m3 ∧ Kept (∀ j, kp j = true → H3 j = H j) ∧ H3 lid = some ⟨[.sc (.int .i64 v)], w⟩ ∧ Kept (v = left - 1 - (nodesL ls : Nat) - (nodesT (as_.take i2) : Nat)) ∧ ((i2 = 0 ∧ v = left - 1 - (nodesL ls : Nat)) ∨ 0 ≤ v) ∧ v ≤ 2 ^ 40 ∧ H3 (nx + 1) = some ⟨[.sc (.int .i64 0), .sc (.int .i64 0), .sc (.string ⟨#[]⟩), .sc (.slice none 0 0), .sc (.slice none 0 0)], true⟩ ∧
            H3 (nx + 19) = some ⟨[.sc (.int .i64 kind), .sc (.int .i64 n), .sc (.string s), a, b], true⟩ ∧ Kept (RowAt H3 (nx + 19) m 3 a (ls.flatMap Lv.pv) ls.length) ∧ RowAt H3 m m3 5 b ((as_.take i2).flatMap Tm.pv) i2) _
            ⟨0, _, _, rfl, Nat.zero_le _, cE1, Nat.le_add_right _ _, hkk, hL, Kept.mk (by simp [nodesT]), .inl ⟨rfl, rfl⟩, by omega, hz, ho, hrk, .inl ⟨rfl, rfl⟩⟩ ?_
          clear hkk hL hz ho hrk
          rintro _ f3 H3 m3 ⟨i2, b, v, rfl, hi2, e14, hm3, hkk, hL, hv, hv2, hv3, hz, ho', hrk, hrow⟩
          by_cases hlt2 : i2 < args.length
          · have eg : args[i2]? = some args[i2] := List.getElem?_eq_getElem hlt2
            have hlt3 : i2 < as_.length := by omega
            have hd := deep_bd kind args.length i2
            have hn := nodesT_mem args i2 hlt2
            have hs := sizeL_mem args i2 hlt2
            have hfi := formedA_mem 4 k kind args.length args 0 i2 hlt2 hA.out
            rw [Nat.zero_add] at hfi
            have hfl := fillA_at (swapsL names us) args as_ deep kind args.length 0 i2 hlt2 hlt3 hfak.out
            rw [Nat.zero_add] at hfl
            have c1 := inner6_p kind deep i2 ⟨hd0, by omega⟩
            rw [← hdp.out i2 hlt2] at c1
            have hfik := Kept.mk hfi
            have hflk := Kept.mk hfl
            have hrwk := Kept.mk hrow
            clear hfi hfl hrow
            repeat' (first | ((with_reducible first | refine wA (by omega) ?_ | refine wB (by omega) ?_ | refine wC (by omega) ?_ | refine wD (by omega) ?_ | refine wE ?_ ?_ | refine wF ?_ ?_ | refine wG ?_ ?_ | refine wH ?_ ?_ | refine wI ?_ ?_ | refine wJ ?_ ?_ | refine wK ?_ ?_ | refine wL ?_ ?_) <;> intro _) | (((with_reducible refine call_id ?_); (first | (refine call_pure (c1) ?_)))) | simp (maxSteps := 1000000) (disch := omega) only [go_sem, Nat.reduceAdd, Nat.reduceMul, Nat.reduceSub, Nat.reduceLeDiff, Nat.reduceEqDiff, Nat.reduceBEq, ↓reduceIte, reduceCtorEq, Int.reduceEq, Int.reduceLE, Int.reduceLT, Int.reduceAdd, Int.reduceSub, Int.reduceNeg, Int.reduceToNat, Int.reduceNe, Nat.reducePow, Nat.reduceShiftRight, Nat.reduceMod, Tm.pv, *])
            refine whole_callA (fun j => kp j || decide (j = nx + 1) || decide (j = nx + 19) || leads a j || leads b j) (fun H nx kp => hih.out args[i2] as_[i2] (k + deepB kind args.length i2) (deep + deepB kind args.length i2) (by omega) (by omega) hfik.out (by omega) (by omega) (by omega) (by omega) hflk.out H nx lid v kp w |> fun g h1 h2 => g h1 h2 ⟨by omega, by omega⟩) hL (Nat.lt_of_lt_of_le (by omega : lid < m3) (Nat.le_add_right _ _)) ?kp ?hl ?hkn ?hlt ?_
            case hl => exact Nat.ne_of_lt (Nat.lt_of_lt_of_le (by omega : lid < m3) (by show m3 ≤ m3 + _ + _; omega))
            case hkn =>
              intro j hj
              have hlt : j < m3 := by
                simp only [Bool.or_eq_true, decide_eq_true_eq] at hj
                rcases hj with (((hj | rfl) | rfl) | hj) | hj
                · have h1 := hkpk.out j hj; omega
                · omega
                · omega
                · have h1 := hrk.out.leadL (lvs_flat_imm ls) hj 0; omega
                · have h1 := hrwk.out.leadL (tms_flat_imm _) hj 0; omega
              exact Nat.ne_of_lt (Nat.lt_of_lt_of_le hlt (by show m3 ≤ m3 + _ + _; omega))
            case hlt => show m3 + _ + _ < m3 + _; omega
            case kp =>
              intro j hj
              simp only [Bool.or_eq_true, decide_eq_true_eq] at hj
              rcases hj with (((hj | rfl) | rfl) | hj) | hj
              · have h1 := hkpk.out j hj
                exact ⟨h1.1, Nat.lt_of_lt_of_le (by omega : j < m3) (Nat.le_add_right _ _), fun o ho => (h1.2.2 o ((hkk.out j hj).symm.trans ho)).mono (Nat.le_trans (by omega : nx ≤ m3) (Nat.le_add_right _ _))⟩
              · refine ⟨by omega, Nat.lt_of_lt_of_le (by omega : nx + 1 < m3) (Nat.le_add_right _ _), fun o ho => ?_⟩
                have := hz.symm.trans ho
                cases this
                exact .imm rfl
              · refine ⟨by omega, Nat.lt_of_lt_of_le (by omega : nx + 19 < m3) (Nat.le_add_right _ _), fun o ho => ?_⟩
                have := ho'.symm.trans ho
                cases this
                exact .cons rfl (.cons rfl (.cons rfl (hrk.out.fixL (Nat.le_trans (by omega : m ≤ m3) (Nat.le_add_right _ _)) (hrwk.out.fixL (Nat.le_add_right _ _) .nil))))
              · have h1 := hrk.out.leadL (lvs_flat_imm ls) hj 0
                exact ⟨by omega, Nat.lt_of_lt_of_le (by omega : j < m3) (Nat.le_add_right _ _), fun o ho => (hrk.out.leadL (lvs_flat_imm ls) hj _).2.2 o ho⟩
              · have h1 := hrwk.out.leadL (tms_flat_imm _) hj 0
                exact ⟨by omega, Nat.lt_of_lt_of_le (by omega : j < m3) (Nat.le_add_right _ _), fun o ho => (hrwk.out.leadL (tms_flat_imm _) hj _).2.2 o ho⟩
            rintro H' nx' r' ⟨hn1, hk1, x, hx, hcase⟩ -
            have hn2 : m3 ≤ nx' := Nat.le_trans (Nat.le_add_right _ _) hn1
            have hkk' : Kept (∀ j, kp j = true → H' j = H j) := Kept.mk fun j hj => (hk1 j (by simp [hj])).trans (hkk.out j hj)
            have hz' : H' (nx + 1) = _ := (hk1 (nx + 1) (by simp)).trans hz
            have ho2 : H' (nx + 19) = _ := (hk1 (nx + 19) (by simp)).trans ho'
            have hrk' : Kept (RowAt H' (nx + 19) m 3 a (ls.flatMap Lv.pv) ls.length) := Kept.mk (hrk.out.monoL (Nat.le_refl _) fun j g1 g2 g3 => hk1 j (by simp [g3]))
            have hrw' : RowAt H' m m3 5 b ((as_.take i2).flatMap Tm.pv) i2 := hrwk.out.monoL (Nat.le_refl _) fun j g1 g2 g3 => hk1 j (by simp [g3])
            have hnt := nodesT_take_succ as_ i2 hlt3
            have hnl := nodesT_take_le as_ (i2 + 1)
            have hv' := hv.out
            clear hk1 hkk hz ho' hrk hrwk hih hfik hflk hA hdp hn1 c1 hL
            rcases hcase with ⟨hbad, cc, dd, rfl, _⟩ | ⟨hle, rfl, rfl⟩
            · have hno : left < 1 + (nodesL ls + nodesT as_ : Nat) := by omega
              clear hnt hnl hv' hv hv2 hbad
              simp only [failPV]
              repeat' (first | ((with_reducible first | refine wA (by omega) ?_ | refine wB (by omega) ?_ | refine wC (by omega) ?_ | refine wD (by omega) ?_ | refine wE ?_ ?_ | refine wF ?_ ?_ | refine wG ?_ ?_ | refine wH ?_ ?_ | refine wI ?_ ?_ | refine wJ ?_ ?_ | refine wK ?_ ?_ | refine wL ?_ ?_) <;> intro _) | simp (maxSteps := 1000000) (disch := omega) only [go_sem, Nat.reduceAdd, Nat.reduceMul, Nat.reduceSub, Nat.reduceLeDiff, Nat.reduceEqDiff, Nat.reduceBEq, ↓reduceIte, reduceCtorEq, Int.reduceEq, Int.reduceLE, Int.reduceLT, Int.reduceAdd, Int.reduceSub, Int.reduceNeg, Int.reduceToNat, Int.reduceNe, Nat.reducePow, Nat.reduceShiftRight, Nat.reduceMod, Tm.pv, *])
              exact fin_mut (failPV 0 0) (.inr rfl) cE2 (show wholeRaw _ H nx lid left kp w _ _ _ from ⟨Nat.le_trans (by omega : nx ≤ nx') (Nat.le_add_right _ _), fun j hj => (by have h1 := hkp2.out j hj; have h2 := hkk'.out j hj; simp [upd, show j ≠ nx + 1 by omega, show j ≠ m3 + 22 by omega, h2]), x, by simp [upd, show lid ≠ nx + 1 by omega, show lid ≠ m3 + 22 by omega, hx], .inl ⟨by omega, 0, 0, rfl, fun _ => ⟨rfl, rfl⟩⟩⟩)
            · have hvn : Kept (v - as_[i2].nodes = left - 1 - (nodesL ls : Nat) - (nodesT (as_.take (i2 + 1)) : Nat)) := Kept.mk (by omega)
              have hrs : Kept ((as_.take (i2 + 1)).flatMap Tm.pv = (as_.take i2).flatMap Tm.pv ++ as_[i2].pv) := Kept.mk (by rw [List.take_succ_eq_append_getElem hlt3, List.flatMap_append]; simp)
              have hrl : ((as_.take i2).flatMap Tm.pv).length = i2 * 5 := by rw [flat_lenG _ 5 tm_len, List.length_take]; omega
              have hzz : (i2 + 1) * 80 ≤ 140737488355328 ∧ i2 ≤ 4611686018427387903 := by omega
              clear hnt hnl hv' hv hv2
              rcases hrw' with ⟨rfl, rfl⟩ | ⟨id, g1, g2, rfl, g3⟩
              · repeat' (first | ((with_reducible first | refine wA (by omega) ?_ | refine wB (by omega) ?_ | refine wC (by omega) ?_ | refine wD (by omega) ?_ | refine wE ?_ ?_ | refine wF ?_ ?_ | refine wG ?_ ?_ | refine wH ?_ ?_ | refine wI ?_ ?_ | refine wJ ?_ ?_ | refine wK ?_ ?_ | refine wL ?_ ?_) <;> intro _) | simp (maxSteps := 1000000) (disch := omega) only [go_sem, Nat.reduceAdd, Nat.reduceMul, Nat.reduceSub, Nat.reduceLeDiff, Nat.reduceEqDiff, Nat.reduceBEq, ↓reduceIte, reduceCtorEq, Int.reduceEq, Int.reduceLE, Int.reduceLT, Int.reduceAdd, Int.reduceSub, Int.reduceNeg, Int.reduceToNat, Int.reduceNe, Nat.reducePow, Nat.reduceShiftRight, Nat.reduceMod, Tm.pv, *])
                exact Nx.mk (args.length - 1) cE1 ⟨1, .osl (nx' + 6) 0 1 5, v - as_[0].nodes, rfl, cE1, by simp [upd], Nat.le_trans (by omega : m ≤ nx') (Nat.le_add_right _ _), Kept.mk (fun j hj => by have h1 := hkp2.out j hj; have h2 := hkk'.out j hj; simp [upd, show j ≠ nx + 19 by omega, show j ≠ nx' + 6 by omega, show j ≠ m3 + 22 by omega, h2]), by simp [upd, show lid ≠ nx + 19 by omega, show lid ≠ nx' + 6 by omega, show lid ≠ m3 + 22 by omega, hx], hvn, .inr (by omega), by omega, by (simp [upd, show nx + 1 ≠ nx' + 6 by omega, show nx + 1 ≠ m3 + 22 by omega, show nx ≠ nx' + 5 by omega, show nx ≠ m3 + 21 by omega, hz']; try omega), by simp [upd], Kept.mk (hrk'.out.monoL (Nat.le_refl _) fun j g1 g2 _ => by simp [upd, show j ≠ nx + 19 by omega, show j ≠ nx' + 6 by omega, show j ≠ m3 + 22 by omega]), .inr ⟨nx' + 6, by omega, Nat.add_lt_add_left (by omega) _, rfl, by (have hh := hrs.out; simp at hh; simp [upd, show nx' + 6 ≠ nx + 19 by omega, hh]; try omega)⟩⟩
              · have hid : id ≠ m3 + 22 := by omega
                have hid2 : m3 + 22 ≠ id := by omega
                have hid3 : id ≠ nx + 19 := by omega
                have hid4 : id ≠ nx' + 6 := by omega
                repeat' (first | ((with_reducible first | refine wA (by omega) ?_ | refine wB (by omega) ?_ | refine wC (by omega) ?_ | refine wD (by omega) ?_ | refine wE ?_ ?_ | refine wF ?_ ?_ | refine wG ?_ ?_ | refine wH ?_ ?_ | refine wI ?_ ?_ | refine wJ ?_ ?_ | refine wK ?_ ?_ | refine wL ?_ ?_) <;> intro _) | simp (maxSteps := 1000000) (disch := omega) only [go_sem, Nat.reduceAdd, Nat.reduceMul, Nat.reduceSub, Nat.reduceLeDiff, Nat.reduceEqDiff, Nat.reduceBEq, ↓reduceIte, reduceCtorEq, Int.reduceEq, Int.reduceLE, Int.reduceLT, Int.reduceAdd, Int.reduceSub, Int.reduceNeg, Int.reduceToNat, Int.reduceNe, Nat.reducePow, Nat.reduceShiftRight, Nat.reduceMod, Tm.pv, *])
                exact Nx.mk (args.length - (i2 + 1)) cE1 ⟨i2 + 1, .osl (nx' + 6) 0 (i2 + 1) 5, v - as_[i2].nodes, rfl, cE1, by simp [upd], Nat.le_trans (by omega : m ≤ nx') (Nat.le_add_right _ _), Kept.mk (fun j hj => by have h1 := hkp2.out j hj; have h2 := hkk'.out j hj; simp [upd, show j ≠ nx + 19 by omega, show j ≠ nx' + 6 by omega, show j ≠ m3 + 22 by omega, show j ≠ id by omega, h2]), by simp [upd, show lid ≠ nx + 19 by omega, show lid ≠ nx' + 6 by omega, show lid ≠ m3 + 22 by omega, show lid ≠ id by omega, hx], hvn, .inr (by omega), by omega, by (simp [upd, show nx + 1 ≠ nx' + 6 by omega, show nx + 1 ≠ m3 + 22 by omega, show nx + 1 ≠ id by omega, show nx ≠ nx' + 5 by omega, show nx ≠ m3 + 21 by omega, hz']; try omega), by simp [upd], Kept.mk (hrk'.out.monoL (Nat.le_refl _) fun j g1 g2 _ => by simp [upd, show j ≠ nx + 19 by omega, show j ≠ nx' + 6 by omega, show j ≠ m3 + 22 by omega, show j ≠ id by omega]), .inr ⟨nx' + 6, by omega, Nat.add_lt_add_left (by omega) _, rfl, by (have hh := hrs.out; simp [upd, show nx' + 6 ≠ nx + 19 by omega, hh]; try omega)⟩⟩
          · obtain rfl : i2 = args.length := by omega
            have hrow2 : RowAt H3 m m3 5 b (as_.flatMap Tm.pv) as_.length := by rw [List.take_of_length_le (by omega)] at hrow; rw [hal]; exact hrow
            have hv' := hv.out
            rw [List.take_of_length_le (by omega)] at hv'
            have hrowk := Kept.mk hrow2
            have hoa := hrk.out.oneL
            have hob := hrow2.oneL
            unfold PV.one at hoa hob
            clear hrow hrow2 hih hA hdp hfak
            by_cases hneg : v < 0
            · repeat' (first | ((with_reducible first | refine wA (by omega) ?_ | refine wB (by omega) ?_ | refine wC (by omega) ?_ | refine wD (by omega) ?_ | refine wE ?_ ?_ | refine wF ?_ ?_ | refine wG ?_ ?_ | refine wH ?_ ?_ | refine wI ?_ ?_ | refine wJ ?_ ?_ | refine wK ?_ ?_ | refine wL ?_ ?_) <;> intro _) | simp (maxSteps := 1000000) (disch := omega) only [go_sem, Nat.reduceAdd, Nat.reduceMul, Nat.reduceSub, Nat.reduceLeDiff, Nat.reduceEqDiff, Nat.reduceBEq, ↓reduceIte, reduceCtorEq, Int.reduceEq, Int.reduceLE, Int.reduceLT, Int.reduceAdd, Int.reduceSub, Int.reduceNeg, Int.reduceToNat, Int.reduceNe, Nat.reducePow, Nat.reduceShiftRight, Nat.reduceMod, Tm.pv, *])
              exact fin_mut (failPV 0 0) (.inr rfl) cE2 (show wholeRaw _ H nx lid left kp w _ _ _ from ⟨Nat.le_trans (by omega : nx ≤ m3) (Nat.le_add_right _ _), fun j hj => by have h1 := hkp2.out j hj; have h2 := hkk.out j hj; simp [upd, h1.1, show j ≠ nx + 1 by omega, h2], v, by simp [upd, show lid ≠ nx + 1 by omega, hL], .inl ⟨by omega, 0, 0, rfl, fun _ => ⟨rfl, rfl⟩⟩⟩)
            · repeat' (first | ((with_reducible first | refine wA (by omega) ?_ | refine wB (by omega) ?_ | refine wC (by omega) ?_ | refine wD (by omega) ?_ | refine wE ?_ ?_ | refine wF ?_ ?_ | refine wG ?_ ?_ | refine wH ?_ ?_ | refine wI ?_ ?_ | refine wJ ?_ ?_ | refine wK ?_ ?_ | refine wL ?_ ?_) <;> intro _) | simp (maxSteps := 1000000) (disch := omega) only [go_sem, Nat.reduceAdd, Nat.reduceMul, Nat.reduceSub, Nat.reduceLeDiff, Nat.reduceEqDiff, Nat.reduceBEq, ↓reduceIte, reduceCtorEq, Int.reduceEq, Int.reduceLE, Int.reduceLT, Int.reduceAdd, Int.reduceSub, Int.reduceNeg, Int.reduceToNat, Int.reduceNe, Nat.reducePow, Nat.reduceShiftRight, Nat.reduceMod, Tm.pv, *])
              exact fin_mut (.tup [.agg [.sc (.int .i64 kind), .sc (.int .i64 n), .sc (.string s), a, b], .sc (.bool true)]) (.inr rfl) cE2 (show wholeRaw _ H nx lid left kp w _ _ _ from ⟨Nat.le_trans (by omega : nx ≤ m3) (Nat.le_add_right _ _), fun j hj => by have h1 := hkp2.out j hj; have h2 := hkk.out j hj; simp [upd, h1.1, show j ≠ nx + 1 by omega, h2], v, by simp [upd, show lid ≠ nx + 1 by omega, hL], .inr ⟨by omega, by omega, .inr ⟨kind, n, s, ls, as_, a, b, rfl, rfl, (hrk.out.monoL (Nat.le_trans (by omega : m ≤ m3) (Nat.le_add_right _ _)) (fun j g1 g2 _ => by simp [upd, show j ≠ nx + 1 by omega])).lowL (Nat.le_add_right _ _), (hrowk.out.monoL (Nat.le_add_right _ _) (fun j g1 g2 _ => by simp [upd, show j ≠ nx + 1 by omega])).lowL (by omega)⟩⟩⟩)
end
section
set_option maxRecDepth 20000
attribute [local go_sem] pv_len pv_take Nat.add_assoc tm_len tm_take pv_one tm_one id_ne id_ne' id_ne2 List.append_assoc
def instR (t : Tm) (xs : List Tm) : Option Tm := if t.right 4 1125899906842624 = true ∧ xs.all (fun x => x.right 4 1125899906842624) = true then cap2 (t.fill (instL6 xs) 0) else none
theorem instL6_put {xs : List Tm} {t u : Tm} {deep : Int} (h : instL6 xs t deep = .put u) : u ∈ xs := by
  cases t
  simp only [instL6] at h
  split at h
  · split at h
    · rename_i h2
      cases h
      exact List.mem_reverse.1 (List.mem_of_getElem? h2)
    · cases h
  · cases h
set_option maxHeartbeats 16000000 in
theorem bind_Inst_p (t : Tm) (xs : List Tm) (hl : xs.length ≤ 2 ^ 40) : PPure Try.prog F.bind_Inst [.agg t.pv, .sl 5 (xs.map Tm.pv)] (optT (instR t xs)) := by
  refine pure_by is_bind_Inst (by simp) (optT_imm _) fun hb nx => ?_
  clear hb
  have c1 := bind_right_p t
  cases hr : t.right 4 1125899906842624 with
  | false =>
    have e : instR t xs = none := if_neg fun h => by rw [hr] at h; exact absurd h.1 (by decide)
    rw [e]
    rw [hr] at c1
    simp only [optT, zeroT]
    clear e hr
    repeat' (first | ((with_reducible first | refine wA (by omega) ?_ | refine wB (by omega) ?_ | refine wC (by omega) ?_ | refine wD (by omega) ?_ | refine wE ?_ ?_ | refine wF ?_ ?_ | refine wG ?_ ?_ | refine wH ?_ ?_ | refine wI ?_ ?_ | refine wJ ?_ ?_ | refine wK ?_ ?_ | refine wL ?_ ?_) <;> intro _) | (((with_reducible refine call_id ?_); (first | (refine call_pure (c1) ?_)))) | simp (maxSteps := 1000000) (disch := omega) only [go_sem, Nat.reduceAdd, Nat.reduceMul, Nat.reduceSub, Nat.reduceLeDiff, Nat.reduceEqDiff, Nat.reduceBEq, ↓reduceIte, reduceCtorEq, Int.reduceEq, Int.reduceLE, Int.reduceLT, Int.reduceAdd, Int.reduceSub, Int.reduceNeg, Int.reduceToNat, Int.reduceNe, Nat.reducePow, Nat.reduceShiftRight, Nat.reduceMod, mc_bind_Inst, *])
    all_goals
      refine fin_ret (r0 := .tup [.agg [.sc (.int .i64 0), .sc (.int .i64 0), .sc (.string ⟨#[]⟩), .sc (.slice none 0 0), .sc (.slice none 0 0)], .sc (.bool false)]) 2 cE2 ?_
      exact .of_eq (by simp [frz, frz_sc])
  | true =>
    rw [hr] at c1
    have hrk := Kept.mk hr
    clear hr
    repeat' (first | ((with_reducible first | refine wA (by omega) ?_ | refine wB (by omega) ?_ | refine wC (by omega) ?_ | refine wD (by omega) ?_ | refine wE ?_ ?_ | refine wF ?_ ?_ | refine wG ?_ ?_ | refine wH ?_ ?_ | refine wI ?_ ?_ | refine wJ ?_ ?_ | refine wK ?_ ?_ | refine wL ?_ ?_) <;> intro _) | (((with_reducible refine call_id ?_); (first | (refine call_pure (c1) ?_)))) | simp (maxSteps := 1000000) (disch := omega) only [go_sem, Nat.reduceAdd, Nat.reduceMul, Nat.reduceSub, Nat.reduceLeDiff, Nat.reduceEqDiff, Nat.reduceBEq, ↓reduceIte, reduceCtorEq, Int.reduceEq, Int.reduceLE, Int.reduceLT, Int.reduceAdd, Int.reduceSub, Int.reduceNeg, Int.reduceToNat, Int.reduceNe, Nat.reducePow, Nat.reduceShiftRight, Nat.reduceMod, mc_bind_Inst, *])
    refine c_loopW 33521824 (by kernel_rfl) (fun j f H m => ∃ i : Nat, j = xs.length - i ∧ i ≤ xs.length ∧ f 15 = .sc (.int .i64 i) ∧ Kept ((xs.take i).all (fun x => x.right 4 1125899906842624) = true) ∧ H (nx + 2) = some ⟨[.sc (.int .i64 0), .sc (.int .i64 0), .sc (.string ⟨#[]⟩), .sc (.slice none 0 0), .sc (.slice none 0 0)], true⟩ ∧ nx + 3 ≤ m) _ ⟨0, rfl, Nat.zero_le _, cE1, Kept.mk rfl, ?_, ?_⟩ ?_
    · simp [upd]
    · simp
      try omega
    clear c1
    rintro _ f H m ⟨i, rfl, hi, e15, hs, hH, hm⟩
    by_cases hlt : i < xs.length
    · have eg : xs[i]? = some xs[i] := List.getElem?_eq_getElem hlt
      have c2 := bind_right_p xs[i]
      cases hx : xs[i].right 4 1125899906842624 with
      | false =>
        have e : instR t xs = none := if_neg fun h => by
          have := List.all_eq_true.1 h.2 _ (List.getElem_mem hlt)
          rw [hx] at this
          cases this
        rw [e]
        rw [hx] at c2
        simp only [optT, zeroT]
        clear e hx
        repeat' (first | ((with_reducible first | refine wA (by omega) ?_ | refine wB (by omega) ?_ | refine wC (by omega) ?_ | refine wD (by omega) ?_ | refine wE ?_ ?_ | refine wF ?_ ?_ | refine wG ?_ ?_ | refine wH ?_ ?_ | refine wI ?_ ?_ | refine wJ ?_ ?_ | refine wK ?_ ?_ | refine wL ?_ ?_) <;> intro _) | (((with_reducible refine call_id ?_); (first | (refine call_pure (c2) ?_)))) | simp (maxSteps := 1000000) (disch := omega) only [go_sem, Nat.reduceAdd, Nat.reduceMul, Nat.reduceSub, Nat.reduceLeDiff, Nat.reduceEqDiff, Nat.reduceBEq, ↓reduceIte, reduceCtorEq, Int.reduceEq, Int.reduceLE, Int.reduceLT, Int.reduceAdd, Int.reduceSub, Int.reduceNeg, Int.reduceToNat, Int.reduceNe, Nat.reducePow, Nat.reduceShiftRight, Nat.reduceMod, *])
        refine fin_ret (r0 := .tup [.agg [.sc (.int .i64 0), .sc (.int .i64 0), .sc (.string ⟨#[]⟩), .sc (.slice none 0 0), .sc (.slice none 0 0)], .sc (.bool false)]) 2 cE2 ?_
        exact .of_eq (by simp [frz, frz_sc])
      | true =>
        have hs2 : Kept ((xs.take (i + 1)).all (fun x => x.right 4 1125899906842624) = true) := Kept.mk (by rw [List.take_succ_eq_append_getElem hlt, List.all_append, hs.out, List.all_cons, hx]; rfl)
        rw [hx] at c2
        clear hx hs
        repeat' (first | ((with_reducible first | refine wA (by omega) ?_ | refine wB (by omega) ?_ | refine wC (by omega) ?_ | refine wD (by omega) ?_ | refine wE ?_ ?_ | refine wF ?_ ?_ | refine wG ?_ ?_ | refine wH ?_ ?_ | refine wI ?_ ?_ | refine wJ ?_ ?_ | refine wK ?_ ?_ | refine wL ?_ ?_) <;> intro _) | (((with_reducible refine call_id ?_); (first | (refine call_pure (c2) ?_)))) | simp (maxSteps := 1000000) (disch := omega) only [go_sem, Nat.reduceAdd, Nat.reduceMul, Nat.reduceSub, Nat.reduceLeDiff, Nat.reduceEqDiff, Nat.reduceBEq, ↓reduceIte, reduceCtorEq, Int.reduceEq, Int.reduceLE, Int.reduceLT, Int.reduceAdd, Int.reduceSub, Int.reduceNeg, Int.reduceToNat, Int.reduceNe, Nat.reducePow, Nat.reduceShiftRight, Nat.reduceMod, *])
        refine Nx.mk (xs.length - (i + 1)) cE1 ⟨i + 1, rfl, cE1, by simp [upd], hs2, hH, ?_⟩
        exact Nat.le_trans hm (Nat.le_add_right _ _)
    · obtain rfl : i = xs.length := by omega
      have hs' := hs.out
      rw [List.take_length] at hs'
      have e : instR t xs = cap2 (t.fill (instL6 xs) 0) := if_pos ⟨hrk.out, hs'⟩
      have c3 := filled_p F.bind_Inst_1 [.ptr [.sc (.int .i64 xs.length)], .ptr [.sl 5 (xs.map Tm.pv)]] (instL6 xs) (fun t deep k h1 h2 h3 => inst1_p xs hl t deep 4 k h1 h2 h3) (fun t deep k u h1 _ e => by
        have hu := right_far (List.all_eq_true.1 hs' _ (instL6_put e))
        exact raised_put h1 (by omega) (by omega) hu.1) t hrk.out
      rw [e]
      clear e hs hs'
      cases hc : cap2 (t.fill (instL6 xs) 0) with
      | none =>
        rw [hc] at c3
        simp only [optT, zeroT] at c3 ⊢
        clear hc
        repeat' (first | ((with_reducible first | refine wA (by omega) ?_ | refine wB (by omega) ?_ | refine wC (by omega) ?_ | refine wD (by omega) ?_ | refine wE ?_ ?_ | refine wF ?_ ?_ | refine wG ?_ ?_ | refine wH ?_ ?_ | refine wI ?_ ?_ | refine wJ ?_ ?_ | refine wK ?_ ?_ | refine wL ?_ ?_) <;> intro _) | (((with_reducible refine call_id ?_); (first | (refine call_pure (c3) ?_)))) | simp (maxSteps := 1000000) (disch := omega) only [go_sem, Nat.reduceAdd, Nat.reduceMul, Nat.reduceSub, Nat.reduceLeDiff, Nat.reduceEqDiff, Nat.reduceBEq, ↓reduceIte, reduceCtorEq, Int.reduceEq, Int.reduceLE, Int.reduceLT, Int.reduceAdd, Int.reduceSub, Int.reduceNeg, Int.reduceToNat, Int.reduceNe, Nat.reducePow, Nat.reduceShiftRight, Nat.reduceMod, *])
        all_goals
          refine fin_ret (r0 := .tup [.agg [.sc (.int .i64 0), .sc (.int .i64 0), .sc (.string ⟨#[]⟩), .sc (.slice none 0 0), .sc (.slice none 0 0)], .sc (.bool false)]) 2 cE2 ?_
          exact .of_eq (by simp [frz, frz_sc])
      | some y =>
        rw [hc] at c3
        simp only [optT] at c3 ⊢
        clear hc
        repeat' (first | ((with_reducible first | refine wA (by omega) ?_ | refine wB (by omega) ?_ | refine wC (by omega) ?_ | refine wD (by omega) ?_ | refine wE ?_ ?_ | refine wF ?_ ?_ | refine wG ?_ ?_ | refine wH ?_ ?_ | refine wI ?_ ?_ | refine wJ ?_ ?_ | refine wK ?_ ?_ | refine wL ?_ ?_) <;> intro _) | (((with_reducible refine call_id ?_); (first | (refine call_pure (c3) ?_)))) | simp (maxSteps := 1000000) (disch := omega) only [go_sem, Nat.reduceAdd, Nat.reduceMul, Nat.reduceSub, Nat.reduceLeDiff, Nat.reduceEqDiff, Nat.reduceBEq, ↓reduceIte, reduceCtorEq, Int.reduceEq, Int.reduceLE, Int.reduceLT, Int.reduceAdd, Int.reduceSub, Int.reduceNeg, Int.reduceToNat, Int.reduceNe, Nat.reducePow, Nat.reduceShiftRight, Nat.reduceMod, *])
        all_goals
          refine fin_ret (r0 := .tup [.agg y.pv, .sc (.bool true)]) 1 cE2 ?_
          exact .of_eq (by simp [frz])
end
section
set_option maxRecDepth 20000
attribute [local go_sem] pv_len pv_take Nat.add_assoc tm_len tm_take pv_one tm_one id_ne id_ne' id_ne2 List.append_assoc
theorem zero_int : ∀ w, (zeroValue 3).run Try.prog w = .ok (.int .i64 0) w := by
  have h : (Try.prog.info? 3).map (fun i => i.zero) = some (some (.int .i64 0)) := by kernel_rfl
  cases hi : Try.prog.info? 3 with
  | none => rw [hi] at h; cases h
  | some i =>
    rw [hi] at h
    have hz : i.zero = some (.int .i64 0) := by simpa using h
    intro w
    simp [zeroValue, typeInfo, hi, hz]
def mapNeed (id : Nat) (kv : List (ByteArray × Value)) : Need := ⟨fun j => decide (j = id), fun H => H id = some (PObj.mp kv), fun H H' h h2 => (h id (by simp)).trans h2⟩
set_option maxHeartbeats 16000000 in
theorem Abstract_1_p (names : List ByteArray) (hn : names.length ≤ 2 ^ 20) (id : Nat) (kv : List (ByteArray × Value)) (hkv : PlacesAt names 0 kv) (t : Tm) (deep k : Int) (hd : 0 ≤ deep ∧ deep ≤ 2 ^ 50) (hk : k ≤ 2 ^ 60) (hf : t.formed 4 k = true) :
    ∃ r, LeafIs (absL names t deep) r ∧ Tells (mapNeed id kv) F.bind_Abstract_1 (.ptr t.pv :: .sc (.int .i64 deep) :: [.ptr [.omp id], .ptr [.sc (.int .i64 names.length)], .ptr [.fn F.bind_raised_1 [.ptr [.sc (.int .i64 0)], .ptr [.sc (.int .i64 names.length)]]]]) r := by
  cases t with
  | mk kind n s ls args =>
  have c2 := raised1_p names.length 0 ⟨by omega, by omega⟩ (.mk kind n s ls args) deep 4 k hd hk hf
  have hg := hkv s
  rw [List.drop_zero] at hg
  clear hf hkv
  cases hfi : firstAt s names with
  | none =>
    obtain ⟨r, hr, c2⟩ := c2
    have e : raisedL names.length 0 (.mk kind n s ls args) deep = absL names (.mk kind n s ls args) deep := by
      simp only [raisedL, absL, hfi]
      by_cases h3 : kind = 3
      · simp [h3]
      · simp [h3]
    rw [e] at hr
    rw [hfi, Option.map_none] at hg
    refine ⟨r, hr, fun H nx hpre hkc => ?_⟩
    have hr2 : ∃ m : Int, r = .tup [.agg [.sc (.pointer none), .sc (.int .i64 m)], .sc (.bool true)] := by
      rw [← e] at hr
      exact ⟨_, hr⟩
    obtain ⟨m, rfl⟩ := hr2
    have hid : id < nx := hkc id (by simp [mapNeed])
    have hpre2 : H id = some (PObj.mp kv) := hpre
    clear hr e hpre hkc hfi
    refine mut_by is_bind_Abstract_1 (by simp) fun hb => ?_
    clear hb
    simp only [Tm.pv] at c2 ⊢
    repeat' (first | ((with_reducible first | refine wA (by omega) ?_ | refine wB (by omega) ?_ | refine wC (by omega) ?_ | refine wD (by omega) ?_ | refine wE ?_ ?_ | refine wF ?_ ?_ | refine wG ?_ ?_ | refine wH ?_ ?_ | refine wI ?_ ?_ | refine wJ ?_ ?_ | refine wK ?_ ?_ | refine wL ?_ ?_) <;> intro _) | (((with_reducible refine call_id ?_); (first | (refine call_pure (c2) ?_)))) | simp (maxSteps := 1000000) (disch := omega) only [go_sem, Nat.reduceAdd, Nat.reduceMul, Nat.reduceSub, Nat.reduceLeDiff, Nat.reduceEqDiff, Nat.reduceBEq, ↓reduceIte, reduceCtorEq, Int.reduceEq, Int.reduceLE, Int.reduceLT, Int.reduceAdd, Int.reduceSub, Int.reduceNeg, Int.reduceToNat, Int.reduceNe, Nat.reducePow, Nat.reduceShiftRight, Nat.reduceMod, mc_bind_Abstract_1, *])
    refine o_lookup (j := id) (kv := kv) (key := s) (z := .int .i64 0) rfl rfl Try.underlying105 Try.underlying9 zero_int (by (simp (disch := omega) only [go_sem, Nat.reduceMul, Nat.reduceSub, Nat.reduceShiftRight, Nat.reduceMod, Nat.reduceEqDiff, Nat.reduceAdd, ↓reduceIte, Nat.reduceLeDiff, ev_tmp])) (by (simp (disch := omega) only [go_sem, Nat.reduceMul, Nat.reduceSub, Nat.reduceShiftRight, Nat.reduceMod, Nat.reduceEqDiff, Nat.reduceAdd, ↓reduceIte, Nat.reduceLeDiff, ev_tmp])) (by (simp (disch := omega) only [go_sem, Nat.reduceMul, Nat.reduceSub, Nat.reduceShiftRight, Nat.reduceMod, Nat.reduceEqDiff, Nat.reduceAdd, ↓reduceIte, Nat.reduceLeDiff, *])) ?_
    rw [hg]
    simp only [Option.getD_none, Option.isSome_none]
    repeat' (first | ((with_reducible first | refine wA (by omega) ?_ | refine wB (by omega) ?_ | refine wC (by omega) ?_ | refine wD (by omega) ?_ | refine wE ?_ ?_ | refine wF ?_ ?_ | refine wG ?_ ?_ | refine wH ?_ ?_ | refine wI ?_ ?_ | refine wJ ?_ ?_ | refine wK ?_ ?_ | refine wL ?_ ?_) <;> intro _) | (((with_reducible refine call_id ?_); (first | (refine call_pure (c2) ?_)))) | simp (maxSteps := 1000000) (disch := omega) only [go_sem, Nat.reduceAdd, Nat.reduceMul, Nat.reduceSub, Nat.reduceLeDiff, Nat.reduceEqDiff, Nat.reduceBEq, ↓reduceIte, reduceCtorEq, Int.reduceEq, Int.reduceLE, Int.reduceLT, Int.reduceAdd, Int.reduceSub, Int.reduceNeg, Int.reduceToNat, Int.reduceNe, Nat.reducePow, Nat.reduceShiftRight, Nat.reduceMod, *])
    exact fin_mut (.tup [.agg [.sc (.pointer none), .sc (.int .i64 m)], .sc (.bool true)]) (.inr rfl) cE2 ⟨Nat.le_add_right _ _, rfl, fun j hj => by simp [upd, show j ≠ nx by omega]⟩
  | some i =>
    rw [hfi, Option.map_some, Nat.zero_add] at hg
    have hil := (firstAt_lt hfi).1
    by_cases h3 : kind = 3
    · subst h3
      have e : absL names (.mk 3 n s ls args) deep = .put (varT ((names.length : Int) - 1 - i)) := by simp [absL, hfi]
      rw [e]
      refine ⟨_, rfl, fun H nx hpre hkc => ?_⟩
      have hid : id < nx := hkc id (by simp [mapNeed])
      have hpre2 : H id = some (PObj.mp kv) := hpre
      have c3 := Var_p ((names.length : Int) - 1 - i)
      rw [← varT] at c3
      clear c2 e hpre hkc hfi
      refine mut_by is_bind_Abstract_1 (by simp) fun hb => ?_
      clear hb
      simp only [Tm.pv]
      repeat' (first | ((with_reducible first | refine wA (by omega) ?_ | refine wB (by omega) ?_ | refine wC (by omega) ?_ | refine wD (by omega) ?_ | refine wE ?_ ?_ | refine wF ?_ ?_ | refine wG ?_ ?_ | refine wH ?_ ?_ | refine wI ?_ ?_ | refine wJ ?_ ?_ | refine wK ?_ ?_ | refine wL ?_ ?_) <;> intro _) | (((with_reducible refine call_id ?_); (first | (refine call_pure (c3) ?_)))) | simp (maxSteps := 1000000) (disch := omega) only [go_sem, Nat.reduceAdd, Nat.reduceMul, Nat.reduceSub, Nat.reduceLeDiff, Nat.reduceEqDiff, Nat.reduceBEq, ↓reduceIte, reduceCtorEq, Int.reduceEq, Int.reduceLE, Int.reduceLT, Int.reduceAdd, Int.reduceSub, Int.reduceNeg, Int.reduceToNat, Int.reduceNe, Nat.reducePow, Nat.reduceShiftRight, Nat.reduceMod, mc_bind_Abstract_1, *])
      refine o_lookup (j := id) (kv := kv) (key := s) (z := .int .i64 0) rfl rfl Try.underlying105 Try.underlying9 zero_int (by (simp (disch := omega) only [go_sem, Nat.reduceMul, Nat.reduceSub, Nat.reduceShiftRight, Nat.reduceMod, Nat.reduceEqDiff, Nat.reduceAdd, ↓reduceIte, Nat.reduceLeDiff, ev_tmp])) (by (simp (disch := omega) only [go_sem, Nat.reduceMul, Nat.reduceSub, Nat.reduceShiftRight, Nat.reduceMod, Nat.reduceEqDiff, Nat.reduceAdd, ↓reduceIte, Nat.reduceLeDiff, ev_tmp])) (by (simp (disch := omega) only [go_sem, Nat.reduceMul, Nat.reduceSub, Nat.reduceShiftRight, Nat.reduceMod, Nat.reduceEqDiff, Nat.reduceAdd, ↓reduceIte, Nat.reduceLeDiff, *])) ?_
      rw [hg]
      simp only [Option.getD_some, Option.isSome_some]
      repeat' (first | ((with_reducible first | refine wA (by omega) ?_ | refine wB (by omega) ?_ | refine wC (by omega) ?_ | refine wD (by omega) ?_ | refine wE ?_ ?_ | refine wF ?_ ?_ | refine wG ?_ ?_ | refine wH ?_ ?_ | refine wI ?_ ?_ | refine wJ ?_ ?_ | refine wK ?_ ?_ | refine wL ?_ ?_) <;> intro _) | (((with_reducible refine call_id ?_); (first | (refine call_pure (c3) ?_)))) | simp (maxSteps := 1000000) (disch := omega) only [go_sem, Nat.reduceAdd, Nat.reduceMul, Nat.reduceSub, Nat.reduceLeDiff, Nat.reduceEqDiff, Nat.reduceBEq, ↓reduceIte, reduceCtorEq, Int.reduceEq, Int.reduceLE, Int.reduceLT, Int.reduceAdd, Int.reduceSub, Int.reduceNeg, Int.reduceToNat, Int.reduceNe, Nat.reducePow, Nat.reduceShiftRight, Nat.reduceMod, *])
      exact fin_mut (.tup [.agg [.ptr (varT ((names.length : Int) - 1 - i)).pv, .sc (.int .i64 0)], .sc (.bool true)]) (.inr (by simp [PV.imm, immL, tm_imm])) cE2 ⟨Nat.le_add_right _ _, rfl, fun j hj => by simp [upd, show j ≠ nx by omega, show j ≠ nx + 26 by omega]⟩
    · obtain ⟨r, hr, c2⟩ := c2
      have e : raisedL names.length 0 (.mk kind n s ls args) deep = absL names (.mk kind n s ls args) deep := by simp [raisedL, absL, h3]
      rw [e] at hr
      refine ⟨r, hr, fun H nx hpre hkc => ?_⟩
      have hr2 : ∃ m : Int, r = .tup [.agg [.sc (.pointer none), .sc (.int .i64 m)], .sc (.bool true)] := by
        rw [← e] at hr
        exact ⟨_, hr⟩
      obtain ⟨m, rfl⟩ := hr2
      have hid : id < nx := hkc id (by simp [mapNeed])
      have hpre2 : H id = some (PObj.mp kv) := hpre
      clear hr e hpre hkc hfi
      refine mut_by is_bind_Abstract_1 (by simp) fun hb => ?_
      clear hb
      simp only [Tm.pv] at c2 ⊢
      repeat' (first | ((with_reducible first | refine wA (by omega) ?_ | refine wB (by omega) ?_ | refine wC (by omega) ?_ | refine wD (by omega) ?_ | refine wE ?_ ?_ | refine wF ?_ ?_ | refine wG ?_ ?_ | refine wH ?_ ?_ | refine wI ?_ ?_ | refine wJ ?_ ?_ | refine wK ?_ ?_ | refine wL ?_ ?_) <;> intro _) | (((with_reducible refine call_id ?_); (first | (refine call_pure (c2) ?_)))) | simp (maxSteps := 1000000) (disch := omega) only [go_sem, Nat.reduceAdd, Nat.reduceMul, Nat.reduceSub, Nat.reduceLeDiff, Nat.reduceEqDiff, Nat.reduceBEq, ↓reduceIte, reduceCtorEq, Int.reduceEq, Int.reduceLE, Int.reduceLT, Int.reduceAdd, Int.reduceSub, Int.reduceNeg, Int.reduceToNat, Int.reduceNe, Nat.reducePow, Nat.reduceShiftRight, Nat.reduceMod, mc_bind_Abstract_1, *])
      refine o_lookup (j := id) (kv := kv) (key := s) (z := .int .i64 0) rfl rfl Try.underlying105 Try.underlying9 zero_int (by (simp (disch := omega) only [go_sem, Nat.reduceMul, Nat.reduceSub, Nat.reduceShiftRight, Nat.reduceMod, Nat.reduceEqDiff, Nat.reduceAdd, ↓reduceIte, Nat.reduceLeDiff, ev_tmp])) (by (simp (disch := omega) only [go_sem, Nat.reduceMul, Nat.reduceSub, Nat.reduceShiftRight, Nat.reduceMod, Nat.reduceEqDiff, Nat.reduceAdd, ↓reduceIte, Nat.reduceLeDiff, ev_tmp])) (by (simp (disch := omega) only [go_sem, Nat.reduceMul, Nat.reduceSub, Nat.reduceShiftRight, Nat.reduceMod, Nat.reduceEqDiff, Nat.reduceAdd, ↓reduceIte, Nat.reduceLeDiff, *])) ?_
      rw [hg]
      simp only [Option.getD_some, Option.isSome_some]
      repeat' (first | ((with_reducible first | refine wA (by omega) ?_ | refine wB (by omega) ?_ | refine wC (by omega) ?_ | refine wD (by omega) ?_ | refine wE ?_ ?_ | refine wF ?_ ?_ | refine wG ?_ ?_ | refine wH ?_ ?_ | refine wI ?_ ?_ | refine wJ ?_ ?_ | refine wK ?_ ?_ | refine wL ?_ ?_) <;> intro _) | (((with_reducible refine call_id ?_); (first | (refine call_pure (c2) ?_)))) | simp (maxSteps := 1000000) (disch := omega) only [go_sem, Nat.reduceAdd, Nat.reduceMul, Nat.reduceSub, Nat.reduceLeDiff, Nat.reduceEqDiff, Nat.reduceBEq, ↓reduceIte, reduceCtorEq, Int.reduceEq, Int.reduceLE, Int.reduceLT, Int.reduceAdd, Int.reduceSub, Int.reduceNeg, Int.reduceToNat, Int.reduceNe, Nat.reducePow, Nat.reduceShiftRight, Nat.reduceMod, *])
      exact fin_mut (.tup [.agg [.sc (.pointer none), .sc (.int .i64 m)], .sc (.bool true)]) (.inr rfl) cE2 ⟨Nat.le_add_right _ _, rfl, fun j hj => by simp [upd, show j ≠ nx by omega]⟩
def absR (t : Tm) (names : List ByteArray) : Option Tm := if t.right 4 1125899906842624 = true then cap2 (t.fill (absL names) 0) else none
theorem absL_put {names : List ByteArray} {t u : Tm} {deep : Int} (h : absL names t deep = .put u) : ∃ i : Nat, i < names.length ∧ u = varT ((names.length : Int) - 1 - i) := by
  cases t
  simp only [absL] at h
  split at h
  · split at h
    · rename_i i hi
      cases h
      exact ⟨i, (firstAt_lt hi).1, rfl⟩
    · cases h
  · cases h
theorem varT_formed {n k : Int} (h0 : 0 ≤ n) (hk : n < k) : (varT n).formed 4 k = true := by
  simp [varT, Tm.formed, hasB, noS_e, h0, hk]
set_option maxHeartbeats 16000000 in
theorem bind_Abstract_p (t : Tm) (names : List ByteArray) (hn : names.length ≤ 2 ^ 20) : PPure Try.prog F.bind_Abstract [.agg t.pv, .sl 1 (names.map txt)] (optT (absR t names)) := by
  refine pure_by is_bind_Abstract (by simp) (optT_imm _) fun hb nx => ?_
  clear hb
  have c1 := bind_right_p t
  cases hr : t.right 4 1125899906842624 with
  | false =>
    have e : absR t names = none := if_neg fun h => by rw [hr] at h; exact absurd h (by decide)
    rw [e]
    rw [hr] at c1
    simp only [optT, zeroT]
    clear e hr
    repeat' (first | ((with_reducible first | refine wA (by omega) ?_ | refine wB (by omega) ?_ | refine wC (by omega) ?_ | refine wD (by omega) ?_ | refine wE ?_ ?_ | refine wF ?_ ?_ | refine wG ?_ ?_ | refine wH ?_ ?_ | refine wI ?_ ?_ | refine wJ ?_ ?_ | refine wK ?_ ?_ | refine wL ?_ ?_) <;> intro _) | (((with_reducible refine call_id ?_); (first | (refine call_pure (c1) ?_)))) | simp (maxSteps := 1000000) (disch := omega) only [go_sem, Nat.reduceAdd, Nat.reduceMul, Nat.reduceSub, Nat.reduceLeDiff, Nat.reduceEqDiff, Nat.reduceBEq, ↓reduceIte, reduceCtorEq, Int.reduceEq, Int.reduceLE, Int.reduceLT, Int.reduceAdd, Int.reduceSub, Int.reduceNeg, Int.reduceToNat, Int.reduceNe, Nat.reducePow, Nat.reduceShiftRight, Nat.reduceMod, mc_bind_Abstract, *])
    all_goals
      refine fin_ret (r0 := .tup [.agg [.sc (.int .i64 0), .sc (.int .i64 0), .sc (.string ⟨#[]⟩), .sc (.slice none 0 0), .sc (.slice none 0 0)], .sc (.bool false)]) 2 cE2 ?_
      exact .of_eq (by simp [frz, frz_sc])
  | true =>
    rw [hr] at c1
    have hrk := Kept.mk hr
    clear hr
    repeat' (first | ((with_reducible first | refine wA (by omega) ?_ | refine wB (by omega) ?_ | refine wC (by omega) ?_ | refine wD (by omega) ?_ | refine wE ?_ ?_ | refine wF ?_ ?_ | refine wG ?_ ?_ | refine wH ?_ ?_ | refine wI ?_ ?_ | refine wJ ?_ ?_ | refine wK ?_ ?_ | refine wL ?_ ?_) <;> intro _) | (((with_reducible refine call_id ?_); (first | (refine call_pure (c1) ?_)))) | simp (maxSteps := 1000000) (disch := omega) only [go_sem, Nat.reduceAdd, Nat.reduceMul, Nat.reduceSub, Nat.reduceLeDiff, Nat.reduceEqDiff, Nat.reduceBEq, ↓reduceIte, reduceCtorEq, Int.reduceEq, Int.reduceLE, Int.reduceLT, Int.reduceAdd, Int.reduceSub, Int.reduceNeg, Int.reduceToNat, Int.reduceNe, Nat.reducePow, Nat.reduceShiftRight, Nat.reduceMod, mc_bind_Abstract, *])
    refine o_mkmap (k := .i64) (n := (names.length : Int)) rfl rfl Try.underlying105 (by (simp (disch := omega) only [go_sem, Nat.reduceMul, Nat.reduceSub, Nat.reduceShiftRight, Nat.reduceMod, Nat.reduceEqDiff, Nat.reduceAdd, ↓reduceIte, Nat.reduceLeDiff, ev_tmp])) ?_
    repeat' (first | ((with_reducible first | refine wA (by omega) ?_ | refine wB (by omega) ?_ | refine wC (by omega) ?_ | refine wD (by omega) ?_ | refine wE ?_ ?_ | refine wF ?_ ?_ | refine wG ?_ ?_ | refine wH ?_ ?_ | refine wI ?_ ?_ | refine wJ ?_ ?_ | refine wK ?_ ?_ | refine wL ?_ ?_) <;> intro _) | simp (maxSteps := 1000000) (disch := omega) only [go_sem, Nat.reduceAdd, Nat.reduceMul, Nat.reduceSub, Nat.reduceLeDiff, Nat.reduceEqDiff, Nat.reduceBEq, ↓reduceIte, reduceCtorEq, Int.reduceEq, Int.reduceLE, Int.reduceLT, Int.reduceAdd, Int.reduceSub, Int.reduceNeg, Int.reduceToNat, Int.reduceNe, Nat.reducePow, Nat.reduceShiftRight, Nat.reduceMod, *])
    refine c_loopW 536346880 (by kernel_rfl) (fun j f H m => ∃ (i : Nat) (kv : List (ByteArray × Value)), j = i ∧ i ≤ names.length ∧ f 8 = .sc (.int .i64 ((i : Int) - 1)) ∧ Kept (PlacesAt names i kv) ∧ H (nx + 10) = some (PObj.mp kv) ∧ H (nx + 1) = some ⟨[.sc (.int .i64 0), .sc (.int .i64 0), .sc (.string ⟨#[]⟩), .sc (.slice none 0 0), .sc (.slice none 0 0)], true⟩ ∧ nx + 16 ≤ m) _ ⟨names.length, [], rfl, Nat.le_refl _, by simp [upd], Kept.mk (PlacesAt.none_ names), by simp [upd], by simp [upd], Nat.le_refl _⟩ ?_
    clear c1
    rintro i f H m ⟨_, kv, rfl, hi, e8, hkv, hH, hH1, hmm⟩
    cases i with
    | zero =>
      rw [show ((0 : Nat) : Int) - 1 = -1 by rfl] at e8
      have hrf := right_far hrk.out
      repeat' (first | ((with_reducible first | refine wA (by omega) ?_ | refine wB (by omega) ?_ | refine wC (by omega) ?_ | refine wD (by omega) ?_ | refine wE ?_ ?_ | refine wF ?_ ?_ | refine wG ?_ ?_ | refine wH ?_ ?_ | refine wI ?_ ?_ | refine wJ ?_ ?_ | refine wK ?_ ?_ | refine wL ?_ ?_) <;> intro _) | (((with_reducible refine call_id ?_); (first | (refine call_pure (raised_p names.length 0) ?_)))) | simp (maxSteps := 1000000) (disch := omega) only [go_sem, Nat.reduceAdd, Nat.reduceMul, Nat.reduceSub, Nat.reduceLeDiff, Nat.reduceEqDiff, Nat.reduceBEq, ↓reduceIte, reduceCtorEq, Int.reduceEq, Int.reduceLE, Int.reduceLT, Int.reduceAdd, Int.reduceSub, Int.reduceNeg, Int.reduceToNat, Int.reduceNe, Nat.reducePow, Nat.reduceShiftRight, Nat.reduceMod, *])
      have e10 : (upd (upd H (m + 4) (some ⟨[.sc .nilFunc], true⟩)) (m + 4) none) (nx + 10) = H (nx + 10) := (upd_ne _ _ (show nx + 10 ≠ m + 4 by omega)).trans (upd_ne _ _ (show nx + 10 ≠ m + 4 by omega))
      have e1 : (upd (upd H (m + 4) (some ⟨[.sc .nilFunc], true⟩)) (m + 4) none) (nx + 1) = H (nx + 1) := (upd_ne _ _ (show nx + 1 ≠ m + 4 by omega)).trans (upd_ne _ _ (show nx + 1 ≠ m + 4 by omega))
      refine call_mut (filled_m 4 (mapNeed (nx + 10) kv) F.bind_Abstract_1 _ (absL names) (fun t deep k h1 h2 h3 => Abstract_1_p names hn (nx + 10) kv hkv.out t deep k h1 h2 h3) (fun t deep k u h1 _ e => ?put) t 1125899906842624 (by omega) (by omega) hrf.1 _ _ (fun j => decide (j = nx + 10) || decide (j = nx + 1)) (e10.trans hH) (fun j hj => ?kc) ?kp) ?_
      case put =>
        obtain ⟨i, hi, rfl⟩ := absL_put e
        exact raised_put (k := 2 ^ 21) h1 (by omega) (by simp [varT, Tm.nodes, nodesL, nodesT]) (varT_formed (by omega) (by omega))
      case kc => exact Bool.or_eq_true_iff.2 (.inl hj)
      case kp =>
        intro j hj
        simp only [Bool.or_eq_true, decide_eq_true_eq] at hj
        rcases hj with rfl | rfl
        · refine ⟨Nat.lt_of_lt_of_le (by omega : nx + 10 < m) (Nat.le_add_right _ _), fun o ho => ?_⟩
          have := (e10.trans hH).symm.trans ho
          cases this
          exact fun G k H hG => by cases k <;> rfl
        · refine ⟨Nat.lt_of_lt_of_le (by omega : nx + 1 < m) (Nat.le_add_right _ _), fun o ho => ?_⟩
          have := (e1.trans hH1).symm.trans ho
          cases this
          exact .imm rfl
      rintro H' nx' r' ⟨hn1, hk1, rfl⟩ -
      have hH2 : H' (nx + 1) = _ := (hk1 (nx + 1) (by simp)).trans (e1.trans hH1)
      have e : absR t names = cap2 (t.fill (absL names) 0) := if_pos hrk.out
      rw [e]
      clear e e10 e1 hk1 hkv hH hH1 hn1
      cases hc : cap2 (t.fill (absL names) 0) with
      | none =>
        simp only [optT, zeroT]
        clear hc
        repeat' (first | ((with_reducible first | refine wA (by omega) ?_ | refine wB (by omega) ?_ | refine wC (by omega) ?_ | refine wD (by omega) ?_ | refine wE ?_ ?_ | refine wF ?_ ?_ | refine wG ?_ ?_ | refine wH ?_ ?_ | refine wI ?_ ?_ | refine wJ ?_ ?_ | refine wK ?_ ?_ | refine wL ?_ ?_) <;> intro _) | simp (maxSteps := 1000000) (disch := omega) only [go_sem, Nat.reduceAdd, Nat.reduceMul, Nat.reduceSub, Nat.reduceLeDiff, Nat.reduceEqDiff, Nat.reduceBEq, ↓reduceIte, reduceCtorEq, Int.reduceEq, Int.reduceLE, Int.reduceLT, Int.reduceAdd, Int.reduceSub, Int.reduceNeg, Int.reduceToNat, Int.reduceNe, Nat.reducePow, Nat.reduceShiftRight, Nat.reduceMod, *])
        all_goals
          refine fin_ret (r0 := .tup [.agg [.sc (.int .i64 0), .sc (.int .i64 0), .sc (.string ⟨#[]⟩), .sc (.slice none 0 0), .sc (.slice none 0 0)], .sc (.bool false)]) 2 cE2 ?_
          exact .of_eq (by simp [frz, frz_sc])
      | some y =>
        simp only [optT]
        clear hc
        repeat' (first | ((with_reducible first | refine wA (by omega) ?_ | refine wB (by omega) ?_ | refine wC (by omega) ?_ | refine wD (by omega) ?_ | refine wE ?_ ?_ | refine wF ?_ ?_ | refine wG ?_ ?_ | refine wH ?_ ?_ | refine wI ?_ ?_ | refine wJ ?_ ?_ | refine wK ?_ ?_ | refine wL ?_ ?_) <;> intro _) | simp (maxSteps := 1000000) (disch := omega) only [go_sem, Nat.reduceAdd, Nat.reduceMul, Nat.reduceSub, Nat.reduceLeDiff, Nat.reduceEqDiff, Nat.reduceBEq, ↓reduceIte, reduceCtorEq, Int.reduceEq, Int.reduceLE, Int.reduceLT, Int.reduceAdd, Int.reduceSub, Int.reduceNeg, Int.reduceToNat, Int.reduceNe, Nat.reducePow, Nat.reduceShiftRight, Nat.reduceMod, *])
        all_goals
          refine fin_ret (r0 := .tup [.agg y.pv, .sc (.bool true)]) 1 cE2 ?_
          exact .of_eq (by simp [frz])
    | succ i =>
      have hlt : i < names.length := by omega
      rw [show ((i + 1 : Nat) : Int) - 1 = i by omega] at e8
      have eg : names[i]? = some names[i] := List.getElem?_eq_getElem hlt
      have hkv2 := Kept.mk (hkv.out.step hlt)
      clear hkv
      repeat' (first | ((with_reducible first | refine wA (by omega) ?_ | refine wB (by omega) ?_ | refine wC (by omega) ?_ | refine wD (by omega) ?_ | refine wE ?_ ?_ | refine wF ?_ ?_ | refine wG ?_ ?_ | refine wH ?_ ?_ | refine wI ?_ ?_ | refine wJ ?_ ?_ | refine wK ?_ ?_ | refine wL ?_ ?_) <;> intro _) | simp (maxSteps := 1000000) (disch := omega) only [go_sem, Nat.reduceAdd, Nat.reduceMul, Nat.reduceSub, Nat.reduceLeDiff, Nat.reduceEqDiff, Nat.reduceBEq, ↓reduceIte, reduceCtorEq, Int.reduceEq, Int.reduceLE, Int.reduceLT, Int.reduceAdd, Int.reduceSub, Int.reduceNeg, Int.reduceToNat, Int.reduceNe, Nat.reducePow, Nat.reduceShiftRight, Nat.reduceMod, txt, *])
      refine o_mapup (j := nx + 10) (kv := kv) (key := names[i]) (v := .int .i64 (i : Int)) rfl rfl Try.underlying105 Try.underlying9 (by (simp (disch := omega) only [go_sem, Nat.reduceMul, Nat.reduceSub, Nat.reduceShiftRight, Nat.reduceMod, Nat.reduceEqDiff, Nat.reduceAdd, ↓reduceIte, Nat.reduceLeDiff, ev_tmp])) (by (simp (disch := omega) only [go_sem, Nat.reduceMul, Nat.reduceSub, Nat.reduceShiftRight, Nat.reduceMod, Nat.reduceEqDiff, Nat.reduceAdd, ↓reduceIte, Nat.reduceLeDiff, ev_tmp])) (by (simp (disch := omega) only [go_sem, Nat.reduceMul, Nat.reduceSub, Nat.reduceShiftRight, Nat.reduceMod, Nat.reduceEqDiff, Nat.reduceAdd, ↓reduceIte, Nat.reduceLeDiff, ev_tmp])) hH ?_
      repeat' (first | ((with_reducible first | refine wA (by omega) ?_ | refine wB (by omega) ?_ | refine wC (by omega) ?_ | refine wD (by omega) ?_ | refine wE ?_ ?_ | refine wF ?_ ?_ | refine wG ?_ ?_ | refine wH ?_ ?_ | refine wI ?_ ?_ | refine wJ ?_ ?_ | refine wK ?_ ?_ | refine wL ?_ ?_) <;> intro _) | simp (maxSteps := 1000000) (disch := omega) only [go_sem, Nat.reduceAdd, Nat.reduceMul, Nat.reduceSub, Nat.reduceLeDiff, Nat.reduceEqDiff, Nat.reduceBEq, ↓reduceIte, reduceCtorEq, Int.reduceEq, Int.reduceLE, Int.reduceLT, Int.reduceAdd, Int.reduceSub, Int.reduceNeg, Int.reduceToNat, Int.reduceNe, Nat.reducePow, Nat.reduceShiftRight, Nat.reduceMod, *])
      exact Nx.mk i cE1 ⟨i, kvSet kv names[i] (.int .i64 (i : Int)), rfl, by omega, by simp [upd], hkv2, upd_same _ _ _, by simp [upd]; exact hH1, Nat.le_trans hmm (Nat.le_add_right _ _)⟩
end
section
set_option maxRecDepth 20000
attribute [local go_sem] pv_len pv_take Nat.add_assoc tm_len tm_take pv_one tm_one id_ne id_ne' id_ne2 List.append_assoc
set_option maxHeartbeats 16000000 in
theorem ref06_Inst_p (t : Tm) (xs : List Tm) (hl : xs.length ≤ 2 ^ 20) : PPure Try.prog F.ref06_Inst [.agg t.pv, .sl 5 (xs.map Tm.pv)] (optT (instR t xs)) := by
  refine pure_by is_ref06_Inst (by simp) (optT_imm _) fun hb nx => ?_
  clear hb
  have c1 := ref04_Any_p t 4
  cases hr : t.right 4 1125899906842624 with
  | false =>
    have e : instR t xs = none := if_neg fun h => by rw [hr] at h; exact absurd h.1 (by decide)
    rw [e]
    rw [hr] at c1
    simp only [optT, zeroT]
    clear e hr
    repeat' (first | ((with_reducible first | refine wA (by omega) ?_ | refine wB (by omega) ?_ | refine wC (by omega) ?_ | refine wD (by omega) ?_ | refine wE ?_ ?_ | refine wF ?_ ?_ | refine wG ?_ ?_ | refine wH ?_ ?_ | refine wI ?_ ?_ | refine wJ ?_ ?_ | refine wK ?_ ?_ | refine wL ?_ ?_) <;> intro _) | (((with_reducible refine call_id ?_); (first | (refine call_pure (c1) ?_)))) | simp (maxSteps := 1000000) (disch := omega) only [go_sem, Nat.reduceAdd, Nat.reduceMul, Nat.reduceSub, Nat.reduceLeDiff, Nat.reduceEqDiff, Nat.reduceBEq, ↓reduceIte, reduceCtorEq, Int.reduceEq, Int.reduceLE, Int.reduceLT, Int.reduceAdd, Int.reduceSub, Int.reduceNeg, Int.reduceToNat, Int.reduceNe, Nat.reducePow, Nat.reduceShiftRight, Nat.reduceMod, mc_ref06_Inst, *])
    all_goals
      refine fin_ret (r0 := .tup [.agg [.sc (.int .i64 0), .sc (.int .i64 0), .sc (.string ⟨#[]⟩), .sc (.slice none 0 0), .sc (.slice none 0 0)], .sc (.bool false)]) 2 cE2 ?_
      exact .of_eq (by simp [frz, frz_sc])
  | true =>
    rw [hr] at c1
    have hrk := Kept.mk hr
    clear hr
    repeat' (first | ((with_reducible first | refine wA (by omega) ?_ | refine wB (by omega) ?_ | refine wC (by omega) ?_ | refine wD (by omega) ?_ | refine wE ?_ ?_ | refine wF ?_ ?_ | refine wG ?_ ?_ | refine wH ?_ ?_ | refine wI ?_ ?_ | refine wJ ?_ ?_ | refine wK ?_ ?_ | refine wL ?_ ?_) <;> intro _) | (((with_reducible refine call_id ?_); (first | (refine call_pure (c1) ?_)))) | simp (maxSteps := 1000000) (disch := omega) only [go_sem, Nat.reduceAdd, Nat.reduceMul, Nat.reduceSub, Nat.reduceLeDiff, Nat.reduceEqDiff, Nat.reduceBEq, ↓reduceIte, reduceCtorEq, Int.reduceEq, Int.reduceLE, Int.reduceLT, Int.reduceAdd, Int.reduceSub, Int.reduceNeg, Int.reduceToNat, Int.reduceNe, Nat.reducePow, Nat.reduceShiftRight, Nat.reduceMod, mc_ref06_Inst, *])
    refine c_loopW 16775264 (by kernel_rfl) (fun j f H m => ∃ i : Nat, j = xs.length - i ∧ i ≤ xs.length ∧ f 6 = .sc (.int .i64 i) ∧ Kept ((xs.take i).all (fun x => x.right 4 1125899906842624) = true) ∧ H (nx + 1) = some ⟨[.sc (.int .i64 0), .sc (.int .i64 0), .sc (.string ⟨#[]⟩), .sc (.slice none 0 0), .sc (.slice none 0 0)], true⟩ ∧ nx + 3 ≤ m) _ ⟨0, rfl, Nat.zero_le _, cE1, Kept.mk rfl, by simp [upd], by show nx + 3 ≤ nx + 7; omega⟩ ?_
    clear c1
    rintro _ f H m ⟨i, rfl, hi, e6, hs, hH, hm⟩
    by_cases hlt : i < xs.length
    · have eg : xs[i]? = some xs[i] := List.getElem?_eq_getElem hlt
      have c2 := ref04_Any_p xs[i] 4
      cases hx : xs[i].right 4 1125899906842624 with
      | false =>
        have e : instR t xs = none := if_neg fun h => by
          have := List.all_eq_true.1 h.2 _ (List.getElem_mem hlt)
          rw [hx] at this
          cases this
        rw [e]
        rw [hx] at c2
        simp only [optT, zeroT]
        clear e hx
        repeat' (first | ((with_reducible first | refine wA (by omega) ?_ | refine wB (by omega) ?_ | refine wC (by omega) ?_ | refine wD (by omega) ?_ | refine wE ?_ ?_ | refine wF ?_ ?_ | refine wG ?_ ?_ | refine wH ?_ ?_ | refine wI ?_ ?_ | refine wJ ?_ ?_ | refine wK ?_ ?_ | refine wL ?_ ?_) <;> intro _) | (((with_reducible refine call_id ?_); (first | (refine call_pure (c2) ?_)))) | simp (maxSteps := 1000000) (disch := omega) only [go_sem, Nat.reduceAdd, Nat.reduceMul, Nat.reduceSub, Nat.reduceLeDiff, Nat.reduceEqDiff, Nat.reduceBEq, ↓reduceIte, reduceCtorEq, Int.reduceEq, Int.reduceLE, Int.reduceLT, Int.reduceAdd, Int.reduceSub, Int.reduceNeg, Int.reduceToNat, Int.reduceNe, Nat.reducePow, Nat.reduceShiftRight, Nat.reduceMod, *])
        refine fin_ret (r0 := .tup [.agg [.sc (.int .i64 0), .sc (.int .i64 0), .sc (.string ⟨#[]⟩), .sc (.slice none 0 0), .sc (.slice none 0 0)], .sc (.bool false)]) 2 cE2 ?_
        exact .of_eq (by simp [frz, frz_sc])
      | true =>
        have hs2 : Kept ((xs.take (i + 1)).all (fun x => x.right 4 1125899906842624) = true) := Kept.mk (by rw [List.take_succ_eq_append_getElem hlt, List.all_append, hs.out, List.all_cons, hx]; rfl)
        rw [hx] at c2
        clear hx hs
        repeat' (first | ((with_reducible first | refine wA (by omega) ?_ | refine wB (by omega) ?_ | refine wC (by omega) ?_ | refine wD (by omega) ?_ | refine wE ?_ ?_ | refine wF ?_ ?_ | refine wG ?_ ?_ | refine wH ?_ ?_ | refine wI ?_ ?_ | refine wJ ?_ ?_ | refine wK ?_ ?_ | refine wL ?_ ?_) <;> intro _) | (((with_reducible refine call_id ?_); (first | (refine call_pure (c2) ?_)))) | simp (maxSteps := 1000000) (disch := omega) only [go_sem, Nat.reduceAdd, Nat.reduceMul, Nat.reduceSub, Nat.reduceLeDiff, Nat.reduceEqDiff, Nat.reduceBEq, ↓reduceIte, reduceCtorEq, Int.reduceEq, Int.reduceLE, Int.reduceLT, Int.reduceAdd, Int.reduceSub, Int.reduceNeg, Int.reduceToNat, Int.reduceNe, Nat.reducePow, Nat.reduceShiftRight, Nat.reduceMod, *])
        exact Nx.mk (xs.length - (i + 1)) cE1 ⟨i + 1, rfl, cE1, by simp [upd], hs2, hH, Nat.le_trans hm (Nat.le_add_right _ _)⟩
    · obtain rfl : i = xs.length := by omega
      have hs' := hs.out
      rw [List.take_length] at hs'
      have e : instR t xs = cap2 (t.fill (instL6 xs) 0) := if_pos ⟨hrk.out, hs'⟩
      obtain ⟨y, hy⟩ := inst_total xs t 0
      rw [hy] at e
      rw [e]
      have hrf := right_far hrk.out
      have hsz := size_nodes t
      have hall := Kept.mk fun x (hx : x ∈ xs) => List.all_eq_true.1 hs' x hx
      have hyk := Kept.mk hy
      clear e hs hs' hy
      repeat' (first | ((with_reducible first | refine wA (by omega) ?_ | refine wB (by omega) ?_ | refine wC (by omega) ?_ | refine wD (by omega) ?_ | refine wE ?_ ?_ | refine wF ?_ ?_ | refine wG ?_ ?_ | refine wH ?_ ?_ | refine wI ?_ ?_ | refine wJ ?_ ?_ | refine wK ?_ ?_ | refine wL ?_ ?_) <;> intro _) | simp (maxSteps := 1000000) (disch := omega) only [go_sem, Nat.reduceAdd, Nat.reduceMul, Nat.reduceSub, Nat.reduceLeDiff, Nat.reduceEqDiff, Nat.reduceBEq, ↓reduceIte, reduceCtorEq, Int.reduceEq, Int.reduceLE, Int.reduceLT, Int.reduceAdd, Int.reduceSub, Int.reduceNeg, Int.reduceToNat, Int.reduceNe, Nat.reducePow, Nat.reduceShiftRight, Nat.reduceMod, *])
      refine call_mut (whole_p xs hl hall.out t.size t y 1125899906842624 0 (Nat.le_refl _) hrf.2 hrf.1 (by omega) (by omega) (by omega) (by omega) hyk.out _ _ (m + 9) 2000 (fun j => decide (j = nx + 1)) true (upd_same _ _ _) (Nat.add_lt_add_left (by decide) _) ⟨by omega, by omega⟩ ?kp) ?_
      case kp =>
        intro j hj
        obtain rfl := of_decide_eq_true hj
        refine ⟨by omega, Nat.lt_of_lt_of_le (by omega : nx + 1 < m) (Nat.le_add_right _ _), fun o ho => ?_⟩
        have := hH.symm.trans ((upd_ne _ _ (show nx + 1 ≠ m + 9 by omega)).symm.trans ho)
        cases this
        exact .imm rfl
      rintro H' nx' r ⟨hn1, hk1, x, hx, hcase⟩ -
      have hz : H' (nx + 1) = _ := (hk1 (nx + 1) (by simp)).trans ((upd_ne _ _ (show nx + 1 ≠ m + 9 by omega)).trans hH)
      clear hk1 hall hrf hn1 hH
      rcases hcase with ⟨hbad, cc, dd, rfl, hcd⟩ | ⟨hle, rfl, rfl⟩
      · obtain ⟨rfl, rfl⟩ := hcd (by omega)
        have e : cap2 (some y) = none := if_neg (by omega)
        rw [e]
        simp only [optT, zeroT, failPV]
        clear e
        repeat' (first | ((with_reducible first | refine wA (by omega) ?_ | refine wB (by omega) ?_ | refine wC (by omega) ?_ | refine wD (by omega) ?_ | refine wE ?_ ?_ | refine wF ?_ ?_ | refine wG ?_ ?_ | refine wH ?_ ?_ | refine wI ?_ ?_ | refine wJ ?_ ?_ | refine wK ?_ ?_ | refine wL ?_ ?_) <;> intro _) | simp (maxSteps := 1000000) (disch := omega) only [go_sem, Nat.reduceAdd, Nat.reduceMul, Nat.reduceSub, Nat.reduceLeDiff, Nat.reduceEqDiff, Nat.reduceBEq, ↓reduceIte, reduceCtorEq, Int.reduceEq, Int.reduceLE, Int.reduceLT, Int.reduceAdd, Int.reduceSub, Int.reduceNeg, Int.reduceToNat, Int.reduceNe, Nat.reducePow, Nat.reduceShiftRight, Nat.reduceMod, *])
        all_goals
          refine fin_ret (r0 := .tup [.agg [.sc (.int .i64 0), .sc (.int .i64 0), .sc (.string ⟨#[]⟩), .sc (.slice none 0 0), .sc (.slice none 0 0)], .sc (.bool false)]) 2 cE2 ?_
          exact .of_eq (by simp [frz, frz_sc])
      · have e : cap2 (some y) = some y := if_pos (by omega)
        rw [e]
        simp only [optT]
        clear e
        repeat' (first | ((with_reducible first | refine wA (by omega) ?_ | refine wB (by omega) ?_ | refine wC (by omega) ?_ | refine wD (by omega) ?_ | refine wE ?_ ?_ | refine wF ?_ ?_ | refine wG ?_ ?_ | refine wH ?_ ?_ | refine wI ?_ ?_ | refine wJ ?_ ?_ | refine wK ?_ ?_ | refine wL ?_ ?_) <;> intro _) | simp (maxSteps := 1000000) (disch := omega) only [go_sem, Nat.reduceAdd, Nat.reduceMul, Nat.reduceSub, Nat.reduceLeDiff, Nat.reduceEqDiff, Nat.reduceBEq, ↓reduceIte, reduceCtorEq, Int.reduceEq, Int.reduceLE, Int.reduceLT, Int.reduceAdd, Int.reduceSub, Int.reduceNeg, Int.reduceToNat, Int.reduceNe, Nat.reducePow, Nat.reduceShiftRight, Nat.reduceMod, *])
        all_goals
          refine fin_ret (r0 := .tup [.agg y.pv, .sc (.bool true)]) 1 cE2 ?_
          exact .of_eq (by simp [frz])
set_option maxHeartbeats 16000000 in
theorem ref06_Replace_p (t : Tm) (name : ByteArray) (u : Tm) : PPure Try.prog F.ref06_Replace [.agg t.pv, .sc (.string name), .agg u.pv] (optT (replR t name u)) := by
  refine pure_by is_ref06_Replace (by simp) (optT_imm _) fun hb nx => ?_
  clear hb
  have c1 := ref04_Any_p t 4
  have c2 := ref04_Any_p u 4
  cases hr : t.right 4 1125899906842624 with
  | false =>
    have e : replR t name u = none := if_neg fun h => by rw [hr] at h; exact absurd h.1 (by decide)
    rw [e]
    rw [hr] at c1
    simp only [optT, zeroT]
    clear e hr
    repeat' (first | ((with_reducible first | refine wA (by omega) ?_ | refine wB (by omega) ?_ | refine wC (by omega) ?_ | refine wD (by omega) ?_ | refine wE ?_ ?_ | refine wF ?_ ?_ | refine wG ?_ ?_ | refine wH ?_ ?_ | refine wI ?_ ?_ | refine wJ ?_ ?_ | refine wK ?_ ?_ | refine wL ?_ ?_) <;> intro _) | (((with_reducible refine call_id ?_); (first | (refine call_pure (c1) ?_) | (refine call_pure (c2) ?_)))) | simp (maxSteps := 1000000) (disch := omega) only [go_sem, Nat.reduceAdd, Nat.reduceMul, Nat.reduceSub, Nat.reduceLeDiff, Nat.reduceEqDiff, Nat.reduceBEq, ↓reduceIte, reduceCtorEq, Int.reduceEq, Int.reduceLE, Int.reduceLT, Int.reduceAdd, Int.reduceSub, Int.reduceNeg, Int.reduceToNat, Int.reduceNe, Nat.reducePow, Nat.reduceShiftRight, Nat.reduceMod, mc_ref06_Replace, *])
    all_goals
      refine fin_ret (r0 := .tup [.agg [.sc (.int .i64 0), .sc (.int .i64 0), .sc (.string ⟨#[]⟩), .sc (.slice none 0 0), .sc (.slice none 0 0)], .sc (.bool false)]) 2 cE2 ?_
      exact .of_eq (by simp [frz, frz_sc])
  | true =>
    rw [hr] at c1
    cases hru : u.right 4 1125899906842624 with
    | false =>
      have e : replR t name u = none := if_neg fun h => by rw [hru] at h; exact absurd h.2 (by decide)
      rw [e]
      rw [hru] at c2
      simp only [optT, zeroT]
      clear e hr hru
      repeat' (first | ((with_reducible first | refine wA (by omega) ?_ | refine wB (by omega) ?_ | refine wC (by omega) ?_ | refine wD (by omega) ?_ | refine wE ?_ ?_ | refine wF ?_ ?_ | refine wG ?_ ?_ | refine wH ?_ ?_ | refine wI ?_ ?_ | refine wJ ?_ ?_ | refine wK ?_ ?_ | refine wL ?_ ?_) <;> intro _) | (((with_reducible refine call_id ?_); (first | (refine call_pure (c1) ?_) | (refine call_pure (c2) ?_)))) | simp (maxSteps := 1000000) (disch := omega) only [go_sem, Nat.reduceAdd, Nat.reduceMul, Nat.reduceSub, Nat.reduceLeDiff, Nat.reduceEqDiff, Nat.reduceBEq, ↓reduceIte, reduceCtorEq, Int.reduceEq, Int.reduceLE, Int.reduceLT, Int.reduceAdd, Int.reduceSub, Int.reduceNeg, Int.reduceToNat, Int.reduceNe, Nat.reducePow, Nat.reduceShiftRight, Nat.reduceMod, mc_ref06_Replace, *])
      all_goals
        refine fin_ret (r0 := .tup [.agg [.sc (.int .i64 0), .sc (.int .i64 0), .sc (.string ⟨#[]⟩), .sc (.slice none 0 0), .sc (.slice none 0 0)], .sc (.bool false)]) 2 cE2 ?_
        exact .of_eq (by simp [frz, frz_sc])
    | true =>
      rw [hru] at c2
      have e : replR t name u = cap2 (t.fill (swapL name u) 0) := if_pos ⟨hr, hru⟩
      obtain ⟨y, hy⟩ := swaps_total [name] [u] rfl t 0
      have hsp := swap_p [name] [u] rfl (by simp) (fun x hx => by obtain rfl := List.mem_singleton.1 hx; exact ⟨(right_far hru).2, (right_far hru).1⟩) t.size t y 1125899906842624 0 (Nat.le_refl _) (right_far hr).2 (right_far hr).1 (by omega) (by have := size_nodes t; have := (right_far hr).2; omega) (by omega) (by have := size_nodes t; have := (right_far hr).2; omega) hy
      rw [swaps_one] at hy
      rw [hy] at e
      rw [e]
      simp only [List.map_cons, List.map_nil, txt] at hsp
      have hspk := Kept.mk hsp
      have hnd := (right_far hr).2
      clear e hy hr hru hsp
      repeat' (first | ((with_reducible first | refine wA (by omega) ?_ | refine wB (by omega) ?_ | refine wC (by omega) ?_ | refine wD (by omega) ?_ | refine wE ?_ ?_ | refine wF ?_ ?_ | refine wG ?_ ?_ | refine wH ?_ ?_ | refine wI ?_ ?_ | refine wJ ?_ ?_ | refine wK ?_ ?_ | refine wL ?_ ?_) <;> intro _) | (((with_reducible refine call_id ?_); (first | (refine call_pure (c1) ?_) | (refine call_pure (c2) ?_)))) | simp (maxSteps := 1000000) (disch := omega) only [go_sem, Nat.reduceAdd, Nat.reduceMul, Nat.reduceSub, Nat.reduceLeDiff, Nat.reduceEqDiff, Nat.reduceBEq, ↓reduceIte, reduceCtorEq, Int.reduceEq, Int.reduceLE, Int.reduceLT, Int.reduceAdd, Int.reduceSub, Int.reduceNeg, Int.reduceToNat, Int.reduceNe, Nat.reducePow, Nat.reduceShiftRight, Nat.reduceMod, mc_ref06_Replace, *])
      refine call_mut (hspk.out _ _ (nx + 17) 2000 (fun j => decide (j = nx + 2)) true (upd_same _ _ _) (by show nx + 17 < nx + 23; omega) ⟨by omega, by omega⟩ ?kp) ?_
      case kp =>
        intro j hj
        obtain rfl := of_decide_eq_true hj
        refine ⟨by omega, by show nx + 2 < nx + 23; omega, fun o ho => ?_⟩
        have := ((upd_ne _ _ (show nx + 2 ≠ nx + 17 by omega)).trans (upd_same _ _ _)).symm.trans ho
        cases this
        exact .imm rfl
      rintro H' nx' r ⟨hn1, hk1, x, hx, hcase⟩ -
      have hz : H' (nx + 2) = _ := (hk1 (nx + 2) (by simp)).trans ((upd_ne _ _ (show nx + 2 ≠ nx + 17 by omega)).trans (upd_same _ _ _))
      clear hk1 hn1 hspk
      rcases hcase with ⟨hbad, cc, dd, rfl, hcd⟩ | ⟨hle, rfl, rfl⟩
      · obtain ⟨rfl, rfl⟩ := hcd (by omega)
        have e : cap2 (some y) = none := if_neg (by omega)
        rw [e]
        simp only [optT, zeroT, failPV]
        clear e
        repeat' (first | ((with_reducible first | refine wA (by omega) ?_ | refine wB (by omega) ?_ | refine wC (by omega) ?_ | refine wD (by omega) ?_ | refine wE ?_ ?_ | refine wF ?_ ?_ | refine wG ?_ ?_ | refine wH ?_ ?_ | refine wI ?_ ?_ | refine wJ ?_ ?_ | refine wK ?_ ?_ | refine wL ?_ ?_) <;> intro _) | simp (maxSteps := 1000000) (disch := omega) only [go_sem, Nat.reduceAdd, Nat.reduceMul, Nat.reduceSub, Nat.reduceLeDiff, Nat.reduceEqDiff, Nat.reduceBEq, ↓reduceIte, reduceCtorEq, Int.reduceEq, Int.reduceLE, Int.reduceLT, Int.reduceAdd, Int.reduceSub, Int.reduceNeg, Int.reduceToNat, Int.reduceNe, Nat.reducePow, Nat.reduceShiftRight, Nat.reduceMod, *])
        all_goals
          refine fin_ret (r0 := .tup [.agg [.sc (.int .i64 0), .sc (.int .i64 0), .sc (.string ⟨#[]⟩), .sc (.slice none 0 0), .sc (.slice none 0 0)], .sc (.bool false)]) 2 cE2 ?_
          exact .of_eq (by simp [frz, frz_sc])
      · have e : cap2 (some y) = some y := if_pos (by omega)
        rw [e]
        simp only [optT]
        clear e
        repeat' (first | ((with_reducible first | refine wA (by omega) ?_ | refine wB (by omega) ?_ | refine wC (by omega) ?_ | refine wD (by omega) ?_ | refine wE ?_ ?_ | refine wF ?_ ?_ | refine wG ?_ ?_ | refine wH ?_ ?_ | refine wI ?_ ?_ | refine wJ ?_ ?_ | refine wK ?_ ?_ | refine wL ?_ ?_) <;> intro _) | simp (maxSteps := 1000000) (disch := omega) only [go_sem, Nat.reduceAdd, Nat.reduceMul, Nat.reduceSub, Nat.reduceLeDiff, Nat.reduceEqDiff, Nat.reduceBEq, ↓reduceIte, reduceCtorEq, Int.reduceEq, Int.reduceLE, Int.reduceLT, Int.reduceAdd, Int.reduceSub, Int.reduceNeg, Int.reduceToNat, Int.reduceNe, Nat.reducePow, Nat.reduceShiftRight, Nat.reduceMod, *])
        all_goals
          refine fin_ret (r0 := .tup [.agg y.pv, .sc (.bool true)]) 1 cE2 ?_
          exact .of_eq (by simp [frz])
def vsI (n : Nat) : List Int := (List.range n).map fun (i : Nat) => (n : Int) - 1 - i
theorem vsI_len (n : Nat) : (vsI n).length = n := by simp [vsI]
def rawV (v : Int) : List PV := [.sc (.int .i64 1), .sc (.int .i64 v), .sc (.string ⟨#[]⟩), .sc (.slice none 0 0), .sc (.slice none 0 0)]
theorem rawV_weak (v : Int) : WeakL (rawV v) (varT v).pv := by
  simp only [rawV, varT, Tm.pv, List.map_nil]
  exact ⟨.refl _, .refl _, .refl _, .nil 3, .nil 5, trivial⟩
set_option maxHeartbeats 16000000 in
theorem ref06_Abstract_p (t : Tm) (names : List ByteArray) (hnl : names.length ≤ 2 ^ 20) : PPure Try.prog F.ref06_Abstract [.agg t.pv, .sl 1 (names.map txt)] (optT (absR t names)) := by
  refine pure_by is_ref06_Abstract (by simp) (optT_imm _) fun hb nx => ?_
  clear hb
  have c1 := ref04_Any_p t 4
  cases hr : t.right 4 1125899906842624 with
  | false =>
    have e : absR t names = none := if_neg fun h => by rw [hr] at h; exact absurd h (by decide)
    rw [e]
    rw [hr] at c1
    simp only [optT, zeroT]
    clear e hr
    repeat' (first | ((with_reducible first | refine wA (by omega) ?_ | refine wB (by omega) ?_ | refine wC (by omega) ?_ | refine wD (by omega) ?_ | refine wE ?_ ?_ | refine wF ?_ ?_ | refine wG ?_ ?_ | refine wH ?_ ?_ | refine wI ?_ ?_ | refine wJ ?_ ?_ | refine wK ?_ ?_ | refine wL ?_ ?_) <;> intro _) | (((with_reducible refine call_id ?_); (first | (refine call_pure (c1) ?_)))) | simp (maxSteps := 1000000) (disch := omega) only [go_sem, Nat.reduceAdd, Nat.reduceMul, Nat.reduceSub, Nat.reduceLeDiff, Nat.reduceEqDiff, Nat.reduceBEq, ↓reduceIte, reduceCtorEq, Int.reduceEq, Int.reduceLE, Int.reduceLT, Int.reduceAdd, Int.reduceSub, Int.reduceNeg, Int.reduceToNat, Int.reduceNe, Nat.reducePow, Nat.reduceShiftRight, Nat.reduceMod, mc_ref06_Abstract, *])
    all_goals
      refine fin_ret (r0 := .tup [.agg [.sc (.int .i64 0), .sc (.int .i64 0), .sc (.string ⟨#[]⟩), .sc (.slice none 0 0), .sc (.slice none 0 0)], .sc (.bool false)]) 2 cE2 ?_
      exact .of_eq (by simp [frz, frz_sc])
  | true =>
    rw [hr] at c1
    have hrf := right_far hr
    have hsz := size_nodes t
    have hu : ∀ i, i < names.length → ((vsI names.length).map varT)[i]? = some (varT ((names.length : Int) - 1 - i)) := fun i hi => by simp [vsI, hi]
    have hul : ((vsI names.length).map varT).length = names.length := by simp [vsI]
    obtain ⟨y, hy⟩ := swaps_total names ((vsI names.length).map varT) hul (t.lift names.length 0) 0
    have hsl := size_nodes (t.lift names.length 0)
    rw [lift_nodes] at hsl
    have hsp := swap_p names ((vsI names.length).map varT) hul hnl (fun u hm => by
      obtain ⟨v, hv, rfl⟩ := List.mem_map.1 hm
      obtain ⟨i, hi, rfl⟩ := List.mem_map.1 hv
      have := List.mem_range.1 hi
      exact ⟨by simp [varT, Tm.nodes, nodesL, nodesT], varT_formed (by omega) (by omega)⟩) (t.lift names.length 0).size (t.lift names.length 0) y (1125899906842624 + names.length) 0 (Nat.le_refl _) (by rw [lift_nodes]; exact hrf.2) (lift_formed 4 names.length (by omega) t _ 0 hrf.1) (by omega) (by omega) (by omega) (by omega) hy
    rw [abs_swaps names _ hu] at hy
    have e : absR t names = cap2 (some y) := by rw [← hy]; exact if_pos hr
    rw [e]
    have c2 := Lift_p 4 names.length ⟨by omega, by omega⟩ t.size t 1125899906842624 0 (Nat.le_refl _) (by omega) (by omega) (by omega) hrf.1 (by omega) (by omega)
    rw [lift_nodes] at hsp
    have hspk := Kept.mk hsp
    have hnd := hrf.2
    clear e hy hr hsp hrf hsz hsl hul hu
    repeat' (first | ((with_reducible first | refine wA (by omega) ?_ | refine wB (by omega) ?_ | refine wC (by omega) ?_ | refine wD (by omega) ?_ | refine wE ?_ ?_ | refine wF ?_ ?_ | refine wG ?_ ?_ | refine wH ?_ ?_ | refine wI ?_ ?_ | refine wJ ?_ ?_ | refine wK ?_ ?_ | refine wL ?_ ?_) <;> intro _) | (((with_reducible refine call_id ?_); (first | (refine call_pure (c1) ?_)))) | simp (maxSteps := 1000000) (disch := omega) only [go_sem, Nat.reduceAdd, Nat.reduceMul, Nat.reduceSub, Nat.reduceLeDiff, Nat.reduceEqDiff, Nat.reduceBEq, ↓reduceIte, reduceCtorEq, Int.reduceEq, Int.reduceLE, Int.reduceLT, Int.reduceAdd, Int.reduceSub, Int.reduceNeg, Int.reduceToNat, Int.reduceNe, Nat.reducePow, Nat.reduceShiftRight, Nat.reduceMod, mc_ref06_Abstract, *])
    clear c1
    refine c_loopW 8589672640 (by kernel_rfl) (fun j f H m => ∃ (i id : Nat) (w : Bool), j = names.length - i ∧ i ≤ names.length ∧ f 7 = .sc (.int .i64 i) ∧ f 6 = .osl id 0 i 5 ∧ id < m ∧ nx + 1 < id ∧ H id = some ⟨((vsI names.length).take i).flatMap rawV, w⟩ ∧ H (nx + 1) = some ⟨[.sc (.int .i64 0), .sc (.int .i64 0), .sc (.string ⟨#[]⟩), .sc (.slice none 0 0), .sc (.slice none 0 0)], true⟩) _ ⟨0, nx + 11, true, rfl, Nat.zero_le _, by simp [upd], by simp [upd], by show nx + 11 < nx + 14; omega, by omega, by simp [upd], by simp [upd]⟩ ?_
    rintro _ f H m ⟨i, id, w, rfl, hi, e7, e6, hid, hid2, hH, hz⟩
    by_cases hlt : i < names.length
    · have hvi : i < (vsI names.length).length := by rw [vsI_len]; exact hlt
      have hvg : (vsI names.length)[i] = (names.length : Int) - 1 - i := by simp [vsI]
      have hfl : (((vsI names.length).take i).flatMap rawV).length = i * 5 := by rw [flat_lenG rawV 5 (fun _ => rfl), List.length_take]; omega
      have hrs : Kept (((vsI names.length).take (i + 1)).flatMap rawV = ((vsI names.length).take i).flatMap rawV ++ rawV ((names.length : Int) - 1 - i)) := Kept.mk (by rw [List.take_succ_eq_append_getElem hvi, hvg, List.flatMap_append]; simp)
      have hzz : (i + 1) * 80 ≤ 140737488355328 ∧ i ≤ 4611686018427387903 := by omega
      clear hvg hvi
      repeat' (first | ((with_reducible first | refine wA (by omega) ?_ | refine wB (by omega) ?_ | refine wC (by omega) ?_ | refine wD (by omega) ?_ | refine wE ?_ ?_ | refine wF ?_ ?_ | refine wG ?_ ?_ | refine wH ?_ ?_ | refine wI ?_ ?_ | refine wJ ?_ ?_ | refine wK ?_ ?_ | refine wL ?_ ?_) <;> intro _) | simp (maxSteps := 1000000) (disch := omega) only [go_sem, Nat.reduceAdd, Nat.reduceMul, Nat.reduceSub, Nat.reduceLeDiff, Nat.reduceEqDiff, Nat.reduceBEq, ↓reduceIte, reduceCtorEq, Int.reduceEq, Int.reduceLE, Int.reduceLT, Int.reduceAdd, Int.reduceSub, Int.reduceNeg, Int.reduceToNat, Int.reduceNe, Nat.reducePow, Nat.reduceShiftRight, Nat.reduceMod, *])
      exact Nx.mk (names.length - (i + 1)) cE1 ⟨i + 1, m + 12, false, rfl, cE1, by simp [upd], by simp [upd], Nat.add_lt_add_left (by decide) _, by omega, by (rw [hrs.out]; simp [upd, rawV]), (upd_ne _ _ (show nx + 1 ≠ m + 12 by omega)).trans ((upd_ne _ _ (show nx + 1 ≠ id by omega)).trans hz)⟩
    · obtain rfl : i = names.length := by omega
      have hH2 : H id = some ⟨(vsI names.length).flatMap rawV, w⟩ := by rw [hH, List.take_of_length_le (by rw [vsI_len]; exact Nat.le_refl _)]
      have hHk := Kept.mk hH2
      clear hH hH2
      repeat' (first | ((with_reducible first | refine wA (by omega) ?_ | refine wB (by omega) ?_ | refine wC (by omega) ?_ | refine wD (by omega) ?_ | refine wE ?_ ?_ | refine wF ?_ ?_ | refine wG ?_ ?_ | refine wH ?_ ?_ | refine wI ?_ ?_ | refine wJ ?_ ?_ | refine wK ?_ ?_ | refine wL ?_ ?_) <;> intro _) | (((with_reducible refine call_id ?_); (first | (refine call_pure (c2) ?_)))) | simp (maxSteps := 1000000) (disch := omega) only [go_sem, Nat.reduceAdd, Nat.reduceMul, Nat.reduceSub, Nat.reduceLeDiff, Nat.reduceEqDiff, Nat.reduceBEq, ↓reduceIte, reduceCtorEq, Int.reduceEq, Int.reduceLE, Int.reduceLT, Int.reduceAdd, Int.reduceSub, Int.reduceNeg, Int.reduceToNat, Int.reduceNe, Nat.reducePow, Nat.reduceShiftRight, Nat.reduceMod, *])
      have hL : lessC (fun j => decide (j = id)) 1 (upd H (m + 10) (some ⟨[.sc (.int .i64 2000)], true⟩)) (m + 10) = some ⟨[.sc (.int .i64 2000)], true⟩ := by
        have : ¬ m + 10 = id := by omega
        simp [lessC, upd, this, frgF]
      have hZ : lessC (fun j => decide (j = id)) 1 (upd H (m + 10) (some ⟨[.sc (.int .i64 2000)], true⟩)) (nx + 1) = some ⟨[.sc (.int .i64 0), .sc (.int .i64 0), .sc (.string ⟨#[]⟩), .sc (.slice none 0 0), .sc (.slice none 0 0)], true⟩ := by
        have h1 : ¬ nx + 1 = id := by omega
        have h2 : (upd H (m + 10) (some ⟨[.sc (.int .i64 2000)], true⟩)) (nx + 1) = _ := (upd_ne _ _ (show nx + 1 ≠ m + 10 by omega)).trans hz
        simp only [lessC, h1, decide_false, Bool.false_eq_true, if_false, h2, Option.map_some, List.map_cons, List.map_nil, frgF]
      have hw : WeakL ([PV.agg (t.lift names.length 0).pv, .sl 1 (names.map txt), .osl id 0 names.length 5, .sc (.int .i64 0), .osl (m + 10) 0 1 1].map (frgF (fun j => decide (j = id)) 1 (upd H (m + 10) (some ⟨[.sc (.int .i64 2000)], true⟩)))) [.agg (t.lift names.length 0).pv, .sl 1 (names.map txt), .sl 5 (((vsI names.length).map varT).map Tm.pv), .sc (.int .i64 0), .osl (m + 10) 0 1 1] := by
        refine ⟨.of_eq (frgF_imm _ _ _ _ (by simp [PV.imm, tm_imm])), .of_eq rfl, ?_, .of_eq rfl, .of_eq (frgF_osl (by simp; omega) _ _ _ _ _), trivial⟩
        rw [List.map_map]
        exact row_giveG (f := rawV) (g := fun v => (varT v).pv) (fun _ => rfl) (fun _ => tm_len _) rawV_weak (vsI names.length) (vsI_len _) ((upd_ne _ _ (show id ≠ m + 10 by omega)).trans hHk.out)
      refine call_mut (PMut.givein (fun j => decide (j = id)) 1 (PMut.weakA (hspk.out _ (m + 16) (m + 10) 2000 (fun j => decide (j = nx + 1)) true hL (by omega) ⟨by omega, by omega⟩ ?kp) hw)) ?_
      case kp =>
        intro j hj
        obtain rfl := of_decide_eq_true hj
        refine ⟨by omega, by omega, fun o ho => ?_⟩
        have := hZ.symm.trans ho
        cases this
        exact .imm rfl
      rintro H' nx' r ⟨hn1, hk1, x, hx, hcase⟩ -
      have hz2 : H' (nx + 1) = _ := (hk1 (nx + 1) (by simp)).trans hZ
      clear hk1 hn1 hspk hL hZ hw hz hHk c2
      rcases hcase with ⟨hbad, cc, dd, rfl, hcd⟩ | ⟨hle, rfl, rfl⟩
      · obtain ⟨rfl, rfl⟩ := hcd (by omega)
        have e : cap2 (some y) = none := if_neg (by omega)
        rw [e]
        simp only [optT, zeroT, failPV]
        clear e
        repeat' (first | ((with_reducible first | refine wA (by omega) ?_ | refine wB (by omega) ?_ | refine wC (by omega) ?_ | refine wD (by omega) ?_ | refine wE ?_ ?_ | refine wF ?_ ?_ | refine wG ?_ ?_ | refine wH ?_ ?_ | refine wI ?_ ?_ | refine wJ ?_ ?_ | refine wK ?_ ?_ | refine wL ?_ ?_) <;> intro _) | simp (maxSteps := 1000000) (disch := omega) only [go_sem, Nat.reduceAdd, Nat.reduceMul, Nat.reduceSub, Nat.reduceLeDiff, Nat.reduceEqDiff, Nat.reduceBEq, ↓reduceIte, reduceCtorEq, Int.reduceEq, Int.reduceLE, Int.reduceLT, Int.reduceAdd, Int.reduceSub, Int.reduceNeg, Int.reduceToNat, Int.reduceNe, Nat.reducePow, Nat.reduceShiftRight, Nat.reduceMod, *])
        all_goals
          refine fin_ret (r0 := .tup [.agg [.sc (.int .i64 0), .sc (.int .i64 0), .sc (.string ⟨#[]⟩), .sc (.slice none 0 0), .sc (.slice none 0 0)], .sc (.bool false)]) 2 cE2 ?_
          exact .of_eq (by simp [frz, frz_sc])
      · have e : cap2 (some y) = some y := if_pos (by omega)
        rw [e]
        simp only [optT]
        clear e
        repeat' (first | ((with_reducible first | refine wA (by omega) ?_ | refine wB (by omega) ?_ | refine wC (by omega) ?_ | refine wD (by omega) ?_ | refine wE ?_ ?_ | refine wF ?_ ?_ | refine wG ?_ ?_ | refine wH ?_ ?_ | refine wI ?_ ?_ | refine wJ ?_ ?_ | refine wK ?_ ?_ | refine wL ?_ ?_) <;> intro _) | simp (maxSteps := 1000000) (disch := omega) only [go_sem, Nat.reduceAdd, Nat.reduceMul, Nat.reduceSub, Nat.reduceLeDiff, Nat.reduceEqDiff, Nat.reduceBEq, ↓reduceIte, reduceCtorEq, Int.reduceEq, Int.reduceLE, Int.reduceLT, Int.reduceAdd, Int.reduceSub, Int.reduceNeg, Int.reduceToNat, Int.reduceNe, Nat.reducePow, Nat.reduceShiftRight, Nat.reduceMod, *])
        all_goals
          refine fin_ret (r0 := .tup [.agg y.pv, .sc (.bool true)]) 1 cE2 ?_
          exact .of_eq (by simp [frz])
end
section
set_option maxRecDepth 20000
attribute [local go_sem] pv_len pv_take Nat.add_assoc tm_len tm_take pv_one tm_one tpvB_len tpvB_take tpvB_one pvB_len pvB_take pvB_one id_ne id_ne' id_ne2 List.append_assoc tm_take_app tm_drop_app tm_take10 tm_drop10 tm_drop15 tm_drop
theorem constant6_p (s : ByteArray) : PPure Try.prog F.law06_constant [.sc (.string s)] (.agg (conT s).pv) := by
  refine pure_by is_law06_constant (by simp) (by simp [PV.imm, tm_imm]) fun hb nx => ?_
  repeat' (first | ((with_reducible first | refine wA (by omega) ?_ | refine wB (by omega) ?_ | refine wC (by omega) ?_ | refine wD (by omega) ?_ | refine wE ?_ ?_ | refine wF ?_ ?_ | refine wG ?_ ?_ | refine wH ?_ ?_ | refine wI ?_ ?_ | refine wJ ?_ ?_ | refine wK ?_ ?_ | refine wL ?_ ?_) <;> intro _) | simp (maxSteps := 1000000) (disch := omega) only [go_sem, Nat.reduceAdd, Nat.reduceMul, Nat.reduceSub, Nat.reduceLeDiff, Nat.reduceEqDiff, Nat.reduceBEq, ↓reduceIte, reduceCtorEq, Int.reduceEq, Int.reduceLE, Int.reduceLT, Int.reduceAdd, Int.reduceSub, Int.reduceNeg, Int.reduceToNat, Int.reduceNe, Nat.reducePow, Nat.reduceShiftRight, Nat.reduceMod, mc_law06_constant, *])
  refine fin_ret (r0 := .agg [.sc (.int .i64 3), .sc (.int .i64 0), .sc (.string s), .sc (.slice none 0 0), .sc (.slice none 0 0)]) 2 cE2 ?_
  rw [frz_agg1]
  simp only [List.map_cons, List.map_nil, frz_sc1, Tm.pv, conT]
  exact Weak.agg ⟨.refl _, .refl _, .refl _, .nil 3, .nil 5, trivial⟩
theorem variable6_p (n : Int) : PPure Try.prog F.law06_variable [.sc (.int .i64 n)] (.agg (varT n).pv) := by
  refine pure_by is_law06_variable (by simp) (by simp [PV.imm, tm_imm]) fun hb nx => ?_
  repeat' (first | ((with_reducible first | refine wA (by omega) ?_ | refine wB (by omega) ?_ | refine wC (by omega) ?_ | refine wD (by omega) ?_ | refine wE ?_ ?_ | refine wF ?_ ?_ | refine wG ?_ ?_ | refine wH ?_ ?_ | refine wI ?_ ?_ | refine wJ ?_ ?_ | refine wK ?_ ?_ | refine wL ?_ ?_) <;> intro _) | simp (maxSteps := 1000000) (disch := omega) only [go_sem, Nat.reduceAdd, Nat.reduceMul, Nat.reduceSub, Nat.reduceLeDiff, Nat.reduceEqDiff, Nat.reduceBEq, ↓reduceIte, reduceCtorEq, Int.reduceEq, Int.reduceLE, Int.reduceLT, Int.reduceAdd, Int.reduceSub, Int.reduceNeg, Int.reduceToNat, Int.reduceNe, Nat.reducePow, Nat.reduceShiftRight, Nat.reduceMod, mc_law06_variable, *])
  refine fin_ret (r0 := .agg [.sc (.int .i64 1), .sc (.int .i64 n), .sc (.string ⟨#[]⟩), .sc (.slice none 0 0), .sc (.slice none 0 0)]) 2 cE2 ?_
  rw [frz_agg1]
  simp only [List.map_cons, List.map_nil, frz_sc1, Tm.pv, varT]
  exact Weak.agg ⟨.refl _, .refl _, .refl _, .nil 3, .nil 5, trivial⟩
def app6 (x y : Tm) : Tm := .mk 4 0 emp [] [x, y]
def lam6 (x y : Tm) : Tm := .mk 5 0 emp [] [x, y]
theorem app6_p (x y : Tm) : PPure Try.prog F.law06_app [.agg x.pv, .agg y.pv] (.agg (app6 x y).pv) := by
  refine pure_by is_law06_app (by simp) (by simp [PV.imm, tm_imm]) fun hb nx => ?_
  repeat' (first | ((with_reducible first | refine wA (by omega) ?_ | refine wB (by omega) ?_ | refine wC (by omega) ?_ | refine wD (by omega) ?_ | refine wE ?_ ?_ | refine wF ?_ ?_ | refine wG ?_ ?_ | refine wH ?_ ?_ | refine wI ?_ ?_ | refine wJ ?_ ?_ | refine wK ?_ ?_ | refine wL ?_ ?_) <;> intro _) | simp (maxSteps := 1000000) (disch := omega) only [go_sem, Nat.reduceAdd, Nat.reduceMul, Nat.reduceSub, Nat.reduceLeDiff, Nat.reduceEqDiff, Nat.reduceBEq, ↓reduceIte, reduceCtorEq, Int.reduceEq, Int.reduceLE, Int.reduceLT, Int.reduceAdd, Int.reduceSub, Int.reduceNeg, Int.reduceToNat, Int.reduceNe, Nat.reducePow, Nat.reduceShiftRight, Nat.reduceMod, mc_law06_app, *])
  refine fin_ret (r0 := .agg [.sc (.int .i64 4), .sc (.int .i64 0), .sc (.string ⟨#[]⟩), .sc (.slice none 0 0), .sl 5 [x.pv, y.pv]]) 2 cE2 ?_
  rw [frz_agg1]
  simp only [List.map_cons, List.map_nil, frz_sc1, frz_sl, Tm.pv, app6]
  exact Weak.agg ⟨.refl _, .refl _, .refl _, .nil 3, .refl _, trivial⟩
theorem lam6_p (x y : Tm) : PPure Try.prog F.law06_lam [.agg x.pv, .agg y.pv] (.agg (lam6 x y).pv) := by
  refine pure_by is_law06_lam (by simp) (by simp [PV.imm, tm_imm]) fun hb nx => ?_
  repeat' (first | ((with_reducible first | refine wA (by omega) ?_ | refine wB (by omega) ?_ | refine wC (by omega) ?_ | refine wD (by omega) ?_ | refine wE ?_ ?_ | refine wF ?_ ?_ | refine wG ?_ ?_ | refine wH ?_ ?_ | refine wI ?_ ?_ | refine wJ ?_ ?_ | refine wK ?_ ?_ | refine wL ?_ ?_) <;> intro _) | simp (maxSteps := 1000000) (disch := omega) only [go_sem, Nat.reduceAdd, Nat.reduceMul, Nat.reduceSub, Nat.reduceLeDiff, Nat.reduceEqDiff, Nat.reduceBEq, ↓reduceIte, reduceCtorEq, Int.reduceEq, Int.reduceLE, Int.reduceLT, Int.reduceAdd, Int.reduceSub, Int.reduceNeg, Int.reduceToNat, Int.reduceNe, Nat.reducePow, Nat.reduceShiftRight, Nat.reduceMod, mc_law06_lam, *])
  refine fin_ret (r0 := .agg [.sc (.int .i64 5), .sc (.int .i64 0), .sc (.string ⟨#[]⟩), .sc (.slice none 0 0), .sl 5 [x.pv, y.pv]]) 2 cE2 ?_
  rw [frz_agg1]
  simp only [List.map_cons, List.map_nil, frz_sc1, frz_sl, Tm.pv, lam6]
  exact Weak.agg ⟨.refl _, .refl _, .refl _, .nil 3, .refl _, trivial⟩
def A6 : Tm := conT bA
def B6 : Tm := conT bB
def W0 : Tm := varT 0
def W1 : Tm := varT 1
def W3 : Tm := varT 3
def W4 : Tm := varT 4
def W10 : Tm := app6 W1 W0
def AB6 : Tm := app6 A6 B6
def W01 : Tm := app6 W0 W1
def Z6 : Tm := lam6 W0 W01
def W04 : Tm := app6 W0 W4
def Y6 : Tm := lam6 W3 W04
def AA6 : Tm := lam6 A6 A6
def R6 : Tm := lam6 W0 W1
theorem e6_r1 : W10.right 4 1125899906842624 = true := by simp [Tm.right, Tm.formed, formedA, hasB, constB, headR, Lv.right, Lv.formed, formedL, Lv.nodes, nodesL, Tm.nodes, nodesT, deepB, noS_emp, nb_A, nb_B, W10, app6, W1, W0, varT]
theorem e6_r2 : A6.right 4 1125899906842624 = true := by simp [Tm.right, Tm.formed, formedA, hasB, constB, headR, Lv.right, Lv.formed, formedL, Lv.nodes, nodesL, Tm.nodes, nodesT, deepB, noS_emp, nb_A, nb_B, A6, conT]
theorem e6_r3 : B6.right 4 1125899906842624 = true := by simp [Tm.right, Tm.formed, formedA, hasB, constB, headR, Lv.right, Lv.formed, formedL, Lv.nodes, nodesL, Tm.nodes, nodesT, deepB, noS_emp, nb_A, nb_B, B6, conT]
theorem e6_r4 : AB6.right 4 1125899906842624 = true := by simp [Tm.right, Tm.formed, formedA, hasB, constB, headR, Lv.right, Lv.formed, formedL, Lv.nodes, nodesL, Tm.nodes, nodesT, deepB, noS_emp, nb_A, nb_B, AB6, app6, A6, B6, conT]
theorem e6_r5 : Z6.right 4 1125899906842624 = true := by simp [Tm.right, Tm.formed, formedA, hasB, constB, headR, Lv.right, Lv.formed, formedL, Lv.nodes, nodesL, Tm.nodes, nodesT, deepB, noS_emp, nb_A, nb_B, Z6, W01, lam6, app6, W1, W0, varT]
theorem e6_r6 : W3.right 4 1125899906842624 = true := by simp [Tm.right, Tm.formed, formedA, hasB, constB, headR, Lv.right, Lv.formed, formedL, Lv.nodes, nodesL, Tm.nodes, nodesT, deepB, noS_emp, nb_A, nb_B, W3, varT]
theorem e6_r7 : W1.right 4 1125899906842624 = true := by simp [Tm.right, Tm.formed, formedA, hasB, constB, headR, Lv.right, Lv.formed, formedL, Lv.nodes, nodesL, Tm.nodes, nodesT, deepB, noS_emp, nb_A, nb_B, W1, varT]
theorem e6_r8 : AA6.right 4 1125899906842624 = true := by simp [Tm.right, Tm.formed, formedA, hasB, constB, headR, Lv.right, Lv.formed, formedL, Lv.nodes, nodesL, Tm.nodes, nodesT, deepB, noS_emp, nb_A, nb_B, AA6, lam6, A6, conT]
theorem e6_r9 : W0.right 4 1125899906842624 = true := by simp [Tm.right, Tm.formed, formedA, hasB, constB, headR, Lv.right, Lv.formed, formedL, Lv.nodes, nodesL, Tm.nodes, nodesT, deepB, noS_emp, nb_A, nb_B, W0, varT]
theorem e6_r10 : Y6.right 4 1125899906842624 = true := by simp [Tm.right, Tm.formed, formedA, hasB, constB, headR, Lv.right, Lv.formed, formedL, Lv.nodes, nodesL, Tm.nodes, nodesT, deepB, noS_emp, nb_A, nb_B, Y6, W04, lam6, app6, W3, W4, W0, varT]
theorem bAB : bA ≠ bB := by decide
theorem e6_inst : instR W10 [A6, B6] = some AB6 := by
  unfold instR
  rw [if_pos ⟨e6_r1, by simp [e6_r2, e6_r3]⟩]
  rfl
theorem e6_abs : absR AB6 [bA, bB] = some W10 := by
  unfold absR
  rw [if_pos e6_r4]
  have : AB6.fill (absL [bA, bB]) 0 = some W10 := by
    simp [AB6, app6, A6, B6, conT, Tm.fill, fillA, absL, firstAt, bAB, Tm.lift, liftA, varT, W10, W1, W0, deepB]
  rw [this]
  show (if W10.nodes ≤ 2000 then some W10 else none) = some W10
  exact if_pos (by decide)
theorem e6_lift : liftR Z6 3 0 = some Y6 := by
  unfold liftR
  rw [if_pos ⟨by decide, by decide, by decide, by decide, e6_r5⟩]
  simp [Z6, W01, lam6, app6, W1, W0, varT, Tm.lift, liftA, deepB, Y6, W04, W3, W4]
theorem e6_low : lowR W3 2 = some W1 := by
  unfold lowR
  rw [if_pos ⟨by decide, by decide, e6_r6⟩]
  rfl
theorem e6_low2 : lowR W1 2 = none := by
  unfold lowR
  rw [if_pos ⟨by decide, by decide, e6_r7⟩]
  rfl
theorem e6_repl : replR AA6 bA W0 = some R6 := by
  unfold replR
  rw [if_pos ⟨e6_r8, e6_r9⟩]
  have : AA6.fill (swapL bA W0) 0 = some R6 := by
    simp [AA6, lam6, A6, conT, Tm.fill, fillA, swapL, Tm.lift, liftA, varT, W0, W1, R6, deepB]
  rw [this]
  show (if R6.nodes ≤ 2000 then some R6 else none) = some R6
  exact if_pos (by decide)
theorem e6_count : countR Y6 3 = 2 := by
  unfold countR
  rw [if_pos ⟨by decide, e6_r10⟩]
  simp [Y6, W04, lam6, app6, W3, W4, W0, varT, Tm.cnt, cntA, varL, deepB]
theorem e6_occ : occR AB6 bA = true := by
  unfold occR
  rw [e6_r4]
  simp [AB6, app6, A6, B6, conT, Tm.cnt, cntA, conL, bAB.symm]
theorem e6_occ2 : occR AB6 ⟨#[99]⟩ = false := by
  unfold occR
  rw [e6_r4]
  simp [AB6, app6, A6, B6, conT, Tm.cnt, cntA, conL, bA, bB]
theorem same6 (x : Tm) : PPure Try.prog F.ref00_SameTerm [.agg x.pv, .agg x.pv] (.sc (.bool true)) := by
  have := SameTerm_p x.size x x (Nat.le_refl _)
  rwa [(tsame_iff x x).2 rfl] at this
set_option maxHeartbeats 8000000 in
theorem alive6_p : PPure Try.prog F.law06_alive [] (.sc (.bool true)) := by
  have c1 : PPure Try.prog F.law06_constant [.sc (.string ⟨#[97]⟩)] (.agg A6.pv) := constant6_p bA
  have c2 : PPure Try.prog F.law06_constant [.sc (.string ⟨#[98]⟩)] (.agg B6.pv) := constant6_p bB
  have c3 : PPure Try.prog F.law06_variable [.sc (.int .i64 0)] (.agg W0.pv) := variable6_p 0
  have c4 : PPure Try.prog F.law06_variable [.sc (.int .i64 1)] (.agg W1.pv) := variable6_p 1
  have c5 : PPure Try.prog F.law06_variable [.sc (.int .i64 3)] (.agg W3.pv) := variable6_p 3
  have c6 : PPure Try.prog F.law06_variable [.sc (.int .i64 4)] (.agg W4.pv) := variable6_p 4
  have c7 : PPure Try.prog F.law06_app [.agg W1.pv, .agg W0.pv] (.agg W10.pv) := app6_p W1 W0
  have c8 : PPure Try.prog F.law06_app [.agg A6.pv, .agg B6.pv] (.agg AB6.pv) := app6_p A6 B6
  have c9 : PPure Try.prog F.law06_app [.agg W0.pv, .agg W1.pv] (.agg W01.pv) := app6_p W0 W1
  have c10 : PPure Try.prog F.law06_app [.agg W0.pv, .agg W4.pv] (.agg W04.pv) := app6_p W0 W4
  have c11 : PPure Try.prog F.law06_lam [.agg W0.pv, .agg W01.pv] (.agg Z6.pv) := lam6_p W0 W01
  have c12 : PPure Try.prog F.law06_lam [.agg W3.pv, .agg W04.pv] (.agg Y6.pv) := lam6_p W3 W04
  have c13 : PPure Try.prog F.law06_lam [.agg A6.pv, .agg A6.pv] (.agg AA6.pv) := lam6_p A6 A6
  have c14 : PPure Try.prog F.law06_lam [.agg W0.pv, .agg W1.pv] (.agg R6.pv) := lam6_p W0 W1
  have c15 : PPure Try.prog F.bind_Inst [.agg W10.pv, .sl 5 [A6.pv, B6.pv]] (.tup [.agg AB6.pv, .sc (.bool true)]) := by
    have := bind_Inst_p W10 [A6, B6] (by decide)
    rw [e6_inst] at this
    exact this
  have c16 : PPure Try.prog F.bind_Abstract [.agg AB6.pv, .sl 1 [[.sc (.string ⟨#[97]⟩)], [.sc (.string ⟨#[98]⟩)]]] (.tup [.agg W10.pv, .sc (.bool true)]) := by
    have := bind_Abstract_p AB6 [bA, bB] (by decide)
    rw [e6_abs] at this
    exact this
  have c17 : PPure Try.prog F.bind_Lift [.agg Z6.pv, .sc (.int .i64 3), .sc (.int .i64 0)] (.tup [.agg Y6.pv, .sc (.bool true)]) := by
    have := bind_Lift_p Z6 3 0
    rw [e6_lift] at this
    exact this
  have c18 : PPure Try.prog F.bind_Lower [.agg W3.pv, .sc (.int .i64 2)] (.tup [.agg [.sc (.int .i64 1), .sc (.int .i64 1), .sc (.string ⟨#[]⟩), .sl 3 [], .sl 5 []], .sc (.bool true)]) := by
    have := bind_Lower_p W3 2
    rw [e6_low] at this
    have e : W1.pv = [.sc (.int .i64 1), .sc (.int .i64 1), .sc (.string ⟨#[]⟩), .sl 3 [], .sl 5 []] := by simp [W1, varT, Tm.pv]
    simp only [optT, e] at this
    exact this
  have c19 : PPure Try.prog F.bind_Lower [.agg W1.pv, .sc (.int .i64 2)] (.tup [.agg [.sc (.int .i64 0), .sc (.int .i64 0), .sc (.string ⟨#[]⟩), .sc (.slice none 0 0), .sc (.slice none 0 0)], .sc (.bool false)]) := by
    have := bind_Lower_p W1 2
    rw [e6_low2] at this
    exact this
  have c20 : PPure Try.prog F.bind_Replace [.agg AA6.pv, .sc (.string ⟨#[97]⟩), .agg W0.pv] (.tup [.agg R6.pv, .sc (.bool true)]) := by
    have := bind_Replace_p AA6 bA W0
    rw [e6_repl] at this
    exact this
  have c21 : PPure Try.prog F.bind_Uses [.agg Y6.pv, .sc (.int .i64 3)] (.sc (.bool true)) := by
    have := bind_Uses_p Y6 3
    rw [e6_count] at this
    exact this
  have c22 : PPure Try.prog F.bind_Count [.agg Y6.pv, .sc (.int .i64 3)] (.sc (.int .i64 2)) := by
    have := bind_Count_p Y6 3
    rw [e6_count] at this
    exact this
  have c23 : PPure Try.prog F.bind_Occurs [.agg AB6.pv, .sc (.string ⟨#[97]⟩)] (.sc (.bool true)) := by
    have := bind_Occurs_p AB6 bA
    rw [e6_occ] at this
    exact this
  have c24 : PPure Try.prog F.bind_Occurs [.agg AB6.pv, .sc (.string ⟨#[99]⟩)] (.sc (.bool false)) := by
    have := bind_Occurs_p AB6 ⟨#[99]⟩
    rw [e6_occ2] at this
    exact this
  refine pure_by is_law06_alive (by simp) rfl fun hb nx => ?_
  clear hb
  repeat' (first | ((with_reducible first | refine wA (by omega) ?_ | refine wB (by omega) ?_ | refine wC (by omega) ?_ | refine wD (by omega) ?_ | refine wE ?_ ?_ | refine wF ?_ ?_ | refine wG ?_ ?_ | refine wH ?_ ?_ | refine wI ?_ ?_ | refine wJ ?_ ?_ | refine wK ?_ ?_ | refine wL ?_ ?_) <;> intro _) | (((with_reducible refine call_id ?_); (first | (refine call_pure (c1) ?_) | (refine call_pure (c2) ?_) | (refine call_pure (c3) ?_) | (refine call_pure (c4) ?_) | (refine call_pure (c5) ?_) | (refine call_pure (c6) ?_) | (refine call_pure (c7) ?_) | (refine call_pure (c8) ?_) | (refine call_pure (c9) ?_) | (refine call_pure (c10) ?_) | (refine call_pure (c11) ?_) | (refine call_pure (c12) ?_) | (refine call_pure (c13) ?_) | (refine call_pure (c14) ?_) | (refine call_pure (c15) ?_) | (refine call_pure (c16) ?_) | (refine call_pure (c17) ?_) | (refine call_pure (c18) ?_) | (refine call_pure (c19) ?_) | (refine call_pure (c20) ?_) | (refine call_pure (c21) ?_) | (refine call_pure (c22) ?_) | (refine call_pure (c23) ?_) | (refine call_pure (c24) ?_) | (refine call_pure (same6 AB6) ?_) | (refine call_pure (same6 W10) ?_) | (refine call_pure (same6 Y6) ?_) | (refine call_pure (same6 R6) ?_)))) | simp (maxSteps := 1000000) (disch := omega) only [go_sem, Nat.reduceAdd, Nat.reduceMul, Nat.reduceSub, Nat.reduceLeDiff, Nat.reduceEqDiff, Nat.reduceBEq, ↓reduceIte, reduceCtorEq, Int.reduceEq, Int.reduceLE, Int.reduceLT, Int.reduceAdd, Int.reduceSub, Int.reduceNeg, Int.reduceToNat, Int.reduceNe, Nat.reducePow, Nat.reduceShiftRight, Nat.reduceMod, mc_law06_alive, strBin, beq_self_eq_true, *])
  all_goals (refine fin_tmp (.inr rfl) ?_; simp [upd])
def minsT (xs : List Tm) : Nat := (xs.map fun x => min x.mass 2501).sum
theorem minsT_take (xs : List Tm) (i : Nat) (h : i < xs.length) : minsT (xs.take (i + 1)) = minsT (xs.take i) + min xs[i].mass 2501 := by
  unfold minsT
  rw [List.take_succ_eq_append_getElem h, List.map_append, List.sum_append]
  simp
theorem minsT_take_le (xs : List Tm) (i : Nat) : minsT (xs.take i) ≤ minsT xs := by
  have : minsT xs = minsT (xs.take i) + minsT (xs.drop i) := by
    unfold minsT
    rw [← List.sum_append, ← List.map_append, List.take_append_drop]
  omega
def great6 (t : Tm) (xs : List Tm) : Bool := decide (20 < xs.length ∨ 2500 < t.mass ∨ 4000 < minsT xs)
set_option maxHeartbeats 16000000 in
theorem great6_p (t : Tm) (ht : t.fits) (xs : List Tm) (hx : ∀ x ∈ xs, x.fits) : PPure Try.prog F.law06_great [.agg t.pv, .sl 5 (xs.map Tm.pv)] (.sc (.bool (great6 t xs))) := by
  refine pure_by is_law06_great (by simp) rfl fun hb nx => ?_
  have hb0 : xs.length ≤ 9223372036854775807 := by simp [bndL, PV.bnd] at hb; exact hb.2.1
  clear hb
  have cG := Great_p t ht
  by_cases h1 : 20 < xs.length
  · have e : great6 t xs = true := decide_eq_true (.inl h1)
    rw [e]
    clear e
    repeat' (first | ((with_reducible first | refine wA (by omega) ?_ | refine wB (by omega) ?_ | refine wC (by omega) ?_ | refine wD (by omega) ?_ | refine wE ?_ ?_ | refine wF ?_ ?_ | refine wG ?_ ?_ | refine wH ?_ ?_ | refine wI ?_ ?_ | refine wJ ?_ ?_ | refine wK ?_ ?_ | refine wL ?_ ?_) <;> intro _) | (((with_reducible refine call_id ?_); (first | (refine call_pure (cG) ?_)))) | simp (maxSteps := 1000000) (disch := omega) only [go_sem, Nat.reduceAdd, Nat.reduceMul, Nat.reduceSub, Nat.reduceLeDiff, Nat.reduceEqDiff, Nat.reduceBEq, ↓reduceIte, reduceCtorEq, Int.reduceEq, Int.reduceLE, Int.reduceLT, Int.reduceAdd, Int.reduceSub, Int.reduceNeg, Int.reduceToNat, Int.reduceNe, Nat.reducePow, Nat.reduceShiftRight, Nat.reduceMod, mc_law06_great, *])
    all_goals (exact fin_tmp (.inr rfl) cE3)
  by_cases h2 : 2500 < t.mass
  · have e : great6 t xs = true := decide_eq_true (.inr (.inl h2))
    rw [decide_eq_true h2] at cG
    rw [e]
    clear e
    repeat' (first | ((with_reducible first | refine wA (by omega) ?_ | refine wB (by omega) ?_ | refine wC (by omega) ?_ | refine wD (by omega) ?_ | refine wE ?_ ?_ | refine wF ?_ ?_ | refine wG ?_ ?_ | refine wH ?_ ?_ | refine wI ?_ ?_ | refine wJ ?_ ?_ | refine wK ?_ ?_ | refine wL ?_ ?_) <;> intro _) | (((with_reducible refine call_id ?_); (first | (refine call_pure (cG) ?_)))) | simp (maxSteps := 1000000) (disch := omega) only [go_sem, Nat.reduceAdd, Nat.reduceMul, Nat.reduceSub, Nat.reduceLeDiff, Nat.reduceEqDiff, Nat.reduceBEq, ↓reduceIte, reduceCtorEq, Int.reduceEq, Int.reduceLE, Int.reduceLT, Int.reduceAdd, Int.reduceSub, Int.reduceNeg, Int.reduceToNat, Int.reduceNe, Nat.reducePow, Nat.reduceShiftRight, Nat.reduceMod, mc_law06_great, *])
    all_goals (exact fin_tmp (.inr rfl) cE3)
  rw [decide_eq_false h2] at cG
  have hxk := Kept.mk fun i (h : i < xs.length) => hx _ (List.getElem_mem h)
  clear hx
  repeat' (first | ((with_reducible first | refine wA (by omega) ?_ | refine wB (by omega) ?_ | refine wC (by omega) ?_ | refine wD (by omega) ?_ | refine wE ?_ ?_ | refine wF ?_ ?_ | refine wG ?_ ?_ | refine wH ?_ ?_ | refine wI ?_ ?_ | refine wJ ?_ ?_ | refine wK ?_ ?_ | refine wL ?_ ?_) <;> intro _) | (((with_reducible refine call_id ?_); (first | (refine call_pure (cG) ?_)))) | simp (maxSteps := 1000000) (disch := omega) only [go_sem, Nat.reduceAdd, Nat.reduceMul, Nat.reduceSub, Nat.reduceLeDiff, Nat.reduceEqDiff, Nat.reduceBEq, ↓reduceIte, reduceCtorEq, Int.reduceEq, Int.reduceLE, Int.reduceLT, Int.reduceAdd, Int.reduceSub, Int.reduceNeg, Int.reduceToNat, Int.reduceNe, Nat.reducePow, Nat.reduceShiftRight, Nat.reduceMod, mc_law06_great, *])
  clear cG
  refine c_loopW 536854640 (by kernel_rfl) (fun j f H m => ∃ (i v : Nat), j = xs.length - i ∧ i ≤ xs.length ∧ f 6 = .sc (.int .i64 i) ∧ f 5 = .sc (.int .i64 v) ∧ v ≤ 4000 ∧ Kept (v = minsT (xs.take i))) _ ⟨0, 0, rfl, Nat.zero_le _, cE1, cE1, by omega, Kept.mk rfl⟩ ?_
  rintro _ f H m ⟨i, v, rfl, hi, e6, e5, hv, hvk⟩
  by_cases hlt : i < xs.length
  · have eg : xs[i]? = some xs[i] := List.getElem?_eq_getElem hlt
    have c1 := Mass_p 2500 (by omega) xs[i].size xs[i] (Nat.le_refl _) (hxk.out i hlt)
    have hst := minsT_take xs i hlt
    have hle := minsT_take_le xs (i + 1)
    have hvk2 : Kept (v + min xs[i].mass 2501 = minsT (xs.take (i + 1))) := Kept.mk (by have := hvk.out; omega)
    by_cases hgt : 4000 < v + min xs[i].mass 2501
    · have e : great6 t xs = true := decide_eq_true (.inr (.inr (by have := hvk2.out; omega)))
      rw [e]
      clear e hst hle hvk hvk2
      repeat' (first | ((with_reducible first | refine wA (by omega) ?_ | refine wB (by omega) ?_ | refine wC (by omega) ?_ | refine wD (by omega) ?_ | refine wE ?_ ?_ | refine wF ?_ ?_ | refine wG ?_ ?_ | refine wH ?_ ?_ | refine wI ?_ ?_ | refine wJ ?_ ?_ | refine wK ?_ ?_ | refine wL ?_ ?_) <;> intro _) | (((with_reducible refine call_id ?_); (first | (refine call_pure (c1) ?_)))) | simp (maxSteps := 1000000) (disch := omega) only [go_sem, Nat.reduceAdd, Nat.reduceMul, Nat.reduceSub, Nat.reduceLeDiff, Nat.reduceEqDiff, Nat.reduceBEq, ↓reduceIte, reduceCtorEq, Int.reduceEq, Int.reduceLE, Int.reduceLT, Int.reduceAdd, Int.reduceSub, Int.reduceNeg, Int.reduceToNat, Int.reduceNe, Nat.reducePow, Nat.reduceShiftRight, Nat.reduceMod, *])
      all_goals (exact fin_tmp (.inr rfl) cE3)
    · clear hst hle hvk
      repeat' (first | ((with_reducible first | refine wA (by omega) ?_ | refine wB (by omega) ?_ | refine wC (by omega) ?_ | refine wD (by omega) ?_ | refine wE ?_ ?_ | refine wF ?_ ?_ | refine wG ?_ ?_ | refine wH ?_ ?_ | refine wI ?_ ?_ | refine wJ ?_ ?_ | refine wK ?_ ?_ | refine wL ?_ ?_) <;> intro _) | (((with_reducible refine call_id ?_); (first | (refine call_pure (c1) ?_)))) | simp (maxSteps := 1000000) (disch := omega) only [go_sem, Nat.reduceAdd, Nat.reduceMul, Nat.reduceSub, Nat.reduceLeDiff, Nat.reduceEqDiff, Nat.reduceBEq, ↓reduceIte, reduceCtorEq, Int.reduceEq, Int.reduceLE, Int.reduceLT, Int.reduceAdd, Int.reduceSub, Int.reduceNeg, Int.reduceToNat, Int.reduceNe, Nat.reducePow, Nat.reduceShiftRight, Nat.reduceMod, *])
      exact Nx.mk (xs.length - (i + 1)) cE1 ⟨i + 1, v + min xs[i].mass 2501, rfl, cE1, by simp [upd], by simp [upd], by omega, hvk2⟩
  · obtain rfl : i = xs.length := by omega
    have hv2 := hvk.out
    rw [List.take_length] at hv2
    have e : great6 t xs = false := decide_eq_false (by omega)
    rw [e]
    clear e hv2 hvk
    repeat' (first | ((with_reducible first | refine wA (by omega) ?_ | refine wB (by omega) ?_ | refine wC (by omega) ?_ | refine wD (by omega) ?_ | refine wE ?_ ?_ | refine wF ?_ ?_ | refine wG ?_ ?_ | refine wH ?_ ?_ | refine wI ?_ ?_ | refine wJ ?_ ?_ | refine wK ?_ ?_ | refine wL ?_ ?_) <;> intro _) | simp (maxSteps := 1000000) (disch := omega) only [go_sem, Nat.reduceAdd, Nat.reduceMul, Nat.reduceSub, Nat.reduceLeDiff, Nat.reduceEqDiff, Nat.reduceBEq, ↓reduceIte, reduceCtorEq, Int.reduceEq, Int.reduceLE, Int.reduceLT, Int.reduceAdd, Int.reduceSub, Int.reduceNeg, Int.reduceToNat, Int.reduceNe, Nat.reducePow, Nat.reduceShiftRight, Nat.reduceMod, *])
    all_goals (exact fin_tmp (.inr rfl) cE3)
theorem great6_no {t : Tm} {xs : List Tm} (h : great6 t xs = false) : xs.length ≤ 20 ∧ t.nodes ≤ 2500 := by
  have := of_decide_eq_false h
  exact ⟨by omega, great_no (by omega)⟩
end
section
set_option maxRecDepth 20000
attribute [local go_sem] pv_len pv_take Nat.add_assoc tm_len tm_take pv_one tm_one tpvB_len tpvB_take tpvB_one pvB_len pvB_take pvB_one id_ne id_ne' id_ne2 List.append_assoc tm_take_app tm_drop_app tm_take10 tm_drop10 tm_drop15 tm_drop
theorem fits_all (list : List {t : Tm // t.fits}) : ∀ x ∈ list.map (·.1), x.fits := by
  intro x hx
  obtain ⟨y, _, rfl⟩ := List.mem_map.1 hx
  exact y.2
end
end Go.Proofs.Ytfhblaggeahbjaa
