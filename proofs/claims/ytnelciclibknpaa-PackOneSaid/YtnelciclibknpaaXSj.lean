/-
  Plain values: DeK, PlI, PkH, PkI, PkJ, PkK, PkL, PlN, PlO, PkM, PlP, PlM.
-/
import Derived.Test.YtnelciclibknpaaXSa
import Derived.Test.YtnelciclibknpaaXSb
import Derived.Test.YtnelciclibknpaaXSc
import Derived.Test.YtnelciclibknpaaXSd
import Derived.Test.YtnelciclibknpaaXSe
import Derived.Test.YtnelciclibknpaaXSf
import Derived.Test.YtnelciclibknpaaXSg
import Derived.Test.YtnelciclibknpaaXSh
import Derived.Test.YtnelciclibknpaaXSi
set_option linter.unusedVariables false
set_option linter.unusedSimpArgs false
namespace Go.Proofs.Ytnelciclibknpaa
open Go.RowKit
attribute [local go_sem ↓] c_seq c_region c_cond c_block c_ret c_skip c_exit c_cont t_normal t_ret t_exit b_normal b_ret b_exit run_nil run_cons g_some o_mv o_pick o_bin o_un o_ld o_ldf o_bld o_len o_mkf o_nilc o_fa o_fd o_ia o_iaa o_ix o_ixs o_ext o_al o_bxf o_bxt o_bsl o_bslf o_mks o_st o_stf o_call o_rng o_nxt o_callm o_callmA o_calvm o_calv cond_true cond_false upd_get sigF_cons o_eqa o_mm o_app o_slc o_apps o_cvt
attribute [local go_sem] num_nil num_cons isP chunks rngV next_is next_iter val_some new_some st_some stf_some guard_tt guard_ff guard_tf guard_ft guard_un calv_fn put_some put_none ev_tmp ev_const ev_func sig_eq sigF_nil q0 q1 nilcV faV fdV iaV iaaV ixV ixsV extV mksV loadP storeP lenPV binPV unPV intBin partsP fillP zeros PV.good PV.cellsOf PV.one q2 q3 q4 q5 q6 q7 q8 q9 q10 q11 q12 q13 q14 q15 q16 q17 q18 q19 q20 q21 q22 q23 q24 q25 q26 q27 q28 q29 q30 q31 q32 q33 q34 q35 q36 q37 q38 wrap64 app_some mmL mmV mm2 eqE eqParts eqInt eqBool eqStr partV q39 q40 pickV q41 q42 q43 q44 q45 q46 q47 q48 q49 appE oldOf rowOf updL q50 q51 q52 q53 zlt ovr_get ite_neN ite_eqN q54 q55 q56 q57 q58 q59 q60 q61 q62 q63 q64 q65 q66 q67 tailP_f tailP_t tailF_f tailF_t slcP bndO capO slcLen intOf Option.isSome_none Option.isNone_none Option.isSome_some Option.isNone_some nilP slc_sl slc_csl slc_osl slc_osl0 slc_ocap slc_str appR appS cvP shiftB false_or List.append_nil List.length_append resP resPs resP1 PV.sc.injEq Value.bool.injEq Value.int.injEq
section
set_option maxRecDepth 20000
attribute [local go_sem] pv_len pv_take Nat.add_assoc tm_len tm_take pv_one tm_one id_ne id_ne' id_ne2 List.append_assoc tm_take_app tm_drop_app tm_d6 tm_d7 tm_d8 tm_d9 tm_d10 tm_d11 tm_d12 tm_d13 tm_d14 tm_d15 ent_len ent_take ent_one tpvB_len tpvB_take tpvB_one
def Dcl.formedR (d : Dcl) : Bool := decide (1 ≤ d.kind) && (decide (d.kind ≤ 5) && (nameB d.name && (d.typ.right d.params 0 && (if d.kind = 5 then noughtB d.val && famB d else if d.fixed ≠ 0 ∨ d.ctors.length ≠ 0 then false else if d.kind = 1 then noughtB d.val else d.val.right d.params 0))))
theorem formedR_eq (d : Dcl) : d.formedR = d.formed := by
  have hp : d.typ.right d.params 0 = true → 0 ≤ d.params ∧ d.params ≤ 4 := fun h => by
    simp only [Tm.right, Bool.and_eq_true, decide_eq_true_eq] at h
    exact ⟨h.2.1, h.2.2.1⟩
  simp only [Dcl.formedR, Dcl.formed, noFamB]
  cases hr : d.typ.right d.params 0 with
  | false => simp
  | true =>
    obtain ⟨h1, h2⟩ := hp hr
    rw [decide_eq_true h1, decide_eq_true h2]
    cases nameB d.name with
    | false => simp
    | true =>
      simp only [Bool.true_and]
      by_cases e5 : d.kind = 5
      · rw [e5]; simp
      · by_cases e1 : d.kind = 1
        · rw [e1]
          by_cases a : d.fixed = 0 <;> by_cases b : d.ctors.length = 0 <;> simp [a, b]
        · by_cases e2 : d.kind = 2 ∨ d.kind = 3 ∨ d.kind = 4
          · have x1 : 1 ≤ d.kind := by omega
            have x2 : d.kind ≤ 5 := by omega
            rw [decide_eq_true x1, decide_eq_true x2]
            simp only [e5, e1, e2, if_true, if_false]
            by_cases a : d.fixed = 0 <;> by_cases b : d.ctors.length = 0 <;> simp [a, b]
          · have x : decide (1 ≤ d.kind) = false ∨ decide (d.kind ≤ 5) = false := by
              by_cases y : 1 ≤ d.kind
              · exact .inr (decide_eq_false (by omega))
              · exact .inl (decide_eq_false y)
            simp only [e5, e1, e2, if_false]
            rcases x with x | x <;> simp [x]
set_option maxHeartbeats 16000000 in
theorem Formed08_p (d : Dcl) : PPure Try.prog F.ref08_Formed [.agg d.pv] (.sc (.bool d.formed)) := by
  rw [← formedR_eq]
  refine pure_by is_ref08_Formed (by simp) rfl fun hb nx => ?_
  clear hb
  have c1 := ref01_Right_p d.name
  have c2 := ref04_Right_p d.typ d.params 0
  have c4 := ref04_Right_p d.val d.params 0
  have c3 : PPure Try.prog F.ref00_SameTerm [.agg d.val.pv, .agg [.sc (.int .i64 0), .sc (.int .i64 0), .sc (.string ⟨#[]⟩), .sc (.slice none 0 0), .sc (.slice none 0 0)]] (.sc (.bool (noughtB d.val))) :=
    (SameTerm_p d.val.size d.val noTm (Nat.le_refl _)).weak (args' := [.agg d.val.pv, .agg [.sc (.int .i64 0), .sc (.int .i64 0), .sc (.string ⟨#[]⟩), .sc (.slice none 0 0), .sc (.slice none 0 0)]]) (by
      simp only [noTm, Tm.pv, List.map_nil]
      exact ⟨.refl _, Weak.agg ⟨.refl _, .refl _, .refl _, .nil 3, .nil 5, trivial⟩, trivial⟩) (.refl _)
  simp only [Dcl.formedR, famB, spanB]
  obtain ⟨kind, params, name, typ, val, fixed, ctors⟩ := d
  simp only [Dcl.pv] at c1 c2 c3 c4 ⊢
  by_cases k1 : 1 ≤ kind
  rotate_left
  · rw [decide_eq_false k1]
    repeat' (first | ((with_reducible first | refine wA (by omega) ?_ | refine wB (by omega) ?_ | refine wC (by omega) ?_ | refine wD (by omega) ?_ | refine wE ?_ ?_ | refine wF ?_ ?_ | refine wG ?_ ?_ | refine wH ?_ ?_ | refine wI ?_ ?_ | refine wJ ?_ ?_ | refine wK ?_ ?_ | refine wL ?_ ?_) <;> intro _) | simp (maxSteps := 1000000) (disch := omega) only [go_sem, seval, mc_ref08_Formed, *])
    all_goals (exact fin_tmp (.inr rfl) cE3)
  by_cases k2 : kind ≤ 5
  rotate_left
  · rw [decide_eq_true k1, decide_eq_false k2]
    repeat' (first | ((with_reducible first | refine wA (by omega) ?_ | refine wB (by omega) ?_ | refine wC (by omega) ?_ | refine wD (by omega) ?_ | refine wE ?_ ?_ | refine wF ?_ ?_ | refine wG ?_ ?_ | refine wH ?_ ?_ | refine wI ?_ ?_ | refine wJ ?_ ?_ | refine wK ?_ ?_ | refine wL ?_ ?_) <;> intro _) | simp (maxSteps := 1000000) (disch := omega) only [go_sem, seval, mc_ref08_Formed, *])
    all_goals (exact fin_tmp (.inr rfl) cE3)
  rw [decide_eq_true k1, decide_eq_true k2]
  simp only [Bool.true_and]
  generalize nameB name = b1 at c1
  generalize typ.right params 0 = b2 at c2
  generalize noughtB val = b3 at c3
  generalize val.right params 0 = b4 at c4
  cases b1 with
  | false =>
    repeat' (first | ((with_reducible first | refine wA (by omega) ?_ | refine wB (by omega) ?_ | refine wC (by omega) ?_ | refine wD (by omega) ?_ | refine wE ?_ ?_ | refine wF ?_ ?_ | refine wG ?_ ?_ | refine wH ?_ ?_ | refine wI ?_ ?_ | refine wJ ?_ ?_ | refine wK ?_ ?_ | refine wL ?_ ?_) <;> intro _) | (((with_reducible refine call_id ?_); (first | (refine call_pure (c1) ?_)))) | simp (maxSteps := 1000000) (disch := omega) only [go_sem, seval, mc_ref08_Formed, *])
    all_goals (exact fin_tmp (.inr rfl) cE3)
  | true =>
  cases b2 with
  | false =>
    repeat' (first | ((with_reducible first | refine wA (by omega) ?_ | refine wB (by omega) ?_ | refine wC (by omega) ?_ | refine wD (by omega) ?_ | refine wE ?_ ?_ | refine wF ?_ ?_ | refine wG ?_ ?_ | refine wH ?_ ?_ | refine wI ?_ ?_ | refine wJ ?_ ?_ | refine wK ?_ ?_ | refine wL ?_ ?_) <;> intro _) | (((with_reducible refine call_id ?_); (first | (refine call_pure (c1) ?_) | (refine call_pure (c2) ?_)))) | simp (maxSteps := 1000000) (disch := omega) only [go_sem, seval, mc_ref08_Formed, *])
    all_goals (exact fin_tmp (.inr rfl) cE3)
  | true =>
  simp only [Bool.true_and]
  by_cases h5 : kind = 5
  · subst h5
    simp only [if_true]
    cases b3 with
    | false =>
      simp only [Bool.false_and]
      repeat' (first | ((with_reducible first | refine wA (by omega) ?_ | refine wB (by omega) ?_ | refine wC (by omega) ?_ | refine wD (by omega) ?_ | refine wE ?_ ?_ | refine wF ?_ ?_ | refine wG ?_ ?_ | refine wH ?_ ?_ | refine wI ?_ ?_ | refine wJ ?_ ?_ | refine wK ?_ ?_ | refine wL ?_ ?_) <;> intro _) | (((with_reducible refine call_id ?_); (first | (refine call_pure (c1) ?_) | (refine call_pure (c2) ?_) | (refine call_pure (c3) ?_)))) | simp (maxSteps := 1000000) (disch := omega) only [go_sem, seval, mc_ref08_Formed, *])
      all_goals (exact fin_tmp (.inr rfl) cE3)
    | true =>
    simp only [Bool.true_and]
    by_cases h : 0 ≤ fixed ∧ fixed ≤ 16 ∧ ctors.length ≤ 8
    · obtain ⟨h0, h1, h2⟩ := h
      rw [decide_eq_true h0, decide_eq_true h1, decide_eq_true h2]
      simp only [Bool.true_and]
      repeat' (first | ((with_reducible first | refine wA (by omega) ?_ | refine wB (by omega) ?_ | refine wC (by omega) ?_ | refine wD (by omega) ?_ | refine wE ?_ ?_ | refine wF ?_ ?_ | refine wG ?_ ?_ | refine wH ?_ ?_ | refine wI ?_ ?_ | refine wJ ?_ ?_ | refine wK ?_ ?_ | refine wL ?_ ?_) <;> intro _) | (((with_reducible refine call_id ?_); (first | (refine call_pure (c1) ?_) | (refine call_pure (c2) ?_) | (refine call_pure (c3) ?_)))) | simp (maxSteps := 1000000) (disch := omega) only [go_sem, seval, mc_ref08_Formed, *])
      clear c1 c2 c3 c4
      refine c_loopW 158456323847937054469676597268 (by kernel_rfl) (fun j f H m => ∃ i : Nat, j = ctors.length - i ∧ i ≤ ctors.length ∧ f 4 = .sc (.int .i64 i) ∧ Kept ((ctors.take i).all (ctrB params) = true)) _ ⟨0, rfl, Nat.zero_le _, cE1, Kept.mk rfl⟩ ?_
      rintro _ f H m ⟨i, rfl, hi, e4, hs⟩
      by_cases hlt : i < ctors.length
      · have eg : ctors[i]? = some ctors[i] := List.getElem?_eq_getElem hlt
        have c1 := ref01_Right_p ctors[i].name
        have c2 := ref04_Right_p ctors[i].typ params 0
        cases hc : ctrB params ctors[i] with
        | false =>
          have e : ctors.all (ctrB params) = false := by
            rw [Bool.eq_false_iff]
            intro h
            have := List.all_eq_true.1 h _ (List.getElem_mem hlt)
            rw [hc] at this
            cases this
          rw [e]
          clear e hs
          cases hn : nameB ctors[i].name with
          | false =>
            rw [hn] at c1
            clear hn hc c2
            repeat' (first | ((with_reducible first | refine wA (by omega) ?_ | refine wB (by omega) ?_ | refine wC (by omega) ?_ | refine wD (by omega) ?_ | refine wE ?_ ?_ | refine wF ?_ ?_ | refine wG ?_ ?_ | refine wH ?_ ?_ | refine wI ?_ ?_ | refine wJ ?_ ?_ | refine wK ?_ ?_ | refine wL ?_ ?_) <;> intro _) | (((with_reducible refine call_id ?_); (first | (refine call_pure (c1) ?_)))) | simp (maxSteps := 1000000) (disch := omega) only [go_sem, seval, Ctr.pv, *])
            all_goals (exact fin_tmp (.inr rfl) cE3)
          | true =>
            have hr : ctors[i].typ.right params 0 = false := by simpa [ctrB, hn] using hc
            rw [hn] at c1
            rw [hr] at c2
            clear hn hc hr
            repeat' (first | ((with_reducible first | refine wA (by omega) ?_ | refine wB (by omega) ?_ | refine wC (by omega) ?_ | refine wD (by omega) ?_ | refine wE ?_ ?_ | refine wF ?_ ?_ | refine wG ?_ ?_ | refine wH ?_ ?_ | refine wI ?_ ?_ | refine wJ ?_ ?_ | refine wK ?_ ?_ | refine wL ?_ ?_) <;> intro _) | (((with_reducible refine call_id ?_); (first | (refine call_pure (c1) ?_) | (refine call_pure (c2) ?_)))) | simp (maxSteps := 1000000) (disch := omega) only [go_sem, seval, Ctr.pv, *])
            all_goals (exact fin_tmp (.inr rfl) cE3)
        | true =>
          have h3 : nameB ctors[i].name = true ∧ ctors[i].typ.right params 0 = true := by simpa [ctrB] using hc
          rw [h3.1] at c1
          rw [h3.2] at c2
          have hs2 : Kept ((ctors.take (i + 1)).all (ctrB params) = true) := Kept.mk (by rw [List.take_succ_eq_append_getElem hlt, List.all_append, hs.out, List.all_cons, hc]; rfl)
          clear h3 hc hs
          repeat' (first | ((with_reducible first | refine wA (by omega) ?_ | refine wB (by omega) ?_ | refine wC (by omega) ?_ | refine wD (by omega) ?_ | refine wE ?_ ?_ | refine wF ?_ ?_ | refine wG ?_ ?_ | refine wH ?_ ?_ | refine wI ?_ ?_ | refine wJ ?_ ?_ | refine wK ?_ ?_ | refine wL ?_ ?_) <;> intro _) | (((with_reducible refine call_id ?_); (first | (refine call_pure (c1) ?_) | (refine call_pure (c2) ?_)))) | simp (maxSteps := 1000000) (disch := omega) only [go_sem, seval, Ctr.pv, *])
          exact Nx.mk (ctors.length - (i + 1)) cE1 ⟨i + 1, rfl, cE1, by simp [upd], hs2⟩
      · obtain rfl : i = ctors.length := by omega
        have h3 := hs.out
        rw [List.take_length] at h3
        rw [h3]
        clear hs h3
        repeat' (first | ((with_reducible first | refine wA (by omega) ?_ | refine wB (by omega) ?_ | refine wC (by omega) ?_ | refine wD (by omega) ?_ | refine wE ?_ ?_ | refine wF ?_ ?_ | refine wG ?_ ?_ | refine wH ?_ ?_ | refine wI ?_ ?_ | refine wJ ?_ ?_ | refine wK ?_ ?_ | refine wL ?_ ?_) <;> intro _) | simp (maxSteps := 1000000) (disch := omega) only [go_sem, seval, *])
        all_goals (exact fin_tmp (.inr rfl) cE3)
    · have e : (decide (0 ≤ fixed) && decide (fixed ≤ 16) && (decide (ctors.length ≤ 8) && ctors.all (ctrB params))) = false := by
        rw [Bool.eq_false_iff]
        intro h2
        simp only [Bool.and_eq_true, decide_eq_true_eq] at h2
        exact h ⟨h2.1.1, h2.1.2, h2.2.1⟩
      rw [e]
      clear e
      have h9 : fixed < 0 ∨ (0 ≤ fixed ∧ 16 < fixed) ∨ (0 ≤ fixed ∧ fixed ≤ 16 ∧ 8 < ctors.length) := by omega
      clear h
      rcases h9 with h | ⟨h, h2⟩ | ⟨h, h2, h3⟩
      all_goals
        repeat' (first | ((with_reducible first | refine wA (by omega) ?_ | refine wB (by omega) ?_ | refine wC (by omega) ?_ | refine wD (by omega) ?_ | refine wE ?_ ?_ | refine wF ?_ ?_ | refine wG ?_ ?_ | refine wH ?_ ?_ | refine wI ?_ ?_ | refine wJ ?_ ?_ | refine wK ?_ ?_ | refine wL ?_ ?_) <;> intro _) | (((with_reducible refine call_id ?_); (first | (refine call_pure (c1) ?_) | (refine call_pure (c2) ?_) | (refine call_pure (c3) ?_)))) | simp (maxSteps := 1000000) (disch := omega) only [go_sem, seval, mc_ref08_Formed, *])
        all_goals (exact fin_tmp (.inr rfl) cE3)
  · simp only [h5, if_false]
    by_cases hf : fixed = 0
    rotate_left
    · rw [if_pos (.inl hf)]
      repeat' (first | ((with_reducible first | refine wA (by omega) ?_ | refine wB (by omega) ?_ | refine wC (by omega) ?_ | refine wD (by omega) ?_ | refine wE ?_ ?_ | refine wF ?_ ?_ | refine wG ?_ ?_ | refine wH ?_ ?_ | refine wI ?_ ?_ | refine wJ ?_ ?_ | refine wK ?_ ?_ | refine wL ?_ ?_) <;> intro _) | (((with_reducible refine call_id ?_); (first | (refine call_pure (c1) ?_) | (refine call_pure (c2) ?_) | (refine call_pure (c3) ?_)))) | simp (maxSteps := 1000000) (disch := omega) only [go_sem, seval, mc_ref08_Formed, *])
      all_goals (exact fin_tmp (.inr rfl) cE3)
    by_cases hl : ctors.length = 0
    rotate_left
    · rw [if_pos (.inr hl)]
      repeat' (first | ((with_reducible first | refine wA (by omega) ?_ | refine wB (by omega) ?_ | refine wC (by omega) ?_ | refine wD (by omega) ?_ | refine wE ?_ ?_ | refine wF ?_ ?_ | refine wG ?_ ?_ | refine wH ?_ ?_ | refine wI ?_ ?_ | refine wJ ?_ ?_ | refine wK ?_ ?_ | refine wL ?_ ?_) <;> intro _) | (((with_reducible refine call_id ?_); (first | (refine call_pure (c1) ?_) | (refine call_pure (c2) ?_) | (refine call_pure (c3) ?_)))) | simp (maxSteps := 1000000) (disch := omega) only [go_sem, seval, mc_ref08_Formed, *])
      all_goals (exact fin_tmp (.inr rfl) cE3)
    rw [if_neg (by rintro (h | h); exact h hf; exact h hl)]
    by_cases h1 : kind = 1
    · rw [if_pos h1]
      repeat' (first | ((with_reducible first | refine wA (by omega) ?_ | refine wB (by omega) ?_ | refine wC (by omega) ?_ | refine wD (by omega) ?_ | refine wE ?_ ?_ | refine wF ?_ ?_ | refine wG ?_ ?_ | refine wH ?_ ?_ | refine wI ?_ ?_ | refine wJ ?_ ?_ | refine wK ?_ ?_ | refine wL ?_ ?_) <;> intro _) | (((with_reducible refine call_id ?_); (first | (refine call_pure (c1) ?_) | (refine call_pure (c2) ?_) | (refine call_pure (c3) ?_)))) | simp (maxSteps := 1000000) (disch := omega) only [go_sem, seval, mc_ref08_Formed, *])
      all_goals (exact fin_tmp (.inr rfl) cE3)
    · rw [if_neg h1]
      repeat' (first | ((with_reducible first | refine wA (by omega) ?_ | refine wB (by omega) ?_ | refine wC (by omega) ?_ | refine wD (by omega) ?_ | refine wE ?_ ?_ | refine wF ?_ ?_ | refine wG ?_ ?_ | refine wH ?_ ?_ | refine wI ?_ ?_ | refine wJ ?_ ?_ | refine wK ?_ ?_ | refine wL ?_ ?_) <;> intro _) | (((with_reducible refine call_id ?_); (first | (refine call_pure (c1) ?_) | (refine call_pure (c2) ?_) | (refine call_pure (c3) ?_) | (refine call_pure (c4) ?_)))) | simp (maxSteps := 1000000) (disch := omega) only [go_sem, seval, mc_ref08_Formed, *])
      all_goals (exact fin_tmp (.inr rfl) cE3)
end
section
set_option maxRecDepth 20000
attribute [local go_sem] Nat.add_assoc id_ne id_ne' id_ne2 List.append_assoc tm_len tm_take tm_one bC_len bC_one rowB_flatR tm_take_app tm_drop_app tm_d5 tm_d6 tm_d7 tm_d8 tm_d9 tm_d10
theorem brw_bC {H : Nat → Option PObj} {id : Nat} {l : List UInt8} {w : Bool} (h : H id = some ⟨bC l, w⟩) : brw H (.osl id 0 l.length 1) = rowB l := by
  simp only [brw, h, bC_len, Nat.mul_one, Nat.zero_add, Nat.le_refl, if_true, List.drop_zero, rowB]
  rw [List.take_of_length_le (by rw [bC_len]; exact Nat.le_refl _), chunks_bC]
end
section
set_option maxRecDepth 20000
attribute [local go_sem] Nat.add_assoc id_ne id_ne' id_ne2 List.append_assoc bC_len bC_one pv_take tm_take pv_len tm_len
set_option maxHeartbeats 8000000 in
theorem rOne_m (n : Nat) (hn : n ≤ 2 ^ 40) (H : Nat → Option PObj) (nx : Nat) :
    PMut Try.prog F.ref02_One [.sc (.int .i64 n)] H nx (fun H' nx' r => nx ≤ nx' ∧ BRow H' nx nx' r (Plain.enc n) ∧ ∀ j, j < nx → H' j = H j) := by
  refine mut_by is_ref02_One (by simp) fun hb => ?_
  clear hb
  have hen := enc_len6 n hn
  repeat' (first | ((with_reducible first | refine wA (by omega) ?_ | refine wB (by omega) ?_ | refine wC (by omega) ?_ | refine wD (by omega) ?_ | refine wE ?_ ?_ | refine wF ?_ ?_ | refine wG ?_ ?_ | refine wH ?_ ?_ | refine wI ?_ ?_ | refine wJ ?_ ?_ | refine wK ?_ ?_ | refine wL ?_ ?_) <;> intro _) | simp (maxSteps := 1000000) (disch := omega) only [go_sem, Nat.reduceAdd, Nat.reduceMul, Nat.reduceSub, Nat.reduceLeDiff, Nat.reduceEqDiff, Nat.reduceBEq, ↓reduceIte, reduceCtorEq, Int.reduceEq, Int.reduceLE, Int.reduceLT, Int.reduceAdd, Int.reduceSub, Int.reduceNeg, Int.reduceToNat, Int.reduceNe, Nat.reducePow, Nat.reduceShiftRight, Nat.reduceMod, mc_ref02_One, *])
  refine c_loopW 65513 (by kernel_rfl) (fun j f H2 m => ∃ (k : Nat) (l2 : List UInt8), j = k ∧ k ≤ n ∧ f 0 = .sc (.int .i64 k) ∧ nx ≤ m ∧ (∃ id w, nx ≤ id ∧ id < m ∧ f 3 = .osl id 0 l2.length 1 ∧ H2 id = some ⟨bC l2, w⟩) ∧ Kept (l2 ++ Plain.enc k = Plain.enc n) ∧ Kept (∀ j, j < nx → H2 j = H j)) _ ⟨n, [], rfl, Nat.le_refl _, cE1, Nat.le_add_right _ _, ⟨nx + 1, true, Nat.le_add_right _ _, ?ml, cE1, ?rr⟩, Kept.mk rfl, ?hh⟩ ?_
  case rr => simp [upd, bC]
  case ml => exact Nat.add_lt_add_left (by decide) _
  case hh =>
    refine Kept.mk ?_
    intro j g1
    simp only [updL]
    rw [upd_ne _ _ (show j ≠ nx + 1 by omega)]
  rintro _ f H2 m ⟨k, l2, rfl, hk, e0, hm, ⟨id, w, g1, g2, e3, g3⟩, he, hH⟩
  rename_i k
  have hlen : l2.length + (Plain.enc k).length = (Plain.enc n).length := by
    have := congrArg List.length (show l2 ++ Plain.enc k = Plain.enc n from he)
    simpa using this
  have b1 : l2.length + 1 ≤ 140737488355328 := by omega
  have b2 : l2.length + 1 ≤ 4611686018427387904 := by omega
  by_cases hb : 128 ≤ k
  · have h1 : (k : Int).tmod 128 = ((k % 128 : Nat) : Int) := by rw [Int.tmod_eq_emod_of_nonneg (by omega)]; omega
    have h3 : IntKind.u8.wrap (((k % 128 : Nat) : Int) + 128) = ((UInt8.ofNat (k % 128 + 128)).toNat : Int) := by rw [IntKind.wrap_u8, UInt8.toNat_ofNat']; omega
    have h4 : IntKind.i64.wrap ((k : Int).tdiv 128) = ((k / 128 : Nat) : Int) := by rw [Int.tdiv_eq_ediv_of_nonneg (by omega)]; rw [wrap64 ⟨by omega, by omega⟩]; omega
    clear hlen
    repeat' (first | ((with_reducible first | refine wA (by omega) ?_ | refine wB (by omega) ?_ | refine wC (by omega) ?_ | refine wD (by omega) ?_ | refine wE ?_ ?_ | refine wF ?_ ?_ | refine wG ?_ ?_ | refine wH ?_ ?_ | refine wI ?_ ?_ | refine wJ ?_ ?_ | refine wK ?_ ?_ | refine wL ?_ ?_) <;> intro _) | simp (maxSteps := 1000000) (disch := omega) only [go_sem, Nat.reduceAdd, Nat.reduceMul, Nat.reduceSub, Nat.reduceLeDiff, Nat.reduceEqDiff, Nat.reduceBEq, ↓reduceIte, reduceCtorEq, Int.reduceEq, Int.reduceLE, Int.reduceLT, Int.reduceAdd, Int.reduceSub, Int.reduceNeg, Int.reduceToNat, Int.reduceNe, Nat.reducePow, Nat.reduceShiftRight, Nat.reduceMod, *])
    refine Nx.mk (k / 128) (by omega) ⟨k / 128, l2 ++ [UInt8.ofNat (k % 128 + 128)], rfl, by omega, cE1, by omega, ⟨m + 8, false, by omega, by omega, cE1, ?rr⟩, ?he, ?hh⟩
    case rr => simp [upd, bC]
    case he =>
      refine Kept.mk ?_
      rw [← show l2 ++ Plain.enc k = Plain.enc n from he, Plain.enc_big hb]; simp
    case hh =>
      refine Kept.mk ?_
      intro j hj
      rw [upd_ne _ _ (show j ≠ m + 8 by omega), upd_ne _ _ (show j ≠ id by omega)]; exact hH j hj
  · have ek : Plain.enc k = [UInt8.ofNat k] := Plain.enc_small (by omega)
    have h3 : IntKind.u8.wrap (k : Int) = ((UInt8.ofNat k).toNat : Int) := by rw [IntKind.wrap_u8, UInt8.toNat_ofNat']; omega
    rw [← show l2 ++ Plain.enc k = Plain.enc n from he, ek]
    clear hlen
    repeat' (first | ((with_reducible first | refine wA (by omega) ?_ | refine wB (by omega) ?_ | refine wC (by omega) ?_ | refine wD (by omega) ?_ | refine wE ?_ ?_ | refine wF ?_ ?_ | refine wG ?_ ?_ | refine wH ?_ ?_ | refine wI ?_ ?_ | refine wJ ?_ ?_ | refine wK ?_ ?_ | refine wL ?_ ?_) <;> intro _) | simp (maxSteps := 1000000) (disch := omega) only [go_sem, Nat.reduceAdd, Nat.reduceMul, Nat.reduceSub, Nat.reduceLeDiff, Nat.reduceEqDiff, Nat.reduceBEq, ↓reduceIte, reduceCtorEq, Int.reduceEq, Int.reduceLE, Int.reduceLT, Int.reduceAdd, Int.reduceSub, Int.reduceNeg, Int.reduceToNat, Int.reduceNe, Nat.reducePow, Nat.reduceShiftRight, Nat.reduceMod, *])
    refine fin_mut (.osl (m + 6) 0 (l2.length + 1) 1) (.inr rfl) rfl (show _ ≤ m + 8 ∧ BRow (upd _ _ _) _ (m + 8) _ _ ∧ ∀ j, _ → upd _ _ _ j = _ from ?_)
    refine ⟨by omega, .inr ⟨m + 6, false, by omega, by omega, by simp, by simp [upd, bC]⟩, fun j hj => ?_⟩
    rw [upd_ne _ _ (show j ≠ m + 6 by omega), upd_ne _ _ (show j ≠ id by omega)]; exact hH j hj
end
section
set_option maxRecDepth 20000
attribute [local go_sem] Nat.add_assoc id_ne id_ne' id_ne2 List.append_assoc bC_len bC_one pv_take tm_take pv_len tm_len strC strC_len
theorem take_bC (l : List UInt8) : (bC l).take l.length = bC l := List.take_of_length_le (by rw [bC_len]; exact Nat.le_refl _)
attribute [local go_sem] take_bC
set_option maxHeartbeats 8000000 in
theorem rTexts_m (ss : List ByteArray) (hl3 : ss.length ≤ 2 ^ 30) (hl : (encT ss).length ≤ 2 ^ 40) (H : Nat → Option PObj) (nx : Nat) :
    PMut Try.prog F.ref02_Texts [textsPV ss] H nx (fun H' nx' r => nx ≤ nx' ∧ (∃ id w, nx ≤ id ∧ id < nx' ∧ r = .osl id 0 (encT ss).length 1 ∧ H' id = some ⟨bC (encT ss), w⟩) ∧ ∀ j, j < nx → H' j = H j) := by
  refine mut_by is_ref02_Texts (by simp) fun hb => ?_
  clear hb
  repeat' (first | ((with_reducible first | refine wA (by omega) ?_ | refine wB (by omega) ?_ | refine wC (by omega) ?_ | refine wD (by omega) ?_ | refine wE ?_ ?_ | refine wF ?_ ?_ | refine wG ?_ ?_ | refine wH ?_ ?_ | refine wI ?_ ?_ | refine wJ ?_ ?_ | refine wK ?_ ?_ | refine wL ?_ ?_) <;> intro _) | simp (maxSteps := 1000000) (disch := omega) only [go_sem, seval, mc_ref02_Texts, textsPV, *])
  refine c_loopW 67108824 (by kernel_rfl) (fun j f H2 m => ∃ i : Nat, j = ss.length - i ∧ i ≤ ss.length ∧ f 4 = .sc (.int .i64 i) ∧ nx ≤ m ∧ (∃ id w, nx ≤ id ∧ id < m ∧ f 3 = .osl id 0 (encT (ss.take i)).length 1 ∧ H2 id = some ⟨bC (encT (ss.take i)), w⟩) ∧ Kept (∀ j, j < nx → H2 j = H j)) _ ⟨0, rfl, Nat.zero_le _, cE1, Nat.le_add_right _ _, ⟨nx + 1, true, Nat.le_add_right _ _, ?ml, cE1, ?rr⟩, ?hh⟩ ?_
  case rr => simp [upd, bC, encT]
  case ml => exact Nat.add_lt_add_left (by decide) _
  case hh =>
    refine Kept.mk ?_
    intro j g1
    simp only [updL]
    rw [upd_ne _ _ (show j ≠ nx + 1 by omega)]
  rintro _ f H2 m ⟨i, rfl, hi, e4, hm, ⟨id, w, g1, g2, e3, g3⟩, hH⟩
  by_cases hlt : i < ss.length
  · have eg : ss[i]? = some ss[i] := List.getElem?_eq_getElem hlt
    have hl1 := encT_take ss (i + 1)
    have hs := encT_snoc ss i hlt
    have hlen := congrArg List.length hs
    simp only [List.length_append, strC_len] at hlen
    obtain ⟨L, hL⟩ : ∃ L, encT (ss.take i) = L := ⟨_, rfl⟩
    rw [hL] at hs hlen e3 g3
    repeat' (first | ((with_reducible first | refine wA (by omega) ?_ | refine wB (by omega) ?_ | refine wC (by omega) ?_ | refine wD (by omega) ?_ | refine wE ?_ ?_ | refine wF ?_ ?_ | refine wG ?_ ?_ | refine wH ?_ ?_ | refine wI ?_ ?_ | refine wJ ?_ ?_ | refine wK ?_ ?_ | refine wL ?_ ?_) <;> intro _) | simp (maxSteps := 1000000) (disch := omega) only [go_sem, seval, *])
    refine call_mut (rOne_m ss[i].size (by omega) _ _) ?_
    rintro H' m' r' ⟨hn0, hr2, hk2⟩ -
    obtain ⟨id2, w2, k1, k2, rfl, k3⟩ := BRow.osl hr2 (Plain.enc_length_pos _)
    have hn : m ≤ m' := Nat.le_trans (Nat.le_add_right _ _) hn0
    have hid : id ≠ id2 := by have : m ≤ id2 := Nat.le_trans (Nat.le_add_right _ _) k1; omega
    have g4 : H' id = some ⟨bC L, w⟩ := (hk2 id (Nat.lt_of_lt_of_le g2 (Nat.le_add_right _ _))).trans g3
    have hH4 : Kept (∀ j, j < nx → H' j = H j) := fun j hj => (hk2 j (Nat.lt_of_lt_of_le hj (Nat.le_trans hm (Nat.le_add_right _ _)))).trans (hH j hj)
    have hnx2 : nx ≤ id2 := Nat.le_trans hm (Nat.le_trans (Nat.le_add_right _ _) k1)
    have b1 : L.length + (Plain.enc ss[i].size).length ≤ 140737488355328 := by omega
    have b2 : L.length + (Plain.enc ss[i].size).length ≤ 4611686018427387904 := by omega
    have b3 : L.length + ((Plain.enc ss[i].size).length + ss[i].size) ≤ 140737488355328 := by omega
    have b4 : L.length + ((Plain.enc ss[i].size).length + ss[i].size) ≤ 4611686018427387904 := by omega
    clear hn0 hr2 hk2 hH g3 hlen hl1 k1
    repeat' (first | ((with_reducible first | refine wA (by omega) ?_ | refine wB (by omega) ?_ | refine wC (by omega) ?_ | refine wD (by omega) ?_ | refine wE ?_ ?_ | refine wF ?_ ?_ | refine wG ?_ ?_ | refine wH ?_ ?_ | refine wI ?_ ?_ | refine wJ ?_ ?_ | refine wK ?_ ?_ | refine wL ?_ ?_) <;> intro _) | simp (maxSteps := 1000000) (disch := omega) only [go_sem, seval, *])
    refine Nx.mk (ss.length - (i + 1)) (by omega) ⟨i + 1, rfl, cE1, cE1, ?mm, ⟨m' + 5, false, ?ma, ?ml, ?rc, ?rr⟩, ?hh⟩
    case mm => exact Nat.le_trans hm (Nat.le_trans hn (Nat.le_add_right _ _))
    case ma => exact Nat.le_trans hm (Nat.le_trans hn (Nat.le_add_right _ _))
    case ml => exact Nat.add_lt_add_left (by decide) _
    case rc =>
      simp only [upd_get, Nat.reduceEqDiff, ↓reduceIte]
      rw [hs]; simp only [List.length_append, strC_len]
    case rr => rw [hs]; simp [upd, bC_append]
    case hh =>
      refine Kept.mk ?_
      intro j hj
      rw [upd_ne _ _ (show j ≠ m' + 5 by omega), upd_ne _ _ (show j ≠ m + 11 by omega), upd_ne _ _ (show j ≠ m + 11 by omega), upd_ne _ _ (show j ≠ id by omega)]; exact hH4 j hj
  · obtain rfl : i = ss.length := by omega
    rw [List.take_length] at e3 g3
    repeat' (first | ((with_reducible first | refine wA (by omega) ?_ | refine wB (by omega) ?_ | refine wC (by omega) ?_ | refine wD (by omega) ?_ | refine wE ?_ ?_ | refine wF ?_ ?_ | refine wG ?_ ?_ | refine wH ?_ ?_ | refine wI ?_ ?_ | refine wJ ?_ ?_ | refine wK ?_ ?_ | refine wL ?_ ?_) <;> intro _) | simp (maxSteps := 1000000) (disch := omega) only [go_sem, seval, *])
    exact fin_mut (.osl id 0 (encT ss).length 1) (.inr rfl) cE2 ⟨Nat.le_trans hm (Nat.le_add_right _ _), ⟨id, w, g1, Nat.lt_of_lt_of_le g2 (Nat.le_add_right _ _), rfl, g3⟩, hH⟩
end
section
set_option maxRecDepth 20000
attribute [local go_sem] Nat.add_assoc id_ne id_ne' id_ne2 List.append_assoc bC_len bC_one pv_take tm_take pv_len tm_len strC strC_len take_bC
set_option maxHeartbeats 8000000 in
theorem rLevel_m {np : Int} (hnp : np ≤ 4) : ∀ (fuel : Nat) (l : Lv), l.nodes ≤ fuel → l.formed np = true → l.nodes ≤ 2 ^ 30 → ∀ (H : Nat → Option PObj) (nx : Nat),
    PMut Try.prog F.ref08_level [.agg l.pv] H nx (fun H' nx' r => nx ≤ nx' ∧ (∃ id w, nx ≤ id ∧ id < nx' ∧ r = .osl id 0 l.enc.length 1 ∧ H' id = some ⟨bC l.enc, w⟩) ∧ ∀ j, j < nx → H' j = H j) := by
  intro fuel
  induction fuel with
  | zero => intro l h; have := nodes_pos l; omega
  | succ fuel ih =>
  intro l hn hf hb H nx
  cases l with
  | mk k n args =>
  obtain ⟨hk, hn1, hfa, hnil⟩ := pk_num hnp hf
  clear hf
  simp only [Lv.nodes] at hn hb
  refine mut_by is_ref08_level (by simp) fun hbn => ?_
  clear hbn
  have hba : args.length ≤ 2 ^ 30 := by have := len_nodesL args; omega
  obtain ⟨k, rfl⟩ : ∃ k' : Nat, k = k' := ⟨k.toNat, by omega⟩
  obtain ⟨n, rfl⟩ : ∃ n' : Nat, n = n' := ⟨n.toNat, by omega⟩
  repeat' (first | ((with_reducible first | refine wA (by omega) ?_ | refine wB (by omega) ?_ | refine wC (by omega) ?_ | refine wD (by omega) ?_ | refine wE ?_ ?_ | refine wF ?_ ?_ | refine wG ?_ ?_ | refine wH ?_ ?_ | refine wI ?_ ?_ | refine wJ ?_ ?_ | refine wK ?_ ?_ | refine wL ?_ ?_) <;> intro _) | simp (maxSteps := 1000000) (disch := omega) only [go_sem, seval, mc_ref08_level, Lv.pv, *])
  refine call_mut (rOne_m k (by omega) _ _) ?_
  rintro H1 m1 r1 ⟨hm0, hr0, hk0⟩ -
  obtain ⟨id, w, g1, g2, rfl, g3⟩ := BRow.osl hr0 (Plain.enc_length_pos _)
  have hm1 : nx ≤ m1 := Nat.le_trans (Nat.le_add_right _ _) hm0
  have hid : nx ≤ id := Nat.le_trans (Nat.le_add_right _ _) g1
  have hk1 : Kept (∀ j, j < nx → H1 j = H j) := fun j g1 => hk0 j (Nat.lt_of_lt_of_le g1 (Nat.le_add_right _ _))
  clear hm0 hr0 hk0 g1
  have hek := enc_len6 k (by omega)
  have hen := enc_len6 n (by omega)
  obtain rfl | rfl | ⟨h1, h2⟩ : k = 1 ∨ k = 2 ∨ (k ≠ 1 ∧ k ≠ 2) := by omega
  · obtain rfl := hnil (.inl rfl)
    have hT : (Lv.mk 1 (n : Int) []).enc = Plain.enc 1 ++ Plain.enc n := by simp [Lv.enc, encLs]
    repeat' (first | ((with_reducible first | refine wA (by omega) ?_ | refine wB (by omega) ?_ | refine wC (by omega) ?_ | refine wD (by omega) ?_ | refine wE ?_ ?_ | refine wF ?_ ?_ | refine wG ?_ ?_ | refine wH ?_ ?_ | refine wI ?_ ?_ | refine wJ ?_ ?_ | refine wK ?_ ?_ | refine wL ?_ ?_) <;> intro _) | simp (maxSteps := 1000000) (disch := omega) only [go_sem, seval, *])
    refine call_mut (rOne_m n (by omega) _ _) ?_
    rintro H2 m2 r2 ⟨hm0, hr0, hk0⟩ -
    obtain ⟨id2, w2, k1, k2, rfl, k3⟩ := BRow.osl hr0 (Plain.enc_length_pos _)
    have hm2 : m1 ≤ m2 := Nat.le_trans (Nat.le_add_right _ _) hm0
    have hm3 : m1 + 14 ≤ m2 := hm0
    have hne : id ≠ id2 := by have : m1 ≤ id2 := Nat.le_trans (Nat.le_add_right _ _) k1; omega
    have hid2 : nx ≤ id2 := Nat.le_trans hm1 (Nat.le_trans (Nat.le_add_right _ _) k1)
    have g4 : H2 id = some ⟨bC (Plain.enc 1), w⟩ := (hk0 id (Nat.lt_of_lt_of_le g2 (Nat.le_add_right _ _))).trans g3
    have hk2 : Kept (∀ j, j < nx → H2 j = H j) := fun j hj => (hk0 j (Nat.lt_of_lt_of_le hj (Nat.le_trans hm1 (Nat.le_add_right _ _)))).trans (hk1 j hj)
    have b1 : (Plain.enc 1).length + (Plain.enc n).length ≤ 140737488355328 := by omega
    have b2 : (Plain.enc 1).length + (Plain.enc n).length ≤ 4611686018427387904 := by omega
    clear hm0 hr0 hk0 hk1 g3 k1
    repeat' (first | ((with_reducible first | refine wA (by omega) ?_ | refine wB (by omega) ?_ | refine wC (by omega) ?_ | refine wD (by omega) ?_ | refine wE ?_ ?_ | refine wF ?_ ?_ | refine wG ?_ ?_ | refine wH ?_ ?_ | refine wI ?_ ?_ | refine wJ ?_ ?_ | refine wK ?_ ?_ | refine wL ?_ ?_) <;> intro _) | simp (maxSteps := 1000000) (disch := omega) only [go_sem, seval, *])
    refine c_rounds 1 ?_
    repeat' (first | ((with_reducible first | refine wA (by omega) ?_ | refine wB (by omega) ?_ | refine wC (by omega) ?_ | refine wD (by omega) ?_ | refine wE ?_ ?_ | refine wF ?_ ?_ | refine wG ?_ ?_ | refine wH ?_ ?_ | refine wI ?_ ?_ | refine wJ ?_ ?_ | refine wK ?_ ?_ | refine wL ?_ ?_) <;> intro _) | simp (maxSteps := 1000000) (disch := omega) only [go_sem, seval, rounds_next, *])
    refine fin_mut (.osl (m1 + 12) 0 ((Plain.enc 1).length + (Plain.enc n).length) 1) (.inr rfl) rfl ⟨?mm, ⟨m1 + 12, false, ?ma, ?ml, ?rc, ?rr⟩, ?hh⟩
    case mm => exact Nat.le_trans hm1 (Nat.le_trans hm2 (Nat.le_add_right _ _))
    case ma => exact Nat.le_trans hm1 (Nat.le_add_right _ _)
    case ml => show m1 + 12 < m2 + 8; omega
    case rc => simp only [hT, List.length_append]
    case rr => simp [upd, bC_append, hT]
    case hh =>
      intro j hj
      show upd (upd H2 id none) (m1 + 12) _ j = H j
      rw [upd_ne _ _ (show j ≠ m1 + 12 by omega), upd_ne _ _ (show j ≠ id by omega)]; exact hk2 j hj
  · obtain rfl := hnil (.inr rfl)
    have hT : (Lv.mk 2 (n : Int) []).enc = Plain.enc 2 ++ Plain.enc n := by simp [Lv.enc, encLs]
    repeat' (first | ((with_reducible first | refine wA (by omega) ?_ | refine wB (by omega) ?_ | refine wC (by omega) ?_ | refine wD (by omega) ?_ | refine wE ?_ ?_ | refine wF ?_ ?_ | refine wG ?_ ?_ | refine wH ?_ ?_ | refine wI ?_ ?_ | refine wJ ?_ ?_ | refine wK ?_ ?_ | refine wL ?_ ?_) <;> intro _) | simp (maxSteps := 1000000) (disch := omega) only [go_sem, seval, *])
    refine call_mut (rOne_m n (by omega) _ _) ?_
    rintro H2 m2 r2 ⟨hm0, hr0, hk0⟩ -
    obtain ⟨id2, w2, k1, k2, rfl, k3⟩ := BRow.osl hr0 (Plain.enc_length_pos _)
    have hm2 : m1 ≤ m2 := Nat.le_trans (Nat.le_add_right _ _) hm0
    have hm3 : m1 + 14 ≤ m2 := hm0
    have hne : id ≠ id2 := by have : m1 ≤ id2 := Nat.le_trans (Nat.le_add_right _ _) k1; omega
    have hid2 : nx ≤ id2 := Nat.le_trans hm1 (Nat.le_trans (Nat.le_add_right _ _) k1)
    have g4 : H2 id = some ⟨bC (Plain.enc 2), w⟩ := (hk0 id (Nat.lt_of_lt_of_le g2 (Nat.le_add_right _ _))).trans g3
    have hk2 : Kept (∀ j, j < nx → H2 j = H j) := fun j hj => (hk0 j (Nat.lt_of_lt_of_le hj (Nat.le_trans hm1 (Nat.le_add_right _ _)))).trans (hk1 j hj)
    have b1 : (Plain.enc 2).length + (Plain.enc n).length ≤ 140737488355328 := by omega
    have b2 : (Plain.enc 2).length + (Plain.enc n).length ≤ 4611686018427387904 := by omega
    clear hm0 hr0 hk0 hk1 g3 k1
    repeat' (first | ((with_reducible first | refine wA (by omega) ?_ | refine wB (by omega) ?_ | refine wC (by omega) ?_ | refine wD (by omega) ?_ | refine wE ?_ ?_ | refine wF ?_ ?_ | refine wG ?_ ?_ | refine wH ?_ ?_ | refine wI ?_ ?_ | refine wJ ?_ ?_ | refine wK ?_ ?_ | refine wL ?_ ?_) <;> intro _) | simp (maxSteps := 1000000) (disch := omega) only [go_sem, seval, *])
    refine c_rounds 1 ?_
    repeat' (first | ((with_reducible first | refine wA (by omega) ?_ | refine wB (by omega) ?_ | refine wC (by omega) ?_ | refine wD (by omega) ?_ | refine wE ?_ ?_ | refine wF ?_ ?_ | refine wG ?_ ?_ | refine wH ?_ ?_ | refine wI ?_ ?_ | refine wJ ?_ ?_ | refine wK ?_ ?_ | refine wL ?_ ?_) <;> intro _) | simp (maxSteps := 1000000) (disch := omega) only [go_sem, seval, rounds_next, *])
    refine fin_mut (.osl (m1 + 12) 0 ((Plain.enc 2).length + (Plain.enc n).length) 1) (.inr rfl) rfl ⟨?mm, ⟨m1 + 12, false, ?ma, ?ml, ?rc, ?rr⟩, ?hh⟩
    case mm => exact Nat.le_trans hm1 (Nat.le_trans hm2 (Nat.le_add_right _ _))
    case ma => exact Nat.le_trans hm1 (Nat.le_add_right _ _)
    case ml => show m1 + 12 < m2 + 8; omega
    case rc => simp only [hT, List.length_append]
    case rr => simp [upd, bC_append, hT]
    case hh =>
      intro j hj
      show upd (upd H2 id none) (m1 + 12) _ j = H j
      rw [upd_ne _ _ (show j ≠ m1 + 12 by omega), upd_ne _ _ (show j ≠ id by omega)]; exact hk2 j hj
  · have hT : (Lv.mk (k : Int) (n : Int) args).enc = Plain.enc k ++ encLs args := by
      simp only [Lv.enc, Int.toNat_natCast]; rw [if_neg (by omega), List.nil_append]
    repeat' (first | ((with_reducible first | refine wA (by omega) ?_ | refine wB (by omega) ?_ | refine wC (by omega) ?_ | refine wD (by omega) ?_ | refine wE ?_ ?_ | refine wF ?_ ?_ | refine wG ?_ ?_ | refine wH ?_ ?_ | refine wI ?_ ?_ | refine wJ ?_ ?_ | refine wK ?_ ?_ | refine wL ?_ ?_) <;> intro _) | simp (maxSteps := 1000000) (disch := omega) only [go_sem, seval, *])
    refine c_loopW 68717379608 (by kernel_rfl) (fun j f H2 m => ∃ i : Nat, j = args.length - i ∧ i ≤ args.length ∧ f 4 = .sc (.int .i64 i) ∧ nx ≤ m ∧ (∃ id w, nx ≤ id ∧ id < m ∧ f 3 = .osl id 0 (Plain.enc k ++ encLs (args.take i)).length 1 ∧ H2 id = some ⟨bC (Plain.enc k ++ encLs (args.take i)), w⟩) ∧ Kept (∀ j, j < nx → H2 j = H j)) _ ⟨0, rfl, Nat.zero_le _, cE1, Nat.le_trans hm1 (Nat.le_add_right _ _), ⟨id, w, hid, Nat.lt_of_lt_of_le g2 (Nat.le_add_right _ _), ?rc, ?rr⟩, hk1⟩ ?_
    case rc => simp only [upd_get, Nat.reduceEqDiff, ↓reduceIte, List.take_zero, encLs, List.append_nil]
    case rr => simp only [List.take_zero, encLs, List.append_nil]; exact g3
    clear g3 g2 hid hk1 hm1
    rintro _ f H2 m ⟨i, rfl, hi, e4, hm, ⟨id, w, g1, g2, e3, g3⟩, hH⟩
    by_cases hlt : i < args.length
    · have eg : args[i]? = some args[i] := List.getElem?_eq_getElem hlt
      have hnm := nodesL_mem args i hlt
      have a1 := encLs_len hnp (args.take (i + 1)) (formedL_all np args (i + 1) hfa)
      have a3 := nodesL_take_le args (i + 1)
      have hs := encLs_snoc args i hlt
      rw [hs] at a1
      rw [List.length_append] at a1
      obtain ⟨L, hL⟩ : ∃ L, Plain.enc k ++ encLs (args.take i) = L := ⟨_, rfl⟩
      have hLl : Kept (L.length = (Plain.enc k).length + (encLs (args.take i)).length) := by refine Kept.mk ?_; rw [← hL, List.length_append]
      have hs2 : Plain.enc k ++ encLs (args.take (i + 1)) = L ++ args[i].enc := by rw [hs, ← hL, List.append_assoc]
      rw [hL] at e3 g3
      repeat' (first | ((with_reducible first | refine wA (by omega) ?_ | refine wB (by omega) ?_ | refine wC (by omega) ?_ | refine wD (by omega) ?_ | refine wE ?_ ?_ | refine wF ?_ ?_ | refine wG ?_ ?_ | refine wH ?_ ?_ | refine wI ?_ ?_ | refine wJ ?_ ?_ | refine wK ?_ ?_ | refine wL ?_ ?_) <;> intro _) | simp (maxSteps := 1000000) (disch := omega) only [go_sem, seval, *])
      refine call_mut (ih args[i] (by omega) (formedL_mem args i hlt hfa) (by omega) _ _) ?_
      rintro H' m' r' ⟨hn0, ⟨id2, w2, k1, k2, rfl, k3⟩, hk2⟩ -
      have hn : m ≤ m' := Nat.le_trans (Nat.le_add_right _ _) hn0
      have hn3 : m + 14 ≤ m' := hn0
      have hne : id ≠ id2 := by have : m ≤ id2 := Nat.le_trans (Nat.le_add_right _ _) k1; omega
      have g4 : H' id = some ⟨bC L, w⟩ := (hk2 id (Nat.lt_of_lt_of_le g2 (Nat.le_add_right _ _))).trans g3
      have hH4 : Kept (∀ j, j < nx → H' j = H j) := fun j hj => (hk2 j (Nat.lt_of_lt_of_le hj (Nat.le_trans hm (Nat.le_add_right _ _)))).trans (hH j hj)
      have hLl2 : L.length = (Plain.enc k).length + (encLs (args.take i)).length := hLl
      have b1 : L.length + args[i].enc.length ≤ 140737488355328 := by omega
      have b2 : L.length + args[i].enc.length ≤ 4611686018427387904 := by omega
      clear hn0 hk2 hH g3 a1 a3 hLl hLl2 hL hs
      have k1' : nx ≤ id2 := Nat.le_trans hm (Nat.le_trans (Nat.le_add_right _ _) k1)
      clear k1
      repeat' (first | ((with_reducible first | refine wA (by omega) ?_ | refine wB (by omega) ?_ | refine wC (by omega) ?_ | refine wD (by omega) ?_ | refine wE ?_ ?_ | refine wF ?_ ?_ | refine wG ?_ ?_ | refine wH ?_ ?_ | refine wI ?_ ?_ | refine wJ ?_ ?_ | refine wK ?_ ?_ | refine wL ?_ ?_) <;> intro _) | simp (maxSteps := 1000000) (disch := omega) only [go_sem, seval, *])
      refine Nx.mk (args.length - (i + 1)) (by omega) ⟨i + 1, rfl, cE1, cE1, ?mm, ⟨m + 12, false, ?ma, ?ml, ?rc, ?rr⟩, ?hh⟩
      case mm => exact Nat.le_trans hm (Nat.le_trans hn (Nat.le_add_right _ _))
      case ma => exact Nat.le_trans hm (Nat.le_add_right _ _)
      case ml => omega
      case rc =>
        simp only [upd_get, Nat.reduceEqDiff, ↓reduceIte]
        have h9 := congrArg List.length hs2
        simp only [List.length_append] at h9
        rw [h9]
      case rr => rw [hs2]; simp [upd, bC_append]
      case hh =>
        refine Kept.mk ?_
        intro j hj
        rw [upd_ne _ _ (show j ≠ m + 12 by omega), upd_ne _ _ (show j ≠ id by omega)]; exact hH4 j hj
    · obtain rfl : i = args.length := by omega
      rw [List.take_length] at e3 g3
      repeat' (first | ((with_reducible first | refine wA (by omega) ?_ | refine wB (by omega) ?_ | refine wC (by omega) ?_ | refine wD (by omega) ?_ | refine wE ?_ ?_ | refine wF ?_ ?_ | refine wG ?_ ?_ | refine wH ?_ ?_ | refine wI ?_ ?_ | refine wJ ?_ ?_ | refine wK ?_ ?_ | refine wL ?_ ?_) <;> intro _) | simp (maxSteps := 1000000) (disch := omega) only [go_sem, seval, *])
      exact fin_mut (.osl id 0 ((Plain.enc k).length + (encLs args).length) 1) (.inr rfl) cE2 ⟨Nat.le_trans hm (Nat.le_add_right _ _), ⟨id, w, g1, Nat.lt_of_lt_of_le g2 (Nat.le_add_right _ _), by first | rfl | rw [List.length_append], g3⟩, hH⟩
end
section
set_option maxRecDepth 20000
attribute [local go_sem] Nat.add_assoc id_ne id_ne' id_ne2 List.append_assoc bC_len bC_one pv_take tm_take pv_len tm_len strC strC_len take_bC
mutual
def Tm.shP : Tm → Prop
  | .mk k _ _ ls args => (k = 2 → ls.length = 1) ∧ (k ≠ 2 → k ≠ 3 → ls = []) ∧ shPs args
def shPs : List Tm → Prop
  | [] => True
  | x :: r => x.shP ∧ shPs r
end
theorem shPs_mem : ∀ (ls : List Tm) (i : Nat) (h : i < ls.length), shPs ls → ls[i].shP
  | x :: r, 0, h, hf => hf.1
  | x :: r, i + 1, h, hf => shPs_mem r i (by simpa using h) hf.2
set_option maxHeartbeats 16000000 in
theorem rTerm_m {np : Int} (hnp : np ≤ 4) : ∀ (fuel : Nat) (t : Tm), t.nodes ≤ fuel → t.packP np → t.shP → t.nodes ≤ 2 ^ 30 → ∀ (H : Nat → Option PObj) (nx : Nat),
    PMut Try.prog F.ref08_term [.agg t.pv] H nx (fun H' nx' r => nx ≤ nx' ∧ (∃ id w, nx ≤ id ∧ id < nx' ∧ r = .osl id 0 t.enc.length 1 ∧ H' id = some ⟨bC t.enc, w⟩) ∧ ∀ j, j < nx → H' j = H j) := by
  intro fuel
  induction fuel with
  | zero => intro t h; have : 0 < t.nodes := (by cases t; simp only [Tm.nodes]; omega); omega
  | succ fuel ih =>
  intro t hn hf hsh hb H nx
  cases t with
  | mk k n s ls args =>
  obtain ⟨hk, hn1, hs1, hfl, hfa⟩ := hf
  obtain ⟨hsh2, hsh0, hsha⟩ := hsh
  simp only [Tm.nodes] at hn hb
  refine mut_by is_ref08_term (by simp) fun hbn => ?_
  clear hbn
  have hba : args.length ≤ 2 ^ 30 := by have := len_nodesT args; omega
  have hbl : ls.length ≤ 2 ^ 30 := by have := len_nodesL ls; omega
  obtain ⟨k, rfl⟩ : ∃ k' : Nat, k = k' := ⟨k.toNat, by omega⟩
  repeat' (first | ((with_reducible first | refine wA (by omega) ?_ | refine wB (by omega) ?_ | refine wC (by omega) ?_ | refine wD (by omega) ?_ | refine wE ?_ ?_ | refine wF ?_ ?_ | refine wG ?_ ?_ | refine wH ?_ ?_ | refine wI ?_ ?_ | refine wJ ?_ ?_ | refine wK ?_ ?_ | refine wL ?_ ?_) <;> intro _) | simp (maxSteps := 1000000) (disch := omega) only [go_sem, seval, mc_ref08_term, Tm.pv, *])
  refine call_mut (rOne_m k (by omega) _ _) ?_
  rintro H1 m1 r1 ⟨hm0, hr0, hk0⟩ -
  obtain ⟨id, w, g1, g2, rfl, g3⟩ := BRow.osl hr0 (Plain.enc_length_pos _)
  have hm1 : nx ≤ m1 := Nat.le_trans (Nat.le_add_right _ _) hm0
  have hid : nx ≤ id := Nat.le_trans (Nat.le_add_right _ _) g1
  have hk1 : Kept (∀ j, j < nx → H1 j = H j) := fun j g1 => hk0 j (Nat.lt_of_lt_of_le g1 (Nat.le_add_right _ _))
  clear hm0 hr0 hk0 g1
  have hek := enc_len6 k (by omega)
  obtain rfl | rfl | rfl | ⟨h1, h2, h3⟩ : k = 1 ∨ k = 2 ∨ k = 3 ∨ (k ≠ 1 ∧ k ≠ 2 ∧ k ≠ 3) := by omega
  · have hn2 := hn1 rfl
    obtain rfl := hsh0 (by omega) (by omega)
    clear hsh0 hsh2 hn1
    obtain ⟨n, rfl⟩ : ∃ n' : Nat, n = n' := ⟨n.toNat, by omega⟩
    have hen := enc_len6 n (by omega)
    repeat' (first | ((with_reducible first | refine wA (by omega) ?_ | refine wB (by omega) ?_ | refine wC (by omega) ?_ | refine wD (by omega) ?_ | refine wE ?_ ?_ | refine wF ?_ ?_ | refine wG ?_ ?_ | refine wH ?_ ?_ | refine wI ?_ ?_ | refine wJ ?_ ?_ | refine wK ?_ ?_ | refine wL ?_ ?_) <;> intro _) | simp (maxSteps := 1000000) (disch := omega) only [go_sem, seval, *])
    refine call_mut (rOne_m n (by omega) _ _) ?_
    rintro H2 m2 r2 ⟨hm0, hr0, hk0⟩ -
    obtain ⟨id2, w2, k1, k2, rfl, k3⟩ := BRow.osl hr0 (Plain.enc_length_pos _)
    have hm2 : m1 ≤ m2 := Nat.le_trans (Nat.le_add_right _ _) hm0
    have hm3 : m1 + 10 ≤ m2 := hm0
    have hne : id ≠ id2 := by have : m1 ≤ id2 := Nat.le_trans (Nat.le_add_right _ _) k1; omega
    have hid2 : nx ≤ id2 := Nat.le_trans hm1 (Nat.le_trans (Nat.le_add_right _ _) k1)
    have g4 : H2 id = some ⟨bC (Plain.enc 1), w⟩ := (hk0 id (Nat.lt_of_lt_of_le g2 (Nat.le_add_right _ _))).trans g3
    have hk2 : Kept (∀ j, j < nx → H2 j = H j) := fun j hj => (hk0 j (Nat.lt_of_lt_of_le hj (Nat.le_trans hm1 (Nat.le_add_right _ _)))).trans (hk1 j hj)
    obtain ⟨T, hT1⟩ : ∃ T, Plain.enc 1 ++ Plain.enc n = T := ⟨_, rfl⟩
    have hT : (Tm.mk 1 (n : Int) s [] args).enc = T ++ encTs args := by rw [← hT1]; simp [Tm.enc, encLs]
    have hTl : (Plain.enc 1).length + (Plain.enc n).length = T.length := by rw [← hT1, List.length_append]
    have hT2 : T.length ≤ 70 := by omega
    have b1 : T.length ≤ 140737488355328 := by omega
    have b2 : T.length ≤ 4611686018427387904 := by omega
    clear hm0 hr0 hk0 hk1 g3 k1
    repeat' (first | ((with_reducible first | refine wA (by omega) ?_ | refine wB (by omega) ?_ | refine wC (by omega) ?_ | refine wD (by omega) ?_ | refine wE ?_ ?_ | refine wF ?_ ?_ | refine wG ?_ ?_ | refine wH ?_ ?_ | refine wI ?_ ?_ | refine wJ ?_ ?_ | refine wK ?_ ?_ | refine wL ?_ ?_) <;> intro _) | simp (maxSteps := 1000000) (disch := omega) only [go_sem, seval, *])
    refine c_loopW 2361111183840784678952 (by kernel_rfl) (fun j f H2 m => ∃ i : Nat, j = args.length - i ∧ i ≤ args.length ∧ f 5 = .sc (.int .i64 i) ∧ nx ≤ m ∧ (∃ id w, nx ≤ id ∧ id < m ∧ f 3 = .osl id 0 (T ++ encTs (args.take i)).length 1 ∧ H2 id = some ⟨bC (T ++ encTs (args.take i)), w⟩) ∧ Kept (∀ j, j < nx → H2 j = H j)) _ ⟨0, rfl, Nat.zero_le _, cE1, ?mm, ⟨(m1 + 8), false, ?ma, ?ml, ?rc, ?rr⟩, ?hh⟩ ?_
    case mm => exact Nat.le_trans hm1 (Nat.le_trans hm2 (Nat.le_add_right _ _))
    case ma => exact Nat.le_trans hm1 (Nat.le_add_right _ _)
    case ml => show m1 + 8 < m2 + 1; omega
    case rc =>
      first
        | (simp only [upd_get, Nat.reduceEqDiff, ↓reduceIte, List.take_zero, encTs, List.append_nil]; done)
        | (simp only [upd_get, Nat.reduceEqDiff, ↓reduceIte, List.take_zero, encTs, List.append_nil]; rw [hTl]; done)
        | (simp (disch := omega) only [upd_get, ovr_get, Nat.reduceShiftRight, Nat.reduceMod, Nat.reduceEqDiff, ↓reduceIte, List.take_zero, encTs, List.append_nil, ite_neN, ite_eqN, e3]; done)
    case rr => simp only [List.take_zero, encTs, List.append_nil]; rw [← hT1]; simp [upd, bC_append]
    case hh => refine Kept.mk ?_; intro j hj; show upd (upd H2 id none) (m1 + 8) _ j = H j; rw [upd_ne _ _ (show j ≠ m1 + 8 by omega), upd_ne _ _ (show j ≠ id by omega)]; exact hk2 j hj
    try clear hk1
    try clear hk2
    clear hm1 hid g2
    rintro _ f H5 m ⟨i, rfl, hi, e5, hm, ⟨id, w, g1, g2, e3, g3⟩, hH⟩
    by_cases hlt : i < args.length
    · have eg : args[i]? = some args[i] := List.getElem?_eq_getElem hlt
      have hnm := nodesT_take_le args (i + 1)
      have hnm2 := nodesT_take_succ args i hlt
      have a1 := encTs_len hnp (args.take (i + 1)) (packPs_take args (i + 1) hfa)
      have hs := encTs_snoc args i hlt
      rw [hs] at a1
      rw [List.length_append] at a1
      obtain ⟨L, hL⟩ : ∃ L, T ++ encTs (args.take i) = L := ⟨_, rfl⟩
      have hLl : Kept (L.length = T.length + (encTs (args.take i)).length) := by refine Kept.mk ?_; rw [← hL, List.length_append]
      have hs2 : T ++ encTs (args.take (i + 1)) = L ++ args[i].enc := by rw [hs, ← hL, List.append_assoc]
      rw [hL] at e3 g3
      repeat' (first | ((with_reducible first | refine wA (by omega) ?_ | refine wB (by omega) ?_ | refine wC (by omega) ?_ | refine wD (by omega) ?_ | refine wE ?_ ?_ | refine wF ?_ ?_ | refine wG ?_ ?_ | refine wH ?_ ?_ | refine wI ?_ ?_ | refine wJ ?_ ?_ | refine wK ?_ ?_ | refine wL ?_ ?_) <;> intro _) | simp (maxSteps := 1000000) (disch := omega) only [go_sem, seval, *])
      refine call_mut (ih args[i] (by omega) (packPs_mem args i hlt hfa) (shPs_mem args i hlt hsha) (by omega) _ _) ?_
      rintro H' m' r' ⟨hn0, ⟨id2, w2, k1, k2, rfl, k3⟩, hk2⟩ -
      have hn : m ≤ m' := Nat.le_trans (Nat.le_add_right _ _) hn0
      have hn3 : m + 14 ≤ m' := hn0
      have hne : id ≠ id2 := by have : m ≤ id2 := Nat.le_trans (Nat.le_add_right _ _) k1; omega
      have g4 : H' id = some ⟨bC L, w⟩ := (hk2 id (Nat.lt_of_lt_of_le g2 (Nat.le_add_right _ _))).trans g3
      have hH4 : Kept (∀ j, j < nx → H' j = H j) := fun j hj => (hk2 j (Nat.lt_of_lt_of_le hj (Nat.le_trans hm (Nat.le_add_right _ _)))).trans (hH j hj)
      have hLl2 : L.length = T.length + (encTs (args.take i)).length := hLl
      have b1 : L.length + args[i].enc.length ≤ 140737488355328 := by omega
      have b2 : L.length + args[i].enc.length ≤ 4611686018427387904 := by omega
      clear hn0 hk2 hH g3 a1 hLl hLl2 hL hs
      have k1' : nx ≤ id2 := Nat.le_trans hm (Nat.le_trans (Nat.le_add_right _ _) k1)
      clear k1
      repeat' (first | ((with_reducible first | refine wA (by omega) ?_ | refine wB (by omega) ?_ | refine wC (by omega) ?_ | refine wD (by omega) ?_ | refine wE ?_ ?_ | refine wF ?_ ?_ | refine wG ?_ ?_ | refine wH ?_ ?_ | refine wI ?_ ?_ | refine wJ ?_ ?_ | refine wK ?_ ?_ | refine wL ?_ ?_) <;> intro _) | simp (maxSteps := 1000000) (disch := omega) only [go_sem, seval, *])
      refine Nx.mk (args.length - (i + 1)) (by omega) ⟨i + 1, rfl, cE1, cE1, ?mm, ⟨m + 12, false, ?ma, ?ml, ?rc, ?rr⟩, ?hh⟩
      case mm => exact Nat.le_trans hm (Nat.le_trans hn (Nat.le_add_right _ _))
      case ma => exact Nat.le_trans hm (Nat.le_add_right _ _)
      case ml => omega
      case rc =>
        simp only [upd_get, Nat.reduceEqDiff, ↓reduceIte]
        have h9 := congrArg List.length hs2
        simp only [List.length_append] at h9
        rw [h9]
      case rr => rw [hs2]; simp [upd, bC_append]
      case hh =>
        refine Kept.mk ?_
        intro j hj
        rw [upd_ne _ _ (show j ≠ m + 12 by omega), upd_ne _ _ (show j ≠ id by omega)]; exact hH4 j hj
    · obtain rfl : i = args.length := by omega
      rw [List.take_length] at e3 g3
      have g5 : H5 id = some ⟨bC (T ++ encTs args), w⟩ := g3
      repeat' (first | ((with_reducible first | refine wA (by omega) ?_ | refine wB (by omega) ?_ | refine wC (by omega) ?_ | refine wD (by omega) ?_ | refine wE ?_ ?_ | refine wF ?_ ?_ | refine wG ?_ ?_ | refine wH ?_ ?_ | refine wI ?_ ?_ | refine wJ ?_ ?_ | refine wK ?_ ?_ | refine wL ?_ ?_) <;> intro _) | simp (maxSteps := 1000000) (disch := omega) only [go_sem, seval, *])
      exact fin_mut (.osl id 0 (T.length + (encTs args).length) 1) (.inr rfl) cE2 ⟨Nat.le_trans hm (Nat.le_add_right _ _), ⟨id, w, g1, Nat.lt_of_lt_of_le g2 (Nat.le_add_right _ _), by first | rfl | simp only [hT, List.length_append], by first | exact g5 | (rw [hT]; exact g5)⟩, hH⟩
  · obtain ⟨l, rfl⟩ : ∃ l, ls = [l] := List.length_eq_one_iff.1 (hsh2 rfl)
    clear hsh0 hsh2 hn1
    have hlf : l.formed np = true := by simpa [formedL] using hfl
    have hln : l.nodes ≤ 2 ^ 30 := by simp only [nodesL] at hb; omega
    have hle := l.enc_len hnp hlf
    repeat' (first | ((with_reducible first | refine wA (by omega) ?_ | refine wB (by omega) ?_ | refine wC (by omega) ?_ | refine wD (by omega) ?_ | refine wE ?_ ?_ | refine wF ?_ ?_ | refine wG ?_ ?_ | refine wH ?_ ?_ | refine wI ?_ ?_ | refine wJ ?_ ?_ | refine wK ?_ ?_ | refine wL ?_ ?_) <;> intro _) | simp (maxSteps := 1000000) (disch := omega) only [go_sem, seval, *])
    refine call_mut (rLevel_m hnp _ l (Nat.le_refl _) hlf hln _ _) ?_
    rintro H2 m2 r2 ⟨hm0, ⟨id2, w2, k1, k2, rfl, k3⟩, hk0⟩ -
    have hm2 : m1 ≤ m2 := Nat.le_trans (Nat.le_add_right _ _) hm0
    have hm3 : m1 + 14 ≤ m2 := hm0
    have hne : id ≠ id2 := by have : m1 ≤ id2 := Nat.le_trans (Nat.le_add_right _ _) k1; omega
    have hid2 : nx ≤ id2 := Nat.le_trans hm1 (Nat.le_trans (Nat.le_add_right _ _) k1)
    have g4 : H2 id = some ⟨bC (Plain.enc 2), w⟩ := (hk0 id (Nat.lt_of_lt_of_le g2 (Nat.le_add_right _ _))).trans g3
    have hk2 : Kept (∀ j, j < nx → H2 j = H j) := fun j hj => (hk0 j (Nat.lt_of_lt_of_le hj (Nat.le_trans hm1 (Nat.le_add_right _ _)))).trans (hk1 j hj)
    obtain ⟨T, hT1⟩ : ∃ T, Plain.enc 2 ++ l.enc = T := ⟨_, rfl⟩
    have hT : (Tm.mk 2 n s [l] args).enc = T ++ encTs args := by rw [← hT1]; simp [Tm.enc, encLs]
    have hTl : (Plain.enc 2).length + l.enc.length = T.length := by rw [← hT1, List.length_append]
    have hT2 : T.length ≤ 2 ^ 40 := by omega
    have b1 : T.length ≤ 140737488355328 := by omega
    have b2 : T.length ≤ 4611686018427387904 := by omega
    clear hm0 hk0 hk1 g3 k1
    repeat' (first | ((with_reducible first | refine wA (by omega) ?_ | refine wB (by omega) ?_ | refine wC (by omega) ?_ | refine wD (by omega) ?_ | refine wE ?_ ?_ | refine wF ?_ ?_ | refine wG ?_ ?_ | refine wH ?_ ?_ | refine wI ?_ ?_ | refine wJ ?_ ?_ | refine wK ?_ ?_ | refine wL ?_ ?_) <;> intro _) | simp (maxSteps := 1000000) (disch := omega) only [go_sem, seval, *])
    refine c_loopW 2361111183840784678952 (by kernel_rfl) (fun j f H2 m => ∃ i : Nat, j = args.length - i ∧ i ≤ args.length ∧ f 5 = .sc (.int .i64 i) ∧ nx ≤ m ∧ (∃ id w, nx ≤ id ∧ id < m ∧ f 3 = .osl id 0 (T ++ encTs (args.take i)).length 1 ∧ H2 id = some ⟨bC (T ++ encTs (args.take i)), w⟩) ∧ Kept (∀ j, j < nx → H2 j = H j)) _ ⟨0, rfl, Nat.zero_le _, cE1, ?mm, ⟨(m1 + 12), false, ?ma, ?ml, ?rc, ?rr⟩, ?hh⟩ ?_
    case mm => exact Nat.le_trans hm1 (Nat.le_trans hm2 (Nat.le_add_right _ _))
    case ma => exact Nat.le_trans hm1 (Nat.le_add_right _ _)
    case ml => show m1 + 12 < m2 + 1; omega
    case rc =>
      first
        | (simp only [upd_get, Nat.reduceEqDiff, ↓reduceIte, List.take_zero, encTs, List.append_nil]; done)
        | (simp only [upd_get, Nat.reduceEqDiff, ↓reduceIte, List.take_zero, encTs, List.append_nil]; rw [hTl]; done)
        | (simp (disch := omega) only [upd_get, ovr_get, Nat.reduceShiftRight, Nat.reduceMod, Nat.reduceEqDiff, ↓reduceIte, List.take_zero, encTs, List.append_nil, ite_neN, ite_eqN, e3]; done)
    case rr => simp only [List.take_zero, encTs, List.append_nil]; rw [← hT1]; simp [upd, bC_append]
    case hh => refine Kept.mk ?_; intro j hj; show upd (upd H2 id none) (m1 + 12) _ j = H j; rw [upd_ne _ _ (show j ≠ m1 + 12 by omega), upd_ne _ _ (show j ≠ id by omega)]; exact hk2 j hj
    try clear hk1
    try clear hk2
    clear hm1 hid g2
    rintro _ f H5 m ⟨i, rfl, hi, e5, hm, ⟨id, w, g1, g2, e3, g3⟩, hH⟩
    by_cases hlt : i < args.length
    · have eg : args[i]? = some args[i] := List.getElem?_eq_getElem hlt
      have hnm := nodesT_take_le args (i + 1)
      have hnm2 := nodesT_take_succ args i hlt
      have a1 := encTs_len hnp (args.take (i + 1)) (packPs_take args (i + 1) hfa)
      have hs := encTs_snoc args i hlt
      rw [hs] at a1
      rw [List.length_append] at a1
      obtain ⟨L, hL⟩ : ∃ L, T ++ encTs (args.take i) = L := ⟨_, rfl⟩
      have hLl : Kept (L.length = T.length + (encTs (args.take i)).length) := by refine Kept.mk ?_; rw [← hL, List.length_append]
      have hs2 : T ++ encTs (args.take (i + 1)) = L ++ args[i].enc := by rw [hs, ← hL, List.append_assoc]
      rw [hL] at e3 g3
      repeat' (first | ((with_reducible first | refine wA (by omega) ?_ | refine wB (by omega) ?_ | refine wC (by omega) ?_ | refine wD (by omega) ?_ | refine wE ?_ ?_ | refine wF ?_ ?_ | refine wG ?_ ?_ | refine wH ?_ ?_ | refine wI ?_ ?_ | refine wJ ?_ ?_ | refine wK ?_ ?_ | refine wL ?_ ?_) <;> intro _) | simp (maxSteps := 1000000) (disch := omega) only [go_sem, seval, *])
      refine call_mut (ih args[i] (by omega) (packPs_mem args i hlt hfa) (shPs_mem args i hlt hsha) (by omega) _ _) ?_
      rintro H' m' r' ⟨hn0, ⟨id2, w2, k1, k2, rfl, k3⟩, hk2⟩ -
      have hn : m ≤ m' := Nat.le_trans (Nat.le_add_right _ _) hn0
      have hn3 : m + 14 ≤ m' := hn0
      have hne : id ≠ id2 := by have : m ≤ id2 := Nat.le_trans (Nat.le_add_right _ _) k1; omega
      have g4 : H' id = some ⟨bC L, w⟩ := (hk2 id (Nat.lt_of_lt_of_le g2 (Nat.le_add_right _ _))).trans g3
      have hH4 : Kept (∀ j, j < nx → H' j = H j) := fun j hj => (hk2 j (Nat.lt_of_lt_of_le hj (Nat.le_trans hm (Nat.le_add_right _ _)))).trans (hH j hj)
      have hLl2 : L.length = T.length + (encTs (args.take i)).length := hLl
      have b1 : L.length + args[i].enc.length ≤ 140737488355328 := by omega
      have b2 : L.length + args[i].enc.length ≤ 4611686018427387904 := by omega
      clear hn0 hk2 hH g3 a1 hLl hLl2 hL hs
      have k1' : nx ≤ id2 := Nat.le_trans hm (Nat.le_trans (Nat.le_add_right _ _) k1)
      clear k1
      repeat' (first | ((with_reducible first | refine wA (by omega) ?_ | refine wB (by omega) ?_ | refine wC (by omega) ?_ | refine wD (by omega) ?_ | refine wE ?_ ?_ | refine wF ?_ ?_ | refine wG ?_ ?_ | refine wH ?_ ?_ | refine wI ?_ ?_ | refine wJ ?_ ?_ | refine wK ?_ ?_ | refine wL ?_ ?_) <;> intro _) | simp (maxSteps := 1000000) (disch := omega) only [go_sem, seval, *])
      refine Nx.mk (args.length - (i + 1)) (by omega) ⟨i + 1, rfl, cE1, cE1, ?mm, ⟨m + 12, false, ?ma, ?ml, ?rc, ?rr⟩, ?hh⟩
      case mm => exact Nat.le_trans hm (Nat.le_trans hn (Nat.le_add_right _ _))
      case ma => exact Nat.le_trans hm (Nat.le_add_right _ _)
      case ml => omega
      case rc =>
        simp only [upd_get, Nat.reduceEqDiff, ↓reduceIte]
        have h9 := congrArg List.length hs2
        simp only [List.length_append] at h9
        rw [h9]
      case rr => rw [hs2]; simp [upd, bC_append]
      case hh =>
        refine Kept.mk ?_
        intro j hj
        rw [upd_ne _ _ (show j ≠ m + 12 by omega), upd_ne _ _ (show j ≠ id by omega)]; exact hH4 j hj
    · obtain rfl : i = args.length := by omega
      rw [List.take_length] at e3 g3
      have g5 : H5 id = some ⟨bC (T ++ encTs args), w⟩ := g3
      repeat' (first | ((with_reducible first | refine wA (by omega) ?_ | refine wB (by omega) ?_ | refine wC (by omega) ?_ | refine wD (by omega) ?_ | refine wE ?_ ?_ | refine wF ?_ ?_ | refine wG ?_ ?_ | refine wH ?_ ?_ | refine wI ?_ ?_ | refine wJ ?_ ?_ | refine wK ?_ ?_ | refine wL ?_ ?_) <;> intro _) | simp (maxSteps := 1000000) (disch := omega) only [go_sem, seval, *])
      exact fin_mut (.osl id 0 (T.length + (encTs args).length) 1) (.inr rfl) cE2 ⟨Nat.le_trans hm (Nat.le_add_right _ _), ⟨id, w, g1, Nat.lt_of_lt_of_le g2 (Nat.le_add_right _ _), by first | rfl | simp only [hT, List.length_append], by first | exact g5 | (rw [hT]; exact g5)⟩, hH⟩
  · have hs2 := hs1 rfl
    clear hsh0 hsh2 hn1
    have hel := enc_len6 ls.length (by omega)
    have het : (encT [s]).length ≤ 46 := by
      have := enc_len6 s.size (by omega)
      rw [encT_one]; simp only [List.length_append, strC_len]; omega
    repeat' (first | ((with_reducible first | refine wA (by omega) ?_ | refine wB (by omega) ?_ | refine wC (by omega) ?_ | refine wD (by omega) ?_ | refine wE ?_ ?_ | refine wF ?_ ?_ | refine wG ?_ ?_ | refine wH ?_ ?_ | refine wI ?_ ?_ | refine wJ ?_ ?_ | refine wK ?_ ?_ | refine wL ?_ ?_) <;> intro _) | simp (maxSteps := 1000000) (disch := omega) only [go_sem, seval, *])
    refine call_mut (rTexts_m [s] (by simp) (by omega) _ _) ?_
    rintro H2 m2 r2 ⟨hm0, ⟨id2, w2, k1, k2, rfl, k3⟩, hk0⟩ -
    have hm2 : m1 ≤ m2 := Nat.le_trans (Nat.le_add_right _ _) hm0
    have hm3 : m1 + 15 ≤ m2 := hm0
    have hne : id ≠ id2 := by have : m1 ≤ id2 := Nat.le_trans (Nat.le_add_right _ _) k1; omega
    have hid2 : nx ≤ id2 := Nat.le_trans hm1 (Nat.le_trans (Nat.le_add_right _ _) k1)
    have g4 : H2 id = some ⟨bC (Plain.enc 3), w⟩ := (hk0 id (Nat.lt_of_lt_of_le g2 (Nat.le_add_right _ _))).trans g3
    have hk2 : Kept (∀ j, j < nx → H2 j = H j) := fun j hj => (hk0 j (Nat.lt_of_lt_of_le hj (Nat.le_trans hm1 (Nat.le_add_right _ _)))).trans (hk1 j hj)
    have b1 : (Plain.enc 3).length + (encT [s]).length ≤ 140737488355328 := by omega
    have b2 : (Plain.enc 3).length + (encT [s]).length ≤ 4611686018427387904 := by omega
    clear hm0 hk0 hk1 g3 k1
    repeat' (first | ((with_reducible first | refine wA (by omega) ?_ | refine wB (by omega) ?_ | refine wC (by omega) ?_ | refine wD (by omega) ?_ | refine wE ?_ ?_ | refine wF ?_ ?_ | refine wG ?_ ?_ | refine wH ?_ ?_ | refine wI ?_ ?_ | refine wJ ?_ ?_ | refine wK ?_ ?_ | refine wL ?_ ?_) <;> intro _) | simp (maxSteps := 1000000) (disch := omega) only [go_sem, seval, *])
    refine call_mut (rOne_m ls.length (by omega) _ _) ?_
    rintro H4 m4 r4 ⟨hm0, hr0, hk0⟩ -
    obtain ⟨id4, w4, k41, k42, rfl, k43⟩ := BRow.osl hr0 (Plain.enc_length_pos _)
    have hm4 : m2 + 7 ≤ m4 := hm0
    have k44 : m2 + 7 ≤ id4 := k41
    have hne4 : m1 + 13 ≠ id4 := by omega
    have g44 : H4 (m1 + 13) = some ⟨bC (Plain.enc 3) ++ bC (encT [s]), false⟩ := (hk0 (m1 + 13) (show m1 + 13 < m2 + 7 by omega)).trans (by simp [upd])
    have hk4 : Kept (∀ j, j < nx → H4 j = H j) := fun j hj => by
      rw [hk0 j (show j < m2 + 7 by omega)]
      show upd (upd H2 id none) (m1 + 13) _ j = H j
      rw [upd_ne _ _ (show j ≠ m1 + 13 by omega), upd_ne _ _ (show j ≠ id by omega)]; exact hk2 j hj
    have b3 : (Plain.enc 3).length + ((encT [s]).length + (Plain.enc ls.length).length) ≤ 140737488355328 := by omega
    have b4 : (Plain.enc 3).length + ((encT [s]).length + (Plain.enc ls.length).length) ≤ 4611686018427387904 := by omega
    obtain ⟨T0, hT0⟩ : ∃ T0, Plain.enc 3 ++ (encT [s] ++ Plain.enc ls.length) = T0 := ⟨_, rfl⟩
    have hT0l : Kept ((Plain.enc 3).length + ((encT [s]).length + (Plain.enc ls.length).length) = T0.length) := by refine Kept.mk ?_; rw [← hT0, List.length_append, List.length_append]
    have hT02 : T0.length ≤ 70 := by have : (Plain.enc 3).length + ((encT [s]).length + (Plain.enc ls.length).length) = T0.length := hT0l; omega
    clear hm0 hr0 hk0 hk2 g4 k3 k41 hid g2
    repeat' (first | ((with_reducible first | refine wA (by omega) ?_ | refine wB (by omega) ?_ | refine wC (by omega) ?_ | refine wD (by omega) ?_ | refine wE ?_ ?_ | refine wF ?_ ?_ | refine wG ?_ ?_ | refine wH ?_ ?_ | refine wI ?_ ?_ | refine wJ ?_ ?_ | refine wK ?_ ?_ | refine wL ?_ ?_) <;> intro _) | simp (maxSteps := 1000000) (disch := omega) only [go_sem, seval, *])
    refine c_loopW 72055395014672408 (by kernel_rfl) (fun j f H2 m => ∃ i : Nat, j = ls.length - i ∧ i ≤ ls.length ∧ f 4 = .sc (.int .i64 i) ∧ nx ≤ m ∧ (∃ id w, nx ≤ id ∧ id < m ∧ f 3 = .osl id 0 (T0 ++ encLs (ls.take i)).length 1 ∧ H2 id = some ⟨bC (T0 ++ encLs (ls.take i)), w⟩) ∧ Kept (∀ j, j < nx → H2 j = H j)) _ ⟨0, rfl, Nat.zero_le _, cE1, ?mm, ⟨m2 + 5, false, ?ma, ?ml, ?rc, ?rr⟩, ?hh⟩ ?_
    case mm => show nx ≤ m4 + 1; omega
    case ma => omega
    case ml => show m2 + 5 < m4 + 1; omega
    case rc => simp only [upd_get, Nat.reduceEqDiff, ↓reduceIte, List.take_zero, encLs, List.append_nil]; rw [show (Plain.enc 3).length + ((encT [s]).length + (Plain.enc ls.length).length) = T0.length from hT0l]
    case rr => simp only [List.take_zero, encLs, List.append_nil]; rw [← hT0]; simp [upd, bC_append]
    case hh =>
      refine Kept.mk ?_; intro j hj
      show upd (upd H4 (m1 + 13) none) (m2 + 5) _ j = H j
      rw [upd_ne _ _ (show j ≠ m2 + 5 by omega), upd_ne _ _ (show j ≠ m1 + 13 by omega)]; exact hk4 j hj
    have hT : (Tm.mk 3 n s ls args).enc = (T0 ++ encLs ls) ++ encTs args := by rw [← hT0]; simp [Tm.enc]
    clear hm1 hm2 hm3 hm4 hk4 hid2 k44 hne4 g44 k43 k42 hne k2 b1 b2 b3 b4 hT0l hT0
    rintro _ f H5 m ⟨i, rfl, hi, e4, hm, ⟨id, w, g1, g2, e3, g3⟩, hH⟩
    have hle := encLs_len hnp ls hfl
    by_cases hlt : i < ls.length
    · have eg : ls[i]? = some ls[i] := List.getElem?_eq_getElem hlt
      have hnm := nodesL_mem ls i hlt
      have a1 := encLs_len hnp (ls.take (i + 1)) (formedL_all np ls (i + 1) hfl)
      have a3 := nodesL_take_le ls (i + 1)
      have hs := encLs_snoc ls i hlt
      rw [hs] at a1
      rw [List.length_append] at a1
      obtain ⟨L, hL⟩ : ∃ L, T0 ++ encLs (ls.take i) = L := ⟨_, rfl⟩
      have hLl : Kept (L.length = T0.length + (encLs (ls.take i)).length) := by refine Kept.mk ?_; rw [← hL, List.length_append]
      have hs2 : T0 ++ encLs (ls.take (i + 1)) = L ++ ls[i].enc := by rw [hs, ← hL, List.append_assoc]
      rw [hL] at e3 g3
      repeat' (first | ((with_reducible first | refine wA (by omega) ?_ | refine wB (by omega) ?_ | refine wC (by omega) ?_ | refine wD (by omega) ?_ | refine wE ?_ ?_ | refine wF ?_ ?_ | refine wG ?_ ?_ | refine wH ?_ ?_ | refine wI ?_ ?_ | refine wJ ?_ ?_ | refine wK ?_ ?_ | refine wL ?_ ?_) <;> intro _) | simp (maxSteps := 1000000) (disch := omega) only [go_sem, seval, *])
      refine call_mut (rLevel_m hnp _ ls[i] (Nat.le_refl _) (formedL_mem ls i hlt hfl) (by omega) _ _) ?_
      rintro H' m' r' ⟨hn0, ⟨id2, w2, k1, k2, rfl, k3⟩, hk2⟩ -
      have hn : m ≤ m' := Nat.le_trans (Nat.le_add_right _ _) hn0
      have hn3 : m + 14 ≤ m' := hn0
      have hne : id ≠ id2 := by have : m ≤ id2 := Nat.le_trans (Nat.le_add_right _ _) k1; omega
      have g4 : H' id = some ⟨bC L, w⟩ := (hk2 id (Nat.lt_of_lt_of_le g2 (Nat.le_add_right _ _))).trans g3
      have hH4 : Kept (∀ j, j < nx → H' j = H j) := fun j hj => (hk2 j (Nat.lt_of_lt_of_le hj (Nat.le_trans hm (Nat.le_add_right _ _)))).trans (hH j hj)
      have hLl2 : L.length = T0.length + (encLs (ls.take i)).length := hLl
      have b1 : L.length + ls[i].enc.length ≤ 140737488355328 := by omega
      have b2 : L.length + ls[i].enc.length ≤ 4611686018427387904 := by omega
      clear hn0 hk2 hH g3 a1 a3 hLl hLl2 hL hs
      have k1' : nx ≤ id2 := Nat.le_trans hm (Nat.le_trans (Nat.le_add_right _ _) k1)
      clear k1
      repeat' (first | ((with_reducible first | refine wA (by omega) ?_ | refine wB (by omega) ?_ | refine wC (by omega) ?_ | refine wD (by omega) ?_ | refine wE ?_ ?_ | refine wF ?_ ?_ | refine wG ?_ ?_ | refine wH ?_ ?_ | refine wI ?_ ?_ | refine wJ ?_ ?_ | refine wK ?_ ?_ | refine wL ?_ ?_) <;> intro _) | simp (maxSteps := 1000000) (disch := omega) only [go_sem, seval, *])
      refine Nx.mk (ls.length - (i + 1)) (by omega) ⟨i + 1, rfl, cE1, cE1, ?mm, ⟨m + 12, false, ?ma, ?ml, ?rc, ?rr⟩, ?hh⟩
      case mm => exact Nat.le_trans hm (Nat.le_trans hn (Nat.le_add_right _ _))
      case ma => exact Nat.le_trans hm (Nat.le_add_right _ _)
      case ml => omega
      case rc =>
        simp only [upd_get, Nat.reduceEqDiff, ↓reduceIte]
        have h9 := congrArg List.length hs2
        simp only [List.length_append] at h9
        rw [h9]
      case rr => rw [hs2]; simp [upd, bC_append]
      case hh =>
        refine Kept.mk ?_
        intro j hj
        rw [upd_ne _ _ (show j ≠ m + 12 by omega), upd_ne _ _ (show j ≠ id by omega)]; exact hH4 j hj
    obtain rfl : i = ls.length := by omega
    rw [List.take_length] at e3 g3
    obtain ⟨T, hT1⟩ : ∃ T, T0 ++ encLs ls = T := ⟨_, rfl⟩
    have hTq : T.length = T0.length + (encLs ls).length := by rw [← hT1, List.length_append]
    have hT2 : T.length ≤ 2 ^ 40 := by omega
    have hTl : T.length = T.length := rfl
    rw [hT1] at e3 g3 hT
    have hk1 := hH
    have hm1 := hm
    have hid := g1
    clear hm g1 hTq hle hT02 hT1 hH hi
    repeat' (first | ((with_reducible first | refine wA (by omega) ?_ | refine wB (by omega) ?_ | refine wC (by omega) ?_ | refine wD (by omega) ?_ | refine wE ?_ ?_ | refine wF ?_ ?_ | refine wG ?_ ?_ | refine wH ?_ ?_ | refine wI ?_ ?_ | refine wJ ?_ ?_ | refine wK ?_ ?_ | refine wL ?_ ?_) <;> intro _) | simp (maxSteps := 1000000) (disch := omega) only [go_sem, seval, *])
    refine c_loopW 2361111183840784678952 (by kernel_rfl) (fun j f H2 m => ∃ i : Nat, j = args.length - i ∧ i ≤ args.length ∧ f 5 = .sc (.int .i64 i) ∧ nx ≤ m ∧ (∃ id w, nx ≤ id ∧ id < m ∧ f 3 = .osl id 0 (T ++ encTs (args.take i)).length 1 ∧ H2 id = some ⟨bC (T ++ encTs (args.take i)), w⟩) ∧ Kept (∀ j, j < nx → H2 j = H j)) _ ⟨0, rfl, Nat.zero_le _, cE1, ?mm, ⟨id, w, ?ma, ?ml, ?rc, ?rr⟩, ?hh⟩ ?_
    case mm => exact Nat.le_trans hm1 (Nat.le_add_right _ _)
    case ma => exact hid
    case ml => exact Nat.lt_of_lt_of_le g2 (Nat.le_add_right _ _)
    case rc =>
      first
        | (simp only [upd_get, Nat.reduceEqDiff, ↓reduceIte, List.take_zero, encTs, List.append_nil]; done)
        | (simp only [upd_get, Nat.reduceEqDiff, ↓reduceIte, List.take_zero, encTs, List.append_nil]; rw [hTl]; done)
        | (simp (disch := omega) only [upd_get, ovr_get, Nat.reduceShiftRight, Nat.reduceMod, Nat.reduceEqDiff, ↓reduceIte, List.take_zero, encTs, List.append_nil, ite_neN, ite_eqN, e3]; done)
    case rr => simp only [List.take_zero, encTs, List.append_nil]; exact g3
    case hh => refine Kept.mk ?_; intro j hj; exact hk1 j hj
    try clear hk1
    try clear hk2
    clear hm1 hid g2
    rintro _ f H5 m ⟨i, rfl, hi, e5, hm, ⟨id, w, g1, g2, e3, g3⟩, hH⟩
    by_cases hlt : i < args.length
    · have eg : args[i]? = some args[i] := List.getElem?_eq_getElem hlt
      have hnm := nodesT_take_le args (i + 1)
      have hnm2 := nodesT_take_succ args i hlt
      have a1 := encTs_len hnp (args.take (i + 1)) (packPs_take args (i + 1) hfa)
      have hs := encTs_snoc args i hlt
      rw [hs] at a1
      rw [List.length_append] at a1
      obtain ⟨L, hL⟩ : ∃ L, T ++ encTs (args.take i) = L := ⟨_, rfl⟩
      have hLl : Kept (L.length = T.length + (encTs (args.take i)).length) := by refine Kept.mk ?_; rw [← hL, List.length_append]
      have hs2 : T ++ encTs (args.take (i + 1)) = L ++ args[i].enc := by rw [hs, ← hL, List.append_assoc]
      rw [hL] at e3 g3
      repeat' (first | ((with_reducible first | refine wA (by omega) ?_ | refine wB (by omega) ?_ | refine wC (by omega) ?_ | refine wD (by omega) ?_ | refine wE ?_ ?_ | refine wF ?_ ?_ | refine wG ?_ ?_ | refine wH ?_ ?_ | refine wI ?_ ?_ | refine wJ ?_ ?_ | refine wK ?_ ?_ | refine wL ?_ ?_) <;> intro _) | simp (maxSteps := 1000000) (disch := omega) only [go_sem, seval, *])
      refine call_mut (ih args[i] (by omega) (packPs_mem args i hlt hfa) (shPs_mem args i hlt hsha) (by omega) _ _) ?_
      rintro H' m' r' ⟨hn0, ⟨id2, w2, k1, k2, rfl, k3⟩, hk2⟩ -
      have hn : m ≤ m' := Nat.le_trans (Nat.le_add_right _ _) hn0
      have hn3 : m + 14 ≤ m' := hn0
      have hne : id ≠ id2 := by have : m ≤ id2 := Nat.le_trans (Nat.le_add_right _ _) k1; omega
      have g4 : H' id = some ⟨bC L, w⟩ := (hk2 id (Nat.lt_of_lt_of_le g2 (Nat.le_add_right _ _))).trans g3
      have hH4 : Kept (∀ j, j < nx → H' j = H j) := fun j hj => (hk2 j (Nat.lt_of_lt_of_le hj (Nat.le_trans hm (Nat.le_add_right _ _)))).trans (hH j hj)
      have hLl2 : L.length = T.length + (encTs (args.take i)).length := hLl
      have b1 : L.length + args[i].enc.length ≤ 140737488355328 := by omega
      have b2 : L.length + args[i].enc.length ≤ 4611686018427387904 := by omega
      clear hn0 hk2 hH g3 a1 hLl hLl2 hL hs
      have k1' : nx ≤ id2 := Nat.le_trans hm (Nat.le_trans (Nat.le_add_right _ _) k1)
      clear k1
      repeat' (first | ((with_reducible first | refine wA (by omega) ?_ | refine wB (by omega) ?_ | refine wC (by omega) ?_ | refine wD (by omega) ?_ | refine wE ?_ ?_ | refine wF ?_ ?_ | refine wG ?_ ?_ | refine wH ?_ ?_ | refine wI ?_ ?_ | refine wJ ?_ ?_ | refine wK ?_ ?_ | refine wL ?_ ?_) <;> intro _) | simp (maxSteps := 1000000) (disch := omega) only [go_sem, seval, *])
      refine Nx.mk (args.length - (i + 1)) (by omega) ⟨i + 1, rfl, cE1, cE1, ?mm, ⟨m + 12, false, ?ma, ?ml, ?rc, ?rr⟩, ?hh⟩
      case mm => exact Nat.le_trans hm (Nat.le_trans hn (Nat.le_add_right _ _))
      case ma => exact Nat.le_trans hm (Nat.le_add_right _ _)
      case ml => omega
      case rc =>
        simp only [upd_get, Nat.reduceEqDiff, ↓reduceIte]
        have h9 := congrArg List.length hs2
        simp only [List.length_append] at h9
        rw [h9]
      case rr => rw [hs2]; simp [upd, bC_append]
      case hh =>
        refine Kept.mk ?_
        intro j hj
        rw [upd_ne _ _ (show j ≠ m + 12 by omega), upd_ne _ _ (show j ≠ id by omega)]; exact hH4 j hj
    · obtain rfl : i = args.length := by omega
      rw [List.take_length] at e3 g3
      have g5 : H5 id = some ⟨bC (T ++ encTs args), w⟩ := g3
      repeat' (first | ((with_reducible first | refine wA (by omega) ?_ | refine wB (by omega) ?_ | refine wC (by omega) ?_ | refine wD (by omega) ?_ | refine wE ?_ ?_ | refine wF ?_ ?_ | refine wG ?_ ?_ | refine wH ?_ ?_ | refine wI ?_ ?_ | refine wJ ?_ ?_ | refine wK ?_ ?_ | refine wL ?_ ?_) <;> intro _) | simp (maxSteps := 1000000) (disch := omega) only [go_sem, seval, *])
      exact fin_mut (.osl id 0 (T.length + (encTs args).length) 1) (.inr rfl) cE2 ⟨Nat.le_trans hm (Nat.le_add_right _ _), ⟨id, w, g1, Nat.lt_of_lt_of_le g2 (Nat.le_add_right _ _), by first | rfl | simp only [hT, List.length_append], by first | exact g5 | (rw [hT]; exact g5)⟩, hH⟩
  · obtain rfl := hsh0 (by omega) (by omega)
    clear hsh0 hsh2
    obtain ⟨T, hT1⟩ : ∃ T, Plain.enc k = T := ⟨_, rfl⟩
    have hT : (Tm.mk (k : Int) n s [] args).enc = T ++ encTs args := by
      rw [← hT1]; simp only [Tm.enc, Int.toNat_natCast, encLs]; rw [if_neg (by omega), if_neg (by omega), List.nil_append, List.nil_append]
    rw [hT1] at hek g3
    have hTl : (Plain.enc k).length = T.length := by rw [hT1]
    have hT2 : T.length ≤ 70 := by omega
    repeat' (first | ((with_reducible first | refine wA (by omega) ?_ | refine wB (by omega) ?_ | refine wC (by omega) ?_ | refine wD (by omega) ?_ | refine wE ?_ ?_ | refine wF ?_ ?_ | refine wG ?_ ?_ | refine wH ?_ ?_ | refine wI ?_ ?_ | refine wJ ?_ ?_ | refine wK ?_ ?_ | refine wL ?_ ?_) <;> intro _) | simp (maxSteps := 1000000) (disch := omega) only [go_sem, seval, *])
    refine c_loopW 2361111183840784678952 (by kernel_rfl) (fun j f H2 m => ∃ i : Nat, j = args.length - i ∧ i ≤ args.length ∧ f 5 = .sc (.int .i64 i) ∧ nx ≤ m ∧ (∃ id w, nx ≤ id ∧ id < m ∧ f 3 = .osl id 0 (T ++ encTs (args.take i)).length 1 ∧ H2 id = some ⟨bC (T ++ encTs (args.take i)), w⟩) ∧ Kept (∀ j, j < nx → H2 j = H j)) _ ⟨0, rfl, Nat.zero_le _, cE1, ?mm, ⟨id, w, ?ma, ?ml, ?rc, ?rr⟩, ?hh⟩ ?_
    case mm => exact Nat.le_trans hm1 (Nat.le_add_right _ _)
    case ma => exact hid
    case ml => exact Nat.lt_of_lt_of_le g2 (Nat.le_add_right _ _)
    case rc =>
      first
        | (simp only [upd_get, Nat.reduceEqDiff, ↓reduceIte, List.take_zero, encTs, List.append_nil]; done)
        | (simp only [upd_get, Nat.reduceEqDiff, ↓reduceIte, List.take_zero, encTs, List.append_nil]; rw [hTl]; done)
        | (simp (disch := omega) only [upd_get, ovr_get, Nat.reduceShiftRight, Nat.reduceMod, Nat.reduceEqDiff, ↓reduceIte, List.take_zero, encTs, List.append_nil, ite_neN, ite_eqN, e3]; done)
    case rr => simp only [List.take_zero, encTs, List.append_nil]; exact g3
    case hh => refine Kept.mk ?_; intro j hj; exact hk1 j hj
    try clear hk1
    try clear hk2
    clear hm1 hid g2
    rintro _ f H5 m ⟨i, rfl, hi, e5, hm, ⟨id, w, g1, g2, e3, g3⟩, hH⟩
    by_cases hlt : i < args.length
    · have eg : args[i]? = some args[i] := List.getElem?_eq_getElem hlt
      have hnm := nodesT_take_le args (i + 1)
      have hnm2 := nodesT_take_succ args i hlt
      have a1 := encTs_len hnp (args.take (i + 1)) (packPs_take args (i + 1) hfa)
      have hs := encTs_snoc args i hlt
      rw [hs] at a1
      rw [List.length_append] at a1
      obtain ⟨L, hL⟩ : ∃ L, T ++ encTs (args.take i) = L := ⟨_, rfl⟩
      have hLl : Kept (L.length = T.length + (encTs (args.take i)).length) := by refine Kept.mk ?_; rw [← hL, List.length_append]
      have hs2 : T ++ encTs (args.take (i + 1)) = L ++ args[i].enc := by rw [hs, ← hL, List.append_assoc]
      rw [hL] at e3 g3
      repeat' (first | ((with_reducible first | refine wA (by omega) ?_ | refine wB (by omega) ?_ | refine wC (by omega) ?_ | refine wD (by omega) ?_ | refine wE ?_ ?_ | refine wF ?_ ?_ | refine wG ?_ ?_ | refine wH ?_ ?_ | refine wI ?_ ?_ | refine wJ ?_ ?_ | refine wK ?_ ?_ | refine wL ?_ ?_) <;> intro _) | simp (maxSteps := 1000000) (disch := omega) only [go_sem, seval, *])
      refine call_mut (ih args[i] (by omega) (packPs_mem args i hlt hfa) (shPs_mem args i hlt hsha) (by omega) _ _) ?_
      rintro H' m' r' ⟨hn0, ⟨id2, w2, k1, k2, rfl, k3⟩, hk2⟩ -
      have hn : m ≤ m' := Nat.le_trans (Nat.le_add_right _ _) hn0
      have hn3 : m + 14 ≤ m' := hn0
      have hne : id ≠ id2 := by have : m ≤ id2 := Nat.le_trans (Nat.le_add_right _ _) k1; omega
      have g4 : H' id = some ⟨bC L, w⟩ := (hk2 id (Nat.lt_of_lt_of_le g2 (Nat.le_add_right _ _))).trans g3
      have hH4 : Kept (∀ j, j < nx → H' j = H j) := fun j hj => (hk2 j (Nat.lt_of_lt_of_le hj (Nat.le_trans hm (Nat.le_add_right _ _)))).trans (hH j hj)
      have hLl2 : L.length = T.length + (encTs (args.take i)).length := hLl
      have b1 : L.length + args[i].enc.length ≤ 140737488355328 := by omega
      have b2 : L.length + args[i].enc.length ≤ 4611686018427387904 := by omega
      clear hn0 hk2 hH g3 a1 hLl hLl2 hL hs
      have k1' : nx ≤ id2 := Nat.le_trans hm (Nat.le_trans (Nat.le_add_right _ _) k1)
      clear k1
      repeat' (first | ((with_reducible first | refine wA (by omega) ?_ | refine wB (by omega) ?_ | refine wC (by omega) ?_ | refine wD (by omega) ?_ | refine wE ?_ ?_ | refine wF ?_ ?_ | refine wG ?_ ?_ | refine wH ?_ ?_ | refine wI ?_ ?_ | refine wJ ?_ ?_ | refine wK ?_ ?_ | refine wL ?_ ?_) <;> intro _) | simp (maxSteps := 1000000) (disch := omega) only [go_sem, seval, *])
      refine Nx.mk (args.length - (i + 1)) (by omega) ⟨i + 1, rfl, cE1, cE1, ?mm, ⟨m + 12, false, ?ma, ?ml, ?rc, ?rr⟩, ?hh⟩
      case mm => exact Nat.le_trans hm (Nat.le_trans hn (Nat.le_add_right _ _))
      case ma => exact Nat.le_trans hm (Nat.le_add_right _ _)
      case ml => omega
      case rc =>
        simp only [upd_get, Nat.reduceEqDiff, ↓reduceIte]
        have h9 := congrArg List.length hs2
        simp only [List.length_append] at h9
        rw [h9]
      case rr => rw [hs2]; simp [upd, bC_append]
      case hh =>
        refine Kept.mk ?_
        intro j hj
        rw [upd_ne _ _ (show j ≠ m + 12 by omega), upd_ne _ _ (show j ≠ id by omega)]; exact hH4 j hj
    · obtain rfl : i = args.length := by omega
      rw [List.take_length] at e3 g3
      have g5 : H5 id = some ⟨bC (T ++ encTs args), w⟩ := g3
      repeat' (first | ((with_reducible first | refine wA (by omega) ?_ | refine wB (by omega) ?_ | refine wC (by omega) ?_ | refine wD (by omega) ?_ | refine wE ?_ ?_ | refine wF ?_ ?_ | refine wG ?_ ?_ | refine wH ?_ ?_ | refine wI ?_ ?_ | refine wJ ?_ ?_ | refine wK ?_ ?_ | refine wL ?_ ?_) <;> intro _) | simp (maxSteps := 1000000) (disch := omega) only [go_sem, seval, *])
      exact fin_mut (.osl id 0 (T.length + (encTs args).length) 1) (.inr rfl) cE2 ⟨Nat.le_trans hm (Nat.le_add_right _ _), ⟨id, w, g1, Nat.lt_of_lt_of_le g2 (Nat.le_add_right _ _), by first | rfl | simp only [hT, List.length_append], by first | exact g5 | (rw [hT]; exact g5)⟩, hH⟩
end
section
set_option maxRecDepth 20000
attribute [local go_sem] Nat.add_assoc id_ne id_ne' id_ne2 List.append_assoc bC_len bC_one pv_take tm_take pv_len tm_len
set_option maxHeartbeats 8000000 in
theorem variables_p : ∀ (fuel : Nat) (t : Tm), t.size ≤ fuel → PPure Try.prog F.ref08_variables [.agg t.pv] (.sc (.bool t.nearB)) := by
  intro fuel
  induction fuel with
  | zero => intro t h; have := size_pos t; omega
  | succ fuel ih =>
  intro t hn
  cases t with
  | mk k n s ls args =>
  simp only [Tm.size] at hn
  refine pure_by is_ref08_variables (by simp) rfl fun hb nx => ?_
  have hba : args.length ≤ 9223372036854775807 := by simp [Tm.pv, bndL, PV.bnd] at hb; omega
  clear hb
  by_cases h1 : k = 1 ∧ 1099511627776 ≤ n
  · obtain ⟨h1, h2⟩ := h1
    repeat' (first | ((with_reducible first | refine wA (by omega) ?_ | refine wB (by omega) ?_ | refine wC (by omega) ?_ | refine wD (by omega) ?_ | refine wE ?_ ?_ | refine wF ?_ ?_ | refine wG ?_ ?_ | refine wH ?_ ?_ | refine wI ?_ ?_ | refine wJ ?_ ?_ | refine wK ?_ ?_ | refine wL ?_ ?_) <;> intro _) | simp (maxSteps := 1000000) (disch := omega) only [go_sem, seval, mc_ref08_variables, Tm.pv, *])
    refine fin_tmp (.inr rfl) ?_
    simp [upd, Tm.nearB, h1, h2]
  · have hnb : (Tm.mk k n s ls args).nearB = nearA args := by
      have : (decide (k = 1) && decide (1099511627776 ≤ n)) = false := by
        rw [Bool.eq_false_iff]; intro e; simp only [Bool.and_eq_true, decide_eq_true_eq] at e; exact h1 e
      simp [Tm.nearB, this]
    rw [hnb]
    clear hnb
    obtain h1 | ⟨h1, h2⟩ : k ≠ 1 ∨ (k = 1 ∧ ¬ 1099511627776 ≤ n) := by omega
    · repeat' (first | ((with_reducible first | refine wA (by omega) ?_ | refine wB (by omega) ?_ | refine wC (by omega) ?_ | refine wD (by omega) ?_ | refine wE ?_ ?_ | refine wF ?_ ?_ | refine wG ?_ ?_ | refine wH ?_ ?_ | refine wI ?_ ?_ | refine wJ ?_ ?_ | refine wK ?_ ?_ | refine wL ?_ ?_) <;> intro _) | simp (maxSteps := 1000000) (disch := omega) only [go_sem, seval, mc_ref08_variables, Tm.pv, *])
      refine c_loopW 67104780 (by kernel_rfl) (fun j f H m => ∃ i : Nat, j = args.length - i ∧ i ≤ args.length ∧ f 3 = .sc (.int .i64 i) ∧ Kept (nearA (args.take i) = true)) _ ⟨0, rfl, Nat.zero_le _, cE1, Kept.mk rfl⟩ ?_
      rintro _ f H m ⟨i, rfl, hi, e3, hs⟩
      by_cases hlt : i < args.length
      · have eg : args[i]? = some args[i] := List.getElem?_eq_getElem hlt
        have hz := sizeL_mem args i hlt
        have c1 := ih args[i] (by omega)
        have ht := nearA_take args i hlt
        cases hc : args[i].nearB with
        | false =>
          have e := nearA_false args i hlt hc
          rw [hc] at c1
          rw [e]
          clear ht hs e hc
          repeat' (first | ((with_reducible first | refine wA (by omega) ?_ | refine wB (by omega) ?_ | refine wC (by omega) ?_ | refine wD (by omega) ?_ | refine wE ?_ ?_ | refine wF ?_ ?_ | refine wG ?_ ?_ | refine wH ?_ ?_ | refine wI ?_ ?_ | refine wJ ?_ ?_ | refine wK ?_ ?_ | refine wL ?_ ?_) <;> intro _) | (((with_reducible refine call_id ?_); (first | (refine call_pure (c1) ?_)))) | simp (maxSteps := 1000000) (disch := omega) only [go_sem, seval, *])
          all_goals (exact fin_tmp (.inr rfl) cE3)
        | true =>
          have hs2 : Kept (nearA (args.take (i + 1)) = true) := Kept.mk (by rw [ht, hc, show nearA (args.take i) = true from hs]; rfl)
          rw [hc] at c1
          clear ht hs hc
          repeat' (first | ((with_reducible first | refine wA (by omega) ?_ | refine wB (by omega) ?_ | refine wC (by omega) ?_ | refine wD (by omega) ?_ | refine wE ?_ ?_ | refine wF ?_ ?_ | refine wG ?_ ?_ | refine wH ?_ ?_ | refine wI ?_ ?_ | refine wJ ?_ ?_ | refine wK ?_ ?_ | refine wL ?_ ?_) <;> intro _) | (((with_reducible refine call_id ?_); (first | (refine call_pure (c1) ?_)))) | simp (maxSteps := 1000000) (disch := omega) only [go_sem, seval, *])
          exact Nx.mk (args.length - (i + 1)) (by omega) ⟨i + 1, rfl, cE1, cE1, hs2⟩
      · obtain rfl : i = args.length := by omega
        rw [List.take_length] at hs
        rw [show nearA args = true from hs]
        repeat' (first | ((with_reducible first | refine wA (by omega) ?_ | refine wB (by omega) ?_ | refine wC (by omega) ?_ | refine wD (by omega) ?_ | refine wE ?_ ?_ | refine wF ?_ ?_ | refine wG ?_ ?_ | refine wH ?_ ?_ | refine wI ?_ ?_ | refine wJ ?_ ?_ | refine wK ?_ ?_ | refine wL ?_ ?_) <;> intro _) | simp (maxSteps := 1000000) (disch := omega) only [go_sem, seval, *])
        all_goals (exact fin_tmp (.inr rfl) cE3)
    · repeat' (first | ((with_reducible first | refine wA (by omega) ?_ | refine wB (by omega) ?_ | refine wC (by omega) ?_ | refine wD (by omega) ?_ | refine wE ?_ ?_ | refine wF ?_ ?_ | refine wG ?_ ?_ | refine wH ?_ ?_ | refine wI ?_ ?_ | refine wJ ?_ ?_ | refine wK ?_ ?_ | refine wL ?_ ?_) <;> intro _) | simp (maxSteps := 1000000) (disch := omega) only [go_sem, seval, mc_ref08_variables, Tm.pv, *])
      refine c_loopW 67104780 (by kernel_rfl) (fun j f H m => ∃ i : Nat, j = args.length - i ∧ i ≤ args.length ∧ f 3 = .sc (.int .i64 i) ∧ Kept (nearA (args.take i) = true)) _ ⟨0, rfl, Nat.zero_le _, cE1, Kept.mk rfl⟩ ?_
      rintro _ f H m ⟨i, rfl, hi, e3, hs⟩
      by_cases hlt : i < args.length
      · have eg : args[i]? = some args[i] := List.getElem?_eq_getElem hlt
        have hz := sizeL_mem args i hlt
        have c1 := ih args[i] (by omega)
        have ht := nearA_take args i hlt
        cases hc : args[i].nearB with
        | false =>
          have e := nearA_false args i hlt hc
          rw [hc] at c1
          rw [e]
          clear ht hs e hc
          repeat' (first | ((with_reducible first | refine wA (by omega) ?_ | refine wB (by omega) ?_ | refine wC (by omega) ?_ | refine wD (by omega) ?_ | refine wE ?_ ?_ | refine wF ?_ ?_ | refine wG ?_ ?_ | refine wH ?_ ?_ | refine wI ?_ ?_ | refine wJ ?_ ?_ | refine wK ?_ ?_ | refine wL ?_ ?_) <;> intro _) | (((with_reducible refine call_id ?_); (first | (refine call_pure (c1) ?_)))) | simp (maxSteps := 1000000) (disch := omega) only [go_sem, seval, *])
          all_goals (exact fin_tmp (.inr rfl) cE3)
        | true =>
          have hs2 : Kept (nearA (args.take (i + 1)) = true) := Kept.mk (by rw [ht, hc, show nearA (args.take i) = true from hs]; rfl)
          rw [hc] at c1
          clear ht hs hc
          repeat' (first | ((with_reducible first | refine wA (by omega) ?_ | refine wB (by omega) ?_ | refine wC (by omega) ?_ | refine wD (by omega) ?_ | refine wE ?_ ?_ | refine wF ?_ ?_ | refine wG ?_ ?_ | refine wH ?_ ?_ | refine wI ?_ ?_ | refine wJ ?_ ?_ | refine wK ?_ ?_ | refine wL ?_ ?_) <;> intro _) | (((with_reducible refine call_id ?_); (first | (refine call_pure (c1) ?_)))) | simp (maxSteps := 1000000) (disch := omega) only [go_sem, seval, *])
          exact Nx.mk (args.length - (i + 1)) (by omega) ⟨i + 1, rfl, cE1, cE1, hs2⟩
      · obtain rfl : i = args.length := by omega
        rw [List.take_length] at hs
        rw [show nearA args = true from hs]
        repeat' (first | ((with_reducible first | refine wA (by omega) ?_ | refine wB (by omega) ?_ | refine wC (by omega) ?_ | refine wD (by omega) ?_ | refine wE ?_ ?_ | refine wF ?_ ?_ | refine wG ?_ ?_ | refine wH ?_ ?_ | refine wI ?_ ?_ | refine wJ ?_ ?_ | refine wK ?_ ?_ | refine wL ?_ ?_) <;> intro _) | simp (maxSteps := 1000000) (disch := omega) only [go_sem, seval, *])
        all_goals (exact fin_tmp (.inr rfl) cE3)
def Tm.packR (t : Tm) : Bool := t.right 4 1099511627776 && t.nearB
theorem rRight_p (t : Tm) : PPure Try.prog F.ref08_Right [.agg t.pv] (.sc (.bool t.packR)) := by
  refine pure_by is_ref08_Right (by simp) rfl fun hb nx => ?_
  clear hb
  have c1 := ref04_Right_p t 4 1099511627776
  have c2 := variables_p _ t (Nat.le_refl _)
  unfold Tm.packR
  cases hr : t.right 4 1099511627776 with
  | false =>
    rw [hr] at c1
    clear hr
    repeat' (first | ((with_reducible first | refine wA (by omega) ?_ | refine wB (by omega) ?_ | refine wC (by omega) ?_ | refine wD (by omega) ?_ | refine wE ?_ ?_ | refine wF ?_ ?_ | refine wG ?_ ?_ | refine wH ?_ ?_ | refine wI ?_ ?_ | refine wJ ?_ ?_ | refine wK ?_ ?_ | refine wL ?_ ?_) <;> intro _) | (((with_reducible refine call_id ?_); (first | (refine call_pure (c1) ?_) | (refine call_pure (c2) ?_)))) | simp (maxSteps := 1000000) (disch := omega) only [go_sem, seval, mc_ref08_Right, *])
    all_goals (exact fin_tmp (.inr rfl) cE3)
  | true =>
    rw [hr] at c1
    clear hr
    repeat' (first | ((with_reducible first | refine wA (by omega) ?_ | refine wB (by omega) ?_ | refine wC (by omega) ?_ | refine wD (by omega) ?_ | refine wE ?_ ?_ | refine wF ?_ ?_ | refine wG ?_ ?_ | refine wH ?_ ?_ | refine wI ?_ ?_ | refine wJ ?_ ?_ | refine wK ?_ ?_ | refine wL ?_ ?_) <;> intro _) | (((with_reducible refine call_id ?_); (first | (refine call_pure (c1) ?_) | (refine call_pure (c2) ?_)))) | simp (maxSteps := 1000000) (disch := omega) only [go_sem, seval, mc_ref08_Right, *])
    all_goals (exact fin_tmp (.inr rfl) cE3)
mutual
theorem Tm.shP_of {np : Int} : ∀ (t : Tm) (k : Int), t.formed np k = true → t.shP
  | .mk kind n s ls args, k, h => by
    unfold Tm.formed at h
    split at h
    · rename_i hk
      simp only [hasB, Bool.and_eq_true, decide_eq_true_eq] at h
      obtain ⟨h1, h2, _, _, h3, h4⟩ := h
      obtain rfl := List.eq_nil_of_length_eq_zero (by omega : ls.length = 0)
      obtain rfl := List.eq_nil_of_length_eq_zero (by omega : args.length = 0)
      exact ⟨fun _ => by omega, fun _ _ => rfl, trivial⟩
    · split at h
      · simp only [hasB, Bool.and_eq_true, decide_eq_true_eq] at h
        obtain ⟨⟨_, _, h3, h4⟩, h5⟩ := h
        obtain rfl := List.eq_nil_of_length_eq_zero (by omega : args.length = 0)
        exact ⟨fun _ => by omega, fun h _ => by omega, trivial⟩
      · split at h
        · simp only [constB, Bool.and_eq_true, decide_eq_true_eq] at h
          obtain ⟨_, h4, h5, _⟩ := h
          obtain rfl := List.eq_nil_of_length_eq_zero h4
          exact ⟨fun _ => by omega, fun _ h => by omega, trivial⟩
        · split at h
          · simp only [hasB, Bool.and_eq_true, decide_eq_true_eq] at h
            obtain ⟨⟨_, _, h3, h4⟩, h5⟩ := h
            obtain rfl := List.eq_nil_of_length_eq_zero (by omega : ls.length = 0)
            exact ⟨fun _ => by omega, fun _ _ => rfl, shPs_of args k kind args.length 0 h5⟩
          · split at h
            · simp only [hasB, Bool.and_eq_true, decide_eq_true_eq] at h
              obtain ⟨⟨_, _, h3, h4⟩, h5⟩ := h
              obtain rfl := List.eq_nil_of_length_eq_zero (by omega : ls.length = 0)
              exact ⟨fun _ => by omega, fun _ _ => rfl, shPs_of args k kind args.length 0 h5⟩
            · cases h
theorem shPs_of {np : Int} : ∀ (ts : List Tm) (k kind : Int) (len i : Nat), formedA np k kind len i ts = true → shPs ts
  | [], _, _, _, _, _ => trivial
  | x :: r, k, kind, len, i, h => by
    simp only [formedA, Bool.and_eq_true] at h
    exact ⟨Tm.shP_of x _ h.1, shPs_of r k kind len (i + 1) h.2⟩
end
theorem Tm.packR_P (t : Tm) (h : t.packR = true) : t.packP 4 ∧ t.shP ∧ t.nodes ≤ 2000 := by
  simp only [Tm.packR, Tm.right, Bool.and_eq_true, decide_eq_true_eq] at h
  exact ⟨Tm.packP_of t _ h.1.2.2.2.2 h.2, Tm.shP_of t _ h.1.2.2.2.2, h.1.2.2.2.1⟩
end
section
set_option maxRecDepth 20000
attribute [local go_sem] Nat.add_assoc id_ne id_ne' id_ne2 List.append_assoc bC_len bC_one pv_take tm_take pv_len tm_len dcl_len dcl_take tm_take_app tm_drop_app tm_d5 tm_d6 tm_d7 tm_d8 tm_d9 tm_d10 tm_d11 tm_d12 take_bC
def OwnQ (l : List UInt8) (H : Nat → Option PObj) (nx : Nat) (H' : Nat → Option PObj) (nx' : Nat) (r : PV) : Prop :=
  nx ≤ nx' ∧ (∃ id w, nx ≤ id ∧ id < nx' ∧ r = .osl id 0 l.length 1 ∧ H' id = some ⟨bC l, w⟩) ∧ ∀ j, j < nx → H' j = H j
def OwnN (l : List UInt8) (H : Nat → Option PObj) (nx : Nat) (H' : Nat → Option PObj) (nx' : Nat) (r : PV) : Prop :=
  nx ≤ nx' ∧ (∃ id w, nx ≤ id ∧ id < nx' ∧ r = .tup [.osl id 0 l.length 1, .sc (.bool true)] ∧ H' id = some ⟨bC l, w⟩) ∧ ∀ j, j < nx → H' j = H j
theorem rOne_o (n : Nat) (hn : n ≤ 2 ^ 40) (H : Nat → Option PObj) (nx : Nat) : PMut Try.prog F.ref02_One [.sc (.int .i64 n)] H nx (OwnQ (Plain.enc n) H nx) :=
  (rOne_m n hn H nx).mono fun H' nx' r ⟨h1, h2, h3⟩ => ⟨h1, BRow.own h2 (Plain.enc_length_pos n), h3⟩
set_option maxHeartbeats 4000000 in
theorem rLevelT_m (l : Lv) (hr : l.right 4 = true) (H : Nat → Option PObj) (nx : Nat) : PMut Try.prog F.ref08_Level [.agg l.pv] H nx (OwnN l.enc H nx) := by
  refine mut_by is_ref08_Level (by simp) fun hb => ?_
  clear hb
  have c1 := ref_Right_p l 4
  rw [hr] at c1
  simp only [Lv.right, Bool.and_eq_true, decide_eq_true_eq] at hr
  obtain ⟨_, _, h3, h4⟩ := hr
  repeat' (first | ((with_reducible first | refine wA (by omega) ?_ | refine wB (by omega) ?_ | refine wC (by omega) ?_ | refine wD (by omega) ?_ | refine wE ?_ ?_ | refine wF ?_ ?_ | refine wG ?_ ?_ | refine wH ?_ ?_ | refine wI ?_ ?_ | refine wJ ?_ ?_ | refine wK ?_ ?_ | refine wL ?_ ?_) <;> intro _) | (((with_reducible refine call_id ?_); (first | (refine call_pure (c1) ?_)))) | simp (maxSteps := 1000000) (disch := omega) only [go_sem, seval, mc_ref08_Level, *])
  refine call_mut (rLevel_m (by decide) _ l (Nat.le_refl _) h4 (by omega) _ _) ?_
  rintro H1 m1 r1 ⟨hm, ⟨id, w, g1, g2, rfl, g3⟩, hk⟩ -
  have hm1 : nx + 10 ≤ m1 := hm
  have g1' : nx + 10 ≤ id := g1
  have hk1 : ∀ j, j < nx → H1 j = H j := fun j hj => hk j (show j < nx + 10 by omega)
  clear hm g1 hk
  repeat' (first | ((with_reducible first | refine wA (by omega) ?_ | refine wB (by omega) ?_ | refine wC (by omega) ?_ | refine wD (by omega) ?_ | refine wE ?_ ?_ | refine wF ?_ ?_ | refine wG ?_ ?_ | refine wH ?_ ?_ | refine wI ?_ ?_ | refine wJ ?_ ?_ | refine wK ?_ ?_ | refine wL ?_ ?_) <;> intro _) | (((with_reducible refine call_id ?_); (first | (refine call_pure (c1) ?_)))) | simp (maxSteps := 1000000) (disch := omega) only [go_sem, seval, *])
  exact fin_mut (.tup [.osl id 0 l.enc.length 1, .sc (.bool true)]) (.inr rfl) cE2 ⟨Nat.le_trans (show nx ≤ m1 by omega) (Nat.le_refl _), ⟨id, w, by omega, g2, rfl, g3⟩, hk1⟩
set_option maxHeartbeats 4000000 in
theorem rTermT_m (t : Tm) (hr : t.packR = true) (H : Nat → Option PObj) (nx : Nat) : PMut Try.prog F.ref08_Term [.agg t.pv] H nx (OwnN t.enc H nx) := by
  refine mut_by is_ref08_Term (by simp) fun hb => ?_
  clear hb
  have c1 := rRight_p t
  rw [hr] at c1
  obtain ⟨h1, h2, h3⟩ := t.packR_P hr
  repeat' (first | ((with_reducible first | refine wA (by omega) ?_ | refine wB (by omega) ?_ | refine wC (by omega) ?_ | refine wD (by omega) ?_ | refine wE ?_ ?_ | refine wF ?_ ?_ | refine wG ?_ ?_ | refine wH ?_ ?_ | refine wI ?_ ?_ | refine wJ ?_ ?_ | refine wK ?_ ?_ | refine wL ?_ ?_) <;> intro _) | (((with_reducible refine call_id ?_); (first | (refine call_pure (c1) ?_)))) | simp (maxSteps := 1000000) (disch := omega) only [go_sem, seval, mc_ref08_Term, *])
  refine call_mut (rTerm_m (by decide) _ t (Nat.le_refl _) h1 h2 (by omega) _ _) ?_
  rintro H1 m1 r1 ⟨hm, ⟨id, w, g1, g2, rfl, g3⟩, hk⟩ -
  have hm1 : nx + 10 ≤ m1 := hm
  have g1' : nx + 10 ≤ id := g1
  have hk1 : ∀ j, j < nx → H1 j = H j := fun j hj => hk j (show j < nx + 10 by omega)
  clear hm g1 hk
  repeat' (first | ((with_reducible first | refine wA (by omega) ?_ | refine wB (by omega) ?_ | refine wC (by omega) ?_ | refine wD (by omega) ?_ | refine wE ?_ ?_ | refine wF ?_ ?_ | refine wG ?_ ?_ | refine wH ?_ ?_ | refine wI ?_ ?_ | refine wJ ?_ ?_ | refine wK ?_ ?_ | refine wL ?_ ?_) <;> intro _) | (((with_reducible refine call_id ?_); (first | (refine call_pure (c1) ?_)))) | simp (maxSteps := 1000000) (disch := omega) only [go_sem, seval, *])
  exact fin_mut (.tup [.osl id 0 t.enc.length 1, .sc (.bool true)]) (.inr rfl) cE2 ⟨Nat.le_trans (show nx ≤ m1 by omega) (Nat.le_refl _), ⟨id, w, by omega, g2, rfl, g3⟩, hk1⟩
end
section
set_option maxRecDepth 20000
attribute [local go_sem] Nat.add_assoc id_ne id_ne' id_ne2 List.append_assoc bC_len bC_one pv_take tm_take pv_len tm_len dcl_len dcl_take tm_take_app tm_drop_app tm_d5 tm_d6 tm_d7 tm_d8 tm_d9 tm_d10 tm_d11 tm_d12 take_bC tm_y6 tm_y7 tm_y10 tm_y11 tm_y12
set_option maxHeartbeats 32000000 in
theorem rDecl_m (d : Dcl) (hr : d.formed = true) (H : Nat → Option PObj) (nx : Nat) : PMut Try.prog F.ref08_Decl [.agg d.pv] H nx (OwnN d.enc H nx) := by
  have c1 := Formed08_p d
  rw [hr] at c1
  have hd := d.packP_of hr
  have hsh : d.typ.shP ∧ (d.kind = 2 ∨ d.kind = 3 ∨ d.kind = 4 → d.val.shP) ∧ (d.kind = 5 → ∀ c ∈ d.ctors, c.typ.shP) := by
    have h := hr
    simp only [Dcl.formed, Bool.and_eq_true, decide_eq_true_eq] at h
    obtain ⟨-, -, -, h4, h5⟩ := h
    refine ⟨Tm.shP_of _ _ (right_formed8 h4).choose_spec, fun hk => ?_, fun hk c hc => ?_⟩
    · rw [if_neg (by omega), if_pos hk] at h5
      simp only [Bool.and_eq_true] at h5
      exact Tm.shP_of _ _ (right_formed8 h5.1).choose_spec
    · rw [if_neg (by omega), if_neg (by omega), if_pos hk] at h5
      simp only [Bool.and_eq_true, famB, List.all_eq_true, ctrB] at h5
      exact Tm.shP_of _ _ (right_formed8 (h5.2.2.2 c hc).2).choose_spec
  obtain ⟨kind, params, name, typ, val, fixed, ctors⟩ := d
  refine mut_by is_ref08_Decl (by simp) fun hbn => ?_
  obtain ⟨hk, hp, hn, ht, hv, hi⟩ := hd
  obtain ⟨hs1, hs2, hs3⟩ := hsh
  simp only at hk hp hn ht hv hi hs1 hs2 hs3
  have hbc : ctors.length ≤ 9223372036854775807 := by simp [Dcl.pv, bndL, PV.bnd, bndL_append] at hbn; omega
  clear hbn hr
  obtain ⟨kind, rfl⟩ : ∃ k' : Nat, kind = k' := ⟨kind.toNat, by omega⟩
  obtain ⟨params, rfl⟩ : ∃ k' : Nat, params = k' := ⟨params.toNat, by omega⟩
  have hek := enc_len6 kind (by omega)
  have hep := enc_len6 params (by omega)
  have het := encT_len1 name hn
  have htl := Tm.enc_len hp.2 typ ht.1
  repeat' (first | ((with_reducible first | refine wA (by omega) ?_ | refine wB (by omega) ?_ | refine wC (by omega) ?_ | refine wD (by omega) ?_ | refine wE ?_ ?_ | refine wF ?_ ?_ | refine wG ?_ ?_ | refine wH ?_ ?_ | refine wI ?_ ?_ | refine wJ ?_ ?_ | refine wK ?_ ?_ | refine wL ?_ ?_) <;> intro _) | (((with_reducible refine call_id ?_); (first | (refine call_pure (c1) ?_)))) | simp (maxSteps := 1000000) (disch := omega) only [go_sem, seval, mc_ref08_Decl, Dcl.pv, *])
  refine call_mut (rOne_o kind (by omega) _ _) ?_
  rintro H1 m1 r1 ⟨hm1', ⟨R1, w1, x1, y1, rfl, g1⟩, k1'⟩ -
  have hm1 : nx + 10 ≤ m1 := hm1'
  have x1 : nx + 10 ≤ R1 := x1
  have k1 : Kept (∀ j, j < nx → H1 j = H j) := fun j hj => k1' j (show j < nx + 10 by omega)
  obtain ⟨T1, hT1⟩ : ∃ T, Kept (T = Plain.enc kind) := ⟨_, Kept.mk rfl⟩
  rw [← hT1.out] at g1 hek ⊢
  clear k1' hm1' c1
  repeat' (first | ((with_reducible first | refine wA (by omega) ?_ | refine wB (by omega) ?_ | refine wC (by omega) ?_ | refine wD (by omega) ?_ | refine wE ?_ ?_ | refine wF ?_ ?_ | refine wG ?_ ?_ | refine wH ?_ ?_ | refine wI ?_ ?_ | refine wJ ?_ ?_ | refine wK ?_ ?_ | refine wL ?_ ?_) <;> intro _) | simp (maxSteps := 1000000) (disch := omega) only [go_sem, seval, *])
  refine call_mut (rTexts_m [name] (by simp) (by omega) _ _) ?_
  rintro H2 m2 r2 ⟨hm2', ⟨id2, w2, x2, y2, rfl, z2⟩, k2'⟩ -
  have hm2 : m1 + 7 ≤ m2 := hm2'
  have x2 : m1 + 7 ≤ id2 := x2
  have g2 : H2 (R1) = some ⟨bC T1, w1⟩ := (k2' (R1) (show R1 < m1 + 7 by omega)).trans (g1)
  have k2 : Kept (∀ j, j < nx → H2 j = H j) := fun j hj => (k2' j (show j < m1 + 7 by omega)).trans (k1 j hj)
  obtain ⟨T2, hT2⟩ : ∃ T, Kept (T = T1 ++ encT [name]) := ⟨_, Kept.mk rfl⟩
  have e1 : T1.length + (encT [name]).length = T2.length := by rw [hT2.out, List.length_append]
  have e2 : bC T1 ++ bC (encT [name]) = bC T2 := by rw [hT2.out, bC_append]
  have b1 : T2.length ≤ 140737488355328 := by omega
  have b2 : T2.length ≤ 4611686018427387904 := by omega
  have n2 : R1 ≠ id2 := by omega
  clear k2' k1 hm2'
  repeat' (first | ((with_reducible first | refine wA (by omega) ?_ | refine wB (by omega) ?_ | refine wC (by omega) ?_ | refine wD (by omega) ?_ | refine wE ?_ ?_ | refine wF ?_ ?_ | refine wG ?_ ?_ | refine wH ?_ ?_ | refine wI ?_ ?_ | refine wJ ?_ ?_ | refine wK ?_ ?_ | refine wL ?_ ?_) <;> intro _) | simp (maxSteps := 1000000) (disch := omega) only [go_sem, seval, *])
  clear e2 g2 z2 b1 b2
  refine call_mut (rOne_o params (by omega) _ _) ?_
  rintro H3 m3 r3 ⟨hm3', ⟨id3, w3, x3, y3, rfl, z3⟩, k3'⟩ -
  have hm3 : m2 + 6 ≤ m3 := hm3'
  have x3 : m2 + 6 ≤ id3 := x3
  have g3 : H3 (m1 + 5) = some ⟨bC T2, false⟩ := (k3' (m1 + 5) (show m1 + 5 < m2 + 6 by omega)).trans (by simp [upd])
  have k3 : Kept (∀ j, j < nx → H3 j = H j) := fun j hj => (k3' j (show j < m2 + 6 by omega)).trans (by simp only [upd, show j ≠ m1 + 5 by omega, show j ≠ R1 by omega, if_false]; exact k2 j hj)
  obtain ⟨T3, hT3⟩ : ∃ T, Kept (T = T2 ++ Plain.enc params) := ⟨_, Kept.mk rfl⟩
  have e1 : T2.length + (Plain.enc params).length = T3.length := by rw [hT3.out, List.length_append]
  have e2 : bC T2 ++ bC (Plain.enc params) = bC T3 := by rw [hT3.out, bC_append]
  have b1 : T3.length ≤ 140737488355328 := by omega
  have b2 : T3.length ≤ 4611686018427387904 := by omega
  have n3 : m1 + 5 ≠ id3 := by omega
  clear k3' k2 hm3'
  repeat' (first | ((with_reducible first | refine wA (by omega) ?_ | refine wB (by omega) ?_ | refine wC (by omega) ?_ | refine wD (by omega) ?_ | refine wE ?_ ?_ | refine wF ?_ ?_ | refine wG ?_ ?_ | refine wH ?_ ?_ | refine wI ?_ ?_ | refine wJ ?_ ?_ | refine wK ?_ ?_ | refine wL ?_ ?_) <;> intro _) | simp (maxSteps := 1000000) (disch := omega) only [go_sem, seval, *])
  clear e2 g3 z3 b1 b2
  refine call_mut (rTerm_m hp.2 _ typ (Nat.le_refl _) ht.1 hs1 (by omega) _ _) ?_
  rintro H4 m4 r4 ⟨hm4', ⟨id4, w4, x4, y4, rfl, z4⟩, k4'⟩ -
  have hm4 : m3 + 6 ≤ m4 := hm4'
  have x4 : m3 + 6 ≤ id4 := x4
  have g4 : H4 (m2 + 4) = some ⟨bC T3, false⟩ := (k4' (m2 + 4) (show m2 + 4 < m3 + 6 by omega)).trans (by simp [upd])
  have k4 : Kept (∀ j, j < nx → H4 j = H j) := fun j hj => (k4' j (show j < m3 + 6 by omega)).trans (by simp only [upd, show j ≠ m2 + 4 by omega, show j ≠ m1 + 5 by omega, if_false]; exact k3 j hj)
  obtain ⟨T4, hT4⟩ : ∃ T, Kept (T = T3 ++ typ.enc) := ⟨_, Kept.mk rfl⟩
  have e1 : T3.length + (typ.enc).length = T4.length := by rw [hT4.out, List.length_append]
  have e2 : bC T3 ++ bC (typ.enc) = bC T4 := by rw [hT4.out, bC_append]
  have b1 : T4.length ≤ 140737488355328 := by omega
  have b2 : T4.length ≤ 4611686018427387904 := by omega
  have n4 : m2 + 4 ≠ id4 := by omega
  clear k4' k3 hm4'
  have hE : (Dcl.mk (kind : Int) (params : Int) name typ val fixed ctors).enc = T4 ++ restEnc (Dcl.mk (kind : Int) (params : Int) name typ val fixed ctors) := by
    rw [hT4.out, hT3.out, hT2.out, hT1.out]; simp only [Dcl.enc, restEnc, Int.toNat_natCast, List.append_assoc]
  have hl4 : T4.length ≤ 200000 := by omega
  rw [hE]
  clear hE hT4 hT3 hT2 hT1
  obtain rfl | rfl | rfl | rfl | rfl : kind = 1 ∨ kind = 2 ∨ kind = 3 ∨ kind = 4 ∨ kind = 5 := by omega
  · have hE : T4 ++ restEnc (Dcl.mk ((1 : Nat) : Int) (params : Int) name typ val fixed ctors) = T4 := by
      simp only [restEnc]; rw [if_neg (by simp), if_neg (by simp), List.append_nil]
    rw [hE]
    clear hE
    repeat' (first | ((with_reducible first | refine wA (by omega) ?_ | refine wB (by omega) ?_ | refine wC (by omega) ?_ | refine wD (by omega) ?_ | refine wE ?_ ?_ | refine wF ?_ ?_ | refine wG ?_ ?_ | refine wH ?_ ?_ | refine wI ?_ ?_ | refine wJ ?_ ?_ | refine wK ?_ ?_ | refine wL ?_ ?_) <;> intro _) | simp (maxSteps := 1000000) (disch := omega) only [go_sem, seval, *])
    clear e2 g4 z4 b1 b2
    exact fin_mut (.tup [.osl (m3 + 4) 0 T4.length 1, .sc (.bool true)]) (.inr rfl) cE2 ⟨by simp only [Nat.add_assoc]; exact Nat.le_trans (show nx ≤ m4 by omega) (Nat.le_add_right _ _), ⟨m3 + 4, false, by omega, by simp only [Nat.add_assoc]; first | exact Nat.add_lt_add_left (by decide) _ | exact Nat.lt_of_lt_of_le (show m3 + 4 < m4 by omega) (Nat.le_add_right _ _), rfl, by simp [upd]⟩, fun j hj => by simp only [upd, show j ≠ m3 + 4 by omega, show j ≠ m2 + 4 by omega, if_false]; exact k4 j hj⟩
  · have hvv := hv (by simp)
    have hsv := hs2 (by simp)
    have hvl := Tm.enc_len hp.2 val hvv.1
    have hE : T4 ++ restEnc (Dcl.mk ((2 : Nat) : Int) (params : Int) name typ val fixed ctors) = T4 ++ val.enc := by
      simp only [restEnc]; rw [if_pos (by simp)]
    rw [hE]
    clear hE
    repeat' (first | ((with_reducible first | refine wA (by omega) ?_ | refine wB (by omega) ?_ | refine wC (by omega) ?_ | refine wD (by omega) ?_ | refine wE ?_ ?_ | refine wF ?_ ?_ | refine wG ?_ ?_ | refine wH ?_ ?_ | refine wI ?_ ?_ | refine wJ ?_ ?_ | refine wK ?_ ?_ | refine wL ?_ ?_) <;> intro _) | simp (maxSteps := 1000000) (disch := omega) only [go_sem, seval, *])
    clear e2 g4 z4 b1 b2
    refine call_mut (rTerm_m hp.2 _ val (Nat.le_refl _) hvv.1 hsv (by omega) _ _) ?_
    rintro H5 m5 r5 ⟨hm5', ⟨id5, w5, x5, y5, rfl, z5⟩, k5'⟩ -
    have hm5 : m4 + 6 + 6 ≤ m5 := hm5'
    have x5 : m4 + 6 + 6 ≤ id5 := x5
    have g5 : H5 (m3 + 4) = some ⟨bC T4, false⟩ := (k5' (m3 + 4) (show m3 + 4 < m4 + 6 + 6 by omega)).trans (by simp [upd])
    have k5 : Kept (∀ j, j < nx → H5 j = H j) := fun j hj => (k5' j (show j < m4 + 6 + 6 by omega)).trans (by simp only [upd, show j ≠ m3 + 4 by omega, show j ≠ m2 + 4 by omega, if_false]; exact k4 j hj)
    obtain ⟨T5, hT5⟩ : ∃ T, Kept (T = T4 ++ val.enc) := ⟨_, Kept.mk rfl⟩
    have e1 : T4.length + (val.enc).length = T5.length := by rw [hT5.out, List.length_append]
    have e2 : bC T4 ++ bC (val.enc) = bC T5 := by rw [hT5.out, bC_append]
    have b1 : T5.length ≤ 140737488355328 := by omega
    have b2 : T5.length ≤ 4611686018427387904 := by omega
    have n5 : m3 + 4 ≠ id5 := by omega
    clear k5' k4 hm5'
    rw [← hT5.out]
    clear hT5
    repeat' (first | ((with_reducible first | refine wA (by omega) ?_ | refine wB (by omega) ?_ | refine wC (by omega) ?_ | refine wD (by omega) ?_ | refine wE ?_ ?_ | refine wF ?_ ?_ | refine wG ?_ ?_ | refine wH ?_ ?_ | refine wI ?_ ?_ | refine wJ ?_ ?_ | refine wK ?_ ?_ | refine wL ?_ ?_) <;> intro _) | simp (maxSteps := 1000000) (disch := omega) only [go_sem, seval, *])
    clear e2 g5 z5 b1 b2
    exact fin_mut (.tup [.osl (m4 + 10) 0 T5.length 1, .sc (.bool true)]) (.inr rfl) cE2 ⟨by simp only [Nat.add_assoc]; exact Nat.le_trans (show nx ≤ m5 by omega) (Nat.le_add_right _ _), ⟨m4 + 10, false, by omega, by simp only [Nat.add_assoc]; first | exact Nat.add_lt_add_left (by decide) _ | exact Nat.lt_of_lt_of_le (show m4 + 10 < m5 by omega) (Nat.le_add_right _ _), rfl, by simp [upd]⟩, fun j hj => by simp only [upd, show j ≠ m4 + 10 by omega, show j ≠ m3 + 4 by omega, if_false]; exact k5 j hj⟩
  · have hvv := hv (by simp)
    have hsv := hs2 (by simp)
    have hvl := Tm.enc_len hp.2 val hvv.1
    have hE : T4 ++ restEnc (Dcl.mk ((3 : Nat) : Int) (params : Int) name typ val fixed ctors) = T4 ++ val.enc := by
      simp only [restEnc]; rw [if_pos (by simp)]
    rw [hE]
    clear hE
    repeat' (first | ((with_reducible first | refine wA (by omega) ?_ | refine wB (by omega) ?_ | refine wC (by omega) ?_ | refine wD (by omega) ?_ | refine wE ?_ ?_ | refine wF ?_ ?_ | refine wG ?_ ?_ | refine wH ?_ ?_ | refine wI ?_ ?_ | refine wJ ?_ ?_ | refine wK ?_ ?_ | refine wL ?_ ?_) <;> intro _) | simp (maxSteps := 1000000) (disch := omega) only [go_sem, seval, *])
    clear e2 g4 z4 b1 b2
    refine call_mut (rTerm_m hp.2 _ val (Nat.le_refl _) hvv.1 hsv (by omega) _ _) ?_
    rintro H5 m5 r5 ⟨hm5', ⟨id5, w5, x5, y5, rfl, z5⟩, k5'⟩ -
    have hm5 : m4 + 6 + 6 ≤ m5 := hm5'
    have x5 : m4 + 6 + 6 ≤ id5 := x5
    have g5 : H5 (m3 + 4) = some ⟨bC T4, false⟩ := (k5' (m3 + 4) (show m3 + 4 < m4 + 6 + 6 by omega)).trans (by simp [upd])
    have k5 : Kept (∀ j, j < nx → H5 j = H j) := fun j hj => (k5' j (show j < m4 + 6 + 6 by omega)).trans (by simp only [upd, show j ≠ m3 + 4 by omega, show j ≠ m2 + 4 by omega, if_false]; exact k4 j hj)
    obtain ⟨T5, hT5⟩ : ∃ T, Kept (T = T4 ++ val.enc) := ⟨_, Kept.mk rfl⟩
    have e1 : T4.length + (val.enc).length = T5.length := by rw [hT5.out, List.length_append]
    have e2 : bC T4 ++ bC (val.enc) = bC T5 := by rw [hT5.out, bC_append]
    have b1 : T5.length ≤ 140737488355328 := by omega
    have b2 : T5.length ≤ 4611686018427387904 := by omega
    have n5 : m3 + 4 ≠ id5 := by omega
    clear k5' k4 hm5'
    rw [← hT5.out]
    clear hT5
    repeat' (first | ((with_reducible first | refine wA (by omega) ?_ | refine wB (by omega) ?_ | refine wC (by omega) ?_ | refine wD (by omega) ?_ | refine wE ?_ ?_ | refine wF ?_ ?_ | refine wG ?_ ?_ | refine wH ?_ ?_ | refine wI ?_ ?_ | refine wJ ?_ ?_ | refine wK ?_ ?_ | refine wL ?_ ?_) <;> intro _) | simp (maxSteps := 1000000) (disch := omega) only [go_sem, seval, *])
    clear e2 g5 z5 b1 b2
    exact fin_mut (.tup [.osl (m4 + 10) 0 T5.length 1, .sc (.bool true)]) (.inr rfl) cE2 ⟨by simp only [Nat.add_assoc]; exact Nat.le_trans (show nx ≤ m5 by omega) (Nat.le_add_right _ _), ⟨m4 + 10, false, by omega, by simp only [Nat.add_assoc]; first | exact Nat.add_lt_add_left (by decide) _ | exact Nat.lt_of_lt_of_le (show m4 + 10 < m5 by omega) (Nat.le_add_right _ _), rfl, by simp [upd]⟩, fun j hj => by simp only [upd, show j ≠ m4 + 10 by omega, show j ≠ m3 + 4 by omega, if_false]; exact k5 j hj⟩
  · have hvv := hv (by simp)
    have hsv := hs2 (by simp)
    have hvl := Tm.enc_len hp.2 val hvv.1
    have hE : T4 ++ restEnc (Dcl.mk ((4 : Nat) : Int) (params : Int) name typ val fixed ctors) = T4 ++ val.enc := by
      simp only [restEnc]; rw [if_pos (by simp)]
    rw [hE]
    clear hE
    repeat' (first | ((with_reducible first | refine wA (by omega) ?_ | refine wB (by omega) ?_ | refine wC (by omega) ?_ | refine wD (by omega) ?_ | refine wE ?_ ?_ | refine wF ?_ ?_ | refine wG ?_ ?_ | refine wH ?_ ?_ | refine wI ?_ ?_ | refine wJ ?_ ?_ | refine wK ?_ ?_ | refine wL ?_ ?_) <;> intro _) | simp (maxSteps := 1000000) (disch := omega) only [go_sem, seval, *])
    clear e2 g4 z4 b1 b2
    refine call_mut (rTerm_m hp.2 _ val (Nat.le_refl _) hvv.1 hsv (by omega) _ _) ?_
    rintro H5 m5 r5 ⟨hm5', ⟨id5, w5, x5, y5, rfl, z5⟩, k5'⟩ -
    have hm5 : m4 + 6 + 6 ≤ m5 := hm5'
    have x5 : m4 + 6 + 6 ≤ id5 := x5
    have g5 : H5 (m3 + 4) = some ⟨bC T4, false⟩ := (k5' (m3 + 4) (show m3 + 4 < m4 + 6 + 6 by omega)).trans (by simp [upd])
    have k5 : Kept (∀ j, j < nx → H5 j = H j) := fun j hj => (k5' j (show j < m4 + 6 + 6 by omega)).trans (by simp only [upd, show j ≠ m3 + 4 by omega, show j ≠ m2 + 4 by omega, if_false]; exact k4 j hj)
    obtain ⟨T5, hT5⟩ : ∃ T, Kept (T = T4 ++ val.enc) := ⟨_, Kept.mk rfl⟩
    have e1 : T4.length + (val.enc).length = T5.length := by rw [hT5.out, List.length_append]
    have e2 : bC T4 ++ bC (val.enc) = bC T5 := by rw [hT5.out, bC_append]
    have b1 : T5.length ≤ 140737488355328 := by omega
    have b2 : T5.length ≤ 4611686018427387904 := by omega
    have n5 : m3 + 4 ≠ id5 := by omega
    clear k5' k4 hm5'
    rw [← hT5.out]
    clear hT5
    repeat' (first | ((with_reducible first | refine wA (by omega) ?_ | refine wB (by omega) ?_ | refine wC (by omega) ?_ | refine wD (by omega) ?_ | refine wE ?_ ?_ | refine wF ?_ ?_ | refine wG ?_ ?_ | refine wH ?_ ?_ | refine wI ?_ ?_ | refine wJ ?_ ?_ | refine wK ?_ ?_ | refine wL ?_ ?_) <;> intro _) | simp (maxSteps := 1000000) (disch := omega) only [go_sem, seval, *])
    clear e2 g5 z5 b1 b2
    exact fin_mut (.tup [.osl (m4 + 10) 0 T5.length 1, .sc (.bool true)]) (.inr rfl) cE2 ⟨by simp only [Nat.add_assoc]; exact Nat.le_trans (show nx ≤ m5 by omega) (Nat.le_add_right _ _), ⟨m4 + 10, false, by omega, by simp only [Nat.add_assoc]; first | exact Nat.add_lt_add_left (by decide) _ | exact Nat.lt_of_lt_of_le (show m4 + 10 < m5 by omega) (Nat.le_add_right _ _), rfl, by simp [upd]⟩, fun j hj => by simp only [upd, show j ≠ m4 + 10 by omega, show j ≠ m3 + 4 by omega, if_false]; exact k5 j hj⟩
  · obtain ⟨hfx, hcl, hcs⟩ := hi rfl
    have hss := hs3 rfl
    obtain ⟨fixed, rfl⟩ : ∃ k' : Nat, fixed = k' := ⟨fixed.toNat, by omega⟩
    have hef := enc_len6 fixed (by omega)
    have hec := enc_len6 ctors.length (by omega)
    have hE : T4 ++ restEnc (Dcl.mk ((5 : Nat) : Int) (params : Int) name typ val (fixed : Int) ctors) = T4 ++ (Plain.enc fixed ++ (Plain.enc ctors.length ++ encCs ctors)) := by
      simp only [restEnc, Int.toNat_natCast]
      rw [if_neg (by simp), if_pos (by rfl)]
    obtain ⟨Z, hZ⟩ : ∃ Z, Kept (Z = T4 ++ (Plain.enc fixed ++ (Plain.enc ctors.length ++ encCs ctors))) := ⟨_, Kept.mk rfl⟩
    rw [hE, ← hZ.out]
    clear hE
    repeat' (first | ((with_reducible first | refine wA (by omega) ?_ | refine wB (by omega) ?_ | refine wC (by omega) ?_ | refine wD (by omega) ?_ | refine wE ?_ ?_ | refine wF ?_ ?_ | refine wG ?_ ?_ | refine wH ?_ ?_ | refine wI ?_ ?_ | refine wJ ?_ ?_ | refine wK ?_ ?_ | refine wL ?_ ?_) <;> intro _) | simp (maxSteps := 1000000) (disch := omega) only [go_sem, seval, *])
    clear e2 g4 z4 b1 b2
    refine call_mut (rOne_o fixed (by omega) _ _) ?_
    rintro H5 m5 r5 ⟨hm5', ⟨id5, w5, x5, y5, rfl, z5⟩, k5'⟩ -
    have hm5 : m4 + 3 + 6 ≤ m5 := hm5'
    have x5 : m4 + 3 + 6 ≤ id5 := x5
    have g5 : H5 (m3 + 4) = some ⟨bC T4, false⟩ := (k5' (m3 + 4) (show m3 + 4 < m4 + 3 + 6 by omega)).trans (by simp [upd])
    have k5 : Kept (∀ j, j < nx → H5 j = H j) := fun j hj => (k5' j (show j < m4 + 3 + 6 by omega)).trans (by simp only [upd, show j ≠ m3 + 4 by omega, show j ≠ m2 + 4 by omega, if_false]; exact k4 j hj)
    obtain ⟨T5, hT5⟩ : ∃ T, Kept (T = T4 ++ Plain.enc fixed) := ⟨_, Kept.mk rfl⟩
    have e1 : T4.length + (Plain.enc fixed).length = T5.length := by rw [hT5.out, List.length_append]
    have e2 : bC T4 ++ bC (Plain.enc fixed) = bC T5 := by rw [hT5.out, bC_append]
    have b1 : T5.length ≤ 140737488355328 := by omega
    have b2 : T5.length ≤ 4611686018427387904 := by omega
    have n5 : m3 + 4 ≠ id5 := by omega
    clear k5' k4 hm5'
    repeat' (first | ((with_reducible first | refine wA (by omega) ?_ | refine wB (by omega) ?_ | refine wC (by omega) ?_ | refine wD (by omega) ?_ | refine wE ?_ ?_ | refine wF ?_ ?_ | refine wG ?_ ?_ | refine wH ?_ ?_ | refine wI ?_ ?_ | refine wJ ?_ ?_ | refine wK ?_ ?_ | refine wL ?_ ?_) <;> intro _) | simp (maxSteps := 1000000) (disch := omega) only [go_sem, seval, *])
    clear e2 g5 z5 b1 b2
    refine call_mut (rOne_o ctors.length (by omega) _ _) ?_
    rintro H6 m6 r6 ⟨hm6', ⟨id6, w6, x6, y6, rfl, z6⟩, k6'⟩ -
    have hm6 : m5 + 7 ≤ m6 := hm6'
    have x6 : m5 + 7 ≤ id6 := x6
    have g6 : H6 (m4 + 7) = some ⟨bC T5, false⟩ := (k6' (m4 + 7) (show m4 + 7 < m5 + 7 by omega)).trans (by simp [upd])
    have k6 : Kept (∀ j, j < nx → H6 j = H j) := fun j hj => (k6' j (show j < m5 + 7 by omega)).trans (by simp only [upd, show j ≠ m4 + 7 by omega, show j ≠ m3 + 4 by omega, if_false]; exact k5 j hj)
    obtain ⟨T6, hT6⟩ : ∃ T, Kept (T = T5 ++ Plain.enc ctors.length) := ⟨_, Kept.mk rfl⟩
    have e1 : T5.length + (Plain.enc ctors.length).length = T6.length := by rw [hT6.out, List.length_append]
    have e2 : bC T5 ++ bC (Plain.enc ctors.length) = bC T6 := by rw [hT6.out, bC_append]
    have b1 : T6.length ≤ 140737488355328 := by omega
    have b2 : T6.length ≤ 4611686018427387904 := by omega
    have n6 : m4 + 7 ≠ id6 := by omega
    clear k6' k5 hm6'
    repeat' (first | ((with_reducible first | refine wA (by omega) ?_ | refine wB (by omega) ?_ | refine wC (by omega) ?_ | refine wD (by omega) ?_ | refine wE ?_ ?_ | refine wF ?_ ?_ | refine wG ?_ ?_ | refine wH ?_ ?_ | refine wI ?_ ?_ | refine wJ ?_ ?_ | refine wK ?_ ?_ | refine wL ?_ ?_) <;> intro _) | simp (maxSteps := 1000000) (disch := omega) only [go_sem, seval, *])
    clear e2 g6 z6 b1 b2
    have hZ6 : Kept (Z = T6 ++ encCs ctors) := Kept.mk (by rw [hZ.out, hT6.out, hT5.out]; simp only [List.append_assoc])
    have hl6 : T6.length ≤ 200012 := by omega
    clear hZ hT6 hT5
    refine c_loopW 295147900781306314800 (by kernel_rfl) (fun j f H7 m7 => ∃ i : Nat, j = ctors.length - i ∧ i ≤ ctors.length ∧ f 5 = .sc (.int .i64 i) ∧ nx ≤ m7 ∧ (∃ R7 w7 T7, nx ≤ R7 ∧ R7 < m7 ∧ f 4 = .osl R7 0 T7.length 1 ∧ Kept (T7 = T6 ++ encCs (ctors.take i)) ∧ H7 R7 = some ⟨bC T7, w7⟩) ∧ Kept (∀ j, j < nx → H7 j = H j)) _ ⟨0, rfl, Nat.zero_le _, cE1, ?mm, ⟨m5 + 5, false, T6, by omega, ?lt, cE1, Kept.mk (by simp [encCs]), by simp [upd]⟩, Kept.mk fun j hj => by simp only [upd, show j ≠ m5 + 5 by omega, show j ≠ m4 + 7 by omega, if_false]; exact k6 j hj⟩ ?_
    case mm => simp only [Nat.add_assoc]; exact Nat.le_trans (show nx ≤ m6 by omega) (Nat.le_add_right _ _)
    case lt => simp only [Nat.add_assoc]; exact Nat.lt_of_lt_of_le (show m5 + 5 < m6 by omega) (Nat.le_add_right _ _)
    rintro _ f H7 m7 ⟨i, rfl, hi7, e5, hm7, ⟨R7, w7, T7, x7, y7, e4, hT7, g7⟩, k7⟩
    clear k6 x6 y6 x5 y5 x4 y4 n4 n5 n6
    by_cases hlt : i < ctors.length
    · have eg : ctors[i]? = some ctors[i] := List.getElem?_eq_getElem hlt
      obtain ⟨hc1, hc2, hc3⟩ := hcs ctors[i] (List.getElem_mem hlt)
      have hc4 := hss ctors[i] (List.getElem_mem hlt)
      have het2 := encT_len1 ctors[i].name hc1
      have htl2 := Tm.enc_len hp.2 ctors[i].typ hc2
      have hsn := encCs_snoc ctors i hlt
      have hcl2 := encCs_len (ctors.take i) hp.2 fun c hc => hcs c (List.mem_of_mem_take hc)
      rw [List.length_take] at hcl2
      have hl7 : T7.length ≤ 2000000 := by rw [hT7.out, List.length_append]; omega
      clear hcl2
      repeat' (first | ((with_reducible first | refine wA (by omega) ?_ | refine wB (by omega) ?_ | refine wC (by omega) ?_ | refine wD (by omega) ?_ | refine wE ?_ ?_ | refine wF ?_ ?_ | refine wG ?_ ?_ | refine wH ?_ ?_ | refine wI ?_ ?_ | refine wJ ?_ ?_ | refine wK ?_ ?_ | refine wL ?_ ?_) <;> intro _) | simp (maxSteps := 1000000) (disch := omega) only [go_sem, seval, Ctr.pv, *])
      refine call_mut (rTexts_m [ctors[i].name] (by simp) (by omega) _ _) ?_
      rintro H8 m8 r8 ⟨hm8', ⟨id8, w8, x8, y8, rfl, z8⟩, k8'⟩ -
      have hm8 : m7 + 5 + 11 ≤ m8 := hm8'
      have x8 : m7 + 5 + 11 ≤ id8 := x8
      have g8 : H8 (R7) = some ⟨bC T7, w7⟩ := (k8' (R7) (show R7 < m7 + 5 + 11 by omega)).trans (g7)
      have k8 : Kept (∀ j, j < nx → H8 j = H j) := fun j hj => (k8' j (show j < m7 + 5 + 11 by omega)).trans (k7 j hj)
      obtain ⟨T8, hT8⟩ : ∃ T, Kept (T = T7 ++ encT [ctors[i].name]) := ⟨_, Kept.mk rfl⟩
      have e1 : T7.length + (encT [ctors[i].name]).length = T8.length := by rw [hT8.out, List.length_append]
      have e2 : bC T7 ++ bC (encT [ctors[i].name]) = bC T8 := by rw [hT8.out, bC_append]
      have b1 : T8.length ≤ 140737488355328 := by omega
      have b2 : T8.length ≤ 4611686018427387904 := by omega
      have n8 : R7 ≠ id8 := by omega
      clear k8' k7 hm8'
      repeat' (first | ((with_reducible first | refine wA (by omega) ?_ | refine wB (by omega) ?_ | refine wC (by omega) ?_ | refine wD (by omega) ?_ | refine wE ?_ ?_ | refine wF ?_ ?_ | refine wG ?_ ?_ | refine wH ?_ ?_ | refine wI ?_ ?_ | refine wJ ?_ ?_ | refine wK ?_ ?_ | refine wL ?_ ?_) <;> intro _) | simp (maxSteps := 1000000) (disch := omega) only [go_sem, seval, Ctr.pv, *])
      clear e2 g8 z8 b1 b2
      refine call_mut (rTerm_m hp.2 _ ctors[i].typ (Nat.le_refl _) hc2 hc4 (by omega) _ _) ?_
      rintro H9 m9 r9 ⟨hm9', ⟨id9, w9, x9, y9, rfl, z9⟩, k9'⟩ -
      have hm9 : m8 + 10 ≤ m9 := hm9'
      have x9 : m8 + 10 ≤ id9 := x9
      have g9 : H9 (m7 + 14) = some ⟨bC T8, false⟩ := (k9' (m7 + 14) (show m7 + 14 < m8 + 10 by omega)).trans (by simp [upd])
      have k9 : Kept (∀ j, j < nx → H9 j = H j) := fun j hj => (k9' j (show j < m8 + 10 by omega)).trans (by simp only [upd, show j ≠ m7 + 14 by omega, show j ≠ R7 by omega, if_false]; exact k8 j hj)
      obtain ⟨T9, hT9⟩ : ∃ T, Kept (T = T8 ++ ctors[i].typ.enc) := ⟨_, Kept.mk rfl⟩
      have e1 : T8.length + (ctors[i].typ.enc).length = T9.length := by rw [hT9.out, List.length_append]
      have e2 : bC T8 ++ bC (ctors[i].typ.enc) = bC T9 := by rw [hT9.out, bC_append]
      have b1 : T9.length ≤ 140737488355328 := by omega
      have b2 : T9.length ≤ 4611686018427387904 := by omega
      have n9 : m7 + 14 ≠ id9 := by omega
      clear k9' k8 hm9'
      repeat' (first | ((with_reducible first | refine wA (by omega) ?_ | refine wB (by omega) ?_ | refine wC (by omega) ?_ | refine wD (by omega) ?_ | refine wE ?_ ?_ | refine wF ?_ ?_ | refine wG ?_ ?_ | refine wH ?_ ?_ | refine wI ?_ ?_ | refine wJ ?_ ?_ | refine wK ?_ ?_ | refine wL ?_ ?_) <;> intro _) | simp (maxSteps := 1000000) (disch := omega) only [go_sem, seval, *])
      clear e2 g9 z9 b1 b2
      refine Nx.mk (ctors.length - (i + 1)) (by omega) ⟨i + 1, rfl, cE1, cE1, ?mm, ⟨m8 + 8, false, T9, by omega, ?lt, cE1, Kept.mk (by rw [hT9.out, hT8.out, hT7.out, hsn]; simp only [List.append_assoc]), by simp [upd]⟩, Kept.mk fun j hj => by simp only [upd, show j ≠ m8 + 8 by omega, show j ≠ m7 + 14 by omega, if_false]; exact k9 j hj⟩
      case mm => omega
      case lt => omega
    · obtain rfl : i = ctors.length := by omega
      have hT := hT7.out
      rw [List.take_length] at hT
      rw [hZ6.out, ← hT]
      clear hT hT7
      repeat' (first | ((with_reducible first | refine wA (by omega) ?_ | refine wB (by omega) ?_ | refine wC (by omega) ?_ | refine wD (by omega) ?_ | refine wE ?_ ?_ | refine wF ?_ ?_ | refine wG ?_ ?_ | refine wH ?_ ?_ | refine wI ?_ ?_ | refine wJ ?_ ?_ | refine wK ?_ ?_ | refine wL ?_ ?_) <;> intro _) | simp (maxSteps := 1000000) (disch := omega) only [go_sem, seval, *])
      exact fin_mut (.tup [.osl R7 0 T7.length 1, .sc (.bool true)]) (.inr rfl) cE2 ⟨by simp only [Nat.add_assoc]; exact Nat.le_trans hm7 (Nat.le_add_right _ _), ⟨R7, w7, x7, by simp only [Nat.add_assoc]; exact Nat.lt_of_lt_of_le y7 (Nat.le_add_right _ _), rfl, g7⟩, k7⟩
end
section
mutual
theorem Tm.formed_far {np : Int} : ∀ (t : Tm) (k k' : Int), 1099511627776 ≤ k → 1099511627776 ≤ k' → t.nearB = true → t.formed np k = t.formed np k'
  | .mk kind n s ls args, k, k', h, h', hn => by
    simp only [Tm.nearB, Bool.and_eq_true] at hn
    obtain ⟨hn1, hn2⟩ := hn
    unfold Tm.formed
    by_cases hk : kind = 1
    · have hlt : ¬ 1099511627776 ≤ n := fun e => by simp [hk, e] at hn1
      rw [if_pos hk, if_pos hk, decide_eq_true (show n < k by omega), decide_eq_true (show n < k' by omega)]
    · rw [if_neg hk, if_neg hk, formedA_far args k k' kind args.length 0 h h' hn2]
theorem formedA_far {np : Int} : ∀ (ts : List Tm) (k k' kind : Int) (len i : Nat), 1099511627776 ≤ k → 1099511627776 ≤ k' → nearA ts = true → formedA np k kind len i ts = formedA np k' kind len i ts
  | [], _, _, _, _, _, _, _, _ => rfl
  | x :: r, k, k', kind, len, i, h, h', hn => by
    simp only [nearA, Bool.and_eq_true] at hn
    have hd := deep_bd kind len i
    simp only [formedA]
    rw [Tm.formed_far x _ (k' + deepB kind len i) (by omega) (by omega) hn.1, formedA_far r k k' kind len (i + 1) h h' hn.2]
end
theorem Tm.packR_eq (t : Tm) : t.packR = t.packB := by
  unfold Tm.packR Tm.packB
  cases hn : t.nearB with
  | false => simp
  | true =>
    simp only [Tm.right]
    rw [Tm.formed_far t (min 1099511627776 1125899906842624) (min 1125899906842624 1125899906842624) (by decide) (by decide) hn]
    rfl
end
section
set_option maxRecDepth 20000
attribute [local go_sem] Nat.add_assoc id_ne id_ne' id_ne2 List.append_assoc pv_len pv_take pv_one tm_len tm_take tm_one dcl_len dcl_take dcl_oneA bC_len bC_one rowB_flatR
theorem whole_good (s : RS) (h : (wholeF s).2.bad = false) : s.bad = false := (term_step 2001 ⟨s.l, 0, s.bad⟩ (whole_rdy s)).good h
theorem whole_read {np : Int} (s : RS) (h : (wholeF s).2.bad = false) (hp : (wholeF s).1.packP np) : s.l = (wholeF s).1.enc ++ (wholeF s).2.l := term_read 2001 ⟨s.l, 0, s.bad⟩ (whole_rdy s) h hp
theorem ctors_read {np : Int} : ∀ (n : Nat) (s : RS), (repF ctorF n s).2.bad = false → (∀ c ∈ (repF ctorF n s).1, c.typ.packP np) → s.l = encCs (repF ctorF n s).1 ++ (repF ctorF n s).2.l ∧ s.bad = false
  | 0, s, h, _ => ⟨by simp [repF, encCs], h⟩
  | n + 1, s, h, hp => by
    have hb1 : (nameF (repF ctorF n s).2).2.bad = false := whole_good _ h
    have hb0 := nameF_bad _ hb1
    obtain ⟨i1, i2⟩ := ctors_read n s hb0 fun c hc => hp c (by simp only [repF]; exact List.mem_append_left _ hc)
    have i3 := nameF_read _ hb1
    have i4 := whole_read _ h (hp (ctorF (repF ctorF n s).2).1 (by simp [repF]))
    refine ⟨?_, i2⟩
    simp only [repF, encCs, List.flatMap_append, List.flatMap_cons, List.flatMap_nil, List.append_nil, List.append_assoc, Ctr.enc, ctorF]
    rw [← i4, ← i3]
    exact i1
theorem decl_read (s : RS) (h : (declF s).2.bad = false) (hf : (declF s).1.formed = true) : s.l = (declF s).1.enc ++ (declF s).2.l := by
  have hpk := (declF s).1.packP_of hf
  clear hf
  have N1 := numF_bad s
  have P1 := numF_read s
  have N2 := nameF_bad (numF s).2
  have P2 := nameF_read (numF s).2
  have N3 := numF_bad (nameF (numF s).2).2
  have P3 := numF_read (nameF (numF s).2).2
  have N4 := whole_good (numF (nameF (numF s).2).2).2
  have P4 := fun np => whole_read (np := np) (numF (nameF (numF s).2).2).2
  have N5 := whole_good (wholeF (numF (nameF (numF s).2).2).2).2
  have P5 := fun np => whole_read (np := np) (wholeF (numF (nameF (numF s).2).2).2).2
  have N6 := numF_bad (wholeF (numF (nameF (numF s).2).2).2).2
  have P6 := numF_read (wholeF (numF (nameF (numF s).2).2).2).2
  have N7 := numF_bad (numF (wholeF (numF (nameF (numF s).2).2).2).2).2
  have P7 := numF_read (numF (wholeF (numF (nameF (numF s).2).2).2).2).2
  have P8 := fun np => ctors_read (np := np) (min (numF (numF (wholeF (numF (nameF (numF s).2).2).2).2).2).1 9) (numF (numF (wholeF (numF (nameF (numF s).2).2).2).2).2).2
  have hlen := repF_len ctorF (min (numF (numF (wholeF (numF (nameF (numF s).2).2).2).2).2).1 9) (numF (numF (wholeF (numF (nameF (numF s).2).2).2).2).2).2
  unfold declF at h hpk ⊢
  generalize numF s = q1 at *
  generalize nameF q1.2 = q2 at *
  generalize numF q2.2 = q3 at *
  generalize wholeF q3.2 = q4 at *
  generalize wholeF q4.2 = q5 at *
  generalize numF q4.2 = q6 at *
  generalize numF q6.2 = q7 at *
  generalize repF ctorF (min q7.1 9) q7.2 = q8 at *
  by_cases k1 : q1.1 = 2 ∨ q1.1 = 3 ∨ q1.1 = 4
  · rw [if_pos k1] at h hpk ⊢
    simp only at h ⊢
    have b4 := N5 h
    have b3 := N4 b4
    have b2 := (N3 b3).1
    have b1 := N2 b2
    have r1 := (P1 b1).1
    have r2 := P2 b2
    have r3 := (P3 b3).1
    have r4 := P4 _ b4 hpk.typ.1
    have r5 := P5 _ h (hpk.val (by show ((q1.1 : Nat) : Int) = 2 ∨ ((q1.1 : Nat) : Int) = 3 ∨ ((q1.1 : Nat) : Int) = 4; omega)).1
    simp only [Dcl.enc, Int.toNat_natCast]
    rw [if_pos (by omega)]
    simp only [List.append_assoc]
    rw [← r5, ← r4, ← r3, ← r2]
    exact r1
  · rw [if_neg k1] at h hpk ⊢
    by_cases k5 : q1.1 = 5
    · rw [if_pos k5] at h hpk ⊢
      simp only at h ⊢
      obtain ⟨h1, h2, h3⟩ := hpk.ind (by show ((q1.1 : Nat) : Int) = 5; omega)
      obtain ⟨r7, b6⟩ := P8 ((q3.1 : Nat) : Int) h fun c hc => (h3 c hc).2.1
      have b5 := (N7 b6).1
      have b4 := (N6 b5).1
      have b3 := N4 b4
      have b2 := (N3 b3).1
      have b1 := N2 b2
      have r1 := (P1 b1).1
      have r2 := P2 b2
      have r3 := (P3 b3).1
      have r4 := P4 _ b4 hpk.typ.1
      have r5 := (P6 b5).1
      have r6 := (P7 b6).1
      have hmin : min q7.1 9 = q7.1 := by
        have h2' : q8.1.length ≤ 8 := h2
        rw [hlen] at h2'
        omega
      simp only [Dcl.enc, Int.toNat_natCast]
      rw [if_neg (by omega), if_pos (by omega), hlen, hmin]
      simp only [List.append_assoc]
      rw [← r7, ← r6, ← r5, ← r4, ← r3, ← r2]
      exact r1
    · rw [if_neg k5] at h hpk ⊢
      simp only at h ⊢
      have b3 := N4 h
      have b2 := (N3 b3).1
      have b1 := N2 b2
      have r1 := (P1 b1).1
      have r2 := P2 b2
      have r3 := (P3 b3).1
      have r4 := P4 _ h hpk.typ.1
      simp only [Dcl.enc, Int.toNat_natCast]
      rw [if_neg (by omega), if_neg (by omega)]
      simp only [List.append_assoc, List.nil_append]
      rw [← r4, ← r3, ← r2]
      exact r1
theorem lv_one8 (b : List UInt8) (h : takeLevelB b = true) : (takeLevelF b).1.right 4 = true ∧ b = (takeLevelF b).1.enc ++ (takeLevelF b).2.l := by
  simp only [takeLevelB, Bool.and_eq_true, Bool.not_eq_true'] at h
  exact ⟨h.1, level_read 2001 ⟨b, 0, false⟩ (begin_rdy b) h.2⟩
theorem tm_one8 (b : List UInt8) (h : takeTermB b = true) : (takeTermF b).1.packB = true ∧ b = (takeTermF b).1.enc ++ (takeTermF b).2.l := by
  simp only [takeTermB, Bool.and_eq_true, Bool.not_eq_true'] at h
  exact ⟨h.1, term_read 2001 ⟨b, 0, false⟩ (begin_rdy b) h.2 ((takeTermF b).1.packB_P h.1).1⟩
theorem dc_one8 (b : List UInt8) (h : takeDeclB b = true) : (takeDeclF b).1.formed = true ∧ b = (takeDeclF b).1.enc ++ (takeDeclF b).2.l := by
  simp only [takeDeclB, Bool.and_eq_true, Bool.not_eq_true'] at h
  exact ⟨h.1, decl_read ⟨b, 0, false⟩ h.2 h.1⟩
theorem sb_eq {a b : List UInt8} (h : b = a) : PPure Try.prog F.ref00_SameBytes [rowB a, rowB b] (.sc (.bool true)) := by
  have h1 := SameBytes_p a b
  rwa [decide_eq_true h.symm] at h1
set_option maxHeartbeats 32000000 in
theorem PackOne_p (b : List UInt8) : PPure Try.prog F.law08_PackOne [rowB b] (.sc (.bool true)) := by
  have c0 := alive08_p
  by_cases g4 : 5000 < b.length
  · refine pure_by is_law08_PackOne (by simp) rfl fun hbn nx => ?_
    clear hbn
    repeat' (first | ((with_reducible first | refine wA (by omega) ?_ | refine wB (by omega) ?_ | refine wC (by omega) ?_ | refine wD (by omega) ?_ | refine wE ?_ ?_ | refine wF ?_ ?_ | refine wG ?_ ?_ | refine wH ?_ ?_ | refine wI ?_ ?_ | refine wJ ?_ ?_ | refine wK ?_ ?_ | refine wL ?_ ?_) <;> intro _) | (((with_reducible refine call_id ?_); (first | (refine call_pure (c0) ?_)))) | simp (maxSteps := 1000000) (disch := omega) only [go_sem, seval, mc_law08_PackOne, rowB, *])
    all_goals (exact fin_tmp (.inr rfl) cE3)
  have c4 := TakeLevel_p b (by omega)
  have c5 := TakeTerm_p b (by omega)
  have c6 := TakeDecl_p b (by omega)
  have cz : PPure Try.prog F.ref00_SameDecl [.agg (Dcl.mk 0 0 noStr (.mk 0 0 noStr [] []) (.mk 0 0 noStr [] []) 0 []).pv, .agg [.sc (.int .i64 0), .sc (.int .i64 0), .sc (.string ⟨#[]⟩), .sc (.int .i64 0), .sc (.int .i64 0), .sc (.string ⟨#[]⟩), .sc (.slice none 0 0), .sc (.slice none 0 0), .sc (.int .i64 0), .sc (.int .i64 0), .sc (.string ⟨#[]⟩), .sc (.slice none 0 0), .sc (.slice none 0 0), .sc (.int .i64 0), .sc (.slice none 0 0)]] (.sc (.bool true)) := (SameDecl_p _).weak ⟨.refl _, Weak.agg dcl0_weak, trivial⟩ (.refl _)
  have oL := lv_one8 b
  have oT := tm_one8 b
  have oD := dc_one8 b
  generalize (takeLevelF b).1 = x at *
  generalize (takeLevelF b).2.l = xr at *
  generalize (takeTermF b).1 = t at *
  generalize (takeTermF b).2.l = tr at *
  generalize (takeDeclF b).1 = d at *
  generalize (takeDeclF b).2.l = dr at *
  refine pure_by is_law08_PackOne (by simp) rfl fun hbn nx => ?_
  clear hbn
  cases hl : takeLevelB b with
  | false =>
    cases ht : takeTermB b with
    | false =>
      cases hd : takeDeclB b with
      | false =>
        rw [hl] at c4
        rw [ht] at c5
        rw [hd] at c6
        clear hl ht hd oL oT oD
        repeat' (first | ((with_reducible first | refine wA (by omega) ?_ | refine wB (by omega) ?_ | refine wC (by omega) ?_ | refine wD (by omega) ?_ | refine wE ?_ ?_ | refine wF ?_ ?_ | refine wG ?_ ?_ | refine wH ?_ ?_ | refine wI ?_ ?_ | refine wJ ?_ ?_ | refine wK ?_ ?_ | refine wL ?_ ?_) <;> intro _) | (((with_reducible refine call_id ?_); (first | (refine call_pure (c0) ?_) | (refine call_pure (c4) ?_) | (refine call_pure (c5) ?_) | (refine call_pure (c6) ?_) | (refine call_pure (cz) ?_)))) | simp (maxSteps := 1000000) (disch := omega) only [go_sem, seval, mc_law08_PackOne, takeV, rowB, *])
        all_goals (exact fin_tmp (.inr rfl) cE3)
      | true =>
        rw [hl] at c4
        rw [ht] at c5
        rw [hd] at c6
        obtain ⟨pd, ed'⟩ := oD hd
        have ed := Kept.mk ed'
        clear ed'
        clear hl ht hd oL oT oD
        repeat' (first | ((with_reducible first | refine wA (by omega) ?_ | refine wB (by omega) ?_ | refine wC (by omega) ?_ | refine wD (by omega) ?_ | refine wE ?_ ?_ | refine wF ?_ ?_ | refine wG ?_ ?_ | refine wH ?_ ?_ | refine wI ?_ ?_ | refine wJ ?_ ?_ | refine wK ?_ ?_ | refine wL ?_ ?_) <;> intro _) | (((with_reducible refine call_id ?_); (first | (refine call_pure (c0) ?_) | (refine call_pure (c4) ?_) | (refine call_pure (c5) ?_) | (refine call_pure (c6) ?_) | (refine call_pure (cz) ?_)))) | simp (maxSteps := 1000000) (disch := omega) only [go_sem, seval, mc_law08_PackOne, takeV, rowB, *])
        refine call_mut (rDecl_m d pd _ _) ?_
        rintro H1 m1 r1 ⟨hm1, ⟨id, w, j1, j2, rfl, j3⟩, -⟩ -
        clear hm1 j1 j2
        have hlen : (d.enc ++ dr).length = d.enc.length + dr.length := List.length_append
        have b1 : d.enc.length + dr.length ≤ 140737488355328 ∧ d.enc.length + dr.length ≤ 4611686018427387904 := by rw [← hlen, ← ed.out]; omega
        repeat' (first | ((with_reducible first | refine wA (by omega) ?_ | refine wB (by omega) ?_ | refine wC (by omega) ?_ | refine wD (by omega) ?_ | refine wE ?_ ?_ | refine wF ?_ ?_ | refine wG ?_ ?_ | refine wH ?_ ?_ | refine wI ?_ ?_ | refine wJ ?_ ?_ | refine wK ?_ ?_ | refine wL ?_ ?_) <;> intro _) | simp (maxSteps := 1000000) (disch := omega) only [go_sem, seval, rowB, *])
        refine call_lend (sb_eq ed.out) ?_ (by simp [immL, rowB_imm]) rfl ?_
        · simp only [List.map_cons, List.map_nil]
          rw [← hlen, brw_bC (w := false) (by simp [upd, bC_append])]
          rfl
        clear j3 b1
        repeat' (first | ((with_reducible first | refine wA (by omega) ?_ | refine wB (by omega) ?_ | refine wC (by omega) ?_ | refine wD (by omega) ?_ | refine wE ?_ ?_ | refine wF ?_ ?_ | refine wG ?_ ?_ | refine wH ?_ ?_ | refine wI ?_ ?_ | refine wJ ?_ ?_ | refine wK ?_ ?_ | refine wL ?_ ?_) <;> intro _) | (((with_reducible refine call_id ?_); (first | (refine call_pure (cz) ?_)))) | simp (maxSteps := 1000000) (disch := omega) only [go_sem, seval, takeV, rowB, *])
        all_goals (exact fin_tmp (.inr rfl) cE3)
    | true =>
      cases hd : takeDeclB b with
      | false =>
        rw [hl] at c4
        rw [ht] at c5
        rw [hd] at c6
        obtain ⟨pt, et'⟩ := oT ht
        have et := Kept.mk et'
        clear et'
        rw [← Tm.packR_eq] at pt
        clear hl ht hd oL oT oD
        repeat' (first | ((with_reducible first | refine wA (by omega) ?_ | refine wB (by omega) ?_ | refine wC (by omega) ?_ | refine wD (by omega) ?_ | refine wE ?_ ?_ | refine wF ?_ ?_ | refine wG ?_ ?_ | refine wH ?_ ?_ | refine wI ?_ ?_ | refine wJ ?_ ?_ | refine wK ?_ ?_ | refine wL ?_ ?_) <;> intro _) | (((with_reducible refine call_id ?_); (first | (refine call_pure (c0) ?_) | (refine call_pure (c4) ?_) | (refine call_pure (c5) ?_) | (refine call_pure (c6) ?_) | (refine call_pure (cz) ?_)))) | simp (maxSteps := 1000000) (disch := omega) only [go_sem, seval, mc_law08_PackOne, takeV, rowB, *])
        refine call_mut (rTermT_m t pt _ _) ?_
        rintro H1 m1 r1 ⟨hm1, ⟨id, w, j1, j2, rfl, j3⟩, -⟩ -
        clear hm1 j1 j2
        have hlen : (t.enc ++ tr).length = t.enc.length + tr.length := List.length_append
        have b1 : t.enc.length + tr.length ≤ 140737488355328 ∧ t.enc.length + tr.length ≤ 4611686018427387904 := by rw [← hlen, ← et.out]; omega
        repeat' (first | ((with_reducible first | refine wA (by omega) ?_ | refine wB (by omega) ?_ | refine wC (by omega) ?_ | refine wD (by omega) ?_ | refine wE ?_ ?_ | refine wF ?_ ?_ | refine wG ?_ ?_ | refine wH ?_ ?_ | refine wI ?_ ?_ | refine wJ ?_ ?_ | refine wK ?_ ?_ | refine wL ?_ ?_) <;> intro _) | simp (maxSteps := 1000000) (disch := omega) only [go_sem, seval, rowB, *])
        refine call_lend (sb_eq et.out) ?_ (by simp [immL, rowB_imm]) rfl ?_
        · simp only [List.map_cons, List.map_nil]
          rw [← hlen, brw_bC (w := false) (by simp [upd, bC_append])]
          rfl
        clear j3 b1
        repeat' (first | ((with_reducible first | refine wA (by omega) ?_ | refine wB (by omega) ?_ | refine wC (by omega) ?_ | refine wD (by omega) ?_ | refine wE ?_ ?_ | refine wF ?_ ?_ | refine wG ?_ ?_ | refine wH ?_ ?_ | refine wI ?_ ?_ | refine wJ ?_ ?_ | refine wK ?_ ?_ | refine wL ?_ ?_) <;> intro _) | (((with_reducible refine call_id ?_); (first | (refine call_pure (c6) ?_) | (refine call_pure (cz) ?_)))) | simp (maxSteps := 1000000) (disch := omega) only [go_sem, seval, takeV, rowB, *])
        all_goals (exact fin_tmp (.inr rfl) cE3)
      | true =>
        rw [hl] at c4
        rw [ht] at c5
        rw [hd] at c6
        obtain ⟨pt, et'⟩ := oT ht
        have et := Kept.mk et'
        clear et'
        rw [← Tm.packR_eq] at pt
        obtain ⟨pd, ed'⟩ := oD hd
        have ed := Kept.mk ed'
        clear ed'
        clear hl ht hd oL oT oD
        repeat' (first | ((with_reducible first | refine wA (by omega) ?_ | refine wB (by omega) ?_ | refine wC (by omega) ?_ | refine wD (by omega) ?_ | refine wE ?_ ?_ | refine wF ?_ ?_ | refine wG ?_ ?_ | refine wH ?_ ?_ | refine wI ?_ ?_ | refine wJ ?_ ?_ | refine wK ?_ ?_ | refine wL ?_ ?_) <;> intro _) | (((with_reducible refine call_id ?_); (first | (refine call_pure (c0) ?_) | (refine call_pure (c4) ?_) | (refine call_pure (c5) ?_) | (refine call_pure (c6) ?_) | (refine call_pure (cz) ?_)))) | simp (maxSteps := 1000000) (disch := omega) only [go_sem, seval, mc_law08_PackOne, takeV, rowB, *])
        refine call_mut (rTermT_m t pt _ _) ?_
        rintro H1 m1 r1 ⟨hm1, ⟨id, w, j1, j2, rfl, j3⟩, -⟩ -
        clear hm1 j1 j2
        have hlen : (t.enc ++ tr).length = t.enc.length + tr.length := List.length_append
        have b1 : t.enc.length + tr.length ≤ 140737488355328 ∧ t.enc.length + tr.length ≤ 4611686018427387904 := by rw [← hlen, ← et.out]; omega
        repeat' (first | ((with_reducible first | refine wA (by omega) ?_ | refine wB (by omega) ?_ | refine wC (by omega) ?_ | refine wD (by omega) ?_ | refine wE ?_ ?_ | refine wF ?_ ?_ | refine wG ?_ ?_ | refine wH ?_ ?_ | refine wI ?_ ?_ | refine wJ ?_ ?_ | refine wK ?_ ?_ | refine wL ?_ ?_) <;> intro _) | simp (maxSteps := 1000000) (disch := omega) only [go_sem, seval, rowB, *])
        refine call_lend (sb_eq et.out) ?_ (by simp [immL, rowB_imm]) rfl ?_
        · simp only [List.map_cons, List.map_nil]
          rw [← hlen, brw_bC (w := false) (by simp [upd, bC_append])]
          rfl
        clear j3 b1
        repeat' (first | ((with_reducible first | refine wA (by omega) ?_ | refine wB (by omega) ?_ | refine wC (by omega) ?_ | refine wD (by omega) ?_ | refine wE ?_ ?_ | refine wF ?_ ?_ | refine wG ?_ ?_ | refine wH ?_ ?_ | refine wI ?_ ?_ | refine wJ ?_ ?_ | refine wK ?_ ?_ | refine wL ?_ ?_) <;> intro _) | (((with_reducible refine call_id ?_); (first | (refine call_pure (c6) ?_) | (refine call_pure (cz) ?_)))) | simp (maxSteps := 1000000) (disch := omega) only [go_sem, seval, takeV, rowB, *])
        refine call_mut (rDecl_m d pd _ _) ?_
        rintro H1 m1 r1 ⟨hm1, ⟨id, w, j1, j2, rfl, j3⟩, -⟩ -
        clear hm1 j1 j2
        have hlen : (d.enc ++ dr).length = d.enc.length + dr.length := List.length_append
        have b1 : d.enc.length + dr.length ≤ 140737488355328 ∧ d.enc.length + dr.length ≤ 4611686018427387904 := by rw [← hlen, ← ed.out]; omega
        repeat' (first | ((with_reducible first | refine wA (by omega) ?_ | refine wB (by omega) ?_ | refine wC (by omega) ?_ | refine wD (by omega) ?_ | refine wE ?_ ?_ | refine wF ?_ ?_ | refine wG ?_ ?_ | refine wH ?_ ?_ | refine wI ?_ ?_ | refine wJ ?_ ?_ | refine wK ?_ ?_ | refine wL ?_ ?_) <;> intro _) | simp (maxSteps := 1000000) (disch := omega) only [go_sem, seval, rowB, *])
        refine call_lend (sb_eq ed.out) ?_ (by simp [immL, rowB_imm]) rfl ?_
        · simp only [List.map_cons, List.map_nil]
          rw [← hlen, brw_bC (w := false) (by simp [upd, bC_append])]
          rfl
        clear j3 b1
        repeat' (first | ((with_reducible first | refine wA (by omega) ?_ | refine wB (by omega) ?_ | refine wC (by omega) ?_ | refine wD (by omega) ?_ | refine wE ?_ ?_ | refine wF ?_ ?_ | refine wG ?_ ?_ | refine wH ?_ ?_ | refine wI ?_ ?_ | refine wJ ?_ ?_ | refine wK ?_ ?_ | refine wL ?_ ?_) <;> intro _) | (((with_reducible refine call_id ?_); (first | (refine call_pure (cz) ?_)))) | simp (maxSteps := 1000000) (disch := omega) only [go_sem, seval, takeV, rowB, *])
        all_goals (exact fin_tmp (.inr rfl) cE3)
  | true =>
    cases ht : takeTermB b with
    | false =>
      cases hd : takeDeclB b with
      | false =>
        rw [hl] at c4
        rw [ht] at c5
        rw [hd] at c6
        obtain ⟨pl, el'⟩ := oL hl
        have el := Kept.mk el'
        clear el'
        clear hl ht hd oL oT oD
        repeat' (first | ((with_reducible first | refine wA (by omega) ?_ | refine wB (by omega) ?_ | refine wC (by omega) ?_ | refine wD (by omega) ?_ | refine wE ?_ ?_ | refine wF ?_ ?_ | refine wG ?_ ?_ | refine wH ?_ ?_ | refine wI ?_ ?_ | refine wJ ?_ ?_ | refine wK ?_ ?_ | refine wL ?_ ?_) <;> intro _) | (((with_reducible refine call_id ?_); (first | (refine call_pure (c0) ?_) | (refine call_pure (c4) ?_) | (refine call_pure (c5) ?_) | (refine call_pure (c6) ?_) | (refine call_pure (cz) ?_)))) | simp (maxSteps := 1000000) (disch := omega) only [go_sem, seval, mc_law08_PackOne, takeV, rowB, *])
        refine call_mut (rLevelT_m x pl _ _) ?_
        rintro H1 m1 r1 ⟨hm1, ⟨id, w, j1, j2, rfl, j3⟩, -⟩ -
        clear hm1 j1 j2
        have hlen : (x.enc ++ xr).length = x.enc.length + xr.length := List.length_append
        have b1 : x.enc.length + xr.length ≤ 140737488355328 ∧ x.enc.length + xr.length ≤ 4611686018427387904 := by rw [← hlen, ← el.out]; omega
        repeat' (first | ((with_reducible first | refine wA (by omega) ?_ | refine wB (by omega) ?_ | refine wC (by omega) ?_ | refine wD (by omega) ?_ | refine wE ?_ ?_ | refine wF ?_ ?_ | refine wG ?_ ?_ | refine wH ?_ ?_ | refine wI ?_ ?_ | refine wJ ?_ ?_ | refine wK ?_ ?_ | refine wL ?_ ?_) <;> intro _) | simp (maxSteps := 1000000) (disch := omega) only [go_sem, seval, rowB, *])
        refine call_lend (sb_eq el.out) ?_ (by simp [immL, rowB_imm]) rfl ?_
        · simp only [List.map_cons, List.map_nil]
          rw [← hlen, brw_bC (w := false) (by simp [upd, bC_append])]
          rfl
        clear j3 b1
        repeat' (first | ((with_reducible first | refine wA (by omega) ?_ | refine wB (by omega) ?_ | refine wC (by omega) ?_ | refine wD (by omega) ?_ | refine wE ?_ ?_ | refine wF ?_ ?_ | refine wG ?_ ?_ | refine wH ?_ ?_ | refine wI ?_ ?_ | refine wJ ?_ ?_ | refine wK ?_ ?_ | refine wL ?_ ?_) <;> intro _) | (((with_reducible refine call_id ?_); (first | (refine call_pure (c5) ?_) | (refine call_pure (c6) ?_) | (refine call_pure (cz) ?_)))) | simp (maxSteps := 1000000) (disch := omega) only [go_sem, seval, takeV, rowB, *])
        all_goals (exact fin_tmp (.inr rfl) cE3)
      | true =>
        rw [hl] at c4
        rw [ht] at c5
        rw [hd] at c6
        obtain ⟨pl, el'⟩ := oL hl
        have el := Kept.mk el'
        clear el'
        obtain ⟨pd, ed'⟩ := oD hd
        have ed := Kept.mk ed'
        clear ed'
        clear hl ht hd oL oT oD
        repeat' (first | ((with_reducible first | refine wA (by omega) ?_ | refine wB (by omega) ?_ | refine wC (by omega) ?_ | refine wD (by omega) ?_ | refine wE ?_ ?_ | refine wF ?_ ?_ | refine wG ?_ ?_ | refine wH ?_ ?_ | refine wI ?_ ?_ | refine wJ ?_ ?_ | refine wK ?_ ?_ | refine wL ?_ ?_) <;> intro _) | (((with_reducible refine call_id ?_); (first | (refine call_pure (c0) ?_) | (refine call_pure (c4) ?_) | (refine call_pure (c5) ?_) | (refine call_pure (c6) ?_) | (refine call_pure (cz) ?_)))) | simp (maxSteps := 1000000) (disch := omega) only [go_sem, seval, mc_law08_PackOne, takeV, rowB, *])
        refine call_mut (rLevelT_m x pl _ _) ?_
        rintro H1 m1 r1 ⟨hm1, ⟨id, w, j1, j2, rfl, j3⟩, -⟩ -
        clear hm1 j1 j2
        have hlen : (x.enc ++ xr).length = x.enc.length + xr.length := List.length_append
        have b1 : x.enc.length + xr.length ≤ 140737488355328 ∧ x.enc.length + xr.length ≤ 4611686018427387904 := by rw [← hlen, ← el.out]; omega
        repeat' (first | ((with_reducible first | refine wA (by omega) ?_ | refine wB (by omega) ?_ | refine wC (by omega) ?_ | refine wD (by omega) ?_ | refine wE ?_ ?_ | refine wF ?_ ?_ | refine wG ?_ ?_ | refine wH ?_ ?_ | refine wI ?_ ?_ | refine wJ ?_ ?_ | refine wK ?_ ?_ | refine wL ?_ ?_) <;> intro _) | simp (maxSteps := 1000000) (disch := omega) only [go_sem, seval, rowB, *])
        refine call_lend (sb_eq el.out) ?_ (by simp [immL, rowB_imm]) rfl ?_
        · simp only [List.map_cons, List.map_nil]
          rw [← hlen, brw_bC (w := false) (by simp [upd, bC_append])]
          rfl
        clear j3 b1
        repeat' (first | ((with_reducible first | refine wA (by omega) ?_ | refine wB (by omega) ?_ | refine wC (by omega) ?_ | refine wD (by omega) ?_ | refine wE ?_ ?_ | refine wF ?_ ?_ | refine wG ?_ ?_ | refine wH ?_ ?_ | refine wI ?_ ?_ | refine wJ ?_ ?_ | refine wK ?_ ?_ | refine wL ?_ ?_) <;> intro _) | (((with_reducible refine call_id ?_); (first | (refine call_pure (c5) ?_) | (refine call_pure (c6) ?_) | (refine call_pure (cz) ?_)))) | simp (maxSteps := 1000000) (disch := omega) only [go_sem, seval, takeV, rowB, *])
        refine call_mut (rDecl_m d pd _ _) ?_
        rintro H1 m1 r1 ⟨hm1, ⟨id, w, j1, j2, rfl, j3⟩, -⟩ -
        clear hm1 j1 j2
        have hlen : (d.enc ++ dr).length = d.enc.length + dr.length := List.length_append
        have b1 : d.enc.length + dr.length ≤ 140737488355328 ∧ d.enc.length + dr.length ≤ 4611686018427387904 := by rw [← hlen, ← ed.out]; omega
        repeat' (first | ((with_reducible first | refine wA (by omega) ?_ | refine wB (by omega) ?_ | refine wC (by omega) ?_ | refine wD (by omega) ?_ | refine wE ?_ ?_ | refine wF ?_ ?_ | refine wG ?_ ?_ | refine wH ?_ ?_ | refine wI ?_ ?_ | refine wJ ?_ ?_ | refine wK ?_ ?_ | refine wL ?_ ?_) <;> intro _) | simp (maxSteps := 1000000) (disch := omega) only [go_sem, seval, rowB, *])
        refine call_lend (sb_eq ed.out) ?_ (by simp [immL, rowB_imm]) rfl ?_
        · simp only [List.map_cons, List.map_nil]
          rw [← hlen, brw_bC (w := false) (by simp [upd, bC_append])]
          rfl
        clear j3 b1
        repeat' (first | ((with_reducible first | refine wA (by omega) ?_ | refine wB (by omega) ?_ | refine wC (by omega) ?_ | refine wD (by omega) ?_ | refine wE ?_ ?_ | refine wF ?_ ?_ | refine wG ?_ ?_ | refine wH ?_ ?_ | refine wI ?_ ?_ | refine wJ ?_ ?_ | refine wK ?_ ?_ | refine wL ?_ ?_) <;> intro _) | (((with_reducible refine call_id ?_); (first | (refine call_pure (cz) ?_)))) | simp (maxSteps := 1000000) (disch := omega) only [go_sem, seval, takeV, rowB, *])
        all_goals (exact fin_tmp (.inr rfl) cE3)
    | true =>
      cases hd : takeDeclB b with
      | false =>
        rw [hl] at c4
        rw [ht] at c5
        rw [hd] at c6
        obtain ⟨pl, el'⟩ := oL hl
        have el := Kept.mk el'
        clear el'
        obtain ⟨pt, et'⟩ := oT ht
        have et := Kept.mk et'
        clear et'
        rw [← Tm.packR_eq] at pt
        clear hl ht hd oL oT oD
        repeat' (first | ((with_reducible first | refine wA (by omega) ?_ | refine wB (by omega) ?_ | refine wC (by omega) ?_ | refine wD (by omega) ?_ | refine wE ?_ ?_ | refine wF ?_ ?_ | refine wG ?_ ?_ | refine wH ?_ ?_ | refine wI ?_ ?_ | refine wJ ?_ ?_ | refine wK ?_ ?_ | refine wL ?_ ?_) <;> intro _) | (((with_reducible refine call_id ?_); (first | (refine call_pure (c0) ?_) | (refine call_pure (c4) ?_) | (refine call_pure (c5) ?_) | (refine call_pure (c6) ?_) | (refine call_pure (cz) ?_)))) | simp (maxSteps := 1000000) (disch := omega) only [go_sem, seval, mc_law08_PackOne, takeV, rowB, *])
        refine call_mut (rLevelT_m x pl _ _) ?_
        rintro H1 m1 r1 ⟨hm1, ⟨id, w, j1, j2, rfl, j3⟩, -⟩ -
        clear hm1 j1 j2
        have hlen : (x.enc ++ xr).length = x.enc.length + xr.length := List.length_append
        have b1 : x.enc.length + xr.length ≤ 140737488355328 ∧ x.enc.length + xr.length ≤ 4611686018427387904 := by rw [← hlen, ← el.out]; omega
        repeat' (first | ((with_reducible first | refine wA (by omega) ?_ | refine wB (by omega) ?_ | refine wC (by omega) ?_ | refine wD (by omega) ?_ | refine wE ?_ ?_ | refine wF ?_ ?_ | refine wG ?_ ?_ | refine wH ?_ ?_ | refine wI ?_ ?_ | refine wJ ?_ ?_ | refine wK ?_ ?_ | refine wL ?_ ?_) <;> intro _) | simp (maxSteps := 1000000) (disch := omega) only [go_sem, seval, rowB, *])
        refine call_lend (sb_eq el.out) ?_ (by simp [immL, rowB_imm]) rfl ?_
        · simp only [List.map_cons, List.map_nil]
          rw [← hlen, brw_bC (w := false) (by simp [upd, bC_append])]
          rfl
        clear j3 b1
        repeat' (first | ((with_reducible first | refine wA (by omega) ?_ | refine wB (by omega) ?_ | refine wC (by omega) ?_ | refine wD (by omega) ?_ | refine wE ?_ ?_ | refine wF ?_ ?_ | refine wG ?_ ?_ | refine wH ?_ ?_ | refine wI ?_ ?_ | refine wJ ?_ ?_ | refine wK ?_ ?_ | refine wL ?_ ?_) <;> intro _) | (((with_reducible refine call_id ?_); (first | (refine call_pure (c5) ?_) | (refine call_pure (c6) ?_) | (refine call_pure (cz) ?_)))) | simp (maxSteps := 1000000) (disch := omega) only [go_sem, seval, takeV, rowB, *])
        refine call_mut (rTermT_m t pt _ _) ?_
        rintro H1 m1 r1 ⟨hm1, ⟨id, w, j1, j2, rfl, j3⟩, -⟩ -
        clear hm1 j1 j2
        have hlen : (t.enc ++ tr).length = t.enc.length + tr.length := List.length_append
        have b1 : t.enc.length + tr.length ≤ 140737488355328 ∧ t.enc.length + tr.length ≤ 4611686018427387904 := by rw [← hlen, ← et.out]; omega
        repeat' (first | ((with_reducible first | refine wA (by omega) ?_ | refine wB (by omega) ?_ | refine wC (by omega) ?_ | refine wD (by omega) ?_ | refine wE ?_ ?_ | refine wF ?_ ?_ | refine wG ?_ ?_ | refine wH ?_ ?_ | refine wI ?_ ?_ | refine wJ ?_ ?_ | refine wK ?_ ?_ | refine wL ?_ ?_) <;> intro _) | simp (maxSteps := 1000000) (disch := omega) only [go_sem, seval, rowB, *])
        refine call_lend (sb_eq et.out) ?_ (by simp [immL, rowB_imm]) rfl ?_
        · simp only [List.map_cons, List.map_nil]
          rw [← hlen, brw_bC (w := false) (by simp [upd, bC_append])]
          rfl
        clear j3 b1
        repeat' (first | ((with_reducible first | refine wA (by omega) ?_ | refine wB (by omega) ?_ | refine wC (by omega) ?_ | refine wD (by omega) ?_ | refine wE ?_ ?_ | refine wF ?_ ?_ | refine wG ?_ ?_ | refine wH ?_ ?_ | refine wI ?_ ?_ | refine wJ ?_ ?_ | refine wK ?_ ?_ | refine wL ?_ ?_) <;> intro _) | (((with_reducible refine call_id ?_); (first | (refine call_pure (c6) ?_) | (refine call_pure (cz) ?_)))) | simp (maxSteps := 1000000) (disch := omega) only [go_sem, seval, takeV, rowB, *])
        all_goals (exact fin_tmp (.inr rfl) cE3)
      | true =>
        rw [hl] at c4
        rw [ht] at c5
        rw [hd] at c6
        obtain ⟨pl, el'⟩ := oL hl
        have el := Kept.mk el'
        clear el'
        obtain ⟨pt, et'⟩ := oT ht
        have et := Kept.mk et'
        clear et'
        rw [← Tm.packR_eq] at pt
        obtain ⟨pd, ed'⟩ := oD hd
        have ed := Kept.mk ed'
        clear ed'
        clear hl ht hd oL oT oD
        repeat' (first | ((with_reducible first | refine wA (by omega) ?_ | refine wB (by omega) ?_ | refine wC (by omega) ?_ | refine wD (by omega) ?_ | refine wE ?_ ?_ | refine wF ?_ ?_ | refine wG ?_ ?_ | refine wH ?_ ?_ | refine wI ?_ ?_ | refine wJ ?_ ?_ | refine wK ?_ ?_ | refine wL ?_ ?_) <;> intro _) | (((with_reducible refine call_id ?_); (first | (refine call_pure (c0) ?_) | (refine call_pure (c4) ?_) | (refine call_pure (c5) ?_) | (refine call_pure (c6) ?_) | (refine call_pure (cz) ?_)))) | simp (maxSteps := 1000000) (disch := omega) only [go_sem, seval, mc_law08_PackOne, takeV, rowB, *])
        refine call_mut (rLevelT_m x pl _ _) ?_
        rintro H1 m1 r1 ⟨hm1, ⟨id, w, j1, j2, rfl, j3⟩, -⟩ -
        clear hm1 j1 j2
        have hlen : (x.enc ++ xr).length = x.enc.length + xr.length := List.length_append
        have b1 : x.enc.length + xr.length ≤ 140737488355328 ∧ x.enc.length + xr.length ≤ 4611686018427387904 := by rw [← hlen, ← el.out]; omega
        repeat' (first | ((with_reducible first | refine wA (by omega) ?_ | refine wB (by omega) ?_ | refine wC (by omega) ?_ | refine wD (by omega) ?_ | refine wE ?_ ?_ | refine wF ?_ ?_ | refine wG ?_ ?_ | refine wH ?_ ?_ | refine wI ?_ ?_ | refine wJ ?_ ?_ | refine wK ?_ ?_ | refine wL ?_ ?_) <;> intro _) | simp (maxSteps := 1000000) (disch := omega) only [go_sem, seval, rowB, *])
        refine call_lend (sb_eq el.out) ?_ (by simp [immL, rowB_imm]) rfl ?_
        · simp only [List.map_cons, List.map_nil]
          rw [← hlen, brw_bC (w := false) (by simp [upd, bC_append])]
          rfl
        clear j3 b1
        repeat' (first | ((with_reducible first | refine wA (by omega) ?_ | refine wB (by omega) ?_ | refine wC (by omega) ?_ | refine wD (by omega) ?_ | refine wE ?_ ?_ | refine wF ?_ ?_ | refine wG ?_ ?_ | refine wH ?_ ?_ | refine wI ?_ ?_ | refine wJ ?_ ?_ | refine wK ?_ ?_ | refine wL ?_ ?_) <;> intro _) | (((with_reducible refine call_id ?_); (first | (refine call_pure (c5) ?_) | (refine call_pure (c6) ?_) | (refine call_pure (cz) ?_)))) | simp (maxSteps := 1000000) (disch := omega) only [go_sem, seval, takeV, rowB, *])
        refine call_mut (rTermT_m t pt _ _) ?_
        rintro H1 m1 r1 ⟨hm1, ⟨id, w, j1, j2, rfl, j3⟩, -⟩ -
        clear hm1 j1 j2
        have hlen : (t.enc ++ tr).length = t.enc.length + tr.length := List.length_append
        have b1 : t.enc.length + tr.length ≤ 140737488355328 ∧ t.enc.length + tr.length ≤ 4611686018427387904 := by rw [← hlen, ← et.out]; omega
        repeat' (first | ((with_reducible first | refine wA (by omega) ?_ | refine wB (by omega) ?_ | refine wC (by omega) ?_ | refine wD (by omega) ?_ | refine wE ?_ ?_ | refine wF ?_ ?_ | refine wG ?_ ?_ | refine wH ?_ ?_ | refine wI ?_ ?_ | refine wJ ?_ ?_ | refine wK ?_ ?_ | refine wL ?_ ?_) <;> intro _) | simp (maxSteps := 1000000) (disch := omega) only [go_sem, seval, rowB, *])
        refine call_lend (sb_eq et.out) ?_ (by simp [immL, rowB_imm]) rfl ?_
        · simp only [List.map_cons, List.map_nil]
          rw [← hlen, brw_bC (w := false) (by simp [upd, bC_append])]
          rfl
        clear j3 b1
        repeat' (first | ((with_reducible first | refine wA (by omega) ?_ | refine wB (by omega) ?_ | refine wC (by omega) ?_ | refine wD (by omega) ?_ | refine wE ?_ ?_ | refine wF ?_ ?_ | refine wG ?_ ?_ | refine wH ?_ ?_ | refine wI ?_ ?_ | refine wJ ?_ ?_ | refine wK ?_ ?_ | refine wL ?_ ?_) <;> intro _) | (((with_reducible refine call_id ?_); (first | (refine call_pure (c6) ?_) | (refine call_pure (cz) ?_)))) | simp (maxSteps := 1000000) (disch := omega) only [go_sem, seval, takeV, rowB, *])
        refine call_mut (rDecl_m d pd _ _) ?_
        rintro H1 m1 r1 ⟨hm1, ⟨id, w, j1, j2, rfl, j3⟩, -⟩ -
        clear hm1 j1 j2
        have hlen : (d.enc ++ dr).length = d.enc.length + dr.length := List.length_append
        have b1 : d.enc.length + dr.length ≤ 140737488355328 ∧ d.enc.length + dr.length ≤ 4611686018427387904 := by rw [← hlen, ← ed.out]; omega
        repeat' (first | ((with_reducible first | refine wA (by omega) ?_ | refine wB (by omega) ?_ | refine wC (by omega) ?_ | refine wD (by omega) ?_ | refine wE ?_ ?_ | refine wF ?_ ?_ | refine wG ?_ ?_ | refine wH ?_ ?_ | refine wI ?_ ?_ | refine wJ ?_ ?_ | refine wK ?_ ?_ | refine wL ?_ ?_) <;> intro _) | simp (maxSteps := 1000000) (disch := omega) only [go_sem, seval, rowB, *])
        refine call_lend (sb_eq ed.out) ?_ (by simp [immL, rowB_imm]) rfl ?_
        · simp only [List.map_cons, List.map_nil]
          rw [← hlen, brw_bC (w := false) (by simp [upd, bC_append])]
          rfl
        clear j3 b1
        repeat' (first | ((with_reducible first | refine wA (by omega) ?_ | refine wB (by omega) ?_ | refine wC (by omega) ?_ | refine wD (by omega) ?_ | refine wE ?_ ?_ | refine wF ?_ ?_ | refine wG ?_ ?_ | refine wH ?_ ?_ | refine wI ?_ ?_ | refine wJ ?_ ?_ | refine wK ?_ ?_ | refine wL ?_ ?_) <;> intro _) | (((with_reducible refine call_id ?_); (first | (refine call_pure (cz) ?_)))) | simp (maxSteps := 1000000) (disch := omega) only [go_sem, seval, takeV, rowB, *])
        all_goals (exact fin_tmp (.inr rfl) cE3)
end
section
theorem op_byte {H : Type} {enc : TypeId × Value → H} {W : World} {sp : Nat → Bool} {hd : Bool} {n : Nat} {t : TypeId} (ht : Try.prog.underlying t = some (.int .u8)) : OpAt enc W sp hd n t (fun c : UInt8 => [.sc (.int .u8 c.toNat)]) := fun cs x h => by
  obtain ⟨z, rfl, hz⟩ := DataW.trod_int ht h
  have hw : 0 ≤ z ∧ z ≤ 255 := by
    have := hz.2
    simp only [Lit.wf, Bool.and_eq_true, decide_eq_true_eq] at this
    exact this
  refine ⟨UInt8.ofNat z.toNat, ?_⟩
  have e : (((UInt8.ofNat z.toNat).toNat : Nat) : Int) = z := by rw [UInt8.toNat_ofNat']; omega
  simp only [e]
  exact RepL.cons (.sc _) RepL.nil
section
variable {H : Type} {enc : TypeId × Value → H} {W : World} {a : Option Addr} {len cap : Nat} {d : DataW H} {p : List MemPlace}
theorem open_bytes (h : DataW.Trod enc Try.prog W 0 (fun _ => true) true 36 (.slice a len cap) d p) : ∃ l : List UInt8, Rep (allV W) (rowB l) (.slice a len cap) :=
  trod_one (fun n => by cases n with
    | zero => exact op_zero
    | succ n => exact op_slice Try.underlying36 (by kernel_rfl) (by omega) (op_byte Try.underlying5)) rfl h
end
end
end Go.Proofs.Ytnelciclibknpaa
