/-
  Plain values: TnD, TnB, TnE, Tm2, Tm3, Tm4.
-/
import Derived.Laws.Strings
import Derived.Test.YtfhblaggeahbjaaXRa
import Derived.Test.YtfhblaggeahbjaaXRb
import Derived.Test.YtfhblaggeahbjaaXRc
import Derived.Test.YtfhblaggeahbjaaXRd
set_option linter.unusedVariables false
set_option linter.unusedSimpArgs false
namespace Go.Proofs.Ytfhblaggeahbjaa
open Go.RowKit
attribute [local go_sem ↓] c_seq c_region c_cond c_block c_ret c_skip c_exit c_cont t_normal t_ret t_exit b_normal b_ret b_exit run_nil run_cons g_some o_mv o_pick o_bin o_un o_ld o_bld o_len o_mkf o_nilc o_fa o_fd o_ia o_iaa o_ix o_ixs o_ext o_al o_bxf o_bxt o_bsl o_bslf o_mks o_st o_stf o_call o_rng o_nxt o_callm o_calvm o_calv cond_true cond_false upd_get sigF_cons o_eqa o_mm o_app o_slc
attribute [local go_sem] num_nil num_cons chunks rngV next_is next_iter val_some new_some st_some stf_some guard_tt guard_ff guard_tf guard_ft guard_un calv_fn put_some put_none ev_tmp ev_const ev_func sig_eq sigF_nil q0 q1 nilcV faV fdV iaV iaaV ixV ixsV extV mksV loadP storeP lenPV binPV unPV intBin partsP fillP zeros PV.good PV.cellsOf PV.one q2 q3 q4 q5 q6 q7 q8 q9 q10 q11 q12 q13 q14 q15 q16 q17 q18 q19 q20 q21 q22 q23 q24 q25 q26 q27 q28 q29 q30 q31 q32 q33 q34 q35 q36 q37 q38 wrap64 app_some mmL mmV mm2 eqE eqParts eqInt eqBool eqStr partV q39 q40 pickV q41 q42 q43 q44 q45 q46 q47 q48 q49 appE oldOf rowOf updL q50 q51 q52 q53 zlt ovr_get ite_neN ite_eqN q54 q55 q56 q57 q58 q59 q60 q61 q62 q63 q64 q65 q66 q67 tailP_f tailP_t tailF_f tailF_t slcP bndO capO slcLen intOf Option.isSome_none Option.isNone_none Option.isSome_some Option.isNone_some nilP slc_sl slc_csl slc_osl slc_osl0 slc_ocap slc_str List.append_nil List.length_append resP resPs resP1 PV.sc.injEq Value.bool.injEq Value.int.injEq
section
set_option maxRecDepth 20000
attribute [local go_sem] pv_len pv_take Nat.add_assoc tm_len tm_take pv_one tm_one tpvB_len tpvB_take tpvB_one pvB_len pvB_take pvB_one id_ne id_ne' id_ne2 List.append_assoc
theorem tms_immLL : ∀ ls : List Tm, immLL (ls.map Tm.pv) = true
  | [] => rfl
  | x :: r => by simp only [List.map_cons, immLL, tm_imm, tms_immLL r]; rfl
def Tm.ap : Tm → Bool
  | .mk k _ _ _ args => decide (k = 4) && decide (args.length = 2)
def Tm.kid (i : Nat) : Tm → Tm
  | .mk k n s ls args => match args[i]? with
    | some x => x
    | none => .mk k n s ls args
def spineF : Nat → Tm → Tm × List Tm
  | 0, t => (t, [])
  | n + 1, t => if t.ap = true then ((spineF n (t.kid 0)).1, (spineF n (t.kid 0)).2 ++ [t.kid 1]) else (t, [])
def Tm.spine (t : Tm) : Tm × List Tm := spineF t.size t
def down : Nat → Tm → Tm
  | 0, t => t
  | i + 1, t => (down i t).kid 0
theorem down_succ : ∀ (i : Nat) (t : Tm), down (i + 1) t = down i (t.kid 0)
  | 0, _ => rfl
  | i + 1, t => by rw [down, down_succ i t, down]
theorem ap_inv {t : Tm} (h : t.ap = true) : ∃ n s ls x y, t = .mk 4 n s ls [x, y] := by
  cases t with
  | mk k n s ls args =>
    simp only [Tm.ap, Bool.and_eq_true, decide_eq_true_eq] at h
    obtain ⟨rfl, h⟩ := h
    match args, h with
    | [x, y], _ => exact ⟨n, s, ls, x, y, rfl⟩
theorem ap_size {t : Tm} (h : t.ap = true) : (t.kid 0).size < t.size ∧ (t.kid 1).size < t.size := by
  obtain ⟨n, s, ls, x, y, rfl⟩ := ap_inv h
  simp only [Tm.kid, List.getElem?_cons_zero, List.getElem?_cons_succ, Tm.size, sizeL]
  omega
theorem ap_nodes {t : Tm} (h : t.ap = true) : (t.kid 0).nodes < t.nodes ∧ (t.kid 1).nodes < t.nodes := by
  obtain ⟨n, s, ls, x, y, rfl⟩ := ap_inv h
  simp only [Tm.kid, List.getElem?_cons_zero, List.getElem?_cons_succ, Tm.nodes, nodesT]
  omega
theorem spineF_len : ∀ (n : Nat) (t : Tm), (spineF n t).2.length ≤ n
  | 0, _ => Nat.le_refl _
  | n + 1, t => by
    simp only [spineF]
    split
    · have := spineF_len n (t.kid 0)
      simp only [List.length_append, List.length_cons, List.length_nil]
      omega
    · simp
theorem spineF_spec : ∀ (n : Nat) (t : Tm), t.size ≤ n → (∀ i, i < (spineF n t).2.length → (down i t).ap = true ∧ (spineF n t).2[(spineF n t).2.length - 1 - i]? = some ((down i t).kid 1)) ∧ (down (spineF n t).2.length t).ap = false ∧ (spineF n t).1 = down (spineF n t).2.length t
  | 0, t, h => by have := size_pos t; omega
  | n + 1, t, h => by
    by_cases ha : t.ap = true
    · have hs := ap_size ha
      obtain ⟨h1, h2, h3⟩ := spineF_spec n (t.kid 0) (by omega)
      simp only [spineF, if_pos ha, List.length_append, List.length_cons, List.length_nil, Nat.zero_add]
      refine ⟨fun i hi => ?_, by rw [down_succ]; exact h2, by rw [down_succ]; exact h3⟩
      cases i with
      | zero =>
        refine ⟨ha, ?_⟩
        rw [show (spineF n (t.kid 0)).2.length + 1 - 1 - 0 = (spineF n (t.kid 0)).2.length by omega, List.getElem?_concat_length]
        rfl
      | succ i =>
        obtain ⟨g1, g2⟩ := h1 i (by omega)
        rw [down_succ]
        refine ⟨g1, ?_⟩
        rw [List.getElem?_append_left (by omega), ← g2]
        congr 1
        omega
    · simp only [spineF, if_neg ha, List.length_nil]
      refine ⟨fun i hi => by omega, by simpa [down] using ha, rfl⟩
theorem down_nodes : ∀ (i : Nat) (t : Tm), (∀ j, j < i → (down j t).ap = true) → (down i t).nodes ≤ t.nodes
  | 0, _, _ => Nat.le_refl _
  | i + 1, t, h => by
    have h1 := down_nodes i t fun j hj => h j (by omega)
    have h2 := ap_nodes (h i (by omega))
    simp only [down]
    omega
theorem zeros_snoc : ∀ n, zeros [.int .i64 0, .int .i64 0, .string ⟨#[]⟩, .slice none 0 0, .slice none 0 0] (n + 1) = zeros [.int .i64 0, .int .i64 0, .string ⟨#[]⟩, .slice none 0 0, .slice none 0 0] n ++ zero5
  | 0 => by simp [zeros, zero5]
  | n + 1 => by
    have h := zeros_snoc n
    conv => lhs; rw [zeros]
    conv => rhs; rw [zeros]
    rw [h, List.append_assoc]
theorem tms_weakL (f : Bool) : ∀ ts : List Tm, WeakL (ts.map (Tm.pvB f)).flatten (ts.map Tm.pv).flatten
  | [] => trivial
  | t :: r => by simp only [List.map_cons, List.flatten_cons]; exact (tm_weak f t).append (tms_weakL f r)
set_option maxHeartbeats 16000000 in
theorem term_Spine_pF (t : Tm) (hm : t.nodes ≤ 2 ^ 40) : PPure Try.prog F.term_Spine [.agg t.pv] (.tup [.agg (t.spine.1.pvB true), .sl 5 (t.spine.2.map Tm.pv)]) := by
  refine pure_by is_term_Spine (by simp) (by simp [PV.imm, immL, tpvB_imm, tms_immLL]) fun hb nx => ?_
  clear hb
  obtain ⟨h1, h2, h3⟩ := spineF_spec t.size t (Nat.le_refl _)
  have h4 := spineF_len t.size t
  have h5 := size_nodes t
  have hN : ∃ N, N = t.spine.2.length := ⟨_, rfl⟩
  obtain ⟨N, hN⟩ := hN
  rw [show (spineF t.size t).2.length = N from hN.symm] at h1 h2 h3 h4
  have h1k : Kept (∀ i, i < N → (down i t).ap = true ∧ t.spine.2[N - 1 - i]? = some ((down i t).kid 1)) := Kept.mk h1
  have h2k : Kept ((down N t).ap = false) := Kept.mk h2
  have h3k : Kept (t.spine.1 = down N t) := Kept.mk h3
  have hNk := Kept.mk hN
  have hNb : N ≤ 2 ^ 40 := by omega
  have hdk := Kept.mk fun i (hi : i ≤ N) => Nat.le_trans (down_nodes i t fun j hj => (h1k.out j (by omega)).1) hm
  clear h1 h2 h3 h4 h5 hN
  repeat' (first | ((with_reducible first | refine cond_pos (by omega) ?_ | refine cond_neg (by omega) ?_ | refine guard_pos (by omega) ?_ | refine guard_neg (by omega) ?_ | refine cond_ifn ?_ ?_ | refine cond_waysn ?_ ?_ | refine guard_ifn ?_ ?_ | refine guard_waysn ?_ ?_ | refine cond_if ?_ ?_ | refine cond_ways ?_ ?_ | refine guard_if ?_ ?_ | refine guard_ways ?_ ?_) <;> intro _) | simp (maxSteps := 1000000) (disch := omega) only [go_sem, Nat.reduceAdd, Nat.reduceMul, Nat.reduceSub, Nat.reduceLeDiff, Nat.reduceEqDiff, Nat.reduceBEq, ↓reduceIte, reduceCtorEq, Int.reduceEq, Int.reduceLE, Int.reduceLT, Int.reduceAdd, Int.reduceSub, Int.reduceNeg, Int.reduceToNat, Int.reduceNe, Nat.reducePow, Nat.reduceShiftRight, Nat.reduceMod, mc_term_Spine, *])
  refine c_loopW 130864 (by kernel_rfl) (fun j f H m => ∃ i : Nat, j = N - i ∧ i ≤ N ∧ f 5 = .sc (.int .i64 i) ∧ f 4 = .ptr (down i t).pv ∧ H (nx + 1) = some ⟨[.sc (.int .i64 0), .sc (.int .i64 0), .sc (.string ⟨#[]⟩), .sc (.slice none 0 0), .sc (.slice none 0 0)], true⟩ ∧ nx + 2 ≤ m) _ ⟨0, rfl, Nat.zero_le _, (by first | assumption | omega | rfl | (simp (disch := omega) only [go_sem, Nat.reduceMul, Nat.reduceSub, Nat.reduceShiftRight, Nat.reduceMod, Nat.reduceEqDiff, Nat.reduceAdd, ↓reduceIte, Nat.reduceLeDiff, *] <;> omega)), (by first | assumption | omega | rfl | (simp (disch := omega) only [go_sem, Nat.reduceMul, Nat.reduceSub, Nat.reduceShiftRight, Nat.reduceMod, Nat.reduceEqDiff, Nat.reduceAdd, ↓reduceIte, Nat.reduceLeDiff, *] <;> omega)), by simp [upd], (by first | assumption | omega | rfl | (simp (disch := omega) only [go_sem, Nat.reduceMul, Nat.reduceSub, Nat.reduceShiftRight, Nat.reduceMod, Nat.reduceEqDiff, Nat.reduceAdd, ↓reduceIte, Nat.reduceLeDiff, *] <;> omega))⟩ ?_
  rintro _ f H m ⟨i, rfl, hi, e5, e4, hH1, hm1⟩
  by_cases hlt : i < N
  · obtain ⟨n', s', ls', x, y, hd⟩ := ap_inv (h1k.out i hlt).1
    have hd2 : down (i + 1) t = x := by simp only [down, hd, Tm.kid, List.getElem?_cons_zero]
    have hd2k := Kept.mk hd2
    rw [hd] at e4
    have c1 : PPure Try.prog F.term_applied [.ptr (Tm.mk 4 n' s' ls' [x, y]).pv] (.sc (.bool true)) := applied_p 4 n' s' ls' [x, y]
    simp only [Tm.pv, List.map_cons, List.map_nil] at e4 c1
    clear hd hd2
    repeat' (first | ((with_reducible first | refine cond_pos (by omega) ?_ | refine cond_neg (by omega) ?_ | refine guard_pos (by omega) ?_ | refine guard_neg (by omega) ?_ | refine cond_ifn ?_ ?_ | refine cond_waysn ?_ ?_ | refine guard_ifn ?_ ?_ | refine guard_waysn ?_ ?_ | refine cond_if ?_ ?_ | refine cond_ways ?_ ?_ | refine guard_if ?_ ?_ | refine guard_ways ?_ ?_) <;> intro _) | (((with_reducible refine call_id ?_); (first | (refine call_pure (c1) ?_)))) | simp (maxSteps := 1000000) (disch := omega) only [go_sem, Nat.reduceAdd, Nat.reduceMul, Nat.reduceSub, Nat.reduceLeDiff, Nat.reduceEqDiff, Nat.reduceBEq, ↓reduceIte, reduceCtorEq, Int.reduceEq, Int.reduceLE, Int.reduceLT, Int.reduceAdd, Int.reduceSub, Int.reduceNeg, Int.reduceToNat, Int.reduceNe, Nat.reducePow, Nat.reduceShiftRight, Nat.reduceMod, *])
    refine Nx.mk (N - (i + 1)) (by first | assumption | omega | rfl | (simp (disch := omega) only [go_sem, Nat.reduceMul, Nat.reduceSub, Nat.reduceShiftRight, Nat.reduceMod, Nat.reduceEqDiff, Nat.reduceAdd, ↓reduceIte, Nat.reduceLeDiff, *] <;> omega)) ⟨i + 1, rfl, (by first | assumption | omega | rfl | (simp (disch := omega) only [go_sem, Nat.reduceMul, Nat.reduceSub, Nat.reduceShiftRight, Nat.reduceMod, Nat.reduceEqDiff, Nat.reduceAdd, ↓reduceIte, Nat.reduceLeDiff, *] <;> omega)), (by first | assumption | omega | rfl | (simp (disch := omega) only [go_sem, Nat.reduceMul, Nat.reduceSub, Nat.reduceShiftRight, Nat.reduceMod, Nat.reduceEqDiff, Nat.reduceAdd, ↓reduceIte, Nat.reduceLeDiff, *] <;> omega)), by rw [hd2k.out]; simp (disch := omega) only [go_sem, Nat.reduceMul, Nat.reduceSub, Nat.reduceShiftRight, Nat.reduceMod, Nat.reduceEqDiff, Nat.reduceAdd, ↓reduceIte, Nat.reduceLeDiff, *], (by first | assumption | omega | rfl | (simp (disch := omega) only [go_sem, Nat.reduceMul, Nat.reduceSub, Nat.reduceShiftRight, Nat.reduceMod, Nat.reduceEqDiff, Nat.reduceAdd, ↓reduceIte, Nat.reduceLeDiff, *] <;> omega)), (by first | assumption | omega | rfl | (simp (disch := omega) only [go_sem, Nat.reduceMul, Nat.reduceSub, Nat.reduceShiftRight, Nat.reduceMod, Nat.reduceEqDiff, Nat.reduceAdd, ↓reduceIte, Nat.reduceLeDiff, *] <;> omega))⟩
  · obtain rfl : i = N := by omega
    have c1 : PPure Try.prog F.term_applied [.ptr (down i t).pv] (.sc (.bool false)) := by
      have h := h2k.out
      cases hd : down i t with
      | mk k n s ls args =>
        rw [hd] at h
        simp only [Tm.ap] at h
        have := applied_p k n s ls args
        rw [h] at this
        exact this
    have c2 := clone_pF2 (down i t) (hdk.out i (Nat.le_refl _))
    by_cases h0 : i = 0
    · have hsp : t.spine.2 = [] := List.eq_nil_of_length_eq_zero (by have := hNk.out; omega)
      rw [hsp, h3k.out]
      clear hsp
      subst h0
      repeat' (first | ((with_reducible first | refine cond_pos (by omega) ?_ | refine cond_neg (by omega) ?_ | refine guard_pos (by omega) ?_ | refine guard_neg (by omega) ?_ | refine cond_ifn ?_ ?_ | refine cond_waysn ?_ ?_ | refine guard_ifn ?_ ?_ | refine guard_waysn ?_ ?_ | refine cond_if ?_ ?_ | refine cond_ways ?_ ?_ | refine guard_if ?_ ?_ | refine guard_ways ?_ ?_) <;> intro _) | (((with_reducible refine call_id ?_); (first | (refine call_pure (c1) ?_) | (refine call_pure (c2) ?_)))) | simp (maxSteps := 1000000) (disch := omega) only [go_sem, Nat.reduceAdd, Nat.reduceMul, Nat.reduceSub, Nat.reduceLeDiff, Nat.reduceEqDiff, Nat.reduceBEq, ↓reduceIte, reduceCtorEq, Int.reduceEq, Int.reduceLE, Int.reduceLT, Int.reduceAdd, Int.reduceSub, Int.reduceNeg, Int.reduceToNat, Int.reduceNe, Nat.reducePow, Nat.reduceShiftRight, Nat.reduceMod, *])
      refine fin_retF (r0 := .tup [.agg ((down 0 t).pvB true), .sc (.slice none 0 0)]) 2 (by (simp (disch := omega) only [go_sem, Nat.reduceMul, Nat.reduceSub, Nat.reduceShiftRight, Nat.reduceMod, Nat.reduceEqDiff, Nat.reduceAdd, ↓reduceIte, Nat.reduceLeDiff, *]); all_goals rfl) ?_
      have e1 : ∀ Hx, frzF 2 Hx (.tup [.agg ((down 0 t).pvB true), .sc (.slice none 0 0)]) = .tup [.agg (((down 0 t).pvB true).map (frzF 0 Hx)), .sc (.slice none 0 0)] := fun _ => rfl
      rw [e1, frzF_tpvB]
      exact Weak.tup (xs := [.agg ((down 0 t).pvB true), .sc (.slice none 0 0)]) ⟨.refl _, .nil 5, trivial⟩
    · have h00 : 0 < i := by omega
      have hz1 : 80 * (i : Int) ≤ 2 ^ 47 := by omega
      have hz2 : (i : Int) ≤ 2 ^ 47 := by omega
      repeat' (first | ((with_reducible first | refine cond_pos (by omega) ?_ | refine cond_neg (by omega) ?_ | refine guard_pos (by omega) ?_ | refine guard_neg (by omega) ?_ | refine cond_ifn ?_ ?_ | refine cond_waysn ?_ ?_ | refine guard_ifn ?_ ?_ | refine guard_waysn ?_ ?_ | refine cond_if ?_ ?_ | refine cond_ways ?_ ?_ | refine guard_if ?_ ?_ | refine guard_ways ?_ ?_) <;> intro _) | (((with_reducible refine call_id ?_); (first | (refine call_pure (c1) ?_)))) | simp (maxSteps := 1000000) (disch := omega) only [go_sem, Nat.reduceAdd, Nat.reduceMul, Nat.reduceSub, Nat.reduceLeDiff, Nat.reduceEqDiff, Nat.reduceBEq, ↓reduceIte, reduceCtorEq, Int.reduceEq, Int.reduceLE, Int.reduceLT, Int.reduceAdd, Int.reduceSub, Int.reduceNeg, Int.reduceToNat, Int.reduceNe, Nat.reducePow, Nat.reduceShiftRight, Nat.reduceMod, hz1, hz2, and_self, *])
      clear c1
      refine c_loopW 2199014867104 (by kernel_rfl) (fun j f2 H2 m2 => ∃ cs : List PV, j ≤ i ∧ f2 5 = .sc (.int .i64 j) ∧ f2 7 = .ptr (down (i - j) t).pv ∧ H2 (nx + 1) = some ⟨[.sc (.int .i64 0), .sc (.int .i64 0), .sc (.string ⟨#[]⟩), .sc (.slice none 0 0), .sc (.slice none 0 0)], true⟩ ∧
        H2 (m + 5) = some ⟨zeros [.int .i64 0, .int .i64 0, .string ⟨#[]⟩, .slice none 0 0, .slice none 0 0] j ++ cs, true⟩ ∧ m + 5 < m2 ∧ Kept (OwnW H2 (m + 6) m2 cs (t.spine.2.drop j))) i ⟨[], Nat.le_refl _, (by first | assumption | omega | rfl | (simp (disch := omega) only [go_sem, Nat.reduceMul, Nat.reduceSub, Nat.reduceShiftRight, Nat.reduceMod, Nat.reduceEqDiff, Nat.reduceAdd, ↓reduceIte, Nat.reduceLeDiff, *] <;> omega)), by rw [Nat.sub_self]; simp [upd, down], ?g1, by simp [upd], ?g2, Kept.mk ?g3⟩ ?_
      case g1 => exact (upd_ne _ _ (by omega)).trans hH1
      case g2 => show m + 5 < m + 8; omega
      case g3 => rw [List.drop_eq_nil_of_le (by rw [← hNk.out]; exact Nat.le_refl _)]; rfl
      clear e5 hH1
      rintro j f2 H2 m2 ⟨cs, hj, e5, e7, hH1, hHb, hm2, ho⟩
      cases j with
      | zero =>
        rw [List.drop_zero] at ho
        have hHb' : H2 (m + 5) = some ⟨cs, true⟩ := by simpa [zeros] using hHb
        have hlen := ho.out.len
        have hfin : Kept (∀ Hx : Nat → Option PObj, Hx (m + 5) = some ⟨cs, true⟩ → OwnW Hx (m + 6) m2 cs t.spine.2 → Weak (frzF (sizeL t.spine.2 + 3) Hx (.tup [.agg ((down i t).pvB true), .osl (m + 5) 0 i 5])) (.tup [.agg (t.spine.1.pvB true), .sl 5 (t.spine.2.map Tm.pv)])) := Kept.mk (by
          intro Hx hx1 hx2
          have e1 : frzF (sizeL t.spine.2 + 3) Hx (.tup [.agg ((down i t).pvB true), .osl (m + 5) 0 i 5]) = .tup [.agg (((down i t).pvB true).map (frzF (sizeL t.spine.2 + 1) Hx)), frzF (sizeL t.spine.2 + 2) Hx (.osl (m + 5) 0 i 5)] := rfl
          rw [e1]
          refine Weak.tup (xs := [_, _]) ⟨?_, ?_, trivial⟩
          · rw [frzF_tpvB, h3k.out]
            exact .refl _
          · have hN := hNk.out
            simp only [frzF, hx1, List.drop_zero]
            rw [if_pos (by rw [hlen]; omega), List.take_of_length_le (by rw [hlen]; omega)]
            refine .trans (Weak.fslW (es' := t.spine.2.map Tm.pv) (by rw [chunks_length, List.length_map]; exact hN) (fun e he => ?_) ?_) (Weak.fsl 5 _)
            · obtain ⟨x, _, rfl⟩ := List.mem_map.1 he; exact tm_len x
            · rw [chunks_flatten 5 i _ (by rw [List.length_map, hlen]; omega)]
              exact (OwnW.frz _ _ hx2 _ (by omega)).trans (tms_weakL true _))
        have hHb2 := Kept.mk hHb'
        clear hHb hHb' hlen h1k h2k h3k hdk
        repeat' (first | ((with_reducible first | refine cond_pos (by omega) ?_ | refine cond_neg (by omega) ?_ | refine guard_pos (by omega) ?_ | refine guard_neg (by omega) ?_ | refine cond_ifn ?_ ?_ | refine cond_waysn ?_ ?_ | refine guard_ifn ?_ ?_ | refine guard_waysn ?_ ?_ | refine cond_if ?_ ?_ | refine cond_ways ?_ ?_ | refine guard_if ?_ ?_ | refine guard_ways ?_ ?_) <;> intro _) | (((with_reducible refine call_id ?_); (first | (refine call_pure (c2) ?_)))) | simp (maxSteps := 1000000) (disch := omega) only [go_sem, Nat.reduceAdd, Nat.reduceMul, Nat.reduceSub, Nat.reduceLeDiff, Nat.reduceEqDiff, Nat.reduceBEq, ↓reduceIte, reduceCtorEq, Int.reduceEq, Int.reduceLE, Int.reduceLT, Int.reduceAdd, Int.reduceSub, Int.reduceNeg, Int.reduceToNat, Int.reduceNe, Nat.reducePow, Nat.reduceShiftRight, Nat.reduceMod, zeros, *])
        refine fin_retF (r0 := .tup [.agg ((down i t).pvB true), .osl (m + 5) 0 i 5]) (sizeL t.spine.2 + 3) (by (simp (disch := omega) only [go_sem, Nat.reduceMul, Nat.reduceSub, Nat.reduceShiftRight, Nat.reduceMod, Nat.reduceEqDiff, Nat.reduceAdd, ↓reduceIte, Nat.reduceLeDiff, *]); all_goals rfl) ?_
        refine hfin.out _ ((upd_ne _ _ (by omega)).trans hHb2.out) (ho.out.mono (Nat.le_refl _) (Nat.le_refl _) (fun j g1 g2 => upd_ne _ _ (by omega)))
      | succ j =>
        have hk : i - (j + 1) < i := by omega
        obtain ⟨n', s', ls', x, y, hd⟩ := ap_inv (h1k.out _ hk).1
        have hy := (h1k.out _ hk).2
        rw [show i - 1 - (i - (j + 1)) = j by omega, hd] at hy
        simp only [Tm.kid, List.getElem?_cons_succ, List.getElem?_cons_zero] at hy
        have hd2 : down (i - j) t = x := by
          rw [show i - j = (i - (j + 1)) + 1 by omega]
          simp only [down, hd, Tm.kid, List.getElem?_cons_zero]
        have hyn : y.nodes ≤ 2 ^ 40 := by
          have h1 := hdk.out _ (Nat.le_of_lt hk)
          have h2 := (ap_nodes (h1k.out _ hk).1).2
          rw [hd] at h1 h2
          simp only [Tm.kid, List.getElem?_cons_succ, List.getElem?_cons_zero] at h2
          omega
        have hdrop : Kept (t.spine.2.drop j = y :: t.spine.2.drop (j + 1)) := Kept.mk (by
          obtain ⟨h1, h2⟩ := List.getElem?_eq_some_iff.1 hy
          rw [List.drop_eq_getElem_cons h1, h2])
        have hd2k := Kept.mk hd2
        rw [hd] at e7
        simp only [Tm.pv, List.map_cons, List.map_nil] at e7
        rw [zeros_snoc, List.append_assoc] at hHb
        have hz : ((j + 1 : Nat) : Int) - 1 = (j : Int) := by omega
        have hzl : (zeros [.int .i64 0, .int .i64 0, .string ⟨#[]⟩, .slice none 0 0, .slice none 0 0] j).length = j * 5 := by rw [zeros_len]; rfl
        have hHbk := Kept.mk hHb
        have hji : j < i := by omega
        have hHk1 := Kept.mk hH1
        clear hd hd2 hk hy h1k h2k h3k hdk hH1 hHb
        repeat' (first | ((with_reducible first | refine cond_pos (by omega) ?_ | refine cond_neg (by omega) ?_ | refine guard_pos (by omega) ?_ | refine guard_neg (by omega) ?_ | refine cond_ifn ?_ ?_ | refine cond_waysn ?_ ?_ | refine guard_ifn ?_ ?_ | refine guard_waysn ?_ ?_ | refine cond_if ?_ ?_ | refine cond_ways ?_ ?_ | refine guard_if ?_ ?_ | refine guard_ways ?_ ?_) <;> intro _) | simp (maxSteps := 1000000) (disch := omega) only [go_sem, Nat.reduceAdd, Nat.reduceMul, Nat.reduceSub, Nat.reduceLeDiff, Nat.reduceEqDiff, Nat.reduceBEq, ↓reduceIte, reduceCtorEq, Int.reduceEq, Int.reduceLE, Int.reduceLT, Int.reduceAdd, Int.reduceSub, Int.reduceNeg, Int.reduceToNat, Int.reduceNe, Nat.reducePow, Nat.reduceShiftRight, Nat.reduceMod, hz, *])
        refine call_mut (copyTo_p y.size y (Nat.le_refl _) hyn _ _ (m + 5) (j * 5) (zeros [.int .i64 0, .int .i64 0, .string ⟨#[]⟩, .slice none 0 0, .slice none 0 0] j) cs true hHbk.out (Nat.lt_of_lt_of_le hm2 (Nat.le_add_right _ _)) hzl) ?_
        rintro H' nx' r' ⟨hn1, c, hc1, hc2, hc4⟩ -
        have hn2 : m2 ≤ nx' := Nat.le_trans (Nat.le_add_right _ _) hn1
        have hc3 : ∀ j, j ≠ m + 5 → j < m2 → H' j = H2 j := fun j a b => hc4 j a (Nat.lt_of_lt_of_le b (Nat.le_add_right _ _))
        have hH1' : H' (nx + 1) = _ := (hc3 (nx + 1) (by omega) (by omega)).trans hHk1.out
        have ho' : Kept (OwnW H' (m + 6) nx' (c ++ cs) (t.spine.2.drop j)) := Kept.mk (by
          rw [hdrop.out]
          refine ⟨c, cs, rfl, hc2.mono _ _ _ _ _ _ ?_ (Nat.le_refl _) fun _ _ _ => rfl, ho.out.mono (Nat.le_refl _) hn2 fun j g1 g2 => hc3 j (by omega) g2⟩
          exact Nat.le_trans (by omega : m + 6 ≤ m2) (Nat.le_add_right _ _))
        clear ho hc3 hc4 hc2 hn1 hHk1 hHbk hdrop c2
        repeat' (first | ((with_reducible first | refine cond_pos (by omega) ?_ | refine cond_neg (by omega) ?_ | refine guard_pos (by omega) ?_ | refine guard_neg (by omega) ?_ | refine cond_ifn ?_ ?_ | refine cond_waysn ?_ ?_ | refine guard_ifn ?_ ?_ | refine guard_waysn ?_ ?_ | refine cond_if ?_ ?_ | refine cond_ways ?_ ?_ | refine guard_if ?_ ?_ | refine guard_ways ?_ ?_) <;> intro _) | simp (maxSteps := 1000000) (disch := omega) only [go_sem, Nat.reduceAdd, Nat.reduceMul, Nat.reduceSub, Nat.reduceLeDiff, Nat.reduceEqDiff, Nat.reduceBEq, ↓reduceIte, reduceCtorEq, Int.reduceEq, Int.reduceLE, Int.reduceLT, Int.reduceAdd, Int.reduceSub, Int.reduceNeg, Int.reduceToNat, Int.reduceNe, Nat.reducePow, Nat.reduceShiftRight, Nat.reduceMod, *])
        refine Nx.mk j (by first | assumption | omega | rfl | (simp (disch := omega) only [go_sem, Nat.reduceMul, Nat.reduceSub, Nat.reduceShiftRight, Nat.reduceMod, Nat.reduceEqDiff, Nat.reduceAdd, ↓reduceIte, Nat.reduceLeDiff, *] <;> omega)) ⟨c ++ cs, by omega, (by first | assumption | omega | rfl | (simp (disch := omega) only [go_sem, Nat.reduceMul, Nat.reduceSub, Nat.reduceShiftRight, Nat.reduceMod, Nat.reduceEqDiff, Nat.reduceAdd, ↓reduceIte, Nat.reduceLeDiff, *] <;> omega)), by rw [hd2k.out]; simp (disch := omega) only [go_sem, Nat.reduceMul, Nat.reduceSub, Nat.reduceShiftRight, Nat.reduceMod, Nat.reduceEqDiff, Nat.reduceAdd, ↓reduceIte, Nat.reduceLeDiff, *], hH1', hc1, ?g1, ?g2⟩
        case g1 => exact (by omega : m + 5 < nx' + 6)
        case g2 => exact Kept.mk (ho'.out.mono (Nat.le_refl _) (Nat.le_add_right _ _) fun _ _ _ => rfl)
end
section
set_option maxRecDepth 20000
attribute [local go_sem] pv_len pv_take Nat.add_assoc tm_len tm_take pv_one tm_one id_ne id_ne' id_ne2 List.append_assoc
theorem flat3_ne1 (ls : List Lv) : (ls.map Lv.pv).flatten.length ≠ 1 := by
  have : (ls.map Lv.pv).flatten.length = ls.length * 3 := by
    induction ls with
    | nil => rfl
    | cons t r ih => rw [List.map_cons, List.flatten_cons, List.length_append, pv_len, ih, List.length_cons, Nat.succ_mul]; omega
  omega
theorem zeros_imm : ∀ (n : Nat), immL (zeros [.int .i64 0, .int .i64 0, .string ⟨#[]⟩, .slice none 0 0, .slice none 0 0] n) = true
  | 0 => rfl
  | n + 1 => by simp only [zeros, immL_append, zeros_imm n]; rfl
theorem tms_immF (ts : List Tm) : immL (ts.flatMap Tm.pv) = true := by rw [List.flatMap_def]; exact tms_imm ts
theorem lvs_immF : ∀ ls : List Lv, immL (ls.map Lv.pv).flatten = true
  | [] => rfl
  | t :: r => by simp only [List.map_cons, List.flatten_cons, immL_append, pv_imm t, lvs_immF r]; rfl
def putRaw (bys : List Lv) (kind n : Int) (s : ByteArray) (ls : List Lv) (args : List Tm) (H : Nat → Option PObj) (nx id : Nat) (p q : List PV) (kp : Nat → Bool) (H' : Nat → Option PObj) (nx' : Nat) (r : PV) : Prop :=
  nx ≤ nx' ∧ (∀ j, kp j = true → H' j = H j) ∧ (((Tm.mk kind n s ls args).putL bys = none ∧ r = .sc (.bool false)) ∨ ∃ ls' args' a b, insts bys ls = some ls' ∧ putLs bys args = some args' ∧ r = .sc (.bool true) ∧
    H' id = some ⟨p ++ (.sc (.int .i64 kind) :: .sc (.int .i64 n) :: .sc (.string s) :: a :: b :: q), true⟩ ∧ RowP H' nx nx' 3 a (ls'.map Lv.pv) ∧ RowP H' nx nx' 5 b (args'.map Tm.pv))
set_option maxHeartbeats 16000000 in
theorem putLevels_p (bys : List Lv) : ∀ (fuel : Nat) (t : Tm), t.size ≤ fuel → t.nodes ≤ 2 ^ 40 → ∀ (H : Nat → Option PObj) (nx id off : Nat) (p q : List PV) (kp : Nat → Bool), H id = some ⟨p ++ (zero5 ++ q), true⟩ → id < nx → p.length = off → immL p = true → immL q = true →
    (∀ j, kp j = true → j ≠ id ∧ j < nx ∧ ∀ o, H j = some o → o.isIt = false ∧ FixL nx o.cells) →
    PMut Try.prog F.term_putLevels [.optr id off, .ptr t.pv, .sl 3 (bys.map Lv.pv)] H nx (fun H' nx' r => nx ≤ nx' ∧ (∀ j, kp j = true → H' j = H j) ∧ ((t.putL bys = none ∧ r = .sc (.bool false)) ∨ ∃ y, t.putL bys = some y ∧ r = .sc (.bool true) ∧ H' id = some ⟨p ++ (y.pv ++ q), true⟩)) := by
  intro fuel
  induction fuel with
  | zero => intro t h; have := size_pos t; omega
  | succ fuel ih =>
    intro t hf hm H nx id off p q kp hH hid hoff hpi hqi hkp
    cases t with
    | mk kind n s ls args =>
    simp only [Tm.size] at hf
    simp only [Tm.nodes] at hm
    have hkpk := Kept.mk hkp
    have hpik := Kept.mk hpi
    have hqik := Kept.mk hqi
    refine tell_low (Q := putRaw bys kind n s ls args H nx id p q kp) kp id hid (fun j hj => ⟨(hkp j hj).1, (hkp j hj).2.1⟩) ?walk ?tell
    case tell =>
      clear ih
      rintro H' nx' r ⟨h1, h2, h3⟩
      have hfix : ∀ j o, kp j = true → H' j = some o → o.isIt = false ∧ FixL nx o.cells := fun j o hj ho => (hkp j hj).2.2 o ((h2 j hj).symm.trans ho)
      rcases h3 with ⟨h3, rfl⟩ | ⟨ls', args', a, b, h3, h4, rfl, h5, h6, h7⟩
      · exact ⟨rfl, hfix, none, 0, (fun _ h => by cases h), fun H2 g1 g2 => ⟨h1, fun j hj => (g1 j hj).trans (h2 j hj), .inl ⟨h3, rfl⟩⟩⟩
      · have hput : (Tm.mk kind n s ls args).putL bys = some (.mk kind n s ls' args') := by simp only [Tm.putL, h3, h4]
        refine ⟨rfl, hfix, some (p ++ ((Tm.mk kind n s ls' args').pv ++ q)), 1, fun cs' e => ?_, fun H2 g1 g2 => ⟨h1, fun j hj => (g1 j hj).trans (h2 j hj), .inr ⟨_, hput, rfl, g2⟩⟩⟩
        cases e
        refine ⟨_, h5, by simp; omega, ?_⟩
        rw [List.map_append, frgF_immL _ _ _ p hpi]
        refine (WeakL.refl _).append ?_
        simp only [List.map_cons, frgF_sc, Tm.pv, List.cons_append, List.nil_append]
        rw [frgF_immL _ _ _ q hqi]
        refine ⟨.refl _, .refl _, .refl _, h6.frg (fun e he => ?_) _ (fun j hj => by simpa using hj), h7.frg (fun e he => ?_) _ (fun j hj => by simpa using hj), .refl _⟩
        · obtain ⟨x, _, rfl⟩ := List.mem_map.1 he; exact pv_len x
        · obtain ⟨x, _, rfl⟩ := List.mem_map.1 he; exact tm_len x
    case walk =>
    clear hkp hpi hqi
    refine mut_by is_term_putLevels (by simp) fun hb => ?_
    have hb0 : ls.length ≤ 9223372036854775807 ∧ args.length ≤ 9223372036854775807 := by simp [Tm.pv, bndL, PV.bnd] at hb; omega
    clear hb
    rw [zero5] at hH
    have at0 : ∀ x, List.take off (p ++ x) = p := fun x => List.take_left' hoff
    have at1 : ∀ x i, List.take (off + i) (p ++ x) = p ++ List.take i x := fun x i => at_take p x off i hoff
    have at2 : ∀ x i, List.drop (off + i) (p ++ x) = List.drop i x := fun x i => at_drop p x off i hoff
    have at3 : off + 1 ≤ off + (q.length + 5) ∧ off + 2 ≤ off + (q.length + 5) ∧ off + 3 ≤ off + (q.length + 5) ∧ off + 4 ≤ off + (q.length + 5) ∧ off + 5 ≤ off + (q.length + 5) := by omega
    have at4 : ∀ x, List.drop off (p ++ x) = x := fun x => List.drop_left' hoff
    have hla := len_nodesT args
    have hll := len_nodesL ls
    have hz1 : 80 * (args.length : Int) ≤ 2 ^ 47 := by omega
    have hz2 : (args.length : Int) ≤ 2 ^ 47 := by omega
    have hz3 : 40 * (ls.length : Int) ≤ 2 ^ 47 := by omega
    have hz4 : (ls.length : Int) ≤ 2 ^ 47 := by omega
    have hkp2 := Kept.mk fun j (hj : kp j = true) => (⟨(hkpk.out j hj).1, (hkpk.out j hj).2.1⟩ : j ≠ id ∧ j < nx)
    have ihk := Kept.mk ih
    clear ih
    by_cases hl0 : ls.length = 0
    · obtain rfl : ls = [] := List.eq_nil_of_length_eq_zero hl0
      repeat' (first | ((with_reducible first | refine cond_pos (by omega) ?_ | refine cond_neg (by omega) ?_ | refine guard_pos (by omega) ?_ | refine guard_neg (by omega) ?_ | refine cond_ifn ?_ ?_ | refine cond_waysn ?_ ?_ | refine guard_ifn ?_ ?_ | refine guard_waysn ?_ ?_ | refine cond_if ?_ ?_ | refine cond_ways ?_ ?_ | refine guard_if ?_ ?_ | refine guard_ways ?_ ?_) <;> intro _) | simp (maxSteps := 1000000) (disch := omega) only [go_sem, Nat.reduceAdd, Nat.reduceMul, Nat.reduceSub, Nat.reduceLeDiff, Nat.reduceEqDiff, Nat.reduceBEq, ↓reduceIte, reduceCtorEq, Int.reduceEq, Int.reduceLE, Int.reduceLT, Int.reduceAdd, Int.reduceSub, Int.reduceNeg, Int.reduceToNat, Int.reduceNe, Nat.reducePow, Nat.reduceShiftRight, Nat.reduceMod, mc_term_putLevels, Tm.pv, at0, at1, at2, at3, at4, List.take_succ_cons, List.drop_succ_cons, List.take_zero, List.drop_zero, List.cons_append, List.nil_append, hz1, hz2, hz3, hz4, and_self, *])
      refine c_loopW 151115722948229019468736 (by kernel_rfl) (fun j f H2 m => f 52 = .sc (.int .i64 0) ∧ nx ≤ m ∧ Kept (∀ j, kp j = true → H2 j = H j) ∧ H2 id = some ⟨p ++ (.sc (.int .i64 kind) :: .sc (.int .i64 n) :: .sc (.string s) :: .sc (.slice none 0 0) :: .sc (.slice none 0 0) :: q), true⟩) 0 ⟨(by first | assumption | omega | rfl | (simp (disch := omega) only [go_sem, Nat.reduceMul, Nat.reduceSub, Nat.reduceShiftRight, Nat.reduceMod, Nat.reduceEqDiff, Nat.reduceAdd, ↓reduceIte, Nat.reduceLeDiff, *] <;> omega)), Nat.le_add_right _ _, Kept.mk (fun j hj => by have := hkp2.out j hj; simp [upd, this.1]), upd_same _ _ _⟩ ?_
      clear hl0 hH
      rintro _ f H2 m ⟨e52, hm2, hkk, hHi⟩
      have hysk : Kept (insts bys [] = some []) := Kept.mk rfl
      have hrow : RowP H2 nx m 3 (.sc (.slice none 0 0)) (([] : List Lv).map Lv.pv) := .inl ⟨rfl, rfl⟩
      by_cases ha0 : args.length = 0
      · obtain rfl : args = [] := List.eq_nil_of_length_eq_zero ha0
        have hrk := Kept.mk hrow
        clear hrow ihk
        repeat' (first | ((with_reducible first | refine cond_pos (by omega) ?_ | refine cond_neg (by omega) ?_ | refine guard_pos (by omega) ?_ | refine guard_neg (by omega) ?_ | refine cond_ifn ?_ ?_ | refine cond_waysn ?_ ?_ | refine guard_ifn ?_ ?_ | refine guard_waysn ?_ ?_ | refine cond_if ?_ ?_ | refine cond_ways ?_ ?_ | refine guard_if ?_ ?_ | refine guard_ways ?_ ?_) <;> intro _) | simp (maxSteps := 1000000) (disch := omega) only [go_sem, Nat.reduceAdd, Nat.reduceMul, Nat.reduceSub, Nat.reduceLeDiff, Nat.reduceEqDiff, Nat.reduceBEq, ↓reduceIte, reduceCtorEq, Int.reduceEq, Int.reduceLE, Int.reduceLT, Int.reduceAdd, Int.reduceSub, Int.reduceNeg, Int.reduceToNat, Int.reduceNe, Nat.reducePow, Nat.reduceShiftRight, Nat.reduceMod, at0, at1, at2, at3, at4, List.take_succ_cons, List.drop_succ_cons, List.take_zero, List.drop_zero, List.cons_append, List.nil_append, hz1, hz2, hz3, hz4, and_self, *])
        refine c_rounds 1 ?_
        repeat' (first | ((with_reducible first | refine cond_pos (by omega) ?_ | refine cond_neg (by omega) ?_ | refine guard_pos (by omega) ?_ | refine guard_neg (by omega) ?_ | refine cond_ifn ?_ ?_ | refine cond_waysn ?_ ?_ | refine guard_ifn ?_ ?_ | refine guard_waysn ?_ ?_ | refine cond_if ?_ ?_ | refine cond_ways ?_ ?_ | refine guard_if ?_ ?_ | refine guard_ways ?_ ?_) <;> intro _) | simp (maxSteps := 1000000) (disch := omega) only [go_sem, Nat.reduceAdd, Nat.reduceMul, Nat.reduceSub, Nat.reduceLeDiff, Nat.reduceEqDiff, Nat.reduceBEq, ↓reduceIte, reduceCtorEq, Int.reduceEq, Int.reduceLE, Int.reduceLT, Int.reduceAdd, Int.reduceSub, Int.reduceNeg, Int.reduceToNat, Int.reduceNe, Nat.reducePow, Nat.reduceShiftRight, Nat.reduceMod, rounds_next, *])
        exact fin_mut (.sc (.bool true)) (.inr rfl) (by (simp (disch := omega) only [go_sem, Nat.reduceMul, Nat.reduceSub, Nat.reduceShiftRight, Nat.reduceMod, Nat.reduceEqDiff, Nat.reduceAdd, ↓reduceIte, Nat.reduceLeDiff, *]); all_goals rfl) (show putRaw bys kind n s [] [] H nx id p q kp _ _ _ from ⟨Nat.le_trans hm2 (Nat.le_add_right _ _), hkk.out, .inr ⟨([] : List Lv), [], (.sc (.slice none 0 0)), .sc (.slice none 0 0), hysk.out, rfl, rfl, hHi, hrk.out.mono (Nat.le_add_right _ _) (fun _ _ _ _ => rfl), .inl ⟨rfl, rfl⟩⟩⟩)
      · have ha00 : 0 < args.length := by omega
        have hrk := Kept.mk hrow
        clear hrow
        repeat' (first | ((with_reducible first | refine cond_pos (by omega) ?_ | refine cond_neg (by omega) ?_ | refine guard_pos (by omega) ?_ | refine guard_neg (by omega) ?_ | refine cond_ifn ?_ ?_ | refine cond_waysn ?_ ?_ | refine guard_ifn ?_ ?_ | refine guard_waysn ?_ ?_ | refine cond_if ?_ ?_ | refine cond_ways ?_ ?_ | refine guard_if ?_ ?_ | refine guard_ways ?_ ?_) <;> intro _) | simp (maxSteps := 1000000) (disch := omega) only [go_sem, Nat.reduceAdd, Nat.reduceMul, Nat.reduceSub, Nat.reduceLeDiff, Nat.reduceEqDiff, Nat.reduceBEq, ↓reduceIte, reduceCtorEq, Int.reduceEq, Int.reduceLE, Int.reduceLT, Int.reduceAdd, Int.reduceSub, Int.reduceNeg, Int.reduceToNat, Int.reduceNe, Nat.reducePow, Nat.reduceShiftRight, Nat.reduceMod, at0, at1, at2, at3, at4, List.take_succ_cons, List.drop_succ_cons, List.take_zero, List.drop_zero, List.cons_append, List.nil_append, hz1, hz2, hz3, hz4, and_self, *])
        refine c_loopW 83076591280232213527812754179621952 (by kernel_rfl) (fun j f H3 m3 => ∃ (i2 : Nat) (zs : List Tm), j = args.length - i2 ∧ i2 ≤ args.length ∧ f 97 = .sc (.int .i64 i2) ∧ m + 13 < m3 ∧ Kept (putLs bys (args.take i2) = some zs) ∧ Kept (zs.length = i2) ∧ Kept (∀ j, kp j = true → H3 j = H j) ∧
          H3 id = some ⟨p ++ (.sc (.int .i64 kind) :: .sc (.int .i64 n) :: .sc (.string s) :: (.sc (.slice none 0 0)) :: .osl (m + 13) 0 args.length 5 :: q), true⟩ ∧ Kept (H3 (m + 13) = some ⟨zs.flatMap Tm.pv ++ zeros [.int .i64 0, .int .i64 0, .string ⟨#[]⟩, .slice none 0 0, .slice none 0 0] (args.length - i2), true⟩) ∧ Kept (RowP H3 nx m 3 (.sc (.slice none 0 0)) (([] : List Lv).map Lv.pv))) _
          ⟨0, [], rfl, (by first | assumption | omega | rfl | (simp (disch := omega) only [go_sem, Nat.reduceMul, Nat.reduceSub, Nat.reduceShiftRight, Nat.reduceMod, Nat.reduceEqDiff, Nat.reduceAdd, ↓reduceIte, Nat.reduceLeDiff, *] <;> omega)), (by first | assumption | omega | rfl | (simp (disch := omega) only [go_sem, Nat.reduceMul, Nat.reduceSub, Nat.reduceShiftRight, Nat.reduceMod, Nat.reduceEqDiff, Nat.reduceAdd, ↓reduceIte, Nat.reduceLeDiff, *] <;> omega)), Nat.add_lt_add_left (by omega) _, Kept.mk rfl, Kept.mk rfl, Kept.mk (fun j hj => by have h1 := hkp2.out j hj; exact ((upd_ne _ _ h1.1).trans (upd_ne _ _ (show j ≠ m + 13 by omega))).trans (hkk.out j hj)), upd_same _ _ _, Kept.mk ((upd_ne _ _ (show m + 13 ≠ id by omega)).trans ((upd_same _ _ _).trans rfl)), Kept.mk (hrk.out.mono (Nat.le_refl _) fun j g1 g2 _ => (upd_ne _ _ (show j ≠ id by omega)).trans (upd_ne _ _ (show j ≠ m + 13 by omega)))⟩ ?_
        clear hkk hrk hHi
        rintro _ f3 H3 m3 ⟨i2, zs, rfl, hi2, e97, hm3, hzs, hzl, hkk, hHi, hHb, hrk⟩
        by_cases hlt2 : i2 < args.length
        · have eg : args[i2]? = some args[i2] := List.getElem?_eq_getElem hlt2
          have hn := nodesT_mem args i2 hlt2
          have hs := sizeL_mem args i2 hlt2
          repeat' (first | ((with_reducible first | refine cond_pos (by omega) ?_ | refine cond_neg (by omega) ?_ | refine guard_pos (by omega) ?_ | refine guard_neg (by omega) ?_ | refine cond_ifn ?_ ?_ | refine cond_waysn ?_ ?_ | refine guard_ifn ?_ ?_ | refine guard_waysn ?_ ?_ | refine cond_if ?_ ?_ | refine cond_ways ?_ ?_ | refine guard_if ?_ ?_ | refine guard_ways ?_ ?_) <;> intro _) | simp (maxSteps := 1000000) (disch := omega) only [go_sem, Nat.reduceAdd, Nat.reduceMul, Nat.reduceSub, Nat.reduceLeDiff, Nat.reduceEqDiff, Nat.reduceBEq, ↓reduceIte, reduceCtorEq, Int.reduceEq, Int.reduceLE, Int.reduceLT, Int.reduceAdd, Int.reduceSub, Int.reduceNeg, Int.reduceToNat, Int.reduceNe, Nat.reducePow, Nat.reduceShiftRight, Nat.reduceMod, at0, at1, at2, at3, at4, List.take_succ_cons, List.drop_succ_cons, List.take_zero, List.drop_zero, List.cons_append, List.nil_append, hz1, hz2, hz3, hz4, and_self, *])
          obtain ⟨r, hr⟩ : ∃ r, args.length - i2 = r + 1 := ⟨args.length - i2 - 1, by omega⟩
          have hHb2 := hHb.out
          rw [hr] at hHb2
          refine call_mut (ihk.out args[i2] (by omega) (by omega) _ _ (m + 13) (i2 * 5) (zs.flatMap Tm.pv) (zeros [.int .i64 0, .int .i64 0, .string ⟨#[]⟩, .slice none 0 0, .slice none 0 0] r) (fun j => kp j || decide (j = id) || leads (.sc (.slice none 0 0)) j) hHb2 (Nat.lt_of_lt_of_le hm3 (Nat.le_add_right _ _)) (by rw [flat_lenG _ 5 tm_len, hzl.out]) (tms_immF zs) (zeros_imm r) ?kp) ?_
          case kp =>
            intro j hj
            simp only [Bool.or_eq_true, decide_eq_true_eq] at hj
            rcases hj with (hj | rfl) | hj
            · have h1 := hkpk.out j hj
              refine ⟨by omega, Nat.lt_of_lt_of_le (by omega : j < m3) (Nat.le_add_right _ _), fun o ho => ?_⟩
              have h2 := h1.2.2 o ((hkk.out j hj).symm.trans ho)
              exact ⟨h2.1, h2.2.mono (Nat.le_trans (by omega : nx ≤ m3) (Nat.le_add_right _ _))⟩
            · refine ⟨by omega, Nat.lt_of_lt_of_le (by omega : j < m3) (Nat.le_add_right _ _), fun o ho => ?_⟩
              have ho2 := hHi.symm.trans ho
              cases ho2
              refine ⟨isIt_len (by simp; omega), ?_⟩
              exact (FixL.imm hpik.out).append (.cons rfl (.cons rfl (.cons rfl (hrk.out.fix (Nat.le_trans (by omega : m ≤ m3) (Nat.le_add_right _ _)) (.osl (Nat.lt_of_lt_of_le hm3 (Nat.le_add_right _ _)) (.imm hqik.out))))))
            · have h1 := hrk.out.lead (flat3_ne1 _) (lvs_immF _) hj (m3 + 15)
              refine ⟨by omega, Nat.lt_of_lt_of_le (by omega : j < m3) (Nat.le_add_right _ _), fun o ho => (hrk.out.lead (flat3_ne1 _) (lvs_immF _) hj _).2.2 o ho⟩
          rintro H' nx' r' ⟨hn1, hk1, hcase⟩ -
          have hn2 : m3 ≤ nx' := Nat.le_trans (Nat.le_add_right _ _) hn1
          have hkk' : Kept (∀ j, kp j = true → H' j = H j) := Kept.mk fun j hj => (hk1 j (by simp [hj])).trans (hkk.out j hj)
          have hHi' : H' id = _ := (hk1 id (by simp)).trans hHi
          have hrk' : Kept (RowP H' nx m 3 (.sc (.slice none 0 0)) (([] : List Lv).map Lv.pv)) := Kept.mk (hrk.out.mono (Nat.le_refl _) fun j g1 g2 g3 => hk1 j (by simp [g3]))
          rcases hcase with ⟨hno, rfl⟩ | ⟨y, hy, rfl, hrow'⟩
          · have hnok : Kept ((Tm.mk kind n s [] args).putL bys = none) := Kept.mk (by
              simp only [Tm.putL, putLs_none bys args i2 hlt2 hno]
              cases insts bys [] <;> rfl)
            clear hno hk1 hkk hHi hrk hHb hHb2 ihk hn1
            repeat' (first | ((with_reducible first | refine cond_pos (by omega) ?_ | refine cond_neg (by omega) ?_ | refine guard_pos (by omega) ?_ | refine guard_neg (by omega) ?_ | refine cond_ifn ?_ ?_ | refine cond_waysn ?_ ?_ | refine guard_ifn ?_ ?_ | refine guard_waysn ?_ ?_ | refine cond_if ?_ ?_ | refine cond_ways ?_ ?_ | refine guard_if ?_ ?_ | refine guard_ways ?_ ?_) <;> intro _) | simp (maxSteps := 1000000) (disch := omega) only [go_sem, Nat.reduceAdd, Nat.reduceMul, Nat.reduceSub, Nat.reduceLeDiff, Nat.reduceEqDiff, Nat.reduceBEq, ↓reduceIte, reduceCtorEq, Int.reduceEq, Int.reduceLE, Int.reduceLT, Int.reduceAdd, Int.reduceSub, Int.reduceNeg, Int.reduceToNat, Int.reduceNe, Nat.reducePow, Nat.reduceShiftRight, Nat.reduceMod, at0, at1, at2, at3, at4, List.take_succ_cons, List.drop_succ_cons, List.take_zero, List.drop_zero, List.cons_append, List.nil_append, hz1, hz2, hz3, hz4, and_self, *])
            exact fin_mut (.sc (.bool false)) (.inr rfl) (by (simp (disch := omega) only [go_sem, Nat.reduceMul, Nat.reduceSub, Nat.reduceShiftRight, Nat.reduceMod, Nat.reduceEqDiff, Nat.reduceAdd, ↓reduceIte, Nat.reduceLeDiff, *]); all_goals rfl) (show putRaw bys kind n s [] args H nx id p q kp _ _ _ from ⟨Nat.le_trans (by omega : nx ≤ nx') (Nat.le_add_right _ _), hkk'.out, .inl ⟨hnok.out, rfl⟩⟩)
          · have hsn := putLs_snoc bys args[i2] (args.take i2) zs hzs.out
            rw [hy, Option.map_some] at hsn
            have hzs2 : Kept (putLs bys (args.take (i2 + 1)) = some (zs ++ [y])) := Kept.mk (by rw [List.take_succ_eq_append_getElem hlt2]; exact hsn)
            have hrowk : Kept (H' (m + 13) = some ⟨(zs ++ [y]).flatMap Tm.pv ++ zeros [.int .i64 0, .int .i64 0, .string ⟨#[]⟩, .slice none 0 0, .slice none 0 0] (args.length - (i2 + 1)), true⟩) := Kept.mk (by
              rw [hrow', show args.length - (i2 + 1) = r by omega, List.flatMap_append]
              simp)
            clear hy hsn hk1 hkk hHi hrk hHb hHb2 ihk hn1 hrow' hzs
            repeat' (first | ((with_reducible first | refine cond_pos (by omega) ?_ | refine cond_neg (by omega) ?_ | refine guard_pos (by omega) ?_ | refine guard_neg (by omega) ?_ | refine cond_ifn ?_ ?_ | refine cond_waysn ?_ ?_ | refine guard_ifn ?_ ?_ | refine guard_waysn ?_ ?_ | refine cond_if ?_ ?_ | refine cond_ways ?_ ?_ | refine guard_if ?_ ?_ | refine guard_ways ?_ ?_) <;> intro _) | simp (maxSteps := 1000000) (disch := omega) only [go_sem, Nat.reduceAdd, Nat.reduceMul, Nat.reduceSub, Nat.reduceLeDiff, Nat.reduceEqDiff, Nat.reduceBEq, ↓reduceIte, reduceCtorEq, Int.reduceEq, Int.reduceLE, Int.reduceLT, Int.reduceAdd, Int.reduceSub, Int.reduceNeg, Int.reduceToNat, Int.reduceNe, Nat.reducePow, Nat.reduceShiftRight, Nat.reduceMod, at0, at1, at2, at3, at4, List.take_succ_cons, List.drop_succ_cons, List.take_zero, List.drop_zero, List.cons_append, List.nil_append, hz1, hz2, hz3, hz4, and_self, *])
            exact Nx.mk (args.length - (i2 + 1)) (by first | assumption | omega | rfl | (simp (disch := omega) only [go_sem, Nat.reduceMul, Nat.reduceSub, Nat.reduceShiftRight, Nat.reduceMod, Nat.reduceEqDiff, Nat.reduceAdd, ↓reduceIte, Nat.reduceLeDiff, *] <;> omega)) ⟨i2 + 1, zs ++ [y], rfl, (by first | assumption | omega | rfl | (simp (disch := omega) only [go_sem, Nat.reduceMul, Nat.reduceSub, Nat.reduceShiftRight, Nat.reduceMod, Nat.reduceEqDiff, Nat.reduceAdd, ↓reduceIte, Nat.reduceLeDiff, *] <;> omega)), (by first | assumption | omega | rfl | (simp (disch := omega) only [go_sem, Nat.reduceMul, Nat.reduceSub, Nat.reduceShiftRight, Nat.reduceMod, Nat.reduceEqDiff, Nat.reduceAdd, ↓reduceIte, Nat.reduceLeDiff, *] <;> omega)), Nat.lt_of_lt_of_le (by omega : m + 13 < nx') (Nat.le_add_right _ _), hzs2, Kept.mk (by simp [hzl.out]), hkk', hHi', hrowk, hrk'⟩
        · obtain rfl : i2 = args.length := by omega
          have hzs' := hzs.out
          rw [List.take_length] at hzs'
          have hzk := Kept.mk hzs'
          have hHb' : Kept (H3 (m + 13) = some ⟨zs.flatMap Tm.pv, true⟩) := Kept.mk (by rw [hHb.out, Nat.sub_self]; simp [zeros])
          clear hzs' hzs hHb ihk
          repeat' (first | ((with_reducible first | refine cond_pos (by omega) ?_ | refine cond_neg (by omega) ?_ | refine guard_pos (by omega) ?_ | refine guard_neg (by omega) ?_ | refine cond_ifn ?_ ?_ | refine cond_waysn ?_ ?_ | refine guard_ifn ?_ ?_ | refine guard_waysn ?_ ?_ | refine cond_if ?_ ?_ | refine cond_ways ?_ ?_ | refine guard_if ?_ ?_ | refine guard_ways ?_ ?_) <;> intro _) | simp (maxSteps := 1000000) (disch := omega) only [go_sem, Nat.reduceAdd, Nat.reduceMul, Nat.reduceSub, Nat.reduceLeDiff, Nat.reduceEqDiff, Nat.reduceBEq, ↓reduceIte, reduceCtorEq, Int.reduceEq, Int.reduceLE, Int.reduceLT, Int.reduceAdd, Int.reduceSub, Int.reduceNeg, Int.reduceToNat, Int.reduceNe, Nat.reducePow, Nat.reduceShiftRight, Nat.reduceMod, at0, at1, at2, at3, at4, List.take_succ_cons, List.drop_succ_cons, List.take_zero, List.drop_zero, List.cons_append, List.nil_append, hz1, hz2, hz3, hz4, and_self, *])
          exact fin_mut (.sc (.bool true)) (.inr rfl) (by (simp (disch := omega) only [go_sem, Nat.reduceMul, Nat.reduceSub, Nat.reduceShiftRight, Nat.reduceMod, Nat.reduceEqDiff, Nat.reduceAdd, ↓reduceIte, Nat.reduceLeDiff, *]); all_goals rfl) (show putRaw bys kind n s [] args H nx id p q kp _ _ _ from ⟨Nat.le_trans (by omega : nx ≤ m3) (Nat.le_add_right _ _), hkk.out, .inr ⟨([] : List Lv), zs, (.sc (.slice none 0 0)), .osl (m + 13) 0 args.length 5, hysk.out, hzk.out, rfl, hHi, hrk.out.mono (Nat.le_trans (by omega : m ≤ m3) (Nat.le_add_right _ _)) (fun _ _ _ _ => rfl), .inr ⟨m + 13, by omega, Nat.lt_of_lt_of_le hm3 (Nat.le_add_right _ _), by rw [List.length_map, hzl.out], hHb'.out.trans (by rw [List.flatMap_def])⟩⟩⟩)
    · have hl00 : 0 < ls.length := by omega
      repeat' (first | ((with_reducible first | refine cond_pos (by omega) ?_ | refine cond_neg (by omega) ?_ | refine guard_pos (by omega) ?_ | refine guard_neg (by omega) ?_ | refine cond_ifn ?_ ?_ | refine cond_waysn ?_ ?_ | refine guard_ifn ?_ ?_ | refine guard_waysn ?_ ?_ | refine cond_if ?_ ?_ | refine cond_ways ?_ ?_ | refine guard_if ?_ ?_ | refine guard_ways ?_ ?_) <;> intro _) | simp (maxSteps := 1000000) (disch := omega) only [go_sem, Nat.reduceAdd, Nat.reduceMul, Nat.reduceSub, Nat.reduceLeDiff, Nat.reduceEqDiff, Nat.reduceBEq, ↓reduceIte, reduceCtorEq, Int.reduceEq, Int.reduceLE, Int.reduceLT, Int.reduceAdd, Int.reduceSub, Int.reduceNeg, Int.reduceToNat, Int.reduceNe, Nat.reducePow, Nat.reduceShiftRight, Nat.reduceMod, mc_term_putLevels, Tm.pv, at0, at1, at2, at3, at4, List.take_succ_cons, List.drop_succ_cons, List.take_zero, List.drop_zero, List.cons_append, List.nil_append, hz1, hz2, hz3, hz4, and_self, *])
      refine c_loopW 151115722948229019468736 (by kernel_rfl) (fun j f H2 m => ∃ (i : Nat) (ys : List Lv) (a : PV), j = ls.length - i ∧ i ≤ ls.length ∧ f 52 = .sc (.int .i64 i) ∧ nx ≤ m ∧ Kept (insts bys (ls.take i) = some ys) ∧ Kept (ys.length = i) ∧ Kept (∀ j, kp j = true → H2 j = H j) ∧
        H2 id = some ⟨p ++ (.sc (.int .i64 kind) :: .sc (.int .i64 n) :: .sc (.string s) :: a :: .sc (.slice none 0 0) :: q), true⟩ ∧ ∃ idr, nx ≤ idr ∧ idr < m ∧ a = .osl idr 0 ls.length 3 ∧ H2 idr = some ⟨halfG Lv.pv z3 ys (ls.length - i), true⟩) _ ⟨0, [], _, rfl, (by first | assumption | omega | rfl | (simp (disch := omega) only [go_sem, Nat.reduceMul, Nat.reduceSub, Nat.reduceShiftRight, Nat.reduceMod, Nat.reduceEqDiff, Nat.reduceAdd, ↓reduceIte, Nat.reduceLeDiff, *] <;> omega)), (by first | assumption | omega | rfl | (simp (disch := omega) only [go_sem, Nat.reduceMul, Nat.reduceSub, Nat.reduceShiftRight, Nat.reduceMod, Nat.reduceEqDiff, Nat.reduceAdd, ↓reduceIte, Nat.reduceLeDiff, *] <;> omega)), Nat.le_add_right _ _, Kept.mk rfl, Kept.mk rfl, Kept.mk (fun j hj => by have := hkp2.out j hj; simp [upd, this.1]; try omega), upd_same _ _ _, _, Nat.le_add_right _ _, Nat.add_lt_add_left (by omega) _, rfl, (upd_ne _ _ (show nx + 37 ≠ id by omega)).trans ((upd_same _ _ _).trans rfl)⟩ ?_
      clear hl0 hH
      rintro _ f H2 m ⟨i, ys, _, rfl, hi, e52, hm2, hys, hyl, hkk, hHi, idr, hr1, hr2, rfl, hr3⟩
      by_cases hlt : i < ls.length
      · have eg : ls[i]? = some ls[i] := List.getElem?_eq_getElem hlt
        have c1 := Inst_p ls[i] bys
        rw [← instV_eq] at c1
        simp only [lvs] at c1
        cases hv : ls[i].instV bys with
        | none =>
          have hnok : Kept ((Tm.mk kind n s ls args).putL bys = none) := Kept.mk (by simp only [Tm.putL, insts_none bys ls i hlt hv])
          rw [hv] at c1
          simp only [instPV] at c1
          clear ihk hv
          repeat' (first | ((with_reducible first | refine cond_pos (by omega) ?_ | refine cond_neg (by omega) ?_ | refine guard_pos (by omega) ?_ | refine guard_neg (by omega) ?_ | refine cond_ifn ?_ ?_ | refine cond_waysn ?_ ?_ | refine guard_ifn ?_ ?_ | refine guard_waysn ?_ ?_ | refine cond_if ?_ ?_ | refine cond_ways ?_ ?_ | refine guard_if ?_ ?_ | refine guard_ways ?_ ?_) <;> intro _) | (((with_reducible refine call_id ?_); (first | (refine call_pure (c1) ?_)))) | simp (maxSteps := 1000000) (disch := omega) only [go_sem, Nat.reduceAdd, Nat.reduceMul, Nat.reduceSub, Nat.reduceLeDiff, Nat.reduceEqDiff, Nat.reduceBEq, ↓reduceIte, reduceCtorEq, Int.reduceEq, Int.reduceLE, Int.reduceLT, Int.reduceAdd, Int.reduceSub, Int.reduceNeg, Int.reduceToNat, Int.reduceNe, Nat.reducePow, Nat.reduceShiftRight, Nat.reduceMod, at0, at1, at2, at3, at4, List.take_succ_cons, List.drop_succ_cons, List.take_zero, List.drop_zero, List.cons_append, List.nil_append, hz1, hz2, hz3, hz4, and_self, *])
          exact fin_mut (.sc (.bool false)) (.inr rfl) (by (simp (disch := omega) only [go_sem, Nat.reduceMul, Nat.reduceSub, Nat.reduceShiftRight, Nat.reduceMod, Nat.reduceEqDiff, Nat.reduceAdd, ↓reduceIte, Nat.reduceLeDiff, *]); all_goals rfl) (show putRaw bys kind n s ls args H nx id p q kp _ _ _ from ⟨Nat.le_trans hm2 (Nat.le_add_right _ _), (fun j hj => by have h1 := hkp2.out j hj; have h2 := hkk.out j hj; simp [upd, show j ≠ m + 15 by omega, h2]), .inl ⟨hnok.out, rfl⟩⟩)
        | some y =>
          rw [hv] at c1
          simp only [instPV] at c1
          have hsn := insts_snoc bys ls[i] (ls.take i) ys hys.out
          rw [hv, Option.map_some] at hsn
          have hys2 : Kept (insts bys (ls.take (i + 1)) = some (ys ++ [y])) := Kept.mk (by rw [List.take_succ_eq_append_getElem hlt]; exact hsn)
          have hhl := halfG_len (g := Lv.pv) pv_len (rfl : z3.length = 3) ys (ls.length - i)
          rw [hyl.out] at hhl
          have hhs := halfG_set' (g := Lv.pv) pv_len (rfl : z3.length = 3) ys i ls.length y hlt hyl.out
          have hle : i * 3 + 3 ≤ i * 3 + (ls.length - i) * 3 := by omega
          clear ihk hv hsn hys
          repeat' (first | ((with_reducible first | refine cond_pos (by omega) ?_ | refine cond_neg (by omega) ?_ | refine guard_pos (by omega) ?_ | refine guard_neg (by omega) ?_ | refine cond_ifn ?_ ?_ | refine cond_waysn ?_ ?_ | refine guard_ifn ?_ ?_ | refine guard_waysn ?_ ?_ | refine cond_if ?_ ?_ | refine cond_ways ?_ ?_ | refine guard_if ?_ ?_ | refine guard_ways ?_ ?_) <;> intro _) | (((with_reducible refine call_id ?_); (first | (refine call_pure (c1) ?_)))) | simp (maxSteps := 1000000) (disch := omega) only [go_sem, Nat.reduceAdd, Nat.reduceMul, Nat.reduceSub, Nat.reduceLeDiff, Nat.reduceEqDiff, Nat.reduceBEq, ↓reduceIte, reduceCtorEq, Int.reduceEq, Int.reduceLE, Int.reduceLT, Int.reduceAdd, Int.reduceSub, Int.reduceNeg, Int.reduceToNat, Int.reduceNe, Nat.reducePow, Nat.reduceShiftRight, Nat.reduceMod, at0, at1, at2, at3, at4, List.take_succ_cons, List.drop_succ_cons, List.take_zero, List.drop_zero, List.cons_append, List.nil_append, hz1, hz2, hz3, hz4, and_self, *])
          exact Nx.mk (ls.length - (i + 1)) (by first | assumption | omega | rfl | (simp (disch := omega) only [go_sem, Nat.reduceMul, Nat.reduceSub, Nat.reduceShiftRight, Nat.reduceMod, Nat.reduceEqDiff, Nat.reduceAdd, ↓reduceIte, Nat.reduceLeDiff, *] <;> omega)) ⟨i + 1, ys ++ [y], _, rfl, (by first | assumption | omega | rfl | (simp (disch := omega) only [go_sem, Nat.reduceMul, Nat.reduceSub, Nat.reduceShiftRight, Nat.reduceMod, Nat.reduceEqDiff, Nat.reduceAdd, ↓reduceIte, Nat.reduceLeDiff, *] <;> omega)), (by first | assumption | omega | rfl | (simp (disch := omega) only [go_sem, Nat.reduceMul, Nat.reduceSub, Nat.reduceShiftRight, Nat.reduceMod, Nat.reduceEqDiff, Nat.reduceAdd, ↓reduceIte, Nat.reduceLeDiff, *] <;> omega)), Nat.le_trans hm2 (Nat.le_add_right _ _), hys2, Kept.mk (by simp [hyl.out]), Kept.mk (fun j hj => by have h1 := hkp2.out j hj; have h2 := hkk.out j hj; simp [upd, show j ≠ m + 15 by omega, show j ≠ idr by omega, h2]), by (simp [upd, show id ≠ m + 15 by omega, show id ≠ idr by omega]; exact hHi), idr, hr1, Nat.lt_of_lt_of_le hr2 (Nat.le_add_right _ _), rfl, upd_same _ _ _⟩
      · obtain rfl : i = ls.length := by omega
        have hys' := hys.out
        rw [List.take_length] at hys'
        have hysk := Kept.mk hys'
        have hrow : RowP H2 nx m 3 (.osl idr 0 ls.length 3) (ys.map Lv.pv) := .inr ⟨idr, hr1, hr2, by rw [List.length_map, hyl.out], by rw [hr3, Nat.sub_self, halfG, List.flatMap_def]; simp [zeros]⟩
        clear hys hys' hr3
        by_cases ha0 : args.length = 0
        · obtain rfl : args = [] := List.eq_nil_of_length_eq_zero ha0
          have hrk := Kept.mk hrow
          clear hrow ihk
          repeat' (first | ((with_reducible first | refine cond_pos (by omega) ?_ | refine cond_neg (by omega) ?_ | refine guard_pos (by omega) ?_ | refine guard_neg (by omega) ?_ | refine cond_ifn ?_ ?_ | refine cond_waysn ?_ ?_ | refine guard_ifn ?_ ?_ | refine guard_waysn ?_ ?_ | refine cond_if ?_ ?_ | refine cond_ways ?_ ?_ | refine guard_if ?_ ?_ | refine guard_ways ?_ ?_) <;> intro _) | simp (maxSteps := 1000000) (disch := omega) only [go_sem, Nat.reduceAdd, Nat.reduceMul, Nat.reduceSub, Nat.reduceLeDiff, Nat.reduceEqDiff, Nat.reduceBEq, ↓reduceIte, reduceCtorEq, Int.reduceEq, Int.reduceLE, Int.reduceLT, Int.reduceAdd, Int.reduceSub, Int.reduceNeg, Int.reduceToNat, Int.reduceNe, Nat.reducePow, Nat.reduceShiftRight, Nat.reduceMod, at0, at1, at2, at3, at4, List.take_succ_cons, List.drop_succ_cons, List.take_zero, List.drop_zero, List.cons_append, List.nil_append, hz1, hz2, hz3, hz4, and_self, *])
          refine c_rounds 1 ?_
          repeat' (first | ((with_reducible first | refine cond_pos (by omega) ?_ | refine cond_neg (by omega) ?_ | refine guard_pos (by omega) ?_ | refine guard_neg (by omega) ?_ | refine cond_ifn ?_ ?_ | refine cond_waysn ?_ ?_ | refine guard_ifn ?_ ?_ | refine guard_waysn ?_ ?_ | refine cond_if ?_ ?_ | refine cond_ways ?_ ?_ | refine guard_if ?_ ?_ | refine guard_ways ?_ ?_) <;> intro _) | simp (maxSteps := 1000000) (disch := omega) only [go_sem, Nat.reduceAdd, Nat.reduceMul, Nat.reduceSub, Nat.reduceLeDiff, Nat.reduceEqDiff, Nat.reduceBEq, ↓reduceIte, reduceCtorEq, Int.reduceEq, Int.reduceLE, Int.reduceLT, Int.reduceAdd, Int.reduceSub, Int.reduceNeg, Int.reduceToNat, Int.reduceNe, Nat.reducePow, Nat.reduceShiftRight, Nat.reduceMod, rounds_next, *])
          exact fin_mut (.sc (.bool true)) (.inr rfl) (by (simp (disch := omega) only [go_sem, Nat.reduceMul, Nat.reduceSub, Nat.reduceShiftRight, Nat.reduceMod, Nat.reduceEqDiff, Nat.reduceAdd, ↓reduceIte, Nat.reduceLeDiff, *]); all_goals rfl) (show putRaw bys kind n s ls [] H nx id p q kp _ _ _ from ⟨Nat.le_trans hm2 (Nat.le_add_right _ _), hkk.out, .inr ⟨ys, [], (.osl idr 0 ls.length 3), .sc (.slice none 0 0), hysk.out, rfl, rfl, hHi, hrk.out.mono (Nat.le_add_right _ _) (fun _ _ _ _ => rfl), .inl ⟨rfl, rfl⟩⟩⟩)
        · have ha00 : 0 < args.length := by omega
          have hrk := Kept.mk hrow
          clear hrow
          repeat' (first | ((with_reducible first | refine cond_pos (by omega) ?_ | refine cond_neg (by omega) ?_ | refine guard_pos (by omega) ?_ | refine guard_neg (by omega) ?_ | refine cond_ifn ?_ ?_ | refine cond_waysn ?_ ?_ | refine guard_ifn ?_ ?_ | refine guard_waysn ?_ ?_ | refine cond_if ?_ ?_ | refine cond_ways ?_ ?_ | refine guard_if ?_ ?_ | refine guard_ways ?_ ?_) <;> intro _) | simp (maxSteps := 1000000) (disch := omega) only [go_sem, Nat.reduceAdd, Nat.reduceMul, Nat.reduceSub, Nat.reduceLeDiff, Nat.reduceEqDiff, Nat.reduceBEq, ↓reduceIte, reduceCtorEq, Int.reduceEq, Int.reduceLE, Int.reduceLT, Int.reduceAdd, Int.reduceSub, Int.reduceNeg, Int.reduceToNat, Int.reduceNe, Nat.reducePow, Nat.reduceShiftRight, Nat.reduceMod, at0, at1, at2, at3, at4, List.take_succ_cons, List.drop_succ_cons, List.take_zero, List.drop_zero, List.cons_append, List.nil_append, hz1, hz2, hz3, hz4, and_self, *])
          refine c_loopW 83076591280232213527812754179621952 (by kernel_rfl) (fun j f H3 m3 => ∃ (i2 : Nat) (zs : List Tm), j = args.length - i2 ∧ i2 ≤ args.length ∧ f 97 = .sc (.int .i64 i2) ∧ m + 13 < m3 ∧ Kept (putLs bys (args.take i2) = some zs) ∧ Kept (zs.length = i2) ∧ Kept (∀ j, kp j = true → H3 j = H j) ∧
            H3 id = some ⟨p ++ (.sc (.int .i64 kind) :: .sc (.int .i64 n) :: .sc (.string s) :: (.osl idr 0 ls.length 3) :: .osl (m + 13) 0 args.length 5 :: q), true⟩ ∧ Kept (H3 (m + 13) = some ⟨zs.flatMap Tm.pv ++ zeros [.int .i64 0, .int .i64 0, .string ⟨#[]⟩, .slice none 0 0, .slice none 0 0] (args.length - i2), true⟩) ∧ Kept (RowP H3 nx m 3 (.osl idr 0 ls.length 3) (ys.map Lv.pv))) _
            ⟨0, [], rfl, (by first | assumption | omega | rfl | (simp (disch := omega) only [go_sem, Nat.reduceMul, Nat.reduceSub, Nat.reduceShiftRight, Nat.reduceMod, Nat.reduceEqDiff, Nat.reduceAdd, ↓reduceIte, Nat.reduceLeDiff, *] <;> omega)), (by first | assumption | omega | rfl | (simp (disch := omega) only [go_sem, Nat.reduceMul, Nat.reduceSub, Nat.reduceShiftRight, Nat.reduceMod, Nat.reduceEqDiff, Nat.reduceAdd, ↓reduceIte, Nat.reduceLeDiff, *] <;> omega)), Nat.add_lt_add_left (by omega) _, Kept.mk rfl, Kept.mk rfl, Kept.mk (fun j hj => by have h1 := hkp2.out j hj; exact ((upd_ne _ _ h1.1).trans (upd_ne _ _ (show j ≠ m + 13 by omega))).trans (hkk.out j hj)), upd_same _ _ _, Kept.mk ((upd_ne _ _ (show m + 13 ≠ id by omega)).trans ((upd_same _ _ _).trans rfl)), Kept.mk (hrk.out.mono (Nat.le_refl _) fun j g1 g2 _ => (upd_ne _ _ (show j ≠ id by omega)).trans (upd_ne _ _ (show j ≠ m + 13 by omega)))⟩ ?_
          clear hkk hrk hHi
          rintro _ f3 H3 m3 ⟨i2, zs, rfl, hi2, e97, hm3, hzs, hzl, hkk, hHi, hHb, hrk⟩
          by_cases hlt2 : i2 < args.length
          · have eg : args[i2]? = some args[i2] := List.getElem?_eq_getElem hlt2
            have hn := nodesT_mem args i2 hlt2
            have hs := sizeL_mem args i2 hlt2
            repeat' (first | ((with_reducible first | refine cond_pos (by omega) ?_ | refine cond_neg (by omega) ?_ | refine guard_pos (by omega) ?_ | refine guard_neg (by omega) ?_ | refine cond_ifn ?_ ?_ | refine cond_waysn ?_ ?_ | refine guard_ifn ?_ ?_ | refine guard_waysn ?_ ?_ | refine cond_if ?_ ?_ | refine cond_ways ?_ ?_ | refine guard_if ?_ ?_ | refine guard_ways ?_ ?_) <;> intro _) | simp (maxSteps := 1000000) (disch := omega) only [go_sem, Nat.reduceAdd, Nat.reduceMul, Nat.reduceSub, Nat.reduceLeDiff, Nat.reduceEqDiff, Nat.reduceBEq, ↓reduceIte, reduceCtorEq, Int.reduceEq, Int.reduceLE, Int.reduceLT, Int.reduceAdd, Int.reduceSub, Int.reduceNeg, Int.reduceToNat, Int.reduceNe, Nat.reducePow, Nat.reduceShiftRight, Nat.reduceMod, at0, at1, at2, at3, at4, List.take_succ_cons, List.drop_succ_cons, List.take_zero, List.drop_zero, List.cons_append, List.nil_append, hz1, hz2, hz3, hz4, and_self, *])
            obtain ⟨r, hr⟩ : ∃ r, args.length - i2 = r + 1 := ⟨args.length - i2 - 1, by omega⟩
            have hHb2 := hHb.out
            rw [hr] at hHb2
            refine call_mut (ihk.out args[i2] (by omega) (by omega) _ _ (m + 13) (i2 * 5) (zs.flatMap Tm.pv) (zeros [.int .i64 0, .int .i64 0, .string ⟨#[]⟩, .slice none 0 0, .slice none 0 0] r) (fun j => kp j || decide (j = id) || leads (.osl idr 0 ls.length 3) j) hHb2 (Nat.lt_of_lt_of_le hm3 (Nat.le_add_right _ _)) (by rw [flat_lenG _ 5 tm_len, hzl.out]) (tms_immF zs) (zeros_imm r) ?kp) ?_
            case kp =>
              intro j hj
              simp only [Bool.or_eq_true, decide_eq_true_eq] at hj
              rcases hj with (hj | rfl) | hj
              · have h1 := hkpk.out j hj
                refine ⟨by omega, Nat.lt_of_lt_of_le (by omega : j < m3) (Nat.le_add_right _ _), fun o ho => ?_⟩
                have h2 := h1.2.2 o ((hkk.out j hj).symm.trans ho)
                exact ⟨h2.1, h2.2.mono (Nat.le_trans (by omega : nx ≤ m3) (Nat.le_add_right _ _))⟩
              · refine ⟨by omega, Nat.lt_of_lt_of_le (by omega : j < m3) (Nat.le_add_right _ _), fun o ho => ?_⟩
                have ho2 := hHi.symm.trans ho
                cases ho2
                refine ⟨isIt_len (by simp; omega), ?_⟩
                exact (FixL.imm hpik.out).append (.cons rfl (.cons rfl (.cons rfl (hrk.out.fix (Nat.le_trans (by omega : m ≤ m3) (Nat.le_add_right _ _)) (.osl (Nat.lt_of_lt_of_le hm3 (Nat.le_add_right _ _)) (.imm hqik.out))))))
              · have h1 := hrk.out.lead (flat3_ne1 _) (lvs_immF _) hj (m3 + 15)
                refine ⟨by omega, Nat.lt_of_lt_of_le (by omega : j < m3) (Nat.le_add_right _ _), fun o ho => (hrk.out.lead (flat3_ne1 _) (lvs_immF _) hj _).2.2 o ho⟩
            rintro H' nx' r' ⟨hn1, hk1, hcase⟩ -
            have hn2 : m3 ≤ nx' := Nat.le_trans (Nat.le_add_right _ _) hn1
            have hkk' : Kept (∀ j, kp j = true → H' j = H j) := Kept.mk fun j hj => (hk1 j (by simp [hj])).trans (hkk.out j hj)
            have hHi' : H' id = _ := (hk1 id (by simp)).trans hHi
            have hrk' : Kept (RowP H' nx m 3 (.osl idr 0 ls.length 3) (ys.map Lv.pv)) := Kept.mk (hrk.out.mono (Nat.le_refl _) fun j g1 g2 g3 => hk1 j (by simp [g3]))
            rcases hcase with ⟨hno, rfl⟩ | ⟨y, hy, rfl, hrow'⟩
            · have hnok : Kept ((Tm.mk kind n s ls args).putL bys = none) := Kept.mk (by
                simp only [Tm.putL, putLs_none bys args i2 hlt2 hno]
                cases insts bys ls <;> rfl)
              clear hno hk1 hkk hHi hrk hHb hHb2 ihk hn1
              repeat' (first | ((with_reducible first | refine cond_pos (by omega) ?_ | refine cond_neg (by omega) ?_ | refine guard_pos (by omega) ?_ | refine guard_neg (by omega) ?_ | refine cond_ifn ?_ ?_ | refine cond_waysn ?_ ?_ | refine guard_ifn ?_ ?_ | refine guard_waysn ?_ ?_ | refine cond_if ?_ ?_ | refine cond_ways ?_ ?_ | refine guard_if ?_ ?_ | refine guard_ways ?_ ?_) <;> intro _) | simp (maxSteps := 1000000) (disch := omega) only [go_sem, Nat.reduceAdd, Nat.reduceMul, Nat.reduceSub, Nat.reduceLeDiff, Nat.reduceEqDiff, Nat.reduceBEq, ↓reduceIte, reduceCtorEq, Int.reduceEq, Int.reduceLE, Int.reduceLT, Int.reduceAdd, Int.reduceSub, Int.reduceNeg, Int.reduceToNat, Int.reduceNe, Nat.reducePow, Nat.reduceShiftRight, Nat.reduceMod, at0, at1, at2, at3, at4, List.take_succ_cons, List.drop_succ_cons, List.take_zero, List.drop_zero, List.cons_append, List.nil_append, hz1, hz2, hz3, hz4, and_self, *])
              exact fin_mut (.sc (.bool false)) (.inr rfl) (by (simp (disch := omega) only [go_sem, Nat.reduceMul, Nat.reduceSub, Nat.reduceShiftRight, Nat.reduceMod, Nat.reduceEqDiff, Nat.reduceAdd, ↓reduceIte, Nat.reduceLeDiff, *]); all_goals rfl) (show putRaw bys kind n s ls args H nx id p q kp _ _ _ from ⟨Nat.le_trans (by omega : nx ≤ nx') (Nat.le_add_right _ _), hkk'.out, .inl ⟨hnok.out, rfl⟩⟩)
            · have hsn := putLs_snoc bys args[i2] (args.take i2) zs hzs.out
              rw [hy, Option.map_some] at hsn
              have hzs2 : Kept (putLs bys (args.take (i2 + 1)) = some (zs ++ [y])) := Kept.mk (by rw [List.take_succ_eq_append_getElem hlt2]; exact hsn)
              have hrowk : Kept (H' (m + 13) = some ⟨(zs ++ [y]).flatMap Tm.pv ++ zeros [.int .i64 0, .int .i64 0, .string ⟨#[]⟩, .slice none 0 0, .slice none 0 0] (args.length - (i2 + 1)), true⟩) := Kept.mk (by
                rw [hrow', show args.length - (i2 + 1) = r by omega, List.flatMap_append]
                simp)
              clear hy hsn hk1 hkk hHi hrk hHb hHb2 ihk hn1 hrow' hzs
              repeat' (first | ((with_reducible first | refine cond_pos (by omega) ?_ | refine cond_neg (by omega) ?_ | refine guard_pos (by omega) ?_ | refine guard_neg (by omega) ?_ | refine cond_ifn ?_ ?_ | refine cond_waysn ?_ ?_ | refine guard_ifn ?_ ?_ | refine guard_waysn ?_ ?_ | refine cond_if ?_ ?_ | refine cond_ways ?_ ?_ | refine guard_if ?_ ?_ | refine guard_ways ?_ ?_) <;> intro _) | simp (maxSteps := 1000000) (disch := omega) only [go_sem, Nat.reduceAdd, Nat.reduceMul, Nat.reduceSub, Nat.reduceLeDiff, Nat.reduceEqDiff, Nat.reduceBEq, ↓reduceIte, reduceCtorEq, Int.reduceEq, Int.reduceLE, Int.reduceLT, Int.reduceAdd, Int.reduceSub, Int.reduceNeg, Int.reduceToNat, Int.reduceNe, Nat.reducePow, Nat.reduceShiftRight, Nat.reduceMod, at0, at1, at2, at3, at4, List.take_succ_cons, List.drop_succ_cons, List.take_zero, List.drop_zero, List.cons_append, List.nil_append, hz1, hz2, hz3, hz4, and_self, *])
              exact Nx.mk (args.length - (i2 + 1)) (by first | assumption | omega | rfl | (simp (disch := omega) only [go_sem, Nat.reduceMul, Nat.reduceSub, Nat.reduceShiftRight, Nat.reduceMod, Nat.reduceEqDiff, Nat.reduceAdd, ↓reduceIte, Nat.reduceLeDiff, *] <;> omega)) ⟨i2 + 1, zs ++ [y], rfl, (by first | assumption | omega | rfl | (simp (disch := omega) only [go_sem, Nat.reduceMul, Nat.reduceSub, Nat.reduceShiftRight, Nat.reduceMod, Nat.reduceEqDiff, Nat.reduceAdd, ↓reduceIte, Nat.reduceLeDiff, *] <;> omega)), (by first | assumption | omega | rfl | (simp (disch := omega) only [go_sem, Nat.reduceMul, Nat.reduceSub, Nat.reduceShiftRight, Nat.reduceMod, Nat.reduceEqDiff, Nat.reduceAdd, ↓reduceIte, Nat.reduceLeDiff, *] <;> omega)), Nat.lt_of_lt_of_le (by omega : m + 13 < nx') (Nat.le_add_right _ _), hzs2, Kept.mk (by simp [hzl.out]), hkk', hHi', hrowk, hrk'⟩
          · obtain rfl : i2 = args.length := by omega
            have hzs' := hzs.out
            rw [List.take_length] at hzs'
            have hzk := Kept.mk hzs'
            have hHb' : Kept (H3 (m + 13) = some ⟨zs.flatMap Tm.pv, true⟩) := Kept.mk (by rw [hHb.out, Nat.sub_self]; simp [zeros])
            clear hzs' hzs hHb ihk
            repeat' (first | ((with_reducible first | refine cond_pos (by omega) ?_ | refine cond_neg (by omega) ?_ | refine guard_pos (by omega) ?_ | refine guard_neg (by omega) ?_ | refine cond_ifn ?_ ?_ | refine cond_waysn ?_ ?_ | refine guard_ifn ?_ ?_ | refine guard_waysn ?_ ?_ | refine cond_if ?_ ?_ | refine cond_ways ?_ ?_ | refine guard_if ?_ ?_ | refine guard_ways ?_ ?_) <;> intro _) | simp (maxSteps := 1000000) (disch := omega) only [go_sem, Nat.reduceAdd, Nat.reduceMul, Nat.reduceSub, Nat.reduceLeDiff, Nat.reduceEqDiff, Nat.reduceBEq, ↓reduceIte, reduceCtorEq, Int.reduceEq, Int.reduceLE, Int.reduceLT, Int.reduceAdd, Int.reduceSub, Int.reduceNeg, Int.reduceToNat, Int.reduceNe, Nat.reducePow, Nat.reduceShiftRight, Nat.reduceMod, at0, at1, at2, at3, at4, List.take_succ_cons, List.drop_succ_cons, List.take_zero, List.drop_zero, List.cons_append, List.nil_append, hz1, hz2, hz3, hz4, and_self, *])
            exact fin_mut (.sc (.bool true)) (.inr rfl) (by (simp (disch := omega) only [go_sem, Nat.reduceMul, Nat.reduceSub, Nat.reduceShiftRight, Nat.reduceMod, Nat.reduceEqDiff, Nat.reduceAdd, ↓reduceIte, Nat.reduceLeDiff, *]); all_goals rfl) (show putRaw bys kind n s ls args H nx id p q kp _ _ _ from ⟨Nat.le_trans (by omega : nx ≤ m3) (Nat.le_add_right _ _), hkk.out, .inr ⟨ys, zs, (.osl idr 0 ls.length 3), .osl (m + 13) 0 args.length 5, hysk.out, hzk.out, rfl, hHi, hrk.out.mono (Nat.le_trans (by omega : m ≤ m3) (Nat.le_add_right _ _)) (fun _ _ _ _ => rfl), .inr ⟨m + 13, by omega, Nat.lt_of_lt_of_le hm3 (Nat.le_add_right _ _), by rw [List.length_map, hzl.out], hHb'.out.trans (by rw [List.flatMap_def])⟩⟩⟩)
end
section
set_option maxRecDepth 20000
attribute [local go_sem] pv_len pv_take Nat.add_assoc tm_len tm_take pv_one tm_one id_ne id_ne' id_ne2 List.append_assoc
theorem instV_nodes {l y : Lv} {bys : List Lv} (h : l.instV bys = some y) : y.nodes ≤ 64 := by
  rw [instV_eq] at h
  unfold Lv.instR at h
  split at h
  · cases h; rename_i h; exact h.2.2
  · cases h
theorem insts_nodes (bys : List Lv) : ∀ (xs ys : List Lv), insts bys xs = some ys → nodesL ys ≤ 64 * nodesL xs
  | [], ys, h => by simp only [insts, Option.some.injEq] at h; subst h; simp [nodesL]
  | x :: r, ys, h => by
    simp only [insts] at h
    split at h
    · rename_i y zs h1 h2
      cases h
      have := insts_nodes bys r zs h2
      have := instV_nodes h1
      have := nodes_pos x
      simp only [nodesL]
      omega
    · cases h
mutual
theorem putL_nodes (bys : List Lv) : ∀ (t u : Tm), t.putL bys = some u → u.nodes ≤ 64 * t.nodes
  | .mk k n s ls args, u, h => by
    simp only [Tm.putL] at h
    split at h
    · rename_i ls' args' h1 h2
      cases h
      have := insts_nodes bys ls ls' h1
      have := putLs_nodes bys args args' h2
      simp only [Tm.nodes]
      omega
    · cases h
theorem putLs_nodes (bys : List Lv) : ∀ (ts us : List Tm), putLs bys ts = some us → nodesT us ≤ 64 * nodesT ts
  | [], us, h => by simp only [putLs, Option.some.injEq] at h; subst h; simp [nodesT]
  | t :: r, us, h => by
    simp only [putLs] at h
    split at h
    · rename_i y ys h1 h2
      cases h
      have := putL_nodes bys t y h1
      have := putLs_nodes bys r ys h2
      simp only [nodesT]
      omega
    · cases h
end
set_option maxHeartbeats 4000000 in
theorem term_Levels_p (t : Tm) (bys : List Lv) (hm : t.nodes ≤ 2 ^ 40) : PPure Try.prog F.term_Levels [.agg t.pv, .sl 3 (bys.map Lv.pv)] (optT (levelsR t bys)) := by
  refine pure_by is_term_Levels (by simp) (optT_imm _) fun hb nx => ?_
  have hb0 : bys.length ≤ 9223372036854775807 := by simp [bndL, PV.bnd] at hb; exact hb.2.1
  have c1 := tRight_p t hm bys.length 1125899906842624
  clear hb
  by_cases hr : t.right bys.length 1125899906842624 = true
  · have hn := (right_formed hr).2.2.2.2
    rw [hr] at c1
    have hrk := Kept.mk hr
    clear hr
    repeat' (first | ((with_reducible first | refine cond_pos (by omega) ?_ | refine cond_neg (by omega) ?_ | refine guard_pos (by omega) ?_ | refine guard_neg (by omega) ?_ | refine cond_ifn ?_ ?_ | refine cond_waysn ?_ ?_ | refine guard_ifn ?_ ?_ | refine guard_waysn ?_ ?_ | refine cond_if ?_ ?_ | refine cond_ways ?_ ?_ | refine guard_if ?_ ?_ | refine guard_ways ?_ ?_) <;> intro _) | (((with_reducible refine call_id ?_); (first | (refine call_pure (c1) ?_)))) | simp (maxSteps := 1000000) (disch := omega) only [go_sem, Nat.reduceAdd, Nat.reduceMul, Nat.reduceSub, Nat.reduceLeDiff, Nat.reduceEqDiff, Nat.reduceBEq, ↓reduceIte, reduceCtorEq, Int.reduceEq, Int.reduceLE, Int.reduceLT, Int.reduceAdd, Int.reduceSub, Int.reduceNeg, Int.reduceToNat, Int.reduceNe, Nat.reducePow, Nat.reduceShiftRight, Nat.reduceMod, mc_term_Levels, *])
    refine call_mut (putLevels_p bys t.size t (Nat.le_refl _) hm _ _ (nx + 8) 0 [] [] (fun j => decide (j = nx + 1)) (upd_same _ _ _) (Nat.add_lt_add_left (by decide) _) rfl rfl rfl ?kp) ?_
    case kp =>
      intro j hj
      obtain rfl : j = nx + 1 := by simpa using hj
      refine ⟨by omega, Nat.add_lt_add_left (by decide) _, fun o ho => ?_⟩
      have ho' := (upd_ne _ _ (show nx + 1 ≠ nx + 8 by omega)).symm.trans ho
      have ho2 := (upd_same _ _ _).symm.trans ho'
      cases ho2
      exact ⟨rfl, .imm rfl⟩
    rintro H' nx' r' ⟨hn1, hk1, hcase⟩ -
    have hH1 : H' (nx + 1) = some ⟨zeroT, true⟩ := (hk1 (nx + 1) (by simp)).trans ((upd_ne _ _ (show nx + 1 ≠ nx + 8 by omega)).trans (upd_same _ _ _))
    unfold zeroT at hH1
    clear hk1 hn1
    rcases hcase with ⟨hno, rfl⟩ | ⟨u, hu, rfl, hrow⟩
    · have e : levelsR t bys = none := by simp [levelsR, hrk.out, hno]
      rw [e]
      clear e hno c1
      repeat' (first | ((with_reducible first | refine cond_pos (by omega) ?_ | refine cond_neg (by omega) ?_ | refine guard_pos (by omega) ?_ | refine guard_neg (by omega) ?_ | refine cond_ifn ?_ ?_ | refine cond_waysn ?_ ?_ | refine guard_ifn ?_ ?_ | refine guard_waysn ?_ ?_ | refine cond_if ?_ ?_ | refine cond_ways ?_ ?_ | refine guard_if ?_ ?_ | refine guard_ways ?_ ?_) <;> intro _) | simp (maxSteps := 1000000) (disch := omega) only [go_sem, Nat.reduceAdd, Nat.reduceMul, Nat.reduceSub, Nat.reduceLeDiff, Nat.reduceEqDiff, Nat.reduceBEq, ↓reduceIte, reduceCtorEq, Int.reduceEq, Int.reduceLE, Int.reduceLT, Int.reduceAdd, Int.reduceSub, Int.reduceNeg, Int.reduceToNat, Int.reduceNe, Nat.reducePow, Nat.reduceShiftRight, Nat.reduceMod, *])
      refine fin_ret (r0 := .tup [.agg zeroT, .sc (.bool false)]) 2 (by (simp (disch := omega) only [go_sem, Nat.reduceMul, Nat.reduceSub, Nat.reduceShiftRight, Nat.reduceMod, Nat.reduceEqDiff, Nat.reduceAdd, ↓reduceIte, Nat.reduceLeDiff, *]); all_goals rfl) ?_
      exact .of_eq (by simp [frz, zeroT, frz_sc, optT])
    · have hun := putL_nodes bys t u hu
      have c3 := tNodes_p u (by omega)
      rw [List.nil_append, List.append_nil] at hrow
      by_cases hu2 : u.nodes ≤ 2000
      · have e : levelsR t bys = some u := by simp [levelsR, hrk.out, hu, hu2]
        rw [e, show min u.nodes 2001 = u.nodes by omega] at *
        clear e hu hun c1
        repeat' (first | ((with_reducible first | refine cond_pos (by omega) ?_ | refine cond_neg (by omega) ?_ | refine guard_pos (by omega) ?_ | refine guard_neg (by omega) ?_ | refine cond_ifn ?_ ?_ | refine cond_waysn ?_ ?_ | refine guard_ifn ?_ ?_ | refine guard_waysn ?_ ?_ | refine cond_if ?_ ?_ | refine cond_ways ?_ ?_ | refine guard_if ?_ ?_ | refine guard_ways ?_ ?_) <;> intro _) | (((with_reducible refine call_id ?_); (first | (refine call_pure (c3) ?_)))) | simp (maxSteps := 1000000) (disch := omega) only [go_sem, Nat.reduceAdd, Nat.reduceMul, Nat.reduceSub, Nat.reduceLeDiff, Nat.reduceEqDiff, Nat.reduceBEq, ↓reduceIte, reduceCtorEq, Int.reduceEq, Int.reduceLE, Int.reduceLT, Int.reduceAdd, Int.reduceSub, Int.reduceNeg, Int.reduceToNat, Int.reduceNe, Nat.reducePow, Nat.reduceShiftRight, Nat.reduceMod, *])
        refine fin_ret (r0 := .tup [.agg u.pv, .sc (.bool true)]) 1 (by (simp (disch := omega) only [go_sem, Nat.reduceMul, Nat.reduceSub, Nat.reduceShiftRight, Nat.reduceMod, Nat.reduceEqDiff, Nat.reduceAdd, ↓reduceIte, Nat.reduceLeDiff, *]); all_goals rfl) ?_
        exact .of_eq (by simp [frz, optT])
      · have e : levelsR t bys = none := by simp [levelsR, hrk.out, hu, hu2]
        rw [e]
        rw [show min u.nodes 2001 = 2001 by omega] at c3
        clear e hu hun c1
        repeat' (first | ((with_reducible first | refine cond_pos (by omega) ?_ | refine cond_neg (by omega) ?_ | refine guard_pos (by omega) ?_ | refine guard_neg (by omega) ?_ | refine cond_ifn ?_ ?_ | refine cond_waysn ?_ ?_ | refine guard_ifn ?_ ?_ | refine guard_waysn ?_ ?_ | refine cond_if ?_ ?_ | refine cond_ways ?_ ?_ | refine guard_if ?_ ?_ | refine guard_ways ?_ ?_) <;> intro _) | (((with_reducible refine call_id ?_); (first | (refine call_pure (c3) ?_)))) | simp (maxSteps := 1000000) (disch := omega) only [go_sem, Nat.reduceAdd, Nat.reduceMul, Nat.reduceSub, Nat.reduceLeDiff, Nat.reduceEqDiff, Nat.reduceBEq, ↓reduceIte, reduceCtorEq, Int.reduceEq, Int.reduceLE, Int.reduceLT, Int.reduceAdd, Int.reduceSub, Int.reduceNeg, Int.reduceToNat, Int.reduceNe, Nat.reducePow, Nat.reduceShiftRight, Nat.reduceMod, *])
        refine fin_ret (r0 := .tup [.agg zeroT, .sc (.bool false)]) 2 (by (simp (disch := omega) only [go_sem, Nat.reduceMul, Nat.reduceSub, Nat.reduceShiftRight, Nat.reduceMod, Nat.reduceEqDiff, Nat.reduceAdd, ↓reduceIte, Nat.reduceLeDiff, *]); all_goals rfl) ?_
        exact .of_eq (by simp [frz, zeroT, frz_sc, optT])
  · have e : levelsR t bys = none := by simp [levelsR, hr]
    rw [e]
    rw [Bool.not_eq_true] at hr
    rw [hr] at c1
    clear hr e
    repeat' (first | ((with_reducible first | refine cond_pos (by omega) ?_ | refine cond_neg (by omega) ?_ | refine guard_pos (by omega) ?_ | refine guard_neg (by omega) ?_ | refine cond_ifn ?_ ?_ | refine cond_waysn ?_ ?_ | refine guard_ifn ?_ ?_ | refine guard_waysn ?_ ?_ | refine cond_if ?_ ?_ | refine cond_ways ?_ ?_ | refine guard_if ?_ ?_ | refine guard_ways ?_ ?_) <;> intro _) | (((with_reducible refine call_id ?_); (first | (refine call_pure (c1) ?_)))) | simp (maxSteps := 1000000) (disch := omega) only [go_sem, Nat.reduceAdd, Nat.reduceMul, Nat.reduceSub, Nat.reduceLeDiff, Nat.reduceEqDiff, Nat.reduceBEq, ↓reduceIte, reduceCtorEq, Int.reduceEq, Int.reduceLE, Int.reduceLT, Int.reduceAdd, Int.reduceSub, Int.reduceNeg, Int.reduceToNat, Int.reduceNe, Nat.reducePow, Nat.reduceShiftRight, Nat.reduceMod, mc_term_Levels, *])
    refine fin_ret (r0 := .tup [.agg zeroT, .sc (.bool false)]) 2 (by (simp (disch := omega) only [go_sem, Nat.reduceMul, Nat.reduceSub, Nat.reduceShiftRight, Nat.reduceMod, Nat.reduceEqDiff, Nat.reduceAdd, ↓reduceIte, Nat.reduceLeDiff, *]); all_goals rfl) ?_
    exact .of_eq (by simp [frz, zeroT, frz_sc, optT])
end
section
set_option maxRecDepth 20000
attribute [local go_sem] pv_len pv_take id_ne id_ne' id_ne2 List.append_assoc
def txt (s : ByteArray) : List PV := [.sc (.string s)]
theorem txt_len (s : ByteArray) : (txt s).length = 1 := rfl
theorem txt_inj {a b : ByteArray} (h : a.toList = b.toList) : a = b := by
  rw [ByteArray.toList_eq, ByteArray.toList_eq] at h
  cases a; cases b
  simp only [ByteArray.mk.injEq]
  exact Array.toList_inj.1 h
theorem SameTexts_p (xs ys : List ByteArray) : PPure Try.prog F.ref00_SameTexts [.sl 1 (xs.map txt), .sl 1 (ys.map txt)] (.sc (.bool (decide (xs = ys)))) := by
  refine pure_by is_ref00_SameTexts (by simp) rfl fun hb nx => ?_
  have hb0 : xs.length ≤ 9223372036854775807 ∧ ys.length ≤ 9223372036854775807 := by simp [bndL, PV.bnd] at hb; exact ⟨hb.1.1, hb.2.1⟩
  by_cases hl : xs.length = ys.length
  · repeat' (first | ((with_reducible first | refine cond_pos (by omega) ?_ | refine cond_neg (by omega) ?_ | refine guard_pos (by omega) ?_ | refine guard_neg (by omega) ?_ | refine cond_ifn ?_ ?_ | refine cond_waysn ?_ ?_ | refine guard_ifn ?_ ?_ | refine guard_waysn ?_ ?_ | refine cond_if ?_ ?_ | refine cond_ways ?_ ?_ | refine guard_if ?_ ?_ | refine guard_ways ?_ ?_) <;> intro _) | simp (maxSteps := 1000000) (disch := omega) only [go_sem, Nat.reduceAdd, Nat.reduceMul, Nat.reduceSub, Nat.reduceLeDiff, Nat.reduceEqDiff, Nat.reduceBEq, ↓reduceIte, reduceCtorEq, Int.reduceEq, Int.reduceLE, Int.reduceLT, Int.reduceAdd, Int.reduceSub, Int.reduceNeg, Int.reduceToNat, Int.reduceNe, Nat.reducePow, Nat.reduceShiftRight, Nat.reduceMod, mc_ref00_SameTexts, *])
    refine c_loopW 67106864 (by kernel_rfl) (fun j f H m => ∃ i : Nat, j = xs.length - i ∧ i ≤ xs.length ∧ f 5 = .sc (.int .i64 i) ∧ Kept (xs.take i = ys.take i)) _ ⟨0, rfl, (by first | assumption | omega | rfl | (simp (disch := omega) only [go_sem, Nat.reduceMul, Nat.reduceSub, Nat.reduceShiftRight, Nat.reduceMod, Nat.reduceEqDiff, Nat.reduceAdd, ↓reduceIte, Nat.reduceLeDiff, *] <;> omega)), (by first | assumption | omega | rfl | (simp (disch := omega) only [go_sem, Nat.reduceMul, Nat.reduceSub, Nat.reduceShiftRight, Nat.reduceMod, Nat.reduceEqDiff, Nat.reduceAdd, ↓reduceIte, Nat.reduceLeDiff, *] <;> omega)), Kept.mk rfl⟩ ?_
    rintro _ f H m ⟨i, rfl, hi, e5, hs⟩
    by_cases hlt : i < xs.length
    · have eg : xs[i]? = some xs[i] := List.getElem?_eq_getElem hlt
      have hlt2 : i < ys.length := by omega
      have eg2 : ys[i]? = some ys[i] := List.getElem?_eq_getElem hlt2
      by_cases he : xs[i] = ys[i]
      · have hb : strBin .neq xs[i] ys[i] = some (.bool false) := by simp [strBin, he]
        have hs2 : Kept (xs.take (i + 1) = ys.take (i + 1)) := Kept.mk (by rw [List.take_succ_eq_append_getElem hlt, List.take_succ_eq_append_getElem hlt2, hs.out, he])
        clear he
        repeat' (first | ((with_reducible first | refine cond_pos (by omega) ?_ | refine cond_neg (by omega) ?_ | refine guard_pos (by omega) ?_ | refine guard_neg (by omega) ?_ | refine cond_ifn ?_ ?_ | refine cond_waysn ?_ ?_ | refine guard_ifn ?_ ?_ | refine guard_waysn ?_ ?_ | refine cond_if ?_ ?_ | refine cond_ways ?_ ?_ | refine guard_if ?_ ?_ | refine guard_ways ?_ ?_) <;> intro _) | simp (maxSteps := 1000000) (disch := omega) only [go_sem, Nat.reduceAdd, Nat.reduceMul, Nat.reduceSub, Nat.reduceLeDiff, Nat.reduceEqDiff, Nat.reduceBEq, ↓reduceIte, reduceCtorEq, Int.reduceEq, Int.reduceLE, Int.reduceLT, Int.reduceAdd, Int.reduceSub, Int.reduceNeg, Int.reduceToNat, Int.reduceNe, Nat.reducePow, Nat.reduceShiftRight, Nat.reduceMod, txt, hb, *])
        exact Nx.mk (xs.length - (i + 1)) (by first | assumption | omega | rfl | (simp (disch := omega) only [go_sem, Nat.reduceMul, Nat.reduceSub, Nat.reduceShiftRight, Nat.reduceMod, Nat.reduceEqDiff, Nat.reduceAdd, ↓reduceIte, Nat.reduceLeDiff, *] <;> omega)) ⟨i + 1, (by first | assumption | omega | rfl | (simp (disch := omega) only [go_sem, Nat.reduceMul, Nat.reduceSub, Nat.reduceShiftRight, Nat.reduceMod, Nat.reduceEqDiff, Nat.reduceAdd, ↓reduceIte, Nat.reduceLeDiff, *] <;> omega)), (by first | assumption | omega | rfl | (simp (disch := omega) only [go_sem, Nat.reduceMul, Nat.reduceSub, Nat.reduceShiftRight, Nat.reduceMod, Nat.reduceEqDiff, Nat.reduceAdd, ↓reduceIte, Nat.reduceLeDiff, *] <;> omega)), (by first | assumption | omega | rfl | (simp (disch := omega) only [go_sem, Nat.reduceMul, Nat.reduceSub, Nat.reduceShiftRight, Nat.reduceMod, Nat.reduceEqDiff, Nat.reduceAdd, ↓reduceIte, Nat.reduceLeDiff, *] <;> omega)), hs2⟩
      · have hb : strBin .neq xs[i] ys[i] = some (.bool true) := by
          have : ¬ xs[i].toList = ys[i].toList := fun h => he (txt_inj h)
          simp [strBin, this]
        have hr : decide (xs = ys) = false := decide_eq_false fun h => he (by subst h; rfl)
        clear he
        rw [hr]
        repeat' (first | ((with_reducible first | refine cond_pos (by omega) ?_ | refine cond_neg (by omega) ?_ | refine guard_pos (by omega) ?_ | refine guard_neg (by omega) ?_ | refine cond_ifn ?_ ?_ | refine cond_waysn ?_ ?_ | refine guard_ifn ?_ ?_ | refine guard_waysn ?_ ?_ | refine cond_if ?_ ?_ | refine cond_ways ?_ ?_ | refine guard_if ?_ ?_ | refine guard_ways ?_ ?_) <;> intro _) | simp (maxSteps := 1000000) (disch := omega) only [go_sem, Nat.reduceAdd, Nat.reduceMul, Nat.reduceSub, Nat.reduceLeDiff, Nat.reduceEqDiff, Nat.reduceBEq, ↓reduceIte, reduceCtorEq, Int.reduceEq, Int.reduceLE, Int.reduceLT, Int.reduceAdd, Int.reduceSub, Int.reduceNeg, Int.reduceToNat, Int.reduceNe, Nat.reducePow, Nat.reduceShiftRight, Nat.reduceMod, txt, hb, *])
        all_goals (refine fin_tmp (.inr rfl) ?_; simp [upd])
    · obtain rfl : i = xs.length := by omega
      have hr : xs = ys := by
        have := hs.out
        rw [List.take_length, hl, List.take_length] at this
        exact this
      rw [decide_eq_true hr]
      clear hr
      repeat' (first | ((with_reducible first | refine cond_pos (by omega) ?_ | refine cond_neg (by omega) ?_ | refine guard_pos (by omega) ?_ | refine guard_neg (by omega) ?_ | refine cond_ifn ?_ ?_ | refine cond_waysn ?_ ?_ | refine guard_ifn ?_ ?_ | refine guard_waysn ?_ ?_ | refine cond_if ?_ ?_ | refine cond_ways ?_ ?_ | refine guard_if ?_ ?_ | refine guard_ways ?_ ?_) <;> intro _) | simp (maxSteps := 1000000) (disch := omega) only [go_sem, Nat.reduceAdd, Nat.reduceMul, Nat.reduceSub, Nat.reduceLeDiff, Nat.reduceEqDiff, Nat.reduceBEq, ↓reduceIte, reduceCtorEq, Int.reduceEq, Int.reduceLE, Int.reduceLT, Int.reduceAdd, Int.reduceSub, Int.reduceNeg, Int.reduceToNat, Int.reduceNe, Nat.reducePow, Nat.reduceShiftRight, Nat.reduceMod, txt, *])
      all_goals (refine fin_tmp (.inr rfl) ?_; simp [upd])
  · have hr : decide (xs = ys) = false := decide_eq_false fun h => hl (by rw [h])
    rw [hr]
    clear hr
    repeat' (first | ((with_reducible first | refine cond_pos (by omega) ?_ | refine cond_neg (by omega) ?_ | refine guard_pos (by omega) ?_ | refine guard_neg (by omega) ?_ | refine cond_ifn ?_ ?_ | refine cond_waysn ?_ ?_ | refine guard_ifn ?_ ?_ | refine guard_waysn ?_ ?_ | refine cond_if ?_ ?_ | refine cond_ways ?_ ?_ | refine guard_if ?_ ?_ | refine guard_ways ?_ ?_) <;> intro _) | simp (maxSteps := 1000000) (disch := omega) only [go_sem, Nat.reduceAdd, Nat.reduceMul, Nat.reduceSub, Nat.reduceLeDiff, Nat.reduceEqDiff, Nat.reduceBEq, ↓reduceIte, reduceCtorEq, Int.reduceEq, Int.reduceLE, Int.reduceLT, Int.reduceAdd, Int.reduceSub, Int.reduceNeg, Int.reduceToNat, Int.reduceNe, Nat.reducePow, Nat.reduceShiftRight, Nat.reduceMod, mc_ref00_SameTexts, *])
    all_goals (refine fin_tmp (.inr rfl) ?_; simp [upd])
end
section
set_option maxRecDepth 20000
attribute [local go_sem] pv_len pv_take id_ne id_ne' id_ne2 List.append_assoc
theorem txts_flat : ∀ xs : List ByteArray, (xs.map txt).flatten = xs.flatMap txt := fun xs => by rw [List.flatMap_def]
theorem txts_len : ∀ xs : List ByteArray, (xs.map txt).flatten.length = xs.length
  | [] => rfl
  | x :: r => by simp only [List.map_cons, List.flatten_cons, List.length_append, txt_len, txts_len r, List.length_cons]; omega
theorem txts_one : ∀ xs : List ByteArray, (xs.map txt).flatten.all PV.one = true
  | [] => rfl
  | x :: r => by
    simp only [List.map_cons, List.flatten_cons, List.all_append, txts_one r]
    rfl
set_option maxHeartbeats 4000000 in
theorem sClone_m (xs : List ByteArray) (hl : xs.length ≤ 2 ^ 40) (H : Nat → Option PObj) (nx : Nat) : PMut Try.prog F.slices_Clone_string_string [.sl 1 (xs.map txt)] H nx (fun H' nx' r => nx ≤ nx' ∧ (∀ j, j < nx → H' j = H j) ∧ ((xs = [] ∧ r = .sc (.slice none 0 0)) ∨ ∃ id, nx ≤ id ∧ id < nx' ∧ r = .osl id 0 xs.length 1 ∧ H' id = some ⟨xs.flatMap txt, false⟩)) := by
  refine mut_by is_slices_Clone_string_string (by simp) fun hb => ?_
  clear hb
  repeat' (first | ((with_reducible first | refine cond_pos (by omega) ?_ | refine cond_neg (by omega) ?_ | refine guard_pos (by omega) ?_ | refine guard_neg (by omega) ?_ | refine cond_ifn ?_ ?_ | refine cond_waysn ?_ ?_ | refine guard_ifn ?_ ?_ | refine guard_waysn ?_ ?_ | refine cond_if ?_ ?_ | refine cond_ways ?_ ?_ | refine guard_if ?_ ?_ | refine guard_ways ?_ ?_) <;> intro _) | simp (maxSteps := 1000000) (disch := omega) only [go_sem, Nat.reduceAdd, Nat.reduceMul, Nat.reduceSub, Nat.reduceLeDiff, Nat.reduceEqDiff, Nat.reduceBEq, ↓reduceIte, reduceCtorEq, Int.reduceEq, Int.reduceLE, Int.reduceLT, Int.reduceAdd, Int.reduceSub, Int.reduceNeg, Int.reduceToNat, Int.reduceNe, Nat.reducePow, Nat.reduceShiftRight, Nat.reduceMod, mc_slices_Clone_string_string, *])
  refine o_slnil rfl rfl Try.underlying49 (n := xs.length) (by simp [slN, ev, upd]) fun t ht => ?_
  cases t with
  | true =>
    obtain rfl : xs = [] := List.eq_nil_of_length_eq_zero (ht rfl)
    clear ht
    repeat' (first | ((with_reducible first | refine cond_pos (by omega) ?_ | refine cond_neg (by omega) ?_ | refine guard_pos (by omega) ?_ | refine guard_neg (by omega) ?_ | refine cond_ifn ?_ ?_ | refine cond_waysn ?_ ?_ | refine guard_ifn ?_ ?_ | refine guard_waysn ?_ ?_ | refine cond_if ?_ ?_ | refine cond_ways ?_ ?_ | refine guard_if ?_ ?_ | refine guard_ways ?_ ?_) <;> intro _) | simp (maxSteps := 1000000) (disch := omega) only [go_sem, Nat.reduceAdd, Nat.reduceMul, Nat.reduceSub, Nat.reduceLeDiff, Nat.reduceEqDiff, Nat.reduceBEq, ↓reduceIte, reduceCtorEq, Int.reduceEq, Int.reduceLE, Int.reduceLT, Int.reduceAdd, Int.reduceSub, Int.reduceNeg, Int.reduceToNat, Int.reduceNe, Nat.reducePow, Nat.reduceShiftRight, Nat.reduceMod, *])
    exact fin_mut (.sc (.slice none 0 0)) (.inr rfl) (by (simp (disch := omega) only [go_sem, Nat.reduceMul, Nat.reduceSub, Nat.reduceShiftRight, Nat.reduceMod, Nat.reduceEqDiff, Nat.reduceAdd, ↓reduceIte, Nat.reduceLeDiff]); all_goals rfl) ⟨by simp only [Nat.add_assoc]; exact Nat.le_add_right _ _, fun _ _ => rfl, .inl rfl⟩
  | false =>
    clear ht
    have h1 := txts_len xs
    have h2 := txts_one xs
    have h3 : xs.length * 16 ≤ 140737488355328 ∧ xs.length ≤ 4611686018427387904 := by omega
    repeat' (first | ((with_reducible first | refine cond_pos (by omega) ?_ | refine cond_neg (by omega) ?_ | refine guard_pos (by omega) ?_ | refine guard_neg (by omega) ?_ | refine cond_ifn ?_ ?_ | refine cond_waysn ?_ ?_ | refine guard_ifn ?_ ?_ | refine guard_waysn ?_ ?_ | refine cond_if ?_ ?_ | refine cond_ways ?_ ?_ | refine guard_if ?_ ?_ | refine guard_ways ?_ ?_) <;> intro _) | simp (maxSteps := 1000000) (disch := omega) only [go_sem, Nat.reduceAdd, Nat.reduceMul, Nat.reduceSub, Nat.reduceLeDiff, Nat.reduceEqDiff, Nat.reduceBEq, ↓reduceIte, reduceCtorEq, Int.reduceEq, Int.reduceLE, Int.reduceLT, Int.reduceAdd, Int.reduceSub, Int.reduceNeg, Int.reduceToNat, Int.reduceNe, Nat.reducePow, Nat.reduceShiftRight, Nat.reduceMod, *])
    refine fin_mut (.osl (nx + 1 + 2 + 2) 0 xs.length 1) (.inr rfl) (by (simp (disch := omega) only [go_sem, Nat.reduceMul, Nat.reduceSub, Nat.reduceShiftRight, Nat.reduceMod, Nat.reduceEqDiff, Nat.reduceAdd, ↓reduceIte, Nat.reduceLeDiff]); all_goals rfl) ⟨by simp only [Nat.add_assoc]; exact Nat.le_add_right _ _, fun j hj => ?_, .inr ⟨nx + 1 + 2 + 2, by omega, by simp only [Nat.add_assoc]; exact Nat.add_lt_add_left (by omega) _, rfl, ?_⟩⟩
    · simp [upd, show j ≠ nx + 3 by omega, show j ≠ nx + 1 + 2 + 2 by omega]
    · simp [upd, txts_flat]
end
section
theorem change_ext {w0 : World} {ok0 : Nat → Prop} {H : Nat → Option PObj} {rho : Nat → Option Nat} {w w' : World} (h : RelH w0 ok0 H rho w) {id b : Nat} {o o' : PObj} {c c' : Array Value} {T : TypeId}
    (ho : H id = some o) (hb : rho id = some b) (hc : w.heap[b]? = some (.cells c T (0, 0))) (hnew : w'.heap[b]? = some (.cells c' T (0, 0))) (hsz : c.size ≤ c'.size) (hoth : ∀ k, k ≠ b → k < w.heap.size → w'.heap[k]? = w.heap[k]?)
    (hos : w'.os = w.os) (htp : w'.tape = w.tape) (hou : w'.output = w.output) (hs : w.heap.size ≤ w'.heap.size) (hlen : o'.cells.length ≤ c'.size) (hwh : o'.whole = true → o'.cells.length = c'.size)
    (hrep : ∀ (V : Vw) (i : Nat) (x : PV) (v : Value), o'.cells[i]? = some x → c'[i]? = some v → Rep V x v) :
    RelH w0 ok0 (upd H id (some o')) rho w' ∧ (viewOf w0 ok0 H rho w).Leq (viewOf w0 ok0 (upd H id (some o')) rho w') := by
  obtain ⟨b', hb', hlow, hobj⟩ := h.own id o ho
  rw [hb] at hb'
  cases hb'
  have hsame : ∀ k o2, upd H id (some o') k = some o2 → H k ≠ none := fun k o2 hk => by
    by_cases he : k = id
    · rw [he, ho]; simp
    · rw [upd_ne _ _ he] at hk; rw [hk]; simp
  have hlt : ∀ k, (viewOf w0 ok0 H rho w).ok k → k < w.heap.size := by
    rintro k ⟨h1 | h1, _⟩
    · have := h.okb k h1; have := h.bel.size; omega
    · exact h1.2
  have hleq : (viewOf w0 ok0 H rho w).Leq (viewOf w0 ok0 (upd H id (some o')) rho w') := by
    refine ⟨fun k hk => ⟨hk.1.imp _root_.id fun h1 => ⟨h1.1, Nat.lt_of_lt_of_le h1.2 hs⟩, fun id' o2 ho2 => ?_⟩, fun k hk => ?_, fun id' k hk => hk, fun id' k c1 T1 fr1 hk hh => ?_, hs⟩
    · obtain ⟨o3, ho3⟩ := Option.ne_none_iff_exists'.1 (hsame id' o2 ho2)
      exact hk.2 id' o3 ho3
    · exact hoth k (fun e => hk.2 id o ho (by rw [e]; exact hb)) (hlt k hk)
    · by_cases he : k = b
      · subst he
        have e2 : w.heap[k]? = some (.cells c1 T1 fr1) := hh
        rw [hc] at e2
        cases e2
        exact ⟨_, _, _, hnew, hsz⟩
      · exact ⟨c1, T1, fr1, (hoth k he (Array.getElem?_eq_some_iff.1 hh).1).trans hh, Nat.le_refl _⟩
  have hb0 := h.bel.size
  refine ⟨⟨h.okb, ⟨hos.trans h.bel.os, htp.trans h.bel.tape, hou.trans h.bel.output, Nat.le_trans hb0 hs, fun k hk => (hoth k (by omega) (by omega)).trans (h.bel.block k hk)⟩, fun id' o2 ho2 => ?_, fun i j k hi hj hki hkj => ?_⟩, hleq⟩
  · by_cases he : id' = id
    · subst he
      rw [upd_same] at ho2
      cases ho2
      exact ⟨b, hb, hlow, .inl ⟨c', T, hnew, hlen, hwh, fun i x v hx hv => hrep _ i x v hx hv⟩⟩
    · rw [upd_ne _ _ he] at ho2
      obtain ⟨k, h1, h2, h3⟩ := h.own id' o2 ho2
      have hne : k ≠ b := fun e => he (h.inj id' id k (by rw [ho2]; simp) (by rw [ho]; simp) h1 (by rw [e]; exact hb))
      exact ⟨k, h1, h2, h3.mono hleq (hoth k hne h3.lt)⟩
  · have key : ∀ k', upd H id (some o') k' ≠ none → H k' ≠ none := fun k' hk' => by
      obtain ⟨o2, ho2⟩ := Option.ne_none_iff_exists'.1 hk'
      exact hsame k' o2 ho2
    exact h.inj i j k (key i hi) (key j hj) hki hkj
end
end Go.Proofs.Ytfhblaggeahbjaa
