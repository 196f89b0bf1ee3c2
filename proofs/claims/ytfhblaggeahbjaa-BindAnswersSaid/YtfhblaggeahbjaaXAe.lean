/-
  Plain values: TmX, TmY, TmZ, Tm1, LvM, TnA, TnB, Tm2, Tm3.
-/
import Derived.Laws.Strings
import Derived.Test.YtfhblaggeahbjaaXAa
import Derived.Test.YtfhblaggeahbjaaXAb
import Derived.Test.YtfhblaggeahbjaaXAc
import Derived.Test.YtfhblaggeahbjaaXAd
set_option linter.unusedVariables false
set_option linter.unusedSimpArgs false
namespace Go.Proofs.Ytfhblaggeahbjaa
open Go.RowKit
attribute [local go_sem ↓] c_seq c_region c_cond c_block c_ret c_skip c_exit c_cont t_normal t_ret t_exit b_normal b_ret b_exit run_nil run_cons g_some o_mv o_pick o_bin o_un o_ld o_ldf o_bld o_len o_mkf o_nilc o_fa o_fd o_ia o_iaa o_ix o_ixs o_ext o_al o_bxf o_bxt o_bsl o_bslf o_mks o_st o_stf o_call o_rng o_nxt o_callm o_callmA o_calvm o_calv cond_true cond_false upd_get sigF_cons o_eqa o_mm o_app o_slc
attribute [local go_sem] num_nil num_cons isP chunks rngV next_is next_iter val_some new_some st_some stf_some guard_tt guard_ff guard_tf guard_ft guard_un calv_fn put_some put_none ev_tmp ev_const ev_func sig_eq sigF_nil q0 q1 nilcV faV fdV iaV iaaV ixV ixsV extV mksV loadP storeP lenPV binPV unPV intBin partsP fillP zeros PV.good PV.cellsOf PV.one q2 q3 q4 q5 q6 q7 q8 q9 q10 q11 q12 q13 q14 q15 q16 q17 q18 q19 q20 q21 q22 q23 q24 q25 q26 q27 q28 q29 q30 q31 q32 q33 q34 q35 q36 q37 q38 wrap64 app_some mmL mmV mm2 eqE eqParts eqInt eqBool eqStr partV q39 q40 pickV q41 q42 q43 q44 q45 q46 q47 q48 q49 appE oldOf rowOf updL q50 q51 q52 q53 zlt ovr_get ite_neN ite_eqN q54 q55 q56 q57 q58 q59 q60 q61 q62 q63 q64 q65 q66 q67 tailP_f tailP_t tailF_f tailF_t slcP bndO capO slcLen intOf Option.isSome_none Option.isNone_none Option.isSome_some Option.isNone_some nilP slc_sl slc_csl slc_osl slc_osl0 slc_ocap slc_str List.append_nil List.length_append resP resPs resP1 PV.sc.injEq Value.bool.injEq Value.int.injEq
section
set_option maxRecDepth 20000
attribute [local go_sem] pv_len pv_take Nat.add_assoc tm_len tm_take pv_one tm_one tpvB_len tpvB_take tpvB_one pvB_len pvB_take pvB_one id_ne id_ne' id_ne2 List.append_assoc
theorem frgF_sc (G : Nat → Bool) (k : Nat) (H : Nat → Option PObj) (v : Value) : frgF G k H (.sc v) = .sc v := by cases k <;> rfl
theorem frgF_imm (G : Nat → Bool) (H : Nat → Option PObj) : ∀ (k : Nat) (x : PV), x.imm = true → frgF G k H x = x := by
  intro k
  induction k with
  | zero => intro x _; rfl
  | succ k ih =>
    have hl : ∀ xs : List PV, immL xs = true → xs.map (frgF G k H) = xs := by
      intro xs
      induction xs with
      | nil => intro _; rfl
      | cons x r ihr =>
        intro h
        simp only [immL, Bool.and_eq_true] at h
        rw [List.map_cons, ih x h.1, ihr h.2]
    intro x hx
    cases x with
    | agg xs => simp only [PV.imm] at hx; simp only [frgF, hl xs hx]
    | tup xs => simp only [PV.imm] at hx; simp only [frgF, hl xs hx]
    | fn f xs => simp only [PV.imm] at hx; simp only [frgF, hl xs hx]
    | optr id off => simp [PV.imm] at hx
    | osl id off len sz => simp [PV.imm] at hx
    | _ => rfl
theorem frgF_immL (G : Nat → Bool) (H : Nat → Option PObj) (k : Nat) : ∀ xs : List PV, immL xs = true → xs.map (frgF G k H) = xs
  | [], _ => rfl
  | x :: r, h => by
    simp only [immL, Bool.and_eq_true] at h
    rw [List.map_cons, frgF_imm G H k x h.1, frgF_immL G H k r h.2]
mutual
theorem OwnT.frg {H : Nat → Option PObj} {G : Nat → Bool} : ∀ (t : Tm) (lo m : Nat) (cs : List PV), OwnT H lo m cs t → (∀ j, lo ≤ j → j < m → G j = true) → ∀ k, t.size ≤ k → WeakL (cs.map (frgF G k H)) (t.pvB true)
  | .mk kind n s ls args, lo, m, cs, h, hG, k, hk => by
    simp only [OwnT] at h
    obtain ⟨a, b, rfl, ha, hb⟩ := h
    simp only [Tm.size] at hk
    obtain ⟨k, rfl⟩ : ∃ k', k = k' + 1 := ⟨k - 1, by omega⟩
    rw [Tm.pvB]
    simp only [List.map_cons, List.map_nil]
    refine ⟨.of_eq (frgF_sc _ _ _ _), .of_eq (frgF_sc _ _ _ _), .of_eq (frgF_sc _ _ _ _), ?_, ?_, trivial⟩
    · rcases ha with ⟨rfl, rfl⟩ | rfl
      · exact .trans (.of_eq (frgF_sc _ _ _ _)) (Weak.nilF 3)
      · exact .refl _
    · rcases hb with ⟨rfl, rfl⟩ | ⟨id, cells, w, h1, h2, rfl, h4, h5⟩
      · exact .trans (.of_eq (frgF_sc _ _ _ _)) (Weak.nilF 5)
      · have hl := OwnTs.len args cells h5
        have hw := OwnTs.frg args (id + 1) m cells h5 (fun j a b => hG j (by omega) b) k (by omega)
        simp only [frgF, hG id h1 h2, if_true, h4, List.drop_zero]
        rw [if_pos (by omega), List.take_of_length_le (by omega)]
        refine Weak.fslW (by rw [chunks_length, List.length_map]) (fun e he => ?_) ?_
        · obtain ⟨t, _, rfl⟩ := List.mem_map.1 he
          exact tpvB_len true t
        · rw [chunks_flatten 5 args.length _ (by rw [List.length_map, hl])]
          exact hw
theorem OwnTs.frg {H : Nat → Option PObj} {G : Nat → Bool} : ∀ (ts : List Tm) (lo m : Nat) (cs : List PV), OwnTs H lo m cs ts → (∀ j, lo ≤ j → j < m → G j = true) → ∀ k, sizeL ts ≤ k → WeakL (cs.map (frgF G k H)) (ts.map (Tm.pvB true)).flatten
  | [], _, _, cs, h, _, _, _ => by
    simp only [OwnTs] at h
    subst h
    trivial
  | t :: r, lo, m, cs, h, hG, k, hk => by
    simp only [OwnTs] at h
    obtain ⟨c, cr, mid, rfl, g1, g2, h1, h2⟩ := h
    simp only [sizeL] at hk
    simp only [List.map_append, List.map_cons, List.flatten_cons]
    exact (OwnT.frg t lo mid c h1 (fun j a b => hG j a (by omega)) k (by omega)).append (OwnTs.frg r mid m cr h2 (fun j a b => hG j (by omega) b) k (by omega))
end
theorem OwnW.frg {H : Nat → Option PObj} {G : Nat → Bool} {lo m : Nat} (hG : ∀ j, lo ≤ j → j < m → G j = true) : ∀ (ts : List Tm) (cs : List PV), OwnW H lo m cs ts → ∀ k, sizeL ts ≤ k → WeakL (cs.map (frgF G k H)) (ts.map (Tm.pvB true)).flatten
  | [], cs, h, _, _ => by cases h; trivial
  | t :: r, cs, ⟨c, cr, e, h1, h2⟩, k, hk => by
    subst e
    simp only [sizeL] at hk
    simp only [List.map_append, List.map_cons, List.flatten_cons]
    exact (OwnT.frg t _ _ c h1 hG k (by omega)).append (OwnW.frg hG r cr h2 k (by omega))
theorem WeakL.trans : ∀ {xs ys zs : List PV}, WeakL xs ys → WeakL ys zs → WeakL xs zs
  | [], [], [], _, _ => trivial
  | _ :: _, _ :: _, _ :: _, h, k => ⟨h.1.trans k.1, WeakL.trans h.2 k.2⟩
  | [], _ :: _, _, h, _ => h.elim
  | _ :: _, [], _, h, _ => h.elim
  | [], [], _ :: _, _, k => k.elim
  | _ :: _, _ :: _, [], _, k => k.elim
theorem isIt_len {o : PObj} (h : o.cells.length ≠ 1) : o.isIt = false := by
  unfold PObj.isIt
  split
  · rename_i e; rw [e] at h; simp at h
  · rename_i e; rw [e] at h; simp at h
  · rfl
end
section
set_option maxRecDepth 20000
attribute [local go_sem] pv_len pv_take Nat.add_assoc tm_len tm_take pv_one tm_one tpvB_len tpvB_take tpvB_one pvB_len pvB_take pvB_one id_ne id_ne' id_ne2 List.append_assoc
theorem RowAt.one {H : Nat → Option PObj} {lo m sz : Nat} {a : PV} {cells : List PV} {n : Nat} (h : RowAt H lo m sz a cells n) : PV.one a = true := by
  rcases h with ⟨_, rfl⟩ | ⟨_, _, _, rfl, _⟩ <;> rfl
set_option maxHeartbeats 8000000 in
theorem Lift_p (np by_ : Int) (hby : -2 ^ 50 ≤ by_ ∧ by_ ≤ 2 ^ 50) : ∀ (fuel : Nat) (t : Tm) (k frm : Int), t.size ≤ fuel → t.nodes ≤ 2 ^ 40 → 0 ≤ k → k + t.size ≤ 2 ^ 60 → t.formed np k = true → 0 ≤ frm → frm + t.size ≤ 2 ^ 60 →
    PPure Try.prog F.ref04_Lift [.agg t.pv, .sc (.int .i64 by_), .sc (.int .i64 frm)] (.agg (t.lift by_ frm).pv) := by
  intro fuel
  induction fuel with
  | zero => intro t k frm h; have := size_pos t; omega
  | succ fuel ih =>
    intro t k frm hf hm hk0 hk1 hfm hfr0 hfr1
    cases t with
    | mk kind n s ls args =>
    have hCT := fun H nx => CopyTerm_m kind n s ls args hm H nx
    simp only [Tm.size] at hf hk1 hfr1
    simp only [Tm.nodes] at hm
    have hA := Kept.mk (formed_args np k kind n s ls args hfm)
    have hc := formed_cases np k kind n s ls args hfm
    have hdp : Kept (∀ i : Nat, i < args.length → deepB kind args.length i = if ((kind = 5 ∨ kind = 6) ∧ (i : Int) = 1) ∨ (kind = 7 ∧ (i : Int) = 2) then 1 else 0) := .mk fun i hi => by
      unfold deepB
      rcases hc with h | h | h | h
      · rw [h.2.2.2] at hi; simp at hi
      · rw [h.2] at hi; simp at hi
      · split <;> split <;> omega
      · split <;> split <;> omega
    have hn : kind = 1 → 0 ≤ n ∧ n < k ∧ args = [] := fun e => by
      rcases hc with h | h | h | h
      · exact ⟨h.2.1, h.2.2.1, h.2.2.2⟩
      · omega
      · omega
      · omega
    clear hc
    refine pure_by is_ref04_Lift (by simp) (by simp [PV.imm, tm_imm]) fun hb nx => ?_
    have hb0 : ls.length ≤ 9223372036854775807 ∧ args.length ≤ 9223372036854775807 := by simp [Tm.pv, bndL, PV.bnd] at hb; exact ⟨hb.1.1, hb.2.1⟩
    rw [Tm.pv] at hCT
    repeat' (first | ((with_reducible first | refine wA (by omega) ?_ | refine wB (by omega) ?_ | refine wC (by omega) ?_ | refine wD (by omega) ?_ | refine wE ?_ ?_ | refine wF ?_ ?_ | refine wG ?_ ?_ | refine wH ?_ ?_ | refine wI ?_ ?_ | refine wJ ?_ ?_ | refine wK ?_ ?_ | refine wL ?_ ?_) <;> intro _) | simp (maxSteps := 1000000) (disch := omega) only [go_sem, Nat.reduceAdd, Nat.reduceMul, Nat.reduceSub, Nat.reduceLeDiff, Nat.reduceEqDiff, Nat.reduceBEq, ↓reduceIte, reduceCtorEq, Int.reduceEq, Int.reduceLE, Int.reduceLT, Int.reduceAdd, Int.reduceSub, Int.reduceNeg, Int.reduceToNat, Int.reduceNe, Nat.reducePow, Nat.reduceShiftRight, Nat.reduceMod, mc_ref04_Lift, Tm.pv, *])
    refine call_mut (hCT _ _) ?_
    rintro H' nx' r' ⟨hn1, a, b, mid, rfl, hra, hrb, hm1, hm2, hk⟩ -
    have hsa : a = .sc (.slice none 0 0) ∨ ∃ id1, a = .osl id1 0 ls.length 3 := by
      rcases hra with ⟨_, h⟩ | ⟨id1, _, _, h, _⟩
      · exact .inl h
      · exact .inr ⟨id1, h⟩
    have hsb : b = .sc (.slice none 0 0) ∨ ∃ id2, b = .osl id2 0 args.length 5 := by
      rcases hrb with ⟨_, h⟩ | ⟨id2, _, _, h, _⟩
      · exact .inl h
      · exact .inr ⟨id2, h⟩
    obtain ⟨a0, ha0⟩ : ∃ a0, a0 = a := ⟨_, rfl⟩
    obtain ⟨b0, hb0'⟩ : ∃ b0, b0 = b := ⟨_, rfl⟩
    rw [← ha0] at hra
    rw [← hb0'] at hrb
    have hrak : Kept (RowAt H' (nx + 6) mid 3 a0 (ls.flatMap (Lv.pvB true)) ls.length) := Kept.mk hra
    have hrbk : Kept (RowAt H' mid nx' 5 b0 (args.flatMap (Tm.pvB true)) args.length) := Kept.mk hrb
    have hz1 : H' (nx + 1) = some ⟨[.sc (.int .i64 0), .sc (.int .i64 0), .sc (.string ⟨#[]⟩), .sc (.slice none 0 0), .sc (.slice none 0 0)], true⟩ := (hk (nx + 1) (by show nx + 1 < nx + 6; omega)).trans (by simp [upd])
    have hm1' : nx + 6 ≤ mid := hm1
    have ihk := Kept.mk ih
    clear hra hrb hk ih hn1 hm1
    have hn' : ∃ n', n' = (if kind = 1 ∧ frm ≤ n then n + by_ else n) := ⟨_, rfl⟩
    obtain ⟨n', hn'⟩ := hn'
    have hnk := Kept.mk hn'
    have hbd : -9223372036854775808 ≤ n + by_ ∧ n + by_ ≤ 9223372036854775807 ∨ kind ≠ 1 := by
      by_cases e : kind = 1
      · have := hn e; omega
      · exact .inr e
    have hpath : ((1 ≤ kind ∧ kind ≤ 1) ∧ frm ≤ n ∧ n' = n + by_ ∧ -9223372036854775808 ≤ n' ∧ n' ≤ 9223372036854775807) ∨ ((1 ≤ kind ∧ kind ≤ 1) ∧ ¬ frm ≤ n ∧ n' = n) ∨ (kind ≠ 1 ∧ n' = n) := by
      by_cases e : kind = 1
      · by_cases e2 : frm ≤ n
        · rw [if_pos ⟨e, e2⟩] at hn'; exact .inl ⟨by omega, e2, hn', by omega, by omega⟩
        · rw [if_neg (fun h => e2 h.2)] at hn'; exact .inr (.inl ⟨by omega, e2, hn'⟩)
      · rw [if_neg (fun h => e h.1)] at hn'; exact .inr (.inr ⟨e, hn'⟩)
    have hn0 : Kept (kind = 1 → args.length = 0) := Kept.mk fun e => by rw [(hn e).2.2]; rfl
    clear hn' hbd hn
    rcases hsa with rfl | ⟨id1, rfl⟩ <;> rcases hsb with rfl | ⟨id2, rfl⟩ <;> rcases hpath with ⟨e1, e2, e3, e4, e5⟩ | ⟨e1, e2, e3⟩ | ⟨e1, e3⟩
    all_goals
      have e6 : Kept (n' = n') := Kept.mk rfl
      first
        | (have e7 : n + by_ = n' := e3.symm
           have e9 : True := trivial
           have e8 := e4
           clear e3)
        | (have e7 : n ≤ n' ∧ n' ≤ n := ⟨by omega, by omega⟩
           clear e3)
      repeat' (first | ((with_reducible first | refine wA (by omega) ?_ | refine wB (by omega) ?_ | refine wC (by omega) ?_ | refine wD (by omega) ?_ | refine wE ?_ ?_ | refine wF ?_ ?_ | refine wG ?_ ?_ | refine wH ?_ ?_ | refine wI ?_ ?_ | refine wJ ?_ ?_ | refine wK ?_ ?_ | refine wL ?_ ?_) <;> intro _) | simp (maxSteps := 1000000) (disch := omega) only [go_sem, Nat.reduceAdd, Nat.reduceMul, Nat.reduceSub, Nat.reduceLeDiff, Nat.reduceEqDiff, Nat.reduceBEq, ↓reduceIte, reduceCtorEq, Int.reduceEq, Int.reduceLE, Int.reduceLT, Int.reduceAdd, Int.reduceSub, Int.reduceNeg, Int.reduceToNat, Int.reduceNe, Nat.reducePow, Nat.reduceShiftRight, Nat.reduceMod, Tm.pv, *])
    all_goals
      refine c_loopW 4503599560262400 (by kernel_rfl) (fun j f H2 m2 => ∃ i : Nat, j = args.length - i ∧ i ≤ args.length ∧ f 8 = .sc (.int .i64 i) ∧ nx' ≤ m2 ∧ H2 (nx + 1) = some ⟨[.sc (.int .i64 0), .sc (.int .i64 0), .sc (.string ⟨#[]⟩), .sc (.slice none 0 0), .sc (.slice none 0 0)], true⟩ ∧ H2 (nx + 4) = some ⟨[.sc (.int .i64 kind), .sc (.int .i64 n'), .sc (.string s), a0, b0], true⟩ ∧
        Kept (RowAt H2 (nx + 6) mid 3 a0 (ls.flatMap (Lv.pvB true)) ls.length) ∧ Kept (RowAt H2 mid nx' 5 b0 (((liftA by_ frm kind args.length 0 args).take i).flatMap Tm.pv ++ (args.drop i).flatMap (Tm.pvB true)) args.length)) _ ⟨0, rfl, cE1, cE1, ?mm, ?g1, ?g2, ?g3, ?g4⟩ ?_
      case mm => first | exact Nat.le_refl _ | exact Nat.le_add_right _ _ | omega
      case g1 => simp [upd, hz1]
      case g2 => first | (simp [upd, *]; done) | (simp [upd, *]; omega)
      case g3 => exact Kept.mk (hrak.out.low (Nat.le_refl _) (Nat.le_refl _) fun id h1 h2 => by simp [upd, show id ≠ nx + 4 by omega])
      case g4 => exact Kept.mk (by simpa using hrbk.out.low (Nat.le_refl _) (Nat.le_refl _) fun id h1 h2 => by simp [upd, show id ≠ nx + 4 by omega])
      clear hz1 hrak hrbk hCT
      rintro _ f H2 m2 ⟨i, rfl, hi, e8', hm2', g1, g2, g3, g4⟩
      have hlen := liftA_len by_ frm kind args.length args 0
      by_cases hlt : i < args.length
      · rcases g4.out with ⟨h0, _⟩ | ⟨idb, x1, x2, x3, x4⟩
        · omega
        rw [hb0'] at x3
        first
          | (cases x3; done)
          | exact absurd (hn0.out (by omega)) (by omega)
          | (cases x3
             have eg : args[i]? = some args[i] := List.getElem?_eq_getElem hlt
             have hnn := nodesT_mem args i hlt
             have hs := sizeL_mem args i hlt
             have hd := deep_bd kind args.length i
             have hfi := formedA_mem np k kind args.length args 0 i hlt hA.out
             rw [Nat.zero_add] at hfi
             have hc3 := ihk.out args[i] (k + deepB kind args.length i) (frm + deepB kind args.length i) (by omega) (by omega) (by omega) (by omega) hfi (by omega) (by omega)
             have hc1 := binds_p kind i (by omega)
             have hdi := hdp.out i hlt
             have hgl := liftA_at by_ frm kind args.length args 0 i
             rw [eg, Nat.zero_add, Option.map_some] at hgl
             have hli : i < (liftA by_ frm kind args.length 0 args).length := by omega
             have hgi : (liftA by_ frm kind args.length 0 args)[i] = args[i].lift by_ (frm + deepB kind args.length i) := by
               rw [List.getElem?_eq_getElem hli] at hgl
               exact Option.some.inj hgl
             have hpl : (((liftA by_ frm kind args.length 0 args).take i).flatMap Tm.pv).length = i * 5 := by rw [flat_lenG _ 5 tm_len, List.length_take, Nat.min_eq_left (by omega)]
             have hq : (args.drop i).flatMap (Tm.pvB true) = args[i].pvB true ++ (args.drop (i + 1)).flatMap (Tm.pvB true) := by rw [List.drop_eq_getElem_cons hlt]; rfl
             have hql : ((args.drop (i + 1)).flatMap (Tm.pvB true)).length = (args.length - (i + 1)) * 5 := by rw [flat_lenG _ 5 (tpvB_len true), List.length_drop]
             have hnx : ((liftA by_ frm kind args.length 0 args).take (i + 1)).flatMap Tm.pv = ((liftA by_ frm kind args.length 0 args).take i).flatMap Tm.pv ++ (args[i].lift by_ (frm + deepB kind args.length i)).pv := by rw [List.take_succ_eq_append_getElem hli, hgi]; simp
             rw [hq] at x4
             obtain ⟨P, hP⟩ : ∃ P, P = ((liftA by_ frm kind args.length 0 args).take i).flatMap Tm.pv := ⟨_, rfl⟩
             obtain ⟨R, hR⟩ : ∃ R, R = (args.drop (i + 1)).flatMap (Tm.pvB true) := ⟨_, rfl⟩
             rw [← hP] at hpl x4 hnx
             rw [← hR] at hql x4
             have hcells : P ++ ((args[i].lift by_ (frm + deepB kind args.length i)).pv ++ R) = ((liftA by_ frm kind args.length 0 args).take (i + 1)).flatMap Tm.pv ++ (args.drop (i + 1)).flatMap (Tm.pvB true) := by rw [hnx, ← hR, List.append_assoc]
             have atP : ∀ x, List.take (i * 5) (P ++ x) = P := fun x => List.take_left' hpl
             have atD : ∀ x, List.drop (i * 5 + 5) (P ++ (args[i].pvB true ++ x)) = x := fun x => (at_drop P _ (i * 5) 5 hpl).trans (List.drop_left' (tpvB_len true _))
             have hfit : i * 5 + 5 ≤ P.length + (5 + R.length) := by omega
             have hfit2 : i * 5 + 5 ≤ i * 5 + (5 + (args.length - (i + 1)) * 5) := by omega
             clear hnx hq hP hR hgi hgl hfi g4 hA hdp ihk hlen hli hk0 hk1 hnn hs hf
             by_cases hbd : ((kind = 5 ∨ kind = 6) ∧ (i : Int) = 1) ∨ (kind = 7 ∧ (i : Int) = 2)
             · rw [if_pos hbd] at hdi
               rw [hdi] at hc3 hcells
               rw [decide_eq_true hbd] at hc1
               clear hbd hd hdi
               have hcells := Kept.mk hcells
               repeat' (first | ((with_reducible first | refine wA (by omega) ?_ | refine wB (by omega) ?_ | refine wC (by omega) ?_ | refine wD (by omega) ?_ | refine wE ?_ ?_ | refine wF ?_ ?_ | refine wG ?_ ?_ | refine wH ?_ ?_ | refine wI ?_ ?_ | refine wJ ?_ ?_ | refine wK ?_ ?_ | refine wL ?_ ?_) <;> intro _) | (((with_reducible refine call_id ?_); (first | (refine call_pure (hc1) ?_) | (refine call_pure (hc3) ?_)))) | simp (maxSteps := 1000000) (disch := omega) only [go_sem, Nat.reduceAdd, Nat.reduceMul, Nat.reduceSub, Nat.reduceLeDiff, Nat.reduceEqDiff, Nat.reduceBEq, ↓reduceIte, reduceCtorEq, Int.reduceEq, Int.reduceLE, Int.reduceLT, Int.reduceAdd, Int.reduceSub, Int.reduceNeg, Int.reduceToNat, Int.reduceNe, Nat.reducePow, Nat.reduceShiftRight, Nat.reduceMod, Tm.pv, atP, atD, *])
               refine Nx.mk (args.length - (i + 1)) cE1 ⟨i + 1, rfl, cE1, cE1, ?_, ?_, ?_, ?_, ?_⟩
               · first | exact Nat.le_trans hm2' (Nat.le_add_right _ _) | omega
               · exact (upd_ne _ _ (by omega)).trans g1
               · refine (upd_ne _ _ (by omega)).trans ?_
                 first | exact g2 | (rw [g2, ha0, hb0'])
               · have g3' := g3.out
                 rw [ha0] at g3'
                 refine Kept.mk (g3'.low (Nat.le_refl _) (Nat.le_refl _) fun id h1 h2 => ?_)
                 exact upd_ne _ _ (by omega)
               · exact Kept.mk (Or.inr ⟨_, x1, x2, by first | rfl | exact hb0', by first | (simp [upd]; done) | (rw [← hcells.out]; simp [upd]; done)⟩)
             · rw [if_neg hbd] at hdi
               rw [hdi, Int.add_zero] at hc3 hcells
               rw [decide_eq_false hbd] at hc1
               clear hbd hd hdi
               have hcells := Kept.mk hcells
               repeat' (first | ((with_reducible first | refine wA (by omega) ?_ | refine wB (by omega) ?_ | refine wC (by omega) ?_ | refine wD (by omega) ?_ | refine wE ?_ ?_ | refine wF ?_ ?_ | refine wG ?_ ?_ | refine wH ?_ ?_ | refine wI ?_ ?_ | refine wJ ?_ ?_ | refine wK ?_ ?_ | refine wL ?_ ?_) <;> intro _) | (((with_reducible refine call_id ?_); (first | (refine call_pure (hc1) ?_) | (refine call_pure (hc3) ?_)))) | simp (maxSteps := 1000000) (disch := omega) only [go_sem, Nat.reduceAdd, Nat.reduceMul, Nat.reduceSub, Nat.reduceLeDiff, Nat.reduceEqDiff, Nat.reduceBEq, ↓reduceIte, reduceCtorEq, Int.reduceEq, Int.reduceLE, Int.reduceLT, Int.reduceAdd, Int.reduceSub, Int.reduceNeg, Int.reduceToNat, Int.reduceNe, Nat.reducePow, Nat.reduceShiftRight, Nat.reduceMod, Tm.pv, atP, atD, *])
               refine Nx.mk (args.length - (i + 1)) cE1 ⟨i + 1, rfl, cE1, cE1, ?_, ?_, ?_, ?_, ?_⟩
               · first | exact Nat.le_trans hm2' (Nat.le_add_right _ _) | omega
               · exact (upd_ne _ _ (by omega)).trans g1
               · refine (upd_ne _ _ (by omega)).trans ?_
                 first | exact g2 | (rw [g2, ha0, hb0'])
               · have g3' := g3.out
                 rw [ha0] at g3'
                 refine Kept.mk (g3'.low (Nat.le_refl _) (Nat.le_refl _) fun id h1 h2 => ?_)
                 exact upd_ne _ _ (by omega)
               · exact Kept.mk (Or.inr ⟨_, x1, x2, by first | rfl | exact hb0', by first | (simp [upd]; done) | (rw [← hcells.out]; simp [upd]; done)⟩))
      · obtain rfl : i = args.length := by omega
        have g4' := g4.out
        rw [List.take_of_length_le (by omega), List.drop_length, List.flatMap_nil, List.append_nil] at g4'
        have g4k := Kept.mk g4'
        clear g4 g4' hlt hi
        repeat' (first | ((with_reducible first | refine wA (by omega) ?_ | refine wB (by omega) ?_ | refine wC (by omega) ?_ | refine wD (by omega) ?_ | refine wE ?_ ?_ | refine wF ?_ ?_ | refine wG ?_ ?_ | refine wH ?_ ?_ | refine wI ?_ ?_ | refine wJ ?_ ?_ | refine wK ?_ ?_ | refine wL ?_ ?_) <;> intro _) | simp (maxSteps := 1000000) (disch := omega) only [go_sem, Nat.reduceAdd, Nat.reduceMul, Nat.reduceSub, Nat.reduceLeDiff, Nat.reduceEqDiff, Nat.reduceBEq, ↓reduceIte, reduceCtorEq, Int.reduceEq, Int.reduceLE, Int.reduceLT, Int.reduceAdd, Int.reduceSub, Int.reduceNeg, Int.reduceToNat, Int.reduceNe, Nat.reducePow, Nat.reduceShiftRight, Nat.reduceMod, Tm.pv, *])
        refine fin_ret (r0 := .agg [.sc (.int .i64 kind), .sc (.int .i64 n'), .sc (.string s), a0, b0]) 2 cE2 ?_
        rw [frz_agg1]
        have g5 : RowAt H2 mid nx' 5 b0 ((liftA by_ frm kind args.length 0 args).flatMap Tm.pv) (liftA by_ frm kind args.length 0 args).length := by rw [hlen]; exact g4k.out
        have hHe : ∀ id, nx + 1 < id → upd H2 (nx + 1) none id = H2 id := fun id h => upd_ne _ _ (by omega)
        have hw2 : frz 1 (upd H2 (nx + 1) none) (PV.sc (.int .i64 n')) = .sc (.int .i64 (if kind = 1 ∧ frm ≤ n then n + by_ else n)) := by rw [frz_sc, ← hnk.out]
        have hw : Weak (.agg ([PV.sc (.int .i64 kind), .sc (.int .i64 n'), .sc (.string s), a0, b0].map (frz 1 (upd H2 (nx + 1) none)))) (.agg ((Tm.mk kind n s ls args).lift by_ frm).pv) := by
          simp only [List.map_cons, List.map_nil, Tm.lift, Tm.pv]
          exact Weak.agg ⟨.of_eq (frz_sc _ _ _), .of_eq hw2, .of_eq (frz_sc _ _ _), (Weak.row (Lv.pvB true) 3 (pvB_len true) (g3.out.low (Nat.le_refl _) (Nat.le_refl _) fun id h1 h2 => hHe id (by omega))).trans (slB_rows false pv_len ls fun x _ => lv_weak' true x), Weak.row Tm.pv 5 tm_len (g5.low (Nat.le_refl _) (Nat.le_refl _) fun id h1 h2 => hHe id (by omega)), trivial⟩
        first
          | exact hw
          | exact hw.trans (.of_eq (by rw [show kind = 1 by omega]))
end
section
set_option maxRecDepth 20000
attribute [local go_sem] pv_len pv_take Nat.add_assoc tm_len tm_take pv_one tm_one id_ne id_ne' id_ne2 List.append_assoc
def zeroT : List PV := [.sc (.int .i64 0), .sc (.int .i64 0), .sc (.string ⟨#[]⟩), .sc (.slice none 0 0), .sc (.slice none 0 0)]
end
section
set_option maxRecDepth 20000
attribute [local go_sem] pv_len pv_take Nat.add_assoc tm_len tm_take pv_one tm_one id_ne id_ne' id_ne2 List.append_assoc
def optT : Option Tm → PV
  | some t => .tup [.agg t.pv, .sc (.bool true)]
  | none => .tup [.agg zeroT, .sc (.bool false)]
theorem optT_imm (o : Option Tm) : (optT o).imm = true := by cases o <;> simp [optT, PV.imm, immL, tm_imm, zeroT]
end
section
attribute [local go_sem] pv_len pv_take id_ne id_ne' id_ne2 rounds_next Nat.add_assoc pv_one
def p0 : Lv := .mk 2 0 []
def p1 : Lv := .mk 2 1 []
theorem PPure.is {f : FuncId} {args : List PV} {r r' : PV} (h : PPure Try.prog f args r) (e : r = r') : PPure Try.prog f args r' := e ▸ h
end
section
set_option maxRecDepth 20000
attribute [local go_sem] pv_len pv_take Nat.add_assoc tm_len tm_take pv_one tm_one id_ne id_ne' id_ne2 List.append_assoc
def FixL (nx : Nat) (cs : List PV) : Prop := ∀ (G : Nat → Bool) (k : Nat) (H : Nat → Option PObj), (∀ j, j < nx → G j = false) → cs.map (frgF G k H) = cs
theorem FixL.mono {nx nx' : Nat} {cs : List PV} (h : FixL nx cs) (hn : nx ≤ nx') : FixL nx' cs := fun G k H hG => h G k H fun j hj => hG j (Nat.lt_of_lt_of_le hj hn)
theorem FixL.imm {nx : Nat} {cs : List PV} (h : immL cs = true) : FixL nx cs := fun G k H _ => frgF_immL G H k cs h
theorem FixL.nil {nx : Nat} : FixL nx [] := fun _ _ _ _ => rfl
theorem FixL.append {nx : Nat} {cs ds : List PV} (h : FixL nx cs) (g : FixL nx ds) : FixL nx (cs ++ ds) := fun G k H hG => by rw [List.map_append, h G k H hG, g G k H hG]
theorem FixL.cons {nx : Nat} {c : PV} {ds : List PV} (h : c.imm = true) (g : FixL nx ds) : FixL nx (c :: ds) := fun G k H hG => by rw [List.map_cons, frgF_imm G H k c h, g G k H hG]
theorem frgF_osl {G : Nat → Bool} {id : Nat} (h : G id = false) (k : Nat) (H : Nat → Option PObj) (off n sz : Nat) : frgF G k H (.osl id off n sz) = .osl id off n sz := by
  cases k with
  | zero => rfl
  | succ k => simp [frgF, h]
theorem FixL.osl {nx id off n sz : Nat} {ds : List PV} (h : id < nx) (g : FixL nx ds) : FixL nx (.osl id off n sz :: ds) := fun G k H hG => by rw [List.map_cons, frgF_osl (hG id h), g G k H hG]
def RowP (H : Nat → Option PObj) (lo m sz : Nat) (a : PV) (es : List (List PV)) : Prop := (es = [] ∧ a = .sc (.slice none 0 0)) ∨ ∃ id, lo ≤ id ∧ id < m ∧ a = .osl id 0 es.length sz ∧ H id = some ⟨es.flatten, true⟩
def HalfP (H : Nat → Option PObj) (lo m sz : Nat) (a : PV) (done : List PV) (z : List Value) (r n : Nat) : Prop := (n = 0 ∧ a = .sc (.slice none 0 0)) ∨ ∃ id, lo ≤ id ∧ id < m ∧ a = .osl id 0 n sz ∧ H id = some ⟨done ++ zeros z r, true⟩
def leads : PV → Nat → Bool
  | .osl i _ _ _, j => decide (j = i)
  | _, _ => false
theorem HalfP.row {H : Nat → Option PObj} {lo m sz : Nat} {a : PV} {es : List (List PV)} {z : List Value} {n : Nat} (h : HalfP H lo m sz a es.flatten z 0 n) (hn : es.length = n) : RowP H lo m sz a es := by
  rcases h with ⟨h1, h2⟩ | ⟨id, h1, h2, h3, h4⟩
  · exact .inl ⟨List.eq_nil_of_length_eq_zero (by omega), h2⟩
  · exact .inr ⟨id, h1, h2, by rw [hn]; exact h3, by simpa [zeros] using h4⟩
theorem RowP.mono {H H' : Nat → Option PObj} {lo m m' sz : Nat} {a : PV} {es : List (List PV)} (h : RowP H lo m sz a es) (hm : m ≤ m') (hH : ∀ j, lo ≤ j → j < m → leads a j = true → H' j = H j) : RowP H' lo m' sz a es := by
  rcases h with h | ⟨id, h1, h2, rfl, h4⟩
  · exact .inl h
  · exact .inr ⟨id, h1, by omega, rfl, by rw [hH id h1 h2 (by simp [leads]), h4]⟩
theorem HalfP.mono {H H' : Nat → Option PObj} {lo m m' sz : Nat} {a : PV} {done : List PV} {z : List Value} {r n : Nat} (h : HalfP H lo m sz a done z r n) (hm : m ≤ m') (hH : ∀ j, lo ≤ j → j < m → leads a j = true → H' j = H j) : HalfP H' lo m' sz a done z r n := by
  rcases h with h | ⟨id, h1, h2, rfl, h4⟩
  · exact .inl h
  · exact .inr ⟨id, h1, by omega, rfl, by rw [hH id h1 h2 (by simp [leads]), h4]⟩
theorem RowP.fix {H : Nat → Option PObj} {lo m sz : Nat} {a : PV} {es : List (List PV)} (h : RowP H lo m sz a es) {nx : Nat} (hm : m ≤ nx) {ds : List PV} (hd : FixL nx ds) : FixL nx (a :: ds) := by
  rcases h with ⟨_, rfl⟩ | ⟨id, h1, h2, rfl, h4⟩
  · exact .cons rfl hd
  · exact .osl (by omega) hd
theorem RowP.lead {H : Nat → Option PObj} {lo m sz : Nat} {a : PV} {es : List (List PV)} (h : RowP H lo m sz a es) (hl : es.flatten.length ≠ 1) (hi : immL es.flatten = true) {j : Nat} (hj : leads a j = true) (nx : Nat) :
    lo ≤ j ∧ j < m ∧ ∀ o, H j = some o → o.isIt = false ∧ FixL nx o.cells := by
  rcases h with ⟨_, rfl⟩ | ⟨id, h1, h2, rfl, h4⟩
  · cases hj
  · obtain rfl : j = id := by simpa [leads] using hj
    refine ⟨h1, h2, fun o ho => ?_⟩
    rw [h4] at ho
    cases ho
    exact ⟨isIt_len hl, .imm hi⟩
theorem RowP.frg {H : Nat → Option PObj} {lo m sz : Nat} {a : PV} {es : List (List PV)} (h : RowP H lo m sz a es) (hs : ∀ e ∈ es, e.length = sz) (G : Nat → Bool) (hG : ∀ j, lo ≤ j → G j = true) : Weak (frgF G 1 H a) (.sl sz es) := by
  rcases h with ⟨rfl, rfl⟩ | ⟨id, h1, h2, rfl, h4⟩
  · exact .nil sz
  · have hl : es.flatten.length = es.length * sz := by
      clear h4
      induction es with
      | nil => simp
      | cons e r ih =>
        rw [List.flatten_cons, List.length_append, ih (fun x hx => hs x (by simp [hx])), hs e (by simp), List.length_cons, Nat.succ_mul]
        omega
    simp only [frgF, hG id h1, if_true, h4, List.drop_zero]
    rw [if_pos (by omega), List.take_of_length_le (by omega)]
    refine .trans (Weak.fslW (es' := es) (by rw [chunks_length]) hs ?_) (Weak.fsl sz es)
    rw [List.map_id', chunks_flatten sz es.length _ (by omega)]
    exact .refl _
theorem PMut.weakA {P : Program} {f : FuncId} {args args' : List PV} {H : Nat → Option PObj} {nx : Nat} {Q : (Nat → Option PObj) → Nat → PV → Prop} (h : PMut P f args' H nx Q) (ha : WeakL args args') : PMut P f args H nx Q :=
  ⟨h.1, fun w0 ok0 rho w vals hH hfree hv => h.2 w0 ok0 rho w vals hH hfree (ha.rep hv)⟩
end
section
set_option maxRecDepth 20000
attribute [local go_sem] pv_len pv_take Nat.add_assoc tm_len tm_take pv_one tm_one id_ne id_ne' id_ne2 List.append_assoc
theorem flat3_ne1 (ls : List Lv) : (ls.map Lv.pv).flatten.length ≠ 1 := by
  have : (ls.map Lv.pv).flatten.length = ls.length * 3 := by
    induction ls with
    | nil => rfl
    | cons t r ih => rw [List.map_cons, List.flatten_cons, List.length_append, pv_len, ih, List.length_cons, Nat.succ_mul]; omega
  omega
theorem zeros_imm : ∀ (n : Nat), immL (zeros [.int .i64 0, .int .i64 0, .string ⟨#[]⟩, .slice none 0 0, .slice none 0 0] n) = true
  | 0 => rfl
  | n + 1 => by simp only [zeros, immL_append, zeros_imm n]; rfl
theorem tms_immF (ts : List Tm) : immL (ts.flatMap Tm.pv) = true := by rw [List.flatMap_def]; exact tms_imm ts
theorem lvs_immF : ∀ ls : List Lv, immL (ls.map Lv.pv).flatten = true
  | [] => rfl
  | t :: r => by simp only [List.map_cons, List.flatten_cons, immL_append, pv_imm t, lvs_immF r]; rfl
end
section
set_option maxRecDepth 20000
attribute [local go_sem] pv_len pv_take id_ne id_ne' id_ne2 List.append_assoc
def txt (s : ByteArray) : List PV := [.sc (.string s)]
theorem txt_len (s : ByteArray) : (txt s).length = 1 := rfl
theorem txt_inj {a b : ByteArray} (h : a.toList = b.toList) : a = b := by
  rw [ByteArray.toList_eq, ByteArray.toList_eq] at h
  cases a; cases b
  simp only [ByteArray.mk.injEq]
  exact Array.toList_inj.1 h
end
section
set_option maxRecDepth 20000
attribute [local go_sem] pv_len pv_take id_ne id_ne' id_ne2 List.append_assoc
theorem txts_flat : ∀ xs : List ByteArray, (xs.map txt).flatten = xs.flatMap txt := fun xs => by rw [List.flatMap_def]
theorem txts_len : ∀ xs : List ByteArray, (xs.map txt).flatten.length = xs.length
  | [] => rfl
  | x :: r => by simp only [List.map_cons, List.flatten_cons, List.length_append, txt_len, txts_len r, List.length_cons]; omega
theorem txts_one : ∀ xs : List ByteArray, (xs.map txt).flatten.all PV.one = true
  | [] => rfl
  | x :: r => by
    simp only [List.map_cons, List.flatten_cons, List.all_append, txts_one r]
    rfl
end
end Go.Proofs.Ytfhblaggeahbjaa
