/-
  Plain values: TmT, TmG, TmV, TmX, TmY, TmZ, Tm1, LvM, LvS, TnA, TnC, TnD, TnB, TnE, Tm2, Tm3, Tm4.
-/
import Derived.Laws.Strings
import Derived.Test.YtfhblaggeahbjaaXMa
import Derived.Test.YtfhblaggeahbjaaXMb
import Derived.Test.YtfhblaggeahbjaaXMc
import Derived.Test.YtfhblaggeahbjaaXMd
set_option linter.unusedVariables false
set_option linter.unusedSimpArgs false
namespace Go.Proofs.Ytfhblaggeahbjaa
open Go.RowKit
attribute [local go_sem ↓] c_seq c_region c_cond c_block c_ret c_skip c_exit c_cont t_normal t_ret t_exit b_normal b_ret b_exit run_nil run_cons g_some o_mv o_pick o_bin o_un o_ld o_bld o_len o_mkf o_nilc o_fa o_fd o_ia o_iaa o_ix o_ixs o_ext o_al o_bxf o_bxt o_bsl o_bslf o_mks o_st o_stf o_call o_rng o_nxt o_callm o_calvm o_calv cond_true cond_false upd_get sigF_cons o_eqa o_mm o_app o_slc
attribute [local go_sem] num_nil num_cons chunks rngV next_is next_iter val_some new_some st_some stf_some guard_tt guard_ff guard_tf guard_ft guard_un calv_fn put_some put_none ev_tmp ev_const ev_func sig_eq sigF_nil q0 q1 nilcV faV fdV iaV iaaV ixV ixsV extV mksV loadP storeP lenPV binPV unPV intBin partsP fillP zeros PV.good PV.cellsOf PV.one q2 q3 q4 q5 q6 q7 q8 q9 q10 q11 q12 q13 q14 q15 q16 q17 q18 q19 q20 q21 q22 q23 q24 q25 q26 q27 q28 q29 q30 q31 q32 q33 q34 q35 q36 q37 q38 wrap64 app_some mmL mmV mm2 eqE eqParts eqInt eqBool eqStr partV q39 q40 pickV q41 q42 q43 q44 q45 q46 q47 q48 q49 appE oldOf rowOf updL q50 q51 q52 q53 zlt ovr_get ite_neN ite_eqN q54 q55 q56 q57 q58 q59 q60 q61 q62 q63 q64 q65 q66 q67 tailP_f tailP_t tailF_f tailF_t slcP bndO capO slcLen intOf Option.isSome_none Option.isNone_none Option.isSome_some Option.isNone_some nilP slc_sl slc_csl slc_osl slc_osl0 slc_ocap slc_str List.append_nil List.length_append resP resPs resP1 PV.sc.injEq Value.bool.injEq Value.int.injEq
section
set_option maxRecDepth 20000
attribute [local go_sem] pv_len pv_take tm_len tm_take pv_one tm_one id_ne id_ne' id_ne2
set_option maxRecDepth 100000 in
set_option maxHeartbeats 4000000 in
theorem all_seq (t : Tm) : PSeq Try.prog F.term_all_1 [.ptr [.ptr t.pv]] (t.pre.map nodePV) := by
  refine ⟨is_term_all_1.enters, fun V vals hok hv => ?_⟩
  intro l J Jx W hW _ _ hY h0
  have hdd : ∀ k : Nat, (Fence.wide.depth.isSome = true → 1 ≤ k) := fun k h => by cases h
  obtain ⟨v1, hv1, hr1⟩ := hv.get (i := 0) (x := .ptr [.ptr t.pv]) rfl
  have hvals : vals = [v1] := by
    have h1 := hv.1
    match vals, h1, hv1 with
    | [x], _, h => simp at h; rw [h]
  subst hvals
  obtain ⟨b, off, vs, rfl, hokb, hr, hc⟩ := hr1.ptr_inv
  obtain ⟨p, hp1, hrep⟩ := hr.get (i := 0) (x := .ptr t.pv) rfl
  have hkeep : ∀ b, V.ok b → W.heap[b]? = V.w.heap[b]? := fun b hb => hW.block b (hok b hb)
  have hcell : W.cell? ⟨b, off, none⟩ = some p := (World.cell?_of_block (w := V.w) (w' := W) (a := ⟨b, off, none⟩) (hkeep b hokb)).trans (hc 0 p hp1)
  have hw := walkNodes0 V (t.pre.map nodePV) l (t.pre.map nodePV).length J Jx (fun m pre x W hj hl => YieldAt.any rfl m (hY pre x W hj hl)) t.size t (Nat.le_refl _) 0 p [] W hrep (fun u hu => List.mem_map_of_mem hu) hkeep h0 (by simp)
  refine callsIn_of_wp Try.func115 rfl trivial ?_ rfl
  simp only [Try.ntmps115, List.size_toArray, List.length_cons, List.length_nil, Nat.reduceAdd, Nat.reduceSub, Array.replicate_succ, Array.replicate_zero, List.push_toArray, List.append_toArray, List.nil_append, List.cons_append]
  gi_wp2_with (refine ⟨trivial, ?_⟩; refine hw.mono ?_; clear hw; rintro e W1 (⟨rfl, ys, h1, h2, h3⟩ | ⟨rfl, ys, h1, h2⟩))
  · go_end0
    exact ⟨⟨_, rfl⟩, .inl ⟨ys, h1, by simpa using h2⟩⟩
  · go_end0
    exact ⟨⟨_, rfl⟩, .inr ⟨ys, h1, by simpa using h2⟩⟩
theorem all_p (t : Tm) : PPure Try.prog F.term_all [.ptr t.pv] (.fn F.term_all_1 [.ptr [.ptr t.pv]]) := by
  refine pure_by is_term_all (by simp) (by simp [PV.imm, immL, tm_imm]) fun hb nx => ?_
  repeat' (first | ((with_reducible first | refine cond_pos (by omega) ?_ | refine cond_neg (by omega) ?_ | refine guard_pos (by omega) ?_ | refine guard_neg (by omega) ?_ | refine cond_ifn ?_ ?_ | refine cond_waysn ?_ ?_ | refine guard_ifn ?_ ?_ | refine guard_waysn ?_ ?_ | refine cond_if ?_ ?_ | refine cond_ways ?_ ?_ | refine guard_if ?_ ?_ | refine guard_ways ?_ ?_) <;> intro _) | simp (maxSteps := 1000000) (disch := omega) only [go_sem, Nat.reduceAdd, Nat.reduceMul, Nat.reduceSub, Nat.reduceLeDiff, Nat.reduceEqDiff, Nat.reduceBEq, ↓reduceIte, reduceCtorEq, Int.reduceEq, Int.reduceLE, Int.reduceLT, Int.reduceAdd, Int.reduceSub, Int.reduceNeg, Int.reduceToNat, Int.reduceNe, Nat.reducePow, Nat.reduceShiftRight, Nat.reduceMod, mc_term_all, *])
  exact fin_tmp (.inr rfl) (by simp [upd])
mutual
theorem Lv.pv_inj : ∀ a b : Lv, a.pv = b.pv → a = b
  | .mk k n args, .mk k' n' args', h => by
    simp only [Lv.pv, List.cons.injEq, PV.sc.injEq, Value.int.injEq, PV.sl.injEq, true_and, and_true] at h
    rw [h.1, h.2.1, pvL_inj args args' h.2.2]
theorem pvL_inj : ∀ a b : List Lv, a.map Lv.pv = b.map Lv.pv → a = b
  | [], [], _ => rfl
  | [], y :: s, h => by simp at h
  | x :: r, [], h => by simp at h
  | x :: r, y :: s, h => by
    simp only [List.map_cons, List.cons.injEq] at h
    rw [Lv.pv_inj x y h.1, pvL_inj r s h.2]
end
def Tm.wt : Tm → Nat
  | .mk _ _ _ ls _ => 1 + (ls.map fun l => min l.nodes 2001).sum
def Tm.own : Tm → Nat
  | .mk _ _ _ ls _ => 1 + nodesL ls
theorem wt_of_pv {a b : Tm} (h : nodePV a = nodePV b) : a.wt = b.wt := by
  cases a; cases b
  simp only [nodePV, Tm.pv, PV.ptr.injEq, List.cons.injEq, PV.sl.injEq, true_and, and_true] at h
  simp only [Tm.wt]
  rw [pvL_inj _ _ h.2.2.2.1]
def wts (us : List Tm) : Nat := (us.map Tm.wt).sum
theorem wts_of_pv : ∀ {us vs : List Tm}, us.map nodePV = vs.map nodePV → wts us = wts vs
  | [], [], _ => rfl
  | [], _ :: _, h => by simp at h
  | _ :: _, [], h => by simp at h
  | a :: us, b :: vs, h => by
    simp only [List.map_cons, List.cons.injEq] at h
    have := wts_of_pv h.2
    simp only [wts, List.map_cons, List.sum_cons] at this ⊢
    rw [wt_of_pv h.1, this]
theorem mins_le : ∀ ls : List Lv, (ls.map fun l => min l.nodes 2001).sum ≤ nodesL ls
  | [] => by simp [nodesL]
  | x :: r => by have := mins_le r; simp only [List.map_cons, List.sum_cons, nodesL]; omega
theorem mins_eq : ∀ ls : List Lv, (ls.map fun l => min l.nodes 2001).sum ≤ 2000 → (ls.map fun l => min l.nodes 2001).sum = nodesL ls
  | [], _ => by simp [nodesL]
  | x :: r, h => by
    simp only [List.map_cons, List.sum_cons, nodesL] at h ⊢
    have := mins_eq r (by omega)
    omega
theorem wt_le (t : Tm) : t.wt ≤ t.own := by
  cases t
  simp only [Tm.wt, Tm.own]
  have := mins_le ‹List Lv›
  omega
theorem wt_eq (t : Tm) (h : t.wt ≤ 2000) : t.wt = t.own := by
  cases t
  rename_i ls _
  simp only [Tm.wt, Tm.own] at h ⊢
  have := mins_eq ls (by omega)
  omega
theorem wts_le : ∀ us : List Tm, wts us ≤ (us.map Tm.own).sum
  | [] => by simp [wts]
  | x :: r => by have := wts_le r; have := wt_le x; simp only [wts, List.map_cons, List.sum_cons] at *; omega
theorem wts_eq : ∀ us : List Tm, wts us ≤ 2000 → wts us = (us.map Tm.own).sum
  | [], _ => by simp [wts]
  | x :: r, h => by
    simp only [wts, List.map_cons, List.sum_cons] at h ⊢
    have h1 := wts_eq r (by simp only [wts]; omega)
    have h2 := wt_eq x (by omega)
    simp only [wts] at h1
    omega
mutual
theorem own_pre : ∀ t : Tm, (t.pre.map Tm.own).sum = t.nodes
  | .mk k n s ls args => by
    simp only [Tm.pre, List.map_cons, List.sum_cons, Tm.own, Tm.nodes, own_preL args]
    omega
theorem own_preL : ∀ ts : List Tm, ((preL ts).map Tm.own).sum = nodesT ts
  | [] => by simp [preL, nodesT]
  | x :: r => by simp only [preL, List.map_append, List.sum_append, nodesT, own_pre x, own_preL r]
end
theorem wts_prefix {us vs : List Tm} (h : us.map nodePV <+: vs.map nodePV) : wts us ≤ wts vs := by
  obtain ⟨z, hz⟩ := h
  have h1 : us.map nodePV = (vs.take us.length).map nodePV := by
    rw [List.map_take, ← hz, List.take_left' (by simp)]
  rw [wts_of_pv h1]
  have h2 : wts vs = wts (vs.take us.length) + wts (vs.drop us.length) := by
    simp only [wts]
    rw [← List.sum_append, ← List.map_append, List.take_append_drop]
  omega
def minsL (ls : List Lv) : Nat := (ls.map fun l => min l.nodes 2001).sum
theorem minsL_take (ls : List Lv) (i : Nat) (h : i < ls.length) : minsL (ls.take (i + 1)) = minsL (ls.take i) + min ls[i].nodes 2001 := by
  unfold minsL
  rw [List.take_succ_eq_append_getElem h, List.map_append, List.sum_append]
  simp
theorem own_mem {us : List Tm} {u : Tm} (h : u ∈ us) : u.own ≤ (us.map Tm.own).sum := by
  obtain ⟨a, b, rfl⟩ := List.append_of_mem h
  simp only [List.map_append, List.map_cons, List.sum_append, List.sum_cons]
  omega
theorem minsL_take_le (ls : List Lv) (i : Nat) : minsL (ls.take i) ≤ nodesL ls := Nat.le_trans (mins_le (ls.take i)) (nodesL_take_le ls i)
theorem len_nodesL' : ∀ ls : List Lv, ls.length ≤ nodesL ls
  | [] => by simp [nodesL]
  | x :: r => by have := len_nodesL' r; have := nodes_pos x; simp only [List.length_cons, nodesL]; omega
set_option maxHeartbeats 4000000 in
theorem Nodes_m (t : Tm) (hm : t.nodes ≤ 2 ^ 40) (H : Nat → Option PObj) (nx : Nat) : PMut Try.prog F.term_Nodes [.agg t.pv] H nx (fun H' nx' r => r = .sc (.int .i64 (min t.nodes 2001 : Nat))) := by
  refine mut_byR is_term_Nodes (by simp) fun hb => ?_
  clear hb
  repeat' (first | ((with_reducible first | refine cond_pos (by omega) ?_ | refine cond_neg (by omega) ?_ | refine guard_pos (by omega) ?_ | refine guard_neg (by omega) ?_ | refine cond_ifn ?_ ?_ | refine cond_waysn ?_ ?_ | refine guard_ifn ?_ ?_ | refine guard_waysn ?_ ?_ | refine cond_if ?_ ?_ | refine cond_ways ?_ ?_ | refine guard_if ?_ ?_ | refine guard_ways ?_ ?_) <;> intro _) | (((with_reducible refine call_id ?_); (first | (refine call_pure (all_p t) ?_)))) | simp (maxSteps := 1000000) (disch := omega) only [go_sem, Nat.reduceAdd, Nat.reduceMul, Nat.reduceSub, Nat.reduceLeDiff, Nat.reduceEqDiff, Nat.reduceBEq, ↓reduceIte, reduceCtorEq, Int.reduceEq, Int.reduceLE, Int.reduceLT, Int.reduceAdd, Int.reduceSub, Int.reduceNeg, Int.reduceToNat, Int.reduceNe, Nat.reducePow, Nat.reduceShiftRight, Nat.reduceMod, mc_term_Nodes, *])
  refine c_rng (all_seq t) (by simp [ev, upd]) (fun pre H' m => ∃ us : List Tm, pre = us.map nodePV ∧ wts us ≤ 2000 ∧ H' (nx + 1) = some ⟨[.sc (.int .i64 0)], true⟩ ∧ H' (nx + 2) = some ⟨[.sc (.int .i64 (wts us : Nat))], true⟩)
    ⟨[], rfl, by simp [wts], noIt_keep (by simp [upd]) rfl, noIt_keep (by simp [upd, wts]) rfl⟩ ?round ?done
  case round =>
    rintro pre x H' m hx hlen ⟨us, rfl, hw, h1, h2⟩ hnx
    obtain ⟨u, hu, rfl⟩ := List.mem_map.1 hx
    have hown := own_mem hu
    rw [own_pre] at hown
    have hus : (us.map nodePV ++ [nodePV u]) = (us ++ [u]).map nodePV := by simp
    rw [hus]
    have hwu : wts (us ++ [u]) = wts us + u.wt := by simp [wts]
    clear hx hlen hu hus
    cases u with
    | mk k n s ls args =>
    simp only [Tm.own] at hown
    have hll := len_nodesL' ls
    have hmn := mins_le ls
    simp only [Tm.wt] at hwu
    simp only [nodePV]
    repeat' (first | ((with_reducible first | refine cond_pos (by omega) ?_ | refine cond_neg (by omega) ?_ | refine guard_pos (by omega) ?_ | refine guard_neg (by omega) ?_ | refine cond_ifn ?_ ?_ | refine cond_waysn ?_ ?_ | refine guard_ifn ?_ ?_ | refine guard_waysn ?_ ?_ | refine cond_if ?_ ?_ | refine cond_ways ?_ ?_ | refine guard_if ?_ ?_ | refine guard_ways ?_ ?_) <;> intro _) | simp (maxSteps := 1000000) (disch := omega) only [go_sem, Nat.reduceAdd, Nat.reduceMul, Nat.reduceSub, Nat.reduceLeDiff, Nat.reduceEqDiff, Nat.reduceBEq, ↓reduceIte, reduceCtorEq, Int.reduceEq, Int.reduceLE, Int.reduceLT, Int.reduceAdd, Int.reduceSub, Int.reduceNeg, Int.reduceToNat, Int.reduceNe, Nat.reducePow, Nat.reduceShiftRight, Nat.reduceMod, Tm.pv, h1, h2, *])
    refine c_loopW 268402720 (by kernel_rfl) (fun j f H2 m2 => ∃ i : Nat, j = ls.length - i ∧ i ≤ ls.length ∧ f 15 = .sc (.int .i64 i) ∧ H2 (nx + 1) = some ⟨[.sc (.int .i64 0)], true⟩ ∧ H2 (nx + 2) = some ⟨[.sc (.int .i64 ((wts us : Nat) + 1 + (minsL (ls.take i) : Nat)))], true⟩) _ ⟨0, rfl, (by first | assumption | omega | rfl | (simp (disch := omega) only [go_sem, Nat.reduceMul, Nat.reduceSub, Nat.reduceShiftRight, Nat.reduceMod, Nat.reduceEqDiff, Nat.reduceAdd, ↓reduceIte, Nat.reduceLeDiff, *] <;> omega)), (by first | assumption | omega | rfl | (simp (disch := omega) only [go_sem, Nat.reduceMul, Nat.reduceSub, Nat.reduceShiftRight, Nat.reduceMod, Nat.reduceEqDiff, Nat.reduceAdd, ↓reduceIte, Nat.reduceLeDiff, *] <;> omega)), by simp [upd, h1], by simp [upd, minsL]⟩ ?_
    rintro _ f H2 m2 ⟨i, rfl, hi, e15, g1, g2⟩
    have hmi := minsL_take_le ls i
    by_cases hlt : i < ls.length
    · have eg : ls[i]? = some ls[i] := List.getElem?_eq_getElem hlt
      have hst := minsL_take ls i hlt
      clear hwu hmn
      repeat' (first | ((with_reducible first | refine cond_pos (by omega) ?_ | refine cond_neg (by omega) ?_ | refine guard_pos (by omega) ?_ | refine guard_neg (by omega) ?_ | refine cond_ifn ?_ ?_ | refine cond_waysn ?_ ?_ | refine guard_ifn ?_ ?_ | refine guard_waysn ?_ ?_ | refine cond_if ?_ ?_ | refine cond_ways ?_ ?_ | refine guard_if ?_ ?_ | refine guard_ways ?_ ?_) <;> intro _) | (((with_reducible refine call_id ?_); (first | (refine call_pure (tlNodes_p 2001 ls[i] 2001 (.inr (by omega)) (by omega) (by omega)) ?_)))) | simp (maxSteps := 1000000) (disch := omega) only [go_sem, Nat.reduceAdd, Nat.reduceMul, Nat.reduceSub, Nat.reduceLeDiff, Nat.reduceEqDiff, Nat.reduceBEq, ↓reduceIte, reduceCtorEq, Int.reduceEq, Int.reduceLE, Int.reduceLT, Int.reduceAdd, Int.reduceSub, Int.reduceNeg, Int.reduceToNat, Int.reduceNe, Nat.reducePow, Nat.reduceShiftRight, Nat.reduceMod, Tm.pv, *])
      refine Nx.mk (ls.length - (i + 1)) (by first | assumption | omega | rfl | (simp (disch := omega) only [go_sem, Nat.reduceMul, Nat.reduceSub, Nat.reduceShiftRight, Nat.reduceMod, Nat.reduceEqDiff, Nat.reduceAdd, ↓reduceIte, Nat.reduceLeDiff, *] <;> omega)) ⟨i + 1, rfl, (by first | assumption | omega | rfl | (simp (disch := omega) only [go_sem, Nat.reduceMul, Nat.reduceSub, Nat.reduceShiftRight, Nat.reduceMod, Nat.reduceEqDiff, Nat.reduceAdd, ↓reduceIte, Nat.reduceLeDiff, *] <;> omega)), (by first | assumption | omega | rfl | (simp (disch := omega) only [go_sem, Nat.reduceMul, Nat.reduceSub, Nat.reduceShiftRight, Nat.reduceMod, Nat.reduceEqDiff, Nat.reduceAdd, ↓reduceIte, Nat.reduceLeDiff, *] <;> omega)), by simp [upd, g1], ?_⟩
      simp only [upd, if_true, Option.some.injEq, PObj.mk.injEq, and_true, List.cons.injEq, PV.sc.injEq, Value.int.injEq]
      refine ⟨trivial, ?_⟩
      rw [hst]
      omega
    · obtain rfl : i = ls.length := by omega
      rw [List.take_length] at g2 hmi
      clear hlt hi
      by_cases hgt : 2000 < wts us + 1 + minsL ls
      · repeat' (first | ((with_reducible first | refine cond_pos (by omega) ?_ | refine cond_neg (by omega) ?_ | refine guard_pos (by omega) ?_ | refine guard_neg (by omega) ?_ | refine cond_ifn ?_ ?_ | refine cond_waysn ?_ ?_ | refine guard_ifn ?_ ?_ | refine guard_waysn ?_ ?_ | refine cond_if ?_ ?_ | refine cond_ways ?_ ?_ | refine guard_if ?_ ?_ | refine guard_ways ?_ ?_) <;> intro _) | simp (maxSteps := 1000000) (disch := omega) only [go_sem, Nat.reduceAdd, Nat.reduceMul, Nat.reduceSub, Nat.reduceLeDiff, Nat.reduceEqDiff, Nat.reduceBEq, ↓reduceIte, reduceCtorEq, Int.reduceEq, Int.reduceLE, Int.reduceLT, Int.reduceAdd, Int.reduceSub, Int.reduceNeg, Int.reduceToNat, Int.reduceNe, Nat.reducePow, Nat.reduceShiftRight, Nat.reduceMod, *])
        refine rq_ret fun hp => ?_
        have hle := wts_prefix hp
        have he := wts_le t.pre
        rw [own_pre] at he
        have hmin : min t.nodes 2001 = 2001 := by unfold minsL at hgt; omega
        have hq := noIt_keep (H := upd H2 (nx + 1) (some ⟨[.sc (.int .i64 2001)], true⟩)) (id := nx + 1) (upd_same _ _ _) rfl
        rw [hmin]
        generalize noIt (upd H2 (nx + 1) (some ⟨[.sc (.int .i64 2001)], true⟩)) = H3 at hq ⊢
        clear hwu hmn hgt hp hle he hmin hown hll hm
        simp (maxSteps := 1000000) (disch := omega) only [go_sem, Nat.reduceAdd, Nat.reduceMul, Nat.reduceSub, Nat.reduceLeDiff, Nat.reduceEqDiff, Nat.reduceBEq, ↓reduceIte, reduceCtorEq, Int.reduceEq, Int.reduceLE, Int.reduceLT, Int.reduceAdd, Int.reduceSub, Int.reduceNeg, Int.reduceToNat, Int.reduceNe, Nat.reducePow, Nat.reduceShiftRight, Nat.reduceMod, hq]
        exact fin_mut (.sc (.int .i64 2001)) (.inr rfl) (by (simp (disch := omega) only [go_sem, Nat.reduceMul, Nat.reduceSub, Nat.reduceShiftRight, Nat.reduceMod, Nat.reduceEqDiff, Nat.reduceAdd, ↓reduceIte, Nat.reduceLeDiff, hq]); all_goals rfl) (by simp)
      · repeat' (first | ((with_reducible first | refine cond_pos (by omega) ?_ | refine cond_neg (by omega) ?_ | refine guard_pos (by omega) ?_ | refine guard_neg (by omega) ?_ | refine cond_ifn ?_ ?_ | refine cond_waysn ?_ ?_ | refine guard_ifn ?_ ?_ | refine guard_waysn ?_ ?_ | refine cond_if ?_ ?_ | refine cond_ways ?_ ?_ | refine guard_if ?_ ?_ | refine guard_ways ?_ ?_) <;> intro _) | simp (maxSteps := 1000000) (disch := omega) only [go_sem, Nat.reduceAdd, Nat.reduceMul, Nat.reduceSub, Nat.reduceLeDiff, Nat.reduceEqDiff, Nat.reduceBEq, ↓reduceIte, reduceCtorEq, Int.reduceEq, Int.reduceLE, Int.reduceLT, Int.reduceAdd, Int.reduceSub, Int.reduceNeg, Int.reduceToNat, Int.reduceNe, Nat.reducePow, Nat.reduceShiftRight, Nat.reduceMod, *])
        refine rq_normal ⟨us ++ [.mk k n s ls args], rfl, ?_, noIt_keep g1 rfl, ?_⟩
        · rw [hwu]
          unfold minsL at hgt
          omega
        · rw [hwu]
          refine noIt_keep (g2.trans ?_) rfl
          have e : ((wts us + (1 + (ls.map fun l => min l.nodes 2001).sum) : Nat) : Int) = (wts us : Int) + 1 + (minsL ls : Nat) := by unfold minsL; omega
          rw [e]
  case done =>
    rintro H' m ⟨us, hus, hw, h1, h2⟩ hnx
    rw [← wts_of_pv hus] at hw h2
    have he := wts_eq t.pre hw
    rw [own_pre] at he
    rw [he] at hw h2
    clear he hus hm
    repeat' (first | ((with_reducible first | refine cond_pos (by omega) ?_ | refine cond_neg (by omega) ?_ | refine guard_pos (by omega) ?_ | refine guard_neg (by omega) ?_ | refine cond_ifn ?_ ?_ | refine cond_waysn ?_ ?_ | refine guard_ifn ?_ ?_ | refine guard_waysn ?_ ?_ | refine cond_if ?_ ?_ | refine cond_ways ?_ ?_ | refine guard_if ?_ ?_ | refine guard_ways ?_ ?_) <;> intro _) | simp (maxSteps := 1000000) (disch := omega) only [go_sem, Nat.reduceAdd, Nat.reduceMul, Nat.reduceSub, Nat.reduceLeDiff, Nat.reduceEqDiff, Nat.reduceBEq, ↓reduceIte, reduceCtorEq, Int.reduceEq, Int.reduceLE, Int.reduceLT, Int.reduceAdd, Int.reduceSub, Int.reduceNeg, Int.reduceToNat, Int.reduceNe, Nat.reducePow, Nat.reduceShiftRight, Nat.reduceMod, h1, h2, *])
    refine fin_mut (.sc (.int .i64 t.nodes)) (.inr rfl) (by (simp (disch := omega) only [go_sem, Nat.reduceMul, Nat.reduceSub, Nat.reduceShiftRight, Nat.reduceMod, Nat.reduceEqDiff, Nat.reduceAdd, ↓reduceIte, Nat.reduceLeDiff, h1, h2]); all_goals rfl) ?_
    show PV.sc (.int .i64 (t.nodes : Int)) = _
    have : min t.nodes 2001 = t.nodes := by omega
    rw [this]
theorem tNodes_p (t : Tm) (hm : t.nodes ≤ 2 ^ 40) : PPure Try.prog F.term_Nodes [.agg t.pv] (.sc (.int .i64 (min t.nodes 2001 : Nat))) := by
  refine PMut.pure rfl (fun nx => Nodes_m t hm noneOwn nx) fun nx H' nx' r0 h => ?_
  subst h
  exact ⟨0, .refl _⟩
end
section
set_option maxRecDepth 20000
attribute [local go_sem] pv_len pv_take Nat.add_assoc tm_len tm_take
mutual
def Tm.mass : Tm → Nat
  | .mk _ _ s ls args => 1 + s.size / 16 + (nodesL ls + massT args)
def massT : List Tm → Nat
  | [] => 0
  | x :: r => x.mass + massT r
end
mutual
def Tm.fits : Tm → Prop
  | .mk _ _ s _ args => s.size ≤ 9223372036854775807 ∧ fitsT args
def fitsT : List Tm → Prop
  | [] => True
  | x :: r => x.fits ∧ fitsT r
end
theorem fitsT_mem : ∀ (ts : List Tm) (k : Nat) (h : k < ts.length), fitsT ts → ts[k].fits
  | x :: r, 0, h, hf => by simpa using hf.1
  | x :: r, k + 1, h, hf => by simpa using fitsT_mem r k (by simpa using h) hf.2
theorem massT_take_succ : ∀ (ts : List Tm) (k : Nat) (h : k < ts.length), massT (ts.take (k + 1)) = massT (ts.take k) + ts[k].mass
  | x :: r, 0, h => by simp [massT]
  | x :: r, k + 1, h => by
    have := massT_take_succ r k (by simpa using h)
    simp only [List.take_succ_cons, massT, List.getElem_cons_succ, this]
    omega
theorem massT_append : ∀ a b : List Tm, massT (a ++ b) = massT a + massT b
  | [], b => by simp [massT]
  | x :: r, b => by simp only [List.cons_append, massT, massT_append r b]; omega
theorem massT_take_le (ts : List Tm) (k : Nat) : massT (ts.take k) ≤ massT ts := by
  have h := massT_append (ts.take k) (ts.drop k)
  rw [List.take_append_drop] at h
  omega
set_option maxHeartbeats 8000000 in
theorem Mass_p (most : Nat) (hm : most ≤ 1000000) : ∀ (fuel : Nat) (t : Tm), t.size ≤ fuel → t.fits →
    PPure Try.prog F.ref00_Nodes [.agg t.pv, .sc (.int .i64 most)] (.sc (.int .i64 (min t.mass (most + 1) : Nat))) := by
  intro fuel
  induction fuel with
  | zero => intro t h _; have := size_pos t; omega
  | succ fuel ih =>
    intro t hf hfit
    cases t with
    | mk k n s ls args =>
    simp only [Tm.size] at hf
    refine pure_by is_ref00_Nodes (by simp) rfl fun hb nx => ?_
    have hb0 : ls.length ≤ 9223372036854775807 ∧ args.length ≤ 9223372036854775807 := by simp [Tm.pv, bndL, PV.bnd] at hb; exact ⟨hb.1.1, hb.2.1⟩
    have hsz := hfit.1
    have hfits := Kept.mk hfit.2
    clear hfit
    have htd : Int.tdiv (s.size : Int) 16 = ((s.size / 16 : Nat) : Int) := by rw [Int.tdiv_eq_ediv_of_nonneg (by omega)]; omega
    repeat' (first | ((with_reducible first | refine cond_pos (by omega) ?_ | refine cond_neg (by omega) ?_ | refine guard_pos (by omega) ?_ | refine guard_neg (by omega) ?_ | refine cond_ifn ?_ ?_ | refine cond_waysn ?_ ?_ | refine guard_ifn ?_ ?_ | refine guard_waysn ?_ ?_ | refine cond_if ?_ ?_ | refine cond_ways ?_ ?_ | refine guard_if ?_ ?_ | refine guard_ways ?_ ?_) <;> intro _) | simp (maxSteps := 1000000) (disch := omega) only [go_sem, Nat.reduceAdd, Nat.reduceMul, Nat.reduceSub, Nat.reduceLeDiff, Nat.reduceEqDiff, Nat.reduceBEq, ↓reduceIte, reduceCtorEq, Int.reduceEq, Int.reduceLE, Int.reduceLT, Int.reduceAdd, Int.reduceSub, Int.reduceNeg, Int.reduceToNat, Int.reduceNe, Nat.reducePow, Nat.reduceShiftRight, Nat.reduceMod, mc_ref00_Nodes, Tm.pv, htd, *])
    refine c_loopW 17179861088 (by kernel_rfl) (fun j f H m => ∃ i t : Nat, j = ls.length - i ∧ i ≤ ls.length ∧ min t (most + 1) = min (1 + s.size / 16 + nodesL (ls.take i)) (most + 1) ∧ t ≤ 2 * most + 1 + s.size / 16 ∧ f 5 = .sc (.int .i64 t) ∧ f 6 = .sc (.int .i64 i)) _ ⟨0, 1 + s.size / 16, rfl, (by first | assumption | omega | rfl | (simp (disch := omega) only [go_sem, Nat.reduceMul, Nat.reduceSub, Nat.reduceShiftRight, Nat.reduceMod, Nat.reduceEqDiff, Nat.reduceAdd, ↓reduceIte, Nat.reduceLeDiff, *] <;> omega)), by simp [nodesL], by omega, (by first | assumption | omega | rfl | (simp (disch := omega) only [go_sem, Nat.reduceMul, Nat.reduceSub, Nat.reduceShiftRight, Nat.reduceMod, Nat.reduceEqDiff, Nat.reduceAdd, ↓reduceIte, Nat.reduceLeDiff, *] <;> omega)), (by first | assumption | omega | rfl | (simp (disch := omega) only [go_sem, Nat.reduceMul, Nat.reduceSub, Nat.reduceShiftRight, Nat.reduceMod, Nat.reduceEqDiff, Nat.reduceAdd, ↓reduceIte, Nat.reduceLeDiff, *] <;> omega))⟩ ?_
    rintro _ f H m ⟨i, t, rfl, hi, ht, ht2, e5, e6⟩
    by_cases hgo : i < ls.length ∧ t ≤ most
    · obtain ⟨hlt, hfull⟩ := hgo
      have eg : ls[i]? = some ls[i] := List.getElem?_eq_getElem hlt
      have hs := nodesL_take_succ ls i hlt
      repeat' (first | ((with_reducible first | refine cond_pos (by omega) ?_ | refine cond_neg (by omega) ?_ | refine guard_pos (by omega) ?_ | refine guard_neg (by omega) ?_ | refine cond_ifn ?_ ?_ | refine cond_waysn ?_ ?_ | refine guard_ifn ?_ ?_ | refine guard_waysn ?_ ?_ | refine cond_if ?_ ?_ | refine cond_ways ?_ ?_ | refine guard_if ?_ ?_ | refine guard_ways ?_ ?_) <;> intro _) | (((with_reducible refine call_id ?_); (first | (refine call_pure (LevelNodes_p most hm ls[i].nodes ls[i] (Nat.le_refl _)) ?_)))) | simp (maxSteps := 1000000) (disch := omega) only [go_sem, Nat.reduceAdd, Nat.reduceMul, Nat.reduceSub, Nat.reduceLeDiff, Nat.reduceEqDiff, Nat.reduceBEq, ↓reduceIte, reduceCtorEq, Int.reduceEq, Int.reduceLE, Int.reduceLT, Int.reduceAdd, Int.reduceSub, Int.reduceNeg, Int.reduceToNat, Int.reduceNe, Nat.reducePow, Nat.reduceShiftRight, Nat.reduceMod, Tm.pv, *])
      exact Nx.mk (ls.length - (i + 1)) (by first | assumption | omega | rfl | (simp (disch := omega) only [go_sem, Nat.reduceMul, Nat.reduceSub, Nat.reduceShiftRight, Nat.reduceMod, Nat.reduceEqDiff, Nat.reduceAdd, ↓reduceIte, Nat.reduceLeDiff, *] <;> omega)) ⟨i + 1, t + min ls[i].nodes (most + 1), rfl, (by first | assumption | omega | rfl | (simp (disch := omega) only [go_sem, Nat.reduceMul, Nat.reduceSub, Nat.reduceShiftRight, Nat.reduceMod, Nat.reduceEqDiff, Nat.reduceAdd, ↓reduceIte, Nat.reduceLeDiff, *] <;> omega)), by omega, by omega, (by first | assumption | omega | rfl | (simp (disch := omega) only [go_sem, Nat.reduceMul, Nat.reduceSub, Nat.reduceShiftRight, Nat.reduceMod, Nat.reduceEqDiff, Nat.reduceAdd, ↓reduceIte, Nat.reduceLeDiff, *] <;> omega)), (by first | assumption | omega | rfl | (simp (disch := omega) only [go_sem, Nat.reduceMul, Nat.reduceSub, Nat.reduceShiftRight, Nat.reduceMod, Nat.reduceEqDiff, Nat.reduceAdd, ↓reduceIte, Nat.reduceLeDiff, *] <;> omega))⟩
    · have hfin : min t (most + 1) = min (1 + s.size / 16 + nodesL ls) (most + 1) := by
        by_cases h : i < ls.length
        · have := nodesL_take_le ls i; omega
        · have e : ls.take i = ls := List.take_of_length_le (by omega)
          rw [e] at ht
          exact ht
      have hor : (i < ls.length ∧ most < t) ∨ ¬ i < ls.length := by omega
      clear hgo ht
      rcases hor with ⟨h, h'⟩ | h
      all_goals
        repeat' (first | ((with_reducible first | refine cond_pos (by omega) ?_ | refine cond_neg (by omega) ?_ | refine guard_pos (by omega) ?_ | refine guard_neg (by omega) ?_ | refine cond_ifn ?_ ?_ | refine cond_waysn ?_ ?_ | refine guard_ifn ?_ ?_ | refine guard_waysn ?_ ?_ | refine cond_if ?_ ?_ | refine cond_ways ?_ ?_ | refine guard_if ?_ ?_ | refine guard_ways ?_ ?_) <;> intro _) | simp (maxSteps := 1000000) (disch := omega) only [go_sem, Nat.reduceAdd, Nat.reduceMul, Nat.reduceSub, Nat.reduceLeDiff, Nat.reduceEqDiff, Nat.reduceBEq, ↓reduceIte, reduceCtorEq, Int.reduceEq, Int.reduceLE, Int.reduceLT, Int.reduceAdd, Int.reduceSub, Int.reduceNeg, Int.reduceToNat, Int.reduceNe, Nat.reducePow, Nat.reduceShiftRight, Nat.reduceMod, Tm.pv, *])
        refine c_loopW 36028779839094944 (by kernel_rfl) (fun j f H m => ∃ i2 t2 : Nat, j = args.length - i2 ∧ i2 ≤ args.length ∧ min t2 (most + 1) = min (1 + s.size / 16 + (nodesL ls + massT (args.take i2))) (most + 1) ∧ t2 ≤ 2 * most + 1 + s.size / 16 ∧ f 5 = .sc (.int .i64 t2) ∧ f 7 = .sc (.int .i64 i2)) _ ⟨0, t, rfl, (by first | assumption | omega | rfl | (simp (disch := omega) only [go_sem, Nat.reduceMul, Nat.reduceSub, Nat.reduceShiftRight, Nat.reduceMod, Nat.reduceEqDiff, Nat.reduceAdd, ↓reduceIte, Nat.reduceLeDiff, *] <;> omega)), by simp [massT]; omega, (by first | assumption | omega | rfl | (simp (disch := omega) only [go_sem, Nat.reduceMul, Nat.reduceSub, Nat.reduceShiftRight, Nat.reduceMod, Nat.reduceEqDiff, Nat.reduceAdd, ↓reduceIte, Nat.reduceLeDiff, *] <;> omega)), (by first | assumption | omega | rfl | (simp (disch := omega) only [go_sem, Nat.reduceMul, Nat.reduceSub, Nat.reduceShiftRight, Nat.reduceMod, Nat.reduceEqDiff, Nat.reduceAdd, ↓reduceIte, Nat.reduceLeDiff, *] <;> omega)), (by first | assumption | omega | rfl | (simp (disch := omega) only [go_sem, Nat.reduceMul, Nat.reduceSub, Nat.reduceShiftRight, Nat.reduceMod, Nat.reduceEqDiff, Nat.reduceAdd, ↓reduceIte, Nat.reduceLeDiff, *] <;> omega))⟩ ?_
        rintro _ f2 H2 m2 ⟨i2, t2, rfl, hi2, ht3, ht4, e5', e7⟩
        by_cases hgo : i2 < args.length ∧ t2 ≤ most
        · obtain ⟨hlt, hfull⟩ := hgo
          have eg : args[i2]? = some args[i2] := List.getElem?_eq_getElem hlt
          have hs := massT_take_succ args i2 hlt
          have hsz := sizeL_mem args i2 hlt
          repeat' (first | ((with_reducible first | refine cond_pos (by omega) ?_ | refine cond_neg (by omega) ?_ | refine guard_pos (by omega) ?_ | refine guard_neg (by omega) ?_ | refine cond_ifn ?_ ?_ | refine cond_waysn ?_ ?_ | refine guard_ifn ?_ ?_ | refine guard_waysn ?_ ?_ | refine cond_if ?_ ?_ | refine cond_ways ?_ ?_ | refine guard_if ?_ ?_ | refine guard_ways ?_ ?_) <;> intro _) | (((with_reducible refine call_id ?_); (first | (refine call_pure (ih args[i2] (by omega) (fitsT_mem args i2 hlt hfits.out)) ?_)))) | simp (maxSteps := 1000000) (disch := omega) only [go_sem, Nat.reduceAdd, Nat.reduceMul, Nat.reduceSub, Nat.reduceLeDiff, Nat.reduceEqDiff, Nat.reduceBEq, ↓reduceIte, reduceCtorEq, Int.reduceEq, Int.reduceLE, Int.reduceLT, Int.reduceAdd, Int.reduceSub, Int.reduceNeg, Int.reduceToNat, Int.reduceNe, Nat.reducePow, Nat.reduceShiftRight, Nat.reduceMod, Tm.pv, *])
          exact Nx.mk (args.length - (i2 + 1)) (by first | assumption | omega | rfl | (simp (disch := omega) only [go_sem, Nat.reduceMul, Nat.reduceSub, Nat.reduceShiftRight, Nat.reduceMod, Nat.reduceEqDiff, Nat.reduceAdd, ↓reduceIte, Nat.reduceLeDiff, *] <;> omega)) ⟨i2 + 1, t2 + min args[i2].mass (most + 1), rfl, (by first | assumption | omega | rfl | (simp (disch := omega) only [go_sem, Nat.reduceMul, Nat.reduceSub, Nat.reduceShiftRight, Nat.reduceMod, Nat.reduceEqDiff, Nat.reduceAdd, ↓reduceIte, Nat.reduceLeDiff, *] <;> omega)), by omega, by omega, (by first | assumption | omega | rfl | (simp (disch := omega) only [go_sem, Nat.reduceMul, Nat.reduceSub, Nat.reduceShiftRight, Nat.reduceMod, Nat.reduceEqDiff, Nat.reduceAdd, ↓reduceIte, Nat.reduceLeDiff, *] <;> omega)), (by first | assumption | omega | rfl | (simp (disch := omega) only [go_sem, Nat.reduceMul, Nat.reduceSub, Nat.reduceShiftRight, Nat.reduceMod, Nat.reduceEqDiff, Nat.reduceAdd, ↓reduceIte, Nat.reduceLeDiff, *] <;> omega))⟩
        · have hfin2 : min t2 (most + 1) = min (1 + s.size / 16 + (nodesL ls + massT args)) (most + 1) := by
            by_cases h : i2 < args.length
            · have := massT_take_le args i2; omega
            · have e : args.take i2 = args := List.take_of_length_le (by omega)
              rw [e] at ht3
              exact ht3
          have hor : (i2 < args.length ∧ most < t2) ∨ ¬ i2 < args.length := by omega
          clear hgo ht3
          rcases hor with ⟨h2, h2'⟩ | h2
          all_goals
            repeat' (first | ((with_reducible first | refine cond_pos (by omega) ?_ | refine cond_neg (by omega) ?_ | refine guard_pos (by omega) ?_ | refine guard_neg (by omega) ?_ | refine cond_ifn ?_ ?_ | refine cond_waysn ?_ ?_ | refine guard_ifn ?_ ?_ | refine guard_waysn ?_ ?_ | refine cond_if ?_ ?_ | refine cond_ways ?_ ?_ | refine guard_if ?_ ?_ | refine guard_ways ?_ ?_) <;> intro _) | simp (maxSteps := 1000000) (disch := omega) only [go_sem, Nat.reduceAdd, Nat.reduceMul, Nat.reduceSub, Nat.reduceLeDiff, Nat.reduceEqDiff, Nat.reduceBEq, ↓reduceIte, reduceCtorEq, Int.reduceEq, Int.reduceLE, Int.reduceLT, Int.reduceAdd, Int.reduceSub, Int.reduceNeg, Int.reduceToNat, Int.reduceNe, Nat.reducePow, Nat.reduceShiftRight, Nat.reduceMod, Tm.pv, *])
            refine fin_tmp (.inr rfl) ?_
            simp (disch := omega) only [go_sem, Nat.reduceMul, Nat.reduceSub, Nat.reduceShiftRight, Nat.reduceMod, Nat.reduceEqDiff, Nat.reduceAdd, ↓reduceIte, Nat.reduceLeDiff, Tm.mass, *]
            omega
end
section
set_option maxRecDepth 20000
attribute [local go_sem] pv_len pv_take Nat.add_assoc tm_len tm_take pv_one tm_one
set_option maxHeartbeats 4000000 in
theorem tRight_p (t : Tm) (hm : t.nodes ≤ 2 ^ 40) (np bound : Int) : PPure Try.prog F.term_Right [.agg t.pv, .sc (.int .i64 np), .sc (.int .i64 bound)] (.sc (.bool (t.right np bound))) := by
  refine pure_by is_term_Right (by simp) rfl fun hb nx => ?_
  have hs := size_nodes t
  have c1 := tNodes_p t hm
  by_cases hn : t.nodes ≤ 2000
  · by_cases hbn : 0 ≤ bound
    · have c2 := (formed_parts np t.size).1 t (min bound 1125899906842624) (Nat.le_refl _) (by omega) (by omega)
      have e1 : ((min t.nodes 2001 : Nat) : Int) = t.nodes := by omega
      rw [e1] at c1
      unfold Tm.right
      clear hs e1 hm
      repeat' (first | ((with_reducible first | refine cond_pos (by omega) ?_ | refine cond_neg (by omega) ?_ | refine guard_pos (by omega) ?_ | refine guard_neg (by omega) ?_ | refine cond_ifn ?_ ?_ | refine cond_waysn ?_ ?_ | refine guard_ifn ?_ ?_ | refine guard_waysn ?_ ?_ | refine cond_if ?_ ?_ | refine cond_ways ?_ ?_ | refine guard_if ?_ ?_ | refine guard_ways ?_ ?_) <;> intro _) | (((with_reducible refine call_id ?_); (first | (refine call_pure (c1) ?_) | (refine call_pure (c2) ?_)))) | simp (maxSteps := 1000000) (disch := omega) only [go_sem, Nat.reduceAdd, Nat.reduceMul, Nat.reduceSub, Nat.reduceLeDiff, Nat.reduceEqDiff, Nat.reduceBEq, ↓reduceIte, reduceCtorEq, Int.reduceEq, Int.reduceLE, Int.reduceLT, Int.reduceAdd, Int.reduceSub, Int.reduceNeg, Int.reduceToNat, Int.reduceNe, Nat.reducePow, Nat.reduceShiftRight, Nat.reduceMod, mc_term_Right, *])
      all_goals (refine fin_tmp (.inr rfl) ?_; simp [upd, *]; try omega)
    · unfold Tm.right
      clear hs hm
      repeat' (first | ((with_reducible first | refine cond_pos (by omega) ?_ | refine cond_neg (by omega) ?_ | refine guard_pos (by omega) ?_ | refine guard_neg (by omega) ?_ | refine cond_ifn ?_ ?_ | refine cond_waysn ?_ ?_ | refine guard_ifn ?_ ?_ | refine guard_waysn ?_ ?_ | refine cond_if ?_ ?_ | refine cond_ways ?_ ?_ | refine guard_if ?_ ?_ | refine guard_ways ?_ ?_) <;> intro _) | (((with_reducible refine call_id ?_); (first | (refine call_pure (c1) ?_)))) | simp (maxSteps := 1000000) (disch := omega) only [go_sem, Nat.reduceAdd, Nat.reduceMul, Nat.reduceSub, Nat.reduceLeDiff, Nat.reduceEqDiff, Nat.reduceBEq, ↓reduceIte, reduceCtorEq, Int.reduceEq, Int.reduceLE, Int.reduceLT, Int.reduceAdd, Int.reduceSub, Int.reduceNeg, Int.reduceToNat, Int.reduceNe, Nat.reducePow, Nat.reduceShiftRight, Nat.reduceMod, mc_term_Right, *])
      all_goals (refine fin_tmp (.inr rfl) ?_; simp [upd, *]; try omega)
  · unfold Tm.right
    have e1 : ((min t.nodes 2001 : Nat) : Int) = 2001 := by omega
    rw [e1] at c1
    clear hs hm e1
    repeat' (first | ((with_reducible first | refine cond_pos (by omega) ?_ | refine cond_neg (by omega) ?_ | refine guard_pos (by omega) ?_ | refine guard_neg (by omega) ?_ | refine cond_ifn ?_ ?_ | refine cond_waysn ?_ ?_ | refine guard_ifn ?_ ?_ | refine guard_waysn ?_ ?_ | refine cond_if ?_ ?_ | refine cond_ways ?_ ?_ | refine guard_if ?_ ?_ | refine guard_ways ?_ ?_) <;> intro _) | (((with_reducible refine call_id ?_); (first | (refine call_pure (c1) ?_)))) | simp (maxSteps := 1000000) (disch := omega) only [go_sem, Nat.reduceAdd, Nat.reduceMul, Nat.reduceSub, Nat.reduceLeDiff, Nat.reduceEqDiff, Nat.reduceBEq, ↓reduceIte, reduceCtorEq, Int.reduceEq, Int.reduceLE, Int.reduceLT, Int.reduceAdd, Int.reduceSub, Int.reduceNeg, Int.reduceToNat, Int.reduceNe, Nat.reducePow, Nat.reduceShiftRight, Nat.reduceMod, mc_term_Right, *])
    all_goals (refine fin_tmp (.inr rfl) ?_; simp [upd, *]; try omega)
theorem tLoose_p (t : Tm) (hm : t.nodes ≤ 2 ^ 40) : PPure Try.prog F.term_Loose [.agg t.pv] (.sc (.int .i64 (looseT t))) := by
  refine pure_by is_term_Loose (by simp) rfl fun hb nx => ?_
  have c1 := tRight_p t hm 4 1125899906842624
  by_cases hr : t.right 4 1125899906842624 = true
  · have hf := right_formed hr
    have hs := size_nodes t
    have c2 := term_loose_p 4 t.size t _ (Nat.le_refl _) (by omega) (by omega) hf.1
    rw [hr] at c1
    clear hf hs hm
    repeat' (first | ((with_reducible first | refine cond_pos (by omega) ?_ | refine cond_neg (by omega) ?_ | refine guard_pos (by omega) ?_ | refine guard_neg (by omega) ?_ | refine cond_ifn ?_ ?_ | refine cond_waysn ?_ ?_ | refine guard_ifn ?_ ?_ | refine guard_waysn ?_ ?_ | refine cond_if ?_ ?_ | refine cond_ways ?_ ?_ | refine guard_if ?_ ?_ | refine guard_ways ?_ ?_) <;> intro _) | (((with_reducible refine call_id ?_); (first | (refine call_pure (c1) ?_) | (refine call_pure (c2) ?_)))) | simp (maxSteps := 1000000) (disch := omega) only [go_sem, Nat.reduceAdd, Nat.reduceMul, Nat.reduceSub, Nat.reduceLeDiff, Nat.reduceEqDiff, Nat.reduceBEq, ↓reduceIte, reduceCtorEq, Int.reduceEq, Int.reduceLE, Int.reduceLT, Int.reduceAdd, Int.reduceSub, Int.reduceNeg, Int.reduceToNat, Int.reduceNe, Nat.reducePow, Nat.reduceShiftRight, Nat.reduceMod, mc_term_Loose, *])
    all_goals (refine fin_tmp (.inr rfl) ?_; simp [upd, looseT, *])
  · rw [Bool.not_eq_true] at hr
    rw [hr] at c1
    repeat' (first | ((with_reducible first | refine cond_pos (by omega) ?_ | refine cond_neg (by omega) ?_ | refine guard_pos (by omega) ?_ | refine guard_neg (by omega) ?_ | refine cond_ifn ?_ ?_ | refine cond_waysn ?_ ?_ | refine guard_ifn ?_ ?_ | refine guard_waysn ?_ ?_ | refine cond_if ?_ ?_ | refine cond_ways ?_ ?_ | refine guard_if ?_ ?_ | refine guard_ways ?_ ?_) <;> intro _) | (((with_reducible refine call_id ?_); (first | (refine call_pure (c1) ?_)))) | simp (maxSteps := 1000000) (disch := omega) only [go_sem, Nat.reduceAdd, Nat.reduceMul, Nat.reduceSub, Nat.reduceLeDiff, Nat.reduceEqDiff, Nat.reduceBEq, ↓reduceIte, reduceCtorEq, Int.reduceEq, Int.reduceLE, Int.reduceLT, Int.reduceAdd, Int.reduceSub, Int.reduceNeg, Int.reduceToNat, Int.reduceNe, Nat.reducePow, Nat.reduceShiftRight, Nat.reduceMod, mc_term_Loose, *])
    all_goals (refine fin_tmp (.inr rfl) ?_; simp [upd, looseT, *])
theorem applied_p (kind n : Int) (s : ByteArray) (ls : List Lv) (args : List Tm) : PPure Try.prog F.term_applied [.ptr (Tm.mk kind n s ls args).pv] (.sc (.bool (decide (kind = 4) && decide (args.length = 2)))) := by
  refine pure_by is_term_applied (by simp) rfl fun hb nx => ?_
  have hb0 : args.length ≤ 9223372036854775807 := by simp [Tm.pv, bndL, PV.bnd] at hb; exact hb.2.1
  repeat' (first | ((with_reducible first | refine cond_pos (by omega) ?_ | refine cond_neg (by omega) ?_ | refine guard_pos (by omega) ?_ | refine guard_neg (by omega) ?_ | refine cond_ifn ?_ ?_ | refine cond_waysn ?_ ?_ | refine guard_ifn ?_ ?_ | refine guard_waysn ?_ ?_ | refine cond_if ?_ ?_ | refine cond_ways ?_ ?_ | refine guard_if ?_ ?_ | refine guard_ways ?_ ?_) <;> intro _) | simp (maxSteps := 1000000) (disch := omega) only [go_sem, Nat.reduceAdd, Nat.reduceMul, Nat.reduceSub, Nat.reduceLeDiff, Nat.reduceEqDiff, Nat.reduceBEq, ↓reduceIte, reduceCtorEq, Int.reduceEq, Int.reduceLE, Int.reduceLT, Int.reduceAdd, Int.reduceSub, Int.reduceNeg, Int.reduceToNat, Int.reduceNe, Nat.reducePow, Nat.reduceShiftRight, Nat.reduceMod, mc_term_applied, Tm.pv, *])
  all_goals (refine fin_tmp (.inr rfl) ?_; simp [upd, *] <;> omega)
theorem u_p : PPure Try.prog F.law04_u [] (.agg (Lv.mk 2 0 []).pv) := by
  refine pure_by is_law04_u (by simp) (by simp [PV.imm, pv_imm]) fun hb nx => ?_
  repeat' (first | ((with_reducible first | refine cond_pos (by omega) ?_ | refine cond_neg (by omega) ?_ | refine guard_pos (by omega) ?_ | refine guard_neg (by omega) ?_ | refine cond_ifn ?_ ?_ | refine cond_waysn ?_ ?_ | refine guard_ifn ?_ ?_ | refine guard_waysn ?_ ?_ | refine cond_if ?_ ?_ | refine cond_ways ?_ ?_ | refine guard_if ?_ ?_ | refine guard_ways ?_ ?_) <;> intro _) | simp (maxSteps := 1000000) (disch := omega) only [go_sem, Nat.reduceAdd, Nat.reduceMul, Nat.reduceSub, Nat.reduceLeDiff, Nat.reduceEqDiff, Nat.reduceBEq, ↓reduceIte, reduceCtorEq, Int.reduceEq, Int.reduceLE, Int.reduceLT, Int.reduceAdd, Int.reduceSub, Int.reduceNeg, Int.reduceToNat, Int.reduceNe, Nat.reducePow, Nat.reduceShiftRight, Nat.reduceMod, mc_law04_u, *])
  refine fin_ret (r0 := .agg [.sc (.int .i64 2), .sc (.int .i64 0), .sc (.slice none 0 0)]) 0 (by (simp (disch := omega) only [go_sem, Nat.reduceMul, Nat.reduceSub, Nat.reduceShiftRight, Nat.reduceMod, Nat.reduceEqDiff, Nat.reduceAdd, ↓reduceIte, Nat.reduceLeDiff, *]); all_goals rfl) ?_
  rw [Lv.pv]
  exact Weak.agg (xs := [.sc (.int .i64 2), .sc (.int .i64 0), .sc (.slice none 0 0)]) (ys := [.sc (.int .i64 2), .sc (.int .i64 0), .sl 3 []]) ⟨.refl _, .refl _, .nil 3, trivial⟩
theorem zero_p : PPure Try.prog F.law04_zero [] (.agg (Lv.mk 1 0 []).pv) := by
  refine pure_by is_law04_zero (by simp) (by simp [PV.imm, pv_imm]) fun hb nx => ?_
  repeat' (first | ((with_reducible first | refine cond_pos (by omega) ?_ | refine cond_neg (by omega) ?_ | refine guard_pos (by omega) ?_ | refine guard_neg (by omega) ?_ | refine cond_ifn ?_ ?_ | refine cond_waysn ?_ ?_ | refine guard_ifn ?_ ?_ | refine guard_waysn ?_ ?_ | refine cond_if ?_ ?_ | refine cond_ways ?_ ?_ | refine guard_if ?_ ?_ | refine guard_ways ?_ ?_) <;> intro _) | simp (maxSteps := 1000000) (disch := omega) only [go_sem, Nat.reduceAdd, Nat.reduceMul, Nat.reduceSub, Nat.reduceLeDiff, Nat.reduceEqDiff, Nat.reduceBEq, ↓reduceIte, reduceCtorEq, Int.reduceEq, Int.reduceLE, Int.reduceLT, Int.reduceAdd, Int.reduceSub, Int.reduceNeg, Int.reduceToNat, Int.reduceNe, Nat.reducePow, Nat.reduceShiftRight, Nat.reduceMod, mc_law04_zero, *])
  refine fin_ret (r0 := .agg [.sc (.int .i64 1), .sc (.int .i64 0), .sc (.slice none 0 0)]) 0 (by (simp (disch := omega) only [go_sem, Nat.reduceMul, Nat.reduceSub, Nat.reduceShiftRight, Nat.reduceMod, Nat.reduceEqDiff, Nat.reduceAdd, ↓reduceIte, Nat.reduceLeDiff, *]); all_goals rfl) ?_
  rw [Lv.pv]
  exact Weak.agg (xs := [.sc (.int .i64 1), .sc (.int .i64 0), .sc (.slice none 0 0)]) (ys := [.sc (.int .i64 1), .sc (.int .i64 0), .sl 3 []]) ⟨.refl _, .refl _, .nil 3, trivial⟩
theorem tSame_p (a b : Tm) (f g : Bool) (hfg : (f || g) = true) : PPure Try.prog F.term_Same [.agg (a.pvB f), .agg (b.pvB g)] (.sc (.bool (a.same b))) := by
  refine pure_by is_term_Same (by simp) rfl fun hb nx => ?_
  repeat' (first | ((with_reducible first | refine cond_pos (by omega) ?_ | refine cond_neg (by omega) ?_ | refine guard_pos (by omega) ?_ | refine guard_neg (by omega) ?_ | refine cond_ifn ?_ ?_ | refine cond_waysn ?_ ?_ | refine guard_ifn ?_ ?_ | refine guard_waysn ?_ ?_ | refine cond_if ?_ ?_ | refine cond_ways ?_ ?_ | refine guard_if ?_ ?_ | refine guard_ways ?_ ?_) <;> intro _) | (((with_reducible refine call_id ?_); (first | (refine call_pure (term_same_p f g hfg a.size a b (Nat.le_refl _)) ?_)))) | simp (maxSteps := 1000000) (disch := omega) only [go_sem, Nat.reduceAdd, Nat.reduceMul, Nat.reduceSub, Nat.reduceLeDiff, Nat.reduceEqDiff, Nat.reduceBEq, ↓reduceIte, reduceCtorEq, Int.reduceEq, Int.reduceLE, Int.reduceLT, Int.reduceAdd, Int.reduceSub, Int.reduceNeg, Int.reduceToNat, Int.reduceNe, Nat.reducePow, Nat.reduceShiftRight, Nat.reduceMod, mc_term_Same, *])
  all_goals (refine fin_tmp (.inr rfl) ?_; simp [upd])
theorem Great_p (t : Tm) (hf : t.fits) : PPure Try.prog F.law04_Great [.agg t.pv] (.sc (.bool (decide (2500 < t.mass)))) := by
  refine pure_by is_law04_Great (by simp) rfl fun hb nx => ?_
  have c1 := Mass_p 2500 (by omega) t.size t (Nat.le_refl _) hf
  repeat' (first | ((with_reducible first | refine cond_pos (by omega) ?_ | refine cond_neg (by omega) ?_ | refine guard_pos (by omega) ?_ | refine guard_neg (by omega) ?_ | refine cond_ifn ?_ ?_ | refine cond_waysn ?_ ?_ | refine guard_ifn ?_ ?_ | refine guard_waysn ?_ ?_ | refine cond_if ?_ ?_ | refine cond_ways ?_ ?_ | refine guard_if ?_ ?_ | refine guard_ways ?_ ?_) <;> intro _) | (((with_reducible refine call_id ?_); (first | (refine call_pure (c1) ?_)))) | simp (maxSteps := 1000000) (disch := omega) only [go_sem, Nat.reduceAdd, Nat.reduceMul, Nat.reduceSub, Nat.reduceLeDiff, Nat.reduceEqDiff, Nat.reduceBEq, ↓reduceIte, reduceCtorEq, Int.reduceEq, Int.reduceLE, Int.reduceLT, Int.reduceAdd, Int.reduceSub, Int.reduceNeg, Int.reduceToNat, Int.reduceNe, Nat.reducePow, Nat.reduceShiftRight, Nat.reduceMod, mc_law04_Great, *])
  all_goals (refine fin_tmp (.inr rfl) ?_; simp [upd, *] <;> omega)
end
section
set_option maxRecDepth 20000
attribute [local go_sem] pv_len pv_take Nat.add_assoc tm_len tm_take pv_one tm_one tpvB_len tpvB_take tpvB_one pvB_len pvB_take pvB_one id_ne id_ne' id_ne2 List.append_assoc
theorem frgF_sc (G : Nat → Bool) (k : Nat) (H : Nat → Option PObj) (v : Value) : frgF G k H (.sc v) = .sc v := by cases k <;> rfl
theorem frgF_imm (G : Nat → Bool) (H : Nat → Option PObj) : ∀ (k : Nat) (x : PV), x.imm = true → frgF G k H x = x := by
  intro k
  induction k with
  | zero => intro x _; rfl
  | succ k ih =>
    have hl : ∀ xs : List PV, immL xs = true → xs.map (frgF G k H) = xs := by
      intro xs
      induction xs with
      | nil => intro _; rfl
      | cons x r ihr =>
        intro h
        simp only [immL, Bool.and_eq_true] at h
        rw [List.map_cons, ih x h.1, ihr h.2]
    intro x hx
    cases x with
    | agg xs => simp only [PV.imm] at hx; simp only [frgF, hl xs hx]
    | tup xs => simp only [PV.imm] at hx; simp only [frgF, hl xs hx]
    | fn f xs => simp only [PV.imm] at hx; simp only [frgF, hl xs hx]
    | optr id off => simp [PV.imm] at hx
    | osl id off len sz => simp [PV.imm] at hx
    | _ => rfl
theorem frgF_immL (G : Nat → Bool) (H : Nat → Option PObj) (k : Nat) : ∀ xs : List PV, immL xs = true → xs.map (frgF G k H) = xs
  | [], _ => rfl
  | x :: r, h => by
    simp only [immL, Bool.and_eq_true] at h
    rw [List.map_cons, frgF_imm G H k x h.1, frgF_immL G H k r h.2]
mutual
theorem OwnT.frg {H : Nat → Option PObj} {G : Nat → Bool} : ∀ (t : Tm) (lo m : Nat) (cs : List PV), OwnT H lo m cs t → (∀ j, lo ≤ j → j < m → G j = true) → ∀ k, t.size ≤ k → WeakL (cs.map (frgF G k H)) (t.pvB true)
  | .mk kind n s ls args, lo, m, cs, h, hG, k, hk => by
    simp only [OwnT] at h
    obtain ⟨a, b, rfl, ha, hb⟩ := h
    simp only [Tm.size] at hk
    obtain ⟨k, rfl⟩ : ∃ k', k = k' + 1 := ⟨k - 1, by omega⟩
    rw [Tm.pvB]
    simp only [List.map_cons, List.map_nil]
    refine ⟨.of_eq (frgF_sc _ _ _ _), .of_eq (frgF_sc _ _ _ _), .of_eq (frgF_sc _ _ _ _), ?_, ?_, trivial⟩
    · rcases ha with ⟨rfl, rfl⟩ | rfl
      · exact .trans (.of_eq (frgF_sc _ _ _ _)) (Weak.nilF 3)
      · exact .refl _
    · rcases hb with ⟨rfl, rfl⟩ | ⟨id, cells, w, h1, h2, rfl, h4, h5⟩
      · exact .trans (.of_eq (frgF_sc _ _ _ _)) (Weak.nilF 5)
      · have hl := OwnTs.len args cells h5
        have hw := OwnTs.frg args (id + 1) m cells h5 (fun j a b => hG j (by omega) b) k (by omega)
        simp only [frgF, hG id h1 h2, if_true, h4, List.drop_zero]
        rw [if_pos (by omega), List.take_of_length_le (by omega)]
        refine Weak.fslW (by rw [chunks_length, List.length_map]) (fun e he => ?_) ?_
        · obtain ⟨t, _, rfl⟩ := List.mem_map.1 he
          exact tpvB_len true t
        · rw [chunks_flatten 5 args.length _ (by rw [List.length_map, hl])]
          exact hw
theorem OwnTs.frg {H : Nat → Option PObj} {G : Nat → Bool} : ∀ (ts : List Tm) (lo m : Nat) (cs : List PV), OwnTs H lo m cs ts → (∀ j, lo ≤ j → j < m → G j = true) → ∀ k, sizeL ts ≤ k → WeakL (cs.map (frgF G k H)) (ts.map (Tm.pvB true)).flatten
  | [], _, _, cs, h, _, _, _ => by
    simp only [OwnTs] at h
    subst h
    trivial
  | t :: r, lo, m, cs, h, hG, k, hk => by
    simp only [OwnTs] at h
    obtain ⟨c, cr, mid, rfl, g1, g2, h1, h2⟩ := h
    simp only [sizeL] at hk
    simp only [List.map_append, List.map_cons, List.flatten_cons]
    exact (OwnT.frg t lo mid c h1 (fun j a b => hG j a (by omega)) k (by omega)).append (OwnTs.frg r mid m cr h2 (fun j a b => hG j (by omega) b) k (by omega))
end
theorem OwnW.frg {H : Nat → Option PObj} {G : Nat → Bool} {lo m : Nat} (hG : ∀ j, lo ≤ j → j < m → G j = true) : ∀ (ts : List Tm) (cs : List PV), OwnW H lo m cs ts → ∀ k, sizeL ts ≤ k → WeakL (cs.map (frgF G k H)) (ts.map (Tm.pvB true)).flatten
  | [], cs, h, _, _ => by cases h; trivial
  | t :: r, cs, ⟨c, cr, e, h1, h2⟩, k, hk => by
    subst e
    simp only [sizeL] at hk
    simp only [List.map_append, List.map_cons, List.flatten_cons]
    exact (OwnT.frg t _ _ c h1 hG k (by omega)).append (OwnW.frg hG r cr h2 k (by omega))
theorem WeakL.trans : ∀ {xs ys zs : List PV}, WeakL xs ys → WeakL ys zs → WeakL xs zs
  | [], [], [], _, _ => trivial
  | _ :: _, _ :: _, _ :: _, h, k => ⟨h.1.trans k.1, WeakL.trans h.2 k.2⟩
  | [], _ :: _, _, h, _ => h.elim
  | _ :: _, [], _, h, _ => h.elim
  | [], [], _ :: _, _, k => k.elim
  | _ :: _, _ :: _, [], _, k => k.elim
theorem isIt_len {o : PObj} (h : o.cells.length ≠ 1) : o.isIt = false := by
  unfold PObj.isIt
  split
  · rename_i e; rw [e] at h; simp at h
  · rfl
theorem tell_term {P : Program} {f : FuncId} {args : List PV} {H : Nat → Option PObj} {nx : Nat} {Q : (Nat → Option PObj) → Nat → PV → Prop} (kp : Nat → Bool) (t : Tm) (id : Nat) (h : PMut P f args H nx Q)
    (hq : ∀ H' nx' r, Q H' nx' r → r.imm = true ∧ ∃ lo m cs, H' id = some ⟨cs, true⟩ ∧ OwnT H' lo m cs t ∧ (id < lo ∨ m ≤ id) ∧ (∀ j, kp j = true → j ≠ id ∧ (j < lo ∨ m ≤ j)) ∧ ∀ j o, kp j = true → H' j = some o → o.isIt = false ∧ immL o.cells = true) :
    PMut P f args H nx (fun H' nx' r => ∃ H'', Q H'' nx' r ∧ H' id = some ⟨t.pv, true⟩ ∧ ∀ j, kp j = true → H' j = H'' j) := by
  refine PMut.become h fun H' nx' r hQ => ?_
  obtain ⟨hr, lo, m, cs, h1, h2, h3, h4, h5⟩ := hq H' nx' r hQ
  have hl := h2.len
  refine ⟨fun j => decide (lo ≤ j) && decide (j < m), t.size, fun j => if j = id then some ⟨t.pv, true⟩ else if kp j = true then H' j else none, r, fun j o2 hj => ?_, .of_eq (frgF_imm _ _ _ _ hr), H', hQ, by simp, fun j hj => by simp [(h4 j hj).1, hj]⟩
  by_cases he : j = id
  · subst he
    simp only [if_true, Option.some.injEq] at hj
    subst hj
    have hg : (decide (lo ≤ j) && decide (j < m)) = false := by
      rcases h3 with h | h
      · simp [show ¬ lo ≤ j by omega]
      · simp [show ¬ j < m by omega]
    refine ⟨⟨cs.map (frgF (fun j => decide (lo ≤ j) && decide (j < m)) t.size H'), true⟩, by simp [lessC, hg, h1], isIt_len (by simp [hl]), rfl, ?_⟩
    exact (h2.frg _ _ _ _ (fun j a b => by simp [a, b]) _ (Nat.le_refl _)).trans (tm_weak true t)
  · simp only [he, if_false] at hj
    split at hj
    · rename_i hk
      obtain ⟨h6, h7⟩ := h4 j hk
      obtain ⟨h8, h9⟩ := h5 j o2 hk hj
      have hg : (decide (lo ≤ j) && decide (j < m)) = false := by
        rcases h7 with h | h
        · simp [show ¬ lo ≤ j by omega]
        · simp [show ¬ j < m by omega]
      refine ⟨o2, ?_, h8, rfl, .refl _⟩
      simp only [lessC, hg, Bool.false_eq_true, if_false, hj, Option.map_some, frgF_immL _ _ _ _ h9]
    · cases hj
set_option maxHeartbeats 2000000 in
theorem raise_told (np by_ : Int) (hby : 0 ≤ by_ ∧ by_ ≤ 2 ^ 50) (t : Tm) (k frm : Int) (hm : t.nodes ≤ 2 ^ 40) (hk0 : 0 ≤ k) (hk1 : k + t.size ≤ 2 ^ 60) (hf : t.formed np k = true) (h0 : 0 ≤ frm) (h1 : frm + t.size ≤ 2 ^ 60)
    (kp : Nat → Bool) (H : Nat → Option PObj) (nx id lo m : Nat) (cs : List PV) (hH : H id = some ⟨cs, true⟩) (hid : id < nx) (hout : id < lo ∨ m ≤ id) (hlm : lo ≤ m) (hmn : m ≤ nx) (ho : OwnT H lo m cs t)
    (hkp : ∀ j, kp j = true → j < nx ∧ j ≠ id ∧ (j < lo ∨ m ≤ j) ∧ ∀ o, H j = some o → o.isIt = false ∧ immL o.cells = true) :
    PMut Try.prog F.term_raise [.optr id 0, .sc (.int .i64 by_), .sc (.int .i64 frm)] H nx (fun H' nx' r => nx ≤ nx' ∧ H' id = some ⟨(t.lift by_ frm).pv, true⟩ ∧ ∀ j, kp j = true → H' j = H j) := by
  have hr := raise_p np by_ hby t.size t k frm (Nat.le_refl _) hm hk0 hk1 hf h0 h1 H nx id 0 [] cs [] true lo m (by simpa using hH) hid hout hlm hmn rfl ho
  refine PMut.mono (tell_term kp (t.lift by_ frm) id (Q := fun H' nx' r => r = .tup [] ∧ nx ≤ nx' ∧ ∃ cs', H' id = some ⟨cs', true⟩ ∧ OwnT H' lo m cs' (t.lift by_ frm) ∧ ∀ j, j ≠ id → (j < lo ∨ m ≤ j) → j < nx → H' j = H j) ?_ ?_) ?_
  · simpa using hr
  · rintro H' nx' r ⟨rfl, g1, cs', g2, g3, g4⟩
    refine ⟨rfl, lo, m, cs', g2, g3, hout, fun j hj => ⟨(hkp j hj).2.1, (hkp j hj).2.2.1⟩, fun j o hj ho => ?_⟩
    have := hkp j hj
    exact this.2.2.2 o ((g4 j this.2.1 this.2.2.1 this.1).symm.trans ho)
  · rintro H' nx' r ⟨H'', ⟨_, g1, cs', g2, g3, g4⟩, g5, g6⟩
    refine ⟨g1, g5, fun j hj => (g6 j hj).trans ?_⟩
    have := hkp j hj
    exact g4 j this.2.1 this.2.2.1 this.1
end
section
set_option maxRecDepth 20000
attribute [local go_sem] pv_len pv_take Nat.add_assoc tm_len tm_take pv_one tm_one tpvB_len tpvB_take tpvB_one pvB_len pvB_take pvB_one id_ne id_ne' id_ne2 List.append_assoc
theorem RowAt.one {H : Nat → Option PObj} {lo m sz : Nat} {a : PV} {cells : List PV} {n : Nat} (h : RowAt H lo m sz a cells n) : PV.one a = true := by
  rcases h with ⟨_, rfl⟩ | ⟨_, _, _, rfl, _⟩ <;> rfl
end
section
set_option maxRecDepth 20000
attribute [local go_sem] pv_len pv_take Nat.add_assoc tm_len tm_take pv_one tm_one id_ne id_ne' id_ne2 List.append_assoc
def arrL (to : Tm) (n : Nat) : Nat → List Tm → Tm
  | _, [] => to.lift n 0
  | i, x :: r => .mk 6 0 emp [] [x.lift i 0, arrL to n (i + 1) r]
def arrowOk (to : Tm) (xs : List Tm) : Bool := to.right 4 1125899906842624 && xs.all (fun x => x.right 4 1125899906842624) && decide (to.nodes + xs.length + nodesT xs ≤ 2000)
def zeroT : List PV := [.sc (.int .i64 0), .sc (.int .i64 0), .sc (.string ⟨#[]⟩), .sc (.slice none 0 0), .sc (.slice none 0 0)]
def arrowR (to : Tm) (xs : List Tm) : PV := if arrowOk to xs = true then .tup [.agg (arrL to xs.length 0 xs).pv, .sc (.bool true)] else .tup [.agg zeroT, .sc (.bool false)]
end
section
set_option maxRecDepth 20000
attribute [local go_sem] pv_len pv_take Nat.add_assoc tm_len tm_take pv_one tm_one id_ne id_ne' id_ne2 List.append_assoc
def insts (bys : List Lv) : List Lv → Option (List Lv)
  | [] => some []
  | x :: r => match x.instV bys, insts bys r with
    | some y, some ys => some (y :: ys)
    | _, _ => none
mutual
def Tm.putL (bys : List Lv) : Tm → Option Tm
  | .mk k n s ls args => match insts bys ls, putLs bys args with
    | some ls', some args' => some (.mk k n s ls' args')
    | _, _ => none
def putLs (bys : List Lv) : List Tm → Option (List Tm)
  | [] => some []
  | x :: r => match x.putL bys, putLs bys r with
    | some y, some ys => some (y :: ys)
    | _, _ => none
end
theorem insts_snoc (bys : List Lv) (x : Lv) : ∀ xs ys, insts bys xs = some ys → insts bys (xs ++ [x]) = (x.instV bys).map fun y => ys ++ [y]
  | [], ys, h => by
    simp only [insts, Option.some.injEq] at h
    subst h
    simp only [List.nil_append, insts]
    cases x.instV bys <;> rfl
  | a :: r, ys, h => by
    simp only [insts] at h
    cases ha : a.instV bys with
    | none => rw [ha] at h; simp at h
    | some y =>
      cases hr : insts bys r with
      | none => rw [ha, hr] at h; simp at h
      | some zs =>
        rw [ha, hr] at h
        simp only [Option.some.injEq] at h
        subst h
        simp only [List.cons_append, insts, ha, insts_snoc bys x r zs hr]
        cases x.instV bys <;> rfl
theorem insts_none (bys : List Lv) : ∀ (xs : List Lv) (i : Nat) (h : i < xs.length), xs[i].instV bys = none → insts bys xs = none
  | x :: r, 0, h, e => by
    have e' : x.instV bys = none := e
    simp only [insts, e']
  | x :: r, i + 1, h, e => by
    have := insts_none bys r i (by simpa using h) (by simpa using e)
    simp only [insts, this]
    cases x.instV bys <;> rfl
theorem putLs_snoc (bys : List Lv) (x : Tm) : ∀ xs ys, putLs bys xs = some ys → putLs bys (xs ++ [x]) = (x.putL bys).map fun y => ys ++ [y]
  | [], ys, h => by
    simp only [putLs, Option.some.injEq] at h
    subst h
    simp only [List.nil_append, putLs]
    cases x.putL bys <;> rfl
  | a :: r, ys, h => by
    simp only [putLs] at h
    cases ha : a.putL bys with
    | none => rw [ha] at h; simp at h
    | some y =>
      cases hr : putLs bys r with
      | none => rw [ha, hr] at h; simp at h
      | some zs =>
        rw [ha, hr] at h
        simp only [Option.some.injEq] at h
        subst h
        simp only [List.cons_append, putLs, ha, putLs_snoc bys x r zs hr]
        cases x.putL bys <;> rfl
theorem putLs_none (bys : List Lv) : ∀ (xs : List Tm) (i : Nat) (h : i < xs.length), xs[i].putL bys = none → putLs bys xs = none
  | x :: r, 0, h, e => by
    have e' : x.putL bys = none := e
    simp only [putLs, e']
  | x :: r, i + 1, h, e => by
    have := putLs_none bys r i (by simpa using h) (by simpa using e)
    simp only [putLs, this]
    cases x.putL bys <;> rfl
def optT : Option Tm → PV
  | some t => .tup [.agg t.pv, .sc (.bool true)]
  | none => .tup [.agg zeroT, .sc (.bool false)]
theorem optT_imm (o : Option Tm) : (optT o).imm = true := by cases o <;> simp [optT, PV.imm, immL, tm_imm, zeroT]
def levelsR (t : Tm) (bys : List Lv) : Option Tm :=
  if t.right bys.length 1125899906842624 = true then (match t.putL bys with
    | some u => if u.nodes ≤ 2000 then some u else none
    | none => none) else none
end
section
attribute [local go_sem] pv_len pv_take id_ne id_ne' id_ne2 rounds_next Nat.add_assoc pv_take_app pv_one
def p0 : Lv := .mk 2 0 []
def p1 : Lv := .mk 2 1 []
theorem PPure.is {f : FuncId} {args : List PV} {r r' : PV} (h : PPure Try.prog f args r) (e : r = r') : PPure Try.prog f args r' := e ▸ h
end
section
set_option maxRecDepth 20000
attribute [local go_sem] pv_len pv_take id_ne id_ne' id_ne2 Nat.add_assoc pv_one pv_take_app
theorem inst_grown (bys : List Lv) (hb : ∀ b ∈ bys, b.nodes ≤ 64) : ∀ (fuel : Nat) (l : Lv), l.nodes ≤ fuel → l.formed bys.length = true → l.grown bys = (l.inst bys).nodes := by
  intro fuel
  induction fuel with
  | zero => intro l h; have := nodes_pos l; omega
  | succ fuel ih =>
    intro l hf hr
    cases l with
    | mk k n args =>
    simp only [Lv.nodes] at hf
    by_cases hk : k = 2
    · subst hk
      obtain ⟨h0, h1, rfl⟩ := par_of hr
      have hmem : bys.getD n.toNat (.mk 1 0 []) ∈ bys := by
        have h3 : n.toNat < bys.length := by omega
        simp [List.getD, List.getElem?_eq_getElem h3, List.getElem_mem]
      have := hb _ hmem
      simp only [Lv.grown, Lv.inst, if_true]
      omega
    · have key : ∀ xs : List Lv, (∀ x ∈ xs, x ∈ args) → grownL bys xs = nodesL (instL bys xs) := by
        intro xs
        induction xs with
        | nil => intro _; rfl
        | cons x r ihr =>
          intro h
          have h1 : x.nodes ≤ nodesL args := by
            obtain ⟨i, hi, e⟩ := List.getElem_of_mem (h x (by simp))
            rw [← e]; exact nodesL_mem args i hi
          simp only [grownL, instL, nodesL]
          rw [ih x (by omega) (formed_kid hr x (h x (by simp))), ihr fun y hy => h y (by simp [hy])]
      simp only [Lv.grown, Lv.inst, if_neg hk, Lv.nodes, key args fun _ h => h]
theorem instV_eq (l : Lv) (bys : List Lv) : l.instV bys = l.instR bys := by
  unfold Lv.instV Lv.instR
  by_cases h1 : l.right bys.length = true
  · by_cases h2 : bys.all (Lv.right 4) = true
    · obtain ⟨_, _, _, hf⟩ := right_parts h1
      have hb : ∀ b ∈ bys, b.nodes ≤ 64 := fun b hb => (right_parts (List.all_eq_true.1 h2 b hb)).2.2.1
      rw [← inst_grown bys hb l.nodes l (Nat.le_refl _) hf]
      simp [h1, h2]
    · simp only [Bool.not_eq_true] at h2
      simp [h1, h2]
  · simp only [Bool.not_eq_true] at h1
    simp [h1]
end
section
set_option maxRecDepth 20000
attribute [local go_sem] pv_len pv_take Nat.add_assoc tm_len tm_take pv_one tm_one id_ne id_ne' id_ne2 List.append_assoc
def FixL (nx : Nat) (cs : List PV) : Prop := ∀ (G : Nat → Bool) (k : Nat) (H : Nat → Option PObj), (∀ j, j < nx → G j = false) → cs.map (frgF G k H) = cs
theorem FixL.mono {nx nx' : Nat} {cs : List PV} (h : FixL nx cs) (hn : nx ≤ nx') : FixL nx' cs := fun G k H hG => h G k H fun j hj => hG j (Nat.lt_of_lt_of_le hj hn)
theorem FixL.imm {nx : Nat} {cs : List PV} (h : immL cs = true) : FixL nx cs := fun G k H _ => frgF_immL G H k cs h
theorem FixL.nil {nx : Nat} : FixL nx [] := fun _ _ _ _ => rfl
theorem FixL.append {nx : Nat} {cs ds : List PV} (h : FixL nx cs) (g : FixL nx ds) : FixL nx (cs ++ ds) := fun G k H hG => by rw [List.map_append, h G k H hG, g G k H hG]
theorem FixL.cons {nx : Nat} {c : PV} {ds : List PV} (h : c.imm = true) (g : FixL nx ds) : FixL nx (c :: ds) := fun G k H hG => by rw [List.map_cons, frgF_imm G H k c h, g G k H hG]
theorem frgF_osl {G : Nat → Bool} {id : Nat} (h : G id = false) (k : Nat) (H : Nat → Option PObj) (off n sz : Nat) : frgF G k H (.osl id off n sz) = .osl id off n sz := by
  cases k with
  | zero => rfl
  | succ k => simp [frgF, h]
theorem FixL.osl {nx id off n sz : Nat} {ds : List PV} (h : id < nx) (g : FixL nx ds) : FixL nx (.osl id off n sz :: ds) := fun G k H hG => by rw [List.map_cons, frgF_osl (hG id h), g G k H hG]
theorem tell_low {P : Program} {f : FuncId} {args : List PV} {H : Nat → Option PObj} {nx : Nat} {Q Q2 : (Nat → Option PObj) → Nat → PV → Prop} (kp : Nat → Bool) (id : Nat) (hid : id < nx) (hkp : ∀ j, kp j = true → j ≠ id ∧ j < nx) (h : PMut P f args H nx Q)
    (hq : ∀ H' nx' r, Q H' nx' r → r.imm = true ∧ (∀ j o, kp j = true → H' j = some o → o.isIt = false ∧ FixL nx o.cells) ∧ ∃ (res : Option (List PV)) (k : Nat),
      (∀ cs', res = some cs' → ∃ cs, H' id = some ⟨cs, true⟩ ∧ cs.length ≠ 1 ∧ WeakL (cs.map (frgF (fun j => decide (nx ≤ j)) k H')) cs') ∧
      ∀ H2 : Nat → Option PObj, (∀ j, kp j = true → H2 j = H' j) → H2 id = res.map (fun c => ⟨c, true⟩) → Q2 H2 nx' r) : PMut P f args H nx Q2 := by
  refine PMut.become h fun H' nx' r hQ => ?_
  obtain ⟨hr, h1, res, k, h2, h3⟩ := hq H' nx' r hQ
  refine ⟨fun j => decide (nx ≤ j), k, fun j => if j = id then res.map (fun c => ⟨c, true⟩) else if kp j = true then H' j else none, r, fun j o2 hj => ?_, .of_eq (frgF_imm _ _ _ _ hr), h3 _ (fun j hj => by simp [(hkp j hj).1, hj]) (by simp)⟩
  by_cases he : j = id
  · subst he
    simp only [if_true] at hj
    cases res with
    | none => simp at hj
    | some cs' =>
      simp only [Option.map_some, Option.some.injEq] at hj
      subst hj
      obtain ⟨cs, g1, g2, g3⟩ := h2 cs' rfl
      exact ⟨⟨cs.map (frgF (fun j => decide (nx ≤ j)) k H'), true⟩, by simp [lessC, Nat.not_le.2 hid, g1], isIt_len (by simpa using g2), rfl, g3⟩
  · simp only [he, if_false] at hj
    split at hj
    · rename_i hk
      obtain ⟨h6, h7⟩ := hkp j hk
      obtain ⟨h8, h9⟩ := h1 j o2 hk hj
      refine ⟨o2, ?_, h8, rfl, .refl _⟩
      have := h9 (fun j => decide (nx ≤ j)) k H' (fun j hj => by simp; omega)
      simp only [lessC, Nat.not_le.2 h7, decide_false, Bool.false_eq_true, if_false, hj, Option.map_some, this]
    · cases hj
def RowP (H : Nat → Option PObj) (lo m sz : Nat) (a : PV) (es : List (List PV)) : Prop := (es = [] ∧ a = .sc (.slice none 0 0)) ∨ ∃ id, lo ≤ id ∧ id < m ∧ a = .osl id 0 es.length sz ∧ H id = some ⟨es.flatten, true⟩
def HalfP (H : Nat → Option PObj) (lo m sz : Nat) (a : PV) (done : List PV) (z : List Value) (r n : Nat) : Prop := (n = 0 ∧ a = .sc (.slice none 0 0)) ∨ ∃ id, lo ≤ id ∧ id < m ∧ a = .osl id 0 n sz ∧ H id = some ⟨done ++ zeros z r, true⟩
def leads : PV → Nat → Bool
  | .osl i _ _ _, j => decide (j = i)
  | _, _ => false
theorem HalfP.row {H : Nat → Option PObj} {lo m sz : Nat} {a : PV} {es : List (List PV)} {z : List Value} {n : Nat} (h : HalfP H lo m sz a es.flatten z 0 n) (hn : es.length = n) : RowP H lo m sz a es := by
  rcases h with ⟨h1, h2⟩ | ⟨id, h1, h2, h3, h4⟩
  · exact .inl ⟨List.eq_nil_of_length_eq_zero (by omega), h2⟩
  · exact .inr ⟨id, h1, h2, by rw [hn]; exact h3, by simpa [zeros] using h4⟩
theorem RowP.mono {H H' : Nat → Option PObj} {lo m m' sz : Nat} {a : PV} {es : List (List PV)} (h : RowP H lo m sz a es) (hm : m ≤ m') (hH : ∀ j, lo ≤ j → j < m → leads a j = true → H' j = H j) : RowP H' lo m' sz a es := by
  rcases h with h | ⟨id, h1, h2, rfl, h4⟩
  · exact .inl h
  · exact .inr ⟨id, h1, by omega, rfl, by rw [hH id h1 h2 (by simp [leads]), h4]⟩
theorem HalfP.mono {H H' : Nat → Option PObj} {lo m m' sz : Nat} {a : PV} {done : List PV} {z : List Value} {r n : Nat} (h : HalfP H lo m sz a done z r n) (hm : m ≤ m') (hH : ∀ j, lo ≤ j → j < m → leads a j = true → H' j = H j) : HalfP H' lo m' sz a done z r n := by
  rcases h with h | ⟨id, h1, h2, rfl, h4⟩
  · exact .inl h
  · exact .inr ⟨id, h1, by omega, rfl, by rw [hH id h1 h2 (by simp [leads]), h4]⟩
theorem RowP.fix {H : Nat → Option PObj} {lo m sz : Nat} {a : PV} {es : List (List PV)} (h : RowP H lo m sz a es) {nx : Nat} (hm : m ≤ nx) {ds : List PV} (hd : FixL nx ds) : FixL nx (a :: ds) := by
  rcases h with ⟨_, rfl⟩ | ⟨id, h1, h2, rfl, h4⟩
  · exact .cons rfl hd
  · exact .osl (by omega) hd
theorem RowP.lead {H : Nat → Option PObj} {lo m sz : Nat} {a : PV} {es : List (List PV)} (h : RowP H lo m sz a es) (hl : es.flatten.length ≠ 1) (hi : immL es.flatten = true) {j : Nat} (hj : leads a j = true) (nx : Nat) :
    lo ≤ j ∧ j < m ∧ ∀ o, H j = some o → o.isIt = false ∧ FixL nx o.cells := by
  rcases h with ⟨_, rfl⟩ | ⟨id, h1, h2, rfl, h4⟩
  · cases hj
  · obtain rfl : j = id := by simpa [leads] using hj
    refine ⟨h1, h2, fun o ho => ?_⟩
    rw [h4] at ho
    cases ho
    exact ⟨isIt_len hl, .imm hi⟩
theorem RowP.frg {H : Nat → Option PObj} {lo m sz : Nat} {a : PV} {es : List (List PV)} (h : RowP H lo m sz a es) (hs : ∀ e ∈ es, e.length = sz) (G : Nat → Bool) (hG : ∀ j, lo ≤ j → G j = true) : Weak (frgF G 1 H a) (.sl sz es) := by
  rcases h with ⟨rfl, rfl⟩ | ⟨id, h1, h2, rfl, h4⟩
  · exact .nil sz
  · have hl : es.flatten.length = es.length * sz := by
      clear h4
      induction es with
      | nil => simp
      | cons e r ih =>
        rw [List.flatten_cons, List.length_append, ih (fun x hx => hs x (by simp [hx])), hs e (by simp), List.length_cons, Nat.succ_mul]
        omega
    simp only [frgF, hG id h1, if_true, h4, List.drop_zero]
    rw [if_pos (by omega), List.take_of_length_le (by omega)]
    refine .trans (Weak.fslW (es' := es) (by rw [chunks_length]) hs ?_) (Weak.fsl sz es)
    rw [List.map_id', chunks_flatten sz es.length _ (by omega)]
    exact .refl _
end
section
set_option maxRecDepth 20000
attribute [local go_sem] pv_len pv_take Nat.add_assoc tm_len tm_take pv_one tm_one tpvB_len tpvB_take tpvB_one pvB_len pvB_take pvB_one id_ne id_ne' id_ne2 List.append_assoc tm_take_app tm_drop_app tm_take10 tm_drop10 tm_drop15 tm_drop
set_option maxHeartbeats 16000000 in
theorem term_Arrow_p (to : Tm) (xs : List Tm) (hl : xs.length ≤ 1000) (hto : to.nodes ≤ 2 ^ 40) (hxs : ∀ x ∈ xs, x.nodes ≤ 2 ^ 40) : PPure Try.prog F.term_Arrow [.agg to.pv, .sl 5 (xs.map Tm.pv)] (arrowR to xs) := by
  refine pure_by is_term_Arrow (by simp) (by unfold arrowR; split <;> simp [PV.imm, immL, tm_imm, zeroT]) fun hb nx => ?_
  clear hb
  have c1 := tNodes_p to hto
  have c2 := tRight_p to hto 4 1125899906842624
  have hxk := Kept.mk fun i (h : i < xs.length) => hxs _ (List.getElem_mem h)
  clear hxs
  cases hr : to.right 4 1125899906842624 with
  | false =>
    have hres : arrowR to xs = .tup [.agg zeroT, .sc (.bool false)] := by unfold arrowR; rw [if_neg (by simp [arrowOk, hr])]
    rw [hr] at c2
    rw [hres]
    clear hres
    by_cases h0 : xs.length = 0
    · repeat' (first | ((with_reducible first | refine cond_pos (by omega) ?_ | refine cond_neg (by omega) ?_ | refine guard_pos (by omega) ?_ | refine guard_neg (by omega) ?_ | refine cond_ifn ?_ ?_ | refine cond_waysn ?_ ?_ | refine guard_ifn ?_ ?_ | refine guard_waysn ?_ ?_ | refine cond_if ?_ ?_ | refine cond_ways ?_ ?_ | refine guard_if ?_ ?_ | refine guard_ways ?_ ?_) <;> intro _) | (((with_reducible refine call_id ?_); (first | (refine call_pure (c1) ?_) | (refine call_pure (c2) ?_)))) | simp (maxSteps := 1000000) (disch := omega) only [go_sem, Nat.reduceAdd, Nat.reduceMul, Nat.reduceSub, Nat.reduceLeDiff, Nat.reduceEqDiff, Nat.reduceBEq, ↓reduceIte, reduceCtorEq, Int.reduceEq, Int.reduceLE, Int.reduceLT, Int.reduceAdd, Int.reduceSub, Int.reduceNeg, Int.reduceToNat, Int.reduceNe, Nat.reducePow, Nat.reduceShiftRight, Nat.reduceMod, mc_term_Arrow, *])
      refine c_rounds 1 ?_
      repeat' (first | ((with_reducible first | refine cond_pos (by omega) ?_ | refine cond_neg (by omega) ?_ | refine guard_pos (by omega) ?_ | refine guard_neg (by omega) ?_ | refine cond_ifn ?_ ?_ | refine cond_waysn ?_ ?_ | refine guard_ifn ?_ ?_ | refine guard_waysn ?_ ?_ | refine cond_if ?_ ?_ | refine cond_ways ?_ ?_ | refine guard_if ?_ ?_ | refine guard_ways ?_ ?_) <;> intro _) | simp (maxSteps := 1000000) (disch := omega) only [go_sem, Nat.reduceAdd, Nat.reduceMul, Nat.reduceSub, Nat.reduceLeDiff, Nat.reduceEqDiff, Nat.reduceBEq, ↓reduceIte, reduceCtorEq, Int.reduceEq, Int.reduceLE, Int.reduceLT, Int.reduceAdd, Int.reduceSub, Int.reduceNeg, Int.reduceToNat, Int.reduceNe, Nat.reducePow, Nat.reduceShiftRight, Nat.reduceMod, rounds_next, *])
      refine fin_ret (r0 := .tup [.agg zeroT, .sc (.bool false)]) 2 (by (simp (disch := omega) only [go_sem, Nat.reduceMul, Nat.reduceSub, Nat.reduceShiftRight, Nat.reduceMod, Nat.reduceEqDiff, Nat.reduceAdd, ↓reduceIte, Nat.reduceLeDiff, *]); all_goals rfl) ?_
      exact .of_eq (by simp [frz, zeroT, frz_sc])
    · have h00 : 0 < xs.length := by omega
      have eg : xs[0]? = some xs[0] := List.getElem?_eq_getElem h00
      have c3 := tNodes_p xs[0] (hxk.out 0 h00)
      repeat' (first | ((with_reducible first | refine cond_pos (by omega) ?_ | refine cond_neg (by omega) ?_ | refine guard_pos (by omega) ?_ | refine guard_neg (by omega) ?_ | refine cond_ifn ?_ ?_ | refine cond_waysn ?_ ?_ | refine guard_ifn ?_ ?_ | refine guard_waysn ?_ ?_ | refine cond_if ?_ ?_ | refine cond_ways ?_ ?_ | refine guard_if ?_ ?_ | refine guard_ways ?_ ?_) <;> intro _) | (((with_reducible refine call_id ?_); (first | (refine call_pure (c1) ?_) | (refine call_pure (c2) ?_)))) | simp (maxSteps := 1000000) (disch := omega) only [go_sem, Nat.reduceAdd, Nat.reduceMul, Nat.reduceSub, Nat.reduceLeDiff, Nat.reduceEqDiff, Nat.reduceBEq, ↓reduceIte, reduceCtorEq, Int.reduceEq, Int.reduceLE, Int.reduceLT, Int.reduceAdd, Int.reduceSub, Int.reduceNeg, Int.reduceToNat, Int.reduceNe, Nat.reducePow, Nat.reduceShiftRight, Nat.reduceMod, mc_term_Arrow, *])
      refine c_rounds 1 ?_
      repeat' (first | ((with_reducible first | refine cond_pos (by omega) ?_ | refine cond_neg (by omega) ?_ | refine guard_pos (by omega) ?_ | refine guard_neg (by omega) ?_ | refine cond_ifn ?_ ?_ | refine cond_waysn ?_ ?_ | refine guard_ifn ?_ ?_ | refine guard_waysn ?_ ?_ | refine cond_if ?_ ?_ | refine cond_ways ?_ ?_ | refine guard_if ?_ ?_ | refine guard_ways ?_ ?_) <;> intro _) | (((with_reducible refine call_id ?_); (first | (refine call_pure (c3) ?_)))) | simp (maxSteps := 1000000) (disch := omega) only [go_sem, Nat.reduceAdd, Nat.reduceMul, Nat.reduceSub, Nat.reduceLeDiff, Nat.reduceEqDiff, Nat.reduceBEq, ↓reduceIte, reduceCtorEq, Int.reduceEq, Int.reduceLE, Int.reduceLT, Int.reduceAdd, Int.reduceSub, Int.reduceNeg, Int.reduceToNat, Int.reduceNe, Nat.reducePow, Nat.reduceShiftRight, Nat.reduceMod, rounds_next, *])
      refine fin_ret (r0 := .tup [.agg zeroT, .sc (.bool false)]) 2 (by (simp (disch := omega) only [go_sem, Nat.reduceMul, Nat.reduceSub, Nat.reduceShiftRight, Nat.reduceMod, Nat.reduceEqDiff, Nat.reduceAdd, ↓reduceIte, Nat.reduceLeDiff, *]); all_goals rfl) ?_
      exact .of_eq (by simp [frz, zeroT, frz_sc])
  | true =>
  rw [hr] at c2
  have hrf := right_formed hr
  have hmin : min to.nodes 2001 = to.nodes := by omega
  rw [hmin] at c1
  have hrk := Kept.mk hr
  have hb5 : to.formed 4 1125899906842624 = true ∧ to.nodes ≤ 2000 := ⟨by simpa using hrf.1, hrf.2.2.2.2⟩
  clear hr hrf hmin
  repeat' (first | ((with_reducible first | refine cond_pos (by omega) ?_ | refine cond_neg (by omega) ?_ | refine guard_pos (by omega) ?_ | refine guard_neg (by omega) ?_ | refine cond_ifn ?_ ?_ | refine cond_waysn ?_ ?_ | refine guard_ifn ?_ ?_ | refine guard_waysn ?_ ?_ | refine cond_if ?_ ?_ | refine cond_ways ?_ ?_ | refine guard_if ?_ ?_ | refine guard_ways ?_ ?_) <;> intro _) | (((with_reducible refine call_id ?_); (first | (refine call_pure (c1) ?_) | (refine call_pure (c2) ?_)))) | simp (maxSteps := 1000000) (disch := omega) only [go_sem, Nat.reduceAdd, Nat.reduceMul, Nat.reduceSub, Nat.reduceLeDiff, Nat.reduceEqDiff, Nat.reduceBEq, ↓reduceIte, reduceCtorEq, Int.reduceEq, Int.reduceLE, Int.reduceLT, Int.reduceAdd, Int.reduceSub, Int.reduceNeg, Int.reduceToNat, Int.reduceNe, Nat.reducePow, Nat.reduceShiftRight, Nat.reduceMod, mc_term_Arrow, *])
  refine c_loopW 140737486258528 (by kernel_rfl) (fun j f H m => ∃ (i v : Nat), j = xs.length - i ∧ i ≤ xs.length ∧ f 21 = .sc (.int .i64 i) ∧ f 6 = .sc (.int .i64 v) ∧ v ≤ 3000 ∧ (0 < i → v ≤ 2000) ∧ Kept ((xs.take i).all (fun x => x.right 4 1125899906842624) = true ∧ v = to.nodes + xs.length + nodesT (xs.take i)) ∧
    H (nx + 1) = some ⟨zeroT, true⟩ ∧ nx + 2 ≤ m) _ ⟨0, to.nodes + xs.length, rfl, (by first | assumption | omega | rfl | (simp (disch := omega) only [go_sem, Nat.reduceMul, Nat.reduceSub, Nat.reduceShiftRight, Nat.reduceMod, Nat.reduceEqDiff, Nat.reduceAdd, ↓reduceIte, Nat.reduceLeDiff, *] <;> omega)), (by first | assumption | omega | rfl | (simp (disch := omega) only [go_sem, Nat.reduceMul, Nat.reduceSub, Nat.reduceShiftRight, Nat.reduceMod, Nat.reduceEqDiff, Nat.reduceAdd, ↓reduceIte, Nat.reduceLeDiff, *] <;> omega)), (by first | assumption | omega | rfl | (simp (disch := omega) only [go_sem, Nat.reduceMul, Nat.reduceSub, Nat.reduceShiftRight, Nat.reduceMod, Nat.reduceEqDiff, Nat.reduceAdd, ↓reduceIte, Nat.reduceLeDiff, *] <;> omega)), (by first | assumption | omega | rfl | (simp (disch := omega) only [go_sem, Nat.reduceMul, Nat.reduceSub, Nat.reduceShiftRight, Nat.reduceMod, Nat.reduceEqDiff, Nat.reduceAdd, ↓reduceIte, Nat.reduceLeDiff, *] <;> omega)), ?g1, Kept.mk ⟨rfl, by simp [nodesT]⟩, ?g3, ?g4⟩ ?_
  case g1 => intro h; omega
  case g3 => simp [upd, zeroT]
  case g4 => first | omega | exact Nat.le_add_right _ _ | (simp only [Nat.add_assoc]; exact Nat.add_le_add_left (by omega) _)
  clear c1 c2
  rintro _ f H m ⟨i, v, rfl, hi, e21, e6, hv, hv0, hs, hH1, hm⟩
  unfold zeroT at hH1
  have hbad : ∀ i (h : i < xs.length), xs[i].right 4 1125899906842624 = false → arrowR to xs = .tup [.agg zeroT, .sc (.bool false)] := fun i h e => by
    unfold arrowR
    rw [if_neg]
    intro hok
    simp only [arrowOk, Bool.and_eq_true, List.all_eq_true] at hok
    have := hok.1.2 _ (List.getElem_mem h)
    rw [e] at this
    cases this
  by_cases hlt : i < xs.length
  · have eg : xs[i]? = some xs[i] := List.getElem?_eq_getElem hlt
    have c3 := tNodes_p xs[i] (hxk.out i hlt)
    have c4 := tRight_p xs[i] (hxk.out i hlt) 4 1125899906842624
    have hst := nodesT_take_succ xs i hlt
    have hal : (xs.take (i + 1)).all (fun x => x.right 4 1125899906842624) = ((xs.take i).all (fun x => x.right 4 1125899906842624) && xs[i].right 4 1125899906842624) := by rw [List.take_succ_eq_append_getElem hlt, List.all_append]; simp
    have hstk := Kept.mk hst
    have halk := Kept.mk hal
    have htl := nodesT_take_le xs (i + 1)
    have htlk := Kept.mk htl
    cases hx : xs[i].right 4 1125899906842624 with
    | false =>
      rw [hbad i hlt hx]
      rw [hx] at c4
      clear hbad hst hal htl halk hx hv0
      repeat' (first | ((with_reducible first | refine cond_pos (by omega) ?_ | refine cond_neg (by omega) ?_ | refine guard_pos (by omega) ?_ | refine guard_neg (by omega) ?_ | refine cond_ifn ?_ ?_ | refine cond_waysn ?_ ?_ | refine guard_ifn ?_ ?_ | refine guard_waysn ?_ ?_ | refine cond_if ?_ ?_ | refine cond_ways ?_ ?_ | refine guard_if ?_ ?_ | refine guard_ways ?_ ?_) <;> intro _) | (((with_reducible refine call_id ?_); (first | (refine call_pure (c3) ?_) | (refine call_pure (c4) ?_)))) | simp (maxSteps := 1000000) (disch := omega) only [go_sem, Nat.reduceAdd, Nat.reduceMul, Nat.reduceSub, Nat.reduceLeDiff, Nat.reduceEqDiff, Nat.reduceBEq, ↓reduceIte, reduceCtorEq, Int.reduceEq, Int.reduceLE, Int.reduceLT, Int.reduceAdd, Int.reduceSub, Int.reduceNeg, Int.reduceToNat, Int.reduceNe, Nat.reducePow, Nat.reduceShiftRight, Nat.reduceMod, *])
      all_goals
        refine fin_ret (r0 := .tup [.agg zeroT, .sc (.bool false)]) 2 (by (simp (disch := omega) only [go_sem, Nat.reduceMul, Nat.reduceSub, Nat.reduceShiftRight, Nat.reduceMod, Nat.reduceEqDiff, Nat.reduceAdd, ↓reduceIte, Nat.reduceLeDiff, *]); all_goals rfl) ?_
        exact .of_eq (by simp [frz, zeroT, frz_sc])
    | true =>
      have hxf := right_formed hx
      have hmin : min xs[i].nodes 2001 = xs[i].nodes := by omega
      rw [hmin] at c3
      rw [hx] at c4
      have hbig : 2000 < v + xs[i].nodes → arrowR to xs = .tup [.agg zeroT, .sc (.bool false)] := fun h => by
        unfold arrowR
        rw [if_neg]
        intro hok
        simp only [arrowOk, Bool.and_eq_true, decide_eq_true_eq] at hok
        have := hok.2
        have := hs.out.2
        omega
      have hxn : xs[i].nodes ≤ 2000 := hxf.2.2.2.2
      have hxk2 := Kept.mk hx
      by_cases hgt : 2000 < v + xs[i].nodes
      · rw [hbig hgt]
        clear hbad hst hal htl halk hx hv0 hbig hxf hmin
        repeat' (first | ((with_reducible first | refine cond_pos (by omega) ?_ | refine cond_neg (by omega) ?_ | refine guard_pos (by omega) ?_ | refine guard_neg (by omega) ?_ | refine cond_ifn ?_ ?_ | refine cond_waysn ?_ ?_ | refine guard_ifn ?_ ?_ | refine guard_waysn ?_ ?_ | refine cond_if ?_ ?_ | refine cond_ways ?_ ?_ | refine guard_if ?_ ?_ | refine guard_ways ?_ ?_) <;> intro _) | (((with_reducible refine call_id ?_); (first | (refine call_pure (c3) ?_) | (refine call_pure (c4) ?_)))) | simp (maxSteps := 1000000) (disch := omega) only [go_sem, Nat.reduceAdd, Nat.reduceMul, Nat.reduceSub, Nat.reduceLeDiff, Nat.reduceEqDiff, Nat.reduceBEq, ↓reduceIte, reduceCtorEq, Int.reduceEq, Int.reduceLE, Int.reduceLT, Int.reduceAdd, Int.reduceSub, Int.reduceNeg, Int.reduceToNat, Int.reduceNe, Nat.reducePow, Nat.reduceShiftRight, Nat.reduceMod, *])
        all_goals
          refine fin_ret (r0 := .tup [.agg zeroT, .sc (.bool false)]) 2 (by (simp (disch := omega) only [go_sem, Nat.reduceMul, Nat.reduceSub, Nat.reduceShiftRight, Nat.reduceMod, Nat.reduceEqDiff, Nat.reduceAdd, ↓reduceIte, Nat.reduceLeDiff, *]); all_goals rfl) ?_
          exact .of_eq (by simp [frz, zeroT, frz_sc])
      · clear hbad hst hal htl hx hv0 hbig hxf hmin
        repeat' (first | ((with_reducible first | refine cond_pos (by omega) ?_ | refine cond_neg (by omega) ?_ | refine guard_pos (by omega) ?_ | refine guard_neg (by omega) ?_ | refine cond_ifn ?_ ?_ | refine cond_waysn ?_ ?_ | refine guard_ifn ?_ ?_ | refine guard_waysn ?_ ?_ | refine cond_if ?_ ?_ | refine cond_ways ?_ ?_ | refine guard_if ?_ ?_ | refine guard_ways ?_ ?_) <;> intro _) | (((with_reducible refine call_id ?_); (first | (refine call_pure (c3) ?_) | (refine call_pure (c4) ?_)))) | simp (maxSteps := 1000000) (disch := omega) only [go_sem, Nat.reduceAdd, Nat.reduceMul, Nat.reduceSub, Nat.reduceLeDiff, Nat.reduceEqDiff, Nat.reduceBEq, ↓reduceIte, reduceCtorEq, Int.reduceEq, Int.reduceLE, Int.reduceLT, Int.reduceAdd, Int.reduceSub, Int.reduceNeg, Int.reduceToNat, Int.reduceNe, Nat.reducePow, Nat.reduceShiftRight, Nat.reduceMod, *])
        refine Nx.mk (xs.length - (i + 1)) (by first | assumption | omega | rfl | (simp (disch := omega) only [go_sem, Nat.reduceMul, Nat.reduceSub, Nat.reduceShiftRight, Nat.reduceMod, Nat.reduceEqDiff, Nat.reduceAdd, ↓reduceIte, Nat.reduceLeDiff, *] <;> omega)) ⟨i + 1, v + xs[i].nodes, rfl, (by first | assumption | omega | rfl | (simp (disch := omega) only [go_sem, Nat.reduceMul, Nat.reduceSub, Nat.reduceShiftRight, Nat.reduceMod, Nat.reduceEqDiff, Nat.reduceAdd, ↓reduceIte, Nat.reduceLeDiff, *] <;> omega)), (by first | assumption | omega | rfl | (simp (disch := omega) only [go_sem, Nat.reduceMul, Nat.reduceSub, Nat.reduceShiftRight, Nat.reduceMod, Nat.reduceEqDiff, Nat.reduceAdd, ↓reduceIte, Nat.reduceLeDiff, *] <;> omega)), by simp [upd], by omega, fun _ => by omega, Kept.mk ⟨?_, ?_⟩, by simpa [zeroT] using hH1, (by first | assumption | omega | rfl | (simp (disch := omega) only [go_sem, Nat.reduceMul, Nat.reduceSub, Nat.reduceShiftRight, Nat.reduceMod, Nat.reduceEqDiff, Nat.reduceAdd, ↓reduceIte, Nat.reduceLeDiff, *] <;> omega))⟩
        · rw [halk.out, hs.out.1, hxk2.out]; rfl
        · have := hs.out.2; have := hstk.out; omega
  · obtain rfl : i = xs.length := by omega
    clear hbad
    have hs2 := hs.out
    rw [List.take_length] at hs2
    have hv3 : v ≤ 2000 := by
      by_cases h0 : 0 < xs.length
      · exact hv0 h0
      · have h1 : xs = [] := List.eq_nil_of_length_eq_zero (by omega)
        have h2 := hs2.2
        rw [h1] at h2
        simp only [nodesT, List.length_nil] at h2
        omega
    have hb6 := List.all_eq_true.1 hs2.1
    have hr : arrowR to xs = .tup [.agg (arrL to xs.length 0 xs).pv, .sc (.bool true)] := by
      unfold arrowR
      rw [if_pos]
      simp only [arrowOk, Bool.and_eq_true, decide_eq_true_eq]
      exact ⟨⟨hrk.out, hs2.1⟩, by omega⟩
    have hsz : ∀ i (h : i < xs.length), xs[i].formed 4 1125899906842624 = true ∧ xs[i].nodes ≤ 2000 ∧ xs[i].size ≤ xs[i].nodes := fun i h => by
      have h1 := right_formed (hb6 _ (List.getElem_mem h))
      exact ⟨by simpa using h1.1, h1.2.2.2.2, size_nodes _⟩
    have hszk := Kept.mk hsz
    have hts := size_nodes to
    rw [hr]
    clear hr hs hs2 hb6 hsz hv0 hrk
    repeat' (first | ((with_reducible first | refine cond_pos (by omega) ?_ | refine cond_neg (by omega) ?_ | refine guard_pos (by omega) ?_ | refine guard_neg (by omega) ?_ | refine cond_ifn ?_ ?_ | refine cond_waysn ?_ ?_ | refine guard_ifn ?_ ?_ | refine guard_waysn ?_ ?_ | refine cond_if ?_ ?_ | refine cond_ways ?_ ?_ | refine guard_if ?_ ?_ | refine guard_ways ?_ ?_) <;> intro _) | simp (maxSteps := 1000000) (disch := omega) only [go_sem, Nat.reduceAdd, Nat.reduceMul, Nat.reduceSub, Nat.reduceLeDiff, Nat.reduceEqDiff, Nat.reduceBEq, ↓reduceIte, reduceCtorEq, Int.reduceEq, Int.reduceLE, Int.reduceLT, Int.reduceAdd, Int.reduceSub, Int.reduceNeg, Int.reduceToNat, Int.reduceNe, Nat.reducePow, Nat.reduceShiftRight, Nat.reduceMod, *])
    refine call_mut (clone_m to hto _ _) ?_
    rintro H' nx' r' ⟨hn1, cs, rfl, hc2, hc4⟩ -
    have hlen := hc2.len
    have hone := hc2.one
    have htk : List.take 5 cs = cs := List.take_of_length_le (by omega)
    have hH1' : H' (nx + 1) = some ⟨zeroT, true⟩ := (hc4 (nx + 1) (by first | omega | exact Nat.lt_of_lt_of_le (by omega : nx + 1 < m) (Nat.le_add_right _ _))).trans (by simpa [zeroT] using hH1)
    have hn2 : m + 6 ≤ nx' := hn1
    have hc2k : Kept (OwnT H' (m + 6) nx' cs to) := Kept.mk hc2
    have hH1k := Kept.mk hH1'
    clear hn1 hc2 hc4 hH1 hH1' e6 e21
    repeat' (first | ((with_reducible first | refine cond_pos (by omega) ?_ | refine cond_neg (by omega) ?_ | refine guard_pos (by omega) ?_ | refine guard_neg (by omega) ?_ | refine cond_ifn ?_ ?_ | refine cond_waysn ?_ ?_ | refine guard_ifn ?_ ?_ | refine guard_waysn ?_ ?_ | refine cond_if ?_ ?_ | refine cond_ways ?_ ?_ | refine guard_if ?_ ?_ | refine guard_ways ?_ ?_) <;> intro _) | simp (maxSteps := 1000000) (disch := omega) only [go_sem, Nat.reduceAdd, Nat.reduceMul, Nat.reduceSub, Nat.reduceLeDiff, Nat.reduceEqDiff, Nat.reduceBEq, ↓reduceIte, reduceCtorEq, Int.reduceEq, Int.reduceLE, Int.reduceLT, Int.reduceAdd, Int.reduceSub, Int.reduceNeg, Int.reduceToNat, Int.reduceNe, Nat.reducePow, Nat.reduceShiftRight, Nat.reduceMod, hlen, htk, hone, *])
    refine call_mut (raise_told 4 xs.length ⟨by omega, by omega⟩ to 1125899906842624 0 hto (by omega) (by omega) hb5.1 (by omega) (by omega) (fun j => decide (j = nx + 1)) _ _ (m + 4) (m + 6) nx' cs (upd_same _ _ _) (Nat.lt_of_lt_of_le (by omega : m + 4 < nx') (Nat.le_add_right _ _)) (.inl (by omega)) hn2 (Nat.le_add_right _ _) (hc2k.out.mono _ _ _ _ _ _ (Nat.le_refl _) (Nat.le_refl _) fun j (g1 : m + 6 ≤ j) g2 => (upd_ne _ _ (show j ≠ m + 4 by omega)).trans (upd_ne _ _ (show j ≠ m + 4 by omega))) ?kp) ?_
    case kp =>
      intro j hj
      obtain rfl : j = nx + 1 := by simpa using hj
      refine ⟨Nat.lt_of_lt_of_le (by omega : nx + 1 < nx') (Nat.le_add_right _ _), by omega, .inl (by omega), fun o ho => ?_⟩
      have ho' := ((upd_ne _ _ (show nx + 1 ≠ m + 4 by omega)).trans (upd_ne _ _ (show nx + 1 ≠ m + 4 by omega))).symm.trans ho
      rw [hH1k.out] at ho'
      cases ho'
      exact ⟨rfl, rfl⟩
    rintro H3 nx3 r3 ⟨hn3, hc3, hc4⟩ -
    have hn4 : nx' ≤ nx3 := Nat.le_trans (Nat.le_add_right _ _) hn3
    have hH1'' : H3 (nx + 1) = some ⟨zeroT, true⟩ := (hc4 (nx + 1) (by simp)).trans (((upd_ne _ _ (show nx + 1 ≠ m + 4 by omega)).trans (upd_ne _ _ (show nx + 1 ≠ m + 4 by omega))).trans hH1k.out)
    clear hn3 hc4 hc2k hH1k hlen hone htk hts hb5
    have hcn := Kept.mk hn4
    repeat' (first | ((with_reducible first | refine cond_pos (by omega) ?_ | refine cond_neg (by omega) ?_ | refine guard_pos (by omega) ?_ | refine guard_neg (by omega) ?_ | refine cond_ifn ?_ ?_ | refine cond_waysn ?_ ?_ | refine guard_ifn ?_ ?_ | refine guard_waysn ?_ ?_ | refine cond_if ?_ ?_ | refine cond_ways ?_ ?_ | refine guard_if ?_ ?_ | refine guard_ways ?_ ?_) <;> intro _) | simp (maxSteps := 1000000) (disch := omega) only [go_sem, Nat.reduceAdd, Nat.reduceMul, Nat.reduceSub, Nat.reduceLeDiff, Nat.reduceEqDiff, Nat.reduceBEq, ↓reduceIte, reduceCtorEq, Int.reduceEq, Int.reduceLE, Int.reduceLT, Int.reduceAdd, Int.reduceSub, Int.reduceNeg, Int.reduceToNat, Int.reduceNe, Nat.reducePow, Nat.reduceShiftRight, Nat.reduceMod, *])
    refine c_loopW 2361039126246746754048 (by kernel_rfl) (fun j f4 H4 m4 => j ≤ xs.length ∧ f4 10 = .sc (.int .i64 ((j : Int) - 1)) ∧ H4 (nx + 1) = some ⟨zeroT, true⟩ ∧ H4 (m + 4) = some ⟨(arrL to xs.length j (xs.drop j)).pv, true⟩ ∧ m + 6 ≤ m4) xs.length ⟨Nat.le_refl _, (by first | assumption | omega | rfl | (simp (disch := omega) only [go_sem, Nat.reduceMul, Nat.reduceSub, Nat.reduceShiftRight, Nat.reduceMod, Nat.reduceEqDiff, Nat.reduceAdd, ↓reduceIte, Nat.reduceLeDiff, *] <;> omega)), hH1'', ?g1, ?g2⟩ ?_
    case g1 => rw [List.drop_length]; exact hc3
    case g2 => exact Nat.le_trans (by omega : m + 6 ≤ nx3) (Nat.le_add_right _ _)
    clear hc3 hH1'' hn4 hcn
    rintro j f4 H4 m4 ⟨hj, e10, hH1, hH9, hm4⟩
    unfold zeroT at hH1
    cases j with
    | zero =>
      rw [List.drop_zero] at hH9
      repeat' (first | ((with_reducible first | refine cond_pos (by omega) ?_ | refine cond_neg (by omega) ?_ | refine guard_pos (by omega) ?_ | refine guard_neg (by omega) ?_ | refine cond_ifn ?_ ?_ | refine cond_waysn ?_ ?_ | refine guard_ifn ?_ ?_ | refine guard_waysn ?_ ?_ | refine cond_if ?_ ?_ | refine cond_ways ?_ ?_ | refine guard_if ?_ ?_ | refine guard_ways ?_ ?_) <;> intro _) | simp (maxSteps := 1000000) (disch := omega) only [go_sem, Nat.reduceAdd, Nat.reduceMul, Nat.reduceSub, Nat.reduceLeDiff, Nat.reduceEqDiff, Nat.reduceBEq, ↓reduceIte, reduceCtorEq, Int.reduceEq, Int.reduceLE, Int.reduceLT, Int.reduceAdd, Int.reduceSub, Int.reduceNeg, Int.reduceToNat, Int.reduceNe, Nat.reducePow, Nat.reduceShiftRight, Nat.reduceMod, *])
      refine fin_ret (r0 := .tup [.agg (arrL to xs.length 0 xs).pv, .sc (.bool true)]) 1 (by (simp (disch := omega) only [go_sem, Nat.reduceMul, Nat.reduceSub, Nat.reduceShiftRight, Nat.reduceMod, Nat.reduceEqDiff, Nat.reduceAdd, ↓reduceIte, Nat.reduceLeDiff, *]); all_goals rfl) ?_
      exact .of_eq (by rw [frz_tup1]; rfl)
    | succ j =>
      have e11 : ((j + 1 : Nat) : Int) - 1 = (j : Int) := by omega
      rw [e11] at e10
      have eg : xs[j]? = some xs[j] := List.getElem?_eq_getElem hj
      have hdp : xs.drop j = xs[j] :: xs.drop (j + 1) := List.drop_eq_getElem_cons hj
      have hdpk := Kept.mk hdp
      have hxs := hszk.out j hj
      have hxn := hxk.out j hj
      have hH9k := Kept.mk hH9
      clear hdp e11 hH9
      repeat' (first | ((with_reducible first | refine cond_pos (by omega) ?_ | refine cond_neg (by omega) ?_ | refine guard_pos (by omega) ?_ | refine guard_neg (by omega) ?_ | refine cond_ifn ?_ ?_ | refine cond_waysn ?_ ?_ | refine guard_ifn ?_ ?_ | refine guard_waysn ?_ ?_ | refine cond_if ?_ ?_ | refine cond_ways ?_ ?_ | refine guard_if ?_ ?_ | refine guard_ways ?_ ?_) <;> intro _) | simp (maxSteps := 1000000) (disch := omega) only [go_sem, Nat.reduceAdd, Nat.reduceMul, Nat.reduceSub, Nat.reduceLeDiff, Nat.reduceEqDiff, Nat.reduceBEq, ↓reduceIte, reduceCtorEq, Int.reduceEq, Int.reduceLE, Int.reduceLT, Int.reduceAdd, Int.reduceSub, Int.reduceNeg, Int.reduceToNat, Int.reduceNe, Nat.reducePow, Nat.reduceShiftRight, Nat.reduceMod, *])
      refine call_mut (clone_m xs[j] hxn _ _) ?_
      rintro H5 nx5 r5 ⟨hn5, cs5, rfl, hc5, hk5⟩ -
      have hlen := hc5.len
      have hone := hc5.one
      have htk : List.take 5 cs5 = cs5 := List.take_of_length_le (by omega)
      have hn6 : m4 + 8 ≤ nx5 := hn5
      have hc5k : Kept (OwnT H5 (m4 + 8) nx5 cs5 xs[j]) := Kept.mk hc5
      have hH1b : H5 (nx + 1) = _ := (hk5 (nx + 1) (show nx + 1 < m4 + 8 by omega)).trans hH1
      have hH9b : H5 (m + 4) = _ := (hk5 (m + 4) (show m + 4 < m4 + 8 by omega)).trans hH9k.out
      have hH1c := Kept.mk hH1b
      have hH9c := Kept.mk hH9b
      clear hn5 hc5 hk5 hH1 hH1b hH9b hH9k
      repeat' (first | ((with_reducible first | refine cond_pos (by omega) ?_ | refine cond_neg (by omega) ?_ | refine guard_pos (by omega) ?_ | refine guard_neg (by omega) ?_ | refine cond_ifn ?_ ?_ | refine cond_waysn ?_ ?_ | refine guard_ifn ?_ ?_ | refine guard_waysn ?_ ?_ | refine cond_if ?_ ?_ | refine cond_ways ?_ ?_ | refine guard_if ?_ ?_ | refine guard_ways ?_ ?_) <;> intro _) | simp (maxSteps := 1000000) (disch := omega) only [go_sem, Nat.reduceAdd, Nat.reduceMul, Nat.reduceSub, Nat.reduceLeDiff, Nat.reduceEqDiff, Nat.reduceBEq, ↓reduceIte, reduceCtorEq, Int.reduceEq, Int.reduceLE, Int.reduceLT, Int.reduceAdd, Int.reduceSub, Int.reduceNeg, Int.reduceToNat, Int.reduceNe, Nat.reducePow, Nat.reduceShiftRight, Nat.reduceMod, hlen, htk, hone, *])
      refine call_mut (raise_told 4 j ⟨by omega, by omega⟩ xs[j] 1125899906842624 0 hxn (by omega) (by omega) hxs.1 (by omega) (by omega) (fun j' => decide (j' = nx + 1) || decide (j' = m + 4)) _ _ (m4 + 6) (m4 + 8) nx5 cs5 (upd_same _ _ _) (Nat.lt_of_lt_of_le (by omega : m4 + 6 < nx5) (Nat.le_add_right _ _)) (.inl (by omega)) hn6 (Nat.le_add_right _ _) (hc5k.out.mono _ _ _ _ _ _ (Nat.le_refl _) (Nat.le_refl _) fun j (g1 : m4 + 8 ≤ j) g2 => (upd_ne _ _ (show j ≠ m4 + 6 by omega)).trans (upd_ne _ _ (show j ≠ m4 + 6 by omega))) ?kp) ?_
      case kp =>
        intro j' hj'
        simp only [Bool.or_eq_true, decide_eq_true_eq] at hj'
        rcases hj' with rfl | rfl
        · refine ⟨Nat.lt_of_lt_of_le (by omega : nx + 1 < nx5) (Nat.le_add_right _ _), by omega, .inl (by omega), fun o ho => ?_⟩
          have ho' := ((upd_ne _ _ (show nx + 1 ≠ m4 + 6 by omega)).trans (upd_ne _ _ (show nx + 1 ≠ m4 + 6 by omega))).symm.trans ho
          rw [hH1c.out] at ho'
          cases ho'
          exact ⟨rfl, rfl⟩
        · refine ⟨Nat.lt_of_lt_of_le (by omega : m + 4 < nx5) (Nat.le_add_right _ _), by omega, .inl (by omega), fun o ho => ?_⟩
          have ho' := ((upd_ne _ _ (show m + 4 ≠ m4 + 6 by omega)).trans (upd_ne _ _ (show m + 4 ≠ m4 + 6 by omega))).symm.trans ho
          rw [hH9c.out] at ho'
          cases ho'
          exact ⟨isIt_len (by rw [tm_len]; omega), tm_imm _⟩
      rintro H7 nx7 r7 ⟨hn7, hc7, hk7⟩ -
      have hn8 : nx5 ≤ nx7 := Nat.le_trans (Nat.le_add_right _ _) hn7
      have hH1d : H7 (nx + 1) = _ := (hk7 (nx + 1) (by simp)).trans (((upd_ne _ _ (show nx + 1 ≠ m4 + 6 by omega)).trans (upd_ne _ _ (show nx + 1 ≠ m4 + 6 by omega))).trans hH1c.out)
      have hH9d : H7 (m + 4) = _ := (hk7 (m + 4) (by simp)).trans (((upd_ne _ _ (show m + 4 ≠ m4 + 6 by omega)).trans (upd_ne _ _ (show m + 4 ≠ m4 + 6 by omega))).trans hH9c.out)
      have hmk := tmade_p2 6 (xs[j].lift j 0) (arrL to xs.length (j + 1) (xs.drop (j + 1)))
      have hH1e := Kept.mk hH1d
      have hgoal : Kept (Tm.mk 6 0 emp [] [xs[j].lift j 0, arrL to xs.length (j + 1) (xs.drop (j + 1))] = arrL to xs.length j (xs.drop j)) := Kept.mk (by rw [hdpk.out]; rfl)
      rw [hgoal.out] at hmk
      clear hn7 hk7 hc5k hH1c hH9c hlen hone htk hH1d
      repeat' (first | ((with_reducible first | refine cond_pos (by omega) ?_ | refine cond_neg (by omega) ?_ | refine guard_pos (by omega) ?_ | refine guard_neg (by omega) ?_ | refine cond_ifn ?_ ?_ | refine cond_waysn ?_ ?_ | refine guard_ifn ?_ ?_ | refine guard_waysn ?_ ?_ | refine cond_if ?_ ?_ | refine cond_ways ?_ ?_ | refine guard_if ?_ ?_ | refine guard_ways ?_ ?_) <;> intro _) | (((with_reducible refine call_id ?_); (first | (refine call_pure (hmk) ?_)))) | simp (maxSteps := 1000000) (disch := omega) only [go_sem, Nat.reduceAdd, Nat.reduceMul, Nat.reduceSub, Nat.reduceLeDiff, Nat.reduceEqDiff, Nat.reduceBEq, ↓reduceIte, reduceCtorEq, Int.reduceEq, Int.reduceLE, Int.reduceLT, Int.reduceAdd, Int.reduceSub, Int.reduceNeg, Int.reduceToNat, Int.reduceNe, Nat.reducePow, Nat.reduceShiftRight, Nat.reduceMod, *])
      refine Nx.mk j (by first | assumption | omega | rfl | (simp (disch := omega) only [go_sem, Nat.reduceMul, Nat.reduceSub, Nat.reduceShiftRight, Nat.reduceMod, Nat.reduceEqDiff, Nat.reduceAdd, ↓reduceIte, Nat.reduceLeDiff, *] <;> omega)) ⟨by omega, by simp [upd], ?_, ?_, ?_⟩
      · exact (upd_ne _ _ (by omega)).trans hH1e.out
      · exact upd_same _ _ _
      · exact Nat.le_trans (by omega : m + 6 ≤ nx7) (Nat.le_add_right _ _)
end
section
set_option maxRecDepth 20000
attribute [local go_sem] pv_len pv_take Nat.add_assoc tm_len tm_take pv_one tm_one tpvB_len tpvB_take tpvB_one pvB_len pvB_take pvB_one id_ne id_ne' id_ne2 List.append_assoc
theorem tms_immLL : ∀ ls : List Tm, immLL (ls.map Tm.pv) = true
  | [] => rfl
  | x :: r => by simp only [List.map_cons, immLL, tm_imm, tms_immLL r]; rfl
def Tm.ap : Tm → Bool
  | .mk k _ _ _ args => decide (k = 4) && decide (args.length = 2)
def Tm.kid (i : Nat) : Tm → Tm
  | .mk k n s ls args => match args[i]? with
    | some x => x
    | none => .mk k n s ls args
def spineF : Nat → Tm → Tm × List Tm
  | 0, t => (t, [])
  | n + 1, t => if t.ap = true then ((spineF n (t.kid 0)).1, (spineF n (t.kid 0)).2 ++ [t.kid 1]) else (t, [])
def Tm.spine (t : Tm) : Tm × List Tm := spineF t.size t
def down : Nat → Tm → Tm
  | 0, t => t
  | i + 1, t => (down i t).kid 0
theorem down_succ : ∀ (i : Nat) (t : Tm), down (i + 1) t = down i (t.kid 0)
  | 0, _ => rfl
  | i + 1, t => by rw [down, down_succ i t, down]
theorem ap_inv {t : Tm} (h : t.ap = true) : ∃ n s ls x y, t = .mk 4 n s ls [x, y] := by
  cases t with
  | mk k n s ls args =>
    simp only [Tm.ap, Bool.and_eq_true, decide_eq_true_eq] at h
    obtain ⟨rfl, h⟩ := h
    match args, h with
    | [x, y], _ => exact ⟨n, s, ls, x, y, rfl⟩
theorem ap_size {t : Tm} (h : t.ap = true) : (t.kid 0).size < t.size ∧ (t.kid 1).size < t.size := by
  obtain ⟨n, s, ls, x, y, rfl⟩ := ap_inv h
  simp only [Tm.kid, List.getElem?_cons_zero, List.getElem?_cons_succ, Tm.size, sizeL]
  omega
theorem ap_nodes {t : Tm} (h : t.ap = true) : (t.kid 0).nodes < t.nodes ∧ (t.kid 1).nodes < t.nodes := by
  obtain ⟨n, s, ls, x, y, rfl⟩ := ap_inv h
  simp only [Tm.kid, List.getElem?_cons_zero, List.getElem?_cons_succ, Tm.nodes, nodesT]
  omega
theorem spineF_len : ∀ (n : Nat) (t : Tm), (spineF n t).2.length ≤ n
  | 0, _ => Nat.le_refl _
  | n + 1, t => by
    simp only [spineF]
    split
    · have := spineF_len n (t.kid 0)
      simp only [List.length_append, List.length_cons, List.length_nil]
      omega
    · simp
theorem spineF_spec : ∀ (n : Nat) (t : Tm), t.size ≤ n → (∀ i, i < (spineF n t).2.length → (down i t).ap = true ∧ (spineF n t).2[(spineF n t).2.length - 1 - i]? = some ((down i t).kid 1)) ∧ (down (spineF n t).2.length t).ap = false ∧ (spineF n t).1 = down (spineF n t).2.length t
  | 0, t, h => by have := size_pos t; omega
  | n + 1, t, h => by
    by_cases ha : t.ap = true
    · have hs := ap_size ha
      obtain ⟨h1, h2, h3⟩ := spineF_spec n (t.kid 0) (by omega)
      simp only [spineF, if_pos ha, List.length_append, List.length_cons, List.length_nil, Nat.zero_add]
      refine ⟨fun i hi => ?_, by rw [down_succ]; exact h2, by rw [down_succ]; exact h3⟩
      cases i with
      | zero =>
        refine ⟨ha, ?_⟩
        rw [show (spineF n (t.kid 0)).2.length + 1 - 1 - 0 = (spineF n (t.kid 0)).2.length by omega, List.getElem?_concat_length]
        rfl
      | succ i =>
        obtain ⟨g1, g2⟩ := h1 i (by omega)
        rw [down_succ]
        refine ⟨g1, ?_⟩
        rw [List.getElem?_append_left (by omega), ← g2]
        congr 1
        omega
    · simp only [spineF, if_neg ha, List.length_nil]
      refine ⟨fun i hi => by omega, by simpa [down] using ha, rfl⟩
theorem down_nodes : ∀ (i : Nat) (t : Tm), (∀ j, j < i → (down j t).ap = true) → (down i t).nodes ≤ t.nodes
  | 0, _, _ => Nat.le_refl _
  | i + 1, t, h => by
    have h1 := down_nodes i t fun j hj => h j (by omega)
    have h2 := ap_nodes (h i (by omega))
    simp only [down]
    omega
theorem zeros_snoc : ∀ n, zeros [.int .i64 0, .int .i64 0, .string ⟨#[]⟩, .slice none 0 0, .slice none 0 0] (n + 1) = zeros [.int .i64 0, .int .i64 0, .string ⟨#[]⟩, .slice none 0 0, .slice none 0 0] n ++ zero5
  | 0 => by simp [zeros, zero5]
  | n + 1 => by
    have h := zeros_snoc n
    conv => lhs; rw [zeros]
    conv => rhs; rw [zeros]
    rw [h, List.append_assoc]
theorem tms_weakL (f : Bool) : ∀ ts : List Tm, WeakL (ts.map (Tm.pvB f)).flatten (ts.map Tm.pv).flatten
  | [] => trivial
  | t :: r => by simp only [List.map_cons, List.flatten_cons]; exact (tm_weak f t).append (tms_weakL f r)
set_option maxHeartbeats 16000000 in
theorem term_Spine_pF (t : Tm) (hm : t.nodes ≤ 2 ^ 40) : PPure Try.prog F.term_Spine [.agg t.pv] (.tup [.agg (t.spine.1.pvB true), .sl 5 (t.spine.2.map Tm.pv)]) := by
  refine pure_by is_term_Spine (by simp) (by simp [PV.imm, immL, tpvB_imm, tms_immLL]) fun hb nx => ?_
  clear hb
  obtain ⟨h1, h2, h3⟩ := spineF_spec t.size t (Nat.le_refl _)
  have h4 := spineF_len t.size t
  have h5 := size_nodes t
  have hN : ∃ N, N = t.spine.2.length := ⟨_, rfl⟩
  obtain ⟨N, hN⟩ := hN
  rw [show (spineF t.size t).2.length = N from hN.symm] at h1 h2 h3 h4
  have h1k : Kept (∀ i, i < N → (down i t).ap = true ∧ t.spine.2[N - 1 - i]? = some ((down i t).kid 1)) := Kept.mk h1
  have h2k : Kept ((down N t).ap = false) := Kept.mk h2
  have h3k : Kept (t.spine.1 = down N t) := Kept.mk h3
  have hNk := Kept.mk hN
  have hNb : N ≤ 2 ^ 40 := by omega
  have hdk := Kept.mk fun i (hi : i ≤ N) => Nat.le_trans (down_nodes i t fun j hj => (h1k.out j (by omega)).1) hm
  clear h1 h2 h3 h4 h5 hN
  repeat' (first | ((with_reducible first | refine cond_pos (by omega) ?_ | refine cond_neg (by omega) ?_ | refine guard_pos (by omega) ?_ | refine guard_neg (by omega) ?_ | refine cond_ifn ?_ ?_ | refine cond_waysn ?_ ?_ | refine guard_ifn ?_ ?_ | refine guard_waysn ?_ ?_ | refine cond_if ?_ ?_ | refine cond_ways ?_ ?_ | refine guard_if ?_ ?_ | refine guard_ways ?_ ?_) <;> intro _) | simp (maxSteps := 1000000) (disch := omega) only [go_sem, Nat.reduceAdd, Nat.reduceMul, Nat.reduceSub, Nat.reduceLeDiff, Nat.reduceEqDiff, Nat.reduceBEq, ↓reduceIte, reduceCtorEq, Int.reduceEq, Int.reduceLE, Int.reduceLT, Int.reduceAdd, Int.reduceSub, Int.reduceNeg, Int.reduceToNat, Int.reduceNe, Nat.reducePow, Nat.reduceShiftRight, Nat.reduceMod, mc_term_Spine, *])
  refine c_loopW 130864 (by kernel_rfl) (fun j f H m => ∃ i : Nat, j = N - i ∧ i ≤ N ∧ f 5 = .sc (.int .i64 i) ∧ f 4 = .ptr (down i t).pv ∧ H (nx + 1) = some ⟨[.sc (.int .i64 0), .sc (.int .i64 0), .sc (.string ⟨#[]⟩), .sc (.slice none 0 0), .sc (.slice none 0 0)], true⟩ ∧ nx + 2 ≤ m) _ ⟨0, rfl, Nat.zero_le _, (by first | assumption | omega | rfl | (simp (disch := omega) only [go_sem, Nat.reduceMul, Nat.reduceSub, Nat.reduceShiftRight, Nat.reduceMod, Nat.reduceEqDiff, Nat.reduceAdd, ↓reduceIte, Nat.reduceLeDiff, *] <;> omega)), (by first | assumption | omega | rfl | (simp (disch := omega) only [go_sem, Nat.reduceMul, Nat.reduceSub, Nat.reduceShiftRight, Nat.reduceMod, Nat.reduceEqDiff, Nat.reduceAdd, ↓reduceIte, Nat.reduceLeDiff, *] <;> omega)), by simp [upd], (by first | assumption | omega | rfl | (simp (disch := omega) only [go_sem, Nat.reduceMul, Nat.reduceSub, Nat.reduceShiftRight, Nat.reduceMod, Nat.reduceEqDiff, Nat.reduceAdd, ↓reduceIte, Nat.reduceLeDiff, *] <;> omega))⟩ ?_
  rintro _ f H m ⟨i, rfl, hi, e5, e4, hH1, hm1⟩
  by_cases hlt : i < N
  · obtain ⟨n', s', ls', x, y, hd⟩ := ap_inv (h1k.out i hlt).1
    have hd2 : down (i + 1) t = x := by simp only [down, hd, Tm.kid, List.getElem?_cons_zero]
    have hd2k := Kept.mk hd2
    rw [hd] at e4
    have c1 : PPure Try.prog F.term_applied [.ptr (Tm.mk 4 n' s' ls' [x, y]).pv] (.sc (.bool true)) := applied_p 4 n' s' ls' [x, y]
    simp only [Tm.pv, List.map_cons, List.map_nil] at e4 c1
    clear hd hd2
    repeat' (first | ((with_reducible first | refine cond_pos (by omega) ?_ | refine cond_neg (by omega) ?_ | refine guard_pos (by omega) ?_ | refine guard_neg (by omega) ?_ | refine cond_ifn ?_ ?_ | refine cond_waysn ?_ ?_ | refine guard_ifn ?_ ?_ | refine guard_waysn ?_ ?_ | refine cond_if ?_ ?_ | refine cond_ways ?_ ?_ | refine guard_if ?_ ?_ | refine guard_ways ?_ ?_) <;> intro _) | (((with_reducible refine call_id ?_); (first | (refine call_pure (c1) ?_)))) | simp (maxSteps := 1000000) (disch := omega) only [go_sem, Nat.reduceAdd, Nat.reduceMul, Nat.reduceSub, Nat.reduceLeDiff, Nat.reduceEqDiff, Nat.reduceBEq, ↓reduceIte, reduceCtorEq, Int.reduceEq, Int.reduceLE, Int.reduceLT, Int.reduceAdd, Int.reduceSub, Int.reduceNeg, Int.reduceToNat, Int.reduceNe, Nat.reducePow, Nat.reduceShiftRight, Nat.reduceMod, *])
    refine Nx.mk (N - (i + 1)) (by first | assumption | omega | rfl | (simp (disch := omega) only [go_sem, Nat.reduceMul, Nat.reduceSub, Nat.reduceShiftRight, Nat.reduceMod, Nat.reduceEqDiff, Nat.reduceAdd, ↓reduceIte, Nat.reduceLeDiff, *] <;> omega)) ⟨i + 1, rfl, (by first | assumption | omega | rfl | (simp (disch := omega) only [go_sem, Nat.reduceMul, Nat.reduceSub, Nat.reduceShiftRight, Nat.reduceMod, Nat.reduceEqDiff, Nat.reduceAdd, ↓reduceIte, Nat.reduceLeDiff, *] <;> omega)), (by first | assumption | omega | rfl | (simp (disch := omega) only [go_sem, Nat.reduceMul, Nat.reduceSub, Nat.reduceShiftRight, Nat.reduceMod, Nat.reduceEqDiff, Nat.reduceAdd, ↓reduceIte, Nat.reduceLeDiff, *] <;> omega)), by rw [hd2k.out]; simp (disch := omega) only [go_sem, Nat.reduceMul, Nat.reduceSub, Nat.reduceShiftRight, Nat.reduceMod, Nat.reduceEqDiff, Nat.reduceAdd, ↓reduceIte, Nat.reduceLeDiff, *], (by first | assumption | omega | rfl | (simp (disch := omega) only [go_sem, Nat.reduceMul, Nat.reduceSub, Nat.reduceShiftRight, Nat.reduceMod, Nat.reduceEqDiff, Nat.reduceAdd, ↓reduceIte, Nat.reduceLeDiff, *] <;> omega)), (by first | assumption | omega | rfl | (simp (disch := omega) only [go_sem, Nat.reduceMul, Nat.reduceSub, Nat.reduceShiftRight, Nat.reduceMod, Nat.reduceEqDiff, Nat.reduceAdd, ↓reduceIte, Nat.reduceLeDiff, *] <;> omega))⟩
  · obtain rfl : i = N := by omega
    have c1 : PPure Try.prog F.term_applied [.ptr (down i t).pv] (.sc (.bool false)) := by
      have h := h2k.out
      cases hd : down i t with
      | mk k n s ls args =>
        rw [hd] at h
        simp only [Tm.ap] at h
        have := applied_p k n s ls args
        rw [h] at this
        exact this
    have c2 := clone_pF2 (down i t) (hdk.out i (Nat.le_refl _))
    by_cases h0 : i = 0
    · have hsp : t.spine.2 = [] := List.eq_nil_of_length_eq_zero (by have := hNk.out; omega)
      rw [hsp, h3k.out]
      clear hsp
      subst h0
      repeat' (first | ((with_reducible first | refine cond_pos (by omega) ?_ | refine cond_neg (by omega) ?_ | refine guard_pos (by omega) ?_ | refine guard_neg (by omega) ?_ | refine cond_ifn ?_ ?_ | refine cond_waysn ?_ ?_ | refine guard_ifn ?_ ?_ | refine guard_waysn ?_ ?_ | refine cond_if ?_ ?_ | refine cond_ways ?_ ?_ | refine guard_if ?_ ?_ | refine guard_ways ?_ ?_) <;> intro _) | (((with_reducible refine call_id ?_); (first | (refine call_pure (c1) ?_) | (refine call_pure (c2) ?_)))) | simp (maxSteps := 1000000) (disch := omega) only [go_sem, Nat.reduceAdd, Nat.reduceMul, Nat.reduceSub, Nat.reduceLeDiff, Nat.reduceEqDiff, Nat.reduceBEq, ↓reduceIte, reduceCtorEq, Int.reduceEq, Int.reduceLE, Int.reduceLT, Int.reduceAdd, Int.reduceSub, Int.reduceNeg, Int.reduceToNat, Int.reduceNe, Nat.reducePow, Nat.reduceShiftRight, Nat.reduceMod, *])
      refine fin_retF (r0 := .tup [.agg ((down 0 t).pvB true), .sc (.slice none 0 0)]) 2 (by (simp (disch := omega) only [go_sem, Nat.reduceMul, Nat.reduceSub, Nat.reduceShiftRight, Nat.reduceMod, Nat.reduceEqDiff, Nat.reduceAdd, ↓reduceIte, Nat.reduceLeDiff, *]); all_goals rfl) ?_
      have e1 : ∀ Hx, frzF 2 Hx (.tup [.agg ((down 0 t).pvB true), .sc (.slice none 0 0)]) = .tup [.agg (((down 0 t).pvB true).map (frzF 0 Hx)), .sc (.slice none 0 0)] := fun _ => rfl
      rw [e1, frzF_tpvB]
      exact Weak.tup (xs := [.agg ((down 0 t).pvB true), .sc (.slice none 0 0)]) ⟨.refl _, .nil 5, trivial⟩
    · have h00 : 0 < i := by omega
      have hz1 : 80 * (i : Int) ≤ 2 ^ 47 := by omega
      have hz2 : (i : Int) ≤ 2 ^ 47 := by omega
      repeat' (first | ((with_reducible first | refine cond_pos (by omega) ?_ | refine cond_neg (by omega) ?_ | refine guard_pos (by omega) ?_ | refine guard_neg (by omega) ?_ | refine cond_ifn ?_ ?_ | refine cond_waysn ?_ ?_ | refine guard_ifn ?_ ?_ | refine guard_waysn ?_ ?_ | refine cond_if ?_ ?_ | refine cond_ways ?_ ?_ | refine guard_if ?_ ?_ | refine guard_ways ?_ ?_) <;> intro _) | (((with_reducible refine call_id ?_); (first | (refine call_pure (c1) ?_)))) | simp (maxSteps := 1000000) (disch := omega) only [go_sem, Nat.reduceAdd, Nat.reduceMul, Nat.reduceSub, Nat.reduceLeDiff, Nat.reduceEqDiff, Nat.reduceBEq, ↓reduceIte, reduceCtorEq, Int.reduceEq, Int.reduceLE, Int.reduceLT, Int.reduceAdd, Int.reduceSub, Int.reduceNeg, Int.reduceToNat, Int.reduceNe, Nat.reducePow, Nat.reduceShiftRight, Nat.reduceMod, hz1, hz2, and_self, *])
      clear c1
      refine c_loopW 2199014867104 (by kernel_rfl) (fun j f2 H2 m2 => ∃ cs : List PV, j ≤ i ∧ f2 5 = .sc (.int .i64 j) ∧ f2 7 = .ptr (down (i - j) t).pv ∧ H2 (nx + 1) = some ⟨[.sc (.int .i64 0), .sc (.int .i64 0), .sc (.string ⟨#[]⟩), .sc (.slice none 0 0), .sc (.slice none 0 0)], true⟩ ∧
        H2 (m + 5) = some ⟨zeros [.int .i64 0, .int .i64 0, .string ⟨#[]⟩, .slice none 0 0, .slice none 0 0] j ++ cs, true⟩ ∧ m + 5 < m2 ∧ Kept (OwnW H2 (m + 6) m2 cs (t.spine.2.drop j))) i ⟨[], Nat.le_refl _, (by first | assumption | omega | rfl | (simp (disch := omega) only [go_sem, Nat.reduceMul, Nat.reduceSub, Nat.reduceShiftRight, Nat.reduceMod, Nat.reduceEqDiff, Nat.reduceAdd, ↓reduceIte, Nat.reduceLeDiff, *] <;> omega)), by rw [Nat.sub_self]; simp [upd, down], ?g1, by simp [upd], ?g2, Kept.mk ?g3⟩ ?_
      case g1 => exact (upd_ne _ _ (by omega)).trans hH1
      case g2 => show m + 5 < m + 8; omega
      case g3 => rw [List.drop_eq_nil_of_le (by rw [← hNk.out]; exact Nat.le_refl _)]; rfl
      clear e5 hH1
      rintro j f2 H2 m2 ⟨cs, hj, e5, e7, hH1, hHb, hm2, ho⟩
      cases j with
      | zero =>
        rw [List.drop_zero] at ho
        have hHb' : H2 (m + 5) = some ⟨cs, true⟩ := by simpa [zeros] using hHb
        have hlen := ho.out.len
        have hfin : Kept (∀ Hx : Nat → Option PObj, Hx (m + 5) = some ⟨cs, true⟩ → OwnW Hx (m + 6) m2 cs t.spine.2 → Weak (frzF (sizeL t.spine.2 + 3) Hx (.tup [.agg ((down i t).pvB true), .osl (m + 5) 0 i 5])) (.tup [.agg (t.spine.1.pvB true), .sl 5 (t.spine.2.map Tm.pv)])) := Kept.mk (by
          intro Hx hx1 hx2
          have e1 : frzF (sizeL t.spine.2 + 3) Hx (.tup [.agg ((down i t).pvB true), .osl (m + 5) 0 i 5]) = .tup [.agg (((down i t).pvB true).map (frzF (sizeL t.spine.2 + 1) Hx)), frzF (sizeL t.spine.2 + 2) Hx (.osl (m + 5) 0 i 5)] := rfl
          rw [e1]
          refine Weak.tup (xs := [_, _]) ⟨?_, ?_, trivial⟩
          · rw [frzF_tpvB, h3k.out]
            exact .refl _
          · have hN := hNk.out
            simp only [frzF, hx1, List.drop_zero]
            rw [if_pos (by rw [hlen]; omega), List.take_of_length_le (by rw [hlen]; omega)]
            refine .trans (Weak.fslW (es' := t.spine.2.map Tm.pv) (by rw [chunks_length, List.length_map]; exact hN) (fun e he => ?_) ?_) (Weak.fsl 5 _)
            · obtain ⟨x, _, rfl⟩ := List.mem_map.1 he; exact tm_len x
            · rw [chunks_flatten 5 i _ (by rw [List.length_map, hlen]; omega)]
              exact (OwnW.frz _ _ hx2 _ (by omega)).trans (tms_weakL true _))
        have hHb2 := Kept.mk hHb'
        clear hHb hHb' hlen h1k h2k h3k hdk
        repeat' (first | ((with_reducible first | refine cond_pos (by omega) ?_ | refine cond_neg (by omega) ?_ | refine guard_pos (by omega) ?_ | refine guard_neg (by omega) ?_ | refine cond_ifn ?_ ?_ | refine cond_waysn ?_ ?_ | refine guard_ifn ?_ ?_ | refine guard_waysn ?_ ?_ | refine cond_if ?_ ?_ | refine cond_ways ?_ ?_ | refine guard_if ?_ ?_ | refine guard_ways ?_ ?_) <;> intro _) | (((with_reducible refine call_id ?_); (first | (refine call_pure (c2) ?_)))) | simp (maxSteps := 1000000) (disch := omega) only [go_sem, Nat.reduceAdd, Nat.reduceMul, Nat.reduceSub, Nat.reduceLeDiff, Nat.reduceEqDiff, Nat.reduceBEq, ↓reduceIte, reduceCtorEq, Int.reduceEq, Int.reduceLE, Int.reduceLT, Int.reduceAdd, Int.reduceSub, Int.reduceNeg, Int.reduceToNat, Int.reduceNe, Nat.reducePow, Nat.reduceShiftRight, Nat.reduceMod, zeros, *])
        refine fin_retF (r0 := .tup [.agg ((down i t).pvB true), .osl (m + 5) 0 i 5]) (sizeL t.spine.2 + 3) (by (simp (disch := omega) only [go_sem, Nat.reduceMul, Nat.reduceSub, Nat.reduceShiftRight, Nat.reduceMod, Nat.reduceEqDiff, Nat.reduceAdd, ↓reduceIte, Nat.reduceLeDiff, *]); all_goals rfl) ?_
        refine hfin.out _ ((upd_ne _ _ (by omega)).trans hHb2.out) (ho.out.mono (Nat.le_refl _) (Nat.le_refl _) (fun j g1 g2 => upd_ne _ _ (by omega)))
      | succ j =>
        have hk : i - (j + 1) < i := by omega
        obtain ⟨n', s', ls', x, y, hd⟩ := ap_inv (h1k.out _ hk).1
        have hy := (h1k.out _ hk).2
        rw [show i - 1 - (i - (j + 1)) = j by omega, hd] at hy
        simp only [Tm.kid, List.getElem?_cons_succ, List.getElem?_cons_zero] at hy
        have hd2 : down (i - j) t = x := by
          rw [show i - j = (i - (j + 1)) + 1 by omega]
          simp only [down, hd, Tm.kid, List.getElem?_cons_zero]
        have hyn : y.nodes ≤ 2 ^ 40 := by
          have h1 := hdk.out _ (Nat.le_of_lt hk)
          have h2 := (ap_nodes (h1k.out _ hk).1).2
          rw [hd] at h1 h2
          simp only [Tm.kid, List.getElem?_cons_succ, List.getElem?_cons_zero] at h2
          omega
        have hdrop : Kept (t.spine.2.drop j = y :: t.spine.2.drop (j + 1)) := Kept.mk (by
          obtain ⟨h1, h2⟩ := List.getElem?_eq_some_iff.1 hy
          rw [List.drop_eq_getElem_cons h1, h2])
        have hd2k := Kept.mk hd2
        rw [hd] at e7
        simp only [Tm.pv, List.map_cons, List.map_nil] at e7
        rw [zeros_snoc, List.append_assoc] at hHb
        have hz : ((j + 1 : Nat) : Int) - 1 = (j : Int) := by omega
        have hzl : (zeros [.int .i64 0, .int .i64 0, .string ⟨#[]⟩, .slice none 0 0, .slice none 0 0] j).length = j * 5 := by rw [zeros_len]; rfl
        have hHbk := Kept.mk hHb
        have hji : j < i := by omega
        have hHk1 := Kept.mk hH1
        clear hd hd2 hk hy h1k h2k h3k hdk hH1 hHb
        repeat' (first | ((with_reducible first | refine cond_pos (by omega) ?_ | refine cond_neg (by omega) ?_ | refine guard_pos (by omega) ?_ | refine guard_neg (by omega) ?_ | refine cond_ifn ?_ ?_ | refine cond_waysn ?_ ?_ | refine guard_ifn ?_ ?_ | refine guard_waysn ?_ ?_ | refine cond_if ?_ ?_ | refine cond_ways ?_ ?_ | refine guard_if ?_ ?_ | refine guard_ways ?_ ?_) <;> intro _) | simp (maxSteps := 1000000) (disch := omega) only [go_sem, Nat.reduceAdd, Nat.reduceMul, Nat.reduceSub, Nat.reduceLeDiff, Nat.reduceEqDiff, Nat.reduceBEq, ↓reduceIte, reduceCtorEq, Int.reduceEq, Int.reduceLE, Int.reduceLT, Int.reduceAdd, Int.reduceSub, Int.reduceNeg, Int.reduceToNat, Int.reduceNe, Nat.reducePow, Nat.reduceShiftRight, Nat.reduceMod, hz, *])
        refine call_mut (copyTo_p y.size y (Nat.le_refl _) hyn _ _ (m + 5) (j * 5) (zeros [.int .i64 0, .int .i64 0, .string ⟨#[]⟩, .slice none 0 0, .slice none 0 0] j) cs true hHbk.out (Nat.lt_of_lt_of_le hm2 (Nat.le_add_right _ _)) hzl) ?_
        rintro H' nx' r' ⟨hn1, c, hc1, hc2, hc4⟩ -
        have hn2 : m2 ≤ nx' := Nat.le_trans (Nat.le_add_right _ _) hn1
        have hc3 : ∀ j, j ≠ m + 5 → j < m2 → H' j = H2 j := fun j a b => hc4 j a (Nat.lt_of_lt_of_le b (Nat.le_add_right _ _))
        have hH1' : H' (nx + 1) = _ := (hc3 (nx + 1) (by omega) (by omega)).trans hHk1.out
        have ho' : Kept (OwnW H' (m + 6) nx' (c ++ cs) (t.spine.2.drop j)) := Kept.mk (by
          rw [hdrop.out]
          refine ⟨c, cs, rfl, hc2.mono _ _ _ _ _ _ ?_ (Nat.le_refl _) fun _ _ _ => rfl, ho.out.mono (Nat.le_refl _) hn2 fun j g1 g2 => hc3 j (by omega) g2⟩
          exact Nat.le_trans (by omega : m + 6 ≤ m2) (Nat.le_add_right _ _))
        clear ho hc3 hc4 hc2 hn1 hHk1 hHbk hdrop c2
        repeat' (first | ((with_reducible first | refine cond_pos (by omega) ?_ | refine cond_neg (by omega) ?_ | refine guard_pos (by omega) ?_ | refine guard_neg (by omega) ?_ | refine cond_ifn ?_ ?_ | refine cond_waysn ?_ ?_ | refine guard_ifn ?_ ?_ | refine guard_waysn ?_ ?_ | refine cond_if ?_ ?_ | refine cond_ways ?_ ?_ | refine guard_if ?_ ?_ | refine guard_ways ?_ ?_) <;> intro _) | simp (maxSteps := 1000000) (disch := omega) only [go_sem, Nat.reduceAdd, Nat.reduceMul, Nat.reduceSub, Nat.reduceLeDiff, Nat.reduceEqDiff, Nat.reduceBEq, ↓reduceIte, reduceCtorEq, Int.reduceEq, Int.reduceLE, Int.reduceLT, Int.reduceAdd, Int.reduceSub, Int.reduceNeg, Int.reduceToNat, Int.reduceNe, Nat.reducePow, Nat.reduceShiftRight, Nat.reduceMod, *])
        refine Nx.mk j (by first | assumption | omega | rfl | (simp (disch := omega) only [go_sem, Nat.reduceMul, Nat.reduceSub, Nat.reduceShiftRight, Nat.reduceMod, Nat.reduceEqDiff, Nat.reduceAdd, ↓reduceIte, Nat.reduceLeDiff, *] <;> omega)) ⟨c ++ cs, by omega, (by first | assumption | omega | rfl | (simp (disch := omega) only [go_sem, Nat.reduceMul, Nat.reduceSub, Nat.reduceShiftRight, Nat.reduceMod, Nat.reduceEqDiff, Nat.reduceAdd, ↓reduceIte, Nat.reduceLeDiff, *] <;> omega)), by rw [hd2k.out]; simp (disch := omega) only [go_sem, Nat.reduceMul, Nat.reduceSub, Nat.reduceShiftRight, Nat.reduceMod, Nat.reduceEqDiff, Nat.reduceAdd, ↓reduceIte, Nat.reduceLeDiff, *], hH1', hc1, ?g1, ?g2⟩
        case g1 => exact (by omega : m + 5 < nx' + 6)
        case g2 => exact Kept.mk (ho'.out.mono (Nat.le_refl _) (Nat.le_add_right _ _) fun _ _ _ => rfl)
theorem term_Spine_p (t : Tm) (hm : t.nodes ≤ 2 ^ 40) : PPure Try.prog F.term_Spine [.agg t.pv] (.tup [.agg t.spine.1.pv, .sl 5 (t.spine.2.map Tm.pv)]) :=
  (term_Spine_pF t hm).weak (WeakL.refl _) (Weak.tup (xs := [_, _]) ⟨tm_agg true _, .refl _, trivial⟩)
end
section
set_option maxRecDepth 20000
attribute [local go_sem] pv_len pv_take Nat.add_assoc tm_len tm_take pv_one tm_one id_ne id_ne' id_ne2 List.append_assoc
theorem flat3_ne1 (ls : List Lv) : (ls.map Lv.pv).flatten.length ≠ 1 := by
  have : (ls.map Lv.pv).flatten.length = ls.length * 3 := by
    induction ls with
    | nil => rfl
    | cons t r ih => rw [List.map_cons, List.flatten_cons, List.length_append, pv_len, ih, List.length_cons, Nat.succ_mul]; omega
  omega
theorem zeros_imm : ∀ (n : Nat), immL (zeros [.int .i64 0, .int .i64 0, .string ⟨#[]⟩, .slice none 0 0, .slice none 0 0] n) = true
  | 0 => rfl
  | n + 1 => by simp only [zeros, immL_append, zeros_imm n]; rfl
theorem tms_immF (ts : List Tm) : immL (ts.flatMap Tm.pv) = true := by rw [List.flatMap_def]; exact tms_imm ts
theorem lvs_immF : ∀ ls : List Lv, immL (ls.map Lv.pv).flatten = true
  | [] => rfl
  | t :: r => by simp only [List.map_cons, List.flatten_cons, immL_append, pv_imm t, lvs_immF r]; rfl
def putRaw (bys : List Lv) (kind n : Int) (s : ByteArray) (ls : List Lv) (args : List Tm) (H : Nat → Option PObj) (nx id : Nat) (p q : List PV) (kp : Nat → Bool) (H' : Nat → Option PObj) (nx' : Nat) (r : PV) : Prop :=
  nx ≤ nx' ∧ (∀ j, kp j = true → H' j = H j) ∧ (((Tm.mk kind n s ls args).putL bys = none ∧ r = .sc (.bool false)) ∨ ∃ ls' args' a b, insts bys ls = some ls' ∧ putLs bys args = some args' ∧ r = .sc (.bool true) ∧
    H' id = some ⟨p ++ (.sc (.int .i64 kind) :: .sc (.int .i64 n) :: .sc (.string s) :: a :: b :: q), true⟩ ∧ RowP H' nx nx' 3 a (ls'.map Lv.pv) ∧ RowP H' nx nx' 5 b (args'.map Tm.pv))
set_option maxHeartbeats 16000000 in
theorem putLevels_p (bys : List Lv) : ∀ (fuel : Nat) (t : Tm), t.size ≤ fuel → t.nodes ≤ 2 ^ 40 → ∀ (H : Nat → Option PObj) (nx id off : Nat) (p q : List PV) (kp : Nat → Bool), H id = some ⟨p ++ (zero5 ++ q), true⟩ → id < nx → p.length = off → immL p = true → immL q = true →
    (∀ j, kp j = true → j ≠ id ∧ j < nx ∧ ∀ o, H j = some o → o.isIt = false ∧ FixL nx o.cells) →
    PMut Try.prog F.term_putLevels [.optr id off, .ptr t.pv, .sl 3 (bys.map Lv.pv)] H nx (fun H' nx' r => nx ≤ nx' ∧ (∀ j, kp j = true → H' j = H j) ∧ ((t.putL bys = none ∧ r = .sc (.bool false)) ∨ ∃ y, t.putL bys = some y ∧ r = .sc (.bool true) ∧ H' id = some ⟨p ++ (y.pv ++ q), true⟩)) := by
  intro fuel
  induction fuel with
  | zero => intro t h; have := size_pos t; omega
  | succ fuel ih =>
    intro t hf hm H nx id off p q kp hH hid hoff hpi hqi hkp
    cases t with
    | mk kind n s ls args =>
    simp only [Tm.size] at hf
    simp only [Tm.nodes] at hm
    have hkpk := Kept.mk hkp
    have hpik := Kept.mk hpi
    have hqik := Kept.mk hqi
    refine tell_low (Q := putRaw bys kind n s ls args H nx id p q kp) kp id hid (fun j hj => ⟨(hkp j hj).1, (hkp j hj).2.1⟩) ?walk ?tell
    case tell =>
      clear ih
      rintro H' nx' r ⟨h1, h2, h3⟩
      have hfix : ∀ j o, kp j = true → H' j = some o → o.isIt = false ∧ FixL nx o.cells := fun j o hj ho => (hkp j hj).2.2 o ((h2 j hj).symm.trans ho)
      rcases h3 with ⟨h3, rfl⟩ | ⟨ls', args', a, b, h3, h4, rfl, h5, h6, h7⟩
      · exact ⟨rfl, hfix, none, 0, (fun _ h => by cases h), fun H2 g1 g2 => ⟨h1, fun j hj => (g1 j hj).trans (h2 j hj), .inl ⟨h3, rfl⟩⟩⟩
      · have hput : (Tm.mk kind n s ls args).putL bys = some (.mk kind n s ls' args') := by simp only [Tm.putL, h3, h4]
        refine ⟨rfl, hfix, some (p ++ ((Tm.mk kind n s ls' args').pv ++ q)), 1, fun cs' e => ?_, fun H2 g1 g2 => ⟨h1, fun j hj => (g1 j hj).trans (h2 j hj), .inr ⟨_, hput, rfl, g2⟩⟩⟩
        cases e
        refine ⟨_, h5, by simp; omega, ?_⟩
        rw [List.map_append, frgF_immL _ _ _ p hpi]
        refine (WeakL.refl _).append ?_
        simp only [List.map_cons, frgF_sc, Tm.pv, List.cons_append, List.nil_append]
        rw [frgF_immL _ _ _ q hqi]
        refine ⟨.refl _, .refl _, .refl _, h6.frg (fun e he => ?_) _ (fun j hj => by simpa using hj), h7.frg (fun e he => ?_) _ (fun j hj => by simpa using hj), .refl _⟩
        · obtain ⟨x, _, rfl⟩ := List.mem_map.1 he; exact pv_len x
        · obtain ⟨x, _, rfl⟩ := List.mem_map.1 he; exact tm_len x
    case walk =>
    clear hkp hpi hqi
    refine mut_by is_term_putLevels (by simp) fun hb => ?_
    have hb0 : ls.length ≤ 9223372036854775807 ∧ args.length ≤ 9223372036854775807 := by simp [Tm.pv, bndL, PV.bnd] at hb; omega
    clear hb
    rw [zero5] at hH
    have at0 : ∀ x, List.take off (p ++ x) = p := fun x => List.take_left' hoff
    have at1 : ∀ x i, List.take (off + i) (p ++ x) = p ++ List.take i x := fun x i => at_take p x off i hoff
    have at2 : ∀ x i, List.drop (off + i) (p ++ x) = List.drop i x := fun x i => at_drop p x off i hoff
    have at3 : off + 1 ≤ off + (q.length + 5) ∧ off + 2 ≤ off + (q.length + 5) ∧ off + 3 ≤ off + (q.length + 5) ∧ off + 4 ≤ off + (q.length + 5) ∧ off + 5 ≤ off + (q.length + 5) := by omega
    have at4 : ∀ x, List.drop off (p ++ x) = x := fun x => List.drop_left' hoff
    have hla := len_nodesT args
    have hll := len_nodesL ls
    have hz1 : 80 * (args.length : Int) ≤ 2 ^ 47 := by omega
    have hz2 : (args.length : Int) ≤ 2 ^ 47 := by omega
    have hz3 : 40 * (ls.length : Int) ≤ 2 ^ 47 := by omega
    have hz4 : (ls.length : Int) ≤ 2 ^ 47 := by omega
    have hkp2 := Kept.mk fun j (hj : kp j = true) => (⟨(hkpk.out j hj).1, (hkpk.out j hj).2.1⟩ : j ≠ id ∧ j < nx)
    have ihk := Kept.mk ih
    clear ih
    by_cases hl0 : ls.length = 0
    · obtain rfl : ls = [] := List.eq_nil_of_length_eq_zero hl0
      repeat' (first | ((with_reducible first | refine cond_pos (by omega) ?_ | refine cond_neg (by omega) ?_ | refine guard_pos (by omega) ?_ | refine guard_neg (by omega) ?_ | refine cond_ifn ?_ ?_ | refine cond_waysn ?_ ?_ | refine guard_ifn ?_ ?_ | refine guard_waysn ?_ ?_ | refine cond_if ?_ ?_ | refine cond_ways ?_ ?_ | refine guard_if ?_ ?_ | refine guard_ways ?_ ?_) <;> intro _) | simp (maxSteps := 1000000) (disch := omega) only [go_sem, Nat.reduceAdd, Nat.reduceMul, Nat.reduceSub, Nat.reduceLeDiff, Nat.reduceEqDiff, Nat.reduceBEq, ↓reduceIte, reduceCtorEq, Int.reduceEq, Int.reduceLE, Int.reduceLT, Int.reduceAdd, Int.reduceSub, Int.reduceNeg, Int.reduceToNat, Int.reduceNe, Nat.reducePow, Nat.reduceShiftRight, Nat.reduceMod, mc_term_putLevels, Tm.pv, at0, at1, at2, at3, at4, List.take_succ_cons, List.drop_succ_cons, List.take_zero, List.drop_zero, List.cons_append, List.nil_append, hz1, hz2, hz3, hz4, and_self, *])
      refine c_loopW 151115722948229019468736 (by kernel_rfl) (fun j f H2 m => f 52 = .sc (.int .i64 0) ∧ nx ≤ m ∧ Kept (∀ j, kp j = true → H2 j = H j) ∧ H2 id = some ⟨p ++ (.sc (.int .i64 kind) :: .sc (.int .i64 n) :: .sc (.string s) :: .sc (.slice none 0 0) :: .sc (.slice none 0 0) :: q), true⟩) 0 ⟨(by first | assumption | omega | rfl | (simp (disch := omega) only [go_sem, Nat.reduceMul, Nat.reduceSub, Nat.reduceShiftRight, Nat.reduceMod, Nat.reduceEqDiff, Nat.reduceAdd, ↓reduceIte, Nat.reduceLeDiff, *] <;> omega)), Nat.le_add_right _ _, Kept.mk (fun j hj => by have := hkp2.out j hj; simp [upd, this.1]), upd_same _ _ _⟩ ?_
      clear hl0 hH
      rintro _ f H2 m ⟨e52, hm2, hkk, hHi⟩
      have hysk : Kept (insts bys [] = some []) := Kept.mk rfl
      have hrow : RowP H2 nx m 3 (.sc (.slice none 0 0)) (([] : List Lv).map Lv.pv) := .inl ⟨rfl, rfl⟩
      by_cases ha0 : args.length = 0
      · obtain rfl : args = [] := List.eq_nil_of_length_eq_zero ha0
        have hrk := Kept.mk hrow
        clear hrow ihk
        repeat' (first | ((with_reducible first | refine cond_pos (by omega) ?_ | refine cond_neg (by omega) ?_ | refine guard_pos (by omega) ?_ | refine guard_neg (by omega) ?_ | refine cond_ifn ?_ ?_ | refine cond_waysn ?_ ?_ | refine guard_ifn ?_ ?_ | refine guard_waysn ?_ ?_ | refine cond_if ?_ ?_ | refine cond_ways ?_ ?_ | refine guard_if ?_ ?_ | refine guard_ways ?_ ?_) <;> intro _) | simp (maxSteps := 1000000) (disch := omega) only [go_sem, Nat.reduceAdd, Nat.reduceMul, Nat.reduceSub, Nat.reduceLeDiff, Nat.reduceEqDiff, Nat.reduceBEq, ↓reduceIte, reduceCtorEq, Int.reduceEq, Int.reduceLE, Int.reduceLT, Int.reduceAdd, Int.reduceSub, Int.reduceNeg, Int.reduceToNat, Int.reduceNe, Nat.reducePow, Nat.reduceShiftRight, Nat.reduceMod, at0, at1, at2, at3, at4, List.take_succ_cons, List.drop_succ_cons, List.take_zero, List.drop_zero, List.cons_append, List.nil_append, hz1, hz2, hz3, hz4, and_self, *])
        refine c_rounds 1 ?_
        repeat' (first | ((with_reducible first | refine cond_pos (by omega) ?_ | refine cond_neg (by omega) ?_ | refine guard_pos (by omega) ?_ | refine guard_neg (by omega) ?_ | refine cond_ifn ?_ ?_ | refine cond_waysn ?_ ?_ | refine guard_ifn ?_ ?_ | refine guard_waysn ?_ ?_ | refine cond_if ?_ ?_ | refine cond_ways ?_ ?_ | refine guard_if ?_ ?_ | refine guard_ways ?_ ?_) <;> intro _) | simp (maxSteps := 1000000) (disch := omega) only [go_sem, Nat.reduceAdd, Nat.reduceMul, Nat.reduceSub, Nat.reduceLeDiff, Nat.reduceEqDiff, Nat.reduceBEq, ↓reduceIte, reduceCtorEq, Int.reduceEq, Int.reduceLE, Int.reduceLT, Int.reduceAdd, Int.reduceSub, Int.reduceNeg, Int.reduceToNat, Int.reduceNe, Nat.reducePow, Nat.reduceShiftRight, Nat.reduceMod, rounds_next, *])
        exact fin_mut (.sc (.bool true)) (.inr rfl) (by (simp (disch := omega) only [go_sem, Nat.reduceMul, Nat.reduceSub, Nat.reduceShiftRight, Nat.reduceMod, Nat.reduceEqDiff, Nat.reduceAdd, ↓reduceIte, Nat.reduceLeDiff, *]); all_goals rfl) (show putRaw bys kind n s [] [] H nx id p q kp _ _ _ from ⟨Nat.le_trans hm2 (Nat.le_add_right _ _), hkk.out, .inr ⟨([] : List Lv), [], (.sc (.slice none 0 0)), .sc (.slice none 0 0), hysk.out, rfl, rfl, hHi, hrk.out.mono (Nat.le_add_right _ _) (fun _ _ _ _ => rfl), .inl ⟨rfl, rfl⟩⟩⟩)
      · have ha00 : 0 < args.length := by omega
        have hrk := Kept.mk hrow
        clear hrow
        repeat' (first | ((with_reducible first | refine cond_pos (by omega) ?_ | refine cond_neg (by omega) ?_ | refine guard_pos (by omega) ?_ | refine guard_neg (by omega) ?_ | refine cond_ifn ?_ ?_ | refine cond_waysn ?_ ?_ | refine guard_ifn ?_ ?_ | refine guard_waysn ?_ ?_ | refine cond_if ?_ ?_ | refine cond_ways ?_ ?_ | refine guard_if ?_ ?_ | refine guard_ways ?_ ?_) <;> intro _) | simp (maxSteps := 1000000) (disch := omega) only [go_sem, Nat.reduceAdd, Nat.reduceMul, Nat.reduceSub, Nat.reduceLeDiff, Nat.reduceEqDiff, Nat.reduceBEq, ↓reduceIte, reduceCtorEq, Int.reduceEq, Int.reduceLE, Int.reduceLT, Int.reduceAdd, Int.reduceSub, Int.reduceNeg, Int.reduceToNat, Int.reduceNe, Nat.reducePow, Nat.reduceShiftRight, Nat.reduceMod, at0, at1, at2, at3, at4, List.take_succ_cons, List.drop_succ_cons, List.take_zero, List.drop_zero, List.cons_append, List.nil_append, hz1, hz2, hz3, hz4, and_self, *])
        refine c_loopW 83076591280232213527812754179621952 (by kernel_rfl) (fun j f H3 m3 => ∃ (i2 : Nat) (zs : List Tm), j = args.length - i2 ∧ i2 ≤ args.length ∧ f 97 = .sc (.int .i64 i2) ∧ m + 13 < m3 ∧ Kept (putLs bys (args.take i2) = some zs) ∧ Kept (zs.length = i2) ∧ Kept (∀ j, kp j = true → H3 j = H j) ∧
          H3 id = some ⟨p ++ (.sc (.int .i64 kind) :: .sc (.int .i64 n) :: .sc (.string s) :: (.sc (.slice none 0 0)) :: .osl (m + 13) 0 args.length 5 :: q), true⟩ ∧ Kept (H3 (m + 13) = some ⟨zs.flatMap Tm.pv ++ zeros [.int .i64 0, .int .i64 0, .string ⟨#[]⟩, .slice none 0 0, .slice none 0 0] (args.length - i2), true⟩) ∧ Kept (RowP H3 nx m 3 (.sc (.slice none 0 0)) (([] : List Lv).map Lv.pv))) _
          ⟨0, [], rfl, (by first | assumption | omega | rfl | (simp (disch := omega) only [go_sem, Nat.reduceMul, Nat.reduceSub, Nat.reduceShiftRight, Nat.reduceMod, Nat.reduceEqDiff, Nat.reduceAdd, ↓reduceIte, Nat.reduceLeDiff, *] <;> omega)), (by first | assumption | omega | rfl | (simp (disch := omega) only [go_sem, Nat.reduceMul, Nat.reduceSub, Nat.reduceShiftRight, Nat.reduceMod, Nat.reduceEqDiff, Nat.reduceAdd, ↓reduceIte, Nat.reduceLeDiff, *] <;> omega)), Nat.add_lt_add_left (by omega) _, Kept.mk rfl, Kept.mk rfl, Kept.mk (fun j hj => by have h1 := hkp2.out j hj; exact ((upd_ne _ _ h1.1).trans (upd_ne _ _ (show j ≠ m + 13 by omega))).trans (hkk.out j hj)), upd_same _ _ _, Kept.mk ((upd_ne _ _ (show m + 13 ≠ id by omega)).trans ((upd_same _ _ _).trans rfl)), Kept.mk (hrk.out.mono (Nat.le_refl _) fun j g1 g2 _ => (upd_ne _ _ (show j ≠ id by omega)).trans (upd_ne _ _ (show j ≠ m + 13 by omega)))⟩ ?_
        clear hkk hrk hHi
        rintro _ f3 H3 m3 ⟨i2, zs, rfl, hi2, e97, hm3, hzs, hzl, hkk, hHi, hHb, hrk⟩
        by_cases hlt2 : i2 < args.length
        · have eg : args[i2]? = some args[i2] := List.getElem?_eq_getElem hlt2
          have hn := nodesT_mem args i2 hlt2
          have hs := sizeL_mem args i2 hlt2
          repeat' (first | ((with_reducible first | refine cond_pos (by omega) ?_ | refine cond_neg (by omega) ?_ | refine guard_pos (by omega) ?_ | refine guard_neg (by omega) ?_ | refine cond_ifn ?_ ?_ | refine cond_waysn ?_ ?_ | refine guard_ifn ?_ ?_ | refine guard_waysn ?_ ?_ | refine cond_if ?_ ?_ | refine cond_ways ?_ ?_ | refine guard_if ?_ ?_ | refine guard_ways ?_ ?_) <;> intro _) | simp (maxSteps := 1000000) (disch := omega) only [go_sem, Nat.reduceAdd, Nat.reduceMul, Nat.reduceSub, Nat.reduceLeDiff, Nat.reduceEqDiff, Nat.reduceBEq, ↓reduceIte, reduceCtorEq, Int.reduceEq, Int.reduceLE, Int.reduceLT, Int.reduceAdd, Int.reduceSub, Int.reduceNeg, Int.reduceToNat, Int.reduceNe, Nat.reducePow, Nat.reduceShiftRight, Nat.reduceMod, at0, at1, at2, at3, at4, List.take_succ_cons, List.drop_succ_cons, List.take_zero, List.drop_zero, List.cons_append, List.nil_append, hz1, hz2, hz3, hz4, and_self, *])
          obtain ⟨r, hr⟩ : ∃ r, args.length - i2 = r + 1 := ⟨args.length - i2 - 1, by omega⟩
          have hHb2 := hHb.out
          rw [hr] at hHb2
          refine call_mut (ihk.out args[i2] (by omega) (by omega) _ _ (m + 13) (i2 * 5) (zs.flatMap Tm.pv) (zeros [.int .i64 0, .int .i64 0, .string ⟨#[]⟩, .slice none 0 0, .slice none 0 0] r) (fun j => kp j || decide (j = id) || leads (.sc (.slice none 0 0)) j) hHb2 (Nat.lt_of_lt_of_le hm3 (Nat.le_add_right _ _)) (by rw [flat_lenG _ 5 tm_len, hzl.out]) (tms_immF zs) (zeros_imm r) ?kp) ?_
          case kp =>
            intro j hj
            simp only [Bool.or_eq_true, decide_eq_true_eq] at hj
            rcases hj with (hj | rfl) | hj
            · have h1 := hkpk.out j hj
              refine ⟨by omega, Nat.lt_of_lt_of_le (by omega : j < m3) (Nat.le_add_right _ _), fun o ho => ?_⟩
              have h2 := h1.2.2 o ((hkk.out j hj).symm.trans ho)
              exact ⟨h2.1, h2.2.mono (Nat.le_trans (by omega : nx ≤ m3) (Nat.le_add_right _ _))⟩
            · refine ⟨by omega, Nat.lt_of_lt_of_le (by omega : j < m3) (Nat.le_add_right _ _), fun o ho => ?_⟩
              have ho2 := hHi.symm.trans ho
              cases ho2
              refine ⟨isIt_len (by simp; omega), ?_⟩
              exact (FixL.imm hpik.out).append (.cons rfl (.cons rfl (.cons rfl (hrk.out.fix (Nat.le_trans (by omega : m ≤ m3) (Nat.le_add_right _ _)) (.osl (Nat.lt_of_lt_of_le hm3 (Nat.le_add_right _ _)) (.imm hqik.out))))))
            · have h1 := hrk.out.lead (flat3_ne1 _) (lvs_immF _) hj (m3 + 15)
              refine ⟨by omega, Nat.lt_of_lt_of_le (by omega : j < m3) (Nat.le_add_right _ _), fun o ho => (hrk.out.lead (flat3_ne1 _) (lvs_immF _) hj _).2.2 o ho⟩
          rintro H' nx' r' ⟨hn1, hk1, hcase⟩ -
          have hn2 : m3 ≤ nx' := Nat.le_trans (Nat.le_add_right _ _) hn1
          have hkk' : Kept (∀ j, kp j = true → H' j = H j) := Kept.mk fun j hj => (hk1 j (by simp [hj])).trans (hkk.out j hj)
          have hHi' : H' id = _ := (hk1 id (by simp)).trans hHi
          have hrk' : Kept (RowP H' nx m 3 (.sc (.slice none 0 0)) (([] : List Lv).map Lv.pv)) := Kept.mk (hrk.out.mono (Nat.le_refl _) fun j g1 g2 g3 => hk1 j (by simp [g3]))
          rcases hcase with ⟨hno, rfl⟩ | ⟨y, hy, rfl, hrow'⟩
          · have hnok : Kept ((Tm.mk kind n s [] args).putL bys = none) := Kept.mk (by
              simp only [Tm.putL, putLs_none bys args i2 hlt2 hno]
              cases insts bys [] <;> rfl)
            clear hno hk1 hkk hHi hrk hHb hHb2 ihk hn1
            repeat' (first | ((with_reducible first | refine cond_pos (by omega) ?_ | refine cond_neg (by omega) ?_ | refine guard_pos (by omega) ?_ | refine guard_neg (by omega) ?_ | refine cond_ifn ?_ ?_ | refine cond_waysn ?_ ?_ | refine guard_ifn ?_ ?_ | refine guard_waysn ?_ ?_ | refine cond_if ?_ ?_ | refine cond_ways ?_ ?_ | refine guard_if ?_ ?_ | refine guard_ways ?_ ?_) <;> intro _) | simp (maxSteps := 1000000) (disch := omega) only [go_sem, Nat.reduceAdd, Nat.reduceMul, Nat.reduceSub, Nat.reduceLeDiff, Nat.reduceEqDiff, Nat.reduceBEq, ↓reduceIte, reduceCtorEq, Int.reduceEq, Int.reduceLE, Int.reduceLT, Int.reduceAdd, Int.reduceSub, Int.reduceNeg, Int.reduceToNat, Int.reduceNe, Nat.reducePow, Nat.reduceShiftRight, Nat.reduceMod, at0, at1, at2, at3, at4, List.take_succ_cons, List.drop_succ_cons, List.take_zero, List.drop_zero, List.cons_append, List.nil_append, hz1, hz2, hz3, hz4, and_self, *])
            exact fin_mut (.sc (.bool false)) (.inr rfl) (by (simp (disch := omega) only [go_sem, Nat.reduceMul, Nat.reduceSub, Nat.reduceShiftRight, Nat.reduceMod, Nat.reduceEqDiff, Nat.reduceAdd, ↓reduceIte, Nat.reduceLeDiff, *]); all_goals rfl) (show putRaw bys kind n s [] args H nx id p q kp _ _ _ from ⟨Nat.le_trans (by omega : nx ≤ nx') (Nat.le_add_right _ _), hkk'.out, .inl ⟨hnok.out, rfl⟩⟩)
          · have hsn := putLs_snoc bys args[i2] (args.take i2) zs hzs.out
            rw [hy, Option.map_some] at hsn
            have hzs2 : Kept (putLs bys (args.take (i2 + 1)) = some (zs ++ [y])) := Kept.mk (by rw [List.take_succ_eq_append_getElem hlt2]; exact hsn)
            have hrowk : Kept (H' (m + 13) = some ⟨(zs ++ [y]).flatMap Tm.pv ++ zeros [.int .i64 0, .int .i64 0, .string ⟨#[]⟩, .slice none 0 0, .slice none 0 0] (args.length - (i2 + 1)), true⟩) := Kept.mk (by
              rw [hrow', show args.length - (i2 + 1) = r by omega, List.flatMap_append]
              simp)
            clear hy hsn hk1 hkk hHi hrk hHb hHb2 ihk hn1 hrow' hzs
            repeat' (first | ((with_reducible first | refine cond_pos (by omega) ?_ | refine cond_neg (by omega) ?_ | refine guard_pos (by omega) ?_ | refine guard_neg (by omega) ?_ | refine cond_ifn ?_ ?_ | refine cond_waysn ?_ ?_ | refine guard_ifn ?_ ?_ | refine guard_waysn ?_ ?_ | refine cond_if ?_ ?_ | refine cond_ways ?_ ?_ | refine guard_if ?_ ?_ | refine guard_ways ?_ ?_) <;> intro _) | simp (maxSteps := 1000000) (disch := omega) only [go_sem, Nat.reduceAdd, Nat.reduceMul, Nat.reduceSub, Nat.reduceLeDiff, Nat.reduceEqDiff, Nat.reduceBEq, ↓reduceIte, reduceCtorEq, Int.reduceEq, Int.reduceLE, Int.reduceLT, Int.reduceAdd, Int.reduceSub, Int.reduceNeg, Int.reduceToNat, Int.reduceNe, Nat.reducePow, Nat.reduceShiftRight, Nat.reduceMod, at0, at1, at2, at3, at4, List.take_succ_cons, List.drop_succ_cons, List.take_zero, List.drop_zero, List.cons_append, List.nil_append, hz1, hz2, hz3, hz4, and_self, *])
            exact Nx.mk (args.length - (i2 + 1)) (by first | assumption | omega | rfl | (simp (disch := omega) only [go_sem, Nat.reduceMul, Nat.reduceSub, Nat.reduceShiftRight, Nat.reduceMod, Nat.reduceEqDiff, Nat.reduceAdd, ↓reduceIte, Nat.reduceLeDiff, *] <;> omega)) ⟨i2 + 1, zs ++ [y], rfl, (by first | assumption | omega | rfl | (simp (disch := omega) only [go_sem, Nat.reduceMul, Nat.reduceSub, Nat.reduceShiftRight, Nat.reduceMod, Nat.reduceEqDiff, Nat.reduceAdd, ↓reduceIte, Nat.reduceLeDiff, *] <;> omega)), (by first | assumption | omega | rfl | (simp (disch := omega) only [go_sem, Nat.reduceMul, Nat.reduceSub, Nat.reduceShiftRight, Nat.reduceMod, Nat.reduceEqDiff, Nat.reduceAdd, ↓reduceIte, Nat.reduceLeDiff, *] <;> omega)), Nat.lt_of_lt_of_le (by omega : m + 13 < nx') (Nat.le_add_right _ _), hzs2, Kept.mk (by simp [hzl.out]), hkk', hHi', hrowk, hrk'⟩
        · obtain rfl : i2 = args.length := by omega
          have hzs' := hzs.out
          rw [List.take_length] at hzs'
          have hzk := Kept.mk hzs'
          have hHb' : Kept (H3 (m + 13) = some ⟨zs.flatMap Tm.pv, true⟩) := Kept.mk (by rw [hHb.out, Nat.sub_self]; simp [zeros])
          clear hzs' hzs hHb ihk
          repeat' (first | ((with_reducible first | refine cond_pos (by omega) ?_ | refine cond_neg (by omega) ?_ | refine guard_pos (by omega) ?_ | refine guard_neg (by omega) ?_ | refine cond_ifn ?_ ?_ | refine cond_waysn ?_ ?_ | refine guard_ifn ?_ ?_ | refine guard_waysn ?_ ?_ | refine cond_if ?_ ?_ | refine cond_ways ?_ ?_ | refine guard_if ?_ ?_ | refine guard_ways ?_ ?_) <;> intro _) | simp (maxSteps := 1000000) (disch := omega) only [go_sem, Nat.reduceAdd, Nat.reduceMul, Nat.reduceSub, Nat.reduceLeDiff, Nat.reduceEqDiff, Nat.reduceBEq, ↓reduceIte, reduceCtorEq, Int.reduceEq, Int.reduceLE, Int.reduceLT, Int.reduceAdd, Int.reduceSub, Int.reduceNeg, Int.reduceToNat, Int.reduceNe, Nat.reducePow, Nat.reduceShiftRight, Nat.reduceMod, at0, at1, at2, at3, at4, List.take_succ_cons, List.drop_succ_cons, List.take_zero, List.drop_zero, List.cons_append, List.nil_append, hz1, hz2, hz3, hz4, and_self, *])
          exact fin_mut (.sc (.bool true)) (.inr rfl) (by (simp (disch := omega) only [go_sem, Nat.reduceMul, Nat.reduceSub, Nat.reduceShiftRight, Nat.reduceMod, Nat.reduceEqDiff, Nat.reduceAdd, ↓reduceIte, Nat.reduceLeDiff, *]); all_goals rfl) (show putRaw bys kind n s [] args H nx id p q kp _ _ _ from ⟨Nat.le_trans (by omega : nx ≤ m3) (Nat.le_add_right _ _), hkk.out, .inr ⟨([] : List Lv), zs, (.sc (.slice none 0 0)), .osl (m + 13) 0 args.length 5, hysk.out, hzk.out, rfl, hHi, hrk.out.mono (Nat.le_trans (by omega : m ≤ m3) (Nat.le_add_right _ _)) (fun _ _ _ _ => rfl), .inr ⟨m + 13, by omega, Nat.lt_of_lt_of_le hm3 (Nat.le_add_right _ _), by rw [List.length_map, hzl.out], hHb'.out.trans (by rw [List.flatMap_def])⟩⟩⟩)
    · have hl00 : 0 < ls.length := by omega
      repeat' (first | ((with_reducible first | refine cond_pos (by omega) ?_ | refine cond_neg (by omega) ?_ | refine guard_pos (by omega) ?_ | refine guard_neg (by omega) ?_ | refine cond_ifn ?_ ?_ | refine cond_waysn ?_ ?_ | refine guard_ifn ?_ ?_ | refine guard_waysn ?_ ?_ | refine cond_if ?_ ?_ | refine cond_ways ?_ ?_ | refine guard_if ?_ ?_ | refine guard_ways ?_ ?_) <;> intro _) | simp (maxSteps := 1000000) (disch := omega) only [go_sem, Nat.reduceAdd, Nat.reduceMul, Nat.reduceSub, Nat.reduceLeDiff, Nat.reduceEqDiff, Nat.reduceBEq, ↓reduceIte, reduceCtorEq, Int.reduceEq, Int.reduceLE, Int.reduceLT, Int.reduceAdd, Int.reduceSub, Int.reduceNeg, Int.reduceToNat, Int.reduceNe, Nat.reducePow, Nat.reduceShiftRight, Nat.reduceMod, mc_term_putLevels, Tm.pv, at0, at1, at2, at3, at4, List.take_succ_cons, List.drop_succ_cons, List.take_zero, List.drop_zero, List.cons_append, List.nil_append, hz1, hz2, hz3, hz4, and_self, *])
      refine c_loopW 151115722948229019468736 (by kernel_rfl) (fun j f H2 m => ∃ (i : Nat) (ys : List Lv) (a : PV), j = ls.length - i ∧ i ≤ ls.length ∧ f 52 = .sc (.int .i64 i) ∧ nx ≤ m ∧ Kept (insts bys (ls.take i) = some ys) ∧ Kept (ys.length = i) ∧ Kept (∀ j, kp j = true → H2 j = H j) ∧
        H2 id = some ⟨p ++ (.sc (.int .i64 kind) :: .sc (.int .i64 n) :: .sc (.string s) :: a :: .sc (.slice none 0 0) :: q), true⟩ ∧ ∃ idr, nx ≤ idr ∧ idr < m ∧ a = .osl idr 0 ls.length 3 ∧ H2 idr = some ⟨halfG Lv.pv z3 ys (ls.length - i), true⟩) _ ⟨0, [], _, rfl, (by first | assumption | omega | rfl | (simp (disch := omega) only [go_sem, Nat.reduceMul, Nat.reduceSub, Nat.reduceShiftRight, Nat.reduceMod, Nat.reduceEqDiff, Nat.reduceAdd, ↓reduceIte, Nat.reduceLeDiff, *] <;> omega)), (by first | assumption | omega | rfl | (simp (disch := omega) only [go_sem, Nat.reduceMul, Nat.reduceSub, Nat.reduceShiftRight, Nat.reduceMod, Nat.reduceEqDiff, Nat.reduceAdd, ↓reduceIte, Nat.reduceLeDiff, *] <;> omega)), Nat.le_add_right _ _, Kept.mk rfl, Kept.mk rfl, Kept.mk (fun j hj => by have := hkp2.out j hj; simp [upd, this.1]; try omega), upd_same _ _ _, _, Nat.le_add_right _ _, Nat.add_lt_add_left (by omega) _, rfl, (upd_ne _ _ (show nx + 37 ≠ id by omega)).trans ((upd_same _ _ _).trans rfl)⟩ ?_
      clear hl0 hH
      rintro _ f H2 m ⟨i, ys, _, rfl, hi, e52, hm2, hys, hyl, hkk, hHi, idr, hr1, hr2, rfl, hr3⟩
      by_cases hlt : i < ls.length
      · have eg : ls[i]? = some ls[i] := List.getElem?_eq_getElem hlt
        have c1 := Inst_p ls[i] bys
        rw [← instV_eq] at c1
        simp only [lvs] at c1
        cases hv : ls[i].instV bys with
        | none =>
          have hnok : Kept ((Tm.mk kind n s ls args).putL bys = none) := Kept.mk (by simp only [Tm.putL, insts_none bys ls i hlt hv])
          rw [hv] at c1
          simp only [instPV] at c1
          clear ihk hv
          repeat' (first | ((with_reducible first | refine cond_pos (by omega) ?_ | refine cond_neg (by omega) ?_ | refine guard_pos (by omega) ?_ | refine guard_neg (by omega) ?_ | refine cond_ifn ?_ ?_ | refine cond_waysn ?_ ?_ | refine guard_ifn ?_ ?_ | refine guard_waysn ?_ ?_ | refine cond_if ?_ ?_ | refine cond_ways ?_ ?_ | refine guard_if ?_ ?_ | refine guard_ways ?_ ?_) <;> intro _) | (((with_reducible refine call_id ?_); (first | (refine call_pure (c1) ?_)))) | simp (maxSteps := 1000000) (disch := omega) only [go_sem, Nat.reduceAdd, Nat.reduceMul, Nat.reduceSub, Nat.reduceLeDiff, Nat.reduceEqDiff, Nat.reduceBEq, ↓reduceIte, reduceCtorEq, Int.reduceEq, Int.reduceLE, Int.reduceLT, Int.reduceAdd, Int.reduceSub, Int.reduceNeg, Int.reduceToNat, Int.reduceNe, Nat.reducePow, Nat.reduceShiftRight, Nat.reduceMod, at0, at1, at2, at3, at4, List.take_succ_cons, List.drop_succ_cons, List.take_zero, List.drop_zero, List.cons_append, List.nil_append, hz1, hz2, hz3, hz4, and_self, *])
          exact fin_mut (.sc (.bool false)) (.inr rfl) (by (simp (disch := omega) only [go_sem, Nat.reduceMul, Nat.reduceSub, Nat.reduceShiftRight, Nat.reduceMod, Nat.reduceEqDiff, Nat.reduceAdd, ↓reduceIte, Nat.reduceLeDiff, *]); all_goals rfl) (show putRaw bys kind n s ls args H nx id p q kp _ _ _ from ⟨Nat.le_trans hm2 (Nat.le_add_right _ _), (fun j hj => by have h1 := hkp2.out j hj; have h2 := hkk.out j hj; simp [upd, show j ≠ m + 15 by omega, h2]), .inl ⟨hnok.out, rfl⟩⟩)
        | some y =>
          rw [hv] at c1
          simp only [instPV] at c1
          have hsn := insts_snoc bys ls[i] (ls.take i) ys hys.out
          rw [hv, Option.map_some] at hsn
          have hys2 : Kept (insts bys (ls.take (i + 1)) = some (ys ++ [y])) := Kept.mk (by rw [List.take_succ_eq_append_getElem hlt]; exact hsn)
          have hhl := halfG_len (g := Lv.pv) pv_len (rfl : z3.length = 3) ys (ls.length - i)
          rw [hyl.out] at hhl
          have hhs := halfG_set' (g := Lv.pv) pv_len (rfl : z3.length = 3) ys i ls.length y hlt hyl.out
          have hle : i * 3 + 3 ≤ i * 3 + (ls.length - i) * 3 := by omega
          clear ihk hv hsn hys
          repeat' (first | ((with_reducible first | refine cond_pos (by omega) ?_ | refine cond_neg (by omega) ?_ | refine guard_pos (by omega) ?_ | refine guard_neg (by omega) ?_ | refine cond_ifn ?_ ?_ | refine cond_waysn ?_ ?_ | refine guard_ifn ?_ ?_ | refine guard_waysn ?_ ?_ | refine cond_if ?_ ?_ | refine cond_ways ?_ ?_ | refine guard_if ?_ ?_ | refine guard_ways ?_ ?_) <;> intro _) | (((with_reducible refine call_id ?_); (first | (refine call_pure (c1) ?_)))) | simp (maxSteps := 1000000) (disch := omega) only [go_sem, Nat.reduceAdd, Nat.reduceMul, Nat.reduceSub, Nat.reduceLeDiff, Nat.reduceEqDiff, Nat.reduceBEq, ↓reduceIte, reduceCtorEq, Int.reduceEq, Int.reduceLE, Int.reduceLT, Int.reduceAdd, Int.reduceSub, Int.reduceNeg, Int.reduceToNat, Int.reduceNe, Nat.reducePow, Nat.reduceShiftRight, Nat.reduceMod, at0, at1, at2, at3, at4, List.take_succ_cons, List.drop_succ_cons, List.take_zero, List.drop_zero, List.cons_append, List.nil_append, hz1, hz2, hz3, hz4, and_self, *])
          exact Nx.mk (ls.length - (i + 1)) (by first | assumption | omega | rfl | (simp (disch := omega) only [go_sem, Nat.reduceMul, Nat.reduceSub, Nat.reduceShiftRight, Nat.reduceMod, Nat.reduceEqDiff, Nat.reduceAdd, ↓reduceIte, Nat.reduceLeDiff, *] <;> omega)) ⟨i + 1, ys ++ [y], _, rfl, (by first | assumption | omega | rfl | (simp (disch := omega) only [go_sem, Nat.reduceMul, Nat.reduceSub, Nat.reduceShiftRight, Nat.reduceMod, Nat.reduceEqDiff, Nat.reduceAdd, ↓reduceIte, Nat.reduceLeDiff, *] <;> omega)), (by first | assumption | omega | rfl | (simp (disch := omega) only [go_sem, Nat.reduceMul, Nat.reduceSub, Nat.reduceShiftRight, Nat.reduceMod, Nat.reduceEqDiff, Nat.reduceAdd, ↓reduceIte, Nat.reduceLeDiff, *] <;> omega)), Nat.le_trans hm2 (Nat.le_add_right _ _), hys2, Kept.mk (by simp [hyl.out]), Kept.mk (fun j hj => by have h1 := hkp2.out j hj; have h2 := hkk.out j hj; simp [upd, show j ≠ m + 15 by omega, show j ≠ idr by omega, h2]), by (simp [upd, show id ≠ m + 15 by omega, show id ≠ idr by omega]; exact hHi), idr, hr1, Nat.lt_of_lt_of_le hr2 (Nat.le_add_right _ _), rfl, upd_same _ _ _⟩
      · obtain rfl : i = ls.length := by omega
        have hys' := hys.out
        rw [List.take_length] at hys'
        have hysk := Kept.mk hys'
        have hrow : RowP H2 nx m 3 (.osl idr 0 ls.length 3) (ys.map Lv.pv) := .inr ⟨idr, hr1, hr2, by rw [List.length_map, hyl.out], by rw [hr3, Nat.sub_self, halfG, List.flatMap_def]; simp [zeros]⟩
        clear hys hys' hr3
        by_cases ha0 : args.length = 0
        · obtain rfl : args = [] := List.eq_nil_of_length_eq_zero ha0
          have hrk := Kept.mk hrow
          clear hrow ihk
          repeat' (first | ((with_reducible first | refine cond_pos (by omega) ?_ | refine cond_neg (by omega) ?_ | refine guard_pos (by omega) ?_ | refine guard_neg (by omega) ?_ | refine cond_ifn ?_ ?_ | refine cond_waysn ?_ ?_ | refine guard_ifn ?_ ?_ | refine guard_waysn ?_ ?_ | refine cond_if ?_ ?_ | refine cond_ways ?_ ?_ | refine guard_if ?_ ?_ | refine guard_ways ?_ ?_) <;> intro _) | simp (maxSteps := 1000000) (disch := omega) only [go_sem, Nat.reduceAdd, Nat.reduceMul, Nat.reduceSub, Nat.reduceLeDiff, Nat.reduceEqDiff, Nat.reduceBEq, ↓reduceIte, reduceCtorEq, Int.reduceEq, Int.reduceLE, Int.reduceLT, Int.reduceAdd, Int.reduceSub, Int.reduceNeg, Int.reduceToNat, Int.reduceNe, Nat.reducePow, Nat.reduceShiftRight, Nat.reduceMod, at0, at1, at2, at3, at4, List.take_succ_cons, List.drop_succ_cons, List.take_zero, List.drop_zero, List.cons_append, List.nil_append, hz1, hz2, hz3, hz4, and_self, *])
          refine c_rounds 1 ?_
          repeat' (first | ((with_reducible first | refine cond_pos (by omega) ?_ | refine cond_neg (by omega) ?_ | refine guard_pos (by omega) ?_ | refine guard_neg (by omega) ?_ | refine cond_ifn ?_ ?_ | refine cond_waysn ?_ ?_ | refine guard_ifn ?_ ?_ | refine guard_waysn ?_ ?_ | refine cond_if ?_ ?_ | refine cond_ways ?_ ?_ | refine guard_if ?_ ?_ | refine guard_ways ?_ ?_) <;> intro _) | simp (maxSteps := 1000000) (disch := omega) only [go_sem, Nat.reduceAdd, Nat.reduceMul, Nat.reduceSub, Nat.reduceLeDiff, Nat.reduceEqDiff, Nat.reduceBEq, ↓reduceIte, reduceCtorEq, Int.reduceEq, Int.reduceLE, Int.reduceLT, Int.reduceAdd, Int.reduceSub, Int.reduceNeg, Int.reduceToNat, Int.reduceNe, Nat.reducePow, Nat.reduceShiftRight, Nat.reduceMod, rounds_next, *])
          exact fin_mut (.sc (.bool true)) (.inr rfl) (by (simp (disch := omega) only [go_sem, Nat.reduceMul, Nat.reduceSub, Nat.reduceShiftRight, Nat.reduceMod, Nat.reduceEqDiff, Nat.reduceAdd, ↓reduceIte, Nat.reduceLeDiff, *]); all_goals rfl) (show putRaw bys kind n s ls [] H nx id p q kp _ _ _ from ⟨Nat.le_trans hm2 (Nat.le_add_right _ _), hkk.out, .inr ⟨ys, [], (.osl idr 0 ls.length 3), .sc (.slice none 0 0), hysk.out, rfl, rfl, hHi, hrk.out.mono (Nat.le_add_right _ _) (fun _ _ _ _ => rfl), .inl ⟨rfl, rfl⟩⟩⟩)
        · have ha00 : 0 < args.length := by omega
          have hrk := Kept.mk hrow
          clear hrow
          repeat' (first | ((with_reducible first | refine cond_pos (by omega) ?_ | refine cond_neg (by omega) ?_ | refine guard_pos (by omega) ?_ | refine guard_neg (by omega) ?_ | refine cond_ifn ?_ ?_ | refine cond_waysn ?_ ?_ | refine guard_ifn ?_ ?_ | refine guard_waysn ?_ ?_ | refine cond_if ?_ ?_ | refine cond_ways ?_ ?_ | refine guard_if ?_ ?_ | refine guard_ways ?_ ?_) <;> intro _) | simp (maxSteps := 1000000) (disch := omega) only [go_sem, Nat.reduceAdd, Nat.reduceMul, Nat.reduceSub, Nat.reduceLeDiff, Nat.reduceEqDiff, Nat.reduceBEq, ↓reduceIte, reduceCtorEq, Int.reduceEq, Int.reduceLE, Int.reduceLT, Int.reduceAdd, Int.reduceSub, Int.reduceNeg, Int.reduceToNat, Int.reduceNe, Nat.reducePow, Nat.reduceShiftRight, Nat.reduceMod, at0, at1, at2, at3, at4, List.take_succ_cons, List.drop_succ_cons, List.take_zero, List.drop_zero, List.cons_append, List.nil_append, hz1, hz2, hz3, hz4, and_self, *])
          refine c_loopW 83076591280232213527812754179621952 (by kernel_rfl) (fun j f H3 m3 => ∃ (i2 : Nat) (zs : List Tm), j = args.length - i2 ∧ i2 ≤ args.length ∧ f 97 = .sc (.int .i64 i2) ∧ m + 13 < m3 ∧ Kept (putLs bys (args.take i2) = some zs) ∧ Kept (zs.length = i2) ∧ Kept (∀ j, kp j = true → H3 j = H j) ∧
            H3 id = some ⟨p ++ (.sc (.int .i64 kind) :: .sc (.int .i64 n) :: .sc (.string s) :: (.osl idr 0 ls.length 3) :: .osl (m + 13) 0 args.length 5 :: q), true⟩ ∧ Kept (H3 (m + 13) = some ⟨zs.flatMap Tm.pv ++ zeros [.int .i64 0, .int .i64 0, .string ⟨#[]⟩, .slice none 0 0, .slice none 0 0] (args.length - i2), true⟩) ∧ Kept (RowP H3 nx m 3 (.osl idr 0 ls.length 3) (ys.map Lv.pv))) _
            ⟨0, [], rfl, (by first | assumption | omega | rfl | (simp (disch := omega) only [go_sem, Nat.reduceMul, Nat.reduceSub, Nat.reduceShiftRight, Nat.reduceMod, Nat.reduceEqDiff, Nat.reduceAdd, ↓reduceIte, Nat.reduceLeDiff, *] <;> omega)), (by first | assumption | omega | rfl | (simp (disch := omega) only [go_sem, Nat.reduceMul, Nat.reduceSub, Nat.reduceShiftRight, Nat.reduceMod, Nat.reduceEqDiff, Nat.reduceAdd, ↓reduceIte, Nat.reduceLeDiff, *] <;> omega)), Nat.add_lt_add_left (by omega) _, Kept.mk rfl, Kept.mk rfl, Kept.mk (fun j hj => by have h1 := hkp2.out j hj; exact ((upd_ne _ _ h1.1).trans (upd_ne _ _ (show j ≠ m + 13 by omega))).trans (hkk.out j hj)), upd_same _ _ _, Kept.mk ((upd_ne _ _ (show m + 13 ≠ id by omega)).trans ((upd_same _ _ _).trans rfl)), Kept.mk (hrk.out.mono (Nat.le_refl _) fun j g1 g2 _ => (upd_ne _ _ (show j ≠ id by omega)).trans (upd_ne _ _ (show j ≠ m + 13 by omega)))⟩ ?_
          clear hkk hrk hHi
          rintro _ f3 H3 m3 ⟨i2, zs, rfl, hi2, e97, hm3, hzs, hzl, hkk, hHi, hHb, hrk⟩
          by_cases hlt2 : i2 < args.length
          · have eg : args[i2]? = some args[i2] := List.getElem?_eq_getElem hlt2
            have hn := nodesT_mem args i2 hlt2
            have hs := sizeL_mem args i2 hlt2
            repeat' (first | ((with_reducible first | refine cond_pos (by omega) ?_ | refine cond_neg (by omega) ?_ | refine guard_pos (by omega) ?_ | refine guard_neg (by omega) ?_ | refine cond_ifn ?_ ?_ | refine cond_waysn ?_ ?_ | refine guard_ifn ?_ ?_ | refine guard_waysn ?_ ?_ | refine cond_if ?_ ?_ | refine cond_ways ?_ ?_ | refine guard_if ?_ ?_ | refine guard_ways ?_ ?_) <;> intro _) | simp (maxSteps := 1000000) (disch := omega) only [go_sem, Nat.reduceAdd, Nat.reduceMul, Nat.reduceSub, Nat.reduceLeDiff, Nat.reduceEqDiff, Nat.reduceBEq, ↓reduceIte, reduceCtorEq, Int.reduceEq, Int.reduceLE, Int.reduceLT, Int.reduceAdd, Int.reduceSub, Int.reduceNeg, Int.reduceToNat, Int.reduceNe, Nat.reducePow, Nat.reduceShiftRight, Nat.reduceMod, at0, at1, at2, at3, at4, List.take_succ_cons, List.drop_succ_cons, List.take_zero, List.drop_zero, List.cons_append, List.nil_append, hz1, hz2, hz3, hz4, and_self, *])
            obtain ⟨r, hr⟩ : ∃ r, args.length - i2 = r + 1 := ⟨args.length - i2 - 1, by omega⟩
            have hHb2 := hHb.out
            rw [hr] at hHb2
            refine call_mut (ihk.out args[i2] (by omega) (by omega) _ _ (m + 13) (i2 * 5) (zs.flatMap Tm.pv) (zeros [.int .i64 0, .int .i64 0, .string ⟨#[]⟩, .slice none 0 0, .slice none 0 0] r) (fun j => kp j || decide (j = id) || leads (.osl idr 0 ls.length 3) j) hHb2 (Nat.lt_of_lt_of_le hm3 (Nat.le_add_right _ _)) (by rw [flat_lenG _ 5 tm_len, hzl.out]) (tms_immF zs) (zeros_imm r) ?kp) ?_
            case kp =>
              intro j hj
              simp only [Bool.or_eq_true, decide_eq_true_eq] at hj
              rcases hj with (hj | rfl) | hj
              · have h1 := hkpk.out j hj
                refine ⟨by omega, Nat.lt_of_lt_of_le (by omega : j < m3) (Nat.le_add_right _ _), fun o ho => ?_⟩
                have h2 := h1.2.2 o ((hkk.out j hj).symm.trans ho)
                exact ⟨h2.1, h2.2.mono (Nat.le_trans (by omega : nx ≤ m3) (Nat.le_add_right _ _))⟩
              · refine ⟨by omega, Nat.lt_of_lt_of_le (by omega : j < m3) (Nat.le_add_right _ _), fun o ho => ?_⟩
                have ho2 := hHi.symm.trans ho
                cases ho2
                refine ⟨isIt_len (by simp; omega), ?_⟩
                exact (FixL.imm hpik.out).append (.cons rfl (.cons rfl (.cons rfl (hrk.out.fix (Nat.le_trans (by omega : m ≤ m3) (Nat.le_add_right _ _)) (.osl (Nat.lt_of_lt_of_le hm3 (Nat.le_add_right _ _)) (.imm hqik.out))))))
              · have h1 := hrk.out.lead (flat3_ne1 _) (lvs_immF _) hj (m3 + 15)
                refine ⟨by omega, Nat.lt_of_lt_of_le (by omega : j < m3) (Nat.le_add_right _ _), fun o ho => (hrk.out.lead (flat3_ne1 _) (lvs_immF _) hj _).2.2 o ho⟩
            rintro H' nx' r' ⟨hn1, hk1, hcase⟩ -
            have hn2 : m3 ≤ nx' := Nat.le_trans (Nat.le_add_right _ _) hn1
            have hkk' : Kept (∀ j, kp j = true → H' j = H j) := Kept.mk fun j hj => (hk1 j (by simp [hj])).trans (hkk.out j hj)
            have hHi' : H' id = _ := (hk1 id (by simp)).trans hHi
            have hrk' : Kept (RowP H' nx m 3 (.osl idr 0 ls.length 3) (ys.map Lv.pv)) := Kept.mk (hrk.out.mono (Nat.le_refl _) fun j g1 g2 g3 => hk1 j (by simp [g3]))
            rcases hcase with ⟨hno, rfl⟩ | ⟨y, hy, rfl, hrow'⟩
            · have hnok : Kept ((Tm.mk kind n s ls args).putL bys = none) := Kept.mk (by
                simp only [Tm.putL, putLs_none bys args i2 hlt2 hno]
                cases insts bys ls <;> rfl)
              clear hno hk1 hkk hHi hrk hHb hHb2 ihk hn1
              repeat' (first | ((with_reducible first | refine cond_pos (by omega) ?_ | refine cond_neg (by omega) ?_ | refine guard_pos (by omega) ?_ | refine guard_neg (by omega) ?_ | refine cond_ifn ?_ ?_ | refine cond_waysn ?_ ?_ | refine guard_ifn ?_ ?_ | refine guard_waysn ?_ ?_ | refine cond_if ?_ ?_ | refine cond_ways ?_ ?_ | refine guard_if ?_ ?_ | refine guard_ways ?_ ?_) <;> intro _) | simp (maxSteps := 1000000) (disch := omega) only [go_sem, Nat.reduceAdd, Nat.reduceMul, Nat.reduceSub, Nat.reduceLeDiff, Nat.reduceEqDiff, Nat.reduceBEq, ↓reduceIte, reduceCtorEq, Int.reduceEq, Int.reduceLE, Int.reduceLT, Int.reduceAdd, Int.reduceSub, Int.reduceNeg, Int.reduceToNat, Int.reduceNe, Nat.reducePow, Nat.reduceShiftRight, Nat.reduceMod, at0, at1, at2, at3, at4, List.take_succ_cons, List.drop_succ_cons, List.take_zero, List.drop_zero, List.cons_append, List.nil_append, hz1, hz2, hz3, hz4, and_self, *])
              exact fin_mut (.sc (.bool false)) (.inr rfl) (by (simp (disch := omega) only [go_sem, Nat.reduceMul, Nat.reduceSub, Nat.reduceShiftRight, Nat.reduceMod, Nat.reduceEqDiff, Nat.reduceAdd, ↓reduceIte, Nat.reduceLeDiff, *]); all_goals rfl) (show putRaw bys kind n s ls args H nx id p q kp _ _ _ from ⟨Nat.le_trans (by omega : nx ≤ nx') (Nat.le_add_right _ _), hkk'.out, .inl ⟨hnok.out, rfl⟩⟩)
            · have hsn := putLs_snoc bys args[i2] (args.take i2) zs hzs.out
              rw [hy, Option.map_some] at hsn
              have hzs2 : Kept (putLs bys (args.take (i2 + 1)) = some (zs ++ [y])) := Kept.mk (by rw [List.take_succ_eq_append_getElem hlt2]; exact hsn)
              have hrowk : Kept (H' (m + 13) = some ⟨(zs ++ [y]).flatMap Tm.pv ++ zeros [.int .i64 0, .int .i64 0, .string ⟨#[]⟩, .slice none 0 0, .slice none 0 0] (args.length - (i2 + 1)), true⟩) := Kept.mk (by
                rw [hrow', show args.length - (i2 + 1) = r by omega, List.flatMap_append]
                simp)
              clear hy hsn hk1 hkk hHi hrk hHb hHb2 ihk hn1 hrow' hzs
              repeat' (first | ((with_reducible first | refine cond_pos (by omega) ?_ | refine cond_neg (by omega) ?_ | refine guard_pos (by omega) ?_ | refine guard_neg (by omega) ?_ | refine cond_ifn ?_ ?_ | refine cond_waysn ?_ ?_ | refine guard_ifn ?_ ?_ | refine guard_waysn ?_ ?_ | refine cond_if ?_ ?_ | refine cond_ways ?_ ?_ | refine guard_if ?_ ?_ | refine guard_ways ?_ ?_) <;> intro _) | simp (maxSteps := 1000000) (disch := omega) only [go_sem, Nat.reduceAdd, Nat.reduceMul, Nat.reduceSub, Nat.reduceLeDiff, Nat.reduceEqDiff, Nat.reduceBEq, ↓reduceIte, reduceCtorEq, Int.reduceEq, Int.reduceLE, Int.reduceLT, Int.reduceAdd, Int.reduceSub, Int.reduceNeg, Int.reduceToNat, Int.reduceNe, Nat.reducePow, Nat.reduceShiftRight, Nat.reduceMod, at0, at1, at2, at3, at4, List.take_succ_cons, List.drop_succ_cons, List.take_zero, List.drop_zero, List.cons_append, List.nil_append, hz1, hz2, hz3, hz4, and_self, *])
              exact Nx.mk (args.length - (i2 + 1)) (by first | assumption | omega | rfl | (simp (disch := omega) only [go_sem, Nat.reduceMul, Nat.reduceSub, Nat.reduceShiftRight, Nat.reduceMod, Nat.reduceEqDiff, Nat.reduceAdd, ↓reduceIte, Nat.reduceLeDiff, *] <;> omega)) ⟨i2 + 1, zs ++ [y], rfl, (by first | assumption | omega | rfl | (simp (disch := omega) only [go_sem, Nat.reduceMul, Nat.reduceSub, Nat.reduceShiftRight, Nat.reduceMod, Nat.reduceEqDiff, Nat.reduceAdd, ↓reduceIte, Nat.reduceLeDiff, *] <;> omega)), (by first | assumption | omega | rfl | (simp (disch := omega) only [go_sem, Nat.reduceMul, Nat.reduceSub, Nat.reduceShiftRight, Nat.reduceMod, Nat.reduceEqDiff, Nat.reduceAdd, ↓reduceIte, Nat.reduceLeDiff, *] <;> omega)), Nat.lt_of_lt_of_le (by omega : m + 13 < nx') (Nat.le_add_right _ _), hzs2, Kept.mk (by simp [hzl.out]), hkk', hHi', hrowk, hrk'⟩
          · obtain rfl : i2 = args.length := by omega
            have hzs' := hzs.out
            rw [List.take_length] at hzs'
            have hzk := Kept.mk hzs'
            have hHb' : Kept (H3 (m + 13) = some ⟨zs.flatMap Tm.pv, true⟩) := Kept.mk (by rw [hHb.out, Nat.sub_self]; simp [zeros])
            clear hzs' hzs hHb ihk
            repeat' (first | ((with_reducible first | refine cond_pos (by omega) ?_ | refine cond_neg (by omega) ?_ | refine guard_pos (by omega) ?_ | refine guard_neg (by omega) ?_ | refine cond_ifn ?_ ?_ | refine cond_waysn ?_ ?_ | refine guard_ifn ?_ ?_ | refine guard_waysn ?_ ?_ | refine cond_if ?_ ?_ | refine cond_ways ?_ ?_ | refine guard_if ?_ ?_ | refine guard_ways ?_ ?_) <;> intro _) | simp (maxSteps := 1000000) (disch := omega) only [go_sem, Nat.reduceAdd, Nat.reduceMul, Nat.reduceSub, Nat.reduceLeDiff, Nat.reduceEqDiff, Nat.reduceBEq, ↓reduceIte, reduceCtorEq, Int.reduceEq, Int.reduceLE, Int.reduceLT, Int.reduceAdd, Int.reduceSub, Int.reduceNeg, Int.reduceToNat, Int.reduceNe, Nat.reducePow, Nat.reduceShiftRight, Nat.reduceMod, at0, at1, at2, at3, at4, List.take_succ_cons, List.drop_succ_cons, List.take_zero, List.drop_zero, List.cons_append, List.nil_append, hz1, hz2, hz3, hz4, and_self, *])
            exact fin_mut (.sc (.bool true)) (.inr rfl) (by (simp (disch := omega) only [go_sem, Nat.reduceMul, Nat.reduceSub, Nat.reduceShiftRight, Nat.reduceMod, Nat.reduceEqDiff, Nat.reduceAdd, ↓reduceIte, Nat.reduceLeDiff, *]); all_goals rfl) (show putRaw bys kind n s ls args H nx id p q kp _ _ _ from ⟨Nat.le_trans (by omega : nx ≤ m3) (Nat.le_add_right _ _), hkk.out, .inr ⟨ys, zs, (.osl idr 0 ls.length 3), .osl (m + 13) 0 args.length 5, hysk.out, hzk.out, rfl, hHi, hrk.out.mono (Nat.le_trans (by omega : m ≤ m3) (Nat.le_add_right _ _)) (fun _ _ _ _ => rfl), .inr ⟨m + 13, by omega, Nat.lt_of_lt_of_le hm3 (Nat.le_add_right _ _), by rw [List.length_map, hzl.out], hHb'.out.trans (by rw [List.flatMap_def])⟩⟩⟩)
end
section
set_option maxRecDepth 20000
attribute [local go_sem] pv_len pv_take Nat.add_assoc tm_len tm_take pv_one tm_one id_ne id_ne' id_ne2 List.append_assoc
theorem instV_nodes {l y : Lv} {bys : List Lv} (h : l.instV bys = some y) : y.nodes ≤ 64 := by
  rw [instV_eq] at h
  unfold Lv.instR at h
  split at h
  · cases h; rename_i h; exact h.2.2
  · cases h
theorem insts_nodes (bys : List Lv) : ∀ (xs ys : List Lv), insts bys xs = some ys → nodesL ys ≤ 64 * nodesL xs
  | [], ys, h => by simp only [insts, Option.some.injEq] at h; subst h; simp [nodesL]
  | x :: r, ys, h => by
    simp only [insts] at h
    split at h
    · rename_i y zs h1 h2
      cases h
      have := insts_nodes bys r zs h2
      have := instV_nodes h1
      have := nodes_pos x
      simp only [nodesL]
      omega
    · cases h
mutual
theorem putL_nodes (bys : List Lv) : ∀ (t u : Tm), t.putL bys = some u → u.nodes ≤ 64 * t.nodes
  | .mk k n s ls args, u, h => by
    simp only [Tm.putL] at h
    split at h
    · rename_i ls' args' h1 h2
      cases h
      have := insts_nodes bys ls ls' h1
      have := putLs_nodes bys args args' h2
      simp only [Tm.nodes]
      omega
    · cases h
theorem putLs_nodes (bys : List Lv) : ∀ (ts us : List Tm), putLs bys ts = some us → nodesT us ≤ 64 * nodesT ts
  | [], us, h => by simp only [putLs, Option.some.injEq] at h; subst h; simp [nodesT]
  | t :: r, us, h => by
    simp only [putLs] at h
    split at h
    · rename_i y ys h1 h2
      cases h
      have := putL_nodes bys t y h1
      have := putLs_nodes bys r ys h2
      simp only [nodesT]
      omega
    · cases h
end
set_option maxHeartbeats 4000000 in
theorem term_Levels_p (t : Tm) (bys : List Lv) (hm : t.nodes ≤ 2 ^ 40) : PPure Try.prog F.term_Levels [.agg t.pv, .sl 3 (bys.map Lv.pv)] (optT (levelsR t bys)) := by
  refine pure_by is_term_Levels (by simp) (optT_imm _) fun hb nx => ?_
  have hb0 : bys.length ≤ 9223372036854775807 := by simp [bndL, PV.bnd] at hb; exact hb.2.1
  have c1 := tRight_p t hm bys.length 1125899906842624
  clear hb
  by_cases hr : t.right bys.length 1125899906842624 = true
  · have hn := (right_formed hr).2.2.2.2
    rw [hr] at c1
    have hrk := Kept.mk hr
    clear hr
    repeat' (first | ((with_reducible first | refine cond_pos (by omega) ?_ | refine cond_neg (by omega) ?_ | refine guard_pos (by omega) ?_ | refine guard_neg (by omega) ?_ | refine cond_ifn ?_ ?_ | refine cond_waysn ?_ ?_ | refine guard_ifn ?_ ?_ | refine guard_waysn ?_ ?_ | refine cond_if ?_ ?_ | refine cond_ways ?_ ?_ | refine guard_if ?_ ?_ | refine guard_ways ?_ ?_) <;> intro _) | (((with_reducible refine call_id ?_); (first | (refine call_pure (c1) ?_)))) | simp (maxSteps := 1000000) (disch := omega) only [go_sem, Nat.reduceAdd, Nat.reduceMul, Nat.reduceSub, Nat.reduceLeDiff, Nat.reduceEqDiff, Nat.reduceBEq, ↓reduceIte, reduceCtorEq, Int.reduceEq, Int.reduceLE, Int.reduceLT, Int.reduceAdd, Int.reduceSub, Int.reduceNeg, Int.reduceToNat, Int.reduceNe, Nat.reducePow, Nat.reduceShiftRight, Nat.reduceMod, mc_term_Levels, *])
    refine call_mut (putLevels_p bys t.size t (Nat.le_refl _) hm _ _ (nx + 8) 0 [] [] (fun j => decide (j = nx + 1)) (upd_same _ _ _) (Nat.add_lt_add_left (by decide) _) rfl rfl rfl ?kp) ?_
    case kp =>
      intro j hj
      obtain rfl : j = nx + 1 := by simpa using hj
      refine ⟨by omega, Nat.add_lt_add_left (by decide) _, fun o ho => ?_⟩
      have ho' := (upd_ne _ _ (show nx + 1 ≠ nx + 8 by omega)).symm.trans ho
      have ho2 := (upd_same _ _ _).symm.trans ho'
      cases ho2
      exact ⟨rfl, .imm rfl⟩
    rintro H' nx' r' ⟨hn1, hk1, hcase⟩ -
    have hH1 : H' (nx + 1) = some ⟨zeroT, true⟩ := (hk1 (nx + 1) (by simp)).trans ((upd_ne _ _ (show nx + 1 ≠ nx + 8 by omega)).trans (upd_same _ _ _))
    unfold zeroT at hH1
    clear hk1 hn1
    rcases hcase with ⟨hno, rfl⟩ | ⟨u, hu, rfl, hrow⟩
    · have e : levelsR t bys = none := by simp [levelsR, hrk.out, hno]
      rw [e]
      clear e hno c1
      repeat' (first | ((with_reducible first | refine cond_pos (by omega) ?_ | refine cond_neg (by omega) ?_ | refine guard_pos (by omega) ?_ | refine guard_neg (by omega) ?_ | refine cond_ifn ?_ ?_ | refine cond_waysn ?_ ?_ | refine guard_ifn ?_ ?_ | refine guard_waysn ?_ ?_ | refine cond_if ?_ ?_ | refine cond_ways ?_ ?_ | refine guard_if ?_ ?_ | refine guard_ways ?_ ?_) <;> intro _) | simp (maxSteps := 1000000) (disch := omega) only [go_sem, Nat.reduceAdd, Nat.reduceMul, Nat.reduceSub, Nat.reduceLeDiff, Nat.reduceEqDiff, Nat.reduceBEq, ↓reduceIte, reduceCtorEq, Int.reduceEq, Int.reduceLE, Int.reduceLT, Int.reduceAdd, Int.reduceSub, Int.reduceNeg, Int.reduceToNat, Int.reduceNe, Nat.reducePow, Nat.reduceShiftRight, Nat.reduceMod, *])
      refine fin_ret (r0 := .tup [.agg zeroT, .sc (.bool false)]) 2 (by (simp (disch := omega) only [go_sem, Nat.reduceMul, Nat.reduceSub, Nat.reduceShiftRight, Nat.reduceMod, Nat.reduceEqDiff, Nat.reduceAdd, ↓reduceIte, Nat.reduceLeDiff, *]); all_goals rfl) ?_
      exact .of_eq (by simp [frz, zeroT, frz_sc, optT])
    · have hun := putL_nodes bys t u hu
      have c3 := tNodes_p u (by omega)
      rw [List.nil_append, List.append_nil] at hrow
      by_cases hu2 : u.nodes ≤ 2000
      · have e : levelsR t bys = some u := by simp [levelsR, hrk.out, hu, hu2]
        rw [e, show min u.nodes 2001 = u.nodes by omega] at *
        clear e hu hun c1
        repeat' (first | ((with_reducible first | refine cond_pos (by omega) ?_ | refine cond_neg (by omega) ?_ | refine guard_pos (by omega) ?_ | refine guard_neg (by omega) ?_ | refine cond_ifn ?_ ?_ | refine cond_waysn ?_ ?_ | refine guard_ifn ?_ ?_ | refine guard_waysn ?_ ?_ | refine cond_if ?_ ?_ | refine cond_ways ?_ ?_ | refine guard_if ?_ ?_ | refine guard_ways ?_ ?_) <;> intro _) | (((with_reducible refine call_id ?_); (first | (refine call_pure (c3) ?_)))) | simp (maxSteps := 1000000) (disch := omega) only [go_sem, Nat.reduceAdd, Nat.reduceMul, Nat.reduceSub, Nat.reduceLeDiff, Nat.reduceEqDiff, Nat.reduceBEq, ↓reduceIte, reduceCtorEq, Int.reduceEq, Int.reduceLE, Int.reduceLT, Int.reduceAdd, Int.reduceSub, Int.reduceNeg, Int.reduceToNat, Int.reduceNe, Nat.reducePow, Nat.reduceShiftRight, Nat.reduceMod, *])
        refine fin_ret (r0 := .tup [.agg u.pv, .sc (.bool true)]) 1 (by (simp (disch := omega) only [go_sem, Nat.reduceMul, Nat.reduceSub, Nat.reduceShiftRight, Nat.reduceMod, Nat.reduceEqDiff, Nat.reduceAdd, ↓reduceIte, Nat.reduceLeDiff, *]); all_goals rfl) ?_
        exact .of_eq (by simp [frz, optT])
      · have e : levelsR t bys = none := by simp [levelsR, hrk.out, hu, hu2]
        rw [e]
        rw [show min u.nodes 2001 = 2001 by omega] at c3
        clear e hu hun c1
        repeat' (first | ((with_reducible first | refine cond_pos (by omega) ?_ | refine cond_neg (by omega) ?_ | refine guard_pos (by omega) ?_ | refine guard_neg (by omega) ?_ | refine cond_ifn ?_ ?_ | refine cond_waysn ?_ ?_ | refine guard_ifn ?_ ?_ | refine guard_waysn ?_ ?_ | refine cond_if ?_ ?_ | refine cond_ways ?_ ?_ | refine guard_if ?_ ?_ | refine guard_ways ?_ ?_) <;> intro _) | (((with_reducible refine call_id ?_); (first | (refine call_pure (c3) ?_)))) | simp (maxSteps := 1000000) (disch := omega) only [go_sem, Nat.reduceAdd, Nat.reduceMul, Nat.reduceSub, Nat.reduceLeDiff, Nat.reduceEqDiff, Nat.reduceBEq, ↓reduceIte, reduceCtorEq, Int.reduceEq, Int.reduceLE, Int.reduceLT, Int.reduceAdd, Int.reduceSub, Int.reduceNeg, Int.reduceToNat, Int.reduceNe, Nat.reducePow, Nat.reduceShiftRight, Nat.reduceMod, *])
        refine fin_ret (r0 := .tup [.agg zeroT, .sc (.bool false)]) 2 (by (simp (disch := omega) only [go_sem, Nat.reduceMul, Nat.reduceSub, Nat.reduceShiftRight, Nat.reduceMod, Nat.reduceEqDiff, Nat.reduceAdd, ↓reduceIte, Nat.reduceLeDiff, *]); all_goals rfl) ?_
        exact .of_eq (by simp [frz, zeroT, frz_sc, optT])
  · have e : levelsR t bys = none := by simp [levelsR, hr]
    rw [e]
    rw [Bool.not_eq_true] at hr
    rw [hr] at c1
    clear hr e
    repeat' (first | ((with_reducible first | refine cond_pos (by omega) ?_ | refine cond_neg (by omega) ?_ | refine guard_pos (by omega) ?_ | refine guard_neg (by omega) ?_ | refine cond_ifn ?_ ?_ | refine cond_waysn ?_ ?_ | refine guard_ifn ?_ ?_ | refine guard_waysn ?_ ?_ | refine cond_if ?_ ?_ | refine cond_ways ?_ ?_ | refine guard_if ?_ ?_ | refine guard_ways ?_ ?_) <;> intro _) | (((with_reducible refine call_id ?_); (first | (refine call_pure (c1) ?_)))) | simp (maxSteps := 1000000) (disch := omega) only [go_sem, Nat.reduceAdd, Nat.reduceMul, Nat.reduceSub, Nat.reduceLeDiff, Nat.reduceEqDiff, Nat.reduceBEq, ↓reduceIte, reduceCtorEq, Int.reduceEq, Int.reduceLE, Int.reduceLT, Int.reduceAdd, Int.reduceSub, Int.reduceNeg, Int.reduceToNat, Int.reduceNe, Nat.reducePow, Nat.reduceShiftRight, Nat.reduceMod, mc_term_Levels, *])
    refine fin_ret (r0 := .tup [.agg zeroT, .sc (.bool false)]) 2 (by (simp (disch := omega) only [go_sem, Nat.reduceMul, Nat.reduceSub, Nat.reduceShiftRight, Nat.reduceMod, Nat.reduceEqDiff, Nat.reduceAdd, ↓reduceIte, Nat.reduceLeDiff, *]); all_goals rfl) ?_
    exact .of_eq (by simp [frz, zeroT, frz_sc, optT])
end
section
set_option maxRecDepth 20000
attribute [local go_sem] pv_len pv_take id_ne id_ne' id_ne2 List.append_assoc
def txt (s : ByteArray) : List PV := [.sc (.string s)]
theorem txt_len (s : ByteArray) : (txt s).length = 1 := rfl
theorem txt_inj {a b : ByteArray} (h : a.toList = b.toList) : a = b := by
  rw [ByteArray.toList_eq, ByteArray.toList_eq] at h
  cases a; cases b
  simp only [ByteArray.mk.injEq]
  exact Array.toList_inj.1 h
theorem SameTexts_p (xs ys : List ByteArray) : PPure Try.prog F.ref00_SameTexts [.sl 1 (xs.map txt), .sl 1 (ys.map txt)] (.sc (.bool (decide (xs = ys)))) := by
  refine pure_by is_ref00_SameTexts (by simp) rfl fun hb nx => ?_
  have hb0 : xs.length ≤ 9223372036854775807 ∧ ys.length ≤ 9223372036854775807 := by simp [bndL, PV.bnd] at hb; exact ⟨hb.1.1, hb.2.1⟩
  by_cases hl : xs.length = ys.length
  · repeat' (first | ((with_reducible first | refine cond_pos (by omega) ?_ | refine cond_neg (by omega) ?_ | refine guard_pos (by omega) ?_ | refine guard_neg (by omega) ?_ | refine cond_ifn ?_ ?_ | refine cond_waysn ?_ ?_ | refine guard_ifn ?_ ?_ | refine guard_waysn ?_ ?_ | refine cond_if ?_ ?_ | refine cond_ways ?_ ?_ | refine guard_if ?_ ?_ | refine guard_ways ?_ ?_) <;> intro _) | simp (maxSteps := 1000000) (disch := omega) only [go_sem, Nat.reduceAdd, Nat.reduceMul, Nat.reduceSub, Nat.reduceLeDiff, Nat.reduceEqDiff, Nat.reduceBEq, ↓reduceIte, reduceCtorEq, Int.reduceEq, Int.reduceLE, Int.reduceLT, Int.reduceAdd, Int.reduceSub, Int.reduceNeg, Int.reduceToNat, Int.reduceNe, Nat.reducePow, Nat.reduceShiftRight, Nat.reduceMod, mc_ref00_SameTexts, *])
    refine c_loopW 67106864 (by kernel_rfl) (fun j f H m => ∃ i : Nat, j = xs.length - i ∧ i ≤ xs.length ∧ f 5 = .sc (.int .i64 i) ∧ Kept (xs.take i = ys.take i)) _ ⟨0, rfl, (by first | assumption | omega | rfl | (simp (disch := omega) only [go_sem, Nat.reduceMul, Nat.reduceSub, Nat.reduceShiftRight, Nat.reduceMod, Nat.reduceEqDiff, Nat.reduceAdd, ↓reduceIte, Nat.reduceLeDiff, *] <;> omega)), (by first | assumption | omega | rfl | (simp (disch := omega) only [go_sem, Nat.reduceMul, Nat.reduceSub, Nat.reduceShiftRight, Nat.reduceMod, Nat.reduceEqDiff, Nat.reduceAdd, ↓reduceIte, Nat.reduceLeDiff, *] <;> omega)), Kept.mk rfl⟩ ?_
    rintro _ f H m ⟨i, rfl, hi, e5, hs⟩
    by_cases hlt : i < xs.length
    · have eg : xs[i]? = some xs[i] := List.getElem?_eq_getElem hlt
      have hlt2 : i < ys.length := by omega
      have eg2 : ys[i]? = some ys[i] := List.getElem?_eq_getElem hlt2
      by_cases he : xs[i] = ys[i]
      · have hb : strBin .neq xs[i] ys[i] = some (.bool false) := by simp [strBin, he]
        have hs2 : Kept (xs.take (i + 1) = ys.take (i + 1)) := Kept.mk (by rw [List.take_succ_eq_append_getElem hlt, List.take_succ_eq_append_getElem hlt2, hs.out, he])
        clear he
        repeat' (first | ((with_reducible first | refine cond_pos (by omega) ?_ | refine cond_neg (by omega) ?_ | refine guard_pos (by omega) ?_ | refine guard_neg (by omega) ?_ | refine cond_ifn ?_ ?_ | refine cond_waysn ?_ ?_ | refine guard_ifn ?_ ?_ | refine guard_waysn ?_ ?_ | refine cond_if ?_ ?_ | refine cond_ways ?_ ?_ | refine guard_if ?_ ?_ | refine guard_ways ?_ ?_) <;> intro _) | simp (maxSteps := 1000000) (disch := omega) only [go_sem, Nat.reduceAdd, Nat.reduceMul, Nat.reduceSub, Nat.reduceLeDiff, Nat.reduceEqDiff, Nat.reduceBEq, ↓reduceIte, reduceCtorEq, Int.reduceEq, Int.reduceLE, Int.reduceLT, Int.reduceAdd, Int.reduceSub, Int.reduceNeg, Int.reduceToNat, Int.reduceNe, Nat.reducePow, Nat.reduceShiftRight, Nat.reduceMod, txt, hb, *])
        exact Nx.mk (xs.length - (i + 1)) (by first | assumption | omega | rfl | (simp (disch := omega) only [go_sem, Nat.reduceMul, Nat.reduceSub, Nat.reduceShiftRight, Nat.reduceMod, Nat.reduceEqDiff, Nat.reduceAdd, ↓reduceIte, Nat.reduceLeDiff, *] <;> omega)) ⟨i + 1, (by first | assumption | omega | rfl | (simp (disch := omega) only [go_sem, Nat.reduceMul, Nat.reduceSub, Nat.reduceShiftRight, Nat.reduceMod, Nat.reduceEqDiff, Nat.reduceAdd, ↓reduceIte, Nat.reduceLeDiff, *] <;> omega)), (by first | assumption | omega | rfl | (simp (disch := omega) only [go_sem, Nat.reduceMul, Nat.reduceSub, Nat.reduceShiftRight, Nat.reduceMod, Nat.reduceEqDiff, Nat.reduceAdd, ↓reduceIte, Nat.reduceLeDiff, *] <;> omega)), (by first | assumption | omega | rfl | (simp (disch := omega) only [go_sem, Nat.reduceMul, Nat.reduceSub, Nat.reduceShiftRight, Nat.reduceMod, Nat.reduceEqDiff, Nat.reduceAdd, ↓reduceIte, Nat.reduceLeDiff, *] <;> omega)), hs2⟩
      · have hb : strBin .neq xs[i] ys[i] = some (.bool true) := by
          have : ¬ xs[i].toList = ys[i].toList := fun h => he (txt_inj h)
          simp [strBin, this]
        have hr : decide (xs = ys) = false := decide_eq_false fun h => he (by subst h; rfl)
        clear he
        rw [hr]
        repeat' (first | ((with_reducible first | refine cond_pos (by omega) ?_ | refine cond_neg (by omega) ?_ | refine guard_pos (by omega) ?_ | refine guard_neg (by omega) ?_ | refine cond_ifn ?_ ?_ | refine cond_waysn ?_ ?_ | refine guard_ifn ?_ ?_ | refine guard_waysn ?_ ?_ | refine cond_if ?_ ?_ | refine cond_ways ?_ ?_ | refine guard_if ?_ ?_ | refine guard_ways ?_ ?_) <;> intro _) | simp (maxSteps := 1000000) (disch := omega) only [go_sem, Nat.reduceAdd, Nat.reduceMul, Nat.reduceSub, Nat.reduceLeDiff, Nat.reduceEqDiff, Nat.reduceBEq, ↓reduceIte, reduceCtorEq, Int.reduceEq, Int.reduceLE, Int.reduceLT, Int.reduceAdd, Int.reduceSub, Int.reduceNeg, Int.reduceToNat, Int.reduceNe, Nat.reducePow, Nat.reduceShiftRight, Nat.reduceMod, txt, hb, *])
        all_goals (refine fin_tmp (.inr rfl) ?_; simp [upd])
    · obtain rfl : i = xs.length := by omega
      have hr : xs = ys := by
        have := hs.out
        rw [List.take_length, hl, List.take_length] at this
        exact this
      rw [decide_eq_true hr]
      clear hr
      repeat' (first | ((with_reducible first | refine cond_pos (by omega) ?_ | refine cond_neg (by omega) ?_ | refine guard_pos (by omega) ?_ | refine guard_neg (by omega) ?_ | refine cond_ifn ?_ ?_ | refine cond_waysn ?_ ?_ | refine guard_ifn ?_ ?_ | refine guard_waysn ?_ ?_ | refine cond_if ?_ ?_ | refine cond_ways ?_ ?_ | refine guard_if ?_ ?_ | refine guard_ways ?_ ?_) <;> intro _) | simp (maxSteps := 1000000) (disch := omega) only [go_sem, Nat.reduceAdd, Nat.reduceMul, Nat.reduceSub, Nat.reduceLeDiff, Nat.reduceEqDiff, Nat.reduceBEq, ↓reduceIte, reduceCtorEq, Int.reduceEq, Int.reduceLE, Int.reduceLT, Int.reduceAdd, Int.reduceSub, Int.reduceNeg, Int.reduceToNat, Int.reduceNe, Nat.reducePow, Nat.reduceShiftRight, Nat.reduceMod, txt, *])
      all_goals (refine fin_tmp (.inr rfl) ?_; simp [upd])
  · have hr : decide (xs = ys) = false := decide_eq_false fun h => hl (by rw [h])
    rw [hr]
    clear hr
    repeat' (first | ((with_reducible first | refine cond_pos (by omega) ?_ | refine cond_neg (by omega) ?_ | refine guard_pos (by omega) ?_ | refine guard_neg (by omega) ?_ | refine cond_ifn ?_ ?_ | refine cond_waysn ?_ ?_ | refine guard_ifn ?_ ?_ | refine guard_waysn ?_ ?_ | refine cond_if ?_ ?_ | refine cond_ways ?_ ?_ | refine guard_if ?_ ?_ | refine guard_ways ?_ ?_) <;> intro _) | simp (maxSteps := 1000000) (disch := omega) only [go_sem, Nat.reduceAdd, Nat.reduceMul, Nat.reduceSub, Nat.reduceLeDiff, Nat.reduceEqDiff, Nat.reduceBEq, ↓reduceIte, reduceCtorEq, Int.reduceEq, Int.reduceLE, Int.reduceLT, Int.reduceAdd, Int.reduceSub, Int.reduceNeg, Int.reduceToNat, Int.reduceNe, Nat.reducePow, Nat.reduceShiftRight, Nat.reduceMod, mc_ref00_SameTexts, *])
    all_goals (refine fin_tmp (.inr rfl) ?_; simp [upd])
end
section
set_option maxRecDepth 20000
attribute [local go_sem] pv_len pv_take id_ne id_ne' id_ne2 List.append_assoc
theorem txts_flat : ∀ xs : List ByteArray, (xs.map txt).flatten = xs.flatMap txt := fun xs => by rw [List.flatMap_def]
theorem txts_len : ∀ xs : List ByteArray, (xs.map txt).flatten.length = xs.length
  | [] => rfl
  | x :: r => by simp only [List.map_cons, List.flatten_cons, List.length_append, txt_len, txts_len r, List.length_cons]; omega
theorem txts_one : ∀ xs : List ByteArray, (xs.map txt).flatten.all PV.one = true
  | [] => rfl
  | x :: r => by
    simp only [List.map_cons, List.flatten_cons, List.all_append, txts_one r]
    rfl
set_option maxHeartbeats 4000000 in
theorem sClone_m (xs : List ByteArray) (hl : xs.length ≤ 2 ^ 40) (H : Nat → Option PObj) (nx : Nat) : PMut Try.prog F.slices_Clone_string_string [.sl 1 (xs.map txt)] H nx (fun H' nx' r => nx ≤ nx' ∧ (∀ j, j < nx → H' j = H j) ∧ ((xs = [] ∧ r = .sc (.slice none 0 0)) ∨ ∃ id, nx ≤ id ∧ id < nx' ∧ r = .osl id 0 xs.length 1 ∧ H' id = some ⟨xs.flatMap txt, false⟩)) := by
  refine mut_by is_slices_Clone_string_string (by simp) fun hb => ?_
  clear hb
  repeat' (first | ((with_reducible first | refine cond_pos (by omega) ?_ | refine cond_neg (by omega) ?_ | refine guard_pos (by omega) ?_ | refine guard_neg (by omega) ?_ | refine cond_ifn ?_ ?_ | refine cond_waysn ?_ ?_ | refine guard_ifn ?_ ?_ | refine guard_waysn ?_ ?_ | refine cond_if ?_ ?_ | refine cond_ways ?_ ?_ | refine guard_if ?_ ?_ | refine guard_ways ?_ ?_) <;> intro _) | simp (maxSteps := 1000000) (disch := omega) only [go_sem, Nat.reduceAdd, Nat.reduceMul, Nat.reduceSub, Nat.reduceLeDiff, Nat.reduceEqDiff, Nat.reduceBEq, ↓reduceIte, reduceCtorEq, Int.reduceEq, Int.reduceLE, Int.reduceLT, Int.reduceAdd, Int.reduceSub, Int.reduceNeg, Int.reduceToNat, Int.reduceNe, Nat.reducePow, Nat.reduceShiftRight, Nat.reduceMod, mc_slices_Clone_string_string, *])
  refine o_slnil rfl rfl Try.underlying49 (n := xs.length) (by simp [slN, ev, upd]) fun t ht => ?_
  cases t with
  | true =>
    obtain rfl : xs = [] := List.eq_nil_of_length_eq_zero (ht rfl)
    clear ht
    repeat' (first | ((with_reducible first | refine cond_pos (by omega) ?_ | refine cond_neg (by omega) ?_ | refine guard_pos (by omega) ?_ | refine guard_neg (by omega) ?_ | refine cond_ifn ?_ ?_ | refine cond_waysn ?_ ?_ | refine guard_ifn ?_ ?_ | refine guard_waysn ?_ ?_ | refine cond_if ?_ ?_ | refine cond_ways ?_ ?_ | refine guard_if ?_ ?_ | refine guard_ways ?_ ?_) <;> intro _) | simp (maxSteps := 1000000) (disch := omega) only [go_sem, Nat.reduceAdd, Nat.reduceMul, Nat.reduceSub, Nat.reduceLeDiff, Nat.reduceEqDiff, Nat.reduceBEq, ↓reduceIte, reduceCtorEq, Int.reduceEq, Int.reduceLE, Int.reduceLT, Int.reduceAdd, Int.reduceSub, Int.reduceNeg, Int.reduceToNat, Int.reduceNe, Nat.reducePow, Nat.reduceShiftRight, Nat.reduceMod, *])
    exact fin_mut (.sc (.slice none 0 0)) (.inr rfl) (by (simp (disch := omega) only [go_sem, Nat.reduceMul, Nat.reduceSub, Nat.reduceShiftRight, Nat.reduceMod, Nat.reduceEqDiff, Nat.reduceAdd, ↓reduceIte, Nat.reduceLeDiff]); all_goals rfl) ⟨by simp only [Nat.add_assoc]; exact Nat.le_add_right _ _, fun _ _ => rfl, .inl rfl⟩
  | false =>
    clear ht
    have h1 := txts_len xs
    have h2 := txts_one xs
    have h3 : xs.length * 16 ≤ 140737488355328 ∧ xs.length ≤ 4611686018427387904 := by omega
    repeat' (first | ((with_reducible first | refine cond_pos (by omega) ?_ | refine cond_neg (by omega) ?_ | refine guard_pos (by omega) ?_ | refine guard_neg (by omega) ?_ | refine cond_ifn ?_ ?_ | refine cond_waysn ?_ ?_ | refine guard_ifn ?_ ?_ | refine guard_waysn ?_ ?_ | refine cond_if ?_ ?_ | refine cond_ways ?_ ?_ | refine guard_if ?_ ?_ | refine guard_ways ?_ ?_) <;> intro _) | simp (maxSteps := 1000000) (disch := omega) only [go_sem, Nat.reduceAdd, Nat.reduceMul, Nat.reduceSub, Nat.reduceLeDiff, Nat.reduceEqDiff, Nat.reduceBEq, ↓reduceIte, reduceCtorEq, Int.reduceEq, Int.reduceLE, Int.reduceLT, Int.reduceAdd, Int.reduceSub, Int.reduceNeg, Int.reduceToNat, Int.reduceNe, Nat.reducePow, Nat.reduceShiftRight, Nat.reduceMod, *])
    refine fin_mut (.osl (nx + 1 + 2 + 2) 0 xs.length 1) (.inr rfl) (by (simp (disch := omega) only [go_sem, Nat.reduceMul, Nat.reduceSub, Nat.reduceShiftRight, Nat.reduceMod, Nat.reduceEqDiff, Nat.reduceAdd, ↓reduceIte, Nat.reduceLeDiff]); all_goals rfl) ⟨by simp only [Nat.add_assoc]; exact Nat.le_add_right _ _, fun j hj => ?_, .inr ⟨nx + 1 + 2 + 2, by omega, by simp only [Nat.add_assoc]; exact Nat.add_lt_add_left (by omega) _, rfl, ?_⟩⟩
    · simp [upd, show j ≠ nx + 3 by omega, show j ≠ nx + 1 + 2 + 2 by omega]
    · simp [upd, txts_flat]
end
section
theorem change_ext {w0 : World} {ok0 : Nat → Prop} {H : Nat → Option PObj} {rho : Nat → Option Nat} {w w' : World} (h : RelH w0 ok0 H rho w) {id b : Nat} {o o' : PObj} {c c' : Array Value} {T : TypeId}
    (ho : H id = some o) (hb : rho id = some b) (hc : w.heap[b]? = some (.cells c T (0, 0))) (hnew : w'.heap[b]? = some (.cells c' T (0, 0))) (hsz : c.size ≤ c'.size) (hoth : ∀ k, k ≠ b → k < w.heap.size → w'.heap[k]? = w.heap[k]?)
    (hos : w'.os = w.os) (htp : w'.tape = w.tape) (hou : w'.output = w.output) (hs : w.heap.size ≤ w'.heap.size) (hlen : o'.cells.length ≤ c'.size) (hwh : o'.whole = true → o'.cells.length = c'.size)
    (hrep : ∀ (V : Vw) (i : Nat) (x : PV) (v : Value), o'.cells[i]? = some x → c'[i]? = some v → Rep V x v) :
    RelH w0 ok0 (upd H id (some o')) rho w' ∧ (viewOf w0 ok0 H rho w).Leq (viewOf w0 ok0 (upd H id (some o')) rho w') := by
  obtain ⟨b', hb', hlow, hobj⟩ := h.own id o ho
  rw [hb] at hb'
  cases hb'
  have hsame : ∀ k o2, upd H id (some o') k = some o2 → H k ≠ none := fun k o2 hk => by
    by_cases he : k = id
    · rw [he, ho]; simp
    · rw [upd_ne _ _ he] at hk; rw [hk]; simp
  have hlt : ∀ k, (viewOf w0 ok0 H rho w).ok k → k < w.heap.size := by
    rintro k ⟨h1 | h1, _⟩
    · have := h.okb k h1; have := h.bel.size; omega
    · exact h1.2
  have hleq : (viewOf w0 ok0 H rho w).Leq (viewOf w0 ok0 (upd H id (some o')) rho w') := by
    refine ⟨fun k hk => ⟨hk.1.imp _root_.id fun h1 => ⟨h1.1, Nat.lt_of_lt_of_le h1.2 hs⟩, fun id' o2 ho2 => ?_⟩, fun k hk => ?_, fun id' k hk => hk, fun id' k c1 T1 fr1 hk hh => ?_, hs⟩
    · obtain ⟨o3, ho3⟩ := Option.ne_none_iff_exists'.1 (hsame id' o2 ho2)
      exact hk.2 id' o3 ho3
    · exact hoth k (fun e => hk.2 id o ho (by rw [e]; exact hb)) (hlt k hk)
    · by_cases he : k = b
      · subst he
        have e2 : w.heap[k]? = some (.cells c1 T1 fr1) := hh
        rw [hc] at e2
        cases e2
        exact ⟨_, _, _, hnew, hsz⟩
      · exact ⟨c1, T1, fr1, (hoth k he (Array.getElem?_eq_some_iff.1 hh).1).trans hh, Nat.le_refl _⟩
  have hb0 := h.bel.size
  refine ⟨⟨h.okb, ⟨hos.trans h.bel.os, htp.trans h.bel.tape, hou.trans h.bel.output, Nat.le_trans hb0 hs, fun k hk => (hoth k (by omega) (by omega)).trans (h.bel.block k hk)⟩, fun id' o2 ho2 => ?_, fun i j k hi hj hki hkj => ?_⟩, hleq⟩
  · by_cases he : id' = id
    · subst he
      rw [upd_same] at ho2
      cases ho2
      exact ⟨b, hb, hlow, .inl ⟨c', T, hnew, hlen, hwh, fun i x v hx hv => hrep _ i x v hx hv⟩⟩
    · rw [upd_ne _ _ he] at ho2
      obtain ⟨k, h1, h2, h3⟩ := h.own id' o2 ho2
      have hne : k ≠ b := fun e => he (h.inj id' id k (by rw [ho2]; simp) (by rw [ho]; simp) h1 (by rw [e]; exact hb))
      exact ⟨k, h1, h2, h3.mono hleq (hoth k hne h3.lt)⟩
  · have key : ∀ k', upd H id (some o') k' ≠ none → H k' ≠ none := fun k' hk' => by
      obtain ⟨o2, ho2⟩ := Option.ne_none_iff_exists'.1 hk'
      exact hsame k' o2 ho2
    exact h.inj i j k (key i hi) (key j hj) hki hkj
end
end Go.Proofs.Ytfhblaggeahbjaa
