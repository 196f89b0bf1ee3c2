/-
  Plain values: LvW, TmP, TmC, TmK, TmM, TmN, TmO, TmQ, TmU, TmT, TmG, TmV, TqA, TqB, PkG, PkH, PkI, PkJ.
-/
import Derived.Lib.SlicesS
import Derived.Test.YtnelciclibknpaaXTa
import Derived.Test.YtnelciclibknpaaXTb
import Derived.Test.YtnelciclibknpaaXTc
import Derived.Test.YtnelciclibknpaaXTd
import Derived.Test.YtnelciclibknpaaXTe
set_option linter.unusedVariables false
set_option linter.unusedSimpArgs false
namespace Go.Proofs.Ytnelciclibknpaa
open Go.RowKit
attribute [local go_sem ↓] c_seq c_region c_cond c_block c_ret c_skip c_exit c_cont t_normal t_ret t_exit b_normal b_ret b_exit run_nil run_cons g_some o_mv o_pick o_bin o_un o_ld o_ldf o_bld o_len o_mkf o_nilc o_fa o_fd o_ia o_iaa o_ix o_ixs o_ext o_al o_bxf o_bxt o_bsl o_bslf o_mks o_st o_stf o_call o_rng o_nxt o_callm o_callmA o_calvm o_calv cond_true cond_false upd_get sigF_cons o_eqa o_mm o_app o_slc o_apps o_cvt
attribute [local go_sem] num_nil num_cons isP chunks rngV next_is next_iter val_some new_some st_some stf_some guard_tt guard_ff guard_tf guard_ft guard_un calv_fn put_some put_none ev_tmp ev_const ev_func sig_eq sigF_nil q0 q1 nilcV faV fdV iaV iaaV ixV ixsV extV mksV loadP storeP lenPV binPV unPV intBin partsP fillP zeros PV.good PV.cellsOf PV.one q2 q3 q4 q5 q6 q7 q8 q9 q10 q11 q12 q13 q14 q15 q16 q17 q18 q19 q20 q21 q22 q23 q24 q25 q26 q27 q28 q29 q30 q31 q32 q33 q34 q35 q36 q37 q38 wrap64 app_some mmL mmV mm2 eqE eqParts eqInt eqBool eqStr partV q39 q40 pickV q41 q42 q43 q44 q45 q46 q47 q48 q49 appE oldOf rowOf updL q50 q51 q52 q53 zlt ovr_get ite_neN ite_eqN q54 q55 q56 q57 q58 q59 q60 q61 q62 q63 q64 q65 q66 q67 tailP_f tailP_t tailF_f tailF_t slcP bndO capO slcLen intOf Option.isSome_none Option.isNone_none Option.isSome_some Option.isNone_some nilP slc_sl slc_csl slc_osl slc_osl0 slc_ocap slc_str appR appS cvP shiftB false_or List.append_nil List.length_append resP resPs resP1 PV.sc.injEq Value.bool.injEq Value.int.injEq
section
set_option maxRecDepth 20000
attribute [local go_sem] pv_len pv_take id_ne id_ne' id_ne2 List.append_assoc Nat.add_assoc pv_one pvB_len pvB_take pvB_one
set_option maxHeartbeats 4000000 in
theorem CopyLevel_pF : ∀ (fuel : Nat) (l : Lv), l.nodes ≤ fuel → l.nodes ≤ 2 ^ 40 → PPure Try.prog F.ref00_CopyLevel [.agg l.pv] (.agg (l.pvB true)) := by
  intro fuel
  induction fuel with
  | zero => intro l h; have := nodes_pos l; omega
  | succ fuel ih =>
    intro l hf hm
    cases l with
    | mk k n args =>
    simp only [Lv.nodes] at hf hm
    refine pure_by is_ref00_CopyLevel (by simp) (by simp [PV.imm, pvB_imm]) fun hb nx => ?_
    have hb0 : args.length ≤ 9223372036854775807 := by simp [Lv.pv, bndL, PV.bnd] at hb; exact hb.1
    simp (maxSteps := 1000000) (disch := omega) only [go_sem, seval, mc_ref00_CopyLevel, Lv.pv]
    refine c_loopW 268434448 (by kernel_rfl) (fun j f H m => ∃ i : Nat, j = args.length - i ∧ i ≤ args.length ∧ f 4 = .sc (.int .i64 i) ∧ nx + 10 ≤ m ∧ H (nx + 1) = some ⟨[.sc (.int .i64 0), .sc (.int .i64 0), .sc (.slice none 0 0)], true⟩ ∧ ∃ a, H (nx + 7) = some ⟨[.sc (.int .i64 k), .sc (.int .i64 n), a], true⟩ ∧ ((i = 0 ∧ a = .sc (.slice none 0 0)) ∨ ∃ id, nx + 7 < id ∧ id < m ∧ a = .osl id 0 i 3 ∧ H id = some ⟨(args.take i).flatMap (Lv.pvB true), false⟩)) _ ⟨0, rfl, cE1, cE1, cE1, cE1, _, by simp [upd], .inl ⟨rfl, rfl⟩⟩ ?_
    rintro _ f H m ⟨i, rfl, hi, e4, hm2, ho1, a, ho, hrow⟩
    by_cases hlt : i < args.length
    · have eg : args[i]? = some args[i] := List.getElem?_eq_getElem hlt
      have hn := nodesL_mem args i hlt
      have hl : (List.flatMap (Lv.pvB true) (List.take i args)).length = i * 3 := by rw [flat_lenG _ 3 (pvB_len true), List.length_take, Nat.min_eq_left (by omega)]
      have ht : List.take (i + 1) args = List.take i args ++ [args[i]] := by rw [List.take_succ_eq_append_getElem hlt]
      have hg := len_nodesL args
      have hz : (i + 1) * 40 ≤ 140737488355328 ∧ i ≤ 4611686018427387903 := by omega
      rcases hrow with ⟨rfl, rfl⟩ | ⟨id, h1, h2, rfl, h3⟩
      · repeat' (first | ((with_reducible first | refine wA (by omega) ?_ | refine wB (by omega) ?_ | refine wC (by omega) ?_ | refine wD (by omega) ?_ | refine wE ?_ ?_ | refine wF ?_ ?_ | refine wG ?_ ?_ | refine wH ?_ ?_ | refine wI ?_ ?_ | refine wJ ?_ ?_ | refine wK ?_ ?_ | refine wL ?_ ?_) <;> intro _) | (((with_reducible refine call_id ?_); (first | (refine call_pure (ih args[0] (by omega) (by omega)) ?_)))) | simp (maxSteps := 1000000) (disch := omega) only [go_sem, seval, Lv.pv, *])
        refine Nx.mk (args.length - 1) cE1 ⟨1, cE1, cE1, cE1, cE1, cE1, PV.osl (m + 14) 0 1 3, cE1, .inr ⟨m + 14, cE1, cE1, cE1, cE1⟩⟩
      · repeat' (first | ((with_reducible first | refine wA (by omega) ?_ | refine wB (by omega) ?_ | refine wC (by omega) ?_ | refine wD (by omega) ?_ | refine wE ?_ ?_ | refine wF ?_ ?_ | refine wG ?_ ?_ | refine wH ?_ ?_ | refine wI ?_ ?_ | refine wJ ?_ ?_ | refine wK ?_ ?_ | refine wL ?_ ?_) <;> intro _) | (((with_reducible refine call_id ?_); (first | (refine call_pure (ih args[i] (by omega) (by omega)) ?_)))) | simp (maxSteps := 1000000) (disch := omega) only [go_sem, seval, Lv.pv, *])
        refine Nx.mk (args.length - (i + 1)) cE1 ⟨i + 1, cE1, cE1, cE1, cE1, cE1, PV.osl (m + 14) 0 (i + 1) 3, cE1, .inr ⟨m + 14, cE1, cE1, cE1, cE1⟩⟩
    · obtain rfl : i = args.length := by omega
      rcases hrow with ⟨h0, rfl⟩ | ⟨id, h1, h2, rfl, h3⟩
      · obtain rfl : args = [] := List.eq_nil_of_length_eq_zero h0
        repeat' (first | ((with_reducible first | refine wA (by omega) ?_ | refine wB (by omega) ?_ | refine wC (by omega) ?_ | refine wD (by omega) ?_ | refine wE ?_ ?_ | refine wF ?_ ?_ | refine wG ?_ ?_ | refine wH ?_ ?_ | refine wI ?_ ?_ | refine wJ ?_ ?_ | refine wK ?_ ?_ | refine wL ?_ ?_) <;> intro _) | simp (maxSteps := 1000000) (disch := omega) only [go_sem, seval, Lv.pv, *])
        refine fin_retF (r0 := .agg [.sc (.int .i64 k), .sc (.int .i64 n), .sc (.slice none 0 0)]) 2 cE2 ?_
        rw [frzF_agg1]
        simp only [List.map_cons, List.map_nil, Lv.pvB]
        exact Weak.agg ⟨.of_eq (frzF_sc _ _ _), .of_eq (frzF_sc _ _ _), .trans (.of_eq (frzF_sc _ _ _)) (Weak.nilB true 3), trivial⟩
      · repeat' (first | ((with_reducible first | refine wA (by omega) ?_ | refine wB (by omega) ?_ | refine wC (by omega) ?_ | refine wD (by omega) ?_ | refine wE ?_ ?_ | refine wF ?_ ?_ | refine wG ?_ ?_ | refine wH ?_ ?_ | refine wI ?_ ?_ | refine wJ ?_ ?_ | refine wK ?_ ?_ | refine wL ?_ ?_) <;> intro _) | simp (maxSteps := 1000000) (disch := omega) only [go_sem, seval, Lv.pv, *])
        rw [List.take_length] at h3
        refine fin_retF (r0 := .agg [.sc (.int .i64 k), .sc (.int .i64 n), .osl id 0 args.length 3]) 2 cE2 ?_
        rw [frzF_agg1]
        simp only [List.map_cons, List.map_nil, Lv.pvB]
        refine Weak.agg ⟨.of_eq (frzF_sc _ _ _), .of_eq (frzF_sc _ _ _), .of_eq ?_, trivial⟩
        exact frzF_row (pvB_len true) (frzF_pvB 0 _ true) (upd_gone h3 (by omega))
end
section
set_option maxRecDepth 20000
theorem tm_one (t : Tm) : t.pv.all PV.one = true := by cases t; simp [Tm.pv, PV.one]
def Tm.pvB (f : Bool) : Tm → List PV
  | .mk k n s ls args => [.sc (.int .i64 k), .sc (.int .i64 n), .sc (.string s), slB f 3 (ls.map (Lv.pvB f)), slB f 5 (args.map (Tm.pvB f))]
theorem tpvB_len (f : Bool) (t : Tm) : (t.pvB f).length = 5 := by cases t; simp [Tm.pvB]
theorem tpvB_take (f : Bool) (t : Tm) : (t.pvB f).take 5 = t.pvB f := List.take_of_length_le (by rw [tpvB_len]; omega)
theorem tpvB_one (f : Bool) (t : Tm) : (t.pvB f).all PV.one = true := by
  cases t
  simp only [Tm.pvB, List.all_cons, slB_one, List.all_nil, Bool.and_true]
  rfl
theorem tm_weak' (f : Bool) : ∀ (fuel : Nat) (t : Tm), t.size ≤ fuel → WeakL (t.pvB f) t.pv := by
  intro fuel
  induction fuel with
  | zero => intro l h; have := size_pos l; omega
  | succ fuel ih =>
    intro t h
    cases t with
    | mk k n s ls args =>
    simp only [Tm.size] at h
    simp only [Tm.pvB, Tm.pv]
    refine ⟨.refl _, .refl _, .refl _, lvs_weak f ls, slB_rows f tm_len args fun x hx => ih x ?_, trivial⟩
    obtain ⟨i, hi, rfl⟩ := List.getElem_of_mem hx
    have := sizeL_mem args i hi
    omega
theorem tm_weak (f : Bool) (t : Tm) : WeakL (t.pvB f) t.pv := tm_weak' f t.size t (Nat.le_refl _)
theorem tm_agg (f : Bool) (t : Tm) : Weak (.agg (t.pvB f)) (.agg t.pv) := Weak.agg (tm_weak f t)
theorem tpvB_imm' (f : Bool) : ∀ (fuel : Nat) (t : Tm), t.size ≤ fuel → immL (t.pvB f) = true := by
  intro fuel
  induction fuel with
  | zero => intro l h; have := size_pos l; omega
  | succ fuel ih =>
    intro t h
    cases t with
    | mk k n s ls args =>
    simp only [Tm.size] at h
    simp only [Tm.pvB, immL, slB_imm]
    rw [imm_rows ls fun x _ => pvB_imm f x, imm_rows args fun x hx => ih x ?_]
    · rfl
    · obtain ⟨i, hi, rfl⟩ := List.getElem_of_mem hx
      have := sizeL_mem args i hi
      omega
theorem tpvB_imm (f : Bool) (t : Tm) : immL (t.pvB f) = true := tpvB_imm' f t.size t (Nat.le_refl _)
end
section
set_option maxRecDepth 20000
attribute [local go_sem] pv_len pv_take Nat.add_assoc tm_len tm_take pv_one tm_one tpvB_len tpvB_take tpvB_one pvB_len pvB_take pvB_one id_ne id_ne' id_ne2 List.append_assoc
theorem frz_rowG {α : Type} (f : α → List PV) (sz : Nat) (hf : ∀ x, (f x).length = sz) {H : Nat → Option PObj} {id : Nat} {xs : List α} {w : Bool} (h : H id = some ⟨xs.flatMap f, w⟩) : frz 1 H (.osl id 0 xs.length sz) = .sl sz (xs.map f) := by
  have hl := flat_lenG f sz hf xs
  simp only [frz, h, List.drop_zero]
  rw [if_pos (by omega), List.take_of_length_le (by omega), List.map_id', chunks_flat f sz hf]
def RowAt (H : Nat → Option PObj) (lo m sz : Nat) (a : PV) (cells : List PV) (n : Nat) : Prop := (n = 0 ∧ a = .sc (.slice none 0 0)) ∨ ∃ id, lo < id ∧ id < m ∧ a = .osl id 0 n sz ∧ H id = some ⟨cells, false⟩
theorem Weak.row {α : Type} (f : α → List PV) (sz : Nat) (hf : ∀ x, (f x).length = sz) {H : Nat → Option PObj} {lo m : Nat} {a : PV} {xs : List α} (h : RowAt H lo m sz a (xs.flatMap f) xs.length) : Weak (frz 1 H a) (.sl sz (xs.map f)) := by
  rcases h with ⟨h1, rfl⟩ | ⟨id, _, _, rfl, h2⟩
  · obtain rfl : xs = [] := List.eq_nil_of_length_eq_zero h1
    rw [frz_sc1]
    exact .nil sz
  · rw [frz_rowG f sz hf h2]
    exact .refl _
theorem frzF0 (H : Nat → Option PObj) : frzF 0 H = id := rfl
theorem Weak.rowF {α : Type} (f : α → List PV) (sz : Nat) (hf : ∀ x, (f x).length = sz) {H : Nat → Option PObj} {lo m : Nat} {a : PV} {xs : List α} (h : RowAt H lo m sz a (xs.flatMap f) xs.length) : Weak (frzF 1 H a) (.fsl sz (xs.map f)) := by
  rcases h with ⟨h1, rfl⟩ | ⟨id, _, _, rfl, h2⟩
  · obtain rfl : xs = [] := List.eq_nil_of_length_eq_zero h1
    rw [frzF_sc]
    exact .nilF sz
  · rw [frzF_row hf (fun x => by rw [frzF0, List.map_id]) h2]
    exact .refl _
theorem RowAt.mono {H H' : Nat → Option PObj} {lo m m' sz : Nat} {a : PV} {cells : List PV} {n : Nat} (h : RowAt H lo m sz a cells n) (hm : m ≤ m') (hH : ∀ id, lo < id → id < m → H' id = H id) : RowAt H' lo m' sz a cells n := by
  rcases h with h | ⟨id, h1, h2, h3, h4⟩
  · exact .inl h
  · exact .inr ⟨id, h1, by omega, h3, by rw [hH id h1 h2, h4]⟩
theorem len_nodesT : ∀ ts : List Tm, ts.length ≤ nodesT ts
  | [] => Nat.le_refl _
  | x :: r => by have := len_nodesT r; have := tnodes_pos x; simp only [List.length_cons, nodesT]; omega
mutual
theorem tm_imm : ∀ t : Tm, immL t.pv = true
  | .mk k n s ls args => by
    have h := tms_imm args
    have h2 : immL (ls.map Lv.pv).flatten = true := by
      induction ls with
      | nil => rfl
      | cons l r ih => simp only [List.map_cons, List.flatten_cons, immL_append, pv_imm, ih]; rfl
    simp only [Tm.pv, immL, PV.imm, immLL_flatten, h, h2]
    rfl
theorem tms_imm : ∀ ts : List Tm, immL (ts.map Tm.pv).flatten = true
  | [] => rfl
  | t :: r => by simp only [List.map_cons, List.flatten_cons, immL_append, tm_imm t, tms_imm r]; rfl
end
set_option maxHeartbeats 16000000 in
theorem CopyTerm_pF : ∀ (fuel : Nat) (t : Tm), t.size ≤ fuel → t.nodes ≤ 2 ^ 40 → PPure Try.prog F.ref00_CopyTerm [.agg t.pv] (.agg (t.pvB true)) := by
  intro fuel
  induction fuel with
  | zero => intro t h; have := size_pos t; omega
  | succ fuel ih =>
    intro t hf hm
    cases t with
    | mk k n s ls args =>
    simp only [Tm.size] at hf
    simp only [Tm.nodes] at hm
    refine pure_by is_ref00_CopyTerm (by simp) (by simp [PV.imm, tpvB_imm]) fun hb nx => ?_
    have hb0 : ls.length ≤ 9223372036854775807 ∧ args.length ≤ 9223372036854775807 := by simp [Tm.pv, bndL, PV.bnd] at hb; exact ⟨hb.1.1, hb.2.1⟩
    repeat' (first | ((with_reducible first | refine wA (by omega) ?_ | refine wB (by omega) ?_ | refine wC (by omega) ?_ | refine wD (by omega) ?_ | refine wE ?_ ?_ | refine wF ?_ ?_ | refine wG ?_ ?_ | refine wH ?_ ?_ | refine wI ?_ ?_ | refine wJ ?_ ?_ | refine wK ?_ ?_ | refine wL ?_ ?_) <;> intro _) | simp (maxSteps := 1000000) (disch := omega) only [go_sem, seval, mc_ref00_CopyTerm, Tm.pv, *])
    refine c_loopW 2147475472 (by kernel_rfl) (fun j f H m => ∃ i : Nat, j = ls.length - i ∧ i ≤ ls.length ∧ f 4 = .sc (.int .i64 i) ∧ nx + 11 ≤ m ∧ H (nx + 1) = some ⟨[.sc (.int .i64 0), .sc (.int .i64 0), .sc (.string ⟨#[]⟩), .sc (.slice none 0 0), .sc (.slice none 0 0)], true⟩ ∧ ∃ a, H (nx + 9) = some ⟨[.sc (.int .i64 k), .sc (.int .i64 n), .sc (.string s), a, .sc (.slice none 0 0)], true⟩ ∧ RowAt H (nx + 9) m 3 a ((ls.take i).flatMap (Lv.pvB true)) i) _ ⟨0, rfl, cE1, cE1, cE1, cE1, _, by simp [upd], .inl ⟨rfl, rfl⟩⟩ ?_
    rintro _ f H m ⟨i, rfl, hi, e4, hm2, ho1, a, ho, hrow⟩
    by_cases hlt : i < ls.length
    · have eg : ls[i]? = some ls[i] := List.getElem?_eq_getElem hlt
      have hn := nodesL_mem ls i hlt
      have hl : (List.flatMap (Lv.pvB true) (List.take i ls)).length = i * 3 := by rw [flat_lenG _ 3 (pvB_len true), List.length_take, Nat.min_eq_left (by omega)]
      have ht : List.take (i + 1) ls = List.take i ls ++ [ls[i]] := by rw [List.take_succ_eq_append_getElem hlt]
      have hg := len_nodesL ls
      have hz : (i + 1) * 40 ≤ 140737488355328 ∧ i ≤ 4611686018427387903 := by omega
      rcases hrow with ⟨rfl, rfl⟩ | ⟨id, h1, h2, rfl, h3⟩
      · repeat' (first | ((with_reducible first | refine wA (by omega) ?_ | refine wB (by omega) ?_ | refine wC (by omega) ?_ | refine wD (by omega) ?_ | refine wE ?_ ?_ | refine wF ?_ ?_ | refine wG ?_ ?_ | refine wH ?_ ?_ | refine wI ?_ ?_ | refine wJ ?_ ?_ | refine wK ?_ ?_ | refine wL ?_ ?_) <;> intro _) | (((with_reducible refine call_id ?_); (first | (refine call_pure (CopyLevel_pF _ ls[0] (Nat.le_refl _) (by omega)) ?_)))) | simp (maxSteps := 1000000) (disch := omega) only [go_sem, seval, Lv.pv, *])
        refine Nx.mk (ls.length - 1) cE1 ⟨1, cE1, cE1, cE1, cE1, cE1, PV.osl (m + 14) 0 1 3, cE1, .inr ⟨m + 14, cE1, cE1, cE1, cE1⟩⟩
      · repeat' (first | ((with_reducible first | refine wA (by omega) ?_ | refine wB (by omega) ?_ | refine wC (by omega) ?_ | refine wD (by omega) ?_ | refine wE ?_ ?_ | refine wF ?_ ?_ | refine wG ?_ ?_ | refine wH ?_ ?_ | refine wI ?_ ?_ | refine wJ ?_ ?_ | refine wK ?_ ?_ | refine wL ?_ ?_) <;> intro _) | (((with_reducible refine call_id ?_); (first | (refine call_pure (CopyLevel_pF _ ls[i] (Nat.le_refl _) (by omega)) ?_)))) | simp (maxSteps := 1000000) (disch := omega) only [go_sem, seval, Lv.pv, *])
        refine Nx.mk (ls.length - (i + 1)) cE1 ⟨i + 1, cE1, cE1, cE1, cE1, cE1, PV.osl (m + 14) 0 (i + 1) 3, cE1, .inr ⟨m + 14, cE1, cE1, cE1, cE1⟩⟩
    · obtain rfl : i = ls.length := by omega
      rw [List.take_length] at hrow
      repeat' (first | ((with_reducible first | refine wA (by omega) ?_ | refine wB (by omega) ?_ | refine wC (by omega) ?_ | refine wD (by omega) ?_ | refine wE ?_ ?_ | refine wF ?_ ?_ | refine wG ?_ ?_ | refine wH ?_ ?_ | refine wI ?_ ?_ | refine wJ ?_ ?_ | refine wK ?_ ?_ | refine wL ?_ ?_) <;> intro _) | simp (maxSteps := 1000000) (disch := omega) only [go_sem, seval, *])
      refine c_loopW 562947805937696 (by kernel_rfl) (fun j f H2 m2 => ∃ i2 : Nat, j = args.length - i2 ∧ i2 ≤ args.length ∧ f 5 = .sc (.int .i64 i2) ∧ m ≤ m2 ∧ H2 (nx + 1) = some ⟨[.sc (.int .i64 0), .sc (.int .i64 0), .sc (.string ⟨#[]⟩), .sc (.slice none 0 0), .sc (.slice none 0 0)], true⟩ ∧ RowAt H2 (nx + 9) m 3 a (ls.flatMap (Lv.pvB true)) ls.length ∧ ∃ a2, H2 (nx + 9) = some ⟨[.sc (.int .i64 k), .sc (.int .i64 n), .sc (.string s), a, a2], true⟩ ∧ RowAt H2 m m2 5 a2 ((args.take i2).flatMap (Tm.pvB true)) i2) _ ⟨0, rfl, cE1, cE1, ?mm, cE1, ?rr, _, cE1, .inl ⟨rfl, rfl⟩⟩ ?_
      case mm => exact Nat.le_add_right _ _
      case rr => exact hrow
      rintro _ f2 H2 m2 ⟨i2, rfl, hi2, e5, hm3, ho1, hrow2, a2, ho2, hrow3⟩
      by_cases hlt2 : i2 < args.length
      · have eg : args[i2]? = some args[i2] := List.getElem?_eq_getElem hlt2
        have hn := nodesT_mem args i2 hlt2
        have hs := sizeL_mem args i2 hlt2
        have hl : (List.flatMap (Tm.pvB true) (List.take i2 args)).length = i2 * 5 := by rw [flat_lenG _ 5 (tpvB_len true), List.length_take, Nat.min_eq_left (by omega)]
        have ht : List.take (i2 + 1) args = List.take i2 args ++ [args[i2]] := by rw [List.take_succ_eq_append_getElem hlt2]
        have hg := len_nodesT args
        have hz : (i2 + 1) * 80 ≤ 140737488355328 ∧ i2 ≤ 4611686018427387903 := by omega
        have hro := Kept.mk hrow2
        clear hrow hrow2
        rcases hrow3 with ⟨rfl, rfl⟩ | ⟨id, h1, h2, rfl, h3⟩
        · repeat' (first | ((with_reducible first | refine wA (by omega) ?_ | refine wB (by omega) ?_ | refine wC (by omega) ?_ | refine wD (by omega) ?_ | refine wE ?_ ?_ | refine wF ?_ ?_ | refine wG ?_ ?_ | refine wH ?_ ?_ | refine wI ?_ ?_ | refine wJ ?_ ?_ | refine wK ?_ ?_ | refine wL ?_ ?_) <;> intro _) | (((with_reducible refine call_id ?_); (first | (refine call_pure (ih args[0] (by omega) (by omega)) ?_)))) | simp (maxSteps := 1000000) (disch := omega) only [go_sem, seval, Tm.pv, *])
          refine Nx.mk (args.length - 1) cE1 ⟨1, cE1, cE1, cE1, ?mm, cE1, ?rr, PV.osl (m2 + 14) 0 1 5, cE1, .inr ⟨m2 + 14, cE1, cE1, cE1, cE1⟩⟩
          case mm => exact (by omega : m ≤ m2 + 20)
          case rr => exact hro.out.mono (Nat.le_refl _) fun id' h1' h2' => by simp [upd, show id' ≠ m2 + 14 by omega, show id' ≠ nx + 9 by omega]
        · repeat' (first | ((with_reducible first | refine wA (by omega) ?_ | refine wB (by omega) ?_ | refine wC (by omega) ?_ | refine wD (by omega) ?_ | refine wE ?_ ?_ | refine wF ?_ ?_ | refine wG ?_ ?_ | refine wH ?_ ?_ | refine wI ?_ ?_ | refine wJ ?_ ?_ | refine wK ?_ ?_ | refine wL ?_ ?_) <;> intro _) | (((with_reducible refine call_id ?_); (first | (refine call_pure (ih args[i2] (by omega) (by omega)) ?_)))) | simp (maxSteps := 1000000) (disch := omega) only [go_sem, seval, Tm.pv, *])
          refine Nx.mk (args.length - (i2 + 1)) cE1 ⟨i2 + 1, cE1, cE1, cE1, ?mm, cE1, ?rr, PV.osl (m2 + 14) 0 (i2 + 1) 5, cE1, .inr ⟨m2 + 14, cE1, cE1, cE1, cE1⟩⟩
          case mm => exact (by omega : m ≤ m2 + 20)
          case rr => exact hro.out.mono (Nat.le_refl _) fun id' h1' h2' => by simp [upd, show id' ≠ m2 + 14 by omega, show id' ≠ nx + 9 by omega, show id' ≠ id by omega]
      · obtain rfl : i2 = args.length := by omega
        rw [List.take_length] at hrow3
        have hro : Kept (∀ H' : Nat → Option PObj, (∀ id, nx + 9 < id → H' id = H2 id) → Weak (frzF 1 H' a) (.fsl 3 (ls.map (Lv.pvB true))) ∧ Weak (frzF 1 H' a2) (.fsl 5 (args.map (Tm.pvB true)))) := .mk fun H' hH => ⟨Weak.rowF _ 3 (pvB_len true) (hrow2.mono (Nat.le_refl _) fun id h1 h2 => hH id h1), Weak.rowF _ 5 (tpvB_len true) (hrow3.mono (Nat.le_refl _) fun id h1 h2 => hH id (by omega))⟩
        rcases hrow2 with ⟨h1, rfl⟩ | ⟨id1, h1, h2, rfl, h3⟩ <;> rcases hrow3 with ⟨g1, rfl⟩ | ⟨id2, g1, g2, rfl, g3⟩
        all_goals clear hrow
        · repeat' (first | ((with_reducible first | refine wA (by omega) ?_ | refine wB (by omega) ?_ | refine wC (by omega) ?_ | refine wD (by omega) ?_ | refine wE ?_ ?_ | refine wF ?_ ?_ | refine wG ?_ ?_ | refine wH ?_ ?_ | refine wI ?_ ?_ | refine wJ ?_ ?_ | refine wK ?_ ?_ | refine wL ?_ ?_) <;> intro _) | simp (maxSteps := 1000000) (disch := omega) only [go_sem, seval, *])
          refine fin_retF (r0 := .agg [.sc (.int .i64 k), .sc (.int .i64 n), .sc (.string s), .sc (.slice none 0 0), .sc (.slice none 0 0)]) 2 cE2 ?_
          have hw := fun x => hro.out (upd H2 (nx + 1) x) fun id h => upd_ne _ _ (by omega)
          rw [frzF_agg1]
          simp only [List.map_cons, List.map_nil, Tm.pvB]
          exact Weak.agg ⟨.of_eq (frzF_sc _ _ _), .of_eq (frzF_sc _ _ _), .of_eq (frzF_sc _ _ _), (hw _).1, (hw _).2, trivial⟩
        · repeat' (first | ((with_reducible first | refine wA (by omega) ?_ | refine wB (by omega) ?_ | refine wC (by omega) ?_ | refine wD (by omega) ?_ | refine wE ?_ ?_ | refine wF ?_ ?_ | refine wG ?_ ?_ | refine wH ?_ ?_ | refine wI ?_ ?_ | refine wJ ?_ ?_ | refine wK ?_ ?_ | refine wL ?_ ?_) <;> intro _) | simp (maxSteps := 1000000) (disch := omega) only [go_sem, seval, *])
          refine fin_retF (r0 := .agg [.sc (.int .i64 k), .sc (.int .i64 n), .sc (.string s), .sc (.slice none 0 0), .osl id2 0 args.length 5]) 2 cE2 ?_
          have hw := fun x => hro.out (upd H2 (nx + 1) x) fun id h => upd_ne _ _ (by omega)
          rw [frzF_agg1]
          simp only [List.map_cons, List.map_nil, Tm.pvB]
          exact Weak.agg ⟨.of_eq (frzF_sc _ _ _), .of_eq (frzF_sc _ _ _), .of_eq (frzF_sc _ _ _), (hw _).1, (hw _).2, trivial⟩
        · repeat' (first | ((with_reducible first | refine wA (by omega) ?_ | refine wB (by omega) ?_ | refine wC (by omega) ?_ | refine wD (by omega) ?_ | refine wE ?_ ?_ | refine wF ?_ ?_ | refine wG ?_ ?_ | refine wH ?_ ?_ | refine wI ?_ ?_ | refine wJ ?_ ?_ | refine wK ?_ ?_ | refine wL ?_ ?_) <;> intro _) | simp (maxSteps := 1000000) (disch := omega) only [go_sem, seval, *])
          refine fin_retF (r0 := .agg [.sc (.int .i64 k), .sc (.int .i64 n), .sc (.string s), .osl id1 0 ls.length 3, .sc (.slice none 0 0)]) 2 cE2 ?_
          have hw := fun x => hro.out (upd H2 (nx + 1) x) fun id h => upd_ne _ _ (by omega)
          rw [frzF_agg1]
          simp only [List.map_cons, List.map_nil, Tm.pvB]
          exact Weak.agg ⟨.of_eq (frzF_sc _ _ _), .of_eq (frzF_sc _ _ _), .of_eq (frzF_sc _ _ _), (hw _).1, (hw _).2, trivial⟩
        · repeat' (first | ((with_reducible first | refine wA (by omega) ?_ | refine wB (by omega) ?_ | refine wC (by omega) ?_ | refine wD (by omega) ?_ | refine wE ?_ ?_ | refine wF ?_ ?_ | refine wG ?_ ?_ | refine wH ?_ ?_ | refine wI ?_ ?_ | refine wJ ?_ ?_ | refine wK ?_ ?_ | refine wL ?_ ?_) <;> intro _) | simp (maxSteps := 1000000) (disch := omega) only [go_sem, seval, *])
          refine fin_retF (r0 := .agg [.sc (.int .i64 k), .sc (.int .i64 n), .sc (.string s), .osl id1 0 ls.length 3, .osl id2 0 args.length 5]) 2 cE2 ?_
          have hw := fun x => hro.out (upd H2 (nx + 1) x) fun id h => upd_ne _ _ (by omega)
          rw [frzF_agg1]
          simp only [List.map_cons, List.map_nil, Tm.pvB]
          exact Weak.agg ⟨.of_eq (frzF_sc _ _ _), .of_eq (frzF_sc _ _ _), .of_eq (frzF_sc _ _ _), (hw _).1, (hw _).2, trivial⟩
theorem CopyTerm_p (fuel : Nat) (t : Tm) (h : t.size ≤ fuel) (hm : t.nodes ≤ 2 ^ 40) : PPure Try.prog F.ref00_CopyTerm [.agg t.pv] (.agg t.pv) := (CopyTerm_pF fuel t h hm).weak (WeakL.refl _) (tm_agg true t)
end
section
set_option maxRecDepth 20000
mutual
def OwnT (H : Nat → Option PObj) : Nat → Nat → List PV → Tm → Prop
  | lo, m, cs, .mk k n s ls args => ∃ a b, cs = [.sc (.int .i64 k), .sc (.int .i64 n), .sc (.string s), a, b] ∧
      ((ls = [] ∧ a = .sc (.slice none 0 0)) ∨ a = .fsl 3 (ls.map (Lv.pvB true))) ∧
      ((args = [] ∧ b = .sc (.slice none 0 0)) ∨ ∃ id cells w, lo ≤ id ∧ id < m ∧ b = .osl id 0 args.length 5 ∧ H id = some ⟨cells, w⟩ ∧ OwnTs H (id + 1) m cells args)
def OwnTs (H : Nat → Option PObj) : Nat → Nat → List PV → List Tm → Prop
  | _, _, cs, [] => cs = []
  | lo, m, cs, t :: r => ∃ c cr mid, cs = c ++ cr ∧ lo ≤ mid ∧ mid ≤ m ∧ OwnT H lo mid c t ∧ OwnTs H mid m cr r
end
mutual
theorem OwnT.mono {H H' : Nat → Option PObj} : ∀ (t : Tm) (lo lo' m m' : Nat) (cs : List PV), OwnT H lo m cs t → lo' ≤ lo → m ≤ m' → (∀ j, lo ≤ j → j < m → H' j = H j) → OwnT H' lo' m' cs t
  | .mk k n s ls args, lo, lo', m, m', cs, h, hlo, hm, hH => by
    simp only [OwnT] at h ⊢
    obtain ⟨a, b, e, ha, hb⟩ := h
    refine ⟨a, b, e, ha, ?_⟩
    rcases hb with hb | ⟨id, cells, w, h1, h2, h3, h4, h5⟩
    · exact .inl hb
    · exact .inr ⟨id, cells, w, by omega, by omega, h3, by rw [hH id h1 h2, h4], OwnTs.mono args (id + 1) (id + 1) m m' cells h5 (Nat.le_refl _) hm fun j h6 h7 => hH j (by omega) h7⟩
theorem OwnTs.mono {H H' : Nat → Option PObj} : ∀ (ts : List Tm) (lo lo' m m' : Nat) (cs : List PV), OwnTs H lo m cs ts → lo' ≤ lo → m ≤ m' → (∀ j, lo ≤ j → j < m → H' j = H j) → OwnTs H' lo' m' cs ts
  | [], _, _, _, _, cs, h, _, _, _ => by simpa only [OwnTs] using h
  | t :: r, lo, lo', m, m', cs, h, hlo, hm, hH => by
    simp only [OwnTs] at h ⊢
    obtain ⟨c, cr, mid, e, g1, g2, h1, h2⟩ := h
    exact ⟨c, cr, mid, e, by omega, by omega, OwnT.mono t lo lo' mid mid c h1 hlo (Nat.le_refl _) fun j a b => hH j a (by omega), OwnTs.mono r mid mid m m' cr h2 (Nat.le_refl _) hm fun j a b => hH j (by omega) b⟩
end
theorem OwnT.len {H : Nat → Option PObj} {lo m : Nat} {cs : List PV} {t : Tm} (h : OwnT H lo m cs t) : cs.length = 5 := by
  cases t
  simp only [OwnT] at h
  obtain ⟨a, b, rfl, _⟩ := h
  rfl
theorem OwnTs.len {H : Nat → Option PObj} {lo m : Nat} : ∀ (ts : List Tm) (cs : List PV), OwnTs H lo m cs ts → cs.length = ts.length * 5
  | [], cs, h => by simp only [OwnTs] at h; subst h; rfl
  | t :: r, cs, h => by
    simp only [OwnTs] at h
    obtain ⟨c, cr, mid, rfl, _, _, h1, h2⟩ := h
    rw [List.length_append, h1.len, OwnTs.len r cr h2, List.length_cons]
    omega
def OwnW (H : Nat → Option PObj) (lo m : Nat) : List PV → List Tm → Prop
  | cs, [] => cs = []
  | cs, t :: r => ∃ c cr, cs = c ++ cr ∧ OwnT H lo m c t ∧ OwnW H lo m cr r
theorem OwnTs.weak {H : Nat → Option PObj} : ∀ (ts : List Tm) (lo m : Nat) (cs : List PV), OwnTs H lo m cs ts → ∀ lo' m', lo' ≤ lo → m ≤ m' → OwnW H lo' m' cs ts
  | [], _, _, cs, h, _, _, _, _ => by simpa only [OwnTs, OwnW] using h
  | t :: r, lo, m, cs, h, lo', m', h1, h2 => by
    simp only [OwnTs] at h
    obtain ⟨c, cr, mid, e, g1, g2, h3, h4⟩ := h
    exact ⟨c, cr, e, h3.mono _ _ _ _ _ _ h1 (by omega) fun _ _ _ => rfl, OwnTs.weak r mid m cr h4 lo' m' (by omega) h2⟩
theorem OwnW.mono {H H' : Nat → Option PObj} {lo lo' m m' : Nat} (hlo : lo' ≤ lo) (hm : m ≤ m') (hH : ∀ j, lo ≤ j → j < m → H' j = H j) : ∀ (ts : List Tm) (cs : List PV), OwnW H lo m cs ts → OwnW H' lo' m' cs ts
  | [], cs, h => h
  | t :: r, cs, ⟨c, cr, e, h1, h2⟩ => ⟨c, cr, e, h1.mono _ _ _ _ _ _ hlo hm hH, OwnW.mono hlo hm hH r cr h2⟩
theorem OwnW.len {H : Nat → Option PObj} {lo m : Nat} : ∀ (ts : List Tm) (cs : List PV), OwnW H lo m cs ts → cs.length = ts.length * 5
  | [], cs, h => by cases h; rfl
  | t :: r, cs, ⟨c, cr, e, h1, h2⟩ => by
    subst e
    rw [List.length_append, h1.len, OwnW.len r cr h2, List.length_cons]
    omega
theorem OwnTs.at {H : Nat → Option PObj} {m : Nat} : ∀ (ts : List Tm) (lo : Nat) (cs : List PV) (i : Nat) (hi : i < ts.length), OwnTs H lo m cs ts → lo ≤ m →
    ∃ p c q a b, cs = p ++ (c ++ q) ∧ p.length = i * 5 ∧ lo ≤ a ∧ a ≤ b ∧ b ≤ m ∧ OwnTs H lo a p (ts.take i) ∧ OwnT H a b c ts[i] ∧ OwnTs H b m q (ts.drop (i + 1))
  | t :: r, lo, cs, 0, hi, h, hlm => by
    simp only [OwnTs] at h
    obtain ⟨c, cr, mid, e, g1, g2, h1, h2⟩ := h
    exact ⟨[], c, cr, lo, mid, by simp [e], rfl, Nat.le_refl _, g1, g2, rfl, h1, h2⟩
  | t :: r, lo, cs, i + 1, hi, h, hlm => by
    simp only [OwnTs] at h
    obtain ⟨c, cr, mid, e, g1, g2, h1, h2⟩ := h
    obtain ⟨p, c', q, a, b, e2, hl, ha, hab, hb, k1, k2, k3⟩ := OwnTs.at r mid cr i (by simpa using hi) h2 g2
    refine ⟨c ++ p, c', q, a, b, by rw [e, e2, List.append_assoc], by rw [List.length_append, h1.len, hl]; omega, by omega, hab, hb, ?_, by simpa using k2, by simpa using k3⟩
    simp only [List.take_succ_cons, OwnTs]
    exact ⟨c, p, mid, rfl, g1, ha, h1, k1⟩
theorem OwnTs.append {H : Nat → Option PObj} {m b : Nat} : ∀ (ts us : List Tm) (lo : Nat) (cs ds : List PV), OwnTs H lo b cs ts → OwnTs H b m ds us → lo ≤ b → b ≤ m → OwnTs H lo m (cs ++ ds) (ts ++ us)
  | [], us, lo, cs, ds, h, k, h1, h2 => by
    simp only [OwnTs] at h
    subst h
    exact k.mono _ _ _ _ _ _ h1 (Nat.le_refl _) fun _ _ _ => rfl
  | t :: r, us, lo, cs, ds, h, k, h1, h2 => by
    simp only [OwnTs] at h
    obtain ⟨c, cr, mid, e, g1, g2, h3, h4⟩ := h
    simp only [List.cons_append, OwnTs]
    exact ⟨c, cr ++ ds, mid, by rw [e, List.append_assoc], g1, by omega, h3, OwnTs.append r us mid cr ds h4 k g2 h2⟩
theorem chunks_flatten (sz : Nat) : ∀ (n : Nat) (xs : List PV), xs.length = n * sz → (chunks sz n xs).flatten = xs
  | 0, xs, h => by
    obtain rfl : xs = [] := List.eq_nil_of_length_eq_zero (by simpa using h)
    rfl
  | n + 1, xs, h => by
    simp only [chunks, List.flatten_cons]
    rw [chunks_flatten sz n (xs.drop sz) (by rw [List.length_drop, h, Nat.succ_mul]; omega), List.take_append_drop]
theorem chunks_length (sz : Nat) : ∀ (n : Nat) (xs : List PV), (chunks sz n xs).length = n
  | 0, _ => rfl
  | n + 1, xs => by simp only [chunks, List.length_cons, chunks_length sz n]
theorem Weak.fslW {sz : Nat} {es es' : List (List PV)} (hl : es.length = es'.length) (hs : ∀ e ∈ es', e.length = sz) (h : WeakL es.flatten es'.flatten) : Weak (.fsl sz es) (.fsl sz es') := fun V v hv => by
  cases hv with
  | fsl _ _ _ hcl hv =>
    refine .fsl sz es' v (fun b off len cap e he => hcl b off len cap e fun h0 => he ?_) (Weak.sl hl hs h V v hv)
    rw [h0] at hl
    exact List.eq_nil_of_length_eq_zero hl.symm
mutual
theorem OwnT.frz {H : Nat → Option PObj} : ∀ (t : Tm) (lo m : Nat) (cs : List PV), OwnT H lo m cs t → ∀ k, t.size ≤ k → WeakL (cs.map (frzF k H)) (t.pvB true)
  | .mk kind n s ls args, lo, m, cs, h, k, hk => by
    simp only [OwnT] at h
    obtain ⟨a, b, rfl, ha, hb⟩ := h
    simp only [Tm.size] at hk
    obtain ⟨k, rfl⟩ : ∃ k', k = k' + 1 := ⟨k - 1, by omega⟩
    rw [Tm.pvB]
    simp only [List.map_cons, List.map_nil]
    refine ⟨.of_eq (frzF_sc _ _ _), .of_eq (frzF_sc _ _ _), .of_eq (frzF_sc _ _ _), ?_, ?_, trivial⟩
    · rcases ha with ⟨rfl, rfl⟩ | rfl
      · exact .trans (.of_eq (frzF_sc _ _ _)) (Weak.nilF 3)
      · exact .refl _
    · rcases hb with ⟨rfl, rfl⟩ | ⟨id, cells, w, h1, h2, rfl, h4, h5⟩
      · exact .trans (.of_eq (frzF_sc _ _ _)) (Weak.nilF 5)
      · have hl := OwnTs.len args cells h5
        have hw := OwnTs.frz args (id + 1) m cells h5 k (by omega)
        simp only [Go.Proofs.Ytnelciclibknpaa.frzF, h4, List.drop_zero]
        rw [if_pos (by omega), List.take_of_length_le (by omega)]
        refine Weak.fslW (by rw [chunks_length, List.length_map]) (fun e he => ?_) ?_
        · obtain ⟨t, _, rfl⟩ := List.mem_map.1 he
          exact tpvB_len true t
        · rw [chunks_flatten 5 args.length _ (by rw [List.length_map, hl])]
          exact hw
theorem OwnTs.frz {H : Nat → Option PObj} : ∀ (ts : List Tm) (lo m : Nat) (cs : List PV), OwnTs H lo m cs ts → ∀ k, sizeL ts ≤ k → WeakL (cs.map (Go.Proofs.Ytnelciclibknpaa.frzF k H)) (ts.map (Tm.pvB true)).flatten
  | [], _, _, cs, h, _, _ => by
    simp only [OwnTs] at h
    subst h
    trivial
  | t :: r, lo, m, cs, h, k, hk => by
    simp only [OwnTs] at h
    obtain ⟨c, cr, mid, rfl, _, _, h1, h2⟩ := h
    simp only [sizeL] at hk
    simp only [List.map_append, List.map_cons, List.flatten_cons]
    exact (OwnT.frz t lo mid c h1 k (by omega)).append (OwnTs.frz r mid m cr h2 k (by omega))
end
theorem OwnW.frz {H : Nat → Option PObj} {lo m : Nat} : ∀ (ts : List Tm) (cs : List PV), OwnW H lo m cs ts → ∀ k, sizeL ts ≤ k → WeakL (cs.map (Go.Proofs.Ytnelciclibknpaa.frzF k H)) (ts.map (Tm.pvB true)).flatten
  | [], cs, h, _, _ => by cases h; trivial
  | t :: r, cs, ⟨c, cr, e, h1, h2⟩, k, hk => by
    subst e
    simp only [sizeL] at hk
    simp only [List.map_append, List.map_cons, List.flatten_cons]
    exact (OwnT.frz t _ _ c h1 k (by omega)).append (OwnW.frz r cr h2 k (by omega))
end
section
set_option maxRecDepth 20000
attribute [local go_sem] pv_len pv_take Nat.add_assoc tm_len tm_take pv_one tm_one tpvB_len tpvB_take tpvB_one pvB_len pvB_take pvB_one id_ne id_ne' id_ne2 List.append_assoc
theorem OwnT.one {H : Nat → Option PObj} {lo m : Nat} {cs : List PV} {t : Tm} (h : OwnT H lo m cs t) : cs.all PV.one = true := by
  cases t
  simp only [OwnT] at h
  obtain ⟨a, b, rfl, h1, h2⟩ := h
  rcases h1 with ⟨_, rfl⟩ | rfl <;> rcases h2 with ⟨_, rfl⟩ | ⟨_, _, _, _, _, rfl, _⟩ <;> rfl
end
section
set_option maxRecDepth 20000
attribute [local go_sem] pv_len pv_take Nat.add_assoc tm_len tm_take pv_one tm_one tpvB_len tpvB_take tpvB_one pvB_len pvB_take pvB_one id_ne id_ne' id_ne2 List.append_assoc
def ptrB (f : Bool) (cs : List PV) : PV := if f = true then .fptr cs else .ptr cs
theorem lenPV_slB {f : Bool} {sz : Nat} {es : List (List PV)} : lenPV false (slB f sz es) = some es.length := by cases f <;> rfl
attribute [local go_sem] lenPV_slB
theorem iaV_slB_f {f : Bool} {sz : Nat} {es : List (List PV)} {k : IntKind} {n : Int} : iaV (slB f sz es) (.sc (.int k n)) sz false = if 0 ≤ n then (es[n.toNat]?).map .ptr else none := by
  cases f <;> (simp only [slB, Bool.false_eq_true, if_false, if_true, iaV, and_true]; rfl)
attribute [local go_sem] iaV_slB_f
theorem iaV_slB_t {f : Bool} {sz : Nat} {es : List (List PV)} {k : IntKind} {n : Int} : iaV (slB f sz es) (.sc (.int k n)) sz true = if 0 ≤ n then (es[n.toNat]?).map (fun _ => ptrB f (es.drop n.toNat).flatten) else none := by
  cases f <;> (simp only [slB, Bool.false_eq_true, if_false, if_true, iaV, and_true]; rfl)
attribute [local go_sem] iaV_slB_t
theorem ptrOf_B {f : Bool} {cs : List PV} : ptrOf (ptrB f cs) = some (f, cs) := by cases f <;> rfl
theorem slB_bnd {f : Bool} {sz : Nat} {es : List (List PV)} : (slB f sz es).bnd ↔ es.length ≤ 9223372036854775807 ∧ bndLL es := by cases f <;> rfl
theorem sc_eq {V : Vw} {a b v : Value} (h : Rep V (.sc a) v) (k : Rep V (.sc b) v) : a = b := by
  cases h; cases k; rfl
theorem repl_cons {V : Vw} {x : PV} {xs : List PV} {vs : List Value} (h : RepL V (x :: xs) vs) : ∃ v r, vs = v :: r ∧ Rep V x v ∧ RepL V xs r := by
  match vs, h with
  | v :: r, h => exact ⟨v, r, rfl, h.2 0 x v rfl rfl, by simpa using h.1, fun i a b ha hb => h.2 (i + 1) a b (by simpa using ha) (by simpa using hb)⟩
  | [], h => exact absurd h.1 (by simp)
theorem ptr_both {V : Vw} {xs ys : List PV} {v : Value} (h : Rep V (.ptr xs) v) (k : Rep V (.ptr ys) v) (hl : xs.length = ys.length) : ∃ vs, RepL V xs vs ∧ RepL V ys vs := by
  obtain ⟨b, off, vs, rfl, _, h1, h2⟩ := h.ptr_inv
  obtain ⟨b', off', us, e, _, k1, k2⟩ := k.ptr_inv
  cases e
  have : vs = us := by
    apply List.ext_getElem (by rw [h1.1, k1.1, hl])
    intro i hi hj
    have a := h2 i vs[i] (List.getElem?_eq_getElem hi)
    have c := k2 i us[i] (List.getElem?_eq_getElem hj)
    rw [a] at c
    exact Option.some.inj c
  subst this
  exact ⟨vs, h1, k1⟩
theorem sl_both {α : Type} {V : Vw} {f : α → List PV} {sz : Nat} {xs ys : List α} {v : Value} (hf : ∀ x, (f x).length = sz) (h : Rep V (.sl sz (xs.map f)) v) (k : Rep V (.sl sz (ys.map f)) v) :
    xs.length = ys.length ∧ ∃ vs, RepL V (xs.map f).flatten vs ∧ RepL V (ys.map f).flatten vs := by
  have hl : ∀ {zs : List α} {A : Option Addr} {len cap : Nat}, Rep V (.sl sz (zs.map f)) (.slice A len cap) → zs.length = len := by
    intro zs A len cap h
    generalize he : zs.map f = es at h
    cases h with
    | slNil => simpa using he
    | sl _ _ b off len cap hlen => rw [← he] at hlen; simpa using hlen
  have hv : ∃ A len cap, v = .slice A len cap := by
    generalize xs.map f = es at h
    cases h with
    | slNil _ A cap => exact ⟨_, _, _, rfl⟩
    | sl _ _ b off len cap => exact ⟨_, _, _, rfl⟩
  obtain ⟨A, len, cap, rfl⟩ := hv
  have e := (hl h).trans (hl k).symm
  refine ⟨e, ?_⟩
  by_cases h0 : xs = []
  · subst h0
    obtain rfl : ys = [] := List.eq_nil_of_length_eq_zero (by simpa using e.symm)
    exact ⟨[], RepL.nil, RepL.nil⟩
  · have h1 : ∃ b off, A = some ⟨b, off, none⟩ ∧ Rep V (.ptr (xs.map f).flatten) (.pointer (some ⟨b, off, none⟩)) := by
      generalize he : xs.map f = es at h
      cases h with
      | slNil => exact absurd (by simpa using he) h0
      | sl _ _ b off len cap _ _ _ _ hp => exact ⟨b, off, rfl, hp⟩
    obtain ⟨b, off, rfl, hp⟩ := h1
    have h2 : Rep V (.ptr (ys.map f).flatten) (.pointer (some ⟨b, off, none⟩)) := by
      generalize he : ys.map f = es at k
      cases k with
      | slNil => exact absurd (List.eq_nil_of_length_eq_zero (by rw [e]; simpa using he)) h0
      | sl _ _ b off len cap _ _ _ _ hp => exact hp
    have hfl : ∀ zs : List α, (zs.map f).flatten.length = zs.length * sz := fun zs => by
      rw [← List.flatMap_def]
      exact flat_lenG f sz hf zs
    exact ptr_both hp h2 (by rw [hfl, hfl, e])
theorem rows_both {α : Type} {V : Vw} {f : α → List PV} {sz : Nat} (hf : ∀ x, (f x).length = sz) : ∀ (xs ys : List α), xs.length = ys.length → (∀ x ∈ xs, ∀ y vs, RepL V (f x) vs → RepL V (f y) vs → x = y) → ∀ vs, RepL V (xs.map f).flatten vs → RepL V (ys.map f).flatten vs → xs = ys
  | [], [], _, _, _, _, _ => rfl
  | x :: r, y :: s, hl, hx, vs, h, k => by
    simp only [List.map_cons, List.flatten_cons] at h k
    have h1 := h.take sz
    have k1 := k.take sz
    have h2 := h.drop sz
    have k2 := k.drop sz
    rw [List.take_left' (hf x)] at h1
    rw [List.take_left' (hf y)] at k1
    rw [List.drop_left' (hf x)] at h2
    rw [List.drop_left' (hf y)] at k2
    rw [hx x (by simp) y _ h1 k1, rows_both hf r s (by simpa using hl) (fun z hz => hx z (by simp [hz])) _ h2 k2]
  | [], _ :: _, hl, _, _, _, _ => by simp at hl
  | _ :: _, [], hl, _, _, _, _ => by simp at hl
theorem lv_both {V : Vw} : ∀ (fuel : Nat) (x : Lv), x.nodes ≤ fuel → ∀ (y : Lv) vs, RepL V x.pv vs → RepL V y.pv vs → x = y := by
  intro fuel
  induction fuel with
  | zero => intro x h; have := nodes_pos x; omega
  | succ fuel ih =>
    intro x hx y vs h k
    cases x with
    | mk a n args =>
    cases y with
    | mk b m args' =>
    simp only [Lv.nodes] at hx
    simp only [Lv.pv] at h k
    obtain ⟨v0, r0, rfl, h0, h⟩ := repl_cons h
    obtain ⟨v1, r1, rfl, h1, h⟩ := repl_cons h
    obtain ⟨v2, r2, rfl, h2, h⟩ := repl_cons h
    obtain ⟨_, _, e, k0, k⟩ := repl_cons k
    cases e
    obtain ⟨_, _, e, k1, k⟩ := repl_cons k
    cases e
    obtain ⟨_, _, e, k2, k⟩ := repl_cons k
    cases e
    cases sc_eq h0 k0
    cases sc_eq h1 k1
    obtain ⟨hl, vs, p, q⟩ := sl_both pv_len h2 k2
    rw [rows_both pv_len args args' hl (fun z hz => ih z (by
      obtain ⟨i, hi, rfl⟩ := List.getElem_of_mem hz
      have := nodesL_mem args i hi
      omega)) vs p q]
theorem tm_both {V : Vw} : ∀ (fuel : Nat) (x : Tm), x.size ≤ fuel → ∀ (y : Tm) vs, RepL V x.pv vs → RepL V y.pv vs → x = y := by
  intro fuel
  induction fuel with
  | zero => intro x h; have := size_pos x; omega
  | succ fuel ih =>
    intro x hx y vs h k
    cases x with
    | mk a n s ls args =>
    cases y with
    | mk b m s' ls' args' =>
    simp only [Tm.size] at hx
    simp only [Tm.pv] at h k
    obtain ⟨v0, r0, rfl, h0, h⟩ := repl_cons h
    obtain ⟨v1, r1, rfl, h1, h⟩ := repl_cons h
    obtain ⟨v2, r2, rfl, h2, h⟩ := repl_cons h
    obtain ⟨v3, r3, rfl, h3, h⟩ := repl_cons h
    obtain ⟨v4, r4, rfl, h4, h⟩ := repl_cons h
    obtain ⟨_, _, e, k0, k⟩ := repl_cons k
    cases e
    obtain ⟨_, _, e, k1, k⟩ := repl_cons k
    cases e
    obtain ⟨_, _, e, k2, k⟩ := repl_cons k
    cases e
    obtain ⟨_, _, e, k3, k⟩ := repl_cons k
    cases e
    obtain ⟨_, _, e, k4, k⟩ := repl_cons k
    cases e
    cases sc_eq h0 k0
    cases sc_eq h1 k1
    cases sc_eq h2 k2
    obtain ⟨hl, vs, p, q⟩ := sl_both pv_len h3 k3
    rw [rows_both pv_len ls ls' hl (fun z hz => lv_both z.nodes z (Nat.le_refl _)) vs p q]
    obtain ⟨hl, vs, p, q⟩ := sl_both tm_len h4 k4
    rw [rows_both tm_len args args' hl (fun z hz => ih z (by
      obtain ⟨i, hi, rfl⟩ := List.getElem_of_mem hz
      have := sizeL_mem args i hi
      omega)) vs p q]
theorem meet_lvs {f g : Bool} {xs ys : List Lv} (hl : xs.length = ys.length) (h : Meet (xs.map (Lv.pvB f)).flatten (ys.map (Lv.pvB g)).flatten) : xs = ys := by
  obtain ⟨V, v, p, q⟩ := h
  have p' := Weak.ptr (WeakL.rows xs fun x _ => lv_weak' f x) V v p
  have q' := Weak.ptr (WeakL.rows ys fun x _ => lv_weak' g x) V v q
  have hfl : ∀ zs : List Lv, (zs.map Lv.pv).flatten.length = zs.length * 3 := fun zs => by
    rw [← List.flatMap_def]
    exact flat_lenG _ 3 pv_len zs
  obtain ⟨vs, h1, h2⟩ := ptr_both p' q' (by rw [hfl, hfl, hl])
  exact rows_both pv_len xs ys hl (fun z hz => lv_both z.nodes z (Nat.le_refl _)) vs h1 h2
theorem meet_tms {f g : Bool} {xs ys : List Tm} (hl : xs.length = ys.length) (h : Meet (xs.map (Tm.pvB f)).flatten (ys.map (Tm.pvB g)).flatten) : xs = ys := by
  obtain ⟨V, v, p, q⟩ := h
  have p' := Weak.ptr (WeakL.rows xs fun x _ => tm_weak f x) V v p
  have q' := Weak.ptr (WeakL.rows ys fun x _ => tm_weak g x) V v q
  have hfl : ∀ zs : List Tm, (zs.map Tm.pv).flatten.length = zs.length * 5 := fun zs => by
    rw [← List.flatMap_def]
    exact flat_lenG _ 5 tm_len zs
  obtain ⟨vs, h1, h2⟩ := ptr_both p' q' (by rw [hfl, hfl, hl])
  exact rows_both tm_len xs ys hl (fun z hz => tm_both z.size z (Nat.le_refl _)) vs h1 h2
theorem sameL_refl (xs : List Lv) : sameL xs xs = true := (sameL_iff xs xs rfl).2 rfl
theorem flat_ne {α : Type} {f : α → List PV} {sz : Nat} (hf : ∀ x, (f x).length = sz + 1) {xs : List α} (h : 0 < xs.length) : (xs.map f).flatten ≠ [] := by
  match xs, h with
  | x :: r, _ =>
    intro e
    have := hf x
    simp only [List.map_cons, List.flatten_cons, List.append_eq_nil_iff] at e
    rw [e.1] at this
    simp at this
set_option maxHeartbeats 8000000 in
theorem sameLevels_p (f g : Bool) (hfg : (f || g) = true) : ∀ (fuel : Nat) (xs ys : List Lv), nodesL xs < fuel → PPure Try.prog F.term_sameLevels [slB f 3 (xs.map (Lv.pvB f)), slB g 3 (ys.map (Lv.pvB g))] (.sc (.bool (decide (xs.length = ys.length) && sameL xs ys))) := by
  intro fuel
  induction fuel with
  | zero => intro xs ys h; omega
  | succ fuel ih =>
    intro xs ys hf
    refine pure_by is_term_sameLevels (by simp) rfl fun hb nx => ?_
    have hb0 : xs.length ≤ 9223372036854775807 ∧ ys.length ≤ 9223372036854775807 := by simp [bndL, slB_bnd] at hb; exact ⟨hb.1.1, hb.2.1⟩
    by_cases hl : xs.length = ys.length
    · by_cases h0 : xs.length = 0
      · obtain rfl : xs = [] := List.eq_nil_of_length_eq_zero h0
        obtain rfl : ys = [] := List.eq_nil_of_length_eq_zero hl.symm
        clear ih
        repeat' (first | ((with_reducible first | refine wA (by omega) ?_ | refine wB (by omega) ?_ | refine wC (by omega) ?_ | refine wD (by omega) ?_ | refine wE ?_ ?_ | refine wF ?_ ?_ | refine wG ?_ ?_ | refine wH ?_ ?_ | refine wI ?_ ?_ | refine wJ ?_ ?_ | refine wK ?_ ?_ | refine wL ?_ ?_) <;> intro _) | simp (maxSteps := 1000000) (disch := omega) only [↓c_seq, ↓c_region, ↓c_cond, ↓c_block, ↓c_ret, ↓c_skip, ↓c_exit, ↓c_cont, ↓t_normal, ↓t_ret, ↓t_exit, ↓b_normal, ↓b_ret, ↓b_exit, ↓run_nil, ↓run_cons, num_nil, num_cons, ↓g_some, ↓o_mv, ↓o_pick, ↓o_bin, ↓o_un, ↓o_ld, ↓o_ldf, isP, ↓o_bld, ↓o_len, ↓o_mkf, ↓o_nilc, ↓o_fa, ↓o_fd, ↓o_ia, ↓o_iaa, ↓o_ix, ↓o_ixs, ↓o_ext, ↓o_al, ↓o_bxf, ↓o_bxt, ↓o_bsl, ↓o_bslf, chunks, ↓o_mks, ↓o_st, ↓o_stf, ↓o_call, ↓o_rng, ↓o_nxt, rngV, next_is, next_iter, ↓o_callm, ↓o_callmA, ↓o_calvm, ↓o_calv, val_some, new_some, st_some, stf_some, guard_tt, guard_ff, guard_tf, guard_ft, guard_un, ↓cond_true, ↓cond_false, calv_fn, put_some, put_none, ev_tmp, ev_const, ev_func, ↓upd_get, sig_eq, sigF_nil, ↓sigF_cons, q0, q1, nilcV, faV, fdV, iaaV, ixV, ixsV, extV, mksV, loadP, storeP, binPV, unPV, intBin, partsP, fillP, zeros, PV.good, PV.cellsOf, PV.one, q2, q3, q4, q5, q6, q7, q8, q9, q10, q11, q12, q13, q14, Nat.reduceAdd, Nat.reduceMul, Nat.reduceSub, Nat.reduceLeDiff, Nat.reduceEqDiff, Nat.reduceBEq, q15, q16, q17, q18, ↓reduceIte, reduceCtorEq, q19, q20, q21, q22, q23, q24, q25, q26, q27, q28, q29, q30, q31, q32, q33, q34, q35, q36, q37, q38, wrap64, ↓o_eqa, ↓o_mm, ↓o_app, app_some, mmL, mmV, mm2, eqE, eqParts, eqInt, eqBool, eqStr, partV, q39, q40, pickV, q41, Int.reduceEq, Int.reduceLE, Int.reduceLT, Int.reduceAdd, Int.reduceSub, Int.reduceNeg, Int.reduceToNat, Int.reduceNe, q42, q43, q44, q45, q46, q47, q48, q49, appE, oldOf, rowOf, updL, q50, q51, q52, q53, Nat.reducePow, zlt, ovr_get, Nat.reduceShiftRight, Nat.reduceMod, ite_neN, ite_eqN, q54, q55, q56, q57, q58, q59, q60, q61, q62, q63, q64, q65, q66, q67, tailP_f, tailP_t, tailF_f, tailF_t, ↓o_slc, slcP, bndO, capO, slcLen, intOf, Option.isSome_none, Option.isNone_none, Option.isSome_some, Option.isNone_some, nilP, slc_sl, slc_csl, slc_osl, slc_osl0, slc_ocap, slc_str, appR, appS, ↓o_apps, ↓o_cvt, cvP, shiftB, false_or, pv_len, pv_take, Nat.add_assoc, tm_len, tm_take, pv_one, tm_one, tpvB_len, tpvB_take, tpvB_one, pvB_len, pvB_take, pvB_one, List.length_append, id_ne, id_ne', id_ne2, List.append_nil, List.append_assoc, lenPV_slB, iaV_slB_f, iaV_slB_t, mc_term_sameLevels, *])
        refine c_rounds 1 ?_
        repeat' (first | ((with_reducible first | refine wA (by omega) ?_ | refine wB (by omega) ?_ | refine wC (by omega) ?_ | refine wD (by omega) ?_ | refine wE ?_ ?_ | refine wF ?_ ?_ | refine wG ?_ ?_ | refine wH ?_ ?_ | refine wI ?_ ?_ | refine wJ ?_ ?_ | refine wK ?_ ?_ | refine wL ?_ ?_) <;> intro _) | simp (maxSteps := 1000000) (disch := omega) only [↓c_seq, ↓c_region, ↓c_cond, ↓c_block, ↓c_ret, ↓c_skip, ↓c_exit, ↓c_cont, ↓t_normal, ↓t_ret, ↓t_exit, ↓b_normal, ↓b_ret, ↓b_exit, ↓run_nil, ↓run_cons, num_nil, num_cons, ↓g_some, ↓o_mv, ↓o_pick, ↓o_bin, ↓o_un, ↓o_ld, ↓o_ldf, isP, ↓o_bld, ↓o_len, ↓o_mkf, ↓o_nilc, ↓o_fa, ↓o_fd, ↓o_ia, ↓o_iaa, ↓o_ix, ↓o_ixs, ↓o_ext, ↓o_al, ↓o_bxf, ↓o_bxt, ↓o_bsl, ↓o_bslf, chunks, ↓o_mks, ↓o_st, ↓o_stf, ↓o_call, ↓o_rng, ↓o_nxt, rngV, next_is, next_iter, ↓o_callm, ↓o_callmA, ↓o_calvm, ↓o_calv, val_some, new_some, st_some, stf_some, guard_tt, guard_ff, guard_tf, guard_ft, guard_un, ↓cond_true, ↓cond_false, calv_fn, put_some, put_none, ev_tmp, ev_const, ev_func, ↓upd_get, sig_eq, sigF_nil, ↓sigF_cons, q0, q1, nilcV, faV, fdV, iaaV, ixV, ixsV, extV, mksV, loadP, storeP, binPV, unPV, intBin, partsP, fillP, zeros, PV.good, PV.cellsOf, PV.one, q2, q3, q4, q5, q6, q7, q8, q9, q10, q11, q12, q13, q14, Nat.reduceAdd, Nat.reduceMul, Nat.reduceSub, Nat.reduceLeDiff, Nat.reduceEqDiff, Nat.reduceBEq, q15, q16, q17, q18, ↓reduceIte, reduceCtorEq, q19, q20, q21, q22, q23, q24, q25, q26, q27, q28, q29, q30, q31, q32, q33, q34, q35, q36, q37, q38, wrap64, ↓o_eqa, ↓o_mm, ↓o_app, app_some, mmL, mmV, mm2, eqE, eqParts, eqInt, eqBool, eqStr, partV, q39, q40, pickV, q41, Int.reduceEq, Int.reduceLE, Int.reduceLT, Int.reduceAdd, Int.reduceSub, Int.reduceNeg, Int.reduceToNat, Int.reduceNe, q42, q43, q44, q45, q46, q47, q48, q49, appE, oldOf, rowOf, updL, q50, q51, q52, q53, Nat.reducePow, zlt, ovr_get, Nat.reduceShiftRight, Nat.reduceMod, ite_neN, ite_eqN, q54, q55, q56, q57, q58, q59, q60, q61, q62, q63, q64, q65, q66, q67, tailP_f, tailP_t, tailF_f, tailF_t, ↓o_slc, slcP, bndO, capO, slcLen, intOf, Option.isSome_none, Option.isNone_none, Option.isSome_some, Option.isNone_some, nilP, slc_sl, slc_csl, slc_osl, slc_osl0, slc_ocap, slc_str, appR, appS, ↓o_apps, ↓o_cvt, cvP, shiftB, false_or, pv_len, pv_take, Nat.add_assoc, tm_len, tm_take, pv_one, tm_one, tpvB_len, tpvB_take, tpvB_one, pvB_len, pvB_take, pvB_one, List.length_append, id_ne, id_ne', id_ne2, List.append_nil, List.append_assoc, lenPV_slB, iaV_slB_f, iaV_slB_t, rounds_next, *])
        refine fin_tmp (.inr rfl) ?_
        simp [upd, sameL]
      · have h00 : 0 < xs.length := by omega
        have eg : xs[0]? = some xs[0] := List.getElem?_eq_getElem h00
        have eg2 : ys[0]? = some ys[0] := List.getElem?_eq_getElem (by omega)
        repeat' (first | ((with_reducible first | refine wA (by omega) ?_ | refine wB (by omega) ?_ | refine wC (by omega) ?_ | refine wD (by omega) ?_ | refine wE ?_ ?_ | refine wF ?_ ?_ | refine wG ?_ ?_ | refine wH ?_ ?_ | refine wI ?_ ?_ | refine wJ ?_ ?_ | refine wK ?_ ?_ | refine wL ?_ ?_) <;> intro _) | simp (maxSteps := 1000000) (disch := omega) only [↓c_seq, ↓c_region, ↓c_cond, ↓c_block, ↓c_ret, ↓c_skip, ↓c_exit, ↓c_cont, ↓t_normal, ↓t_ret, ↓t_exit, ↓b_normal, ↓b_ret, ↓b_exit, ↓run_nil, ↓run_cons, num_nil, num_cons, ↓g_some, ↓o_mv, ↓o_pick, ↓o_bin, ↓o_un, ↓o_ld, ↓o_ldf, isP, ↓o_bld, ↓o_len, ↓o_mkf, ↓o_nilc, ↓o_fa, ↓o_fd, ↓o_ia, ↓o_iaa, ↓o_ix, ↓o_ixs, ↓o_ext, ↓o_al, ↓o_bxf, ↓o_bxt, ↓o_bsl, ↓o_bslf, chunks, ↓o_mks, ↓o_st, ↓o_stf, ↓o_call, ↓o_rng, ↓o_nxt, rngV, next_is, next_iter, ↓o_callm, ↓o_callmA, ↓o_calvm, ↓o_calv, val_some, new_some, st_some, stf_some, guard_tt, guard_ff, guard_tf, guard_ft, guard_un, ↓cond_true, ↓cond_false, calv_fn, put_some, put_none, ev_tmp, ev_const, ev_func, ↓upd_get, sig_eq, sigF_nil, ↓sigF_cons, q0, q1, nilcV, faV, fdV, iaaV, ixV, ixsV, extV, mksV, loadP, storeP, binPV, unPV, intBin, partsP, fillP, zeros, PV.good, PV.cellsOf, PV.one, q2, q3, q4, q5, q6, q7, q8, q9, q10, q11, q12, q13, q14, Nat.reduceAdd, Nat.reduceMul, Nat.reduceSub, Nat.reduceLeDiff, Nat.reduceEqDiff, Nat.reduceBEq, q15, q16, q17, q18, ↓reduceIte, reduceCtorEq, q19, q20, q21, q22, q23, q24, q25, q26, q27, q28, q29, q30, q31, q32, q33, q34, q35, q36, q37, q38, wrap64, ↓o_eqa, ↓o_mm, ↓o_app, app_some, mmL, mmV, mm2, eqE, eqParts, eqInt, eqBool, eqStr, partV, q39, q40, pickV, q41, Int.reduceEq, Int.reduceLE, Int.reduceLT, Int.reduceAdd, Int.reduceSub, Int.reduceNeg, Int.reduceToNat, Int.reduceNe, q42, q43, q44, q45, q46, q47, q48, q49, appE, oldOf, rowOf, updL, q50, q51, q52, q53, Nat.reducePow, zlt, ovr_get, Nat.reduceShiftRight, Nat.reduceMod, ite_neN, ite_eqN, q54, q55, q56, q57, q58, q59, q60, q61, q62, q63, q64, q65, q66, q67, tailP_f, tailP_t, tailF_f, tailF_t, ↓o_slc, slcP, bndO, capO, slcLen, intOf, Option.isSome_none, Option.isNone_none, Option.isSome_some, Option.isNone_some, nilP, slc_sl, slc_csl, slc_osl, slc_osl0, slc_ocap, slc_str, appR, appS, ↓o_apps, ↓o_cvt, cvP, shiftB, false_or, pv_len, pv_take, Nat.add_assoc, tm_len, tm_take, pv_one, tm_one, tpvB_len, tpvB_take, tpvB_one, pvB_len, pvB_take, pvB_one, List.length_append, id_ne, id_ne', id_ne2, List.append_nil, List.append_assoc, lenPV_slB, iaV_slB_f, iaV_slB_t, mc_term_sameLevels, *])
        refine o_peq (f := f) (g := g) (cs := (xs.map (Lv.pvB f)).flatten) (ds := (ys.map (Lv.pvB g)).flatten) (n := 2) rfl rfl Try.underlying64 (by kernel_rfl) (by (simp (disch := omega) only [go_sem, seval, ev_tmp, ptrOf_B])) (by (simp (disch := omega) only [go_sem, seval, ev_tmp, ptrOf_B])) hfg (flat_ne (pvB_len f) h00) (flat_ne (pvB_len g) (by omega)) fun t ht => ?_
        cases t with
        | true =>
          obtain rfl := meet_lvs hl (ht rfl)
          have hrf := sameL_refl xs
          clear ih ht
          repeat' (first | ((with_reducible first | refine wA (by omega) ?_ | refine wB (by omega) ?_ | refine wC (by omega) ?_ | refine wD (by omega) ?_ | refine wE ?_ ?_ | refine wF ?_ ?_ | refine wG ?_ ?_ | refine wH ?_ ?_ | refine wI ?_ ?_ | refine wJ ?_ ?_ | refine wK ?_ ?_ | refine wL ?_ ?_) <;> intro _) | simp (maxSteps := 1000000) (disch := omega) only [↓c_seq, ↓c_region, ↓c_cond, ↓c_block, ↓c_ret, ↓c_skip, ↓c_exit, ↓c_cont, ↓t_normal, ↓t_ret, ↓t_exit, ↓b_normal, ↓b_ret, ↓b_exit, ↓run_nil, ↓run_cons, num_nil, num_cons, ↓g_some, ↓o_mv, ↓o_pick, ↓o_bin, ↓o_un, ↓o_ld, ↓o_ldf, isP, ↓o_bld, ↓o_len, ↓o_mkf, ↓o_nilc, ↓o_fa, ↓o_fd, ↓o_ia, ↓o_iaa, ↓o_ix, ↓o_ixs, ↓o_ext, ↓o_al, ↓o_bxf, ↓o_bxt, ↓o_bsl, ↓o_bslf, chunks, ↓o_mks, ↓o_st, ↓o_stf, ↓o_call, ↓o_rng, ↓o_nxt, rngV, next_is, next_iter, ↓o_callm, ↓o_callmA, ↓o_calvm, ↓o_calv, val_some, new_some, st_some, stf_some, guard_tt, guard_ff, guard_tf, guard_ft, guard_un, ↓cond_true, ↓cond_false, calv_fn, put_some, put_none, ev_tmp, ev_const, ev_func, ↓upd_get, sig_eq, sigF_nil, ↓sigF_cons, q0, q1, nilcV, faV, fdV, iaaV, ixV, ixsV, extV, mksV, loadP, storeP, binPV, unPV, intBin, partsP, fillP, zeros, PV.good, PV.cellsOf, PV.one, q2, q3, q4, q5, q6, q7, q8, q9, q10, q11, q12, q13, q14, Nat.reduceAdd, Nat.reduceMul, Nat.reduceSub, Nat.reduceLeDiff, Nat.reduceEqDiff, Nat.reduceBEq, q15, q16, q17, q18, ↓reduceIte, reduceCtorEq, q19, q20, q21, q22, q23, q24, q25, q26, q27, q28, q29, q30, q31, q32, q33, q34, q35, q36, q37, q38, wrap64, ↓o_eqa, ↓o_mm, ↓o_app, app_some, mmL, mmV, mm2, eqE, eqParts, eqInt, eqBool, eqStr, partV, q39, q40, pickV, q41, Int.reduceEq, Int.reduceLE, Int.reduceLT, Int.reduceAdd, Int.reduceSub, Int.reduceNeg, Int.reduceToNat, Int.reduceNe, q42, q43, q44, q45, q46, q47, q48, q49, appE, oldOf, rowOf, updL, q50, q51, q52, q53, Nat.reducePow, zlt, ovr_get, Nat.reduceShiftRight, Nat.reduceMod, ite_neN, ite_eqN, q54, q55, q56, q57, q58, q59, q60, q61, q62, q63, q64, q65, q66, q67, tailP_f, tailP_t, tailF_f, tailF_t, ↓o_slc, slcP, bndO, capO, slcLen, intOf, Option.isSome_none, Option.isNone_none, Option.isSome_some, Option.isNone_some, nilP, slc_sl, slc_csl, slc_osl, slc_osl0, slc_ocap, slc_str, appR, appS, ↓o_apps, ↓o_cvt, cvP, shiftB, false_or, pv_len, pv_take, Nat.add_assoc, tm_len, tm_take, pv_one, tm_one, tpvB_len, tpvB_take, tpvB_one, pvB_len, pvB_take, pvB_one, List.length_append, id_ne, id_ne', id_ne2, List.append_nil, List.append_assoc, lenPV_slB, iaV_slB_f, iaV_slB_t, *])
          refine fin_tmp (.inr rfl) ?_
          simp [upd, hrf]
        | false =>
          clear ht eg eg2
          repeat' (first | ((with_reducible first | refine wA (by omega) ?_ | refine wB (by omega) ?_ | refine wC (by omega) ?_ | refine wD (by omega) ?_ | refine wE ?_ ?_ | refine wF ?_ ?_ | refine wG ?_ ?_ | refine wH ?_ ?_ | refine wI ?_ ?_ | refine wJ ?_ ?_ | refine wK ?_ ?_ | refine wL ?_ ?_) <;> intro _) | simp (maxSteps := 1000000) (disch := omega) only [↓c_seq, ↓c_region, ↓c_cond, ↓c_block, ↓c_ret, ↓c_skip, ↓c_exit, ↓c_cont, ↓t_normal, ↓t_ret, ↓t_exit, ↓b_normal, ↓b_ret, ↓b_exit, ↓run_nil, ↓run_cons, num_nil, num_cons, ↓g_some, ↓o_mv, ↓o_pick, ↓o_bin, ↓o_un, ↓o_ld, ↓o_ldf, isP, ↓o_bld, ↓o_len, ↓o_mkf, ↓o_nilc, ↓o_fa, ↓o_fd, ↓o_ia, ↓o_iaa, ↓o_ix, ↓o_ixs, ↓o_ext, ↓o_al, ↓o_bxf, ↓o_bxt, ↓o_bsl, ↓o_bslf, chunks, ↓o_mks, ↓o_st, ↓o_stf, ↓o_call, ↓o_rng, ↓o_nxt, rngV, next_is, next_iter, ↓o_callm, ↓o_callmA, ↓o_calvm, ↓o_calv, val_some, new_some, st_some, stf_some, guard_tt, guard_ff, guard_tf, guard_ft, guard_un, ↓cond_true, ↓cond_false, calv_fn, put_some, put_none, ev_tmp, ev_const, ev_func, ↓upd_get, sig_eq, sigF_nil, ↓sigF_cons, q0, q1, nilcV, faV, fdV, iaaV, ixV, ixsV, extV, mksV, loadP, storeP, binPV, unPV, intBin, partsP, fillP, zeros, PV.good, PV.cellsOf, PV.one, q2, q3, q4, q5, q6, q7, q8, q9, q10, q11, q12, q13, q14, Nat.reduceAdd, Nat.reduceMul, Nat.reduceSub, Nat.reduceLeDiff, Nat.reduceEqDiff, Nat.reduceBEq, q15, q16, q17, q18, ↓reduceIte, reduceCtorEq, q19, q20, q21, q22, q23, q24, q25, q26, q27, q28, q29, q30, q31, q32, q33, q34, q35, q36, q37, q38, wrap64, ↓o_eqa, ↓o_mm, ↓o_app, app_some, mmL, mmV, mm2, eqE, eqParts, eqInt, eqBool, eqStr, partV, q39, q40, pickV, q41, Int.reduceEq, Int.reduceLE, Int.reduceLT, Int.reduceAdd, Int.reduceSub, Int.reduceNeg, Int.reduceToNat, Int.reduceNe, q42, q43, q44, q45, q46, q47, q48, q49, appE, oldOf, rowOf, updL, q50, q51, q52, q53, Nat.reducePow, zlt, ovr_get, Nat.reduceShiftRight, Nat.reduceMod, ite_neN, ite_eqN, q54, q55, q56, q57, q58, q59, q60, q61, q62, q63, q64, q65, q66, q67, tailP_f, tailP_t, tailF_f, tailF_t, ↓o_slc, slcP, bndO, capO, slcLen, intOf, Option.isSome_none, Option.isNone_none, Option.isSome_some, Option.isNone_some, nilP, slc_sl, slc_csl, slc_osl, slc_osl0, slc_ocap, slc_str, appR, appS, ↓o_apps, ↓o_cvt, cvP, shiftB, false_or, pv_len, pv_take, Nat.add_assoc, tm_len, tm_take, pv_one, tm_one, tpvB_len, tpvB_take, tpvB_one, pvB_len, pvB_take, pvB_one, List.length_append, id_ne, id_ne', id_ne2, List.append_nil, List.append_assoc, lenPV_slB, iaV_slB_f, iaV_slB_t, *])
          refine c_loopW 36893488147410714672 (by kernel_rfl) (fun j F H m => ∃ i : Nat, j = xs.length - i ∧ i ≤ xs.length ∧ F 23 = .sc (.int .i64 i) ∧ sameL (xs.take i) (ys.take i) = true) _ ⟨0, rfl, cE1, cE1, rfl⟩ ?_
          rintro _ F H m ⟨i, rfl, hi, e23, hs⟩
          by_cases hlt : i < xs.length
          · have hlt2 : i < ys.length := by omega
            have eg : xs[i]? = some xs[i] := List.getElem?_eq_getElem hlt
            have eg2 : ys[i]? = some ys[i] := List.getElem?_eq_getElem hlt2
            have hn := nodesL_mem xs i hlt
            have ht := sameL_take xs ys i hlt hlt2
            have hq := sameL_false xs ys i hlt hlt2
            generalize xs[i] = x at *
            generalize ys[i] = y at *
            cases x with
            | mk k1 n1 a1 =>
            cases y with
            | mk k2 n2 a2 =>
            simp only [Lv.nodes] at hn
            simp only [Lv.same] at ht hq
            have hc := ih a1 a2 (by omega)
            have ht' := Kept.mk ht
            have hq' := Kept.mk hq
            have hl' := Kept.mk hl
            clear ih ht hq
            repeat' (first | ((with_reducible first | refine wA (by omega) ?_ | refine wB (by omega) ?_ | refine wC (by omega) ?_ | refine wD (by omega) ?_ | refine wE ?_ ?_ | refine wF ?_ ?_ | refine wG ?_ ?_ | refine wH ?_ ?_ | refine wI ?_ ?_ | refine wJ ?_ ?_ | refine wK ?_ ?_ | refine wL ?_ ?_) <;> intro _) | (((with_reducible refine call_id ?_); (first | (refine call_pure (hc) ?_)))) | simp (maxSteps := 1000000) (disch := omega) only [↓c_seq, ↓c_region, ↓c_cond, ↓c_block, ↓c_ret, ↓c_skip, ↓c_exit, ↓c_cont, ↓t_normal, ↓t_ret, ↓t_exit, ↓b_normal, ↓b_ret, ↓b_exit, ↓run_nil, ↓run_cons, num_nil, num_cons, ↓g_some, ↓o_mv, ↓o_pick, ↓o_bin, ↓o_un, ↓o_ld, ↓o_ldf, isP, ↓o_bld, ↓o_len, ↓o_mkf, ↓o_nilc, ↓o_fa, ↓o_fd, ↓o_ia, ↓o_iaa, ↓o_ix, ↓o_ixs, ↓o_ext, ↓o_al, ↓o_bxf, ↓o_bxt, ↓o_bsl, ↓o_bslf, chunks, ↓o_mks, ↓o_st, ↓o_stf, ↓o_call, ↓o_rng, ↓o_nxt, rngV, next_is, next_iter, ↓o_callm, ↓o_callmA, ↓o_calvm, ↓o_calv, val_some, new_some, st_some, stf_some, guard_tt, guard_ff, guard_tf, guard_ft, guard_un, ↓cond_true, ↓cond_false, calv_fn, put_some, put_none, ev_tmp, ev_const, ev_func, ↓upd_get, sig_eq, sigF_nil, ↓sigF_cons, q0, q1, nilcV, faV, fdV, iaaV, ixV, ixsV, extV, mksV, loadP, storeP, binPV, unPV, intBin, partsP, fillP, zeros, PV.good, PV.cellsOf, PV.one, q2, q3, q4, q5, q6, q7, q8, q9, q10, q11, q12, q13, q14, Nat.reduceAdd, Nat.reduceMul, Nat.reduceSub, Nat.reduceLeDiff, Nat.reduceEqDiff, Nat.reduceBEq, q15, q16, q17, q18, ↓reduceIte, reduceCtorEq, q19, q20, q21, q22, q23, q24, q25, q26, q27, q28, q29, q30, q31, q32, q33, q34, q35, q36, q37, q38, wrap64, ↓o_eqa, ↓o_mm, ↓o_app, app_some, mmL, mmV, mm2, eqE, eqParts, eqInt, eqBool, eqStr, partV, q39, q40, pickV, q41, Int.reduceEq, Int.reduceLE, Int.reduceLT, Int.reduceAdd, Int.reduceSub, Int.reduceNeg, Int.reduceToNat, Int.reduceNe, q42, q43, q44, q45, q46, q47, q48, q49, appE, oldOf, rowOf, updL, q50, q51, q52, q53, Nat.reducePow, zlt, ovr_get, Nat.reduceShiftRight, Nat.reduceMod, ite_neN, ite_eqN, q54, q55, q56, q57, q58, q59, q60, q61, q62, q63, q64, q65, q66, q67, tailP_f, tailP_t, tailF_f, tailF_t, ↓o_slc, slcP, bndO, capO, slcLen, intOf, Option.isSome_none, Option.isNone_none, Option.isSome_some, Option.isNone_some, nilP, slc_sl, slc_csl, slc_osl, slc_osl0, slc_ocap, slc_str, appR, appS, ↓o_apps, ↓o_cvt, cvP, shiftB, false_or, pv_len, pv_take, Nat.add_assoc, tm_len, tm_take, pv_one, tm_one, tpvB_len, tpvB_take, tpvB_one, pvB_len, pvB_take, pvB_one, List.length_append, id_ne, id_ne', id_ne2, List.append_nil, List.append_assoc, lenPV_slB, iaV_slB_f, iaV_slB_t, Lv.pvB, *])
            all_goals (try (have hqq := hq'.out (by simp [*]); refine fin_tmp (.inr rfl) ?_; simp [upd, hqq]; done))
            refine Nx.mk (xs.length - (i + 1)) cE1 ⟨i + 1, cE1, cE1, cE1, by rw [ht'.out]; simp [*]⟩
          · obtain rfl : i = xs.length := by omega
            have e : ys.take xs.length = ys := List.take_of_length_le (by omega)
            rw [List.take_length, e] at hs
            clear ih
            repeat' (first | ((with_reducible first | refine wA (by omega) ?_ | refine wB (by omega) ?_ | refine wC (by omega) ?_ | refine wD (by omega) ?_ | refine wE ?_ ?_ | refine wF ?_ ?_ | refine wG ?_ ?_ | refine wH ?_ ?_ | refine wI ?_ ?_ | refine wJ ?_ ?_ | refine wK ?_ ?_ | refine wL ?_ ?_) <;> intro _) | simp (maxSteps := 1000000) (disch := omega) only [↓c_seq, ↓c_region, ↓c_cond, ↓c_block, ↓c_ret, ↓c_skip, ↓c_exit, ↓c_cont, ↓t_normal, ↓t_ret, ↓t_exit, ↓b_normal, ↓b_ret, ↓b_exit, ↓run_nil, ↓run_cons, num_nil, num_cons, ↓g_some, ↓o_mv, ↓o_pick, ↓o_bin, ↓o_un, ↓o_ld, ↓o_ldf, isP, ↓o_bld, ↓o_len, ↓o_mkf, ↓o_nilc, ↓o_fa, ↓o_fd, ↓o_ia, ↓o_iaa, ↓o_ix, ↓o_ixs, ↓o_ext, ↓o_al, ↓o_bxf, ↓o_bxt, ↓o_bsl, ↓o_bslf, chunks, ↓o_mks, ↓o_st, ↓o_stf, ↓o_call, ↓o_rng, ↓o_nxt, rngV, next_is, next_iter, ↓o_callm, ↓o_callmA, ↓o_calvm, ↓o_calv, val_some, new_some, st_some, stf_some, guard_tt, guard_ff, guard_tf, guard_ft, guard_un, ↓cond_true, ↓cond_false, calv_fn, put_some, put_none, ev_tmp, ev_const, ev_func, ↓upd_get, sig_eq, sigF_nil, ↓sigF_cons, q0, q1, nilcV, faV, fdV, iaaV, ixV, ixsV, extV, mksV, loadP, storeP, binPV, unPV, intBin, partsP, fillP, zeros, PV.good, PV.cellsOf, PV.one, q2, q3, q4, q5, q6, q7, q8, q9, q10, q11, q12, q13, q14, Nat.reduceAdd, Nat.reduceMul, Nat.reduceSub, Nat.reduceLeDiff, Nat.reduceEqDiff, Nat.reduceBEq, q15, q16, q17, q18, ↓reduceIte, reduceCtorEq, q19, q20, q21, q22, q23, q24, q25, q26, q27, q28, q29, q30, q31, q32, q33, q34, q35, q36, q37, q38, wrap64, ↓o_eqa, ↓o_mm, ↓o_app, app_some, mmL, mmV, mm2, eqE, eqParts, eqInt, eqBool, eqStr, partV, q39, q40, pickV, q41, Int.reduceEq, Int.reduceLE, Int.reduceLT, Int.reduceAdd, Int.reduceSub, Int.reduceNeg, Int.reduceToNat, Int.reduceNe, q42, q43, q44, q45, q46, q47, q48, q49, appE, oldOf, rowOf, updL, q50, q51, q52, q53, Nat.reducePow, zlt, ovr_get, Nat.reduceShiftRight, Nat.reduceMod, ite_neN, ite_eqN, q54, q55, q56, q57, q58, q59, q60, q61, q62, q63, q64, q65, q66, q67, tailP_f, tailP_t, tailF_f, tailF_t, ↓o_slc, slcP, bndO, capO, slcLen, intOf, Option.isSome_none, Option.isNone_none, Option.isSome_some, Option.isNone_some, nilP, slc_sl, slc_csl, slc_osl, slc_osl0, slc_ocap, slc_str, appR, appS, ↓o_apps, ↓o_cvt, cvP, shiftB, false_or, pv_len, pv_take, Nat.add_assoc, tm_len, tm_take, pv_one, tm_one, tpvB_len, tpvB_take, tpvB_one, pvB_len, pvB_take, pvB_one, List.length_append, id_ne, id_ne', id_ne2, List.append_nil, List.append_assoc, lenPV_slB, iaV_slB_f, iaV_slB_t, *])
            refine fin_tmp (.inr rfl) ?_
            simp [upd, hs]
    · repeat' (first | ((with_reducible first | refine wA (by omega) ?_ | refine wB (by omega) ?_ | refine wC (by omega) ?_ | refine wD (by omega) ?_ | refine wE ?_ ?_ | refine wF ?_ ?_ | refine wG ?_ ?_ | refine wH ?_ ?_ | refine wI ?_ ?_ | refine wJ ?_ ?_ | refine wK ?_ ?_ | refine wL ?_ ?_) <;> intro _) | simp (maxSteps := 1000000) (disch := omega) only [↓c_seq, ↓c_region, ↓c_cond, ↓c_block, ↓c_ret, ↓c_skip, ↓c_exit, ↓c_cont, ↓t_normal, ↓t_ret, ↓t_exit, ↓b_normal, ↓b_ret, ↓b_exit, ↓run_nil, ↓run_cons, num_nil, num_cons, ↓g_some, ↓o_mv, ↓o_pick, ↓o_bin, ↓o_un, ↓o_ld, ↓o_ldf, isP, ↓o_bld, ↓o_len, ↓o_mkf, ↓o_nilc, ↓o_fa, ↓o_fd, ↓o_ia, ↓o_iaa, ↓o_ix, ↓o_ixs, ↓o_ext, ↓o_al, ↓o_bxf, ↓o_bxt, ↓o_bsl, ↓o_bslf, chunks, ↓o_mks, ↓o_st, ↓o_stf, ↓o_call, ↓o_rng, ↓o_nxt, rngV, next_is, next_iter, ↓o_callm, ↓o_callmA, ↓o_calvm, ↓o_calv, val_some, new_some, st_some, stf_some, guard_tt, guard_ff, guard_tf, guard_ft, guard_un, ↓cond_true, ↓cond_false, calv_fn, put_some, put_none, ev_tmp, ev_const, ev_func, ↓upd_get, sig_eq, sigF_nil, ↓sigF_cons, q0, q1, nilcV, faV, fdV, iaaV, ixV, ixsV, extV, mksV, loadP, storeP, binPV, unPV, intBin, partsP, fillP, zeros, PV.good, PV.cellsOf, PV.one, q2, q3, q4, q5, q6, q7, q8, q9, q10, q11, q12, q13, q14, Nat.reduceAdd, Nat.reduceMul, Nat.reduceSub, Nat.reduceLeDiff, Nat.reduceEqDiff, Nat.reduceBEq, q15, q16, q17, q18, ↓reduceIte, reduceCtorEq, q19, q20, q21, q22, q23, q24, q25, q26, q27, q28, q29, q30, q31, q32, q33, q34, q35, q36, q37, q38, wrap64, ↓o_eqa, ↓o_mm, ↓o_app, app_some, mmL, mmV, mm2, eqE, eqParts, eqInt, eqBool, eqStr, partV, q39, q40, pickV, q41, Int.reduceEq, Int.reduceLE, Int.reduceLT, Int.reduceAdd, Int.reduceSub, Int.reduceNeg, Int.reduceToNat, Int.reduceNe, q42, q43, q44, q45, q46, q47, q48, q49, appE, oldOf, rowOf, updL, q50, q51, q52, q53, Nat.reducePow, zlt, ovr_get, Nat.reduceShiftRight, Nat.reduceMod, ite_neN, ite_eqN, q54, q55, q56, q57, q58, q59, q60, q61, q62, q63, q64, q65, q66, q67, tailP_f, tailP_t, tailF_f, tailF_t, ↓o_slc, slcP, bndO, capO, slcLen, intOf, Option.isSome_none, Option.isNone_none, Option.isSome_some, Option.isNone_some, nilP, slc_sl, slc_csl, slc_osl, slc_osl0, slc_ocap, slc_str, appR, appS, ↓o_apps, ↓o_cvt, cvP, shiftB, false_or, pv_len, pv_take, Nat.add_assoc, tm_len, tm_take, pv_one, tm_one, tpvB_len, tpvB_take, tpvB_one, pvB_len, pvB_take, pvB_one, List.length_append, id_ne, id_ne', id_ne2, List.append_nil, List.append_assoc, lenPV_slB, iaV_slB_f, iaV_slB_t, mc_term_sameLevels, *])
      all_goals (refine fin_tmp (.inr rfl) ?_; simp [upd, *])
end
section
set_option maxRecDepth 20000
attribute [local go_sem] pv_len pv_take Nat.add_assoc tm_len tm_take pv_one tm_one tpvB_len tpvB_take tpvB_one pvB_len pvB_take pvB_one id_ne id_ne' id_ne2 List.append_assoc lenPV_slB iaV_slB_f iaV_slB_t
mutual
theorem tsame_iff : ∀ a b : Tm, a.same b = true ↔ a = b
  | .mk k n s ls xs, .mk k' n' s' ls' ys => by
    simp only [Tm.same, Bool.and_eq_true, decide_eq_true_eq, Tm.mk.injEq]
    constructor
    · rintro ⟨h1, h2, h3, h4, h5, h6, h7⟩
      refine ⟨h1, h2, ?_, (sameL_iff ls ls' (by simpa using h4)).1 h6, (sameT_iff xs ys (by simpa using h5)).1 h7⟩
      unfold sameB at h3
      exact (Lib.bytes_beq_iff s s').1 h3
    · rintro ⟨h1, h2, h3, h4, h5⟩
      subst h3; subst h4; subst h5
      refine ⟨h1, h2, ?_, by simp, by simp, sameL_refl ls, (sameT_iff xs xs rfl).2 rfl⟩
      unfold sameB
      exact (Lib.bytes_beq_iff s s).2 rfl
theorem sameT_iff : ∀ xs ys : List Tm, xs.length = ys.length → (sameT xs ys = true ↔ xs = ys)
  | [], [], _ => by simp [sameT]
  | x :: xs, y :: ys, h => by
    simp only [sameT, Bool.and_eq_true, List.cons.injEq]
    rw [tsame_iff x y, sameT_iff xs ys (by simpa using h)]
  | [], y :: ys, h => by simp at h
  | x :: xs, [], h => by simp at h
end
theorem sameT_refl (xs : List Tm) : sameT xs xs = true := (sameT_iff xs xs rfl).2 rfl
set_option maxHeartbeats 16000000 in
theorem term_same_p (f g : Bool) (hfg : (f || g) = true) : ∀ (fuel : Nat) (a b : Tm), a.size ≤ fuel → PPure Try.prog F.term_same [.ptr (a.pvB f), .ptr (b.pvB g)] (.sc (.bool (a.same b))) := by
  intro fuel
  induction fuel with
  | zero => intro l _ h; have := size_pos l; omega
  | succ fuel ih =>
    intro a b hf
    cases a with
    | mk k n s ls xs =>
    cases b with
    | mk k' n' s' ls' ys =>
    simp only [Tm.size] at hf
    refine pure_by is_term_same (by simp) rfl fun hb nx => ?_
    have hb0 : (xs.length ≤ 9223372036854775807 ∧ ys.length ≤ 9223372036854775807) := by simp [Tm.pvB, bndL, PV.bnd, slB_bnd] at hb; omega
    have hc1 := sameLevels_p f g hfg _ ls ls' (Nat.lt_succ_self _)
    by_cases h0 : xs.length = 0
    · obtain rfl : xs = [] := List.eq_nil_of_length_eq_zero h0
      clear ih
      repeat' (first | ((with_reducible first | refine wA (by omega) ?_ | refine wB (by omega) ?_ | refine wC (by omega) ?_ | refine wD (by omega) ?_ | refine wE ?_ ?_ | refine wF ?_ ?_ | refine wG ?_ ?_ | refine wH ?_ ?_ | refine wI ?_ ?_ | refine wJ ?_ ?_ | refine wK ?_ ?_ | refine wL ?_ ?_) <;> intro _) | (((with_reducible refine call_id ?_); (first | (refine call_pure (hc1) ?_)))) | simp (maxSteps := 1000000) (disch := omega) only [↓c_seq, ↓c_region, ↓c_cond, ↓c_block, ↓c_ret, ↓c_skip, ↓c_exit, ↓c_cont, ↓t_normal, ↓t_ret, ↓t_exit, ↓b_normal, ↓b_ret, ↓b_exit, ↓run_nil, ↓run_cons, num_nil, num_cons, ↓g_some, ↓o_mv, ↓o_pick, ↓o_bin, ↓o_un, ↓o_ld, ↓o_ldf, isP, ↓o_bld, ↓o_len, ↓o_mkf, ↓o_nilc, ↓o_fa, ↓o_fd, ↓o_ia, ↓o_iaa, ↓o_ix, ↓o_ixs, ↓o_ext, ↓o_al, ↓o_bxf, ↓o_bxt, ↓o_bsl, ↓o_bslf, chunks, ↓o_mks, ↓o_st, ↓o_stf, ↓o_call, ↓o_rng, ↓o_nxt, rngV, next_is, next_iter, ↓o_callm, ↓o_callmA, ↓o_calvm, ↓o_calv, val_some, new_some, st_some, stf_some, guard_tt, guard_ff, guard_tf, guard_ft, guard_un, ↓cond_true, ↓cond_false, calv_fn, put_some, put_none, ev_tmp, ev_const, ev_func, ↓upd_get, sig_eq, sigF_nil, ↓sigF_cons, q0, q1, nilcV, faV, fdV, iaaV, ixV, ixsV, extV, mksV, loadP, storeP, binPV, unPV, intBin, partsP, fillP, zeros, PV.good, PV.cellsOf, PV.one, q2, q3, q4, q5, q6, q7, q8, q9, q10, q11, q12, q13, q14, Nat.reduceAdd, Nat.reduceMul, Nat.reduceSub, Nat.reduceLeDiff, Nat.reduceEqDiff, Nat.reduceBEq, q15, q16, q17, q18, ↓reduceIte, reduceCtorEq, q19, q20, q21, q22, q23, q24, q25, q26, q27, q28, q29, q30, q31, q32, q33, q34, q35, q36, q37, q38, wrap64, ↓o_eqa, ↓o_mm, ↓o_app, app_some, mmL, mmV, mm2, eqE, eqParts, eqInt, eqBool, eqStr, partV, q39, q40, pickV, q41, Int.reduceEq, Int.reduceLE, Int.reduceLT, Int.reduceAdd, Int.reduceSub, Int.reduceNeg, Int.reduceToNat, Int.reduceNe, q42, q43, q44, q45, q46, q47, q48, q49, appE, oldOf, rowOf, updL, q50, q51, q52, q53, Nat.reducePow, zlt, ovr_get, Nat.reduceShiftRight, Nat.reduceMod, ite_neN, ite_eqN, q54, q55, q56, q57, q58, q59, q60, q61, q62, q63, q64, q65, q66, q67, tailP_f, tailP_t, tailF_f, tailF_t, ↓o_slc, slcP, bndO, capO, slcLen, intOf, Option.isSome_none, Option.isNone_none, Option.isSome_some, Option.isNone_some, nilP, slc_sl, slc_csl, slc_osl, slc_osl0, slc_ocap, slc_str, appR, appS, ↓o_apps, ↓o_cvt, cvP, shiftB, false_or, pv_len, pv_take, Nat.add_assoc, tm_len, tm_take, pv_one, tm_one, tpvB_len, tpvB_take, tpvB_one, pvB_len, pvB_take, pvB_one, List.length_append, id_ne, id_ne', id_ne2, List.append_nil, List.append_assoc, lenPV_slB, iaV_slB_f, iaV_slB_t, mc_term_same, Tm.pvB, strBin, fold_sameB, *])
      all_goals (try (refine fin_tmp (.inr rfl) ?_; simp [upd, Tm.same, sameT, *]; done))
      · rename_i q
        refine fin_tmp (.inr rfl) ?_
        have q' : ¬ ([] : List Tm).length = ys.length := by simp at q ⊢; omega
        simp only [Tm.same, decide_eq_false q']
        simp [upd]
      · rename_i q
        refine fin_tmp (.inr rfl) ?_
        have q' : (decide (ls.length = ls'.length) && (decide (([] : List Tm).length = ys.length) && (sameL ls ls' && sameT [] ys))) = false := by
          rw [Bool.and_eq_false_iff] at q ⊢
          rcases q with q | q
          · exact .inl q
          · right; simp [q]
        simp only [Tm.same, q']
        simp [upd]
      · rename_i u5 u4 u3 u2 u1 u0
        obtain rfl : ys = [] := List.eq_nil_of_length_eq_zero (by omega)
        clear u0 u2
        refine c_rounds 1 ?_
        repeat' (first | ((with_reducible first | refine wA (by omega) ?_ | refine wB (by omega) ?_ | refine wC (by omega) ?_ | refine wD (by omega) ?_ | refine wE ?_ ?_ | refine wF ?_ ?_ | refine wG ?_ ?_ | refine wH ?_ ?_ | refine wI ?_ ?_ | refine wJ ?_ ?_ | refine wK ?_ ?_ | refine wL ?_ ?_) <;> intro _) | simp (maxSteps := 1000000) (disch := omega) only [↓c_seq, ↓c_region, ↓c_cond, ↓c_block, ↓c_ret, ↓c_skip, ↓c_exit, ↓c_cont, ↓t_normal, ↓t_ret, ↓t_exit, ↓b_normal, ↓b_ret, ↓b_exit, ↓run_nil, ↓run_cons, num_nil, num_cons, ↓g_some, ↓o_mv, ↓o_pick, ↓o_bin, ↓o_un, ↓o_ld, ↓o_ldf, isP, ↓o_bld, ↓o_len, ↓o_mkf, ↓o_nilc, ↓o_fa, ↓o_fd, ↓o_ia, ↓o_iaa, ↓o_ix, ↓o_ixs, ↓o_ext, ↓o_al, ↓o_bxf, ↓o_bxt, ↓o_bsl, ↓o_bslf, chunks, ↓o_mks, ↓o_st, ↓o_stf, ↓o_call, ↓o_rng, ↓o_nxt, rngV, next_is, next_iter, ↓o_callm, ↓o_callmA, ↓o_calvm, ↓o_calv, val_some, new_some, st_some, stf_some, guard_tt, guard_ff, guard_tf, guard_ft, guard_un, ↓cond_true, ↓cond_false, calv_fn, put_some, put_none, ev_tmp, ev_const, ev_func, ↓upd_get, sig_eq, sigF_nil, ↓sigF_cons, q0, q1, nilcV, faV, fdV, iaaV, ixV, ixsV, extV, mksV, loadP, storeP, binPV, unPV, intBin, partsP, fillP, zeros, PV.good, PV.cellsOf, PV.one, q2, q3, q4, q5, q6, q7, q8, q9, q10, q11, q12, q13, q14, Nat.reduceAdd, Nat.reduceMul, Nat.reduceSub, Nat.reduceLeDiff, Nat.reduceEqDiff, Nat.reduceBEq, q15, q16, q17, q18, ↓reduceIte, reduceCtorEq, q19, q20, q21, q22, q23, q24, q25, q26, q27, q28, q29, q30, q31, q32, q33, q34, q35, q36, q37, q38, wrap64, ↓o_eqa, ↓o_mm, ↓o_app, app_some, mmL, mmV, mm2, eqE, eqParts, eqInt, eqBool, eqStr, partV, q39, q40, pickV, q41, Int.reduceEq, Int.reduceLE, Int.reduceLT, Int.reduceAdd, Int.reduceSub, Int.reduceNeg, Int.reduceToNat, Int.reduceNe, q42, q43, q44, q45, q46, q47, q48, q49, appE, oldOf, rowOf, updL, q50, q51, q52, q53, Nat.reducePow, zlt, ovr_get, Nat.reduceShiftRight, Nat.reduceMod, ite_neN, ite_eqN, q54, q55, q56, q57, q58, q59, q60, q61, q62, q63, q64, q65, q66, q67, tailP_f, tailP_t, tailF_f, tailF_t, ↓o_slc, slcP, bndO, capO, slcLen, intOf, Option.isSome_none, Option.isNone_none, Option.isSome_some, Option.isNone_some, nilP, slc_sl, slc_csl, slc_osl, slc_osl0, slc_ocap, slc_str, appR, appS, ↓o_apps, ↓o_cvt, cvP, shiftB, false_or, pv_len, pv_take, Nat.add_assoc, tm_len, tm_take, pv_one, tm_one, tpvB_len, tpvB_take, tpvB_one, pvB_len, pvB_take, pvB_one, List.length_append, id_ne, id_ne', id_ne2, List.append_nil, List.append_assoc, lenPV_slB, iaV_slB_f, iaV_slB_t, rounds_next, *])
        refine fin_tmp (.inr rfl) ?_
        simp only [Bool.and_eq_true, decide_eq_true_eq] at u1
        simp [upd, Tm.same, sameT, *]
    · have h00 : 0 < xs.length := by omega
      have eg : xs[0]? = some xs[0] := List.getElem?_eq_getElem h00
      by_cases hl : xs.length = ys.length
      · have eg2 : ys[0]? = some ys[0] := List.getElem?_eq_getElem (by omega)
        have ih' := Kept.mk ih
        clear ih
        repeat' (first | ((with_reducible first | refine wA (by omega) ?_ | refine wB (by omega) ?_ | refine wC (by omega) ?_ | refine wD (by omega) ?_ | refine wE ?_ ?_ | refine wF ?_ ?_ | refine wG ?_ ?_ | refine wH ?_ ?_ | refine wI ?_ ?_ | refine wJ ?_ ?_ | refine wK ?_ ?_ | refine wL ?_ ?_) <;> intro _) | (((with_reducible refine call_id ?_); (first | (refine call_pure (hc1) ?_)))) | simp (maxSteps := 1000000) (disch := omega) only [↓c_seq, ↓c_region, ↓c_cond, ↓c_block, ↓c_ret, ↓c_skip, ↓c_exit, ↓c_cont, ↓t_normal, ↓t_ret, ↓t_exit, ↓b_normal, ↓b_ret, ↓b_exit, ↓run_nil, ↓run_cons, num_nil, num_cons, ↓g_some, ↓o_mv, ↓o_pick, ↓o_bin, ↓o_un, ↓o_ld, ↓o_ldf, isP, ↓o_bld, ↓o_len, ↓o_mkf, ↓o_nilc, ↓o_fa, ↓o_fd, ↓o_ia, ↓o_iaa, ↓o_ix, ↓o_ixs, ↓o_ext, ↓o_al, ↓o_bxf, ↓o_bxt, ↓o_bsl, ↓o_bslf, chunks, ↓o_mks, ↓o_st, ↓o_stf, ↓o_call, ↓o_rng, ↓o_nxt, rngV, next_is, next_iter, ↓o_callm, ↓o_callmA, ↓o_calvm, ↓o_calv, val_some, new_some, st_some, stf_some, guard_tt, guard_ff, guard_tf, guard_ft, guard_un, ↓cond_true, ↓cond_false, calv_fn, put_some, put_none, ev_tmp, ev_const, ev_func, ↓upd_get, sig_eq, sigF_nil, ↓sigF_cons, q0, q1, nilcV, faV, fdV, iaaV, ixV, ixsV, extV, mksV, loadP, storeP, binPV, unPV, intBin, partsP, fillP, zeros, PV.good, PV.cellsOf, PV.one, q2, q3, q4, q5, q6, q7, q8, q9, q10, q11, q12, q13, q14, Nat.reduceAdd, Nat.reduceMul, Nat.reduceSub, Nat.reduceLeDiff, Nat.reduceEqDiff, Nat.reduceBEq, q15, q16, q17, q18, ↓reduceIte, reduceCtorEq, q19, q20, q21, q22, q23, q24, q25, q26, q27, q28, q29, q30, q31, q32, q33, q34, q35, q36, q37, q38, wrap64, ↓o_eqa, ↓o_mm, ↓o_app, app_some, mmL, mmV, mm2, eqE, eqParts, eqInt, eqBool, eqStr, partV, q39, q40, pickV, q41, Int.reduceEq, Int.reduceLE, Int.reduceLT, Int.reduceAdd, Int.reduceSub, Int.reduceNeg, Int.reduceToNat, Int.reduceNe, q42, q43, q44, q45, q46, q47, q48, q49, appE, oldOf, rowOf, updL, q50, q51, q52, q53, Nat.reducePow, zlt, ovr_get, Nat.reduceShiftRight, Nat.reduceMod, ite_neN, ite_eqN, q54, q55, q56, q57, q58, q59, q60, q61, q62, q63, q64, q65, q66, q67, tailP_f, tailP_t, tailF_f, tailF_t, ↓o_slc, slcP, bndO, capO, slcLen, intOf, Option.isSome_none, Option.isNone_none, Option.isSome_some, Option.isNone_some, nilP, slc_sl, slc_csl, slc_osl, slc_osl0, slc_ocap, slc_str, appR, appS, ↓o_apps, ↓o_cvt, cvP, shiftB, false_or, pv_len, pv_take, Nat.add_assoc, tm_len, tm_take, pv_one, tm_one, tpvB_len, tpvB_take, tpvB_one, pvB_len, pvB_take, pvB_one, List.length_append, id_ne, id_ne', id_ne2, List.append_nil, List.append_assoc, lenPV_slB, iaV_slB_f, iaV_slB_t, mc_term_same, Tm.pvB, strBin, fold_sameB, *])
        all_goals (try (refine fin_tmp (.inr rfl) ?_; simp [upd, Tm.same, sameT, *]; done))
        · rename_i q
          refine fin_tmp (.inr rfl) ?_
          have q' : (decide (ls.length = ls'.length) && (decide (xs.length = ys.length) && (sameL ls ls' && sameT xs ys))) = false := by
            rw [Bool.and_eq_false_iff] at q ⊢
            rcases q with q | q
            · exact .inl q
            · right; simp [q]
          simp only [Tm.same, q']
          simp [upd]
        · rename_i u4 u3 u2 u1 u0
          clear u0
          simp only [Bool.and_eq_true, decide_eq_true_eq] at u1
          have hall : Kept (sameT xs ys = true → (Tm.mk k' n' s ls xs).same (Tm.mk k' n' s' ls' ys) = true) := Kept.mk fun h => by simp [Tm.same, *]
          have hno : Kept (sameT xs ys = false → (Tm.mk k' n' s ls xs).same (Tm.mk k' n' s' ls' ys) = false) := Kept.mk fun h => by simp [Tm.same, *]
          refine o_peq (f := f) (g := g) (cs := (xs.map (Tm.pvB f)).flatten) (ds := (ys.map (Tm.pvB g)).flatten) (n := 4) rfl rfl Try.underlying67 (by kernel_rfl) (by (simp (disch := omega) only [go_sem, seval, ev_tmp, ptrOf_B])) (by (simp (disch := omega) only [go_sem, seval, ev_tmp, ptrOf_B])) hfg (flat_ne (tpvB_len f) h00) (flat_ne (tpvB_len g) (by omega)) fun t ht => ?_
          clear u1 u2 hc1
          cases t with
          | true =>
            have hx := meet_tms hl (ht rfl)
            have hrf := hall.out (by rw [hx]; exact sameT_refl ys)
            clear ih' ht hall hno hx
            repeat' (first | ((with_reducible first | refine wA (by omega) ?_ | refine wB (by omega) ?_ | refine wC (by omega) ?_ | refine wD (by omega) ?_ | refine wE ?_ ?_ | refine wF ?_ ?_ | refine wG ?_ ?_ | refine wH ?_ ?_ | refine wI ?_ ?_ | refine wJ ?_ ?_ | refine wK ?_ ?_ | refine wL ?_ ?_) <;> intro _) | simp (maxSteps := 1000000) (disch := omega) only [↓c_seq, ↓c_region, ↓c_cond, ↓c_block, ↓c_ret, ↓c_skip, ↓c_exit, ↓c_cont, ↓t_normal, ↓t_ret, ↓t_exit, ↓b_normal, ↓b_ret, ↓b_exit, ↓run_nil, ↓run_cons, num_nil, num_cons, ↓g_some, ↓o_mv, ↓o_pick, ↓o_bin, ↓o_un, ↓o_ld, ↓o_ldf, isP, ↓o_bld, ↓o_len, ↓o_mkf, ↓o_nilc, ↓o_fa, ↓o_fd, ↓o_ia, ↓o_iaa, ↓o_ix, ↓o_ixs, ↓o_ext, ↓o_al, ↓o_bxf, ↓o_bxt, ↓o_bsl, ↓o_bslf, chunks, ↓o_mks, ↓o_st, ↓o_stf, ↓o_call, ↓o_rng, ↓o_nxt, rngV, next_is, next_iter, ↓o_callm, ↓o_callmA, ↓o_calvm, ↓o_calv, val_some, new_some, st_some, stf_some, guard_tt, guard_ff, guard_tf, guard_ft, guard_un, ↓cond_true, ↓cond_false, calv_fn, put_some, put_none, ev_tmp, ev_const, ev_func, ↓upd_get, sig_eq, sigF_nil, ↓sigF_cons, q0, q1, nilcV, faV, fdV, iaaV, ixV, ixsV, extV, mksV, loadP, storeP, binPV, unPV, intBin, partsP, fillP, zeros, PV.good, PV.cellsOf, PV.one, q2, q3, q4, q5, q6, q7, q8, q9, q10, q11, q12, q13, q14, Nat.reduceAdd, Nat.reduceMul, Nat.reduceSub, Nat.reduceLeDiff, Nat.reduceEqDiff, Nat.reduceBEq, q15, q16, q17, q18, ↓reduceIte, reduceCtorEq, q19, q20, q21, q22, q23, q24, q25, q26, q27, q28, q29, q30, q31, q32, q33, q34, q35, q36, q37, q38, wrap64, ↓o_eqa, ↓o_mm, ↓o_app, app_some, mmL, mmV, mm2, eqE, eqParts, eqInt, eqBool, eqStr, partV, q39, q40, pickV, q41, Int.reduceEq, Int.reduceLE, Int.reduceLT, Int.reduceAdd, Int.reduceSub, Int.reduceNeg, Int.reduceToNat, Int.reduceNe, q42, q43, q44, q45, q46, q47, q48, q49, appE, oldOf, rowOf, updL, q50, q51, q52, q53, Nat.reducePow, zlt, ovr_get, Nat.reduceShiftRight, Nat.reduceMod, ite_neN, ite_eqN, q54, q55, q56, q57, q58, q59, q60, q61, q62, q63, q64, q65, q66, q67, tailP_f, tailP_t, tailF_f, tailF_t, ↓o_slc, slcP, bndO, capO, slcLen, intOf, Option.isSome_none, Option.isNone_none, Option.isSome_some, Option.isNone_some, nilP, slc_sl, slc_csl, slc_osl, slc_osl0, slc_ocap, slc_str, appR, appS, ↓o_apps, ↓o_cvt, cvP, shiftB, false_or, pv_len, pv_take, Nat.add_assoc, tm_len, tm_take, pv_one, tm_one, tpvB_len, tpvB_take, tpvB_one, pvB_len, pvB_take, pvB_one, List.length_append, id_ne, id_ne', id_ne2, List.append_nil, List.append_assoc, lenPV_slB, iaV_slB_f, iaV_slB_t, *])
            refine fin_tmp (.inr rfl) ?_
            simp [upd, hrf]
          | false =>
            clear ht eg eg2
            repeat' (first | ((with_reducible first | refine wA (by omega) ?_ | refine wB (by omega) ?_ | refine wC (by omega) ?_ | refine wD (by omega) ?_ | refine wE ?_ ?_ | refine wF ?_ ?_ | refine wG ?_ ?_ | refine wH ?_ ?_ | refine wI ?_ ?_ | refine wJ ?_ ?_ | refine wK ?_ ?_ | refine wL ?_ ?_) <;> intro _) | simp (maxSteps := 1000000) (disch := omega) only [↓c_seq, ↓c_region, ↓c_cond, ↓c_block, ↓c_ret, ↓c_skip, ↓c_exit, ↓c_cont, ↓t_normal, ↓t_ret, ↓t_exit, ↓b_normal, ↓b_ret, ↓b_exit, ↓run_nil, ↓run_cons, num_nil, num_cons, ↓g_some, ↓o_mv, ↓o_pick, ↓o_bin, ↓o_un, ↓o_ld, ↓o_ldf, isP, ↓o_bld, ↓o_len, ↓o_mkf, ↓o_nilc, ↓o_fa, ↓o_fd, ↓o_ia, ↓o_iaa, ↓o_ix, ↓o_ixs, ↓o_ext, ↓o_al, ↓o_bxf, ↓o_bxt, ↓o_bsl, ↓o_bslf, chunks, ↓o_mks, ↓o_st, ↓o_stf, ↓o_call, ↓o_rng, ↓o_nxt, rngV, next_is, next_iter, ↓o_callm, ↓o_callmA, ↓o_calvm, ↓o_calv, val_some, new_some, st_some, stf_some, guard_tt, guard_ff, guard_tf, guard_ft, guard_un, ↓cond_true, ↓cond_false, calv_fn, put_some, put_none, ev_tmp, ev_const, ev_func, ↓upd_get, sig_eq, sigF_nil, ↓sigF_cons, q0, q1, nilcV, faV, fdV, iaaV, ixV, ixsV, extV, mksV, loadP, storeP, binPV, unPV, intBin, partsP, fillP, zeros, PV.good, PV.cellsOf, PV.one, q2, q3, q4, q5, q6, q7, q8, q9, q10, q11, q12, q13, q14, Nat.reduceAdd, Nat.reduceMul, Nat.reduceSub, Nat.reduceLeDiff, Nat.reduceEqDiff, Nat.reduceBEq, q15, q16, q17, q18, ↓reduceIte, reduceCtorEq, q19, q20, q21, q22, q23, q24, q25, q26, q27, q28, q29, q30, q31, q32, q33, q34, q35, q36, q37, q38, wrap64, ↓o_eqa, ↓o_mm, ↓o_app, app_some, mmL, mmV, mm2, eqE, eqParts, eqInt, eqBool, eqStr, partV, q39, q40, pickV, q41, Int.reduceEq, Int.reduceLE, Int.reduceLT, Int.reduceAdd, Int.reduceSub, Int.reduceNeg, Int.reduceToNat, Int.reduceNe, q42, q43, q44, q45, q46, q47, q48, q49, appE, oldOf, rowOf, updL, q50, q51, q52, q53, Nat.reducePow, zlt, ovr_get, Nat.reduceShiftRight, Nat.reduceMod, ite_neN, ite_eqN, q54, q55, q56, q57, q58, q59, q60, q61, q62, q63, q64, q65, q66, q67, tailP_f, tailP_t, tailF_f, tailF_t, ↓o_slc, slcP, bndO, capO, slcLen, intOf, Option.isSome_none, Option.isNone_none, Option.isSome_some, Option.isNone_some, nilP, slc_sl, slc_csl, slc_osl, slc_osl0, slc_ocap, slc_str, appR, appS, ↓o_apps, ↓o_cvt, cvP, shiftB, false_or, pv_len, pv_take, Nat.add_assoc, tm_len, tm_take, pv_one, tm_one, tpvB_len, tpvB_take, tpvB_one, pvB_len, pvB_take, pvB_one, List.length_append, id_ne, id_ne', id_ne2, List.append_nil, List.append_assoc, lenPV_slB, iaV_slB_f, iaV_slB_t, *])
            refine c_loopW 20282332232399215087680070090800 (by kernel_rfl) (fun j F H m => ∃ i : Nat, j = xs.length - i ∧ i ≤ xs.length ∧ F 86 = .sc (.int .i64 i) ∧ sameT (xs.take i) (ys.take i) = true) _ ⟨0, rfl, Nat.zero_le _, by simp [upd], rfl⟩ ?_
            rintro _ F H m ⟨i, rfl, hi, e86, hs⟩
            by_cases hlt : i < xs.length
            · have hlt2 : i < ys.length := by omega
              have eg : xs[i]? = some xs[i] := List.getElem?_eq_getElem hlt
              have eg2 : ys[i]? = some ys[i] := List.getElem?_eq_getElem hlt2
              have hn := sizeL_mem xs i hlt
              have ht := sameT_take xs ys i hlt hlt2
              have hq := sameT_false xs ys i hlt hlt2
              have hc := ih'.out xs[i] ys[i] (by omega)
              have ht' := Kept.mk ht
              have hq' := Kept.mk hq
              have hl' := Kept.mk hl
              clear ih' ht hq
              repeat' (first | ((with_reducible first | refine wA (by omega) ?_ | refine wB (by omega) ?_ | refine wC (by omega) ?_ | refine wD (by omega) ?_ | refine wE ?_ ?_ | refine wF ?_ ?_ | refine wG ?_ ?_ | refine wH ?_ ?_ | refine wI ?_ ?_ | refine wJ ?_ ?_ | refine wK ?_ ?_ | refine wL ?_ ?_) <;> intro _) | (((with_reducible refine call_id ?_); (first | (refine call_pure (hc) ?_)))) | simp (maxSteps := 1000000) (disch := omega) only [↓c_seq, ↓c_region, ↓c_cond, ↓c_block, ↓c_ret, ↓c_skip, ↓c_exit, ↓c_cont, ↓t_normal, ↓t_ret, ↓t_exit, ↓b_normal, ↓b_ret, ↓b_exit, ↓run_nil, ↓run_cons, num_nil, num_cons, ↓g_some, ↓o_mv, ↓o_pick, ↓o_bin, ↓o_un, ↓o_ld, ↓o_ldf, isP, ↓o_bld, ↓o_len, ↓o_mkf, ↓o_nilc, ↓o_fa, ↓o_fd, ↓o_ia, ↓o_iaa, ↓o_ix, ↓o_ixs, ↓o_ext, ↓o_al, ↓o_bxf, ↓o_bxt, ↓o_bsl, ↓o_bslf, chunks, ↓o_mks, ↓o_st, ↓o_stf, ↓o_call, ↓o_rng, ↓o_nxt, rngV, next_is, next_iter, ↓o_callm, ↓o_callmA, ↓o_calvm, ↓o_calv, val_some, new_some, st_some, stf_some, guard_tt, guard_ff, guard_tf, guard_ft, guard_un, ↓cond_true, ↓cond_false, calv_fn, put_some, put_none, ev_tmp, ev_const, ev_func, ↓upd_get, sig_eq, sigF_nil, ↓sigF_cons, q0, q1, nilcV, faV, fdV, iaaV, ixV, ixsV, extV, mksV, loadP, storeP, binPV, unPV, intBin, partsP, fillP, zeros, PV.good, PV.cellsOf, PV.one, q2, q3, q4, q5, q6, q7, q8, q9, q10, q11, q12, q13, q14, Nat.reduceAdd, Nat.reduceMul, Nat.reduceSub, Nat.reduceLeDiff, Nat.reduceEqDiff, Nat.reduceBEq, q15, q16, q17, q18, ↓reduceIte, reduceCtorEq, q19, q20, q21, q22, q23, q24, q25, q26, q27, q28, q29, q30, q31, q32, q33, q34, q35, q36, q37, q38, wrap64, ↓o_eqa, ↓o_mm, ↓o_app, app_some, mmL, mmV, mm2, eqE, eqParts, eqInt, eqBool, eqStr, partV, q39, q40, pickV, q41, Int.reduceEq, Int.reduceLE, Int.reduceLT, Int.reduceAdd, Int.reduceSub, Int.reduceNeg, Int.reduceToNat, Int.reduceNe, q42, q43, q44, q45, q46, q47, q48, q49, appE, oldOf, rowOf, updL, q50, q51, q52, q53, Nat.reducePow, zlt, ovr_get, Nat.reduceShiftRight, Nat.reduceMod, ite_neN, ite_eqN, q54, q55, q56, q57, q58, q59, q60, q61, q62, q63, q64, q65, q66, q67, tailP_f, tailP_t, tailF_f, tailF_t, ↓o_slc, slcP, bndO, capO, slcLen, intOf, Option.isSome_none, Option.isNone_none, Option.isSome_some, Option.isNone_some, nilP, slc_sl, slc_csl, slc_osl, slc_osl0, slc_ocap, slc_str, appR, appS, ↓o_apps, ↓o_cvt, cvP, shiftB, false_or, pv_len, pv_take, Nat.add_assoc, tm_len, tm_take, pv_one, tm_one, tpvB_len, tpvB_take, tpvB_one, pvB_len, pvB_take, pvB_one, List.length_append, id_ne, id_ne', id_ne2, List.append_nil, List.append_assoc, lenPV_slB, iaV_slB_f, iaV_slB_t, *])
              · rename_i q
                have hqq := hno.out (hq'.out q)
                refine fin_tmp (.inr rfl) ?_
                simp [upd, hqq]
              · rename_i q
                refine Nx.mk (xs.length - (i + 1)) cE1 ⟨i + 1, cE1, cE1, cE1, by rw [ht'.out, hs, q]; rfl⟩
            · obtain rfl : i = xs.length := by omega
              have e : ys.take xs.length = ys := List.take_of_length_le (by omega)
              rw [List.take_length, e] at hs
              have hrf := hall.out hs
              clear ih' hall hno
              repeat' (first | ((with_reducible first | refine wA (by omega) ?_ | refine wB (by omega) ?_ | refine wC (by omega) ?_ | refine wD (by omega) ?_ | refine wE ?_ ?_ | refine wF ?_ ?_ | refine wG ?_ ?_ | refine wH ?_ ?_ | refine wI ?_ ?_ | refine wJ ?_ ?_ | refine wK ?_ ?_ | refine wL ?_ ?_) <;> intro _) | simp (maxSteps := 1000000) (disch := omega) only [↓c_seq, ↓c_region, ↓c_cond, ↓c_block, ↓c_ret, ↓c_skip, ↓c_exit, ↓c_cont, ↓t_normal, ↓t_ret, ↓t_exit, ↓b_normal, ↓b_ret, ↓b_exit, ↓run_nil, ↓run_cons, num_nil, num_cons, ↓g_some, ↓o_mv, ↓o_pick, ↓o_bin, ↓o_un, ↓o_ld, ↓o_ldf, isP, ↓o_bld, ↓o_len, ↓o_mkf, ↓o_nilc, ↓o_fa, ↓o_fd, ↓o_ia, ↓o_iaa, ↓o_ix, ↓o_ixs, ↓o_ext, ↓o_al, ↓o_bxf, ↓o_bxt, ↓o_bsl, ↓o_bslf, chunks, ↓o_mks, ↓o_st, ↓o_stf, ↓o_call, ↓o_rng, ↓o_nxt, rngV, next_is, next_iter, ↓o_callm, ↓o_callmA, ↓o_calvm, ↓o_calv, val_some, new_some, st_some, stf_some, guard_tt, guard_ff, guard_tf, guard_ft, guard_un, ↓cond_true, ↓cond_false, calv_fn, put_some, put_none, ev_tmp, ev_const, ev_func, ↓upd_get, sig_eq, sigF_nil, ↓sigF_cons, q0, q1, nilcV, faV, fdV, iaaV, ixV, ixsV, extV, mksV, loadP, storeP, binPV, unPV, intBin, partsP, fillP, zeros, PV.good, PV.cellsOf, PV.one, q2, q3, q4, q5, q6, q7, q8, q9, q10, q11, q12, q13, q14, Nat.reduceAdd, Nat.reduceMul, Nat.reduceSub, Nat.reduceLeDiff, Nat.reduceEqDiff, Nat.reduceBEq, q15, q16, q17, q18, ↓reduceIte, reduceCtorEq, q19, q20, q21, q22, q23, q24, q25, q26, q27, q28, q29, q30, q31, q32, q33, q34, q35, q36, q37, q38, wrap64, ↓o_eqa, ↓o_mm, ↓o_app, app_some, mmL, mmV, mm2, eqE, eqParts, eqInt, eqBool, eqStr, partV, q39, q40, pickV, q41, Int.reduceEq, Int.reduceLE, Int.reduceLT, Int.reduceAdd, Int.reduceSub, Int.reduceNeg, Int.reduceToNat, Int.reduceNe, q42, q43, q44, q45, q46, q47, q48, q49, appE, oldOf, rowOf, updL, q50, q51, q52, q53, Nat.reducePow, zlt, ovr_get, Nat.reduceShiftRight, Nat.reduceMod, ite_neN, ite_eqN, q54, q55, q56, q57, q58, q59, q60, q61, q62, q63, q64, q65, q66, q67, tailP_f, tailP_t, tailF_f, tailF_t, ↓o_slc, slcP, bndO, capO, slcLen, intOf, Option.isSome_none, Option.isNone_none, Option.isSome_some, Option.isNone_some, nilP, slc_sl, slc_csl, slc_osl, slc_osl0, slc_ocap, slc_str, appR, appS, ↓o_apps, ↓o_cvt, cvP, shiftB, false_or, pv_len, pv_take, Nat.add_assoc, tm_len, tm_take, pv_one, tm_one, tpvB_len, tpvB_take, tpvB_one, pvB_len, pvB_take, pvB_one, List.length_append, id_ne, id_ne', id_ne2, List.append_nil, List.append_assoc, lenPV_slB, iaV_slB_f, iaV_slB_t, *])
              refine fin_tmp (.inr rfl) ?_
              simp [upd, hrf]
      · clear ih
        repeat' (first | ((with_reducible first | refine wA (by omega) ?_ | refine wB (by omega) ?_ | refine wC (by omega) ?_ | refine wD (by omega) ?_ | refine wE ?_ ?_ | refine wF ?_ ?_ | refine wG ?_ ?_ | refine wH ?_ ?_ | refine wI ?_ ?_ | refine wJ ?_ ?_ | refine wK ?_ ?_ | refine wL ?_ ?_) <;> intro _) | (((with_reducible refine call_id ?_); (first | (refine call_pure (hc1) ?_)))) | simp (maxSteps := 1000000) (disch := omega) only [↓c_seq, ↓c_region, ↓c_cond, ↓c_block, ↓c_ret, ↓c_skip, ↓c_exit, ↓c_cont, ↓t_normal, ↓t_ret, ↓t_exit, ↓b_normal, ↓b_ret, ↓b_exit, ↓run_nil, ↓run_cons, num_nil, num_cons, ↓g_some, ↓o_mv, ↓o_pick, ↓o_bin, ↓o_un, ↓o_ld, ↓o_ldf, isP, ↓o_bld, ↓o_len, ↓o_mkf, ↓o_nilc, ↓o_fa, ↓o_fd, ↓o_ia, ↓o_iaa, ↓o_ix, ↓o_ixs, ↓o_ext, ↓o_al, ↓o_bxf, ↓o_bxt, ↓o_bsl, ↓o_bslf, chunks, ↓o_mks, ↓o_st, ↓o_stf, ↓o_call, ↓o_rng, ↓o_nxt, rngV, next_is, next_iter, ↓o_callm, ↓o_callmA, ↓o_calvm, ↓o_calv, val_some, new_some, st_some, stf_some, guard_tt, guard_ff, guard_tf, guard_ft, guard_un, ↓cond_true, ↓cond_false, calv_fn, put_some, put_none, ev_tmp, ev_const, ev_func, ↓upd_get, sig_eq, sigF_nil, ↓sigF_cons, q0, q1, nilcV, faV, fdV, iaaV, ixV, ixsV, extV, mksV, loadP, storeP, binPV, unPV, intBin, partsP, fillP, zeros, PV.good, PV.cellsOf, PV.one, q2, q3, q4, q5, q6, q7, q8, q9, q10, q11, q12, q13, q14, Nat.reduceAdd, Nat.reduceMul, Nat.reduceSub, Nat.reduceLeDiff, Nat.reduceEqDiff, Nat.reduceBEq, q15, q16, q17, q18, ↓reduceIte, reduceCtorEq, q19, q20, q21, q22, q23, q24, q25, q26, q27, q28, q29, q30, q31, q32, q33, q34, q35, q36, q37, q38, wrap64, ↓o_eqa, ↓o_mm, ↓o_app, app_some, mmL, mmV, mm2, eqE, eqParts, eqInt, eqBool, eqStr, partV, q39, q40, pickV, q41, Int.reduceEq, Int.reduceLE, Int.reduceLT, Int.reduceAdd, Int.reduceSub, Int.reduceNeg, Int.reduceToNat, Int.reduceNe, q42, q43, q44, q45, q46, q47, q48, q49, appE, oldOf, rowOf, updL, q50, q51, q52, q53, Nat.reducePow, zlt, ovr_get, Nat.reduceShiftRight, Nat.reduceMod, ite_neN, ite_eqN, q54, q55, q56, q57, q58, q59, q60, q61, q62, q63, q64, q65, q66, q67, tailP_f, tailP_t, tailF_f, tailF_t, ↓o_slc, slcP, bndO, capO, slcLen, intOf, Option.isSome_none, Option.isNone_none, Option.isSome_some, Option.isNone_some, nilP, slc_sl, slc_csl, slc_osl, slc_osl0, slc_ocap, slc_str, appR, appS, ↓o_apps, ↓o_cvt, cvP, shiftB, false_or, pv_len, pv_take, Nat.add_assoc, tm_len, tm_take, pv_one, tm_one, tpvB_len, tpvB_take, tpvB_one, pvB_len, pvB_take, pvB_one, List.length_append, id_ne, id_ne', id_ne2, List.append_nil, List.append_assoc, lenPV_slB, iaV_slB_f, iaV_slB_t, mc_term_same, Tm.pvB, strBin, fold_sameB, *])
        all_goals (try (refine fin_tmp (.inr rfl) ?_; simp [upd, Tm.same, sameT, *]; done))
end
section
set_option maxRecDepth 20000
attribute [local go_sem] pv_len pv_take Nat.add_assoc tm_len tm_take pv_one tm_one tpvB_len tpvB_take tpvB_one pvB_len pvB_take pvB_one id_ne id_ne' id_ne2 List.append_assoc
abbrev emp : ByteArray := ⟨#[]⟩
theorem tm_take_app (l : Tm) (r : List PV) : (l.pv ++ r).take 5 = l.pv := List.take_left' (tm_len l)
attribute [local go_sem] tm_take_app
theorem tm_drop_app (l : Tm) (r : List PV) : (l.pv ++ r).drop 5 = r := List.drop_left' (tm_len l)
attribute [local go_sem] tm_drop_app
end
section
theorem tlNodes_p : ∀ (fuel : Nat) (l : Lv) (most : Nat), l.nodes ≤ fuel ∨ most ≤ fuel → 1 ≤ most → most ≤ 3000 →
    PPure Try.prog F.term_levelNodes [.ptr l.pv, .sc (.int .i64 most)] (.sc (.int .i64 (min l.nodes most : Nat))) := by
  intro fuel
  induction fuel with
  | zero => intro l most h h1; have := nodes_pos l; omega
  | succ fuel ih =>
    intro l most hf h1 h2
    cases l with
    | mk k n args =>
    simp only [Lv.nodes] at hf
    refine pure_by is_term_levelNodes (by simp) rfl fun hb nx => ?_
    have hb0 : args.length ≤ 9223372036854775807 := by simp [Lv.pv, bndL, PV.bnd] at hb; exact hb.1
    simp (maxSteps := 1000000) (disch := omega) only [go_sem, seval, mc_term_levelNodes, Lv.pv]
    refine c_loop (fun j s => ∃ i t : Nat, j = args.length - i ∧ i ≤ args.length ∧ t = min (1 + nodesL (args.take i)) most ∧ s.s 0 = .ptr (Lv.mk k n args).pv ∧ s.s 1 = .sc (.int .i64 most) ∧ s.s 5 = .sc (.int .i64 t) ∧ s.s 11 = .sc (.int .i64 args.length) ∧ s.s 12 = .sc (.int .i64 i)) _ ⟨0, 1, rfl, by omega, by simp [nodesL]; omega, by simp [upd, sigF, sig_eq, Lv.pv]⟩ ?_
    rintro _ s ⟨i, t, rfl, hi, ht, e0, e1, e5, e11, e12⟩
    simp (maxSteps := 1000000) (disch := omega) only [go_sem, seval, Lv.pv, e0, e1, e5, e11, e12]
    by_cases hlt : i < args.length
    · have hs := nodesL_take_succ args i hlt
      have hp := nodes_pos args[i]
      simp (maxSteps := 1000000) (disch := omega) only [go_sem, seval, hlt, Lv.pv, e0, e1, e5, e11, e12]
      by_cases hfull : most ≤ t
      · simp (maxSteps := 1000000) (disch := omega) only [go_sem, seval, hfull, Lv.pv, e0, e1, e5, e11, e12]
        refine fin_tmp (.inr rfl) ?_
        have := nodesL_take_le args i
        simp only [go_sem, seval, Lv.nodes, PV.sc.injEq, Value.int.injEq]
        omega
      · have em : ((most : Int) - t) = ((most - t : Nat) : Int) := by omega
        have eg : args[i]? = some args[i] := List.getElem?_eq_getElem hlt
        simp (maxSteps := 1000000) (disch := omega) only [go_sem, seval, hfull, Lv.pv, e0, e1, e5, e11, e12, em, eg]
        refine call_pure (ih args[i] (most - t) (by have := nodesL_mem args i hlt; omega) (by omega) (by omega)) ?_
        simp (maxSteps := 1000000) (disch := omega) only [go_sem, seval, hfull, Lv.pv, e0, e1, e5, e11, e12, em, eg]
        exact ⟨args.length - (i + 1), by omega, i + 1, t + min args[i].nodes (most - t), rfl, by omega, by omega, by simp, by simp⟩
    · simp (maxSteps := 1000000) (disch := omega) only [go_sem, seval, hlt, Lv.pv, e0, e1, e5, e11, e12]
      refine fin_tmp (.inr rfl) ?_
      have hj : i = args.length := by omega
      subst hj
      rw [List.take_length] at ht
      simp only [go_sem, seval, Lv.nodes, PV.sc.injEq, Value.int.injEq]
      omega
end
section
set_option maxRecDepth 20000
attribute [local go_sem] pv_len pv_take tm_len tm_take pv_one tm_one id_ne id_ne' id_ne2
set_option maxRecDepth 100000 in
set_option maxHeartbeats 4000000 in
theorem all_seq (t : Tm) : PSeq Try.prog F.term_all_1 [.ptr [.ptr t.pv]] (t.pre.map nodePV) := by
  refine ⟨is_term_all_1.enters, fun V vals hok hv => ?_⟩
  intro l J Jx W hW _ _ hY h0
  have hdd : ∀ k : Nat, (Fence.wide.depth.isSome = true → 1 ≤ k) := fun k h => by cases h
  obtain ⟨v1, hv1, hr1⟩ := hv.get (i := 0) (x := .ptr [.ptr t.pv]) rfl
  have hvals : vals = [v1] := by
    have h1 := hv.1
    match vals, h1, hv1 with
    | [x], _, h => simp at h; rw [h]
  subst hvals
  obtain ⟨b, off, vs, rfl, hokb, hr, hc⟩ := hr1.ptr_inv
  obtain ⟨p, hp1, hrep⟩ := hr.get (i := 0) (x := .ptr t.pv) rfl
  have hkeep : ∀ b, V.ok b → W.heap[b]? = V.w.heap[b]? := fun b hb => hW.block b (hok b hb)
  have hcell : W.cell? ⟨b, off, none⟩ = some p := (World.cell?_of_block (w := V.w) (w' := W) (a := ⟨b, off, none⟩) (hkeep b hokb)).trans (hc 0 p hp1)
  have hw := walkNodes0 V (t.pre.map nodePV) l (t.pre.map nodePV).length J Jx (fun m pre x W hj hl => YieldAt.any rfl m (hY pre x W hj hl)) t.size t (Nat.le_refl _) 0 p [] W hrep (fun u hu => List.mem_map_of_mem hu) hkeep h0 (by simp)
  refine callsIn_of_wp Try.func95 rfl trivial ?_ rfl
  simp only [Try.ntmps95, List.size_toArray, List.length_cons, List.length_nil, Nat.reduceAdd, Nat.reduceSub, Array.replicate_succ, Array.replicate_zero, List.push_toArray, List.append_toArray, List.nil_append, List.cons_append]
  gi_wp2_with (refine ⟨trivial, ?_⟩; refine hw.mono ?_; clear hw; rintro e W1 (⟨rfl, ys, h1, h2, h3⟩ | ⟨rfl, ys, h1, h2⟩))
  · go_end0
    exact ⟨⟨_, rfl⟩, .inl ⟨ys, h1, by simpa using h2⟩⟩
  · go_end0
    exact ⟨⟨_, rfl⟩, .inr ⟨ys, h1, by simpa using h2⟩⟩
theorem all_p (t : Tm) : PPure Try.prog F.term_all [.ptr t.pv] (.fn F.term_all_1 [.ptr [.ptr t.pv]]) := by
  refine pure_by is_term_all (by simp) (by simp [PV.imm, immL, tm_imm]) fun hb nx => ?_
  repeat' (first | ((with_reducible first | refine wA (by omega) ?_ | refine wB (by omega) ?_ | refine wC (by omega) ?_ | refine wD (by omega) ?_ | refine wE ?_ ?_ | refine wF ?_ ?_ | refine wG ?_ ?_ | refine wH ?_ ?_ | refine wI ?_ ?_ | refine wJ ?_ ?_ | refine wK ?_ ?_ | refine wL ?_ ?_) <;> intro _) | simp (maxSteps := 1000000) (disch := omega) only [go_sem, seval, mc_term_all, *])
  exact fin_tmp (.inr rfl) (by simp [upd])
mutual
theorem Lv.pv_inj : ∀ a b : Lv, a.pv = b.pv → a = b
  | .mk k n args, .mk k' n' args', h => by
    simp only [Lv.pv, List.cons.injEq, PV.sc.injEq, Value.int.injEq, PV.sl.injEq, true_and, and_true] at h
    rw [h.1, h.2.1, pvL_inj args args' h.2.2]
theorem pvL_inj : ∀ a b : List Lv, a.map Lv.pv = b.map Lv.pv → a = b
  | [], [], _ => rfl
  | [], y :: s, h => by simp at h
  | x :: r, [], h => by simp at h
  | x :: r, y :: s, h => by
    simp only [List.map_cons, List.cons.injEq] at h
    rw [Lv.pv_inj x y h.1, pvL_inj r s h.2]
end
def Tm.wt : Tm → Nat
  | .mk _ _ _ ls _ => 1 + (ls.map fun l => min l.nodes 2001).sum
def Tm.own : Tm → Nat
  | .mk _ _ _ ls _ => 1 + nodesL ls
theorem wt_of_pv {a b : Tm} (h : nodePV a = nodePV b) : a.wt = b.wt := by
  cases a; cases b
  simp only [nodePV, Tm.pv, PV.ptr.injEq, List.cons.injEq, PV.sl.injEq, true_and, and_true] at h
  simp only [Tm.wt]
  rw [pvL_inj _ _ h.2.2.2.1]
def wts (us : List Tm) : Nat := (us.map Tm.wt).sum
theorem wts_of_pv : ∀ {us vs : List Tm}, us.map nodePV = vs.map nodePV → wts us = wts vs
  | [], [], _ => rfl
  | [], _ :: _, h => by simp at h
  | _ :: _, [], h => by simp at h
  | a :: us, b :: vs, h => by
    simp only [List.map_cons, List.cons.injEq] at h
    have := wts_of_pv h.2
    simp only [wts, List.map_cons, List.sum_cons] at this ⊢
    rw [wt_of_pv h.1, this]
theorem mins_le : ∀ ls : List Lv, (ls.map fun l => min l.nodes 2001).sum ≤ nodesL ls
  | [] => by simp [nodesL]
  | x :: r => by have := mins_le r; simp only [List.map_cons, List.sum_cons, nodesL]; omega
theorem mins_eq : ∀ ls : List Lv, (ls.map fun l => min l.nodes 2001).sum ≤ 2000 → (ls.map fun l => min l.nodes 2001).sum = nodesL ls
  | [], _ => by simp [nodesL]
  | x :: r, h => by
    simp only [List.map_cons, List.sum_cons, nodesL] at h ⊢
    have := mins_eq r (by omega)
    omega
theorem wt_le (t : Tm) : t.wt ≤ t.own := by
  cases t
  simp only [Tm.wt, Tm.own]
  have := mins_le ‹List Lv›
  omega
theorem wt_eq (t : Tm) (h : t.wt ≤ 2000) : t.wt = t.own := by
  cases t
  rename_i ls _
  simp only [Tm.wt, Tm.own] at h ⊢
  have := mins_eq ls (by omega)
  omega
theorem wts_le : ∀ us : List Tm, wts us ≤ (us.map Tm.own).sum
  | [] => by simp [wts]
  | x :: r => by have := wts_le r; have := wt_le x; simp only [wts, List.map_cons, List.sum_cons] at *; omega
theorem wts_eq : ∀ us : List Tm, wts us ≤ 2000 → wts us = (us.map Tm.own).sum
  | [], _ => by simp [wts]
  | x :: r, h => by
    simp only [wts, List.map_cons, List.sum_cons] at h ⊢
    have h1 := wts_eq r (by simp only [wts]; omega)
    have h2 := wt_eq x (by omega)
    simp only [wts] at h1
    omega
mutual
theorem own_pre : ∀ t : Tm, (t.pre.map Tm.own).sum = t.nodes
  | .mk k n s ls args => by
    simp only [Tm.pre, List.map_cons, List.sum_cons, Tm.own, Tm.nodes, own_preL args]
    omega
theorem own_preL : ∀ ts : List Tm, ((preL ts).map Tm.own).sum = nodesT ts
  | [] => by simp [preL, nodesT]
  | x :: r => by simp only [preL, List.map_append, List.sum_append, nodesT, own_pre x, own_preL r]
end
theorem wts_prefix {us vs : List Tm} (h : us.map nodePV <+: vs.map nodePV) : wts us ≤ wts vs := by
  obtain ⟨z, hz⟩ := h
  have h1 : us.map nodePV = (vs.take us.length).map nodePV := by
    rw [List.map_take, ← hz, List.take_left' (by simp)]
  rw [wts_of_pv h1]
  have h2 : wts vs = wts (vs.take us.length) + wts (vs.drop us.length) := by
    simp only [wts]
    rw [← List.sum_append, ← List.map_append, List.take_append_drop]
  omega
def minsL (ls : List Lv) : Nat := (ls.map fun l => min l.nodes 2001).sum
theorem minsL_take (ls : List Lv) (i : Nat) (h : i < ls.length) : minsL (ls.take (i + 1)) = minsL (ls.take i) + min ls[i].nodes 2001 := by
  unfold minsL
  rw [List.take_succ_eq_append_getElem h, List.map_append, List.sum_append]
  simp
end
section
set_option maxRecDepth 20000
attribute [local go_sem] pv_len pv_take Nat.add_assoc tm_len tm_take
mutual
def Tm.mass : Tm → Nat
  | .mk _ _ s ls args => 1 + s.size / 16 + (nodesL ls + massT args)
def massT : List Tm → Nat
  | [] => 0
  | x :: r => x.mass + massT r
end
mutual
def Tm.fits : Tm → Prop
  | .mk _ _ s _ args => s.size ≤ 9223372036854775807 ∧ fitsT args
def fitsT : List Tm → Prop
  | [] => True
  | x :: r => x.fits ∧ fitsT r
end
theorem fitsT_mem : ∀ (ts : List Tm) (k : Nat) (h : k < ts.length), fitsT ts → ts[k].fits
  | x :: r, 0, h, hf => by simpa using hf.1
  | x :: r, k + 1, h, hf => by simpa using fitsT_mem r k (by simpa using h) hf.2
theorem massT_take_succ : ∀ (ts : List Tm) (k : Nat) (h : k < ts.length), massT (ts.take (k + 1)) = massT (ts.take k) + ts[k].mass
  | x :: r, 0, h => by simp [massT]
  | x :: r, k + 1, h => by
    have := massT_take_succ r k (by simpa using h)
    simp only [List.take_succ_cons, massT, List.getElem_cons_succ, this]
    omega
theorem massT_append : ∀ a b : List Tm, massT (a ++ b) = massT a + massT b
  | [], b => by simp [massT]
  | x :: r, b => by simp only [List.cons_append, massT, massT_append r b]; omega
theorem massT_take_le (ts : List Tm) (k : Nat) : massT (ts.take k) ≤ massT ts := by
  have h := massT_append (ts.take k) (ts.drop k)
  rw [List.take_append_drop] at h
  omega
set_option maxHeartbeats 8000000 in
theorem Mass_p (most : Nat) (hm : most ≤ 1000000) : ∀ (fuel : Nat) (t : Tm), t.size ≤ fuel → t.fits →
    PPure Try.prog F.ref00_Nodes [.agg t.pv, .sc (.int .i64 most)] (.sc (.int .i64 (min t.mass (most + 1) : Nat))) := by
  intro fuel
  induction fuel with
  | zero => intro t h _; have := size_pos t; omega
  | succ fuel ih =>
    intro t hf hfit
    cases t with
    | mk k n s ls args =>
    simp only [Tm.size] at hf
    refine pure_by is_ref00_Nodes (by simp) rfl fun hb nx => ?_
    have hb0 : ls.length ≤ 9223372036854775807 ∧ args.length ≤ 9223372036854775807 := by simp [Tm.pv, bndL, PV.bnd] at hb; exact ⟨hb.1.1, hb.2.1⟩
    have hsz := hfit.1
    have hfits := Kept.mk hfit.2
    clear hfit
    have htd : Int.tdiv (s.size : Int) 16 = ((s.size / 16 : Nat) : Int) := by rw [Int.tdiv_eq_ediv_of_nonneg (by omega)]; omega
    repeat' (first | ((with_reducible first | refine wA (by omega) ?_ | refine wB (by omega) ?_ | refine wC (by omega) ?_ | refine wD (by omega) ?_ | refine wE ?_ ?_ | refine wF ?_ ?_ | refine wG ?_ ?_ | refine wH ?_ ?_ | refine wI ?_ ?_ | refine wJ ?_ ?_ | refine wK ?_ ?_ | refine wL ?_ ?_) <;> intro _) | simp (maxSteps := 1000000) (disch := omega) only [go_sem, seval, mc_ref00_Nodes, Tm.pv, htd, *])
    refine c_loopW 17179861088 (by kernel_rfl) (fun j f H m => ∃ i t : Nat, j = ls.length - i ∧ i ≤ ls.length ∧ min t (most + 1) = min (1 + s.size / 16 + nodesL (ls.take i)) (most + 1) ∧ t ≤ 2 * most + 1 + s.size / 16 ∧ f 5 = .sc (.int .i64 t) ∧ f 6 = .sc (.int .i64 i)) _ ⟨0, 1 + s.size / 16, rfl, cE1, by simp [nodesL], by omega, cE1, cE1⟩ ?_
    rintro _ f H m ⟨i, t, rfl, hi, ht, ht2, e5, e6⟩
    by_cases hgo : i < ls.length ∧ t ≤ most
    · obtain ⟨hlt, hfull⟩ := hgo
      have eg : ls[i]? = some ls[i] := List.getElem?_eq_getElem hlt
      have hs := nodesL_take_succ ls i hlt
      repeat' (first | ((with_reducible first | refine wA (by omega) ?_ | refine wB (by omega) ?_ | refine wC (by omega) ?_ | refine wD (by omega) ?_ | refine wE ?_ ?_ | refine wF ?_ ?_ | refine wG ?_ ?_ | refine wH ?_ ?_ | refine wI ?_ ?_ | refine wJ ?_ ?_ | refine wK ?_ ?_ | refine wL ?_ ?_) <;> intro _) | (((with_reducible refine call_id ?_); (first | (refine call_pure (LevelNodes_p most hm ls[i].nodes ls[i] (Nat.le_refl _)) ?_)))) | simp (maxSteps := 1000000) (disch := omega) only [go_sem, seval, Tm.pv, *])
      exact Nx.mk (ls.length - (i + 1)) cE1 ⟨i + 1, t + min ls[i].nodes (most + 1), rfl, cE1, by omega, by omega, cE1, cE1⟩
    · have hfin : min t (most + 1) = min (1 + s.size / 16 + nodesL ls) (most + 1) := by
        by_cases h : i < ls.length
        · have := nodesL_take_le ls i; omega
        · have e : ls.take i = ls := List.take_of_length_le (by omega)
          rw [e] at ht
          exact ht
      have hor : (i < ls.length ∧ most < t) ∨ ¬ i < ls.length := by omega
      clear hgo ht
      rcases hor with ⟨h, h'⟩ | h
      all_goals
        repeat' (first | ((with_reducible first | refine wA (by omega) ?_ | refine wB (by omega) ?_ | refine wC (by omega) ?_ | refine wD (by omega) ?_ | refine wE ?_ ?_ | refine wF ?_ ?_ | refine wG ?_ ?_ | refine wH ?_ ?_ | refine wI ?_ ?_ | refine wJ ?_ ?_ | refine wK ?_ ?_ | refine wL ?_ ?_) <;> intro _) | simp (maxSteps := 1000000) (disch := omega) only [go_sem, seval, Tm.pv, *])
        refine c_loopW 36028779839094944 (by kernel_rfl) (fun j f H m => ∃ i2 t2 : Nat, j = args.length - i2 ∧ i2 ≤ args.length ∧ min t2 (most + 1) = min (1 + s.size / 16 + (nodesL ls + massT (args.take i2))) (most + 1) ∧ t2 ≤ 2 * most + 1 + s.size / 16 ∧ f 5 = .sc (.int .i64 t2) ∧ f 7 = .sc (.int .i64 i2)) _ ⟨0, t, rfl, cE1, by simp [massT]; omega, cE1, cE1, cE1⟩ ?_
        rintro _ f2 H2 m2 ⟨i2, t2, rfl, hi2, ht3, ht4, e5', e7⟩
        by_cases hgo : i2 < args.length ∧ t2 ≤ most
        · obtain ⟨hlt, hfull⟩ := hgo
          have eg : args[i2]? = some args[i2] := List.getElem?_eq_getElem hlt
          have hs := massT_take_succ args i2 hlt
          have hsz := sizeL_mem args i2 hlt
          repeat' (first | ((with_reducible first | refine wA (by omega) ?_ | refine wB (by omega) ?_ | refine wC (by omega) ?_ | refine wD (by omega) ?_ | refine wE ?_ ?_ | refine wF ?_ ?_ | refine wG ?_ ?_ | refine wH ?_ ?_ | refine wI ?_ ?_ | refine wJ ?_ ?_ | refine wK ?_ ?_ | refine wL ?_ ?_) <;> intro _) | (((with_reducible refine call_id ?_); (first | (refine call_pure (ih args[i2] (by omega) (fitsT_mem args i2 hlt hfits.out)) ?_)))) | simp (maxSteps := 1000000) (disch := omega) only [go_sem, seval, Tm.pv, *])
          exact Nx.mk (args.length - (i2 + 1)) cE1 ⟨i2 + 1, t2 + min args[i2].mass (most + 1), rfl, cE1, by omega, by omega, cE1, cE1⟩
        · have hfin2 : min t2 (most + 1) = min (1 + s.size / 16 + (nodesL ls + massT args)) (most + 1) := by
            by_cases h : i2 < args.length
            · have := massT_take_le args i2; omega
            · have e : args.take i2 = args := List.take_of_length_le (by omega)
              rw [e] at ht3
              exact ht3
          have hor : (i2 < args.length ∧ most < t2) ∨ ¬ i2 < args.length := by omega
          clear hgo ht3
          rcases hor with ⟨h2, h2'⟩ | h2
          all_goals
            repeat' (first | ((with_reducible first | refine wA (by omega) ?_ | refine wB (by omega) ?_ | refine wC (by omega) ?_ | refine wD (by omega) ?_ | refine wE ?_ ?_ | refine wF ?_ ?_ | refine wG ?_ ?_ | refine wH ?_ ?_ | refine wI ?_ ?_ | refine wJ ?_ ?_ | refine wK ?_ ?_ | refine wL ?_ ?_) <;> intro _) | simp (maxSteps := 1000000) (disch := omega) only [go_sem, seval, Tm.pv, *])
            refine fin_tmp (.inr rfl) ?_
            simp (disch := omega) only [go_sem, seval, Tm.mass, *]
            omega
end
section
set_option maxRecDepth 20000
attribute [local go_sem] pv_len pv_take Nat.add_assoc tm_len tm_take pv_one tm_one
theorem tSame_p (a b : Tm) (f g : Bool) (hfg : (f || g) = true) : PPure Try.prog F.term_Same [.agg (a.pvB f), .agg (b.pvB g)] (.sc (.bool (a.same b))) := by
  refine pure_by is_term_Same (by simp) rfl fun hb nx => ?_
  repeat' (first | ((with_reducible first | refine wA (by omega) ?_ | refine wB (by omega) ?_ | refine wC (by omega) ?_ | refine wD (by omega) ?_ | refine wE ?_ ?_ | refine wF ?_ ?_ | refine wG ?_ ?_ | refine wH ?_ ?_ | refine wI ?_ ?_ | refine wJ ?_ ?_ | refine wK ?_ ?_ | refine wL ?_ ?_) <;> intro _) | (((with_reducible refine call_id ?_); (first | (refine call_pure (term_same_p f g hfg a.size a b (Nat.le_refl _)) ?_)))) | simp (maxSteps := 1000000) (disch := omega) only [go_sem, seval, mc_term_Same, *])
  all_goals (refine fin_tmp (.inr rfl) ?_; simp [upd])
theorem Great_p (t : Tm) (hf : t.fits) : PPure Try.prog F.law04_Great [.agg t.pv] (.sc (.bool (decide (2500 < t.mass)))) := by
  refine pure_by is_law04_Great (by simp) rfl fun hb nx => ?_
  have c1 := Mass_p 2500 (by omega) t.size t (Nat.le_refl _) hf
  repeat' (first | ((with_reducible first | refine wA (by omega) ?_ | refine wB (by omega) ?_ | refine wC (by omega) ?_ | refine wD (by omega) ?_ | refine wE ?_ ?_ | refine wF ?_ ?_ | refine wG ?_ ?_ | refine wH ?_ ?_ | refine wI ?_ ?_ | refine wJ ?_ ?_ | refine wK ?_ ?_ | refine wL ?_ ?_) <;> intro _) | (((with_reducible refine call_id ?_); (first | (refine call_pure (c1) ?_)))) | simp (maxSteps := 1000000) (disch := omega) only [go_sem, seval, mc_law04_Great, *])
  all_goals (refine fin_tmp (.inr rfl) ?_; simp [upd, *] <;> omega)
end
section
set_option maxRecDepth 20000
attribute [local go_sem] pv_len pv_take tm_len tm_take pv_one tm_one id_ne id_ne' id_ne2
mutual
def Tm.vis (np : Int) : Int → Tm → Nat
  | k, .mk kind n s ls args => 1 + (if ((kind = 4 ∨ kind = 5 ∨ kind = 6) ∧ hasB n s ls args 0 0 2 = true) ∨ (kind = 7 ∧ hasB n s ls args 0 0 3 = true) then visA np k kind args.length 0 args else 0)
def visA (np : Int) : Int → Int → Nat → Nat → List Tm → Nat
  | _, _, _, _, [] => 0
  | k, kind, len, i, x :: r => x.vis np (k + deepB kind len i) + (if x.formed np (k + deepB kind len i) = true then visA np k kind len (i + 1) r else 0)
end
theorem vis_pos (np k : Int) (t : Tm) : 0 < t.vis np k := by
  cases t
  simp only [Tm.vis]
  omega
set_option maxHeartbeats 16000000 in
theorem formedV_p (np : Int) : ∀ (fuel : Nat) (t : Tm) (k : Int), t.vis np k ≤ fuel → 0 ≤ k → k + t.vis np k ≤ 2 ^ 60 → PPure Try.prog F.term_formed [.ptr t.pv, .sc (.int .i64 np), .sc (.int .i64 k)] (.sc (.bool (t.formed np k))) := by
  intro fuel
  induction fuel with
  | zero => intro t k h; have := vis_pos np k t; omega
  | succ fuel ih =>
    have hparts : ∀ (kind n : Int) (s : ByteArray) (ls : List Lv) (args : List Tm) (k : Int), visA np k kind args.length 0 args ≤ fuel → 0 ≤ k → k + visA np k kind args.length 0 args + 1 ≤ 2 ^ 60 →
        PPure Try.prog F.term_parts [.ptr (Tm.mk kind n s ls args).pv, .sc (.int .i64 np), .sc (.int .i64 k)] (.sc (.bool (formedA np k kind args.length 0 args))) := by
      intro kind n s ls args k hsz h0 h1
      have hih := Kept.mk ih
      clear ih
      refine pure_by is_term_parts (by simp) rfl fun hb nx => ?_
      have hb0 : args.length ≤ 9223372036854775807 := by simp [Tm.pv, bndL, PV.bnd] at hb; exact hb.2.1
      clear hb
      repeat' (first | ((with_reducible first | refine wA (by omega) ?_ | refine wB (by omega) ?_ | refine wC (by omega) ?_ | refine wD (by omega) ?_ | refine wE ?_ ?_ | refine wF ?_ ?_ | refine wG ?_ ?_ | refine wH ?_ ?_ | refine wI ?_ ?_ | refine wJ ?_ ?_ | refine wK ?_ ?_ | refine wL ?_ ?_) <;> intro _) | simp (maxSteps := 1000000) (disch := omega) only [go_sem, seval, mc_term_parts, Tm.pv, *])
      refine c_loopW 2147475648 (by kernel_rfl) (fun j f H m => ∃ i : Nat, j = args.length - i ∧ i ≤ args.length ∧ f 13 = .sc (.int .i64 i) ∧ Kept (formedA np k kind args.length 0 args = formedA np k kind args.length i (args.drop i)) ∧ visA np k kind args.length i (args.drop i) ≤ visA np k kind args.length 0 args) _ ⟨0, rfl, cE1, cE1, Kept.mk (by rw [List.drop_zero]), by rw [List.drop_zero]; exact Nat.le_refl _⟩ ?_
      rintro _ f H m ⟨i, rfl, hi, e13, hs, hv⟩
      by_cases hlt : i < args.length
      · have eg : args[i]? = some args[i] := List.getElem?_eq_getElem hlt
        have hd := deep_bd kind args.length i
        have hst : Kept (formedA np k kind args.length i (args.drop i) = (args[i].formed np (k + deepB kind args.length i) && formedA np k kind args.length (i + 1) (args.drop (i + 1)))) := Kept.mk (by rw [List.drop_eq_getElem_cons hlt]; rfl)
        have hvs : visA np k kind args.length i (args.drop i) = args[i].vis np (k + deepB kind args.length i) + (if args[i].formed np (k + deepB kind args.length i) = true then visA np k kind args.length (i + 1) (args.drop (i + 1)) else 0) := by rw [List.drop_eq_getElem_cons hlt]; rfl
        have hc1 := deeper_p (.mk kind n s ls args) i
        have hc2 := hc1 kind n s ls args rfl
        simp only [Tm.pv] at hc2
        have hc3 := hih.out args[i] (k + deepB kind args.length i) (by omega) (by omega) (by omega)
        clear hc1
        cases hf : args[i].formed np (k + deepB kind args.length i) with
        | false =>
          have e : formedA np k kind args.length 0 args = false := by rw [hs.out, hst.out, hf]; rfl
          rw [e]
          rw [hf] at hc3
          clear hs hst hvs hv hf e
          repeat' (first | ((with_reducible first | refine wA (by omega) ?_ | refine wB (by omega) ?_ | refine wC (by omega) ?_ | refine wD (by omega) ?_ | refine wE ?_ ?_ | refine wF ?_ ?_ | refine wG ?_ ?_ | refine wH ?_ ?_ | refine wI ?_ ?_ | refine wJ ?_ ?_ | refine wK ?_ ?_ | refine wL ?_ ?_) <;> intro _) | (((with_reducible refine call_id ?_); (first | (refine call_pure (hc2) ?_) | (refine call_pure (hc3) ?_)))) | simp (maxSteps := 1000000) (disch := omega) only [go_sem, seval, Tm.pv, *])
          all_goals (exact fin_tmp (.inr rfl) cE3)
        | true =>
          have hs2 : Kept (formedA np k kind args.length 0 args = formedA np k kind args.length (i + 1) (args.drop (i + 1))) := Kept.mk (by rw [hs.out, hst.out, hf]; rfl)
          rw [hf, if_pos rfl] at hvs
          rw [hf] at hc3
          have hv2 : visA np k kind args.length (i + 1) (args.drop (i + 1)) ≤ visA np k kind args.length 0 args := by omega
          clear hs hst hvs hf
          repeat' (first | ((with_reducible first | refine wA (by omega) ?_ | refine wB (by omega) ?_ | refine wC (by omega) ?_ | refine wD (by omega) ?_ | refine wE ?_ ?_ | refine wF ?_ ?_ | refine wG ?_ ?_ | refine wH ?_ ?_ | refine wI ?_ ?_ | refine wJ ?_ ?_ | refine wK ?_ ?_ | refine wL ?_ ?_) <;> intro _) | (((with_reducible refine call_id ?_); (first | (refine call_pure (hc2) ?_) | (refine call_pure (hc3) ?_)))) | simp (maxSteps := 1000000) (disch := omega) only [go_sem, seval, Tm.pv, *])
          exact Nx.mk (args.length - (i + 1)) cE1 ⟨i + 1, rfl, cE1, by simp [upd], hs2, hv2⟩
      · obtain rfl : i = args.length := by omega
        have h2 := hs.out
        rw [List.drop_length, formedA] at h2
        rw [h2]
        clear hs h2
        repeat' (first | ((with_reducible first | refine wA (by omega) ?_ | refine wB (by omega) ?_ | refine wC (by omega) ?_ | refine wD (by omega) ?_ | refine wE ?_ ?_ | refine wF ?_ ?_ | refine wG ?_ ?_ | refine wH ?_ ?_ | refine wI ?_ ?_ | refine wJ ?_ ?_ | refine wK ?_ ?_ | refine wL ?_ ?_) <;> intro _) | simp (maxSteps := 1000000) (disch := omega) only [go_sem, seval, Tm.pv, *])
        all_goals (exact fin_tmp (.inr rfl) cE3)
    intro t k hsz h0 h1
    cases t with
    | mk kind n s ls args =>
    simp only [Tm.vis] at hsz h1
    have c1 := has_p kind n s ls args
    have c2 := constant_p kind n s ls args np
    have c3 : ((kind = 4 ∨ kind = 5 ∨ kind = 6) ∧ hasB n s ls args 0 0 2 = true) ∨ (kind = 7 ∧ hasB n s ls args 0 0 3 = true) → PPure Try.prog F.term_parts [.ptr (Tm.mk kind n s ls args).pv, .sc (.int .i64 np), .sc (.int .i64 k)] (.sc (.bool (formedA np k kind args.length 0 args))) := fun h => by
      rw [if_pos h] at hsz h1
      exact hparts kind n s ls args k (by omega) h0 (by omega)
    simp only [Tm.pv] at c1 c2 c3
    clear ih hparts hsz
    refine pure_by is_term_formed (by simp) rfl fun hb nx => ?_
    clear hb
    by_cases k1 : kind = 1
    · subst k1
      clear c3
      repeat' (first | ((with_reducible first | refine wA (by omega) ?_ | refine wB (by omega) ?_ | refine wC (by omega) ?_ | refine wD (by omega) ?_ | refine wE ?_ ?_ | refine wF ?_ ?_ | refine wG ?_ ?_ | refine wH ?_ ?_ | refine wI ?_ ?_ | refine wJ ?_ ?_ | refine wK ?_ ?_ | refine wL ?_ ?_) <;> intro _) | (((with_reducible refine call_id ?_); (first | (refine call_pure (c1 n 0 0) ?_)))) | simp (maxSteps := 1000000) (disch := omega) only [go_sem, seval, mc_term_formed, Tm.pv, *])
      all_goals (refine fin_tmp (.inr rfl) ?_; simp [upd, Tm.formed, headR, *]; try omega)
    by_cases k2 : kind = 2
    · subst k2
      clear c3
      by_cases h2 : hasB n s ls args 0 1 0 = true
      · have hl : ls.length = 1 := by
          simp only [hasB, Bool.and_eq_true, decide_eq_true_eq] at h2
          omega
        match ls, hl with
        | [l], _ =>
          repeat' (first | ((with_reducible first | refine wA (by omega) ?_ | refine wB (by omega) ?_ | refine wC (by omega) ?_ | refine wD (by omega) ?_ | refine wE ?_ ?_ | refine wF ?_ ?_ | refine wG ?_ ?_ | refine wH ?_ ?_ | refine wI ?_ ?_ | refine wJ ?_ ?_ | refine wK ?_ ?_ | refine wL ?_ ?_) <;> intro _) | (((with_reducible refine call_id ?_); (first | (refine call_pure (c1 0 1 0) ?_) | (refine call_pure (Right_p l np) ?_)))) | simp (maxSteps := 1000000) (disch := omega) only [go_sem, seval, mc_term_formed, Tm.pv, *])
          all_goals (refine fin_tmp (.inr rfl) ?_; simp [upd, Tm.formed, headR, *]; try omega)
      · repeat' (first | ((with_reducible first | refine wA (by omega) ?_ | refine wB (by omega) ?_ | refine wC (by omega) ?_ | refine wD (by omega) ?_ | refine wE ?_ ?_ | refine wF ?_ ?_ | refine wG ?_ ?_ | refine wH ?_ ?_ | refine wI ?_ ?_ | refine wJ ?_ ?_ | refine wK ?_ ?_ | refine wL ?_ ?_) <;> intro _) | (((with_reducible refine call_id ?_); (first | (refine call_pure (c1 0 1 0) ?_)))) | simp (maxSteps := 1000000) (disch := omega) only [go_sem, seval, mc_term_formed, Tm.pv, *])
        all_goals (refine fin_tmp (.inr rfl) ?_; simp [upd, Tm.formed, headR, *]; try omega)
    by_cases k3 : kind = 3
    · subst k3
      clear c3
      repeat' (first | ((with_reducible first | refine wA (by omega) ?_ | refine wB (by omega) ?_ | refine wC (by omega) ?_ | refine wD (by omega) ?_ | refine wE ?_ ?_ | refine wF ?_ ?_ | refine wG ?_ ?_ | refine wH ?_ ?_ | refine wI ?_ ?_ | refine wJ ?_ ?_ | refine wK ?_ ?_ | refine wL ?_ ?_) <;> intro _) | (((with_reducible refine call_id ?_); (first | (refine call_pure (c2) ?_)))) | simp (maxSteps := 1000000) (disch := omega) only [go_sem, seval, mc_term_formed, Tm.pv, *])
      all_goals (refine fin_tmp (.inr rfl) ?_; simp [upd, Tm.formed, headR, *]; try omega)
    by_cases k456 : kind = 4 ∨ kind = 5 ∨ kind = 6
    · by_cases h2 : hasB n s ls args 0 0 2 = true
      · have c4 := c3 (.inl ⟨k456, h2⟩)
        have c5 := c1 0 0 2
        rw [h2] at c5
        clear c3 c1 c2
        rcases k456 with rfl | rfl | rfl
        all_goals
          repeat' (first | ((with_reducible first | refine wA (by omega) ?_ | refine wB (by omega) ?_ | refine wC (by omega) ?_ | refine wD (by omega) ?_ | refine wE ?_ ?_ | refine wF ?_ ?_ | refine wG ?_ ?_ | refine wH ?_ ?_ | refine wI ?_ ?_ | refine wJ ?_ ?_ | refine wK ?_ ?_ | refine wL ?_ ?_) <;> intro _) | (((with_reducible refine call_id ?_); (first | (refine call_pure (c5) ?_) | (refine call_pure (c4) ?_)))) | simp (maxSteps := 1000000) (disch := omega) only [go_sem, seval, mc_term_formed, Tm.pv, *])
          all_goals (refine fin_tmp (.inr rfl) ?_; simp [upd, Tm.formed, headR, *]; try omega)
      · have c5 := c1 0 0 2
        rw [Bool.not_eq_true] at h2
        rw [h2] at c5
        clear c3 c1 c2
        rcases k456 with rfl | rfl | rfl
        all_goals
          repeat' (first | ((with_reducible first | refine wA (by omega) ?_ | refine wB (by omega) ?_ | refine wC (by omega) ?_ | refine wD (by omega) ?_ | refine wE ?_ ?_ | refine wF ?_ ?_ | refine wG ?_ ?_ | refine wH ?_ ?_ | refine wI ?_ ?_ | refine wJ ?_ ?_ | refine wK ?_ ?_ | refine wL ?_ ?_) <;> intro _) | (((with_reducible refine call_id ?_); (first | (refine call_pure (c5) ?_)))) | simp (maxSteps := 1000000) (disch := omega) only [go_sem, seval, mc_term_formed, Tm.pv, *])
          all_goals (refine fin_tmp (.inr rfl) ?_; simp [upd, Tm.formed, headR, *]; try omega)
    have k4 : kind ≠ 4 := fun h => k456 (.inl h)
    have k5 : kind ≠ 5 := fun h => k456 (.inr (.inl h))
    have k6 : kind ≠ 6 := fun h => k456 (.inr (.inr h))
    by_cases k7 : kind = 7
    · subst k7
      by_cases h2 : hasB n s ls args 0 0 3 = true
      · have c4 := c3 (.inr ⟨rfl, h2⟩)
        have c5 := c1 0 0 3
        rw [h2] at c5
        clear c3 c1 c2
        repeat' (first | ((with_reducible first | refine wA (by omega) ?_ | refine wB (by omega) ?_ | refine wC (by omega) ?_ | refine wD (by omega) ?_ | refine wE ?_ ?_ | refine wF ?_ ?_ | refine wG ?_ ?_ | refine wH ?_ ?_ | refine wI ?_ ?_ | refine wJ ?_ ?_ | refine wK ?_ ?_ | refine wL ?_ ?_) <;> intro _) | (((with_reducible refine call_id ?_); (first | (refine call_pure (c5) ?_) | (refine call_pure (c4) ?_)))) | simp (maxSteps := 1000000) (disch := omega) only [go_sem, seval, mc_term_formed, Tm.pv, *])
        all_goals (refine fin_tmp (.inr rfl) ?_; simp [upd, Tm.formed, headR, *]; try omega)
      · have c5 := c1 0 0 3
        rw [Bool.not_eq_true] at h2
        rw [h2] at c5
        clear c3 c1 c2
        repeat' (first | ((with_reducible first | refine wA (by omega) ?_ | refine wB (by omega) ?_ | refine wC (by omega) ?_ | refine wD (by omega) ?_ | refine wE ?_ ?_ | refine wF ?_ ?_ | refine wG ?_ ?_ | refine wH ?_ ?_ | refine wI ?_ ?_ | refine wJ ?_ ?_ | refine wK ?_ ?_ | refine wL ?_ ?_) <;> intro _) | (((with_reducible refine call_id ?_); (first | (refine call_pure (c5) ?_)))) | simp (maxSteps := 1000000) (disch := omega) only [go_sem, seval, mc_term_formed, Tm.pv, *])
        all_goals (refine fin_tmp (.inr rfl) ?_; simp [upd, Tm.formed, headR, *]; try omega)
    clear c1 c2 c3
    repeat' (first | ((with_reducible first | refine wA (by omega) ?_ | refine wB (by omega) ?_ | refine wC (by omega) ?_ | refine wD (by omega) ?_ | refine wE ?_ ?_ | refine wF ?_ ?_ | refine wG ?_ ?_ | refine wH ?_ ?_ | refine wI ?_ ?_ | refine wJ ?_ ?_ | refine wK ?_ ?_ | refine wL ?_ ?_) <;> intro _) | simp (maxSteps := 1000000) (disch := omega) only [go_sem, seval, mc_term_formed, Tm.pv, *])
    all_goals (refine fin_tmp (.inr rfl) ?_; simp [upd, Tm.formed, headR, *]; try omega)
end
section
set_option maxRecDepth 20000
attribute [local go_sem] pv_len pv_take tm_len tm_take pv_one tm_one id_ne id_ne' id_ne2
def Tm.nlv : Tm → Nat
  | .mk _ _ _ ls _ => ls.length
theorem nlv_of_pv {a b : Tm} (h : nodePV a = nodePV b) : a.nlv = b.nlv := by
  cases a; cases b
  simp only [nodePV, Tm.pv, PV.ptr.injEq, List.cons.injEq, PV.sl.injEq, true_and, and_true] at h
  simp only [Tm.nlv]
  rw [pvL_inj _ _ h.2.2.2.1]
def HasBad (us : List Tm) : Prop := ∃ p u, p ≤ 2000 ∧ us[p]? = some u ∧ 2 ^ 40 < u.nlv
theorem bad_prefix {us vs : List Tm} (h : us.map nodePV <+: vs.map nodePV) (hb : HasBad us) : HasBad vs := by
  obtain ⟨p, u, hp, hu, hn⟩ := hb
  obtain ⟨z, hz⟩ := h
  have h1 : (vs.map nodePV)[p]? = some (nodePV u) := by
    rw [← hz, List.getElem?_append_left (by rw [List.length_map]; exact (List.getElem?_eq_some_iff.1 hu).1), List.getElem?_map, hu]
    rfl
  rw [List.getElem?_map] at h1
  cases hv : vs[p]? with
  | none => rw [hv] at h1; cases h1
  | some v =>
    rw [hv] at h1
    simp only [Option.map_some, Option.some.injEq] at h1
    exact ⟨p, v, hp, hv, by rw [nlv_of_pv h1]; exact hn⟩
theorem bad_app {us vs : List Tm} (hb : HasBad us) : HasBad (us ++ vs) := by
  obtain ⟨p, u, hp, hu, hn⟩ := hb
  exact ⟨p, u, hp, by rw [List.getElem?_append_left (List.getElem?_eq_some_iff.1 hu).1]; exact hu, hn⟩
theorem bad_last {us : List Tm} {u : Tm} (h : us.length ≤ 2000) (hn : 2 ^ 40 < u.nlv) : HasBad (us ++ [u]) := ⟨us.length, u, h, by simp, hn⟩
theorem len_wts : ∀ us : List Tm, us.length ≤ wts us
  | [] => by simp [wts]
  | .mk k n s ls args :: r => by
    have := len_wts r
    simp only [wts, List.map_cons, List.sum_cons, List.length_cons, Tm.wt] at *
    omega
theorem minsL_len : ∀ ls : List Lv, minsL ls ≤ 2001 * ls.length
  | [] => by simp [minsL]
  | x :: r => by
    have := minsL_len r
    simp only [minsL, List.map_cons, List.sum_cons, List.length_cons] at *
    omega
mutual
theorem bnd_pre : ∀ t : Tm, bndL t.pv → ∀ u ∈ t.pre, u.nlv ≤ 9223372036854775807
  | .mk k n s ls args, h, u, hu => by
    simp only [Tm.pv, bndL, PV.bnd, List.length_map] at h
    simp only [Tm.pre, List.mem_cons] at hu
    rcases hu with rfl | hu
    · exact h.2.2.2.1.1
    · exact bnd_preL args h.2.2.2.2.1.2 u hu
theorem bnd_preL : ∀ ts : List Tm, bndLL (ts.map Tm.pv) → ∀ u ∈ preL ts, u.nlv ≤ 9223372036854775807
  | [], _, u, hu => by cases hu
  | x :: r, h, u, hu => by
    simp only [List.map_cons, bndLL] at h
    simp only [preL, List.mem_append] at hu
    rcases hu with hu | hu
    · exact bnd_pre x h.1 u hu
    · exact bnd_preL r h.2 u hu
end
set_option maxHeartbeats 8000000 in
theorem NodesG_m (t : Tm) (H : Nat → Option PObj) (nx : Nat) : PMut Try.prog F.term_Nodes [.agg t.pv] H nx (fun H' nx' r => ∃ v : Int, r = .sc (.int .i64 v) ∧ (v = (min t.nodes 2001 : Nat) ∨ HasBad t.pre)) := by
  refine mut_byR is_term_Nodes (by simp) fun hb => ?_
  have hbd := bnd_pre t (by simp only [bndL, PV.bnd] at hb; exact hb.1)
  clear hb
  repeat' (first | ((with_reducible first | refine wA (by omega) ?_ | refine wB (by omega) ?_ | refine wC (by omega) ?_ | refine wD (by omega) ?_ | refine wE ?_ ?_ | refine wF ?_ ?_ | refine wG ?_ ?_ | refine wH ?_ ?_ | refine wI ?_ ?_ | refine wJ ?_ ?_ | refine wK ?_ ?_ | refine wL ?_ ?_) <;> intro _) | (((with_reducible refine call_id ?_); (first | (refine call_pure (all_p t) ?_)))) | simp (maxSteps := 1000000) (disch := omega) only [go_sem, seval, mc_term_Nodes, *])
  refine c_rng (all_seq t) (by simp [ev, upd]) (fun pre H' m => ∃ (us : List Tm) (v : Int), pre = us.map nodePV ∧ H' (nx + 1) = some ⟨[.sc (.int .i64 0)], true⟩ ∧ H' (nx + 2) = some ⟨[.sc (.int .i64 v)], true⟩ ∧ ((wts us ≤ 2000 ∧ v = wts us) ∨ HasBad us))
    ⟨[], 0, rfl, noIt_keep (by simp [upd]) rfl, noIt_keep (by simp [upd]) rfl, .inl (by simp [wts])⟩ ?round ?done
  case round =>
    rintro pre x H' m hx hlen ⟨us, v, rfl, h1, h2, hor⟩ hnx
    obtain ⟨u, hu, rfl⟩ := List.mem_map.1 hx
    have hub := hbd u hu
    have hus : (us.map nodePV ++ [nodePV u]) = (us ++ [u]).map nodePV := by simp
    rw [hus]
    have hwu : wts (us ++ [u]) = wts us + u.wt := by simp [wts]
    clear hx hlen hu hus hbd
    by_cases hgood : (wts us ≤ 2000 ∧ v = wts us) ∧ u.nlv ≤ 2 ^ 40
    · obtain ⟨⟨hw, rfl⟩, hl40⟩ := hgood
      clear hor hub
      cases u with
      | mk k n s ls args =>
      simp only [Tm.nlv] at hl40
      have hmn := minsL_len ls
      simp only [Tm.wt] at hwu
      simp only [nodePV]
      repeat' (first | ((with_reducible first | refine wA (by omega) ?_ | refine wB (by omega) ?_ | refine wC (by omega) ?_ | refine wD (by omega) ?_ | refine wE ?_ ?_ | refine wF ?_ ?_ | refine wG ?_ ?_ | refine wH ?_ ?_ | refine wI ?_ ?_ | refine wJ ?_ ?_ | refine wK ?_ ?_ | refine wL ?_ ?_) <;> intro _) | simp (maxSteps := 1000000) (disch := omega) only [go_sem, seval, Tm.pv, h1, h2, *])
      refine c_loopW 268402720 (by kernel_rfl) (fun j f H2 m2 => ∃ i : Nat, j = ls.length - i ∧ i ≤ ls.length ∧ f 15 = .sc (.int .i64 i) ∧ H2 (nx + 1) = some ⟨[.sc (.int .i64 0)], true⟩ ∧ H2 (nx + 2) = some ⟨[.sc (.int .i64 ((wts us : Nat) + 1 + (minsL (ls.take i) : Nat)))], true⟩) _ ⟨0, rfl, cE1, cE1, by simp [upd, h1], by simp [upd, minsL]⟩ ?_
      rintro _ f H2 m2 ⟨i, rfl, hi, e15, g1, g2⟩
      have hmi : minsL (ls.take i) ≤ 2001 * i := Nat.le_trans (minsL_len _) (Nat.mul_le_mul_left _ (by rw [List.length_take]; omega))
      by_cases hlt : i < ls.length
      · have eg : ls[i]? = some ls[i] := List.getElem?_eq_getElem hlt
        have hst := minsL_take ls i hlt
        clear hwu hmn
        repeat' (first | ((with_reducible first | refine wA (by omega) ?_ | refine wB (by omega) ?_ | refine wC (by omega) ?_ | refine wD (by omega) ?_ | refine wE ?_ ?_ | refine wF ?_ ?_ | refine wG ?_ ?_ | refine wH ?_ ?_ | refine wI ?_ ?_ | refine wJ ?_ ?_ | refine wK ?_ ?_ | refine wL ?_ ?_) <;> intro _) | (((with_reducible refine call_id ?_); (first | (refine call_pure (tlNodes_p 2001 ls[i] 2001 (.inr (by omega)) (by omega) (by omega)) ?_)))) | simp (maxSteps := 1000000) (disch := omega) only [go_sem, seval, Tm.pv, *])
        refine Nx.mk (ls.length - (i + 1)) cE1 ⟨i + 1, rfl, cE1, cE1, by simp [upd, g1], ?_⟩
        simp only [upd, if_true, Option.some.injEq, PObj.mk.injEq, and_true, List.cons.injEq, PV.sc.injEq, Value.int.injEq]
        refine ⟨trivial, ?_⟩
        rw [hst]
        omega
      · obtain rfl : i = ls.length := by omega
        rw [List.take_length] at g2 hmi
        clear hlt hi
        by_cases hgt : 2000 < wts us + 1 + minsL ls
        · repeat' (first | ((with_reducible first | refine wA (by omega) ?_ | refine wB (by omega) ?_ | refine wC (by omega) ?_ | refine wD (by omega) ?_ | refine wE ?_ ?_ | refine wF ?_ ?_ | refine wG ?_ ?_ | refine wH ?_ ?_ | refine wI ?_ ?_ | refine wJ ?_ ?_ | refine wK ?_ ?_ | refine wL ?_ ?_) <;> intro _) | simp (maxSteps := 1000000) (disch := omega) only [go_sem, seval, *])
          refine rq_ret fun hp => ?_
          have hle := wts_prefix hp
          have he := wts_le t.pre
          rw [own_pre] at he
          have hmin : min t.nodes 2001 = 2001 := by unfold minsL at hgt; omega
          have hq := noIt_keep (H := upd H2 (nx + 1) (some ⟨[.sc (.int .i64 2001)], true⟩)) (id := nx + 1) (upd_same _ _ _) rfl
          rw [hmin]
          generalize noIt (upd H2 (nx + 1) (some ⟨[.sc (.int .i64 2001)], true⟩)) = H3 at hq ⊢
          clear hwu hmn hgt hp hle he hmin
          simp (maxSteps := 1000000) (disch := omega) only [go_sem, seval, hq]
          exact fin_mut (.sc (.int .i64 2001)) (.inr rfl) (by (simp (disch := omega) only [go_sem, seval, hq]); all_goals rfl) ⟨2001, rfl, .inl rfl⟩
        · repeat' (first | ((with_reducible first | refine wA (by omega) ?_ | refine wB (by omega) ?_ | refine wC (by omega) ?_ | refine wD (by omega) ?_ | refine wE ?_ ?_ | refine wF ?_ ?_ | refine wG ?_ ?_ | refine wH ?_ ?_ | refine wI ?_ ?_ | refine wJ ?_ ?_ | refine wK ?_ ?_ | refine wL ?_ ?_) <;> intro _) | simp (maxSteps := 1000000) (disch := omega) only [go_sem, seval, *])
          refine rq_normal ⟨us ++ [.mk k n s ls args], _, rfl, noIt_keep g1 rfl, noIt_keep g2 rfl, .inl ⟨?_, ?_⟩⟩
          · rw [hwu]
            unfold minsL at hgt
            omega
          · rw [hwu]
            unfold minsL
            omega
    · have hbad : HasBad (us ++ [u]) := by
        rcases hor with h | h
        · exact bad_last (Nat.le_trans (len_wts us) h.1) (Nat.lt_of_not_le fun h2 => hgood ⟨h, h2⟩)
        · exact bad_app h
      clear hor hgood hwu
      cases u with
      | mk k n s ls args =>
      simp only [Tm.nlv] at hub
      simp only [nodePV]
      repeat' (first | ((with_reducible first | refine wA (by omega) ?_ | refine wB (by omega) ?_ | refine wC (by omega) ?_ | refine wD (by omega) ?_ | refine wE ?_ ?_ | refine wF ?_ ?_ | refine wG ?_ ?_ | refine wH ?_ ?_ | refine wI ?_ ?_ | refine wJ ?_ ?_ | refine wK ?_ ?_ | refine wL ?_ ?_) <;> intro _) | simp (maxSteps := 1000000) (disch := omega) only [go_sem, seval, Tm.pv, h1, h2, *])
      refine c_loopW 268402720 (by kernel_rfl) (fun j f H2 m2 => ∃ (i : Nat) (w : Int), j = ls.length - i ∧ i ≤ ls.length ∧ f 15 = .sc (.int .i64 i) ∧ H2 (nx + 1) = some ⟨[.sc (.int .i64 0)], true⟩ ∧ H2 (nx + 2) = some ⟨[.sc (.int .i64 w)], true⟩) _ ⟨0, IntKind.i64.wrap (v + 1), rfl, cE1, cE1, by simp [upd, h1], by simp [upd]⟩ ?_
      rintro _ f H2 m2 ⟨i, w, rfl, hi, e15, g1, g2⟩
      by_cases hlt : i < ls.length
      · have eg : ls[i]? = some ls[i] := List.getElem?_eq_getElem hlt
        repeat' (first | ((with_reducible first | refine wA (by omega) ?_ | refine wB (by omega) ?_ | refine wC (by omega) ?_ | refine wD (by omega) ?_ | refine wE ?_ ?_ | refine wF ?_ ?_ | refine wG ?_ ?_ | refine wH ?_ ?_ | refine wI ?_ ?_ | refine wJ ?_ ?_ | refine wK ?_ ?_ | refine wL ?_ ?_) <;> intro _) | (((with_reducible refine call_id ?_); (first | (refine call_pure (tlNodes_p 2001 ls[i] 2001 (.inr (by omega)) (by omega) (by omega)) ?_)))) | simp (maxSteps := 1000000) (disch := omega) only [go_sem, seval, Tm.pv, *])
        exact Nx.mk (ls.length - (i + 1)) cE1 ⟨i + 1, IntKind.i64.wrap (w + (min ls[i].nodes 2001 : Nat)), rfl, cE1, cE1, by simp [upd, g1], by simp [upd]⟩
      · obtain rfl : i = ls.length := by omega
        clear hlt hi
        by_cases hgt : 2000 < w
        · repeat' (first | ((with_reducible first | refine wA (by omega) ?_ | refine wB (by omega) ?_ | refine wC (by omega) ?_ | refine wD (by omega) ?_ | refine wE ?_ ?_ | refine wF ?_ ?_ | refine wG ?_ ?_ | refine wH ?_ ?_ | refine wI ?_ ?_ | refine wJ ?_ ?_ | refine wK ?_ ?_ | refine wL ?_ ?_) <;> intro _) | simp (maxSteps := 1000000) (disch := omega) only [go_sem, seval, *])
          refine rq_ret fun hp => ?_
          have hbad2 := bad_prefix hp hbad
          have hq := noIt_keep (H := upd H2 (nx + 1) (some ⟨[.sc (.int .i64 2001)], true⟩)) (id := nx + 1) (upd_same _ _ _) rfl
          generalize noIt (upd H2 (nx + 1) (some ⟨[.sc (.int .i64 2001)], true⟩)) = H3 at hq ⊢
          clear hgt hp hbad
          simp (maxSteps := 1000000) (disch := omega) only [go_sem, seval, hq]
          exact fin_mut (.sc (.int .i64 2001)) (.inr rfl) (by (simp (disch := omega) only [go_sem, seval, hq]); all_goals rfl) ⟨2001, rfl, .inr hbad2⟩
        · repeat' (first | ((with_reducible first | refine wA (by omega) ?_ | refine wB (by omega) ?_ | refine wC (by omega) ?_ | refine wD (by omega) ?_ | refine wE ?_ ?_ | refine wF ?_ ?_ | refine wG ?_ ?_ | refine wH ?_ ?_ | refine wI ?_ ?_ | refine wJ ?_ ?_ | refine wK ?_ ?_ | refine wL ?_ ?_) <;> intro _) | simp (maxSteps := 1000000) (disch := omega) only [go_sem, seval, *])
          exact rq_normal ⟨us ++ [.mk k n s ls args], w, rfl, noIt_keep g1 rfl, noIt_keep g2 rfl, .inr hbad⟩
  case done =>
    rintro H' m ⟨us, v, hus, h1, h2, hor⟩ hnx
    have hor2 : v = (min t.nodes 2001 : Nat) ∨ HasBad t.pre := by
      rcases hor with ⟨hw, hv⟩ | hor
      · rw [← wts_of_pv hus] at hw hv
        have he := wts_eq t.pre hw
        rw [own_pre] at he
        exact .inl (by omega)
      · exact .inr (bad_prefix (by rw [hus]; exact ⟨[], by simp⟩) hor)
    clear hor hus hbd
    repeat' (first | ((with_reducible first | refine wA (by omega) ?_ | refine wB (by omega) ?_ | refine wC (by omega) ?_ | refine wD (by omega) ?_ | refine wE ?_ ?_ | refine wF ?_ ?_ | refine wG ?_ ?_ | refine wH ?_ ?_ | refine wI ?_ ?_ | refine wJ ?_ ?_ | refine wK ?_ ?_ | refine wL ?_ ?_) <;> intro _) | simp (maxSteps := 1000000) (disch := omega) only [go_sem, seval, h1, h2, *])
    exact fin_mut (.sc (.int .i64 v)) (.inr rfl) (by (simp (disch := omega) only [go_sem, seval, h1, h2]); all_goals rfl) ⟨v, rfl, hor2⟩
theorem bad_no_formed {np k kind n : Int} {s : ByteArray} {ls : List Lv} {args : List Tm} (h : 4 < ls.length) : (Tm.mk kind n s ls args).formed np k = false ∧ (Tm.mk kind n s ls args).vis np k = 1 := by
  have h0 : ∀ a c, hasB n s ls args a 0 c = false := fun a c => by
    have : ls ≠ [] := fun e => by rw [e] at h; simp at h
    simp [hasB, this]
  have h1 : hasB n s ls args 0 1 0 = false := by
    have : ¬ ((ls.length : Int) = 1) := by omega
    simp [hasB, this]
  have h2 : constB n s ls args np = false := by
    have : ¬ ls.length ≤ 4 := by omega
    simp [constB, this]
  simp [Tm.formed, Tm.vis, h0, h1, h2]
mutual
theorem vis_pre (np : Int) : ∀ (t : Tm) (k : Int), t.vis np k ≤ t.pre.length
  | .mk kind n s ls args, k => by
    have := vis_preA np args k kind args.length 0
    simp only [Tm.vis, Tm.pre, List.length_cons]
    split <;> omega
theorem vis_preA (np : Int) : ∀ (ts : List Tm) (k kind : Int) (len i : Nat), visA np k kind len i ts ≤ (preL ts).length
  | [], _, _, _, _ => by simp [visA]
  | x :: r, k, kind, len, i => by
    have h1 := vis_pre np x (k + deepB kind len i)
    have h2 := vis_preA np r k kind len (i + 1)
    simp only [visA, preL, List.length_append]
    split <;> omega
end
mutual
theorem bad_vis (np : Int) : ∀ (t : Tm) (k : Int) (p : Nat) (u : Tm), t.pre[p]? = some u → 4 < u.nlv → t.formed np k = false ∧ t.vis np k ≤ p + 1
  | .mk kind n s ls args, k, 0, u, h, hb => by
    simp only [Tm.pre, List.getElem?_cons_zero, Option.some.injEq] at h
    subst h
    have := bad_no_formed (np := np) (k := k) (kind := kind) (n := n) (s := s) (args := args) hb
    exact ⟨this.1, by omega⟩
  | .mk kind n s ls args, k, p + 1, u, h, hb => by
    simp only [Tm.pre, List.getElem?_cons_succ] at h
    have h2 := bad_visA np args k kind args.length 0 p u h hb
    have h3 : 0 < args.length := by
      cases args with
      | nil => simp [preL] at h
      | cons => simp
    have h4 : ¬ ((args.length : Int) = 0) := by omega
    have h5 : ¬ (args.length = 0) := by omega
    constructor
    · simp [Tm.formed, hasB, constB, h4, h5, h2.1]
    · simp only [Tm.vis]
      split <;> omega
theorem bad_visA (np : Int) : ∀ (ts : List Tm) (k kind : Int) (len i p : Nat) (u : Tm), (preL ts)[p]? = some u → 4 < u.nlv → formedA np k kind len i ts = false ∧ visA np k kind len i ts ≤ p + 1
  | [], _, _, _, _, p, u, h, _ => by simp [preL] at h
  | x :: r, k, kind, len, i, p, u, h, hb => by
    simp only [preL] at h
    by_cases hp : p < x.pre.length
    · rw [List.getElem?_append_left hp] at h
      have h1 := bad_vis np x (k + deepB kind len i) p u h hb
      simp only [formedA, visA, h1.1, Bool.false_and]
      exact ⟨trivial, by simp only [Bool.false_eq_true, if_false]; omega⟩
    · rw [List.getElem?_append_right (by omega)] at h
      have h1 := bad_visA np r k kind len (i + 1) (p - x.pre.length) u h hb
      have h2 := vis_pre np x (k + deepB kind len i)
      simp only [formedA, visA, h1.1, Bool.and_false]
      refine ⟨trivial, ?_⟩
      split <;> omega
end
mutual
theorem pre_nodes : ∀ t : Tm, t.pre.length ≤ t.nodes
  | .mk k n s ls args => by
    have := pre_nodesA args
    simp only [Tm.pre, List.length_cons, Tm.nodes]
    omega
theorem pre_nodesA : ∀ ts : List Tm, (preL ts).length ≤ nodesT ts
  | [] => by simp [preL, nodesT]
  | x :: r => by
    have := pre_nodes x
    have := pre_nodesA r
    simp only [preL, List.length_append, nodesT]
    omega
end
set_option maxHeartbeats 4000000 in
theorem tRightG_p (t : Tm) (np bound : Int) : PPure Try.prog F.term_Right [.agg t.pv, .sc (.int .i64 np), .sc (.int .i64 bound)] (.sc (.bool (t.right np bound))) := by
  refine PMut.pure (Q := fun _ _ _ r => r = .sc (.bool (t.right np bound))) rfl (fun nx => ?_) fun nx H' nx' r0 h => ?_
  rotate_left
  · rw [h]
    exact ⟨0, .refl _⟩
  refine mut_by is_term_Right (by simp) fun hb => ?_
  clear hb
  by_cases hpre : 0 ≤ np ∧ np ≤ 4 ∧ 0 ≤ bound
  · obtain ⟨p1, p2, p3⟩ := hpre
    repeat' (first | ((with_reducible first | refine wA (by omega) ?_ | refine wB (by omega) ?_ | refine wC (by omega) ?_ | refine wD (by omega) ?_ | refine wE ?_ ?_ | refine wF ?_ ?_ | refine wG ?_ ?_ | refine wH ?_ ?_ | refine wI ?_ ?_ | refine wJ ?_ ?_ | refine wK ?_ ?_ | refine wL ?_ ?_) <;> intro _) | simp (maxSteps := 1000000) (disch := omega) only [go_sem, seval, mc_term_Right, *])
    refine call_mut (NodesG_m t _ _) ?_
    rintro H' nx' r ⟨v, rfl, hv⟩ -
    by_cases hv2 : v ≤ 2000
    · have hk : t.vis np (min bound 1125899906842624) ≤ 2001 ∧ (t.nodes ≤ 2000 ∨ t.formed np (min bound 1125899906842624) = false) := by
        rcases hv with rfl | ⟨p, u, hp, hu, hn⟩
        · have h1 := vis_pre np t (min bound 1125899906842624)
          have h2 := pre_nodes t
          exact ⟨by omega, .inl (by omega)⟩
        · have h1 := bad_vis np t (min bound 1125899906842624) p u hu (by omega)
          exact ⟨by omega, .inr h1.1⟩
      have c2 := formedV_p np 2001 t (min bound 1125899906842624) hk.1 (by omega) (by omega)
      have e : t.right np bound = t.formed np (min bound 1125899906842624) := by
        unfold Tm.right
        rcases hk.2 with h | h
        · simp [h, p1, p2, p3]
        · simp [h]
      rw [e]
      clear hk hv e
      repeat' (first | ((with_reducible first | refine wA (by omega) ?_ | refine wB (by omega) ?_ | refine wC (by omega) ?_ | refine wD (by omega) ?_ | refine wE ?_ ?_ | refine wF ?_ ?_ | refine wG ?_ ?_ | refine wH ?_ ?_ | refine wI ?_ ?_ | refine wJ ?_ ?_ | refine wK ?_ ?_ | refine wL ?_ ?_) <;> intro _) | (((with_reducible refine call_id ?_); (first | (refine call_pure (c2) ?_)))) | simp (maxSteps := 1000000) (disch := omega) only [go_sem, seval, *])
      all_goals exact fin_mut (.sc (.bool (t.formed np (min bound 1125899906842624)))) (.inr rfl) cE2 rfl
    · have e : t.right np bound = false := by
        rcases hv with rfl | ⟨p, u, hp, hu, hn⟩
        · have : ¬ t.nodes ≤ 2000 := by omega
          simp [Tm.right, this]
        · simp [Tm.right, (bad_vis np t (min bound 1125899906842624) p u hu (by omega)).1]
      rw [e]
      clear hv e
      repeat' (first | ((with_reducible first | refine wA (by omega) ?_ | refine wB (by omega) ?_ | refine wC (by omega) ?_ | refine wD (by omega) ?_ | refine wE ?_ ?_ | refine wF ?_ ?_ | refine wG ?_ ?_ | refine wH ?_ ?_ | refine wI ?_ ?_ | refine wJ ?_ ?_ | refine wK ?_ ?_ | refine wL ?_ ?_) <;> intro _) | simp (maxSteps := 1000000) (disch := omega) only [go_sem, seval, *])
      all_goals exact fin_mut (.sc (.bool false)) (.inr rfl) cE2 rfl
  · have e : t.right np bound = false := by
      unfold Tm.right
      by_cases h1 : 0 ≤ np
      · by_cases h2 : np ≤ 4
        · have : ¬ 0 ≤ bound := fun h => hpre ⟨h1, h2, h⟩
          simp [this]
        · simp [h2]
      · simp [h1]
    rw [e]
    clear e
    have h9 : np < 0 ∨ (0 ≤ np ∧ 4 < np) ∨ (0 ≤ np ∧ np ≤ 4 ∧ bound < 0) := by omega
    clear hpre
    rcases h9 with h | ⟨h, h2⟩ | ⟨h, h2, h3⟩
    all_goals
      repeat' (first | ((with_reducible first | refine wA (by omega) ?_ | refine wB (by omega) ?_ | refine wC (by omega) ?_ | refine wD (by omega) ?_ | refine wE ?_ ?_ | refine wF ?_ ?_ | refine wG ?_ ?_ | refine wH ?_ ?_ | refine wI ?_ ?_ | refine wJ ?_ ?_ | refine wK ?_ ?_ | refine wL ?_ ?_) <;> intro _) | simp (maxSteps := 1000000) (disch := omega) only [go_sem, seval, mc_term_Right, *])
      all_goals exact fin_mut (.sc (.bool false)) (.inr rfl) cE2 rfl
end
section
set_option maxRecDepth 20000
attribute [local go_sem] Nat.add_assoc id_ne id_ne' id_ne2 List.append_assoc bC_len bC_one pv_take tm_take pv_len tm_len
mutual
def Tm.nearB : Tm → Bool
  | .mk k n _ _ args => !(decide (k = 1) && decide (1099511627776 ≤ n)) && nearA args
def nearA : List Tm → Bool
  | [] => true
  | x :: r => x.nearB && nearA r
end
theorem nearA_take : ∀ (ls : List Tm) (k : Nat) (h : k < ls.length), nearA (ls.take (k + 1)) = (nearA (ls.take k) && ls[k].nearB)
  | x :: r, 0, h => by simp [nearA]
  | x :: r, k + 1, h => by
    have := nearA_take r k (by simpa using h)
    simp only [List.take_succ_cons, nearA, List.getElem_cons_succ, this, Bool.and_assoc]
theorem nearA_false : ∀ (ls : List Tm) (k : Nat) (h : k < ls.length), ls[k].nearB = false → nearA ls = false
  | x :: r, 0, h, e => by simp only [List.getElem_cons_zero] at e; simp [nearA, e]
  | x :: r, k + 1, h, e => by
    have := nearA_false r k (by simpa using h) (by simpa using e)
    simp [nearA, this]
set_option maxHeartbeats 8000000 in
theorem near_p : ∀ (fuel : Nat) (t : Tm), t.size ≤ fuel → PPure Try.prog F.pack_near [.ptr t.pv] (.sc (.bool t.nearB)) := by
  intro fuel
  induction fuel with
  | zero => intro t h; have := size_pos t; omega
  | succ fuel ih =>
  intro t hn
  cases t with
  | mk k n s ls args =>
  simp only [Tm.size] at hn
  refine pure_by is_pack_near (by simp) rfl fun hb nx => ?_
  have hba : args.length ≤ 9223372036854775807 := by simp [Tm.pv, bndL, PV.bnd] at hb; omega
  clear hb
  by_cases h1 : k = 1 ∧ 1099511627776 ≤ n
  · obtain ⟨h1, h2⟩ := h1
    repeat' (first | ((with_reducible first | refine wA (by omega) ?_ | refine wB (by omega) ?_ | refine wC (by omega) ?_ | refine wD (by omega) ?_ | refine wE ?_ ?_ | refine wF ?_ ?_ | refine wG ?_ ?_ | refine wH ?_ ?_ | refine wI ?_ ?_ | refine wJ ?_ ?_ | refine wK ?_ ?_ | refine wL ?_ ?_) <;> intro _) | simp (maxSteps := 1000000) (disch := omega) only [go_sem, seval, mc_pack_near, Tm.pv, *])
    refine fin_tmp (.inr rfl) ?_
    simp [upd, Tm.nearB, h1, h2]
  · have hnb : (Tm.mk k n s ls args).nearB = nearA args := by
      have : (decide (k = 1) && decide (1099511627776 ≤ n)) = false := by
        rw [Bool.eq_false_iff]; intro e; simp only [Bool.and_eq_true, decide_eq_true_eq] at e; exact h1 e
      simp [Tm.nearB, this]
    rw [hnb]
    clear hnb
    obtain h1 | ⟨h1, h2⟩ : k ≠ 1 ∨ (k = 1 ∧ ¬ 1099511627776 ≤ n) := by omega
    · repeat' (first | ((with_reducible first | refine wA (by omega) ?_ | refine wB (by omega) ?_ | refine wC (by omega) ?_ | refine wD (by omega) ?_ | refine wE ?_ ?_ | refine wF ?_ ?_ | refine wG ?_ ?_ | refine wH ?_ ?_ | refine wI ?_ ?_ | refine wJ ?_ ?_ | refine wK ?_ ?_ | refine wL ?_ ?_) <;> intro _) | simp (maxSteps := 1000000) (disch := omega) only [go_sem, seval, mc_pack_near, Tm.pv, *])
      refine c_loopW 8587837452 (by kernel_rfl) (fun j f H m => ∃ i : Nat, j = args.length - i ∧ i ≤ args.length ∧ f 21 = .sc (.int .i64 i) ∧ Kept (nearA (args.take i) = true)) _ ⟨0, rfl, Nat.zero_le _, cE1, Kept.mk rfl⟩ ?_
      rintro _ f H m ⟨i, rfl, hi, e21, hs⟩
      by_cases hlt : i < args.length
      · have eg : args[i]? = some args[i] := List.getElem?_eq_getElem hlt
        have hz := sizeL_mem args i hlt
        have c1 := ih args[i] (by omega)
        have ht := nearA_take args i hlt
        cases hc : args[i].nearB with
        | false =>
          have e := nearA_false args i hlt hc
          rw [hc] at c1
          rw [e]
          clear ht hs e hc
          repeat' (first | ((with_reducible first | refine wA (by omega) ?_ | refine wB (by omega) ?_ | refine wC (by omega) ?_ | refine wD (by omega) ?_ | refine wE ?_ ?_ | refine wF ?_ ?_ | refine wG ?_ ?_ | refine wH ?_ ?_ | refine wI ?_ ?_ | refine wJ ?_ ?_ | refine wK ?_ ?_ | refine wL ?_ ?_) <;> intro _) | (((with_reducible refine call_id ?_); (first | (refine call_pure (c1) ?_)))) | simp (maxSteps := 1000000) (disch := omega) only [go_sem, seval, *])
          all_goals (exact fin_tmp (.inr rfl) cE3)
        | true =>
          have hs2 : Kept (nearA (args.take (i + 1)) = true) := Kept.mk (by rw [ht, hc, show nearA (args.take i) = true from hs]; rfl)
          rw [hc] at c1
          clear ht hs hc
          repeat' (first | ((with_reducible first | refine wA (by omega) ?_ | refine wB (by omega) ?_ | refine wC (by omega) ?_ | refine wD (by omega) ?_ | refine wE ?_ ?_ | refine wF ?_ ?_ | refine wG ?_ ?_ | refine wH ?_ ?_ | refine wI ?_ ?_ | refine wJ ?_ ?_ | refine wK ?_ ?_ | refine wL ?_ ?_) <;> intro _) | (((with_reducible refine call_id ?_); (first | (refine call_pure (c1) ?_)))) | simp (maxSteps := 1000000) (disch := omega) only [go_sem, seval, *])
          exact Nx.mk (args.length - (i + 1)) (by omega) ⟨i + 1, rfl, cE1, cE1, hs2⟩
      · obtain rfl : i = args.length := by omega
        rw [List.take_length] at hs
        rw [show nearA args = true from hs]
        repeat' (first | ((with_reducible first | refine wA (by omega) ?_ | refine wB (by omega) ?_ | refine wC (by omega) ?_ | refine wD (by omega) ?_ | refine wE ?_ ?_ | refine wF ?_ ?_ | refine wG ?_ ?_ | refine wH ?_ ?_ | refine wI ?_ ?_ | refine wJ ?_ ?_ | refine wK ?_ ?_ | refine wL ?_ ?_) <;> intro _) | simp (maxSteps := 1000000) (disch := omega) only [go_sem, seval, *])
        all_goals (exact fin_tmp (.inr rfl) cE3)
    · repeat' (first | ((with_reducible first | refine wA (by omega) ?_ | refine wB (by omega) ?_ | refine wC (by omega) ?_ | refine wD (by omega) ?_ | refine wE ?_ ?_ | refine wF ?_ ?_ | refine wG ?_ ?_ | refine wH ?_ ?_ | refine wI ?_ ?_ | refine wJ ?_ ?_ | refine wK ?_ ?_ | refine wL ?_ ?_) <;> intro _) | simp (maxSteps := 1000000) (disch := omega) only [go_sem, seval, mc_pack_near, Tm.pv, *])
      refine c_loopW 8587837452 (by kernel_rfl) (fun j f H m => ∃ i : Nat, j = args.length - i ∧ i ≤ args.length ∧ f 21 = .sc (.int .i64 i) ∧ Kept (nearA (args.take i) = true)) _ ⟨0, rfl, Nat.zero_le _, cE1, Kept.mk rfl⟩ ?_
      rintro _ f H m ⟨i, rfl, hi, e21, hs⟩
      by_cases hlt : i < args.length
      · have eg : args[i]? = some args[i] := List.getElem?_eq_getElem hlt
        have hz := sizeL_mem args i hlt
        have c1 := ih args[i] (by omega)
        have ht := nearA_take args i hlt
        cases hc : args[i].nearB with
        | false =>
          have e := nearA_false args i hlt hc
          rw [hc] at c1
          rw [e]
          clear ht hs e hc
          repeat' (first | ((with_reducible first | refine wA (by omega) ?_ | refine wB (by omega) ?_ | refine wC (by omega) ?_ | refine wD (by omega) ?_ | refine wE ?_ ?_ | refine wF ?_ ?_ | refine wG ?_ ?_ | refine wH ?_ ?_ | refine wI ?_ ?_ | refine wJ ?_ ?_ | refine wK ?_ ?_ | refine wL ?_ ?_) <;> intro _) | (((with_reducible refine call_id ?_); (first | (refine call_pure (c1) ?_)))) | simp (maxSteps := 1000000) (disch := omega) only [go_sem, seval, *])
          all_goals (exact fin_tmp (.inr rfl) cE3)
        | true =>
          have hs2 : Kept (nearA (args.take (i + 1)) = true) := Kept.mk (by rw [ht, hc, show nearA (args.take i) = true from hs]; rfl)
          rw [hc] at c1
          clear ht hs hc
          repeat' (first | ((with_reducible first | refine wA (by omega) ?_ | refine wB (by omega) ?_ | refine wC (by omega) ?_ | refine wD (by omega) ?_ | refine wE ?_ ?_ | refine wF ?_ ?_ | refine wG ?_ ?_ | refine wH ?_ ?_ | refine wI ?_ ?_ | refine wJ ?_ ?_ | refine wK ?_ ?_ | refine wL ?_ ?_) <;> intro _) | (((with_reducible refine call_id ?_); (first | (refine call_pure (c1) ?_)))) | simp (maxSteps := 1000000) (disch := omega) only [go_sem, seval, *])
          exact Nx.mk (args.length - (i + 1)) (by omega) ⟨i + 1, rfl, cE1, cE1, hs2⟩
      · obtain rfl : i = args.length := by omega
        rw [List.take_length] at hs
        rw [show nearA args = true from hs]
        repeat' (first | ((with_reducible first | refine wA (by omega) ?_ | refine wB (by omega) ?_ | refine wC (by omega) ?_ | refine wD (by omega) ?_ | refine wE ?_ ?_ | refine wF ?_ ?_ | refine wG ?_ ?_ | refine wH ?_ ?_ | refine wI ?_ ?_ | refine wJ ?_ ?_ | refine wK ?_ ?_ | refine wL ?_ ?_) <;> intro _) | simp (maxSteps := 1000000) (disch := omega) only [go_sem, seval, *])
        all_goals (exact fin_tmp (.inr rfl) cE3)
theorem putTerm_m0 {np : Int} (hnp : np ≤ 4) (t : Tm) (h1 : t.packP np) (b : List UInt8) (hb : b.length + 64 * t.nodes ≤ 2 ^ 40) (a : PV) (lo : Nat) (H : Nat → Option PObj) (nx : Nat) (ha : BRow H lo nx a b) :
    PMut Try.prog F.pack_putTerm [a, .ptr t.pv] H nx (fun H' nx' r => nx ≤ nx' ∧ BRow H' nx nx' r (b ++ t.enc) ∧ ∀ j, j < nx → ¬ leadB a j → H' j = H j) := by
  have h := putTerm_m hnp _ t (Nat.le_refl _) h1 b hb a lo H nx ha []
  rwa [List.append_nil] at h
def Tm.packB (t : Tm) : Bool := t.right 4 1125899906842624 && t.nearB
theorem packs_p (t : Tm) : PPure Try.prog F.pack_packs [.ptr t.pv] (.sc (.bool t.packB)) := by
  refine pure_by is_pack_packs (by simp) rfl fun hb nx => ?_
  clear hb
  have c1 := tRightG_p t 4 1125899906842624
  have c2 := near_p _ t (Nat.le_refl _)
  unfold Tm.packB
  cases hr : t.right 4 1125899906842624 with
  | false =>
    rw [hr] at c1
    clear hr
    repeat' (first | ((with_reducible first | refine wA (by omega) ?_ | refine wB (by omega) ?_ | refine wC (by omega) ?_ | refine wD (by omega) ?_ | refine wE ?_ ?_ | refine wF ?_ ?_ | refine wG ?_ ?_ | refine wH ?_ ?_ | refine wI ?_ ?_ | refine wJ ?_ ?_ | refine wK ?_ ?_ | refine wL ?_ ?_) <;> intro _) | (((with_reducible refine call_id ?_); (first | (refine call_pure (c1) ?_) | (refine call_pure (c2) ?_)))) | simp (maxSteps := 1000000) (disch := omega) only [go_sem, seval, mc_pack_packs, *])
    all_goals (exact fin_tmp (.inr rfl) cE3)
  | true =>
    rw [hr] at c1
    clear hr
    repeat' (first | ((with_reducible first | refine wA (by omega) ?_ | refine wB (by omega) ?_ | refine wC (by omega) ?_ | refine wD (by omega) ?_ | refine wE ?_ ?_ | refine wF ?_ ?_ | refine wG ?_ ?_ | refine wH ?_ ?_ | refine wI ?_ ?_ | refine wJ ?_ ?_ | refine wK ?_ ?_ | refine wL ?_ ?_) <;> intro _) | (((with_reducible refine call_id ?_); (first | (refine call_pure (c1) ?_) | (refine call_pure (c2) ?_)))) | simp (maxSteps := 1000000) (disch := omega) only [go_sem, seval, mc_pack_packs, *])
    all_goals (exact fin_tmp (.inr rfl) cE3)
def rowN (b : Bool) (l : List UInt8) : PV := .tup [if b = true then rowB l else .sc (.slice none 0 0), .sc (.bool b)]
theorem rowN_imm (b : Bool) (l : List UInt8) : (rowN b l).imm = true := by
  show immL [_, _] = true
  cases b <;> simp [immL, rowB_imm, PV.imm]
theorem BRow.osl {H : Nat → Option PObj} {lo m : Nat} {a : PV} {l : List UInt8} (h : BRow H lo m a l) (h0 : 0 < l.length) : ∃ id w, lo ≤ id ∧ id < m ∧ a = .osl id 0 l.length 1 ∧ H id = some ⟨bC l, w⟩ := by
  obtain ⟨rfl, _⟩ | h := h
  · simp at h0
  · exact h
theorem Lv.enc_pos (l : Lv) : 0 < l.enc.length := by
  cases l with
  | mk k n args => simp only [Lv.enc, List.length_append]; have := Plain.enc_length_pos k.toNat; omega
theorem Tm.enc_pos (t : Tm) : 0 < t.enc.length := by
  cases t with
  | mk k n s ls args => simp only [Tm.enc, List.length_append]; have := Plain.enc_length_pos k.toNat; omega
set_option maxHeartbeats 4000000 in
theorem Level_p (l : Lv) : PPure Try.prog F.pack_Level [.agg l.pv] (rowN (l.right 4) l.enc) := by
  refine pure_by is_pack_Level (by simp) (rowN_imm _ _) fun hb nx => ?_
  clear hb
  have c1 := Right_p l 4
  cases hr : l.right 4 with
  | false =>
    rw [hr] at c1
    clear hr
    repeat' (first | ((with_reducible first | refine wA (by omega) ?_ | refine wB (by omega) ?_ | refine wC (by omega) ?_ | refine wD (by omega) ?_ | refine wE ?_ ?_ | refine wF ?_ ?_ | refine wG ?_ ?_ | refine wH ?_ ?_ | refine wI ?_ ?_ | refine wJ ?_ ?_ | refine wK ?_ ?_ | refine wL ?_ ?_) <;> intro _) | (((with_reducible refine call_id ?_); (first | (refine call_pure (c1) ?_)))) | simp (maxSteps := 1000000) (disch := omega) only [go_sem, seval, mc_pack_Level, *])
    refine fin_ret (r0 := .tup [.sc (.slice none 0 0), .sc (.bool false)]) 0 cE2 ?_
    exact .of_eq rfl
  | true =>
    rw [hr] at c1
    simp only [Lv.right, Bool.and_eq_true, decide_eq_true_eq] at hr
    obtain ⟨_, _, h3, h4⟩ := hr
    have hpos := l.enc_pos
    repeat' (first | ((with_reducible first | refine wA (by omega) ?_ | refine wB (by omega) ?_ | refine wC (by omega) ?_ | refine wD (by omega) ?_ | refine wE ?_ ?_ | refine wF ?_ ?_ | refine wG ?_ ?_ | refine wH ?_ ?_ | refine wI ?_ ?_ | refine wJ ?_ ?_ | refine wK ?_ ?_ | refine wL ?_ ?_) <;> intro _) | (((with_reducible refine call_id ?_); (first | (refine call_pure (c1) ?_)))) | simp (maxSteps := 1000000) (disch := omega) only [go_sem, seval, mc_pack_Level, *])
    refine call_mut (putLevel_m (by decide) _ l (Nat.le_refl _) h4 [] (by simp; omega) _ 0 _ _ (.inl ⟨rfl, rfl⟩)) ?_
    rintro H1 m1 r1 ⟨-, hr0, -⟩ -
    rw [List.nil_append] at hr0
    obtain ⟨id, w, g1, g2, rfl, g3⟩ := BRow.osl hr0 hpos
    clear g1 hr0
    repeat' (first | ((with_reducible first | refine wA (by omega) ?_ | refine wB (by omega) ?_ | refine wC (by omega) ?_ | refine wD (by omega) ?_ | refine wE ?_ ?_ | refine wF ?_ ?_ | refine wG ?_ ?_ | refine wH ?_ ?_ | refine wI ?_ ?_ | refine wJ ?_ ?_ | refine wK ?_ ?_ | refine wL ?_ ?_) <;> intro _) | (((with_reducible refine call_id ?_); (first | (refine call_pure (c1) ?_)))) | simp (maxSteps := 1000000) (disch := omega) only [go_sem, seval, *])
    refine fin_ret (r0 := .tup [.osl id 0 l.enc.length 1, .sc (.bool true)]) 2 cE2 ?_
    rw [frz_tup1]
    simp only [List.map_cons, List.map_nil]
    exact Weak.tup ⟨.of_eq (pk_frz g3), .of_eq frz_sc1, trivial⟩
theorem formedL_right {np : Int} : ∀ ls : List Lv, ls.all (Lv.right np) = true → formedL np ls = true
  | [], _ => rfl
  | x :: r, h => by
    simp only [List.all_cons, Bool.and_eq_true] at h
    have h1 := h.1
    simp only [Lv.right, Bool.and_eq_true] at h1
    simp only [formedL, Bool.and_eq_true]
    exact ⟨h1.2.2.2, formedL_right r h.2⟩
mutual
theorem Tm.packP_of {np : Int} : ∀ (t : Tm) (k : Int), t.formed np k = true → t.nearB = true → t.packP np
  | .mk kind n s ls args, k, h, hn => by
    simp only [Tm.nearB, Bool.and_eq_true] at hn
    obtain ⟨hn1, hn2⟩ := hn
    unfold Tm.formed at h
    split at h
    · rename_i hk
      simp only [hasB, Bool.and_eq_true, decide_eq_true_eq] at h
      obtain ⟨h1, h2, _, _, h3, h4⟩ := h
      obtain rfl := List.eq_nil_of_length_eq_zero (by omega : ls.length = 0)
      obtain rfl := List.eq_nil_of_length_eq_zero (by omega : args.length = 0)
      have : ¬ 1099511627776 ≤ n := fun e => by simp [hk, e] at hn1
      exact ⟨by omega, fun _ => by omega, fun _ => by omega, rfl, trivial⟩
    · split at h
      · simp only [hasB, Bool.and_eq_true, decide_eq_true_eq] at h
        obtain ⟨⟨_, _, h3, h4⟩, h5⟩ := h
        obtain rfl := List.eq_nil_of_length_eq_zero (by omega : args.length = 0)
        match ls, h3, h5 with
        | [l], _, h5 =>
          refine ⟨by omega, fun _ => by omega, fun _ => by omega, formedL_right [l] ?_, trivial⟩
          simpa [headR] using h5
      · split at h
        · simp only [constB, nameB, Bool.and_eq_true, decide_eq_true_eq] at h
          obtain ⟨_, h4, h5, ⟨h6, _⟩, h7⟩ := h
          obtain rfl := List.eq_nil_of_length_eq_zero h4
          exact ⟨by omega, fun _ => by omega, fun _ => ⟨h6, h5⟩, formedL_right ls h7, trivial⟩
        · split at h
          · simp only [hasB, Bool.and_eq_true, decide_eq_true_eq] at h
            obtain ⟨⟨_, _, h3, h4⟩, h5⟩ := h
            obtain rfl := List.eq_nil_of_length_eq_zero (by omega : ls.length = 0)
            exact ⟨by omega, fun _ => by omega, fun _ => by omega, rfl, packPs_of args k kind args.length 0 h5 hn2⟩
          · split at h
            · simp only [hasB, Bool.and_eq_true, decide_eq_true_eq] at h
              obtain ⟨⟨_, _, h3, h4⟩, h5⟩ := h
              obtain rfl := List.eq_nil_of_length_eq_zero (by omega : ls.length = 0)
              exact ⟨by omega, fun _ => by omega, fun _ => by omega, rfl, packPs_of args k kind args.length 0 h5 hn2⟩
            · cases h
theorem packPs_of {np : Int} : ∀ (ts : List Tm) (k kind : Int) (len i : Nat), formedA np k kind len i ts = true → nearA ts = true → packPs np ts
  | [], _, _, _, _, _, _ => trivial
  | x :: r, k, kind, len, i, h, hn => by
    simp only [formedA, nearA, Bool.and_eq_true] at h hn
    exact ⟨Tm.packP_of x _ h.1 hn.1, packPs_of r k kind len (i + 1) h.2 hn.2⟩
end
theorem Tm.packB_P (t : Tm) (h : t.packB = true) : t.packP 4 ∧ t.nodes ≤ 2000 := by
  simp only [Tm.packB, Tm.right, Bool.and_eq_true, decide_eq_true_eq] at h
  exact ⟨Tm.packP_of t _ h.1.2.2.2.2 h.2, h.1.2.2.2.1⟩
set_option maxHeartbeats 4000000 in
theorem Term_p (t : Tm) : PPure Try.prog F.pack_Term [.agg t.pv] (rowN t.packB t.enc) := by
  refine pure_by is_pack_Term (by simp) (rowN_imm _ _) fun hb nx => ?_
  clear hb
  have c1 := packs_p t
  cases hr : t.packB with
  | false =>
    rw [hr] at c1
    clear hr
    repeat' (first | ((with_reducible first | refine wA (by omega) ?_ | refine wB (by omega) ?_ | refine wC (by omega) ?_ | refine wD (by omega) ?_ | refine wE ?_ ?_ | refine wF ?_ ?_ | refine wG ?_ ?_ | refine wH ?_ ?_ | refine wI ?_ ?_ | refine wJ ?_ ?_ | refine wK ?_ ?_ | refine wL ?_ ?_) <;> intro _) | (((with_reducible refine call_id ?_); (first | (refine call_pure (c1) ?_)))) | simp (maxSteps := 1000000) (disch := omega) only [go_sem, seval, mc_pack_Term, *])
    refine fin_ret (r0 := .tup [.sc (.slice none 0 0), .sc (.bool false)]) 0 cE2 ?_
    exact .of_eq rfl
  | true =>
    rw [hr] at c1
    obtain ⟨h1, h2⟩ := t.packB_P hr
    clear hr
    have hpos := t.enc_pos
    repeat' (first | ((with_reducible first | refine wA (by omega) ?_ | refine wB (by omega) ?_ | refine wC (by omega) ?_ | refine wD (by omega) ?_ | refine wE ?_ ?_ | refine wF ?_ ?_ | refine wG ?_ ?_ | refine wH ?_ ?_ | refine wI ?_ ?_ | refine wJ ?_ ?_ | refine wK ?_ ?_ | refine wL ?_ ?_) <;> intro _) | (((with_reducible refine call_id ?_); (first | (refine call_pure (c1) ?_)))) | simp (maxSteps := 1000000) (disch := omega) only [go_sem, seval, mc_pack_Term, *])
    refine call_mut (putTerm_m0 (by decide) t h1 [] (by simp; omega) _ 0 _ _ (.inl ⟨rfl, rfl⟩)) ?_
    rintro H1 m1 r1 ⟨-, hr0, -⟩ -
    rw [List.nil_append] at hr0
    obtain ⟨id, w, g1, g2, rfl, g3⟩ := BRow.osl hr0 hpos
    clear g1 hr0
    repeat' (first | ((with_reducible first | refine wA (by omega) ?_ | refine wB (by omega) ?_ | refine wC (by omega) ?_ | refine wD (by omega) ?_ | refine wE ?_ ?_ | refine wF ?_ ?_ | refine wG ?_ ?_ | refine wH ?_ ?_ | refine wI ?_ ?_ | refine wJ ?_ ?_ | refine wK ?_ ?_ | refine wL ?_ ?_) <;> intro _) | (((with_reducible refine call_id ?_); (first | (refine call_pure (c1) ?_)))) | simp (maxSteps := 1000000) (disch := omega) only [go_sem, seval, *])
    refine fin_ret (r0 := .tup [.osl id 0 t.enc.length 1, .sc (.bool true)]) 2 cE2 ?_
    rw [frz_tup1]
    simp only [List.map_cons, List.map_nil]
    exact Weak.tup ⟨.of_eq (pk_frz g3), .of_eq frz_sc1, trivial⟩
end
section
set_option maxRecDepth 20000
attribute [local go_sem] Nat.add_assoc id_ne id_ne' id_ne2 List.append_assoc bC_len bC_one pv_take tm_take pv_len tm_len
set_option maxHeartbeats 8000000 in
theorem rOne_m (n : Nat) (hn : n ≤ 2 ^ 40) (H : Nat → Option PObj) (nx : Nat) :
    PMut Try.prog F.ref02_One [.sc (.int .i64 n)] H nx (fun H' nx' r => nx ≤ nx' ∧ BRow H' nx nx' r (Plain.enc n) ∧ ∀ j, j < nx → H' j = H j) := by
  refine mut_by is_ref02_One (by simp) fun hb => ?_
  clear hb
  have hen := enc_len6 n hn
  repeat' (first | ((with_reducible first | refine wA (by omega) ?_ | refine wB (by omega) ?_ | refine wC (by omega) ?_ | refine wD (by omega) ?_ | refine wE ?_ ?_ | refine wF ?_ ?_ | refine wG ?_ ?_ | refine wH ?_ ?_ | refine wI ?_ ?_ | refine wJ ?_ ?_ | refine wK ?_ ?_ | refine wL ?_ ?_) <;> intro _) | simp (maxSteps := 1000000) (disch := omega) only [go_sem, Nat.reduceAdd, Nat.reduceMul, Nat.reduceSub, Nat.reduceLeDiff, Nat.reduceEqDiff, Nat.reduceBEq, ↓reduceIte, reduceCtorEq, Int.reduceEq, Int.reduceLE, Int.reduceLT, Int.reduceAdd, Int.reduceSub, Int.reduceNeg, Int.reduceToNat, Int.reduceNe, Nat.reducePow, Nat.reduceShiftRight, Nat.reduceMod, mc_ref02_One, *])
  refine c_loopW 65513 (by kernel_rfl) (fun j f H2 m => ∃ (k : Nat) (l2 : List UInt8), j = k ∧ k ≤ n ∧ f 0 = .sc (.int .i64 k) ∧ nx ≤ m ∧ (∃ id w, nx ≤ id ∧ id < m ∧ f 3 = .osl id 0 l2.length 1 ∧ H2 id = some ⟨bC l2, w⟩) ∧ Kept (l2 ++ Plain.enc k = Plain.enc n) ∧ Kept (∀ j, j < nx → H2 j = H j)) _ ⟨n, [], rfl, Nat.le_refl _, cE1, Nat.le_add_right _ _, ⟨nx + 1, true, Nat.le_add_right _ _, ?ml, cE1, ?rr⟩, Kept.mk rfl, ?hh⟩ ?_
  case rr => simp [upd, bC]
  case ml => exact Nat.add_lt_add_left (by decide) _
  case hh =>
    refine Kept.mk ?_
    intro j g1
    simp only [updL]
    rw [upd_ne _ _ (show j ≠ nx + 1 by omega)]
  rintro _ f H2 m ⟨k, l2, rfl, hk, e0, hm, ⟨id, w, g1, g2, e3, g3⟩, he, hH⟩
  rename_i k
  have hlen : l2.length + (Plain.enc k).length = (Plain.enc n).length := by
    have := congrArg List.length (show l2 ++ Plain.enc k = Plain.enc n from he)
    simpa using this
  have b1 : l2.length + 1 ≤ 140737488355328 := by omega
  have b2 : l2.length + 1 ≤ 4611686018427387904 := by omega
  by_cases hb : 128 ≤ k
  · have h1 : (k : Int).tmod 128 = ((k % 128 : Nat) : Int) := by rw [Int.tmod_eq_emod_of_nonneg (by omega)]; omega
    have h3 : IntKind.u8.wrap (((k % 128 : Nat) : Int) + 128) = ((UInt8.ofNat (k % 128 + 128)).toNat : Int) := by rw [IntKind.wrap_u8, UInt8.toNat_ofNat']; omega
    have h4 : IntKind.i64.wrap ((k : Int).tdiv 128) = ((k / 128 : Nat) : Int) := by rw [Int.tdiv_eq_ediv_of_nonneg (by omega)]; rw [wrap64 ⟨by omega, by omega⟩]; omega
    clear hlen
    repeat' (first | ((with_reducible first | refine wA (by omega) ?_ | refine wB (by omega) ?_ | refine wC (by omega) ?_ | refine wD (by omega) ?_ | refine wE ?_ ?_ | refine wF ?_ ?_ | refine wG ?_ ?_ | refine wH ?_ ?_ | refine wI ?_ ?_ | refine wJ ?_ ?_ | refine wK ?_ ?_ | refine wL ?_ ?_) <;> intro _) | simp (maxSteps := 1000000) (disch := omega) only [go_sem, Nat.reduceAdd, Nat.reduceMul, Nat.reduceSub, Nat.reduceLeDiff, Nat.reduceEqDiff, Nat.reduceBEq, ↓reduceIte, reduceCtorEq, Int.reduceEq, Int.reduceLE, Int.reduceLT, Int.reduceAdd, Int.reduceSub, Int.reduceNeg, Int.reduceToNat, Int.reduceNe, Nat.reducePow, Nat.reduceShiftRight, Nat.reduceMod, *])
    refine Nx.mk (k / 128) (by omega) ⟨k / 128, l2 ++ [UInt8.ofNat (k % 128 + 128)], rfl, by omega, cE1, by omega, ⟨m + 8, false, by omega, by omega, cE1, ?rr⟩, ?he, ?hh⟩
    case rr => simp [upd, bC]
    case he =>
      refine Kept.mk ?_
      rw [← show l2 ++ Plain.enc k = Plain.enc n from he, Plain.enc_big hb]; simp
    case hh =>
      refine Kept.mk ?_
      intro j hj
      rw [upd_ne _ _ (show j ≠ m + 8 by omega), upd_ne _ _ (show j ≠ id by omega)]; exact hH j hj
  · have ek : Plain.enc k = [UInt8.ofNat k] := Plain.enc_small (by omega)
    have h3 : IntKind.u8.wrap (k : Int) = ((UInt8.ofNat k).toNat : Int) := by rw [IntKind.wrap_u8, UInt8.toNat_ofNat']; omega
    rw [← show l2 ++ Plain.enc k = Plain.enc n from he, ek]
    clear hlen
    repeat' (first | ((with_reducible first | refine wA (by omega) ?_ | refine wB (by omega) ?_ | refine wC (by omega) ?_ | refine wD (by omega) ?_ | refine wE ?_ ?_ | refine wF ?_ ?_ | refine wG ?_ ?_ | refine wH ?_ ?_ | refine wI ?_ ?_ | refine wJ ?_ ?_ | refine wK ?_ ?_ | refine wL ?_ ?_) <;> intro _) | simp (maxSteps := 1000000) (disch := omega) only [go_sem, Nat.reduceAdd, Nat.reduceMul, Nat.reduceSub, Nat.reduceLeDiff, Nat.reduceEqDiff, Nat.reduceBEq, ↓reduceIte, reduceCtorEq, Int.reduceEq, Int.reduceLE, Int.reduceLT, Int.reduceAdd, Int.reduceSub, Int.reduceNeg, Int.reduceToNat, Int.reduceNe, Nat.reducePow, Nat.reduceShiftRight, Nat.reduceMod, *])
    refine fin_mut (.osl (m + 6) 0 (l2.length + 1) 1) (.inr rfl) rfl (show _ ≤ m + 8 ∧ BRow (upd _ _ _) _ (m + 8) _ _ ∧ ∀ j, _ → upd _ _ _ j = _ from ?_)
    refine ⟨by omega, .inr ⟨m + 6, false, by omega, by omega, by simp, by simp [upd, bC]⟩, fun j hj => ?_⟩
    rw [upd_ne _ _ (show j ≠ m + 6 by omega), upd_ne _ _ (show j ≠ id by omega)]; exact hH j hj
end
section
set_option maxRecDepth 20000
attribute [local go_sem] Nat.add_assoc id_ne id_ne' id_ne2 List.append_assoc bC_len bC_one pv_take tm_take pv_len tm_len strC strC_len
theorem take_bC (l : List UInt8) : (bC l).take l.length = bC l := List.take_of_length_le (by rw [bC_len]; exact Nat.le_refl _)
attribute [local go_sem] take_bC
set_option maxHeartbeats 8000000 in
theorem rTexts_m (ss : List ByteArray) (hl3 : ss.length ≤ 2 ^ 30) (hl : (encT ss).length ≤ 2 ^ 40) (H : Nat → Option PObj) (nx : Nat) :
    PMut Try.prog F.ref02_Texts [textsPV ss] H nx (fun H' nx' r => nx ≤ nx' ∧ (∃ id w, nx ≤ id ∧ id < nx' ∧ r = .osl id 0 (encT ss).length 1 ∧ H' id = some ⟨bC (encT ss), w⟩) ∧ ∀ j, j < nx → H' j = H j) := by
  refine mut_by is_ref02_Texts (by simp) fun hb => ?_
  clear hb
  repeat' (first | ((with_reducible first | refine wA (by omega) ?_ | refine wB (by omega) ?_ | refine wC (by omega) ?_ | refine wD (by omega) ?_ | refine wE ?_ ?_ | refine wF ?_ ?_ | refine wG ?_ ?_ | refine wH ?_ ?_ | refine wI ?_ ?_ | refine wJ ?_ ?_ | refine wK ?_ ?_ | refine wL ?_ ?_) <;> intro _) | simp (maxSteps := 1000000) (disch := omega) only [go_sem, seval, mc_ref02_Texts, textsPV, *])
  refine c_loopW 67108824 (by kernel_rfl) (fun j f H2 m => ∃ i : Nat, j = ss.length - i ∧ i ≤ ss.length ∧ f 4 = .sc (.int .i64 i) ∧ nx ≤ m ∧ (∃ id w, nx ≤ id ∧ id < m ∧ f 3 = .osl id 0 (encT (ss.take i)).length 1 ∧ H2 id = some ⟨bC (encT (ss.take i)), w⟩) ∧ Kept (∀ j, j < nx → H2 j = H j)) _ ⟨0, rfl, Nat.zero_le _, cE1, Nat.le_add_right _ _, ⟨nx + 1, true, Nat.le_add_right _ _, ?ml, cE1, ?rr⟩, ?hh⟩ ?_
  case rr => simp [upd, bC, encT]
  case ml => exact Nat.add_lt_add_left (by decide) _
  case hh =>
    refine Kept.mk ?_
    intro j g1
    simp only [updL]
    rw [upd_ne _ _ (show j ≠ nx + 1 by omega)]
  rintro _ f H2 m ⟨i, rfl, hi, e4, hm, ⟨id, w, g1, g2, e3, g3⟩, hH⟩
  by_cases hlt : i < ss.length
  · have eg : ss[i]? = some ss[i] := List.getElem?_eq_getElem hlt
    have hl1 := encT_take ss (i + 1)
    have hs := encT_snoc ss i hlt
    have hlen := congrArg List.length hs
    simp only [List.length_append, strC_len] at hlen
    obtain ⟨L, hL⟩ : ∃ L, encT (ss.take i) = L := ⟨_, rfl⟩
    rw [hL] at hs hlen e3 g3
    repeat' (first | ((with_reducible first | refine wA (by omega) ?_ | refine wB (by omega) ?_ | refine wC (by omega) ?_ | refine wD (by omega) ?_ | refine wE ?_ ?_ | refine wF ?_ ?_ | refine wG ?_ ?_ | refine wH ?_ ?_ | refine wI ?_ ?_ | refine wJ ?_ ?_ | refine wK ?_ ?_ | refine wL ?_ ?_) <;> intro _) | simp (maxSteps := 1000000) (disch := omega) only [go_sem, seval, *])
    refine call_mut (rOne_m ss[i].size (by omega) _ _) ?_
    rintro H' m' r' ⟨hn0, hr2, hk2⟩ -
    obtain ⟨id2, w2, k1, k2, rfl, k3⟩ := BRow.osl hr2 (Plain.enc_length_pos _)
    have hn : m ≤ m' := Nat.le_trans (Nat.le_add_right _ _) hn0
    have hid : id ≠ id2 := by have : m ≤ id2 := Nat.le_trans (Nat.le_add_right _ _) k1; omega
    have g4 : H' id = some ⟨bC L, w⟩ := (hk2 id (Nat.lt_of_lt_of_le g2 (Nat.le_add_right _ _))).trans g3
    have hH4 : Kept (∀ j, j < nx → H' j = H j) := fun j hj => (hk2 j (Nat.lt_of_lt_of_le hj (Nat.le_trans hm (Nat.le_add_right _ _)))).trans (hH j hj)
    have hnx2 : nx ≤ id2 := Nat.le_trans hm (Nat.le_trans (Nat.le_add_right _ _) k1)
    have b1 : L.length + (Plain.enc ss[i].size).length ≤ 140737488355328 := by omega
    have b2 : L.length + (Plain.enc ss[i].size).length ≤ 4611686018427387904 := by omega
    have b3 : L.length + ((Plain.enc ss[i].size).length + ss[i].size) ≤ 140737488355328 := by omega
    have b4 : L.length + ((Plain.enc ss[i].size).length + ss[i].size) ≤ 4611686018427387904 := by omega
    clear hn0 hr2 hk2 hH g3 hlen hl1 k1
    repeat' (first | ((with_reducible first | refine wA (by omega) ?_ | refine wB (by omega) ?_ | refine wC (by omega) ?_ | refine wD (by omega) ?_ | refine wE ?_ ?_ | refine wF ?_ ?_ | refine wG ?_ ?_ | refine wH ?_ ?_ | refine wI ?_ ?_ | refine wJ ?_ ?_ | refine wK ?_ ?_ | refine wL ?_ ?_) <;> intro _) | simp (maxSteps := 1000000) (disch := omega) only [go_sem, seval, *])
    refine Nx.mk (ss.length - (i + 1)) (by omega) ⟨i + 1, rfl, cE1, cE1, ?mm, ⟨m' + 5, false, ?ma, ?ml, ?rc, ?rr⟩, ?hh⟩
    case mm => exact Nat.le_trans hm (Nat.le_trans hn (Nat.le_add_right _ _))
    case ma => exact Nat.le_trans hm (Nat.le_trans hn (Nat.le_add_right _ _))
    case ml => exact Nat.add_lt_add_left (by decide) _
    case rc =>
      simp only [upd_get, Nat.reduceEqDiff, ↓reduceIte]
      rw [hs]; simp only [List.length_append, strC_len]
    case rr => rw [hs]; simp [upd, bC_append]
    case hh =>
      refine Kept.mk ?_
      intro j hj
      rw [upd_ne _ _ (show j ≠ m' + 5 by omega), upd_ne _ _ (show j ≠ m + 11 by omega), upd_ne _ _ (show j ≠ m + 11 by omega), upd_ne _ _ (show j ≠ id by omega)]; exact hH4 j hj
  · obtain rfl : i = ss.length := by omega
    rw [List.take_length] at e3 g3
    repeat' (first | ((with_reducible first | refine wA (by omega) ?_ | refine wB (by omega) ?_ | refine wC (by omega) ?_ | refine wD (by omega) ?_ | refine wE ?_ ?_ | refine wF ?_ ?_ | refine wG ?_ ?_ | refine wH ?_ ?_ | refine wI ?_ ?_ | refine wJ ?_ ?_ | refine wK ?_ ?_ | refine wL ?_ ?_) <;> intro _) | simp (maxSteps := 1000000) (disch := omega) only [go_sem, seval, *])
    exact fin_mut (.osl id 0 (encT ss).length 1) (.inr rfl) cE2 ⟨Nat.le_trans hm (Nat.le_add_right _ _), ⟨id, w, g1, Nat.lt_of_lt_of_le g2 (Nat.le_add_right _ _), rfl, g3⟩, hH⟩
end
section
set_option maxRecDepth 20000
attribute [local go_sem] Nat.add_assoc id_ne id_ne' id_ne2 List.append_assoc bC_len bC_one pv_take tm_take pv_len tm_len strC strC_len take_bC
set_option maxHeartbeats 8000000 in
theorem rLevel_m {np : Int} (hnp : np ≤ 4) : ∀ (fuel : Nat) (l : Lv), l.nodes ≤ fuel → l.formed np = true → l.nodes ≤ 2 ^ 30 → ∀ (H : Nat → Option PObj) (nx : Nat),
    PMut Try.prog F.ref08_level [.agg l.pv] H nx (fun H' nx' r => nx ≤ nx' ∧ (∃ id w, nx ≤ id ∧ id < nx' ∧ r = .osl id 0 l.enc.length 1 ∧ H' id = some ⟨bC l.enc, w⟩) ∧ ∀ j, j < nx → H' j = H j) := by
  intro fuel
  induction fuel with
  | zero => intro l h; have := nodes_pos l; omega
  | succ fuel ih =>
  intro l hn hf hb H nx
  cases l with
  | mk k n args =>
  obtain ⟨hk, hn1, hfa, hnil⟩ := pk_num hnp hf
  clear hf
  simp only [Lv.nodes] at hn hb
  refine mut_by is_ref08_level (by simp) fun hbn => ?_
  clear hbn
  have hba : args.length ≤ 2 ^ 30 := by have := len_nodesL args; omega
  obtain ⟨k, rfl⟩ : ∃ k' : Nat, k = k' := ⟨k.toNat, by omega⟩
  obtain ⟨n, rfl⟩ : ∃ n' : Nat, n = n' := ⟨n.toNat, by omega⟩
  repeat' (first | ((with_reducible first | refine wA (by omega) ?_ | refine wB (by omega) ?_ | refine wC (by omega) ?_ | refine wD (by omega) ?_ | refine wE ?_ ?_ | refine wF ?_ ?_ | refine wG ?_ ?_ | refine wH ?_ ?_ | refine wI ?_ ?_ | refine wJ ?_ ?_ | refine wK ?_ ?_ | refine wL ?_ ?_) <;> intro _) | simp (maxSteps := 1000000) (disch := omega) only [go_sem, seval, mc_ref08_level, Lv.pv, *])
  refine call_mut (rOne_m k (by omega) _ _) ?_
  rintro H1 m1 r1 ⟨hm0, hr0, hk0⟩ -
  obtain ⟨id, w, g1, g2, rfl, g3⟩ := BRow.osl hr0 (Plain.enc_length_pos _)
  have hm1 : nx ≤ m1 := Nat.le_trans (Nat.le_add_right _ _) hm0
  have hid : nx ≤ id := Nat.le_trans (Nat.le_add_right _ _) g1
  have hk1 : Kept (∀ j, j < nx → H1 j = H j) := fun j g1 => hk0 j (Nat.lt_of_lt_of_le g1 (Nat.le_add_right _ _))
  clear hm0 hr0 hk0 g1
  have hek := enc_len6 k (by omega)
  have hen := enc_len6 n (by omega)
  obtain rfl | rfl | ⟨h1, h2⟩ : k = 1 ∨ k = 2 ∨ (k ≠ 1 ∧ k ≠ 2) := by omega
  · obtain rfl := hnil (.inl rfl)
    have hT : (Lv.mk 1 (n : Int) []).enc = Plain.enc 1 ++ Plain.enc n := by simp [Lv.enc, encLs]
    repeat' (first | ((with_reducible first | refine wA (by omega) ?_ | refine wB (by omega) ?_ | refine wC (by omega) ?_ | refine wD (by omega) ?_ | refine wE ?_ ?_ | refine wF ?_ ?_ | refine wG ?_ ?_ | refine wH ?_ ?_ | refine wI ?_ ?_ | refine wJ ?_ ?_ | refine wK ?_ ?_ | refine wL ?_ ?_) <;> intro _) | simp (maxSteps := 1000000) (disch := omega) only [go_sem, seval, *])
    refine call_mut (rOne_m n (by omega) _ _) ?_
    rintro H2 m2 r2 ⟨hm0, hr0, hk0⟩ -
    obtain ⟨id2, w2, k1, k2, rfl, k3⟩ := BRow.osl hr0 (Plain.enc_length_pos _)
    have hm2 : m1 ≤ m2 := Nat.le_trans (Nat.le_add_right _ _) hm0
    have hm3 : m1 + 14 ≤ m2 := hm0
    have hne : id ≠ id2 := by have : m1 ≤ id2 := Nat.le_trans (Nat.le_add_right _ _) k1; omega
    have hid2 : nx ≤ id2 := Nat.le_trans hm1 (Nat.le_trans (Nat.le_add_right _ _) k1)
    have g4 : H2 id = some ⟨bC (Plain.enc 1), w⟩ := (hk0 id (Nat.lt_of_lt_of_le g2 (Nat.le_add_right _ _))).trans g3
    have hk2 : Kept (∀ j, j < nx → H2 j = H j) := fun j hj => (hk0 j (Nat.lt_of_lt_of_le hj (Nat.le_trans hm1 (Nat.le_add_right _ _)))).trans (hk1 j hj)
    have b1 : (Plain.enc 1).length + (Plain.enc n).length ≤ 140737488355328 := by omega
    have b2 : (Plain.enc 1).length + (Plain.enc n).length ≤ 4611686018427387904 := by omega
    clear hm0 hr0 hk0 hk1 g3 k1
    repeat' (first | ((with_reducible first | refine wA (by omega) ?_ | refine wB (by omega) ?_ | refine wC (by omega) ?_ | refine wD (by omega) ?_ | refine wE ?_ ?_ | refine wF ?_ ?_ | refine wG ?_ ?_ | refine wH ?_ ?_ | refine wI ?_ ?_ | refine wJ ?_ ?_ | refine wK ?_ ?_ | refine wL ?_ ?_) <;> intro _) | simp (maxSteps := 1000000) (disch := omega) only [go_sem, seval, *])
    refine c_rounds 1 ?_
    repeat' (first | ((with_reducible first | refine wA (by omega) ?_ | refine wB (by omega) ?_ | refine wC (by omega) ?_ | refine wD (by omega) ?_ | refine wE ?_ ?_ | refine wF ?_ ?_ | refine wG ?_ ?_ | refine wH ?_ ?_ | refine wI ?_ ?_ | refine wJ ?_ ?_ | refine wK ?_ ?_ | refine wL ?_ ?_) <;> intro _) | simp (maxSteps := 1000000) (disch := omega) only [go_sem, seval, rounds_next, *])
    refine fin_mut (.osl (m1 + 12) 0 ((Plain.enc 1).length + (Plain.enc n).length) 1) (.inr rfl) rfl ⟨?mm, ⟨m1 + 12, false, ?ma, ?ml, ?rc, ?rr⟩, ?hh⟩
    case mm => exact Nat.le_trans hm1 (Nat.le_trans hm2 (Nat.le_add_right _ _))
    case ma => exact Nat.le_trans hm1 (Nat.le_add_right _ _)
    case ml => show m1 + 12 < m2 + 8; omega
    case rc => simp only [hT, List.length_append]
    case rr => simp [upd, bC_append, hT]
    case hh =>
      intro j hj
      show upd (upd H2 id none) (m1 + 12) _ j = H j
      rw [upd_ne _ _ (show j ≠ m1 + 12 by omega), upd_ne _ _ (show j ≠ id by omega)]; exact hk2 j hj
  · obtain rfl := hnil (.inr rfl)
    have hT : (Lv.mk 2 (n : Int) []).enc = Plain.enc 2 ++ Plain.enc n := by simp [Lv.enc, encLs]
    repeat' (first | ((with_reducible first | refine wA (by omega) ?_ | refine wB (by omega) ?_ | refine wC (by omega) ?_ | refine wD (by omega) ?_ | refine wE ?_ ?_ | refine wF ?_ ?_ | refine wG ?_ ?_ | refine wH ?_ ?_ | refine wI ?_ ?_ | refine wJ ?_ ?_ | refine wK ?_ ?_ | refine wL ?_ ?_) <;> intro _) | simp (maxSteps := 1000000) (disch := omega) only [go_sem, seval, *])
    refine call_mut (rOne_m n (by omega) _ _) ?_
    rintro H2 m2 r2 ⟨hm0, hr0, hk0⟩ -
    obtain ⟨id2, w2, k1, k2, rfl, k3⟩ := BRow.osl hr0 (Plain.enc_length_pos _)
    have hm2 : m1 ≤ m2 := Nat.le_trans (Nat.le_add_right _ _) hm0
    have hm3 : m1 + 14 ≤ m2 := hm0
    have hne : id ≠ id2 := by have : m1 ≤ id2 := Nat.le_trans (Nat.le_add_right _ _) k1; omega
    have hid2 : nx ≤ id2 := Nat.le_trans hm1 (Nat.le_trans (Nat.le_add_right _ _) k1)
    have g4 : H2 id = some ⟨bC (Plain.enc 2), w⟩ := (hk0 id (Nat.lt_of_lt_of_le g2 (Nat.le_add_right _ _))).trans g3
    have hk2 : Kept (∀ j, j < nx → H2 j = H j) := fun j hj => (hk0 j (Nat.lt_of_lt_of_le hj (Nat.le_trans hm1 (Nat.le_add_right _ _)))).trans (hk1 j hj)
    have b1 : (Plain.enc 2).length + (Plain.enc n).length ≤ 140737488355328 := by omega
    have b2 : (Plain.enc 2).length + (Plain.enc n).length ≤ 4611686018427387904 := by omega
    clear hm0 hr0 hk0 hk1 g3 k1
    repeat' (first | ((with_reducible first | refine wA (by omega) ?_ | refine wB (by omega) ?_ | refine wC (by omega) ?_ | refine wD (by omega) ?_ | refine wE ?_ ?_ | refine wF ?_ ?_ | refine wG ?_ ?_ | refine wH ?_ ?_ | refine wI ?_ ?_ | refine wJ ?_ ?_ | refine wK ?_ ?_ | refine wL ?_ ?_) <;> intro _) | simp (maxSteps := 1000000) (disch := omega) only [go_sem, seval, *])
    refine c_rounds 1 ?_
    repeat' (first | ((with_reducible first | refine wA (by omega) ?_ | refine wB (by omega) ?_ | refine wC (by omega) ?_ | refine wD (by omega) ?_ | refine wE ?_ ?_ | refine wF ?_ ?_ | refine wG ?_ ?_ | refine wH ?_ ?_ | refine wI ?_ ?_ | refine wJ ?_ ?_ | refine wK ?_ ?_ | refine wL ?_ ?_) <;> intro _) | simp (maxSteps := 1000000) (disch := omega) only [go_sem, seval, rounds_next, *])
    refine fin_mut (.osl (m1 + 12) 0 ((Plain.enc 2).length + (Plain.enc n).length) 1) (.inr rfl) rfl ⟨?mm, ⟨m1 + 12, false, ?ma, ?ml, ?rc, ?rr⟩, ?hh⟩
    case mm => exact Nat.le_trans hm1 (Nat.le_trans hm2 (Nat.le_add_right _ _))
    case ma => exact Nat.le_trans hm1 (Nat.le_add_right _ _)
    case ml => show m1 + 12 < m2 + 8; omega
    case rc => simp only [hT, List.length_append]
    case rr => simp [upd, bC_append, hT]
    case hh =>
      intro j hj
      show upd (upd H2 id none) (m1 + 12) _ j = H j
      rw [upd_ne _ _ (show j ≠ m1 + 12 by omega), upd_ne _ _ (show j ≠ id by omega)]; exact hk2 j hj
  · have hT : (Lv.mk (k : Int) (n : Int) args).enc = Plain.enc k ++ encLs args := by
      simp only [Lv.enc, Int.toNat_natCast]; rw [if_neg (by omega), List.nil_append]
    repeat' (first | ((with_reducible first | refine wA (by omega) ?_ | refine wB (by omega) ?_ | refine wC (by omega) ?_ | refine wD (by omega) ?_ | refine wE ?_ ?_ | refine wF ?_ ?_ | refine wG ?_ ?_ | refine wH ?_ ?_ | refine wI ?_ ?_ | refine wJ ?_ ?_ | refine wK ?_ ?_ | refine wL ?_ ?_) <;> intro _) | simp (maxSteps := 1000000) (disch := omega) only [go_sem, seval, *])
    refine c_loopW 68717379608 (by kernel_rfl) (fun j f H2 m => ∃ i : Nat, j = args.length - i ∧ i ≤ args.length ∧ f 4 = .sc (.int .i64 i) ∧ nx ≤ m ∧ (∃ id w, nx ≤ id ∧ id < m ∧ f 3 = .osl id 0 (Plain.enc k ++ encLs (args.take i)).length 1 ∧ H2 id = some ⟨bC (Plain.enc k ++ encLs (args.take i)), w⟩) ∧ Kept (∀ j, j < nx → H2 j = H j)) _ ⟨0, rfl, Nat.zero_le _, cE1, Nat.le_trans hm1 (Nat.le_add_right _ _), ⟨id, w, hid, Nat.lt_of_lt_of_le g2 (Nat.le_add_right _ _), ?rc, ?rr⟩, hk1⟩ ?_
    case rc => simp only [upd_get, Nat.reduceEqDiff, ↓reduceIte, List.take_zero, encLs, List.append_nil]
    case rr => simp only [List.take_zero, encLs, List.append_nil]; exact g3
    clear g3 g2 hid hk1 hm1
    rintro _ f H2 m ⟨i, rfl, hi, e4, hm, ⟨id, w, g1, g2, e3, g3⟩, hH⟩
    by_cases hlt : i < args.length
    · have eg : args[i]? = some args[i] := List.getElem?_eq_getElem hlt
      have hnm := nodesL_mem args i hlt
      have a1 := encLs_len hnp (args.take (i + 1)) (formedL_all np args (i + 1) hfa)
      have a3 := nodesL_take_le args (i + 1)
      have hs := encLs_snoc args i hlt
      rw [hs] at a1
      rw [List.length_append] at a1
      obtain ⟨L, hL⟩ : ∃ L, Plain.enc k ++ encLs (args.take i) = L := ⟨_, rfl⟩
      have hLl : Kept (L.length = (Plain.enc k).length + (encLs (args.take i)).length) := by refine Kept.mk ?_; rw [← hL, List.length_append]
      have hs2 : Plain.enc k ++ encLs (args.take (i + 1)) = L ++ args[i].enc := by rw [hs, ← hL, List.append_assoc]
      rw [hL] at e3 g3
      repeat' (first | ((with_reducible first | refine wA (by omega) ?_ | refine wB (by omega) ?_ | refine wC (by omega) ?_ | refine wD (by omega) ?_ | refine wE ?_ ?_ | refine wF ?_ ?_ | refine wG ?_ ?_ | refine wH ?_ ?_ | refine wI ?_ ?_ | refine wJ ?_ ?_ | refine wK ?_ ?_ | refine wL ?_ ?_) <;> intro _) | simp (maxSteps := 1000000) (disch := omega) only [go_sem, seval, *])
      refine call_mut (ih args[i] (by omega) (formedL_mem args i hlt hfa) (by omega) _ _) ?_
      rintro H' m' r' ⟨hn0, ⟨id2, w2, k1, k2, rfl, k3⟩, hk2⟩ -
      have hn : m ≤ m' := Nat.le_trans (Nat.le_add_right _ _) hn0
      have hn3 : m + 14 ≤ m' := hn0
      have hne : id ≠ id2 := by have : m ≤ id2 := Nat.le_trans (Nat.le_add_right _ _) k1; omega
      have g4 : H' id = some ⟨bC L, w⟩ := (hk2 id (Nat.lt_of_lt_of_le g2 (Nat.le_add_right _ _))).trans g3
      have hH4 : Kept (∀ j, j < nx → H' j = H j) := fun j hj => (hk2 j (Nat.lt_of_lt_of_le hj (Nat.le_trans hm (Nat.le_add_right _ _)))).trans (hH j hj)
      have hLl2 : L.length = (Plain.enc k).length + (encLs (args.take i)).length := hLl
      have b1 : L.length + args[i].enc.length ≤ 140737488355328 := by omega
      have b2 : L.length + args[i].enc.length ≤ 4611686018427387904 := by omega
      clear hn0 hk2 hH g3 a1 a3 hLl hLl2 hL hs
      have k1' : nx ≤ id2 := Nat.le_trans hm (Nat.le_trans (Nat.le_add_right _ _) k1)
      clear k1
      repeat' (first | ((with_reducible first | refine wA (by omega) ?_ | refine wB (by omega) ?_ | refine wC (by omega) ?_ | refine wD (by omega) ?_ | refine wE ?_ ?_ | refine wF ?_ ?_ | refine wG ?_ ?_ | refine wH ?_ ?_ | refine wI ?_ ?_ | refine wJ ?_ ?_ | refine wK ?_ ?_ | refine wL ?_ ?_) <;> intro _) | simp (maxSteps := 1000000) (disch := omega) only [go_sem, seval, *])
      refine Nx.mk (args.length - (i + 1)) (by omega) ⟨i + 1, rfl, cE1, cE1, ?mm, ⟨m + 12, false, ?ma, ?ml, ?rc, ?rr⟩, ?hh⟩
      case mm => exact Nat.le_trans hm (Nat.le_trans hn (Nat.le_add_right _ _))
      case ma => exact Nat.le_trans hm (Nat.le_add_right _ _)
      case ml => omega
      case rc =>
        simp only [upd_get, Nat.reduceEqDiff, ↓reduceIte]
        have h9 := congrArg List.length hs2
        simp only [List.length_append] at h9
        rw [h9]
      case rr => rw [hs2]; simp [upd, bC_append]
      case hh =>
        refine Kept.mk ?_
        intro j hj
        rw [upd_ne _ _ (show j ≠ m + 12 by omega), upd_ne _ _ (show j ≠ id by omega)]; exact hH4 j hj
    · obtain rfl : i = args.length := by omega
      rw [List.take_length] at e3 g3
      repeat' (first | ((with_reducible first | refine wA (by omega) ?_ | refine wB (by omega) ?_ | refine wC (by omega) ?_ | refine wD (by omega) ?_ | refine wE ?_ ?_ | refine wF ?_ ?_ | refine wG ?_ ?_ | refine wH ?_ ?_ | refine wI ?_ ?_ | refine wJ ?_ ?_ | refine wK ?_ ?_ | refine wL ?_ ?_) <;> intro _) | simp (maxSteps := 1000000) (disch := omega) only [go_sem, seval, *])
      exact fin_mut (.osl id 0 ((Plain.enc k).length + (encLs args).length) 1) (.inr rfl) cE2 ⟨Nat.le_trans hm (Nat.le_add_right _ _), ⟨id, w, g1, Nat.lt_of_lt_of_le g2 (Nat.le_add_right _ _), by first | rfl | rw [List.length_append], g3⟩, hH⟩
end
end Go.Proofs.Ytnelciclibknpaa
