/-
  Plain values: Tm1, Tm2, DeA, DeB, LvM, LvS, TnA, TnB, TnE, DeC, DeD, DeG, Tm3, DeH, DeI, DeE, DeJ.
-/
import Derived.Laws.Strings
import Derived.Test.YtnoilfjeamffnaaGreatXMa
import Derived.Test.YtnoilfjeamffnaaGreatXMb
import Derived.Test.YtnoilfjeamffnaaGreatXMc
import Derived.Test.YtnoilfjeamffnaaGreatXMd
import Derived.Test.YtnoilfjeamffnaaGreatXMe
set_option linter.unusedVariables false
set_option linter.unusedSimpArgs false
namespace Go.Proofs.YtnoilfjeamffnaaGreat
open Go.RowKit
attribute [local go_sem ↓] c_seq c_region c_cond c_block c_ret c_skip c_exit c_cont t_normal t_ret t_exit b_normal b_ret b_exit run_nil run_cons g_some o_mv o_pick o_bin o_un o_ld o_ldf o_bld o_len o_mkf o_nilc o_fa o_fd o_ia o_iaa o_ix o_ixs o_ext o_al o_bxf o_bxt o_bsl o_bslf o_mks o_st o_stf o_call o_rng o_nxt o_callm o_callmA o_calvm o_calv cond_true cond_false upd_get sigF_cons o_eqa o_mm o_app o_slc
attribute [local go_sem] num_nil num_cons isP chunks rngV next_is next_iter val_some new_some st_some stf_some guard_tt guard_ff guard_tf guard_ft guard_un calv_fn put_some put_none ev_tmp ev_const ev_func sig_eq sigF_nil q0 q1 nilcV faV fdV iaV iaaV ixV ixsV extV mksV loadP storeP lenPV binPV unPV intBin partsP fillP zeros PV.good PV.cellsOf PV.one q2 q3 q4 q5 q6 q7 q8 q9 q10 q11 q12 q13 q14 q15 q16 q17 q18 q19 q20 q21 q22 q23 q24 q25 q26 q27 q28 q29 q30 q31 q32 q33 q34 q35 q36 q37 q38 wrap64 app_some mmL mmV mm2 eqE eqParts eqInt eqBool eqStr partV q39 q40 pickV q41 q42 q43 q44 q45 q46 q47 q48 q49 appE oldOf rowOf updL q50 q51 q52 q53 zlt ovr_get ite_neN ite_eqN q54 q55 q56 q57 q58 q59 q60 q61 q62 q63 q64 q65 q66 q67 tailP_f tailP_t tailF_f tailF_t slcP bndO capO slcLen intOf Option.isSome_none Option.isNone_none Option.isSome_some Option.isNone_some nilP slc_sl slc_csl slc_osl slc_osl0 slc_ocap slc_str List.append_nil List.length_append resP resPs resP1 PV.sc.injEq Value.bool.injEq Value.int.injEq
section
set_option maxRecDepth 20000
attribute [local go_sem] pv_len pv_take Nat.add_assoc tm_len tm_take pv_one tm_one id_ne id_ne' id_ne2 List.append_assoc
def insts (bys : List Lv) : List Lv → Option (List Lv)
  | [] => some []
  | x :: r => match x.instV bys, insts bys r with
    | some y, some ys => some (y :: ys)
    | _, _ => none
mutual
def Tm.putL (bys : List Lv) : Tm → Option Tm
  | .mk k n s ls args => match insts bys ls, putLs bys args with
    | some ls', some args' => some (.mk k n s ls' args')
    | _, _ => none
def putLs (bys : List Lv) : List Tm → Option (List Tm)
  | [] => some []
  | x :: r => match x.putL bys, putLs bys r with
    | some y, some ys => some (y :: ys)
    | _, _ => none
end
theorem insts_snoc (bys : List Lv) (x : Lv) : ∀ xs ys, insts bys xs = some ys → insts bys (xs ++ [x]) = (x.instV bys).map fun y => ys ++ [y]
  | [], ys, h => by
    simp only [insts, Option.some.injEq] at h
    subst h
    simp only [List.nil_append, insts]
    cases x.instV bys <;> rfl
  | a :: r, ys, h => by
    simp only [insts] at h
    cases ha : a.instV bys with
    | none => rw [ha] at h; simp at h
    | some y =>
      cases hr : insts bys r with
      | none => rw [ha, hr] at h; simp at h
      | some zs =>
        rw [ha, hr] at h
        simp only [Option.some.injEq] at h
        subst h
        simp only [List.cons_append, insts, ha, insts_snoc bys x r zs hr]
        cases x.instV bys <;> rfl
theorem insts_none (bys : List Lv) : ∀ (xs : List Lv) (i : Nat) (h : i < xs.length), xs[i].instV bys = none → insts bys xs = none
  | x :: r, 0, h, e => by
    have e' : x.instV bys = none := e
    simp only [insts, e']
  | x :: r, i + 1, h, e => by
    have := insts_none bys r i (by simpa using h) (by simpa using e)
    simp only [insts, this]
    cases x.instV bys <;> rfl
theorem putLs_snoc (bys : List Lv) (x : Tm) : ∀ xs ys, putLs bys xs = some ys → putLs bys (xs ++ [x]) = (x.putL bys).map fun y => ys ++ [y]
  | [], ys, h => by
    simp only [putLs, Option.some.injEq] at h
    subst h
    simp only [List.nil_append, putLs]
    cases x.putL bys <;> rfl
  | a :: r, ys, h => by
    simp only [putLs] at h
    cases ha : a.putL bys with
    | none => rw [ha] at h; simp at h
    | some y =>
      cases hr : putLs bys r with
      | none => rw [ha, hr] at h; simp at h
      | some zs =>
        rw [ha, hr] at h
        simp only [Option.some.injEq] at h
        subst h
        simp only [List.cons_append, putLs, ha, putLs_snoc bys x r zs hr]
        cases x.putL bys <;> rfl
theorem putLs_none (bys : List Lv) : ∀ (xs : List Tm) (i : Nat) (h : i < xs.length), xs[i].putL bys = none → putLs bys xs = none
  | x :: r, 0, h, e => by
    have e' : x.putL bys = none := e
    simp only [putLs, e']
  | x :: r, i + 1, h, e => by
    have := putLs_none bys r i (by simpa using h) (by simpa using e)
    simp only [putLs, this]
    cases x.putL bys <;> rfl
theorem insts_len (bys : List Lv) : ∀ xs ys, insts bys xs = some ys → ys.length = xs.length
  | [], ys, h => by simp only [insts, Option.some.injEq] at h; subst h; rfl
  | a :: r, ys, h => by
    simp only [insts] at h
    split at h
    · rename_i y zs h1 h2
      cases h
      simp [insts_len bys r zs h2]
    · cases h
theorem putLs_len (bys : List Lv) : ∀ xs ys, putLs bys xs = some ys → ys.length = xs.length
  | [], ys, h => by simp only [putLs, Option.some.injEq] at h; subst h; rfl
  | a :: r, ys, h => by
    simp only [putLs] at h
    split at h
    · rename_i y zs h1 h2
      cases h
      simp [putLs_len bys r zs h2]
    · cases h
theorem frz_tup_agg (k : Nat) (H : Nat → Option PObj) (xs : List PV) (b : Bool) : frz (k + 2) H (.tup [.agg xs, .sc (.bool b)]) = .tup [.agg (xs.map (frz k H)), .sc (.bool b)] := by
  simp only [frz, List.map_cons, List.map_nil]
def optT : Option Tm → PV
  | some t => .tup [.agg t.pv, .sc (.bool true)]
  | none => .tup [.agg zeroT, .sc (.bool false)]
theorem optT_imm (o : Option Tm) : (optT o).imm = true := by cases o <;> simp [optT, PV.imm, immL, tm_imm, zeroT]
set_option maxHeartbeats 16000000 in
theorem ref04_levels_p (bys : List Lv) : ∀ (fuel : Nat) (t : Tm), t.size ≤ fuel → t.nodes ≤ 2 ^ 40 → PPure Tryz.prog F.ref04_levels [.agg t.pv, lvs bys] (optT (t.putL bys)) := by
  intro fuel
  induction fuel with
  | zero => intro t h; have := size_pos t; omega
  | succ fuel ih =>
    intro t hf hm
    cases t with
    | mk k n s ls args =>
    simp only [Tm.size] at hf
    simp only [Tm.nodes] at hm
    refine pure_by is_ref04_levels (by simp) (optT_imm _) fun hb nx => ?_
    have hb0 : ls.length ≤ 9223372036854775807 ∧ args.length ≤ 9223372036854775807 := by simp [Tm.pv, bndL, PV.bnd] at hb; exact ⟨hb.1.1.1, hb.1.2.1⟩
    repeat' (first | ((with_reducible first | refine wA (by omega) ?_ | refine wB (by omega) ?_ | refine wC (by omega) ?_ | refine wD (by omega) ?_ | refine wE ?_ ?_ | refine wF ?_ ?_ | refine wG ?_ ?_ | refine wH ?_ ?_ | refine wI ?_ ?_ | refine wJ ?_ ?_ | refine wK ?_ ?_ | refine wL ?_ ?_) <;> intro _) | simp (maxSteps := 1000000) (disch := omega) only [go_sem, Nat.reduceAdd, Nat.reduceMul, Nat.reduceSub, Nat.reduceLeDiff, Nat.reduceEqDiff, Nat.reduceBEq, ↓reduceIte, reduceCtorEq, Int.reduceEq, Int.reduceLE, Int.reduceLT, Int.reduceAdd, Int.reduceSub, Int.reduceNeg, Int.reduceToNat, Int.reduceNe, Nat.reducePow, Nat.reduceShiftRight, Nat.reduceMod, mc_ref04_levels, Tm.pv, *])
    refine c_loopW 70368743130016 (by kernel_rfl) (fun j f H m => ∃ (i : Nat) (ys : List Lv), j = ls.length - i ∧ i ≤ ls.length ∧ f 7 = .sc (.int .i64 i) ∧ nx + 13 ≤ m ∧ Kept (insts bys (ls.take i) = some ys) ∧ Kept (ys.length = i) ∧ H (nx + 1) = some ⟨[.sc (.int .i64 0), .sc (.int .i64 0), .sc (.string ⟨#[]⟩), .sc (.slice none 0 0), .sc (.slice none 0 0)], true⟩ ∧ ∃ a, H (nx + 10) = some ⟨[.sc (.int .i64 k), .sc (.int .i64 n), .sc (.string s), a, .sc (.slice none 0 0)], true⟩ ∧ RowAt H (nx + 10) m 3 a (ys.flatMap Lv.pv) i) _ ⟨0, [], rfl, cE1, cE1, cE1, Kept.mk rfl, Kept.mk rfl, cE1, _, by simp [upd], .inl ⟨rfl, rfl⟩⟩ ?_
    rintro _ f H m ⟨i, ys, rfl, hi, e7, hm2, hys, hyl, ho1, a, ho, hrow⟩
    by_cases hlt : i < ls.length
    · have eg : ls[i]? = some ls[i] := List.getElem?_eq_getElem hlt
      have c1 := ref_Inst_p ls[i] bys
      cases hv : ls[i].instV bys with
      | none =>
        have hno : (Tm.mk k n s ls args).putL bys = none := by simp only [Tm.putL, insts_none bys ls i hlt hv]
        rw [hv] at c1
        simp only [instPV] at c1
        rw [hno]
        clear ih hv hno hrow
        repeat' (first | ((with_reducible first | refine wA (by omega) ?_ | refine wB (by omega) ?_ | refine wC (by omega) ?_ | refine wD (by omega) ?_ | refine wE ?_ ?_ | refine wF ?_ ?_ | refine wG ?_ ?_ | refine wH ?_ ?_ | refine wI ?_ ?_ | refine wJ ?_ ?_ | refine wK ?_ ?_ | refine wL ?_ ?_) <;> intro _) | (((with_reducible refine call_id ?_); (first | (refine call_pure (c1) ?_)))) | simp (maxSteps := 1000000) (disch := omega) only [go_sem, Nat.reduceAdd, Nat.reduceMul, Nat.reduceSub, Nat.reduceLeDiff, Nat.reduceEqDiff, Nat.reduceBEq, ↓reduceIte, reduceCtorEq, Int.reduceEq, Int.reduceLE, Int.reduceLT, Int.reduceAdd, Int.reduceSub, Int.reduceNeg, Int.reduceToNat, Int.reduceNe, Nat.reducePow, Nat.reduceShiftRight, Nat.reduceMod, Tm.pv, *])
        refine fin_ret (r0 := .tup [.agg zeroT, .sc (.bool false)]) 2 cE2 ?_
        exact .of_eq (by simp [frz, zeroT, frz_sc, optT])
      | some y =>
        rw [hv] at c1
        simp only [instPV] at c1
        have hsn := insts_snoc bys ls[i] (ls.take i) ys hys.out
        rw [hv, Option.map_some] at hsn
        have hys2 : Kept (insts bys (ls.take (i + 1)) = some (ys ++ [y])) := Kept.mk (by rw [List.take_succ_eq_append_getElem hlt]; exact hsn)
        have hl : (List.flatMap Lv.pv ys).length = i * 3 := by rw [flat_lenG _ 3 pv_len, hyl.out]
        have hg := len_nodesL ls
        have hz : (i + 1) * 40 ≤ 140737488355328 ∧ i ≤ 4611686018427387903 := by omega
        clear ih hv hsn hys
        rcases hrow with ⟨rfl, rfl⟩ | ⟨id, h1, h2, rfl, h3⟩
        · have hy0 : ys = [] := List.eq_nil_of_length_eq_zero hyl.out
          subst hy0
          repeat' (first | ((with_reducible first | refine wA (by omega) ?_ | refine wB (by omega) ?_ | refine wC (by omega) ?_ | refine wD (by omega) ?_ | refine wE ?_ ?_ | refine wF ?_ ?_ | refine wG ?_ ?_ | refine wH ?_ ?_ | refine wI ?_ ?_ | refine wJ ?_ ?_ | refine wK ?_ ?_ | refine wL ?_ ?_) <;> intro _) | (((with_reducible refine call_id ?_); (first | (refine call_pure (c1) ?_)))) | simp (maxSteps := 1000000) (disch := omega) only [go_sem, Nat.reduceAdd, Nat.reduceMul, Nat.reduceSub, Nat.reduceLeDiff, Nat.reduceEqDiff, Nat.reduceBEq, ↓reduceIte, reduceCtorEq, Int.reduceEq, Int.reduceLE, Int.reduceLT, Int.reduceAdd, Int.reduceSub, Int.reduceNeg, Int.reduceToNat, Int.reduceNe, Nat.reducePow, Nat.reduceShiftRight, Nat.reduceMod, Tm.pv, *])
          refine Nx.mk (ls.length - 1) cE1 ⟨1, [y], cE1, cE1, cE1, cE1, Kept.mk (by simpa using hys2.out), Kept.mk rfl, cE1, PV.osl (m + 24) 0 1 3, cE1, .inr ⟨m + 24, cE1, cE1, cE1, cE1⟩⟩
        · repeat' (first | ((with_reducible first | refine wA (by omega) ?_ | refine wB (by omega) ?_ | refine wC (by omega) ?_ | refine wD (by omega) ?_ | refine wE ?_ ?_ | refine wF ?_ ?_ | refine wG ?_ ?_ | refine wH ?_ ?_ | refine wI ?_ ?_ | refine wJ ?_ ?_ | refine wK ?_ ?_ | refine wL ?_ ?_) <;> intro _) | (((with_reducible refine call_id ?_); (first | (refine call_pure (c1) ?_)))) | simp (maxSteps := 1000000) (disch := omega) only [go_sem, Nat.reduceAdd, Nat.reduceMul, Nat.reduceSub, Nat.reduceLeDiff, Nat.reduceEqDiff, Nat.reduceBEq, ↓reduceIte, reduceCtorEq, Int.reduceEq, Int.reduceLE, Int.reduceLT, Int.reduceAdd, Int.reduceSub, Int.reduceNeg, Int.reduceToNat, Int.reduceNe, Nat.reducePow, Nat.reduceShiftRight, Nat.reduceMod, Tm.pv, *])
          refine Nx.mk (ls.length - (i + 1)) cE1 ⟨i + 1, ys ++ [y], cE1, cE1, cE1, cE1, hys2, Kept.mk (by simp [hyl.out]), cE1, PV.osl (m + 24) 0 (i + 1) 3, cE1, .inr ⟨m + 24, cE1, cE1, cE1, cE1⟩⟩
    · obtain rfl : i = ls.length := by omega
      have hys' := hys.out
      rw [List.take_length] at hys'
      have hysk := Kept.mk hys'
      clear hys hys'
      repeat' (first | ((with_reducible first | refine wA (by omega) ?_ | refine wB (by omega) ?_ | refine wC (by omega) ?_ | refine wD (by omega) ?_ | refine wE ?_ ?_ | refine wF ?_ ?_ | refine wG ?_ ?_ | refine wH ?_ ?_ | refine wI ?_ ?_ | refine wJ ?_ ?_ | refine wK ?_ ?_ | refine wL ?_ ?_) <;> intro _) | simp (maxSteps := 1000000) (disch := omega) only [go_sem, Nat.reduceAdd, Nat.reduceMul, Nat.reduceSub, Nat.reduceLeDiff, Nat.reduceEqDiff, Nat.reduceBEq, ↓reduceIte, reduceCtorEq, Int.reduceEq, Int.reduceLE, Int.reduceLT, Int.reduceAdd, Int.reduceSub, Int.reduceNeg, Int.reduceToNat, Int.reduceNe, Nat.reducePow, Nat.reduceShiftRight, Nat.reduceMod, *])
      refine c_loopW 4722366412500901043232 (by kernel_rfl) (fun j f H2 m2 => ∃ (i2 : Nat) (zs : List Tm), j = args.length - i2 ∧ i2 ≤ args.length ∧ f 10 = .sc (.int .i64 i2) ∧ m ≤ m2 ∧ Kept (putLs bys (args.take i2) = some zs) ∧ Kept (zs.length = i2) ∧ H2 (nx + 1) = some ⟨[.sc (.int .i64 0), .sc (.int .i64 0), .sc (.string ⟨#[]⟩), .sc (.slice none 0 0), .sc (.slice none 0 0)], true⟩ ∧ RowAt H2 (nx + 10) m 3 a (ys.flatMap Lv.pv) ls.length ∧ ∃ a2, H2 (nx + 10) = some ⟨[.sc (.int .i64 k), .sc (.int .i64 n), .sc (.string s), a, a2], true⟩ ∧ RowAt H2 m m2 5 a2 (zs.flatMap Tm.pv) i2) _ ⟨0, [], rfl, cE1, cE1, ?mm, Kept.mk rfl, Kept.mk rfl, cE1, ?rr, _, cE1, .inl ⟨rfl, rfl⟩⟩ ?_
      case mm => exact Nat.le_add_right _ _
      case rr => exact hrow
      rintro _ f2 H2 m2 ⟨i2, zs, rfl, hi2, e5, hm3, hzs, hzl, ho1, hrow2, a2, ho2, hrow3⟩
      by_cases hlt2 : i2 < args.length
      · have eg : args[i2]? = some args[i2] := List.getElem?_eq_getElem hlt2
        have hn := nodesT_mem args i2 hlt2
        have hs := sizeL_mem args i2 hlt2
        have hg := len_nodesT args
        have hz : (i2 + 1) * 80 ≤ 140737488355328 ∧ i2 ≤ 4611686018427387903 := by omega
        have hro := Kept.mk hrow2
        have c1 := ih args[i2] (by omega) (by omega)
        clear hrow hrow2
        cases hv : args[i2].putL bys with
        | none =>
          have hno : (Tm.mk k n s ls args).putL bys = none := by
            simp only [Tm.putL, putLs_none bys args i2 hlt2 hv]
            cases insts bys ls <;> rfl
          rw [hv] at c1
          simp only [optT, zeroT] at c1
          rw [hno]
          clear ih hv hno hrow3
          repeat' (first | ((with_reducible first | refine wA (by omega) ?_ | refine wB (by omega) ?_ | refine wC (by omega) ?_ | refine wD (by omega) ?_ | refine wE ?_ ?_ | refine wF ?_ ?_ | refine wG ?_ ?_ | refine wH ?_ ?_ | refine wI ?_ ?_ | refine wJ ?_ ?_ | refine wK ?_ ?_ | refine wL ?_ ?_) <;> intro _) | (((with_reducible refine call_id ?_); (first | (refine call_pure (c1) ?_)))) | simp (maxSteps := 1000000) (disch := omega) only [go_sem, Nat.reduceAdd, Nat.reduceMul, Nat.reduceSub, Nat.reduceLeDiff, Nat.reduceEqDiff, Nat.reduceBEq, ↓reduceIte, reduceCtorEq, Int.reduceEq, Int.reduceLE, Int.reduceLT, Int.reduceAdd, Int.reduceSub, Int.reduceNeg, Int.reduceToNat, Int.reduceNe, Nat.reducePow, Nat.reduceShiftRight, Nat.reduceMod, Tm.pv, *])
          refine fin_ret (r0 := .tup [.agg zeroT, .sc (.bool false)]) 2 cE2 ?_
          exact .of_eq (by simp [frz, zeroT, frz_sc, optT])
        | some y =>
          rw [hv] at c1
          simp only [optT] at c1
          have hsn := putLs_snoc bys args[i2] (args.take i2) zs hzs.out
          rw [hv, Option.map_some] at hsn
          have hzs2 : Kept (putLs bys (args.take (i2 + 1)) = some (zs ++ [y])) := Kept.mk (by rw [List.take_succ_eq_append_getElem hlt2]; exact hsn)
          have hl : (List.flatMap Tm.pv zs).length = i2 * 5 := by rw [flat_lenG _ 5 tm_len, hzl.out]
          clear ih hv hsn hzs
          rcases hrow3 with ⟨rfl, rfl⟩ | ⟨id, h1, h2, rfl, h3⟩
          · have hy0 : zs = [] := List.eq_nil_of_length_eq_zero hzl.out
            subst hy0
            repeat' (first | ((with_reducible first | refine wA (by omega) ?_ | refine wB (by omega) ?_ | refine wC (by omega) ?_ | refine wD (by omega) ?_ | refine wE ?_ ?_ | refine wF ?_ ?_ | refine wG ?_ ?_ | refine wH ?_ ?_ | refine wI ?_ ?_ | refine wJ ?_ ?_ | refine wK ?_ ?_ | refine wL ?_ ?_) <;> intro _) | (((with_reducible refine call_id ?_); (first | (refine call_pure (c1) ?_)))) | simp (maxSteps := 1000000) (disch := omega) only [go_sem, Nat.reduceAdd, Nat.reduceMul, Nat.reduceSub, Nat.reduceLeDiff, Nat.reduceEqDiff, Nat.reduceBEq, ↓reduceIte, reduceCtorEq, Int.reduceEq, Int.reduceLE, Int.reduceLT, Int.reduceAdd, Int.reduceSub, Int.reduceNeg, Int.reduceToNat, Int.reduceNe, Nat.reducePow, Nat.reduceShiftRight, Nat.reduceMod, Tm.pv, *])
            refine Nx.mk (args.length - 1) cE1 ⟨1, [y], cE1, cE1, cE1, ?mm, Kept.mk (by simpa using hzs2.out), Kept.mk rfl, cE1, ?rr, PV.osl (m2 + 24) 0 1 5, cE1, .inr ⟨m2 + 24, cE1, cE1, cE1, cE1⟩⟩
            case mm => exact (by omega : m ≤ m2 + 30)
            case rr => exact hro.out.mono (Nat.le_refl _) fun id' h1' h2' => by simp [upd, show id' ≠ m2 + 24 by omega, show id' ≠ m2 + 15 by omega, show id' ≠ nx + 10 by omega]
          · repeat' (first | ((with_reducible first | refine wA (by omega) ?_ | refine wB (by omega) ?_ | refine wC (by omega) ?_ | refine wD (by omega) ?_ | refine wE ?_ ?_ | refine wF ?_ ?_ | refine wG ?_ ?_ | refine wH ?_ ?_ | refine wI ?_ ?_ | refine wJ ?_ ?_ | refine wK ?_ ?_ | refine wL ?_ ?_) <;> intro _) | (((with_reducible refine call_id ?_); (first | (refine call_pure (c1) ?_)))) | simp (maxSteps := 1000000) (disch := omega) only [go_sem, Nat.reduceAdd, Nat.reduceMul, Nat.reduceSub, Nat.reduceLeDiff, Nat.reduceEqDiff, Nat.reduceBEq, ↓reduceIte, reduceCtorEq, Int.reduceEq, Int.reduceLE, Int.reduceLT, Int.reduceAdd, Int.reduceSub, Int.reduceNeg, Int.reduceToNat, Int.reduceNe, Nat.reducePow, Nat.reduceShiftRight, Nat.reduceMod, Tm.pv, *])
            refine Nx.mk (args.length - (i2 + 1)) cE1 ⟨i2 + 1, zs ++ [y], cE1, cE1, cE1, ?mm, hzs2, Kept.mk (by simp [hzl.out]), cE1, ?rr, PV.osl (m2 + 24) 0 (i2 + 1) 5, cE1, .inr ⟨m2 + 24, cE1, cE1, cE1, cE1⟩⟩
            case mm => exact (by omega : m ≤ m2 + 30)
            case rr => exact hro.out.mono (Nat.le_refl _) fun id' h1' h2' => by simp [upd, show id' ≠ m2 + 24 by omega, show id' ≠ m2 + 15 by omega, show id' ≠ nx + 10 by omega, show id' ≠ id by omega]
      · obtain rfl : i2 = args.length := by omega
        have hzs' := hzs.out
        rw [List.take_length] at hzs'
        have hys' := hysk.out
        have hok : (Tm.mk k n s ls args).putL bys = some (.mk k n s ys zs) := by simp only [Tm.putL, hzs', hys']
        rw [hok]
        have hl1 := insts_len bys ls ys hys'
        have hl2 := putLs_len bys args zs hzs'
        rw [← hl1] at hrow2
        rw [← hl2] at hrow3
        have hr2 := Kept.mk hrow2
        have hr3 := Kept.mk hrow3
        clear hrow hzs' hys' hok hzs hzl hyl
        rcases hrow2 with ⟨h1, rfl⟩ | ⟨id1, h1, h2, rfl, h3⟩ <;> rcases hrow3 with ⟨g1, rfl⟩ | ⟨id2, g1, g2, rfl, g3⟩
        all_goals
          have h1k := Kept.mk h1
          have g1k := Kept.mk g1
          clear h1 g1 hl1 hl2
          repeat' (first | ((with_reducible first | refine wA (by omega) ?_ | refine wB (by omega) ?_ | refine wC (by omega) ?_ | refine wD (by omega) ?_ | refine wE ?_ ?_ | refine wF ?_ ?_ | refine wG ?_ ?_ | refine wH ?_ ?_ | refine wI ?_ ?_ | refine wJ ?_ ?_ | refine wK ?_ ?_ | refine wL ?_ ?_) <;> intro _) | simp (maxSteps := 1000000) (disch := omega) only [go_sem, Nat.reduceAdd, Nat.reduceMul, Nat.reduceSub, Nat.reduceLeDiff, Nat.reduceEqDiff, Nat.reduceBEq, ↓reduceIte, reduceCtorEq, Int.reduceEq, Int.reduceLE, Int.reduceLT, Int.reduceAdd, Int.reduceSub, Int.reduceNeg, Int.reduceToNat, Int.reduceNe, Nat.reducePow, Nat.reduceShiftRight, Nat.reduceMod, *])
          refine fin_ret (r0 := .tup [.agg [.sc (.int .i64 k), .sc (.int .i64 n), .sc (.string s), _, _], .sc (.bool true)]) 3 cE2 ?_
          have hH : ∀ x id, nx + 1 < id → upd H2 (nx + 1) x id = H2 id := fun x id h => upd_ne _ _ (by omega)
          rw [frz_tup_agg]
          simp only [List.map_cons, List.map_nil, optT]
          refine Weak.tup ⟨.agg ?_, .refl _, trivial⟩
          rw [Tm.pv]
          exact ⟨.of_eq (frz_sc _ _ _), .of_eq (frz_sc _ _ _), .of_eq (frz_sc _ _ _), Weak.row Lv.pv 3 pv_len (hr2.out.low (Nat.le_refl _) (Nat.le_refl _) fun id h1 h2 => hH _ id (by omega)), Weak.row Tm.pv 5 tm_len (hr3.out.low (Nat.le_refl _) (Nat.le_refl _) fun id h1 h2 => hH _ id (by omega)), trivial⟩
def levelsR (t : Tm) (bys : List Lv) : Option Tm :=
  if t.right bys.length 1125899906842624 = true then (match t.putL bys with
    | some u => if u.nodes ≤ 2000 then some u else none
    | none => none) else none
set_option maxHeartbeats 4000000 in
theorem ref04_Levels_p (t : Tm) (bys : List Lv) : PPure Tryz.prog F.ref04_Levels [.agg t.pv, lvs bys] (optT (levelsR t bys)) := by
  refine pure_by is_ref04_Levels (by simp) (optT_imm _) fun hb nx => ?_
  have hb0 : bys.length ≤ 9223372036854775807 := by simp [lvs, bndL, PV.bnd] at hb; exact hb.2.1
  have c1 := ref04_Any_p t bys.length
  by_cases hr : t.right bys.length 1125899906842624 = true
  · have hn := (right_formed hr).2.2.2.2
    rw [hr] at c1
    have c2 := ref04_levels_p bys t.size t (Nat.le_refl _) (by omega)
    cases hp : t.putL bys with
    | none =>
      have e : levelsR t bys = none := by simp [levelsR, hr, hp]
      rw [e]
      rw [hp] at c2
      simp only [optT, zeroT, lvs] at c1 c2 ⊢
      clear hr hp e hn hb
      repeat' (first | ((with_reducible first | refine wA (by omega) ?_ | refine wB (by omega) ?_ | refine wC (by omega) ?_ | refine wD (by omega) ?_ | refine wE ?_ ?_ | refine wF ?_ ?_ | refine wG ?_ ?_ | refine wH ?_ ?_ | refine wI ?_ ?_ | refine wJ ?_ ?_ | refine wK ?_ ?_ | refine wL ?_ ?_) <;> intro _) | (((with_reducible refine call_id ?_); (first | (refine call_pure (c1) ?_) | (refine call_pure (c2) ?_)))) | simp (maxSteps := 1000000) (disch := omega) only [go_sem, Nat.reduceAdd, Nat.reduceMul, Nat.reduceSub, Nat.reduceLeDiff, Nat.reduceEqDiff, Nat.reduceBEq, ↓reduceIte, reduceCtorEq, Int.reduceEq, Int.reduceLE, Int.reduceLT, Int.reduceAdd, Int.reduceSub, Int.reduceNeg, Int.reduceToNat, Int.reduceNe, Nat.reducePow, Nat.reduceShiftRight, Nat.reduceMod, mc_ref04_Levels, Tm.pv, *])
      refine fin_ret (r0 := .tup [.agg zeroT, .sc (.bool false)]) 2 cE2 ?_
      exact .of_eq (by simp [frz, zeroT, frz_sc, optT])
    | some u =>
      rw [hp] at c2
      have c3 := ref_Nodes_p 2000 (by omega) u.size u (Nat.le_refl _)
      by_cases hu : u.nodes ≤ 2000
      · have e : levelsR t bys = some u := by simp [levelsR, hr, hp, hu]
        have e1 : ((min u.nodes (2000 + 1) : Nat) : Int) = u.nodes := by omega
        rw [e]
        rw [e1] at c3
        simp only [optT, lvs] at c1 c2 c3 ⊢
        clear hr hp e hn hb e1
        repeat' (first | ((with_reducible first | refine wA (by omega) ?_ | refine wB (by omega) ?_ | refine wC (by omega) ?_ | refine wD (by omega) ?_ | refine wE ?_ ?_ | refine wF ?_ ?_ | refine wG ?_ ?_ | refine wH ?_ ?_ | refine wI ?_ ?_ | refine wJ ?_ ?_ | refine wK ?_ ?_ | refine wL ?_ ?_) <;> intro _) | (((with_reducible refine call_id ?_); (first | (refine call_pure (c1) ?_) | (refine call_pure (c2) ?_) | (refine call_pure (c3) ?_)))) | simp (maxSteps := 1000000) (disch := omega) only [go_sem, Nat.reduceAdd, Nat.reduceMul, Nat.reduceSub, Nat.reduceLeDiff, Nat.reduceEqDiff, Nat.reduceBEq, ↓reduceIte, reduceCtorEq, Int.reduceEq, Int.reduceLE, Int.reduceLT, Int.reduceAdd, Int.reduceSub, Int.reduceNeg, Int.reduceToNat, Int.reduceNe, Nat.reducePow, Nat.reduceShiftRight, Nat.reduceMod, mc_ref04_Levels, *])
        refine fin_ret (r0 := .tup [.agg u.pv, .sc (.bool true)]) 1 cE2 ?_
        exact .of_eq (by simp [frz])
      · have e : levelsR t bys = none := by simp [levelsR, hr, hp, hu]
        have e1 : ((min u.nodes (2000 + 1) : Nat) : Int) = 2001 := by omega
        rw [e]
        rw [e1] at c3
        simp only [optT, lvs] at c1 c2 c3 ⊢
        clear hr hp e hn hb e1
        repeat' (first | ((with_reducible first | refine wA (by omega) ?_ | refine wB (by omega) ?_ | refine wC (by omega) ?_ | refine wD (by omega) ?_ | refine wE ?_ ?_ | refine wF ?_ ?_ | refine wG ?_ ?_ | refine wH ?_ ?_ | refine wI ?_ ?_ | refine wJ ?_ ?_ | refine wK ?_ ?_ | refine wL ?_ ?_) <;> intro _) | (((with_reducible refine call_id ?_); (first | (refine call_pure (c1) ?_) | (refine call_pure (c2) ?_) | (refine call_pure (c3) ?_)))) | simp (maxSteps := 1000000) (disch := omega) only [go_sem, Nat.reduceAdd, Nat.reduceMul, Nat.reduceSub, Nat.reduceLeDiff, Nat.reduceEqDiff, Nat.reduceBEq, ↓reduceIte, reduceCtorEq, Int.reduceEq, Int.reduceLE, Int.reduceLT, Int.reduceAdd, Int.reduceSub, Int.reduceNeg, Int.reduceToNat, Int.reduceNe, Nat.reducePow, Nat.reduceShiftRight, Nat.reduceMod, mc_ref04_Levels, *])
        refine fin_ret (r0 := .tup [.agg zeroT, .sc (.bool false)]) 2 cE2 ?_
        exact .of_eq (by simp [frz, zeroT, frz_sc, optT])
  · have e : levelsR t bys = none := by simp [levelsR, hr]
    rw [e]
    rw [Bool.not_eq_true] at hr
    rw [hr] at c1
    simp only [lvs] at c1 ⊢
    clear hr e hb
    repeat' (first | ((with_reducible first | refine wA (by omega) ?_ | refine wB (by omega) ?_ | refine wC (by omega) ?_ | refine wD (by omega) ?_ | refine wE ?_ ?_ | refine wF ?_ ?_ | refine wG ?_ ?_ | refine wH ?_ ?_ | refine wI ?_ ?_ | refine wJ ?_ ?_ | refine wK ?_ ?_ | refine wL ?_ ?_) <;> intro _) | (((with_reducible refine call_id ?_); (first | (refine call_pure (c1) ?_)))) | simp (maxSteps := 1000000) (disch := omega) only [go_sem, Nat.reduceAdd, Nat.reduceMul, Nat.reduceSub, Nat.reduceLeDiff, Nat.reduceEqDiff, Nat.reduceBEq, ↓reduceIte, reduceCtorEq, Int.reduceEq, Int.reduceLE, Int.reduceLT, Int.reduceAdd, Int.reduceSub, Int.reduceNeg, Int.reduceToNat, Int.reduceNe, Nat.reducePow, Nat.reduceShiftRight, Nat.reduceMod, mc_ref04_Levels, *])
    refine fin_ret (r0 := .tup [.agg zeroT, .sc (.bool false)]) 2 cE2 ?_
    exact .of_eq (by simp [frz, zeroT, frz_sc, optT])
end
section
set_option maxRecDepth 20000
attribute [local go_sem] pv_len pv_take id_ne id_ne' id_ne2 List.append_assoc
def txt (s : ByteArray) : List PV := [.sc (.string s)]
theorem txt_len (s : ByteArray) : (txt s).length = 1 := rfl
theorem txt_inj {a b : ByteArray} (h : a.toList = b.toList) : a = b := by
  rw [ByteArray.toList_eq, ByteArray.toList_eq] at h
  cases a; cases b
  simp only [ByteArray.mk.injEq]
  exact Array.toList_inj.1 h
theorem SameTexts_p (xs ys : List ByteArray) : PPure Tryz.prog F.ref00_SameTexts [.sl 1 (xs.map txt), .sl 1 (ys.map txt)] (.sc (.bool (decide (xs = ys)))) := by
  refine pure_by is_ref00_SameTexts (by simp) rfl fun hb nx => ?_
  have hb0 : xs.length ≤ 9223372036854775807 ∧ ys.length ≤ 9223372036854775807 := by simp [bndL, PV.bnd] at hb; exact ⟨hb.1.1, hb.2.1⟩
  by_cases hl : xs.length = ys.length
  · repeat' (first | ((with_reducible first | refine wA (by omega) ?_ | refine wB (by omega) ?_ | refine wC (by omega) ?_ | refine wD (by omega) ?_ | refine wE ?_ ?_ | refine wF ?_ ?_ | refine wG ?_ ?_ | refine wH ?_ ?_ | refine wI ?_ ?_ | refine wJ ?_ ?_ | refine wK ?_ ?_ | refine wL ?_ ?_) <;> intro _) | simp (maxSteps := 1000000) (disch := omega) only [go_sem, Nat.reduceAdd, Nat.reduceMul, Nat.reduceSub, Nat.reduceLeDiff, Nat.reduceEqDiff, Nat.reduceBEq, ↓reduceIte, reduceCtorEq, Int.reduceEq, Int.reduceLE, Int.reduceLT, Int.reduceAdd, Int.reduceSub, Int.reduceNeg, Int.reduceToNat, Int.reduceNe, Nat.reducePow, Nat.reduceShiftRight, Nat.reduceMod, mc_ref00_SameTexts, *])
    refine c_loopW 67106864 (by kernel_rfl) (fun j f H m => ∃ i : Nat, j = xs.length - i ∧ i ≤ xs.length ∧ f 5 = .sc (.int .i64 i) ∧ Kept (xs.take i = ys.take i)) _ ⟨0, rfl, cE1, cE1, Kept.mk rfl⟩ ?_
    rintro _ f H m ⟨i, rfl, hi, e5, hs⟩
    by_cases hlt : i < xs.length
    · have eg : xs[i]? = some xs[i] := List.getElem?_eq_getElem hlt
      have hlt2 : i < ys.length := by omega
      have eg2 : ys[i]? = some ys[i] := List.getElem?_eq_getElem hlt2
      by_cases he : xs[i] = ys[i]
      · have hb : strBin .neq xs[i] ys[i] = some (.bool false) := by simp [strBin, he]
        have hs2 : Kept (xs.take (i + 1) = ys.take (i + 1)) := Kept.mk (by rw [List.take_succ_eq_append_getElem hlt, List.take_succ_eq_append_getElem hlt2, hs.out, he])
        clear he
        repeat' (first | ((with_reducible first | refine wA (by omega) ?_ | refine wB (by omega) ?_ | refine wC (by omega) ?_ | refine wD (by omega) ?_ | refine wE ?_ ?_ | refine wF ?_ ?_ | refine wG ?_ ?_ | refine wH ?_ ?_ | refine wI ?_ ?_ | refine wJ ?_ ?_ | refine wK ?_ ?_ | refine wL ?_ ?_) <;> intro _) | simp (maxSteps := 1000000) (disch := omega) only [go_sem, Nat.reduceAdd, Nat.reduceMul, Nat.reduceSub, Nat.reduceLeDiff, Nat.reduceEqDiff, Nat.reduceBEq, ↓reduceIte, reduceCtorEq, Int.reduceEq, Int.reduceLE, Int.reduceLT, Int.reduceAdd, Int.reduceSub, Int.reduceNeg, Int.reduceToNat, Int.reduceNe, Nat.reducePow, Nat.reduceShiftRight, Nat.reduceMod, txt, hb, *])
        exact Nx.mk (xs.length - (i + 1)) cE1 ⟨i + 1, cE1, cE1, cE1, hs2⟩
      · have hb : strBin .neq xs[i] ys[i] = some (.bool true) := by
          have : ¬ xs[i].toList = ys[i].toList := fun h => he (txt_inj h)
          simp [strBin, this]
        have hr : decide (xs = ys) = false := decide_eq_false fun h => he (by subst h; rfl)
        clear he
        rw [hr]
        repeat' (first | ((with_reducible first | refine wA (by omega) ?_ | refine wB (by omega) ?_ | refine wC (by omega) ?_ | refine wD (by omega) ?_ | refine wE ?_ ?_ | refine wF ?_ ?_ | refine wG ?_ ?_ | refine wH ?_ ?_ | refine wI ?_ ?_ | refine wJ ?_ ?_ | refine wK ?_ ?_ | refine wL ?_ ?_) <;> intro _) | simp (maxSteps := 1000000) (disch := omega) only [go_sem, Nat.reduceAdd, Nat.reduceMul, Nat.reduceSub, Nat.reduceLeDiff, Nat.reduceEqDiff, Nat.reduceBEq, ↓reduceIte, reduceCtorEq, Int.reduceEq, Int.reduceLE, Int.reduceLT, Int.reduceAdd, Int.reduceSub, Int.reduceNeg, Int.reduceToNat, Int.reduceNe, Nat.reducePow, Nat.reduceShiftRight, Nat.reduceMod, txt, hb, *])
        all_goals (refine fin_tmp (.inr rfl) ?_; simp [upd])
    · obtain rfl : i = xs.length := by omega
      have hr : xs = ys := by
        have := hs.out
        rw [List.take_length, hl, List.take_length] at this
        exact this
      rw [decide_eq_true hr]
      clear hr
      repeat' (first | ((with_reducible first | refine wA (by omega) ?_ | refine wB (by omega) ?_ | refine wC (by omega) ?_ | refine wD (by omega) ?_ | refine wE ?_ ?_ | refine wF ?_ ?_ | refine wG ?_ ?_ | refine wH ?_ ?_ | refine wI ?_ ?_ | refine wJ ?_ ?_ | refine wK ?_ ?_ | refine wL ?_ ?_) <;> intro _) | simp (maxSteps := 1000000) (disch := omega) only [go_sem, Nat.reduceAdd, Nat.reduceMul, Nat.reduceSub, Nat.reduceLeDiff, Nat.reduceEqDiff, Nat.reduceBEq, ↓reduceIte, reduceCtorEq, Int.reduceEq, Int.reduceLE, Int.reduceLT, Int.reduceAdd, Int.reduceSub, Int.reduceNeg, Int.reduceToNat, Int.reduceNe, Nat.reducePow, Nat.reduceShiftRight, Nat.reduceMod, txt, *])
      all_goals (refine fin_tmp (.inr rfl) ?_; simp [upd])
  · have hr : decide (xs = ys) = false := decide_eq_false fun h => hl (by rw [h])
    rw [hr]
    clear hr
    repeat' (first | ((with_reducible first | refine wA (by omega) ?_ | refine wB (by omega) ?_ | refine wC (by omega) ?_ | refine wD (by omega) ?_ | refine wE ?_ ?_ | refine wF ?_ ?_ | refine wG ?_ ?_ | refine wH ?_ ?_ | refine wI ?_ ?_ | refine wJ ?_ ?_ | refine wK ?_ ?_ | refine wL ?_ ?_) <;> intro _) | simp (maxSteps := 1000000) (disch := omega) only [go_sem, Nat.reduceAdd, Nat.reduceMul, Nat.reduceSub, Nat.reduceLeDiff, Nat.reduceEqDiff, Nat.reduceBEq, ↓reduceIte, reduceCtorEq, Int.reduceEq, Int.reduceLE, Int.reduceLT, Int.reduceAdd, Int.reduceSub, Int.reduceNeg, Int.reduceToNat, Int.reduceNe, Nat.reducePow, Nat.reduceShiftRight, Nat.reduceMod, mc_ref00_SameTexts, *])
    all_goals (refine fin_tmp (.inr rfl) ?_; simp [upd])
end
section
set_option maxRecDepth 20000
attribute [local go_sem] pv_len pv_take Nat.add_assoc tm_len tm_take pv_one tm_one id_ne id_ne' id_ne2 List.append_assoc tm_take_app tm_drop_app
structure Ent where
  kind : Int
  params : Int
  name : ByteArray
  typ : Tm
  val : Tm
  height : Int
  family : ByteArray
  fixed : Int
  index : Int
  fields : Int
  ctors : List ByteArray
def Ent.pv (e : Ent) : List PV := .sc (.int .i64 e.kind) :: .sc (.int .i64 e.params) :: .sc (.string e.name) :: (e.typ.pv ++ (e.val.pv ++ [.sc (.int .i64 e.height), .sc (.string e.family), .sc (.int .i64 e.fixed), .sc (.int .i64 e.index), .sc (.int .i64 e.fields), .sl 1 (e.ctors.map txt)]))
theorem ent_len (e : Ent) : e.pv.length = 19 := by simp [Ent.pv, tm_len]
attribute [local go_sem] ent_len
theorem ent_take (e : Ent) : e.pv.take 19 = e.pv := List.take_of_length_le (by rw [ent_len]; omega)
attribute [local go_sem] ent_take
theorem ent_one (e : Ent) : e.pv.all PV.one = true := by simp [Ent.pv, tm_one, PV.one]
attribute [local go_sem] ent_one
theorem tm_d6 (t : Tm) (r : List PV) : (t.pv ++ r).drop 6 = r.drop 1 := by rw [show 6 = 5 + 1 by rfl, ← List.drop_drop, List.drop_left' (tm_len t)]
attribute [local go_sem] tm_d6
theorem tm_d7 (t : Tm) (r : List PV) : (t.pv ++ r).drop 7 = r.drop 2 := by rw [show 7 = 5 + 2 by rfl, ← List.drop_drop, List.drop_left' (tm_len t)]
attribute [local go_sem] tm_d7
theorem tm_d8 (t : Tm) (r : List PV) : (t.pv ++ r).drop 8 = r.drop 3 := by rw [show 8 = 5 + 3 by rfl, ← List.drop_drop, List.drop_left' (tm_len t)]
attribute [local go_sem] tm_d8
theorem tm_d9 (t : Tm) (r : List PV) : (t.pv ++ r).drop 9 = r.drop 4 := by rw [show 9 = 5 + 4 by rfl, ← List.drop_drop, List.drop_left' (tm_len t)]
attribute [local go_sem] tm_d9
theorem tm_d10 (t : Tm) (r : List PV) : (t.pv ++ r).drop 10 = r.drop 5 := by rw [show 10 = 5 + 5 by rfl, ← List.drop_drop, List.drop_left' (tm_len t)]
attribute [local go_sem] tm_d10
theorem tm_d11 (t : Tm) (r : List PV) : (t.pv ++ r).drop 11 = r.drop 6 := by rw [show 11 = 5 + 6 by rfl, ← List.drop_drop, List.drop_left' (tm_len t)]
theorem tm_d12 (t : Tm) (r : List PV) : (t.pv ++ r).drop 12 = r.drop 7 := by rw [show 12 = 5 + 7 by rfl, ← List.drop_drop, List.drop_left' (tm_len t)]
theorem tm_d13 (t : Tm) (r : List PV) : (t.pv ++ r).drop 13 = r.drop 8 := by rw [show 13 = 5 + 8 by rfl, ← List.drop_drop, List.drop_left' (tm_len t)]
theorem tm_d14 (t : Tm) (r : List PV) : (t.pv ++ r).drop 14 = r.drop 9 := by rw [show 14 = 5 + 9 by rfl, ← List.drop_drop, List.drop_left' (tm_len t)]
theorem tm_d15 (t : Tm) (r : List PV) : (t.pv ++ r).drop 15 = r.drop 10 := by rw [show 15 = 5 + 10 by rfl, ← List.drop_drop, List.drop_left' (tm_len t)]
mutual
theorem dlv_false : ∀ l : Lv, l.pvB false = l.pv
  | .mk k n args => by simp only [Lv.pvB, Lv.pv, slB, dlvs_false args]; rfl
theorem dlvs_false : ∀ ls : List Lv, ls.map (Lv.pvB false) = ls.map Lv.pv
  | [] => rfl
  | x :: r => by rw [List.map_cons, List.map_cons, dlv_false x, dlvs_false r]
end
mutual
theorem dtv_false : ∀ t : Tm, t.pvB false = t.pv
  | .mk k n s ls args => by simp only [Tm.pvB, Tm.pv, slB, dlvs_false ls, dtvs_false args]; rfl
theorem dtvs_false : ∀ ts : List Tm, ts.map (Tm.pvB false) = ts.map Tm.pv
  | [] => rfl
  | x :: r => by rw [List.map_cons, List.map_cons, dtv_false x, dtvs_false r]
end
def noTm : Tm := .mk 0 0 emp [] []
def noughtB (t : Tm) : Bool := t.same noTm
def valueB (e : Ent) : Bool := if e.kind = 2 ∨ e.kind = 3 ∨ e.kind = 4 then e.val.right e.params 0 else if e.kind = 6 then noughtB e.val || e.val.right (min (e.params + 1) 4) 0 else noughtB e.val
def heightB (e : Ent) : Bool := if e.kind = 2 then decide (1 ≤ e.height) && decide (e.height ≤ 1048576) else decide (e.height = 0)
theorem nought_p (t : Tm) : PPure Tryz.prog F.decl_nought [.agg t.pv] (.sc (.bool (noughtB t))) := by
  refine pure_by is_decl_nought (by simp) rfl fun hb nx => ?_
  clear hb
  have c1 : PPure Tryz.prog F.term_Same [.agg t.pv, .agg [.sc (.int .i64 0), .sc (.int .i64 0), .sc (.string ⟨#[]⟩), .sc (.slice none 0 0), .sc (.slice none 0 0)]] (.sc (.bool (noughtB t))) := by
    have h := tSame_p t noTm false true rfl
    refine h.weak ⟨.of_eq (by rw [dtv_false]), ?_, trivial⟩ (.refl _)
    simp only [noTm, Tm.pvB, List.map_nil]
    exact Weak.agg ⟨.refl _, .refl _, .refl _, .nilB true 3, .nilB true 5, trivial⟩
  repeat' (first | ((with_reducible first | refine wA (by omega) ?_ | refine wB (by omega) ?_ | refine wC (by omega) ?_ | refine wD (by omega) ?_ | refine wE ?_ ?_ | refine wF ?_ ?_ | refine wG ?_ ?_ | refine wH ?_ ?_ | refine wI ?_ ?_ | refine wJ ?_ ?_ | refine wK ?_ ?_ | refine wL ?_ ?_) <;> intro _) | (((with_reducible refine call_id ?_); (first | (refine call_pure (c1) ?_)))) | simp (maxSteps := 1000000) (disch := omega) only [go_sem, Nat.reduceAdd, Nat.reduceMul, Nat.reduceSub, Nat.reduceLeDiff, Nat.reduceEqDiff, Nat.reduceBEq, ↓reduceIte, reduceCtorEq, Int.reduceEq, Int.reduceLE, Int.reduceLT, Int.reduceAdd, Int.reduceSub, Int.reduceNeg, Int.reduceToNat, Int.reduceNe, Nat.reducePow, Nat.reduceShiftRight, Nat.reduceMod, mc_decl_nought, *])
  all_goals (exact fin_tmp (.inr rfl) cE3)
theorem height_p (e : Ent) : PPure Tryz.prog F.decl_height [.ptr e.pv] (.sc (.bool (heightB e))) := by
  obtain ⟨kind, params, name, typ, val, height, family, fixed, index, fields, ctors⟩ := e
  refine pure_by is_decl_height (by simp) rfl fun hb nx => ?_
  clear hb
  simp only [heightB]
  repeat' (first | ((with_reducible first | refine wA (by omega) ?_ | refine wB (by omega) ?_ | refine wC (by omega) ?_ | refine wD (by omega) ?_ | refine wE ?_ ?_ | refine wF ?_ ?_ | refine wG ?_ ?_ | refine wH ?_ ?_ | refine wI ?_ ?_ | refine wJ ?_ ?_ | refine wK ?_ ?_ | refine wL ?_ ?_) <;> intro _) | simp (maxSteps := 1000000) (disch := omega) only [go_sem, Nat.reduceAdd, Nat.reduceMul, Nat.reduceSub, Nat.reduceLeDiff, Nat.reduceEqDiff, Nat.reduceBEq, ↓reduceIte, reduceCtorEq, Int.reduceEq, Int.reduceLE, Int.reduceLT, Int.reduceAdd, Int.reduceSub, Int.reduceNeg, Int.reduceToNat, Int.reduceNe, Nat.reducePow, Nat.reduceShiftRight, Nat.reduceMod, mc_decl_height, Ent.pv, tm_d11, tm_d12, tm_d13, tm_d14, tm_d15, *])
  all_goals (refine fin_tmp (.inr rfl) ?_; simp [upd, *] <;> omega)
end
section
set_option maxRecDepth 20000
attribute [local go_sem] pv_len pv_take Nat.add_assoc tm_len tm_take pv_one tm_one id_ne id_ne' id_ne2 List.append_assoc tm_take_app tm_drop_app tm_d6 tm_d7 tm_d8 tm_d9 tm_d10 tm_d11 tm_d12 tm_d13 tm_d14 tm_d15 ent_len ent_take ent_one
theorem value_p (e : Ent) (hp : 0 ≤ e.params ∧ e.params ≤ 4) : PPure Tryz.prog F.decl_value [.ptr e.pv] (.sc (.bool (valueB e))) := by
  obtain ⟨kind, params, name, typ, val, height, family, fixed, index, fields, ctors⟩ := e
  refine pure_by is_decl_value (by simp) rfl fun hb nx => ?_
  clear hb
  simp only [valueB]
  simp only at hp
  have c1 := tRightG_p val params 0
  have c2 := nought_p val
  have c3 := tRightG_p val (min (params + 1) 4) 0
  by_cases k234 : kind = 2 ∨ kind = 3 ∨ kind = 4
  · rw [if_pos k234]
    rcases k234 with rfl | rfl | rfl
    all_goals
      repeat' (first | ((with_reducible first | refine wA (by omega) ?_ | refine wB (by omega) ?_ | refine wC (by omega) ?_ | refine wD (by omega) ?_ | refine wE ?_ ?_ | refine wF ?_ ?_ | refine wG ?_ ?_ | refine wH ?_ ?_ | refine wI ?_ ?_ | refine wJ ?_ ?_ | refine wK ?_ ?_ | refine wL ?_ ?_) <;> intro _) | (((with_reducible refine call_id ?_); (first | (refine call_pure (c1) ?_)))) | simp (maxSteps := 1000000) (disch := omega) only [go_sem, Nat.reduceAdd, Nat.reduceMul, Nat.reduceSub, Nat.reduceLeDiff, Nat.reduceEqDiff, Nat.reduceBEq, ↓reduceIte, reduceCtorEq, Int.reduceEq, Int.reduceLE, Int.reduceLT, Int.reduceAdd, Int.reduceSub, Int.reduceNeg, Int.reduceToNat, Int.reduceNe, Nat.reducePow, Nat.reduceShiftRight, Nat.reduceMod, mc_decl_value, Ent.pv, *])
      all_goals (exact fin_tmp (.inr rfl) cE3)
  · rw [if_neg k234]
    have k2 : kind ≠ 2 := fun h => k234 (.inl h)
    have k3 : kind ≠ 3 := fun h => k234 (.inr (.inl h))
    have k4 : kind ≠ 4 := fun h => k234 (.inr (.inr h))
    clear k234
    by_cases k6 : kind = 6
    · subst k6
      rw [if_pos rfl]
      cases hn : noughtB val with
      | true =>
        rw [hn] at c2
        clear hn
        repeat' (first | ((with_reducible first | refine wA (by omega) ?_ | refine wB (by omega) ?_ | refine wC (by omega) ?_ | refine wD (by omega) ?_ | refine wE ?_ ?_ | refine wF ?_ ?_ | refine wG ?_ ?_ | refine wH ?_ ?_ | refine wI ?_ ?_ | refine wJ ?_ ?_ | refine wK ?_ ?_ | refine wL ?_ ?_) <;> intro _) | (((with_reducible refine call_id ?_); (first | (refine call_pure (c2) ?_)))) | simp (maxSteps := 1000000) (disch := omega) only [go_sem, Nat.reduceAdd, Nat.reduceMul, Nat.reduceSub, Nat.reduceLeDiff, Nat.reduceEqDiff, Nat.reduceBEq, ↓reduceIte, reduceCtorEq, Int.reduceEq, Int.reduceLE, Int.reduceLT, Int.reduceAdd, Int.reduceSub, Int.reduceNeg, Int.reduceToNat, Int.reduceNe, Nat.reducePow, Nat.reduceShiftRight, Nat.reduceMod, mc_decl_value, Ent.pv, *])
        all_goals (exact fin_tmp (.inr rfl) cE3)
      | false =>
        rw [hn] at c2
        clear hn
        repeat' (first | ((with_reducible first | refine wA (by omega) ?_ | refine wB (by omega) ?_ | refine wC (by omega) ?_ | refine wD (by omega) ?_ | refine wE ?_ ?_ | refine wF ?_ ?_ | refine wG ?_ ?_ | refine wH ?_ ?_ | refine wI ?_ ?_ | refine wJ ?_ ?_ | refine wK ?_ ?_ | refine wL ?_ ?_) <;> intro _) | (((with_reducible refine call_id ?_); (first | (refine call_pure (c2) ?_) | (refine call_pure (c3) ?_)))) | simp (maxSteps := 1000000) (disch := omega) only [go_sem, Nat.reduceAdd, Nat.reduceMul, Nat.reduceSub, Nat.reduceLeDiff, Nat.reduceEqDiff, Nat.reduceBEq, ↓reduceIte, reduceCtorEq, Int.reduceEq, Int.reduceLE, Int.reduceLT, Int.reduceAdd, Int.reduceSub, Int.reduceNeg, Int.reduceToNat, Int.reduceNe, Nat.reducePow, Nat.reduceShiftRight, Nat.reduceMod, mc_decl_value, Ent.pv, *])
        all_goals (exact fin_tmp (.inr rfl) cE3)
    · rw [if_neg k6]
      repeat' (first | ((with_reducible first | refine wA (by omega) ?_ | refine wB (by omega) ?_ | refine wC (by omega) ?_ | refine wD (by omega) ?_ | refine wE ?_ ?_ | refine wF ?_ ?_ | refine wG ?_ ?_ | refine wH ?_ ?_ | refine wI ?_ ?_ | refine wJ ?_ ?_ | refine wK ?_ ?_ | refine wL ?_ ?_) <;> intro _) | (((with_reducible refine call_id ?_); (first | (refine call_pure (c2) ?_)))) | simp (maxSteps := 1000000) (disch := omega) only [go_sem, Nat.reduceAdd, Nat.reduceMul, Nat.reduceSub, Nat.reduceLeDiff, Nat.reduceEqDiff, Nat.reduceBEq, ↓reduceIte, reduceCtorEq, Int.reduceEq, Int.reduceLE, Int.reduceLT, Int.reduceAdd, Int.reduceSub, Int.reduceNeg, Int.reduceToNat, Int.reduceNe, Nat.reducePow, Nat.reduceShiftRight, Nat.reduceMod, mc_decl_value, Ent.pv, *])
      all_goals (exact fin_tmp (.inr rfl) cE3)
def spanB (n most : Int) : Bool := decide (0 ≤ n) && decide (n ≤ most)
def most1 (kind : Int) : Int := if kind = 6 ∨ kind = 7 then 32 else if kind = 5 then 16 else 0
def most2 (kind : Int) : Int := if kind = 6 ∨ kind = 7 then 32 else 0
def familyB (e : Ent) : Bool := (spanB e.fixed (most1 e.kind) && (spanB e.index (most2 e.kind) && spanB e.fields (most2 e.kind))) && (if e.kind = 6 ∨ e.kind = 7 then nameB e.family else noS e.family)
set_option maxHeartbeats 4000000 in
theorem family_p (e : Ent) : PPure Tryz.prog F.decl_family [.ptr e.pv] (.sc (.bool (familyB e))) := by
  obtain ⟨kind, params, name, typ, val, height, family, fixed, index, fields, ctors⟩ := e
  refine pure_by is_decl_family (by simp) rfl fun hb nx => ?_
  clear hb
  simp only [familyB]
  have c1 := name_Right_p family
  by_cases k6 : kind = 6
  · subst k6
    repeat' (first | ((with_reducible first | refine wA (by omega) ?_ | refine wB (by omega) ?_ | refine wC (by omega) ?_ | refine wD (by omega) ?_ | refine wE ?_ ?_ | refine wF ?_ ?_ | refine wG ?_ ?_ | refine wH ?_ ?_ | refine wI ?_ ?_ | refine wJ ?_ ?_ | refine wK ?_ ?_ | refine wL ?_ ?_) <;> intro _) | simp (maxSteps := 1000000) (disch := omega) only [go_sem, Nat.reduceAdd, Nat.reduceMul, Nat.reduceSub, Nat.reduceLeDiff, Nat.reduceEqDiff, Nat.reduceBEq, ↓reduceIte, reduceCtorEq, Int.reduceEq, Int.reduceLE, Int.reduceLT, Int.reduceAdd, Int.reduceSub, Int.reduceNeg, Int.reduceToNat, Int.reduceNe, Nat.reducePow, Nat.reduceShiftRight, Nat.reduceMod, mc_decl_family, Ent.pv, *])
    refine c_rounds 4 ?_
    repeat' (first | ((with_reducible first | refine wA (by omega) ?_ | refine wB (by omega) ?_ | refine wC (by omega) ?_ | refine wD (by omega) ?_ | refine wE ?_ ?_ | refine wF ?_ ?_ | refine wG ?_ ?_ | refine wH ?_ ?_ | refine wI ?_ ?_ | refine wJ ?_ ?_ | refine wK ?_ ?_ | refine wL ?_ ?_) <;> intro _) | (((with_reducible refine call_id ?_); (first | (refine call_pure (c1) ?_)))) | simp (maxSteps := 1000000) (disch := omega) only [go_sem, Nat.reduceAdd, Nat.reduceMul, Nat.reduceSub, Nat.reduceLeDiff, Nat.reduceEqDiff, Nat.reduceBEq, ↓reduceIte, reduceCtorEq, Int.reduceEq, Int.reduceLE, Int.reduceLT, Int.reduceAdd, Int.reduceSub, Int.reduceNeg, Int.reduceToNat, Int.reduceNe, Nat.reducePow, Nat.reduceShiftRight, Nat.reduceMod, rounds_next, *])
    all_goals (refine fin_tmp (.inr rfl) ?_; simp [upd, spanB, most1, most2, *] <;> omega)
  by_cases k7 : kind = 7
  · subst k7
    repeat' (first | ((with_reducible first | refine wA (by omega) ?_ | refine wB (by omega) ?_ | refine wC (by omega) ?_ | refine wD (by omega) ?_ | refine wE ?_ ?_ | refine wF ?_ ?_ | refine wG ?_ ?_ | refine wH ?_ ?_ | refine wI ?_ ?_ | refine wJ ?_ ?_ | refine wK ?_ ?_ | refine wL ?_ ?_) <;> intro _) | simp (maxSteps := 1000000) (disch := omega) only [go_sem, Nat.reduceAdd, Nat.reduceMul, Nat.reduceSub, Nat.reduceLeDiff, Nat.reduceEqDiff, Nat.reduceBEq, ↓reduceIte, reduceCtorEq, Int.reduceEq, Int.reduceLE, Int.reduceLT, Int.reduceAdd, Int.reduceSub, Int.reduceNeg, Int.reduceToNat, Int.reduceNe, Nat.reducePow, Nat.reduceShiftRight, Nat.reduceMod, mc_decl_family, Ent.pv, *])
    refine c_rounds 4 ?_
    repeat' (first | ((with_reducible first | refine wA (by omega) ?_ | refine wB (by omega) ?_ | refine wC (by omega) ?_ | refine wD (by omega) ?_ | refine wE ?_ ?_ | refine wF ?_ ?_ | refine wG ?_ ?_ | refine wH ?_ ?_ | refine wI ?_ ?_ | refine wJ ?_ ?_ | refine wK ?_ ?_ | refine wL ?_ ?_) <;> intro _) | (((with_reducible refine call_id ?_); (first | (refine call_pure (c1) ?_)))) | simp (maxSteps := 1000000) (disch := omega) only [go_sem, Nat.reduceAdd, Nat.reduceMul, Nat.reduceSub, Nat.reduceLeDiff, Nat.reduceEqDiff, Nat.reduceBEq, ↓reduceIte, reduceCtorEq, Int.reduceEq, Int.reduceLE, Int.reduceLT, Int.reduceAdd, Int.reduceSub, Int.reduceNeg, Int.reduceToNat, Int.reduceNe, Nat.reducePow, Nat.reduceShiftRight, Nat.reduceMod, rounds_next, *])
    all_goals (refine fin_tmp (.inr rfl) ?_; simp [upd, spanB, most1, most2, *] <;> omega)
  by_cases k5 : kind = 5
  · subst k5
    repeat' (first | ((with_reducible first | refine wA (by omega) ?_ | refine wB (by omega) ?_ | refine wC (by omega) ?_ | refine wD (by omega) ?_ | refine wE ?_ ?_ | refine wF ?_ ?_ | refine wG ?_ ?_ | refine wH ?_ ?_ | refine wI ?_ ?_ | refine wJ ?_ ?_ | refine wK ?_ ?_ | refine wL ?_ ?_) <;> intro _) | simp (maxSteps := 1000000) (disch := omega) only [go_sem, Nat.reduceAdd, Nat.reduceMul, Nat.reduceSub, Nat.reduceLeDiff, Nat.reduceEqDiff, Nat.reduceBEq, ↓reduceIte, reduceCtorEq, Int.reduceEq, Int.reduceLE, Int.reduceLT, Int.reduceAdd, Int.reduceSub, Int.reduceNeg, Int.reduceToNat, Int.reduceNe, Nat.reducePow, Nat.reduceShiftRight, Nat.reduceMod, mc_decl_family, Ent.pv, strBin, fold_noS, *])
    refine c_rounds 4 ?_
    repeat' (first | ((with_reducible first | refine wA (by omega) ?_ | refine wB (by omega) ?_ | refine wC (by omega) ?_ | refine wD (by omega) ?_ | refine wE ?_ ?_ | refine wF ?_ ?_ | refine wG ?_ ?_ | refine wH ?_ ?_ | refine wI ?_ ?_ | refine wJ ?_ ?_ | refine wK ?_ ?_ | refine wL ?_ ?_) <;> intro _) | simp (maxSteps := 1000000) (disch := omega) only [go_sem, Nat.reduceAdd, Nat.reduceMul, Nat.reduceSub, Nat.reduceLeDiff, Nat.reduceEqDiff, Nat.reduceBEq, ↓reduceIte, reduceCtorEq, Int.reduceEq, Int.reduceLE, Int.reduceLT, Int.reduceAdd, Int.reduceSub, Int.reduceNeg, Int.reduceToNat, Int.reduceNe, Nat.reducePow, Nat.reduceShiftRight, Nat.reduceMod, rounds_next, strBin, fold_noS, *])
    all_goals (refine fin_tmp (.inr rfl) ?_; simp [upd, spanB, most1, most2, *] <;> omega)
  · repeat' (first | ((with_reducible first | refine wA (by omega) ?_ | refine wB (by omega) ?_ | refine wC (by omega) ?_ | refine wD (by omega) ?_ | refine wE ?_ ?_ | refine wF ?_ ?_ | refine wG ?_ ?_ | refine wH ?_ ?_ | refine wI ?_ ?_ | refine wJ ?_ ?_ | refine wK ?_ ?_ | refine wL ?_ ?_) <;> intro _) | simp (maxSteps := 1000000) (disch := omega) only [go_sem, Nat.reduceAdd, Nat.reduceMul, Nat.reduceSub, Nat.reduceLeDiff, Nat.reduceEqDiff, Nat.reduceBEq, ↓reduceIte, reduceCtorEq, Int.reduceEq, Int.reduceLE, Int.reduceLT, Int.reduceAdd, Int.reduceSub, Int.reduceNeg, Int.reduceToNat, Int.reduceNe, Nat.reducePow, Nat.reduceShiftRight, Nat.reduceMod, mc_decl_family, Ent.pv, strBin, fold_noS, *])
    refine c_rounds 4 ?_
    repeat' (first | ((with_reducible first | refine wA (by omega) ?_ | refine wB (by omega) ?_ | refine wC (by omega) ?_ | refine wD (by omega) ?_ | refine wE ?_ ?_ | refine wF ?_ ?_ | refine wG ?_ ?_ | refine wH ?_ ?_ | refine wI ?_ ?_ | refine wJ ?_ ?_ | refine wK ?_ ?_ | refine wL ?_ ?_) <;> intro _) | simp (maxSteps := 1000000) (disch := omega) only [go_sem, Nat.reduceAdd, Nat.reduceMul, Nat.reduceSub, Nat.reduceLeDiff, Nat.reduceEqDiff, Nat.reduceBEq, ↓reduceIte, reduceCtorEq, Int.reduceEq, Int.reduceLE, Int.reduceLT, Int.reduceAdd, Int.reduceSub, Int.reduceNeg, Int.reduceToNat, Int.reduceNe, Nat.reducePow, Nat.reduceShiftRight, Nat.reduceMod, rounds_next, strBin, fold_noS, *])
    all_goals (refine fin_tmp (.inr rfl) ?_; simp [upd, spanB, most1, most2, *] <;> omega)
def idxF {α : Type} (p : α → Bool) : List α → Nat → Int
  | [], _ => -1
  | x :: r, i => if p x = true then (i : Int) else idxF p r (i + 1)
theorem idxF_any {α : Type} (p : α → Bool) : ∀ (xs : List α) (i : Nat), decide (0 ≤ idxF p xs i) = xs.any p
  | [], i => by simp [idxF]
  | x :: r, i => by
    simp only [idxF, List.any_cons]
    by_cases h : p x = true
    · simp [h]
    · rw [Bool.not_eq_true] at h
      simpa [h] using idxF_any p r (i + 1)
theorem wrong_p (s : ByteArray) : PPure Tryz.prog F.decl_ctors_1 [.sc (.string s)] (.sc (.bool (!nameB s))) := by
  refine pure_by is_decl_ctors_1 (by simp) rfl fun hb nx => ?_
  clear hb
  have c1 := name_Right_p s
  repeat' (first | ((with_reducible first | refine wA (by omega) ?_ | refine wB (by omega) ?_ | refine wC (by omega) ?_ | refine wD (by omega) ?_ | refine wE ?_ ?_ | refine wF ?_ ?_ | refine wG ?_ ?_ | refine wH ?_ ?_ | refine wI ?_ ?_ | refine wJ ?_ ?_ | refine wK ?_ ?_ | refine wL ?_ ?_) <;> intro _) | (((with_reducible refine call_id ?_); (first | (refine call_pure (c1) ?_)))) | simp (maxSteps := 1000000) (disch := omega) only [go_sem, Nat.reduceAdd, Nat.reduceMul, Nat.reduceSub, Nat.reduceLeDiff, Nat.reduceEqDiff, Nat.reduceBEq, ↓reduceIte, reduceCtorEq, Int.reduceEq, Int.reduceLE, Int.reduceLT, Int.reduceAdd, Int.reduceSub, Int.reduceNeg, Int.reduceToNat, Int.reduceNe, Nat.reducePow, Nat.reduceShiftRight, Nat.reduceMod, mc_decl_ctors_1, *])
  all_goals (exact fin_tmp (.inr rfl) cE3)
theorem indexW_p (xs : List ByteArray) : PPure Tryz.prog F.slices_IndexFunc_string_string [.sl 1 (xs.map txt), .fn F.decl_ctors_1 []] (.sc (.int .i64 (idxF (fun s => !nameB s) xs 0))) := by
  refine pure_by is_slices_IndexFunc_string_string (by simp) rfl fun hb nx => ?_
  have hb0 : xs.length ≤ 9223372036854775807 := by simp [bndL, PV.bnd] at hb; exact hb.1
  clear hb
  repeat' (first | ((with_reducible first | refine wA (by omega) ?_ | refine wB (by omega) ?_ | refine wC (by omega) ?_ | refine wD (by omega) ?_ | refine wE ?_ ?_ | refine wF ?_ ?_ | refine wG ?_ ?_ | refine wH ?_ ?_ | refine wI ?_ ?_ | refine wJ ?_ ?_ | refine wK ?_ ?_ | refine wL ?_ ?_) <;> intro _) | simp (maxSteps := 1000000) (disch := omega) only [go_sem, Nat.reduceAdd, Nat.reduceMul, Nat.reduceSub, Nat.reduceLeDiff, Nat.reduceEqDiff, Nat.reduceBEq, ↓reduceIte, reduceCtorEq, Int.reduceEq, Int.reduceLE, Int.reduceLT, Int.reduceAdd, Int.reduceSub, Int.reduceNeg, Int.reduceToNat, Int.reduceNe, Nat.reducePow, Nat.reduceShiftRight, Nat.reduceMod, mc_slices_IndexFunc_string_string, *])
  refine c_loopW 524080 (by kernel_rfl) (fun j f H m => ∃ i : Nat, j = xs.length - i ∧ i ≤ xs.length ∧ f 8 = .sc (.int .i64 i) ∧ Kept (idxF (fun s => !nameB s) xs 0 = idxF (fun s => !nameB s) (xs.drop i) i)) _ ⟨0, rfl, Nat.zero_le _, cE1, Kept.mk (by rw [List.drop_zero])⟩ ?_
  rintro _ f H m ⟨i, rfl, hi, e8, hs⟩
  by_cases hlt : i < xs.length
  · have eg : xs[i]? = some xs[i] := List.getElem?_eq_getElem hlt
    have c1 := wrong_p xs[i]
    have hs2 := hs.out
    rw [List.drop_eq_getElem_cons hlt, idxF] at hs2
    cases hx : !nameB xs[i] with
    | true =>
      rw [hx] at c1 hs2
      rw [hs2]
      clear hs hs2 hx
      repeat' (first | ((with_reducible first | refine wA (by omega) ?_ | refine wB (by omega) ?_ | refine wC (by omega) ?_ | refine wD (by omega) ?_ | refine wE ?_ ?_ | refine wF ?_ ?_ | refine wG ?_ ?_ | refine wH ?_ ?_ | refine wI ?_ ?_ | refine wJ ?_ ?_ | refine wK ?_ ?_ | refine wL ?_ ?_) <;> intro _) | (((with_reducible refine call_id ?_); (first | (refine call_pure (c1) ?_)))) | simp (maxSteps := 1000000) (disch := omega) only [go_sem, Nat.reduceAdd, Nat.reduceMul, Nat.reduceSub, Nat.reduceLeDiff, Nat.reduceEqDiff, Nat.reduceBEq, ↓reduceIte, reduceCtorEq, Int.reduceEq, Int.reduceLE, Int.reduceLT, Int.reduceAdd, Int.reduceSub, Int.reduceNeg, Int.reduceToNat, Int.reduceNe, Nat.reducePow, Nat.reduceShiftRight, Nat.reduceMod, txt, *])
      all_goals (exact fin_tmp (.inr rfl) cE3)
    | false =>
      rw [hx] at c1 hs2
      have hs3 := Kept.mk hs2
      clear hs hs2 hx
      repeat' (first | ((with_reducible first | refine wA (by omega) ?_ | refine wB (by omega) ?_ | refine wC (by omega) ?_ | refine wD (by omega) ?_ | refine wE ?_ ?_ | refine wF ?_ ?_ | refine wG ?_ ?_ | refine wH ?_ ?_ | refine wI ?_ ?_ | refine wJ ?_ ?_ | refine wK ?_ ?_ | refine wL ?_ ?_) <;> intro _) | (((with_reducible refine call_id ?_); (first | (refine call_pure (c1) ?_)))) | simp (maxSteps := 1000000) (disch := omega) only [go_sem, Nat.reduceAdd, Nat.reduceMul, Nat.reduceSub, Nat.reduceLeDiff, Nat.reduceEqDiff, Nat.reduceBEq, ↓reduceIte, reduceCtorEq, Int.reduceEq, Int.reduceLE, Int.reduceLT, Int.reduceAdd, Int.reduceSub, Int.reduceNeg, Int.reduceToNat, Int.reduceNe, Nat.reducePow, Nat.reduceShiftRight, Nat.reduceMod, txt, *])
      exact Nx.mk (xs.length - (i + 1)) cE1 ⟨i + 1, rfl, cE1, by simp [upd], hs3⟩
  · obtain rfl : i = xs.length := by omega
    have hs2 := hs.out
    rw [List.drop_length, idxF] at hs2
    rw [hs2]
    clear hs hs2
    repeat' (first | ((with_reducible first | refine wA (by omega) ?_ | refine wB (by omega) ?_ | refine wC (by omega) ?_ | refine wD (by omega) ?_ | refine wE ?_ ?_ | refine wF ?_ ?_ | refine wG ?_ ?_ | refine wH ?_ ?_ | refine wI ?_ ?_ | refine wJ ?_ ?_ | refine wK ?_ ?_ | refine wL ?_ ?_) <;> intro _) | simp (maxSteps := 1000000) (disch := omega) only [go_sem, Nat.reduceAdd, Nat.reduceMul, Nat.reduceSub, Nat.reduceLeDiff, Nat.reduceEqDiff, Nat.reduceBEq, ↓reduceIte, reduceCtorEq, Int.reduceEq, Int.reduceLE, Int.reduceLT, Int.reduceAdd, Int.reduceSub, Int.reduceNeg, Int.reduceToNat, Int.reduceNe, Nat.reducePow, Nat.reduceShiftRight, Nat.reduceMod, *])
    all_goals (exact fin_tmp (.inr rfl) cE3)
theorem containsW_p (xs : List ByteArray) : PPure Tryz.prog F.slices_ContainsFunc_string_string [.sl 1 (xs.map txt), .fn F.decl_ctors_1 []] (.sc (.bool (xs.any fun s => !nameB s))) := by
  refine pure_by is_slices_ContainsFunc_string_string (by simp) rfl fun hb nx => ?_
  clear hb
  have c1 := indexW_p xs
  rw [← idxF_any _ xs 0]
  repeat' (first | ((with_reducible first | refine wA (by omega) ?_ | refine wB (by omega) ?_ | refine wC (by omega) ?_ | refine wD (by omega) ?_ | refine wE ?_ ?_ | refine wF ?_ ?_ | refine wG ?_ ?_ | refine wH ?_ ?_ | refine wI ?_ ?_ | refine wJ ?_ ?_ | refine wK ?_ ?_ | refine wL ?_ ?_) <;> intro _) | (((with_reducible refine call_id ?_); (first | (refine call_pure (c1) ?_)))) | simp (maxSteps := 1000000) (disch := omega) only [go_sem, Nat.reduceAdd, Nat.reduceMul, Nat.reduceSub, Nat.reduceLeDiff, Nat.reduceEqDiff, Nat.reduceBEq, ↓reduceIte, reduceCtorEq, Int.reduceEq, Int.reduceLE, Int.reduceLT, Int.reduceAdd, Int.reduceSub, Int.reduceNeg, Int.reduceToNat, Int.reduceNe, Nat.reducePow, Nat.reduceShiftRight, Nat.reduceMod, mc_slices_ContainsFunc_string_string, *])
  all_goals (exact fin_tmp (.inr rfl) cE3)
def ctorsB (e : Ent) : Bool := if e.kind = 5 ∨ e.kind = 7 then decide (e.ctors.length ≤ 8) && e.ctors.all nameB else decide (e.ctors.length = 0)
theorem any_all (xs : List ByteArray) : (xs.any fun s => !nameB s) = !(xs.all nameB) := by
  induction xs with
  | nil => rfl
  | cons x r ih => simp only [List.any_cons, List.all_cons, ih, Bool.not_and]
theorem ctors_p (e : Ent) : PPure Tryz.prog F.decl_ctors [.ptr e.pv] (.sc (.bool (ctorsB e))) := by
  obtain ⟨kind, params, name, typ, val, height, family, fixed, index, fields, ctors⟩ := e
  refine pure_by is_decl_ctors (by simp) rfl fun hb nx => ?_
  clear hb
  simp only [ctorsB]
  have c1 := containsW_p ctors
  rw [any_all] at c1
  by_cases k5 : kind = 5
  · subst k5
    rw [if_pos (.inl rfl)]
    repeat' (first | ((with_reducible first | refine wA (by omega) ?_ | refine wB (by omega) ?_ | refine wC (by omega) ?_ | refine wD (by omega) ?_ | refine wE ?_ ?_ | refine wF ?_ ?_ | refine wG ?_ ?_ | refine wH ?_ ?_ | refine wI ?_ ?_ | refine wJ ?_ ?_ | refine wK ?_ ?_ | refine wL ?_ ?_) <;> intro _) | (((with_reducible refine call_id ?_); (first | (refine call_pure (c1) ?_)))) | simp (maxSteps := 1000000) (disch := omega) only [go_sem, Nat.reduceAdd, Nat.reduceMul, Nat.reduceSub, Nat.reduceLeDiff, Nat.reduceEqDiff, Nat.reduceBEq, ↓reduceIte, reduceCtorEq, Int.reduceEq, Int.reduceLE, Int.reduceLT, Int.reduceAdd, Int.reduceSub, Int.reduceNeg, Int.reduceToNat, Int.reduceNe, Nat.reducePow, Nat.reduceShiftRight, Nat.reduceMod, mc_decl_ctors, Ent.pv, *])
    all_goals (refine fin_tmp (.inr rfl) ?_; simp [upd, *] <;> omega)
  by_cases k7 : kind = 7
  · subst k7
    rw [if_pos (.inr rfl)]
    repeat' (first | ((with_reducible first | refine wA (by omega) ?_ | refine wB (by omega) ?_ | refine wC (by omega) ?_ | refine wD (by omega) ?_ | refine wE ?_ ?_ | refine wF ?_ ?_ | refine wG ?_ ?_ | refine wH ?_ ?_ | refine wI ?_ ?_ | refine wJ ?_ ?_ | refine wK ?_ ?_ | refine wL ?_ ?_) <;> intro _) | (((with_reducible refine call_id ?_); (first | (refine call_pure (c1) ?_)))) | simp (maxSteps := 1000000) (disch := omega) only [go_sem, Nat.reduceAdd, Nat.reduceMul, Nat.reduceSub, Nat.reduceLeDiff, Nat.reduceEqDiff, Nat.reduceBEq, ↓reduceIte, reduceCtorEq, Int.reduceEq, Int.reduceLE, Int.reduceLT, Int.reduceAdd, Int.reduceSub, Int.reduceNeg, Int.reduceToNat, Int.reduceNe, Nat.reducePow, Nat.reduceShiftRight, Nat.reduceMod, mc_decl_ctors, Ent.pv, *])
    all_goals (refine fin_tmp (.inr rfl) ?_; simp [upd, *] <;> omega)
  · rw [if_neg (fun h => h.elim k5 k7)]
    repeat' (first | ((with_reducible first | refine wA (by omega) ?_ | refine wB (by omega) ?_ | refine wC (by omega) ?_ | refine wD (by omega) ?_ | refine wE ?_ ?_ | refine wF ?_ ?_ | refine wG ?_ ?_ | refine wH ?_ ?_ | refine wI ?_ ?_ | refine wJ ?_ ?_ | refine wK ?_ ?_ | refine wL ?_ ?_) <;> intro _) | simp (maxSteps := 1000000) (disch := omega) only [go_sem, Nat.reduceAdd, Nat.reduceMul, Nat.reduceSub, Nat.reduceLeDiff, Nat.reduceEqDiff, Nat.reduceBEq, ↓reduceIte, reduceCtorEq, Int.reduceEq, Int.reduceLE, Int.reduceLT, Int.reduceAdd, Int.reduceSub, Int.reduceNeg, Int.reduceToNat, Int.reduceNe, Nat.reducePow, Nat.reduceShiftRight, Nat.reduceMod, mc_decl_ctors, Ent.pv, *])
    all_goals (refine fin_tmp (.inr rfl) ?_; simp [upd, *] <;> omega)
def Ent.right (e : Ent) : Bool := decide (1 ≤ e.kind) && (decide (e.kind ≤ 7) && (nameB e.name && (decide (0 ≤ e.params) && (decide (e.params ≤ 4) && (e.typ.right e.params 0 && (valueB e && (heightB e && (familyB e && ctorsB e))))))))
set_option maxHeartbeats 8000000 in
theorem eRight_p (e : Ent) : PPure Tryz.prog F.decl_Right [.agg e.pv] (.sc (.bool e.right)) := by
  refine pure_by is_decl_Right (by simp) rfl fun hb nx => ?_
  clear hb
  have c1 := name_Right_p e.name
  have c2 := tRightG_p e.typ e.params 0
  have c4 := height_p e
  have c5 := family_p e
  have c6 := ctors_p e
  by_cases hp : 0 ≤ e.params ∧ e.params ≤ 4
  rotate_left
  · have hf : e.right = false := by
      simp only [Ent.right]
      by_cases h0 : 0 ≤ e.params
      · have : ¬ e.params ≤ 4 := fun h4 => hp ⟨h0, h4⟩
        simp [this]
      · simp [h0]
    rw [hf]
    have h9 : e.params < 0 ∨ (0 ≤ e.params ∧ 4 < e.params) := by omega
    clear hf hp c2 c4 c5 c6
    obtain ⟨kind, params, name, typ, val, height, family, fixed, index, fields, ctors⟩ := e
    simp only [Ent.pv] at c1 h9 ⊢
    rcases h9 with h | ⟨h, h2⟩
    all_goals
      cases hn : nameB name with
      | false =>
        rw [hn] at c1
        clear hn
        repeat' (first | ((with_reducible first | refine wA (by omega) ?_ | refine wB (by omega) ?_ | refine wC (by omega) ?_ | refine wD (by omega) ?_ | refine wE ?_ ?_ | refine wF ?_ ?_ | refine wG ?_ ?_ | refine wH ?_ ?_ | refine wI ?_ ?_ | refine wJ ?_ ?_ | refine wK ?_ ?_ | refine wL ?_ ?_) <;> intro _) | (((with_reducible refine call_id ?_); (first | (refine call_pure (c1) ?_)))) | simp (maxSteps := 1000000) (disch := omega) only [go_sem, Nat.reduceAdd, Nat.reduceMul, Nat.reduceSub, Nat.reduceLeDiff, Nat.reduceEqDiff, Nat.reduceBEq, ↓reduceIte, reduceCtorEq, Int.reduceEq, Int.reduceLE, Int.reduceLT, Int.reduceAdd, Int.reduceSub, Int.reduceNeg, Int.reduceToNat, Int.reduceNe, Nat.reducePow, Nat.reduceShiftRight, Nat.reduceMod, mc_decl_Right, *])
        all_goals (exact fin_tmp (.inr rfl) cE3)
      | true =>
        rw [hn] at c1
        clear hn
        repeat' (first | ((with_reducible first | refine wA (by omega) ?_ | refine wB (by omega) ?_ | refine wC (by omega) ?_ | refine wD (by omega) ?_ | refine wE ?_ ?_ | refine wF ?_ ?_ | refine wG ?_ ?_ | refine wH ?_ ?_ | refine wI ?_ ?_ | refine wJ ?_ ?_ | refine wK ?_ ?_ | refine wL ?_ ?_) <;> intro _) | (((with_reducible refine call_id ?_); (first | (refine call_pure (c1) ?_)))) | simp (maxSteps := 1000000) (disch := omega) only [go_sem, Nat.reduceAdd, Nat.reduceMul, Nat.reduceSub, Nat.reduceLeDiff, Nat.reduceEqDiff, Nat.reduceBEq, ↓reduceIte, reduceCtorEq, Int.reduceEq, Int.reduceLE, Int.reduceLT, Int.reduceAdd, Int.reduceSub, Int.reduceNeg, Int.reduceToNat, Int.reduceNe, Nat.reducePow, Nat.reduceShiftRight, Nat.reduceMod, mc_decl_Right, *])
        all_goals (exact fin_tmp (.inr rfl) cE3)
  have c3 := value_p e hp
  simp only [Ent.right]
  generalize valueB e = b3 at c3
  generalize heightB e = b4 at c4
  generalize familyB e = b5 at c5
  generalize ctorsB e = b6 at c6
  obtain ⟨kind, params, name, typ, val, height, family, fixed, index, fields, ctors⟩ := e
  simp only [Ent.pv] at c1 c2 c3 c4 c5 c6 hp ⊢
  generalize nameB name = b1 at c1
  generalize typ.right params 0 = b2 at c2
  cases b1 with
  | false =>
    repeat' (first | ((with_reducible first | refine wA (by omega) ?_ | refine wB (by omega) ?_ | refine wC (by omega) ?_ | refine wD (by omega) ?_ | refine wE ?_ ?_ | refine wF ?_ ?_ | refine wG ?_ ?_ | refine wH ?_ ?_ | refine wI ?_ ?_ | refine wJ ?_ ?_ | refine wK ?_ ?_ | refine wL ?_ ?_) <;> intro _) | (((with_reducible refine call_id ?_); (first | (refine call_pure (c1) ?_)))) | simp (maxSteps := 1000000) (disch := omega) only [go_sem, Nat.reduceAdd, Nat.reduceMul, Nat.reduceSub, Nat.reduceLeDiff, Nat.reduceEqDiff, Nat.reduceBEq, ↓reduceIte, reduceCtorEq, Int.reduceEq, Int.reduceLE, Int.reduceLT, Int.reduceAdd, Int.reduceSub, Int.reduceNeg, Int.reduceToNat, Int.reduceNe, Nat.reducePow, Nat.reduceShiftRight, Nat.reduceMod, mc_decl_Right, *])
    all_goals (refine fin_tmp (.inr rfl) ?_; simp [upd, *] <;> (intros; omega))
  | true =>
  cases b2 with
  | false =>
    repeat' (first | ((with_reducible first | refine wA (by omega) ?_ | refine wB (by omega) ?_ | refine wC (by omega) ?_ | refine wD (by omega) ?_ | refine wE ?_ ?_ | refine wF ?_ ?_ | refine wG ?_ ?_ | refine wH ?_ ?_ | refine wI ?_ ?_ | refine wJ ?_ ?_ | refine wK ?_ ?_ | refine wL ?_ ?_) <;> intro _) | (((with_reducible refine call_id ?_); (first | (refine call_pure (c1) ?_) | (refine call_pure (c2) ?_)))) | simp (maxSteps := 1000000) (disch := omega) only [go_sem, Nat.reduceAdd, Nat.reduceMul, Nat.reduceSub, Nat.reduceLeDiff, Nat.reduceEqDiff, Nat.reduceBEq, ↓reduceIte, reduceCtorEq, Int.reduceEq, Int.reduceLE, Int.reduceLT, Int.reduceAdd, Int.reduceSub, Int.reduceNeg, Int.reduceToNat, Int.reduceNe, Nat.reducePow, Nat.reduceShiftRight, Nat.reduceMod, mc_decl_Right, *])
    all_goals (refine fin_tmp (.inr rfl) ?_; simp [upd, *] <;> (intros; omega))
  | true =>
  cases b3 with
  | false =>
    repeat' (first | ((with_reducible first | refine wA (by omega) ?_ | refine wB (by omega) ?_ | refine wC (by omega) ?_ | refine wD (by omega) ?_ | refine wE ?_ ?_ | refine wF ?_ ?_ | refine wG ?_ ?_ | refine wH ?_ ?_ | refine wI ?_ ?_ | refine wJ ?_ ?_ | refine wK ?_ ?_ | refine wL ?_ ?_) <;> intro _) | (((with_reducible refine call_id ?_); (first | (refine call_pure (c1) ?_) | (refine call_pure (c2) ?_) | (refine call_pure (c3) ?_)))) | simp (maxSteps := 1000000) (disch := omega) only [go_sem, Nat.reduceAdd, Nat.reduceMul, Nat.reduceSub, Nat.reduceLeDiff, Nat.reduceEqDiff, Nat.reduceBEq, ↓reduceIte, reduceCtorEq, Int.reduceEq, Int.reduceLE, Int.reduceLT, Int.reduceAdd, Int.reduceSub, Int.reduceNeg, Int.reduceToNat, Int.reduceNe, Nat.reducePow, Nat.reduceShiftRight, Nat.reduceMod, mc_decl_Right, *])
    all_goals (refine fin_tmp (.inr rfl) ?_; simp [upd, *] <;> (intros; omega))
  | true =>
  cases b4 with
  | false =>
    repeat' (first | ((with_reducible first | refine wA (by omega) ?_ | refine wB (by omega) ?_ | refine wC (by omega) ?_ | refine wD (by omega) ?_ | refine wE ?_ ?_ | refine wF ?_ ?_ | refine wG ?_ ?_ | refine wH ?_ ?_ | refine wI ?_ ?_ | refine wJ ?_ ?_ | refine wK ?_ ?_ | refine wL ?_ ?_) <;> intro _) | (((with_reducible refine call_id ?_); (first | (refine call_pure (c1) ?_) | (refine call_pure (c2) ?_) | (refine call_pure (c3) ?_) | (refine call_pure (c4) ?_)))) | simp (maxSteps := 1000000) (disch := omega) only [go_sem, Nat.reduceAdd, Nat.reduceMul, Nat.reduceSub, Nat.reduceLeDiff, Nat.reduceEqDiff, Nat.reduceBEq, ↓reduceIte, reduceCtorEq, Int.reduceEq, Int.reduceLE, Int.reduceLT, Int.reduceAdd, Int.reduceSub, Int.reduceNeg, Int.reduceToNat, Int.reduceNe, Nat.reducePow, Nat.reduceShiftRight, Nat.reduceMod, mc_decl_Right, *])
    all_goals (refine fin_tmp (.inr rfl) ?_; simp [upd, *] <;> (intros; omega))
  | true =>
  cases b5 with
  | false =>
    repeat' (first | ((with_reducible first | refine wA (by omega) ?_ | refine wB (by omega) ?_ | refine wC (by omega) ?_ | refine wD (by omega) ?_ | refine wE ?_ ?_ | refine wF ?_ ?_ | refine wG ?_ ?_ | refine wH ?_ ?_ | refine wI ?_ ?_ | refine wJ ?_ ?_ | refine wK ?_ ?_ | refine wL ?_ ?_) <;> intro _) | (((with_reducible refine call_id ?_); (first | (refine call_pure (c1) ?_) | (refine call_pure (c2) ?_) | (refine call_pure (c3) ?_) | (refine call_pure (c4) ?_) | (refine call_pure (c5) ?_)))) | simp (maxSteps := 1000000) (disch := omega) only [go_sem, Nat.reduceAdd, Nat.reduceMul, Nat.reduceSub, Nat.reduceLeDiff, Nat.reduceEqDiff, Nat.reduceBEq, ↓reduceIte, reduceCtorEq, Int.reduceEq, Int.reduceLE, Int.reduceLT, Int.reduceAdd, Int.reduceSub, Int.reduceNeg, Int.reduceToNat, Int.reduceNe, Nat.reducePow, Nat.reduceShiftRight, Nat.reduceMod, mc_decl_Right, *])
    all_goals (refine fin_tmp (.inr rfl) ?_; simp [upd, *] <;> (intros; omega))
  | true =>
  cases b6 with
  | false =>
    repeat' (first | ((with_reducible first | refine wA (by omega) ?_ | refine wB (by omega) ?_ | refine wC (by omega) ?_ | refine wD (by omega) ?_ | refine wE ?_ ?_ | refine wF ?_ ?_ | refine wG ?_ ?_ | refine wH ?_ ?_ | refine wI ?_ ?_ | refine wJ ?_ ?_ | refine wK ?_ ?_ | refine wL ?_ ?_) <;> intro _) | (((with_reducible refine call_id ?_); (first | (refine call_pure (c1) ?_) | (refine call_pure (c2) ?_) | (refine call_pure (c3) ?_) | (refine call_pure (c4) ?_) | (refine call_pure (c5) ?_) | (refine call_pure (c6) ?_)))) | simp (maxSteps := 1000000) (disch := omega) only [go_sem, Nat.reduceAdd, Nat.reduceMul, Nat.reduceSub, Nat.reduceLeDiff, Nat.reduceEqDiff, Nat.reduceBEq, ↓reduceIte, reduceCtorEq, Int.reduceEq, Int.reduceLE, Int.reduceLT, Int.reduceAdd, Int.reduceSub, Int.reduceNeg, Int.reduceToNat, Int.reduceNe, Nat.reducePow, Nat.reduceShiftRight, Nat.reduceMod, mc_decl_Right, *])
    all_goals (refine fin_tmp (.inr rfl) ?_; simp [upd, *] <;> (intros; omega))
  | true =>
    repeat' (first | ((with_reducible first | refine wA (by omega) ?_ | refine wB (by omega) ?_ | refine wC (by omega) ?_ | refine wD (by omega) ?_ | refine wE ?_ ?_ | refine wF ?_ ?_ | refine wG ?_ ?_ | refine wH ?_ ?_ | refine wI ?_ ?_ | refine wJ ?_ ?_ | refine wK ?_ ?_ | refine wL ?_ ?_) <;> intro _) | (((with_reducible refine call_id ?_); (first | (refine call_pure (c1) ?_) | (refine call_pure (c2) ?_) | (refine call_pure (c3) ?_) | (refine call_pure (c4) ?_) | (refine call_pure (c5) ?_) | (refine call_pure (c6) ?_)))) | simp (maxSteps := 1000000) (disch := omega) only [go_sem, Nat.reduceAdd, Nat.reduceMul, Nat.reduceSub, Nat.reduceLeDiff, Nat.reduceEqDiff, Nat.reduceBEq, ↓reduceIte, reduceCtorEq, Int.reduceEq, Int.reduceLE, Int.reduceLT, Int.reduceAdd, Int.reduceSub, Int.reduceNeg, Int.reduceToNat, Int.reduceNe, Nat.reducePow, Nat.reduceShiftRight, Nat.reduceMod, mc_decl_Right, *])
    all_goals (refine fin_tmp (.inr rfl) ?_; simp [upd, *] <;> (intros; omega))
end
section
attribute [local go_sem] pv_len pv_take id_ne id_ne' id_ne2 rounds_next Nat.add_assoc pv_take_app pv_one
def p0 : Lv := .mk 2 0 []
def p1 : Lv := .mk 2 1 []
theorem PPure.is {f : FuncId} {args : List PV} {r r' : PV} (h : PPure Tryz.prog f args r) (e : r = r') : PPure Tryz.prog f args r' := e ▸ h
end
section
set_option maxRecDepth 20000
attribute [local go_sem] pv_len pv_take id_ne id_ne' id_ne2 Nat.add_assoc pv_one pv_take_app
theorem inst_grown (bys : List Lv) (hb : ∀ b ∈ bys, b.nodes ≤ 64) : ∀ (fuel : Nat) (l : Lv), l.nodes ≤ fuel → l.formed bys.length = true → l.grown bys = (l.inst bys).nodes := by
  intro fuel
  induction fuel with
  | zero => intro l h; have := nodes_pos l; omega
  | succ fuel ih =>
    intro l hf hr
    cases l with
    | mk k n args =>
    simp only [Lv.nodes] at hf
    by_cases hk : k = 2
    · subst hk
      obtain ⟨h0, h1, rfl⟩ := par_of hr
      have hmem : bys.getD n.toNat (.mk 1 0 []) ∈ bys := by
        have h3 : n.toNat < bys.length := by omega
        simp [List.getD, List.getElem?_eq_getElem h3, List.getElem_mem]
      have := hb _ hmem
      simp only [Lv.grown, Lv.inst, if_true]
      omega
    · have key : ∀ xs : List Lv, (∀ x ∈ xs, x ∈ args) → grownL bys xs = nodesL (instL bys xs) := by
        intro xs
        induction xs with
        | nil => intro _; rfl
        | cons x r ihr =>
          intro h
          have h1 : x.nodes ≤ nodesL args := by
            obtain ⟨i, hi, e⟩ := List.getElem_of_mem (h x (by simp))
            rw [← e]; exact nodesL_mem args i hi
          simp only [grownL, instL, nodesL]
          rw [ih x (by omega) (formed_kid hr x (h x (by simp))), ihr fun y hy => h y (by simp [hy])]
      simp only [Lv.grown, Lv.inst, if_neg hk, Lv.nodes, key args fun _ h => h]
theorem instV_eq (l : Lv) (bys : List Lv) : l.instV bys = l.instR bys := by
  unfold Lv.instV Lv.instR
  by_cases h1 : l.right bys.length = true
  · by_cases h2 : bys.all (Lv.right 4) = true
    · obtain ⟨_, _, _, hf⟩ := right_parts h1
      have hb : ∀ b ∈ bys, b.nodes ≤ 64 := fun b hb => (right_parts (List.all_eq_true.1 h2 b hb)).2.2.1
      rw [← inst_grown bys hb l.nodes l (Nat.le_refl _) hf]
      simp [h1, h2]
    · simp only [Bool.not_eq_true] at h2
      simp [h1, h2]
  · simp only [Bool.not_eq_true] at h1
    simp [h1]
end
section
set_option maxRecDepth 20000
attribute [local go_sem] pv_len pv_take Nat.add_assoc tm_len tm_take pv_one tm_one id_ne id_ne' id_ne2 List.append_assoc
def FixL (nx : Nat) (cs : List PV) : Prop := ∀ (G : Nat → Bool) (k : Nat) (H : Nat → Option PObj), (∀ j, j < nx → G j = false) → cs.map (frgF G k H) = cs
theorem FixL.mono {nx nx' : Nat} {cs : List PV} (h : FixL nx cs) (hn : nx ≤ nx') : FixL nx' cs := fun G k H hG => h G k H fun j hj => hG j (Nat.lt_of_lt_of_le hj hn)
theorem FixL.imm {nx : Nat} {cs : List PV} (h : immL cs = true) : FixL nx cs := fun G k H _ => frgF_immL G H k cs h
theorem FixL.nil {nx : Nat} : FixL nx [] := fun _ _ _ _ => rfl
theorem FixL.append {nx : Nat} {cs ds : List PV} (h : FixL nx cs) (g : FixL nx ds) : FixL nx (cs ++ ds) := fun G k H hG => by rw [List.map_append, h G k H hG, g G k H hG]
theorem FixL.cons {nx : Nat} {c : PV} {ds : List PV} (h : c.imm = true) (g : FixL nx ds) : FixL nx (c :: ds) := fun G k H hG => by rw [List.map_cons, frgF_imm G H k c h, g G k H hG]
theorem frgF_osl {G : Nat → Bool} {id : Nat} (h : G id = false) (k : Nat) (H : Nat → Option PObj) (off n sz : Nat) : frgF G k H (.osl id off n sz) = .osl id off n sz := by
  cases k with
  | zero => rfl
  | succ k => simp [frgF, h]
theorem FixL.osl {nx id off n sz : Nat} {ds : List PV} (h : id < nx) (g : FixL nx ds) : FixL nx (.osl id off n sz :: ds) := fun G k H hG => by rw [List.map_cons, frgF_osl (hG id h), g G k H hG]
theorem tell_low {P : Program} {f : FuncId} {args : List PV} {H : Nat → Option PObj} {nx : Nat} {Q Q2 : (Nat → Option PObj) → Nat → PV → Prop} (kp : Nat → Bool) (id : Nat) (hid : id < nx) (hkp : ∀ j, kp j = true → j ≠ id ∧ j < nx) (h : PMut P f args H nx Q)
    (hq : ∀ H' nx' r, Q H' nx' r → r.imm = true ∧ (∀ j o, kp j = true → H' j = some o → o.isIt = false ∧ FixL nx o.cells) ∧ ∃ (res : Option (List PV)) (k : Nat),
      (∀ cs', res = some cs' → ∃ cs, H' id = some ⟨cs, true⟩ ∧ cs.length ≠ 1 ∧ WeakL (cs.map (frgF (fun j => decide (nx ≤ j)) k H')) cs') ∧
      ∀ H2 : Nat → Option PObj, (∀ j, kp j = true → H2 j = H' j) → H2 id = res.map (fun c => ⟨c, true⟩) → Q2 H2 nx' r) : PMut P f args H nx Q2 := by
  refine PMut.become h fun H' nx' r hQ => ?_
  obtain ⟨hr, h1, res, k, h2, h3⟩ := hq H' nx' r hQ
  refine ⟨fun j => decide (nx ≤ j), k, fun j => if j = id then res.map (fun c => ⟨c, true⟩) else if kp j = true then H' j else none, r, fun j o2 hj => ?_, .of_eq (frgF_imm _ _ _ _ hr), h3 _ (fun j hj => by simp [(hkp j hj).1, hj]) (by simp)⟩
  by_cases he : j = id
  · subst he
    simp only [if_true] at hj
    cases res with
    | none => simp at hj
    | some cs' =>
      simp only [Option.map_some, Option.some.injEq] at hj
      subst hj
      obtain ⟨cs, g1, g2, g3⟩ := h2 cs' rfl
      exact ⟨⟨cs.map (frgF (fun j => decide (nx ≤ j)) k H'), true⟩, by simp [lessC, Nat.not_le.2 hid, g1], isIt_len (by simpa using g2), rfl, g3⟩
  · simp only [he, if_false] at hj
    split at hj
    · rename_i hk
      obtain ⟨h6, h7⟩ := hkp j hk
      obtain ⟨h8, h9⟩ := h1 j o2 hk hj
      refine ⟨o2, ?_, h8, rfl, .refl _⟩
      have := h9 (fun j => decide (nx ≤ j)) k H' (fun j hj => by simp; omega)
      simp only [lessC, Nat.not_le.2 h7, decide_false, Bool.false_eq_true, if_false, hj, Option.map_some, this]
    · cases hj
def RowP (H : Nat → Option PObj) (lo m sz : Nat) (a : PV) (es : List (List PV)) : Prop := (es = [] ∧ a = .sc (.slice none 0 0)) ∨ ∃ id, lo ≤ id ∧ id < m ∧ a = .osl id 0 es.length sz ∧ H id = some ⟨es.flatten, true⟩
def HalfP (H : Nat → Option PObj) (lo m sz : Nat) (a : PV) (done : List PV) (z : List Value) (r n : Nat) : Prop := (n = 0 ∧ a = .sc (.slice none 0 0)) ∨ ∃ id, lo ≤ id ∧ id < m ∧ a = .osl id 0 n sz ∧ H id = some ⟨done ++ zeros z r, true⟩
def leads : PV → Nat → Bool
  | .osl i _ _ _, j => decide (j = i)
  | _, _ => false
theorem HalfP.row {H : Nat → Option PObj} {lo m sz : Nat} {a : PV} {es : List (List PV)} {z : List Value} {n : Nat} (h : HalfP H lo m sz a es.flatten z 0 n) (hn : es.length = n) : RowP H lo m sz a es := by
  rcases h with ⟨h1, h2⟩ | ⟨id, h1, h2, h3, h4⟩
  · exact .inl ⟨List.eq_nil_of_length_eq_zero (by omega), h2⟩
  · exact .inr ⟨id, h1, h2, by rw [hn]; exact h3, by simpa [zeros] using h4⟩
theorem RowP.mono {H H' : Nat → Option PObj} {lo m m' sz : Nat} {a : PV} {es : List (List PV)} (h : RowP H lo m sz a es) (hm : m ≤ m') (hH : ∀ j, lo ≤ j → j < m → leads a j = true → H' j = H j) : RowP H' lo m' sz a es := by
  rcases h with h | ⟨id, h1, h2, rfl, h4⟩
  · exact .inl h
  · exact .inr ⟨id, h1, by omega, rfl, by rw [hH id h1 h2 (by simp [leads]), h4]⟩
theorem HalfP.mono {H H' : Nat → Option PObj} {lo m m' sz : Nat} {a : PV} {done : List PV} {z : List Value} {r n : Nat} (h : HalfP H lo m sz a done z r n) (hm : m ≤ m') (hH : ∀ j, lo ≤ j → j < m → leads a j = true → H' j = H j) : HalfP H' lo m' sz a done z r n := by
  rcases h with h | ⟨id, h1, h2, rfl, h4⟩
  · exact .inl h
  · exact .inr ⟨id, h1, by omega, rfl, by rw [hH id h1 h2 (by simp [leads]), h4]⟩
theorem RowP.fix {H : Nat → Option PObj} {lo m sz : Nat} {a : PV} {es : List (List PV)} (h : RowP H lo m sz a es) {nx : Nat} (hm : m ≤ nx) {ds : List PV} (hd : FixL nx ds) : FixL nx (a :: ds) := by
  rcases h with ⟨_, rfl⟩ | ⟨id, h1, h2, rfl, h4⟩
  · exact .cons rfl hd
  · exact .osl (by omega) hd
theorem RowP.lead {H : Nat → Option PObj} {lo m sz : Nat} {a : PV} {es : List (List PV)} (h : RowP H lo m sz a es) (hl : es.flatten.length ≠ 1) (hi : immL es.flatten = true) {j : Nat} (hj : leads a j = true) (nx : Nat) :
    lo ≤ j ∧ j < m ∧ ∀ o, H j = some o → o.isIt = false ∧ FixL nx o.cells := by
  rcases h with ⟨_, rfl⟩ | ⟨id, h1, h2, rfl, h4⟩
  · cases hj
  · obtain rfl : j = id := by simpa [leads] using hj
    refine ⟨h1, h2, fun o ho => ?_⟩
    rw [h4] at ho
    cases ho
    exact ⟨isIt_len hl, .imm hi⟩
theorem RowP.frg {H : Nat → Option PObj} {lo m sz : Nat} {a : PV} {es : List (List PV)} (h : RowP H lo m sz a es) (hs : ∀ e ∈ es, e.length = sz) (G : Nat → Bool) (hG : ∀ j, lo ≤ j → G j = true) : Weak (frgF G 1 H a) (.sl sz es) := by
  rcases h with ⟨rfl, rfl⟩ | ⟨id, h1, h2, rfl, h4⟩
  · exact .nil sz
  · have hl : es.flatten.length = es.length * sz := by
      clear h4
      induction es with
      | nil => simp
      | cons e r ih =>
        rw [List.flatten_cons, List.length_append, ih (fun x hx => hs x (by simp [hx])), hs e (by simp), List.length_cons, Nat.succ_mul]
        omega
    simp only [frgF, hG id h1, if_true, h4, List.drop_zero]
    rw [if_pos (by omega), List.take_of_length_le (by omega)]
    refine .trans (Weak.fslW (es' := es) (by rw [chunks_length]) hs ?_) (Weak.fsl sz es)
    rw [List.map_id', chunks_flatten sz es.length _ (by omega)]
    exact .refl _
end
section
set_option maxRecDepth 20000
attribute [local go_sem] pv_len pv_take Nat.add_assoc tm_len tm_take pv_one tm_one id_ne id_ne' id_ne2 List.append_assoc
theorem flat3_ne1 (ls : List Lv) : (ls.map Lv.pv).flatten.length ≠ 1 := by
  have : (ls.map Lv.pv).flatten.length = ls.length * 3 := by
    induction ls with
    | nil => rfl
    | cons t r ih => rw [List.map_cons, List.flatten_cons, List.length_append, pv_len, ih, List.length_cons, Nat.succ_mul]; omega
  omega
theorem zeros_imm : ∀ (n : Nat), immL (zeros [.int .i64 0, .int .i64 0, .string ⟨#[]⟩, .slice none 0 0, .slice none 0 0] n) = true
  | 0 => rfl
  | n + 1 => by simp only [zeros, immL_append, zeros_imm n]; rfl
theorem tms_immF (ts : List Tm) : immL (ts.flatMap Tm.pv) = true := by rw [List.flatMap_def]; exact tms_imm ts
theorem lvs_immF : ∀ ls : List Lv, immL (ls.map Lv.pv).flatten = true
  | [] => rfl
  | t :: r => by simp only [List.map_cons, List.flatten_cons, immL_append, pv_imm t, lvs_immF r]; rfl
def putRaw (bys : List Lv) (kind n : Int) (s : ByteArray) (ls : List Lv) (args : List Tm) (H : Nat → Option PObj) (nx id : Nat) (p q : List PV) (kp : Nat → Bool) (H' : Nat → Option PObj) (nx' : Nat) (r : PV) : Prop :=
  nx ≤ nx' ∧ (∀ j, kp j = true → H' j = H j) ∧ (((Tm.mk kind n s ls args).putL bys = none ∧ r = .sc (.bool false)) ∨ ∃ ls' args' a b, insts bys ls = some ls' ∧ putLs bys args = some args' ∧ r = .sc (.bool true) ∧
    H' id = some ⟨p ++ (.sc (.int .i64 kind) :: .sc (.int .i64 n) :: .sc (.string s) :: a :: b :: q), true⟩ ∧ RowP H' nx nx' 3 a (ls'.map Lv.pv) ∧ RowP H' nx nx' 5 b (args'.map Tm.pv))
set_option maxHeartbeats 16000000 in
theorem putLevels_p (bys : List Lv) : ∀ (fuel : Nat) (t : Tm), t.size ≤ fuel → t.nodes ≤ 2 ^ 40 → ∀ (H : Nat → Option PObj) (nx id off : Nat) (p q : List PV) (kp : Nat → Bool), H id = some ⟨p ++ (zero5 ++ q), true⟩ → id < nx → p.length = off → immL p = true → immL q = true →
    (∀ j, kp j = true → j ≠ id ∧ j < nx ∧ ∀ o, H j = some o → o.isIt = false ∧ FixL nx o.cells) →
    PMut Tryz.prog F.term_putLevels [.optr id off, .ptr t.pv, .sl 3 (bys.map Lv.pv)] H nx (fun H' nx' r => nx ≤ nx' ∧ (∀ j, kp j = true → H' j = H j) ∧ ((t.putL bys = none ∧ r = .sc (.bool false)) ∨ ∃ y, t.putL bys = some y ∧ r = .sc (.bool true) ∧ H' id = some ⟨p ++ (y.pv ++ q), true⟩)) := by
  intro fuel
  induction fuel with
  | zero => intro t h; have := size_pos t; omega
  | succ fuel ih =>
    intro t hf hm H nx id off p q kp hH hid hoff hpi hqi hkp
    cases t with
    | mk kind n s ls args =>
    simp only [Tm.size] at hf
    simp only [Tm.nodes] at hm
    have hkpk := Kept.mk hkp
    have hpik := Kept.mk hpi
    have hqik := Kept.mk hqi
    refine tell_low (Q := putRaw bys kind n s ls args H nx id p q kp) kp id hid (fun j hj => ⟨(hkp j hj).1, (hkp j hj).2.1⟩) ?walk ?tell
    case tell =>
      clear ih
      rintro H' nx' r ⟨h1, h2, h3⟩
      have hfix : ∀ j o, kp j = true → H' j = some o → o.isIt = false ∧ FixL nx o.cells := fun j o hj ho => (hkp j hj).2.2 o ((h2 j hj).symm.trans ho)
      rcases h3 with ⟨h3, rfl⟩ | ⟨ls', args', a, b, h3, h4, rfl, h5, h6, h7⟩
      · exact ⟨rfl, hfix, none, 0, (fun _ h => by cases h), fun H2 g1 g2 => ⟨h1, fun j hj => (g1 j hj).trans (h2 j hj), .inl ⟨h3, rfl⟩⟩⟩
      · have hput : (Tm.mk kind n s ls args).putL bys = some (.mk kind n s ls' args') := by simp only [Tm.putL, h3, h4]
        refine ⟨rfl, hfix, some (p ++ ((Tm.mk kind n s ls' args').pv ++ q)), 1, fun cs' e => ?_, fun H2 g1 g2 => ⟨h1, fun j hj => (g1 j hj).trans (h2 j hj), .inr ⟨_, hput, rfl, g2⟩⟩⟩
        cases e
        refine ⟨_, h5, by simp; omega, ?_⟩
        rw [List.map_append, frgF_immL _ _ _ p hpi]
        refine (WeakL.refl _).append ?_
        simp only [List.map_cons, frgF_sc, Tm.pv, List.cons_append, List.nil_append]
        rw [frgF_immL _ _ _ q hqi]
        refine ⟨.refl _, .refl _, .refl _, h6.frg (fun e he => ?_) _ (fun j hj => by simpa using hj), h7.frg (fun e he => ?_) _ (fun j hj => by simpa using hj), .refl _⟩
        · obtain ⟨x, _, rfl⟩ := List.mem_map.1 he; exact pv_len x
        · obtain ⟨x, _, rfl⟩ := List.mem_map.1 he; exact tm_len x
    case walk =>
    clear hkp hpi hqi
    refine mut_by is_term_putLevels (by simp) fun hb => ?_
    have hb0 : ls.length ≤ 9223372036854775807 ∧ args.length ≤ 9223372036854775807 := by simp [Tm.pv, bndL, PV.bnd] at hb; omega
    clear hb
    rw [zero5] at hH
    have at0 : ∀ x, List.take off (p ++ x) = p := fun x => List.take_left' hoff
    have at1 : ∀ x i, List.take (off + i) (p ++ x) = p ++ List.take i x := fun x i => at_take p x off i hoff
    have at2 : ∀ x i, List.drop (off + i) (p ++ x) = List.drop i x := fun x i => at_drop p x off i hoff
    have at3 : off + 1 ≤ off + (q.length + 5) ∧ off + 2 ≤ off + (q.length + 5) ∧ off + 3 ≤ off + (q.length + 5) ∧ off + 4 ≤ off + (q.length + 5) ∧ off + 5 ≤ off + (q.length + 5) := by omega
    have at4 : ∀ x, List.drop off (p ++ x) = x := fun x => List.drop_left' hoff
    have hla := len_nodesT args
    have hll := len_nodesL ls
    have hz1 : 80 * (args.length : Int) ≤ 2 ^ 47 := by omega
    have hz2 : (args.length : Int) ≤ 2 ^ 47 := by omega
    have hz3 : 40 * (ls.length : Int) ≤ 2 ^ 47 := by omega
    have hz4 : (ls.length : Int) ≤ 2 ^ 47 := by omega
    have hkp2 := Kept.mk fun j (hj : kp j = true) => (⟨(hkpk.out j hj).1, (hkpk.out j hj).2.1⟩ : j ≠ id ∧ j < nx)
    have ihk := Kept.mk ih
    clear ih
    by_cases hl0 : ls.length = 0
    · obtain rfl : ls = [] := List.eq_nil_of_length_eq_zero hl0
      repeat' (first | ((with_reducible first | refine wA (by omega) ?_ | refine wB (by omega) ?_ | refine wC (by omega) ?_ | refine wD (by omega) ?_ | refine wE ?_ ?_ | refine wF ?_ ?_ | refine wG ?_ ?_ | refine wH ?_ ?_ | refine wI ?_ ?_ | refine wJ ?_ ?_ | refine wK ?_ ?_ | refine wL ?_ ?_) <;> intro _) | simp (maxSteps := 1000000) (disch := omega) only [go_sem, Nat.reduceAdd, Nat.reduceMul, Nat.reduceSub, Nat.reduceLeDiff, Nat.reduceEqDiff, Nat.reduceBEq, ↓reduceIte, reduceCtorEq, Int.reduceEq, Int.reduceLE, Int.reduceLT, Int.reduceAdd, Int.reduceSub, Int.reduceNeg, Int.reduceToNat, Int.reduceNe, Nat.reducePow, Nat.reduceShiftRight, Nat.reduceMod, mc_term_putLevels, Tm.pv, at0, at1, at2, at3, at4, List.take_succ_cons, List.drop_succ_cons, List.take_zero, List.drop_zero, List.cons_append, List.nil_append, hz1, hz2, hz3, hz4, and_self, *])
      refine c_loopW 151115722948229019468736 (by kernel_rfl) (fun j f H2 m => f 52 = .sc (.int .i64 0) ∧ nx ≤ m ∧ Kept (∀ j, kp j = true → H2 j = H j) ∧ H2 id = some ⟨p ++ (.sc (.int .i64 kind) :: .sc (.int .i64 n) :: .sc (.string s) :: .sc (.slice none 0 0) :: .sc (.slice none 0 0) :: q), true⟩) 0 ⟨cE1, Nat.le_add_right _ _, Kept.mk (fun j hj => by have := hkp2.out j hj; simp [upd, this.1]), upd_same _ _ _⟩ ?_
      clear hl0 hH
      rintro _ f H2 m ⟨e52, hm2, hkk, hHi⟩
      have hysk : Kept (insts bys [] = some []) := Kept.mk rfl
      have hrow : RowP H2 nx m 3 (.sc (.slice none 0 0)) (([] : List Lv).map Lv.pv) := .inl ⟨rfl, rfl⟩
      by_cases ha0 : args.length = 0
      · obtain rfl : args = [] := List.eq_nil_of_length_eq_zero ha0
        have hrk := Kept.mk hrow
        clear hrow ihk
        repeat' (first | ((with_reducible first | refine wA (by omega) ?_ | refine wB (by omega) ?_ | refine wC (by omega) ?_ | refine wD (by omega) ?_ | refine wE ?_ ?_ | refine wF ?_ ?_ | refine wG ?_ ?_ | refine wH ?_ ?_ | refine wI ?_ ?_ | refine wJ ?_ ?_ | refine wK ?_ ?_ | refine wL ?_ ?_) <;> intro _) | simp (maxSteps := 1000000) (disch := omega) only [go_sem, Nat.reduceAdd, Nat.reduceMul, Nat.reduceSub, Nat.reduceLeDiff, Nat.reduceEqDiff, Nat.reduceBEq, ↓reduceIte, reduceCtorEq, Int.reduceEq, Int.reduceLE, Int.reduceLT, Int.reduceAdd, Int.reduceSub, Int.reduceNeg, Int.reduceToNat, Int.reduceNe, Nat.reducePow, Nat.reduceShiftRight, Nat.reduceMod, at0, at1, at2, at3, at4, List.take_succ_cons, List.drop_succ_cons, List.take_zero, List.drop_zero, List.cons_append, List.nil_append, hz1, hz2, hz3, hz4, and_self, *])
        refine c_rounds 1 ?_
        repeat' (first | ((with_reducible first | refine wA (by omega) ?_ | refine wB (by omega) ?_ | refine wC (by omega) ?_ | refine wD (by omega) ?_ | refine wE ?_ ?_ | refine wF ?_ ?_ | refine wG ?_ ?_ | refine wH ?_ ?_ | refine wI ?_ ?_ | refine wJ ?_ ?_ | refine wK ?_ ?_ | refine wL ?_ ?_) <;> intro _) | simp (maxSteps := 1000000) (disch := omega) only [go_sem, Nat.reduceAdd, Nat.reduceMul, Nat.reduceSub, Nat.reduceLeDiff, Nat.reduceEqDiff, Nat.reduceBEq, ↓reduceIte, reduceCtorEq, Int.reduceEq, Int.reduceLE, Int.reduceLT, Int.reduceAdd, Int.reduceSub, Int.reduceNeg, Int.reduceToNat, Int.reduceNe, Nat.reducePow, Nat.reduceShiftRight, Nat.reduceMod, rounds_next, *])
        exact fin_mut (.sc (.bool true)) (.inr rfl) cE2 (show putRaw bys kind n s [] [] H nx id p q kp _ _ _ from ⟨Nat.le_trans hm2 (Nat.le_add_right _ _), hkk.out, .inr ⟨([] : List Lv), [], (.sc (.slice none 0 0)), .sc (.slice none 0 0), hysk.out, rfl, rfl, hHi, hrk.out.mono (Nat.le_add_right _ _) (fun _ _ _ _ => rfl), .inl ⟨rfl, rfl⟩⟩⟩)
      · have ha00 : 0 < args.length := by omega
        have hrk := Kept.mk hrow
        clear hrow
        repeat' (first | ((with_reducible first | refine wA (by omega) ?_ | refine wB (by omega) ?_ | refine wC (by omega) ?_ | refine wD (by omega) ?_ | refine wE ?_ ?_ | refine wF ?_ ?_ | refine wG ?_ ?_ | refine wH ?_ ?_ | refine wI ?_ ?_ | refine wJ ?_ ?_ | refine wK ?_ ?_ | refine wL ?_ ?_) <;> intro _) | simp (maxSteps := 1000000) (disch := omega) only [go_sem, Nat.reduceAdd, Nat.reduceMul, Nat.reduceSub, Nat.reduceLeDiff, Nat.reduceEqDiff, Nat.reduceBEq, ↓reduceIte, reduceCtorEq, Int.reduceEq, Int.reduceLE, Int.reduceLT, Int.reduceAdd, Int.reduceSub, Int.reduceNeg, Int.reduceToNat, Int.reduceNe, Nat.reducePow, Nat.reduceShiftRight, Nat.reduceMod, at0, at1, at2, at3, at4, List.take_succ_cons, List.drop_succ_cons, List.take_zero, List.drop_zero, List.cons_append, List.nil_append, hz1, hz2, hz3, hz4, and_self, *])
        refine c_loopW 83076591280232213527812754179621952 (by kernel_rfl) (fun j f H3 m3 => ∃ (i2 : Nat) (zs : List Tm), j = args.length - i2 ∧ i2 ≤ args.length ∧ f 97 = .sc (.int .i64 i2) ∧ m + 13 < m3 ∧ Kept (putLs bys (args.take i2) = some zs) ∧ Kept (zs.length = i2) ∧ Kept (∀ j, kp j = true → H3 j = H j) ∧
          H3 id = some ⟨p ++ (.sc (.int .i64 kind) :: .sc (.int .i64 n) :: .sc (.string s) :: (.sc (.slice none 0 0)) :: .osl (m + 13) 0 args.length 5 :: q), true⟩ ∧ Kept (H3 (m + 13) = some ⟨zs.flatMap Tm.pv ++ zeros [.int .i64 0, .int .i64 0, .string ⟨#[]⟩, .slice none 0 0, .slice none 0 0] (args.length - i2), true⟩) ∧ Kept (RowP H3 nx m 3 (.sc (.slice none 0 0)) (([] : List Lv).map Lv.pv))) _
          ⟨0, [], rfl, cE1, cE1, Nat.add_lt_add_left (by omega) _, Kept.mk rfl, Kept.mk rfl, Kept.mk (fun j hj => by have h1 := hkp2.out j hj; exact ((upd_ne _ _ h1.1).trans (upd_ne _ _ (show j ≠ m + 13 by omega))).trans (hkk.out j hj)), upd_same _ _ _, Kept.mk ((upd_ne _ _ (show m + 13 ≠ id by omega)).trans ((upd_same _ _ _).trans rfl)), Kept.mk (hrk.out.mono (Nat.le_refl _) fun j g1 g2 _ => (upd_ne _ _ (show j ≠ id by omega)).trans (upd_ne _ _ (show j ≠ m + 13 by omega)))⟩ ?_
        clear hkk hrk hHi
        rintro _ f3 H3 m3 ⟨i2, zs, rfl, hi2, e97, hm3, hzs, hzl, hkk, hHi, hHb, hrk⟩
        by_cases hlt2 : i2 < args.length
        · have eg : args[i2]? = some args[i2] := List.getElem?_eq_getElem hlt2
          have hn := nodesT_mem args i2 hlt2
          have hs := sizeL_mem args i2 hlt2
          repeat' (first | ((with_reducible first | refine wA (by omega) ?_ | refine wB (by omega) ?_ | refine wC (by omega) ?_ | refine wD (by omega) ?_ | refine wE ?_ ?_ | refine wF ?_ ?_ | refine wG ?_ ?_ | refine wH ?_ ?_ | refine wI ?_ ?_ | refine wJ ?_ ?_ | refine wK ?_ ?_ | refine wL ?_ ?_) <;> intro _) | simp (maxSteps := 1000000) (disch := omega) only [go_sem, Nat.reduceAdd, Nat.reduceMul, Nat.reduceSub, Nat.reduceLeDiff, Nat.reduceEqDiff, Nat.reduceBEq, ↓reduceIte, reduceCtorEq, Int.reduceEq, Int.reduceLE, Int.reduceLT, Int.reduceAdd, Int.reduceSub, Int.reduceNeg, Int.reduceToNat, Int.reduceNe, Nat.reducePow, Nat.reduceShiftRight, Nat.reduceMod, at0, at1, at2, at3, at4, List.take_succ_cons, List.drop_succ_cons, List.take_zero, List.drop_zero, List.cons_append, List.nil_append, hz1, hz2, hz3, hz4, and_self, *])
          obtain ⟨r, hr⟩ : ∃ r, args.length - i2 = r + 1 := ⟨args.length - i2 - 1, by omega⟩
          have hHb2 := hHb.out
          rw [hr] at hHb2
          refine call_mut (ihk.out args[i2] (by omega) (by omega) _ _ (m + 13) (i2 * 5) (zs.flatMap Tm.pv) (zeros [.int .i64 0, .int .i64 0, .string ⟨#[]⟩, .slice none 0 0, .slice none 0 0] r) (fun j => kp j || decide (j = id) || leads (.sc (.slice none 0 0)) j) hHb2 (Nat.lt_of_lt_of_le hm3 (Nat.le_add_right _ _)) (by rw [flat_lenG _ 5 tm_len, hzl.out]) (tms_immF zs) (zeros_imm r) ?kp) ?_
          case kp =>
            intro j hj
            simp only [Bool.or_eq_true, decide_eq_true_eq] at hj
            rcases hj with (hj | rfl) | hj
            · have h1 := hkpk.out j hj
              refine ⟨by omega, Nat.lt_of_lt_of_le (by omega : j < m3) (Nat.le_add_right _ _), fun o ho => ?_⟩
              have h2 := h1.2.2 o ((hkk.out j hj).symm.trans ho)
              exact ⟨h2.1, h2.2.mono (Nat.le_trans (by omega : nx ≤ m3) (Nat.le_add_right _ _))⟩
            · refine ⟨by omega, Nat.lt_of_lt_of_le (by omega : j < m3) (Nat.le_add_right _ _), fun o ho => ?_⟩
              have ho2 := hHi.symm.trans ho
              cases ho2
              refine ⟨isIt_len (by simp; omega), ?_⟩
              exact (FixL.imm hpik.out).append (.cons rfl (.cons rfl (.cons rfl (hrk.out.fix (Nat.le_trans (by omega : m ≤ m3) (Nat.le_add_right _ _)) (.osl (Nat.lt_of_lt_of_le hm3 (Nat.le_add_right _ _)) (.imm hqik.out))))))
            · have h1 := hrk.out.lead (flat3_ne1 _) (lvs_immF _) hj (m3 + 15)
              refine ⟨by omega, Nat.lt_of_lt_of_le (by omega : j < m3) (Nat.le_add_right _ _), fun o ho => (hrk.out.lead (flat3_ne1 _) (lvs_immF _) hj _).2.2 o ho⟩
          rintro H' nx' r' ⟨hn1, hk1, hcase⟩ -
          have hn2 : m3 ≤ nx' := Nat.le_trans (Nat.le_add_right _ _) hn1
          have hkk' : Kept (∀ j, kp j = true → H' j = H j) := Kept.mk fun j hj => (hk1 j (by simp [hj])).trans (hkk.out j hj)
          have hHi' : H' id = _ := (hk1 id (by simp)).trans hHi
          have hrk' : Kept (RowP H' nx m 3 (.sc (.slice none 0 0)) (([] : List Lv).map Lv.pv)) := Kept.mk (hrk.out.mono (Nat.le_refl _) fun j g1 g2 g3 => hk1 j (by simp [g3]))
          rcases hcase with ⟨hno, rfl⟩ | ⟨y, hy, rfl, hrow'⟩
          · have hnok : Kept ((Tm.mk kind n s [] args).putL bys = none) := Kept.mk (by
              simp only [Tm.putL, putLs_none bys args i2 hlt2 hno]
              cases insts bys [] <;> rfl)
            clear hno hk1 hkk hHi hrk hHb hHb2 ihk hn1
            repeat' (first | ((with_reducible first | refine wA (by omega) ?_ | refine wB (by omega) ?_ | refine wC (by omega) ?_ | refine wD (by omega) ?_ | refine wE ?_ ?_ | refine wF ?_ ?_ | refine wG ?_ ?_ | refine wH ?_ ?_ | refine wI ?_ ?_ | refine wJ ?_ ?_ | refine wK ?_ ?_ | refine wL ?_ ?_) <;> intro _) | simp (maxSteps := 1000000) (disch := omega) only [go_sem, Nat.reduceAdd, Nat.reduceMul, Nat.reduceSub, Nat.reduceLeDiff, Nat.reduceEqDiff, Nat.reduceBEq, ↓reduceIte, reduceCtorEq, Int.reduceEq, Int.reduceLE, Int.reduceLT, Int.reduceAdd, Int.reduceSub, Int.reduceNeg, Int.reduceToNat, Int.reduceNe, Nat.reducePow, Nat.reduceShiftRight, Nat.reduceMod, at0, at1, at2, at3, at4, List.take_succ_cons, List.drop_succ_cons, List.take_zero, List.drop_zero, List.cons_append, List.nil_append, hz1, hz2, hz3, hz4, and_self, *])
            exact fin_mut (.sc (.bool false)) (.inr rfl) cE2 (show putRaw bys kind n s [] args H nx id p q kp _ _ _ from ⟨Nat.le_trans (by omega : nx ≤ nx') (Nat.le_add_right _ _), hkk'.out, .inl ⟨hnok.out, rfl⟩⟩)
          · have hsn := putLs_snoc bys args[i2] (args.take i2) zs hzs.out
            rw [hy, Option.map_some] at hsn
            have hzs2 : Kept (putLs bys (args.take (i2 + 1)) = some (zs ++ [y])) := Kept.mk (by rw [List.take_succ_eq_append_getElem hlt2]; exact hsn)
            have hrowk : Kept (H' (m + 13) = some ⟨(zs ++ [y]).flatMap Tm.pv ++ zeros [.int .i64 0, .int .i64 0, .string ⟨#[]⟩, .slice none 0 0, .slice none 0 0] (args.length - (i2 + 1)), true⟩) := Kept.mk (by
              rw [hrow', show args.length - (i2 + 1) = r by omega, List.flatMap_append]
              simp)
            clear hy hsn hk1 hkk hHi hrk hHb hHb2 ihk hn1 hrow' hzs
            repeat' (first | ((with_reducible first | refine wA (by omega) ?_ | refine wB (by omega) ?_ | refine wC (by omega) ?_ | refine wD (by omega) ?_ | refine wE ?_ ?_ | refine wF ?_ ?_ | refine wG ?_ ?_ | refine wH ?_ ?_ | refine wI ?_ ?_ | refine wJ ?_ ?_ | refine wK ?_ ?_ | refine wL ?_ ?_) <;> intro _) | simp (maxSteps := 1000000) (disch := omega) only [go_sem, Nat.reduceAdd, Nat.reduceMul, Nat.reduceSub, Nat.reduceLeDiff, Nat.reduceEqDiff, Nat.reduceBEq, ↓reduceIte, reduceCtorEq, Int.reduceEq, Int.reduceLE, Int.reduceLT, Int.reduceAdd, Int.reduceSub, Int.reduceNeg, Int.reduceToNat, Int.reduceNe, Nat.reducePow, Nat.reduceShiftRight, Nat.reduceMod, at0, at1, at2, at3, at4, List.take_succ_cons, List.drop_succ_cons, List.take_zero, List.drop_zero, List.cons_append, List.nil_append, hz1, hz2, hz3, hz4, and_self, *])
            exact Nx.mk (args.length - (i2 + 1)) cE1 ⟨i2 + 1, zs ++ [y], rfl, cE1, cE1, Nat.lt_of_lt_of_le (by omega : m + 13 < nx') (Nat.le_add_right _ _), hzs2, Kept.mk (by simp [hzl.out]), hkk', hHi', hrowk, hrk'⟩
        · obtain rfl : i2 = args.length := by omega
          have hzs' := hzs.out
          rw [List.take_length] at hzs'
          have hzk := Kept.mk hzs'
          have hHb' : Kept (H3 (m + 13) = some ⟨zs.flatMap Tm.pv, true⟩) := Kept.mk (by rw [hHb.out, Nat.sub_self]; simp [zeros])
          clear hzs' hzs hHb ihk
          repeat' (first | ((with_reducible first | refine wA (by omega) ?_ | refine wB (by omega) ?_ | refine wC (by omega) ?_ | refine wD (by omega) ?_ | refine wE ?_ ?_ | refine wF ?_ ?_ | refine wG ?_ ?_ | refine wH ?_ ?_ | refine wI ?_ ?_ | refine wJ ?_ ?_ | refine wK ?_ ?_ | refine wL ?_ ?_) <;> intro _) | simp (maxSteps := 1000000) (disch := omega) only [go_sem, Nat.reduceAdd, Nat.reduceMul, Nat.reduceSub, Nat.reduceLeDiff, Nat.reduceEqDiff, Nat.reduceBEq, ↓reduceIte, reduceCtorEq, Int.reduceEq, Int.reduceLE, Int.reduceLT, Int.reduceAdd, Int.reduceSub, Int.reduceNeg, Int.reduceToNat, Int.reduceNe, Nat.reducePow, Nat.reduceShiftRight, Nat.reduceMod, at0, at1, at2, at3, at4, List.take_succ_cons, List.drop_succ_cons, List.take_zero, List.drop_zero, List.cons_append, List.nil_append, hz1, hz2, hz3, hz4, and_self, *])
          exact fin_mut (.sc (.bool true)) (.inr rfl) cE2 (show putRaw bys kind n s [] args H nx id p q kp _ _ _ from ⟨Nat.le_trans (by omega : nx ≤ m3) (Nat.le_add_right _ _), hkk.out, .inr ⟨([] : List Lv), zs, (.sc (.slice none 0 0)), .osl (m + 13) 0 args.length 5, hysk.out, hzk.out, rfl, hHi, hrk.out.mono (Nat.le_trans (by omega : m ≤ m3) (Nat.le_add_right _ _)) (fun _ _ _ _ => rfl), .inr ⟨m + 13, by omega, Nat.lt_of_lt_of_le hm3 (Nat.le_add_right _ _), by rw [List.length_map, hzl.out], hHb'.out.trans (by rw [List.flatMap_def])⟩⟩⟩)
    · have hl00 : 0 < ls.length := by omega
      repeat' (first | ((with_reducible first | refine wA (by omega) ?_ | refine wB (by omega) ?_ | refine wC (by omega) ?_ | refine wD (by omega) ?_ | refine wE ?_ ?_ | refine wF ?_ ?_ | refine wG ?_ ?_ | refine wH ?_ ?_ | refine wI ?_ ?_ | refine wJ ?_ ?_ | refine wK ?_ ?_ | refine wL ?_ ?_) <;> intro _) | simp (maxSteps := 1000000) (disch := omega) only [go_sem, Nat.reduceAdd, Nat.reduceMul, Nat.reduceSub, Nat.reduceLeDiff, Nat.reduceEqDiff, Nat.reduceBEq, ↓reduceIte, reduceCtorEq, Int.reduceEq, Int.reduceLE, Int.reduceLT, Int.reduceAdd, Int.reduceSub, Int.reduceNeg, Int.reduceToNat, Int.reduceNe, Nat.reducePow, Nat.reduceShiftRight, Nat.reduceMod, mc_term_putLevels, Tm.pv, at0, at1, at2, at3, at4, List.take_succ_cons, List.drop_succ_cons, List.take_zero, List.drop_zero, List.cons_append, List.nil_append, hz1, hz2, hz3, hz4, and_self, *])
      refine c_loopW 151115722948229019468736 (by kernel_rfl) (fun j f H2 m => ∃ (i : Nat) (ys : List Lv) (a : PV), j = ls.length - i ∧ i ≤ ls.length ∧ f 52 = .sc (.int .i64 i) ∧ nx ≤ m ∧ Kept (insts bys (ls.take i) = some ys) ∧ Kept (ys.length = i) ∧ Kept (∀ j, kp j = true → H2 j = H j) ∧
        H2 id = some ⟨p ++ (.sc (.int .i64 kind) :: .sc (.int .i64 n) :: .sc (.string s) :: a :: .sc (.slice none 0 0) :: q), true⟩ ∧ ∃ idr, nx ≤ idr ∧ idr < m ∧ a = .osl idr 0 ls.length 3 ∧ H2 idr = some ⟨halfG Lv.pv z3 ys (ls.length - i), true⟩) _ ⟨0, [], _, rfl, cE1, cE1, Nat.le_add_right _ _, Kept.mk rfl, Kept.mk rfl, Kept.mk (fun j hj => by have := hkp2.out j hj; simp [upd, this.1]; try omega), upd_same _ _ _, _, Nat.le_add_right _ _, Nat.add_lt_add_left (by omega) _, rfl, (upd_ne _ _ (show nx + 37 ≠ id by omega)).trans ((upd_same _ _ _).trans rfl)⟩ ?_
      clear hl0 hH
      rintro _ f H2 m ⟨i, ys, _, rfl, hi, e52, hm2, hys, hyl, hkk, hHi, idr, hr1, hr2, rfl, hr3⟩
      by_cases hlt : i < ls.length
      · have eg : ls[i]? = some ls[i] := List.getElem?_eq_getElem hlt
        have c1 := Inst_p ls[i] bys
        rw [← instV_eq] at c1
        simp only [lvs] at c1
        cases hv : ls[i].instV bys with
        | none =>
          have hnok : Kept ((Tm.mk kind n s ls args).putL bys = none) := Kept.mk (by simp only [Tm.putL, insts_none bys ls i hlt hv])
          rw [hv] at c1
          simp only [instPV] at c1
          clear ihk hv
          repeat' (first | ((with_reducible first | refine wA (by omega) ?_ | refine wB (by omega) ?_ | refine wC (by omega) ?_ | refine wD (by omega) ?_ | refine wE ?_ ?_ | refine wF ?_ ?_ | refine wG ?_ ?_ | refine wH ?_ ?_ | refine wI ?_ ?_ | refine wJ ?_ ?_ | refine wK ?_ ?_ | refine wL ?_ ?_) <;> intro _) | (((with_reducible refine call_id ?_); (first | (refine call_pure (c1) ?_)))) | simp (maxSteps := 1000000) (disch := omega) only [go_sem, Nat.reduceAdd, Nat.reduceMul, Nat.reduceSub, Nat.reduceLeDiff, Nat.reduceEqDiff, Nat.reduceBEq, ↓reduceIte, reduceCtorEq, Int.reduceEq, Int.reduceLE, Int.reduceLT, Int.reduceAdd, Int.reduceSub, Int.reduceNeg, Int.reduceToNat, Int.reduceNe, Nat.reducePow, Nat.reduceShiftRight, Nat.reduceMod, at0, at1, at2, at3, at4, List.take_succ_cons, List.drop_succ_cons, List.take_zero, List.drop_zero, List.cons_append, List.nil_append, hz1, hz2, hz3, hz4, and_self, *])
          exact fin_mut (.sc (.bool false)) (.inr rfl) cE2 (show putRaw bys kind n s ls args H nx id p q kp _ _ _ from ⟨Nat.le_trans hm2 (Nat.le_add_right _ _), (fun j hj => by have h1 := hkp2.out j hj; have h2 := hkk.out j hj; simp [upd, show j ≠ m + 15 by omega, h2]), .inl ⟨hnok.out, rfl⟩⟩)
        | some y =>
          rw [hv] at c1
          simp only [instPV] at c1
          have hsn := insts_snoc bys ls[i] (ls.take i) ys hys.out
          rw [hv, Option.map_some] at hsn
          have hys2 : Kept (insts bys (ls.take (i + 1)) = some (ys ++ [y])) := Kept.mk (by rw [List.take_succ_eq_append_getElem hlt]; exact hsn)
          have hhl := halfG_len (g := Lv.pv) pv_len (rfl : z3.length = 3) ys (ls.length - i)
          rw [hyl.out] at hhl
          have hhs := halfG_set' (g := Lv.pv) pv_len (rfl : z3.length = 3) ys i ls.length y hlt hyl.out
          have hle : i * 3 + 3 ≤ i * 3 + (ls.length - i) * 3 := by omega
          clear ihk hv hsn hys
          repeat' (first | ((with_reducible first | refine wA (by omega) ?_ | refine wB (by omega) ?_ | refine wC (by omega) ?_ | refine wD (by omega) ?_ | refine wE ?_ ?_ | refine wF ?_ ?_ | refine wG ?_ ?_ | refine wH ?_ ?_ | refine wI ?_ ?_ | refine wJ ?_ ?_ | refine wK ?_ ?_ | refine wL ?_ ?_) <;> intro _) | (((with_reducible refine call_id ?_); (first | (refine call_pure (c1) ?_)))) | simp (maxSteps := 1000000) (disch := omega) only [go_sem, Nat.reduceAdd, Nat.reduceMul, Nat.reduceSub, Nat.reduceLeDiff, Nat.reduceEqDiff, Nat.reduceBEq, ↓reduceIte, reduceCtorEq, Int.reduceEq, Int.reduceLE, Int.reduceLT, Int.reduceAdd, Int.reduceSub, Int.reduceNeg, Int.reduceToNat, Int.reduceNe, Nat.reducePow, Nat.reduceShiftRight, Nat.reduceMod, at0, at1, at2, at3, at4, List.take_succ_cons, List.drop_succ_cons, List.take_zero, List.drop_zero, List.cons_append, List.nil_append, hz1, hz2, hz3, hz4, and_self, *])
          exact Nx.mk (ls.length - (i + 1)) cE1 ⟨i + 1, ys ++ [y], _, rfl, cE1, cE1, Nat.le_trans hm2 (Nat.le_add_right _ _), hys2, Kept.mk (by simp [hyl.out]), Kept.mk (fun j hj => by have h1 := hkp2.out j hj; have h2 := hkk.out j hj; simp [upd, show j ≠ m + 15 by omega, show j ≠ idr by omega, h2]), by (simp [upd, show id ≠ m + 15 by omega, show id ≠ idr by omega]; exact hHi), idr, hr1, Nat.lt_of_lt_of_le hr2 (Nat.le_add_right _ _), rfl, upd_same _ _ _⟩
      · obtain rfl : i = ls.length := by omega
        have hys' := hys.out
        rw [List.take_length] at hys'
        have hysk := Kept.mk hys'
        have hrow : RowP H2 nx m 3 (.osl idr 0 ls.length 3) (ys.map Lv.pv) := .inr ⟨idr, hr1, hr2, by rw [List.length_map, hyl.out], by rw [hr3, Nat.sub_self, halfG, List.flatMap_def]; simp [zeros]⟩
        clear hys hys' hr3
        by_cases ha0 : args.length = 0
        · obtain rfl : args = [] := List.eq_nil_of_length_eq_zero ha0
          have hrk := Kept.mk hrow
          clear hrow ihk
          repeat' (first | ((with_reducible first | refine wA (by omega) ?_ | refine wB (by omega) ?_ | refine wC (by omega) ?_ | refine wD (by omega) ?_ | refine wE ?_ ?_ | refine wF ?_ ?_ | refine wG ?_ ?_ | refine wH ?_ ?_ | refine wI ?_ ?_ | refine wJ ?_ ?_ | refine wK ?_ ?_ | refine wL ?_ ?_) <;> intro _) | simp (maxSteps := 1000000) (disch := omega) only [go_sem, Nat.reduceAdd, Nat.reduceMul, Nat.reduceSub, Nat.reduceLeDiff, Nat.reduceEqDiff, Nat.reduceBEq, ↓reduceIte, reduceCtorEq, Int.reduceEq, Int.reduceLE, Int.reduceLT, Int.reduceAdd, Int.reduceSub, Int.reduceNeg, Int.reduceToNat, Int.reduceNe, Nat.reducePow, Nat.reduceShiftRight, Nat.reduceMod, at0, at1, at2, at3, at4, List.take_succ_cons, List.drop_succ_cons, List.take_zero, List.drop_zero, List.cons_append, List.nil_append, hz1, hz2, hz3, hz4, and_self, *])
          refine c_rounds 1 ?_
          repeat' (first | ((with_reducible first | refine wA (by omega) ?_ | refine wB (by omega) ?_ | refine wC (by omega) ?_ | refine wD (by omega) ?_ | refine wE ?_ ?_ | refine wF ?_ ?_ | refine wG ?_ ?_ | refine wH ?_ ?_ | refine wI ?_ ?_ | refine wJ ?_ ?_ | refine wK ?_ ?_ | refine wL ?_ ?_) <;> intro _) | simp (maxSteps := 1000000) (disch := omega) only [go_sem, Nat.reduceAdd, Nat.reduceMul, Nat.reduceSub, Nat.reduceLeDiff, Nat.reduceEqDiff, Nat.reduceBEq, ↓reduceIte, reduceCtorEq, Int.reduceEq, Int.reduceLE, Int.reduceLT, Int.reduceAdd, Int.reduceSub, Int.reduceNeg, Int.reduceToNat, Int.reduceNe, Nat.reducePow, Nat.reduceShiftRight, Nat.reduceMod, rounds_next, *])
          exact fin_mut (.sc (.bool true)) (.inr rfl) cE2 (show putRaw bys kind n s ls [] H nx id p q kp _ _ _ from ⟨Nat.le_trans hm2 (Nat.le_add_right _ _), hkk.out, .inr ⟨ys, [], (.osl idr 0 ls.length 3), .sc (.slice none 0 0), hysk.out, rfl, rfl, hHi, hrk.out.mono (Nat.le_add_right _ _) (fun _ _ _ _ => rfl), .inl ⟨rfl, rfl⟩⟩⟩)
        · have ha00 : 0 < args.length := by omega
          have hrk := Kept.mk hrow
          clear hrow
          repeat' (first | ((with_reducible first | refine wA (by omega) ?_ | refine wB (by omega) ?_ | refine wC (by omega) ?_ | refine wD (by omega) ?_ | refine wE ?_ ?_ | refine wF ?_ ?_ | refine wG ?_ ?_ | refine wH ?_ ?_ | refine wI ?_ ?_ | refine wJ ?_ ?_ | refine wK ?_ ?_ | refine wL ?_ ?_) <;> intro _) | simp (maxSteps := 1000000) (disch := omega) only [go_sem, Nat.reduceAdd, Nat.reduceMul, Nat.reduceSub, Nat.reduceLeDiff, Nat.reduceEqDiff, Nat.reduceBEq, ↓reduceIte, reduceCtorEq, Int.reduceEq, Int.reduceLE, Int.reduceLT, Int.reduceAdd, Int.reduceSub, Int.reduceNeg, Int.reduceToNat, Int.reduceNe, Nat.reducePow, Nat.reduceShiftRight, Nat.reduceMod, at0, at1, at2, at3, at4, List.take_succ_cons, List.drop_succ_cons, List.take_zero, List.drop_zero, List.cons_append, List.nil_append, hz1, hz2, hz3, hz4, and_self, *])
          refine c_loopW 83076591280232213527812754179621952 (by kernel_rfl) (fun j f H3 m3 => ∃ (i2 : Nat) (zs : List Tm), j = args.length - i2 ∧ i2 ≤ args.length ∧ f 97 = .sc (.int .i64 i2) ∧ m + 13 < m3 ∧ Kept (putLs bys (args.take i2) = some zs) ∧ Kept (zs.length = i2) ∧ Kept (∀ j, kp j = true → H3 j = H j) ∧
            H3 id = some ⟨p ++ (.sc (.int .i64 kind) :: .sc (.int .i64 n) :: .sc (.string s) :: (.osl idr 0 ls.length 3) :: .osl (m + 13) 0 args.length 5 :: q), true⟩ ∧ Kept (H3 (m + 13) = some ⟨zs.flatMap Tm.pv ++ zeros [.int .i64 0, .int .i64 0, .string ⟨#[]⟩, .slice none 0 0, .slice none 0 0] (args.length - i2), true⟩) ∧ Kept (RowP H3 nx m 3 (.osl idr 0 ls.length 3) (ys.map Lv.pv))) _
            ⟨0, [], rfl, cE1, cE1, Nat.add_lt_add_left (by omega) _, Kept.mk rfl, Kept.mk rfl, Kept.mk (fun j hj => by have h1 := hkp2.out j hj; exact ((upd_ne _ _ h1.1).trans (upd_ne _ _ (show j ≠ m + 13 by omega))).trans (hkk.out j hj)), upd_same _ _ _, Kept.mk ((upd_ne _ _ (show m + 13 ≠ id by omega)).trans ((upd_same _ _ _).trans rfl)), Kept.mk (hrk.out.mono (Nat.le_refl _) fun j g1 g2 _ => (upd_ne _ _ (show j ≠ id by omega)).trans (upd_ne _ _ (show j ≠ m + 13 by omega)))⟩ ?_
          clear hkk hrk hHi
          rintro _ f3 H3 m3 ⟨i2, zs, rfl, hi2, e97, hm3, hzs, hzl, hkk, hHi, hHb, hrk⟩
          by_cases hlt2 : i2 < args.length
          · have eg : args[i2]? = some args[i2] := List.getElem?_eq_getElem hlt2
            have hn := nodesT_mem args i2 hlt2
            have hs := sizeL_mem args i2 hlt2
            repeat' (first | ((with_reducible first | refine wA (by omega) ?_ | refine wB (by omega) ?_ | refine wC (by omega) ?_ | refine wD (by omega) ?_ | refine wE ?_ ?_ | refine wF ?_ ?_ | refine wG ?_ ?_ | refine wH ?_ ?_ | refine wI ?_ ?_ | refine wJ ?_ ?_ | refine wK ?_ ?_ | refine wL ?_ ?_) <;> intro _) | simp (maxSteps := 1000000) (disch := omega) only [go_sem, Nat.reduceAdd, Nat.reduceMul, Nat.reduceSub, Nat.reduceLeDiff, Nat.reduceEqDiff, Nat.reduceBEq, ↓reduceIte, reduceCtorEq, Int.reduceEq, Int.reduceLE, Int.reduceLT, Int.reduceAdd, Int.reduceSub, Int.reduceNeg, Int.reduceToNat, Int.reduceNe, Nat.reducePow, Nat.reduceShiftRight, Nat.reduceMod, at0, at1, at2, at3, at4, List.take_succ_cons, List.drop_succ_cons, List.take_zero, List.drop_zero, List.cons_append, List.nil_append, hz1, hz2, hz3, hz4, and_self, *])
            obtain ⟨r, hr⟩ : ∃ r, args.length - i2 = r + 1 := ⟨args.length - i2 - 1, by omega⟩
            have hHb2 := hHb.out
            rw [hr] at hHb2
            refine call_mut (ihk.out args[i2] (by omega) (by omega) _ _ (m + 13) (i2 * 5) (zs.flatMap Tm.pv) (zeros [.int .i64 0, .int .i64 0, .string ⟨#[]⟩, .slice none 0 0, .slice none 0 0] r) (fun j => kp j || decide (j = id) || leads (.osl idr 0 ls.length 3) j) hHb2 (Nat.lt_of_lt_of_le hm3 (Nat.le_add_right _ _)) (by rw [flat_lenG _ 5 tm_len, hzl.out]) (tms_immF zs) (zeros_imm r) ?kp) ?_
            case kp =>
              intro j hj
              simp only [Bool.or_eq_true, decide_eq_true_eq] at hj
              rcases hj with (hj | rfl) | hj
              · have h1 := hkpk.out j hj
                refine ⟨by omega, Nat.lt_of_lt_of_le (by omega : j < m3) (Nat.le_add_right _ _), fun o ho => ?_⟩
                have h2 := h1.2.2 o ((hkk.out j hj).symm.trans ho)
                exact ⟨h2.1, h2.2.mono (Nat.le_trans (by omega : nx ≤ m3) (Nat.le_add_right _ _))⟩
              · refine ⟨by omega, Nat.lt_of_lt_of_le (by omega : j < m3) (Nat.le_add_right _ _), fun o ho => ?_⟩
                have ho2 := hHi.symm.trans ho
                cases ho2
                refine ⟨isIt_len (by simp; omega), ?_⟩
                exact (FixL.imm hpik.out).append (.cons rfl (.cons rfl (.cons rfl (hrk.out.fix (Nat.le_trans (by omega : m ≤ m3) (Nat.le_add_right _ _)) (.osl (Nat.lt_of_lt_of_le hm3 (Nat.le_add_right _ _)) (.imm hqik.out))))))
              · have h1 := hrk.out.lead (flat3_ne1 _) (lvs_immF _) hj (m3 + 15)
                refine ⟨by omega, Nat.lt_of_lt_of_le (by omega : j < m3) (Nat.le_add_right _ _), fun o ho => (hrk.out.lead (flat3_ne1 _) (lvs_immF _) hj _).2.2 o ho⟩
            rintro H' nx' r' ⟨hn1, hk1, hcase⟩ -
            have hn2 : m3 ≤ nx' := Nat.le_trans (Nat.le_add_right _ _) hn1
            have hkk' : Kept (∀ j, kp j = true → H' j = H j) := Kept.mk fun j hj => (hk1 j (by simp [hj])).trans (hkk.out j hj)
            have hHi' : H' id = _ := (hk1 id (by simp)).trans hHi
            have hrk' : Kept (RowP H' nx m 3 (.osl idr 0 ls.length 3) (ys.map Lv.pv)) := Kept.mk (hrk.out.mono (Nat.le_refl _) fun j g1 g2 g3 => hk1 j (by simp [g3]))
            rcases hcase with ⟨hno, rfl⟩ | ⟨y, hy, rfl, hrow'⟩
            · have hnok : Kept ((Tm.mk kind n s ls args).putL bys = none) := Kept.mk (by
                simp only [Tm.putL, putLs_none bys args i2 hlt2 hno]
                cases insts bys ls <;> rfl)
              clear hno hk1 hkk hHi hrk hHb hHb2 ihk hn1
              repeat' (first | ((with_reducible first | refine wA (by omega) ?_ | refine wB (by omega) ?_ | refine wC (by omega) ?_ | refine wD (by omega) ?_ | refine wE ?_ ?_ | refine wF ?_ ?_ | refine wG ?_ ?_ | refine wH ?_ ?_ | refine wI ?_ ?_ | refine wJ ?_ ?_ | refine wK ?_ ?_ | refine wL ?_ ?_) <;> intro _) | simp (maxSteps := 1000000) (disch := omega) only [go_sem, Nat.reduceAdd, Nat.reduceMul, Nat.reduceSub, Nat.reduceLeDiff, Nat.reduceEqDiff, Nat.reduceBEq, ↓reduceIte, reduceCtorEq, Int.reduceEq, Int.reduceLE, Int.reduceLT, Int.reduceAdd, Int.reduceSub, Int.reduceNeg, Int.reduceToNat, Int.reduceNe, Nat.reducePow, Nat.reduceShiftRight, Nat.reduceMod, at0, at1, at2, at3, at4, List.take_succ_cons, List.drop_succ_cons, List.take_zero, List.drop_zero, List.cons_append, List.nil_append, hz1, hz2, hz3, hz4, and_self, *])
              exact fin_mut (.sc (.bool false)) (.inr rfl) cE2 (show putRaw bys kind n s ls args H nx id p q kp _ _ _ from ⟨Nat.le_trans (by omega : nx ≤ nx') (Nat.le_add_right _ _), hkk'.out, .inl ⟨hnok.out, rfl⟩⟩)
            · have hsn := putLs_snoc bys args[i2] (args.take i2) zs hzs.out
              rw [hy, Option.map_some] at hsn
              have hzs2 : Kept (putLs bys (args.take (i2 + 1)) = some (zs ++ [y])) := Kept.mk (by rw [List.take_succ_eq_append_getElem hlt2]; exact hsn)
              have hrowk : Kept (H' (m + 13) = some ⟨(zs ++ [y]).flatMap Tm.pv ++ zeros [.int .i64 0, .int .i64 0, .string ⟨#[]⟩, .slice none 0 0, .slice none 0 0] (args.length - (i2 + 1)), true⟩) := Kept.mk (by
                rw [hrow', show args.length - (i2 + 1) = r by omega, List.flatMap_append]
                simp)
              clear hy hsn hk1 hkk hHi hrk hHb hHb2 ihk hn1 hrow' hzs
              repeat' (first | ((with_reducible first | refine wA (by omega) ?_ | refine wB (by omega) ?_ | refine wC (by omega) ?_ | refine wD (by omega) ?_ | refine wE ?_ ?_ | refine wF ?_ ?_ | refine wG ?_ ?_ | refine wH ?_ ?_ | refine wI ?_ ?_ | refine wJ ?_ ?_ | refine wK ?_ ?_ | refine wL ?_ ?_) <;> intro _) | simp (maxSteps := 1000000) (disch := omega) only [go_sem, Nat.reduceAdd, Nat.reduceMul, Nat.reduceSub, Nat.reduceLeDiff, Nat.reduceEqDiff, Nat.reduceBEq, ↓reduceIte, reduceCtorEq, Int.reduceEq, Int.reduceLE, Int.reduceLT, Int.reduceAdd, Int.reduceSub, Int.reduceNeg, Int.reduceToNat, Int.reduceNe, Nat.reducePow, Nat.reduceShiftRight, Nat.reduceMod, at0, at1, at2, at3, at4, List.take_succ_cons, List.drop_succ_cons, List.take_zero, List.drop_zero, List.cons_append, List.nil_append, hz1, hz2, hz3, hz4, and_self, *])
              exact Nx.mk (args.length - (i2 + 1)) cE1 ⟨i2 + 1, zs ++ [y], rfl, cE1, cE1, Nat.lt_of_lt_of_le (by omega : m + 13 < nx') (Nat.le_add_right _ _), hzs2, Kept.mk (by simp [hzl.out]), hkk', hHi', hrowk, hrk'⟩
          · obtain rfl : i2 = args.length := by omega
            have hzs' := hzs.out
            rw [List.take_length] at hzs'
            have hzk := Kept.mk hzs'
            have hHb' : Kept (H3 (m + 13) = some ⟨zs.flatMap Tm.pv, true⟩) := Kept.mk (by rw [hHb.out, Nat.sub_self]; simp [zeros])
            clear hzs' hzs hHb ihk
            repeat' (first | ((with_reducible first | refine wA (by omega) ?_ | refine wB (by omega) ?_ | refine wC (by omega) ?_ | refine wD (by omega) ?_ | refine wE ?_ ?_ | refine wF ?_ ?_ | refine wG ?_ ?_ | refine wH ?_ ?_ | refine wI ?_ ?_ | refine wJ ?_ ?_ | refine wK ?_ ?_ | refine wL ?_ ?_) <;> intro _) | simp (maxSteps := 1000000) (disch := omega) only [go_sem, Nat.reduceAdd, Nat.reduceMul, Nat.reduceSub, Nat.reduceLeDiff, Nat.reduceEqDiff, Nat.reduceBEq, ↓reduceIte, reduceCtorEq, Int.reduceEq, Int.reduceLE, Int.reduceLT, Int.reduceAdd, Int.reduceSub, Int.reduceNeg, Int.reduceToNat, Int.reduceNe, Nat.reducePow, Nat.reduceShiftRight, Nat.reduceMod, at0, at1, at2, at3, at4, List.take_succ_cons, List.drop_succ_cons, List.take_zero, List.drop_zero, List.cons_append, List.nil_append, hz1, hz2, hz3, hz4, and_self, *])
            exact fin_mut (.sc (.bool true)) (.inr rfl) cE2 (show putRaw bys kind n s ls args H nx id p q kp _ _ _ from ⟨Nat.le_trans (by omega : nx ≤ m3) (Nat.le_add_right _ _), hkk.out, .inr ⟨ys, zs, (.osl idr 0 ls.length 3), .osl (m + 13) 0 args.length 5, hysk.out, hzk.out, rfl, hHi, hrk.out.mono (Nat.le_trans (by omega : m ≤ m3) (Nat.le_add_right _ _)) (fun _ _ _ _ => rfl), .inr ⟨m + 13, by omega, Nat.lt_of_lt_of_le hm3 (Nat.le_add_right _ _), by rw [List.length_map, hzl.out], hHb'.out.trans (by rw [List.flatMap_def])⟩⟩⟩)
end
section
set_option maxRecDepth 20000
attribute [local go_sem] pv_len pv_take Nat.add_assoc tm_len tm_take pv_one tm_one id_ne id_ne' id_ne2 List.append_assoc
theorem instV_nodes {l y : Lv} {bys : List Lv} (h : l.instV bys = some y) : y.nodes ≤ 64 := by
  rw [instV_eq] at h
  unfold Lv.instR at h
  split at h
  · cases h; rename_i h; exact h.2.2
  · cases h
theorem insts_nodes (bys : List Lv) : ∀ (xs ys : List Lv), insts bys xs = some ys → nodesL ys ≤ 64 * nodesL xs
  | [], ys, h => by simp only [insts, Option.some.injEq] at h; subst h; simp [nodesL]
  | x :: r, ys, h => by
    simp only [insts] at h
    split at h
    · rename_i y zs h1 h2
      cases h
      have := insts_nodes bys r zs h2
      have := instV_nodes h1
      have := nodes_pos x
      simp only [nodesL]
      omega
    · cases h
mutual
theorem putL_nodes (bys : List Lv) : ∀ (t u : Tm), t.putL bys = some u → u.nodes ≤ 64 * t.nodes
  | .mk k n s ls args, u, h => by
    simp only [Tm.putL] at h
    split at h
    · rename_i ls' args' h1 h2
      cases h
      have := insts_nodes bys ls ls' h1
      have := putLs_nodes bys args args' h2
      simp only [Tm.nodes]
      omega
    · cases h
theorem putLs_nodes (bys : List Lv) : ∀ (ts us : List Tm), putLs bys ts = some us → nodesT us ≤ 64 * nodesT ts
  | [], us, h => by simp only [putLs, Option.some.injEq] at h; subst h; simp [nodesT]
  | t :: r, us, h => by
    simp only [putLs] at h
    split at h
    · rename_i y ys h1 h2
      cases h
      have := putL_nodes bys t y h1
      have := putLs_nodes bys r ys h2
      simp only [nodesT]
      omega
    · cases h
end
set_option maxHeartbeats 4000000 in
theorem term_Levels_p (t : Tm) (bys : List Lv) (hm : t.nodes ≤ 2 ^ 40) : PPure Tryz.prog F.term_Levels [.agg t.pv, .sl 3 (bys.map Lv.pv)] (optT (levelsR t bys)) := by
  refine pure_by is_term_Levels (by simp) (optT_imm _) fun hb nx => ?_
  have hb0 : bys.length ≤ 9223372036854775807 := by simp [bndL, PV.bnd] at hb; exact hb.2.1
  have c1 := tRight_p t hm bys.length 1125899906842624
  clear hb
  by_cases hr : t.right bys.length 1125899906842624 = true
  · have hn := (right_formed hr).2.2.2.2
    rw [hr] at c1
    have hrk := Kept.mk hr
    clear hr
    repeat' (first | ((with_reducible first | refine wA (by omega) ?_ | refine wB (by omega) ?_ | refine wC (by omega) ?_ | refine wD (by omega) ?_ | refine wE ?_ ?_ | refine wF ?_ ?_ | refine wG ?_ ?_ | refine wH ?_ ?_ | refine wI ?_ ?_ | refine wJ ?_ ?_ | refine wK ?_ ?_ | refine wL ?_ ?_) <;> intro _) | (((with_reducible refine call_id ?_); (first | (refine call_pure (c1) ?_)))) | simp (maxSteps := 1000000) (disch := omega) only [go_sem, Nat.reduceAdd, Nat.reduceMul, Nat.reduceSub, Nat.reduceLeDiff, Nat.reduceEqDiff, Nat.reduceBEq, ↓reduceIte, reduceCtorEq, Int.reduceEq, Int.reduceLE, Int.reduceLT, Int.reduceAdd, Int.reduceSub, Int.reduceNeg, Int.reduceToNat, Int.reduceNe, Nat.reducePow, Nat.reduceShiftRight, Nat.reduceMod, mc_term_Levels, *])
    refine call_mut (putLevels_p bys t.size t (Nat.le_refl _) hm _ _ (nx + 8) 0 [] [] (fun j => decide (j = nx + 1)) (upd_same _ _ _) (Nat.add_lt_add_left (by decide) _) rfl rfl rfl ?kp) ?_
    case kp =>
      intro j hj
      obtain rfl : j = nx + 1 := by simpa using hj
      refine ⟨by omega, Nat.add_lt_add_left (by decide) _, fun o ho => ?_⟩
      have ho' := (upd_ne _ _ (show nx + 1 ≠ nx + 8 by omega)).symm.trans ho
      have ho2 := (upd_same _ _ _).symm.trans ho'
      cases ho2
      exact ⟨rfl, .imm rfl⟩
    rintro H' nx' r' ⟨hn1, hk1, hcase⟩ -
    have hH1 : H' (nx + 1) = some ⟨zeroT, true⟩ := (hk1 (nx + 1) (by simp)).trans ((upd_ne _ _ (show nx + 1 ≠ nx + 8 by omega)).trans (upd_same _ _ _))
    unfold zeroT at hH1
    clear hk1 hn1
    rcases hcase with ⟨hno, rfl⟩ | ⟨u, hu, rfl, hrow⟩
    · have e : levelsR t bys = none := by simp [levelsR, hrk.out, hno]
      rw [e]
      clear e hno c1
      repeat' (first | ((with_reducible first | refine wA (by omega) ?_ | refine wB (by omega) ?_ | refine wC (by omega) ?_ | refine wD (by omega) ?_ | refine wE ?_ ?_ | refine wF ?_ ?_ | refine wG ?_ ?_ | refine wH ?_ ?_ | refine wI ?_ ?_ | refine wJ ?_ ?_ | refine wK ?_ ?_ | refine wL ?_ ?_) <;> intro _) | simp (maxSteps := 1000000) (disch := omega) only [go_sem, Nat.reduceAdd, Nat.reduceMul, Nat.reduceSub, Nat.reduceLeDiff, Nat.reduceEqDiff, Nat.reduceBEq, ↓reduceIte, reduceCtorEq, Int.reduceEq, Int.reduceLE, Int.reduceLT, Int.reduceAdd, Int.reduceSub, Int.reduceNeg, Int.reduceToNat, Int.reduceNe, Nat.reducePow, Nat.reduceShiftRight, Nat.reduceMod, *])
      refine fin_ret (r0 := .tup [.agg zeroT, .sc (.bool false)]) 2 cE2 ?_
      exact .of_eq (by simp [frz, zeroT, frz_sc, optT])
    · have hun := putL_nodes bys t u hu
      have c3 := tNodes_p u (by omega)
      rw [List.nil_append, List.append_nil] at hrow
      by_cases hu2 : u.nodes ≤ 2000
      · have e : levelsR t bys = some u := by simp [levelsR, hrk.out, hu, hu2]
        rw [e, show min u.nodes 2001 = u.nodes by omega] at *
        clear e hu hun c1
        repeat' (first | ((with_reducible first | refine wA (by omega) ?_ | refine wB (by omega) ?_ | refine wC (by omega) ?_ | refine wD (by omega) ?_ | refine wE ?_ ?_ | refine wF ?_ ?_ | refine wG ?_ ?_ | refine wH ?_ ?_ | refine wI ?_ ?_ | refine wJ ?_ ?_ | refine wK ?_ ?_ | refine wL ?_ ?_) <;> intro _) | (((with_reducible refine call_id ?_); (first | (refine call_pure (c3) ?_)))) | simp (maxSteps := 1000000) (disch := omega) only [go_sem, Nat.reduceAdd, Nat.reduceMul, Nat.reduceSub, Nat.reduceLeDiff, Nat.reduceEqDiff, Nat.reduceBEq, ↓reduceIte, reduceCtorEq, Int.reduceEq, Int.reduceLE, Int.reduceLT, Int.reduceAdd, Int.reduceSub, Int.reduceNeg, Int.reduceToNat, Int.reduceNe, Nat.reducePow, Nat.reduceShiftRight, Nat.reduceMod, *])
        refine fin_ret (r0 := .tup [.agg u.pv, .sc (.bool true)]) 1 cE2 ?_
        exact .of_eq (by simp [frz, optT])
      · have e : levelsR t bys = none := by simp [levelsR, hrk.out, hu, hu2]
        rw [e]
        rw [show min u.nodes 2001 = 2001 by omega] at c3
        clear e hu hun c1
        repeat' (first | ((with_reducible first | refine wA (by omega) ?_ | refine wB (by omega) ?_ | refine wC (by omega) ?_ | refine wD (by omega) ?_ | refine wE ?_ ?_ | refine wF ?_ ?_ | refine wG ?_ ?_ | refine wH ?_ ?_ | refine wI ?_ ?_ | refine wJ ?_ ?_ | refine wK ?_ ?_ | refine wL ?_ ?_) <;> intro _) | (((with_reducible refine call_id ?_); (first | (refine call_pure (c3) ?_)))) | simp (maxSteps := 1000000) (disch := omega) only [go_sem, Nat.reduceAdd, Nat.reduceMul, Nat.reduceSub, Nat.reduceLeDiff, Nat.reduceEqDiff, Nat.reduceBEq, ↓reduceIte, reduceCtorEq, Int.reduceEq, Int.reduceLE, Int.reduceLT, Int.reduceAdd, Int.reduceSub, Int.reduceNeg, Int.reduceToNat, Int.reduceNe, Nat.reducePow, Nat.reduceShiftRight, Nat.reduceMod, *])
        refine fin_ret (r0 := .tup [.agg zeroT, .sc (.bool false)]) 2 cE2 ?_
        exact .of_eq (by simp [frz, zeroT, frz_sc, optT])
  · have e : levelsR t bys = none := by simp [levelsR, hr]
    rw [e]
    rw [Bool.not_eq_true] at hr
    rw [hr] at c1
    clear hr e
    repeat' (first | ((with_reducible first | refine wA (by omega) ?_ | refine wB (by omega) ?_ | refine wC (by omega) ?_ | refine wD (by omega) ?_ | refine wE ?_ ?_ | refine wF ?_ ?_ | refine wG ?_ ?_ | refine wH ?_ ?_ | refine wI ?_ ?_ | refine wJ ?_ ?_ | refine wK ?_ ?_ | refine wL ?_ ?_) <;> intro _) | (((with_reducible refine call_id ?_); (first | (refine call_pure (c1) ?_)))) | simp (maxSteps := 1000000) (disch := omega) only [go_sem, Nat.reduceAdd, Nat.reduceMul, Nat.reduceSub, Nat.reduceLeDiff, Nat.reduceEqDiff, Nat.reduceBEq, ↓reduceIte, reduceCtorEq, Int.reduceEq, Int.reduceLE, Int.reduceLT, Int.reduceAdd, Int.reduceSub, Int.reduceNeg, Int.reduceToNat, Int.reduceNe, Nat.reducePow, Nat.reduceShiftRight, Nat.reduceMod, mc_term_Levels, *])
    refine fin_ret (r0 := .tup [.agg zeroT, .sc (.bool false)]) 2 cE2 ?_
    exact .of_eq (by simp [frz, zeroT, frz_sc, optT])
end
section
set_option maxRecDepth 20000
attribute [local go_sem] pv_len pv_take Nat.add_assoc tm_len tm_take pv_one tm_one id_ne id_ne' id_ne2 List.append_assoc tm_take_app tm_drop_app tm_d6 tm_d7 tm_d8 tm_d9 tm_d10 tm_d11 tm_d12 tm_d13 tm_d14 tm_d15 ent_len ent_take ent_one
theorem wrongL_p (l : Lv) : PPure Tryz.prog F.decl_at_1 [.agg l.pv] (.sc (.bool (!l.right 4))) := by
  refine pure_by is_decl_at_1 (by simp) rfl fun hb nx => ?_
  clear hb
  have c1 := Right_p l 4
  repeat' (first | ((with_reducible first | refine wA (by omega) ?_ | refine wB (by omega) ?_ | refine wC (by omega) ?_ | refine wD (by omega) ?_ | refine wE ?_ ?_ | refine wF ?_ ?_ | refine wG ?_ ?_ | refine wH ?_ ?_ | refine wI ?_ ?_ | refine wJ ?_ ?_ | refine wK ?_ ?_ | refine wL ?_ ?_) <;> intro _) | (((with_reducible refine call_id ?_); (first | (refine call_pure (c1) ?_)))) | simp (maxSteps := 1000000) (disch := omega) only [go_sem, Nat.reduceAdd, Nat.reduceMul, Nat.reduceSub, Nat.reduceLeDiff, Nat.reduceEqDiff, Nat.reduceBEq, ↓reduceIte, reduceCtorEq, Int.reduceEq, Int.reduceLE, Int.reduceLT, Int.reduceAdd, Int.reduceSub, Int.reduceNeg, Int.reduceToNat, Int.reduceNe, Nat.reducePow, Nat.reduceShiftRight, Nat.reduceMod, mc_decl_at_1, *])
  all_goals (exact fin_tmp (.inr rfl) cE3)
theorem indexL_p (xs : List Lv) : PPure Tryz.prog F.slices_IndexFunc_api_Level_api_Level [.sl 3 (xs.map Lv.pv), .fn F.decl_at_1 []] (.sc (.int .i64 (idxF (fun l => !l.right 4) xs 0))) := by
  refine pure_by is_slices_IndexFunc_api_Level_api_Level (by simp) rfl fun hb nx => ?_
  have hb0 : xs.length ≤ 9223372036854775807 := by simp [bndL, PV.bnd] at hb; exact hb.1
  clear hb
  repeat' (first | ((with_reducible first | refine wA (by omega) ?_ | refine wB (by omega) ?_ | refine wC (by omega) ?_ | refine wD (by omega) ?_ | refine wE ?_ ?_ | refine wF ?_ ?_ | refine wG ?_ ?_ | refine wH ?_ ?_ | refine wI ?_ ?_ | refine wJ ?_ ?_ | refine wK ?_ ?_ | refine wL ?_ ?_) <;> intro _) | simp (maxSteps := 1000000) (disch := omega) only [go_sem, Nat.reduceAdd, Nat.reduceMul, Nat.reduceSub, Nat.reduceLeDiff, Nat.reduceEqDiff, Nat.reduceBEq, ↓reduceIte, reduceCtorEq, Int.reduceEq, Int.reduceLE, Int.reduceLT, Int.reduceAdd, Int.reduceSub, Int.reduceNeg, Int.reduceToNat, Int.reduceNe, Nat.reducePow, Nat.reduceShiftRight, Nat.reduceMod, mc_slices_IndexFunc_api_Level_api_Level, *])
  refine c_loopW 524080 (by kernel_rfl) (fun j f H m => ∃ i : Nat, j = xs.length - i ∧ i ≤ xs.length ∧ f 8 = .sc (.int .i64 i) ∧ Kept (idxF (fun l : Lv => !l.right 4) xs 0 = idxF (fun l : Lv => !l.right 4) (xs.drop i) i)) _ ⟨0, rfl, Nat.zero_le _, cE1, Kept.mk (by rw [List.drop_zero])⟩ ?_
  rintro _ f H m ⟨i, rfl, hi, e8, hs⟩
  by_cases hlt : i < xs.length
  · have eg : xs[i]? = some xs[i] := List.getElem?_eq_getElem hlt
    have c1 := wrongL_p xs[i]
    have hs2 := hs.out
    rw [List.drop_eq_getElem_cons hlt, idxF] at hs2
    cases hx : !xs[i].right 4 with
    | true =>
      rw [hx] at c1 hs2
      rw [hs2]
      clear hs hs2 hx
      repeat' (first | ((with_reducible first | refine wA (by omega) ?_ | refine wB (by omega) ?_ | refine wC (by omega) ?_ | refine wD (by omega) ?_ | refine wE ?_ ?_ | refine wF ?_ ?_ | refine wG ?_ ?_ | refine wH ?_ ?_ | refine wI ?_ ?_ | refine wJ ?_ ?_ | refine wK ?_ ?_ | refine wL ?_ ?_) <;> intro _) | (((with_reducible refine call_id ?_); (first | (refine call_pure (c1) ?_)))) | simp (maxSteps := 1000000) (disch := omega) only [go_sem, Nat.reduceAdd, Nat.reduceMul, Nat.reduceSub, Nat.reduceLeDiff, Nat.reduceEqDiff, Nat.reduceBEq, ↓reduceIte, reduceCtorEq, Int.reduceEq, Int.reduceLE, Int.reduceLT, Int.reduceAdd, Int.reduceSub, Int.reduceNeg, Int.reduceToNat, Int.reduceNe, Nat.reducePow, Nat.reduceShiftRight, Nat.reduceMod, *])
      all_goals (exact fin_tmp (.inr rfl) cE3)
    | false =>
      rw [hx] at c1 hs2
      have hs3 := Kept.mk hs2
      clear hs hs2 hx
      repeat' (first | ((with_reducible first | refine wA (by omega) ?_ | refine wB (by omega) ?_ | refine wC (by omega) ?_ | refine wD (by omega) ?_ | refine wE ?_ ?_ | refine wF ?_ ?_ | refine wG ?_ ?_ | refine wH ?_ ?_ | refine wI ?_ ?_ | refine wJ ?_ ?_ | refine wK ?_ ?_ | refine wL ?_ ?_) <;> intro _) | (((with_reducible refine call_id ?_); (first | (refine call_pure (c1) ?_)))) | simp (maxSteps := 1000000) (disch := omega) only [go_sem, Nat.reduceAdd, Nat.reduceMul, Nat.reduceSub, Nat.reduceLeDiff, Nat.reduceEqDiff, Nat.reduceBEq, ↓reduceIte, reduceCtorEq, Int.reduceEq, Int.reduceLE, Int.reduceLT, Int.reduceAdd, Int.reduceSub, Int.reduceNeg, Int.reduceToNat, Int.reduceNe, Nat.reducePow, Nat.reduceShiftRight, Nat.reduceMod, *])
      exact Nx.mk (xs.length - (i + 1)) cE1 ⟨i + 1, rfl, cE1, by simp [upd], hs3⟩
  · obtain rfl : i = xs.length := by omega
    have hs2 := hs.out
    rw [List.drop_length, idxF] at hs2
    rw [hs2]
    clear hs hs2
    repeat' (first | ((with_reducible first | refine wA (by omega) ?_ | refine wB (by omega) ?_ | refine wC (by omega) ?_ | refine wD (by omega) ?_ | refine wE ?_ ?_ | refine wF ?_ ?_ | refine wG ?_ ?_ | refine wH ?_ ?_ | refine wI ?_ ?_ | refine wJ ?_ ?_ | refine wK ?_ ?_ | refine wL ?_ ?_) <;> intro _) | simp (maxSteps := 1000000) (disch := omega) only [go_sem, Nat.reduceAdd, Nat.reduceMul, Nat.reduceSub, Nat.reduceLeDiff, Nat.reduceEqDiff, Nat.reduceBEq, ↓reduceIte, reduceCtorEq, Int.reduceEq, Int.reduceLE, Int.reduceLT, Int.reduceAdd, Int.reduceSub, Int.reduceNeg, Int.reduceToNat, Int.reduceNe, Nat.reducePow, Nat.reduceShiftRight, Nat.reduceMod, *])
    all_goals (exact fin_tmp (.inr rfl) cE3)
theorem containsL_p (xs : List Lv) : PPure Tryz.prog F.slices_ContainsFunc_api_Level_api_Level [.sl 3 (xs.map Lv.pv), .fn F.decl_at_1 []] (.sc (.bool (xs.any fun l => !l.right 4))) := by
  refine pure_by is_slices_ContainsFunc_api_Level_api_Level (by simp) rfl fun hb nx => ?_
  clear hb
  have c1 := indexL_p xs
  rw [← idxF_any _ xs 0]
  repeat' (first | ((with_reducible first | refine wA (by omega) ?_ | refine wB (by omega) ?_ | refine wC (by omega) ?_ | refine wD (by omega) ?_ | refine wE ?_ ?_ | refine wF ?_ ?_ | refine wG ?_ ?_ | refine wH ?_ ?_ | refine wI ?_ ?_ | refine wJ ?_ ?_ | refine wK ?_ ?_ | refine wL ?_ ?_) <;> intro _) | (((with_reducible refine call_id ?_); (first | (refine call_pure (c1) ?_)))) | simp (maxSteps := 1000000) (disch := omega) only [go_sem, Nat.reduceAdd, Nat.reduceMul, Nat.reduceSub, Nat.reduceLeDiff, Nat.reduceEqDiff, Nat.reduceBEq, ↓reduceIte, reduceCtorEq, Int.reduceEq, Int.reduceLE, Int.reduceLT, Int.reduceAdd, Int.reduceSub, Int.reduceNeg, Int.reduceToNat, Int.reduceNe, Nat.reducePow, Nat.reduceShiftRight, Nat.reduceMod, mc_slices_ContainsFunc_api_Level_api_Level, *])
  all_goals (exact fin_tmp (.inr rfl) cE3)
def optC : Option Tm → List PV
  | some t => t.pv
  | none => [.sc (.int .i64 0), .sc (.int .i64 0), .sc (.string ⟨#[]⟩), .sc (.slice none 0 0), .sc (.slice none 0 0)]
theorem optC_imm (o : Option Tm) : immL (optC o) = true := by cases o <;> simp [optC, immL, PV.imm, tm_imm]
abbrev TmE := Option Tm × Int
def errT (r : TmE) : PV := .tup [.agg (optC r.1), .sc (.int .i64 r.2)]
theorem errT_imm (r : TmE) : (errT r).imm = true := by simp [errT, PV.imm, immL, optC_imm]
def atR (params : Int) (t : Tm) (bys : List Lv) : TmE := if (bys.length : Int) ≠ params ∨ (bys.any fun l => !l.right 4) = true then (none, 16) else match levelsR t bys with
  | none => (none, 15)
  | some y => (some y, 0)
set_option maxHeartbeats 4000000 in
theorem at_p (e : Ent) (t : Tm) (rest : List PV) (hm : t.nodes ≤ 2 ^ 40) (bys : List Lv) : PPure Tryz.prog F.decl_at [.ptr e.pv, .ptr (t.pv ++ rest), .sl 3 (bys.map Lv.pv)] (errT (atR e.params t bys)) := by
  obtain ⟨kind, params, name, typ, val, height, family, fixed, index, fields, ctors⟩ := e
  refine pure_by is_decl_at (by simp) (errT_imm _) fun hb nx => ?_
  clear hb
  have c1 := containsL_p bys
  have c2 := term_Levels_p t bys hm
  by_cases hl : (bys.length : Int) = params
  · cases ha : bys.any fun l => !l.right 4 with
    | true =>
      have e1 : atR params t bys = (none, 16) := if_pos (.inr ha)
      rw [ha] at c1
      simp only [e1, errT, optC]
      clear e1 ha c2
      repeat' (first | ((with_reducible first | refine wA (by omega) ?_ | refine wB (by omega) ?_ | refine wC (by omega) ?_ | refine wD (by omega) ?_ | refine wE ?_ ?_ | refine wF ?_ ?_ | refine wG ?_ ?_ | refine wH ?_ ?_ | refine wI ?_ ?_ | refine wJ ?_ ?_ | refine wK ?_ ?_ | refine wL ?_ ?_) <;> intro _) | (((with_reducible refine call_id ?_); (first | (refine call_pure (c1) ?_)))) | simp (maxSteps := 1000000) (disch := omega) only [go_sem, Nat.reduceAdd, Nat.reduceMul, Nat.reduceSub, Nat.reduceLeDiff, Nat.reduceEqDiff, Nat.reduceBEq, ↓reduceIte, reduceCtorEq, Int.reduceEq, Int.reduceLE, Int.reduceLT, Int.reduceAdd, Int.reduceSub, Int.reduceNeg, Int.reduceToNat, Int.reduceNe, Nat.reducePow, Nat.reduceShiftRight, Nat.reduceMod, mc_decl_at, Ent.pv, *])
      all_goals
        refine fin_ret (r0 := .tup [.agg [.sc (.int .i64 0), .sc (.int .i64 0), .sc (.string ⟨#[]⟩), .sc (.slice none 0 0), .sc (.slice none 0 0)], .sc (.int .i64 16)]) 2 cE2 ?_
        exact .of_eq (by simp [frz, frz_sc])
    | false =>
      rw [ha] at c1
      cases hv : levelsR t bys with
      | none =>
        have e1 : atR params t bys = (none, 15) := by unfold atR; rw [if_neg (by rw [ha]; simp [hl]), hv]
        rw [hv] at c2
        simp only [optT, zeroT] at c2
        simp only [e1, errT, optC]
        clear e1 ha hv
        repeat' (first | ((with_reducible first | refine wA (by omega) ?_ | refine wB (by omega) ?_ | refine wC (by omega) ?_ | refine wD (by omega) ?_ | refine wE ?_ ?_ | refine wF ?_ ?_ | refine wG ?_ ?_ | refine wH ?_ ?_ | refine wI ?_ ?_ | refine wJ ?_ ?_ | refine wK ?_ ?_ | refine wL ?_ ?_) <;> intro _) | (((with_reducible refine call_id ?_); (first | (refine call_pure (c1) ?_) | (refine call_pure (c2) ?_)))) | simp (maxSteps := 1000000) (disch := omega) only [go_sem, Nat.reduceAdd, Nat.reduceMul, Nat.reduceSub, Nat.reduceLeDiff, Nat.reduceEqDiff, Nat.reduceBEq, ↓reduceIte, reduceCtorEq, Int.reduceEq, Int.reduceLE, Int.reduceLT, Int.reduceAdd, Int.reduceSub, Int.reduceNeg, Int.reduceToNat, Int.reduceNe, Nat.reducePow, Nat.reduceShiftRight, Nat.reduceMod, mc_decl_at, Ent.pv, Nat.le_add_right, *])
        all_goals
          refine fin_ret (r0 := .tup [.agg [.sc (.int .i64 0), .sc (.int .i64 0), .sc (.string ⟨#[]⟩), .sc (.slice none 0 0), .sc (.slice none 0 0)], .sc (.int .i64 15)]) 2 cE2 ?_
          exact .of_eq (by simp [frz, frz_sc])
      | some y =>
        have e1 : atR params t bys = (some y, 0) := by unfold atR; rw [if_neg (by rw [ha]; simp [hl]), hv]
        rw [hv] at c2
        simp only [optT] at c2
        simp only [e1, errT, optC]
        clear e1 ha hv
        repeat' (first | ((with_reducible first | refine wA (by omega) ?_ | refine wB (by omega) ?_ | refine wC (by omega) ?_ | refine wD (by omega) ?_ | refine wE ?_ ?_ | refine wF ?_ ?_ | refine wG ?_ ?_ | refine wH ?_ ?_ | refine wI ?_ ?_ | refine wJ ?_ ?_ | refine wK ?_ ?_ | refine wL ?_ ?_) <;> intro _) | (((with_reducible refine call_id ?_); (first | (refine call_pure (c1) ?_) | (refine call_pure (c2) ?_)))) | simp (maxSteps := 1000000) (disch := omega) only [go_sem, Nat.reduceAdd, Nat.reduceMul, Nat.reduceSub, Nat.reduceLeDiff, Nat.reduceEqDiff, Nat.reduceBEq, ↓reduceIte, reduceCtorEq, Int.reduceEq, Int.reduceLE, Int.reduceLT, Int.reduceAdd, Int.reduceSub, Int.reduceNeg, Int.reduceToNat, Int.reduceNe, Nat.reducePow, Nat.reduceShiftRight, Nat.reduceMod, mc_decl_at, Ent.pv, Nat.le_add_right, *])
        all_goals
          refine fin_ret (r0 := .tup [.agg y.pv, .sc (.int .i64 0)]) 1 cE2 ?_
          exact .of_eq (by simp [frz])
  · have e1 : atR params t bys = (none, 16) := if_pos (.inl hl)
    simp only [e1, errT, optC]
    clear e1 c2 c1
    repeat' (first | ((with_reducible first | refine wA (by omega) ?_ | refine wB (by omega) ?_ | refine wC (by omega) ?_ | refine wD (by omega) ?_ | refine wE ?_ ?_ | refine wF ?_ ?_ | refine wG ?_ ?_ | refine wH ?_ ?_ | refine wI ?_ ?_ | refine wJ ?_ ?_ | refine wK ?_ ?_ | refine wL ?_ ?_) <;> intro _) | simp (maxSteps := 1000000) (disch := omega) only [go_sem, Nat.reduceAdd, Nat.reduceMul, Nat.reduceSub, Nat.reduceLeDiff, Nat.reduceEqDiff, Nat.reduceBEq, ↓reduceIte, reduceCtorEq, Int.reduceEq, Int.reduceLE, Int.reduceLT, Int.reduceAdd, Int.reduceSub, Int.reduceNeg, Int.reduceToNat, Int.reduceNe, Nat.reducePow, Nat.reduceShiftRight, Nat.reduceMod, mc_decl_at, Ent.pv, *])
    all_goals
      refine fin_ret (r0 := .tup [.agg [.sc (.int .i64 0), .sc (.int .i64 0), .sc (.string ⟨#[]⟩), .sc (.slice none 0 0), .sc (.slice none 0 0)], .sc (.int .i64 16)]) 2 cE2 ?_
      exact .of_eq (by simp [frz, frz_sc])
theorem optC_len (o : Option Tm) : (optC o).length = 5 := by cases o <;> simp [optC, tm_len]
theorem optC_take (o : Option Tm) : (optC o).take 5 = optC o := List.take_of_length_le (by rw [optC_len]; omega)
theorem optC_one (o : Option Tm) : (optC o).all PV.one = true := by
  cases o with
  | none => simp [optC, PV.one]
  | some t => exact tm_one t
end
section
set_option maxRecDepth 20000
attribute [local go_sem] pv_len pv_take Nat.add_assoc tm_len tm_take pv_one tm_one id_ne id_ne' id_ne2 List.append_assoc tm_take_app tm_drop_app tm_d6 tm_d7 tm_d8 tm_d9 tm_d10 tm_d11 tm_d12 tm_d13 tm_d14 tm_d15 ent_len ent_take ent_one optC_len optC_take optC_one
def typeR (e : Ent) (bys : List Lv) : TmE := if e.right = true then atR e.params e.typ bys else (none, 10)
def eValR (e : Ent) (bys : List Lv) : TmE := if e.right = true then (if e.kind = 2 then atR e.params e.val bys else (none, 13)) else (none, 10)
theorem ent_right_nodes {e : Ent} (h : e.right = true) : e.typ.nodes ≤ 2000 ∧ 0 ≤ e.params ∧ e.params ≤ 4 := by
  simp only [Ent.right, Bool.and_eq_true, decide_eq_true_eq] at h
  have := (h.2.2.2.2.2.1)
  simp only [Tm.right, Bool.and_eq_true, decide_eq_true_eq] at this
  exact ⟨this.2.2.2.1, h.2.2.2.1, h.2.2.2.2.1⟩
theorem ent_right_val {e : Ent} (h : e.right = true) (hk : e.kind = 2) : e.val.nodes ≤ 2000 := by
  simp only [Ent.right, Bool.and_eq_true, decide_eq_true_eq] at h
  have := h.2.2.2.2.2.2.1
  unfold valueB at this
  rw [if_pos (.inl hk)] at this
  simp only [Tm.right, Bool.and_eq_true, decide_eq_true_eq] at this
  exact this.2.2.2.1
set_option maxHeartbeats 4000000 in
theorem Type_p (e : Ent) (bys : List Lv) : PPure Tryz.prog F.decl_Type [.agg e.pv, .sl 3 (bys.map Lv.pv)] (errT (typeR e bys)) := by
  refine pure_by is_decl_Type (by simp) (errT_imm _) fun hb nx => ?_
  clear hb
  have c1 := eRight_p e
  cases hr : e.right with
  | false =>
    rw [hr] at c1
    have e1 : typeR e bys = (none, 10) := if_neg (by rw [hr]; decide)
    simp only [e1, errT, optC]
    clear e1 hr
    repeat' (first | ((with_reducible first | refine wA (by omega) ?_ | refine wB (by omega) ?_ | refine wC (by omega) ?_ | refine wD (by omega) ?_ | refine wE ?_ ?_ | refine wF ?_ ?_ | refine wG ?_ ?_ | refine wH ?_ ?_ | refine wI ?_ ?_ | refine wJ ?_ ?_ | refine wK ?_ ?_ | refine wL ?_ ?_) <;> intro _) | (((with_reducible refine call_id ?_); (first | (refine call_pure (c1) ?_)))) | simp (maxSteps := 1000000) (disch := omega) only [go_sem, Nat.reduceAdd, Nat.reduceMul, Nat.reduceSub, Nat.reduceLeDiff, Nat.reduceEqDiff, Nat.reduceBEq, ↓reduceIte, reduceCtorEq, Int.reduceEq, Int.reduceLE, Int.reduceLT, Int.reduceAdd, Int.reduceSub, Int.reduceNeg, Int.reduceToNat, Int.reduceNe, Nat.reducePow, Nat.reduceShiftRight, Nat.reduceMod, mc_decl_Type, *])
    all_goals
      refine fin_ret (r0 := .tup [.agg [.sc (.int .i64 0), .sc (.int .i64 0), .sc (.string ⟨#[]⟩), .sc (.slice none 0 0), .sc (.slice none 0 0)], .sc (.int .i64 10)]) 2 cE2 ?_
      exact .of_eq (by simp [frz, frz_sc])
  | true =>
    rw [hr] at c1
    have e1 : typeR e bys = atR e.params e.typ bys := if_pos hr
    rw [e1]
    have hn := (ent_right_nodes hr).1
    have c2 : PPure Tryz.prog F.decl_at [.ptr e.pv, .ptr (e.pv.drop 3), .sl 3 (bys.map Lv.pv)] (errT (atR e.params e.typ bys)) := at_p e e.typ _ (by omega) bys
    generalize atR e.params e.typ bys = r at c2 ⊢
    obtain ⟨o, n⟩ := r
    simp only [errT] at c2 ⊢
    clear e1 hr hn
    repeat' (first | ((with_reducible first | refine wA (by omega) ?_ | refine wB (by omega) ?_ | refine wC (by omega) ?_ | refine wD (by omega) ?_ | refine wE ?_ ?_ | refine wF ?_ ?_ | refine wG ?_ ?_ | refine wH ?_ ?_ | refine wI ?_ ?_ | refine wJ ?_ ?_ | refine wK ?_ ?_ | refine wL ?_ ?_) <;> intro _) | (((with_reducible refine call_id ?_); (first | (refine call_pure (c1) ?_) | (refine call_pure (c2) ?_)))) | simp (maxSteps := 1000000) (disch := omega) only [go_sem, Nat.reduceAdd, Nat.reduceMul, Nat.reduceSub, Nat.reduceLeDiff, Nat.reduceEqDiff, Nat.reduceBEq, ↓reduceIte, reduceCtorEq, Int.reduceEq, Int.reduceLE, Int.reduceLT, Int.reduceAdd, Int.reduceSub, Int.reduceNeg, Int.reduceToNat, Int.reduceNe, Nat.reducePow, Nat.reduceShiftRight, Nat.reduceMod, mc_decl_Type, *])
    all_goals
      refine fin_ret (r0 := .tup [.agg (optC o), .sc (.int .i64 n)]) 1 cE2 ?_
      exact .of_eq (by simp [frz])
set_option maxHeartbeats 4000000 in
theorem eValue_p (e : Ent) (bys : List Lv) : PPure Tryz.prog F.decl_Value [.agg e.pv, .sl 3 (bys.map Lv.pv)] (errT (eValR e bys)) := by
  refine pure_by is_decl_Value (by simp) (errT_imm _) fun hb nx => ?_
  clear hb
  have c1 := eRight_p e
  cases hr : e.right with
  | false =>
    rw [hr] at c1
    have e1 : eValR e bys = (none, 10) := if_neg (by rw [hr]; decide)
    simp only [e1, errT, optC]
    clear e1 hr
    repeat' (first | ((with_reducible first | refine wA (by omega) ?_ | refine wB (by omega) ?_ | refine wC (by omega) ?_ | refine wD (by omega) ?_ | refine wE ?_ ?_ | refine wF ?_ ?_ | refine wG ?_ ?_ | refine wH ?_ ?_ | refine wI ?_ ?_ | refine wJ ?_ ?_ | refine wK ?_ ?_ | refine wL ?_ ?_) <;> intro _) | (((with_reducible refine call_id ?_); (first | (refine call_pure (c1) ?_)))) | simp (maxSteps := 1000000) (disch := omega) only [go_sem, Nat.reduceAdd, Nat.reduceMul, Nat.reduceSub, Nat.reduceLeDiff, Nat.reduceEqDiff, Nat.reduceBEq, ↓reduceIte, reduceCtorEq, Int.reduceEq, Int.reduceLE, Int.reduceLT, Int.reduceAdd, Int.reduceSub, Int.reduceNeg, Int.reduceToNat, Int.reduceNe, Nat.reducePow, Nat.reduceShiftRight, Nat.reduceMod, mc_decl_Value, *])
    all_goals
      refine fin_ret (r0 := .tup [.agg [.sc (.int .i64 0), .sc (.int .i64 0), .sc (.string ⟨#[]⟩), .sc (.slice none 0 0), .sc (.slice none 0 0)], .sc (.int .i64 10)]) 2 cE2 ?_
      exact .of_eq (by simp [frz, frz_sc])
  | true =>
    rw [hr] at c1
    by_cases hk : e.kind = 2
    · have e1 : eValR e bys = atR e.params e.val bys := by unfold eValR; rw [if_pos hr, if_pos hk]
      rw [e1]
      have hn := ent_right_val hr hk
      have c2 : PPure Tryz.prog F.decl_at [.ptr e.pv, .ptr (e.pv.drop 8), .sl 3 (bys.map Lv.pv)] (errT (atR e.params e.val bys)) := by
        have : e.pv.drop 8 = e.val.pv ++ [.sc (.int .i64 e.height), .sc (.string e.family), .sc (.int .i64 e.fixed), .sc (.int .i64 e.index), .sc (.int .i64 e.fields), .sl 1 (e.ctors.map txt)] := by
          simp only [Ent.pv, List.drop_succ_cons]
          exact List.drop_left' (tm_len _)
        rw [this]
        exact at_p e e.val _ (by omega) bys
      generalize atR e.params e.val bys = r at c2 ⊢
      obtain ⟨o, n⟩ := r
      simp only [errT] at c2 ⊢
      have hkt : e.pv.take 1 = [.sc (.int .i64 2)] := by rw [← hk]; rfl
      clear e1 hr hn
      repeat' (first | ((with_reducible first | refine wA (by omega) ?_ | refine wB (by omega) ?_ | refine wC (by omega) ?_ | refine wD (by omega) ?_ | refine wE ?_ ?_ | refine wF ?_ ?_ | refine wG ?_ ?_ | refine wH ?_ ?_ | refine wI ?_ ?_ | refine wJ ?_ ?_ | refine wK ?_ ?_ | refine wL ?_ ?_) <;> intro _) | (((with_reducible refine call_id ?_); (first | (refine call_pure (c1) ?_) | (refine call_pure (c2) ?_)))) | simp (maxSteps := 1000000) (disch := omega) only [go_sem, Nat.reduceAdd, Nat.reduceMul, Nat.reduceSub, Nat.reduceLeDiff, Nat.reduceEqDiff, Nat.reduceBEq, ↓reduceIte, reduceCtorEq, Int.reduceEq, Int.reduceLE, Int.reduceLT, Int.reduceAdd, Int.reduceSub, Int.reduceNeg, Int.reduceToNat, Int.reduceNe, Nat.reducePow, Nat.reduceShiftRight, Nat.reduceMod, mc_decl_Value, *])
      all_goals
        refine fin_ret (r0 := .tup [.agg (optC o), .sc (.int .i64 n)]) 1 cE2 ?_
        exact .of_eq (by simp [frz])
    · have e1 : eValR e bys = (none, 13) := by unfold eValR; rw [if_pos hr, if_neg hk]
      simp only [e1, errT, optC]
      have hkt : e.pv.take 1 = [.sc (.int .i64 e.kind)] := rfl
      clear e1 hr
      repeat' (first | ((with_reducible first | refine wA (by omega) ?_ | refine wB (by omega) ?_ | refine wC (by omega) ?_ | refine wD (by omega) ?_ | refine wE ?_ ?_ | refine wF ?_ ?_ | refine wG ?_ ?_ | refine wH ?_ ?_ | refine wI ?_ ?_ | refine wJ ?_ ?_ | refine wK ?_ ?_ | refine wL ?_ ?_) <;> intro _) | (((with_reducible refine call_id ?_); (first | (refine call_pure (c1) ?_)))) | simp (maxSteps := 1000000) (disch := omega) only [go_sem, Nat.reduceAdd, Nat.reduceMul, Nat.reduceSub, Nat.reduceLeDiff, Nat.reduceEqDiff, Nat.reduceBEq, ↓reduceIte, reduceCtorEq, Int.reduceEq, Int.reduceLE, Int.reduceLT, Int.reduceAdd, Int.reduceSub, Int.reduceNeg, Int.reduceToNat, Int.reduceNe, Nat.reducePow, Nat.reduceShiftRight, Nat.reduceMod, mc_decl_Value, *])
      all_goals
        refine fin_ret (r0 := .tup [.agg [.sc (.int .i64 0), .sc (.int .i64 0), .sc (.string ⟨#[]⟩), .sc (.slice none 0 0), .sc (.slice none 0 0)], .sc (.int .i64 13)]) 2 cE2 ?_
        exact .of_eq (by simp [frz, frz_sc])
theorem unfolds_p (e : Ent) : PPure Tryz.prog F.decl_Unfolds [.agg e.pv] (.sc (.bool (decide (e.kind = 2) && e.right))) := by
  refine pure_by is_decl_Unfolds (by simp) rfl fun hb nx => ?_
  clear hb
  have c1 := eRight_p e
  generalize e.right = b at c1 ⊢
  by_cases hk : e.kind = 2
  · have hkt : e.pv.take 1 = [.sc (.int .i64 2)] := by rw [← hk]; rfl
    repeat' (first | ((with_reducible first | refine wA (by omega) ?_ | refine wB (by omega) ?_ | refine wC (by omega) ?_ | refine wD (by omega) ?_ | refine wE ?_ ?_ | refine wF ?_ ?_ | refine wG ?_ ?_ | refine wH ?_ ?_ | refine wI ?_ ?_ | refine wJ ?_ ?_ | refine wK ?_ ?_ | refine wL ?_ ?_) <;> intro _) | (((with_reducible refine call_id ?_); (first | (refine call_pure (c1) ?_)))) | simp (maxSteps := 1000000) (disch := omega) only [go_sem, Nat.reduceAdd, Nat.reduceMul, Nat.reduceSub, Nat.reduceLeDiff, Nat.reduceEqDiff, Nat.reduceBEq, ↓reduceIte, reduceCtorEq, Int.reduceEq, Int.reduceLE, Int.reduceLT, Int.reduceAdd, Int.reduceSub, Int.reduceNeg, Int.reduceToNat, Int.reduceNe, Nat.reducePow, Nat.reduceShiftRight, Nat.reduceMod, mc_decl_Unfolds, *])
    all_goals (exact fin_tmp (.inr rfl) cE3)
  · have hkt : e.pv.take 1 = [.sc (.int .i64 e.kind)] := rfl
    repeat' (first | ((with_reducible first | refine wA (by omega) ?_ | refine wB (by omega) ?_ | refine wC (by omega) ?_ | refine wD (by omega) ?_ | refine wE ?_ ?_ | refine wF ?_ ?_ | refine wG ?_ ?_ | refine wH ?_ ?_ | refine wI ?_ ?_ | refine wJ ?_ ?_ | refine wK ?_ ?_ | refine wL ?_ ?_) <;> intro _) | simp (maxSteps := 1000000) (disch := omega) only [go_sem, Nat.reduceAdd, Nat.reduceMul, Nat.reduceSub, Nat.reduceLeDiff, Nat.reduceEqDiff, Nat.reduceBEq, ↓reduceIte, reduceCtorEq, Int.reduceEq, Int.reduceLE, Int.reduceLT, Int.reduceAdd, Int.reduceSub, Int.reduceNeg, Int.reduceToNat, Int.reduceNe, Nat.reducePow, Nat.reduceShiftRight, Nat.reduceMod, mc_decl_Unfolds, *])
    all_goals (exact fin_tmp (.inr rfl) cE3)
end
section
set_option maxRecDepth 20000
attribute [local go_sem] pv_len pv_take Nat.add_assoc tm_len tm_take pv_one tm_one id_ne id_ne' id_ne2 List.append_assoc tm_take_app tm_drop_app tm_d6 tm_d7 tm_d8 tm_d9 tm_d10 tm_d11 tm_d12 tm_d13 tm_d14 tm_d15 ent_len ent_take ent_one optC_len optC_take optC_one
theorem bytes_eqD {a b : ByteArray} : (a.toList == b.toList) = decide (a = b) := by
  rw [Bool.eq_iff_iff, beq_iff_eq, decide_eq_true_eq]
  exact ⟨fun h => by
    have ha : a.data.toList = b.data.toList := by simpa [ByteArray.toList_eq] using h
    cases a
    cases b
    congr
    exact Array.toList_inj.1 ha, fun h => by rw [h]⟩
def Ent.pvB (f : Bool) (e : Ent) : List PV := .sc (.int .i64 e.kind) :: .sc (.int .i64 e.params) :: .sc (.string e.name) :: (e.typ.pvB f ++ (e.val.pvB f ++ [.sc (.int .i64 e.height), .sc (.string e.family), .sc (.int .i64 e.fixed), .sc (.int .i64 e.index), .sc (.int .i64 e.fields), .sl 1 (e.ctors.map txt)]))
theorem entB_false (e : Ent) : e.pvB false = e.pv := by simp only [Ent.pvB, Ent.pv, dtv_false]
theorem tb_take (f : Bool) (t : Tm) (r : List PV) : (t.pvB f ++ r).take 5 = t.pvB f := List.take_left' (tpvB_len f t)
theorem tb_drop (f : Bool) (t : Tm) (r : List PV) : (t.pvB f ++ r).drop 5 = r := List.drop_left' (tpvB_len f t)
theorem tb_d6 (f : Bool) (t : Tm) (r : List PV) : (t.pvB f ++ r).drop 6 = r.drop 1 := by rw [show 6 = 5 + 1 by rfl, ← List.drop_drop, tb_drop]
theorem tb_d7 (f : Bool) (t : Tm) (r : List PV) : (t.pvB f ++ r).drop 7 = r.drop 2 := by rw [show 7 = 5 + 2 by rfl, ← List.drop_drop, tb_drop]
theorem tb_d8 (f : Bool) (t : Tm) (r : List PV) : (t.pvB f ++ r).drop 8 = r.drop 3 := by rw [show 8 = 5 + 3 by rfl, ← List.drop_drop, tb_drop]
theorem tb_d9 (f : Bool) (t : Tm) (r : List PV) : (t.pvB f ++ r).drop 9 = r.drop 4 := by rw [show 9 = 5 + 4 by rfl, ← List.drop_drop, tb_drop]
theorem tb_d10 (f : Bool) (t : Tm) (r : List PV) : (t.pvB f ++ r).drop 10 = r.drop 5 := by rw [show 10 = 5 + 5 by rfl, ← List.drop_drop, tb_drop]
theorem tb_d11 (f : Bool) (t : Tm) (r : List PV) : (t.pvB f ++ r).drop 11 = r.drop 6 := by rw [show 11 = 5 + 6 by rfl, ← List.drop_drop, tb_drop]
theorem tb_d12 (f : Bool) (t : Tm) (r : List PV) : (t.pvB f ++ r).drop 12 = r.drop 7 := by rw [show 12 = 5 + 7 by rfl, ← List.drop_drop, tb_drop]
theorem tb_d13 (f : Bool) (t : Tm) (r : List PV) : (t.pvB f ++ r).drop 13 = r.drop 8 := by rw [show 13 = 5 + 8 by rfl, ← List.drop_drop, tb_drop]
theorem tb_d14 (f : Bool) (t : Tm) (r : List PV) : (t.pvB f ++ r).drop 14 = r.drop 9 := by rw [show 14 = 5 + 9 by rfl, ← List.drop_drop, tb_drop]
theorem tb_d15 (f : Bool) (t : Tm) (r : List PV) : (t.pvB f ++ r).drop 15 = r.drop 10 := by rw [show 15 = 5 + 10 by rfl, ← List.drop_drop, tb_drop]
theorem numbers_p (f : Bool) (e : Ent) : PPure Tryz.prog F.decl_numbers [.ptr (e.pvB f)] (.agg [.sc (.int .i64 e.kind), .sc (.int .i64 e.params), .sc (.int .i64 e.height), .sc (.int .i64 e.fixed), .sc (.int .i64 e.index), .sc (.int .i64 e.fields)]) := by
  obtain ⟨kind, params, name, typ, val, height, family, fixed, index, fields, ctors⟩ := e
  refine pure_by is_decl_numbers (by simp) rfl fun hb nx => ?_
  clear hb
  repeat' (first | ((with_reducible first | refine wA (by omega) ?_ | refine wB (by omega) ?_ | refine wC (by omega) ?_ | refine wD (by omega) ?_ | refine wE ?_ ?_ | refine wF ?_ ?_ | refine wG ?_ ?_ | refine wH ?_ ?_ | refine wI ?_ ?_ | refine wJ ?_ ?_ | refine wK ?_ ?_ | refine wL ?_ ?_) <;> intro _) | simp (maxSteps := 1000000) (disch := omega) only [go_sem, Nat.reduceAdd, Nat.reduceMul, Nat.reduceSub, Nat.reduceLeDiff, Nat.reduceEqDiff, Nat.reduceBEq, ↓reduceIte, reduceCtorEq, Int.reduceEq, Int.reduceLE, Int.reduceLT, Int.reduceAdd, Int.reduceSub, Int.reduceNeg, Int.reduceToNat, Int.reduceNe, Nat.reducePow, Nat.reduceShiftRight, Nat.reduceMod, mc_decl_numbers, Ent.pvB, tpvB_len, tpvB_take, tpvB_one, tb_take, tb_drop, tb_d6, tb_d7, tb_d8, tb_d9, tb_d10, tb_d11, tb_d12, tb_d13, tb_d14, tb_d15, *])
  refine fin_ret (r0 := .agg [.sc (.int .i64 kind), .sc (.int .i64 params), .sc (.int .i64 height), .sc (.int .i64 fixed), .sc (.int .i64 index), .sc (.int .i64 fields)]) 1 cE2 ?_
  exact .of_eq (by simp [frz, frz_sc])
theorem texts_p (f : Bool) (e : Ent) : PPure Tryz.prog F.decl_texts [.ptr (e.pvB f)] (.agg [.sc (.string e.name), .sc (.string e.family)]) := by
  obtain ⟨kind, params, name, typ, val, height, family, fixed, index, fields, ctors⟩ := e
  refine pure_by is_decl_texts (by simp) rfl fun hb nx => ?_
  clear hb
  repeat' (first | ((with_reducible first | refine wA (by omega) ?_ | refine wB (by omega) ?_ | refine wC (by omega) ?_ | refine wD (by omega) ?_ | refine wE ?_ ?_ | refine wF ?_ ?_ | refine wG ?_ ?_ | refine wH ?_ ?_ | refine wI ?_ ?_ | refine wJ ?_ ?_ | refine wK ?_ ?_ | refine wL ?_ ?_) <;> intro _) | simp (maxSteps := 1000000) (disch := omega) only [go_sem, Nat.reduceAdd, Nat.reduceMul, Nat.reduceSub, Nat.reduceLeDiff, Nat.reduceEqDiff, Nat.reduceBEq, ↓reduceIte, reduceCtorEq, Int.reduceEq, Int.reduceLE, Int.reduceLT, Int.reduceAdd, Int.reduceSub, Int.reduceNeg, Int.reduceToNat, Int.reduceNe, Nat.reducePow, Nat.reduceShiftRight, Nat.reduceMod, mc_decl_texts, Ent.pvB, tpvB_len, tpvB_take, tpvB_one, tb_take, tb_drop, tb_d6, tb_d7, tb_d8, tb_d9, tb_d10, tb_d11, tb_d12, tb_d13, tb_d14, tb_d15, *])
  refine fin_ret (r0 := .agg [.sc (.string name), .sc (.string family)]) 1 cE2 ?_
  exact .of_eq (by simp [frz, frz_sc])
theorem equal_p (xs ys : List ByteArray) : PPure Tryz.prog F.slices_Equal_string_string [.sl 1 (xs.map txt), .sl 1 (ys.map txt)] (.sc (.bool (decide (xs = ys)))) := by
  refine pure_by is_slices_Equal_string_string (by simp) rfl fun hb nx => ?_
  have hb0 : xs.length ≤ 9223372036854775807 ∧ ys.length ≤ 9223372036854775807 := by simp [bndL, PV.bnd] at hb; exact ⟨hb.1.1, hb.2.1⟩
  clear hb
  by_cases hl : xs.length = ys.length
  · repeat' (first | ((with_reducible first | refine wA (by omega) ?_ | refine wB (by omega) ?_ | refine wC (by omega) ?_ | refine wD (by omega) ?_ | refine wE ?_ ?_ | refine wF ?_ ?_ | refine wG ?_ ?_ | refine wH ?_ ?_ | refine wI ?_ ?_ | refine wJ ?_ ?_ | refine wK ?_ ?_ | refine wL ?_ ?_) <;> intro _) | simp (maxSteps := 1000000) (disch := omega) only [go_sem, Nat.reduceAdd, Nat.reduceMul, Nat.reduceSub, Nat.reduceLeDiff, Nat.reduceEqDiff, Nat.reduceBEq, ↓reduceIte, reduceCtorEq, Int.reduceEq, Int.reduceLE, Int.reduceLT, Int.reduceAdd, Int.reduceSub, Int.reduceNeg, Int.reduceToNat, Int.reduceNe, Nat.reducePow, Nat.reduceShiftRight, Nat.reduceMod, mc_slices_Equal_string_string, *])
    refine c_loopW 67100720 (by kernel_rfl) (fun j f H m => ∃ i : Nat, j = ys.length - i ∧ i ≤ xs.length ∧ f 13 = .sc (.int .i64 i) ∧ Kept (xs.take i = ys.take i)) _ ⟨0, rfl, Nat.zero_le _, cE1, Kept.mk (by simp)⟩ ?_
    rintro _ f H m ⟨i, rfl, hi, e13, hs⟩
    by_cases hlt : i < xs.length
    · have hlt2 : i < ys.length := by omega
      have eg : xs[i]? = some xs[i] := List.getElem?_eq_getElem hlt
      have eg2 : ys[i]? = some ys[i] := List.getElem?_eq_getElem hlt2
      by_cases he : xs[i] = ys[i]
      · have hs2 : Kept (xs.take (i + 1) = ys.take (i + 1)) := Kept.mk (by rw [List.take_succ_eq_append_getElem hlt, List.take_succ_eq_append_getElem hlt2, hs.out, he])
        clear hs
        repeat' (first | ((with_reducible first | refine wA (by omega) ?_ | refine wB (by omega) ?_ | refine wC (by omega) ?_ | refine wD (by omega) ?_ | refine wE ?_ ?_ | refine wF ?_ ?_ | refine wG ?_ ?_ | refine wH ?_ ?_ | refine wI ?_ ?_ | refine wJ ?_ ?_ | refine wK ?_ ?_ | refine wL ?_ ?_) <;> intro _) | simp (maxSteps := 1000000) (disch := omega) only [go_sem, Nat.reduceAdd, Nat.reduceMul, Nat.reduceSub, Nat.reduceLeDiff, Nat.reduceEqDiff, Nat.reduceBEq, ↓reduceIte, reduceCtorEq, Int.reduceEq, Int.reduceLE, Int.reduceLT, Int.reduceAdd, Int.reduceSub, Int.reduceNeg, Int.reduceToNat, Int.reduceNe, Nat.reducePow, Nat.reduceShiftRight, Nat.reduceMod, txt, strBin, bytes_eqD, *])
        exact Nx.mk (ys.length - (i + 1)) cE1 ⟨i + 1, rfl, cE1, by simp [upd], hs2⟩
      · have e : decide (xs = ys) = false := decide_eq_false fun h => he (by subst h; rfl)
        rw [e]
        clear e hs
        repeat' (first | ((with_reducible first | refine wA (by omega) ?_ | refine wB (by omega) ?_ | refine wC (by omega) ?_ | refine wD (by omega) ?_ | refine wE ?_ ?_ | refine wF ?_ ?_ | refine wG ?_ ?_ | refine wH ?_ ?_ | refine wI ?_ ?_ | refine wJ ?_ ?_ | refine wK ?_ ?_ | refine wL ?_ ?_) <;> intro _) | simp (maxSteps := 1000000) (disch := omega) only [go_sem, Nat.reduceAdd, Nat.reduceMul, Nat.reduceSub, Nat.reduceLeDiff, Nat.reduceEqDiff, Nat.reduceBEq, ↓reduceIte, reduceCtorEq, Int.reduceEq, Int.reduceLE, Int.reduceLT, Int.reduceAdd, Int.reduceSub, Int.reduceNeg, Int.reduceToNat, Int.reduceNe, Nat.reducePow, Nat.reduceShiftRight, Nat.reduceMod, txt, strBin, bytes_eqD, *])
        all_goals (exact fin_tmp (.inr rfl) cE3)
    · obtain rfl : i = xs.length := by omega
      have h2 := hs.out
      rw [List.take_length, hl, List.take_length] at h2
      rw [decide_eq_true h2]
      clear hs h2
      repeat' (first | ((with_reducible first | refine wA (by omega) ?_ | refine wB (by omega) ?_ | refine wC (by omega) ?_ | refine wD (by omega) ?_ | refine wE ?_ ?_ | refine wF ?_ ?_ | refine wG ?_ ?_ | refine wH ?_ ?_ | refine wI ?_ ?_ | refine wJ ?_ ?_ | refine wK ?_ ?_ | refine wL ?_ ?_) <;> intro _) | simp (maxSteps := 1000000) (disch := omega) only [go_sem, Nat.reduceAdd, Nat.reduceMul, Nat.reduceSub, Nat.reduceLeDiff, Nat.reduceEqDiff, Nat.reduceBEq, ↓reduceIte, reduceCtorEq, Int.reduceEq, Int.reduceLE, Int.reduceLT, Int.reduceAdd, Int.reduceSub, Int.reduceNeg, Int.reduceToNat, Int.reduceNe, Nat.reducePow, Nat.reduceShiftRight, Nat.reduceMod, *])
      all_goals (exact fin_tmp (.inr rfl) cE3)
  · rw [decide_eq_false fun h => hl (by rw [h])]
    repeat' (first | ((with_reducible first | refine wA (by omega) ?_ | refine wB (by omega) ?_ | refine wC (by omega) ?_ | refine wD (by omega) ?_ | refine wE ?_ ?_ | refine wF ?_ ?_ | refine wG ?_ ?_ | refine wH ?_ ?_ | refine wI ?_ ?_ | refine wJ ?_ ?_ | refine wK ?_ ?_ | refine wL ?_ ?_) <;> intro _) | simp (maxSteps := 1000000) (disch := omega) only [go_sem, Nat.reduceAdd, Nat.reduceMul, Nat.reduceSub, Nat.reduceLeDiff, Nat.reduceEqDiff, Nat.reduceBEq, ↓reduceIte, reduceCtorEq, Int.reduceEq, Int.reduceLE, Int.reduceLT, Int.reduceAdd, Int.reduceSub, Int.reduceNeg, Int.reduceToNat, Int.reduceNe, Nat.reducePow, Nat.reduceShiftRight, Nat.reduceMod, mc_slices_Equal_string_string, *])
    all_goals (exact fin_tmp (.inr rfl) cE3)
def Ent.numE (a b : Ent) : Bool := decide (a.kind = b.kind) && (decide (a.params = b.params) && (decide (a.height = b.height) && (decide (a.fixed = b.fixed) && (decide (a.index = b.index) && decide (a.fields = b.fields)))))
def Ent.txtE (a b : Ent) : Bool := a.name.toList == b.name.toList && a.family.toList == b.family.toList
def Ent.same (a b : Ent) : Bool := a.numE b && (a.txtE b && (decide (a.ctors = b.ctors) && (a.typ.same b.typ && a.val.same b.val)))
set_option maxHeartbeats 8000000 in
theorem eSame_p (a b : Ent) (f g : Bool) (hfg : (f || g) = true) : PPure Tryz.prog F.decl_Same [.agg (a.pvB f), .agg (b.pvB g)] (.sc (.bool (a.same b))) := by
  refine pure_by is_decl_Same (by simp) rfl fun hb nx => ?_
  clear hb
  have c1 := numbers_p f a
  have c2 := numbers_p g b
  have c3 := texts_p f a
  have c4 := texts_p g b
  have c5 := equal_p a.ctors b.ctors
  have c6 := tSame_p a.typ b.typ f g hfg
  have c7 := tSame_p a.val b.val f g hfg
  simp only [Ent.same, Ent.numE, Ent.txtE]
  obtain ⟨kind, params, name, typ, val, height, family, fixed, index, fields, ctors⟩ := a
  obtain ⟨kind2, params2, name2, typ2, val2, height2, family2, fixed2, index2, fields2, ctors2⟩ := b
  simp only [Ent.pvB] at c1 c2 c3 c4 c5 c6 c7 ⊢
  generalize typ.same typ2 = b6 at c6
  generalize val.same val2 = b7 at c7
  repeat' (first | ((with_reducible first | refine wA (by omega) ?_ | refine wB (by omega) ?_ | refine wC (by omega) ?_ | refine wD (by omega) ?_ | refine wE ?_ ?_ | refine wF ?_ ?_ | refine wG ?_ ?_ | refine wH ?_ ?_ | refine wI ?_ ?_ | refine wJ ?_ ?_ | refine wK ?_ ?_ | refine wL ?_ ?_) <;> intro _) | (((with_reducible refine call_id ?_); (first | (refine call_pure (c1) ?_) | (refine call_pure (c2) ?_) | (refine call_pure (c3) ?_) | (refine call_pure (c4) ?_) | (refine call_pure (c5) ?_) | (refine call_pure (c6) ?_) | (refine call_pure (c7) ?_)))) | simp (maxSteps := 1000000) (disch := omega) only [go_sem, Nat.reduceAdd, Nat.reduceMul, Nat.reduceSub, Nat.reduceLeDiff, Nat.reduceEqDiff, Nat.reduceBEq, ↓reduceIte, reduceCtorEq, Int.reduceEq, Int.reduceLE, Int.reduceLT, Int.reduceAdd, Int.reduceSub, Int.reduceNeg, Int.reduceToNat, Int.reduceNe, Nat.reducePow, Nat.reduceShiftRight, Nat.reduceMod, mc_decl_Same, tpvB_len, tpvB_take, tpvB_one, tb_take, tb_drop, tb_d6, tb_d7, tb_d8, tb_d9, tb_d10, tb_d11, tb_d12, tb_d13, tb_d14, tb_d15, *])
  all_goals (exact fin_tmp (.inr rfl) cE3)
end
section
set_option maxRecDepth 20000
attribute [local go_sem] pv_len pv_take id_ne id_ne' id_ne2 List.append_assoc
theorem txts_flat : ∀ xs : List ByteArray, (xs.map txt).flatten = xs.flatMap txt := fun xs => by rw [List.flatMap_def]
theorem txts_len : ∀ xs : List ByteArray, (xs.map txt).flatten.length = xs.length
  | [] => rfl
  | x :: r => by simp only [List.map_cons, List.flatten_cons, List.length_append, txt_len, txts_len r, List.length_cons]; omega
theorem txts_one : ∀ xs : List ByteArray, (xs.map txt).flatten.all PV.one = true
  | [] => rfl
  | x :: r => by
    simp only [List.map_cons, List.flatten_cons, List.all_append, txts_one r]
    rfl
set_option maxHeartbeats 4000000 in
theorem sClone_m (xs : List ByteArray) (hl : xs.length ≤ 2 ^ 40) (H : Nat → Option PObj) (nx : Nat) : PMut Tryz.prog F.slices_Clone_string_string [.sl 1 (xs.map txt)] H nx (fun H' nx' r => nx ≤ nx' ∧ (∀ j, j < nx → H' j = H j) ∧ ((xs = [] ∧ r = .sc (.slice none 0 0)) ∨ ∃ id, nx ≤ id ∧ id < nx' ∧ r = .osl id 0 xs.length 1 ∧ H' id = some ⟨xs.flatMap txt, false⟩)) := by
  refine mut_by is_slices_Clone_string_string (by simp) fun hb => ?_
  clear hb
  repeat' (first | ((with_reducible first | refine wA (by omega) ?_ | refine wB (by omega) ?_ | refine wC (by omega) ?_ | refine wD (by omega) ?_ | refine wE ?_ ?_ | refine wF ?_ ?_ | refine wG ?_ ?_ | refine wH ?_ ?_ | refine wI ?_ ?_ | refine wJ ?_ ?_ | refine wK ?_ ?_ | refine wL ?_ ?_) <;> intro _) | simp (maxSteps := 1000000) (disch := omega) only [go_sem, Nat.reduceAdd, Nat.reduceMul, Nat.reduceSub, Nat.reduceLeDiff, Nat.reduceEqDiff, Nat.reduceBEq, ↓reduceIte, reduceCtorEq, Int.reduceEq, Int.reduceLE, Int.reduceLT, Int.reduceAdd, Int.reduceSub, Int.reduceNeg, Int.reduceToNat, Int.reduceNe, Nat.reducePow, Nat.reduceShiftRight, Nat.reduceMod, mc_slices_Clone_string_string, *])
  refine o_slnil rfl rfl Tryz.underlying26 (n := xs.length) (by simp [slN, ev, upd]) fun t ht => ?_
  cases t with
  | true =>
    obtain rfl : xs = [] := List.eq_nil_of_length_eq_zero (ht rfl)
    clear ht
    repeat' (first | ((with_reducible first | refine wA (by omega) ?_ | refine wB (by omega) ?_ | refine wC (by omega) ?_ | refine wD (by omega) ?_ | refine wE ?_ ?_ | refine wF ?_ ?_ | refine wG ?_ ?_ | refine wH ?_ ?_ | refine wI ?_ ?_ | refine wJ ?_ ?_ | refine wK ?_ ?_ | refine wL ?_ ?_) <;> intro _) | simp (maxSteps := 1000000) (disch := omega) only [go_sem, Nat.reduceAdd, Nat.reduceMul, Nat.reduceSub, Nat.reduceLeDiff, Nat.reduceEqDiff, Nat.reduceBEq, ↓reduceIte, reduceCtorEq, Int.reduceEq, Int.reduceLE, Int.reduceLT, Int.reduceAdd, Int.reduceSub, Int.reduceNeg, Int.reduceToNat, Int.reduceNe, Nat.reducePow, Nat.reduceShiftRight, Nat.reduceMod, *])
    exact fin_mut (.sc (.slice none 0 0)) (.inr rfl) (by (simp (disch := omega) only [go_sem, Nat.reduceMul, Nat.reduceSub, Nat.reduceShiftRight, Nat.reduceMod, Nat.reduceEqDiff, Nat.reduceAdd, ↓reduceIte, Nat.reduceLeDiff]); all_goals rfl) ⟨by simp only [Nat.add_assoc]; exact Nat.le_add_right _ _, fun _ _ => rfl, .inl rfl⟩
  | false =>
    clear ht
    have h1 := txts_len xs
    have h2 := txts_one xs
    have h3 : xs.length * 16 ≤ 140737488355328 ∧ xs.length ≤ 4611686018427387904 := by omega
    repeat' (first | ((with_reducible first | refine wA (by omega) ?_ | refine wB (by omega) ?_ | refine wC (by omega) ?_ | refine wD (by omega) ?_ | refine wE ?_ ?_ | refine wF ?_ ?_ | refine wG ?_ ?_ | refine wH ?_ ?_ | refine wI ?_ ?_ | refine wJ ?_ ?_ | refine wK ?_ ?_ | refine wL ?_ ?_) <;> intro _) | simp (maxSteps := 1000000) (disch := omega) only [go_sem, Nat.reduceAdd, Nat.reduceMul, Nat.reduceSub, Nat.reduceLeDiff, Nat.reduceEqDiff, Nat.reduceBEq, ↓reduceIte, reduceCtorEq, Int.reduceEq, Int.reduceLE, Int.reduceLT, Int.reduceAdd, Int.reduceSub, Int.reduceNeg, Int.reduceToNat, Int.reduceNe, Nat.reducePow, Nat.reduceShiftRight, Nat.reduceMod, *])
    refine fin_mut (.osl (nx + 1 + 2 + 2) 0 xs.length 1) (.inr rfl) (by (simp (disch := omega) only [go_sem, Nat.reduceMul, Nat.reduceSub, Nat.reduceShiftRight, Nat.reduceMod, Nat.reduceEqDiff, Nat.reduceAdd, ↓reduceIte, Nat.reduceLeDiff]); all_goals rfl) ⟨by simp only [Nat.add_assoc]; exact Nat.le_add_right _ _, fun j hj => ?_, .inr ⟨nx + 1 + 2 + 2, by omega, by simp only [Nat.add_assoc]; exact Nat.add_lt_add_left (by omega) _, rfl, ?_⟩⟩
    · simp [upd, show j ≠ nx + 3 by omega, show j ≠ nx + 1 + 2 + 2 by omega]
    · simp [upd, txts_flat]
end
section
set_option maxRecDepth 20000
attribute [local go_sem] pv_len pv_take Nat.add_assoc tm_len tm_take pv_one tm_one id_ne id_ne' id_ne2 List.append_assoc tm_take_app tm_drop_app tm_d6 tm_d7 tm_d8 tm_d9 tm_d10 tm_d11 tm_d12 tm_d13 tm_d14 tm_d15 ent_len ent_take ent_one tpvB_len tpvB_take tpvB_one
theorem imm_txts : ∀ xs : List ByteArray, immL (xs.map txt).flatten = true
  | [] => rfl
  | x :: r => by simp [immL, txt, PV.imm, imm_txts r]
theorem sClone_pF (xs : List ByteArray) (hl : xs.length ≤ 2 ^ 40) : PPure Tryz.prog F.slices_Clone_string_string [.sl 1 (xs.map txt)] (.fsl 1 (xs.map txt)) := by
  refine PMut.pure (by simp only [PV.imm, immLL_flatten, imm_txts]) (fun nx => sClone_m xs hl noneOwn nx) fun nx H' nx' r0 h => ?_
  obtain ⟨_, _, ⟨rfl, rfl⟩ | ⟨id, _, _, rfl, h⟩⟩ := h
  · exact ⟨0, Weak.nilF 1⟩
  · exact ⟨1, .of_eq (frzF_row (g := txt) (fun _ => rfl) (fun x => by simp [txt, frzF_sc]) h)⟩
set_option maxHeartbeats 4000000 in
theorem app0_p (f : Tm) (hf : f.nodes ≤ 2 ^ 40) : PPure Tryz.prog F.term_App [.agg f.pv, .sc (.slice none 0 0)] (.agg (f.pvB true)) := by
  refine pure_by is_term_App (by simp) (by simp [PV.imm, tpvB_imm]) fun hb nx => ?_
  clear hb
  repeat' (first | ((with_reducible first | refine wA (by omega) ?_ | refine wB (by omega) ?_ | refine wC (by omega) ?_ | refine wD (by omega) ?_ | refine wE ?_ ?_ | refine wF ?_ ?_ | refine wG ?_ ?_ | refine wH ?_ ?_ | refine wI ?_ ?_ | refine wJ ?_ ?_ | refine wK ?_ ?_ | refine wL ?_ ?_) <;> intro _) | (((with_reducible refine call_id ?_); (first | (refine call_pure (clone_pF2 f hf) ?_)))) | simp (maxSteps := 1000000) (disch := omega) only [go_sem, Nat.reduceAdd, Nat.reduceMul, Nat.reduceSub, Nat.reduceLeDiff, Nat.reduceEqDiff, Nat.reduceBEq, ↓reduceIte, reduceCtorEq, Int.reduceEq, Int.reduceLE, Int.reduceLT, Int.reduceAdd, Int.reduceSub, Int.reduceNeg, Int.reduceToNat, Int.reduceNe, Nat.reducePow, Nat.reduceShiftRight, Nat.reduceMod, mc_term_App, *])
  refine c_loopW 2096192 (by kernel_rfl) (fun j F H m => j = 0 ∧ F 10 = .sc (.int .i64 0) ∧ nx + 5 ≤ m ∧ H (nx + 1) = some ⟨[.sc (.int .i64 0), .sc (.int .i64 0), .sc (.string ⟨#[]⟩), .sc (.slice none 0 0), .sc (.slice none 0 0)], true⟩ ∧ H (nx + 3) = some ⟨f.pvB true, true⟩) 0 ⟨rfl, cE1, cE1, cE1, by simp [upd]⟩ ?_
  rintro _ F H m ⟨rfl, e10, hm, hH1, hH3⟩
  repeat' (first | ((with_reducible first | refine wA (by omega) ?_ | refine wB (by omega) ?_ | refine wC (by omega) ?_ | refine wD (by omega) ?_ | refine wE ?_ ?_ | refine wF ?_ ?_ | refine wG ?_ ?_ | refine wH ?_ ?_ | refine wI ?_ ?_ | refine wJ ?_ ?_ | refine wK ?_ ?_ | refine wL ?_ ?_) <;> intro _) | simp (maxSteps := 1000000) (disch := omega) only [go_sem, Nat.reduceAdd, Nat.reduceMul, Nat.reduceSub, Nat.reduceLeDiff, Nat.reduceEqDiff, Nat.reduceBEq, ↓reduceIte, reduceCtorEq, Int.reduceEq, Int.reduceLE, Int.reduceLT, Int.reduceAdd, Int.reduceSub, Int.reduceNeg, Int.reduceToNat, Int.reduceNe, Nat.reducePow, Nat.reduceShiftRight, Nat.reduceMod, *])
  refine fin_retF (r0 := .agg (f.pvB true)) 1 cE2 ?_
  exact .of_eq (by rw [frzF_agg1, frzF_tpvB])
def Ent.pvF (e : Ent) : List PV := .sc (.int .i64 e.kind) :: .sc (.int .i64 e.params) :: .sc (.string e.name) :: (e.typ.pvB true ++ (e.val.pvB true ++ [.sc (.int .i64 e.height), .sc (.string e.family), .sc (.int .i64 e.fixed), .sc (.int .i64 e.index), .sc (.int .i64 e.fields), PV.fsl 1 (e.ctors.map txt)]))
theorem tb_t10 (f : Bool) (t : Tm) (r : List PV) : (t.pvB f ++ r).take 10 = t.pvB f ++ r.take 5 := by rw [List.take_append, tpvB_len, List.take_of_length_le (by rw [tpvB_len]; omega)]
theorem tb_t15 (f : Bool) (t : Tm) (r : List PV) : (t.pvB f ++ r).take 15 = t.pvB f ++ r.take 10 := by rw [List.take_append, tpvB_len, List.take_of_length_le (by rw [tpvB_len]; omega)]
theorem tb_t16 (f : Bool) (t : Tm) (r : List PV) : (t.pvB f ++ r).take 16 = t.pvB f ++ r.take 11 := by rw [List.take_append, tpvB_len, List.take_of_length_le (by rw [tpvB_len]; omega)]
theorem tb_t11 (f : Bool) (t : Tm) (r : List PV) : (t.pvB f ++ r).take 11 = t.pvB f ++ r.take 6 := by rw [List.take_append, tpvB_len, List.take_of_length_le (by rw [tpvB_len]; omega)]
theorem tb_d16 (f : Bool) (t : Tm) (r : List PV) : (t.pvB f ++ r).drop 16 = r.drop 11 := by rw [show 16 = 5 + 11 by rfl, ← List.drop_drop, tb_drop]
theorem tm_t10 (t : Tm) (r : List PV) : (t.pv ++ r).take 10 = t.pv ++ r.take 5 := by rw [List.take_append, tm_len, List.take_of_length_le (by rw [tm_len]; omega)]
theorem tm_t15 (t : Tm) (r : List PV) : (t.pv ++ r).take 15 = t.pv ++ r.take 10 := by rw [List.take_append, tm_len, List.take_of_length_le (by rw [tm_len]; omega)]
theorem entF_len (e : Ent) : e.pvF.length = 19 := by simp [Ent.pvF, tpvB_len]
theorem entF_imm (e : Ent) : immL e.pvF = true := by
  have h : ∀ (t : Tm) (r : List PV), immL (t.pvB true ++ r) = immL r := fun t r => by
    have h := tpvB_imm true t
    cases t
    simp only [Tm.pvB, List.cons_append, List.nil_append, immL, Bool.and_true, Bool.and_eq_true, Bool.true_and] at h ⊢
    simp [h]
  simp [Ent.pvF, immL, h, PV.imm, immLL_flatten, imm_txts]
set_option maxHeartbeats 8000000 in
theorem eClone_p (e : Ent) (h1 : e.typ.nodes ≤ 2 ^ 40) (h2 : e.val.nodes ≤ 2 ^ 40) (h3 : e.ctors.length ≤ 2 ^ 40) : PPure Tryz.prog F.decl_Clone [.agg e.pv] (.agg e.pvF) := by
  refine pure_by is_decl_Clone (by simp) (by simp only [PV.imm]; exact entF_imm e) fun hb nx => ?_
  clear hb
  have c1 := app0_p e.typ h1
  have c2 := app0_p e.val h2
  have c3 := sClone_pF e.ctors h3
  obtain ⟨kind, params, name, typ, val, height, family, fixed, index, fields, ctors⟩ := e
  clear h1 h2 h3
  repeat' (first | ((with_reducible first | refine wA (by omega) ?_ | refine wB (by omega) ?_ | refine wC (by omega) ?_ | refine wD (by omega) ?_ | refine wE ?_ ?_ | refine wF ?_ ?_ | refine wG ?_ ?_ | refine wH ?_ ?_ | refine wI ?_ ?_ | refine wJ ?_ ?_ | refine wK ?_ ?_ | refine wL ?_ ?_) <;> intro _) | (((with_reducible refine call_id ?_); (first | (refine call_pure (c1) ?_) | (refine call_pure (c2) ?_) | (refine call_pure (c3) ?_)))) | simp (maxSteps := 1000000) (disch := omega) only [go_sem, Nat.reduceAdd, Nat.reduceMul, Nat.reduceSub, Nat.reduceLeDiff, Nat.reduceEqDiff, Nat.reduceBEq, ↓reduceIte, reduceCtorEq, Int.reduceEq, Int.reduceLE, Int.reduceLT, Int.reduceAdd, Int.reduceSub, Int.reduceNeg, Int.reduceToNat, Int.reduceNe, Nat.reducePow, Nat.reduceShiftRight, Nat.reduceMod, mc_decl_Clone, Ent.pv, Ent.pvF, tb_take, tb_drop, tb_d6, tb_d7, tb_d8, tb_d9, tb_d10, tb_d11, tb_d12, tb_d13, tb_d14, tb_d15, tb_t10, tb_t15, tb_t16, tb_t11, tb_d16, tm_t10, tm_t15, List.all_append, PV.one, *])
  refine fin_retF (r0 := .agg (Ent.pvF ⟨kind, params, name, typ, val, height, family, fixed, index, fields, ctors⟩)) 1 (by (simp (disch := omega) only [go_sem, Nat.reduceMul, Nat.reduceSub, Nat.reduceShiftRight, Nat.reduceMod, Nat.reduceEqDiff, Nat.reduceAdd, ↓reduceIte, Nat.reduceLeDiff, Ent.pvF, tpvB_len, tb_t16, tb_t11, *]); all_goals rfl) ?_
  refine .of_eq ?_
  rw [frzF_agg1]
  simp [Ent.pvF, frzF_tpvB, frzF_sc]
  cases ctors <;> rfl
end
section
set_option maxRecDepth 20000
attribute [local go_sem] pv_len pv_take Nat.add_assoc tm_len tm_take pv_one tm_one id_ne id_ne' id_ne2 List.append_assoc tm_take_app tm_drop_app tm_d6 tm_d7 tm_d8 tm_d9 tm_d10 tm_d11 tm_d12 tm_d13 tm_d14 tm_d15 ent_len ent_take ent_one tpvB_len tpvB_take tpvB_one
theorem num11_p (n : Int) : PPure Tryz.prog F.law11_num [.sc (.int .i64 n)] (.agg (Lv.mk 1 n []).pv) := by
  refine pure_by is_law11_num (by simp) (by simp [PV.imm, Lv.pv, immL, immLL]) fun hb nx => ?_
  clear hb
  repeat' (first | ((with_reducible first | refine wA (by omega) ?_ | refine wB (by omega) ?_ | refine wC (by omega) ?_ | refine wD (by omega) ?_ | refine wE ?_ ?_ | refine wF ?_ ?_ | refine wG ?_ ?_ | refine wH ?_ ?_ | refine wI ?_ ?_ | refine wJ ?_ ?_ | refine wK ?_ ?_ | refine wL ?_ ?_) <;> intro _) | simp (maxSteps := 1000000) (disch := omega) only [go_sem, Nat.reduceAdd, Nat.reduceMul, Nat.reduceSub, Nat.reduceLeDiff, Nat.reduceEqDiff, Nat.reduceBEq, ↓reduceIte, reduceCtorEq, Int.reduceEq, Int.reduceLE, Int.reduceLT, Int.reduceAdd, Int.reduceSub, Int.reduceNeg, Int.reduceToNat, Int.reduceNe, Nat.reducePow, Nat.reduceShiftRight, Nat.reduceMod, mc_law11_num, *])
  refine fin_ret (r0 := .agg [.sc (.int .i64 1), .sc (.int .i64 n), .sc (.slice none 0 0)]) 2 cE2 ?_
  rw [frz_agg1]
  simp only [List.map_cons, List.map_nil, frz_sc1, Lv.pv]
  exact Weak.agg ⟨.refl _, .refl _, .nil 3, trivial⟩
theorem sort11_p (l : Lv) : PPure Tryz.prog F.law11_sort [.agg l.pv] (.agg (Tm.mk 2 0 emp [l] []).pv) := by
  refine pure_by is_law11_sort (by simp) (by simp [PV.imm, tm_imm]) fun hb nx => ?_
  clear hb
  repeat' (first | ((with_reducible first | refine wA (by omega) ?_ | refine wB (by omega) ?_ | refine wC (by omega) ?_ | refine wD (by omega) ?_ | refine wE ?_ ?_ | refine wF ?_ ?_ | refine wG ?_ ?_ | refine wH ?_ ?_ | refine wI ?_ ?_ | refine wJ ?_ ?_ | refine wK ?_ ?_ | refine wL ?_ ?_) <;> intro _) | simp (maxSteps := 1000000) (disch := omega) only [go_sem, Nat.reduceAdd, Nat.reduceMul, Nat.reduceSub, Nat.reduceLeDiff, Nat.reduceEqDiff, Nat.reduceBEq, ↓reduceIte, reduceCtorEq, Int.reduceEq, Int.reduceLE, Int.reduceLT, Int.reduceAdd, Int.reduceSub, Int.reduceNeg, Int.reduceToNat, Int.reduceNe, Nat.reducePow, Nat.reduceShiftRight, Nat.reduceMod, mc_law11_sort, *])
  refine fin_ret (r0 := .agg [.sc (.int .i64 2), .sc (.int .i64 0), .sc (.string ⟨#[]⟩), .sl 3 [l.pv], .sc (.slice none 0 0)]) 2 cE2 ?_
  rw [frz_agg1]
  simp only [List.map_cons, List.map_nil, frz_sc1, frz_sl, Tm.pv]
  exact Weak.agg ⟨.refl _, .refl _, .refl _, .refl _, .nil 5, trivial⟩
def Ent.sameR (a b : Ent) : Bool := decide (a.kind = b.kind) && (decide (a.params = b.params) && (decide (a.name = b.name) && (decide (a.height = b.height) && (decide (a.family = b.family) && (decide (a.fixed = b.fixed) && (decide (a.index = b.index) && (decide (a.fields = b.fields) && (a.typ.same b.typ && (a.val.same b.val && decide (a.ctors = b.ctors))))))))))
theorem ent_sameR (a b : Ent) : a.sameR b = a.same b := by
  simp only [Ent.sameR, Ent.same, Ent.numE, Ent.txtE, bytes_eqD]
  rw [Bool.eq_iff_iff]
  simp only [Bool.and_eq_true]
  constructor
  · rintro ⟨h1, h2, h3, h4, h5, h6, h7, h8, h9, h10, h11⟩
    exact ⟨⟨h1, h2, h4, h6, h7, h8⟩, ⟨h3, h5⟩, h11, h9, h10⟩
  · rintro ⟨⟨h1, h2, h4, h6, h7, h8⟩, ⟨h3, h5⟩, h11, h9, h10⟩
    exact ⟨h1, h2, h3, h4, h5, h6, h7, h8, h9, h10, h11⟩
set_option maxHeartbeats 8000000 in
theorem SameEntry_p (a b : Ent) : PPure Tryz.prog F.ref00_SameEntry [.agg a.pv, .agg b.pv] (.sc (.bool (a.same b))) := by
  rw [← ent_sameR]
  refine pure_by is_ref00_SameEntry (by simp) rfl fun hb nx => ?_
  clear hb
  have c5 := SameTexts_p a.ctors b.ctors
  have c6 := SameTerm_p a.typ.size a.typ b.typ (Nat.le_refl _)
  have c7 := SameTerm_p a.val.size a.val b.val (Nat.le_refl _)
  simp only [Ent.sameR]
  obtain ⟨kind, params, name, typ, val, height, family, fixed, index, fields, ctors⟩ := a
  obtain ⟨kind2, params2, name2, typ2, val2, height2, family2, fixed2, index2, fields2, ctors2⟩ := b
  simp only [Ent.pv] at c5 c6 c7 ⊢
  generalize typ.same typ2 = b6 at c6
  generalize val.same val2 = b7 at c7
  generalize decide (ctors = ctors2) = b5 at c5
  repeat' (first | ((with_reducible first | refine wA (by omega) ?_ | refine wB (by omega) ?_ | refine wC (by omega) ?_ | refine wD (by omega) ?_ | refine wE ?_ ?_ | refine wF ?_ ?_ | refine wG ?_ ?_ | refine wH ?_ ?_ | refine wI ?_ ?_ | refine wJ ?_ ?_ | refine wK ?_ ?_ | refine wL ?_ ?_) <;> intro _) | (((with_reducible refine call_id ?_); (first | (refine call_pure (c5) ?_) | (refine call_pure (c6) ?_) | (refine call_pure (c7) ?_)))) | simp (maxSteps := 1000000) (disch := omega) only [go_sem, Nat.reduceAdd, Nat.reduceMul, Nat.reduceSub, Nat.reduceLeDiff, Nat.reduceEqDiff, Nat.reduceBEq, ↓reduceIte, reduceCtorEq, Int.reduceEq, Int.reduceLE, Int.reduceLT, Int.reduceAdd, Int.reduceSub, Int.reduceNeg, Int.reduceToNat, Int.reduceNe, Nat.reducePow, Nat.reduceShiftRight, Nat.reduceMod, mc_ref00_SameEntry, strBin, bytes_eqD, *])
  all_goals (exact fin_tmp (.inr rfl) cE3)
end
section
set_option maxRecDepth 20000
attribute [local go_sem] pv_len pv_take Nat.add_assoc tm_len tm_take pv_one tm_one id_ne id_ne' id_ne2 List.append_assoc tm_take_app tm_drop_app tm_d6 tm_d7 tm_d8 tm_d9 tm_d10 tm_d11 tm_d12 tm_d13 tm_d14 tm_d15 ent_len ent_take ent_one
structure Ctr where
  name : ByteArray
  typ : Tm
def Ctr.pv (c : Ctr) : List PV := .sc (.string c.name) :: c.typ.pv
structure Dcl where
  kind : Int
  params : Int
  name : ByteArray
  typ : Tm
  val : Tm
  fixed : Int
  ctors : List Ctr
def Dcl.pv (d : Dcl) : List PV := .sc (.int .i64 d.kind) :: .sc (.int .i64 d.params) :: .sc (.string d.name) :: (d.typ.pv ++ (d.val.pv ++ [.sc (.int .i64 d.fixed), .sl 6 (d.ctors.map Ctr.pv)]))
theorem dcl_len (d : Dcl) : d.pv.length = 15 := by simp [Dcl.pv, tm_len]
theorem dcl_take (d : Dcl) : d.pv.take 15 = d.pv := List.take_of_length_le (by rw [dcl_len]; omega)
theorem noValue_p (d : Dcl) : PPure Tryz.prog F.pack_noValue [.ptr d.pv] (.sc (.bool (noughtB d.val))) := by
  obtain ⟨kind, params, name, typ, val, fixed, ctors⟩ := d
  refine pure_by is_pack_noValue (by simp) rfl fun hb nx => ?_
  clear hb
  have c1 : PPure Tryz.prog F.term_Same [.agg val.pv, .agg [.sc (.int .i64 0), .sc (.int .i64 0), .sc (.string ⟨#[]⟩), .sc (.slice none 0 0), .sc (.slice none 0 0)]] (.sc (.bool (noughtB val))) := by
    have h := tSame_p val noTm false true rfl
    refine h.weak ⟨.of_eq (by rw [dtv_false]), ?_, trivial⟩ (.refl _)
    simp only [noTm, Tm.pvB, List.map_nil]
    exact Weak.agg ⟨.refl _, .refl _, .refl _, .nilB true 3, .nilB true 5, trivial⟩
  repeat' (first | ((with_reducible first | refine wA (by omega) ?_ | refine wB (by omega) ?_ | refine wC (by omega) ?_ | refine wD (by omega) ?_ | refine wE ?_ ?_ | refine wF ?_ ?_ | refine wG ?_ ?_ | refine wH ?_ ?_ | refine wI ?_ ?_ | refine wJ ?_ ?_ | refine wK ?_ ?_ | refine wL ?_ ?_) <;> intro _) | (((with_reducible refine call_id ?_); (first | (refine call_pure (c1) ?_)))) | simp (maxSteps := 1000000) (disch := omega) only [go_sem, Nat.reduceAdd, Nat.reduceMul, Nat.reduceSub, Nat.reduceLeDiff, Nat.reduceEqDiff, Nat.reduceBEq, ↓reduceIte, reduceCtorEq, Int.reduceEq, Int.reduceLE, Int.reduceLT, Int.reduceAdd, Int.reduceSub, Int.reduceNeg, Int.reduceToNat, Int.reduceNe, Nat.reducePow, Nat.reduceShiftRight, Nat.reduceMod, mc_pack_noValue, Dcl.pv, *])
  all_goals (exact fin_tmp (.inr rfl) cE3)
def noFamB (d : Dcl) : Bool := decide (d.fixed = 0) && decide (d.ctors.length = 0)
theorem noFamily_p (d : Dcl) : PPure Tryz.prog F.pack_noFamily [.ptr d.pv] (.sc (.bool (noFamB d))) := by
  obtain ⟨kind, params, name, typ, val, fixed, ctors⟩ := d
  refine pure_by is_pack_noFamily (by simp) rfl fun hb nx => ?_
  clear hb
  simp only [noFamB]
  repeat' (first | ((with_reducible first | refine wA (by omega) ?_ | refine wB (by omega) ?_ | refine wC (by omega) ?_ | refine wD (by omega) ?_ | refine wE ?_ ?_ | refine wF ?_ ?_ | refine wG ?_ ?_ | refine wH ?_ ?_ | refine wI ?_ ?_ | refine wJ ?_ ?_ | refine wK ?_ ?_ | refine wL ?_ ?_) <;> intro _) | simp (maxSteps := 1000000) (disch := omega) only [go_sem, Nat.reduceAdd, Nat.reduceMul, Nat.reduceSub, Nat.reduceLeDiff, Nat.reduceEqDiff, Nat.reduceBEq, ↓reduceIte, reduceCtorEq, Int.reduceEq, Int.reduceLE, Int.reduceLT, Int.reduceAdd, Int.reduceSub, Int.reduceNeg, Int.reduceToNat, Int.reduceNe, Nat.reducePow, Nat.reduceShiftRight, Nat.reduceMod, mc_pack_noFamily, Dcl.pv, *])
  all_goals (refine fin_tmp (.inr rfl) ?_; simp [upd, *] <;> (intros; omega))
def ctrB (params : Int) (c : Ctr) : Bool := nameB c.name && c.typ.right params 0
def famB (d : Dcl) : Bool := spanB d.fixed 16 && (decide (d.ctors.length ≤ 8) && d.ctors.all (ctrB d.params))
set_option maxHeartbeats 4000000 in
theorem pfamily_p (d : Dcl) : PPure Tryz.prog F.pack_family [.ptr d.pv] (.sc (.bool (famB d))) := by
  obtain ⟨kind, params, name, typ, val, fixed, ctors⟩ := d
  refine pure_by is_pack_family (by simp) rfl fun hb nx => ?_
  clear hb
  simp only [famB, spanB]
  by_cases h : 0 ≤ fixed ∧ fixed ≤ 16 ∧ ctors.length ≤ 8
  · obtain ⟨h0, h1, h2⟩ := h
    rw [decide_eq_true h0, decide_eq_true h1, decide_eq_true h2]
    simp only [Bool.true_and]
    repeat' (first | ((with_reducible first | refine wA (by omega) ?_ | refine wB (by omega) ?_ | refine wC (by omega) ?_ | refine wD (by omega) ?_ | refine wE ?_ ?_ | refine wF ?_ ?_ | refine wG ?_ ?_ | refine wH ?_ ?_ | refine wI ?_ ?_ | refine wJ ?_ ?_ | refine wK ?_ ?_ | refine wL ?_ ?_) <;> intro _) | simp (maxSteps := 1000000) (disch := omega) only [go_sem, Nat.reduceAdd, Nat.reduceMul, Nat.reduceSub, Nat.reduceLeDiff, Nat.reduceEqDiff, Nat.reduceBEq, ↓reduceIte, reduceCtorEq, Int.reduceEq, Int.reduceLE, Int.reduceLT, Int.reduceAdd, Int.reduceSub, Int.reduceNeg, Int.reduceToNat, Int.reduceNe, Nat.reducePow, Nat.reduceShiftRight, Nat.reduceMod, mc_pack_family, Dcl.pv, *])
    refine c_loopW 576460751766552588 (by kernel_rfl) (fun j f H m => ∃ i : Nat, j = ctors.length - i ∧ i ≤ ctors.length ∧ f 29 = .sc (.int .i64 i) ∧ Kept ((ctors.take i).all (ctrB params) = true)) _ ⟨0, rfl, Nat.zero_le _, cE1, Kept.mk rfl⟩ ?_
    rintro _ f H m ⟨i, rfl, hi, e29, hs⟩
    by_cases hlt : i < ctors.length
    · have eg : ctors[i]? = some ctors[i] := List.getElem?_eq_getElem hlt
      have c1 := name_Right_p ctors[i].name
      have c2 := tRightG_p ctors[i].typ params 0
      cases hc : ctrB params ctors[i] with
      | false =>
        have e : ctors.all (ctrB params) = false := by
          rw [Bool.eq_false_iff]
          intro h
          have := List.all_eq_true.1 h _ (List.getElem_mem hlt)
          rw [hc] at this
          cases this
        rw [e]
        clear e hs
        cases hn : nameB ctors[i].name with
        | false =>
          rw [hn] at c1
          clear hn hc c2
          repeat' (first | ((with_reducible first | refine wA (by omega) ?_ | refine wB (by omega) ?_ | refine wC (by omega) ?_ | refine wD (by omega) ?_ | refine wE ?_ ?_ | refine wF ?_ ?_ | refine wG ?_ ?_ | refine wH ?_ ?_ | refine wI ?_ ?_ | refine wJ ?_ ?_ | refine wK ?_ ?_ | refine wL ?_ ?_) <;> intro _) | (((with_reducible refine call_id ?_); (first | (refine call_pure (c1) ?_)))) | simp (maxSteps := 1000000) (disch := omega) only [go_sem, Nat.reduceAdd, Nat.reduceMul, Nat.reduceSub, Nat.reduceLeDiff, Nat.reduceEqDiff, Nat.reduceBEq, ↓reduceIte, reduceCtorEq, Int.reduceEq, Int.reduceLE, Int.reduceLT, Int.reduceAdd, Int.reduceSub, Int.reduceNeg, Int.reduceToNat, Int.reduceNe, Nat.reducePow, Nat.reduceShiftRight, Nat.reduceMod, Ctr.pv, *])
          all_goals (exact fin_tmp (.inr rfl) cE3)
        | true =>
          have hr : ctors[i].typ.right params 0 = false := by simpa [ctrB, hn] using hc
          rw [hn] at c1
          rw [hr] at c2
          clear hn hc hr
          repeat' (first | ((with_reducible first | refine wA (by omega) ?_ | refine wB (by omega) ?_ | refine wC (by omega) ?_ | refine wD (by omega) ?_ | refine wE ?_ ?_ | refine wF ?_ ?_ | refine wG ?_ ?_ | refine wH ?_ ?_ | refine wI ?_ ?_ | refine wJ ?_ ?_ | refine wK ?_ ?_ | refine wL ?_ ?_) <;> intro _) | (((with_reducible refine call_id ?_); (first | (refine call_pure (c1) ?_) | (refine call_pure (c2) ?_)))) | simp (maxSteps := 1000000) (disch := omega) only [go_sem, Nat.reduceAdd, Nat.reduceMul, Nat.reduceSub, Nat.reduceLeDiff, Nat.reduceEqDiff, Nat.reduceBEq, ↓reduceIte, reduceCtorEq, Int.reduceEq, Int.reduceLE, Int.reduceLT, Int.reduceAdd, Int.reduceSub, Int.reduceNeg, Int.reduceToNat, Int.reduceNe, Nat.reducePow, Nat.reduceShiftRight, Nat.reduceMod, Ctr.pv, *])
          all_goals (exact fin_tmp (.inr rfl) cE3)
      | true =>
        have h3 : nameB ctors[i].name = true ∧ ctors[i].typ.right params 0 = true := by simpa [ctrB] using hc
        rw [h3.1] at c1
        rw [h3.2] at c2
        have hs2 : Kept ((ctors.take (i + 1)).all (ctrB params) = true) := Kept.mk (by rw [List.take_succ_eq_append_getElem hlt, List.all_append, hs.out, List.all_cons, hc]; rfl)
        clear h3 hc hs
        repeat' (first | ((with_reducible first | refine wA (by omega) ?_ | refine wB (by omega) ?_ | refine wC (by omega) ?_ | refine wD (by omega) ?_ | refine wE ?_ ?_ | refine wF ?_ ?_ | refine wG ?_ ?_ | refine wH ?_ ?_ | refine wI ?_ ?_ | refine wJ ?_ ?_ | refine wK ?_ ?_ | refine wL ?_ ?_) <;> intro _) | (((with_reducible refine call_id ?_); (first | (refine call_pure (c1) ?_) | (refine call_pure (c2) ?_)))) | simp (maxSteps := 1000000) (disch := omega) only [go_sem, Nat.reduceAdd, Nat.reduceMul, Nat.reduceSub, Nat.reduceLeDiff, Nat.reduceEqDiff, Nat.reduceBEq, ↓reduceIte, reduceCtorEq, Int.reduceEq, Int.reduceLE, Int.reduceLT, Int.reduceAdd, Int.reduceSub, Int.reduceNeg, Int.reduceToNat, Int.reduceNe, Nat.reducePow, Nat.reduceShiftRight, Nat.reduceMod, Ctr.pv, *])
        exact Nx.mk (ctors.length - (i + 1)) cE1 ⟨i + 1, rfl, cE1, by simp [upd], hs2⟩
    · obtain rfl : i = ctors.length := by omega
      have h3 := hs.out
      rw [List.take_length] at h3
      rw [h3]
      clear hs h3
      repeat' (first | ((with_reducible first | refine wA (by omega) ?_ | refine wB (by omega) ?_ | refine wC (by omega) ?_ | refine wD (by omega) ?_ | refine wE ?_ ?_ | refine wF ?_ ?_ | refine wG ?_ ?_ | refine wH ?_ ?_ | refine wI ?_ ?_ | refine wJ ?_ ?_ | refine wK ?_ ?_ | refine wL ?_ ?_) <;> intro _) | simp (maxSteps := 1000000) (disch := omega) only [go_sem, Nat.reduceAdd, Nat.reduceMul, Nat.reduceSub, Nat.reduceLeDiff, Nat.reduceEqDiff, Nat.reduceBEq, ↓reduceIte, reduceCtorEq, Int.reduceEq, Int.reduceLE, Int.reduceLT, Int.reduceAdd, Int.reduceSub, Int.reduceNeg, Int.reduceToNat, Int.reduceNe, Nat.reducePow, Nat.reduceShiftRight, Nat.reduceMod, *])
      all_goals (exact fin_tmp (.inr rfl) cE3)
  · have e : (decide (0 ≤ fixed) && decide (fixed ≤ 16) && (decide (ctors.length ≤ 8) && ctors.all (ctrB params))) = false := by
      rw [Bool.eq_false_iff]
      intro h2
      simp only [Bool.and_eq_true, decide_eq_true_eq] at h2
      exact h ⟨h2.1.1, h2.1.2, h2.2.1⟩
    rw [e]
    clear e
    have h9 : fixed < 0 ∨ (0 ≤ fixed ∧ 16 < fixed) ∨ (0 ≤ fixed ∧ fixed ≤ 16 ∧ 8 < ctors.length) := by omega
    clear h
    rcases h9 with h | ⟨h, h2⟩ | ⟨h, h2, h3⟩
    all_goals
      repeat' (first | ((with_reducible first | refine wA (by omega) ?_ | refine wB (by omega) ?_ | refine wC (by omega) ?_ | refine wD (by omega) ?_ | refine wE ?_ ?_ | refine wF ?_ ?_ | refine wG ?_ ?_ | refine wH ?_ ?_ | refine wI ?_ ?_ | refine wJ ?_ ?_ | refine wK ?_ ?_ | refine wL ?_ ?_) <;> intro _) | simp (maxSteps := 1000000) (disch := omega) only [go_sem, Nat.reduceAdd, Nat.reduceMul, Nat.reduceSub, Nat.reduceLeDiff, Nat.reduceEqDiff, Nat.reduceBEq, ↓reduceIte, reduceCtorEq, Int.reduceEq, Int.reduceLE, Int.reduceLT, Int.reduceAdd, Int.reduceSub, Int.reduceNeg, Int.reduceToNat, Int.reduceNe, Nat.reducePow, Nat.reduceShiftRight, Nat.reduceMod, mc_pack_family, Dcl.pv, *])
      all_goals (exact fin_tmp (.inr rfl) cE3)
def Dcl.formed (d : Dcl) : Bool := decide (0 ≤ d.params) && (decide (d.params ≤ 4) && (nameB d.name && (d.typ.right d.params 0 && (if d.kind = 1 then noughtB d.val && noFamB d else if d.kind = 2 ∨ d.kind = 3 ∨ d.kind = 4 then d.val.right d.params 0 && noFamB d else if d.kind = 5 then noughtB d.val && famB d else false))))
set_option maxHeartbeats 16000000 in
theorem formed11_p (d : Dcl) : PPure Tryz.prog F.pack_Formed [.agg d.pv] (.sc (.bool d.formed)) := by
  refine pure_by is_pack_Formed (by simp) rfl fun hb nx => ?_
  clear hb
  have c1 := name_Right_p d.name
  have c2 := tRightG_p d.typ d.params 0
  have c3 := noValue_p d
  have c4 := noFamily_p d
  have c5 := pfamily_p d
  have c6 := tRightG_p d.val d.params 0
  simp only [Dcl.formed]
  generalize noughtB d.val = b3 at c3
  generalize noFamB d = b4 at c4
  generalize famB d = b5 at c5
  obtain ⟨kind, params, name, typ, val, fixed, ctors⟩ := d
  simp only [Dcl.pv] at c1 c2 c3 c4 c5 c6 ⊢
  generalize nameB name = b1 at c1
  generalize typ.right params 0 = b2 at c2
  generalize val.right params 0 = b6 at c6
  by_cases hp : 0 ≤ params ∧ params ≤ 4
  rotate_left
  · have h9 : params < 0 ∨ (0 ≤ params ∧ 4 < params) := by omega
    clear hp c2 c3 c4 c5 c6
    rcases h9 with h | ⟨h, h2⟩
    all_goals
      cases b1
      all_goals
        repeat' (first | ((with_reducible first | refine wA (by omega) ?_ | refine wB (by omega) ?_ | refine wC (by omega) ?_ | refine wD (by omega) ?_ | refine wE ?_ ?_ | refine wF ?_ ?_ | refine wG ?_ ?_ | refine wH ?_ ?_ | refine wI ?_ ?_ | refine wJ ?_ ?_ | refine wK ?_ ?_ | refine wL ?_ ?_) <;> intro _) | (((with_reducible refine call_id ?_); (first | (refine call_pure (c1) ?_)))) | simp (maxSteps := 1000000) (disch := omega) only [go_sem, Nat.reduceAdd, Nat.reduceMul, Nat.reduceSub, Nat.reduceLeDiff, Nat.reduceEqDiff, Nat.reduceBEq, ↓reduceIte, reduceCtorEq, Int.reduceEq, Int.reduceLE, Int.reduceLT, Int.reduceAdd, Int.reduceSub, Int.reduceNeg, Int.reduceToNat, Int.reduceNe, Nat.reducePow, Nat.reduceShiftRight, Nat.reduceMod, mc_pack_Formed, *])
        all_goals (refine fin_tmp (.inr rfl) ?_; simp [upd, *] <;> (intros; omega))
  obtain ⟨h0, h4⟩ := hp
  cases b1 with
  | false =>
    repeat' (first | ((with_reducible first | refine wA (by omega) ?_ | refine wB (by omega) ?_ | refine wC (by omega) ?_ | refine wD (by omega) ?_ | refine wE ?_ ?_ | refine wF ?_ ?_ | refine wG ?_ ?_ | refine wH ?_ ?_ | refine wI ?_ ?_ | refine wJ ?_ ?_ | refine wK ?_ ?_ | refine wL ?_ ?_) <;> intro _) | (((with_reducible refine call_id ?_); (first | (refine call_pure (c1) ?_)))) | simp (maxSteps := 1000000) (disch := omega) only [go_sem, Nat.reduceAdd, Nat.reduceMul, Nat.reduceSub, Nat.reduceLeDiff, Nat.reduceEqDiff, Nat.reduceBEq, ↓reduceIte, reduceCtorEq, Int.reduceEq, Int.reduceLE, Int.reduceLT, Int.reduceAdd, Int.reduceSub, Int.reduceNeg, Int.reduceToNat, Int.reduceNe, Nat.reducePow, Nat.reduceShiftRight, Nat.reduceMod, mc_pack_Formed, *])
    all_goals (refine fin_tmp (.inr rfl) ?_; simp [upd, *] <;> (intros; omega))
  | true =>
  cases b2 with
  | false =>
    repeat' (first | ((with_reducible first | refine wA (by omega) ?_ | refine wB (by omega) ?_ | refine wC (by omega) ?_ | refine wD (by omega) ?_ | refine wE ?_ ?_ | refine wF ?_ ?_ | refine wG ?_ ?_ | refine wH ?_ ?_ | refine wI ?_ ?_ | refine wJ ?_ ?_ | refine wK ?_ ?_ | refine wL ?_ ?_) <;> intro _) | (((with_reducible refine call_id ?_); (first | (refine call_pure (c1) ?_) | (refine call_pure (c2) ?_)))) | simp (maxSteps := 1000000) (disch := omega) only [go_sem, Nat.reduceAdd, Nat.reduceMul, Nat.reduceSub, Nat.reduceLeDiff, Nat.reduceEqDiff, Nat.reduceBEq, ↓reduceIte, reduceCtorEq, Int.reduceEq, Int.reduceLE, Int.reduceLT, Int.reduceAdd, Int.reduceSub, Int.reduceNeg, Int.reduceToNat, Int.reduceNe, Nat.reducePow, Nat.reduceShiftRight, Nat.reduceMod, mc_pack_Formed, *])
    all_goals (refine fin_tmp (.inr rfl) ?_; simp [upd, *] <;> (intros; omega))
  | true =>
  have hk : kind = 1 ∨ (kind = 2 ∨ kind = 3 ∨ kind = 4) ∨ kind = 5 ∨ (kind ≠ 1 ∧ kind ≠ 2 ∧ kind ≠ 3 ∧ kind ≠ 4 ∧ kind ≠ 5) := by omega
  rcases hk with rfl | (rfl | rfl | rfl) | rfl | ⟨k1, k2, k3, k4, k5⟩
  · cases b3
    all_goals
      repeat' (first | ((with_reducible first | refine wA (by omega) ?_ | refine wB (by omega) ?_ | refine wC (by omega) ?_ | refine wD (by omega) ?_ | refine wE ?_ ?_ | refine wF ?_ ?_ | refine wG ?_ ?_ | refine wH ?_ ?_ | refine wI ?_ ?_ | refine wJ ?_ ?_ | refine wK ?_ ?_ | refine wL ?_ ?_) <;> intro _) | (((with_reducible refine call_id ?_); (first | (refine call_pure (c1) ?_) | (refine call_pure (c2) ?_) | (refine call_pure (c3) ?_) | (refine call_pure (c4) ?_)))) | simp (maxSteps := 1000000) (disch := omega) only [go_sem, Nat.reduceAdd, Nat.reduceMul, Nat.reduceSub, Nat.reduceLeDiff, Nat.reduceEqDiff, Nat.reduceBEq, ↓reduceIte, reduceCtorEq, Int.reduceEq, Int.reduceLE, Int.reduceLT, Int.reduceAdd, Int.reduceSub, Int.reduceNeg, Int.reduceToNat, Int.reduceNe, Nat.reducePow, Nat.reduceShiftRight, Nat.reduceMod, mc_pack_Formed, *])
      all_goals (refine fin_tmp (.inr rfl) ?_; simp [upd, *] <;> (intros; omega))
  · cases b6
    all_goals
      repeat' (first | ((with_reducible first | refine wA (by omega) ?_ | refine wB (by omega) ?_ | refine wC (by omega) ?_ | refine wD (by omega) ?_ | refine wE ?_ ?_ | refine wF ?_ ?_ | refine wG ?_ ?_ | refine wH ?_ ?_ | refine wI ?_ ?_ | refine wJ ?_ ?_ | refine wK ?_ ?_ | refine wL ?_ ?_) <;> intro _) | (((with_reducible refine call_id ?_); (first | (refine call_pure (c1) ?_) | (refine call_pure (c2) ?_) | (refine call_pure (c6) ?_) | (refine call_pure (c4) ?_)))) | simp (maxSteps := 1000000) (disch := omega) only [go_sem, Nat.reduceAdd, Nat.reduceMul, Nat.reduceSub, Nat.reduceLeDiff, Nat.reduceEqDiff, Nat.reduceBEq, ↓reduceIte, reduceCtorEq, Int.reduceEq, Int.reduceLE, Int.reduceLT, Int.reduceAdd, Int.reduceSub, Int.reduceNeg, Int.reduceToNat, Int.reduceNe, Nat.reducePow, Nat.reduceShiftRight, Nat.reduceMod, mc_pack_Formed, *])
      all_goals (refine fin_tmp (.inr rfl) ?_; simp [upd, *] <;> (intros; omega))
  · cases b6
    all_goals
      repeat' (first | ((with_reducible first | refine wA (by omega) ?_ | refine wB (by omega) ?_ | refine wC (by omega) ?_ | refine wD (by omega) ?_ | refine wE ?_ ?_ | refine wF ?_ ?_ | refine wG ?_ ?_ | refine wH ?_ ?_ | refine wI ?_ ?_ | refine wJ ?_ ?_ | refine wK ?_ ?_ | refine wL ?_ ?_) <;> intro _) | (((with_reducible refine call_id ?_); (first | (refine call_pure (c1) ?_) | (refine call_pure (c2) ?_) | (refine call_pure (c6) ?_) | (refine call_pure (c4) ?_)))) | simp (maxSteps := 1000000) (disch := omega) only [go_sem, Nat.reduceAdd, Nat.reduceMul, Nat.reduceSub, Nat.reduceLeDiff, Nat.reduceEqDiff, Nat.reduceBEq, ↓reduceIte, reduceCtorEq, Int.reduceEq, Int.reduceLE, Int.reduceLT, Int.reduceAdd, Int.reduceSub, Int.reduceNeg, Int.reduceToNat, Int.reduceNe, Nat.reducePow, Nat.reduceShiftRight, Nat.reduceMod, mc_pack_Formed, *])
      all_goals (refine fin_tmp (.inr rfl) ?_; simp [upd, *] <;> (intros; omega))
  · cases b6
    all_goals
      repeat' (first | ((with_reducible first | refine wA (by omega) ?_ | refine wB (by omega) ?_ | refine wC (by omega) ?_ | refine wD (by omega) ?_ | refine wE ?_ ?_ | refine wF ?_ ?_ | refine wG ?_ ?_ | refine wH ?_ ?_ | refine wI ?_ ?_ | refine wJ ?_ ?_ | refine wK ?_ ?_ | refine wL ?_ ?_) <;> intro _) | (((with_reducible refine call_id ?_); (first | (refine call_pure (c1) ?_) | (refine call_pure (c2) ?_) | (refine call_pure (c6) ?_) | (refine call_pure (c4) ?_)))) | simp (maxSteps := 1000000) (disch := omega) only [go_sem, Nat.reduceAdd, Nat.reduceMul, Nat.reduceSub, Nat.reduceLeDiff, Nat.reduceEqDiff, Nat.reduceBEq, ↓reduceIte, reduceCtorEq, Int.reduceEq, Int.reduceLE, Int.reduceLT, Int.reduceAdd, Int.reduceSub, Int.reduceNeg, Int.reduceToNat, Int.reduceNe, Nat.reducePow, Nat.reduceShiftRight, Nat.reduceMod, mc_pack_Formed, *])
      all_goals (refine fin_tmp (.inr rfl) ?_; simp [upd, *] <;> (intros; omega))
  · cases b3
    all_goals
      repeat' (first | ((with_reducible first | refine wA (by omega) ?_ | refine wB (by omega) ?_ | refine wC (by omega) ?_ | refine wD (by omega) ?_ | refine wE ?_ ?_ | refine wF ?_ ?_ | refine wG ?_ ?_ | refine wH ?_ ?_ | refine wI ?_ ?_ | refine wJ ?_ ?_ | refine wK ?_ ?_ | refine wL ?_ ?_) <;> intro _) | (((with_reducible refine call_id ?_); (first | (refine call_pure (c1) ?_) | (refine call_pure (c2) ?_) | (refine call_pure (c3) ?_) | (refine call_pure (c5) ?_)))) | simp (maxSteps := 1000000) (disch := omega) only [go_sem, Nat.reduceAdd, Nat.reduceMul, Nat.reduceSub, Nat.reduceLeDiff, Nat.reduceEqDiff, Nat.reduceBEq, ↓reduceIte, reduceCtorEq, Int.reduceEq, Int.reduceLE, Int.reduceLT, Int.reduceAdd, Int.reduceSub, Int.reduceNeg, Int.reduceToNat, Int.reduceNe, Nat.reducePow, Nat.reduceShiftRight, Nat.reduceMod, mc_pack_Formed, *])
      all_goals (refine fin_tmp (.inr rfl) ?_; simp [upd, *] <;> (intros; omega))
  · repeat' (first | ((with_reducible first | refine wA (by omega) ?_ | refine wB (by omega) ?_ | refine wC (by omega) ?_ | refine wD (by omega) ?_ | refine wE ?_ ?_ | refine wF ?_ ?_ | refine wG ?_ ?_ | refine wH ?_ ?_ | refine wI ?_ ?_ | refine wJ ?_ ?_ | refine wK ?_ ?_ | refine wL ?_ ?_) <;> intro _) | (((with_reducible refine call_id ?_); (first | (refine call_pure (c1) ?_) | (refine call_pure (c2) ?_)))) | simp (maxSteps := 1000000) (disch := omega) only [go_sem, Nat.reduceAdd, Nat.reduceMul, Nat.reduceSub, Nat.reduceLeDiff, Nat.reduceEqDiff, Nat.reduceBEq, ↓reduceIte, reduceCtorEq, Int.reduceEq, Int.reduceLE, Int.reduceLT, Int.reduceAdd, Int.reduceSub, Int.reduceNeg, Int.reduceToNat, Int.reduceNe, Nat.reducePow, Nat.reduceShiftRight, Nat.reduceMod, mc_pack_Formed, *])
    all_goals (refine fin_tmp (.inr rfl) ?_; simp [upd, *] <;> (intros; omega))
end
section
set_option maxRecDepth 20000
attribute [local go_sem] pv_len pv_take Nat.add_assoc tm_len tm_take pv_one tm_one id_ne id_ne' id_ne2 List.append_assoc tm_take_app tm_drop_app tm_d6 tm_d7 tm_d8 tm_d9 tm_d10 tm_d11 tm_d12 tm_d13 tm_d14 tm_d15 ent_len ent_take ent_one tpvB_len tpvB_take tpvB_one
theorem dcl_one (d : Dcl) : d.pv.all PV.one = true := by simp [Dcl.pv, tm_one, PV.one]
def Dcl.ent (d : Dcl) (h : Int) : Ent := ⟨d.kind, d.params, d.name, d.typ, d.val, if d.kind = 2 then h else 0, emp, 0, 0, 0, []⟩
def noEnt : Ent := ⟨0, 0, emp, noTm, noTm, 0, emp, 0, 0, 0, []⟩
def Dcl.plainE (d : Dcl) (h : Int) : Ent := if d.kind = 5 ∨ d.formed = false then noEnt else if (d.ent h).right then d.ent h else noEnt
def Dcl.plainN (d : Dcl) (h : Int) : Int := if d.kind = 5 ∨ d.formed = false then 10 else if (d.ent h).right then 0 else 12
theorem tm_t12 (t : Tm) (r : List PV) : (t.pv ++ r).take 12 = t.pv ++ r.take 7 := by rw [List.take_append, tm_len, List.take_of_length_le (by rw [tm_len]; omega)]
theorem tm_t7 (t : Tm) (r : List PV) : (t.pv ++ r).take 7 = t.pv ++ r.take 2 := by rw [List.take_append, tm_len, List.take_of_length_le (by rw [tm_len]; omega)]
theorem tm_t16 (t : Tm) (r : List PV) : (t.pv ++ r).take 16 = t.pv ++ r.take 11 := by rw [List.take_append, tm_len, List.take_of_length_le (by rw [tm_len]; omega)]
theorem tm_t11 (t : Tm) (r : List PV) : (t.pv ++ r).take 11 = t.pv ++ r.take 6 := by rw [List.take_append, tm_len, List.take_of_length_le (by rw [tm_len]; omega)]
theorem noEnt_weak : WeakL [PV.sc (.int .i64 0), .sc (.int .i64 0), .sc (.string ⟨#[]⟩), .sc (.int .i64 0), .sc (.int .i64 0), .sc (.string ⟨#[]⟩), .sc (.slice none 0 0), .sc (.slice none 0 0), .sc (.int .i64 0), .sc (.int .i64 0), .sc (.string ⟨#[]⟩), .sc (.slice none 0 0), .sc (.slice none 0 0), .sc (.int .i64 0), .sc (.string ⟨#[]⟩), .sc (.int .i64 0), .sc (.int .i64 0), .sc (.int .i64 0), .sc (.slice none 0 0)] noEnt.pv := by
  simp only [noEnt, Ent.pv, noTm, Tm.pv, List.map_nil, List.cons_append, List.nil_append]
  exact ⟨.refl _, .refl _, .refl _, .refl _, .refl _, .refl _, .nil 3, .nil 5, .refl _, .refl _, .refl _, .nil 3, .nil 5, .refl _, .refl _, .refl _, .refl _, .refl _, .nil 1, trivial⟩
theorem ent_imm (e : Ent) : immL e.pv = true := by
  have h : ∀ (t : Tm) (r : List PV), immL (t.pv ++ r) = immL r := fun t r => by
    have h := tm_imm t
    cases t
    simp only [Tm.pv, List.cons_append, List.nil_append, immL, Bool.and_true, Bool.and_eq_true, Bool.true_and] at h ⊢
    simp [h]
  simp [Ent.pv, immL, h, PV.imm, immLL_flatten, imm_txts]
def Ent.pvN (e : Ent) : List PV := PV.sc (.int .i64 e.kind) :: .sc (.int .i64 e.params) :: .sc (.string e.name) :: (e.typ.pv ++ (e.val.pv ++ [.sc (.int .i64 e.height), .sc (.string ⟨#[]⟩), .sc (.int .i64 0), .sc (.int .i64 0), .sc (.int .i64 0), .sc (.slice none 0 0)]))
theorem newEnt_weak (e : Ent) (h : e = ⟨e.kind, e.params, e.name, e.typ, e.val, e.height, emp, 0, 0, 0, []⟩) : WeakL e.pvN e.pv := by
  have : e.pv = PV.sc (.int .i64 e.kind) :: .sc (.int .i64 e.params) :: .sc (.string e.name) :: (e.typ.pv ++ (e.val.pv ++ [.sc (.int .i64 e.height), .sc (.string ⟨#[]⟩), .sc (.int .i64 0), .sc (.int .i64 0), .sc (.int .i64 0), .sl 1 []])) := by rw [h]; rfl
  rw [this]
  exact ⟨.refl _, .refl _, .refl _, WeakL.append (.refl _) (WeakL.append (.refl _) ⟨.refl _, .refl _, .refl _, .refl _, .refl _, .nil 1, trivial⟩)⟩
theorem newRight_p (e : Ent) (h : e = ⟨e.kind, e.params, e.name, e.typ, e.val, e.height, emp, 0, 0, 0, []⟩) : PPure Tryz.prog F.decl_Right [.agg e.pvN] (.sc (.bool e.right)) :=
  (eRight_p e).weak (args' := [.agg e.pvN]) ⟨Weak.agg (newEnt_weak e h), trivial⟩ (.refl _)
set_option maxHeartbeats 16000000 in
theorem Plain_p (d : Dcl) (h : Int) (h1 : d.typ.nodes ≤ 2 ^ 40) (h2 : d.val.nodes ≤ 2 ^ 40) : PPure Tryz.prog F.decl_Plain [.agg d.pv, .sc (.int .i64 h)] (.tup [.agg (d.plainE h).pv, .sc (.int .i64 (d.plainN h))]) := by
  refine pure_by is_decl_Plain (by simp) (by simp [PV.imm, immL, ent_imm]) fun hb nx => ?_
  clear hb
  have c1 := formed11_p d
  have c2 := (app0_p d.typ h1).weak (.refl _) (tm_agg true _)
  have c3 := (app0_p d.val h2).weak (.refl _) (tm_agg true _)
  have c4 := newRight_p (d.ent h) rfl
  have hw := newEnt_weak (d.ent h) rfl
  simp only [Dcl.plainE, Dcl.plainN]
  clear h1 h2
  generalize d.formed = b1 at c1
  generalize hr : (d.ent h).right = b2 at c4
  obtain ⟨kind, params, name, typ, val, fixed, ctors⟩ := d
  simp only [Dcl.ent, Ent.pvN] at c2 c3 c4 hw ⊢
  have hz := noEnt_weak
  by_cases h5 : kind = 5
  · subst h5
    rw [if_pos (.inl rfl), if_pos (.inl rfl)]
    repeat' (first | ((with_reducible first | refine wA (by omega) ?_ | refine wB (by omega) ?_ | refine wC (by omega) ?_ | refine wD (by omega) ?_ | refine wE ?_ ?_ | refine wF ?_ ?_ | refine wG ?_ ?_ | refine wH ?_ ?_ | refine wI ?_ ?_ | refine wJ ?_ ?_ | refine wK ?_ ?_ | refine wL ?_ ?_) <;> intro _) | simp (maxSteps := 1000000) (disch := omega) only [go_sem, Nat.reduceAdd, Nat.reduceMul, Nat.reduceSub, Nat.reduceLeDiff, Nat.reduceEqDiff, Nat.reduceBEq, ↓reduceIte, reduceCtorEq, Int.reduceEq, Int.reduceLE, Int.reduceLT, Int.reduceAdd, Int.reduceSub, Int.reduceNeg, Int.reduceToNat, Int.reduceNe, Nat.reducePow, Nat.reduceShiftRight, Nat.reduceMod, mc_decl_Plain, Dcl.pv, tm_t12, tm_t7, *])
    refine fin_ret (r0 := .tup [.agg [.sc (.int .i64 0), .sc (.int .i64 0), .sc (.string ⟨#[]⟩), .sc (.int .i64 0), .sc (.int .i64 0), .sc (.string ⟨#[]⟩), .sc (.slice none 0 0), .sc (.slice none 0 0), .sc (.int .i64 0), .sc (.int .i64 0), .sc (.string ⟨#[]⟩), .sc (.slice none 0 0), .sc (.slice none 0 0), .sc (.int .i64 0), .sc (.string ⟨#[]⟩), .sc (.int .i64 0), .sc (.int .i64 0), .sc (.int .i64 0), .sc (.slice none 0 0)], .sc (.int .i64 10)]) 0 cE2 ?_
    exact Weak.tup ⟨Weak.agg hz, .refl _, trivial⟩
  cases b1 with
  | false =>
    rw [if_pos (.inr rfl), if_pos (.inr rfl)]
    simp only [Dcl.pv] at c1
    repeat' (first | ((with_reducible first | refine wA (by omega) ?_ | refine wB (by omega) ?_ | refine wC (by omega) ?_ | refine wD (by omega) ?_ | refine wE ?_ ?_ | refine wF ?_ ?_ | refine wG ?_ ?_ | refine wH ?_ ?_ | refine wI ?_ ?_ | refine wJ ?_ ?_ | refine wK ?_ ?_ | refine wL ?_ ?_) <;> intro _) | (((with_reducible refine call_id ?_); (first | (refine call_pure (c1) ?_)))) | simp (maxSteps := 1000000) (disch := omega) only [go_sem, Nat.reduceAdd, Nat.reduceMul, Nat.reduceSub, Nat.reduceLeDiff, Nat.reduceEqDiff, Nat.reduceBEq, ↓reduceIte, reduceCtorEq, Int.reduceEq, Int.reduceLE, Int.reduceLT, Int.reduceAdd, Int.reduceSub, Int.reduceNeg, Int.reduceToNat, Int.reduceNe, Nat.reducePow, Nat.reduceShiftRight, Nat.reduceMod, mc_decl_Plain, Dcl.pv, tm_t12, tm_t7, *])
    refine fin_ret (r0 := .tup [.agg [.sc (.int .i64 0), .sc (.int .i64 0), .sc (.string ⟨#[]⟩), .sc (.int .i64 0), .sc (.int .i64 0), .sc (.string ⟨#[]⟩), .sc (.slice none 0 0), .sc (.slice none 0 0), .sc (.int .i64 0), .sc (.int .i64 0), .sc (.string ⟨#[]⟩), .sc (.slice none 0 0), .sc (.slice none 0 0), .sc (.int .i64 0), .sc (.string ⟨#[]⟩), .sc (.int .i64 0), .sc (.int .i64 0), .sc (.int .i64 0), .sc (.slice none 0 0)], .sc (.int .i64 10)]) 0 cE2 ?_
    exact Weak.tup ⟨Weak.agg hz, .refl _, trivial⟩
  | true =>
    simp only [h5, Bool.true_eq_false, or_self, if_false]
    simp only [Dcl.pv] at c1
    by_cases h2 : kind = 2
    · subst h2
      simp only [if_true] at c4 hw ⊢
      cases b2 with
      | true =>
        simp only [if_true]
        repeat' (first | ((with_reducible first | refine wA (by omega) ?_ | refine wB (by omega) ?_ | refine wC (by omega) ?_ | refine wD (by omega) ?_ | refine wE ?_ ?_ | refine wF ?_ ?_ | refine wG ?_ ?_ | refine wH ?_ ?_ | refine wI ?_ ?_ | refine wJ ?_ ?_ | refine wK ?_ ?_ | refine wL ?_ ?_) <;> intro _) | (((with_reducible refine call_id ?_); (first | (refine call_pure (c1) ?_) | (refine call_pure (c2) ?_) | (refine call_pure (c3) ?_) | (refine call_pure (c4) ?_)))) | simp (maxSteps := 1000000) (disch := omega) only [go_sem, Nat.reduceAdd, Nat.reduceMul, Nat.reduceSub, Nat.reduceLeDiff, Nat.reduceEqDiff, Nat.reduceBEq, ↓reduceIte, reduceCtorEq, Int.reduceEq, Int.reduceLE, Int.reduceLT, Int.reduceAdd, Int.reduceSub, Int.reduceNeg, Int.reduceToNat, Int.reduceNe, Nat.reducePow, Nat.reduceShiftRight, Nat.reduceMod, mc_decl_Plain, Dcl.pv, tm_t12, tm_t7, tm_t10, tm_t15, tm_t16, tm_t11, List.all_append, PV.one, *])
        refine fin_ret (r0 := .tup [.agg (PV.sc (.int .i64 2) :: .sc (.int .i64 params) :: .sc (.string name) :: (typ.pv ++ (val.pv ++ [.sc (.int .i64 h), .sc (.string ⟨#[]⟩), .sc (.int .i64 0), .sc (.int .i64 0), .sc (.int .i64 0), .sc (.slice none 0 0)]))), .sc (.int .i64 0)]) 0 (by (simp (disch := omega) only [go_sem, Nat.reduceMul, Nat.reduceSub, Nat.reduceShiftRight, Nat.reduceMod, Nat.reduceEqDiff, Nat.reduceAdd, ↓reduceIte, Nat.reduceLeDiff, tm_t16, tm_t11, *]); all_goals rfl) ?_
        exact Weak.tup ⟨Weak.agg hw, .refl _, trivial⟩
      | false =>
        simp only [Bool.false_eq_true, if_false]
        repeat' (first | ((with_reducible first | refine wA (by omega) ?_ | refine wB (by omega) ?_ | refine wC (by omega) ?_ | refine wD (by omega) ?_ | refine wE ?_ ?_ | refine wF ?_ ?_ | refine wG ?_ ?_ | refine wH ?_ ?_ | refine wI ?_ ?_ | refine wJ ?_ ?_ | refine wK ?_ ?_ | refine wL ?_ ?_) <;> intro _) | (((with_reducible refine call_id ?_); (first | (refine call_pure (c1) ?_) | (refine call_pure (c2) ?_) | (refine call_pure (c3) ?_) | (refine call_pure (c4) ?_)))) | simp (maxSteps := 1000000) (disch := omega) only [go_sem, Nat.reduceAdd, Nat.reduceMul, Nat.reduceSub, Nat.reduceLeDiff, Nat.reduceEqDiff, Nat.reduceBEq, ↓reduceIte, reduceCtorEq, Int.reduceEq, Int.reduceLE, Int.reduceLT, Int.reduceAdd, Int.reduceSub, Int.reduceNeg, Int.reduceToNat, Int.reduceNe, Nat.reducePow, Nat.reduceShiftRight, Nat.reduceMod, mc_decl_Plain, Dcl.pv, tm_t12, tm_t7, tm_t10, tm_t15, tm_t16, tm_t11, List.all_append, PV.one, *])
        refine fin_ret (r0 := .tup [.agg [.sc (.int .i64 0), .sc (.int .i64 0), .sc (.string ⟨#[]⟩), .sc (.int .i64 0), .sc (.int .i64 0), .sc (.string ⟨#[]⟩), .sc (.slice none 0 0), .sc (.slice none 0 0), .sc (.int .i64 0), .sc (.int .i64 0), .sc (.string ⟨#[]⟩), .sc (.slice none 0 0), .sc (.slice none 0 0), .sc (.int .i64 0), .sc (.string ⟨#[]⟩), .sc (.int .i64 0), .sc (.int .i64 0), .sc (.int .i64 0), .sc (.slice none 0 0)], .sc (.int .i64 12)]) 0 cE2 ?_
        exact Weak.tup ⟨Weak.agg hz, .refl _, trivial⟩
    · simp only [h2, if_false] at c4 hw ⊢
      cases b2 with
      | true =>
        simp only [if_true]
        repeat' (first | ((with_reducible first | refine wA (by omega) ?_ | refine wB (by omega) ?_ | refine wC (by omega) ?_ | refine wD (by omega) ?_ | refine wE ?_ ?_ | refine wF ?_ ?_ | refine wG ?_ ?_ | refine wH ?_ ?_ | refine wI ?_ ?_ | refine wJ ?_ ?_ | refine wK ?_ ?_ | refine wL ?_ ?_) <;> intro _) | (((with_reducible refine call_id ?_); (first | (refine call_pure (c1) ?_) | (refine call_pure (c2) ?_) | (refine call_pure (c3) ?_) | (refine call_pure (c4) ?_)))) | simp (maxSteps := 1000000) (disch := omega) only [go_sem, Nat.reduceAdd, Nat.reduceMul, Nat.reduceSub, Nat.reduceLeDiff, Nat.reduceEqDiff, Nat.reduceBEq, ↓reduceIte, reduceCtorEq, Int.reduceEq, Int.reduceLE, Int.reduceLT, Int.reduceAdd, Int.reduceSub, Int.reduceNeg, Int.reduceToNat, Int.reduceNe, Nat.reducePow, Nat.reduceShiftRight, Nat.reduceMod, mc_decl_Plain, Dcl.pv, tm_t12, tm_t7, tm_t10, tm_t15, tm_t16, tm_t11, List.all_append, PV.one, *])
        refine fin_ret (r0 := .tup [.agg (PV.sc (.int .i64 kind) :: .sc (.int .i64 params) :: .sc (.string name) :: (typ.pv ++ (val.pv ++ [.sc (.int .i64 0), .sc (.string ⟨#[]⟩), .sc (.int .i64 0), .sc (.int .i64 0), .sc (.int .i64 0), .sc (.slice none 0 0)]))), .sc (.int .i64 0)]) 0 (by (simp (disch := omega) only [go_sem, Nat.reduceMul, Nat.reduceSub, Nat.reduceShiftRight, Nat.reduceMod, Nat.reduceEqDiff, Nat.reduceAdd, ↓reduceIte, Nat.reduceLeDiff, tm_t16, tm_t11, *]); all_goals rfl) ?_
        exact Weak.tup ⟨Weak.agg hw, .refl _, trivial⟩
      | false =>
        simp only [Bool.false_eq_true, if_false]
        repeat' (first | ((with_reducible first | refine wA (by omega) ?_ | refine wB (by omega) ?_ | refine wC (by omega) ?_ | refine wD (by omega) ?_ | refine wE ?_ ?_ | refine wF ?_ ?_ | refine wG ?_ ?_ | refine wH ?_ ?_ | refine wI ?_ ?_ | refine wJ ?_ ?_ | refine wK ?_ ?_ | refine wL ?_ ?_) <;> intro _) | (((with_reducible refine call_id ?_); (first | (refine call_pure (c1) ?_) | (refine call_pure (c2) ?_) | (refine call_pure (c3) ?_) | (refine call_pure (c4) ?_)))) | simp (maxSteps := 1000000) (disch := omega) only [go_sem, Nat.reduceAdd, Nat.reduceMul, Nat.reduceSub, Nat.reduceLeDiff, Nat.reduceEqDiff, Nat.reduceBEq, ↓reduceIte, reduceCtorEq, Int.reduceEq, Int.reduceLE, Int.reduceLT, Int.reduceAdd, Int.reduceSub, Int.reduceNeg, Int.reduceToNat, Int.reduceNe, Nat.reducePow, Nat.reduceShiftRight, Nat.reduceMod, mc_decl_Plain, Dcl.pv, tm_t12, tm_t7, tm_t10, tm_t15, tm_t16, tm_t11, List.all_append, PV.one, *])
        refine fin_ret (r0 := .tup [.agg [.sc (.int .i64 0), .sc (.int .i64 0), .sc (.string ⟨#[]⟩), .sc (.int .i64 0), .sc (.int .i64 0), .sc (.string ⟨#[]⟩), .sc (.slice none 0 0), .sc (.slice none 0 0), .sc (.int .i64 0), .sc (.int .i64 0), .sc (.string ⟨#[]⟩), .sc (.slice none 0 0), .sc (.slice none 0 0), .sc (.int .i64 0), .sc (.string ⟨#[]⟩), .sc (.int .i64 0), .sc (.int .i64 0), .sc (.int .i64 0), .sc (.slice none 0 0)], .sc (.int .i64 12)]) 0 cE2 ?_
        exact Weak.tup ⟨Weak.agg hz, .refl _, trivial⟩
end
end Go.Proofs.YtnoilfjeamffnaaGreat
