/-
  Plain values: PkN, PkO, PkP, PlA, PlD, PlE, PlN, DeG, DeJ, DeK, PlO, PlB, PlC, PlF, DeL, PlI, PlR, PkM, PlS, LvO, TmOp, PlH.
-/
import Derived.Test.YtnelciclibknpaaXTa
import Derived.Test.YtnelciclibknpaaXTb
import Derived.Test.YtnelciclibknpaaXTc
import Derived.Test.YtnelciclibknpaaXTd
import Derived.Test.YtnelciclibknpaaXTe
import Derived.Test.YtnelciclibknpaaXTf
import Derived.Test.YtnelciclibknpaaXTg
import Derived.Test.YtnelciclibknpaaXTh
import Derived.Test.YtnelciclibknpaaXTi
set_option linter.unusedVariables false
set_option linter.unusedSimpArgs false
namespace Go.Proofs.Ytnelciclibknpaa
open Go.RowKit
attribute [local go_sem ↓] c_seq c_region c_cond c_block c_ret c_skip c_exit c_cont t_normal t_ret t_exit b_normal b_ret b_exit run_nil run_cons g_some o_mv o_pick o_bin o_un o_ld o_ldf o_bld o_len o_mkf o_nilc o_fa o_fd o_ia o_iaa o_ix o_ixs o_ext o_al o_bxf o_bxt o_bsl o_bslf o_mks o_st o_stf o_call o_rng o_nxt o_callm o_callmA o_calvm o_calv cond_true cond_false upd_get sigF_cons o_eqa o_mm o_app o_slc o_apps o_cvt
attribute [local go_sem] num_nil num_cons isP chunks rngV next_is next_iter val_some new_some st_some stf_some guard_tt guard_ff guard_tf guard_ft guard_un calv_fn put_some put_none ev_tmp ev_const ev_func sig_eq sigF_nil q0 q1 nilcV faV fdV iaV iaaV ixV ixsV extV mksV loadP storeP lenPV binPV unPV intBin partsP fillP zeros PV.good PV.cellsOf PV.one q2 q3 q4 q5 q6 q7 q8 q9 q10 q11 q12 q13 q14 q15 q16 q17 q18 q19 q20 q21 q22 q23 q24 q25 q26 q27 q28 q29 q30 q31 q32 q33 q34 q35 q36 q37 q38 wrap64 app_some mmL mmV mm2 eqE eqParts eqInt eqBool eqStr partV q39 q40 pickV q41 q42 q43 q44 q45 q46 q47 q48 q49 appE oldOf rowOf updL q50 q51 q52 q53 zlt ovr_get ite_neN ite_eqN q54 q55 q56 q57 q58 q59 q60 q61 q62 q63 q64 q65 q66 q67 tailP_f tailP_t tailF_f tailF_t slcP bndO capO slcLen intOf Option.isSome_none Option.isNone_none Option.isSome_some Option.isNone_some nilP slc_sl slc_csl slc_osl slc_osl0 slc_ocap slc_str appR appS cvP shiftB false_or List.append_nil List.length_append resP resPs resP1 PV.sc.injEq Value.bool.injEq Value.int.injEq
section
set_option maxRecDepth 20000
attribute [local go_sem] Nat.add_assoc id_ne id_ne' id_ne2 List.append_assoc bC_len bC_one pv_take tm_take rowB_flat tm_d5 tm_d6 tm_d10 tm_d11 tm_d12 tm_d8 tm_len o_callmE
theorem BRow.own {H : Nat → Option PObj} {lo m : Nat} {a : PV} {l : List UInt8} (h : BRow H lo m a l) (hl : 0 < l.length) : ∃ id w, lo ≤ id ∧ id < m ∧ a = .osl id 0 l.length 1 ∧ H id = some ⟨bC l, w⟩ := by
  obtain ⟨rfl, -⟩ | h := h
  · simp at hl
  · exact h
theorem put_ex (H : Nat → Option PObj) (nx : Nat) (a : PV) (l : List UInt8) : ∃ (H' : Nat → Option PObj) (nx' : Nat) (r : PV), (nx ≤ nx' ∧ BRow H' nx nx' r l ∧ ∀ j, j < nx → ¬ leadB a j → H' j = H j) ∧ nx ≤ nx' :=
  ⟨upd H nx (some ⟨bC l, false⟩), nx + 1, .osl nx 0 l.length 1, ⟨Nat.le_succ _, .inr ⟨nx, false, Nat.le_refl _, Nat.lt_succ_self _, rfl, upd_same _ _ _⟩, fun j h _ => upd_ne _ _ (by omega)⟩, Nat.le_succ _⟩
def restEnc (d : Dcl) : List UInt8 := if d.kind = 2 ∨ d.kind = 3 ∨ d.kind = 4 then d.val.enc else if d.kind = 5 then Plain.enc d.fixed.toNat ++ (Plain.enc d.ctors.length ++ encCs d.ctors) else []
theorem encCs_snoc (cs : List Ctr) (i : Nat) (h : i < cs.length) : encCs (cs.take (i + 1)) = encCs (cs.take i) ++ (encT [cs[i].name] ++ cs[i].typ.enc) := by
  unfold encCs
  rw [List.take_succ_eq_append_getElem h, List.flatMap_append]
  simp [Ctr.enc]
theorem encCs_len (cs : List Ctr) {np : Int} (hnp : np ≤ 4) (h : ∀ c ∈ cs, c.name.size ≤ 40 ∧ c.typ.packP np ∧ c.typ.nodes ≤ 2000) : (encCs cs).length ≤ 200000 * cs.length := by
  induction cs with
  | nil => exact Nat.le_refl _
  | cons c r ih =>
    have h1 := ih fun c hc => h c (by simp [hc])
    obtain ⟨h2, h3, h4⟩ := h c (by simp)
    have h5 := encT_len1 c.name h2
    have h6 := Tm.enc_len hnp c.typ h3
    simp only [encCs, List.flatMap_cons, List.length_append, Ctr.enc, List.length_cons] at h1 ⊢
    omega
set_option maxHeartbeats 16000000 in
theorem putDecl_p (d : Dcl) (hd : d.PackP) : PPure Try.prog F.pack_putDecl [.ptr d.pv] (rowB d.enc) := by
  obtain ⟨kind, params, name, typ, val, fixed, ctors⟩ := d
  refine pure_by is_pack_putDecl (by simp) (rowB_imm _) fun hbn nx => ?_
  obtain ⟨hk, hp, hn, ht, hv, hi⟩ := hd
  simp only at hk hp hn ht hv hi
  have hbc : ctors.length ≤ 9223372036854775807 := by simp [Dcl.pv, bndL, PV.bnd, bndL_append] at hbn; omega
  clear hbn
  obtain ⟨kind, rfl⟩ : ∃ k' : Nat, kind = k' := ⟨kind.toNat, by omega⟩
  obtain ⟨params, rfl⟩ : ∃ k' : Nat, params = k' := ⟨params.toNat, by omega⟩
  have hek := enc_len6 kind (by omega)
  have hep := enc_len6 params (by omega)
  have c1 := Text_p name hn
  have het := encT_len1 name hn
  have htl := Tm.enc_len hp.2 typ ht.1
  repeat' (first | ((with_reducible first | refine wA (by omega) ?_ | refine wB (by omega) ?_ | refine wC (by omega) ?_ | refine wD (by omega) ?_ | refine wE ?_ ?_ | refine wF ?_ ?_ | refine wG ?_ ?_ | refine wH ?_ ?_ | refine wI ?_ ?_ | refine wJ ?_ ?_ | refine wK ?_ ?_ | refine wL ?_ ?_) <;> intro _) | simp (maxSteps := 1000000) (disch := omega) only [go_sem, seval, mc_pack_putDecl, Dcl.pv, *])
  refine call_mutE (put_m [kind] (by simp; omega) (by simp) (by simp) [] (Nat.zero_le _) (.sc (.slice none 0 0)) 0 _ _ (.inl ⟨rfl, rfl⟩)) (put_ex ..) ?_
  rintro H1 m1 r1 ⟨hm0, hr0, -⟩ -
  have hm1 : nx + 15 ≤ m1 := hm0
  rw [List.nil_append, encs_one] at hr0
  obtain ⟨id1, w1, g1, g2, rfl, g3⟩ := hr0.own (Plain.enc_length_pos kind)
  clear hr0
  have b1 : (Plain.enc kind).length + (encT [name]).length ≤ 140737488355328 := by omega
  have b2 : (Plain.enc kind).length + (encT [name]).length ≤ 4611686018427387904 := by omega
  repeat' (first | ((with_reducible first | refine wA (by omega) ?_ | refine wB (by omega) ?_ | refine wC (by omega) ?_ | refine wD (by omega) ?_ | refine wE ?_ ?_ | refine wF ?_ ?_ | refine wG ?_ ?_ | refine wH ?_ ?_ | refine wI ?_ ?_ | refine wJ ?_ ?_ | refine wK ?_ ?_ | refine wL ?_ ?_) <;> intro _) | (((with_reducible refine call_id ?_); (first | (refine call_pure (c1) ?_)))) | simp (maxSteps := 1000000) (disch := omega) only [go_sem, seval, rowB, *])
  refine call_mutE (put_m [params] (by simp; omega) (by simp) (by simp) (Plain.enc kind ++ encT [name]) (by simp only [List.length_append]; omega) (.osl (nx + 13) 0 ((Plain.enc kind).length + (encT [name]).length) 1) 0 _ _ (.inr ⟨nx + 13, false, Nat.zero_le _, (show nx + 13 < m1 + 12 by omega), by simp only [List.length_append], by simp [upd, bC_append]⟩)) (put_ex ..) ?_
  rintro H2 m2 r2 ⟨hm0, hr0, -⟩ -
  rw [encs_one] at hr0
  have hr2 : Kept (BRow H2 0 m2 r2 ((Plain.enc kind ++ encT [name]) ++ Plain.enc params)) := BRow.weak hr0 (Nat.zero_le _) (Nat.le_refl _)
  clear hm0 hr0 g1 g2 g3 b1 b2
  repeat' (first | ((with_reducible first | refine wA (by omega) ?_ | refine wB (by omega) ?_ | refine wC (by omega) ?_ | refine wD (by omega) ?_ | refine wE ?_ ?_ | refine wF ?_ ?_ | refine wG ?_ ?_ | refine wH ?_ ?_ | refine wI ?_ ?_ | refine wJ ?_ ?_ | refine wK ?_ ?_ | refine wL ?_ ?_) <;> intro _) | simp (maxSteps := 1000000) (disch := omega) only [go_sem, seval, *])
  refine call_mut (putTerm_m hp.2 _ typ (Nat.le_refl _) ht.1 ((Plain.enc kind ++ encT [name]) ++ Plain.enc params) (by simp only [List.length_append]; omega) r2 0 H2 m2 hr2 _) ?_
  rintro H3 m3 r3 ⟨hm0, hr0, -⟩ -
  obtain ⟨T, hT⟩ : ∃ T, T = Plain.enc kind ++ (encT [name] ++ (Plain.enc params ++ typ.enc)) := ⟨_, rfl⟩
  have hr3 : Kept (BRow H3 0 m3 r3 T) := by
    rw [hT]
    simp only [List.append_assoc] at hr0
    exact BRow.weak hr0 (Nat.zero_le _) (Nat.le_refl _)
  have hTl : T.length ≤ 200000 := by rw [hT]; simp only [List.length_append]; omega
  have hTp : 0 < T.length := by rw [hT]; simp only [List.length_append]; have := Plain.enc_length_pos kind; omega
  have hE : (Dcl.mk kind params name typ val fixed ctors).enc = T ++ restEnc (Dcl.mk kind params name typ val fixed ctors) := by
    rw [hT]; simp only [Dcl.enc, restEnc, Int.toNat_natCast, List.append_assoc]
  rw [hE]
  clear hm0 hr0 hr2 hT hE c1 het hek hep htl
  obtain rfl | rfl | rfl | rfl | rfl : kind = 1 ∨ kind = 2 ∨ kind = 3 ∨ kind = 4 ∨ kind = 5 := by omega
  · obtain ⟨id, w, g1, g2, rfl, g3⟩ := BRow.own hr3 hTp
    repeat' (first | ((with_reducible first | refine wA (by omega) ?_ | refine wB (by omega) ?_ | refine wC (by omega) ?_ | refine wD (by omega) ?_ | refine wE ?_ ?_ | refine wF ?_ ?_ | refine wG ?_ ?_ | refine wH ?_ ?_ | refine wI ?_ ?_ | refine wJ ?_ ?_ | refine wK ?_ ?_ | refine wL ?_ ?_) <;> intro _) | simp (maxSteps := 1000000) (disch := omega) only [go_sem, seval, *])
    refine fin_ret (r0 := .osl id 0 T.length 1) 1 cE2 ?_
    simp only [restEnc]
    rw [if_neg (by simp), if_neg (by simp), List.append_nil]
    exact .of_eq (pk_frz g3)
  · have hvv := hv (by simp)
    have hvl := Tm.enc_len hp.2 val hvv.1
    have hE : T ++ restEnc (Dcl.mk ((2 : Nat) : Int) params name typ val fixed ctors) = T ++ val.enc := by
      simp only [restEnc]; rw [if_pos (by simp)]
    rw [hE]
    clear hE
    repeat' (first | ((with_reducible first | refine wA (by omega) ?_ | refine wB (by omega) ?_ | refine wC (by omega) ?_ | refine wD (by omega) ?_ | refine wE ?_ ?_ | refine wF ?_ ?_ | refine wG ?_ ?_ | refine wH ?_ ?_ | refine wI ?_ ?_ | refine wJ ?_ ?_ | refine wK ?_ ?_ | refine wL ?_ ?_) <;> intro _) | simp (maxSteps := 1000000) (disch := omega) only [go_sem, seval, *])
    refine call_mut (putTerm_m hp.2 _ val (Nat.le_refl _) hvv.1 T (by omega) r3 0 H3 _ (BRow.weak hr3 (Nat.le_refl _) (Nat.le_add_right _ _)) _) ?_
    rintro H4 m4 r4 ⟨hm0, hr0, -⟩ -
    obtain ⟨id, w, g1, g2, rfl, g3⟩ := BRow.own hr0 (by rw [List.length_append]; omega)
    clear hm0 hr0
    repeat' (first | ((with_reducible first | refine wA (by omega) ?_ | refine wB (by omega) ?_ | refine wC (by omega) ?_ | refine wD (by omega) ?_ | refine wE ?_ ?_ | refine wF ?_ ?_ | refine wG ?_ ?_ | refine wH ?_ ?_ | refine wI ?_ ?_ | refine wJ ?_ ?_ | refine wK ?_ ?_ | refine wL ?_ ?_) <;> intro _) | simp (maxSteps := 1000000) (disch := omega) only [go_sem, seval, *])
    refine fin_ret (r0 := .osl id 0 (T ++ val.enc).length 1) 1 cE2 ?_
    exact .of_eq (pk_frz g3)
  · have hvv := hv (by simp)
    have hvl := Tm.enc_len hp.2 val hvv.1
    have hE : T ++ restEnc (Dcl.mk ((3 : Nat) : Int) params name typ val fixed ctors) = T ++ val.enc := by
      simp only [restEnc]; rw [if_pos (by simp)]
    rw [hE]
    clear hE
    repeat' (first | ((with_reducible first | refine wA (by omega) ?_ | refine wB (by omega) ?_ | refine wC (by omega) ?_ | refine wD (by omega) ?_ | refine wE ?_ ?_ | refine wF ?_ ?_ | refine wG ?_ ?_ | refine wH ?_ ?_ | refine wI ?_ ?_ | refine wJ ?_ ?_ | refine wK ?_ ?_ | refine wL ?_ ?_) <;> intro _) | simp (maxSteps := 1000000) (disch := omega) only [go_sem, seval, *])
    refine call_mut (putTerm_m hp.2 _ val (Nat.le_refl _) hvv.1 T (by omega) r3 0 H3 _ (BRow.weak hr3 (Nat.le_refl _) (Nat.le_add_right _ _)) _) ?_
    rintro H4 m4 r4 ⟨hm0, hr0, -⟩ -
    obtain ⟨id, w, g1, g2, rfl, g3⟩ := BRow.own hr0 (by rw [List.length_append]; omega)
    clear hm0 hr0
    repeat' (first | ((with_reducible first | refine wA (by omega) ?_ | refine wB (by omega) ?_ | refine wC (by omega) ?_ | refine wD (by omega) ?_ | refine wE ?_ ?_ | refine wF ?_ ?_ | refine wG ?_ ?_ | refine wH ?_ ?_ | refine wI ?_ ?_ | refine wJ ?_ ?_ | refine wK ?_ ?_ | refine wL ?_ ?_) <;> intro _) | simp (maxSteps := 1000000) (disch := omega) only [go_sem, seval, *])
    refine fin_ret (r0 := .osl id 0 (T ++ val.enc).length 1) 1 cE2 ?_
    exact .of_eq (pk_frz g3)
  · have hvv := hv (by simp)
    have hvl := Tm.enc_len hp.2 val hvv.1
    have hE : T ++ restEnc (Dcl.mk ((4 : Nat) : Int) params name typ val fixed ctors) = T ++ val.enc := by
      simp only [restEnc]; rw [if_pos (by simp)]
    rw [hE]
    clear hE
    repeat' (first | ((with_reducible first | refine wA (by omega) ?_ | refine wB (by omega) ?_ | refine wC (by omega) ?_ | refine wD (by omega) ?_ | refine wE ?_ ?_ | refine wF ?_ ?_ | refine wG ?_ ?_ | refine wH ?_ ?_ | refine wI ?_ ?_ | refine wJ ?_ ?_ | refine wK ?_ ?_ | refine wL ?_ ?_) <;> intro _) | simp (maxSteps := 1000000) (disch := omega) only [go_sem, seval, *])
    refine call_mut (putTerm_m hp.2 _ val (Nat.le_refl _) hvv.1 T (by omega) r3 0 H3 _ (BRow.weak hr3 (Nat.le_refl _) (Nat.le_add_right _ _)) _) ?_
    rintro H4 m4 r4 ⟨hm0, hr0, -⟩ -
    obtain ⟨id, w, g1, g2, rfl, g3⟩ := BRow.own hr0 (by rw [List.length_append]; omega)
    clear hm0 hr0
    repeat' (first | ((with_reducible first | refine wA (by omega) ?_ | refine wB (by omega) ?_ | refine wC (by omega) ?_ | refine wD (by omega) ?_ | refine wE ?_ ?_ | refine wF ?_ ?_ | refine wG ?_ ?_ | refine wH ?_ ?_ | refine wI ?_ ?_ | refine wJ ?_ ?_ | refine wK ?_ ?_ | refine wL ?_ ?_) <;> intro _) | simp (maxSteps := 1000000) (disch := omega) only [go_sem, seval, *])
    refine fin_ret (r0 := .osl id 0 (T ++ val.enc).length 1) 1 cE2 ?_
    exact .of_eq (pk_frz g3)
  · obtain ⟨hfx, hcl, hcs⟩ := hi rfl
    obtain ⟨fixed, rfl⟩ : ∃ k' : Nat, fixed = k' := ⟨fixed.toNat, by omega⟩
    have hef := enc_len6 fixed (by omega)
    have hec := enc_len6 ctors.length (by omega)
    have hE : T ++ restEnc (Dcl.mk ((5 : Nat) : Int) params name typ val (fixed : Int) ctors) = (T ++ encs [fixed, ctors.length]) ++ encCs ctors := by
      simp only [restEnc, encs, List.flatMap_cons, List.flatMap_nil, List.append_nil, Int.toNat_natCast]
      rw [if_neg (by simp), if_pos (by rfl)]; simp only [List.append_assoc]
    obtain ⟨U, hU⟩ : ∃ U, Kept (U = T ++ encs [fixed, ctors.length]) := ⟨_, Kept.mk rfl⟩
    rw [hE, ← hU.out]
    clear hE
    repeat' (first | ((with_reducible first | refine wA (by omega) ?_ | refine wB (by omega) ?_ | refine wC (by omega) ?_ | refine wD (by omega) ?_ | refine wE ?_ ?_ | refine wF ?_ ?_ | refine wG ?_ ?_ | refine wH ?_ ?_ | refine wI ?_ ?_ | refine wJ ?_ ?_ | refine wK ?_ ?_ | refine wL ?_ ?_) <;> intro _) | simp (maxSteps := 1000000) (disch := omega) only [go_sem, seval, *])
    refine call_mut (put_m [fixed, ctors.length] (by simp; omega) (by simp) (by simp) T (by omega) r3 0 H3 _ (BRow.weak hr3 (Nat.le_refl _) (Nat.le_add_right _ _))) ?_
    rintro H4 m4 r4 ⟨hm0, hr0, -⟩ -
    have hr4 : Kept (BRow H4 0 m4 r4 U) := by rw [hU.out]; exact BRow.weak hr0 (Nat.zero_le _) (Nat.le_refl _)
    have hUl : U.length ≤ 200012 := by rw [hU.out]; simp only [encs, List.flatMap_cons, List.flatMap_nil, List.append_nil, List.length_append]; omega
    have hUp : 0 < U.length := by rw [hU.out, List.length_append]; omega
    clear hU
    clear hm0 hr0 hr3 hef hec hTl hTp
    repeat' (first | ((with_reducible first | refine wA (by omega) ?_ | refine wB (by omega) ?_ | refine wC (by omega) ?_ | refine wD (by omega) ?_ | refine wE ?_ ?_ | refine wF ?_ ?_ | refine wG ?_ ?_ | refine wH ?_ ?_ | refine wI ?_ ?_ | refine wJ ?_ ?_ | refine wK ?_ ?_ | refine wL ?_ ?_) <;> intro _) | simp (maxSteps := 1000000) (disch := omega) only [go_sem, seval, *])
    refine c_loopW 38685623921825124376903704 (by kernel_rfl) (fun j f H m => ∃ i : Nat, j = ctors.length - i ∧ i ≤ ctors.length ∧ f 61 = .sc (.int .i64 i) ∧ Kept (BRow H 0 m (f 3) (U ++ encCs (ctors.take i)))) _ ⟨0, rfl, Nat.zero_le _, cE1, ?rr⟩ ?_
    case rr =>
      refine Kept.mk ?_
      simp only [upd_get, Nat.reduceEqDiff, ↓reduceIte, List.take_zero, encCs, List.flatMap_nil, List.append_nil]
      exact BRow.weak hr4 (Nat.le_refl _) (Nat.le_add_right _ _)
    rintro _ f H m ⟨i, rfl, hi, e61, hr⟩
    obtain ⟨id, w, g1, g2, e3, g3⟩ := BRow.own hr (by rw [List.length_append]; omega)
    by_cases hlt : i < ctors.length
    · have eg : ctors[i]? = some ctors[i] := List.getElem?_eq_getElem hlt
      obtain ⟨hc1, hc2, hc3⟩ := hcs ctors[i] (List.getElem_mem hlt)
      have c1 := Text_p ctors[i].name hc1
      have het := encT_len1 ctors[i].name hc1
      have htl := Tm.enc_len hp.2 ctors[i].typ hc2
      have hsn := encCs_snoc ctors i hlt
      have hcl2 := encCs_len (ctors.take i) hp.2 fun c hc => hcs c (List.mem_of_mem_take hc)
      rw [List.length_take] at hcl2
      have b0 : (encCs (ctors.take i)).length ≤ 1600000 := by omega
      have b1 : U.length + ((encCs (ctors.take i)).length + (encT [ctors[i].name]).length) ≤ 140737488355328 := by omega
      have b2 : U.length + ((encCs (ctors.take i)).length + (encT [ctors[i].name]).length) ≤ 4611686018427387904 := by omega
      clear hr hcl2
      repeat' (first | ((with_reducible first | refine wA (by omega) ?_ | refine wB (by omega) ?_ | refine wC (by omega) ?_ | refine wD (by omega) ?_ | refine wE ?_ ?_ | refine wF ?_ ?_ | refine wG ?_ ?_ | refine wH ?_ ?_ | refine wI ?_ ?_ | refine wJ ?_ ?_ | refine wK ?_ ?_ | refine wL ?_ ?_) <;> intro _) | (((with_reducible refine call_id ?_); (first | (refine call_pure (c1) ?_)))) | simp (maxSteps := 1000000) (disch := omega) only [go_sem, seval, rowB, Ctr.pv, *])
      refine call_mut (putTerm_m0 hp.2 ctors[i].typ hc2 (U ++ (encCs (ctors.take i) ++ encT [ctors[i].name])) (by simp only [List.length_append]; omega) (.osl (m + 14) 0 (U.length + ((encCs (ctors.take i)).length + (encT [ctors[i].name]).length)) 1) 0 _ _ (.inr ⟨m + 14, false, Nat.zero_le _, (show m + 14 < m + 24 by omega), by simp only [List.length_append], by simp [upd, bC_append]⟩)) ?_
      rintro H5 m5 r5 ⟨hm0, hr0, -⟩ -
      have hr5 : Kept (BRow H5 0 m5 r5 (U ++ encCs (ctors.take (i + 1)))) := by
        rw [hsn]
        simp only [List.append_assoc] at hr0 ⊢
        exact BRow.weak hr0 (Nat.zero_le _) (Nat.le_refl _)
      clear hm0 hr0
      repeat' (first | ((with_reducible first | refine wA (by omega) ?_ | refine wB (by omega) ?_ | refine wC (by omega) ?_ | refine wD (by omega) ?_ | refine wE ?_ ?_ | refine wF ?_ ?_ | refine wG ?_ ?_ | refine wH ?_ ?_ | refine wI ?_ ?_ | refine wJ ?_ ?_ | refine wK ?_ ?_ | refine wL ?_ ?_) <;> intro _) | simp (maxSteps := 1000000) (disch := omega) only [go_sem, seval, *])
      refine Nx.mk (ctors.length - (i + 1)) (by omega) ⟨i + 1, rfl, cE1, cE1, ?_⟩
      refine Kept.mk ?_
      simp only [upd_get, Nat.reduceEqDiff, ↓reduceIte]
      exact BRow.weak hr5 (Nat.le_refl _) (Nat.le_add_right _ _)
    · obtain rfl : i = ctors.length := by omega
      rw [List.take_length] at g3 e3
      repeat' (first | ((with_reducible first | refine wA (by omega) ?_ | refine wB (by omega) ?_ | refine wC (by omega) ?_ | refine wD (by omega) ?_ | refine wE ?_ ?_ | refine wF ?_ ?_ | refine wG ?_ ?_ | refine wH ?_ ?_ | refine wI ?_ ?_ | refine wJ ?_ ?_ | refine wK ?_ ?_ | refine wL ?_ ?_) <;> intro _) | simp (maxSteps := 1000000) (disch := omega) only [go_sem, seval, *])
      refine fin_ret (r0 := .osl id 0 (U ++ encCs ctors).length 1) 1 cE2 ?_
      exact .of_eq (pk_frz g3)
end
section
set_option maxRecDepth 20000
attribute [local go_sem] Nat.add_assoc id_ne id_ne' id_ne2 List.append_assoc bC_len bC_one pv_take tm_take pv_len tm_len dcl_len dcl_take
theorem deepB_le (kind : Int) (len i : Nat) : deepB kind len i ≤ 1 := by
  unfold deepB
  repeat' split
  all_goals omega
mutual
theorem Tm.packP_small {np : Int} : ∀ (t : Tm) (k : Int), t.formed np k = true → k + t.nodes ≤ 1099511627776 → t.packP np
  | .mk kind n s ls args, k, h, hn => by
    simp only [Tm.nodes] at hn
    unfold Tm.formed at h
    split at h
    · rename_i hk
      simp only [hasB, Bool.and_eq_true, decide_eq_true_eq] at h
      obtain ⟨h1, h2, _, _, h3, h4⟩ := h
      obtain rfl := List.eq_nil_of_length_eq_zero (by omega : ls.length = 0)
      obtain rfl := List.eq_nil_of_length_eq_zero (by omega : args.length = 0)
      exact ⟨by omega, fun _ => by omega, fun _ => by omega, rfl, trivial⟩
    · split at h
      · simp only [hasB, Bool.and_eq_true, decide_eq_true_eq] at h
        obtain ⟨⟨_, _, h3, h4⟩, h5⟩ := h
        obtain rfl := List.eq_nil_of_length_eq_zero (by omega : args.length = 0)
        match ls, h3, h5 with
        | [l], _, h5 =>
          refine ⟨by omega, fun _ => by omega, fun _ => by omega, formedL_right [l] ?_, trivial⟩
          simpa [headR] using h5
      · split at h
        · simp only [constB, nameB, Bool.and_eq_true, decide_eq_true_eq] at h
          obtain ⟨_, h4, h5, ⟨h6, _⟩, h7⟩ := h
          obtain rfl := List.eq_nil_of_length_eq_zero h4
          exact ⟨by omega, fun _ => by omega, fun _ => ⟨h6, h5⟩, formedL_right ls h7, trivial⟩
        · split at h
          · simp only [hasB, Bool.and_eq_true, decide_eq_true_eq] at h
            obtain ⟨⟨_, _, h3, h4⟩, h5⟩ := h
            obtain rfl := List.eq_nil_of_length_eq_zero (by omega : ls.length = 0)
            exact ⟨by omega, fun _ => by omega, fun _ => by omega, rfl, packPs_small args k kind args.length 0 h5 (by omega)⟩
          · split at h
            · simp only [hasB, Bool.and_eq_true, decide_eq_true_eq] at h
              obtain ⟨⟨_, _, h3, h4⟩, h5⟩ := h
              obtain rfl := List.eq_nil_of_length_eq_zero (by omega : ls.length = 0)
              exact ⟨by omega, fun _ => by omega, fun _ => by omega, rfl, packPs_small args k kind args.length 0 h5 (by omega)⟩
            · cases h
theorem packPs_small {np : Int} : ∀ (ts : List Tm) (k kind : Int) (len i : Nat), formedA np k kind len i ts = true → k + 1 + nodesT ts ≤ 1099511627776 → packPs np ts
  | [], _, _, _, _, _, _ => trivial
  | x :: r, k, kind, len, i, h, hn => by
    simp only [formedA, Bool.and_eq_true, nodesT] at h hn
    have hd := deepB_le kind len i
    exact ⟨Tm.packP_small x _ h.1 (by omega), packPs_small r k kind len (i + 1) h.2 (by omega)⟩
end
theorem Tm.packP_right {np : Int} (t : Tm) (h : t.right np 0 = true) : t.packP np ∧ t.nodes ≤ 2000 := by
  simp only [Tm.right, Bool.and_eq_true, decide_eq_true_eq] at h
  refine ⟨Tm.packP_small t _ h.2.2.2.2 ?_, h.2.2.2.1⟩
  have := h.2.2.2.1
  omega
theorem nameB_size {s : ByteArray} (h : nameB s = true) : s.size ≤ 40 := by
  simp only [nameB, Bool.and_eq_true, decide_eq_true_eq] at h
  exact h.1
theorem Dcl.packP_of (d : Dcl) (h : d.formed = true) : d.PackP := by
  simp only [Dcl.formed, Bool.and_eq_true, decide_eq_true_eq] at h
  obtain ⟨h1, h2, h3, h4, h5⟩ := h
  refine ⟨?_, ⟨h1, h2⟩, nameB_size h3, d.typ.packP_right h4, fun hk => ?_, fun hk => ?_⟩
  · split at h5
    · omega
    · split at h5
      · omega
      · split at h5
        · omega
        · cases h5
  · rw [if_neg (by omega), if_pos hk] at h5
    simp only [Bool.and_eq_true] at h5
    exact d.val.packP_right h5.1
  · rw [if_neg (by omega), if_neg (by omega), if_pos hk] at h5
    simp only [Bool.and_eq_true, famB, spanB, decide_eq_true_eq, List.all_eq_true, ctrB] at h5
    obtain ⟨_, ⟨h6, h7⟩, h8, h9⟩ := h5
    exact ⟨⟨h6, h7⟩, h8, fun c hc => ⟨nameB_size (h9 c hc).1, c.typ.packP_right (h9 c hc).2⟩⟩
set_option maxHeartbeats 4000000 in
theorem Decl_p (d : Dcl) : PPure Try.prog F.pack_Decl [.agg d.pv] (rowN d.formed d.enc) := by
  refine pure_by is_pack_Decl (by simp) (rowN_imm _ _) fun hb nx => ?_
  clear hb
  have c1 := formed11_p d
  cases hr : d.formed with
  | false =>
    rw [hr] at c1
    clear hr
    repeat' (first | ((with_reducible first | refine wA (by omega) ?_ | refine wB (by omega) ?_ | refine wC (by omega) ?_ | refine wD (by omega) ?_ | refine wE ?_ ?_ | refine wF ?_ ?_ | refine wG ?_ ?_ | refine wH ?_ ?_ | refine wI ?_ ?_ | refine wJ ?_ ?_ | refine wK ?_ ?_ | refine wL ?_ ?_) <;> intro _) | (((with_reducible refine call_id ?_); (first | (refine call_pure (c1) ?_)))) | simp (maxSteps := 1000000) (disch := omega) only [go_sem, seval, mc_pack_Decl, *])
    refine fin_ret (r0 := .tup [.sc (.slice none 0 0), .sc (.bool false)]) 0 cE2 ?_
    exact .of_eq rfl
  | true =>
    rw [hr] at c1
    have c2 := putDecl_p d (d.packP_of hr)
    clear hr
    repeat' (first | ((with_reducible first | refine wA (by omega) ?_ | refine wB (by omega) ?_ | refine wC (by omega) ?_ | refine wD (by omega) ?_ | refine wE ?_ ?_ | refine wF ?_ ?_ | refine wG ?_ ?_ | refine wH ?_ ?_ | refine wI ?_ ?_ | refine wJ ?_ ?_ | refine wK ?_ ?_ | refine wL ?_ ?_) <;> intro _) | (((with_reducible refine call_id ?_); (first | (refine call_pure (c1) ?_) | (refine call_pure (c2) ?_)))) | simp (maxSteps := 1000000) (disch := omega) only [go_sem, seval, mc_pack_Decl, *])
    refine fin_ret (r0 := .tup [rowB d.enc, .sc (.bool true)]) 0 cE2 ?_
    exact .of_eq rfl
end
section
set_option maxRecDepth 20000
attribute [local go_sem] Nat.add_assoc id_ne id_ne' id_ne2 List.append_assoc bC_len bC_one pv_take tm_take pv_len tm_len dcl_len dcl_take
def hstep (h : Nat) (c : UInt8) : Nat := (h ^^^ c.toNat) * 1099511628211 % 18446744073709551616
def hashL (l : List UInt8) : Nat := l.foldl hstep 14695981039346656037
theorem hashL_lt (l : List UInt8) : hashL l < 18446744073709551616 := by
  unfold hashL
  have : ∀ (l : List UInt8) (h : Nat), h < 18446744073709551616 → l.foldl hstep h < 18446744073709551616 := by
    intro l
    induction l with
    | nil => intro h hh; exact hh
    | cons c r ih => intro h _; exact ih _ (Nat.mod_lt _ (by decide))
  exact this l _ (by decide)
theorem hashL_snoc (l : List UInt8) (i : Nat) (h : i < l.length) : hashL (l.take (i + 1)) = hstep (hashL (l.take i)) l[i] := by
  unfold hashL
  rw [List.take_succ_eq_append_getElem h, List.foldl_append, List.foldl_cons, List.foldl_nil]
theorem of64 (a : Nat) (ha : a < 18446744073709551616) : (BitVec.ofInt 64 (a : Int)).toNat = a := by
  rw [BitVec.ofInt_natCast, BitVec.toNat_ofNat]
  exact Nat.mod_eq_of_lt (by omega)
theorem wrapU (a : Nat) : IntKind.u64.wrap (a : Int) = ((a % 18446744073709551616 : Nat) : Int) := by
  rw [IntKind.wrap_u64]
  omega
theorem xor64 (h c : Nat) (hh : h < 18446744073709551616) (hc : c < 256) : IntKind.u64.wrap ((BitVec.ofInt 64 (h : Int) ^^^ BitVec.ofInt 64 (c : Int)).toNat : Int) = ((h ^^^ c : Nat) : Int) := by
  have hx : h ^^^ c < 2 ^ 64 := Nat.xor_lt_two_pow (by omega) (by omega)
  rw [BitVec.toNat_xor, of64 h hh, of64 c (by omega), wrapU]
  omega
theorem mul64 (a : Nat) : IntKind.u64.wrap ((a : Int) * 1099511628211) = ((a * 1099511628211 % 18446744073709551616 : Nat) : Int) := by
  rw [← wrapU]
  congr 1
def Dcl.hash (d : Dcl) : Nat := if d.formed = true then hashL d.enc else 0
theorem Dcl.enc_len (d : Dcl) (h : d.PackP) : d.enc.length ≤ 2000000 := by
  obtain ⟨hk, hp, hn, ht, hv, hi⟩ := h
  have a1 := enc_len6 d.kind.toNat (by omega)
  have a2 := enc_len6 d.params.toNat (by omega)
  have a3 := encT_len1 d.name hn
  have a4 := Tm.enc_len hp.2 d.typ ht.1
  unfold Dcl.enc
  simp only [List.length_append]
  split
  · rename_i h1
    have a5 := Tm.enc_len hp.2 d.val (hv h1).1
    have a6 := (hv h1).2
    omega
  · split
    · rename_i h1
      obtain ⟨b1, b2, b3⟩ := hi h1
      have a5 := encCs_len d.ctors hp.2 b3
      have a6 := enc_len6 d.fixed.toNat (by omega)
      have a7 := enc_len6 d.ctors.length (by omega)
      simp only [List.length_append]
      omega
    · simp only [List.length_nil]; omega
set_option maxHeartbeats 4000000 in
theorem Hash_p (d : Dcl) : PPure Try.prog F.pack_Hash [.agg d.pv] (.sc (.int .u64 (d.hash : Nat))) := by
  refine pure_by is_pack_Hash (by simp) rfl fun hb nx => ?_
  clear hb
  have c1 := Decl_p d
  unfold Dcl.hash
  cases hr : d.formed with
  | false =>
    rw [hr] at c1
    clear hr
    repeat' (first | ((with_reducible first | refine wA (by omega) ?_ | refine wB (by omega) ?_ | refine wC (by omega) ?_ | refine wD (by omega) ?_ | refine wE ?_ ?_ | refine wF ?_ ?_ | refine wG ?_ ?_ | refine wH ?_ ?_ | refine wI ?_ ?_ | refine wJ ?_ ?_ | refine wK ?_ ?_ | refine wL ?_ ?_) <;> intro _) | (((with_reducible refine call_id ?_); (first | (refine call_pure (c1) ?_)))) | simp (maxSteps := 1000000) (disch := omega) only [go_sem, Nat.reduceAdd, Nat.reduceMul, Nat.reduceSub, Nat.reduceLeDiff, Nat.reduceEqDiff, Nat.reduceBEq, ↓reduceIte, reduceCtorEq, Int.reduceEq, Int.reduceLE, Int.reduceLT, Int.reduceAdd, Int.reduceSub, Int.reduceNeg, Int.reduceToNat, Int.reduceNe, Nat.reducePow, Nat.reduceShiftRight, Nat.reduceMod, mc_pack_Hash, rowN, *])
    all_goals (exact fin_tmp (.inr rfl) cE3)
  | true =>
    rw [hr] at c1
    have hlen := d.enc_len (d.packP_of hr)
    clear hr
    obtain ⟨l, hl⟩ : ∃ l, Kept (l = d.enc) := ⟨_, Kept.mk rfl⟩
    rw [← hl.out] at c1 hlen ⊢
    clear hl
    repeat' (first | ((with_reducible first | refine wA (by omega) ?_ | refine wB (by omega) ?_ | refine wC (by omega) ?_ | refine wD (by omega) ?_ | refine wE ?_ ?_ | refine wF ?_ ?_ | refine wG ?_ ?_ | refine wH ?_ ?_ | refine wI ?_ ?_ | refine wJ ?_ ?_ | refine wK ?_ ?_ | refine wL ?_ ?_) <;> intro _) | (((with_reducible refine call_id ?_); (first | (refine call_pure (c1) ?_)))) | simp (maxSteps := 1000000) (disch := omega) only [go_sem, Nat.reduceAdd, Nat.reduceMul, Nat.reduceSub, Nat.reduceLeDiff, Nat.reduceEqDiff, Nat.reduceBEq, ↓reduceIte, reduceCtorEq, Int.reduceEq, Int.reduceLE, Int.reduceLT, Int.reduceAdd, Int.reduceSub, Int.reduceNeg, Int.reduceToNat, Int.reduceNe, Nat.reducePow, Nat.reduceShiftRight, Nat.reduceMod, mc_pack_Hash, rowN, rowB, *])
    refine c_loopW 134086816 (by kernel_rfl) (fun j f H m => ∃ i : Nat, j = l.length - i ∧ i ≤ l.length ∧ f 17 = .sc (.int .i64 i) ∧ f 5 = .sc (.int .u64 (hashL (l.take i) : Nat))) _ ⟨0, rfl, Nat.zero_le _, cE1, ?rr⟩ ?_
    case rr => simp only [upd_get, Nat.reduceEqDiff, ↓reduceIte, List.take_zero]; rfl
    rintro _ f H m ⟨i, rfl, hi, e17, e5⟩
    by_cases hlt : i < l.length
    · have eg : l[i]? = some l[i] := List.getElem?_eq_getElem hlt
      have h0 := hashL_lt (l.take i)
      have h1 : IntKind.u64.wrap ((l[i].toNat : Nat) : Int) = ((l[i].toNat : Nat) : Int) := by have := l[i].toNat_lt; rw [wrapU]; omega
      have h2 : IntKind.u64.wrap ((BitVec.ofInt IntKind.u64.bits ((hashL (l.take i) : Nat) : Int) ^^^ BitVec.ofInt IntKind.u64.bits ((l[i].toNat : Nat) : Int)).toNat : Int) = ((hashL (l.take i) ^^^ l[i].toNat : Nat) : Int) := xor64 _ _ h0 (l[i].toNat_lt)
      have h2' := h2
      simp only [IntKind.bits] at h2'
      have h3 : IntKind.u64.wrap (((hashL (l.take i) ^^^ l[i].toNat : Nat) : Int) * 1099511628211) = ((hashL (l.take (i + 1)) : Nat) : Int) := by rw [hashL_snoc l i hlt, mul64]; rfl
      clear h0
      repeat' (first | ((with_reducible first | refine wA (by omega) ?_ | refine wB (by omega) ?_ | refine wC (by omega) ?_ | refine wD (by omega) ?_ | refine wE ?_ ?_ | refine wF ?_ ?_ | refine wG ?_ ?_ | refine wH ?_ ?_ | refine wI ?_ ?_ | refine wJ ?_ ?_ | refine wK ?_ ?_ | refine wL ?_ ?_) <;> intro _) | simp (maxSteps := 1000000) (disch := omega) only [go_sem, Nat.reduceAdd, Nat.reduceMul, Nat.reduceSub, Nat.reduceLeDiff, Nat.reduceEqDiff, Nat.reduceBEq, ↓reduceIte, reduceCtorEq, Int.reduceEq, Int.reduceLE, Int.reduceLT, Int.reduceAdd, Int.reduceSub, Int.reduceNeg, Int.reduceToNat, Int.reduceNe, Nat.reducePow, Nat.reduceShiftRight, Nat.reduceMod, *])
      exact Nx.mk (l.length - (i + 1)) (by omega) ⟨i + 1, rfl, cE1, cE1, cE1⟩
    · obtain rfl : i = l.length := by omega
      rw [List.take_length] at e5
      repeat' (first | ((with_reducible first | refine wA (by omega) ?_ | refine wB (by omega) ?_ | refine wC (by omega) ?_ | refine wD (by omega) ?_ | refine wE ?_ ?_ | refine wF ?_ ?_ | refine wG ?_ ?_ | refine wH ?_ ?_ | refine wI ?_ ?_ | refine wJ ?_ ?_ | refine wK ?_ ?_ | refine wL ?_ ?_) <;> intro _) | simp (maxSteps := 1000000) (disch := omega) only [go_sem, Nat.reduceAdd, Nat.reduceMul, Nat.reduceSub, Nat.reduceLeDiff, Nat.reduceEqDiff, Nat.reduceBEq, ↓reduceIte, reduceCtorEq, Int.reduceEq, Int.reduceLE, Int.reduceLT, Int.reduceAdd, Int.reduceSub, Int.reduceNeg, Int.reduceToNat, Int.reduceNe, Nat.reducePow, Nat.reduceShiftRight, Nat.reduceMod, *])
      all_goals (exact fin_tmp (.inr rfl) cE3)
end
section
set_option maxRecDepth 20000
attribute [local go_sem] Nat.add_assoc id_ne id_ne' id_ne2 List.append_assoc pv_len pv_take pv_one tm_len tm_take tm_one dcl_len dcl_take
theorem dcl_oneA (d : Dcl) : d.pv.all PV.one = true := by simp [Dcl.pv, tm_one, PV.one]
attribute [local go_sem] dcl_oneA
theorem dcl0_weak : WeakL ([.sc (.int .i64 0), .sc (.int .i64 0), .sc (.string ⟨#[]⟩), .sc (.int .i64 0), .sc (.int .i64 0), .sc (.string ⟨#[]⟩), .sc (.slice none 0 0), .sc (.slice none 0 0), .sc (.int .i64 0), .sc (.int .i64 0), .sc (.string ⟨#[]⟩), .sc (.slice none 0 0), .sc (.slice none 0 0), .sc (.int .i64 0), .sc (.slice none 0 0)] : List PV) (Dcl.mk 0 0 noStr (.mk 0 0 noStr [] []) (.mk 0 0 noStr [] []) 0 []).pv := by
  simp only [Dcl.pv, Tm.pv]
  exact ⟨.refl _, .refl _, .refl _, .refl _, .refl _, .refl _, .nil 3, .nil 5, .refl _, .refl _, .refl _, .nil 3, .nil 5, .refl _, .nil 6, trivial⟩
theorem begin_rdy (b : List UInt8) : Rdy 2001 ⟨b, 0, false⟩ := whole_rdy ⟨b, 0, false⟩
theorem decl_shrink (s : RS) : (declF s).2.l.length ≤ s.l.length := by
  have h1 := numF_len s
  have h2 := nameF_len (numF s).2
  have h3 := numF_len (nameF (numF s).2).2
  have h4 := whole_shrink (numF (nameF (numF s).2).2).2
  have h5 := whole_shrink (wholeF (numF (nameF (numF s).2).2).2).2
  have h6 := numF_len (wholeF (numF (nameF (numF s).2).2).2).2
  have h7 := numF_len (numF (wholeF (numF (nameF (numF s).2).2).2).2).2
  have h8 := rep_shrink ctor_shrink (min (numF (numF (wholeF (numF (nameF (numF s).2).2).2).2).2).1 9) (numF (numF (wholeF (numF (nameF (numF s).2).2).2).2).2).2
  unfold declF
  (repeat' split) <;> simp only <;> omega
def takeV (ok : Bool) (x z : List PV) (rest : List UInt8) : PV := if ok = true then .tup [.agg x, rowB rest, .sc (.bool true)] else .tup [.agg z, .sc (.slice none 0 0), .sc (.bool false)]
theorem takeV_imm {ok : Bool} {x z : List PV} {rest : List UInt8} (hx : immL x = true) (hz : immL z = true) : (takeV ok x z rest).imm = true := by
  cases ok
  · show immL [PV.agg z, PV.sc _, PV.sc _] = true
    simp [immL, PV.imm, hz]
  · show immL [PV.agg x, rowB rest, PV.sc _] = true
    simp [immL, PV.imm, hx, rowB_imm]
theorem dclP_imm (d : Dcl) : immL d.pv = true := by
  have h1 := tm_imm d.typ
  have h2 := tm_imm d.val
  have h3 : immLL (d.ctors.map Ctr.pv) = true := by
    rw [immLL_flatten]
    exact imm_rows d.ctors fun c _ => by simp [Ctr.pv, immL, PV.imm, tm_imm]
  simp [Dcl.pv, immL, immL_append, PV.imm, h1, h2, h3]
def takeLevelF (b : List UInt8) : Lv × RS := levelF 2001 ⟨b, 0, false⟩
def takeLevelB (b : List UInt8) : Bool := (takeLevelF b).1.right 4 && !(takeLevelF b).2.bad
set_option maxHeartbeats 8000000 in
theorem TakeLevel_p (b : List UInt8) (hl : b.length ≤ 2 ^ 40) : PPure Try.prog F.pack_TakeLevel [rowB b] (takeV (takeLevelB b) (takeLevelF b).1.pv (Lv.mk 0 0 []).pv (takeLevelF b).2.l) := by
  have hsh : (takeLevelF b).2.l.length ≤ b.length := level_shrink 2001 _
  refine pure_by is_pack_TakeLevel (by simp) (takeV_imm (pv_imm _) (pv_imm _)) fun hbn nx => ?_
  clear hbn
  repeat' (first | ((with_reducible first | refine wA (by omega) ?_ | refine wB (by omega) ?_ | refine wC (by omega) ?_ | refine wD (by omega) ?_ | refine wE ?_ ?_ | refine wF ?_ ?_ | refine wG ?_ ?_ | refine wH ?_ ?_ | refine wI ?_ ?_ | refine wJ ?_ ?_ | refine wK ?_ ?_ | refine wL ?_ ?_) <;> intro _) | simp (maxSteps := 1000000) (disch := omega) only [go_sem, seval, mc_pack_TakeLevel, rowB, *])
  refine call_mut (level_m 2001 ⟨b, 0, false⟩ (begin_rdy b) hl (nx + 5) true _ _ (show nx + 5 < nx + 10 by omega) (by simp [upd, rdC, rowB])) ?_
  rintro H1 m1 r1 ⟨hm1', rfl, g1, k1'⟩ -
  have hm1 : nx + 10 ≤ m1 := hm1'
  have b1 : H1 nx = some ⟨[.sc (.int .i64 0), .sc (.int .i64 0), .sc (.slice none 0 0)], true⟩ := (k1' nx (show nx < nx + 10 by omega) (by omega)).trans (by simp [upd])
  clear hm1' k1'
  unfold takeLevelB
  unfold takeLevelF at hsh ⊢
  have c1 := Level_p (levelF 2001 ⟨b, 0, false⟩).1
  generalize (levelF 2001 ⟨b, 0, false⟩).1 = x at *
  generalize (levelF 2001 ⟨b, 0, false⟩).2 = s1 at *
  obtain ⟨l1, n1, bad⟩ := s1
  simp only [rdC] at g1
  simp only at hsh ⊢
  have c2 := bCloneB_p l1 (by omega)
  cases bad with
  | true =>
    rw [Bool.not_true, Bool.and_false]
    clear c2
    cases hr : x.right 4 with
    | false =>
      rw [hr] at c1
      clear hr
      repeat' (first | ((with_reducible first | refine wA (by omega) ?_ | refine wB (by omega) ?_ | refine wC (by omega) ?_ | refine wD (by omega) ?_ | refine wE ?_ ?_ | refine wF ?_ ?_ | refine wG ?_ ?_ | refine wH ?_ ?_ | refine wI ?_ ?_ | refine wJ ?_ ?_ | refine wK ?_ ?_ | refine wL ?_ ?_) <;> intro _) | (((with_reducible refine call_id ?_); (first | (refine call_pure (c1) ?_)))) | simp (maxSteps := 1000000) (disch := omega) only [go_sem, seval, rowN, *])
      refine fin_ret (r0 := .tup [.agg [.sc (.int .i64 0), .sc (.int .i64 0), .sc (.slice none 0 0)], .sc (.slice none 0 0), .sc (.bool false)]) 0 cE2 ?_
      exact Weak.tup ⟨lv0_weak 0 0, .refl _, .refl _, trivial⟩
    | true =>
      rw [hr] at c1
      clear hr
      repeat' (first | ((with_reducible first | refine wA (by omega) ?_ | refine wB (by omega) ?_ | refine wC (by omega) ?_ | refine wD (by omega) ?_ | refine wE ?_ ?_ | refine wF ?_ ?_ | refine wG ?_ ?_ | refine wH ?_ ?_ | refine wI ?_ ?_ | refine wJ ?_ ?_ | refine wK ?_ ?_ | refine wL ?_ ?_) <;> intro _) | (((with_reducible refine call_id ?_); (first | (refine call_pure (c1) ?_)))) | simp (maxSteps := 1000000) (disch := omega) only [go_sem, seval, rowN, *])
      refine fin_ret (r0 := .tup [.agg [.sc (.int .i64 0), .sc (.int .i64 0), .sc (.slice none 0 0)], .sc (.slice none 0 0), .sc (.bool false)]) 0 cE2 ?_
      exact Weak.tup ⟨lv0_weak 0 0, .refl _, .refl _, trivial⟩
  | false =>
    rw [Bool.not_false, Bool.and_true]
    cases hr : x.right 4 with
    | false =>
      rw [hr] at c1
      clear hr c2
      repeat' (first | ((with_reducible first | refine wA (by omega) ?_ | refine wB (by omega) ?_ | refine wC (by omega) ?_ | refine wD (by omega) ?_ | refine wE ?_ ?_ | refine wF ?_ ?_ | refine wG ?_ ?_ | refine wH ?_ ?_ | refine wI ?_ ?_ | refine wJ ?_ ?_ | refine wK ?_ ?_ | refine wL ?_ ?_) <;> intro _) | (((with_reducible refine call_id ?_); (first | (refine call_pure (c1) ?_)))) | simp (maxSteps := 1000000) (disch := omega) only [go_sem, seval, rowN, *])
      refine fin_ret (r0 := .tup [.agg [.sc (.int .i64 0), .sc (.int .i64 0), .sc (.slice none 0 0)], .sc (.slice none 0 0), .sc (.bool false)]) 0 cE2 ?_
      exact Weak.tup ⟨lv0_weak 0 0, .refl _, .refl _, trivial⟩
    | true =>
      rw [hr] at c1
      clear hr
      repeat' (first | ((with_reducible first | refine wA (by omega) ?_ | refine wB (by omega) ?_ | refine wC (by omega) ?_ | refine wD (by omega) ?_ | refine wE ?_ ?_ | refine wF ?_ ?_ | refine wG ?_ ?_ | refine wH ?_ ?_ | refine wI ?_ ?_ | refine wJ ?_ ?_ | refine wK ?_ ?_ | refine wL ?_ ?_) <;> intro _) | (((with_reducible refine call_id ?_); (first | (refine call_pure (c1) ?_) | (refine call_pure (c2) ?_)))) | simp (maxSteps := 1000000) (disch := omega) only [go_sem, seval, rowN, rowB, *])
      refine fin_ret (r0 := .tup [.agg x.pv, rowB l1, .sc (.bool true)]) 0 (by (simp (disch := omega) only [go_sem, seval, *, rowB]); all_goals rfl) ?_
      exact .of_eq rfl
def takeTermF (b : List UInt8) : Tm × RS := termF 2001 ⟨b, 0, false⟩
def takeTermB (b : List UInt8) : Bool := (takeTermF b).1.packB && !(takeTermF b).2.bad
set_option maxHeartbeats 8000000 in
theorem TakeTerm_p (b : List UInt8) (hl : b.length ≤ 2 ^ 40) : PPure Try.prog F.pack_TakeTerm [rowB b] (takeV (takeTermB b) (takeTermF b).1.pv (Tm.mk 0 0 noStr [] []).pv (takeTermF b).2.l) := by
  have hsh : (takeTermF b).2.l.length ≤ b.length := term_shrink 2001 _
  refine pure_by is_pack_TakeTerm (by simp) (takeV_imm (tm_imm _) (tm_imm _)) fun hbn nx => ?_
  clear hbn
  repeat' (first | ((with_reducible first | refine wA (by omega) ?_ | refine wB (by omega) ?_ | refine wC (by omega) ?_ | refine wD (by omega) ?_ | refine wE ?_ ?_ | refine wF ?_ ?_ | refine wG ?_ ?_ | refine wH ?_ ?_ | refine wI ?_ ?_ | refine wJ ?_ ?_ | refine wK ?_ ?_ | refine wL ?_ ?_) <;> intro _) | simp (maxSteps := 1000000) (disch := omega) only [go_sem, seval, mc_pack_TakeTerm, rowB, *])
  refine call_mut (term_m 2001 ⟨b, 0, false⟩ (begin_rdy b) hl (nx + 5) true _ _ (show nx + 5 < nx + 10 by omega) (by simp [upd, rdC, rowB])) ?_
  rintro H1 m1 r1 ⟨hm1', rfl, g1, k1'⟩ -
  have hm1 : nx + 10 ≤ m1 := hm1'
  have b1 : H1 nx = some ⟨[.sc (.int .i64 0), .sc (.int .i64 0), .sc (.string ⟨#[]⟩), .sc (.slice none 0 0), .sc (.slice none 0 0)], true⟩ := (k1' nx (show nx < nx + 10 by omega) (by omega)).trans (by simp [upd])
  clear hm1' k1'
  unfold takeTermB
  unfold takeTermF at hsh ⊢
  have c1 := packs_p (termF 2001 ⟨b, 0, false⟩).1
  generalize (termF 2001 ⟨b, 0, false⟩).1 = x at *
  generalize (termF 2001 ⟨b, 0, false⟩).2 = s1 at *
  obtain ⟨l1, n1, bad⟩ := s1
  simp only [rdC] at g1
  simp only at hsh ⊢
  have c2 := bCloneB_p l1 (by omega)
  cases bad with
  | true =>
    rw [Bool.not_true, Bool.and_false]
    clear c2
    cases hr : x.packB with
    | false =>
      rw [hr] at c1
      clear hr
      repeat' (first | ((with_reducible first | refine wA (by omega) ?_ | refine wB (by omega) ?_ | refine wC (by omega) ?_ | refine wD (by omega) ?_ | refine wE ?_ ?_ | refine wF ?_ ?_ | refine wG ?_ ?_ | refine wH ?_ ?_ | refine wI ?_ ?_ | refine wJ ?_ ?_ | refine wK ?_ ?_ | refine wL ?_ ?_) <;> intro _) | (((with_reducible refine call_id ?_); (first | (refine call_pure (c1) ?_)))) | simp (maxSteps := 1000000) (disch := omega) only [go_sem, seval, rowN, *])
      refine fin_ret (r0 := .tup [.agg [.sc (.int .i64 0), .sc (.int .i64 0), .sc (.string ⟨#[]⟩), .sc (.slice none 0 0), .sc (.slice none 0 0)], .sc (.slice none 0 0), .sc (.bool false)]) 0 cE2 ?_
      exact Weak.tup ⟨tm0_weak 0 0 _ [] [] (.nil 3) (.nil 5), .refl _, .refl _, trivial⟩
    | true =>
      rw [hr] at c1
      clear hr
      repeat' (first | ((with_reducible first | refine wA (by omega) ?_ | refine wB (by omega) ?_ | refine wC (by omega) ?_ | refine wD (by omega) ?_ | refine wE ?_ ?_ | refine wF ?_ ?_ | refine wG ?_ ?_ | refine wH ?_ ?_ | refine wI ?_ ?_ | refine wJ ?_ ?_ | refine wK ?_ ?_ | refine wL ?_ ?_) <;> intro _) | (((with_reducible refine call_id ?_); (first | (refine call_pure (c1) ?_)))) | simp (maxSteps := 1000000) (disch := omega) only [go_sem, seval, rowN, *])
      refine fin_ret (r0 := .tup [.agg [.sc (.int .i64 0), .sc (.int .i64 0), .sc (.string ⟨#[]⟩), .sc (.slice none 0 0), .sc (.slice none 0 0)], .sc (.slice none 0 0), .sc (.bool false)]) 0 cE2 ?_
      exact Weak.tup ⟨tm0_weak 0 0 _ [] [] (.nil 3) (.nil 5), .refl _, .refl _, trivial⟩
  | false =>
    rw [Bool.not_false, Bool.and_true]
    cases hr : x.packB with
    | false =>
      rw [hr] at c1
      clear hr c2
      repeat' (first | ((with_reducible first | refine wA (by omega) ?_ | refine wB (by omega) ?_ | refine wC (by omega) ?_ | refine wD (by omega) ?_ | refine wE ?_ ?_ | refine wF ?_ ?_ | refine wG ?_ ?_ | refine wH ?_ ?_ | refine wI ?_ ?_ | refine wJ ?_ ?_ | refine wK ?_ ?_ | refine wL ?_ ?_) <;> intro _) | (((with_reducible refine call_id ?_); (first | (refine call_pure (c1) ?_)))) | simp (maxSteps := 1000000) (disch := omega) only [go_sem, seval, rowN, *])
      refine fin_ret (r0 := .tup [.agg [.sc (.int .i64 0), .sc (.int .i64 0), .sc (.string ⟨#[]⟩), .sc (.slice none 0 0), .sc (.slice none 0 0)], .sc (.slice none 0 0), .sc (.bool false)]) 0 cE2 ?_
      exact Weak.tup ⟨tm0_weak 0 0 _ [] [] (.nil 3) (.nil 5), .refl _, .refl _, trivial⟩
    | true =>
      rw [hr] at c1
      clear hr
      repeat' (first | ((with_reducible first | refine wA (by omega) ?_ | refine wB (by omega) ?_ | refine wC (by omega) ?_ | refine wD (by omega) ?_ | refine wE ?_ ?_ | refine wF ?_ ?_ | refine wG ?_ ?_ | refine wH ?_ ?_ | refine wI ?_ ?_ | refine wJ ?_ ?_ | refine wK ?_ ?_ | refine wL ?_ ?_) <;> intro _) | (((with_reducible refine call_id ?_); (first | (refine call_pure (c1) ?_) | (refine call_pure (c2) ?_)))) | simp (maxSteps := 1000000) (disch := omega) only [go_sem, seval, rowN, rowB, *])
      refine fin_ret (r0 := .tup [.agg x.pv, rowB l1, .sc (.bool true)]) 0 (by (simp (disch := omega) only [go_sem, seval, *, rowB]); all_goals rfl) ?_
      exact .of_eq rfl
def takeDeclF (b : List UInt8) : Dcl × RS := declF ⟨b, 0, false⟩
def takeDeclB (b : List UInt8) : Bool := (takeDeclF b).1.formed && !(takeDeclF b).2.bad
set_option maxHeartbeats 8000000 in
theorem TakeDecl_p (b : List UInt8) (hl : b.length ≤ 2 ^ 40) : PPure Try.prog F.pack_TakeDecl [rowB b] (takeV (takeDeclB b) (takeDeclF b).1.pv (Dcl.mk 0 0 noStr (.mk 0 0 noStr [] []) (.mk 0 0 noStr [] []) 0 []).pv (takeDeclF b).2.l) := by
  have hsh : (takeDeclF b).2.l.length ≤ b.length := decl_shrink _
  refine pure_by is_pack_TakeDecl (by simp) (takeV_imm (dclP_imm _) (dclP_imm _)) fun hbn nx => ?_
  clear hbn
  repeat' (first | ((with_reducible first | refine wA (by omega) ?_ | refine wB (by omega) ?_ | refine wC (by omega) ?_ | refine wD (by omega) ?_ | refine wE ?_ ?_ | refine wF ?_ ?_ | refine wG ?_ ?_ | refine wH ?_ ?_ | refine wI ?_ ?_ | refine wJ ?_ ?_ | refine wK ?_ ?_ | refine wL ?_ ?_) <;> intro _) | simp (maxSteps := 1000000) (disch := omega) only [go_sem, seval, mc_pack_TakeDecl, rowB, *])
  refine call_mut (decl_m ⟨b, 0, false⟩ hl (nx + 5) true _ _ (show nx + 5 < nx + 10 by omega) (by simp [upd, rdC, rowB])) ?_
  rintro H1 m1 r1 ⟨hm1', rfl, g1, k1'⟩ -
  have hm1 : nx + 10 ≤ m1 := hm1'
  have b1 : H1 nx = some ⟨[.sc (.int .i64 0), .sc (.int .i64 0), .sc (.string ⟨#[]⟩), .sc (.int .i64 0), .sc (.int .i64 0), .sc (.string ⟨#[]⟩), .sc (.slice none 0 0), .sc (.slice none 0 0), .sc (.int .i64 0), .sc (.int .i64 0), .sc (.string ⟨#[]⟩), .sc (.slice none 0 0), .sc (.slice none 0 0), .sc (.int .i64 0), .sc (.slice none 0 0)], true⟩ := (k1' nx (show nx < nx + 10 by omega) (by omega)).trans (by simp [upd])
  clear hm1' k1'
  unfold takeDeclB
  unfold takeDeclF at hsh ⊢
  have c1 := formed11_p (declF ⟨b, 0, false⟩).1
  generalize (declF ⟨b, 0, false⟩).1 = x at *
  generalize (declF ⟨b, 0, false⟩).2 = s1 at *
  obtain ⟨l1, n1, bad⟩ := s1
  simp only [rdC] at g1
  simp only at hsh ⊢
  have c2 := bCloneB_p l1 (by omega)
  cases bad with
  | true =>
    rw [Bool.not_true, Bool.and_false]
    clear c2
    cases hr : x.formed with
    | false =>
      rw [hr] at c1
      clear hr
      repeat' (first | ((with_reducible first | refine wA (by omega) ?_ | refine wB (by omega) ?_ | refine wC (by omega) ?_ | refine wD (by omega) ?_ | refine wE ?_ ?_ | refine wF ?_ ?_ | refine wG ?_ ?_ | refine wH ?_ ?_ | refine wI ?_ ?_ | refine wJ ?_ ?_ | refine wK ?_ ?_ | refine wL ?_ ?_) <;> intro _) | (((with_reducible refine call_id ?_); (first | (refine call_pure (c1) ?_)))) | simp (maxSteps := 1000000) (disch := omega) only [go_sem, seval, rowN, *])
      refine fin_ret (r0 := .tup [.agg [.sc (.int .i64 0), .sc (.int .i64 0), .sc (.string ⟨#[]⟩), .sc (.int .i64 0), .sc (.int .i64 0), .sc (.string ⟨#[]⟩), .sc (.slice none 0 0), .sc (.slice none 0 0), .sc (.int .i64 0), .sc (.int .i64 0), .sc (.string ⟨#[]⟩), .sc (.slice none 0 0), .sc (.slice none 0 0), .sc (.int .i64 0), .sc (.slice none 0 0)], .sc (.slice none 0 0), .sc (.bool false)]) 0 cE2 ?_
      exact Weak.tup ⟨Weak.agg dcl0_weak, .refl _, .refl _, trivial⟩
    | true =>
      rw [hr] at c1
      clear hr
      repeat' (first | ((with_reducible first | refine wA (by omega) ?_ | refine wB (by omega) ?_ | refine wC (by omega) ?_ | refine wD (by omega) ?_ | refine wE ?_ ?_ | refine wF ?_ ?_ | refine wG ?_ ?_ | refine wH ?_ ?_ | refine wI ?_ ?_ | refine wJ ?_ ?_ | refine wK ?_ ?_ | refine wL ?_ ?_) <;> intro _) | (((with_reducible refine call_id ?_); (first | (refine call_pure (c1) ?_)))) | simp (maxSteps := 1000000) (disch := omega) only [go_sem, seval, rowN, *])
      refine fin_ret (r0 := .tup [.agg [.sc (.int .i64 0), .sc (.int .i64 0), .sc (.string ⟨#[]⟩), .sc (.int .i64 0), .sc (.int .i64 0), .sc (.string ⟨#[]⟩), .sc (.slice none 0 0), .sc (.slice none 0 0), .sc (.int .i64 0), .sc (.int .i64 0), .sc (.string ⟨#[]⟩), .sc (.slice none 0 0), .sc (.slice none 0 0), .sc (.int .i64 0), .sc (.slice none 0 0)], .sc (.slice none 0 0), .sc (.bool false)]) 0 cE2 ?_
      exact Weak.tup ⟨Weak.agg dcl0_weak, .refl _, .refl _, trivial⟩
  | false =>
    rw [Bool.not_false, Bool.and_true]
    cases hr : x.formed with
    | false =>
      rw [hr] at c1
      clear hr c2
      repeat' (first | ((with_reducible first | refine wA (by omega) ?_ | refine wB (by omega) ?_ | refine wC (by omega) ?_ | refine wD (by omega) ?_ | refine wE ?_ ?_ | refine wF ?_ ?_ | refine wG ?_ ?_ | refine wH ?_ ?_ | refine wI ?_ ?_ | refine wJ ?_ ?_ | refine wK ?_ ?_ | refine wL ?_ ?_) <;> intro _) | (((with_reducible refine call_id ?_); (first | (refine call_pure (c1) ?_)))) | simp (maxSteps := 1000000) (disch := omega) only [go_sem, seval, rowN, *])
      refine fin_ret (r0 := .tup [.agg [.sc (.int .i64 0), .sc (.int .i64 0), .sc (.string ⟨#[]⟩), .sc (.int .i64 0), .sc (.int .i64 0), .sc (.string ⟨#[]⟩), .sc (.slice none 0 0), .sc (.slice none 0 0), .sc (.int .i64 0), .sc (.int .i64 0), .sc (.string ⟨#[]⟩), .sc (.slice none 0 0), .sc (.slice none 0 0), .sc (.int .i64 0), .sc (.slice none 0 0)], .sc (.slice none 0 0), .sc (.bool false)]) 0 cE2 ?_
      exact Weak.tup ⟨Weak.agg dcl0_weak, .refl _, .refl _, trivial⟩
    | true =>
      rw [hr] at c1
      clear hr
      repeat' (first | ((with_reducible first | refine wA (by omega) ?_ | refine wB (by omega) ?_ | refine wC (by omega) ?_ | refine wD (by omega) ?_ | refine wE ?_ ?_ | refine wF ?_ ?_ | refine wG ?_ ?_ | refine wH ?_ ?_ | refine wI ?_ ?_ | refine wJ ?_ ?_ | refine wK ?_ ?_ | refine wL ?_ ?_) <;> intro _) | (((with_reducible refine call_id ?_); (first | (refine call_pure (c1) ?_) | (refine call_pure (c2) ?_)))) | simp (maxSteps := 1000000) (disch := omega) only [go_sem, seval, rowN, rowB, *])
      refine fin_ret (r0 := .tup [.agg x.pv, rowB l1, .sc (.bool true)]) 0 (by (simp (disch := omega) only [go_sem, seval, *, rowB]); all_goals rfl) ?_
      exact .of_eq rfl
end
section
theorem numF_enc {n : Nat} (h : n ≤ 1099511627776) (l : List UInt8) (k : Int) (b : Bool) : numF ⟨Plain.enc n ++ l, k, b⟩ = (n, ⟨l, k, b⟩) := by
  unfold numF
  have h1 := Plain.tk_enc n l (show n ≤ Plain.mc from h)
  have h2 := Plain.enc_length_pos n
  simp only [h1]
  rw [if_neg (by omega), List.drop_left]
theorem nameF_enc {s : ByteArray} (h : s.size ≤ 40) (l : List UInt8) (k : Int) (b : Bool) : nameF ⟨encT [s] ++ l, k, b⟩ = (s, ⟨l, k, b⟩) := by
  have he := enc_len6 s.size (by omega)
  have hp := Plain.enc_length_pos s.size
  have ht : (tb s).length = s.size := strC_len s
  have e1 : (encT [s] ++ l).take 46 = Plain.enc s.size ++ (tb s ++ l.take (46 - (Plain.enc s.size).length - s.size)) := by
    rw [encT_one, List.append_assoc, List.take_append, List.take_of_length_le (by omega), List.take_append, List.take_of_length_le (by omega), ht]
  have e2 := Plain.tk_enc s.size (tb s ++ l.take (46 - (Plain.enc s.size).length - s.size)) (show s.size ≤ 1099511627776 by omega)
  unfold nameF txtS
  simp only
  rw [e1, e2]
  simp only
  rw [if_neg (by simp only [List.length_append]; omega), List.drop_left]
  simp only
  have e3 : (Plain.enc s.size ++ (tb s ++ l.take (46 - (Plain.enc s.size).length - s.size))).drop ((Plain.enc s.size).length + s.size) = l.take (46 - (Plain.enc s.size).length - s.size) := by
    rw [← List.drop_drop, List.drop_left, List.drop_left' ht]
  rw [e3]
  have e4 : (tb s ++ l.take (46 - (Plain.enc s.size).length - s.size)).take s.size = tb s := List.take_left' ht
  rw [e4]
  have e5 : (Plain.enc s.size ++ (tb s ++ l.take (46 - (Plain.enc s.size).length - s.size))).length - (l.take (46 - (Plain.enc s.size).length - s.size)).length = (Plain.enc s.size ++ tb s).length := by
    simp only [List.length_append]; omega
  rw [e5, encT_one, List.drop_left]
  rw [show strB (tb s) = s from strB_tb s]
theorem roomF_good {l : List UInt8} {n : Int} (h0 : 0 ≤ n) (h1 : n < 2000) : roomF ⟨l, n, false⟩ = ⟨l, n + 1, false⟩ := by
  have h2 : IntKind.i64.wrap (n + 1) = n + 1 := by rw [IntKind.wrap_i64]; omega
  unfold roomF
  simp only [h2, Bool.false_or]
  rw [decide_eq_false (by omega)]
def sumN {α : Type} (nd : α → Nat) : List α → Nat
  | [] => 0
  | x :: r => nd x + sumN nd r
theorem sumN_snoc {α : Type} (nd : α → Nat) : ∀ (xs : List α) (i : Nat) (h : i < xs.length), sumN nd (xs.take (i + 1)) = sumN nd (xs.take i) + nd xs[i]
  | x :: r, 0, h => by simp [sumN]
  | x :: r, i + 1, h => by
    have := sumN_snoc nd r i (by simpa using h)
    simp only [List.take_succ_cons, sumN, List.getElem_cons_succ, this]; omega
theorem sumN_take {α : Type} (nd : α → Nat) : ∀ (xs : List α) (i : Nat), sumN nd (xs.take i) ≤ sumN nd xs
  | [], i => by simp
  | x :: r, 0 => by simp [sumN]
  | x :: r, i + 1 => by have := sumN_take nd r i; simp only [List.take_succ_cons, sumN]; omega
theorem rep_enc {α : Type} (g : RS → α × RS) (en : α → List UInt8) (nd : α → Nat) (xs : List α) (rest : List UInt8) (n0 : Int)
    (hg : ∀ (i : Nat) (h : i < xs.length) (l : List UInt8), g ⟨en xs[i] ++ l, n0 + sumN nd (xs.take i), false⟩ = (xs[i], ⟨l, n0 + sumN nd (xs.take i) + nd xs[i], false⟩)) :
    ∀ i, i ≤ xs.length → repF g i ⟨xs.flatMap en ++ rest, n0, false⟩ = (xs.take i, ⟨(xs.drop i).flatMap en ++ rest, n0 + sumN nd (xs.take i), false⟩)
  | 0, _ => by simp [repF, sumN]
  | i + 1, h => by
    have ih := rep_enc g en nd xs rest n0 hg i (by omega)
    have hlt : i < xs.length := by omega
    have e1 : (xs.drop i).flatMap en ++ rest = en xs[i] ++ ((xs.drop (i + 1)).flatMap en ++ rest) := by
      rw [List.drop_eq_getElem_cons hlt, List.flatMap_cons, List.append_assoc]
    simp only [repF, ih]
    rw [e1, hg i hlt, List.take_succ_eq_append_getElem hlt]
    simp only
    rw [← List.take_succ_eq_append_getElem hlt, sumN_snoc nd xs i hlt]
    simp only [Int.natCast_add, Int.add_assoc]
theorem encLs_flat : ∀ ls : List Lv, encLs ls = ls.flatMap Lv.enc
  | [] => rfl
  | x :: r => by rw [encLs, List.flatMap_cons, encLs_flat r]
theorem encTs_flat : ∀ ts : List Tm, encTs ts = ts.flatMap Tm.enc
  | [] => rfl
  | x :: r => by rw [encTs, List.flatMap_cons, encTs_flat r]
theorem nodesL_sum : ∀ ls : List Lv, nodesL ls = sumN Lv.nodes ls
  | [] => rfl
  | x :: r => by rw [nodesL, sumN, nodesL_sum r]
theorem nodesT_sum : ∀ ts : List Tm, nodesT ts = sumN Tm.nodes ts
  | [] => rfl
  | x :: r => by rw [nodesT, sumN, nodesT_sum r]
theorem reps_level {f : Nat} {ls : List Lv} {np : Int} (ih : ∀ l : Lv, l.formed np = true → ∀ (rest : List UInt8) (n : Int), 0 ≤ n → n + l.nodes ≤ 2000 → 2001 ≤ (f : Int) + n → levelF f ⟨l.enc ++ rest, n, false⟩ = (l, ⟨rest, n + l.nodes, false⟩))
    (hf : formedL np ls = true) (rest : List UInt8) (n : Int) (h0 : 0 ≤ n) (h1 : n + nodesL ls ≤ 2000) (h2 : 2001 ≤ (f : Int) + n) : repF (levelF f) ls.length ⟨encLs ls ++ rest, n, false⟩ = (ls, ⟨rest, n + nodesL ls, false⟩) := by
  have := rep_enc (levelF f) Lv.enc Lv.nodes ls rest n (fun i h l => ih ls[i] (formedL_mem ls i h hf) l _ (by omega) (by
    have := sumN_take Lv.nodes ls (i + 1)
    rw [sumN_snoc Lv.nodes ls i h] at this
    rw [nodesL_sum] at h1
    omega) (by omega)) ls.length (Nat.le_refl _)
  rw [encLs_flat, this, List.take_length, List.drop_length, nodesL_sum]
  rfl
theorem level_enc {np : Int} (hnp : np ≤ 4) : ∀ (f : Nat) (l : Lv), l.formed np = true → ∀ (rest : List UInt8) (n : Int), 0 ≤ n → n + l.nodes ≤ 2000 → 2001 ≤ (f : Int) + n → levelF f ⟨l.enc ++ rest, n, false⟩ = (l, ⟨rest, n + l.nodes, false⟩)
  | 0, .mk k m args, hf, rest, n, h0, h1, h2 => by simp only [Lv.nodes] at h1; omega
  | f + 1, .mk k m args, hf, rest, n, h0, h1, h2 => by
    obtain ⟨hk, hm, hfa, hnil⟩ := pk_num hnp hf
    obtain ⟨k, rfl⟩ : ∃ k' : Nat, k = k' := ⟨k.toNat, by omega⟩
    simp only [Lv.nodes] at h1 ⊢
    simp only [Lv.enc, Int.toNat_natCast, List.append_assoc]
    unfold levelF
    rw [numF_enc (by omega)]
    simp only
    rw [roomF_good h0 (by omega)]
    simp only
    rw [if_neg (by simp)]
    have ih := fun l hl => level_enc hnp f l hl
    unfold Lv.formed at hf
    obtain rfl | rfl | rfl | rfl | rfl : k = 1 ∨ k = 2 ∨ k = 3 ∨ k = 4 ∨ k = 5 := by omega
    · obtain rfl := hnil (.inl rfl)
      obtain ⟨m, rfl⟩ : ∃ m' : Nat, m = m' := ⟨m.toNat, by omega⟩
      rw [if_pos (.inl rfl), if_pos (.inl rfl), Int.toNat_natCast, numF_enc (by omega)]
      simp [encLs, nodesL]
    · obtain rfl := hnil (.inr rfl)
      obtain ⟨m, rfl⟩ : ∃ m' : Nat, m = m' := ⟨m.toNat, by omega⟩
      rw [if_pos (.inr rfl), if_pos (.inr rfl), Int.toNat_natCast, numF_enc (by omega)]
      simp [encLs, nodesL]
    · rw [if_neg (by decide), if_neg (by decide), if_pos (by decide)] at hf
      simp only [Bool.and_eq_true, decide_eq_true_eq] at hf
      obtain ⟨rfl, hl, hfl⟩ := hf
      have hr := reps_level ih hfl rest (n + 1) (by omega) (by omega) (by omega)
      rw [hl] at hr
      rw [if_neg (by decide), if_pos rfl, if_neg (by decide), List.nil_append, hr]
      simp only [Prod.mk.injEq, RS.mk.injEq, true_and, and_true]
      first | exact ⟨rfl, by omega⟩ | omega
    · rw [if_neg (by decide), if_neg (by decide), if_neg (by decide), if_pos (by decide)] at hf
      simp only [Bool.and_eq_true, decide_eq_true_eq] at hf
      obtain ⟨rfl, hl, hfl⟩ := hf
      have hr := reps_level ih hfl rest (n + 1) (by omega) (by omega) (by omega)
      rw [hl] at hr
      rw [if_neg (by decide), if_neg (by decide), if_pos (.inl rfl), if_neg (by decide), List.nil_append, hr]
      simp only [Prod.mk.injEq, RS.mk.injEq, true_and, and_true]
      first | exact ⟨rfl, by omega⟩ | omega
    · rw [if_neg (by decide), if_neg (by decide), if_neg (by decide), if_pos (by decide)] at hf
      simp only [Bool.and_eq_true, decide_eq_true_eq] at hf
      obtain ⟨rfl, hl, hfl⟩ := hf
      have hr := reps_level ih hfl rest (n + 1) (by omega) (by omega) (by omega)
      rw [hl] at hr
      rw [if_neg (by decide), if_neg (by decide), if_pos (.inr rfl), if_neg (by decide), List.nil_append, hr]
      simp only [Prod.mk.injEq, RS.mk.injEq, true_and, and_true]
      first | exact ⟨rfl, by omega⟩ | omega
theorem noS_nil8 {s : ByteArray} (h : noS s = true) : s = noStr := by
  unfold noS at h
  exact ByteArray.ext (by have h := (beq_iff_eq ..).1 h; simpa [ByteArray.toList_eq, noStr] using h)
set_option maxRecDepth 100000 in
set_option maxHeartbeats 32000000 in
theorem packPs_memT {np : Int} {ts : List Tm} (h : packPs np ts) {i : Nat} (hi : i < ts.length) : ts[i].packP np := packPs_mem ts i hi h
theorem formedA_mem8 {np : Int} : ∀ (ts : List Tm) (k kind : Int) (len i : Nat), formedA np k kind len i ts = true → ∀ (j : Nat) (h : j < ts.length), ∃ k', ts[j].formed np k' = true
  | x :: r, k, kind, len, i, hf, 0, h => by
    simp only [formedA, Bool.and_eq_true] at hf
    exact ⟨_, hf.1⟩
  | x :: r, k, kind, len, i, hf, j + 1, h => by
    simp only [formedA, Bool.and_eq_true] at hf
    exact formedA_mem8 r k kind len (i + 1) hf.2 j (by simpa using h)
theorem reps_term {f : Nat} {ts : List Tm} {np : Int} (ih : ∀ (t : Tm) (k : Int), t.formed np k = true → t.packP np → ∀ (rest : List UInt8) (n : Int), 0 ≤ n → n + t.nodes ≤ 2000 → 2001 ≤ (f : Int) + n → termF f ⟨t.enc ++ rest, n, false⟩ = (t, ⟨rest, n + t.nodes, false⟩))
    (hf : ∀ (j : Nat) (h : j < ts.length), ∃ k', ts[j].formed np k' = true) (hp : packPs np ts) (rest : List UInt8) (n : Int) (h0 : 0 ≤ n) (h1 : n + nodesT ts ≤ 2000) (h2 : 2001 ≤ (f : Int) + n) : repF (termF f) ts.length ⟨encTs ts ++ rest, n, false⟩ = (ts, ⟨rest, n + nodesT ts, false⟩) := by
  have := rep_enc (termF f) Tm.enc Tm.nodes ts rest n (fun i h l => ih ts[i] _ (hf i h).choose_spec (packPs_memT hp h) l _ (by omega) (by
    have := sumN_take Tm.nodes ts (i + 1)
    rw [sumN_snoc Tm.nodes ts i h] at this
    rw [nodesT_sum] at h1
    omega) (by omega)) ts.length (Nat.le_refl _)
  rw [encTs_flat, this, List.take_length, List.drop_length, nodesT_sum]
  rfl
theorem term_enc {np : Int} (hnp : np ≤ 4) : ∀ (f : Nat) (t : Tm) (kk : Int), t.formed np kk = true → t.packP np → ∀ (rest : List UInt8) (n : Int), 0 ≤ n → n + t.nodes ≤ 2000 → 2001 ≤ (f : Int) + n → termF f ⟨t.enc ++ rest, n, false⟩ = (t, ⟨rest, n + t.nodes, false⟩)
  | 0, .mk k m s ls args, kk, hf, hp, rest, n, h0, h1, h2 => by simp only [Tm.nodes] at h1; omega
  | f + 1, .mk k m s ls args, kk, hf, hp, rest, n, h0, h1, h2 => by
    obtain ⟨hk, hm, hc, hfl, hpa⟩ := hp
    obtain ⟨k, rfl⟩ : ∃ k' : Nat, k = k' := ⟨k.toNat, by omega⟩
    simp only [Tm.nodes] at h1 ⊢
    simp only [Tm.enc, Int.toNat_natCast, List.append_assoc]
    unfold termF
    rw [numF_enc (by omega)]
    simp only
    rw [roomF_good h0 (by omega)]
    simp only
    rw [if_neg (by simp)]
    have ih := fun t k hf hp => term_enc hnp f t k hf hp
    unfold Tm.formed at hf
    obtain rfl | rfl | rfl | hk4 | rfl : k = 1 ∨ k = 2 ∨ k = 3 ∨ (k = 4 ∨ k = 5 ∨ k = 6) ∨ k = 7 := by omega
    · rw [if_pos (by decide)] at hf
      simp only [hasB, Bool.and_eq_true, decide_eq_true_eq] at hf
      obtain ⟨g1, g2, _, g3, g4, g5⟩ := hf
      obtain rfl := List.eq_nil_of_length_eq_zero (by omega : ls.length = 0)
      obtain rfl := List.eq_nil_of_length_eq_zero (by omega : args.length = 0)
      obtain rfl := noS_nil8 g3
      obtain ⟨m, rfl⟩ : ∃ m' : Nat, m = m' := ⟨m.toNat, by omega⟩
      have hm2 := (hm rfl).2
      rw [if_pos (by decide), if_pos (by decide), Int.toNat_natCast, numF_enc (by omega)]
      simp [encLs, encTs, nodesL, nodesT]
    · rw [if_neg (by decide), if_pos (by decide)] at hf
      simp only [hasB, Bool.and_eq_true, decide_eq_true_eq] at hf
      obtain ⟨⟨g1, g3, g4, g5⟩, _⟩ := hf
      obtain rfl := List.eq_nil_of_length_eq_zero (by omega : args.length = 0)
      obtain rfl := noS_nil8 g3
      subst g1
      have hl : ls.length = 1 := by omega
      simp only [nodesT] at h1
      have hr := reps_level (level_enc hnp f) hfl rest (n + 1) (by omega) (by omega) (by omega)
      rw [hl] at hr
      rw [if_neg (show ¬ (2 : Nat) = 1 by omega), if_pos (show (2 : Nat) = 2 from rfl), if_neg (show ¬ ((2 : Nat) : Int) = 1 by omega), if_neg (show ¬ ((2 : Nat) : Int) = 3 by omega), List.nil_append, encTs, List.nil_append, hr]
      simp only [Prod.mk.injEq, RS.mk.injEq, true_and, and_true, nodesT]
      first | exact ⟨rfl, by omega⟩ | omega
    · rw [if_neg (by decide), if_neg (by decide), if_pos (by decide)] at hf
      simp only [constB, nameB, Bool.and_eq_true, decide_eq_true_eq] at hf
      obtain ⟨g1, g4, g5, ⟨g6, _⟩, g7⟩ := hf
      obtain rfl := List.eq_nil_of_length_eq_zero g4
      subst g1
      simp only [nodesT] at h1
      have hr := reps_level (level_enc hnp f) hfl rest (n + 1) (by omega) (by omega) (by omega)
      rw [if_neg (show ¬ (3 : Nat) = 1 by omega), if_neg (show ¬ (3 : Nat) = 2 by omega), if_pos (show (3 : Nat) = 3 from rfl), if_neg (show ¬ ((3 : Nat) : Int) = 1 by omega), if_pos (show ((3 : Nat) : Int) = 3 from rfl), List.append_assoc, nameF_enc g6]
      simp only
      rw [numF_enc (by omega)]
      simp only
      rw [Nat.min_eq_left (by omega), encTs, List.nil_append, hr]
      simp only [Prod.mk.injEq, RS.mk.injEq, true_and, and_true, nodesT]
      first | exact ⟨rfl, by omega⟩ | omega
    · rw [if_neg (by omega), if_neg (by omega), if_neg (by omega), if_pos (by omega)] at hf
      simp only [hasB, Bool.and_eq_true, decide_eq_true_eq] at hf
      obtain ⟨⟨g1, g3, g4, g5⟩, g6⟩ := hf
      obtain rfl := List.eq_nil_of_length_eq_zero (by omega : ls.length = 0)
      obtain rfl := noS_nil8 g3
      subst g1
      have hl : args.length = 2 := by omega
      simp only [nodesL] at h1
      have hr := reps_term ih (formedA_mem8 args _ _ _ _ g6) hpa rest (n + 1) (by omega) (by omega) (by omega)
      rw [hl] at hr
      rw [if_neg (show ¬ (k : Nat) = 1 by omega), if_neg (show ¬ (k : Nat) = 2 by omega), if_neg (show ¬ (k : Nat) = 3 by omega), if_pos hk4, if_neg (show ¬ ((k : Nat) : Int) = 1 by omega), if_neg (show ¬ ((k : Nat) : Int) = 3 by omega), List.nil_append, encLs, List.nil_append, hr]
      simp only [Prod.mk.injEq, RS.mk.injEq, true_and, and_true, nodesL]
      first | exact ⟨rfl, by omega⟩ | omega
    · rw [if_neg (by decide), if_neg (by decide), if_neg (by decide), if_neg (by decide), if_pos (by decide)] at hf
      simp only [hasB, Bool.and_eq_true, decide_eq_true_eq] at hf
      obtain ⟨⟨g1, g3, g4, g5⟩, g6⟩ := hf
      obtain rfl := List.eq_nil_of_length_eq_zero (by omega : ls.length = 0)
      obtain rfl := noS_nil8 g3
      subst g1
      have hl : args.length = 3 := by omega
      simp only [nodesL] at h1
      have hr := reps_term ih (formedA_mem8 args _ _ _ _ g6) hpa rest (n + 1) (by omega) (by omega) (by omega)
      rw [hl] at hr
      rw [if_neg (show ¬ (7 : Nat) = 1 by omega), if_neg (show ¬ (7 : Nat) = 2 by omega), if_neg (show ¬ (7 : Nat) = 3 by omega), if_neg (show ¬ ((7 : Nat) = 4 ∨ (7 : Nat) = 5 ∨ (7 : Nat) = 6) by omega), if_pos (show (7 : Nat) = 7 from rfl), if_neg (show ¬ ((7 : Nat) : Int) = 1 by omega), if_neg (show ¬ ((7 : Nat) : Int) = 3 by omega), List.nil_append, encLs, List.nil_append, hr]
      simp only [Prod.mk.injEq, RS.mk.injEq, true_and, and_true, nodesL]
      first | exact ⟨rfl, by omega⟩ | omega
end
section
theorem whole_enc {np : Int} (hnp : np ≤ 4) {t : Tm} {kk : Int} (hf : t.formed np kk = true) (hp : t.packP np) (hn : t.nodes ≤ 2000) (rest : List UInt8) (n : Int) : wholeF ⟨t.enc ++ rest, n, false⟩ = (t, ⟨rest, t.nodes, false⟩) := by
  unfold wholeF
  rw [term_enc hnp 2001 t kk hf hp rest 0 (Int.le_refl _) (by omega) (by show (2001 : Int) ≤ 2001 + 0; omega), Int.zero_add]
theorem right_formed8 {np : Int} {t : Tm} (h : t.right np 0 = true) : ∃ kk, t.formed np kk = true := by
  simp only [Tm.right, Bool.and_eq_true] at h
  exact ⟨_, h.2.2.2.2⟩
theorem ctors_enc {np : Int} (hnp : np ≤ 4) : ∀ (cs : List Ctr), (∀ c ∈ cs, c.name.size ≤ 40 ∧ c.typ.right np 0 = true) → ∀ (i : Nat), i ≤ cs.length → ∀ (rest : List UInt8) (n : Int), ∃ n', repF ctorF i ⟨encCs cs ++ rest, n, false⟩ = (cs.take i, ⟨encCs (cs.drop i) ++ rest, n', false⟩)
  | cs, hc, 0, _, rest, n => ⟨n, by simp [repF]⟩
  | cs, hc, i + 1, h, rest, n => by
    obtain ⟨n', ih⟩ := ctors_enc hnp cs hc i (by omega) rest n
    have hlt : i < cs.length := by omega
    obtain ⟨h1, h2⟩ := hc cs[i] (List.getElem_mem hlt)
    obtain ⟨kk, h3⟩ := right_formed8 h2
    obtain ⟨h4, h5⟩ := cs[i].typ.packP_right h2
    have e1 : encCs (cs.drop i) ++ rest = encT [cs[i].name] ++ (cs[i].typ.enc ++ (encCs (cs.drop (i + 1)) ++ rest)) := by
      rw [List.drop_eq_getElem_cons hlt]
      simp only [encCs, List.flatMap_cons, Ctr.enc, List.append_assoc]
    refine ⟨cs[i].typ.nodes, ?_⟩
    simp only [repF, ih]
    rw [e1]
    unfold ctorF
    rw [nameF_enc h1]
    simp only
    rw [whole_enc hnp h3 h4 h5, List.take_succ_eq_append_getElem hlt]
theorem nought_eq {t : Tm} (h : noughtB t = true) : t = .mk 0 0 noStr [] [] := (tsame_iff t noTm).1 h
theorem decl_enc (d : Dcl) (h : d.formed = true) (rest : List UInt8) : ∃ n', declF ⟨d.enc ++ rest, 0, false⟩ = (d, ⟨rest, n', false⟩) := by
  have hpk := d.packP_of h
  obtain ⟨kind, params, name, typ, val, fixed, ctors⟩ := d
  obtain ⟨hk, hp, hn, ht, hv, hi⟩ := hpk
  simp only at hk hp hn ht hv hi
  simp only [Dcl.formed, Bool.and_eq_true, decide_eq_true_eq] at h
  obtain ⟨-, -, -, h4, h5⟩ := h
  obtain ⟨kt, hkt⟩ := right_formed8 h4
  obtain ⟨kind, rfl⟩ : ∃ k' : Nat, kind = k' := ⟨kind.toNat, by omega⟩
  obtain ⟨params, rfl⟩ : ∃ k' : Nat, params = k' := ⟨params.toNat, by omega⟩
  simp only [Dcl.enc, Int.toNat_natCast, List.append_assoc]
  unfold declF
  rw [numF_enc (by omega)]
  simp only
  rw [nameF_enc hn]
  simp only
  rw [numF_enc (by omega)]
  simp only
  rw [whole_enc hp.2 hkt ht.1 ht.2]
  simp only
  obtain rfl | hk2 | rfl : kind = 1 ∨ (kind = 2 ∨ kind = 3 ∨ kind = 4) ∨ kind = 5 := by omega
  · rw [if_pos (by rfl)] at h5
    simp only [Bool.and_eq_true, noFamB, decide_eq_true_eq] at h5
    obtain ⟨h6, h7, h8⟩ := h5
    obtain rfl := List.eq_nil_of_length_eq_zero h8
    obtain rfl := nought_eq h6
    subst h7
    exact ⟨typ.nodes, by simp⟩
  · rw [if_neg (by omega), if_pos (by omega)] at h5
    simp only [Bool.and_eq_true, noFamB, decide_eq_true_eq] at h5
    obtain ⟨h6, h7, h8⟩ := h5
    obtain rfl := List.eq_nil_of_length_eq_zero h8
    obtain ⟨kv, hkv⟩ := right_formed8 h6
    obtain ⟨v1, v2⟩ := val.packP_right h6
    subst h7
    refine ⟨val.nodes, ?_⟩
    rw [if_pos hk2, if_pos (show ((kind : Nat) : Int) = 2 ∨ ((kind : Nat) : Int) = 3 ∨ ((kind : Nat) : Int) = 4 by omega), whole_enc hp.2 hkv v1 v2]
  · rw [if_neg (by decide), if_neg (by decide), if_pos (by rfl)] at h5
    simp only [Bool.and_eq_true, famB, spanB, decide_eq_true_eq, List.all_eq_true, ctrB] at h5
    obtain ⟨h6, ⟨h7, h7'⟩, h8, h9⟩ := h5
    obtain rfl := nought_eq h6
    obtain ⟨fixed, rfl⟩ : ∃ k' : Nat, fixed = k' := ⟨fixed.toNat, by omega⟩
    obtain ⟨n', hr⟩ := ctors_enc hp.2 ctors (fun c hc => ⟨nameB_size (h9 c hc).1, (h9 c hc).2⟩) ctors.length (Nat.le_refl _) rest typ.nodes
    refine ⟨n', ?_⟩
    rw [if_neg (by decide), if_pos (show (5 : Nat) = 5 from rfl), if_neg (show ¬ (((5 : Nat) : Int) = 2 ∨ ((5 : Nat) : Int) = 3 ∨ ((5 : Nat) : Int) = 4) by omega), if_pos (show ((5 : Nat) : Int) = 5 from rfl), Int.toNat_natCast, List.append_assoc, numF_enc (by omega)]
    simp only
    rw [List.append_assoc, numF_enc (by omega)]
    simp only
    rw [Nat.min_eq_left (by omega), hr, List.take_length, List.drop_length]
    rfl
theorem takeLevel_enc (l : Lv) (h : l.right 4 = true) (rest : List UInt8) : takeLevelF (l.enc ++ rest) = (l, ⟨rest, l.nodes, false⟩) := by
  simp only [Lv.right, Bool.and_eq_true, decide_eq_true_eq] at h
  unfold takeLevelF
  rw [level_enc (Int.le_refl 4) 2001 l h.2.2.2 rest 0 (Int.le_refl _) (by omega) (by show (2001 : Int) ≤ 2001 + 0; omega), Int.zero_add]
theorem takeTerm_enc (t : Tm) (h : t.packB = true) (rest : List UInt8) : takeTermF (t.enc ++ rest) = (t, ⟨rest, t.nodes, false⟩) := by
  obtain ⟨h1, h2⟩ := t.packB_P h
  simp only [Tm.packB, Tm.right, Bool.and_eq_true] at h
  unfold takeTermF
  rw [term_enc (Int.le_refl 4) 2001 t _ h.1.2.2.2.2 h1 rest 0 (Int.le_refl _) (by omega) (by show (2001 : Int) ≤ 2001 + 0; omega), Int.zero_add]
theorem takeDecl_enc (d : Dcl) (h : d.formed = true) (rest : List UInt8) : ∃ n', takeDeclF (d.enc ++ rest) = (d, ⟨rest, n', false⟩) := decl_enc d h rest
end
section
set_option maxRecDepth 20000
attribute [local go_sem] Nat.add_assoc id_ne id_ne' id_ne2 List.append_assoc bC_len bC_one pv_take tm_take pv_len tm_len dcl_len dcl_take tm_take_app tm_drop_app tm_d5 tm_d6 tm_d7 tm_d8 tm_d9 tm_d10 tm_d11 tm_d12 take_bC
def OwnQ (l : List UInt8) (H : Nat → Option PObj) (nx : Nat) (H' : Nat → Option PObj) (nx' : Nat) (r : PV) : Prop :=
  nx ≤ nx' ∧ (∃ id w, nx ≤ id ∧ id < nx' ∧ r = .osl id 0 l.length 1 ∧ H' id = some ⟨bC l, w⟩) ∧ ∀ j, j < nx → H' j = H j
def OwnN (l : List UInt8) (H : Nat → Option PObj) (nx : Nat) (H' : Nat → Option PObj) (nx' : Nat) (r : PV) : Prop :=
  nx ≤ nx' ∧ (∃ id w, nx ≤ id ∧ id < nx' ∧ r = .tup [.osl id 0 l.length 1, .sc (.bool true)] ∧ H' id = some ⟨bC l, w⟩) ∧ ∀ j, j < nx → H' j = H j
theorem rOne_o (n : Nat) (hn : n ≤ 2 ^ 40) (H : Nat → Option PObj) (nx : Nat) : PMut Try.prog F.ref02_One [.sc (.int .i64 n)] H nx (OwnQ (Plain.enc n) H nx) :=
  (rOne_m n hn H nx).mono fun H' nx' r ⟨h1, h2, h3⟩ => ⟨h1, BRow.own h2 (Plain.enc_length_pos n), h3⟩
end
section
set_option maxRecDepth 20000
attribute [local go_sem] pv_len pv_take Nat.add_assoc tm_len tm_take pv_one tm_one id_ne id_ne' id_ne2 List.append_assoc tm_take_app tm_drop_app tm_d6 tm_d7 tm_d8 tm_d9 tm_d10 tm_d11 tm_d12 tm_d13 tm_d14 tm_d15 ent_len ent_take ent_one
def Ent.pvB (f : Bool) (e : Ent) : List PV := .sc (.int .i64 e.kind) :: .sc (.int .i64 e.params) :: .sc (.string e.name) :: (e.typ.pvB f ++ (e.val.pvB f ++ [.sc (.int .i64 e.height), .sc (.string e.family), .sc (.int .i64 e.fixed), .sc (.int .i64 e.index), .sc (.int .i64 e.fields), .sl 1 (e.ctors.map txt)]))
def Ent.numE (a b : Ent) : Bool := decide (a.kind = b.kind) && (decide (a.params = b.params) && (decide (a.height = b.height) && (decide (a.fixed = b.fixed) && (decide (a.index = b.index) && decide (a.fields = b.fields)))))
def Ent.txtE (a b : Ent) : Bool := a.name.toList == b.name.toList && a.family.toList == b.family.toList
def Ent.same (a b : Ent) : Bool := a.numE b && (a.txtE b && (decide (a.ctors = b.ctors) && (a.typ.same b.typ && a.val.same b.val)))
end
section
set_option maxRecDepth 20000
attribute [local go_sem] pv_len pv_take Nat.add_assoc tm_len tm_take pv_one tm_one id_ne id_ne' id_ne2 List.append_assoc tm_take_app tm_drop_app tm_d6 tm_d7 tm_d8 tm_d9 tm_d10 tm_d11 tm_d12 tm_d13 tm_d14 tm_d15 ent_len ent_take ent_one tpvB_len tpvB_take tpvB_one
theorem tm_t12 (t : Tm) (r : List PV) : (t.pv ++ r).take 12 = t.pv ++ r.take 7 := by rw [List.take_append, tm_len, List.take_of_length_le (by rw [tm_len]; omega)]
theorem tm_t7 (t : Tm) (r : List PV) : (t.pv ++ r).take 7 = t.pv ++ r.take 2 := by rw [List.take_append, tm_len, List.take_of_length_le (by rw [tm_len]; omega)]
end
section
set_option maxRecDepth 20000
attribute [local go_sem] pv_len pv_take Nat.add_assoc tm_len tm_take pv_one tm_one id_ne id_ne' id_ne2 List.append_assoc tm_take_app tm_drop_app tm_d6 tm_d7 tm_d8 tm_d9 tm_d10 tm_d11 tm_d12 tm_d13 tm_d14 tm_d15 ent_len ent_take ent_one tpvB_len tpvB_take tpvB_one
def Dcl.formedR (d : Dcl) : Bool := decide (1 ≤ d.kind) && (decide (d.kind ≤ 5) && (nameB d.name && (d.typ.right d.params 0 && (if d.kind = 5 then noughtB d.val && famB d else if d.fixed ≠ 0 ∨ d.ctors.length ≠ 0 then false else if d.kind = 1 then noughtB d.val else d.val.right d.params 0))))
theorem formedR_eq (d : Dcl) : d.formedR = d.formed := by
  have hp : d.typ.right d.params 0 = true → 0 ≤ d.params ∧ d.params ≤ 4 := fun h => by
    simp only [Tm.right, Bool.and_eq_true, decide_eq_true_eq] at h
    exact ⟨h.2.1, h.2.2.1⟩
  simp only [Dcl.formedR, Dcl.formed, noFamB]
  cases hr : d.typ.right d.params 0 with
  | false => simp
  | true =>
    obtain ⟨h1, h2⟩ := hp hr
    rw [decide_eq_true h1, decide_eq_true h2]
    cases nameB d.name with
    | false => simp
    | true =>
      simp only [Bool.true_and]
      by_cases e5 : d.kind = 5
      · rw [e5]; simp
      · by_cases e1 : d.kind = 1
        · rw [e1]
          by_cases a : d.fixed = 0 <;> by_cases b : d.ctors.length = 0 <;> simp [a, b]
        · by_cases e2 : d.kind = 2 ∨ d.kind = 3 ∨ d.kind = 4
          · have x1 : 1 ≤ d.kind := by omega
            have x2 : d.kind ≤ 5 := by omega
            rw [decide_eq_true x1, decide_eq_true x2]
            simp only [e5, e1, e2, if_true, if_false]
            by_cases a : d.fixed = 0 <;> by_cases b : d.ctors.length = 0 <;> simp [a, b]
          · have x : decide (1 ≤ d.kind) = false ∨ decide (d.kind ≤ 5) = false := by
              by_cases y : 1 ≤ d.kind
              · exact .inr (decide_eq_false (by omega))
              · exact .inl (decide_eq_false y)
            simp only [e5, e1, e2, if_false]
            rcases x with x | x <;> simp [x]
set_option maxHeartbeats 16000000 in
theorem Formed08_p (d : Dcl) : PPure Try.prog F.ref08_Formed [.agg d.pv] (.sc (.bool d.formed)) := by
  rw [← formedR_eq]
  refine pure_by is_ref08_Formed (by simp) rfl fun hb nx => ?_
  clear hb
  have c1 := ref01_Right_p d.name
  have c2 := ref04_Right_p d.typ d.params 0
  have c4 := ref04_Right_p d.val d.params 0
  have c3 : PPure Try.prog F.ref00_SameTerm [.agg d.val.pv, .agg [.sc (.int .i64 0), .sc (.int .i64 0), .sc (.string ⟨#[]⟩), .sc (.slice none 0 0), .sc (.slice none 0 0)]] (.sc (.bool (noughtB d.val))) :=
    (SameTerm_p d.val.size d.val noTm (Nat.le_refl _)).weak (args' := [.agg d.val.pv, .agg [.sc (.int .i64 0), .sc (.int .i64 0), .sc (.string ⟨#[]⟩), .sc (.slice none 0 0), .sc (.slice none 0 0)]]) (by
      simp only [noTm, Tm.pv, List.map_nil]
      exact ⟨.refl _, Weak.agg ⟨.refl _, .refl _, .refl _, .nil 3, .nil 5, trivial⟩, trivial⟩) (.refl _)
  simp only [Dcl.formedR, famB, spanB]
  obtain ⟨kind, params, name, typ, val, fixed, ctors⟩ := d
  simp only [Dcl.pv] at c1 c2 c3 c4 ⊢
  by_cases k1 : 1 ≤ kind
  rotate_left
  · rw [decide_eq_false k1]
    repeat' (first | ((with_reducible first | refine wA (by omega) ?_ | refine wB (by omega) ?_ | refine wC (by omega) ?_ | refine wD (by omega) ?_ | refine wE ?_ ?_ | refine wF ?_ ?_ | refine wG ?_ ?_ | refine wH ?_ ?_ | refine wI ?_ ?_ | refine wJ ?_ ?_ | refine wK ?_ ?_ | refine wL ?_ ?_) <;> intro _) | simp (maxSteps := 1000000) (disch := omega) only [go_sem, seval, mc_ref08_Formed, *])
    all_goals (exact fin_tmp (.inr rfl) cE3)
  by_cases k2 : kind ≤ 5
  rotate_left
  · rw [decide_eq_true k1, decide_eq_false k2]
    repeat' (first | ((with_reducible first | refine wA (by omega) ?_ | refine wB (by omega) ?_ | refine wC (by omega) ?_ | refine wD (by omega) ?_ | refine wE ?_ ?_ | refine wF ?_ ?_ | refine wG ?_ ?_ | refine wH ?_ ?_ | refine wI ?_ ?_ | refine wJ ?_ ?_ | refine wK ?_ ?_ | refine wL ?_ ?_) <;> intro _) | simp (maxSteps := 1000000) (disch := omega) only [go_sem, seval, mc_ref08_Formed, *])
    all_goals (exact fin_tmp (.inr rfl) cE3)
  rw [decide_eq_true k1, decide_eq_true k2]
  simp only [Bool.true_and]
  generalize nameB name = b1 at c1
  generalize typ.right params 0 = b2 at c2
  generalize noughtB val = b3 at c3
  generalize val.right params 0 = b4 at c4
  cases b1 with
  | false =>
    repeat' (first | ((with_reducible first | refine wA (by omega) ?_ | refine wB (by omega) ?_ | refine wC (by omega) ?_ | refine wD (by omega) ?_ | refine wE ?_ ?_ | refine wF ?_ ?_ | refine wG ?_ ?_ | refine wH ?_ ?_ | refine wI ?_ ?_ | refine wJ ?_ ?_ | refine wK ?_ ?_ | refine wL ?_ ?_) <;> intro _) | (((with_reducible refine call_id ?_); (first | (refine call_pure (c1) ?_)))) | simp (maxSteps := 1000000) (disch := omega) only [go_sem, seval, mc_ref08_Formed, *])
    all_goals (exact fin_tmp (.inr rfl) cE3)
  | true =>
  cases b2 with
  | false =>
    repeat' (first | ((with_reducible first | refine wA (by omega) ?_ | refine wB (by omega) ?_ | refine wC (by omega) ?_ | refine wD (by omega) ?_ | refine wE ?_ ?_ | refine wF ?_ ?_ | refine wG ?_ ?_ | refine wH ?_ ?_ | refine wI ?_ ?_ | refine wJ ?_ ?_ | refine wK ?_ ?_ | refine wL ?_ ?_) <;> intro _) | (((with_reducible refine call_id ?_); (first | (refine call_pure (c1) ?_) | (refine call_pure (c2) ?_)))) | simp (maxSteps := 1000000) (disch := omega) only [go_sem, seval, mc_ref08_Formed, *])
    all_goals (exact fin_tmp (.inr rfl) cE3)
  | true =>
  simp only [Bool.true_and]
  by_cases h5 : kind = 5
  · subst h5
    simp only [if_true]
    cases b3 with
    | false =>
      simp only [Bool.false_and]
      repeat' (first | ((with_reducible first | refine wA (by omega) ?_ | refine wB (by omega) ?_ | refine wC (by omega) ?_ | refine wD (by omega) ?_ | refine wE ?_ ?_ | refine wF ?_ ?_ | refine wG ?_ ?_ | refine wH ?_ ?_ | refine wI ?_ ?_ | refine wJ ?_ ?_ | refine wK ?_ ?_ | refine wL ?_ ?_) <;> intro _) | (((with_reducible refine call_id ?_); (first | (refine call_pure (c1) ?_) | (refine call_pure (c2) ?_) | (refine call_pure (c3) ?_)))) | simp (maxSteps := 1000000) (disch := omega) only [go_sem, seval, mc_ref08_Formed, *])
      all_goals (exact fin_tmp (.inr rfl) cE3)
    | true =>
    simp only [Bool.true_and]
    by_cases h : 0 ≤ fixed ∧ fixed ≤ 16 ∧ ctors.length ≤ 8
    · obtain ⟨h0, h1, h2⟩ := h
      rw [decide_eq_true h0, decide_eq_true h1, decide_eq_true h2]
      simp only [Bool.true_and]
      repeat' (first | ((with_reducible first | refine wA (by omega) ?_ | refine wB (by omega) ?_ | refine wC (by omega) ?_ | refine wD (by omega) ?_ | refine wE ?_ ?_ | refine wF ?_ ?_ | refine wG ?_ ?_ | refine wH ?_ ?_ | refine wI ?_ ?_ | refine wJ ?_ ?_ | refine wK ?_ ?_ | refine wL ?_ ?_) <;> intro _) | (((with_reducible refine call_id ?_); (first | (refine call_pure (c1) ?_) | (refine call_pure (c2) ?_) | (refine call_pure (c3) ?_)))) | simp (maxSteps := 1000000) (disch := omega) only [go_sem, seval, mc_ref08_Formed, *])
      clear c1 c2 c3 c4
      refine c_loopW 158456323847937054469676597268 (by kernel_rfl) (fun j f H m => ∃ i : Nat, j = ctors.length - i ∧ i ≤ ctors.length ∧ f 4 = .sc (.int .i64 i) ∧ Kept ((ctors.take i).all (ctrB params) = true)) _ ⟨0, rfl, Nat.zero_le _, cE1, Kept.mk rfl⟩ ?_
      rintro _ f H m ⟨i, rfl, hi, e4, hs⟩
      by_cases hlt : i < ctors.length
      · have eg : ctors[i]? = some ctors[i] := List.getElem?_eq_getElem hlt
        have c1 := ref01_Right_p ctors[i].name
        have c2 := ref04_Right_p ctors[i].typ params 0
        cases hc : ctrB params ctors[i] with
        | false =>
          have e : ctors.all (ctrB params) = false := by
            rw [Bool.eq_false_iff]
            intro h
            have := List.all_eq_true.1 h _ (List.getElem_mem hlt)
            rw [hc] at this
            cases this
          rw [e]
          clear e hs
          cases hn : nameB ctors[i].name with
          | false =>
            rw [hn] at c1
            clear hn hc c2
            repeat' (first | ((with_reducible first | refine wA (by omega) ?_ | refine wB (by omega) ?_ | refine wC (by omega) ?_ | refine wD (by omega) ?_ | refine wE ?_ ?_ | refine wF ?_ ?_ | refine wG ?_ ?_ | refine wH ?_ ?_ | refine wI ?_ ?_ | refine wJ ?_ ?_ | refine wK ?_ ?_ | refine wL ?_ ?_) <;> intro _) | (((with_reducible refine call_id ?_); (first | (refine call_pure (c1) ?_)))) | simp (maxSteps := 1000000) (disch := omega) only [go_sem, seval, Ctr.pv, *])
            all_goals (exact fin_tmp (.inr rfl) cE3)
          | true =>
            have hr : ctors[i].typ.right params 0 = false := by simpa [ctrB, hn] using hc
            rw [hn] at c1
            rw [hr] at c2
            clear hn hc hr
            repeat' (first | ((with_reducible first | refine wA (by omega) ?_ | refine wB (by omega) ?_ | refine wC (by omega) ?_ | refine wD (by omega) ?_ | refine wE ?_ ?_ | refine wF ?_ ?_ | refine wG ?_ ?_ | refine wH ?_ ?_ | refine wI ?_ ?_ | refine wJ ?_ ?_ | refine wK ?_ ?_ | refine wL ?_ ?_) <;> intro _) | (((with_reducible refine call_id ?_); (first | (refine call_pure (c1) ?_) | (refine call_pure (c2) ?_)))) | simp (maxSteps := 1000000) (disch := omega) only [go_sem, seval, Ctr.pv, *])
            all_goals (exact fin_tmp (.inr rfl) cE3)
        | true =>
          have h3 : nameB ctors[i].name = true ∧ ctors[i].typ.right params 0 = true := by simpa [ctrB] using hc
          rw [h3.1] at c1
          rw [h3.2] at c2
          have hs2 : Kept ((ctors.take (i + 1)).all (ctrB params) = true) := Kept.mk (by rw [List.take_succ_eq_append_getElem hlt, List.all_append, hs.out, List.all_cons, hc]; rfl)
          clear h3 hc hs
          repeat' (first | ((with_reducible first | refine wA (by omega) ?_ | refine wB (by omega) ?_ | refine wC (by omega) ?_ | refine wD (by omega) ?_ | refine wE ?_ ?_ | refine wF ?_ ?_ | refine wG ?_ ?_ | refine wH ?_ ?_ | refine wI ?_ ?_ | refine wJ ?_ ?_ | refine wK ?_ ?_ | refine wL ?_ ?_) <;> intro _) | (((with_reducible refine call_id ?_); (first | (refine call_pure (c1) ?_) | (refine call_pure (c2) ?_)))) | simp (maxSteps := 1000000) (disch := omega) only [go_sem, seval, Ctr.pv, *])
          exact Nx.mk (ctors.length - (i + 1)) cE1 ⟨i + 1, rfl, cE1, by simp [upd], hs2⟩
      · obtain rfl : i = ctors.length := by omega
        have h3 := hs.out
        rw [List.take_length] at h3
        rw [h3]
        clear hs h3
        repeat' (first | ((with_reducible first | refine wA (by omega) ?_ | refine wB (by omega) ?_ | refine wC (by omega) ?_ | refine wD (by omega) ?_ | refine wE ?_ ?_ | refine wF ?_ ?_ | refine wG ?_ ?_ | refine wH ?_ ?_ | refine wI ?_ ?_ | refine wJ ?_ ?_ | refine wK ?_ ?_ | refine wL ?_ ?_) <;> intro _) | simp (maxSteps := 1000000) (disch := omega) only [go_sem, seval, *])
        all_goals (exact fin_tmp (.inr rfl) cE3)
    · have e : (decide (0 ≤ fixed) && decide (fixed ≤ 16) && (decide (ctors.length ≤ 8) && ctors.all (ctrB params))) = false := by
        rw [Bool.eq_false_iff]
        intro h2
        simp only [Bool.and_eq_true, decide_eq_true_eq] at h2
        exact h ⟨h2.1.1, h2.1.2, h2.2.1⟩
      rw [e]
      clear e
      have h9 : fixed < 0 ∨ (0 ≤ fixed ∧ 16 < fixed) ∨ (0 ≤ fixed ∧ fixed ≤ 16 ∧ 8 < ctors.length) := by omega
      clear h
      rcases h9 with h | ⟨h, h2⟩ | ⟨h, h2, h3⟩
      all_goals
        repeat' (first | ((with_reducible first | refine wA (by omega) ?_ | refine wB (by omega) ?_ | refine wC (by omega) ?_ | refine wD (by omega) ?_ | refine wE ?_ ?_ | refine wF ?_ ?_ | refine wG ?_ ?_ | refine wH ?_ ?_ | refine wI ?_ ?_ | refine wJ ?_ ?_ | refine wK ?_ ?_ | refine wL ?_ ?_) <;> intro _) | (((with_reducible refine call_id ?_); (first | (refine call_pure (c1) ?_) | (refine call_pure (c2) ?_) | (refine call_pure (c3) ?_)))) | simp (maxSteps := 1000000) (disch := omega) only [go_sem, seval, mc_ref08_Formed, *])
        all_goals (exact fin_tmp (.inr rfl) cE3)
  · simp only [h5, if_false]
    by_cases hf : fixed = 0
    rotate_left
    · rw [if_pos (.inl hf)]
      repeat' (first | ((with_reducible first | refine wA (by omega) ?_ | refine wB (by omega) ?_ | refine wC (by omega) ?_ | refine wD (by omega) ?_ | refine wE ?_ ?_ | refine wF ?_ ?_ | refine wG ?_ ?_ | refine wH ?_ ?_ | refine wI ?_ ?_ | refine wJ ?_ ?_ | refine wK ?_ ?_ | refine wL ?_ ?_) <;> intro _) | (((with_reducible refine call_id ?_); (first | (refine call_pure (c1) ?_) | (refine call_pure (c2) ?_) | (refine call_pure (c3) ?_)))) | simp (maxSteps := 1000000) (disch := omega) only [go_sem, seval, mc_ref08_Formed, *])
      all_goals (exact fin_tmp (.inr rfl) cE3)
    by_cases hl : ctors.length = 0
    rotate_left
    · rw [if_pos (.inr hl)]
      repeat' (first | ((with_reducible first | refine wA (by omega) ?_ | refine wB (by omega) ?_ | refine wC (by omega) ?_ | refine wD (by omega) ?_ | refine wE ?_ ?_ | refine wF ?_ ?_ | refine wG ?_ ?_ | refine wH ?_ ?_ | refine wI ?_ ?_ | refine wJ ?_ ?_ | refine wK ?_ ?_ | refine wL ?_ ?_) <;> intro _) | (((with_reducible refine call_id ?_); (first | (refine call_pure (c1) ?_) | (refine call_pure (c2) ?_) | (refine call_pure (c3) ?_)))) | simp (maxSteps := 1000000) (disch := omega) only [go_sem, seval, mc_ref08_Formed, *])
      all_goals (exact fin_tmp (.inr rfl) cE3)
    rw [if_neg (by rintro (h | h); exact h hf; exact h hl)]
    by_cases h1 : kind = 1
    · rw [if_pos h1]
      repeat' (first | ((with_reducible first | refine wA (by omega) ?_ | refine wB (by omega) ?_ | refine wC (by omega) ?_ | refine wD (by omega) ?_ | refine wE ?_ ?_ | refine wF ?_ ?_ | refine wG ?_ ?_ | refine wH ?_ ?_ | refine wI ?_ ?_ | refine wJ ?_ ?_ | refine wK ?_ ?_ | refine wL ?_ ?_) <;> intro _) | (((with_reducible refine call_id ?_); (first | (refine call_pure (c1) ?_) | (refine call_pure (c2) ?_) | (refine call_pure (c3) ?_)))) | simp (maxSteps := 1000000) (disch := omega) only [go_sem, seval, mc_ref08_Formed, *])
      all_goals (exact fin_tmp (.inr rfl) cE3)
    · rw [if_neg h1]
      repeat' (first | ((with_reducible first | refine wA (by omega) ?_ | refine wB (by omega) ?_ | refine wC (by omega) ?_ | refine wD (by omega) ?_ | refine wE ?_ ?_ | refine wF ?_ ?_ | refine wG ?_ ?_ | refine wH ?_ ?_ | refine wI ?_ ?_ | refine wJ ?_ ?_ | refine wK ?_ ?_ | refine wL ?_ ?_) <;> intro _) | (((with_reducible refine call_id ?_); (first | (refine call_pure (c1) ?_) | (refine call_pure (c2) ?_) | (refine call_pure (c3) ?_) | (refine call_pure (c4) ?_)))) | simp (maxSteps := 1000000) (disch := omega) only [go_sem, seval, mc_ref08_Formed, *])
      all_goals (exact fin_tmp (.inr rfl) cE3)
end
section
set_option maxRecDepth 20000
attribute [local go_sem] Nat.add_assoc id_ne id_ne' id_ne2 List.append_assoc bC_len bC_one pv_take tm_take pv_len tm_len dcl_len dcl_take tm_take_app tm_drop_app tm_d5 tm_d6 tm_d7 tm_d8 tm_d9 tm_d10 tm_d11 tm_d12 take_bC tm_y6 tm_y7 tm_y10 tm_y11 tm_y12
set_option maxHeartbeats 32000000 in
theorem rDecl_m (d : Dcl) (hr : d.formed = true) (H : Nat → Option PObj) (nx : Nat) : PMut Try.prog F.ref08_Decl [.agg d.pv] H nx (OwnN d.enc H nx) := by
  have c1 := Formed08_p d
  rw [hr] at c1
  have hd := d.packP_of hr
  have hsh : d.typ.shP ∧ (d.kind = 2 ∨ d.kind = 3 ∨ d.kind = 4 → d.val.shP) ∧ (d.kind = 5 → ∀ c ∈ d.ctors, c.typ.shP) := by
    have h := hr
    simp only [Dcl.formed, Bool.and_eq_true, decide_eq_true_eq] at h
    obtain ⟨-, -, -, h4, h5⟩ := h
    refine ⟨Tm.shP_of _ _ (right_formed8 h4).choose_spec, fun hk => ?_, fun hk c hc => ?_⟩
    · rw [if_neg (by omega), if_pos hk] at h5
      simp only [Bool.and_eq_true] at h5
      exact Tm.shP_of _ _ (right_formed8 h5.1).choose_spec
    · rw [if_neg (by omega), if_neg (by omega), if_pos hk] at h5
      simp only [Bool.and_eq_true, famB, List.all_eq_true, ctrB] at h5
      exact Tm.shP_of _ _ (right_formed8 (h5.2.2.2 c hc).2).choose_spec
  obtain ⟨kind, params, name, typ, val, fixed, ctors⟩ := d
  refine mut_by is_ref08_Decl (by simp) fun hbn => ?_
  obtain ⟨hk, hp, hn, ht, hv, hi⟩ := hd
  obtain ⟨hs1, hs2, hs3⟩ := hsh
  simp only at hk hp hn ht hv hi hs1 hs2 hs3
  have hbc : ctors.length ≤ 9223372036854775807 := by simp [Dcl.pv, bndL, PV.bnd, bndL_append] at hbn; omega
  clear hbn hr
  obtain ⟨kind, rfl⟩ : ∃ k' : Nat, kind = k' := ⟨kind.toNat, by omega⟩
  obtain ⟨params, rfl⟩ : ∃ k' : Nat, params = k' := ⟨params.toNat, by omega⟩
  have hek := enc_len6 kind (by omega)
  have hep := enc_len6 params (by omega)
  have het := encT_len1 name hn
  have htl := Tm.enc_len hp.2 typ ht.1
  repeat' (first | ((with_reducible first | refine wA (by omega) ?_ | refine wB (by omega) ?_ | refine wC (by omega) ?_ | refine wD (by omega) ?_ | refine wE ?_ ?_ | refine wF ?_ ?_ | refine wG ?_ ?_ | refine wH ?_ ?_ | refine wI ?_ ?_ | refine wJ ?_ ?_ | refine wK ?_ ?_ | refine wL ?_ ?_) <;> intro _) | (((with_reducible refine call_id ?_); (first | (refine call_pure (c1) ?_)))) | simp (maxSteps := 1000000) (disch := omega) only [go_sem, seval, mc_ref08_Decl, Dcl.pv, *])
  refine call_mut (rOne_o kind (by omega) _ _) ?_
  rintro H1 m1 r1 ⟨hm1', ⟨R1, w1, x1, y1, rfl, g1⟩, k1'⟩ -
  have hm1 : nx + 10 ≤ m1 := hm1'
  have x1 : nx + 10 ≤ R1 := x1
  have k1 : Kept (∀ j, j < nx → H1 j = H j) := fun j hj => k1' j (show j < nx + 10 by omega)
  obtain ⟨T1, hT1⟩ : ∃ T, Kept (T = Plain.enc kind) := ⟨_, Kept.mk rfl⟩
  rw [← hT1.out] at g1 hek ⊢
  clear k1' hm1' c1
  repeat' (first | ((with_reducible first | refine wA (by omega) ?_ | refine wB (by omega) ?_ | refine wC (by omega) ?_ | refine wD (by omega) ?_ | refine wE ?_ ?_ | refine wF ?_ ?_ | refine wG ?_ ?_ | refine wH ?_ ?_ | refine wI ?_ ?_ | refine wJ ?_ ?_ | refine wK ?_ ?_ | refine wL ?_ ?_) <;> intro _) | simp (maxSteps := 1000000) (disch := omega) only [go_sem, seval, *])
  refine call_mut (rTexts_m [name] (by simp) (by omega) _ _) ?_
  rintro H2 m2 r2 ⟨hm2', ⟨id2, w2, x2, y2, rfl, z2⟩, k2'⟩ -
  have hm2 : m1 + 7 ≤ m2 := hm2'
  have x2 : m1 + 7 ≤ id2 := x2
  have g2 : H2 (R1) = some ⟨bC T1, w1⟩ := (k2' (R1) (show R1 < m1 + 7 by omega)).trans (g1)
  have k2 : Kept (∀ j, j < nx → H2 j = H j) := fun j hj => (k2' j (show j < m1 + 7 by omega)).trans (k1 j hj)
  obtain ⟨T2, hT2⟩ : ∃ T, Kept (T = T1 ++ encT [name]) := ⟨_, Kept.mk rfl⟩
  have e1 : T1.length + (encT [name]).length = T2.length := by rw [hT2.out, List.length_append]
  have e2 : bC T1 ++ bC (encT [name]) = bC T2 := by rw [hT2.out, bC_append]
  have b1 : T2.length ≤ 140737488355328 := by omega
  have b2 : T2.length ≤ 4611686018427387904 := by omega
  have n2 : R1 ≠ id2 := by omega
  clear k2' k1 hm2'
  repeat' (first | ((with_reducible first | refine wA (by omega) ?_ | refine wB (by omega) ?_ | refine wC (by omega) ?_ | refine wD (by omega) ?_ | refine wE ?_ ?_ | refine wF ?_ ?_ | refine wG ?_ ?_ | refine wH ?_ ?_ | refine wI ?_ ?_ | refine wJ ?_ ?_ | refine wK ?_ ?_ | refine wL ?_ ?_) <;> intro _) | simp (maxSteps := 1000000) (disch := omega) only [go_sem, seval, *])
  clear e2 g2 z2 b1 b2
  refine call_mut (rOne_o params (by omega) _ _) ?_
  rintro H3 m3 r3 ⟨hm3', ⟨id3, w3, x3, y3, rfl, z3⟩, k3'⟩ -
  have hm3 : m2 + 6 ≤ m3 := hm3'
  have x3 : m2 + 6 ≤ id3 := x3
  have g3 : H3 (m1 + 5) = some ⟨bC T2, false⟩ := (k3' (m1 + 5) (show m1 + 5 < m2 + 6 by omega)).trans (by simp [upd])
  have k3 : Kept (∀ j, j < nx → H3 j = H j) := fun j hj => (k3' j (show j < m2 + 6 by omega)).trans (by simp only [upd, show j ≠ m1 + 5 by omega, show j ≠ R1 by omega, if_false]; exact k2 j hj)
  obtain ⟨T3, hT3⟩ : ∃ T, Kept (T = T2 ++ Plain.enc params) := ⟨_, Kept.mk rfl⟩
  have e1 : T2.length + (Plain.enc params).length = T3.length := by rw [hT3.out, List.length_append]
  have e2 : bC T2 ++ bC (Plain.enc params) = bC T3 := by rw [hT3.out, bC_append]
  have b1 : T3.length ≤ 140737488355328 := by omega
  have b2 : T3.length ≤ 4611686018427387904 := by omega
  have n3 : m1 + 5 ≠ id3 := by omega
  clear k3' k2 hm3'
  repeat' (first | ((with_reducible first | refine wA (by omega) ?_ | refine wB (by omega) ?_ | refine wC (by omega) ?_ | refine wD (by omega) ?_ | refine wE ?_ ?_ | refine wF ?_ ?_ | refine wG ?_ ?_ | refine wH ?_ ?_ | refine wI ?_ ?_ | refine wJ ?_ ?_ | refine wK ?_ ?_ | refine wL ?_ ?_) <;> intro _) | simp (maxSteps := 1000000) (disch := omega) only [go_sem, seval, *])
  clear e2 g3 z3 b1 b2
  refine call_mut (rTerm_m hp.2 _ typ (Nat.le_refl _) ht.1 hs1 (by omega) _ _) ?_
  rintro H4 m4 r4 ⟨hm4', ⟨id4, w4, x4, y4, rfl, z4⟩, k4'⟩ -
  have hm4 : m3 + 6 ≤ m4 := hm4'
  have x4 : m3 + 6 ≤ id4 := x4
  have g4 : H4 (m2 + 4) = some ⟨bC T3, false⟩ := (k4' (m2 + 4) (show m2 + 4 < m3 + 6 by omega)).trans (by simp [upd])
  have k4 : Kept (∀ j, j < nx → H4 j = H j) := fun j hj => (k4' j (show j < m3 + 6 by omega)).trans (by simp only [upd, show j ≠ m2 + 4 by omega, show j ≠ m1 + 5 by omega, if_false]; exact k3 j hj)
  obtain ⟨T4, hT4⟩ : ∃ T, Kept (T = T3 ++ typ.enc) := ⟨_, Kept.mk rfl⟩
  have e1 : T3.length + (typ.enc).length = T4.length := by rw [hT4.out, List.length_append]
  have e2 : bC T3 ++ bC (typ.enc) = bC T4 := by rw [hT4.out, bC_append]
  have b1 : T4.length ≤ 140737488355328 := by omega
  have b2 : T4.length ≤ 4611686018427387904 := by omega
  have n4 : m2 + 4 ≠ id4 := by omega
  clear k4' k3 hm4'
  have hE : (Dcl.mk (kind : Int) (params : Int) name typ val fixed ctors).enc = T4 ++ restEnc (Dcl.mk (kind : Int) (params : Int) name typ val fixed ctors) := by
    rw [hT4.out, hT3.out, hT2.out, hT1.out]; simp only [Dcl.enc, restEnc, Int.toNat_natCast, List.append_assoc]
  have hl4 : T4.length ≤ 200000 := by omega
  rw [hE]
  clear hE hT4 hT3 hT2 hT1
  obtain rfl | rfl | rfl | rfl | rfl : kind = 1 ∨ kind = 2 ∨ kind = 3 ∨ kind = 4 ∨ kind = 5 := by omega
  · have hE : T4 ++ restEnc (Dcl.mk ((1 : Nat) : Int) (params : Int) name typ val fixed ctors) = T4 := by
      simp only [restEnc]; rw [if_neg (by simp), if_neg (by simp), List.append_nil]
    rw [hE]
    clear hE
    repeat' (first | ((with_reducible first | refine wA (by omega) ?_ | refine wB (by omega) ?_ | refine wC (by omega) ?_ | refine wD (by omega) ?_ | refine wE ?_ ?_ | refine wF ?_ ?_ | refine wG ?_ ?_ | refine wH ?_ ?_ | refine wI ?_ ?_ | refine wJ ?_ ?_ | refine wK ?_ ?_ | refine wL ?_ ?_) <;> intro _) | simp (maxSteps := 1000000) (disch := omega) only [go_sem, seval, *])
    clear e2 g4 z4 b1 b2
    exact fin_mut (.tup [.osl (m3 + 4) 0 T4.length 1, .sc (.bool true)]) (.inr rfl) cE2 ⟨by simp only [Nat.add_assoc]; exact Nat.le_trans (show nx ≤ m4 by omega) (Nat.le_add_right _ _), ⟨m3 + 4, false, by omega, by simp only [Nat.add_assoc]; first | exact Nat.add_lt_add_left (by decide) _ | exact Nat.lt_of_lt_of_le (show m3 + 4 < m4 by omega) (Nat.le_add_right _ _), rfl, by simp [upd]⟩, fun j hj => by simp only [upd, show j ≠ m3 + 4 by omega, show j ≠ m2 + 4 by omega, if_false]; exact k4 j hj⟩
  · have hvv := hv (by simp)
    have hsv := hs2 (by simp)
    have hvl := Tm.enc_len hp.2 val hvv.1
    have hE : T4 ++ restEnc (Dcl.mk ((2 : Nat) : Int) (params : Int) name typ val fixed ctors) = T4 ++ val.enc := by
      simp only [restEnc]; rw [if_pos (by simp)]
    rw [hE]
    clear hE
    repeat' (first | ((with_reducible first | refine wA (by omega) ?_ | refine wB (by omega) ?_ | refine wC (by omega) ?_ | refine wD (by omega) ?_ | refine wE ?_ ?_ | refine wF ?_ ?_ | refine wG ?_ ?_ | refine wH ?_ ?_ | refine wI ?_ ?_ | refine wJ ?_ ?_ | refine wK ?_ ?_ | refine wL ?_ ?_) <;> intro _) | simp (maxSteps := 1000000) (disch := omega) only [go_sem, seval, *])
    clear e2 g4 z4 b1 b2
    refine call_mut (rTerm_m hp.2 _ val (Nat.le_refl _) hvv.1 hsv (by omega) _ _) ?_
    rintro H5 m5 r5 ⟨hm5', ⟨id5, w5, x5, y5, rfl, z5⟩, k5'⟩ -
    have hm5 : m4 + 6 + 6 ≤ m5 := hm5'
    have x5 : m4 + 6 + 6 ≤ id5 := x5
    have g5 : H5 (m3 + 4) = some ⟨bC T4, false⟩ := (k5' (m3 + 4) (show m3 + 4 < m4 + 6 + 6 by omega)).trans (by simp [upd])
    have k5 : Kept (∀ j, j < nx → H5 j = H j) := fun j hj => (k5' j (show j < m4 + 6 + 6 by omega)).trans (by simp only [upd, show j ≠ m3 + 4 by omega, show j ≠ m2 + 4 by omega, if_false]; exact k4 j hj)
    obtain ⟨T5, hT5⟩ : ∃ T, Kept (T = T4 ++ val.enc) := ⟨_, Kept.mk rfl⟩
    have e1 : T4.length + (val.enc).length = T5.length := by rw [hT5.out, List.length_append]
    have e2 : bC T4 ++ bC (val.enc) = bC T5 := by rw [hT5.out, bC_append]
    have b1 : T5.length ≤ 140737488355328 := by omega
    have b2 : T5.length ≤ 4611686018427387904 := by omega
    have n5 : m3 + 4 ≠ id5 := by omega
    clear k5' k4 hm5'
    rw [← hT5.out]
    clear hT5
    repeat' (first | ((with_reducible first | refine wA (by omega) ?_ | refine wB (by omega) ?_ | refine wC (by omega) ?_ | refine wD (by omega) ?_ | refine wE ?_ ?_ | refine wF ?_ ?_ | refine wG ?_ ?_ | refine wH ?_ ?_ | refine wI ?_ ?_ | refine wJ ?_ ?_ | refine wK ?_ ?_ | refine wL ?_ ?_) <;> intro _) | simp (maxSteps := 1000000) (disch := omega) only [go_sem, seval, *])
    clear e2 g5 z5 b1 b2
    exact fin_mut (.tup [.osl (m4 + 10) 0 T5.length 1, .sc (.bool true)]) (.inr rfl) cE2 ⟨by simp only [Nat.add_assoc]; exact Nat.le_trans (show nx ≤ m5 by omega) (Nat.le_add_right _ _), ⟨m4 + 10, false, by omega, by simp only [Nat.add_assoc]; first | exact Nat.add_lt_add_left (by decide) _ | exact Nat.lt_of_lt_of_le (show m4 + 10 < m5 by omega) (Nat.le_add_right _ _), rfl, by simp [upd]⟩, fun j hj => by simp only [upd, show j ≠ m4 + 10 by omega, show j ≠ m3 + 4 by omega, if_false]; exact k5 j hj⟩
  · have hvv := hv (by simp)
    have hsv := hs2 (by simp)
    have hvl := Tm.enc_len hp.2 val hvv.1
    have hE : T4 ++ restEnc (Dcl.mk ((3 : Nat) : Int) (params : Int) name typ val fixed ctors) = T4 ++ val.enc := by
      simp only [restEnc]; rw [if_pos (by simp)]
    rw [hE]
    clear hE
    repeat' (first | ((with_reducible first | refine wA (by omega) ?_ | refine wB (by omega) ?_ | refine wC (by omega) ?_ | refine wD (by omega) ?_ | refine wE ?_ ?_ | refine wF ?_ ?_ | refine wG ?_ ?_ | refine wH ?_ ?_ | refine wI ?_ ?_ | refine wJ ?_ ?_ | refine wK ?_ ?_ | refine wL ?_ ?_) <;> intro _) | simp (maxSteps := 1000000) (disch := omega) only [go_sem, seval, *])
    clear e2 g4 z4 b1 b2
    refine call_mut (rTerm_m hp.2 _ val (Nat.le_refl _) hvv.1 hsv (by omega) _ _) ?_
    rintro H5 m5 r5 ⟨hm5', ⟨id5, w5, x5, y5, rfl, z5⟩, k5'⟩ -
    have hm5 : m4 + 6 + 6 ≤ m5 := hm5'
    have x5 : m4 + 6 + 6 ≤ id5 := x5
    have g5 : H5 (m3 + 4) = some ⟨bC T4, false⟩ := (k5' (m3 + 4) (show m3 + 4 < m4 + 6 + 6 by omega)).trans (by simp [upd])
    have k5 : Kept (∀ j, j < nx → H5 j = H j) := fun j hj => (k5' j (show j < m4 + 6 + 6 by omega)).trans (by simp only [upd, show j ≠ m3 + 4 by omega, show j ≠ m2 + 4 by omega, if_false]; exact k4 j hj)
    obtain ⟨T5, hT5⟩ : ∃ T, Kept (T = T4 ++ val.enc) := ⟨_, Kept.mk rfl⟩
    have e1 : T4.length + (val.enc).length = T5.length := by rw [hT5.out, List.length_append]
    have e2 : bC T4 ++ bC (val.enc) = bC T5 := by rw [hT5.out, bC_append]
    have b1 : T5.length ≤ 140737488355328 := by omega
    have b2 : T5.length ≤ 4611686018427387904 := by omega
    have n5 : m3 + 4 ≠ id5 := by omega
    clear k5' k4 hm5'
    rw [← hT5.out]
    clear hT5
    repeat' (first | ((with_reducible first | refine wA (by omega) ?_ | refine wB (by omega) ?_ | refine wC (by omega) ?_ | refine wD (by omega) ?_ | refine wE ?_ ?_ | refine wF ?_ ?_ | refine wG ?_ ?_ | refine wH ?_ ?_ | refine wI ?_ ?_ | refine wJ ?_ ?_ | refine wK ?_ ?_ | refine wL ?_ ?_) <;> intro _) | simp (maxSteps := 1000000) (disch := omega) only [go_sem, seval, *])
    clear e2 g5 z5 b1 b2
    exact fin_mut (.tup [.osl (m4 + 10) 0 T5.length 1, .sc (.bool true)]) (.inr rfl) cE2 ⟨by simp only [Nat.add_assoc]; exact Nat.le_trans (show nx ≤ m5 by omega) (Nat.le_add_right _ _), ⟨m4 + 10, false, by omega, by simp only [Nat.add_assoc]; first | exact Nat.add_lt_add_left (by decide) _ | exact Nat.lt_of_lt_of_le (show m4 + 10 < m5 by omega) (Nat.le_add_right _ _), rfl, by simp [upd]⟩, fun j hj => by simp only [upd, show j ≠ m4 + 10 by omega, show j ≠ m3 + 4 by omega, if_false]; exact k5 j hj⟩
  · have hvv := hv (by simp)
    have hsv := hs2 (by simp)
    have hvl := Tm.enc_len hp.2 val hvv.1
    have hE : T4 ++ restEnc (Dcl.mk ((4 : Nat) : Int) (params : Int) name typ val fixed ctors) = T4 ++ val.enc := by
      simp only [restEnc]; rw [if_pos (by simp)]
    rw [hE]
    clear hE
    repeat' (first | ((with_reducible first | refine wA (by omega) ?_ | refine wB (by omega) ?_ | refine wC (by omega) ?_ | refine wD (by omega) ?_ | refine wE ?_ ?_ | refine wF ?_ ?_ | refine wG ?_ ?_ | refine wH ?_ ?_ | refine wI ?_ ?_ | refine wJ ?_ ?_ | refine wK ?_ ?_ | refine wL ?_ ?_) <;> intro _) | simp (maxSteps := 1000000) (disch := omega) only [go_sem, seval, *])
    clear e2 g4 z4 b1 b2
    refine call_mut (rTerm_m hp.2 _ val (Nat.le_refl _) hvv.1 hsv (by omega) _ _) ?_
    rintro H5 m5 r5 ⟨hm5', ⟨id5, w5, x5, y5, rfl, z5⟩, k5'⟩ -
    have hm5 : m4 + 6 + 6 ≤ m5 := hm5'
    have x5 : m4 + 6 + 6 ≤ id5 := x5
    have g5 : H5 (m3 + 4) = some ⟨bC T4, false⟩ := (k5' (m3 + 4) (show m3 + 4 < m4 + 6 + 6 by omega)).trans (by simp [upd])
    have k5 : Kept (∀ j, j < nx → H5 j = H j) := fun j hj => (k5' j (show j < m4 + 6 + 6 by omega)).trans (by simp only [upd, show j ≠ m3 + 4 by omega, show j ≠ m2 + 4 by omega, if_false]; exact k4 j hj)
    obtain ⟨T5, hT5⟩ : ∃ T, Kept (T = T4 ++ val.enc) := ⟨_, Kept.mk rfl⟩
    have e1 : T4.length + (val.enc).length = T5.length := by rw [hT5.out, List.length_append]
    have e2 : bC T4 ++ bC (val.enc) = bC T5 := by rw [hT5.out, bC_append]
    have b1 : T5.length ≤ 140737488355328 := by omega
    have b2 : T5.length ≤ 4611686018427387904 := by omega
    have n5 : m3 + 4 ≠ id5 := by omega
    clear k5' k4 hm5'
    rw [← hT5.out]
    clear hT5
    repeat' (first | ((with_reducible first | refine wA (by omega) ?_ | refine wB (by omega) ?_ | refine wC (by omega) ?_ | refine wD (by omega) ?_ | refine wE ?_ ?_ | refine wF ?_ ?_ | refine wG ?_ ?_ | refine wH ?_ ?_ | refine wI ?_ ?_ | refine wJ ?_ ?_ | refine wK ?_ ?_ | refine wL ?_ ?_) <;> intro _) | simp (maxSteps := 1000000) (disch := omega) only [go_sem, seval, *])
    clear e2 g5 z5 b1 b2
    exact fin_mut (.tup [.osl (m4 + 10) 0 T5.length 1, .sc (.bool true)]) (.inr rfl) cE2 ⟨by simp only [Nat.add_assoc]; exact Nat.le_trans (show nx ≤ m5 by omega) (Nat.le_add_right _ _), ⟨m4 + 10, false, by omega, by simp only [Nat.add_assoc]; first | exact Nat.add_lt_add_left (by decide) _ | exact Nat.lt_of_lt_of_le (show m4 + 10 < m5 by omega) (Nat.le_add_right _ _), rfl, by simp [upd]⟩, fun j hj => by simp only [upd, show j ≠ m4 + 10 by omega, show j ≠ m3 + 4 by omega, if_false]; exact k5 j hj⟩
  · obtain ⟨hfx, hcl, hcs⟩ := hi rfl
    have hss := hs3 rfl
    obtain ⟨fixed, rfl⟩ : ∃ k' : Nat, fixed = k' := ⟨fixed.toNat, by omega⟩
    have hef := enc_len6 fixed (by omega)
    have hec := enc_len6 ctors.length (by omega)
    have hE : T4 ++ restEnc (Dcl.mk ((5 : Nat) : Int) (params : Int) name typ val (fixed : Int) ctors) = T4 ++ (Plain.enc fixed ++ (Plain.enc ctors.length ++ encCs ctors)) := by
      simp only [restEnc, Int.toNat_natCast]
      rw [if_neg (by simp), if_pos (by rfl)]
    obtain ⟨Z, hZ⟩ : ∃ Z, Kept (Z = T4 ++ (Plain.enc fixed ++ (Plain.enc ctors.length ++ encCs ctors))) := ⟨_, Kept.mk rfl⟩
    rw [hE, ← hZ.out]
    clear hE
    repeat' (first | ((with_reducible first | refine wA (by omega) ?_ | refine wB (by omega) ?_ | refine wC (by omega) ?_ | refine wD (by omega) ?_ | refine wE ?_ ?_ | refine wF ?_ ?_ | refine wG ?_ ?_ | refine wH ?_ ?_ | refine wI ?_ ?_ | refine wJ ?_ ?_ | refine wK ?_ ?_ | refine wL ?_ ?_) <;> intro _) | simp (maxSteps := 1000000) (disch := omega) only [go_sem, seval, *])
    clear e2 g4 z4 b1 b2
    refine call_mut (rOne_o fixed (by omega) _ _) ?_
    rintro H5 m5 r5 ⟨hm5', ⟨id5, w5, x5, y5, rfl, z5⟩, k5'⟩ -
    have hm5 : m4 + 3 + 6 ≤ m5 := hm5'
    have x5 : m4 + 3 + 6 ≤ id5 := x5
    have g5 : H5 (m3 + 4) = some ⟨bC T4, false⟩ := (k5' (m3 + 4) (show m3 + 4 < m4 + 3 + 6 by omega)).trans (by simp [upd])
    have k5 : Kept (∀ j, j < nx → H5 j = H j) := fun j hj => (k5' j (show j < m4 + 3 + 6 by omega)).trans (by simp only [upd, show j ≠ m3 + 4 by omega, show j ≠ m2 + 4 by omega, if_false]; exact k4 j hj)
    obtain ⟨T5, hT5⟩ : ∃ T, Kept (T = T4 ++ Plain.enc fixed) := ⟨_, Kept.mk rfl⟩
    have e1 : T4.length + (Plain.enc fixed).length = T5.length := by rw [hT5.out, List.length_append]
    have e2 : bC T4 ++ bC (Plain.enc fixed) = bC T5 := by rw [hT5.out, bC_append]
    have b1 : T5.length ≤ 140737488355328 := by omega
    have b2 : T5.length ≤ 4611686018427387904 := by omega
    have n5 : m3 + 4 ≠ id5 := by omega
    clear k5' k4 hm5'
    repeat' (first | ((with_reducible first | refine wA (by omega) ?_ | refine wB (by omega) ?_ | refine wC (by omega) ?_ | refine wD (by omega) ?_ | refine wE ?_ ?_ | refine wF ?_ ?_ | refine wG ?_ ?_ | refine wH ?_ ?_ | refine wI ?_ ?_ | refine wJ ?_ ?_ | refine wK ?_ ?_ | refine wL ?_ ?_) <;> intro _) | simp (maxSteps := 1000000) (disch := omega) only [go_sem, seval, *])
    clear e2 g5 z5 b1 b2
    refine call_mut (rOne_o ctors.length (by omega) _ _) ?_
    rintro H6 m6 r6 ⟨hm6', ⟨id6, w6, x6, y6, rfl, z6⟩, k6'⟩ -
    have hm6 : m5 + 7 ≤ m6 := hm6'
    have x6 : m5 + 7 ≤ id6 := x6
    have g6 : H6 (m4 + 7) = some ⟨bC T5, false⟩ := (k6' (m4 + 7) (show m4 + 7 < m5 + 7 by omega)).trans (by simp [upd])
    have k6 : Kept (∀ j, j < nx → H6 j = H j) := fun j hj => (k6' j (show j < m5 + 7 by omega)).trans (by simp only [upd, show j ≠ m4 + 7 by omega, show j ≠ m3 + 4 by omega, if_false]; exact k5 j hj)
    obtain ⟨T6, hT6⟩ : ∃ T, Kept (T = T5 ++ Plain.enc ctors.length) := ⟨_, Kept.mk rfl⟩
    have e1 : T5.length + (Plain.enc ctors.length).length = T6.length := by rw [hT6.out, List.length_append]
    have e2 : bC T5 ++ bC (Plain.enc ctors.length) = bC T6 := by rw [hT6.out, bC_append]
    have b1 : T6.length ≤ 140737488355328 := by omega
    have b2 : T6.length ≤ 4611686018427387904 := by omega
    have n6 : m4 + 7 ≠ id6 := by omega
    clear k6' k5 hm6'
    repeat' (first | ((with_reducible first | refine wA (by omega) ?_ | refine wB (by omega) ?_ | refine wC (by omega) ?_ | refine wD (by omega) ?_ | refine wE ?_ ?_ | refine wF ?_ ?_ | refine wG ?_ ?_ | refine wH ?_ ?_ | refine wI ?_ ?_ | refine wJ ?_ ?_ | refine wK ?_ ?_ | refine wL ?_ ?_) <;> intro _) | simp (maxSteps := 1000000) (disch := omega) only [go_sem, seval, *])
    clear e2 g6 z6 b1 b2
    have hZ6 : Kept (Z = T6 ++ encCs ctors) := Kept.mk (by rw [hZ.out, hT6.out, hT5.out]; simp only [List.append_assoc])
    have hl6 : T6.length ≤ 200012 := by omega
    clear hZ hT6 hT5
    refine c_loopW 295147900781306314800 (by kernel_rfl) (fun j f H7 m7 => ∃ i : Nat, j = ctors.length - i ∧ i ≤ ctors.length ∧ f 5 = .sc (.int .i64 i) ∧ nx ≤ m7 ∧ (∃ R7 w7 T7, nx ≤ R7 ∧ R7 < m7 ∧ f 4 = .osl R7 0 T7.length 1 ∧ Kept (T7 = T6 ++ encCs (ctors.take i)) ∧ H7 R7 = some ⟨bC T7, w7⟩) ∧ Kept (∀ j, j < nx → H7 j = H j)) _ ⟨0, rfl, Nat.zero_le _, cE1, ?mm, ⟨m5 + 5, false, T6, by omega, ?lt, cE1, Kept.mk (by simp [encCs]), by simp [upd]⟩, Kept.mk fun j hj => by simp only [upd, show j ≠ m5 + 5 by omega, show j ≠ m4 + 7 by omega, if_false]; exact k6 j hj⟩ ?_
    case mm => simp only [Nat.add_assoc]; exact Nat.le_trans (show nx ≤ m6 by omega) (Nat.le_add_right _ _)
    case lt => simp only [Nat.add_assoc]; exact Nat.lt_of_lt_of_le (show m5 + 5 < m6 by omega) (Nat.le_add_right _ _)
    rintro _ f H7 m7 ⟨i, rfl, hi7, e5, hm7, ⟨R7, w7, T7, x7, y7, e4, hT7, g7⟩, k7⟩
    clear k6 x6 y6 x5 y5 x4 y4 n4 n5 n6
    by_cases hlt : i < ctors.length
    · have eg : ctors[i]? = some ctors[i] := List.getElem?_eq_getElem hlt
      obtain ⟨hc1, hc2, hc3⟩ := hcs ctors[i] (List.getElem_mem hlt)
      have hc4 := hss ctors[i] (List.getElem_mem hlt)
      have het2 := encT_len1 ctors[i].name hc1
      have htl2 := Tm.enc_len hp.2 ctors[i].typ hc2
      have hsn := encCs_snoc ctors i hlt
      have hcl2 := encCs_len (ctors.take i) hp.2 fun c hc => hcs c (List.mem_of_mem_take hc)
      rw [List.length_take] at hcl2
      have hl7 : T7.length ≤ 2000000 := by rw [hT7.out, List.length_append]; omega
      clear hcl2
      repeat' (first | ((with_reducible first | refine wA (by omega) ?_ | refine wB (by omega) ?_ | refine wC (by omega) ?_ | refine wD (by omega) ?_ | refine wE ?_ ?_ | refine wF ?_ ?_ | refine wG ?_ ?_ | refine wH ?_ ?_ | refine wI ?_ ?_ | refine wJ ?_ ?_ | refine wK ?_ ?_ | refine wL ?_ ?_) <;> intro _) | simp (maxSteps := 1000000) (disch := omega) only [go_sem, seval, Ctr.pv, *])
      refine call_mut (rTexts_m [ctors[i].name] (by simp) (by omega) _ _) ?_
      rintro H8 m8 r8 ⟨hm8', ⟨id8, w8, x8, y8, rfl, z8⟩, k8'⟩ -
      have hm8 : m7 + 5 + 11 ≤ m8 := hm8'
      have x8 : m7 + 5 + 11 ≤ id8 := x8
      have g8 : H8 (R7) = some ⟨bC T7, w7⟩ := (k8' (R7) (show R7 < m7 + 5 + 11 by omega)).trans (g7)
      have k8 : Kept (∀ j, j < nx → H8 j = H j) := fun j hj => (k8' j (show j < m7 + 5 + 11 by omega)).trans (k7 j hj)
      obtain ⟨T8, hT8⟩ : ∃ T, Kept (T = T7 ++ encT [ctors[i].name]) := ⟨_, Kept.mk rfl⟩
      have e1 : T7.length + (encT [ctors[i].name]).length = T8.length := by rw [hT8.out, List.length_append]
      have e2 : bC T7 ++ bC (encT [ctors[i].name]) = bC T8 := by rw [hT8.out, bC_append]
      have b1 : T8.length ≤ 140737488355328 := by omega
      have b2 : T8.length ≤ 4611686018427387904 := by omega
      have n8 : R7 ≠ id8 := by omega
      clear k8' k7 hm8'
      repeat' (first | ((with_reducible first | refine wA (by omega) ?_ | refine wB (by omega) ?_ | refine wC (by omega) ?_ | refine wD (by omega) ?_ | refine wE ?_ ?_ | refine wF ?_ ?_ | refine wG ?_ ?_ | refine wH ?_ ?_ | refine wI ?_ ?_ | refine wJ ?_ ?_ | refine wK ?_ ?_ | refine wL ?_ ?_) <;> intro _) | simp (maxSteps := 1000000) (disch := omega) only [go_sem, seval, Ctr.pv, *])
      clear e2 g8 z8 b1 b2
      refine call_mut (rTerm_m hp.2 _ ctors[i].typ (Nat.le_refl _) hc2 hc4 (by omega) _ _) ?_
      rintro H9 m9 r9 ⟨hm9', ⟨id9, w9, x9, y9, rfl, z9⟩, k9'⟩ -
      have hm9 : m8 + 10 ≤ m9 := hm9'
      have x9 : m8 + 10 ≤ id9 := x9
      have g9 : H9 (m7 + 14) = some ⟨bC T8, false⟩ := (k9' (m7 + 14) (show m7 + 14 < m8 + 10 by omega)).trans (by simp [upd])
      have k9 : Kept (∀ j, j < nx → H9 j = H j) := fun j hj => (k9' j (show j < m8 + 10 by omega)).trans (by simp only [upd, show j ≠ m7 + 14 by omega, show j ≠ R7 by omega, if_false]; exact k8 j hj)
      obtain ⟨T9, hT9⟩ : ∃ T, Kept (T = T8 ++ ctors[i].typ.enc) := ⟨_, Kept.mk rfl⟩
      have e1 : T8.length + (ctors[i].typ.enc).length = T9.length := by rw [hT9.out, List.length_append]
      have e2 : bC T8 ++ bC (ctors[i].typ.enc) = bC T9 := by rw [hT9.out, bC_append]
      have b1 : T9.length ≤ 140737488355328 := by omega
      have b2 : T9.length ≤ 4611686018427387904 := by omega
      have n9 : m7 + 14 ≠ id9 := by omega
      clear k9' k8 hm9'
      repeat' (first | ((with_reducible first | refine wA (by omega) ?_ | refine wB (by omega) ?_ | refine wC (by omega) ?_ | refine wD (by omega) ?_ | refine wE ?_ ?_ | refine wF ?_ ?_ | refine wG ?_ ?_ | refine wH ?_ ?_ | refine wI ?_ ?_ | refine wJ ?_ ?_ | refine wK ?_ ?_ | refine wL ?_ ?_) <;> intro _) | simp (maxSteps := 1000000) (disch := omega) only [go_sem, seval, *])
      clear e2 g9 z9 b1 b2
      refine Nx.mk (ctors.length - (i + 1)) (by omega) ⟨i + 1, rfl, cE1, cE1, ?mm, ⟨m8 + 8, false, T9, by omega, ?lt, cE1, Kept.mk (by rw [hT9.out, hT8.out, hT7.out, hsn]; simp only [List.append_assoc]), by simp [upd]⟩, Kept.mk fun j hj => by simp only [upd, show j ≠ m8 + 8 by omega, show j ≠ m7 + 14 by omega, if_false]; exact k9 j hj⟩
      case mm => omega
      case lt => omega
    · obtain rfl : i = ctors.length := by omega
      have hT := hT7.out
      rw [List.take_length] at hT
      rw [hZ6.out, ← hT]
      clear hT hT7
      repeat' (first | ((with_reducible first | refine wA (by omega) ?_ | refine wB (by omega) ?_ | refine wC (by omega) ?_ | refine wD (by omega) ?_ | refine wE ?_ ?_ | refine wF ?_ ?_ | refine wG ?_ ?_ | refine wH ?_ ?_ | refine wI ?_ ?_ | refine wJ ?_ ?_ | refine wK ?_ ?_ | refine wL ?_ ?_) <;> intro _) | simp (maxSteps := 1000000) (disch := omega) only [go_sem, seval, *])
      exact fin_mut (.tup [.osl R7 0 T7.length 1, .sc (.bool true)]) (.inr rfl) cE2 ⟨by simp only [Nat.add_assoc]; exact Nat.le_trans hm7 (Nat.le_add_right _ _), ⟨R7, w7, x7, by simp only [Nat.add_assoc]; exact Nat.lt_of_lt_of_le y7 (Nat.le_add_right _ _), rfl, g7⟩, k7⟩
end
section
set_option maxRecDepth 20000
attribute [local go_sem] Nat.add_assoc id_ne id_ne' id_ne2 List.append_assoc bC_len bC_one rowB_flatR
theorem u8_ne {x y : UInt8} (h : x ≠ y) : ¬ ((x.toNat : Nat) : Int) = ((y.toNat : Nat) : Int) := fun e => h (UInt8.toNat_inj.1 (by omega))
set_option maxHeartbeats 4000000 in
theorem SameBytes_p (a b : List UInt8) : PPure Try.prog F.ref00_SameBytes [rowB a, rowB b] (.sc (.bool (decide (a = b)))) := by
  refine pure_by is_ref00_SameBytes (by simp) rfl fun hb nx => ?_
  have hbl : a.length ≤ 9223372036854775807 := by simp [rowB, bndL, PV.bnd] at hb; omega
  clear hb
  by_cases hl : a.length = b.length
  · repeat' (first | ((with_reducible first | refine wA (by omega) ?_ | refine wB (by omega) ?_ | refine wC (by omega) ?_ | refine wD (by omega) ?_ | refine wE ?_ ?_ | refine wF ?_ ?_ | refine wG ?_ ?_ | refine wH ?_ ?_ | refine wI ?_ ?_ | refine wJ ?_ ?_ | refine wK ?_ ?_ | refine wL ?_ ?_) <;> intro _) | simp (maxSteps := 1000000) (disch := omega) only [go_sem, seval, mc_ref00_SameBytes, rowB, *])
    refine c_loopW 67106864 (by kernel_rfl) (fun j f H m => ∃ i : Nat, j = a.length - i ∧ i ≤ a.length ∧ f 5 = .sc (.int .i64 i) ∧ Kept (a.take i = b.take i)) _ ⟨0, rfl, Nat.zero_le _, cE1, Kept.mk rfl⟩ ?_
    rintro _ f H m ⟨i, rfl, hi, e5, hs⟩
    by_cases hlt : i < a.length
    · have eg : a[i]? = some a[i] := List.getElem?_eq_getElem hlt
      have hlt2 : i < b.length := by omega
      have eg2 : b[i]? = some b[i] := List.getElem?_eq_getElem hlt2
      by_cases hc : a[i] = b[i]
      · have hs2 : Kept (a.take (i + 1) = b.take (i + 1)) := Kept.mk (by rw [List.take_succ_eq_append_getElem hlt, List.take_succ_eq_append_getElem hlt2, hs.out, hc])
        clear hs
        rw [hc] at eg
        clear hc
        repeat' (first | ((with_reducible first | refine wA (by omega) ?_ | refine wB (by omega) ?_ | refine wC (by omega) ?_ | refine wD (by omega) ?_ | refine wE ?_ ?_ | refine wF ?_ ?_ | refine wG ?_ ?_ | refine wH ?_ ?_ | refine wI ?_ ?_ | refine wJ ?_ ?_ | refine wK ?_ ?_ | refine wL ?_ ?_) <;> intro _) | simp (maxSteps := 1000000) (disch := omega) only [go_sem, seval, *])
        exact Nx.mk (a.length - (i + 1)) cE1 ⟨i + 1, cE1, cE1, cE1, hs2⟩
      · have hn : a ≠ b := fun e => hc (by subst e; rfl)
        have hu := u8_ne hc
        rw [decide_eq_false hn]
        clear hs hc hn
        repeat' (first | ((with_reducible first | refine wA (by omega) ?_ | refine wB (by omega) ?_ | refine wC (by omega) ?_ | refine wD (by omega) ?_ | refine wE ?_ ?_ | refine wF ?_ ?_ | refine wG ?_ ?_ | refine wH ?_ ?_ | refine wI ?_ ?_ | refine wJ ?_ ?_ | refine wK ?_ ?_ | refine wL ?_ ?_) <;> intro _) | simp (maxSteps := 1000000) (disch := omega) only [go_sem, seval, *])
        all_goals (exact fin_tmp (.inr rfl) cE3)
    · obtain rfl : i = a.length := by omega
      have e : a = b := by
        have := hs.out
        rwa [List.take_length, hl, List.take_length] at this
      rw [decide_eq_true e]
      clear hs e
      repeat' (first | ((with_reducible first | refine wA (by omega) ?_ | refine wB (by omega) ?_ | refine wC (by omega) ?_ | refine wD (by omega) ?_ | refine wE ?_ ?_ | refine wF ?_ ?_ | refine wG ?_ ?_ | refine wH ?_ ?_ | refine wI ?_ ?_ | refine wJ ?_ ?_ | refine wK ?_ ?_ | refine wL ?_ ?_) <;> intro _) | simp (maxSteps := 1000000) (disch := omega) only [go_sem, seval, *])
      all_goals (exact fin_tmp (.inr rfl) cE3)
  · have hn : a ≠ b := fun e => hl (by rw [e])
    rw [decide_eq_false hn]
    clear hn
    repeat' (first | ((with_reducible first | refine wA (by omega) ?_ | refine wB (by omega) ?_ | refine wC (by omega) ?_ | refine wD (by omega) ?_ | refine wE ?_ ?_ | refine wF ?_ ?_ | refine wG ?_ ?_ | refine wH ?_ ?_ | refine wI ?_ ?_ | refine wJ ?_ ?_ | refine wK ?_ ?_ | refine wL ?_ ?_) <;> intro _) | simp (maxSteps := 1000000) (disch := omega) only [go_sem, seval, mc_ref00_SameBytes, rowB, *])
    all_goals (exact fin_tmp (.inr rfl) cE3)
end
section
set_option maxRecDepth 20000
attribute [local go_sem] Nat.add_assoc id_ne id_ne' id_ne2 List.append_assoc tm_len tm_take tm_one tm_take_app tm_drop_app tm_d5 tm_d6 tm_d7 tm_d8 tm_d9 tm_d10 tm_d11 tm_d12 tm_d13 tm_d14 tm_d15 dcl_len dcl_take strBin
mutual
theorem lv_self8 : ∀ l : Lv, l.same l = true
  | .mk k n args => by simp [Lv.same, lvs_self8 args]
theorem lvs_self8 : ∀ ls : List Lv, sameL ls ls = true
  | [] => by simp [sameL]
  | x :: r => by simp [sameL, lv_self8 x, lvs_self8 r]
end
mutual
theorem tm_same_self8 : ∀ t : Tm, t.same t = true
  | .mk k n s ls args => by simp [Tm.same, lvs_self8 ls, tms_self8 args, sameB]
theorem tms_self8 : ∀ ts : List Tm, sameT ts ts = true
  | [] => by simp [sameT]
  | x :: r => by simp [sameT, tm_same_self8 x, tms_self8 r]
end
theorem same8 (x : Tm) : PPure Try.prog F.ref00_SameTerm [.agg x.pv, .agg x.pv] (.sc (.bool true)) := by
  have h := SameTerm_p x.size x x (Nat.le_refl _)
  rwa [tm_same_self8 x] at h
set_option maxHeartbeats 8000000 in
theorem SameDecl_p (d : Dcl) : PPure Try.prog F.ref00_SameDecl [.agg d.pv, .agg d.pv] (.sc (.bool true)) := by
  obtain ⟨kind, params, name, typ, val, fixed, ctors⟩ := d
  refine pure_by is_ref00_SameDecl (by simp) rfl fun hb nx => ?_
  have hbc : ctors.length ≤ 9223372036854775807 := by simp [Dcl.pv, bndL, PV.bnd, bndL_append] at hb; omega
  clear hb
  have c1 := same8 typ
  have c2 := same8 val
  repeat' (first | ((with_reducible first | refine wA (by omega) ?_ | refine wB (by omega) ?_ | refine wC (by omega) ?_ | refine wD (by omega) ?_ | refine wE ?_ ?_ | refine wF ?_ ?_ | refine wG ?_ ?_ | refine wH ?_ ?_ | refine wI ?_ ?_ | refine wJ ?_ ?_ | refine wK ?_ ?_ | refine wL ?_ ?_) <;> intro _) | (((with_reducible refine call_id ?_); (first | (refine call_pure (c1) ?_) | (refine call_pure (c2) ?_)))) | simp (maxSteps := 1000000) (disch := omega) only [go_sem, seval, mc_ref00_SameDecl, Dcl.pv, *])
  refine c_loopW 9903520314138927011117137968 (by kernel_rfl) (fun j f H m => ∃ i : Nat, j = ctors.length - i ∧ i ≤ ctors.length ∧ f 5 = .sc (.int .i64 i)) _ ⟨0, rfl, Nat.zero_le _, cE1⟩ ?_
  rintro _ f H m ⟨i, rfl, hi, e5⟩
  by_cases hlt : i < ctors.length
  · have eg : ctors[i]? = some ctors[i] := List.getElem?_eq_getElem hlt
    have c3 := same8 ctors[i].typ
    repeat' (first | ((with_reducible first | refine wA (by omega) ?_ | refine wB (by omega) ?_ | refine wC (by omega) ?_ | refine wD (by omega) ?_ | refine wE ?_ ?_ | refine wF ?_ ?_ | refine wG ?_ ?_ | refine wH ?_ ?_ | refine wI ?_ ?_ | refine wJ ?_ ?_ | refine wK ?_ ?_ | refine wL ?_ ?_) <;> intro _) | (((with_reducible refine call_id ?_); (first | (refine call_pure (c3) ?_)))) | simp (maxSteps := 1000000) (disch := omega) only [go_sem, seval, Ctr.pv, *])
    exact Nx.mk (ctors.length - (i + 1)) cE1 ⟨i + 1, rfl, cE1, cE1⟩
  · obtain rfl : i = ctors.length := by omega
    repeat' (first | ((with_reducible first | refine wA (by omega) ?_ | refine wB (by omega) ?_ | refine wC (by omega) ?_ | refine wD (by omega) ?_ | refine wE ?_ ?_ | refine wF ?_ ?_ | refine wG ?_ ?_ | refine wH ?_ ?_ | refine wI ?_ ?_ | refine wJ ?_ ?_ | refine wK ?_ ?_ | refine wL ?_ ?_) <;> intro _) | simp (maxSteps := 1000000) (disch := omega) only [go_sem, seval, *])
    all_goals (exact fin_tmp (.inr rfl) cE3)
end
section
set_option maxRecDepth 20000
attribute [local go_sem] Nat.add_assoc id_ne id_ne' id_ne2 List.append_assoc
def T08 : Tm := .mk 2 0 noStr [.mk 1 0 []] []
def V58 : Tm := .mk 1 5 noStr [] []
def L38 : Lv := .mk 3 0 [.mk 1 2 []]
def D08 : Dcl := ⟨1, 0, ⟨#[97]⟩, T08, .mk 0 0 noStr [] [], 0, []⟩
theorem noS_noStr : noS noStr = true := by unfold noS; exact beq_self_eq_true _
theorem name97 : nameB ⟨#[97]⟩ = true := by decide
theorem t08_right (np : Int) (h : 0 ≤ np) (h2 : np ≤ 4) : T08.right np 0 = true := by
  simp [T08, Tm.right, Tm.nodes, nodesL, nodesT, Lv.nodes, Tm.formed, hasB, headR, Lv.right, Lv.formed, noS_noStr, h, h2]
theorem t08_pack : T08.packB = true := by simp [T08, Tm.packB, Tm.right, Tm.nodes, nodesL, nodesT, Lv.nodes, Tm.formed, hasB, headR, Lv.right, Lv.formed, Tm.nearB, nearA, noS_noStr]
theorem v58_pack : V58.packB = true := by simp [V58, Tm.packB, Tm.right, Tm.nodes, nodesL, nodesT, Lv.nodes, Tm.formed, hasB, headR, Lv.right, Lv.formed, Tm.nearB, nearA, noS_noStr]
theorem l38_right : L38.right 4 = true := by decide
theorem d08_formed : D08.formed = true := by
  have h := t08_right 0 (by decide) (by decide)
  have h2 : noughtB (.mk 0 0 noStr [] []) = true := tm_same_self8 _
  simp [D08, Dcl.formed, name97, h, h2, noFamB]
theorem t08_enc : T08.enc = [2, 1, 0] := by simp [T08, Tm.enc, encLs, encTs, Lv.enc, Plain.enc_small]
theorem v58_enc : V58.enc = [1, 5] := by simp [V58, Tm.enc, encLs, encTs, Plain.enc_small]
theorem l38_enc : L38.enc = [3, 1, 2] := by simp [L38, encLs, Lv.enc, Plain.enc_small]
theorem d08_enc : D08.enc = [1, 1, 97, 0, 2, 1, 0] := by
  simp only [D08, Dcl.enc, t08_enc, encT_one]
  simp [Plain.enc_small, tb, ByteArray.size]
theorem d08_hash : ¬ ((D08.hash : Nat) : Int) = 0 := by
  have : D08.hash ≠ 0 := by
    unfold Dcl.hash
    rw [if_pos d08_formed, d08_enc]
    decide
  omega
theorem t08_weak : Weak (.agg [.sc (.int .i64 2), .sc (.int .i64 0), .sc (.string ⟨#[]⟩), .sl 3 [[.sc (.int .i64 1), .sc (.int .i64 0), .sc (.slice none 0 0)]], .sc (.slice none 0 0)]) (.agg T08.pv) := by
  simp only [T08, Tm.pv, Lv.pv, List.map_cons, List.map_nil]
  exact Weak.agg ⟨.refl _, .refl _, .refl _, Weak.sl rfl (by simp) ⟨.refl _, .refl _, .nil 3, trivial⟩, .nil 5, trivial⟩
theorem d08_weak : Weak (.agg [.sc (.int .i64 1), .sc (.int .i64 0), .sc (.string ⟨#[97]⟩), .sc (.int .i64 2), .sc (.int .i64 0), .sc (.string ⟨#[]⟩), .sl 3 [[.sc (.int .i64 1), .sc (.int .i64 0), .sc (.slice none 0 0)]], .sc (.slice none 0 0), .sc (.int .i64 0), .sc (.int .i64 0), .sc (.string ⟨#[]⟩), .sc (.slice none 0 0), .sc (.slice none 0 0), .sc (.int .i64 0), .sc (.slice none 0 0)]) (.agg D08.pv) := by
  simp only [D08, Dcl.pv, T08, Tm.pv, Lv.pv, List.map_cons, List.map_nil]
  exact Weak.agg ⟨.refl _, .refl _, .refl _, .refl _, .refl _, .refl _, Weak.sl rfl (by simp) ⟨.refl _, .refl _, .nil 3, trivial⟩, .nil 5, .refl _, .refl _, .refl _, .nil 3, .nil 5, .refl _, .nil 6, trivial⟩
set_option maxHeartbeats 8000000 in
theorem alive08_p : PPure Try.prog F.law08_alive [] (.sc (.bool true)) := by
  have c1 : PPure Try.prog F.pack_Term [.agg [.sc (.int .i64 2), .sc (.int .i64 0), .sc (.string ⟨#[]⟩), .sl 3 [[.sc (.int .i64 1), .sc (.int .i64 0), .sc (.slice none 0 0)]], .sc (.slice none 0 0)]] (.tup [rowB [2, 1, 0], .sc (.bool true)]) := by
    have h := Term_p T08
    rw [t08_pack, t08_enc] at h
    exact h.weak ⟨t08_weak, trivial⟩ (.refl _)
  have c2 : PPure Try.prog F.pack_TakeTerm [.sl 1 [[.sc (.int .u8 1)], [.sc (.int .u8 5)], [.sc (.int .u8 9)]]] (.tup [.agg [.sc (.int .i64 1), .sc (.int .i64 5), .sc (.string ⟨#[]⟩), .sl 3 [], .sl 5 []], rowB [9], .sc (.bool true)]) := by
    have h := TakeTerm_p ([1, 5] ++ [9]) (by decide)
    rw [← v58_enc] at h
    unfold takeTermB at h
    rw [takeTerm_enc V58 v58_pack, v58_pack, v58_enc] at h
    simp only [V58, Tm.pv, List.map_nil, List.cons_append, List.nil_append] at h
    exact h
  have c3 : PPure Try.prog F.pack_Decl [.agg [.sc (.int .i64 1), .sc (.int .i64 0), .sc (.string ⟨#[97]⟩), .sc (.int .i64 2), .sc (.int .i64 0), .sc (.string ⟨#[]⟩), .sl 3 [[.sc (.int .i64 1), .sc (.int .i64 0), .sc (.slice none 0 0)]], .sc (.slice none 0 0), .sc (.int .i64 0), .sc (.int .i64 0), .sc (.string ⟨#[]⟩), .sc (.slice none 0 0), .sc (.slice none 0 0), .sc (.int .i64 0), .sc (.slice none 0 0)]] (.tup [rowB [1, 1, 97, 0, 2, 1, 0], .sc (.bool true)]) := by
    have h := Decl_p D08
    rw [d08_formed, d08_enc] at h
    exact h.weak ⟨d08_weak, trivial⟩ (.refl _)
  have c4 : PPure Try.prog F.pack_TakeDecl [rowB [1, 1, 97, 0, 2, 1, 0]] (.tup [.agg D08.pv, .sl 1 [], .sc (.bool true)]) := by
    obtain ⟨n', hn⟩ := takeDecl_enc D08 d08_formed []
    have h := TakeDecl_p (D08.enc ++ []) (by rw [d08_enc]; decide)
    unfold takeDeclB at h
    rw [hn, d08_formed, List.append_nil, d08_enc] at h
    exact h
  have c5 : PPure Try.prog F.pack_TakeLevel [.sl 1 [[.sc (.int .u8 3)], [.sc (.int .u8 1)], [.sc (.int .u8 2)]]] (.tup [.agg L38.pv, .sl 1 [], .sc (.bool true)]) := by
    have h := TakeLevel_p (L38.enc ++ []) (by rw [l38_enc]; decide)
    unfold takeLevelB at h
    rw [takeLevel_enc L38 l38_right, l38_right, List.append_nil, l38_enc] at h
    exact h
  have c6 : PPure Try.prog F.pack_Level [.agg L38.pv] (.tup [rowB [3, 1, 2], .sc (.bool true)]) := by
    have h := Level_p L38
    rw [l38_right, l38_enc] at h
    exact h
  have s1 : PPure Try.prog F.ref00_SameBytes [rowB [2, 1, 0], .sl 1 [[.sc (.int .u8 2)], [.sc (.int .u8 1)], [.sc (.int .u8 0)]]] (.sc (.bool true)) := by
    have h := SameBytes_p [2, 1, 0] [2, 1, 0]
    rw [decide_eq_true rfl] at h
    exact h
  have s2 : PPure Try.prog F.ref00_SameBytes [rowB [9], .sl 1 [[.sc (.int .u8 9)]]] (.sc (.bool true)) := by
    have h := SameBytes_p [9] [9]
    rw [decide_eq_true rfl] at h
    exact h
  have s3 : PPure Try.prog F.ref00_SameBytes [rowB [1, 1, 97, 0, 2, 1, 0], .sl 1 [[.sc (.int .u8 1)], [.sc (.int .u8 1)], [.sc (.int .u8 97)], [.sc (.int .u8 0)], [.sc (.int .u8 2)], [.sc (.int .u8 1)], [.sc (.int .u8 0)]]] (.sc (.bool true)) := by
    have h := SameBytes_p [1, 1, 97, 0, 2, 1, 0] [1, 1, 97, 0, 2, 1, 0]
    rw [decide_eq_true rfl] at h
    exact h
  have s4 : PPure Try.prog F.ref00_SameBytes [rowB [3, 1, 2], .sl 1 [[.sc (.int .u8 3)], [.sc (.int .u8 1)], [.sc (.int .u8 2)]]] (.sc (.bool true)) := by
    have h := SameBytes_p [3, 1, 2] [3, 1, 2]
    rw [decide_eq_true rfl] at h
    exact h
  have s5 : PPure Try.prog F.ref00_SameDecl [.agg D08.pv, .agg [.sc (.int .i64 1), .sc (.int .i64 0), .sc (.string ⟨#[97]⟩), .sc (.int .i64 2), .sc (.int .i64 0), .sc (.string ⟨#[]⟩), .sl 3 [[.sc (.int .i64 1), .sc (.int .i64 0), .sc (.slice none 0 0)]], .sc (.slice none 0 0), .sc (.int .i64 0), .sc (.int .i64 0), .sc (.string ⟨#[]⟩), .sc (.slice none 0 0), .sc (.slice none 0 0), .sc (.int .i64 0), .sc (.slice none 0 0)]] (.sc (.bool true)) := (SameDecl_p D08).weak ⟨.refl _, d08_weak, trivial⟩ (.refl _)
  have s6 : PPure Try.prog F.pack_Formed [.agg [.sc (.int .i64 1), .sc (.int .i64 0), .sc (.string ⟨#[97]⟩), .sc (.int .i64 2), .sc (.int .i64 0), .sc (.string ⟨#[]⟩), .sl 3 [[.sc (.int .i64 1), .sc (.int .i64 0), .sc (.slice none 0 0)]], .sc (.slice none 0 0), .sc (.int .i64 0), .sc (.int .i64 0), .sc (.string ⟨#[]⟩), .sc (.slice none 0 0), .sc (.slice none 0 0), .sc (.int .i64 0), .sc (.slice none 0 0)]] (.sc (.bool true)) := by
    have h := formed11_p D08
    rw [d08_formed] at h
    exact h.weak ⟨d08_weak, trivial⟩ (.refl _)
  have s7 : PPure Try.prog F.pack_Hash [.agg [.sc (.int .i64 1), .sc (.int .i64 0), .sc (.string ⟨#[97]⟩), .sc (.int .i64 2), .sc (.int .i64 0), .sc (.string ⟨#[]⟩), .sl 3 [[.sc (.int .i64 1), .sc (.int .i64 0), .sc (.slice none 0 0)]], .sc (.slice none 0 0), .sc (.int .i64 0), .sc (.int .i64 0), .sc (.string ⟨#[]⟩), .sc (.slice none 0 0), .sc (.slice none 0 0), .sc (.int .i64 0), .sc (.slice none 0 0)]] (.sc (.int .u64 (D08.hash : Nat))) := (Hash_p D08).weak ⟨d08_weak, trivial⟩ (.refl _)
  have hh := d08_hash
  have e1 : D08.pv.length = 15 := dcl_len D08
  have e2 : D08.pv.take 15 = D08.pv := dcl_take D08
  have e3 : D08.pv.all PV.one = true := dcl_oneA D08
  have e4 : L38.pv.length = 3 := pv_len L38
  have e5 : L38.pv.take 3 = L38.pv := pv_take L38
  have e6 : L38.pv.all PV.one = true := pv_one L38
  refine pure_by is_law08_alive (by simp) rfl fun hb nx => ?_
  clear hb
  repeat' (first | ((with_reducible first | refine wA (by omega) ?_ | refine wB (by omega) ?_ | refine wC (by omega) ?_ | refine wD (by omega) ?_ | refine wE ?_ ?_ | refine wF ?_ ?_ | refine wG ?_ ?_ | refine wH ?_ ?_ | refine wI ?_ ?_ | refine wJ ?_ ?_ | refine wK ?_ ?_ | refine wL ?_ ?_) <;> intro _) | (((with_reducible refine call_id ?_); (first | (refine call_pure (c1) ?_) | (refine call_pure (c2) ?_) | (refine call_pure (c3) ?_) | (refine call_pure (c4) ?_) | (refine call_pure (c5) ?_) | (refine call_pure (c6) ?_) | (refine call_pure (s1) ?_) | (refine call_pure (s2) ?_) | (refine call_pure (s3) ?_) | (refine call_pure (s4) ?_) | (refine call_pure (s5) ?_) | (refine call_pure (s6) ?_) | (refine call_pure (s7) ?_)))) | simp (maxSteps := 1000000) (disch := omega) only [go_sem, seval, mc_law08_alive, *])
  all_goals (exact fin_tmp (.inr rfl) cE3)
end
section
set_option maxRecDepth 20000
attribute [local go_sem] pv_len pv_take Nat.add_assoc tm_len tm_take pv_one tm_one id_ne id_ne' id_ne2 List.append_assoc tm_take_app tm_drop_app tm_d6 tm_d7 tm_d8 tm_d9 tm_d10 tm_d11 tm_d12 tm_d13 tm_d14 tm_d15 ent_len ent_take ent_one tpvB_len tpvB_take tpvB_one
def massC : List Ctr → Nat
  | [] => 0
  | c :: r => c.typ.mass + c.name.size / 16 + massC r
def fitsC : List Ctr → Prop
  | [] => True
  | c :: r => (c.name.size ≤ 9223372036854775807 ∧ c.typ.fits) ∧ fitsC r
theorem fitsC_mem : ∀ (ts : List Ctr) (k : Nat) (h : k < ts.length), fitsC ts → ts[k].name.size ≤ 9223372036854775807 ∧ ts[k].typ.fits
  | x :: r, 0, h, hf => by simpa using hf.1
  | x :: r, k + 1, h, hf => by simpa using fitsC_mem r k (by simpa using h) hf.2
theorem massC_take_succ : ∀ (ts : List Ctr) (k : Nat) (h : k < ts.length), massC (ts.take (k + 1)) = massC (ts.take k) + (ts[k].typ.mass + ts[k].name.size / 16)
  | x :: r, 0, h => by simp [massC]
  | x :: r, k + 1, h => by
    have := massC_take_succ r k (by simpa using h)
    simp only [List.take_succ_cons, massC, List.getElem_cons_succ, this]
    omega
theorem massC_append : ∀ a b : List Ctr, massC (a ++ b) = massC a + massC b
  | [], b => by simp [massC]
  | x :: r, b => by simp only [List.cons_append, massC, massC_append r b]; omega
theorem massC_take_le (ts : List Ctr) (k : Nat) : massC (ts.take k) ≤ massC ts := by
  have h := massC_append (ts.take k) (ts.drop k)
  rw [List.take_append_drop] at h
  omega
def Dcl.mass (d : Dcl) : Nat := d.typ.mass + (d.val.mass + (d.name.size / 16 + massC d.ctors))
def Dcl.fits (d : Dcl) : Prop := d.name.size ≤ 9223372036854775807 ∧ d.typ.fits ∧ d.val.fits ∧ fitsC d.ctors
theorem tdiv16 (n : Nat) : Int.tdiv (n : Int) 16 = ((n / 16 : Nat) : Int) := by rw [Int.tdiv_eq_ediv_of_nonneg (by omega)]; omega
set_option maxHeartbeats 16000000 in
theorem DeclNodes_p (most : Nat) (hm : most ≤ 1000000) (d : Dcl) (hl : d.ctors.length ≤ most) (hf : d.fits) : PPure Try.prog F.ref00_DeclNodes [.agg d.pv, .sc (.int .i64 most)] (.sc (.int .i64 (min d.mass (most + 1) : Nat))) := by
  obtain ⟨hf1, hf2, hf3, hf4⟩ := hf
  refine pure_by is_ref00_DeclNodes (by simp) rfl fun hb nx => ?_
  clear hb
  have c1 := Mass_p most hm d.typ.size d.typ (Nat.le_refl _) hf2
  have c2 := Mass_p most hm d.val.size d.val (Nat.le_refl _) hf3
  have hfk := Kept.mk hf4
  clear hf2 hf3 hf4
  simp only [Dcl.mass]
  obtain ⟨kind, params, name, typ, val, fixed, ctors⟩ := d
  simp only [Dcl.pv] at c1 c2 hl hf1 hfk ⊢
  have hd := tdiv16 name.size
  have hA : Kept (min (min typ.mass (most + 1) + min val.mass (most + 1) + name.size / 16) (most + 1) = min (typ.mass + (val.mass + name.size / 16)) (most + 1)) := Kept.mk (by omega)
  have hB : min typ.mass (most + 1) ≤ most + 1 ∧ min val.mass (most + 1) ≤ most + 1 := ⟨by omega, by omega⟩
  generalize min typ.mass (most + 1) = m1 at c1 hA hB
  generalize min val.mass (most + 1) = m2 at c2 hA hB
  obtain ⟨hB1, hB2⟩ := hB
  repeat' (first | ((with_reducible first | refine wA (by omega) ?_ | refine wB (by omega) ?_ | refine wC (by omega) ?_ | refine wD (by omega) ?_ | refine wE ?_ ?_ | refine wF ?_ ?_ | refine wG ?_ ?_ | refine wH ?_ ?_ | refine wI ?_ ?_ | refine wJ ?_ ?_ | refine wK ?_ ?_ | refine wL ?_ ?_) <;> intro _) | (((with_reducible refine call_id ?_); (first | (refine call_pure (c1) ?_) | (refine call_pure (c2) ?_)))) | simp (maxSteps := 1000000) (disch := omega) only [go_sem, seval, mc_ref00_DeclNodes, hd, *])
  refine c_loopW 576460752034988128 (by kernel_rfl) (fun j f H m => ∃ i t : Nat, j = ctors.length - i ∧ i ≤ ctors.length ∧ Kept (min t (most + 1) = min (typ.mass + (val.mass + (name.size / 16 + massC (ctors.take i)))) (most + 1)) ∧ t ≤ 2 * most + 2 + 1152921504606846976 ∧ f 5 = .sc (.int .i64 t) ∧ f 6 = .sc (.int .i64 i)) _ ⟨0, m1 + m2 + name.size / 16, rfl, cE1, Kept.mk (by simp only [List.take_zero, massC, Nat.add_zero]; exact hA.out), by omega, by simp [upd], cE1⟩ ?_
  clear hA
  rintro _ f H m ⟨i, t, rfl, hi, ht, ht2, e5, e6⟩
  by_cases hgo : i < ctors.length ∧ t ≤ most
  · obtain ⟨hlt, hfull⟩ := hgo
    have eg : ctors[i]? = some ctors[i] := List.getElem?_eq_getElem hlt
    have hs := massC_take_succ ctors i hlt
    obtain ⟨g1, g2⟩ := fitsC_mem ctors i hlt hfk.out
    have c3 := Mass_p most hm ctors[i].typ.size ctors[i].typ (Nat.le_refl _) g2
    have hd2 := tdiv16 ctors[i].name.size
    have hC : min ctors[i].typ.mass (most + 1) ≤ most + 1 := by omega
    have hk : Kept (min (t + (min ctors[i].typ.mass (most + 1) + ctors[i].name.size / 16)) (most + 1) = min (typ.mass + (val.mass + (name.size / 16 + massC (ctors.take (i + 1))))) (most + 1)) := Kept.mk (by have := ht.out; omega)
    clear ht hs g2
    generalize min ctors[i].typ.mass (most + 1) = m3 at c3 hC hk
    repeat' (first | ((with_reducible first | refine wA (by omega) ?_ | refine wB (by omega) ?_ | refine wC (by omega) ?_ | refine wD (by omega) ?_ | refine wE ?_ ?_ | refine wF ?_ ?_ | refine wG ?_ ?_ | refine wH ?_ ?_ | refine wI ?_ ?_ | refine wJ ?_ ?_ | refine wK ?_ ?_ | refine wL ?_ ?_) <;> intro _) | (((with_reducible refine call_id ?_); (first | (refine call_pure (c3) ?_)))) | simp (maxSteps := 1000000) (disch := omega) only [go_sem, seval, Ctr.pv, hd2, *])
    exact Nx.mk (ctors.length - (i + 1)) cE1 ⟨i + 1, t + (m3 + ctors[i].name.size / 16), rfl, cE1, hk, by omega, by simp [upd], cE1⟩
  · have hfin : min t (most + 1) = min (typ.mass + (val.mass + (name.size / 16 + massC ctors))) (most + 1) := by
      have ht' := ht.out
      by_cases h : i < ctors.length
      · have := massC_take_le ctors i; omega
      · have e : ctors.take i = ctors := List.take_of_length_le (by omega)
        rw [e] at ht'
        exact ht'
    have hor : (i < ctors.length ∧ most < t) ∨ ¬ i < ctors.length := by omega
    rw [← hfin]
    clear hgo ht hfin
    rcases hor with ⟨h, h'⟩ | h
    all_goals
      repeat' (first | ((with_reducible first | refine wA (by omega) ?_ | refine wB (by omega) ?_ | refine wC (by omega) ?_ | refine wD (by omega) ?_ | refine wE ?_ ?_ | refine wF ?_ ?_ | refine wG ?_ ?_ | refine wH ?_ ?_ | refine wI ?_ ?_ | refine wJ ?_ ?_ | refine wK ?_ ?_ | refine wL ?_ ?_) <;> intro _) | simp (maxSteps := 1000000) (disch := omega) only [go_sem, seval, *])
      refine fin_tmp (.inr rfl) ?_
      simp (disch := omega) only [go_sem, seval, *]
      omega
def Dcl.great (d : Dcl) : Bool := decide (20 < d.ctors.length ∨ 4000 < d.mass)
theorem great08_p (d : Dcl) (hf : d.fits) : PPure Try.prog F.law08_Great [.agg d.pv] (.sc (.bool d.great)) := by
  refine pure_by is_law08_Great (by simp) rfl fun hb nx => ?_
  clear hb
  simp only [Dcl.great]
  by_cases g1 : 20 < d.ctors.length
  · rw [decide_eq_true (.inl g1)]
    obtain ⟨kind, params, name, typ, val, fixed, ctors⟩ := d
    simp only [Dcl.pv] at g1 ⊢
    repeat' (first | ((with_reducible first | refine wA (by omega) ?_ | refine wB (by omega) ?_ | refine wC (by omega) ?_ | refine wD (by omega) ?_ | refine wE ?_ ?_ | refine wF ?_ ?_ | refine wG ?_ ?_ | refine wH ?_ ?_ | refine wI ?_ ?_ | refine wJ ?_ ?_ | refine wK ?_ ?_ | refine wL ?_ ?_) <;> intro _) | simp (maxSteps := 1000000) (disch := omega) only [go_sem, seval, mc_law08_Great, *])
    all_goals (exact fin_tmp (.inr rfl) cE3)
  have c1 := DeclNodes_p 4000 (by omega) d (by omega) hf
  by_cases g2 : 4000 < d.mass
  · rw [decide_eq_true (.inr g2)]
    rw [show min d.mass (4000 + 1) = 4001 by omega] at c1
    obtain ⟨kind, params, name, typ, val, fixed, ctors⟩ := d
    simp only [Dcl.pv] at g1 c1 ⊢
    clear g2 hf
    repeat' (first | ((with_reducible first | refine wA (by omega) ?_ | refine wB (by omega) ?_ | refine wC (by omega) ?_ | refine wD (by omega) ?_ | refine wE ?_ ?_ | refine wF ?_ ?_ | refine wG ?_ ?_ | refine wH ?_ ?_ | refine wI ?_ ?_ | refine wJ ?_ ?_ | refine wK ?_ ?_ | refine wL ?_ ?_) <;> intro _) | (((with_reducible refine call_id ?_); (first | (refine call_pure (c1) ?_)))) | simp (maxSteps := 1000000) (disch := omega) only [go_sem, seval, mc_law08_Great, tm_t12, tm_t7, *])
    all_goals (exact fin_tmp (.inr rfl) cE3)
  · rw [decide_eq_false (by omega)]
    rw [show min d.mass (4000 + 1) = d.mass by omega] at c1
    generalize d.mass = m at c1 g2
    obtain ⟨kind, params, name, typ, val, fixed, ctors⟩ := d
    simp only [Dcl.pv] at g1 c1 ⊢
    clear hf
    repeat' (first | ((with_reducible first | refine wA (by omega) ?_ | refine wB (by omega) ?_ | refine wC (by omega) ?_ | refine wD (by omega) ?_ | refine wE ?_ ?_ | refine wF ?_ ?_ | refine wG ?_ ?_ | refine wH ?_ ?_ | refine wI ?_ ?_ | refine wJ ?_ ?_ | refine wK ?_ ?_ | refine wL ?_ ?_) <;> intro _) | (((with_reducible refine call_id ?_); (first | (refine call_pure (c1) ?_)))) | simp (maxSteps := 1000000) (disch := omega) only [go_sem, seval, mc_law08_Great, tm_t12, tm_t7, *])
    all_goals (exact fin_tmp (.inr rfl) cE3)
end
section
set_option maxRecDepth 20000
attribute [local go_sem] Nat.add_assoc id_ne id_ne' id_ne2 List.append_assoc tm_len tm_take tm_one bC_len bC_one rowB_flatR tm_take_app tm_drop_app tm_d5 tm_d6 tm_d7 tm_d8 tm_d9 tm_d10
mutual
theorem nodes_mass8 : ∀ t : Tm, t.nodes ≤ t.mass
  | .mk k n s ls args => by have := nodesT_mass8 args; simp only [Tm.nodes, Tm.mass]; omega
theorem nodesT_mass8 : ∀ ts : List Tm, nodesT ts ≤ massT ts
  | [] => Nat.le_refl _
  | t :: r => by have := nodes_mass8 t; have := nodesT_mass8 r; simp only [nodesT, massT]; omega
end
end
section
set_option maxRecDepth 20000
attribute [local go_sem] Nat.add_assoc id_ne id_ne' id_ne2 List.append_assoc bC_len bC_one tm_len tm_take tm_one dcl_len dcl_take dcl_oneA tm_take_app tm_drop_app tm_d5 tm_d6 tm_d7 tm_d8 tm_d9 tm_d10 tm_d11 tm_d12 tm_d13 tm_d14 tm_d15 tm_y6 tm_y7 tm_y10 tm_y11 tm_y12 List.all_append
set_option maxHeartbeats 4000000 in
theorem rDecl_p (d : Dcl) : PPure Try.prog F.ref08_Decl [.agg d.pv] (rowN d.formed d.enc) := by
  cases hr : d.formed with
  | false =>
    have c1 := Formed08_p d
    rw [hr] at c1
    refine pure_by is_ref08_Decl (by simp) rfl fun hb nx => ?_
    clear hb hr
    repeat' (first | ((with_reducible first | refine wA (by omega) ?_ | refine wB (by omega) ?_ | refine wC (by omega) ?_ | refine wD (by omega) ?_ | refine wE ?_ ?_ | refine wF ?_ ?_ | refine wG ?_ ?_ | refine wH ?_ ?_ | refine wI ?_ ?_ | refine wJ ?_ ?_ | refine wK ?_ ?_ | refine wL ?_ ?_) <;> intro _) | (((with_reducible refine call_id ?_); (first | (refine call_pure (c1) ?_)))) | simp (maxSteps := 1000000) (disch := omega) only [go_sem, seval, mc_ref08_Decl, *])
    refine fin_ret (r0 := .tup [.sc (.slice none 0 0), .sc (.bool false)]) 0 cE2 ?_
    exact .of_eq rfl
  | true =>
    refine PMut.pure (rowN_imm _ _) (fun nx => rDecl_m d hr noneOwn nx) ?_
    rintro nx H' nx' r0 ⟨-, ⟨id, w, -, -, rfl, h4⟩, -⟩
    refine ⟨2, (frzF_weak _ _ _).trans ?_⟩
    rw [frz_tup1]
    simp only [List.map_cons, List.map_nil]
    exact Weak.tup ⟨.of_eq (pk_frz h4), .of_eq frz_sc1, trivial⟩
theorem xor_low (h c : Nat) (hc : c < 256) : h ^^^ c = h - h % 256 + (h % 256 ^^^ c) := by
  have h1 := @Nat.xor_mod_two_pow h c 8
  have h2 := @Nat.xor_div_two_pow h c 8
  rw [show (2 : Nat) ^ 8 = 256 from rfl] at h1 h2
  rw [Nat.mod_eq_of_lt hc] at h1
  rw [Nat.div_eq_of_lt hc, Nat.xor_zero] at h2
  omega
theorem xor_p (h : Nat) (hh : h < 18446744073709551616) (c : UInt8) : PPure Try.prog F.ref08_xor [.sc (.int .u64 h), .sc (.int .u8 c.toNat)] (.sc (.int .u64 (h ^^^ c.toNat : Nat))) := by
  refine pure_by is_ref08_xor (by simp) rfl fun hb nx => ?_
  clear hb
  have hc := c.toNat_lt
  have e0 := xor_low h c.toNat hc
  have hr : h % 256 ^^^ c.toNat < 2 ^ 8 := Nat.xor_lt_two_pow (by omega) hc
  have f1 : Int.tmod (h : Int) 256 = ((h % 256 : Nat) : Int) := by rw [Int.tmod_eq_emod_of_nonneg (by omega)]; omega
  have f2 : IntKind.u64.wrap ((h : Int) - ((h % 256 : Nat) : Int)) = ((h - h % 256 : Nat) : Int) := by rw [IntKind.wrap_u64]; omega
  have f3 : IntKind.u8.wrap ((h % 256 : Nat) : Int) = ((h % 256 : Nat) : Int) := by rw [IntKind.wrap_u8]; omega
  have f4 : IntKind.u8.wrap ((BitVec.ofInt IntKind.u8.bits ((h % 256 : Nat) : Int) ^^^ BitVec.ofInt IntKind.u8.bits ((c.toNat : Nat) : Int)).toNat : Int) = ((h % 256 ^^^ c.toNat : Nat) : Int) := by
    have g : ∀ a : Nat, a < 256 → (BitVec.ofInt 8 (a : Int)).toNat = a := fun a ha => by
      rw [BitVec.ofInt_natCast, BitVec.toNat_ofNat]
      exact Nat.mod_eq_of_lt (by omega)
    show IntKind.u8.wrap ((BitVec.ofInt 8 ((h % 256 : Nat) : Int) ^^^ BitVec.ofInt 8 ((c.toNat : Nat) : Int)).toNat : Int) = _
    rw [BitVec.toNat_xor, g _ (by omega), g _ hc, IntKind.wrap_u8]
    omega
  have f4' := f4
  simp only [IntKind.bits] at f4'
  have f5 : IntKind.u64.wrap ((h % 256 ^^^ c.toNat : Nat) : Int) = ((h % 256 ^^^ c.toNat : Nat) : Int) := by rw [IntKind.wrap_u64]; omega
  have f6 : IntKind.u64.wrap (((h - h % 256 : Nat) : Int) + ((h % 256 ^^^ c.toNat : Nat) : Int)) = ((h - h % 256 + (h % 256 ^^^ c.toNat) : Nat) : Int) := by rw [IntKind.wrap_u64]; omega
  rw [e0]
  clear e0 hr
  repeat' (first | ((with_reducible first | refine wA (by omega) ?_ | refine wB (by omega) ?_ | refine wC (by omega) ?_ | refine wD (by omega) ?_ | refine wE ?_ ?_ | refine wF ?_ ?_ | refine wG ?_ ?_ | refine wH ?_ ?_ | refine wI ?_ ?_ | refine wJ ?_ ?_ | refine wK ?_ ?_ | refine wL ?_ ?_) <;> intro _) | simp (maxSteps := 1000000) (disch := omega) only [go_sem, Nat.reduceAdd, Nat.reduceMul, Nat.reduceSub, Nat.reduceLeDiff, Nat.reduceEqDiff, Nat.reduceBEq, ↓reduceIte, reduceCtorEq, Int.reduceEq, Int.reduceLE, Int.reduceLT, Int.reduceAdd, Int.reduceSub, Int.reduceNeg, Int.reduceToNat, Int.reduceNe, Nat.reducePow, Nat.reduceShiftRight, Nat.reduceMod, mc_ref08_xor, *])
  all_goals (exact fin_tmp (.inr rfl) cE3)
set_option maxHeartbeats 4000000 in
theorem rHash_p (d : Dcl) : PPure Try.prog F.ref08_Hash [.agg d.pv] (.sc (.int .u64 (d.hash : Nat))) := by
  refine pure_by is_ref08_Hash (by simp) rfl fun hb nx => ?_
  clear hb
  have c1 := rDecl_p d
  unfold Dcl.hash
  cases hr : d.formed with
  | false =>
    rw [hr] at c1
    clear hr
    repeat' (first | ((with_reducible first | refine wA (by omega) ?_ | refine wB (by omega) ?_ | refine wC (by omega) ?_ | refine wD (by omega) ?_ | refine wE ?_ ?_ | refine wF ?_ ?_ | refine wG ?_ ?_ | refine wH ?_ ?_ | refine wI ?_ ?_ | refine wJ ?_ ?_ | refine wK ?_ ?_ | refine wL ?_ ?_) <;> intro _) | (((with_reducible refine call_id ?_); (first | (refine call_pure (c1) ?_)))) | simp (maxSteps := 1000000) (disch := omega) only [go_sem, Nat.reduceAdd, Nat.reduceMul, Nat.reduceSub, Nat.reduceLeDiff, Nat.reduceEqDiff, Nat.reduceBEq, ↓reduceIte, reduceCtorEq, Int.reduceEq, Int.reduceLE, Int.reduceLT, Int.reduceAdd, Int.reduceSub, Int.reduceNeg, Int.reduceToNat, Int.reduceNe, Nat.reducePow, Nat.reduceShiftRight, Nat.reduceMod, mc_ref08_Hash, rowN, *])
    all_goals (exact fin_tmp (.inr rfl) cE3)
  | true =>
    rw [hr] at c1
    have hlen := d.enc_len (d.packP_of hr)
    clear hr
    obtain ⟨l, hl⟩ : ∃ l, Kept (l = d.enc) := ⟨_, Kept.mk rfl⟩
    rw [← hl.out] at c1 hlen ⊢
    clear hl
    repeat' (first | ((with_reducible first | refine wA (by omega) ?_ | refine wB (by omega) ?_ | refine wC (by omega) ?_ | refine wD (by omega) ?_ | refine wE ?_ ?_ | refine wF ?_ ?_ | refine wG ?_ ?_ | refine wH ?_ ?_ | refine wI ?_ ?_ | refine wJ ?_ ?_ | refine wK ?_ ?_ | refine wL ?_ ?_) <;> intro _) | (((with_reducible refine call_id ?_); (first | (refine call_pure (c1) ?_)))) | simp (maxSteps := 1000000) (disch := omega) only [go_sem, Nat.reduceAdd, Nat.reduceMul, Nat.reduceSub, Nat.reduceLeDiff, Nat.reduceEqDiff, Nat.reduceBEq, ↓reduceIte, reduceCtorEq, Int.reduceEq, Int.reduceLE, Int.reduceLT, Int.reduceAdd, Int.reduceSub, Int.reduceNeg, Int.reduceToNat, Int.reduceNe, Nat.reducePow, Nat.reduceShiftRight, Nat.reduceMod, mc_ref08_Hash, rowN, rowB, *])
    refine c_loopW 134201440 (by kernel_rfl) (fun j f H m => ∃ i : Nat, j = l.length - i ∧ i ≤ l.length ∧ f 6 = .sc (.int .i64 i) ∧ f 5 = .sc (.int .u64 (hashL (l.take i) : Nat))) _ ⟨0, rfl, Nat.zero_le _, cE1, ?rr⟩ ?_
    case rr => simp only [upd_get, Nat.reduceEqDiff, ↓reduceIte, List.take_zero]; rfl
    rintro _ f H m ⟨i, rfl, hi, e6, e5⟩
    by_cases hlt : i < l.length
    · have eg : l[i]? = some l[i] := List.getElem?_eq_getElem hlt
      have c2 := xor_p (hashL (l.take i)) (hashL_lt _) l[i]
      have h3 : IntKind.u64.wrap (((hashL (l.take i) ^^^ l[i].toNat : Nat) : Int) * 1099511628211) = ((hashL (l.take (i + 1)) : Nat) : Int) := by rw [hashL_snoc l i hlt, mul64]; rfl
      repeat' (first | ((with_reducible first | refine wA (by omega) ?_ | refine wB (by omega) ?_ | refine wC (by omega) ?_ | refine wD (by omega) ?_ | refine wE ?_ ?_ | refine wF ?_ ?_ | refine wG ?_ ?_ | refine wH ?_ ?_ | refine wI ?_ ?_ | refine wJ ?_ ?_ | refine wK ?_ ?_ | refine wL ?_ ?_) <;> intro _) | (((with_reducible refine call_id ?_); (first | (refine call_pure (c2) ?_)))) | simp (maxSteps := 1000000) (disch := omega) only [go_sem, Nat.reduceAdd, Nat.reduceMul, Nat.reduceSub, Nat.reduceLeDiff, Nat.reduceEqDiff, Nat.reduceBEq, ↓reduceIte, reduceCtorEq, Int.reduceEq, Int.reduceLE, Int.reduceLT, Int.reduceAdd, Int.reduceSub, Int.reduceNeg, Int.reduceToNat, Int.reduceNe, Nat.reducePow, Nat.reduceShiftRight, Nat.reduceMod, *])
      exact Nx.mk (l.length - (i + 1)) (by omega) ⟨i + 1, rfl, cE1, cE1, cE1⟩
    · obtain rfl : i = l.length := by omega
      rw [List.take_length] at e5
      repeat' (first | ((with_reducible first | refine wA (by omega) ?_ | refine wB (by omega) ?_ | refine wC (by omega) ?_ | refine wD (by omega) ?_ | refine wE ?_ ?_ | refine wF ?_ ?_ | refine wG ?_ ?_ | refine wH ?_ ?_ | refine wI ?_ ?_ | refine wJ ?_ ?_ | refine wK ?_ ?_ | refine wL ?_ ?_) <;> intro _) | simp (maxSteps := 1000000) (disch := omega) only [go_sem, Nat.reduceAdd, Nat.reduceMul, Nat.reduceSub, Nat.reduceLeDiff, Nat.reduceEqDiff, Nat.reduceBEq, ↓reduceIte, reduceCtorEq, Int.reduceEq, Int.reduceLE, Int.reduceLT, Int.reduceAdd, Int.reduceSub, Int.reduceNeg, Int.reduceToNat, Int.reduceNe, Nat.reducePow, Nat.reduceShiftRight, Nat.reduceMod, *])
      all_goals (exact fin_tmp (.inr rfl) cE3)
theorem frzF_slZ (k : Nat) (H : Nat → Option PObj) (sz : Nat) (es : List (List PV)) : frzF k H (.sl sz es) = .sl sz es := by cases k <;> rfl
theorem frzF_tpv (k : Nat) (H : Nat → Option PObj) (t : Tm) : t.pv.map (frzF k H) = t.pv := by
  cases t
  simp [Tm.pv, frzF_sc, frzF_slZ]
theorem LRow.frz {α : Type} {f : α → List PV} {sz : Nat} (hf : ∀ x, (f x).length = sz) {H : Nat → Option PObj} {lo m : Nat} {a : PV} {xs : List α} (h : LRow f sz H lo m a xs) : Weak (frzF 1 H a) (.sl sz (xs.map f)) := by
  rcases h with ⟨rfl, rfl⟩ | ⟨id, w, h1, h2, rfl, h4⟩
  · exact .nil sz
  · have hl : (xs.flatMap f).length = xs.length * sz := flat_lenG f sz hf xs
    simp only [frzF, h4, List.drop_zero]
    rw [if_pos (by omega), List.take_of_length_le (by omega)]
    refine .trans (Weak.fslW (es' := xs.map f) (by rw [chunks_length, List.length_map]) (fun e he => ?_) ?_) (Weak.fsl sz _)
    · obtain ⟨x, _, rfl⟩ := List.mem_map.1 he; exact hf x
    · rw [List.map_id', chunks_flatten sz xs.length _ (by omega), List.flatMap_def]
      exact .refl _
theorem dcl_frz (H : Nat → Option PObj) {k p : Int} {nm : ByteArray} {ty val : Tm} {fx : Int} {a : PV} {ctors : List Ctr} (ha : Weak (frzF 1 H a) (.sl 6 (ctors.map Ctr.pv))) :
    Weak (frzF 2 H (.agg (.sc (.int .i64 k) :: .sc (.int .i64 p) :: .sc (.string nm) :: (ty.pv ++ (val.pv ++ [.sc (.int .i64 fx), a]))))) (.agg (Dcl.mk k p nm ty val fx ctors).pv) := by
  have e : frzF 2 H (.agg (.sc (.int .i64 k) :: .sc (.int .i64 p) :: .sc (.string nm) :: (ty.pv ++ (val.pv ++ [.sc (.int .i64 fx), a])))) = .agg (.sc (.int .i64 k) :: .sc (.int .i64 p) :: .sc (.string nm) :: (ty.pv ++ (val.pv ++ [.sc (.int .i64 fx), frzF 1 H a]))) := by
    rw [frzF_agg1]
    simp only [List.map_cons, List.map_append, List.map_nil, frzF_tpv, frzF_sc]
  rw [e]
  simp only [Dcl.pv]
  exact Weak.agg ⟨.refl _, .refl _, .refl _, WeakL.append (WeakL.refl _) (WeakL.append (WeakL.refl _) ⟨.refl _, ha, trivial⟩)⟩
set_option maxHeartbeats 8000000 in
theorem CopyDecl_p (d : Dcl) (h1 : d.typ.nodes ≤ 2 ^ 40) (h2 : d.val.nodes ≤ 2 ^ 40) (h3 : ∀ c ∈ d.ctors, c.typ.nodes ≤ 2 ^ 40) (h4 : d.ctors.length ≤ 2 ^ 20) : PPure Try.prog F.ref00_CopyDecl [.agg d.pv] (.agg d.pv) := by
  have c1 := CopyTerm_p _ d.typ (Nat.le_refl _) h1
  have c2 := CopyTerm_p _ d.val (Nat.le_refl _) h2
  obtain ⟨kind, params, name, typ, val, fixed, ctors⟩ := d
  refine pure_by is_ref00_CopyDecl (by simp) (by show immL _ = true; exact dclP_imm _) fun hb nx => ?_
  clear hb
  simp only at c1 c2 h3 h4
  repeat' (first | ((with_reducible first | refine wA (by omega) ?_ | refine wB (by omega) ?_ | refine wC (by omega) ?_ | refine wD (by omega) ?_ | refine wE ?_ ?_ | refine wF ?_ ?_ | refine wG ?_ ?_ | refine wH ?_ ?_ | refine wI ?_ ?_ | refine wJ ?_ ?_ | refine wK ?_ ?_ | refine wL ?_ ?_) <;> intro _) | (((with_reducible refine call_id ?_); (first | (refine call_pure (c1) ?_) | (refine call_pure (c2) ?_)))) | simp (maxSteps := 1000000) (disch := omega) only [go_sem, seval, mc_ref00_CopyDecl, Dcl.pv, *])
  refine c_loopW 2199023222800 (by kernel_rfl) (fun j f H2 m => ∃ i : Nat, j = ctors.length - i ∧ i ≤ ctors.length ∧ f 4 = .sc (.int .i64 i) ∧ nx + 4 ≤ m ∧ H2 (nx + 1) = some ⟨[.sc (.int .i64 0), .sc (.int .i64 0), .sc (.string ⟨#[]⟩), .sc (.int .i64 0), .sc (.int .i64 0), .sc (.string ⟨#[]⟩), .sc (.slice none 0 0), .sc (.slice none 0 0), .sc (.int .i64 0), .sc (.int .i64 0), .sc (.string ⟨#[]⟩), .sc (.slice none 0 0), .sc (.slice none 0 0), .sc (.int .i64 0), .sc (.slice none 0 0)], true⟩ ∧ ∃ a, H2 (nx + 3) = some ⟨.sc (.int .i64 kind) :: .sc (.int .i64 params) :: .sc (.string name) :: (typ.pv ++ (val.pv ++ [.sc (.int .i64 fixed), a])), true⟩ ∧ Kept (LRow Ctr.pv 6 H2 (nx + 4) m a (ctors.take i))) _ ⟨0, rfl, Nat.zero_le _, cE1, ?mm, ?bb, _, ?cc, Kept.mk (.inl ⟨rfl, rfl⟩)⟩ ?_
  case mm => simp only [Nat.add_assoc]; exact Nat.add_le_add_left (by decide) _
  case bb => simp [upd]
  case cc => simp [upd]
  rintro _ f H2 m ⟨i, rfl, hi, e4, hm, b2, a, c3, hrow⟩
  by_cases hlt : i < ctors.length
  · have eg : ctors[i]? = some ctors[i] := List.getElem?_eq_getElem hlt
    have c4 := CopyTerm_p _ ctors[i].typ (Nat.le_refl _) (h3 _ (List.getElem_mem hlt))
    have ht : (ctors.take i).length = i := by rw [List.length_take]; omega
    have hE1 : ctors.take (i + 1) = ctors.take i ++ [ctors[i]] := List.take_succ_eq_append_getElem hlt
    obtain ⟨h0, rfl⟩ | ⟨id, w', j1, j2, rfl, j4⟩ := hrow
    · have hi0 : i = 0 := by
        rcases List.take_eq_nil_iff.1 h0 with h | h
        · exact h
        · rw [h] at hlt; simp at hlt
      subst hi0
      repeat' (first | ((with_reducible first | refine wA (by omega) ?_ | refine wB (by omega) ?_ | refine wC (by omega) ?_ | refine wD (by omega) ?_ | refine wE ?_ ?_ | refine wF ?_ ?_ | refine wG ?_ ?_ | refine wH ?_ ?_ | refine wI ?_ ?_ | refine wJ ?_ ?_ | refine wK ?_ ?_ | refine wL ?_ ?_) <;> intro _) | (((with_reducible refine call_id ?_); (first | (refine call_pure (c4) ?_)))) | simp (maxSteps := 1000000) (disch := omega) only [go_sem, seval, Ctr.pv, *])
      refine Nx.mk (ctors.length - 1) cE1 ⟨1, rfl, cE1, cE1, ?mm, ?bb, .osl (m + 22) 0 1 6, ?cc, ?rr⟩
      case mm => omega
      case bb => exact upd_out (by omega) (upd_out (by omega) b2)
      case cc => rw [upd_same]
      case rr =>
        refine Kept.mk (.inr ⟨m + 22, false, by omega, by omega, ?_, ?_⟩)
        · rw [hE1]; rfl
        · rw [upd_ne _ _ (show m + 22 ≠ nx + 3 by omega), upd_same]
          simp [hE1, Ctr.pv]
    · have hfl : ((ctors.take i).flatMap Ctr.pv).length = i * 6 := by rw [flat_lenG _ 6 ctr_len, ht]
      have hz : (i + 1) * 96 ≤ 140737488355328 ∧ i ≤ 4611686018427387903 := by omega
      rw [ht] at c3
      repeat' (first | ((with_reducible first | refine wA (by omega) ?_ | refine wB (by omega) ?_ | refine wC (by omega) ?_ | refine wD (by omega) ?_ | refine wE ?_ ?_ | refine wF ?_ ?_ | refine wG ?_ ?_ | refine wH ?_ ?_ | refine wI ?_ ?_ | refine wJ ?_ ?_ | refine wK ?_ ?_ | refine wL ?_ ?_) <;> intro _) | (((with_reducible refine call_id ?_); (first | (refine call_pure (c4) ?_)))) | simp (maxSteps := 1000000) (disch := omega) only [go_sem, seval, Ctr.pv, *])
      refine Nx.mk (ctors.length - (i + 1)) cE1 ⟨i + 1, rfl, cE1, cE1, ?mm, ?bb, .osl (m + 22) 0 (i + 1) 6, ?cc, ?rr⟩
      case mm => omega
      case bb => exact upd_out (by omega) (upd_out (by omega) (upd_out (by omega) b2))
      case cc => rw [upd_same]
      case rr =>
        refine Kept.mk (.inr ⟨m + 22, false, by omega, by omega, ?_, ?_⟩)
        · rw [hE1, List.length_append, ht]; rfl
        · rw [upd_ne _ _ (show m + 22 ≠ nx + 3 by omega), upd_same]
          rw [hE1, List.flatMap_append, List.flatMap_cons, List.flatMap_nil, List.append_nil]; rfl
  · obtain rfl : i = ctors.length := by omega
    have hfrz := (hrow.out.weak (H' := upd H2 (nx + 1) none) (Nat.le_refl m) fun j e1 e2 => upd_ne _ _ (show j ≠ nx + 1 by omega)).frz ctr_len
    rw [List.take_length] at hfrz
    obtain ⟨h0, rfl⟩ | ⟨id, w', j1, j2, rfl, j4⟩ := hrow.out
    · clear hrow h0
      replace hfrz := Kept.mk hfrz
      repeat' (first | ((with_reducible first | refine wA (by omega) ?_ | refine wB (by omega) ?_ | refine wC (by omega) ?_ | refine wD (by omega) ?_ | refine wE ?_ ?_ | refine wF ?_ ?_ | refine wG ?_ ?_ | refine wH ?_ ?_ | refine wI ?_ ?_ | refine wJ ?_ ?_ | refine wK ?_ ?_ | refine wL ?_ ?_) <;> intro _) | simp (maxSteps := 1000000) (disch := omega) only [go_sem, seval, *])
      refine fin_retF (r0 := .agg (.sc (.int .i64 kind) :: .sc (.int .i64 params) :: .sc (.string name) :: (typ.pv ++ (val.pv ++ [.sc (.int .i64 fixed), .sc (.slice none 0 0)])))) 2 cE2 (dcl_frz _ hfrz.out)
    · clear hrow
      replace hfrz := Kept.mk hfrz
      generalize hlz : (ctors.take ctors.length).length = lz at *
      repeat' (first | ((with_reducible first | refine wA (by omega) ?_ | refine wB (by omega) ?_ | refine wC (by omega) ?_ | refine wD (by omega) ?_ | refine wE ?_ ?_ | refine wF ?_ ?_ | refine wG ?_ ?_ | refine wH ?_ ?_ | refine wI ?_ ?_ | refine wJ ?_ ?_ | refine wK ?_ ?_ | refine wL ?_ ?_) <;> intro _) | simp (maxSteps := 1000000) (disch := omega) only [go_sem, seval, *])
      refine fin_retF (r0 := .agg (.sc (.int .i64 kind) :: .sc (.int .i64 params) :: .sc (.string name) :: (typ.pv ++ (val.pv ++ [.sc (.int .i64 fixed), .osl id 0 lz 6])))) 2 cE2 (dcl_frz _ hfrz.out)
end
section
mutual
theorem Tm.formed_far {np : Int} : ∀ (t : Tm) (k k' : Int), 1099511627776 ≤ k → 1099511627776 ≤ k' → t.nearB = true → t.formed np k = t.formed np k'
  | .mk kind n s ls args, k, k', h, h', hn => by
    simp only [Tm.nearB, Bool.and_eq_true] at hn
    obtain ⟨hn1, hn2⟩ := hn
    unfold Tm.formed
    by_cases hk : kind = 1
    · have hlt : ¬ 1099511627776 ≤ n := fun e => by simp [hk, e] at hn1
      rw [if_pos hk, if_pos hk, decide_eq_true (show n < k by omega), decide_eq_true (show n < k' by omega)]
    · rw [if_neg hk, if_neg hk, formedA_far args k k' kind args.length 0 h h' hn2]
theorem formedA_far {np : Int} : ∀ (ts : List Tm) (k k' kind : Int) (len i : Nat), 1099511627776 ≤ k → 1099511627776 ≤ k' → nearA ts = true → formedA np k kind len i ts = formedA np k' kind len i ts
  | [], _, _, _, _, _, _, _, _ => rfl
  | x :: r, k, k', kind, len, i, h, h', hn => by
    simp only [nearA, Bool.and_eq_true] at hn
    have hd := deep_bd kind len i
    simp only [formedA]
    rw [Tm.formed_far x _ (k' + deepB kind len i) (by omega) (by omega) hn.1, formedA_far r k k' kind len (i + 1) h h' hn.2]
end
theorem Tm.packR_eq (t : Tm) : t.packR = t.packB := by
  unfold Tm.packR Tm.packB
  cases hn : t.nearB with
  | false => simp
  | true =>
    simp only [Tm.right]
    rw [Tm.formed_far t (min 1099511627776 1125899906842624) (min 1125899906842624 1125899906842624) (by decide) (by decide) hn]
    rfl
end
section
set_option maxRecDepth 20000
attribute [local go_sem] Nat.add_assoc id_ne id_ne' id_ne2 List.append_assoc pv_len pv_take pv_one tm_len tm_take tm_one dcl_len dcl_take dcl_oneA
theorem same_rowN (b : Bool) (l : List UInt8) : PPure Try.prog F.ref00_SameBytes [if b = true then rowB l else .sc (.slice none 0 0), if b = true then rowB l else .sc (.slice none 0 0)] (.sc (.bool true)) := by
  cases b with
  | true =>
    have h := SameBytes_p l l
    rwa [decide_eq_true rfl] at h
  | false =>
    have h := SameBytes_p [] []
    rw [decide_eq_true rfl] at h
    exact h.weak ⟨.nil 1, .nil 1, trivial⟩ (.refl _)
theorem massC_mem : ∀ (cs : List Ctr) (c : Ctr), c ∈ cs → c.typ.nodes ≤ massC cs
  | x :: r, c, h => by
    rcases List.mem_cons.1 h with rfl | h
    · have := nodes_mass8 c.typ; simp only [massC]; omega
    · have := massC_mem r c h; simp only [massC]; omega
set_option maxRecDepth 100000 in
set_option maxHeartbeats 32000000 in
theorem packAnswers_p (l : Lv) (t : Tm) (d : Dcl) (ht : t.fits) (hd : d.fits) : PPure Try.prog F.law08_PackAnswers [.agg l.pv, .agg t.pv, .agg d.pv] (.sc (.bool true)) := by
  have c0 := alive08_p
  have c1 := LevelNodes_p 300 (by omega) l.nodes l (Nat.le_refl _)
  have c2 := Great_p t ht
  have c3 := great08_p d hd
  refine pure_by is_law08_PackAnswers (by simp) rfl fun hbn nx => ?_
  clear hbn
  by_cases g1 : 300 < l.nodes
  · rw [Nat.min_eq_right (by omega)] at c1
    repeat' (first | ((with_reducible first | refine wA (by omega) ?_ | refine wB (by omega) ?_ | refine wC (by omega) ?_ | refine wD (by omega) ?_ | refine wE ?_ ?_ | refine wF ?_ ?_ | refine wG ?_ ?_ | refine wH ?_ ?_ | refine wI ?_ ?_ | refine wJ ?_ ?_ | refine wK ?_ ?_ | refine wL ?_ ?_) <;> intro _) | (((with_reducible refine call_id ?_); (first | (refine call_pure (c0) ?_) | (refine call_pure (c1) ?_)))) | simp (maxSteps := 1000000) (disch := omega) only [go_sem, seval, mc_law08_PackAnswers, *])
    all_goals (exact fin_tmp (.inr rfl) cE3)
  rw [Nat.min_eq_left (by omega)] at c1
  by_cases g2 : 2500 < t.mass
  · rw [decide_eq_true g2] at c2
    repeat' (first | ((with_reducible first | refine wA (by omega) ?_ | refine wB (by omega) ?_ | refine wC (by omega) ?_ | refine wD (by omega) ?_ | refine wE ?_ ?_ | refine wF ?_ ?_ | refine wG ?_ ?_ | refine wH ?_ ?_ | refine wI ?_ ?_ | refine wJ ?_ ?_ | refine wK ?_ ?_ | refine wL ?_ ?_) <;> intro _) | (((with_reducible refine call_id ?_); (first | (refine call_pure (c0) ?_) | (refine call_pure (c1) ?_) | (refine call_pure (c2) ?_)))) | simp (maxSteps := 1000000) (disch := omega) only [go_sem, seval, mc_law08_PackAnswers, *])
    all_goals (exact fin_tmp (.inr rfl) cE3)
  rw [decide_eq_false g2] at c2
  cases g3 : d.great with
  | true =>
    rw [g3] at c3
    repeat' (first | ((with_reducible first | refine wA (by omega) ?_ | refine wB (by omega) ?_ | refine wC (by omega) ?_ | refine wD (by omega) ?_ | refine wE ?_ ?_ | refine wF ?_ ?_ | refine wG ?_ ?_ | refine wH ?_ ?_ | refine wI ?_ ?_ | refine wJ ?_ ?_ | refine wK ?_ ?_ | refine wL ?_ ?_) <;> intro _) | (((with_reducible refine call_id ?_); (first | (refine call_pure (c0) ?_) | (refine call_pure (c1) ?_) | (refine call_pure (c2) ?_) | (refine call_pure (c3) ?_)))) | simp (maxSteps := 1000000) (disch := omega) only [go_sem, seval, mc_law08_PackAnswers, *])
    all_goals (exact fin_tmp (.inr rfl) cE3)
  | false =>
  rw [g3] at c3
  have g4 : d.ctors.length ≤ 20 ∧ d.mass ≤ 4000 := by
    have := of_decide_eq_false g3
    omega
  clear g3
  have cC := CopyDecl_p d (by have := nodes_mass8 d.typ; have := g4.2; unfold Dcl.mass at this; omega) (by have := nodes_mass8 d.val; have := g4.2; unfold Dcl.mass at this; omega) (fun c hc => by have := massC_mem _ c hc; have := g4.2; unfold Dcl.mass at this; omega) (by omega)
  have c4 := Level_p l
  have c5 := rLevelT_p l
  have c6 := Term_p t
  have c7 := rTermT_p t
  rw [Tm.packR_eq] at c7
  have c8 := Decl_p d
  have c9 := rDecl_p d
  have p1 := same_rowN (l.right 4) l.enc
  have p2 := same_rowN t.packB t.enc
  have p3 := same_rowN d.formed d.enc
  have q1 := formed11_p d
  have q2 := Formed08_p d
  have q3 := Hash_p d
  have q4 := rHash_p d
  have q5 := SameDecl_p d
  unfold rowN at c4 c5 c6 c7 c8 c9
  generalize (if l.right 4 = true then rowB l.enc else PV.sc (.slice none 0 0)) = X1 at *
  generalize (if t.packB = true then rowB t.enc else PV.sc (.slice none 0 0)) = X2 at *
  generalize (if d.formed = true then rowB d.enc else PV.sc (.slice none 0 0)) = X3 at *
  generalize l.right 4 = y1 at *
  generalize t.packB = y2 at *
  generalize d.formed = y3 at *
  generalize d.hash = hh at *
  clear g4
  have K := Kept.mk (show _ from (⟨c0, c1, c2, c3, cC, c4, c5, c6, c7, c8, c9, p1, p2, p3, q1, q2, q3, q4, q5⟩ : _ ∧ _ ∧ _ ∧ _ ∧ _ ∧ _ ∧ _ ∧ _ ∧ _ ∧ _ ∧ _ ∧ _ ∧ _ ∧ _ ∧ _ ∧ _ ∧ _ ∧ _ ∧ _))
  clear c0 c1 c2 c3 cC c4 c5 c6 c7 c8 c9 p1 p2 p3 q1 q2 q3 q4 q5
  repeat' (first | ((with_reducible first | refine wA (by omega) ?_ | refine wB (by omega) ?_ | refine wC (by omega) ?_ | refine wD (by omega) ?_ | refine wE ?_ ?_ | refine wF ?_ ?_ | refine wG ?_ ?_ | refine wH ?_ ?_ | refine wI ?_ ?_ | refine wJ ?_ ?_ | refine wK ?_ ?_ | refine wL ?_ ?_) <;> intro _) | (((with_reducible refine call_id ?_); (first | (refine call_pure (K.out.1) ?_) | (refine call_pure (K.out.2.1) ?_) | (refine call_pure (K.out.2.2.1) ?_) | (refine call_pure (K.out.2.2.2.1) ?_) | (refine call_pure (K.out.2.2.2.2.1) ?_) | (refine call_pure (K.out.2.2.2.2.2.1) ?_) | (refine call_pure (K.out.2.2.2.2.2.2.1) ?_) | (refine call_pure (K.out.2.2.2.2.2.2.2.1) ?_) | (refine call_pure (K.out.2.2.2.2.2.2.2.2.1) ?_) | (refine call_pure (K.out.2.2.2.2.2.2.2.2.2.1) ?_) | (refine call_pure (K.out.2.2.2.2.2.2.2.2.2.2.1) ?_) | (refine call_pure (K.out.2.2.2.2.2.2.2.2.2.2.2.1) ?_) | (refine call_pure (K.out.2.2.2.2.2.2.2.2.2.2.2.2.1) ?_) | (refine call_pure (K.out.2.2.2.2.2.2.2.2.2.2.2.2.2.1) ?_) | (refine call_pure (K.out.2.2.2.2.2.2.2.2.2.2.2.2.2.2.1) ?_) | (refine call_pure (K.out.2.2.2.2.2.2.2.2.2.2.2.2.2.2.2.1) ?_) | (refine call_pure (K.out.2.2.2.2.2.2.2.2.2.2.2.2.2.2.2.2.1) ?_) | (refine call_pure (K.out.2.2.2.2.2.2.2.2.2.2.2.2.2.2.2.2.2.1) ?_) | (refine call_pure (K.out.2.2.2.2.2.2.2.2.2.2.2.2.2.2.2.2.2.2) ?_)))) | simp (maxSteps := 1000000) (disch := omega) only [go_sem, seval, mc_law08_PackAnswers, *])
  all_goals (exact fin_tmp (.inr rfl) cE3)
theorem PackAnswers_p (l : Lv) (t : {t : Tm // t.fits}) (d : {d : Dcl // d.fits}) : PPure Try.prog F.law08_PackAnswers [.agg l.pv, .agg t.1.pv, .agg d.1.pv] (.sc (.bool true)) := packAnswers_p l t.1 d.1 t.2 d.2
end
section
theorem op_level {H : Type} {enc : TypeId × Value → H} {W : World} {sp : Nat → Bool} {hd : Bool} : ∀ n, OpAt enc W sp hd n 24 Lv.pv := by
  intro n
  induction n using Nat.strongRecOn with
  | ind n ih =>
    intro cs x h
    have hu : ∃ fs, Try.prog.underlying 24 = some (.struct fs) ∧ ∃ f0 f1 f2, fs = #[f0, f1, f2] ∧ f0.type = 3 ∧ f1.type = 3 ∧ f2.type = 22 ∧ f0.offset = 0 ∧ f1.offset = 1 ∧ f2.offset = 2 :=
      ⟨_, Try.underlying24, _, _, _, rfl, rfl, rfl, rfl, rfl, rfl, rfl⟩
    obtain ⟨fs, hu, f0, f1, f2, rfl, h0, h1, h2, o0, o1, o2⟩ := hu
    obtain ⟨xs, m, rfl, _, hlen, hxs, hx⟩ := DataW.trod_struct hu h
    have hc : Try.prog.cellsOf 24 = 3 := by kernel_rfl
    obtain ⟨a, ha⟩ := op_field hx hxs (i := 0) rfl h0 o0 (c := 1) (by kernel_rfl) (op_int Try.underlying3)
    obtain ⟨b, hb⟩ := op_field hx hxs (i := 1) rfl h1 o1 (c := 1) (by kernel_rfl) (op_int Try.underlying3)
    have hl : OpAt enc W sp hd m 22 (fun l : List Lv => [.sl 3 (l.map Lv.pv)]) := by
      cases m with
      | zero => exact op_zero
      | succ m => exact op_slice Try.underlying22 (by kernel_rfl) (by omega) (ih m (by omega))
    obtain ⟨l, hl⟩ := op_field hx hxs (i := 2) rfl h2 o2 (c := 1) (by kernel_rfl) hl
    rw [List.drop_zero] at ha
    have h3 := rep_split (rep_split ha hb) hl
    rw [hc] at hlen
    rw [List.take_of_length_le (by omega)] at h3
    refine ⟨.mk a b l, ?_⟩
    simp only [Lv.pv]
    exact h3
section
variable {H : Type} {enc : TypeId × Value → H} {W : World} {cs : Array Value} {a : Option Addr} {len cap : Nat} {d : DataW H} {p : List MemPlace}
theorem open_level (h : DataW.Trod enc Try.prog W 0 (fun _ => true) true 24 (.agg cs) d p) : ∃ l : Lv, Rep (allV W) (.agg l.pv) (.agg cs) := trod_agg (fun n => op_level n) h
end
end
section
theorem fitsT_map : ∀ l : List {t : Tm // t.fits}, fitsT (l.map (·.1))
  | [] => trivial
  | x :: r => ⟨x.2, fitsT_map r⟩
theorem op_term {H : Type} {enc : TypeId × Value → H} {W : World} {sp : Nat → Bool} {hd : Bool} : ∀ n, OpAt enc W sp hd n 27 (fun t : {t : Tm // t.fits} => t.1.pv) := by
  intro n
  induction n using Nat.strongRecOn with
  | ind n ih =>
    intro cs x h
    have hu : ∃ fs, Try.prog.underlying 27 = some (.struct fs) ∧ ∃ f0 f1 f2 f3 f4, fs = #[f0, f1, f2, f3, f4] ∧ f0.type = 3 ∧ f1.type = 3 ∧ f2.type = 9 ∧ f3.type = 22 ∧ f4.type = 25 ∧ f0.offset = 0 ∧ f1.offset = 1 ∧ f2.offset = 2 ∧ f3.offset = 3 ∧ f4.offset = 4 :=
      ⟨_, Try.underlying27, _, _, _, _, _, rfl, rfl, rfl, rfl, rfl, rfl, rfl, rfl, rfl, rfl, rfl⟩
    obtain ⟨fs, hu, f0, f1, f2, f3, f4, rfl, h0, h1, h2, h3, h4, o0, o1, o2, o3, o4⟩ := hu
    obtain ⟨xs, m, rfl, _, hlen, hxs, hx⟩ := DataW.trod_struct hu h
    have hc : Try.prog.cellsOf 27 = 5 := by kernel_rfl
    obtain ⟨a, ha⟩ := op_field hx hxs (i := 0) rfl h0 o0 (c := 1) (by kernel_rfl) (op_int Try.underlying3)
    obtain ⟨b, hb⟩ := op_field hx hxs (i := 1) rfl h1 o1 (c := 1) (by kernel_rfl) (op_int Try.underlying3)
    obtain ⟨z, hz⟩ := op_field hx hxs (i := 2) rfl h2 o2 (c := 1) (by kernel_rfl) (op_string Try.underlying9)
    have hl : OpAt enc W sp hd m 22 (fun l : List Lv => [.sl 3 (l.map Lv.pv)]) := by
      cases m with
      | zero => exact op_zero
      | succ m => exact op_slice Try.underlying22 (by kernel_rfl) (by omega) (op_level m)
    have hl2 : OpAt enc W sp hd m 25 (fun l : List {t : Tm // t.fits} => [.sl 5 (l.map fun t => t.1.pv)]) := by
      cases m with
      | zero => exact op_zero
      | succ m => exact op_slice Try.underlying25 (by kernel_rfl) (by omega) (ih m (by omega))
    obtain ⟨l, hl⟩ := op_field hx hxs (i := 3) rfl h3 o3 (c := 1) (by kernel_rfl) hl
    obtain ⟨r, hr⟩ := op_field hx hxs (i := 4) rfl h4 o4 (c := 1) (by kernel_rfl) hl2
    rw [List.drop_zero] at ha
    have h5 := rep_split (rep_split (rep_split (rep_split ha hb) hz) hl) hr
    rw [hc] at hlen
    rw [List.take_of_length_le (by omega)] at h5
    refine ⟨⟨.mk a b z.1 l (r.map (·.1)), z.2, fitsT_map r⟩, ?_⟩
    simp only [Tm.pv, List.map_map]
    exact h5
section
variable {H : Type} {enc : TypeId × Value → H} {W : World} {cs : Array Value} {a : Option Addr} {len cap : Nat} {d : DataW H} {p : List MemPlace}
theorem open_term (h : DataW.Trod enc Try.prog W 0 (fun _ => true) true 27 (.agg cs) d p) : ∃ t : {t : Tm // t.fits}, Rep (allV W) (.agg t.1.pv) (.agg cs) := trod_agg (fun n => op_term n) h
end
end
section
theorem op_ctor {H : Type} {enc : TypeId × Value → H} {W : World} {sp : Nat → Bool} {hd : Bool} : ∀ n, OpAt enc W sp hd n 61 (fun c : {c : Ctr // c.name.size ≤ 9223372036854775807 ∧ c.typ.fits} => c.1.pv) := by
  intro n cs x h
  have hu : ∃ fs, Try.prog.underlying 61 = some (.struct fs) ∧ ∃ f0 f1, fs = #[f0, f1] ∧ f0.type = 9 ∧ f1.type = 27 ∧ f0.offset = 0 ∧ f1.offset = 1 :=
    ⟨_, Try.underlying61, _, _, rfl, rfl, rfl, rfl, rfl⟩
  obtain ⟨fs, hu, f0, f1, rfl, h0, h1, o0, o1⟩ := hu
  obtain ⟨xs, m, rfl, _, hlen, hxs, hx⟩ := DataW.trod_struct hu h
  have hc : Try.prog.cellsOf 61 = 6 := by kernel_rfl
  obtain ⟨a0, k0⟩ := op_field hx hxs (i := 0) rfl h0 o0 (c := 1) (by kernel_rfl) (op_string Try.underlying9)
  obtain ⟨a1, k1⟩ := op_field hx hxs (i := 1) rfl h1 o1 (c := 5) (by kernel_rfl) (op_term m)
  rw [List.drop_zero] at k0
  have hall := rep_split k0 k1
  rw [hc] at hlen
  rw [List.take_of_length_le (by omega)] at hall
  refine ⟨⟨⟨a0.1, a1.1⟩, ?_, a1.2⟩, ?_⟩
  · exact a0.2
  · simpa only [Ctr.pv, List.cons_append, List.nil_append] using hall
theorem fitsC_map : ∀ l : List {c : Ctr // c.name.size ≤ 9223372036854775807 ∧ c.typ.fits}, fitsC (l.map (·.1))
  | [] => trivial
  | x :: r => ⟨x.2, fitsC_map r⟩
theorem op_decl {H : Type} {enc : TypeId × Value → H} {W : World} {sp : Nat → Bool} {hd : Bool} : ∀ n, OpAt enc W sp hd n 30 (fun d : {d : Dcl // d.fits} => d.1.pv) := by
  intro n cs x h
  have hu : ∃ fs, Try.prog.underlying 30 = some (.struct fs) ∧ ∃ f0 f1 f2 f3 f4 f5 f6, fs = #[f0, f1, f2, f3, f4, f5, f6] ∧ f0.type = 3 ∧ f1.type = 3 ∧ f2.type = 9 ∧ f3.type = 27 ∧ f4.type = 27 ∧ f5.type = 3 ∧ f6.type = 28 ∧ f0.offset = 0 ∧ f1.offset = 1 ∧ f2.offset = 2 ∧ f3.offset = 3 ∧ f4.offset = 8 ∧ f5.offset = 13 ∧ f6.offset = 14 :=
    ⟨_, Try.underlying30, _, _, _, _, _, _, _, rfl, rfl, rfl, rfl, rfl, rfl, rfl, rfl, rfl, rfl, rfl, rfl, rfl, rfl, rfl⟩
  obtain ⟨fs, hu, f0, f1, f2, f3, f4, f5, f6, rfl, h0, h1, h2, h3, h4, h5, h6, o0, o1, o2, o3, o4, o5, o6⟩ := hu
  obtain ⟨xs, m, rfl, _, hlen, hxs, hx⟩ := DataW.trod_struct hu h
  have hc : Try.prog.cellsOf 30 = 15 := by kernel_rfl
  obtain ⟨a0, k0⟩ := op_field hx hxs (i := 0) rfl h0 o0 (c := 1) (by kernel_rfl) (op_int Try.underlying3)
  obtain ⟨a1, k1⟩ := op_field hx hxs (i := 1) rfl h1 o1 (c := 1) (by kernel_rfl) (op_int Try.underlying3)
  obtain ⟨a2, k2⟩ := op_field hx hxs (i := 2) rfl h2 o2 (c := 1) (by kernel_rfl) (op_string Try.underlying9)
  obtain ⟨a3, k3⟩ := op_field hx hxs (i := 3) rfl h3 o3 (c := 5) (by kernel_rfl) (op_term m)
  obtain ⟨a4, k4⟩ := op_field hx hxs (i := 4) rfl h4 o4 (c := 5) (by kernel_rfl) (op_term m)
  obtain ⟨a5, k5⟩ := op_field hx hxs (i := 5) rfl h5 o5 (c := 1) (by kernel_rfl) (op_int Try.underlying3)
  have hl : OpAt enc W sp hd m 28 (fun l : List {c : Ctr // c.name.size ≤ 9223372036854775807 ∧ c.typ.fits} => [.sl 6 (l.map fun c => c.1.pv)]) := by
    cases m with
    | zero => exact op_zero
    | succ m => exact op_slice Try.underlying28 (by kernel_rfl) (by omega) (op_ctor m)
  obtain ⟨a6, k6⟩ := op_field hx hxs (i := 6) rfl h6 o6 (c := 1) (by kernel_rfl) hl
  rw [List.drop_zero] at k0
  have hall := rep_split (rep_split (rep_split (rep_split (rep_split (rep_split k0 k1) k2) k3) k4) k5) k6
  rw [hc] at hlen
  rw [List.take_of_length_le (by omega)] at hall
  refine ⟨⟨⟨a0, a1, a2.1, a3.1, a4.1, a5, a6.map (·.1)⟩, a2.2, a3.2, a4.2, fitsC_map a6⟩, ?_⟩
  simp only [Dcl.pv, List.map_map]
  have e : (Ctr.pv ∘ fun c : {c : Ctr // c.name.size ≤ 9223372036854775807 ∧ c.typ.fits} => c.1) = fun c => c.1.pv := rfl
  rw [e]
  simpa only [List.append_assoc, List.cons_append, List.nil_append] using hall
section
variable {H : Type} {enc : TypeId × Value → H} {W : World} {cs : Array Value} {d : DataW H} {p : List MemPlace}
theorem open_decl (h : DataW.Trod enc Try.prog W 0 (fun _ => true) true 30 (.agg cs) d p) : ∃ e : {d : Dcl // d.fits}, Rep (allV W) (.agg e.1.pv) (.agg cs) := trod_agg (fun n => op_decl n) h
end
end
end Go.Proofs.Ytnelciclibknpaa
