/-
  Plain values: Tm5, Tm6, Tm7, Tm8, Tm9, TnL, LvM, LvS, TnA, TnC, TnD, TnB, TnE, TnF, LvO, TmOp, TnG, TnH, TnM, TnN, TnO.
-/
import Derived.Sort.Row
import Derived.Sort.Grow
import Derived.Lib.RowBridge
import Derived.Sort.Walk0
import Derived.Test.YtfhblaggeahbjaaGreatXSa
import Derived.Test.YtfhblaggeahbjaaGreatXSb
import Derived.Test.YtfhblaggeahbjaaGreatXSc
import Derived.Test.YtfhblaggeahbjaaGreatXSd
import Derived.Test.YtfhblaggeahbjaaGreatXSe
import Derived.Test.YtfhblaggeahbjaaGreatXSf
set_option linter.unusedVariables false
set_option linter.unusedSimpArgs false
namespace Go.Proofs.YtfhblaggeahbjaaGreat
open Go.RowKit
attribute [local go_sem ↓] c_seq c_region c_cond c_block c_ret c_skip c_exit c_cont t_normal t_ret t_exit b_normal b_ret b_exit run_nil run_cons g_some o_mv o_pick o_bin o_un o_ld o_ldf o_bld o_len o_mkf o_nilc o_fa o_fd o_ia o_iaa o_ix o_ixs o_ext o_al o_bxf o_bxt o_bsl o_bslf o_mks o_st o_stf o_call o_rng o_nxt o_callm o_calvm o_calv cond_true cond_false upd_get sigF_cons o_eqa o_mm o_app o_slc
attribute [local go_sem] num_nil num_cons isP chunks rngV next_is next_iter val_some new_some st_some stf_some guard_tt guard_ff guard_tf guard_ft guard_un calv_fn put_some put_none ev_tmp ev_const ev_func sig_eq sigF_nil q0 q1 nilcV faV fdV iaV iaaV ixV ixsV extV mksV loadP storeP lenPV binPV unPV intBin partsP fillP zeros PV.good PV.cellsOf PV.one q2 q3 q4 q5 q6 q7 q8 q9 q10 q11 q12 q13 q14 q15 q16 q17 q18 q19 q20 q21 q22 q23 q24 q25 q26 q27 q28 q29 q30 q31 q32 q33 q34 q35 q36 q37 q38 wrap64 app_some mmL mmV mm2 eqE eqParts eqInt eqBool eqStr partV q39 q40 pickV q41 q42 q43 q44 q45 q46 q47 q48 q49 appE oldOf rowOf updL q50 q51 q52 q53 zlt ovr_get ite_neN ite_eqN q54 q55 q56 q57 q58 q59 q60 q61 q62 q63 q64 q65 q66 q67 tailP_f tailP_t tailF_f tailF_t slcP bndO capO slcLen intOf Option.isSome_none Option.isNone_none Option.isSome_some Option.isNone_some nilP slc_sl slc_csl slc_osl slc_osl0 slc_ocap slc_str List.append_nil List.length_append resP resPs resP1 PV.sc.injEq Value.bool.injEq Value.int.injEq
section
open Go.RowKit Go.Sort
def sortT (ss : List ByteArray) : List ByteArray := ((ss.map (·.data.toList)).mergeSort fun x y => decide (x ≤ y)).map fun l => ⟨l.toArray⟩
theorem sortT_len (ss : List ByteArray) : (sortT ss).length = ss.length := by simp [sortT, List.length_mergeSort]
theorem txt_get (ss : List ByteArray) (i : Nat) : (ss.flatMap txt)[i]? = (ss[i]?).map fun s => PV.sc (.string s) := by
  have : ss.flatMap txt = ss.map fun s => PV.sc (.string s) := by
    induction ss with
    | nil => rfl
    | cons x r ih => simp only [List.flatMap_cons, List.map_cons, ih]; rfl
  rw [this, List.getElem?_map]
theorem txt_flen (ss : List ByteArray) : (ss.flatMap txt).length = ss.length := by rw [← txts_flat, txts_len]
set_option maxHeartbeats 2000000 in
theorem sSort_m (ss : List ByteArray) (hl : ss.length ≤ 2 ^ 40) (H : Nat → Option PObj) (nx id : Nat) (wh : Bool) (hH : H id = some ⟨ss.flatMap txt, wh⟩) :
    PMut Tryz.prog F.slices_Sort_string_string [.osl id 0 ss.length 1] H nx (fun H' nx' r => r = .tup [] ∧ nx' = nx ∧ H' = upd H id (some ⟨(sortT ss).flatMap txt, wh⟩)) := by
  refine ⟨is_slices_Sort_string_string.enters, fun w0 ok0 rho w vals hR hfree hv => ?_⟩
  obtain ⟨v1, hv1, hr1⟩ := hv.get (i := 0) (x := .osl id 0 ss.length 1) rfl
  have hvals : vals = [v1] := by
    have h1 := hv.1
    match vals, h1, hv1 with
    | [x], _, h => simp at h; rw [h]
  subst hvals
  obtain ⟨b, cap, c0, T0, fr0, rfl, hb, h1, h2, hsh, hfit⟩ := hr1.osl_inv
  obtain ⟨b', hb', hlow, hobj⟩ := hR.own id _ hH
  have hb2 : rho id = some b := hb
  rw [hb2] at hb'
  cases hb'
  obtain ⟨c, T, hc, hle, hwh, hcells⟩ := hobj.cells ⟨_, _, _, hsh⟩
  have hc' : w.heap[b]? = some (.cells c T (0, 0)) := hc
  have hblt : b < w.heap.size := (Array.getElem?_eq_some_iff.1 hc').1
  simp only [txt_flen] at hle hwh
  have hin : ∀ j (hj : j < ss.length), c[j]? = some (.string ss[j]) := fun j hj => by
    have hjc : j < c.size := by omega
    have h3 := hcells j (.sc (.string ss[j])) c[j] (by rw [txt_get, List.getElem?_eq_getElem hj]; rfl) (Array.getElem?_eq_getElem hjc)
    rw [Array.getElem?_eq_getElem hjc, ← h3.sc_inv]
  have hH2 : Holds encStr w b 0 (ss.map (·.data.toList)).toArray := fun j hj => by
    have hj' : j < ss.length := by simpa using hj
    refine ⟨?_, by simp [World.frozen?, hc']⟩
    have e : (ss.map (·.data.toList)).toArray[j]! = ss[j].data.toList := by simp [getElem!_pos, hj']
    rw [e, Nat.zero_add]
    have e2 := hin j hj'
    have e3 : encStr ss[j].data.toList = .string ss[j] := by simp [encStr]
    rw [e3]
    simpa [World.cell?, hc'] using e2
  have hcall := Tryz.slices_Sort_string b 0 cap (ss.map (·.data.toList)) w hH2 hblt (by simp; omega)
  rw [List.length_map] at hcall
  refine hcall.mono ?_
  rintro e w' ⟨rfl, n, os, rfl⟩
  have hsz : (putRow encStr (Sort.ahead w n) b 0 ((ss.map (·.data.toList)).mergeSort fun x y => decide (x ≤ y)).toArray).heap.size = w.heap.size := by simp [putRow, mapBlock, Sort.ahead]
  have hold : ∀ k, k < w.heap.size → (grow (putRow encStr (Sort.ahead w n) b 0 ((ss.map (·.data.toList)).mergeSort fun x y => decide (x ≤ y)).toArray) os).heap[k]? = (putRow encStr (Sort.ahead w n) b 0 ((ss.map (·.data.toList)).mergeSort fun x y => decide (x ≤ y)).toArray).heap[k]? := fun k hk => heap_grow_old _ os (by rw [hsz]; exact hk)
  obtain ⟨h5, h6⟩ := change_ext (o' := ⟨(sortT ss).flatMap txt, wh⟩) (c' := putCells encStr 0 ((ss.map (·.data.toList)).mergeSort fun x y => decide (x ≤ y)).toArray c) (w' := grow (putRow encStr (Sort.ahead w n) b 0 ((ss.map (·.data.toList)).mergeSort fun x y => decide (x ≤ y)).toArray) os) hR hH hb2 hc'
    (by rw [hold b hblt]; simp [putRow, mapBlock, Sort.ahead, Array.getElem?_modify, hc', onCells]) (by simp [putCells]) (fun k hk hkl => by rw [hold k hkl]; simp [putRow, mapBlock, Sort.ahead, Array.getElem?_modify, Ne.symm hk]) rfl rfl rfl (by simp [grow, hsz])
    (by simp only [txt_flen, sortT_len]; simp [putCells]; omega) (fun e => by simp only [txt_flen, sortT_len]; simp [putCells]; exact hwh e) (fun V i x v hx hv => by
      rw [txt_get, Option.map_eq_some_iff] at hx
      obtain ⟨t, ht, rfl⟩ := hx
      have hi : i < ss.length := by have := (List.getElem?_eq_some_iff.1 ht).1; rwa [sortT_len] at this
      have hd : i < ((ss.map (·.data.toList)).mergeSort fun x y => decide (x ≤ y)).length := by simpa [List.length_mergeSort] using hi
      simp only [sortT, List.getElem?_map, List.getElem?_eq_getElem hd, Option.map_some, Option.some.injEq] at ht
      have hic : i < c.size := by omega
      have e4 : v = .string t := by
        simp only [putCells, Array.getElem?_mapIdx, Array.getElem?_eq_getElem hic, Option.map_some, Option.some.injEq] at hv
        rw [← hv, ← ht, if_pos ⟨Nat.zero_le _, by simpa [List.length_mergeSort] using hi⟩]
        simp [encStr]
        rw [List.getElem?_eq_getElem hd]
        rfl
      rw [e4]
      exact .sc _)
  exact ⟨_, upd H id (some ⟨(sortT ss).flatMap txt, wh⟩), nx, .tup [], rho, rfl, ⟨rfl, rfl, rfl⟩, h5, h6, Nat.le_refl _, hfree, fun _ _ => rfl, .tup [] [] rfl fun i x v h => by simp at h⟩
end
section
open Go.RowKit Go.Sort
def bytesT (D : List (List UInt8)) : List ByteArray := D.map fun l => ⟨l.toArray⟩
theorem bytesT_len (D : List (List UInt8)) : (bytesT D).length = D.length := by simp [bytesT]
theorem row_put {w0 : World} {ok0 : Nat → Prop} {H : Nat → Option PObj} {rho : Nat → Option Nat} {w : World} (hR : RelH w0 ok0 H rho w) {id b n : Nat} {wh : Bool} {cs : List PV} {c : Array Value} {T : TypeId} {os : Array Obj} (D : List (List UInt8))
    (hH : H id = some ⟨cs, wh⟩) (hD : D.length = cs.length) (hb : rho id = some b) (hc : w.heap[b]? = some (.cells c T (0, 0))) (hle : cs.length ≤ c.size) (hwh : wh = true → cs.length = c.size) :
    RelH w0 ok0 (upd H id (some ⟨(bytesT D).flatMap txt, wh⟩)) rho (grow (putRow encStr (Sort.ahead w n) b 0 D.toArray) os) ∧ (viewOf w0 ok0 H rho w).Leq (viewOf w0 ok0 (upd H id (some ⟨(bytesT D).flatMap txt, wh⟩)) rho (grow (putRow encStr (Sort.ahead w n) b 0 D.toArray) os)) := by
  have hblt : b < w.heap.size := (Array.getElem?_eq_some_iff.1 hc).1
  have hsz : (putRow encStr (Sort.ahead w n) b 0 D.toArray).heap.size = w.heap.size := by simp [putRow, mapBlock, Sort.ahead]
  have hold : ∀ k, k < w.heap.size → (grow (putRow encStr (Sort.ahead w n) b 0 D.toArray) os).heap[k]? = (putRow encStr (Sort.ahead w n) b 0 D.toArray).heap[k]? := fun k hk => heap_grow_old _ os (by rw [hsz]; exact hk)
  exact change_ext (o' := ⟨(bytesT D).flatMap txt, wh⟩) (c' := putCells encStr 0 D.toArray c) (w' := grow (putRow encStr (Sort.ahead w n) b 0 D.toArray) os) hR hH hb hc
    (by rw [hold b hblt]; simp [putRow, mapBlock, Sort.ahead, Array.getElem?_modify, hc, onCells]) (by simp [putCells]) (fun k hk hkl => by rw [hold k hkl]; simp [putRow, mapBlock, Sort.ahead, Array.getElem?_modify, Ne.symm hk]) rfl rfl rfl (by simp [grow, hsz])
    (by simp only [txt_flen, bytesT_len]; simp [putCells]; omega) (fun e => by simp only [txt_flen, bytesT_len]; simp [putCells]; have := hwh e; omega) (fun V i x v hx hv => by
      rw [txt_get, Option.map_eq_some_iff] at hx
      obtain ⟨t, ht, rfl⟩ := hx
      have hi : i < D.length := by have := (List.getElem?_eq_some_iff.1 ht).1; rwa [bytesT_len] at this
      simp only [bytesT, List.getElem?_map, List.getElem?_eq_getElem hi, Option.map_some, Option.some.injEq] at ht
      have hic : i < c.size := by omega
      have e4 : v = .string t := by
        simp only [putCells, Array.getElem?_mapIdx, Array.getElem?_eq_getElem hic, Option.map_some, Option.some.injEq] at hv
        rw [← hv, ← ht, if_pos ⟨Nat.zero_le _, by simpa using hi⟩]
        simp [encStr]
        rw [List.getElem?_eq_getElem hi]
        rfl
      rw [e4]
      exact .sc _)
theorem row_holds {V : Vw} {id b cap : Nat} {ss : List ByteArray} {wh : Bool} {c : Array Value} {T : TypeId} (hc : V.w.heap[b]? = some (.cells c T (0, 0))) (hle : ss.length ≤ c.size)
    (hcells : ∀ (i : Nat) (x : PV) (v : Value), (ss.flatMap txt)[i]? = some x → c[i]? = some v → Rep V x v) : Holds encStr V.w b 0 (ss.map (·.data.toList)).toArray := fun j hj => by
  have hj' : j < ss.length := by simpa using hj
  refine ⟨?_, by simp [World.frozen?, hc]⟩
  have e : (ss.map (·.data.toList)).toArray[j]! = ss[j].data.toList := by simp [getElem!_pos, hj']
  have hjc : j < c.size := by omega
  have h3 := hcells j (.sc (.string ss[j])) c[j] (by rw [txt_get, List.getElem?_eq_getElem hj']; rfl) (Array.getElem?_eq_getElem hjc)
  have e2 : c[j]? = some (.string ss[j]) := by rw [Array.getElem?_eq_getElem hjc, ← h3.sc_inv]
  have e3 : encStr ss[j].data.toList = .string ss[j] := by simp [encStr]
  rw [e, Nat.zero_add, e3]
  simpa [World.cell?, hc] using e2
def compL (ss : List ByteArray) : List (List UInt8) := Go.Lib.compact (ss.map (·.data.toList))
theorem compL_le (ss : List ByteArray) : (compL ss).length ≤ ss.length := by
  have := Go.Lib.compact_length_le (ss.map (·.data.toList))
  rwa [List.length_map] at this
set_option maxHeartbeats 2000000 in
theorem sCompact_m (ss : List ByteArray) (hl : ss.length ≤ 2 ^ 40) (H : Nat → Option PObj) (nx id : Nat) (wh : Bool) (hH : H id = some ⟨ss.flatMap txt, wh⟩) :
    PMut Tryz.prog F.slices_Compact_string_string [.osl id 0 ss.length 1] H nx (fun H' nx' r => r = .osl id 0 (compL ss).length 1 ∧ nx' = nx ∧ H' = upd H id (some ⟨(bytesT (compL ss ++ List.replicate (ss.length - (compL ss).length) [])).flatMap txt, wh⟩)) := by
  refine ⟨is_slices_Compact_string_string.enters, fun w0 ok0 rho w vals hR hfree hv => ?_⟩
  obtain ⟨v1, hv1, hr1⟩ := hv.get (i := 0) (x := .osl id 0 ss.length 1) rfl
  have hvals : vals = [v1] := by
    have h1 := hv.1
    match vals, h1, hv1 with
    | [x], _, h => simp at h; rw [h]
  subst hvals
  obtain ⟨b, cap, c0, T0, fr0, rfl, hb, h1, h2, hsh, hfit⟩ := hr1.osl_inv
  obtain ⟨b', hb', hlow, hobj⟩ := hR.own id _ hH
  have hb2 : rho id = some b := hb
  rw [hb2] at hb'
  cases hb'
  obtain ⟨c, T, hc, hle, hwh, hcells⟩ := hobj.cells ⟨_, _, _, hsh⟩
  have hc' : w.heap[b]? = some (.cells c T (0, 0)) := hc
  have hsh' : w.heap[b]? = some (.cells c0 T0 fr0) := hsh
  rw [hc'] at hsh'
  cases hsh'
  have hle' : ss.length ≤ c0.size := by simpa only [txt_flen] using hle
  have hH2 : Holds encStr w b 0 (ss.map (·.data.toList)).toArray := row_holds (V := viewOf w0 ok0 H rho w) (id := id) (cap := cap) (wh := wh) hc hle' hcells
  have hcall := Tryz.slices_Compact_string b 0 cap (ss.map (·.data.toList)) w hH2 (by simp; omega) (by simpa using h1)
  rw [List.length_map] at hcall
  refine hcall.mono ?_
  rintro e w' ⟨rfl, n, rfl⟩
  have hcl := compL_le ss
  have hg : ∀ W : World, grow W #[] = W := fun W => by simp [grow]
  obtain ⟨h5, h6⟩ := row_put (n := n) (os := #[]) hR (compL ss ++ List.replicate (ss.length - (compL ss).length) []) hH (by rw [txt_flen, List.length_append, List.length_replicate]; omega) hb2 hc' hle hwh
  rw [hg] at h5 h6
  refine ⟨_, _, nx, .osl id 0 (compL ss).length 1, rho, rfl, ⟨rfl, rfl, rfl⟩, h5, h6, Nat.le_refl _, hfree, fun _ _ => rfl, ?_⟩
  obtain ⟨c2, T2, fr2, h7, h8⟩ := h6.shp id b c0 T0 (0, 0) hb2 hc'
  exact .osl id 0 _ 1 cap b c2 T2 fr2 hb2 (by have : (compL ss).length ≤ cap := by omega
                                              exact this) h2 h7 (by omega)
end
section
set_option maxRecDepth 20000
attribute [local go_sem] pv_len pv_take id_ne id_ne' id_ne2 List.append_assoc
theorem one_val {V : Vw} {u : Value} {vals : List Value} (h : RepL V [.sc u] vals) : vals = [u] := by
  obtain ⟨v, hv, hr⟩ := h.get (i := 0) (x := .sc u) rfl
  have h1 := h.1
  match vals, h1, hv with
  | [x], _, h => simp at h; rw [h, hr.sc_inv]
theorem sSort_nil : PPure Tryz.prog F.slices_Sort_string_string [.sc (.slice none 0 0)] (.tup []) := by
  refine ⟨is_slices_Sort_string_string.enters, fun V nx vals hok hfree hv => ?_⟩
  rw [one_val hv]
  refine (Tryz.slices_Sort_string_none none 0 V.w).mono ?_
  rintro e w' ⟨rfl, rfl⟩
  exact ⟨_, rfl, Below.refl _ _, .tup [] [] rfl fun i x v h => by simp at h⟩
theorem sCompact_nil : PPure Tryz.prog F.slices_Compact_string_string [.sc (.slice none 0 0)] (.sc (.slice none 0 0)) := by
  refine ⟨is_slices_Compact_string_string.enters, fun V nx vals hok hfree hv => ?_⟩
  rw [one_val hv]
  refine (Tryz.slices_Compact_string_empty none 0 V.w).mono ?_
  rintro e w' ⟨rfl, rfl⟩
  exact ⟨_, rfl, Below.refl _ _, .sc _⟩
def sortedT (xs : List ByteArray) : List ByteArray := bytesT (compL (sortT xs))
set_option maxHeartbeats 4000000 in
theorem name_Sort_m (xs : List ByteArray) (hl : xs.length ≤ 2 ^ 40) (H : Nat → Option PObj) (nx : Nat) : PMut Tryz.prog F.name_Sort [.sl 1 (xs.map txt)] H nx (fun H' nx' r => ∃ k, Weak (frzF k H' r) (.sl 1 ((sortedT xs).map txt))) := by
  refine mut_by is_name_Sort (by simp) fun hb => ?_
  clear hb
  repeat' (first | ((with_reducible first | refine cond_pos (by omega) ?_ | refine cond_neg (by omega) ?_ | refine guard_pos (by omega) ?_ | refine guard_neg (by omega) ?_ | refine cond_ifn ?_ ?_ | refine cond_waysn ?_ ?_ | refine guard_ifn ?_ ?_ | refine guard_waysn ?_ ?_ | refine cond_if ?_ ?_ | refine cond_ways ?_ ?_ | refine guard_if ?_ ?_ | refine guard_ways ?_ ?_) <;> intro _) | simp (maxSteps := 1000000) (disch := omega) only [go_sem, Nat.reduceAdd, Nat.reduceMul, Nat.reduceSub, Nat.reduceLeDiff, Nat.reduceEqDiff, Nat.reduceBEq, ↓reduceIte, reduceCtorEq, Int.reduceEq, Int.reduceLE, Int.reduceLT, Int.reduceAdd, Int.reduceSub, Int.reduceNeg, Int.reduceToNat, Int.reduceNe, Nat.reducePow, Nat.reduceShiftRight, Nat.reduceMod, mc_name_Sort, *])
  refine call_mut (sClone_m xs hl _ _) ?_
  rintro H1 nx1 r1 ⟨hn1, hk1, ⟨rfl, rfl⟩ | ⟨id, g1, g2, rfl, g3⟩⟩ -
  · clear hk1 hn1
    repeat' (first | ((with_reducible first | refine cond_pos (by omega) ?_ | refine cond_neg (by omega) ?_ | refine guard_pos (by omega) ?_ | refine guard_neg (by omega) ?_ | refine cond_ifn ?_ ?_ | refine cond_waysn ?_ ?_ | refine guard_ifn ?_ ?_ | refine guard_waysn ?_ ?_ | refine cond_if ?_ ?_ | refine cond_ways ?_ ?_ | refine guard_if ?_ ?_ | refine guard_ways ?_ ?_) <;> intro _) | (((with_reducible refine call_id ?_); (first | (refine call_pure (sSort_nil) ?_) | (refine call_pure (sCompact_nil) ?_)))) | simp (maxSteps := 1000000) (disch := omega) only [go_sem, Nat.reduceAdd, Nat.reduceMul, Nat.reduceSub, Nat.reduceLeDiff, Nat.reduceEqDiff, Nat.reduceBEq, ↓reduceIte, reduceCtorEq, Int.reduceEq, Int.reduceLE, Int.reduceLT, Int.reduceAdd, Int.reduceSub, Int.reduceNeg, Int.reduceToNat, Int.reduceNe, Nat.reducePow, Nat.reduceShiftRight, Nat.reduceMod, *])
    refine fin_mut (.sc (.slice none 0 0)) (.inr rfl) (by (simp (disch := omega) only [go_sem, Nat.reduceMul, Nat.reduceSub, Nat.reduceShiftRight, Nat.reduceMod, Nat.reduceEqDiff, Nat.reduceAdd, ↓reduceIte, Nat.reduceLeDiff]); all_goals rfl) ⟨0, ?_⟩
    have e : sortedT [] = [] := by
      have := compL_le (sortT [])
      rw [sortT_len] at this
      exact List.eq_nil_of_length_eq_zero (by rw [sortedT, bytesT_len]; simpa using this)
    rw [e]
    exact Weak.nil 1
  · clear hk1 hn1 g1
    repeat' (first | ((with_reducible first | refine cond_pos (by omega) ?_ | refine cond_neg (by omega) ?_ | refine guard_pos (by omega) ?_ | refine guard_neg (by omega) ?_ | refine cond_ifn ?_ ?_ | refine cond_waysn ?_ ?_ | refine guard_ifn ?_ ?_ | refine guard_waysn ?_ ?_ | refine cond_if ?_ ?_ | refine cond_ways ?_ ?_ | refine guard_if ?_ ?_ | refine guard_ways ?_ ?_) <;> intro _) | simp (maxSteps := 1000000) (disch := omega) only [go_sem, Nat.reduceAdd, Nat.reduceMul, Nat.reduceSub, Nat.reduceLeDiff, Nat.reduceEqDiff, Nat.reduceBEq, ↓reduceIte, reduceCtorEq, Int.reduceEq, Int.reduceLE, Int.reduceLT, Int.reduceAdd, Int.reduceSub, Int.reduceNeg, Int.reduceToNat, Int.reduceNe, Nat.reducePow, Nat.reduceShiftRight, Nat.reduceMod, *])
    refine call_mut (sSort_m xs hl _ _ id false (by simpa [upd] using g3)) ?_
    rintro H2 nx2 r2 ⟨rfl, rfl, rfl⟩ -
    have hc := sCompact_m (sortT xs) (by rw [sortT_len]; exact hl)
    rw [sortT_len] at hc
    have hcl := compL_le (sortT xs)
    rw [sortT_len] at hcl
    repeat' (first | ((with_reducible first | refine cond_pos (by omega) ?_ | refine cond_neg (by omega) ?_ | refine guard_pos (by omega) ?_ | refine guard_neg (by omega) ?_ | refine cond_ifn ?_ ?_ | refine cond_waysn ?_ ?_ | refine guard_ifn ?_ ?_ | refine guard_waysn ?_ ?_ | refine cond_if ?_ ?_ | refine cond_ways ?_ ?_ | refine guard_if ?_ ?_ | refine guard_ways ?_ ?_) <;> intro _) | simp (maxSteps := 1000000) (disch := omega) only [go_sem, Nat.reduceAdd, Nat.reduceMul, Nat.reduceSub, Nat.reduceLeDiff, Nat.reduceEqDiff, Nat.reduceBEq, ↓reduceIte, reduceCtorEq, Int.reduceEq, Int.reduceLE, Int.reduceLT, Int.reduceAdd, Int.reduceSub, Int.reduceNeg, Int.reduceToNat, Int.reduceNe, Nat.reducePow, Nat.reduceShiftRight, Nat.reduceMod, *])
    refine call_mut (hc _ _ id false (by simp [upd])) ?_
    rintro H3 nx3 r3 ⟨rfl, rfl, rfl⟩ -
    repeat' (first | ((with_reducible first | refine cond_pos (by omega) ?_ | refine cond_neg (by omega) ?_ | refine guard_pos (by omega) ?_ | refine guard_neg (by omega) ?_ | refine cond_ifn ?_ ?_ | refine cond_waysn ?_ ?_ | refine guard_ifn ?_ ?_ | refine guard_waysn ?_ ?_ | refine cond_if ?_ ?_ | refine cond_ways ?_ ?_ | refine guard_if ?_ ?_ | refine guard_ways ?_ ?_) <;> intro _) | simp (maxSteps := 1000000) (disch := omega) only [go_sem, Nat.reduceAdd, Nat.reduceMul, Nat.reduceSub, Nat.reduceLeDiff, Nat.reduceEqDiff, Nat.reduceBEq, ↓reduceIte, reduceCtorEq, Int.reduceEq, Int.reduceLE, Int.reduceLT, Int.reduceAdd, Int.reduceSub, Int.reduceNeg, Int.reduceToNat, Int.reduceNe, Nat.reducePow, Nat.reduceShiftRight, Nat.reduceMod, *])
    refine fin_mut (.osl id 0 (compL (sortT xs)).length 1) (.inr rfl) (by (simp (disch := omega) only [go_sem, Nat.reduceMul, Nat.reduceSub, Nat.reduceShiftRight, Nat.reduceMod, Nat.reduceEqDiff, Nat.reduceAdd, ↓reduceIte, Nat.reduceLeDiff]); all_goals rfl) ⟨1, ?_⟩
    refine .trans ?_ (Weak.fsl 1 _)
    have hrow : ∀ Hx : Nat → Option PObj, Hx id = some ⟨(bytesT (compL (sortT xs) ++ List.replicate (xs.length - (compL (sortT xs)).length) [])).flatMap txt, false⟩ → Weak (frzF 1 Hx (.osl id 0 (compL (sortT xs)).length 1)) (.fsl 1 ((sortedT xs).map txt)) := fun Hx hx => by
      have hlen : ((bytesT (compL (sortT xs) ++ List.replicate (xs.length - (compL (sortT xs)).length) [])).flatMap txt).length = xs.length := by rw [txt_flen, bytesT_len, List.length_append, List.length_replicate]; omega
      have htk : ((bytesT (compL (sortT xs) ++ List.replicate (xs.length - (compL (sortT xs)).length) [])).flatMap txt).take ((compL (sortT xs)).length * 1) = (sortedT xs).flatMap txt := by
        rw [bytesT, List.map_append, List.flatMap_append]
        exact List.take_left' (by rw [txt_flen, List.length_map]; omega)
      simp only [frzF, hx, List.drop_zero]
      rw [if_pos (by omega), htk]
      refine Weak.fslW (by rw [chunks_length, List.length_map, sortedT, bytesT_len]) (fun e he => ?_) ?_
      · obtain ⟨t, _, rfl⟩ := List.mem_map.1 he; rfl
      · rw [chunks_flatten 1 _ _ (by rw [List.length_map, txt_flen, sortedT, bytesT_len]; omega), txts_flat]
        rw [List.map_id']
        exact .refl _
    exact hrow _ (by simp [upd])
theorem name_Sort_p (xs : List ByteArray) (hl : xs.length ≤ 2 ^ 40) : PPure Tryz.prog F.name_Sort [.sl 1 (xs.map txt)] (.sl 1 ((sortedT xs).map txt)) := by
  refine PMut.pure ?_ (fun nx => name_Sort_m xs hl noneOwn nx) fun nx H' nx' r0 h => h
  have : ∀ ys : List ByteArray, immLL (ys.map txt) = true := fun ys => by
    induction ys with
    | nil => rfl
    | cons y r ih => simp only [List.map_cons, immLL, ih]; rfl
  simp [PV.imm, this]
end
section
set_option maxRecDepth 20000
attribute [local go_sem] pv_len pv_take Nat.add_assoc tm_len tm_take pv_one tm_one id_ne id_ne' id_ne2 List.append_assoc
def nameOf : Tm → List ByteArray
  | .mk k _ s _ _ => if k = 3 then [s] else []
def namesOf (us : List Tm) : List ByteArray := us.flatMap nameOf
theorem namesOf_len : ∀ us : List Tm, (namesOf us).length ≤ us.length
  | [] => by simp [namesOf]
  | x :: r => by
    have h1 := namesOf_len r
    have h2 : (nameOf x).length ≤ 1 := by
      cases x
      simp only [nameOf]
      split <;> simp
    show (nameOf x ++ namesOf r).length ≤ _
    rw [List.length_append, List.length_cons]
    omega
theorem name_of_pv {a b : Tm} (h : nodePV a = nodePV b) : nameOf a = nameOf b := by
  cases a; cases b
  simp only [nodePV, Tm.pv, PV.ptr.injEq, List.cons.injEq, PV.sc.injEq, Value.int.injEq, Value.string.injEq, true_and, and_true] at h
  simp only [nameOf, h.1, h.2.2.1]
theorem names_of_pv : ∀ {us vs : List Tm}, us.map nodePV = vs.map nodePV → namesOf us = namesOf vs
  | [], [], _ => rfl
  | [], _ :: _, h => by simp at h
  | _ :: _, [], h => by simp at h
  | a :: us, b :: vs, h => by
    simp only [List.map_cons, List.cons.injEq] at h
    have := names_of_pv h.2
    simp only [namesOf, List.flatMap_cons] at this ⊢
    rw [name_of_pv h.1, this]
mutual
theorem pre_len : ∀ t : Tm, t.pre.length ≤ t.nodes
  | .mk k n s ls args => by
    have := preL_len args
    simp only [Tm.pre, List.length_cons, Tm.nodes]
    omega
theorem preL_len : ∀ ts : List Tm, (preL ts).length ≤ nodesT ts
  | [] => by simp [preL, nodesT]
  | x :: r => by
    have := pre_len x
    have := preL_len r
    simp only [preL, List.length_append, nodesT]
    omega
end
def constsT (t : Tm) : List ByteArray := if t.right 4 1125899906842624 = true then sortedT (namesOf t.pre) else []
theorem RowAt.noIt {H : Nat → Option PObj} {lo m sz : Nat} {a : PV} {xs : List ByteArray} {n : Nat} (h : RowAt H lo m sz a (xs.flatMap txt) n) : RowAt (noIt H) lo m sz a (xs.flatMap txt) n := by
  rcases h with h | ⟨id, h1, h2, h3, h4⟩
  · exact .inl h
  · refine .inr ⟨id, h1, h2, h3, noIt_keep h4 ?_⟩
    cases xs with
    | nil => rfl
    | cons x r => cases r <;> rfl
theorem row_give {Hx : Nat → Option PObj} {id : Nat} {w : Bool} (xs : List ByteArray) (n : Nat) (h : Hx id = some ⟨xs.flatMap txt, w⟩) (hn : n = xs.length := by rfl) : WeakL ([PV.osl id 0 n 1].map (frgF (fun j => decide (j = id)) 1 Hx)) [.sl 1 (xs.map txt)] := by
  subst hn
  have hlen := txt_flen xs
  simp only [List.map_cons, List.map_nil, frgF, decide_true, if_true, h, List.drop_zero]
  rw [if_pos (by omega), List.take_of_length_le (by omega)]
  refine ⟨.trans (Weak.fslW (es' := xs.map txt) (by rw [chunks_length, List.length_map]) (fun e he => ?_) ?_) (Weak.fsl 1 _), trivial⟩
  · obtain ⟨t, _, rfl⟩ := List.mem_map.1 he; rfl
  · rw [chunks_flatten 1 _ _ (by rw [List.length_map]; omega), txts_flat, List.map_id']
    exact .refl _
set_option maxHeartbeats 4000000 in
theorem Consts_m (t : Tm) (hm : t.nodes ≤ 2 ^ 40) (H : Nat → Option PObj) (nx : Nat) : PMut Tryz.prog F.term_Consts [.agg t.pv] H nx (fun H' nx' r => ∃ k, Weak (frzF k H' r) (.sl 1 ((constsT t).map txt))) := by
  refine mut_byR is_term_Consts (by simp) fun hb => ?_
  clear hb
  have c1 := tRight_p t hm 4 1125899906842624
  by_cases hr : t.right 4 1125899906842624 = true
  · rw [hr] at c1
    have e : constsT t = sortedT (namesOf t.pre) := by simp [constsT, hr]
    rw [e]
    clear e hr
    repeat' (first | ((with_reducible first | refine cond_pos (by omega) ?_ | refine cond_neg (by omega) ?_ | refine guard_pos (by omega) ?_ | refine guard_neg (by omega) ?_ | refine cond_ifn ?_ ?_ | refine cond_waysn ?_ ?_ | refine guard_ifn ?_ ?_ | refine guard_waysn ?_ ?_ | refine cond_if ?_ ?_ | refine cond_ways ?_ ?_ | refine guard_if ?_ ?_ | refine guard_ways ?_ ?_) <;> intro _) | (((with_reducible refine call_id ?_); (first | (refine call_pure (all_p t) ?_) | (refine call_pure (c1) ?_)))) | simp (maxSteps := 1000000) (disch := omega) only [go_sem, Nat.reduceAdd, Nat.reduceMul, Nat.reduceSub, Nat.reduceLeDiff, Nat.reduceEqDiff, Nat.reduceBEq, ↓reduceIte, reduceCtorEq, Int.reduceEq, Int.reduceLE, Int.reduceLT, Int.reduceAdd, Int.reduceSub, Int.reduceNeg, Int.reduceToNat, Int.reduceNe, Nat.reducePow, Nat.reduceShiftRight, Nat.reduceMod, mc_term_Consts, *])
    clear c1
    refine c_rng (all_seq t) (by simp [ev, upd]) (fun pre H' m => ∃ (us : List Tm) (a : PV), pre = us.map nodePV ∧ nx + 7 ≤ m ∧ H' (nx + 5) = some ⟨[a], true⟩ ∧ RowAt H' (nx + 5) m 1 a ((namesOf us).flatMap txt) (namesOf us).length)
      ⟨[], _, rfl, Nat.le_refl _, noIt_keep (by simp [upd]) rfl, .inl ⟨rfl, rfl⟩⟩ ?round ?done
    case round =>
      rintro pre x H' m hx hlen ⟨us, a, rfl, hm2, h1, hrow⟩ hnx
      obtain ⟨u, hu, rfl⟩ := List.mem_map.1 hx
      have hus : (us.map nodePV ++ [nodePV u]) = (us ++ [u]).map nodePV := by simp
      rw [hus]
      have hpl := pre_len t
      have hnl := namesOf_len us
      simp only [List.length_map] at hlen
      have hz : ((namesOf us).length + 1) * 16 ≤ 140737488355328 ∧ (namesOf us).length ≤ 4611686018427387903 := by omega
      have hfl := txt_flen (namesOf us)
      have hnm : namesOf (us ++ [u]) = namesOf us ++ nameOf u := by simp [namesOf]
      clear hx hu hus hpl hnl hlen hnx
      cases u with
      | mk k n s ls args =>
      simp only [nameOf] at hnm
      simp only [nodePV]
      by_cases h3 : k = 3
      · rw [if_pos h3] at hnm
        subst h3
        rcases hrow with ⟨h0, rfl⟩ | ⟨id, g1, g2, rfl, g3⟩
        · have hn0 : namesOf us = [] := List.eq_nil_of_length_eq_zero h0
          have hnk := Kept.mk hnm
          clear hnm
          repeat' (first | ((with_reducible first | refine cond_pos (by omega) ?_ | refine cond_neg (by omega) ?_ | refine guard_pos (by omega) ?_ | refine guard_neg (by omega) ?_ | refine cond_ifn ?_ ?_ | refine cond_waysn ?_ ?_ | refine guard_ifn ?_ ?_ | refine guard_waysn ?_ ?_ | refine cond_if ?_ ?_ | refine cond_ways ?_ ?_ | refine guard_if ?_ ?_ | refine guard_ways ?_ ?_) <;> intro _) | simp (maxSteps := 1000000) (disch := omega) only [go_sem, Nat.reduceAdd, Nat.reduceMul, Nat.reduceSub, Nat.reduceLeDiff, Nat.reduceEqDiff, Nat.reduceBEq, ↓reduceIte, reduceCtorEq, Int.reduceEq, Int.reduceLE, Int.reduceLT, Int.reduceAdd, Int.reduceSub, Int.reduceNeg, Int.reduceToNat, Int.reduceNe, Nat.reducePow, Nat.reduceShiftRight, Nat.reduceMod, Tm.pv, *])
          exact rq_normal ⟨us ++ [.mk 3 n s ls args], .osl (m + 11) 0 1 1, rfl, (by show nx + 7 ≤ m + 13; omega), noIt_keep (by simp [upd]) rfl, RowAt.noIt (.inr ⟨m + 11, by omega, (by show m + 11 < m + 13; omega), by rw [hnk.out, hn0]; rfl, by rw [hnk.out, hn0]; simp [upd, txt, show m + 11 ≠ nx + 5 by omega]⟩)⟩
        · have hnk := Kept.mk hnm
          clear hnm
          repeat' (first | ((with_reducible first | refine cond_pos (by omega) ?_ | refine cond_neg (by omega) ?_ | refine guard_pos (by omega) ?_ | refine guard_neg (by omega) ?_ | refine cond_ifn ?_ ?_ | refine cond_waysn ?_ ?_ | refine guard_ifn ?_ ?_ | refine guard_waysn ?_ ?_ | refine cond_if ?_ ?_ | refine cond_ways ?_ ?_ | refine guard_if ?_ ?_ | refine guard_ways ?_ ?_) <;> intro _) | simp (maxSteps := 1000000) (disch := omega) only [go_sem, Nat.reduceAdd, Nat.reduceMul, Nat.reduceSub, Nat.reduceLeDiff, Nat.reduceEqDiff, Nat.reduceBEq, ↓reduceIte, reduceCtorEq, Int.reduceEq, Int.reduceLE, Int.reduceLT, Int.reduceAdd, Int.reduceSub, Int.reduceNeg, Int.reduceToNat, Int.reduceNe, Nat.reducePow, Nat.reduceShiftRight, Nat.reduceMod, Tm.pv, *])
          exact rq_normal ⟨us ++ [.mk 3 n s ls args], .osl (m + 11) 0 ((namesOf us).length + 1) 1, rfl, (by show nx + 7 ≤ m + 13; omega), noIt_keep (by simp [upd]) rfl, RowAt.noIt (.inr ⟨m + 11, by omega, (by show m + 11 < m + 13; omega), by rw [hnk.out, List.length_append]; rfl, by rw [hnk.out, List.flatMap_append]; simp [upd, txt, show m + 11 ≠ nx + 5 by omega]⟩)⟩
      · rw [if_neg h3] at hnm
        have hnk := Kept.mk hnm
        have hrk := Kept.mk hrow
        clear hnm hrow
        repeat' (first | ((with_reducible first | refine cond_pos (by omega) ?_ | refine cond_neg (by omega) ?_ | refine guard_pos (by omega) ?_ | refine guard_neg (by omega) ?_ | refine cond_ifn ?_ ?_ | refine cond_waysn ?_ ?_ | refine guard_ifn ?_ ?_ | refine guard_waysn ?_ ?_ | refine cond_if ?_ ?_ | refine cond_ways ?_ ?_ | refine guard_if ?_ ?_ | refine guard_ways ?_ ?_) <;> intro _) | simp (maxSteps := 1000000) (disch := omega) only [go_sem, Nat.reduceAdd, Nat.reduceMul, Nat.reduceSub, Nat.reduceLeDiff, Nat.reduceEqDiff, Nat.reduceBEq, ↓reduceIte, reduceCtorEq, Int.reduceEq, Int.reduceLE, Int.reduceLT, Int.reduceAdd, Int.reduceSub, Int.reduceNeg, Int.reduceToNat, Int.reduceNe, Nat.reducePow, Nat.reduceShiftRight, Nat.reduceMod, Tm.pv, *])
        have hit : PObj.isIt ⟨[a], true⟩ = false := by
          rcases hrk.out with ⟨_, rfl⟩ | ⟨_, _, _, rfl, _⟩ <;> rfl
        exact rq_normal ⟨us ++ [.mk k n s ls args], a, rfl, (by show nx + 7 ≤ m + 5; omega), noIt_keep h1 hit, RowAt.noIt (by rw [hnk.out, List.append_nil]; exact hrk.out.mono (by show m ≤ m + 5; omega) fun _ _ _ => rfl)⟩
    case done =>
      rintro H' m ⟨us, a, hus, hm2, h1, hrow⟩ hnx
      rw [← names_of_pv hus] at hrow
      clear hus hnx
      have hpl := pre_len t
      have hnl := namesOf_len t.pre
      have hc := name_Sort_p (namesOf t.pre) (by omega)
      rcases hrow with ⟨h0, rfl⟩ | ⟨id, g1, g2, rfl, g3⟩
      · have hn0 : namesOf t.pre = [] := List.eq_nil_of_length_eq_zero h0
        rw [hn0] at hc ⊢
        have hc' : PPure Tryz.prog F.name_Sort [.sc (.slice none 0 0)] (.sl 1 ((sortedT []).map txt)) := hc.weak ⟨.nil 1, trivial⟩ (.refl _)
        clear hc hn0 h0 hpl hnl
        repeat' (first | ((with_reducible first | refine cond_pos (by omega) ?_ | refine cond_neg (by omega) ?_ | refine guard_pos (by omega) ?_ | refine guard_neg (by omega) ?_ | refine cond_ifn ?_ ?_ | refine cond_waysn ?_ ?_ | refine guard_ifn ?_ ?_ | refine guard_waysn ?_ ?_ | refine cond_if ?_ ?_ | refine cond_ways ?_ ?_ | refine guard_if ?_ ?_ | refine guard_ways ?_ ?_) <;> intro _) | (((with_reducible refine call_id ?_); (first | (refine call_pure (hc') ?_)))) | simp (maxSteps := 1000000) (disch := omega) only [go_sem, Nat.reduceAdd, Nat.reduceMul, Nat.reduceSub, Nat.reduceLeDiff, Nat.reduceEqDiff, Nat.reduceBEq, ↓reduceIte, reduceCtorEq, Int.reduceEq, Int.reduceLE, Int.reduceLT, Int.reduceAdd, Int.reduceSub, Int.reduceNeg, Int.reduceToNat, Int.reduceNe, Nat.reducePow, Nat.reduceShiftRight, Nat.reduceMod, *])
        refine fin_mut (.sl 1 ((sortedT []).map txt)) (.inr rfl) (by (simp (disch := omega) only [go_sem, Nat.reduceMul, Nat.reduceSub, Nat.reduceShiftRight, Nat.reduceMod, Nat.reduceEqDiff, Nat.reduceAdd, ↓reduceIte, Nat.reduceLeDiff]); all_goals rfl) ⟨0, .refl _⟩
      · repeat' (first | ((with_reducible first | refine cond_pos (by omega) ?_ | refine cond_neg (by omega) ?_ | refine guard_pos (by omega) ?_ | refine guard_neg (by omega) ?_ | refine cond_ifn ?_ ?_ | refine cond_waysn ?_ ?_ | refine guard_ifn ?_ ?_ | refine guard_waysn ?_ ?_ | refine cond_if ?_ ?_ | refine cond_ways ?_ ?_ | refine guard_if ?_ ?_ | refine guard_ways ?_ ?_) <;> intro _) | simp (maxSteps := 1000000) (disch := omega) only [go_sem, Nat.reduceAdd, Nat.reduceMul, Nat.reduceSub, Nat.reduceLeDiff, Nat.reduceEqDiff, Nat.reduceBEq, ↓reduceIte, reduceCtorEq, Int.reduceEq, Int.reduceLE, Int.reduceLT, Int.reduceAdd, Int.reduceSub, Int.reduceNeg, Int.reduceToNat, Int.reduceNe, Nat.reducePow, Nat.reduceShiftRight, Nat.reduceMod, *])
        refine call_mut (PPure.givein (fun j => decide (j = id)) 1 hc ?w) ?_
        case w => exact row_give _ _ g3
        rintro H2 nx2 r2 ⟨rfl, rfl, rfl⟩ -
        repeat' (first | ((with_reducible first | refine cond_pos (by omega) ?_ | refine cond_neg (by omega) ?_ | refine guard_pos (by omega) ?_ | refine guard_neg (by omega) ?_ | refine cond_ifn ?_ ?_ | refine cond_waysn ?_ ?_ | refine guard_ifn ?_ ?_ | refine guard_waysn ?_ ?_ | refine cond_if ?_ ?_ | refine cond_ways ?_ ?_ | refine guard_if ?_ ?_ | refine guard_ways ?_ ?_) <;> intro _) | simp (maxSteps := 1000000) (disch := omega) only [go_sem, Nat.reduceAdd, Nat.reduceMul, Nat.reduceSub, Nat.reduceLeDiff, Nat.reduceEqDiff, Nat.reduceBEq, ↓reduceIte, reduceCtorEq, Int.reduceEq, Int.reduceLE, Int.reduceLT, Int.reduceAdd, Int.reduceSub, Int.reduceNeg, Int.reduceToNat, Int.reduceNe, Nat.reducePow, Nat.reduceShiftRight, Nat.reduceMod, *])
        refine fin_mut (.sl 1 ((sortedT (namesOf t.pre)).map txt)) (.inr rfl) (by (simp (disch := omega) only [go_sem, Nat.reduceMul, Nat.reduceSub, Nat.reduceShiftRight, Nat.reduceMod, Nat.reduceEqDiff, Nat.reduceAdd, ↓reduceIte, Nat.reduceLeDiff]); all_goals rfl) ⟨0, .refl _⟩
  · have e : constsT t = [] := by simp [constsT, hr]
    rw [Bool.not_eq_true] at hr
    rw [hr] at c1
    rw [e]
    clear e hr
    repeat' (first | ((with_reducible first | refine cond_pos (by omega) ?_ | refine cond_neg (by omega) ?_ | refine guard_pos (by omega) ?_ | refine guard_neg (by omega) ?_ | refine cond_ifn ?_ ?_ | refine cond_waysn ?_ ?_ | refine guard_ifn ?_ ?_ | refine guard_waysn ?_ ?_ | refine cond_if ?_ ?_ | refine cond_ways ?_ ?_ | refine guard_if ?_ ?_ | refine guard_ways ?_ ?_) <;> intro _) | (((with_reducible refine call_id ?_); (first | (refine call_pure (c1) ?_)))) | simp (maxSteps := 1000000) (disch := omega) only [go_sem, Nat.reduceAdd, Nat.reduceMul, Nat.reduceSub, Nat.reduceLeDiff, Nat.reduceEqDiff, Nat.reduceBEq, ↓reduceIte, reduceCtorEq, Int.reduceEq, Int.reduceLE, Int.reduceLT, Int.reduceAdd, Int.reduceSub, Int.reduceNeg, Int.reduceToNat, Int.reduceNe, Nat.reducePow, Nat.reduceShiftRight, Nat.reduceMod, mc_term_Consts, *])
    refine fin_mut (.sc (.slice none 0 0)) (.inr rfl) (by (simp (disch := omega) only [go_sem, Nat.reduceMul, Nat.reduceSub, Nat.reduceShiftRight, Nat.reduceMod, Nat.reduceEqDiff, Nat.reduceAdd, ↓reduceIte, Nat.reduceLeDiff]); all_goals rfl) ⟨0, Weak.nil 1⟩
theorem Consts_p (t : Tm) (hm : t.nodes ≤ 2 ^ 40) : PPure Tryz.prog F.term_Consts [.agg t.pv] (.sl 1 ((constsT t).map txt)) := by
  refine PMut.pure ?_ (fun nx => Consts_m t hm noneOwn nx) fun nx H' nx' r0 h => h
  have : ∀ ys : List ByteArray, immLL (ys.map txt) = true := fun ys => by
    induction ys with
    | nil => rfl
    | cons y r ih => simp only [List.map_cons, immLL, ih]; rfl
  simp [PV.imm, this]
end
section
set_option maxRecDepth 20000
attribute [local go_sem] pv_len pv_take Nat.add_assoc tm_len tm_take pv_one tm_one id_ne id_ne' id_ne2 List.append_assoc
theorem namesOf_append (a b : List Tm) : namesOf (a ++ b) = namesOf a ++ namesOf b := by simp [namesOf]
theorem txts_imm : ∀ ys : List ByteArray, immLL (ys.map txt) = true
  | [] => rfl
  | y :: r => by simp only [List.map_cons, immLL, txts_imm r]; rfl
theorem row_frz {Hx : Nat → Option PObj} {id : Nat} {w : Bool} (xs : List ByteArray) (n : Nat) (h : Hx id = some ⟨xs.flatMap txt, w⟩) (hn : n = xs.length := by rfl) : Weak (frzF 1 Hx (.osl id 0 n 1)) (.sl 1 (xs.map txt)) := by
  subst hn
  have hlen := txt_flen xs
  simp only [frzF, h, List.drop_zero]
  rw [if_pos (by omega), List.take_of_length_le (by omega)]
  refine .trans (Weak.fslW (es' := xs.map txt) (by rw [chunks_length, List.length_map]) (fun e he => ?_) ?_) (Weak.fsl 1 _)
  · obtain ⟨t, _, rfl⟩ := List.mem_map.1 he; rfl
  · rw [chunks_flatten 1 _ _ (by rw [List.length_map]; omega), txts_flat, List.map_id']
    exact .refl _
set_option maxHeartbeats 4000000 in
theorem ref_consts_p : ∀ (fuel : Nat) (t : Tm), t.size ≤ fuel → t.nodes ≤ 2 ^ 40 → PPure Tryz.prog F.ref04_consts [.agg t.pv] (.sl 1 ((namesOf t.pre).map txt)) := by
  intro fuel
  induction fuel with
  | zero => intro t h; have := size_pos t; omega
  | succ fuel ih =>
    intro t hf hm
    cases t with
    | mk k n s ls args =>
    simp only [Tm.size] at hf
    simp only [Tm.nodes] at hm
    refine pure_by is_ref04_consts (by simp) (by simp [PV.imm, txts_imm]) fun hb nx => ?_
    have hb0 : args.length ≤ 9223372036854775807 := by simp [Tm.pv, bndL, PV.bnd] at hb; exact hb.2.1
    have hpl := preL_len args
    by_cases h3 : k = 3
    all_goals
      repeat' (first | ((with_reducible first | refine cond_pos (by omega) ?_ | refine cond_neg (by omega) ?_ | refine guard_pos (by omega) ?_ | refine guard_neg (by omega) ?_ | refine cond_ifn ?_ ?_ | refine cond_waysn ?_ ?_ | refine guard_ifn ?_ ?_ | refine guard_waysn ?_ ?_ | refine cond_if ?_ ?_ | refine cond_ways ?_ ?_ | refine guard_if ?_ ?_ | refine guard_ways ?_ ?_) <;> intro _) | simp (maxSteps := 1000000) (disch := omega) only [go_sem, Nat.reduceAdd, Nat.reduceMul, Nat.reduceSub, Nat.reduceLeDiff, Nat.reduceEqDiff, Nat.reduceBEq, ↓reduceIte, reduceCtorEq, Int.reduceEq, Int.reduceLE, Int.reduceLT, Int.reduceAdd, Int.reduceSub, Int.reduceNeg, Int.reduceToNat, Int.reduceNe, Nat.reducePow, Nat.reduceShiftRight, Nat.reduceMod, mc_ref04_consts, Tm.pv, *])
      refine c_loopW 536854552 (by kernel_rfl) (fun j f H m => ∃ (i id : Nat) (w : Bool) (ys : List ByteArray), j = args.length - i ∧ i ≤ args.length ∧ f 4 = .sc (.int .i64 i) ∧ id < m ∧ f 3 = .osl id 0 ys.length 1 ∧ H id = some ⟨ys.flatMap txt, w⟩ ∧ Kept (ys = (if k = 3 then [s] else []) ++ namesOf (preL (args.take i)))) args.length ?init ?step
      case step =>
        rintro _ f H m ⟨i, id, w, ys, rfl, hi, e4, hid, e3, hH, hys⟩
        have hyl : ys.length ≤ 1 + (preL (args.take i)).length := by
          rw [hys.out, List.length_append]
          have := namesOf_len (preL (args.take i))
          split <;> simp <;> omega
        have hpt := preL_len (args.take i)
        have hnt := nodesT_take_le args i
        by_cases hlt : i < args.length
        · have eg : args[i]? = some args[i] := List.getElem?_eq_getElem hlt
          have hn := nodesT_mem args i hlt
          have hs := sizeL_mem args i hlt
          have hp1 := pre_len args[i]
          have hnn := namesOf_len args[i].pre
          have c1 := ih args[i] (by omega) (by omega)
          have hst : namesOf (preL (args.take (i + 1))) = namesOf (preL (args.take i)) ++ namesOf args[i].pre := by rw [preL_take args i hlt, namesOf_append]
          have h1 := txts_len (namesOf args[i].pre)
          have h2 := txts_one (namesOf args[i].pre)
          have hfl := txt_flen ys
          have hz : (ys.length + (namesOf args[i].pre).length) * 16 ≤ 140737488355328 ∧ ys.length + (namesOf args[i].pre).length ≤ 4611686018427387904 ∧ ys.length ≤ 4611686018427387903 := by omega
          have hstk := Kept.mk hst
          clear hst ih hp1 hnn hn hs hpt hnt hyl
          repeat' (first | ((with_reducible first | refine cond_pos (by omega) ?_ | refine cond_neg (by omega) ?_ | refine guard_pos (by omega) ?_ | refine guard_neg (by omega) ?_ | refine cond_ifn ?_ ?_ | refine cond_waysn ?_ ?_ | refine guard_ifn ?_ ?_ | refine guard_waysn ?_ ?_ | refine cond_if ?_ ?_ | refine cond_ways ?_ ?_ | refine guard_if ?_ ?_ | refine guard_ways ?_ ?_) <;> intro _) | (((with_reducible refine call_id ?_); (first | (refine call_pure (c1) ?_)))) | simp (maxSteps := 1000000) (disch := omega) only [go_sem, Nat.reduceAdd, Nat.reduceMul, Nat.reduceSub, Nat.reduceLeDiff, Nat.reduceEqDiff, Nat.reduceBEq, ↓reduceIte, reduceCtorEq, Int.reduceEq, Int.reduceLE, Int.reduceLT, Int.reduceAdd, Int.reduceSub, Int.reduceNeg, Int.reduceToNat, Int.reduceNe, Nat.reducePow, Nat.reduceShiftRight, Nat.reduceMod, Tm.pv, *])
          refine Nx.mk (args.length - (i + 1)) (by first | assumption | omega | rfl | (simp (disch := omega) only [go_sem, Nat.reduceMul, Nat.reduceSub, Nat.reduceShiftRight, Nat.reduceMod, Nat.reduceEqDiff, Nat.reduceAdd, ↓reduceIte, Nat.reduceLeDiff, *] <;> omega)) ⟨i + 1, m + 12, false, ys ++ namesOf args[i].pre, rfl, (by first | assumption | omega | rfl | (simp (disch := omega) only [go_sem, Nat.reduceMul, Nat.reduceSub, Nat.reduceShiftRight, Nat.reduceMod, Nat.reduceEqDiff, Nat.reduceAdd, ↓reduceIte, Nat.reduceLeDiff, *] <;> omega)), by simp [upd], (by show m + 12 < m + 17; omega), by simp [upd], by simp [upd, txts_flat, List.flatMap_append], Kept.mk ?_⟩
          have h9 := hys.out
          simp [h3] at h9
          rw [h9, hstk.out]
          try simp
        · obtain rfl : i = args.length := by omega
          have hyy : ys = namesOf (Tm.mk k n s ls args).pre := by
            rw [hys.out, List.take_length, Tm.pre]
            rfl
          have hw := Kept.mk (row_frz ys ys.length hH)
          rw [hyy] at hw
          have hwk : Kept (Weak (frzF 1 H (.osl id 0 ys.length 1)) (.sl 1 ((namesOf (Tm.mk k n s ls args).pre).map txt))) := Kept.mk (by rw [← hyy]; exact row_frz ys ys.length hH)
          clear hyy hw hyl hpt hnt ih
          repeat' (first | ((with_reducible first | refine cond_pos (by omega) ?_ | refine cond_neg (by omega) ?_ | refine guard_pos (by omega) ?_ | refine guard_neg (by omega) ?_ | refine cond_ifn ?_ ?_ | refine cond_waysn ?_ ?_ | refine guard_ifn ?_ ?_ | refine guard_waysn ?_ ?_ | refine cond_if ?_ ?_ | refine cond_ways ?_ ?_ | refine guard_if ?_ ?_ | refine guard_ways ?_ ?_) <;> intro _) | simp (maxSteps := 1000000) (disch := omega) only [go_sem, Nat.reduceAdd, Nat.reduceMul, Nat.reduceSub, Nat.reduceLeDiff, Nat.reduceEqDiff, Nat.reduceBEq, ↓reduceIte, reduceCtorEq, Int.reduceEq, Int.reduceLE, Int.reduceLT, Int.reduceAdd, Int.reduceSub, Int.reduceNeg, Int.reduceToNat, Int.reduceNe, Nat.reducePow, Nat.reduceShiftRight, Nat.reduceMod, Tm.pv, *])
          refine fin_retF (r0 := .osl id 0 ys.length 1) 1 (by (simp (disch := omega) only [go_sem, Nat.reduceMul, Nat.reduceSub, Nat.reduceShiftRight, Nat.reduceMod, Nat.reduceEqDiff, Nat.reduceAdd, ↓reduceIte, Nat.reduceLeDiff, e3]); all_goals rfl) ?_
          first | exact hwk.out | (have := hwk.out; rw [h3] at this; exact this)
      case init =>
        first
          | exact ⟨0, nx + 11, false, [s], by omega, Nat.zero_le _, by simp [upd], (by show nx + 11 < nx + 14; omega), by simp [upd], by simp [upd, txt], Kept.mk (by simp [preL, namesOf, h3])⟩
          | exact ⟨0, nx + 2, true, [], by omega, Nat.zero_le _, by simp [upd], (by simp only [Nat.add_assoc]; exact Nat.add_lt_add_left (by omega) _), by simp [upd], by simp [upd], Kept.mk (by simp [preL, namesOf, h3])⟩
end
section
set_option maxRecDepth 20000
attribute [local go_sem] pv_len pv_take Nat.add_assoc id_ne id_ne' id_ne2 List.append_assoc
def bl (y x : ByteArray) : Bool := Op.bytesLess y.toList x.toList
theorem fold_bl {y x : ByteArray} : Op.bytesLess y.toList x.toList = bl y x := nr rfl
def strP (s : ByteArray) : PV := .sc (.string s)
def posT (x : ByteArray) : List ByteArray → Nat
  | [] => 0
  | y :: r => if bl y x = true then posT x r + 1 else 0
theorem posT_eq (x : ByteArray) : ∀ (ys : List ByteArray) (k : Nat), k ≤ ys.length → (∀ j (h : j < ys.length), j < k → bl ys[j] x = true) → (∀ h : k < ys.length, bl ys[k] x = false) → posT x ys = k
  | [], k, h, _, _ => by simp at h; subst h; rfl
  | y :: r, 0, _, _, h2 => by
    have := h2 (by simp)
    simp only [posT]
    rw [if_neg]
    simpa using this
  | y :: r, k + 1, h, h1, h2 => by
    have hy := h1 0 (by simp) (by omega)
    simp only [posT]
    rw [if_pos (by simpa using hy), posT_eq x r k (by simpa using h) (fun j hj hk => h1 (j + 1) (by simpa using hj) (by omega)) fun hk => h2 (by simpa using hk)]
def insT (x : ByteArray) (ys : List ByteArray) : List ByteArray := if ys[posT x ys]? = some x then ys else ys.take (posT x ys) ++ x :: ys.drop (posT x ys)
theorem insT_len (x : ByteArray) (ys : List ByteArray) : (insT x ys).length ≤ ys.length + 1 := by
  unfold insT
  split
  · omega
  · simp; omega
def insAll (xs : List ByteArray) : List ByteArray := xs.foldl (fun ys x => insT x ys) []
theorem insAll_snoc (xs : List ByteArray) (x : ByteArray) : insAll (xs ++ [x]) = insT x (insAll xs) := by simp [insAll]
theorem insAll_len (xs : List ByteArray) : (insAll xs).length ≤ xs.length := by
  suffices h : ∀ (xs ys : List ByteArray), (xs.foldl (fun ys x => insT x ys) ys).length ≤ ys.length + xs.length by have := h xs []; simp only [List.length_nil, Nat.zero_add] at this; exact this
  intro xs
  induction xs with
  | nil => intro ys; simp
  | cons x r ih =>
    intro ys
    have h1 := ih (insT x ys)
    have h2 := insT_len x ys
    simp only [List.foldl_cons, List.length_cons]
    omega
theorem strP_flat : ∀ ys : List ByteArray, (ys.map txt).flatten = ys.map strP
  | [] => rfl
  | y :: r => by simp only [List.map_cons, List.flatten_cons, strP_flat r]; rfl
theorem row_frS {H : Nat → Option PObj} {id : Nat} {ys : List ByteArray} {w : Bool} (h : H id = some ⟨ys.map strP, w⟩) : Weak (frzF 1 H (.osl id 0 ys.length 1)) (.sl 1 (ys.map txt)) := by
  simp only [frzF, h, List.drop_zero]
  rw [if_pos (by simp), List.take_of_length_le (by simp), List.map_id']
  refine .trans (Weak.fslW (es' := ys.map txt) (by rw [chunks_length, List.length_map]) (fun e he => ?_) ?_) (Weak.fsl 1 _)
  · obtain ⟨t, _, rfl⟩ := List.mem_map.1 he; rfl
  · rw [chunks_flatten 1 _ _ (by simp), strP_flat]
    exact .refl _
theorem txts_immLL : ∀ ys : List ByteArray, immLL (ys.map txt) = true
  | [] => rfl
  | y :: r => by simp only [List.map_cons, immLL, txts_immLL r]; rfl
def RowS (H : Nat → Option PObj) (m : Nat) (a : PV) (ys : List ByteArray) : Prop := (ys = [] ∧ a = .sl 1 []) ∨ ∃ id w, id < m ∧ a = .osl id 0 ys.length 1 ∧ H id = some ⟨ys.map strP, w⟩
set_option maxRecDepth 100000 in
set_option maxHeartbeats 16000000 in
theorem ref01_Sort_p (xs : List ByteArray) (hl : xs.length ≤ 2 ^ 40) : PPure Tryz.prog F.ref01_Sort [.sl 1 (xs.map txt)] (.sl 1 ((insAll xs).map txt)) := by
  refine pure_by is_ref01_Sort (by simp) (by simp [PV.imm, txts_immLL]) fun hb nx => ?_
  clear hb
  repeat' (first | ((with_reducible first | refine cond_pos (by omega) ?_ | refine cond_neg (by omega) ?_ | refine guard_pos (by omega) ?_ | refine guard_neg (by omega) ?_ | refine cond_ifn ?_ ?_ | refine cond_waysn ?_ ?_ | refine guard_ifn ?_ ?_ | refine guard_waysn ?_ ?_ | refine cond_if ?_ ?_ | refine cond_ways ?_ ?_ | refine guard_if ?_ ?_ | refine guard_ways ?_ ?_) <;> intro _) | simp (maxSteps := 1000000) (disch := omega) only [go_sem, Nat.reduceAdd, Nat.reduceMul, Nat.reduceSub, Nat.reduceLeDiff, Nat.reduceEqDiff, Nat.reduceBEq, ↓reduceIte, reduceCtorEq, Int.reduceEq, Int.reduceLE, Int.reduceLT, Int.reduceAdd, Int.reduceSub, Int.reduceNeg, Int.reduceToNat, Int.reduceNe, Nat.reducePow, Nat.reduceShiftRight, Nat.reduceMod, mc_ref01_Sort, *])
  refine c_loopW 9223372036854775672 (by kernel_rfl) (fun j f H m => ∃ (i : Nat) (a : PV), j = xs.length - i ∧ i ≤ xs.length ∧ f 4 = .sc (.int .i64 i) ∧ f 3 = a ∧ RowS H m a (insAll (xs.take i))) _ ⟨0, .sl 1 [], rfl, (by first | assumption | omega | rfl | (simp (disch := omega) only [go_sem, Nat.reduceMul, Nat.reduceSub, Nat.reduceShiftRight, Nat.reduceMod, Nat.reduceEqDiff, Nat.reduceAdd, ↓reduceIte, Nat.reduceLeDiff, *] <;> omega)), by simp [upd], by simp [upd], .inl ⟨rfl, rfl⟩⟩ ?_
  rintro _ f H m ⟨i, a, rfl, hi, e4, e3, hrow⟩
  by_cases hlt : i < xs.length
  · have eg : xs[i]? = some xs[i] := List.getElem?_eq_getElem hlt
    have hst : insAll (xs.take (i + 1)) = insT xs[i] (insAll (xs.take i)) := by rw [List.take_succ_eq_append_getElem hlt, insAll_snoc]
    have hyl := insAll_len (xs.take i)
    rw [List.length_take, Nat.min_eq_left hi] at hyl
    have hstk := Kept.mk hst
    clear hst
    generalize insAll (xs.take i) = ys at hrow hstk hyl
    rcases hrow with ⟨rfl, rfl⟩ | ⟨id, w, hid, rfl, hH⟩
    · repeat' (first | ((with_reducible first | refine cond_pos (by omega) ?_ | refine cond_neg (by omega) ?_ | refine guard_pos (by omega) ?_ | refine guard_neg (by omega) ?_ | refine cond_ifn ?_ ?_ | refine cond_waysn ?_ ?_ | refine guard_ifn ?_ ?_ | refine guard_waysn ?_ ?_ | refine cond_if ?_ ?_ | refine cond_ways ?_ ?_ | refine guard_if ?_ ?_ | refine guard_ways ?_ ?_) <;> intro _) | simp (maxSteps := 1000000) (disch := omega) only [go_sem, Nat.reduceAdd, Nat.reduceMul, Nat.reduceSub, Nat.reduceLeDiff, Nat.reduceEqDiff, Nat.reduceBEq, ↓reduceIte, reduceCtorEq, Int.reduceEq, Int.reduceLE, Int.reduceLT, Int.reduceAdd, Int.reduceSub, Int.reduceNeg, Int.reduceToNat, Int.reduceNe, Nat.reducePow, Nat.reduceShiftRight, Nat.reduceMod, *])
      refine c_rounds 1 ?_
      repeat' (first | ((with_reducible first | refine cond_pos (by omega) ?_ | refine cond_neg (by omega) ?_ | refine guard_pos (by omega) ?_ | refine guard_neg (by omega) ?_ | refine cond_ifn ?_ ?_ | refine cond_waysn ?_ ?_ | refine guard_ifn ?_ ?_ | refine guard_waysn ?_ ?_ | refine cond_if ?_ ?_ | refine cond_ways ?_ ?_ | refine guard_if ?_ ?_ | refine guard_ways ?_ ?_) <;> intro _) | simp (maxSteps := 1000000) (disch := omega) only [go_sem, Nat.reduceAdd, Nat.reduceMul, Nat.reduceSub, Nat.reduceLeDiff, Nat.reduceEqDiff, Nat.reduceBEq, ↓reduceIte, reduceCtorEq, Int.reduceEq, Int.reduceLE, Int.reduceLT, Int.reduceAdd, Int.reduceSub, Int.reduceNeg, Int.reduceToNat, Int.reduceNe, Nat.reducePow, Nat.reduceShiftRight, Nat.reduceMod, rounds_next, txt, *])
      exact Nx.mk (xs.length - (i + 1)) (by first | assumption | omega | rfl | (simp (disch := omega) only [go_sem, Nat.reduceMul, Nat.reduceSub, Nat.reduceShiftRight, Nat.reduceMod, Nat.reduceEqDiff, Nat.reduceAdd, ↓reduceIte, Nat.reduceLeDiff, *] <;> omega)) ⟨i + 1, .osl (m + 52) 0 1 1, rfl, (by first | assumption | omega | rfl | (simp (disch := omega) only [go_sem, Nat.reduceMul, Nat.reduceSub, Nat.reduceShiftRight, Nat.reduceMod, Nat.reduceEqDiff, Nat.reduceAdd, ↓reduceIte, Nat.reduceLeDiff, *] <;> omega)), by simp [upd], by simp [upd], by rw [hstk.out]; exact .inr ⟨m + 52, false, Nat.add_lt_add_left (by decide) _, rfl, by simp [upd, insT, posT, strP]⟩⟩
    · repeat' (first | ((with_reducible first | refine cond_pos (by omega) ?_ | refine cond_neg (by omega) ?_ | refine guard_pos (by omega) ?_ | refine guard_neg (by omega) ?_ | refine cond_ifn ?_ ?_ | refine cond_waysn ?_ ?_ | refine guard_ifn ?_ ?_ | refine guard_waysn ?_ ?_ | refine cond_if ?_ ?_ | refine cond_ways ?_ ?_ | refine guard_if ?_ ?_ | refine guard_ways ?_ ?_) <;> intro _) | simp (maxSteps := 1000000) (disch := omega) only [go_sem, Nat.reduceAdd, Nat.reduceMul, Nat.reduceSub, Nat.reduceLeDiff, Nat.reduceEqDiff, Nat.reduceBEq, ↓reduceIte, reduceCtorEq, Int.reduceEq, Int.reduceLE, Int.reduceLT, Int.reduceAdd, Int.reduceSub, Int.reduceNeg, Int.reduceToNat, Int.reduceNe, Nat.reducePow, Nat.reduceShiftRight, Nat.reduceMod, *])
      refine c_loopW 2147467296 (by kernel_rfl) (fun j g H2 m2 => ∃ (k : Nat), j = ys.length - k ∧ k ≤ ys.length ∧ g 5 = .sc (.int .i64 k) ∧ m ≤ m2 ∧ H2 id = some ⟨ys.map strP, w⟩ ∧ Kept (∀ j (h : j < ys.length), j < k → bl ys[j] xs[i] = true)) _ ⟨0, rfl, Nat.zero_le _, by simp [upd], Nat.le_add_right _ _, hH, Kept.mk fun j _ h => by omega⟩ ?_
      rintro _ g H2 m2 ⟨k, rfl, hk, e5, hm2, hH2, hb⟩
      by_cases hlt2 : k < ys.length
      · have eg2 : ys[k]? = some ys[k] := List.getElem?_eq_getElem hlt2
        have hdr : List.drop k (ys.map strP) = .sc (.string ys[k]) :: List.drop (k + 1) (ys.map strP) := by
          rw [List.drop_eq_getElem_cons (by simpa using hlt2)]
          simp [strP]
        have hk1 : k + 1 ≤ ys.length := hlt2
        have hz1 : (k + 1) * 16 ≤ 140737488355328 ∧ k ≤ 4611686018427387903 := by omega
        have hz2 : (ys.length - k) * 16 ≤ 140737488355328 := by omega
        have hbk := hb
        clear hb
        cases hc : bl ys[k] xs[i] with
        | true =>
          repeat' (first | ((with_reducible first | refine cond_pos (by omega) ?_ | refine cond_neg (by omega) ?_ | refine guard_pos (by omega) ?_ | refine guard_neg (by omega) ?_ | refine cond_ifn ?_ ?_ | refine cond_waysn ?_ ?_ | refine guard_ifn ?_ ?_ | refine guard_waysn ?_ ?_ | refine cond_if ?_ ?_ | refine cond_ways ?_ ?_ | refine guard_if ?_ ?_ | refine guard_ways ?_ ?_) <;> intro _) | simp (maxSteps := 1000000) (disch := omega) only [go_sem, Nat.reduceAdd, Nat.reduceMul, Nat.reduceSub, Nat.reduceLeDiff, Nat.reduceEqDiff, Nat.reduceBEq, ↓reduceIte, reduceCtorEq, Int.reduceEq, Int.reduceLE, Int.reduceLT, Int.reduceAdd, Int.reduceSub, Int.reduceNeg, Int.reduceToNat, Int.reduceNe, Nat.reducePow, Nat.reduceShiftRight, Nat.reduceMod, strBin, fold_bl, txt, *])
          exact Nx.mk (ys.length - (k + 1)) (by first | assumption | omega | rfl | (simp (disch := omega) only [go_sem, Nat.reduceMul, Nat.reduceSub, Nat.reduceShiftRight, Nat.reduceMod, Nat.reduceEqDiff, Nat.reduceAdd, ↓reduceIte, Nat.reduceLeDiff, *] <;> omega)) ⟨k + 1, rfl, (by first | assumption | omega | rfl | (simp (disch := omega) only [go_sem, Nat.reduceMul, Nat.reduceSub, Nat.reduceShiftRight, Nat.reduceMod, Nat.reduceEqDiff, Nat.reduceAdd, ↓reduceIte, Nat.reduceLeDiff, *] <;> omega)), by simp [upd], (by first | assumption | omega | rfl | (simp (disch := omega) only [go_sem, Nat.reduceMul, Nat.reduceSub, Nat.reduceShiftRight, Nat.reduceMod, Nat.reduceEqDiff, Nat.reduceAdd, ↓reduceIte, Nat.reduceLeDiff, *] <;> omega)), hH2, Kept.mk fun j h g => by
            rcases Nat.lt_succ_iff_lt_or_eq.1 g with g | rfl
            · exact hbk.out j h g
            · exact hc⟩
        | false =>
          have hpos := posT_eq xs[i] ys k hk hbk.out (fun _ => hc)
          have hposk := Kept.mk hpos
          clear hpos
          by_cases he : ys[k] = xs[i]
          · have hs1 : sameB ys[k] xs[i] = true := by rw [he]; exact (Lib.bytes_beq_iff _ _).2 rfl
            have hins : insT xs[i] ys = ys := by
              unfold insT
              rw [hposk.out, eg2, he]
              exact if_pos rfl
            have hk' := Kept.mk hins
            clear he hins
            repeat' (first | ((with_reducible first | refine cond_pos (by omega) ?_ | refine cond_neg (by omega) ?_ | refine guard_pos (by omega) ?_ | refine guard_neg (by omega) ?_ | refine cond_ifn ?_ ?_ | refine cond_waysn ?_ ?_ | refine guard_ifn ?_ ?_ | refine guard_waysn ?_ ?_ | refine cond_if ?_ ?_ | refine cond_ways ?_ ?_ | refine guard_if ?_ ?_ | refine guard_ways ?_ ?_) <;> intro _) | simp (maxSteps := 1000000) (disch := omega) only [go_sem, Nat.reduceAdd, Nat.reduceMul, Nat.reduceSub, Nat.reduceLeDiff, Nat.reduceEqDiff, Nat.reduceBEq, ↓reduceIte, reduceCtorEq, Int.reduceEq, Int.reduceLE, Int.reduceLT, Int.reduceAdd, Int.reduceSub, Int.reduceNeg, Int.reduceToNat, Int.reduceNe, Nat.reducePow, Nat.reduceShiftRight, Nat.reduceMod, strBin, fold_bl, fold_sameB, txt, Int.sub_zero, Nat.sub_zero, Nat.sub_self, *])
            exact Nx.mk (xs.length - (i + 1)) (by first | assumption | omega | rfl | (simp (disch := omega) only [go_sem, Nat.reduceMul, Nat.reduceSub, Nat.reduceShiftRight, Nat.reduceMod, Nat.reduceEqDiff, Nat.reduceAdd, ↓reduceIte, Nat.reduceLeDiff, *] <;> omega)) ⟨i + 1, .osl id 0 ys.length 1, rfl, (by first | assumption | omega | rfl | (simp (disch := omega) only [go_sem, Nat.reduceMul, Nat.reduceSub, Nat.reduceShiftRight, Nat.reduceMod, Nat.reduceEqDiff, Nat.reduceAdd, ↓reduceIte, Nat.reduceLeDiff, *] <;> omega)), by simp [upd], (by first | assumption | omega | rfl | (simp (disch := omega) only [go_sem, Nat.reduceMul, Nat.reduceSub, Nat.reduceShiftRight, Nat.reduceMod, Nat.reduceEqDiff, Nat.reduceAdd, ↓reduceIte, Nat.reduceLeDiff, *] <;> omega)), by rw [hstk.out, hk'.out]; exact .inr ⟨id, w, Nat.lt_of_lt_of_le hid (Nat.le_trans hm2 (Nat.le_add_right _ _)), rfl, hH2⟩⟩
          · have hs1 : sameB ys[k] xs[i] = false := by
              rw [← Bool.not_eq_true]
              intro h
              exact he (txt_inj (by simpa [sameB] using h))
            have hins : insT xs[i] ys = ys.take k ++ xs[i] :: ys.drop k := by
              unfold insT
              rw [hposk.out, eg2, if_neg]
              intro h
              exact he (Option.some.inj h)
            have hto : ((ys.length : Int) - k).toNat = ys.length - k := by omega
            have hz3 : k + (ys.length - k) ≤ ys.length := by omega
            have hz4 : ys.length - k ≤ 4611686018427387904 := by omega
            have hl3 : (List.drop (k + 1) (List.map strP ys)).length + 1 = ys.length - k := by rw [List.length_drop, List.length_map]; omega
            have htk : List.take (ys.length - k) (.sc (.string ys[k]) :: List.drop (k + 1) (ys.map strP)) = .sc (.string ys[k]) :: List.drop (k + 1) (ys.map strP) := List.take_of_length_le (by rw [List.length_cons, hl3]; exact Nat.le_refl _)
            have hall : (List.drop (k + 1) (List.map strP ys)).all PV.one = true := by
              rw [List.all_eq_true]
              intro x hx
              obtain ⟨y, _, rfl⟩ := List.mem_map.1 (List.mem_of_mem_drop hx)
              rfl
            have hl4 : (List.take k (List.map strP ys)).length = k := by rw [List.length_take, List.length_map]; omega
            have hz5 : (k + (1 + (ys.length - k))) * 16 ≤ 140737488355328 := by omega
            have hz6 : k + (1 + (ys.length - k)) ≤ 4611686018427387904 := by omega
            have hink := Kept.mk hins
            clear he hins
            repeat' (first | ((with_reducible first | refine cond_pos (by omega) ?_ | refine cond_neg (by omega) ?_ | refine guard_pos (by omega) ?_ | refine guard_neg (by omega) ?_ | refine cond_ifn ?_ ?_ | refine cond_waysn ?_ ?_ | refine guard_ifn ?_ ?_ | refine guard_waysn ?_ ?_ | refine cond_if ?_ ?_ | refine cond_ways ?_ ?_ | refine guard_if ?_ ?_ | refine guard_ways ?_ ?_) <;> intro _) | simp (maxSteps := 1000000) (disch := omega) only [go_sem, Nat.reduceAdd, Nat.reduceMul, Nat.reduceSub, Nat.reduceLeDiff, Nat.reduceEqDiff, Nat.reduceBEq, ↓reduceIte, reduceCtorEq, Int.reduceEq, Int.reduceLE, Int.reduceLT, Int.reduceAdd, Int.reduceSub, Int.reduceNeg, Int.reduceToNat, Int.reduceNe, Nat.reducePow, Nat.reduceShiftRight, Nat.reduceMod, strBin, fold_bl, fold_sameB, txt, Int.sub_zero, Nat.sub_zero, Nat.sub_self, *])
            have hfin : Kept (List.take k (List.map strP ys) ++ ([.sc (.string xs[i])] ++ (.sc (.string ys[k]) :: List.drop (k + 1) (List.map strP ys))) = (insT xs[i] ys).map strP ∧ (insT xs[i] ys).length = k + (1 + (ys.length - k))) := Kept.mk (by
              rw [hink.out]
              constructor
              · rw [← hdr, List.map_append, List.map_cons, List.map_take, List.map_drop]; rfl
              · rw [List.length_append, List.length_cons, List.length_take, List.length_drop]; omega)
            exact Nx.mk (xs.length - (i + 1)) (by first | assumption | omega | rfl | (simp (disch := omega) only [go_sem, Nat.reduceMul, Nat.reduceSub, Nat.reduceShiftRight, Nat.reduceMod, Nat.reduceEqDiff, Nat.reduceAdd, ↓reduceIte, Nat.reduceLeDiff, *] <;> omega)) ⟨i + 1, .osl (m2 + 47) 0 (k + (1 + (ys.length - k))) 1, rfl, (by first | assumption | omega | rfl | (simp (disch := omega) only [go_sem, Nat.reduceMul, Nat.reduceSub, Nat.reduceShiftRight, Nat.reduceMod, Nat.reduceEqDiff, Nat.reduceAdd, ↓reduceIte, Nat.reduceLeDiff, *] <;> omega)), by simp [upd], by simp [upd], by rw [hstk.out]; exact .inr ⟨m2 + 47, false, Nat.add_lt_add_left (by decide) _, by rw [hfin.out.2], by rw [← hfin.out.1]; simp [upd]⟩⟩
      · obtain rfl : k = ys.length := by omega
        have hpos := posT_eq xs[i] ys ys.length hk hb.out (fun h => by omega)
        have hta : List.take ys.length (List.map strP ys) = List.map strP ys := List.take_of_length_le (by simp)
        have hz1 : (ys.length + 1) * 16 ≤ 140737488355328 ∧ ys.length ≤ 4611686018427387903 := by omega
        repeat' (first | ((with_reducible first | refine cond_pos (by omega) ?_ | refine cond_neg (by omega) ?_ | refine guard_pos (by omega) ?_ | refine guard_neg (by omega) ?_ | refine cond_ifn ?_ ?_ | refine cond_waysn ?_ ?_ | refine guard_ifn ?_ ?_ | refine guard_waysn ?_ ?_ | refine cond_if ?_ ?_ | refine cond_ways ?_ ?_ | refine guard_if ?_ ?_ | refine guard_ways ?_ ?_) <;> intro _) | simp (maxSteps := 1000000) (disch := omega) only [go_sem, Nat.reduceAdd, Nat.reduceMul, Nat.reduceSub, Nat.reduceLeDiff, Nat.reduceEqDiff, Nat.reduceBEq, ↓reduceIte, reduceCtorEq, Int.reduceEq, Int.reduceLE, Int.reduceLT, Int.reduceAdd, Int.reduceSub, Int.reduceNeg, Int.reduceToNat, Int.reduceNe, Nat.reducePow, Nat.reduceShiftRight, Nat.reduceMod, txt, Int.sub_zero, Nat.sub_zero, Nat.sub_self, Int.sub_self, *])
        have hfin : Kept (insT xs[i] ys = ys ++ [xs[i]]) := Kept.mk (by
          unfold insT
          rw [hpos, List.getElem?_eq_none (Nat.le_refl _), if_neg (by simp), List.take_length, List.drop_length])
        exact Nx.mk (xs.length - (i + 1)) (by first | assumption | omega | rfl | (simp (disch := omega) only [go_sem, Nat.reduceMul, Nat.reduceSub, Nat.reduceShiftRight, Nat.reduceMod, Nat.reduceEqDiff, Nat.reduceAdd, ↓reduceIte, Nat.reduceLeDiff, *] <;> omega)) ⟨i + 1, .osl (m2 + 47) 0 (ys.length + 1) 1, rfl, (by first | assumption | omega | rfl | (simp (disch := omega) only [go_sem, Nat.reduceMul, Nat.reduceSub, Nat.reduceShiftRight, Nat.reduceMod, Nat.reduceEqDiff, Nat.reduceAdd, ↓reduceIte, Nat.reduceLeDiff, *] <;> omega)), by simp [upd], by simp [upd], by rw [hstk.out, hfin.out]; exact .inr ⟨m2 + 47, false, Nat.add_lt_add_left (by decide) _, by simp, by simp [upd, strP]⟩⟩
  · obtain rfl : i = xs.length := by omega
    rw [List.take_length] at hrow
    have hrk := Kept.mk hrow
    clear hrow
    repeat' (first | ((with_reducible first | refine cond_pos (by omega) ?_ | refine cond_neg (by omega) ?_ | refine guard_pos (by omega) ?_ | refine guard_neg (by omega) ?_ | refine cond_ifn ?_ ?_ | refine cond_waysn ?_ ?_ | refine guard_ifn ?_ ?_ | refine guard_waysn ?_ ?_ | refine cond_if ?_ ?_ | refine cond_ways ?_ ?_ | refine guard_if ?_ ?_ | refine guard_ways ?_ ?_) <;> intro _) | simp (maxSteps := 1000000) (disch := omega) only [go_sem, Nat.reduceAdd, Nat.reduceMul, Nat.reduceSub, Nat.reduceLeDiff, Nat.reduceEqDiff, Nat.reduceBEq, ↓reduceIte, reduceCtorEq, Int.reduceEq, Int.reduceLE, Int.reduceLT, Int.reduceAdd, Int.reduceSub, Int.reduceNeg, Int.reduceToNat, Int.reduceNe, Nat.reducePow, Nat.reduceShiftRight, Nat.reduceMod, *])
    rcases hrk.out with ⟨h0, rfl⟩ | ⟨id, w, hid, rfl, hH⟩
    · refine fin_ret (r0 := .sl 1 []) 0 (by (simp (disch := omega) only [go_sem, Nat.reduceMul, Nat.reduceSub, Nat.reduceShiftRight, Nat.reduceMod, Nat.reduceEqDiff, Nat.reduceAdd, ↓reduceIte, Nat.reduceLeDiff, *]); all_goals rfl) ?_
      rw [h0]
      exact .refl _
    · refine fin_retF (r0 := .osl id 0 (insAll xs).length 1) 1 (by (simp (disch := omega) only [go_sem, Nat.reduceMul, Nat.reduceSub, Nat.reduceShiftRight, Nat.reduceMod, Nat.reduceEqDiff, Nat.reduceAdd, ↓reduceIte, Nat.reduceLeDiff, *]); all_goals rfl) ?_
      exact row_frS hH
end
section
attribute [local go_sem] pv_len pv_take id_ne id_ne' id_ne2 rounds_next Nat.add_assoc pv_take_app pv_one
def p0 : Lv := .mk 2 0 []
def p1 : Lv := .mk 2 1 []
theorem PPure.is {f : FuncId} {args : List PV} {r r' : PV} (h : PPure Tryz.prog f args r) (e : r = r') : PPure Tryz.prog f args r' := e ▸ h
end
section
set_option maxRecDepth 20000
attribute [local go_sem] pv_len pv_take id_ne id_ne' id_ne2 Nat.add_assoc pv_one pv_take_app
theorem inst_grown (bys : List Lv) (hb : ∀ b ∈ bys, b.nodes ≤ 64) : ∀ (fuel : Nat) (l : Lv), l.nodes ≤ fuel → l.formed bys.length = true → l.grown bys = (l.inst bys).nodes := by
  intro fuel
  induction fuel with
  | zero => intro l h; have := nodes_pos l; omega
  | succ fuel ih =>
    intro l hf hr
    cases l with
    | mk k n args =>
    simp only [Lv.nodes] at hf
    by_cases hk : k = 2
    · subst hk
      obtain ⟨h0, h1, rfl⟩ := par_of hr
      have hmem : bys.getD n.toNat (.mk 1 0 []) ∈ bys := by
        have h3 : n.toNat < bys.length := by omega
        simp [List.getD, List.getElem?_eq_getElem h3, List.getElem_mem]
      have := hb _ hmem
      simp only [Lv.grown, Lv.inst, if_true]
      omega
    · have key : ∀ xs : List Lv, (∀ x ∈ xs, x ∈ args) → grownL bys xs = nodesL (instL bys xs) := by
        intro xs
        induction xs with
        | nil => intro _; rfl
        | cons x r ihr =>
          intro h
          have h1 : x.nodes ≤ nodesL args := by
            obtain ⟨i, hi, e⟩ := List.getElem_of_mem (h x (by simp))
            rw [← e]; exact nodesL_mem args i hi
          simp only [grownL, instL, nodesL]
          rw [ih x (by omega) (formed_kid hr x (h x (by simp))), ihr fun y hy => h y (by simp [hy])]
      simp only [Lv.grown, Lv.inst, if_neg hk, Lv.nodes, key args fun _ h => h]
theorem instV_eq (l : Lv) (bys : List Lv) : l.instV bys = l.instR bys := by
  unfold Lv.instV Lv.instR
  by_cases h1 : l.right bys.length = true
  · by_cases h2 : bys.all (Lv.right 4) = true
    · obtain ⟨_, _, _, hf⟩ := right_parts h1
      have hb : ∀ b ∈ bys, b.nodes ≤ 64 := fun b hb => (right_parts (List.all_eq_true.1 h2 b hb)).2.2.1
      rw [← inst_grown bys hb l.nodes l (Nat.le_refl _) hf]
      simp [h1, h2]
    · simp only [Bool.not_eq_true] at h2
      simp [h1, h2]
  · simp only [Bool.not_eq_true] at h1
    simp [h1]
end
section
set_option maxRecDepth 20000
attribute [local go_sem] pv_len pv_take Nat.add_assoc tm_len tm_take pv_one tm_one id_ne id_ne' id_ne2 List.append_assoc
def FixL (nx : Nat) (cs : List PV) : Prop := ∀ (G : Nat → Bool) (k : Nat) (H : Nat → Option PObj), (∀ j, j < nx → G j = false) → cs.map (frgF G k H) = cs
theorem FixL.mono {nx nx' : Nat} {cs : List PV} (h : FixL nx cs) (hn : nx ≤ nx') : FixL nx' cs := fun G k H hG => h G k H fun j hj => hG j (Nat.lt_of_lt_of_le hj hn)
theorem FixL.imm {nx : Nat} {cs : List PV} (h : immL cs = true) : FixL nx cs := fun G k H _ => frgF_immL G H k cs h
theorem FixL.nil {nx : Nat} : FixL nx [] := fun _ _ _ _ => rfl
theorem FixL.append {nx : Nat} {cs ds : List PV} (h : FixL nx cs) (g : FixL nx ds) : FixL nx (cs ++ ds) := fun G k H hG => by rw [List.map_append, h G k H hG, g G k H hG]
theorem FixL.cons {nx : Nat} {c : PV} {ds : List PV} (h : c.imm = true) (g : FixL nx ds) : FixL nx (c :: ds) := fun G k H hG => by rw [List.map_cons, frgF_imm G H k c h, g G k H hG]
theorem frgF_osl {G : Nat → Bool} {id : Nat} (h : G id = false) (k : Nat) (H : Nat → Option PObj) (off n sz : Nat) : frgF G k H (.osl id off n sz) = .osl id off n sz := by
  cases k with
  | zero => rfl
  | succ k => simp [frgF, h]
theorem FixL.osl {nx id off n sz : Nat} {ds : List PV} (h : id < nx) (g : FixL nx ds) : FixL nx (.osl id off n sz :: ds) := fun G k H hG => by rw [List.map_cons, frgF_osl (hG id h), g G k H hG]
theorem tell_low {P : Program} {f : FuncId} {args : List PV} {H : Nat → Option PObj} {nx : Nat} {Q Q2 : (Nat → Option PObj) → Nat → PV → Prop} (kp : Nat → Bool) (id : Nat) (hid : id < nx) (hkp : ∀ j, kp j = true → j ≠ id ∧ j < nx) (h : PMut P f args H nx Q)
    (hq : ∀ H' nx' r, Q H' nx' r → r.imm = true ∧ (∀ j o, kp j = true → H' j = some o → o.isIt = false ∧ FixL nx o.cells) ∧ ∃ (res : Option (List PV)) (k : Nat),
      (∀ cs', res = some cs' → ∃ cs, H' id = some ⟨cs, true⟩ ∧ cs.length ≠ 1 ∧ WeakL (cs.map (frgF (fun j => decide (nx ≤ j)) k H')) cs') ∧
      ∀ H2 : Nat → Option PObj, (∀ j, kp j = true → H2 j = H' j) → H2 id = res.map (fun c => ⟨c, true⟩) → Q2 H2 nx' r) : PMut P f args H nx Q2 := by
  refine PMut.become h fun H' nx' r hQ => ?_
  obtain ⟨hr, h1, res, k, h2, h3⟩ := hq H' nx' r hQ
  refine ⟨fun j => decide (nx ≤ j), k, fun j => if j = id then res.map (fun c => ⟨c, true⟩) else if kp j = true then H' j else none, r, fun j o2 hj => ?_, .of_eq (frgF_imm _ _ _ _ hr), h3 _ (fun j hj => by simp [(hkp j hj).1, hj]) (by simp)⟩
  by_cases he : j = id
  · subst he
    simp only [if_true] at hj
    cases res with
    | none => simp at hj
    | some cs' =>
      simp only [Option.map_some, Option.some.injEq] at hj
      subst hj
      obtain ⟨cs, g1, g2, g3⟩ := h2 cs' rfl
      exact ⟨⟨cs.map (frgF (fun j => decide (nx ≤ j)) k H'), true⟩, by simp [lessC, Nat.not_le.2 hid, g1], isIt_len (by simpa using g2), rfl, g3⟩
  · simp only [he, if_false] at hj
    split at hj
    · rename_i hk
      obtain ⟨h6, h7⟩ := hkp j hk
      obtain ⟨h8, h9⟩ := h1 j o2 hk hj
      refine ⟨o2, ?_, h8, rfl, .refl _⟩
      have := h9 (fun j => decide (nx ≤ j)) k H' (fun j hj => by simp; omega)
      simp only [lessC, Nat.not_le.2 h7, decide_false, Bool.false_eq_true, if_false, hj, Option.map_some, this]
    · cases hj
def RowP (H : Nat → Option PObj) (lo m sz : Nat) (a : PV) (es : List (List PV)) : Prop := (es = [] ∧ a = .sc (.slice none 0 0)) ∨ ∃ id, lo ≤ id ∧ id < m ∧ a = .osl id 0 es.length sz ∧ H id = some ⟨es.flatten, true⟩
def HalfP (H : Nat → Option PObj) (lo m sz : Nat) (a : PV) (done : List PV) (z : List Value) (r n : Nat) : Prop := (n = 0 ∧ a = .sc (.slice none 0 0)) ∨ ∃ id, lo ≤ id ∧ id < m ∧ a = .osl id 0 n sz ∧ H id = some ⟨done ++ zeros z r, true⟩
def leads : PV → Nat → Bool
  | .osl i _ _ _, j => decide (j = i)
  | _, _ => false
theorem HalfP.row {H : Nat → Option PObj} {lo m sz : Nat} {a : PV} {es : List (List PV)} {z : List Value} {n : Nat} (h : HalfP H lo m sz a es.flatten z 0 n) (hn : es.length = n) : RowP H lo m sz a es := by
  rcases h with ⟨h1, h2⟩ | ⟨id, h1, h2, h3, h4⟩
  · exact .inl ⟨List.eq_nil_of_length_eq_zero (by omega), h2⟩
  · exact .inr ⟨id, h1, h2, by rw [hn]; exact h3, by simpa [zeros] using h4⟩
theorem RowP.mono {H H' : Nat → Option PObj} {lo m m' sz : Nat} {a : PV} {es : List (List PV)} (h : RowP H lo m sz a es) (hm : m ≤ m') (hH : ∀ j, lo ≤ j → j < m → leads a j = true → H' j = H j) : RowP H' lo m' sz a es := by
  rcases h with h | ⟨id, h1, h2, rfl, h4⟩
  · exact .inl h
  · exact .inr ⟨id, h1, by omega, rfl, by rw [hH id h1 h2 (by simp [leads]), h4]⟩
theorem HalfP.mono {H H' : Nat → Option PObj} {lo m m' sz : Nat} {a : PV} {done : List PV} {z : List Value} {r n : Nat} (h : HalfP H lo m sz a done z r n) (hm : m ≤ m') (hH : ∀ j, lo ≤ j → j < m → leads a j = true → H' j = H j) : HalfP H' lo m' sz a done z r n := by
  rcases h with h | ⟨id, h1, h2, rfl, h4⟩
  · exact .inl h
  · exact .inr ⟨id, h1, by omega, rfl, by rw [hH id h1 h2 (by simp [leads]), h4]⟩
theorem RowP.fix {H : Nat → Option PObj} {lo m sz : Nat} {a : PV} {es : List (List PV)} (h : RowP H lo m sz a es) {nx : Nat} (hm : m ≤ nx) {ds : List PV} (hd : FixL nx ds) : FixL nx (a :: ds) := by
  rcases h with ⟨_, rfl⟩ | ⟨id, h1, h2, rfl, h4⟩
  · exact .cons rfl hd
  · exact .osl (by omega) hd
theorem RowP.lead {H : Nat → Option PObj} {lo m sz : Nat} {a : PV} {es : List (List PV)} (h : RowP H lo m sz a es) (hl : es.flatten.length ≠ 1) (hi : immL es.flatten = true) {j : Nat} (hj : leads a j = true) (nx : Nat) :
    lo ≤ j ∧ j < m ∧ ∀ o, H j = some o → o.isIt = false ∧ FixL nx o.cells := by
  rcases h with ⟨_, rfl⟩ | ⟨id, h1, h2, rfl, h4⟩
  · cases hj
  · obtain rfl : j = id := by simpa [leads] using hj
    refine ⟨h1, h2, fun o ho => ?_⟩
    rw [h4] at ho
    cases ho
    exact ⟨isIt_len hl, .imm hi⟩
theorem RowP.frg {H : Nat → Option PObj} {lo m sz : Nat} {a : PV} {es : List (List PV)} (h : RowP H lo m sz a es) (hs : ∀ e ∈ es, e.length = sz) (G : Nat → Bool) (hG : ∀ j, lo ≤ j → G j = true) : Weak (frgF G 1 H a) (.sl sz es) := by
  rcases h with ⟨rfl, rfl⟩ | ⟨id, h1, h2, rfl, h4⟩
  · exact .nil sz
  · have hl : es.flatten.length = es.length * sz := by
      clear h4
      induction es with
      | nil => simp
      | cons e r ih =>
        rw [List.flatten_cons, List.length_append, ih (fun x hx => hs x (by simp [hx])), hs e (by simp), List.length_cons, Nat.succ_mul]
        omega
    simp only [frgF, hG id h1, if_true, h4, List.drop_zero]
    rw [if_pos (by omega), List.take_of_length_le (by omega)]
    refine .trans (Weak.fslW (es' := es) (by rw [chunks_length]) hs ?_) (Weak.fsl sz es)
    rw [List.map_id', chunks_flatten sz es.length _ (by omega)]
    exact .refl _
end
section
set_option maxRecDepth 20000
attribute [local go_sem] pv_len pv_take Nat.add_assoc tm_len tm_take pv_one tm_one tpvB_len tpvB_take tpvB_one pvB_len pvB_take pvB_one id_ne id_ne' id_ne2 List.append_assoc tm_take_app tm_drop_app tm_take10 tm_drop10 tm_drop15 tm_drop
set_option maxHeartbeats 16000000 in
theorem term_Arrow_p (to : Tm) (xs : List Tm) (hl : xs.length ≤ 1000) (hto : to.nodes ≤ 2 ^ 40) (hxs : ∀ x ∈ xs, x.nodes ≤ 2 ^ 40) : PPure Tryz.prog F.term_Arrow [.agg to.pv, .sl 5 (xs.map Tm.pv)] (arrowR to xs) := by
  refine pure_by is_term_Arrow (by simp) (by unfold arrowR; split <;> simp [PV.imm, immL, tm_imm, zeroT]) fun hb nx => ?_
  clear hb
  have c1 := tNodes_p to hto
  have c2 := tRight_p to hto 4 1125899906842624
  have hxk := Kept.mk fun i (h : i < xs.length) => hxs _ (List.getElem_mem h)
  clear hxs
  cases hr : to.right 4 1125899906842624 with
  | false =>
    have hres : arrowR to xs = .tup [.agg zeroT, .sc (.bool false)] := by unfold arrowR; rw [if_neg (by simp [arrowOk, hr])]
    rw [hr] at c2
    rw [hres]
    clear hres
    by_cases h0 : xs.length = 0
    · repeat' (first | ((with_reducible first | refine cond_pos (by omega) ?_ | refine cond_neg (by omega) ?_ | refine guard_pos (by omega) ?_ | refine guard_neg (by omega) ?_ | refine cond_ifn ?_ ?_ | refine cond_waysn ?_ ?_ | refine guard_ifn ?_ ?_ | refine guard_waysn ?_ ?_ | refine cond_if ?_ ?_ | refine cond_ways ?_ ?_ | refine guard_if ?_ ?_ | refine guard_ways ?_ ?_) <;> intro _) | (((with_reducible refine call_id ?_); (first | (refine call_pure (c1) ?_) | (refine call_pure (c2) ?_)))) | simp (maxSteps := 1000000) (disch := omega) only [go_sem, Nat.reduceAdd, Nat.reduceMul, Nat.reduceSub, Nat.reduceLeDiff, Nat.reduceEqDiff, Nat.reduceBEq, ↓reduceIte, reduceCtorEq, Int.reduceEq, Int.reduceLE, Int.reduceLT, Int.reduceAdd, Int.reduceSub, Int.reduceNeg, Int.reduceToNat, Int.reduceNe, Nat.reducePow, Nat.reduceShiftRight, Nat.reduceMod, mc_term_Arrow, *])
      refine c_rounds 1 ?_
      repeat' (first | ((with_reducible first | refine cond_pos (by omega) ?_ | refine cond_neg (by omega) ?_ | refine guard_pos (by omega) ?_ | refine guard_neg (by omega) ?_ | refine cond_ifn ?_ ?_ | refine cond_waysn ?_ ?_ | refine guard_ifn ?_ ?_ | refine guard_waysn ?_ ?_ | refine cond_if ?_ ?_ | refine cond_ways ?_ ?_ | refine guard_if ?_ ?_ | refine guard_ways ?_ ?_) <;> intro _) | simp (maxSteps := 1000000) (disch := omega) only [go_sem, Nat.reduceAdd, Nat.reduceMul, Nat.reduceSub, Nat.reduceLeDiff, Nat.reduceEqDiff, Nat.reduceBEq, ↓reduceIte, reduceCtorEq, Int.reduceEq, Int.reduceLE, Int.reduceLT, Int.reduceAdd, Int.reduceSub, Int.reduceNeg, Int.reduceToNat, Int.reduceNe, Nat.reducePow, Nat.reduceShiftRight, Nat.reduceMod, rounds_next, *])
      refine fin_ret (r0 := .tup [.agg zeroT, .sc (.bool false)]) 2 (by (simp (disch := omega) only [go_sem, Nat.reduceMul, Nat.reduceSub, Nat.reduceShiftRight, Nat.reduceMod, Nat.reduceEqDiff, Nat.reduceAdd, ↓reduceIte, Nat.reduceLeDiff, *]); all_goals rfl) ?_
      exact .of_eq (by simp [frz, zeroT, frz_sc])
    · have h00 : 0 < xs.length := by omega
      have eg : xs[0]? = some xs[0] := List.getElem?_eq_getElem h00
      have c3 := tNodes_p xs[0] (hxk.out 0 h00)
      repeat' (first | ((with_reducible first | refine cond_pos (by omega) ?_ | refine cond_neg (by omega) ?_ | refine guard_pos (by omega) ?_ | refine guard_neg (by omega) ?_ | refine cond_ifn ?_ ?_ | refine cond_waysn ?_ ?_ | refine guard_ifn ?_ ?_ | refine guard_waysn ?_ ?_ | refine cond_if ?_ ?_ | refine cond_ways ?_ ?_ | refine guard_if ?_ ?_ | refine guard_ways ?_ ?_) <;> intro _) | (((with_reducible refine call_id ?_); (first | (refine call_pure (c1) ?_) | (refine call_pure (c2) ?_)))) | simp (maxSteps := 1000000) (disch := omega) only [go_sem, Nat.reduceAdd, Nat.reduceMul, Nat.reduceSub, Nat.reduceLeDiff, Nat.reduceEqDiff, Nat.reduceBEq, ↓reduceIte, reduceCtorEq, Int.reduceEq, Int.reduceLE, Int.reduceLT, Int.reduceAdd, Int.reduceSub, Int.reduceNeg, Int.reduceToNat, Int.reduceNe, Nat.reducePow, Nat.reduceShiftRight, Nat.reduceMod, mc_term_Arrow, *])
      refine c_rounds 1 ?_
      repeat' (first | ((with_reducible first | refine cond_pos (by omega) ?_ | refine cond_neg (by omega) ?_ | refine guard_pos (by omega) ?_ | refine guard_neg (by omega) ?_ | refine cond_ifn ?_ ?_ | refine cond_waysn ?_ ?_ | refine guard_ifn ?_ ?_ | refine guard_waysn ?_ ?_ | refine cond_if ?_ ?_ | refine cond_ways ?_ ?_ | refine guard_if ?_ ?_ | refine guard_ways ?_ ?_) <;> intro _) | (((with_reducible refine call_id ?_); (first | (refine call_pure (c3) ?_)))) | simp (maxSteps := 1000000) (disch := omega) only [go_sem, Nat.reduceAdd, Nat.reduceMul, Nat.reduceSub, Nat.reduceLeDiff, Nat.reduceEqDiff, Nat.reduceBEq, ↓reduceIte, reduceCtorEq, Int.reduceEq, Int.reduceLE, Int.reduceLT, Int.reduceAdd, Int.reduceSub, Int.reduceNeg, Int.reduceToNat, Int.reduceNe, Nat.reducePow, Nat.reduceShiftRight, Nat.reduceMod, rounds_next, *])
      refine fin_ret (r0 := .tup [.agg zeroT, .sc (.bool false)]) 2 (by (simp (disch := omega) only [go_sem, Nat.reduceMul, Nat.reduceSub, Nat.reduceShiftRight, Nat.reduceMod, Nat.reduceEqDiff, Nat.reduceAdd, ↓reduceIte, Nat.reduceLeDiff, *]); all_goals rfl) ?_
      exact .of_eq (by simp [frz, zeroT, frz_sc])
  | true =>
  rw [hr] at c2
  have hrf := right_formed hr
  have hmin : min to.nodes 2001 = to.nodes := by omega
  rw [hmin] at c1
  have hrk := Kept.mk hr
  have hb5 : to.formed 4 1125899906842624 = true ∧ to.nodes ≤ 2000 := ⟨by simpa using hrf.1, hrf.2.2.2.2⟩
  clear hr hrf hmin
  repeat' (first | ((with_reducible first | refine cond_pos (by omega) ?_ | refine cond_neg (by omega) ?_ | refine guard_pos (by omega) ?_ | refine guard_neg (by omega) ?_ | refine cond_ifn ?_ ?_ | refine cond_waysn ?_ ?_ | refine guard_ifn ?_ ?_ | refine guard_waysn ?_ ?_ | refine cond_if ?_ ?_ | refine cond_ways ?_ ?_ | refine guard_if ?_ ?_ | refine guard_ways ?_ ?_) <;> intro _) | (((with_reducible refine call_id ?_); (first | (refine call_pure (c1) ?_) | (refine call_pure (c2) ?_)))) | simp (maxSteps := 1000000) (disch := omega) only [go_sem, Nat.reduceAdd, Nat.reduceMul, Nat.reduceSub, Nat.reduceLeDiff, Nat.reduceEqDiff, Nat.reduceBEq, ↓reduceIte, reduceCtorEq, Int.reduceEq, Int.reduceLE, Int.reduceLT, Int.reduceAdd, Int.reduceSub, Int.reduceNeg, Int.reduceToNat, Int.reduceNe, Nat.reducePow, Nat.reduceShiftRight, Nat.reduceMod, mc_term_Arrow, *])
  refine c_loopW 140737486258528 (by kernel_rfl) (fun j f H m => ∃ (i v : Nat), j = xs.length - i ∧ i ≤ xs.length ∧ f 21 = .sc (.int .i64 i) ∧ f 6 = .sc (.int .i64 v) ∧ v ≤ 3000 ∧ (0 < i → v ≤ 2000) ∧ Kept ((xs.take i).all (fun x => x.right 4 1125899906842624) = true ∧ v = to.nodes + xs.length + nodesT (xs.take i)) ∧
    H (nx + 1) = some ⟨zeroT, true⟩ ∧ nx + 2 ≤ m) _ ⟨0, to.nodes + xs.length, rfl, (by first | assumption | omega | rfl | (simp (disch := omega) only [go_sem, Nat.reduceMul, Nat.reduceSub, Nat.reduceShiftRight, Nat.reduceMod, Nat.reduceEqDiff, Nat.reduceAdd, ↓reduceIte, Nat.reduceLeDiff, *] <;> omega)), (by first | assumption | omega | rfl | (simp (disch := omega) only [go_sem, Nat.reduceMul, Nat.reduceSub, Nat.reduceShiftRight, Nat.reduceMod, Nat.reduceEqDiff, Nat.reduceAdd, ↓reduceIte, Nat.reduceLeDiff, *] <;> omega)), (by first | assumption | omega | rfl | (simp (disch := omega) only [go_sem, Nat.reduceMul, Nat.reduceSub, Nat.reduceShiftRight, Nat.reduceMod, Nat.reduceEqDiff, Nat.reduceAdd, ↓reduceIte, Nat.reduceLeDiff, *] <;> omega)), (by first | assumption | omega | rfl | (simp (disch := omega) only [go_sem, Nat.reduceMul, Nat.reduceSub, Nat.reduceShiftRight, Nat.reduceMod, Nat.reduceEqDiff, Nat.reduceAdd, ↓reduceIte, Nat.reduceLeDiff, *] <;> omega)), ?g1, Kept.mk ⟨rfl, by simp [nodesT]⟩, ?g3, ?g4⟩ ?_
  case g1 => intro h; omega
  case g3 => simp [upd, zeroT]
  case g4 => first | omega | exact Nat.le_add_right _ _ | (simp only [Nat.add_assoc]; exact Nat.add_le_add_left (by omega) _)
  clear c1 c2
  rintro _ f H m ⟨i, v, rfl, hi, e21, e6, hv, hv0, hs, hH1, hm⟩
  unfold zeroT at hH1
  have hbad : ∀ i (h : i < xs.length), xs[i].right 4 1125899906842624 = false → arrowR to xs = .tup [.agg zeroT, .sc (.bool false)] := fun i h e => by
    unfold arrowR
    rw [if_neg]
    intro hok
    simp only [arrowOk, Bool.and_eq_true, List.all_eq_true] at hok
    have := hok.1.2 _ (List.getElem_mem h)
    rw [e] at this
    cases this
  by_cases hlt : i < xs.length
  · have eg : xs[i]? = some xs[i] := List.getElem?_eq_getElem hlt
    have c3 := tNodes_p xs[i] (hxk.out i hlt)
    have c4 := tRight_p xs[i] (hxk.out i hlt) 4 1125899906842624
    have hst := nodesT_take_succ xs i hlt
    have hal : (xs.take (i + 1)).all (fun x => x.right 4 1125899906842624) = ((xs.take i).all (fun x => x.right 4 1125899906842624) && xs[i].right 4 1125899906842624) := by rw [List.take_succ_eq_append_getElem hlt, List.all_append]; simp
    have hstk := Kept.mk hst
    have halk := Kept.mk hal
    have htl := nodesT_take_le xs (i + 1)
    have htlk := Kept.mk htl
    cases hx : xs[i].right 4 1125899906842624 with
    | false =>
      rw [hbad i hlt hx]
      rw [hx] at c4
      clear hbad hst hal htl halk hx hv0
      repeat' (first | ((with_reducible first | refine cond_pos (by omega) ?_ | refine cond_neg (by omega) ?_ | refine guard_pos (by omega) ?_ | refine guard_neg (by omega) ?_ | refine cond_ifn ?_ ?_ | refine cond_waysn ?_ ?_ | refine guard_ifn ?_ ?_ | refine guard_waysn ?_ ?_ | refine cond_if ?_ ?_ | refine cond_ways ?_ ?_ | refine guard_if ?_ ?_ | refine guard_ways ?_ ?_) <;> intro _) | (((with_reducible refine call_id ?_); (first | (refine call_pure (c3) ?_) | (refine call_pure (c4) ?_)))) | simp (maxSteps := 1000000) (disch := omega) only [go_sem, Nat.reduceAdd, Nat.reduceMul, Nat.reduceSub, Nat.reduceLeDiff, Nat.reduceEqDiff, Nat.reduceBEq, ↓reduceIte, reduceCtorEq, Int.reduceEq, Int.reduceLE, Int.reduceLT, Int.reduceAdd, Int.reduceSub, Int.reduceNeg, Int.reduceToNat, Int.reduceNe, Nat.reducePow, Nat.reduceShiftRight, Nat.reduceMod, *])
      all_goals
        refine fin_ret (r0 := .tup [.agg zeroT, .sc (.bool false)]) 2 (by (simp (disch := omega) only [go_sem, Nat.reduceMul, Nat.reduceSub, Nat.reduceShiftRight, Nat.reduceMod, Nat.reduceEqDiff, Nat.reduceAdd, ↓reduceIte, Nat.reduceLeDiff, *]); all_goals rfl) ?_
        exact .of_eq (by simp [frz, zeroT, frz_sc])
    | true =>
      have hxf := right_formed hx
      have hmin : min xs[i].nodes 2001 = xs[i].nodes := by omega
      rw [hmin] at c3
      rw [hx] at c4
      have hbig : 2000 < v + xs[i].nodes → arrowR to xs = .tup [.agg zeroT, .sc (.bool false)] := fun h => by
        unfold arrowR
        rw [if_neg]
        intro hok
        simp only [arrowOk, Bool.and_eq_true, decide_eq_true_eq] at hok
        have := hok.2
        have := hs.out.2
        omega
      have hxn : xs[i].nodes ≤ 2000 := hxf.2.2.2.2
      have hxk2 := Kept.mk hx
      by_cases hgt : 2000 < v + xs[i].nodes
      · rw [hbig hgt]
        clear hbad hst hal htl halk hx hv0 hbig hxf hmin
        repeat' (first | ((with_reducible first | refine cond_pos (by omega) ?_ | refine cond_neg (by omega) ?_ | refine guard_pos (by omega) ?_ | refine guard_neg (by omega) ?_ | refine cond_ifn ?_ ?_ | refine cond_waysn ?_ ?_ | refine guard_ifn ?_ ?_ | refine guard_waysn ?_ ?_ | refine cond_if ?_ ?_ | refine cond_ways ?_ ?_ | refine guard_if ?_ ?_ | refine guard_ways ?_ ?_) <;> intro _) | (((with_reducible refine call_id ?_); (first | (refine call_pure (c3) ?_) | (refine call_pure (c4) ?_)))) | simp (maxSteps := 1000000) (disch := omega) only [go_sem, Nat.reduceAdd, Nat.reduceMul, Nat.reduceSub, Nat.reduceLeDiff, Nat.reduceEqDiff, Nat.reduceBEq, ↓reduceIte, reduceCtorEq, Int.reduceEq, Int.reduceLE, Int.reduceLT, Int.reduceAdd, Int.reduceSub, Int.reduceNeg, Int.reduceToNat, Int.reduceNe, Nat.reducePow, Nat.reduceShiftRight, Nat.reduceMod, *])
        all_goals
          refine fin_ret (r0 := .tup [.agg zeroT, .sc (.bool false)]) 2 (by (simp (disch := omega) only [go_sem, Nat.reduceMul, Nat.reduceSub, Nat.reduceShiftRight, Nat.reduceMod, Nat.reduceEqDiff, Nat.reduceAdd, ↓reduceIte, Nat.reduceLeDiff, *]); all_goals rfl) ?_
          exact .of_eq (by simp [frz, zeroT, frz_sc])
      · clear hbad hst hal htl hx hv0 hbig hxf hmin
        repeat' (first | ((with_reducible first | refine cond_pos (by omega) ?_ | refine cond_neg (by omega) ?_ | refine guard_pos (by omega) ?_ | refine guard_neg (by omega) ?_ | refine cond_ifn ?_ ?_ | refine cond_waysn ?_ ?_ | refine guard_ifn ?_ ?_ | refine guard_waysn ?_ ?_ | refine cond_if ?_ ?_ | refine cond_ways ?_ ?_ | refine guard_if ?_ ?_ | refine guard_ways ?_ ?_) <;> intro _) | (((with_reducible refine call_id ?_); (first | (refine call_pure (c3) ?_) | (refine call_pure (c4) ?_)))) | simp (maxSteps := 1000000) (disch := omega) only [go_sem, Nat.reduceAdd, Nat.reduceMul, Nat.reduceSub, Nat.reduceLeDiff, Nat.reduceEqDiff, Nat.reduceBEq, ↓reduceIte, reduceCtorEq, Int.reduceEq, Int.reduceLE, Int.reduceLT, Int.reduceAdd, Int.reduceSub, Int.reduceNeg, Int.reduceToNat, Int.reduceNe, Nat.reducePow, Nat.reduceShiftRight, Nat.reduceMod, *])
        refine Nx.mk (xs.length - (i + 1)) (by first | assumption | omega | rfl | (simp (disch := omega) only [go_sem, Nat.reduceMul, Nat.reduceSub, Nat.reduceShiftRight, Nat.reduceMod, Nat.reduceEqDiff, Nat.reduceAdd, ↓reduceIte, Nat.reduceLeDiff, *] <;> omega)) ⟨i + 1, v + xs[i].nodes, rfl, (by first | assumption | omega | rfl | (simp (disch := omega) only [go_sem, Nat.reduceMul, Nat.reduceSub, Nat.reduceShiftRight, Nat.reduceMod, Nat.reduceEqDiff, Nat.reduceAdd, ↓reduceIte, Nat.reduceLeDiff, *] <;> omega)), (by first | assumption | omega | rfl | (simp (disch := omega) only [go_sem, Nat.reduceMul, Nat.reduceSub, Nat.reduceShiftRight, Nat.reduceMod, Nat.reduceEqDiff, Nat.reduceAdd, ↓reduceIte, Nat.reduceLeDiff, *] <;> omega)), by simp [upd], by omega, fun _ => by omega, Kept.mk ⟨?_, ?_⟩, by simpa [zeroT] using hH1, (by first | assumption | omega | rfl | (simp (disch := omega) only [go_sem, Nat.reduceMul, Nat.reduceSub, Nat.reduceShiftRight, Nat.reduceMod, Nat.reduceEqDiff, Nat.reduceAdd, ↓reduceIte, Nat.reduceLeDiff, *] <;> omega))⟩
        · rw [halk.out, hs.out.1, hxk2.out]; rfl
        · have := hs.out.2; have := hstk.out; omega
  · obtain rfl : i = xs.length := by omega
    clear hbad
    have hs2 := hs.out
    rw [List.take_length] at hs2
    have hv3 : v ≤ 2000 := by
      by_cases h0 : 0 < xs.length
      · exact hv0 h0
      · have h1 : xs = [] := List.eq_nil_of_length_eq_zero (by omega)
        have h2 := hs2.2
        rw [h1] at h2
        simp only [nodesT, List.length_nil] at h2
        omega
    have hb6 := List.all_eq_true.1 hs2.1
    have hr : arrowR to xs = .tup [.agg (arrL to xs.length 0 xs).pv, .sc (.bool true)] := by
      unfold arrowR
      rw [if_pos]
      simp only [arrowOk, Bool.and_eq_true, decide_eq_true_eq]
      exact ⟨⟨hrk.out, hs2.1⟩, by omega⟩
    have hsz : ∀ i (h : i < xs.length), xs[i].formed 4 1125899906842624 = true ∧ xs[i].nodes ≤ 2000 ∧ xs[i].size ≤ xs[i].nodes := fun i h => by
      have h1 := right_formed (hb6 _ (List.getElem_mem h))
      exact ⟨by simpa using h1.1, h1.2.2.2.2, size_nodes _⟩
    have hszk := Kept.mk hsz
    have hts := size_nodes to
    rw [hr]
    clear hr hs hs2 hb6 hsz hv0 hrk
    repeat' (first | ((with_reducible first | refine cond_pos (by omega) ?_ | refine cond_neg (by omega) ?_ | refine guard_pos (by omega) ?_ | refine guard_neg (by omega) ?_ | refine cond_ifn ?_ ?_ | refine cond_waysn ?_ ?_ | refine guard_ifn ?_ ?_ | refine guard_waysn ?_ ?_ | refine cond_if ?_ ?_ | refine cond_ways ?_ ?_ | refine guard_if ?_ ?_ | refine guard_ways ?_ ?_) <;> intro _) | simp (maxSteps := 1000000) (disch := omega) only [go_sem, Nat.reduceAdd, Nat.reduceMul, Nat.reduceSub, Nat.reduceLeDiff, Nat.reduceEqDiff, Nat.reduceBEq, ↓reduceIte, reduceCtorEq, Int.reduceEq, Int.reduceLE, Int.reduceLT, Int.reduceAdd, Int.reduceSub, Int.reduceNeg, Int.reduceToNat, Int.reduceNe, Nat.reducePow, Nat.reduceShiftRight, Nat.reduceMod, *])
    refine call_mut (clone_m to hto _ _) ?_
    rintro H' nx' r' ⟨hn1, cs, rfl, hc2, hc4⟩ -
    have hlen := hc2.len
    have hone := hc2.one
    have htk : List.take 5 cs = cs := List.take_of_length_le (by omega)
    have hH1' : H' (nx + 1) = some ⟨zeroT, true⟩ := (hc4 (nx + 1) (by first | omega | exact Nat.lt_of_lt_of_le (by omega : nx + 1 < m) (Nat.le_add_right _ _))).trans (by simpa [zeroT] using hH1)
    have hn2 : m + 6 ≤ nx' := hn1
    have hc2k : Kept (OwnT H' (m + 6) nx' cs to) := Kept.mk hc2
    have hH1k := Kept.mk hH1'
    clear hn1 hc2 hc4 hH1 hH1' e6 e21
    repeat' (first | ((with_reducible first | refine cond_pos (by omega) ?_ | refine cond_neg (by omega) ?_ | refine guard_pos (by omega) ?_ | refine guard_neg (by omega) ?_ | refine cond_ifn ?_ ?_ | refine cond_waysn ?_ ?_ | refine guard_ifn ?_ ?_ | refine guard_waysn ?_ ?_ | refine cond_if ?_ ?_ | refine cond_ways ?_ ?_ | refine guard_if ?_ ?_ | refine guard_ways ?_ ?_) <;> intro _) | simp (maxSteps := 1000000) (disch := omega) only [go_sem, Nat.reduceAdd, Nat.reduceMul, Nat.reduceSub, Nat.reduceLeDiff, Nat.reduceEqDiff, Nat.reduceBEq, ↓reduceIte, reduceCtorEq, Int.reduceEq, Int.reduceLE, Int.reduceLT, Int.reduceAdd, Int.reduceSub, Int.reduceNeg, Int.reduceToNat, Int.reduceNe, Nat.reducePow, Nat.reduceShiftRight, Nat.reduceMod, hlen, htk, hone, *])
    refine call_mut (raise_told 4 xs.length ⟨by omega, by omega⟩ to 1125899906842624 0 hto (by omega) (by omega) hb5.1 (by omega) (by omega) (fun j => decide (j = nx + 1)) _ _ (m + 4) (m + 6) nx' cs (upd_same _ _ _) (Nat.lt_of_lt_of_le (by omega : m + 4 < nx') (Nat.le_add_right _ _)) (.inl (by omega)) hn2 (Nat.le_add_right _ _) (hc2k.out.mono _ _ _ _ _ _ (Nat.le_refl _) (Nat.le_refl _) fun j (g1 : m + 6 ≤ j) g2 => (upd_ne _ _ (show j ≠ m + 4 by omega)).trans (upd_ne _ _ (show j ≠ m + 4 by omega))) ?kp) ?_
    case kp =>
      intro j hj
      obtain rfl : j = nx + 1 := by simpa using hj
      refine ⟨Nat.lt_of_lt_of_le (by omega : nx + 1 < nx') (Nat.le_add_right _ _), by omega, .inl (by omega), fun o ho => ?_⟩
      have ho' := ((upd_ne _ _ (show nx + 1 ≠ m + 4 by omega)).trans (upd_ne _ _ (show nx + 1 ≠ m + 4 by omega))).symm.trans ho
      rw [hH1k.out] at ho'
      cases ho'
      exact ⟨rfl, rfl⟩
    rintro H3 nx3 r3 ⟨hn3, hc3, hc4⟩ -
    have hn4 : nx' ≤ nx3 := Nat.le_trans (Nat.le_add_right _ _) hn3
    have hH1'' : H3 (nx + 1) = some ⟨zeroT, true⟩ := (hc4 (nx + 1) (by simp)).trans (((upd_ne _ _ (show nx + 1 ≠ m + 4 by omega)).trans (upd_ne _ _ (show nx + 1 ≠ m + 4 by omega))).trans hH1k.out)
    clear hn3 hc4 hc2k hH1k hlen hone htk hts hb5
    have hcn := Kept.mk hn4
    repeat' (first | ((with_reducible first | refine cond_pos (by omega) ?_ | refine cond_neg (by omega) ?_ | refine guard_pos (by omega) ?_ | refine guard_neg (by omega) ?_ | refine cond_ifn ?_ ?_ | refine cond_waysn ?_ ?_ | refine guard_ifn ?_ ?_ | refine guard_waysn ?_ ?_ | refine cond_if ?_ ?_ | refine cond_ways ?_ ?_ | refine guard_if ?_ ?_ | refine guard_ways ?_ ?_) <;> intro _) | simp (maxSteps := 1000000) (disch := omega) only [go_sem, Nat.reduceAdd, Nat.reduceMul, Nat.reduceSub, Nat.reduceLeDiff, Nat.reduceEqDiff, Nat.reduceBEq, ↓reduceIte, reduceCtorEq, Int.reduceEq, Int.reduceLE, Int.reduceLT, Int.reduceAdd, Int.reduceSub, Int.reduceNeg, Int.reduceToNat, Int.reduceNe, Nat.reducePow, Nat.reduceShiftRight, Nat.reduceMod, *])
    refine c_loopW 2361039126246746754048 (by kernel_rfl) (fun j f4 H4 m4 => j ≤ xs.length ∧ f4 10 = .sc (.int .i64 ((j : Int) - 1)) ∧ H4 (nx + 1) = some ⟨zeroT, true⟩ ∧ H4 (m + 4) = some ⟨(arrL to xs.length j (xs.drop j)).pv, true⟩ ∧ m + 6 ≤ m4) xs.length ⟨Nat.le_refl _, (by first | assumption | omega | rfl | (simp (disch := omega) only [go_sem, Nat.reduceMul, Nat.reduceSub, Nat.reduceShiftRight, Nat.reduceMod, Nat.reduceEqDiff, Nat.reduceAdd, ↓reduceIte, Nat.reduceLeDiff, *] <;> omega)), hH1'', ?g1, ?g2⟩ ?_
    case g1 => rw [List.drop_length]; exact hc3
    case g2 => exact Nat.le_trans (by omega : m + 6 ≤ nx3) (Nat.le_add_right _ _)
    clear hc3 hH1'' hn4 hcn
    rintro j f4 H4 m4 ⟨hj, e10, hH1, hH9, hm4⟩
    unfold zeroT at hH1
    cases j with
    | zero =>
      rw [List.drop_zero] at hH9
      repeat' (first | ((with_reducible first | refine cond_pos (by omega) ?_ | refine cond_neg (by omega) ?_ | refine guard_pos (by omega) ?_ | refine guard_neg (by omega) ?_ | refine cond_ifn ?_ ?_ | refine cond_waysn ?_ ?_ | refine guard_ifn ?_ ?_ | refine guard_waysn ?_ ?_ | refine cond_if ?_ ?_ | refine cond_ways ?_ ?_ | refine guard_if ?_ ?_ | refine guard_ways ?_ ?_) <;> intro _) | simp (maxSteps := 1000000) (disch := omega) only [go_sem, Nat.reduceAdd, Nat.reduceMul, Nat.reduceSub, Nat.reduceLeDiff, Nat.reduceEqDiff, Nat.reduceBEq, ↓reduceIte, reduceCtorEq, Int.reduceEq, Int.reduceLE, Int.reduceLT, Int.reduceAdd, Int.reduceSub, Int.reduceNeg, Int.reduceToNat, Int.reduceNe, Nat.reducePow, Nat.reduceShiftRight, Nat.reduceMod, *])
      refine fin_ret (r0 := .tup [.agg (arrL to xs.length 0 xs).pv, .sc (.bool true)]) 1 (by (simp (disch := omega) only [go_sem, Nat.reduceMul, Nat.reduceSub, Nat.reduceShiftRight, Nat.reduceMod, Nat.reduceEqDiff, Nat.reduceAdd, ↓reduceIte, Nat.reduceLeDiff, *]); all_goals rfl) ?_
      exact .of_eq (by rw [frz_tup1]; rfl)
    | succ j =>
      have e11 : ((j + 1 : Nat) : Int) - 1 = (j : Int) := by omega
      rw [e11] at e10
      have eg : xs[j]? = some xs[j] := List.getElem?_eq_getElem hj
      have hdp : xs.drop j = xs[j] :: xs.drop (j + 1) := List.drop_eq_getElem_cons hj
      have hdpk := Kept.mk hdp
      have hxs := hszk.out j hj
      have hxn := hxk.out j hj
      have hH9k := Kept.mk hH9
      clear hdp e11 hH9
      repeat' (first | ((with_reducible first | refine cond_pos (by omega) ?_ | refine cond_neg (by omega) ?_ | refine guard_pos (by omega) ?_ | refine guard_neg (by omega) ?_ | refine cond_ifn ?_ ?_ | refine cond_waysn ?_ ?_ | refine guard_ifn ?_ ?_ | refine guard_waysn ?_ ?_ | refine cond_if ?_ ?_ | refine cond_ways ?_ ?_ | refine guard_if ?_ ?_ | refine guard_ways ?_ ?_) <;> intro _) | simp (maxSteps := 1000000) (disch := omega) only [go_sem, Nat.reduceAdd, Nat.reduceMul, Nat.reduceSub, Nat.reduceLeDiff, Nat.reduceEqDiff, Nat.reduceBEq, ↓reduceIte, reduceCtorEq, Int.reduceEq, Int.reduceLE, Int.reduceLT, Int.reduceAdd, Int.reduceSub, Int.reduceNeg, Int.reduceToNat, Int.reduceNe, Nat.reducePow, Nat.reduceShiftRight, Nat.reduceMod, *])
      refine call_mut (clone_m xs[j] hxn _ _) ?_
      rintro H5 nx5 r5 ⟨hn5, cs5, rfl, hc5, hk5⟩ -
      have hlen := hc5.len
      have hone := hc5.one
      have htk : List.take 5 cs5 = cs5 := List.take_of_length_le (by omega)
      have hn6 : m4 + 8 ≤ nx5 := hn5
      have hc5k : Kept (OwnT H5 (m4 + 8) nx5 cs5 xs[j]) := Kept.mk hc5
      have hH1b : H5 (nx + 1) = _ := (hk5 (nx + 1) (show nx + 1 < m4 + 8 by omega)).trans hH1
      have hH9b : H5 (m + 4) = _ := (hk5 (m + 4) (show m + 4 < m4 + 8 by omega)).trans hH9k.out
      have hH1c := Kept.mk hH1b
      have hH9c := Kept.mk hH9b
      clear hn5 hc5 hk5 hH1 hH1b hH9b hH9k
      repeat' (first | ((with_reducible first | refine cond_pos (by omega) ?_ | refine cond_neg (by omega) ?_ | refine guard_pos (by omega) ?_ | refine guard_neg (by omega) ?_ | refine cond_ifn ?_ ?_ | refine cond_waysn ?_ ?_ | refine guard_ifn ?_ ?_ | refine guard_waysn ?_ ?_ | refine cond_if ?_ ?_ | refine cond_ways ?_ ?_ | refine guard_if ?_ ?_ | refine guard_ways ?_ ?_) <;> intro _) | simp (maxSteps := 1000000) (disch := omega) only [go_sem, Nat.reduceAdd, Nat.reduceMul, Nat.reduceSub, Nat.reduceLeDiff, Nat.reduceEqDiff, Nat.reduceBEq, ↓reduceIte, reduceCtorEq, Int.reduceEq, Int.reduceLE, Int.reduceLT, Int.reduceAdd, Int.reduceSub, Int.reduceNeg, Int.reduceToNat, Int.reduceNe, Nat.reducePow, Nat.reduceShiftRight, Nat.reduceMod, hlen, htk, hone, *])
      refine call_mut (raise_told 4 j ⟨by omega, by omega⟩ xs[j] 1125899906842624 0 hxn (by omega) (by omega) hxs.1 (by omega) (by omega) (fun j' => decide (j' = nx + 1) || decide (j' = m + 4)) _ _ (m4 + 6) (m4 + 8) nx5 cs5 (upd_same _ _ _) (Nat.lt_of_lt_of_le (by omega : m4 + 6 < nx5) (Nat.le_add_right _ _)) (.inl (by omega)) hn6 (Nat.le_add_right _ _) (hc5k.out.mono _ _ _ _ _ _ (Nat.le_refl _) (Nat.le_refl _) fun j (g1 : m4 + 8 ≤ j) g2 => (upd_ne _ _ (show j ≠ m4 + 6 by omega)).trans (upd_ne _ _ (show j ≠ m4 + 6 by omega))) ?kp) ?_
      case kp =>
        intro j' hj'
        simp only [Bool.or_eq_true, decide_eq_true_eq] at hj'
        rcases hj' with rfl | rfl
        · refine ⟨Nat.lt_of_lt_of_le (by omega : nx + 1 < nx5) (Nat.le_add_right _ _), by omega, .inl (by omega), fun o ho => ?_⟩
          have ho' := ((upd_ne _ _ (show nx + 1 ≠ m4 + 6 by omega)).trans (upd_ne _ _ (show nx + 1 ≠ m4 + 6 by omega))).symm.trans ho
          rw [hH1c.out] at ho'
          cases ho'
          exact ⟨rfl, rfl⟩
        · refine ⟨Nat.lt_of_lt_of_le (by omega : m + 4 < nx5) (Nat.le_add_right _ _), by omega, .inl (by omega), fun o ho => ?_⟩
          have ho' := ((upd_ne _ _ (show m + 4 ≠ m4 + 6 by omega)).trans (upd_ne _ _ (show m + 4 ≠ m4 + 6 by omega))).symm.trans ho
          rw [hH9c.out] at ho'
          cases ho'
          exact ⟨isIt_len (by rw [tm_len]; omega), tm_imm _⟩
      rintro H7 nx7 r7 ⟨hn7, hc7, hk7⟩ -
      have hn8 : nx5 ≤ nx7 := Nat.le_trans (Nat.le_add_right _ _) hn7
      have hH1d : H7 (nx + 1) = _ := (hk7 (nx + 1) (by simp)).trans (((upd_ne _ _ (show nx + 1 ≠ m4 + 6 by omega)).trans (upd_ne _ _ (show nx + 1 ≠ m4 + 6 by omega))).trans hH1c.out)
      have hH9d : H7 (m + 4) = _ := (hk7 (m + 4) (by simp)).trans (((upd_ne _ _ (show m + 4 ≠ m4 + 6 by omega)).trans (upd_ne _ _ (show m + 4 ≠ m4 + 6 by omega))).trans hH9c.out)
      have hmk := tmade_p2 6 (xs[j].lift j 0) (arrL to xs.length (j + 1) (xs.drop (j + 1)))
      have hH1e := Kept.mk hH1d
      have hgoal : Kept (Tm.mk 6 0 emp [] [xs[j].lift j 0, arrL to xs.length (j + 1) (xs.drop (j + 1))] = arrL to xs.length j (xs.drop j)) := Kept.mk (by rw [hdpk.out]; rfl)
      rw [hgoal.out] at hmk
      clear hn7 hk7 hc5k hH1c hH9c hlen hone htk hH1d
      repeat' (first | ((with_reducible first | refine cond_pos (by omega) ?_ | refine cond_neg (by omega) ?_ | refine guard_pos (by omega) ?_ | refine guard_neg (by omega) ?_ | refine cond_ifn ?_ ?_ | refine cond_waysn ?_ ?_ | refine guard_ifn ?_ ?_ | refine guard_waysn ?_ ?_ | refine cond_if ?_ ?_ | refine cond_ways ?_ ?_ | refine guard_if ?_ ?_ | refine guard_ways ?_ ?_) <;> intro _) | (((with_reducible refine call_id ?_); (first | (refine call_pure (hmk) ?_)))) | simp (maxSteps := 1000000) (disch := omega) only [go_sem, Nat.reduceAdd, Nat.reduceMul, Nat.reduceSub, Nat.reduceLeDiff, Nat.reduceEqDiff, Nat.reduceBEq, ↓reduceIte, reduceCtorEq, Int.reduceEq, Int.reduceLE, Int.reduceLT, Int.reduceAdd, Int.reduceSub, Int.reduceNeg, Int.reduceToNat, Int.reduceNe, Nat.reducePow, Nat.reduceShiftRight, Nat.reduceMod, *])
      refine Nx.mk j (by first | assumption | omega | rfl | (simp (disch := omega) only [go_sem, Nat.reduceMul, Nat.reduceSub, Nat.reduceShiftRight, Nat.reduceMod, Nat.reduceEqDiff, Nat.reduceAdd, ↓reduceIte, Nat.reduceLeDiff, *] <;> omega)) ⟨by omega, by simp [upd], ?_, ?_, ?_⟩
      · exact (upd_ne _ _ (by omega)).trans hH1e.out
      · exact upd_same _ _ _
      · exact Nat.le_trans (by omega : m + 6 ≤ nx7) (Nat.le_add_right _ _)
end
section
set_option maxRecDepth 20000
attribute [local go_sem] pv_len pv_take Nat.add_assoc tm_len tm_take pv_one tm_one tpvB_len tpvB_take tpvB_one pvB_len pvB_take pvB_one id_ne id_ne' id_ne2 List.append_assoc
theorem tms_immLL : ∀ ls : List Tm, immLL (ls.map Tm.pv) = true
  | [] => rfl
  | x :: r => by simp only [List.map_cons, immLL, tm_imm, tms_immLL r]; rfl
def Tm.ap : Tm → Bool
  | .mk k _ _ _ args => decide (k = 4) && decide (args.length = 2)
def Tm.kid (i : Nat) : Tm → Tm
  | .mk k n s ls args => match args[i]? with
    | some x => x
    | none => .mk k n s ls args
def spineF : Nat → Tm → Tm × List Tm
  | 0, t => (t, [])
  | n + 1, t => if t.ap = true then ((spineF n (t.kid 0)).1, (spineF n (t.kid 0)).2 ++ [t.kid 1]) else (t, [])
def Tm.spine (t : Tm) : Tm × List Tm := spineF t.size t
def down : Nat → Tm → Tm
  | 0, t => t
  | i + 1, t => (down i t).kid 0
theorem down_succ : ∀ (i : Nat) (t : Tm), down (i + 1) t = down i (t.kid 0)
  | 0, _ => rfl
  | i + 1, t => by rw [down, down_succ i t, down]
theorem ap_inv {t : Tm} (h : t.ap = true) : ∃ n s ls x y, t = .mk 4 n s ls [x, y] := by
  cases t with
  | mk k n s ls args =>
    simp only [Tm.ap, Bool.and_eq_true, decide_eq_true_eq] at h
    obtain ⟨rfl, h⟩ := h
    match args, h with
    | [x, y], _ => exact ⟨n, s, ls, x, y, rfl⟩
theorem ap_size {t : Tm} (h : t.ap = true) : (t.kid 0).size < t.size ∧ (t.kid 1).size < t.size := by
  obtain ⟨n, s, ls, x, y, rfl⟩ := ap_inv h
  simp only [Tm.kid, List.getElem?_cons_zero, List.getElem?_cons_succ, Tm.size, sizeL]
  omega
theorem ap_nodes {t : Tm} (h : t.ap = true) : (t.kid 0).nodes < t.nodes ∧ (t.kid 1).nodes < t.nodes := by
  obtain ⟨n, s, ls, x, y, rfl⟩ := ap_inv h
  simp only [Tm.kid, List.getElem?_cons_zero, List.getElem?_cons_succ, Tm.nodes, nodesT]
  omega
theorem spineF_len : ∀ (n : Nat) (t : Tm), (spineF n t).2.length ≤ n
  | 0, _ => Nat.le_refl _
  | n + 1, t => by
    simp only [spineF]
    split
    · have := spineF_len n (t.kid 0)
      simp only [List.length_append, List.length_cons, List.length_nil]
      omega
    · simp
theorem spineF_spec : ∀ (n : Nat) (t : Tm), t.size ≤ n → (∀ i, i < (spineF n t).2.length → (down i t).ap = true ∧ (spineF n t).2[(spineF n t).2.length - 1 - i]? = some ((down i t).kid 1)) ∧ (down (spineF n t).2.length t).ap = false ∧ (spineF n t).1 = down (spineF n t).2.length t
  | 0, t, h => by have := size_pos t; omega
  | n + 1, t, h => by
    by_cases ha : t.ap = true
    · have hs := ap_size ha
      obtain ⟨h1, h2, h3⟩ := spineF_spec n (t.kid 0) (by omega)
      simp only [spineF, if_pos ha, List.length_append, List.length_cons, List.length_nil, Nat.zero_add]
      refine ⟨fun i hi => ?_, by rw [down_succ]; exact h2, by rw [down_succ]; exact h3⟩
      cases i with
      | zero =>
        refine ⟨ha, ?_⟩
        rw [show (spineF n (t.kid 0)).2.length + 1 - 1 - 0 = (spineF n (t.kid 0)).2.length by omega, List.getElem?_concat_length]
        rfl
      | succ i =>
        obtain ⟨g1, g2⟩ := h1 i (by omega)
        rw [down_succ]
        refine ⟨g1, ?_⟩
        rw [List.getElem?_append_left (by omega), ← g2]
        congr 1
        omega
    · simp only [spineF, if_neg ha, List.length_nil]
      refine ⟨fun i hi => by omega, by simpa [down] using ha, rfl⟩
theorem down_nodes : ∀ (i : Nat) (t : Tm), (∀ j, j < i → (down j t).ap = true) → (down i t).nodes ≤ t.nodes
  | 0, _, _ => Nat.le_refl _
  | i + 1, t, h => by
    have h1 := down_nodes i t fun j hj => h j (by omega)
    have h2 := ap_nodes (h i (by omega))
    simp only [down]
    omega
theorem zeros_snoc : ∀ n, zeros [.int .i64 0, .int .i64 0, .string ⟨#[]⟩, .slice none 0 0, .slice none 0 0] (n + 1) = zeros [.int .i64 0, .int .i64 0, .string ⟨#[]⟩, .slice none 0 0, .slice none 0 0] n ++ zero5
  | 0 => by simp [zeros, zero5]
  | n + 1 => by
    have h := zeros_snoc n
    conv => lhs; rw [zeros]
    conv => rhs; rw [zeros]
    rw [h, List.append_assoc]
theorem frzF_sl (k : Nat) (H : Nat → Option PObj) (sz : Nat) (es : List (List PV)) : frzF k H (.sl sz es) = .sl sz es := by cases k <;> rfl
theorem frzF_pv5 (k : Nat) (H : Nat → Option PObj) (t : Tm) : t.pv.map (frzF k H) = t.pv := by
  cases t
  simp [Tm.pv, frzF_sc, frzF_sl]
theorem tms_weakL (f : Bool) : ∀ ts : List Tm, WeakL (ts.map (Tm.pvB f)).flatten (ts.map Tm.pv).flatten
  | [] => trivial
  | t :: r => by simp only [List.map_cons, List.flatten_cons]; exact (tm_weak f t).append (tms_weakL f r)
set_option maxHeartbeats 16000000 in
theorem term_Spine_pF (t : Tm) (hm : t.nodes ≤ 2 ^ 40) : PPure Tryz.prog F.term_Spine [.agg t.pv] (.tup [.agg (t.spine.1.pvB true), .sl 5 (t.spine.2.map Tm.pv)]) := by
  refine pure_by is_term_Spine (by simp) (by simp [PV.imm, immL, tpvB_imm, tms_immLL]) fun hb nx => ?_
  clear hb
  obtain ⟨h1, h2, h3⟩ := spineF_spec t.size t (Nat.le_refl _)
  have h4 := spineF_len t.size t
  have h5 := size_nodes t
  have hN : ∃ N, N = t.spine.2.length := ⟨_, rfl⟩
  obtain ⟨N, hN⟩ := hN
  rw [show (spineF t.size t).2.length = N from hN.symm] at h1 h2 h3 h4
  have h1k : Kept (∀ i, i < N → (down i t).ap = true ∧ t.spine.2[N - 1 - i]? = some ((down i t).kid 1)) := Kept.mk h1
  have h2k : Kept ((down N t).ap = false) := Kept.mk h2
  have h3k : Kept (t.spine.1 = down N t) := Kept.mk h3
  have hNk := Kept.mk hN
  have hNb : N ≤ 2 ^ 40 := by omega
  have hdk := Kept.mk fun i (hi : i ≤ N) => Nat.le_trans (down_nodes i t fun j hj => (h1k.out j (by omega)).1) hm
  clear h1 h2 h3 h4 h5 hN
  repeat' (first | ((with_reducible first | refine cond_pos (by omega) ?_ | refine cond_neg (by omega) ?_ | refine guard_pos (by omega) ?_ | refine guard_neg (by omega) ?_ | refine cond_ifn ?_ ?_ | refine cond_waysn ?_ ?_ | refine guard_ifn ?_ ?_ | refine guard_waysn ?_ ?_ | refine cond_if ?_ ?_ | refine cond_ways ?_ ?_ | refine guard_if ?_ ?_ | refine guard_ways ?_ ?_) <;> intro _) | simp (maxSteps := 1000000) (disch := omega) only [go_sem, Nat.reduceAdd, Nat.reduceMul, Nat.reduceSub, Nat.reduceLeDiff, Nat.reduceEqDiff, Nat.reduceBEq, ↓reduceIte, reduceCtorEq, Int.reduceEq, Int.reduceLE, Int.reduceLT, Int.reduceAdd, Int.reduceSub, Int.reduceNeg, Int.reduceToNat, Int.reduceNe, Nat.reducePow, Nat.reduceShiftRight, Nat.reduceMod, mc_term_Spine, *])
  refine c_loopW 130864 (by kernel_rfl) (fun j f H m => ∃ i : Nat, j = N - i ∧ i ≤ N ∧ f 5 = .sc (.int .i64 i) ∧ f 4 = .ptr (down i t).pv ∧ H (nx + 1) = some ⟨[.sc (.int .i64 0), .sc (.int .i64 0), .sc (.string ⟨#[]⟩), .sc (.slice none 0 0), .sc (.slice none 0 0)], true⟩ ∧ nx + 2 ≤ m) _ ⟨0, rfl, Nat.zero_le _, (by first | assumption | omega | rfl | (simp (disch := omega) only [go_sem, Nat.reduceMul, Nat.reduceSub, Nat.reduceShiftRight, Nat.reduceMod, Nat.reduceEqDiff, Nat.reduceAdd, ↓reduceIte, Nat.reduceLeDiff, *] <;> omega)), (by first | assumption | omega | rfl | (simp (disch := omega) only [go_sem, Nat.reduceMul, Nat.reduceSub, Nat.reduceShiftRight, Nat.reduceMod, Nat.reduceEqDiff, Nat.reduceAdd, ↓reduceIte, Nat.reduceLeDiff, *] <;> omega)), by simp [upd], (by first | assumption | omega | rfl | (simp (disch := omega) only [go_sem, Nat.reduceMul, Nat.reduceSub, Nat.reduceShiftRight, Nat.reduceMod, Nat.reduceEqDiff, Nat.reduceAdd, ↓reduceIte, Nat.reduceLeDiff, *] <;> omega))⟩ ?_
  rintro _ f H m ⟨i, rfl, hi, e5, e4, hH1, hm1⟩
  by_cases hlt : i < N
  · obtain ⟨n', s', ls', x, y, hd⟩ := ap_inv (h1k.out i hlt).1
    have hd2 : down (i + 1) t = x := by simp only [down, hd, Tm.kid, List.getElem?_cons_zero]
    have hd2k := Kept.mk hd2
    rw [hd] at e4
    have c1 : PPure Tryz.prog F.term_applied [.ptr (Tm.mk 4 n' s' ls' [x, y]).pv] (.sc (.bool true)) := applied_p 4 n' s' ls' [x, y]
    simp only [Tm.pv, List.map_cons, List.map_nil] at e4 c1
    clear hd hd2
    repeat' (first | ((with_reducible first | refine cond_pos (by omega) ?_ | refine cond_neg (by omega) ?_ | refine guard_pos (by omega) ?_ | refine guard_neg (by omega) ?_ | refine cond_ifn ?_ ?_ | refine cond_waysn ?_ ?_ | refine guard_ifn ?_ ?_ | refine guard_waysn ?_ ?_ | refine cond_if ?_ ?_ | refine cond_ways ?_ ?_ | refine guard_if ?_ ?_ | refine guard_ways ?_ ?_) <;> intro _) | (((with_reducible refine call_id ?_); (first | (refine call_pure (c1) ?_)))) | simp (maxSteps := 1000000) (disch := omega) only [go_sem, Nat.reduceAdd, Nat.reduceMul, Nat.reduceSub, Nat.reduceLeDiff, Nat.reduceEqDiff, Nat.reduceBEq, ↓reduceIte, reduceCtorEq, Int.reduceEq, Int.reduceLE, Int.reduceLT, Int.reduceAdd, Int.reduceSub, Int.reduceNeg, Int.reduceToNat, Int.reduceNe, Nat.reducePow, Nat.reduceShiftRight, Nat.reduceMod, *])
    refine Nx.mk (N - (i + 1)) (by first | assumption | omega | rfl | (simp (disch := omega) only [go_sem, Nat.reduceMul, Nat.reduceSub, Nat.reduceShiftRight, Nat.reduceMod, Nat.reduceEqDiff, Nat.reduceAdd, ↓reduceIte, Nat.reduceLeDiff, *] <;> omega)) ⟨i + 1, rfl, (by first | assumption | omega | rfl | (simp (disch := omega) only [go_sem, Nat.reduceMul, Nat.reduceSub, Nat.reduceShiftRight, Nat.reduceMod, Nat.reduceEqDiff, Nat.reduceAdd, ↓reduceIte, Nat.reduceLeDiff, *] <;> omega)), (by first | assumption | omega | rfl | (simp (disch := omega) only [go_sem, Nat.reduceMul, Nat.reduceSub, Nat.reduceShiftRight, Nat.reduceMod, Nat.reduceEqDiff, Nat.reduceAdd, ↓reduceIte, Nat.reduceLeDiff, *] <;> omega)), by rw [hd2k.out]; simp (disch := omega) only [go_sem, Nat.reduceMul, Nat.reduceSub, Nat.reduceShiftRight, Nat.reduceMod, Nat.reduceEqDiff, Nat.reduceAdd, ↓reduceIte, Nat.reduceLeDiff, *], (by first | assumption | omega | rfl | (simp (disch := omega) only [go_sem, Nat.reduceMul, Nat.reduceSub, Nat.reduceShiftRight, Nat.reduceMod, Nat.reduceEqDiff, Nat.reduceAdd, ↓reduceIte, Nat.reduceLeDiff, *] <;> omega)), (by first | assumption | omega | rfl | (simp (disch := omega) only [go_sem, Nat.reduceMul, Nat.reduceSub, Nat.reduceShiftRight, Nat.reduceMod, Nat.reduceEqDiff, Nat.reduceAdd, ↓reduceIte, Nat.reduceLeDiff, *] <;> omega))⟩
  · obtain rfl : i = N := by omega
    have c1 : PPure Tryz.prog F.term_applied [.ptr (down i t).pv] (.sc (.bool false)) := by
      have h := h2k.out
      cases hd : down i t with
      | mk k n s ls args =>
        rw [hd] at h
        simp only [Tm.ap] at h
        have := applied_p k n s ls args
        rw [h] at this
        exact this
    have c2 := clone_pF2 (down i t) (hdk.out i (Nat.le_refl _))
    by_cases h0 : i = 0
    · have hsp : t.spine.2 = [] := List.eq_nil_of_length_eq_zero (by have := hNk.out; omega)
      rw [hsp, h3k.out]
      clear hsp
      subst h0
      repeat' (first | ((with_reducible first | refine cond_pos (by omega) ?_ | refine cond_neg (by omega) ?_ | refine guard_pos (by omega) ?_ | refine guard_neg (by omega) ?_ | refine cond_ifn ?_ ?_ | refine cond_waysn ?_ ?_ | refine guard_ifn ?_ ?_ | refine guard_waysn ?_ ?_ | refine cond_if ?_ ?_ | refine cond_ways ?_ ?_ | refine guard_if ?_ ?_ | refine guard_ways ?_ ?_) <;> intro _) | (((with_reducible refine call_id ?_); (first | (refine call_pure (c1) ?_) | (refine call_pure (c2) ?_)))) | simp (maxSteps := 1000000) (disch := omega) only [go_sem, Nat.reduceAdd, Nat.reduceMul, Nat.reduceSub, Nat.reduceLeDiff, Nat.reduceEqDiff, Nat.reduceBEq, ↓reduceIte, reduceCtorEq, Int.reduceEq, Int.reduceLE, Int.reduceLT, Int.reduceAdd, Int.reduceSub, Int.reduceNeg, Int.reduceToNat, Int.reduceNe, Nat.reducePow, Nat.reduceShiftRight, Nat.reduceMod, *])
      refine fin_retF (r0 := .tup [.agg ((down 0 t).pvB true), .sc (.slice none 0 0)]) 2 (by (simp (disch := omega) only [go_sem, Nat.reduceMul, Nat.reduceSub, Nat.reduceShiftRight, Nat.reduceMod, Nat.reduceEqDiff, Nat.reduceAdd, ↓reduceIte, Nat.reduceLeDiff, *]); all_goals rfl) ?_
      have e1 : ∀ Hx, frzF 2 Hx (.tup [.agg ((down 0 t).pvB true), .sc (.slice none 0 0)]) = .tup [.agg (((down 0 t).pvB true).map (frzF 0 Hx)), .sc (.slice none 0 0)] := fun _ => rfl
      rw [e1, frzF_tpvB]
      exact Weak.tup (xs := [.agg ((down 0 t).pvB true), .sc (.slice none 0 0)]) ⟨.refl _, .nil 5, trivial⟩
    · have h00 : 0 < i := by omega
      have hz1 : 80 * (i : Int) ≤ 2 ^ 47 := by omega
      have hz2 : (i : Int) ≤ 2 ^ 47 := by omega
      repeat' (first | ((with_reducible first | refine cond_pos (by omega) ?_ | refine cond_neg (by omega) ?_ | refine guard_pos (by omega) ?_ | refine guard_neg (by omega) ?_ | refine cond_ifn ?_ ?_ | refine cond_waysn ?_ ?_ | refine guard_ifn ?_ ?_ | refine guard_waysn ?_ ?_ | refine cond_if ?_ ?_ | refine cond_ways ?_ ?_ | refine guard_if ?_ ?_ | refine guard_ways ?_ ?_) <;> intro _) | (((with_reducible refine call_id ?_); (first | (refine call_pure (c1) ?_)))) | simp (maxSteps := 1000000) (disch := omega) only [go_sem, Nat.reduceAdd, Nat.reduceMul, Nat.reduceSub, Nat.reduceLeDiff, Nat.reduceEqDiff, Nat.reduceBEq, ↓reduceIte, reduceCtorEq, Int.reduceEq, Int.reduceLE, Int.reduceLT, Int.reduceAdd, Int.reduceSub, Int.reduceNeg, Int.reduceToNat, Int.reduceNe, Nat.reducePow, Nat.reduceShiftRight, Nat.reduceMod, hz1, hz2, and_self, *])
      clear c1
      refine c_loopW 2199014867104 (by kernel_rfl) (fun j f2 H2 m2 => ∃ cs : List PV, j ≤ i ∧ f2 5 = .sc (.int .i64 j) ∧ f2 7 = .ptr (down (i - j) t).pv ∧ H2 (nx + 1) = some ⟨[.sc (.int .i64 0), .sc (.int .i64 0), .sc (.string ⟨#[]⟩), .sc (.slice none 0 0), .sc (.slice none 0 0)], true⟩ ∧
        H2 (m + 5) = some ⟨zeros [.int .i64 0, .int .i64 0, .string ⟨#[]⟩, .slice none 0 0, .slice none 0 0] j ++ cs, true⟩ ∧ m + 5 < m2 ∧ Kept (OwnW H2 (m + 6) m2 cs (t.spine.2.drop j))) i ⟨[], Nat.le_refl _, (by first | assumption | omega | rfl | (simp (disch := omega) only [go_sem, Nat.reduceMul, Nat.reduceSub, Nat.reduceShiftRight, Nat.reduceMod, Nat.reduceEqDiff, Nat.reduceAdd, ↓reduceIte, Nat.reduceLeDiff, *] <;> omega)), by rw [Nat.sub_self]; simp [upd, down], ?g1, by simp [upd], ?g2, Kept.mk ?g3⟩ ?_
      case g1 => exact (upd_ne _ _ (by omega)).trans hH1
      case g2 => show m + 5 < m + 8; omega
      case g3 => rw [List.drop_eq_nil_of_le (by rw [← hNk.out]; exact Nat.le_refl _)]; rfl
      clear e5 hH1
      rintro j f2 H2 m2 ⟨cs, hj, e5, e7, hH1, hHb, hm2, ho⟩
      cases j with
      | zero =>
        rw [List.drop_zero] at ho
        have hHb' : H2 (m + 5) = some ⟨cs, true⟩ := by simpa [zeros] using hHb
        have hlen := ho.out.len
        have hfin : Kept (∀ Hx : Nat → Option PObj, Hx (m + 5) = some ⟨cs, true⟩ → OwnW Hx (m + 6) m2 cs t.spine.2 → Weak (frzF (sizeL t.spine.2 + 3) Hx (.tup [.agg ((down i t).pvB true), .osl (m + 5) 0 i 5])) (.tup [.agg (t.spine.1.pvB true), .sl 5 (t.spine.2.map Tm.pv)])) := Kept.mk (by
          intro Hx hx1 hx2
          have e1 : frzF (sizeL t.spine.2 + 3) Hx (.tup [.agg ((down i t).pvB true), .osl (m + 5) 0 i 5]) = .tup [.agg (((down i t).pvB true).map (frzF (sizeL t.spine.2 + 1) Hx)), frzF (sizeL t.spine.2 + 2) Hx (.osl (m + 5) 0 i 5)] := rfl
          rw [e1]
          refine Weak.tup (xs := [_, _]) ⟨?_, ?_, trivial⟩
          · rw [frzF_tpvB, h3k.out]
            exact .refl _
          · have hN := hNk.out
            simp only [frzF, hx1, List.drop_zero]
            rw [if_pos (by rw [hlen]; omega), List.take_of_length_le (by rw [hlen]; omega)]
            refine .trans (Weak.fslW (es' := t.spine.2.map Tm.pv) (by rw [chunks_length, List.length_map]; exact hN) (fun e he => ?_) ?_) (Weak.fsl 5 _)
            · obtain ⟨x, _, rfl⟩ := List.mem_map.1 he; exact tm_len x
            · rw [chunks_flatten 5 i _ (by rw [List.length_map, hlen]; omega)]
              exact (OwnW.frz _ _ hx2 _ (by omega)).trans (tms_weakL true _))
        have hHb2 := Kept.mk hHb'
        clear hHb hHb' hlen h1k h2k h3k hdk
        repeat' (first | ((with_reducible first | refine cond_pos (by omega) ?_ | refine cond_neg (by omega) ?_ | refine guard_pos (by omega) ?_ | refine guard_neg (by omega) ?_ | refine cond_ifn ?_ ?_ | refine cond_waysn ?_ ?_ | refine guard_ifn ?_ ?_ | refine guard_waysn ?_ ?_ | refine cond_if ?_ ?_ | refine cond_ways ?_ ?_ | refine guard_if ?_ ?_ | refine guard_ways ?_ ?_) <;> intro _) | (((with_reducible refine call_id ?_); (first | (refine call_pure (c2) ?_)))) | simp (maxSteps := 1000000) (disch := omega) only [go_sem, Nat.reduceAdd, Nat.reduceMul, Nat.reduceSub, Nat.reduceLeDiff, Nat.reduceEqDiff, Nat.reduceBEq, ↓reduceIte, reduceCtorEq, Int.reduceEq, Int.reduceLE, Int.reduceLT, Int.reduceAdd, Int.reduceSub, Int.reduceNeg, Int.reduceToNat, Int.reduceNe, Nat.reducePow, Nat.reduceShiftRight, Nat.reduceMod, zeros, *])
        refine fin_retF (r0 := .tup [.agg ((down i t).pvB true), .osl (m + 5) 0 i 5]) (sizeL t.spine.2 + 3) (by (simp (disch := omega) only [go_sem, Nat.reduceMul, Nat.reduceSub, Nat.reduceShiftRight, Nat.reduceMod, Nat.reduceEqDiff, Nat.reduceAdd, ↓reduceIte, Nat.reduceLeDiff, *]); all_goals rfl) ?_
        refine hfin.out _ ((upd_ne _ _ (by omega)).trans hHb2.out) (ho.out.mono (Nat.le_refl _) (Nat.le_refl _) (fun j g1 g2 => upd_ne _ _ (by omega)))
      | succ j =>
        have hk : i - (j + 1) < i := by omega
        obtain ⟨n', s', ls', x, y, hd⟩ := ap_inv (h1k.out _ hk).1
        have hy := (h1k.out _ hk).2
        rw [show i - 1 - (i - (j + 1)) = j by omega, hd] at hy
        simp only [Tm.kid, List.getElem?_cons_succ, List.getElem?_cons_zero] at hy
        have hd2 : down (i - j) t = x := by
          rw [show i - j = (i - (j + 1)) + 1 by omega]
          simp only [down, hd, Tm.kid, List.getElem?_cons_zero]
        have hyn : y.nodes ≤ 2 ^ 40 := by
          have h1 := hdk.out _ (Nat.le_of_lt hk)
          have h2 := (ap_nodes (h1k.out _ hk).1).2
          rw [hd] at h1 h2
          simp only [Tm.kid, List.getElem?_cons_succ, List.getElem?_cons_zero] at h2
          omega
        have hdrop : Kept (t.spine.2.drop j = y :: t.spine.2.drop (j + 1)) := Kept.mk (by
          obtain ⟨h1, h2⟩ := List.getElem?_eq_some_iff.1 hy
          rw [List.drop_eq_getElem_cons h1, h2])
        have hd2k := Kept.mk hd2
        rw [hd] at e7
        simp only [Tm.pv, List.map_cons, List.map_nil] at e7
        rw [zeros_snoc, List.append_assoc] at hHb
        have hz : ((j + 1 : Nat) : Int) - 1 = (j : Int) := by omega
        have hzl : (zeros [.int .i64 0, .int .i64 0, .string ⟨#[]⟩, .slice none 0 0, .slice none 0 0] j).length = j * 5 := by rw [zeros_len]; rfl
        have hHbk := Kept.mk hHb
        have hji : j < i := by omega
        have hHk1 := Kept.mk hH1
        clear hd hd2 hk hy h1k h2k h3k hdk hH1 hHb
        repeat' (first | ((with_reducible first | refine cond_pos (by omega) ?_ | refine cond_neg (by omega) ?_ | refine guard_pos (by omega) ?_ | refine guard_neg (by omega) ?_ | refine cond_ifn ?_ ?_ | refine cond_waysn ?_ ?_ | refine guard_ifn ?_ ?_ | refine guard_waysn ?_ ?_ | refine cond_if ?_ ?_ | refine cond_ways ?_ ?_ | refine guard_if ?_ ?_ | refine guard_ways ?_ ?_) <;> intro _) | simp (maxSteps := 1000000) (disch := omega) only [go_sem, Nat.reduceAdd, Nat.reduceMul, Nat.reduceSub, Nat.reduceLeDiff, Nat.reduceEqDiff, Nat.reduceBEq, ↓reduceIte, reduceCtorEq, Int.reduceEq, Int.reduceLE, Int.reduceLT, Int.reduceAdd, Int.reduceSub, Int.reduceNeg, Int.reduceToNat, Int.reduceNe, Nat.reducePow, Nat.reduceShiftRight, Nat.reduceMod, hz, *])
        refine call_mut (copyTo_p y.size y (Nat.le_refl _) hyn _ _ (m + 5) (j * 5) (zeros [.int .i64 0, .int .i64 0, .string ⟨#[]⟩, .slice none 0 0, .slice none 0 0] j) cs true hHbk.out (Nat.lt_of_lt_of_le hm2 (Nat.le_add_right _ _)) hzl) ?_
        rintro H' nx' r' ⟨hn1, c, hc1, hc2, hc4⟩ -
        have hn2 : m2 ≤ nx' := Nat.le_trans (Nat.le_add_right _ _) hn1
        have hc3 : ∀ j, j ≠ m + 5 → j < m2 → H' j = H2 j := fun j a b => hc4 j a (Nat.lt_of_lt_of_le b (Nat.le_add_right _ _))
        have hH1' : H' (nx + 1) = _ := (hc3 (nx + 1) (by omega) (by omega)).trans hHk1.out
        have ho' : Kept (OwnW H' (m + 6) nx' (c ++ cs) (t.spine.2.drop j)) := Kept.mk (by
          rw [hdrop.out]
          refine ⟨c, cs, rfl, hc2.mono _ _ _ _ _ _ ?_ (Nat.le_refl _) fun _ _ _ => rfl, ho.out.mono (Nat.le_refl _) hn2 fun j g1 g2 => hc3 j (by omega) g2⟩
          exact Nat.le_trans (by omega : m + 6 ≤ m2) (Nat.le_add_right _ _))
        clear ho hc3 hc4 hc2 hn1 hHk1 hHbk hdrop c2
        repeat' (first | ((with_reducible first | refine cond_pos (by omega) ?_ | refine cond_neg (by omega) ?_ | refine guard_pos (by omega) ?_ | refine guard_neg (by omega) ?_ | refine cond_ifn ?_ ?_ | refine cond_waysn ?_ ?_ | refine guard_ifn ?_ ?_ | refine guard_waysn ?_ ?_ | refine cond_if ?_ ?_ | refine cond_ways ?_ ?_ | refine guard_if ?_ ?_ | refine guard_ways ?_ ?_) <;> intro _) | simp (maxSteps := 1000000) (disch := omega) only [go_sem, Nat.reduceAdd, Nat.reduceMul, Nat.reduceSub, Nat.reduceLeDiff, Nat.reduceEqDiff, Nat.reduceBEq, ↓reduceIte, reduceCtorEq, Int.reduceEq, Int.reduceLE, Int.reduceLT, Int.reduceAdd, Int.reduceSub, Int.reduceNeg, Int.reduceToNat, Int.reduceNe, Nat.reducePow, Nat.reduceShiftRight, Nat.reduceMod, *])
        refine Nx.mk j (by first | assumption | omega | rfl | (simp (disch := omega) only [go_sem, Nat.reduceMul, Nat.reduceSub, Nat.reduceShiftRight, Nat.reduceMod, Nat.reduceEqDiff, Nat.reduceAdd, ↓reduceIte, Nat.reduceLeDiff, *] <;> omega)) ⟨c ++ cs, by omega, (by first | assumption | omega | rfl | (simp (disch := omega) only [go_sem, Nat.reduceMul, Nat.reduceSub, Nat.reduceShiftRight, Nat.reduceMod, Nat.reduceEqDiff, Nat.reduceAdd, ↓reduceIte, Nat.reduceLeDiff, *] <;> omega)), by rw [hd2k.out]; simp (disch := omega) only [go_sem, Nat.reduceMul, Nat.reduceSub, Nat.reduceShiftRight, Nat.reduceMod, Nat.reduceEqDiff, Nat.reduceAdd, ↓reduceIte, Nat.reduceLeDiff, *], hH1', hc1, ?g1, ?g2⟩
        case g1 => exact (by omega : m + 5 < nx' + 6)
        case g2 => exact Kept.mk (ho'.out.mono (Nat.le_refl _) (Nat.le_add_right _ _) fun _ _ _ => rfl)
theorem term_Spine_p (t : Tm) (hm : t.nodes ≤ 2 ^ 40) : PPure Tryz.prog F.term_Spine [.agg t.pv] (.tup [.agg t.spine.1.pv, .sl 5 (t.spine.2.map Tm.pv)]) :=
  (term_Spine_pF t hm).weak (WeakL.refl _) (Weak.tup (xs := [_, _]) ⟨tm_agg true _, .refl _, trivial⟩)
end
section
set_option maxRecDepth 20000
attribute [local go_sem] pv_len pv_take Nat.add_assoc tm_len tm_take pv_one tm_one id_ne id_ne' id_ne2 List.append_assoc
theorem flat3_ne1 (ls : List Lv) : (ls.map Lv.pv).flatten.length ≠ 1 := by
  have : (ls.map Lv.pv).flatten.length = ls.length * 3 := by
    induction ls with
    | nil => rfl
    | cons t r ih => rw [List.map_cons, List.flatten_cons, List.length_append, pv_len, ih, List.length_cons, Nat.succ_mul]; omega
  omega
theorem zeros_imm : ∀ (n : Nat), immL (zeros [.int .i64 0, .int .i64 0, .string ⟨#[]⟩, .slice none 0 0, .slice none 0 0] n) = true
  | 0 => rfl
  | n + 1 => by simp only [zeros, immL_append, zeros_imm n]; rfl
theorem tms_immF (ts : List Tm) : immL (ts.flatMap Tm.pv) = true := by rw [List.flatMap_def]; exact tms_imm ts
theorem lvs_immF : ∀ ls : List Lv, immL (ls.map Lv.pv).flatten = true
  | [] => rfl
  | t :: r => by simp only [List.map_cons, List.flatten_cons, immL_append, pv_imm t, lvs_immF r]; rfl
def putRaw (bys : List Lv) (kind n : Int) (s : ByteArray) (ls : List Lv) (args : List Tm) (H : Nat → Option PObj) (nx id : Nat) (p q : List PV) (kp : Nat → Bool) (H' : Nat → Option PObj) (nx' : Nat) (r : PV) : Prop :=
  nx ≤ nx' ∧ (∀ j, kp j = true → H' j = H j) ∧ (((Tm.mk kind n s ls args).putL bys = none ∧ r = .sc (.bool false)) ∨ ∃ ls' args' a b, insts bys ls = some ls' ∧ putLs bys args = some args' ∧ r = .sc (.bool true) ∧
    H' id = some ⟨p ++ (.sc (.int .i64 kind) :: .sc (.int .i64 n) :: .sc (.string s) :: a :: b :: q), true⟩ ∧ RowP H' nx nx' 3 a (ls'.map Lv.pv) ∧ RowP H' nx nx' 5 b (args'.map Tm.pv))
set_option maxHeartbeats 16000000 in
theorem putLevels_p (bys : List Lv) : ∀ (fuel : Nat) (t : Tm), t.size ≤ fuel → t.nodes ≤ 2 ^ 40 → ∀ (H : Nat → Option PObj) (nx id off : Nat) (p q : List PV) (kp : Nat → Bool), H id = some ⟨p ++ (zero5 ++ q), true⟩ → id < nx → p.length = off → immL p = true → immL q = true →
    (∀ j, kp j = true → j ≠ id ∧ j < nx ∧ ∀ o, H j = some o → o.isIt = false ∧ FixL nx o.cells) →
    PMut Tryz.prog F.term_putLevels [.optr id off, .ptr t.pv, .sl 3 (bys.map Lv.pv)] H nx (fun H' nx' r => nx ≤ nx' ∧ (∀ j, kp j = true → H' j = H j) ∧ ((t.putL bys = none ∧ r = .sc (.bool false)) ∨ ∃ y, t.putL bys = some y ∧ r = .sc (.bool true) ∧ H' id = some ⟨p ++ (y.pv ++ q), true⟩)) := by
  intro fuel
  induction fuel with
  | zero => intro t h; have := size_pos t; omega
  | succ fuel ih =>
    intro t hf hm H nx id off p q kp hH hid hoff hpi hqi hkp
    cases t with
    | mk kind n s ls args =>
    simp only [Tm.size] at hf
    simp only [Tm.nodes] at hm
    have hkpk := Kept.mk hkp
    have hpik := Kept.mk hpi
    have hqik := Kept.mk hqi
    refine tell_low (Q := putRaw bys kind n s ls args H nx id p q kp) kp id hid (fun j hj => ⟨(hkp j hj).1, (hkp j hj).2.1⟩) ?walk ?tell
    case tell =>
      clear ih
      rintro H' nx' r ⟨h1, h2, h3⟩
      have hfix : ∀ j o, kp j = true → H' j = some o → o.isIt = false ∧ FixL nx o.cells := fun j o hj ho => (hkp j hj).2.2 o ((h2 j hj).symm.trans ho)
      rcases h3 with ⟨h3, rfl⟩ | ⟨ls', args', a, b, h3, h4, rfl, h5, h6, h7⟩
      · exact ⟨rfl, hfix, none, 0, (fun _ h => by cases h), fun H2 g1 g2 => ⟨h1, fun j hj => (g1 j hj).trans (h2 j hj), .inl ⟨h3, rfl⟩⟩⟩
      · have hput : (Tm.mk kind n s ls args).putL bys = some (.mk kind n s ls' args') := by simp only [Tm.putL, h3, h4]
        refine ⟨rfl, hfix, some (p ++ ((Tm.mk kind n s ls' args').pv ++ q)), 1, fun cs' e => ?_, fun H2 g1 g2 => ⟨h1, fun j hj => (g1 j hj).trans (h2 j hj), .inr ⟨_, hput, rfl, g2⟩⟩⟩
        cases e
        refine ⟨_, h5, by simp; omega, ?_⟩
        rw [List.map_append, frgF_immL _ _ _ p hpi]
        refine (WeakL.refl _).append ?_
        simp only [List.map_cons, frgF_sc, Tm.pv, List.cons_append, List.nil_append]
        rw [frgF_immL _ _ _ q hqi]
        refine ⟨.refl _, .refl _, .refl _, h6.frg (fun e he => ?_) _ (fun j hj => by simpa using hj), h7.frg (fun e he => ?_) _ (fun j hj => by simpa using hj), .refl _⟩
        · obtain ⟨x, _, rfl⟩ := List.mem_map.1 he; exact pv_len x
        · obtain ⟨x, _, rfl⟩ := List.mem_map.1 he; exact tm_len x
    case walk =>
    clear hkp hpi hqi
    refine mut_by is_term_putLevels (by simp) fun hb => ?_
    have hb0 : ls.length ≤ 9223372036854775807 ∧ args.length ≤ 9223372036854775807 := by simp [Tm.pv, bndL, PV.bnd] at hb; omega
    clear hb
    rw [zero5] at hH
    have at0 : ∀ x, List.take off (p ++ x) = p := fun x => List.take_left' hoff
    have at1 : ∀ x i, List.take (off + i) (p ++ x) = p ++ List.take i x := fun x i => at_take p x off i hoff
    have at2 : ∀ x i, List.drop (off + i) (p ++ x) = List.drop i x := fun x i => at_drop p x off i hoff
    have at3 : off + 1 ≤ off + (q.length + 5) ∧ off + 2 ≤ off + (q.length + 5) ∧ off + 3 ≤ off + (q.length + 5) ∧ off + 4 ≤ off + (q.length + 5) ∧ off + 5 ≤ off + (q.length + 5) := by omega
    have at4 : ∀ x, List.drop off (p ++ x) = x := fun x => List.drop_left' hoff
    have hla := len_nodesT args
    have hll := len_nodesL ls
    have hz1 : 80 * (args.length : Int) ≤ 2 ^ 47 := by omega
    have hz2 : (args.length : Int) ≤ 2 ^ 47 := by omega
    have hz3 : 40 * (ls.length : Int) ≤ 2 ^ 47 := by omega
    have hz4 : (ls.length : Int) ≤ 2 ^ 47 := by omega
    have hkp2 := Kept.mk fun j (hj : kp j = true) => (⟨(hkpk.out j hj).1, (hkpk.out j hj).2.1⟩ : j ≠ id ∧ j < nx)
    have ihk := Kept.mk ih
    clear ih
    by_cases hl0 : ls.length = 0
    · obtain rfl : ls = [] := List.eq_nil_of_length_eq_zero hl0
      repeat' (first | ((with_reducible first | refine cond_pos (by omega) ?_ | refine cond_neg (by omega) ?_ | refine guard_pos (by omega) ?_ | refine guard_neg (by omega) ?_ | refine cond_ifn ?_ ?_ | refine cond_waysn ?_ ?_ | refine guard_ifn ?_ ?_ | refine guard_waysn ?_ ?_ | refine cond_if ?_ ?_ | refine cond_ways ?_ ?_ | refine guard_if ?_ ?_ | refine guard_ways ?_ ?_) <;> intro _) | simp (maxSteps := 1000000) (disch := omega) only [go_sem, Nat.reduceAdd, Nat.reduceMul, Nat.reduceSub, Nat.reduceLeDiff, Nat.reduceEqDiff, Nat.reduceBEq, ↓reduceIte, reduceCtorEq, Int.reduceEq, Int.reduceLE, Int.reduceLT, Int.reduceAdd, Int.reduceSub, Int.reduceNeg, Int.reduceToNat, Int.reduceNe, Nat.reducePow, Nat.reduceShiftRight, Nat.reduceMod, mc_term_putLevels, Tm.pv, at0, at1, at2, at3, at4, List.take_succ_cons, List.drop_succ_cons, List.take_zero, List.drop_zero, List.cons_append, List.nil_append, hz1, hz2, hz3, hz4, and_self, *])
      refine c_loopW 151115722948229019468736 (by kernel_rfl) (fun j f H2 m => f 52 = .sc (.int .i64 0) ∧ nx ≤ m ∧ Kept (∀ j, kp j = true → H2 j = H j) ∧ H2 id = some ⟨p ++ (.sc (.int .i64 kind) :: .sc (.int .i64 n) :: .sc (.string s) :: .sc (.slice none 0 0) :: .sc (.slice none 0 0) :: q), true⟩) 0 ⟨(by first | assumption | omega | rfl | (simp (disch := omega) only [go_sem, Nat.reduceMul, Nat.reduceSub, Nat.reduceShiftRight, Nat.reduceMod, Nat.reduceEqDiff, Nat.reduceAdd, ↓reduceIte, Nat.reduceLeDiff, *] <;> omega)), Nat.le_add_right _ _, Kept.mk (fun j hj => by have := hkp2.out j hj; simp [upd, this.1]), upd_same _ _ _⟩ ?_
      clear hl0 hH
      rintro _ f H2 m ⟨e52, hm2, hkk, hHi⟩
      have hysk : Kept (insts bys [] = some []) := Kept.mk rfl
      have hrow : RowP H2 nx m 3 (.sc (.slice none 0 0)) (([] : List Lv).map Lv.pv) := .inl ⟨rfl, rfl⟩
      by_cases ha0 : args.length = 0
      · obtain rfl : args = [] := List.eq_nil_of_length_eq_zero ha0
        have hrk := Kept.mk hrow
        clear hrow ihk
        repeat' (first | ((with_reducible first | refine cond_pos (by omega) ?_ | refine cond_neg (by omega) ?_ | refine guard_pos (by omega) ?_ | refine guard_neg (by omega) ?_ | refine cond_ifn ?_ ?_ | refine cond_waysn ?_ ?_ | refine guard_ifn ?_ ?_ | refine guard_waysn ?_ ?_ | refine cond_if ?_ ?_ | refine cond_ways ?_ ?_ | refine guard_if ?_ ?_ | refine guard_ways ?_ ?_) <;> intro _) | simp (maxSteps := 1000000) (disch := omega) only [go_sem, Nat.reduceAdd, Nat.reduceMul, Nat.reduceSub, Nat.reduceLeDiff, Nat.reduceEqDiff, Nat.reduceBEq, ↓reduceIte, reduceCtorEq, Int.reduceEq, Int.reduceLE, Int.reduceLT, Int.reduceAdd, Int.reduceSub, Int.reduceNeg, Int.reduceToNat, Int.reduceNe, Nat.reducePow, Nat.reduceShiftRight, Nat.reduceMod, at0, at1, at2, at3, at4, List.take_succ_cons, List.drop_succ_cons, List.take_zero, List.drop_zero, List.cons_append, List.nil_append, hz1, hz2, hz3, hz4, and_self, *])
        refine c_rounds 1 ?_
        repeat' (first | ((with_reducible first | refine cond_pos (by omega) ?_ | refine cond_neg (by omega) ?_ | refine guard_pos (by omega) ?_ | refine guard_neg (by omega) ?_ | refine cond_ifn ?_ ?_ | refine cond_waysn ?_ ?_ | refine guard_ifn ?_ ?_ | refine guard_waysn ?_ ?_ | refine cond_if ?_ ?_ | refine cond_ways ?_ ?_ | refine guard_if ?_ ?_ | refine guard_ways ?_ ?_) <;> intro _) | simp (maxSteps := 1000000) (disch := omega) only [go_sem, Nat.reduceAdd, Nat.reduceMul, Nat.reduceSub, Nat.reduceLeDiff, Nat.reduceEqDiff, Nat.reduceBEq, ↓reduceIte, reduceCtorEq, Int.reduceEq, Int.reduceLE, Int.reduceLT, Int.reduceAdd, Int.reduceSub, Int.reduceNeg, Int.reduceToNat, Int.reduceNe, Nat.reducePow, Nat.reduceShiftRight, Nat.reduceMod, rounds_next, *])
        exact fin_mut (.sc (.bool true)) (.inr rfl) (by (simp (disch := omega) only [go_sem, Nat.reduceMul, Nat.reduceSub, Nat.reduceShiftRight, Nat.reduceMod, Nat.reduceEqDiff, Nat.reduceAdd, ↓reduceIte, Nat.reduceLeDiff, *]); all_goals rfl) (show putRaw bys kind n s [] [] H nx id p q kp _ _ _ from ⟨Nat.le_trans hm2 (Nat.le_add_right _ _), hkk.out, .inr ⟨([] : List Lv), [], (.sc (.slice none 0 0)), .sc (.slice none 0 0), hysk.out, rfl, rfl, hHi, hrk.out.mono (Nat.le_add_right _ _) (fun _ _ _ _ => rfl), .inl ⟨rfl, rfl⟩⟩⟩)
      · have ha00 : 0 < args.length := by omega
        have hrk := Kept.mk hrow
        clear hrow
        repeat' (first | ((with_reducible first | refine cond_pos (by omega) ?_ | refine cond_neg (by omega) ?_ | refine guard_pos (by omega) ?_ | refine guard_neg (by omega) ?_ | refine cond_ifn ?_ ?_ | refine cond_waysn ?_ ?_ | refine guard_ifn ?_ ?_ | refine guard_waysn ?_ ?_ | refine cond_if ?_ ?_ | refine cond_ways ?_ ?_ | refine guard_if ?_ ?_ | refine guard_ways ?_ ?_) <;> intro _) | simp (maxSteps := 1000000) (disch := omega) only [go_sem, Nat.reduceAdd, Nat.reduceMul, Nat.reduceSub, Nat.reduceLeDiff, Nat.reduceEqDiff, Nat.reduceBEq, ↓reduceIte, reduceCtorEq, Int.reduceEq, Int.reduceLE, Int.reduceLT, Int.reduceAdd, Int.reduceSub, Int.reduceNeg, Int.reduceToNat, Int.reduceNe, Nat.reducePow, Nat.reduceShiftRight, Nat.reduceMod, at0, at1, at2, at3, at4, List.take_succ_cons, List.drop_succ_cons, List.take_zero, List.drop_zero, List.cons_append, List.nil_append, hz1, hz2, hz3, hz4, and_self, *])
        refine c_loopW 83076591280232213527812754179621952 (by kernel_rfl) (fun j f H3 m3 => ∃ (i2 : Nat) (zs : List Tm), j = args.length - i2 ∧ i2 ≤ args.length ∧ f 97 = .sc (.int .i64 i2) ∧ m + 13 < m3 ∧ Kept (putLs bys (args.take i2) = some zs) ∧ Kept (zs.length = i2) ∧ Kept (∀ j, kp j = true → H3 j = H j) ∧
          H3 id = some ⟨p ++ (.sc (.int .i64 kind) :: .sc (.int .i64 n) :: .sc (.string s) :: (.sc (.slice none 0 0)) :: .osl (m + 13) 0 args.length 5 :: q), true⟩ ∧ Kept (H3 (m + 13) = some ⟨zs.flatMap Tm.pv ++ zeros [.int .i64 0, .int .i64 0, .string ⟨#[]⟩, .slice none 0 0, .slice none 0 0] (args.length - i2), true⟩) ∧ Kept (RowP H3 nx m 3 (.sc (.slice none 0 0)) (([] : List Lv).map Lv.pv))) _
          ⟨0, [], rfl, (by first | assumption | omega | rfl | (simp (disch := omega) only [go_sem, Nat.reduceMul, Nat.reduceSub, Nat.reduceShiftRight, Nat.reduceMod, Nat.reduceEqDiff, Nat.reduceAdd, ↓reduceIte, Nat.reduceLeDiff, *] <;> omega)), (by first | assumption | omega | rfl | (simp (disch := omega) only [go_sem, Nat.reduceMul, Nat.reduceSub, Nat.reduceShiftRight, Nat.reduceMod, Nat.reduceEqDiff, Nat.reduceAdd, ↓reduceIte, Nat.reduceLeDiff, *] <;> omega)), Nat.add_lt_add_left (by omega) _, Kept.mk rfl, Kept.mk rfl, Kept.mk (fun j hj => by have h1 := hkp2.out j hj; exact ((upd_ne _ _ h1.1).trans (upd_ne _ _ (show j ≠ m + 13 by omega))).trans (hkk.out j hj)), upd_same _ _ _, Kept.mk ((upd_ne _ _ (show m + 13 ≠ id by omega)).trans ((upd_same _ _ _).trans rfl)), Kept.mk (hrk.out.mono (Nat.le_refl _) fun j g1 g2 _ => (upd_ne _ _ (show j ≠ id by omega)).trans (upd_ne _ _ (show j ≠ m + 13 by omega)))⟩ ?_
        clear hkk hrk hHi
        rintro _ f3 H3 m3 ⟨i2, zs, rfl, hi2, e97, hm3, hzs, hzl, hkk, hHi, hHb, hrk⟩
        by_cases hlt2 : i2 < args.length
        · have eg : args[i2]? = some args[i2] := List.getElem?_eq_getElem hlt2
          have hn := nodesT_mem args i2 hlt2
          have hs := sizeL_mem args i2 hlt2
          repeat' (first | ((with_reducible first | refine cond_pos (by omega) ?_ | refine cond_neg (by omega) ?_ | refine guard_pos (by omega) ?_ | refine guard_neg (by omega) ?_ | refine cond_ifn ?_ ?_ | refine cond_waysn ?_ ?_ | refine guard_ifn ?_ ?_ | refine guard_waysn ?_ ?_ | refine cond_if ?_ ?_ | refine cond_ways ?_ ?_ | refine guard_if ?_ ?_ | refine guard_ways ?_ ?_) <;> intro _) | simp (maxSteps := 1000000) (disch := omega) only [go_sem, Nat.reduceAdd, Nat.reduceMul, Nat.reduceSub, Nat.reduceLeDiff, Nat.reduceEqDiff, Nat.reduceBEq, ↓reduceIte, reduceCtorEq, Int.reduceEq, Int.reduceLE, Int.reduceLT, Int.reduceAdd, Int.reduceSub, Int.reduceNeg, Int.reduceToNat, Int.reduceNe, Nat.reducePow, Nat.reduceShiftRight, Nat.reduceMod, at0, at1, at2, at3, at4, List.take_succ_cons, List.drop_succ_cons, List.take_zero, List.drop_zero, List.cons_append, List.nil_append, hz1, hz2, hz3, hz4, and_self, *])
          obtain ⟨r, hr⟩ : ∃ r, args.length - i2 = r + 1 := ⟨args.length - i2 - 1, by omega⟩
          have hHb2 := hHb.out
          rw [hr] at hHb2
          refine call_mut (ihk.out args[i2] (by omega) (by omega) _ _ (m + 13) (i2 * 5) (zs.flatMap Tm.pv) (zeros [.int .i64 0, .int .i64 0, .string ⟨#[]⟩, .slice none 0 0, .slice none 0 0] r) (fun j => kp j || decide (j = id) || leads (.sc (.slice none 0 0)) j) hHb2 (Nat.lt_of_lt_of_le hm3 (Nat.le_add_right _ _)) (by rw [flat_lenG _ 5 tm_len, hzl.out]) (tms_immF zs) (zeros_imm r) ?kp) ?_
          case kp =>
            intro j hj
            simp only [Bool.or_eq_true, decide_eq_true_eq] at hj
            rcases hj with (hj | rfl) | hj
            · have h1 := hkpk.out j hj
              refine ⟨by omega, Nat.lt_of_lt_of_le (by omega : j < m3) (Nat.le_add_right _ _), fun o ho => ?_⟩
              have h2 := h1.2.2 o ((hkk.out j hj).symm.trans ho)
              exact ⟨h2.1, h2.2.mono (Nat.le_trans (by omega : nx ≤ m3) (Nat.le_add_right _ _))⟩
            · refine ⟨by omega, Nat.lt_of_lt_of_le (by omega : j < m3) (Nat.le_add_right _ _), fun o ho => ?_⟩
              have ho2 := hHi.symm.trans ho
              cases ho2
              refine ⟨isIt_len (by simp; omega), ?_⟩
              exact (FixL.imm hpik.out).append (.cons rfl (.cons rfl (.cons rfl (hrk.out.fix (Nat.le_trans (by omega : m ≤ m3) (Nat.le_add_right _ _)) (.osl (Nat.lt_of_lt_of_le hm3 (Nat.le_add_right _ _)) (.imm hqik.out))))))
            · have h1 := hrk.out.lead (flat3_ne1 _) (lvs_immF _) hj (m3 + 15)
              refine ⟨by omega, Nat.lt_of_lt_of_le (by omega : j < m3) (Nat.le_add_right _ _), fun o ho => (hrk.out.lead (flat3_ne1 _) (lvs_immF _) hj _).2.2 o ho⟩
          rintro H' nx' r' ⟨hn1, hk1, hcase⟩ -
          have hn2 : m3 ≤ nx' := Nat.le_trans (Nat.le_add_right _ _) hn1
          have hkk' : Kept (∀ j, kp j = true → H' j = H j) := Kept.mk fun j hj => (hk1 j (by simp [hj])).trans (hkk.out j hj)
          have hHi' : H' id = _ := (hk1 id (by simp)).trans hHi
          have hrk' : Kept (RowP H' nx m 3 (.sc (.slice none 0 0)) (([] : List Lv).map Lv.pv)) := Kept.mk (hrk.out.mono (Nat.le_refl _) fun j g1 g2 g3 => hk1 j (by simp [g3]))
          rcases hcase with ⟨hno, rfl⟩ | ⟨y, hy, rfl, hrow'⟩
          · have hnok : Kept ((Tm.mk kind n s [] args).putL bys = none) := Kept.mk (by
              simp only [Tm.putL, putLs_none bys args i2 hlt2 hno]
              cases insts bys [] <;> rfl)
            clear hno hk1 hkk hHi hrk hHb hHb2 ihk hn1
            repeat' (first | ((with_reducible first | refine cond_pos (by omega) ?_ | refine cond_neg (by omega) ?_ | refine guard_pos (by omega) ?_ | refine guard_neg (by omega) ?_ | refine cond_ifn ?_ ?_ | refine cond_waysn ?_ ?_ | refine guard_ifn ?_ ?_ | refine guard_waysn ?_ ?_ | refine cond_if ?_ ?_ | refine cond_ways ?_ ?_ | refine guard_if ?_ ?_ | refine guard_ways ?_ ?_) <;> intro _) | simp (maxSteps := 1000000) (disch := omega) only [go_sem, Nat.reduceAdd, Nat.reduceMul, Nat.reduceSub, Nat.reduceLeDiff, Nat.reduceEqDiff, Nat.reduceBEq, ↓reduceIte, reduceCtorEq, Int.reduceEq, Int.reduceLE, Int.reduceLT, Int.reduceAdd, Int.reduceSub, Int.reduceNeg, Int.reduceToNat, Int.reduceNe, Nat.reducePow, Nat.reduceShiftRight, Nat.reduceMod, at0, at1, at2, at3, at4, List.take_succ_cons, List.drop_succ_cons, List.take_zero, List.drop_zero, List.cons_append, List.nil_append, hz1, hz2, hz3, hz4, and_self, *])
            exact fin_mut (.sc (.bool false)) (.inr rfl) (by (simp (disch := omega) only [go_sem, Nat.reduceMul, Nat.reduceSub, Nat.reduceShiftRight, Nat.reduceMod, Nat.reduceEqDiff, Nat.reduceAdd, ↓reduceIte, Nat.reduceLeDiff, *]); all_goals rfl) (show putRaw bys kind n s [] args H nx id p q kp _ _ _ from ⟨Nat.le_trans (by omega : nx ≤ nx') (Nat.le_add_right _ _), hkk'.out, .inl ⟨hnok.out, rfl⟩⟩)
          · have hsn := putLs_snoc bys args[i2] (args.take i2) zs hzs.out
            rw [hy, Option.map_some] at hsn
            have hzs2 : Kept (putLs bys (args.take (i2 + 1)) = some (zs ++ [y])) := Kept.mk (by rw [List.take_succ_eq_append_getElem hlt2]; exact hsn)
            have hrowk : Kept (H' (m + 13) = some ⟨(zs ++ [y]).flatMap Tm.pv ++ zeros [.int .i64 0, .int .i64 0, .string ⟨#[]⟩, .slice none 0 0, .slice none 0 0] (args.length - (i2 + 1)), true⟩) := Kept.mk (by
              rw [hrow', show args.length - (i2 + 1) = r by omega, List.flatMap_append]
              simp)
            clear hy hsn hk1 hkk hHi hrk hHb hHb2 ihk hn1 hrow' hzs
            repeat' (first | ((with_reducible first | refine cond_pos (by omega) ?_ | refine cond_neg (by omega) ?_ | refine guard_pos (by omega) ?_ | refine guard_neg (by omega) ?_ | refine cond_ifn ?_ ?_ | refine cond_waysn ?_ ?_ | refine guard_ifn ?_ ?_ | refine guard_waysn ?_ ?_ | refine cond_if ?_ ?_ | refine cond_ways ?_ ?_ | refine guard_if ?_ ?_ | refine guard_ways ?_ ?_) <;> intro _) | simp (maxSteps := 1000000) (disch := omega) only [go_sem, Nat.reduceAdd, Nat.reduceMul, Nat.reduceSub, Nat.reduceLeDiff, Nat.reduceEqDiff, Nat.reduceBEq, ↓reduceIte, reduceCtorEq, Int.reduceEq, Int.reduceLE, Int.reduceLT, Int.reduceAdd, Int.reduceSub, Int.reduceNeg, Int.reduceToNat, Int.reduceNe, Nat.reducePow, Nat.reduceShiftRight, Nat.reduceMod, at0, at1, at2, at3, at4, List.take_succ_cons, List.drop_succ_cons, List.take_zero, List.drop_zero, List.cons_append, List.nil_append, hz1, hz2, hz3, hz4, and_self, *])
            exact Nx.mk (args.length - (i2 + 1)) (by first | assumption | omega | rfl | (simp (disch := omega) only [go_sem, Nat.reduceMul, Nat.reduceSub, Nat.reduceShiftRight, Nat.reduceMod, Nat.reduceEqDiff, Nat.reduceAdd, ↓reduceIte, Nat.reduceLeDiff, *] <;> omega)) ⟨i2 + 1, zs ++ [y], rfl, (by first | assumption | omega | rfl | (simp (disch := omega) only [go_sem, Nat.reduceMul, Nat.reduceSub, Nat.reduceShiftRight, Nat.reduceMod, Nat.reduceEqDiff, Nat.reduceAdd, ↓reduceIte, Nat.reduceLeDiff, *] <;> omega)), (by first | assumption | omega | rfl | (simp (disch := omega) only [go_sem, Nat.reduceMul, Nat.reduceSub, Nat.reduceShiftRight, Nat.reduceMod, Nat.reduceEqDiff, Nat.reduceAdd, ↓reduceIte, Nat.reduceLeDiff, *] <;> omega)), Nat.lt_of_lt_of_le (by omega : m + 13 < nx') (Nat.le_add_right _ _), hzs2, Kept.mk (by simp [hzl.out]), hkk', hHi', hrowk, hrk'⟩
        · obtain rfl : i2 = args.length := by omega
          have hzs' := hzs.out
          rw [List.take_length] at hzs'
          have hzk := Kept.mk hzs'
          have hHb' : Kept (H3 (m + 13) = some ⟨zs.flatMap Tm.pv, true⟩) := Kept.mk (by rw [hHb.out, Nat.sub_self]; simp [zeros])
          clear hzs' hzs hHb ihk
          repeat' (first | ((with_reducible first | refine cond_pos (by omega) ?_ | refine cond_neg (by omega) ?_ | refine guard_pos (by omega) ?_ | refine guard_neg (by omega) ?_ | refine cond_ifn ?_ ?_ | refine cond_waysn ?_ ?_ | refine guard_ifn ?_ ?_ | refine guard_waysn ?_ ?_ | refine cond_if ?_ ?_ | refine cond_ways ?_ ?_ | refine guard_if ?_ ?_ | refine guard_ways ?_ ?_) <;> intro _) | simp (maxSteps := 1000000) (disch := omega) only [go_sem, Nat.reduceAdd, Nat.reduceMul, Nat.reduceSub, Nat.reduceLeDiff, Nat.reduceEqDiff, Nat.reduceBEq, ↓reduceIte, reduceCtorEq, Int.reduceEq, Int.reduceLE, Int.reduceLT, Int.reduceAdd, Int.reduceSub, Int.reduceNeg, Int.reduceToNat, Int.reduceNe, Nat.reducePow, Nat.reduceShiftRight, Nat.reduceMod, at0, at1, at2, at3, at4, List.take_succ_cons, List.drop_succ_cons, List.take_zero, List.drop_zero, List.cons_append, List.nil_append, hz1, hz2, hz3, hz4, and_self, *])
          exact fin_mut (.sc (.bool true)) (.inr rfl) (by (simp (disch := omega) only [go_sem, Nat.reduceMul, Nat.reduceSub, Nat.reduceShiftRight, Nat.reduceMod, Nat.reduceEqDiff, Nat.reduceAdd, ↓reduceIte, Nat.reduceLeDiff, *]); all_goals rfl) (show putRaw bys kind n s [] args H nx id p q kp _ _ _ from ⟨Nat.le_trans (by omega : nx ≤ m3) (Nat.le_add_right _ _), hkk.out, .inr ⟨([] : List Lv), zs, (.sc (.slice none 0 0)), .osl (m + 13) 0 args.length 5, hysk.out, hzk.out, rfl, hHi, hrk.out.mono (Nat.le_trans (by omega : m ≤ m3) (Nat.le_add_right _ _)) (fun _ _ _ _ => rfl), .inr ⟨m + 13, by omega, Nat.lt_of_lt_of_le hm3 (Nat.le_add_right _ _), by rw [List.length_map, hzl.out], hHb'.out.trans (by rw [List.flatMap_def])⟩⟩⟩)
    · have hl00 : 0 < ls.length := by omega
      repeat' (first | ((with_reducible first | refine cond_pos (by omega) ?_ | refine cond_neg (by omega) ?_ | refine guard_pos (by omega) ?_ | refine guard_neg (by omega) ?_ | refine cond_ifn ?_ ?_ | refine cond_waysn ?_ ?_ | refine guard_ifn ?_ ?_ | refine guard_waysn ?_ ?_ | refine cond_if ?_ ?_ | refine cond_ways ?_ ?_ | refine guard_if ?_ ?_ | refine guard_ways ?_ ?_) <;> intro _) | simp (maxSteps := 1000000) (disch := omega) only [go_sem, Nat.reduceAdd, Nat.reduceMul, Nat.reduceSub, Nat.reduceLeDiff, Nat.reduceEqDiff, Nat.reduceBEq, ↓reduceIte, reduceCtorEq, Int.reduceEq, Int.reduceLE, Int.reduceLT, Int.reduceAdd, Int.reduceSub, Int.reduceNeg, Int.reduceToNat, Int.reduceNe, Nat.reducePow, Nat.reduceShiftRight, Nat.reduceMod, mc_term_putLevels, Tm.pv, at0, at1, at2, at3, at4, List.take_succ_cons, List.drop_succ_cons, List.take_zero, List.drop_zero, List.cons_append, List.nil_append, hz1, hz2, hz3, hz4, and_self, *])
      refine c_loopW 151115722948229019468736 (by kernel_rfl) (fun j f H2 m => ∃ (i : Nat) (ys : List Lv) (a : PV), j = ls.length - i ∧ i ≤ ls.length ∧ f 52 = .sc (.int .i64 i) ∧ nx ≤ m ∧ Kept (insts bys (ls.take i) = some ys) ∧ Kept (ys.length = i) ∧ Kept (∀ j, kp j = true → H2 j = H j) ∧
        H2 id = some ⟨p ++ (.sc (.int .i64 kind) :: .sc (.int .i64 n) :: .sc (.string s) :: a :: .sc (.slice none 0 0) :: q), true⟩ ∧ ∃ idr, nx ≤ idr ∧ idr < m ∧ a = .osl idr 0 ls.length 3 ∧ H2 idr = some ⟨halfG Lv.pv z3 ys (ls.length - i), true⟩) _ ⟨0, [], _, rfl, (by first | assumption | omega | rfl | (simp (disch := omega) only [go_sem, Nat.reduceMul, Nat.reduceSub, Nat.reduceShiftRight, Nat.reduceMod, Nat.reduceEqDiff, Nat.reduceAdd, ↓reduceIte, Nat.reduceLeDiff, *] <;> omega)), (by first | assumption | omega | rfl | (simp (disch := omega) only [go_sem, Nat.reduceMul, Nat.reduceSub, Nat.reduceShiftRight, Nat.reduceMod, Nat.reduceEqDiff, Nat.reduceAdd, ↓reduceIte, Nat.reduceLeDiff, *] <;> omega)), Nat.le_add_right _ _, Kept.mk rfl, Kept.mk rfl, Kept.mk (fun j hj => by have := hkp2.out j hj; simp [upd, this.1]; try omega), upd_same _ _ _, _, Nat.le_add_right _ _, Nat.add_lt_add_left (by omega) _, rfl, (upd_ne _ _ (show nx + 37 ≠ id by omega)).trans ((upd_same _ _ _).trans rfl)⟩ ?_
      clear hl0 hH
      rintro _ f H2 m ⟨i, ys, _, rfl, hi, e52, hm2, hys, hyl, hkk, hHi, idr, hr1, hr2, rfl, hr3⟩
      by_cases hlt : i < ls.length
      · have eg : ls[i]? = some ls[i] := List.getElem?_eq_getElem hlt
        have c1 := Inst_p ls[i] bys
        rw [← instV_eq] at c1
        simp only [lvs] at c1
        cases hv : ls[i].instV bys with
        | none =>
          have hnok : Kept ((Tm.mk kind n s ls args).putL bys = none) := Kept.mk (by simp only [Tm.putL, insts_none bys ls i hlt hv])
          rw [hv] at c1
          simp only [instPV] at c1
          clear ihk hv
          repeat' (first | ((with_reducible first | refine cond_pos (by omega) ?_ | refine cond_neg (by omega) ?_ | refine guard_pos (by omega) ?_ | refine guard_neg (by omega) ?_ | refine cond_ifn ?_ ?_ | refine cond_waysn ?_ ?_ | refine guard_ifn ?_ ?_ | refine guard_waysn ?_ ?_ | refine cond_if ?_ ?_ | refine cond_ways ?_ ?_ | refine guard_if ?_ ?_ | refine guard_ways ?_ ?_) <;> intro _) | (((with_reducible refine call_id ?_); (first | (refine call_pure (c1) ?_)))) | simp (maxSteps := 1000000) (disch := omega) only [go_sem, Nat.reduceAdd, Nat.reduceMul, Nat.reduceSub, Nat.reduceLeDiff, Nat.reduceEqDiff, Nat.reduceBEq, ↓reduceIte, reduceCtorEq, Int.reduceEq, Int.reduceLE, Int.reduceLT, Int.reduceAdd, Int.reduceSub, Int.reduceNeg, Int.reduceToNat, Int.reduceNe, Nat.reducePow, Nat.reduceShiftRight, Nat.reduceMod, at0, at1, at2, at3, at4, List.take_succ_cons, List.drop_succ_cons, List.take_zero, List.drop_zero, List.cons_append, List.nil_append, hz1, hz2, hz3, hz4, and_self, *])
          exact fin_mut (.sc (.bool false)) (.inr rfl) (by (simp (disch := omega) only [go_sem, Nat.reduceMul, Nat.reduceSub, Nat.reduceShiftRight, Nat.reduceMod, Nat.reduceEqDiff, Nat.reduceAdd, ↓reduceIte, Nat.reduceLeDiff, *]); all_goals rfl) (show putRaw bys kind n s ls args H nx id p q kp _ _ _ from ⟨Nat.le_trans hm2 (Nat.le_add_right _ _), (fun j hj => by have h1 := hkp2.out j hj; have h2 := hkk.out j hj; simp [upd, show j ≠ m + 15 by omega, h2]), .inl ⟨hnok.out, rfl⟩⟩)
        | some y =>
          rw [hv] at c1
          simp only [instPV] at c1
          have hsn := insts_snoc bys ls[i] (ls.take i) ys hys.out
          rw [hv, Option.map_some] at hsn
          have hys2 : Kept (insts bys (ls.take (i + 1)) = some (ys ++ [y])) := Kept.mk (by rw [List.take_succ_eq_append_getElem hlt]; exact hsn)
          have hhl := halfG_len (g := Lv.pv) pv_len (rfl : z3.length = 3) ys (ls.length - i)
          rw [hyl.out] at hhl
          have hhs := halfG_set' (g := Lv.pv) pv_len (rfl : z3.length = 3) ys i ls.length y hlt hyl.out
          have hle : i * 3 + 3 ≤ i * 3 + (ls.length - i) * 3 := by omega
          clear ihk hv hsn hys
          repeat' (first | ((with_reducible first | refine cond_pos (by omega) ?_ | refine cond_neg (by omega) ?_ | refine guard_pos (by omega) ?_ | refine guard_neg (by omega) ?_ | refine cond_ifn ?_ ?_ | refine cond_waysn ?_ ?_ | refine guard_ifn ?_ ?_ | refine guard_waysn ?_ ?_ | refine cond_if ?_ ?_ | refine cond_ways ?_ ?_ | refine guard_if ?_ ?_ | refine guard_ways ?_ ?_) <;> intro _) | (((with_reducible refine call_id ?_); (first | (refine call_pure (c1) ?_)))) | simp (maxSteps := 1000000) (disch := omega) only [go_sem, Nat.reduceAdd, Nat.reduceMul, Nat.reduceSub, Nat.reduceLeDiff, Nat.reduceEqDiff, Nat.reduceBEq, ↓reduceIte, reduceCtorEq, Int.reduceEq, Int.reduceLE, Int.reduceLT, Int.reduceAdd, Int.reduceSub, Int.reduceNeg, Int.reduceToNat, Int.reduceNe, Nat.reducePow, Nat.reduceShiftRight, Nat.reduceMod, at0, at1, at2, at3, at4, List.take_succ_cons, List.drop_succ_cons, List.take_zero, List.drop_zero, List.cons_append, List.nil_append, hz1, hz2, hz3, hz4, and_self, *])
          exact Nx.mk (ls.length - (i + 1)) (by first | assumption | omega | rfl | (simp (disch := omega) only [go_sem, Nat.reduceMul, Nat.reduceSub, Nat.reduceShiftRight, Nat.reduceMod, Nat.reduceEqDiff, Nat.reduceAdd, ↓reduceIte, Nat.reduceLeDiff, *] <;> omega)) ⟨i + 1, ys ++ [y], _, rfl, (by first | assumption | omega | rfl | (simp (disch := omega) only [go_sem, Nat.reduceMul, Nat.reduceSub, Nat.reduceShiftRight, Nat.reduceMod, Nat.reduceEqDiff, Nat.reduceAdd, ↓reduceIte, Nat.reduceLeDiff, *] <;> omega)), (by first | assumption | omega | rfl | (simp (disch := omega) only [go_sem, Nat.reduceMul, Nat.reduceSub, Nat.reduceShiftRight, Nat.reduceMod, Nat.reduceEqDiff, Nat.reduceAdd, ↓reduceIte, Nat.reduceLeDiff, *] <;> omega)), Nat.le_trans hm2 (Nat.le_add_right _ _), hys2, Kept.mk (by simp [hyl.out]), Kept.mk (fun j hj => by have h1 := hkp2.out j hj; have h2 := hkk.out j hj; simp [upd, show j ≠ m + 15 by omega, show j ≠ idr by omega, h2]), by (simp [upd, show id ≠ m + 15 by omega, show id ≠ idr by omega]; exact hHi), idr, hr1, Nat.lt_of_lt_of_le hr2 (Nat.le_add_right _ _), rfl, upd_same _ _ _⟩
      · obtain rfl : i = ls.length := by omega
        have hys' := hys.out
        rw [List.take_length] at hys'
        have hysk := Kept.mk hys'
        have hrow : RowP H2 nx m 3 (.osl idr 0 ls.length 3) (ys.map Lv.pv) := .inr ⟨idr, hr1, hr2, by rw [List.length_map, hyl.out], by rw [hr3, Nat.sub_self, halfG, List.flatMap_def]; simp [zeros]⟩
        clear hys hys' hr3
        by_cases ha0 : args.length = 0
        · obtain rfl : args = [] := List.eq_nil_of_length_eq_zero ha0
          have hrk := Kept.mk hrow
          clear hrow ihk
          repeat' (first | ((with_reducible first | refine cond_pos (by omega) ?_ | refine cond_neg (by omega) ?_ | refine guard_pos (by omega) ?_ | refine guard_neg (by omega) ?_ | refine cond_ifn ?_ ?_ | refine cond_waysn ?_ ?_ | refine guard_ifn ?_ ?_ | refine guard_waysn ?_ ?_ | refine cond_if ?_ ?_ | refine cond_ways ?_ ?_ | refine guard_if ?_ ?_ | refine guard_ways ?_ ?_) <;> intro _) | simp (maxSteps := 1000000) (disch := omega) only [go_sem, Nat.reduceAdd, Nat.reduceMul, Nat.reduceSub, Nat.reduceLeDiff, Nat.reduceEqDiff, Nat.reduceBEq, ↓reduceIte, reduceCtorEq, Int.reduceEq, Int.reduceLE, Int.reduceLT, Int.reduceAdd, Int.reduceSub, Int.reduceNeg, Int.reduceToNat, Int.reduceNe, Nat.reducePow, Nat.reduceShiftRight, Nat.reduceMod, at0, at1, at2, at3, at4, List.take_succ_cons, List.drop_succ_cons, List.take_zero, List.drop_zero, List.cons_append, List.nil_append, hz1, hz2, hz3, hz4, and_self, *])
          refine c_rounds 1 ?_
          repeat' (first | ((with_reducible first | refine cond_pos (by omega) ?_ | refine cond_neg (by omega) ?_ | refine guard_pos (by omega) ?_ | refine guard_neg (by omega) ?_ | refine cond_ifn ?_ ?_ | refine cond_waysn ?_ ?_ | refine guard_ifn ?_ ?_ | refine guard_waysn ?_ ?_ | refine cond_if ?_ ?_ | refine cond_ways ?_ ?_ | refine guard_if ?_ ?_ | refine guard_ways ?_ ?_) <;> intro _) | simp (maxSteps := 1000000) (disch := omega) only [go_sem, Nat.reduceAdd, Nat.reduceMul, Nat.reduceSub, Nat.reduceLeDiff, Nat.reduceEqDiff, Nat.reduceBEq, ↓reduceIte, reduceCtorEq, Int.reduceEq, Int.reduceLE, Int.reduceLT, Int.reduceAdd, Int.reduceSub, Int.reduceNeg, Int.reduceToNat, Int.reduceNe, Nat.reducePow, Nat.reduceShiftRight, Nat.reduceMod, rounds_next, *])
          exact fin_mut (.sc (.bool true)) (.inr rfl) (by (simp (disch := omega) only [go_sem, Nat.reduceMul, Nat.reduceSub, Nat.reduceShiftRight, Nat.reduceMod, Nat.reduceEqDiff, Nat.reduceAdd, ↓reduceIte, Nat.reduceLeDiff, *]); all_goals rfl) (show putRaw bys kind n s ls [] H nx id p q kp _ _ _ from ⟨Nat.le_trans hm2 (Nat.le_add_right _ _), hkk.out, .inr ⟨ys, [], (.osl idr 0 ls.length 3), .sc (.slice none 0 0), hysk.out, rfl, rfl, hHi, hrk.out.mono (Nat.le_add_right _ _) (fun _ _ _ _ => rfl), .inl ⟨rfl, rfl⟩⟩⟩)
        · have ha00 : 0 < args.length := by omega
          have hrk := Kept.mk hrow
          clear hrow
          repeat' (first | ((with_reducible first | refine cond_pos (by omega) ?_ | refine cond_neg (by omega) ?_ | refine guard_pos (by omega) ?_ | refine guard_neg (by omega) ?_ | refine cond_ifn ?_ ?_ | refine cond_waysn ?_ ?_ | refine guard_ifn ?_ ?_ | refine guard_waysn ?_ ?_ | refine cond_if ?_ ?_ | refine cond_ways ?_ ?_ | refine guard_if ?_ ?_ | refine guard_ways ?_ ?_) <;> intro _) | simp (maxSteps := 1000000) (disch := omega) only [go_sem, Nat.reduceAdd, Nat.reduceMul, Nat.reduceSub, Nat.reduceLeDiff, Nat.reduceEqDiff, Nat.reduceBEq, ↓reduceIte, reduceCtorEq, Int.reduceEq, Int.reduceLE, Int.reduceLT, Int.reduceAdd, Int.reduceSub, Int.reduceNeg, Int.reduceToNat, Int.reduceNe, Nat.reducePow, Nat.reduceShiftRight, Nat.reduceMod, at0, at1, at2, at3, at4, List.take_succ_cons, List.drop_succ_cons, List.take_zero, List.drop_zero, List.cons_append, List.nil_append, hz1, hz2, hz3, hz4, and_self, *])
          refine c_loopW 83076591280232213527812754179621952 (by kernel_rfl) (fun j f H3 m3 => ∃ (i2 : Nat) (zs : List Tm), j = args.length - i2 ∧ i2 ≤ args.length ∧ f 97 = .sc (.int .i64 i2) ∧ m + 13 < m3 ∧ Kept (putLs bys (args.take i2) = some zs) ∧ Kept (zs.length = i2) ∧ Kept (∀ j, kp j = true → H3 j = H j) ∧
            H3 id = some ⟨p ++ (.sc (.int .i64 kind) :: .sc (.int .i64 n) :: .sc (.string s) :: (.osl idr 0 ls.length 3) :: .osl (m + 13) 0 args.length 5 :: q), true⟩ ∧ Kept (H3 (m + 13) = some ⟨zs.flatMap Tm.pv ++ zeros [.int .i64 0, .int .i64 0, .string ⟨#[]⟩, .slice none 0 0, .slice none 0 0] (args.length - i2), true⟩) ∧ Kept (RowP H3 nx m 3 (.osl idr 0 ls.length 3) (ys.map Lv.pv))) _
            ⟨0, [], rfl, (by first | assumption | omega | rfl | (simp (disch := omega) only [go_sem, Nat.reduceMul, Nat.reduceSub, Nat.reduceShiftRight, Nat.reduceMod, Nat.reduceEqDiff, Nat.reduceAdd, ↓reduceIte, Nat.reduceLeDiff, *] <;> omega)), (by first | assumption | omega | rfl | (simp (disch := omega) only [go_sem, Nat.reduceMul, Nat.reduceSub, Nat.reduceShiftRight, Nat.reduceMod, Nat.reduceEqDiff, Nat.reduceAdd, ↓reduceIte, Nat.reduceLeDiff, *] <;> omega)), Nat.add_lt_add_left (by omega) _, Kept.mk rfl, Kept.mk rfl, Kept.mk (fun j hj => by have h1 := hkp2.out j hj; exact ((upd_ne _ _ h1.1).trans (upd_ne _ _ (show j ≠ m + 13 by omega))).trans (hkk.out j hj)), upd_same _ _ _, Kept.mk ((upd_ne _ _ (show m + 13 ≠ id by omega)).trans ((upd_same _ _ _).trans rfl)), Kept.mk (hrk.out.mono (Nat.le_refl _) fun j g1 g2 _ => (upd_ne _ _ (show j ≠ id by omega)).trans (upd_ne _ _ (show j ≠ m + 13 by omega)))⟩ ?_
          clear hkk hrk hHi
          rintro _ f3 H3 m3 ⟨i2, zs, rfl, hi2, e97, hm3, hzs, hzl, hkk, hHi, hHb, hrk⟩
          by_cases hlt2 : i2 < args.length
          · have eg : args[i2]? = some args[i2] := List.getElem?_eq_getElem hlt2
            have hn := nodesT_mem args i2 hlt2
            have hs := sizeL_mem args i2 hlt2
            repeat' (first | ((with_reducible first | refine cond_pos (by omega) ?_ | refine cond_neg (by omega) ?_ | refine guard_pos (by omega) ?_ | refine guard_neg (by omega) ?_ | refine cond_ifn ?_ ?_ | refine cond_waysn ?_ ?_ | refine guard_ifn ?_ ?_ | refine guard_waysn ?_ ?_ | refine cond_if ?_ ?_ | refine cond_ways ?_ ?_ | refine guard_if ?_ ?_ | refine guard_ways ?_ ?_) <;> intro _) | simp (maxSteps := 1000000) (disch := omega) only [go_sem, Nat.reduceAdd, Nat.reduceMul, Nat.reduceSub, Nat.reduceLeDiff, Nat.reduceEqDiff, Nat.reduceBEq, ↓reduceIte, reduceCtorEq, Int.reduceEq, Int.reduceLE, Int.reduceLT, Int.reduceAdd, Int.reduceSub, Int.reduceNeg, Int.reduceToNat, Int.reduceNe, Nat.reducePow, Nat.reduceShiftRight, Nat.reduceMod, at0, at1, at2, at3, at4, List.take_succ_cons, List.drop_succ_cons, List.take_zero, List.drop_zero, List.cons_append, List.nil_append, hz1, hz2, hz3, hz4, and_self, *])
            obtain ⟨r, hr⟩ : ∃ r, args.length - i2 = r + 1 := ⟨args.length - i2 - 1, by omega⟩
            have hHb2 := hHb.out
            rw [hr] at hHb2
            refine call_mut (ihk.out args[i2] (by omega) (by omega) _ _ (m + 13) (i2 * 5) (zs.flatMap Tm.pv) (zeros [.int .i64 0, .int .i64 0, .string ⟨#[]⟩, .slice none 0 0, .slice none 0 0] r) (fun j => kp j || decide (j = id) || leads (.osl idr 0 ls.length 3) j) hHb2 (Nat.lt_of_lt_of_le hm3 (Nat.le_add_right _ _)) (by rw [flat_lenG _ 5 tm_len, hzl.out]) (tms_immF zs) (zeros_imm r) ?kp) ?_
            case kp =>
              intro j hj
              simp only [Bool.or_eq_true, decide_eq_true_eq] at hj
              rcases hj with (hj | rfl) | hj
              · have h1 := hkpk.out j hj
                refine ⟨by omega, Nat.lt_of_lt_of_le (by omega : j < m3) (Nat.le_add_right _ _), fun o ho => ?_⟩
                have h2 := h1.2.2 o ((hkk.out j hj).symm.trans ho)
                exact ⟨h2.1, h2.2.mono (Nat.le_trans (by omega : nx ≤ m3) (Nat.le_add_right _ _))⟩
              · refine ⟨by omega, Nat.lt_of_lt_of_le (by omega : j < m3) (Nat.le_add_right _ _), fun o ho => ?_⟩
                have ho2 := hHi.symm.trans ho
                cases ho2
                refine ⟨isIt_len (by simp; omega), ?_⟩
                exact (FixL.imm hpik.out).append (.cons rfl (.cons rfl (.cons rfl (hrk.out.fix (Nat.le_trans (by omega : m ≤ m3) (Nat.le_add_right _ _)) (.osl (Nat.lt_of_lt_of_le hm3 (Nat.le_add_right _ _)) (.imm hqik.out))))))
              · have h1 := hrk.out.lead (flat3_ne1 _) (lvs_immF _) hj (m3 + 15)
                refine ⟨by omega, Nat.lt_of_lt_of_le (by omega : j < m3) (Nat.le_add_right _ _), fun o ho => (hrk.out.lead (flat3_ne1 _) (lvs_immF _) hj _).2.2 o ho⟩
            rintro H' nx' r' ⟨hn1, hk1, hcase⟩ -
            have hn2 : m3 ≤ nx' := Nat.le_trans (Nat.le_add_right _ _) hn1
            have hkk' : Kept (∀ j, kp j = true → H' j = H j) := Kept.mk fun j hj => (hk1 j (by simp [hj])).trans (hkk.out j hj)
            have hHi' : H' id = _ := (hk1 id (by simp)).trans hHi
            have hrk' : Kept (RowP H' nx m 3 (.osl idr 0 ls.length 3) (ys.map Lv.pv)) := Kept.mk (hrk.out.mono (Nat.le_refl _) fun j g1 g2 g3 => hk1 j (by simp [g3]))
            rcases hcase with ⟨hno, rfl⟩ | ⟨y, hy, rfl, hrow'⟩
            · have hnok : Kept ((Tm.mk kind n s ls args).putL bys = none) := Kept.mk (by
                simp only [Tm.putL, putLs_none bys args i2 hlt2 hno]
                cases insts bys ls <;> rfl)
              clear hno hk1 hkk hHi hrk hHb hHb2 ihk hn1
              repeat' (first | ((with_reducible first | refine cond_pos (by omega) ?_ | refine cond_neg (by omega) ?_ | refine guard_pos (by omega) ?_ | refine guard_neg (by omega) ?_ | refine cond_ifn ?_ ?_ | refine cond_waysn ?_ ?_ | refine guard_ifn ?_ ?_ | refine guard_waysn ?_ ?_ | refine cond_if ?_ ?_ | refine cond_ways ?_ ?_ | refine guard_if ?_ ?_ | refine guard_ways ?_ ?_) <;> intro _) | simp (maxSteps := 1000000) (disch := omega) only [go_sem, Nat.reduceAdd, Nat.reduceMul, Nat.reduceSub, Nat.reduceLeDiff, Nat.reduceEqDiff, Nat.reduceBEq, ↓reduceIte, reduceCtorEq, Int.reduceEq, Int.reduceLE, Int.reduceLT, Int.reduceAdd, Int.reduceSub, Int.reduceNeg, Int.reduceToNat, Int.reduceNe, Nat.reducePow, Nat.reduceShiftRight, Nat.reduceMod, at0, at1, at2, at3, at4, List.take_succ_cons, List.drop_succ_cons, List.take_zero, List.drop_zero, List.cons_append, List.nil_append, hz1, hz2, hz3, hz4, and_self, *])
              exact fin_mut (.sc (.bool false)) (.inr rfl) (by (simp (disch := omega) only [go_sem, Nat.reduceMul, Nat.reduceSub, Nat.reduceShiftRight, Nat.reduceMod, Nat.reduceEqDiff, Nat.reduceAdd, ↓reduceIte, Nat.reduceLeDiff, *]); all_goals rfl) (show putRaw bys kind n s ls args H nx id p q kp _ _ _ from ⟨Nat.le_trans (by omega : nx ≤ nx') (Nat.le_add_right _ _), hkk'.out, .inl ⟨hnok.out, rfl⟩⟩)
            · have hsn := putLs_snoc bys args[i2] (args.take i2) zs hzs.out
              rw [hy, Option.map_some] at hsn
              have hzs2 : Kept (putLs bys (args.take (i2 + 1)) = some (zs ++ [y])) := Kept.mk (by rw [List.take_succ_eq_append_getElem hlt2]; exact hsn)
              have hrowk : Kept (H' (m + 13) = some ⟨(zs ++ [y]).flatMap Tm.pv ++ zeros [.int .i64 0, .int .i64 0, .string ⟨#[]⟩, .slice none 0 0, .slice none 0 0] (args.length - (i2 + 1)), true⟩) := Kept.mk (by
                rw [hrow', show args.length - (i2 + 1) = r by omega, List.flatMap_append]
                simp)
              clear hy hsn hk1 hkk hHi hrk hHb hHb2 ihk hn1 hrow' hzs
              repeat' (first | ((with_reducible first | refine cond_pos (by omega) ?_ | refine cond_neg (by omega) ?_ | refine guard_pos (by omega) ?_ | refine guard_neg (by omega) ?_ | refine cond_ifn ?_ ?_ | refine cond_waysn ?_ ?_ | refine guard_ifn ?_ ?_ | refine guard_waysn ?_ ?_ | refine cond_if ?_ ?_ | refine cond_ways ?_ ?_ | refine guard_if ?_ ?_ | refine guard_ways ?_ ?_) <;> intro _) | simp (maxSteps := 1000000) (disch := omega) only [go_sem, Nat.reduceAdd, Nat.reduceMul, Nat.reduceSub, Nat.reduceLeDiff, Nat.reduceEqDiff, Nat.reduceBEq, ↓reduceIte, reduceCtorEq, Int.reduceEq, Int.reduceLE, Int.reduceLT, Int.reduceAdd, Int.reduceSub, Int.reduceNeg, Int.reduceToNat, Int.reduceNe, Nat.reducePow, Nat.reduceShiftRight, Nat.reduceMod, at0, at1, at2, at3, at4, List.take_succ_cons, List.drop_succ_cons, List.take_zero, List.drop_zero, List.cons_append, List.nil_append, hz1, hz2, hz3, hz4, and_self, *])
              exact Nx.mk (args.length - (i2 + 1)) (by first | assumption | omega | rfl | (simp (disch := omega) only [go_sem, Nat.reduceMul, Nat.reduceSub, Nat.reduceShiftRight, Nat.reduceMod, Nat.reduceEqDiff, Nat.reduceAdd, ↓reduceIte, Nat.reduceLeDiff, *] <;> omega)) ⟨i2 + 1, zs ++ [y], rfl, (by first | assumption | omega | rfl | (simp (disch := omega) only [go_sem, Nat.reduceMul, Nat.reduceSub, Nat.reduceShiftRight, Nat.reduceMod, Nat.reduceEqDiff, Nat.reduceAdd, ↓reduceIte, Nat.reduceLeDiff, *] <;> omega)), (by first | assumption | omega | rfl | (simp (disch := omega) only [go_sem, Nat.reduceMul, Nat.reduceSub, Nat.reduceShiftRight, Nat.reduceMod, Nat.reduceEqDiff, Nat.reduceAdd, ↓reduceIte, Nat.reduceLeDiff, *] <;> omega)), Nat.lt_of_lt_of_le (by omega : m + 13 < nx') (Nat.le_add_right _ _), hzs2, Kept.mk (by simp [hzl.out]), hkk', hHi', hrowk, hrk'⟩
          · obtain rfl : i2 = args.length := by omega
            have hzs' := hzs.out
            rw [List.take_length] at hzs'
            have hzk := Kept.mk hzs'
            have hHb' : Kept (H3 (m + 13) = some ⟨zs.flatMap Tm.pv, true⟩) := Kept.mk (by rw [hHb.out, Nat.sub_self]; simp [zeros])
            clear hzs' hzs hHb ihk
            repeat' (first | ((with_reducible first | refine cond_pos (by omega) ?_ | refine cond_neg (by omega) ?_ | refine guard_pos (by omega) ?_ | refine guard_neg (by omega) ?_ | refine cond_ifn ?_ ?_ | refine cond_waysn ?_ ?_ | refine guard_ifn ?_ ?_ | refine guard_waysn ?_ ?_ | refine cond_if ?_ ?_ | refine cond_ways ?_ ?_ | refine guard_if ?_ ?_ | refine guard_ways ?_ ?_) <;> intro _) | simp (maxSteps := 1000000) (disch := omega) only [go_sem, Nat.reduceAdd, Nat.reduceMul, Nat.reduceSub, Nat.reduceLeDiff, Nat.reduceEqDiff, Nat.reduceBEq, ↓reduceIte, reduceCtorEq, Int.reduceEq, Int.reduceLE, Int.reduceLT, Int.reduceAdd, Int.reduceSub, Int.reduceNeg, Int.reduceToNat, Int.reduceNe, Nat.reducePow, Nat.reduceShiftRight, Nat.reduceMod, at0, at1, at2, at3, at4, List.take_succ_cons, List.drop_succ_cons, List.take_zero, List.drop_zero, List.cons_append, List.nil_append, hz1, hz2, hz3, hz4, and_self, *])
            exact fin_mut (.sc (.bool true)) (.inr rfl) (by (simp (disch := omega) only [go_sem, Nat.reduceMul, Nat.reduceSub, Nat.reduceShiftRight, Nat.reduceMod, Nat.reduceEqDiff, Nat.reduceAdd, ↓reduceIte, Nat.reduceLeDiff, *]); all_goals rfl) (show putRaw bys kind n s ls args H nx id p q kp _ _ _ from ⟨Nat.le_trans (by omega : nx ≤ m3) (Nat.le_add_right _ _), hkk.out, .inr ⟨ys, zs, (.osl idr 0 ls.length 3), .osl (m + 13) 0 args.length 5, hysk.out, hzk.out, rfl, hHi, hrk.out.mono (Nat.le_trans (by omega : m ≤ m3) (Nat.le_add_right _ _)) (fun _ _ _ _ => rfl), .inr ⟨m + 13, by omega, Nat.lt_of_lt_of_le hm3 (Nat.le_add_right _ _), by rw [List.length_map, hzl.out], hHb'.out.trans (by rw [List.flatMap_def])⟩⟩⟩)
end
section
set_option maxRecDepth 20000
attribute [local go_sem] pv_len pv_take Nat.add_assoc tm_len tm_take pv_one tm_one id_ne id_ne' id_ne2 List.append_assoc
theorem instV_nodes {l y : Lv} {bys : List Lv} (h : l.instV bys = some y) : y.nodes ≤ 64 := by
  rw [instV_eq] at h
  unfold Lv.instR at h
  split at h
  · cases h; rename_i h; exact h.2.2
  · cases h
theorem insts_nodes (bys : List Lv) : ∀ (xs ys : List Lv), insts bys xs = some ys → nodesL ys ≤ 64 * nodesL xs
  | [], ys, h => by simp only [insts, Option.some.injEq] at h; subst h; simp [nodesL]
  | x :: r, ys, h => by
    simp only [insts] at h
    split at h
    · rename_i y zs h1 h2
      cases h
      have := insts_nodes bys r zs h2
      have := instV_nodes h1
      have := nodes_pos x
      simp only [nodesL]
      omega
    · cases h
mutual
theorem putL_nodes (bys : List Lv) : ∀ (t u : Tm), t.putL bys = some u → u.nodes ≤ 64 * t.nodes
  | .mk k n s ls args, u, h => by
    simp only [Tm.putL] at h
    split at h
    · rename_i ls' args' h1 h2
      cases h
      have := insts_nodes bys ls ls' h1
      have := putLs_nodes bys args args' h2
      simp only [Tm.nodes]
      omega
    · cases h
theorem putLs_nodes (bys : List Lv) : ∀ (ts us : List Tm), putLs bys ts = some us → nodesT us ≤ 64 * nodesT ts
  | [], us, h => by simp only [putLs, Option.some.injEq] at h; subst h; simp [nodesT]
  | t :: r, us, h => by
    simp only [putLs] at h
    split at h
    · rename_i y ys h1 h2
      cases h
      have := putL_nodes bys t y h1
      have := putLs_nodes bys r ys h2
      simp only [nodesT]
      omega
    · cases h
end
set_option maxHeartbeats 4000000 in
theorem term_Levels_p (t : Tm) (bys : List Lv) (hm : t.nodes ≤ 2 ^ 40) : PPure Tryz.prog F.term_Levels [.agg t.pv, .sl 3 (bys.map Lv.pv)] (optT (levelsR t bys)) := by
  refine pure_by is_term_Levels (by simp) (optT_imm _) fun hb nx => ?_
  have hb0 : bys.length ≤ 9223372036854775807 := by simp [bndL, PV.bnd] at hb; exact hb.2.1
  have c1 := tRight_p t hm bys.length 1125899906842624
  clear hb
  by_cases hr : t.right bys.length 1125899906842624 = true
  · have hn := (right_formed hr).2.2.2.2
    rw [hr] at c1
    have hrk := Kept.mk hr
    clear hr
    repeat' (first | ((with_reducible first | refine cond_pos (by omega) ?_ | refine cond_neg (by omega) ?_ | refine guard_pos (by omega) ?_ | refine guard_neg (by omega) ?_ | refine cond_ifn ?_ ?_ | refine cond_waysn ?_ ?_ | refine guard_ifn ?_ ?_ | refine guard_waysn ?_ ?_ | refine cond_if ?_ ?_ | refine cond_ways ?_ ?_ | refine guard_if ?_ ?_ | refine guard_ways ?_ ?_) <;> intro _) | (((with_reducible refine call_id ?_); (first | (refine call_pure (c1) ?_)))) | simp (maxSteps := 1000000) (disch := omega) only [go_sem, Nat.reduceAdd, Nat.reduceMul, Nat.reduceSub, Nat.reduceLeDiff, Nat.reduceEqDiff, Nat.reduceBEq, ↓reduceIte, reduceCtorEq, Int.reduceEq, Int.reduceLE, Int.reduceLT, Int.reduceAdd, Int.reduceSub, Int.reduceNeg, Int.reduceToNat, Int.reduceNe, Nat.reducePow, Nat.reduceShiftRight, Nat.reduceMod, mc_term_Levels, *])
    refine call_mut (putLevels_p bys t.size t (Nat.le_refl _) hm _ _ (nx + 8) 0 [] [] (fun j => decide (j = nx + 1)) (upd_same _ _ _) (Nat.add_lt_add_left (by decide) _) rfl rfl rfl ?kp) ?_
    case kp =>
      intro j hj
      obtain rfl : j = nx + 1 := by simpa using hj
      refine ⟨by omega, Nat.add_lt_add_left (by decide) _, fun o ho => ?_⟩
      have ho' := (upd_ne _ _ (show nx + 1 ≠ nx + 8 by omega)).symm.trans ho
      have ho2 := (upd_same _ _ _).symm.trans ho'
      cases ho2
      exact ⟨rfl, .imm rfl⟩
    rintro H' nx' r' ⟨hn1, hk1, hcase⟩ -
    have hH1 : H' (nx + 1) = some ⟨zeroT, true⟩ := (hk1 (nx + 1) (by simp)).trans ((upd_ne _ _ (show nx + 1 ≠ nx + 8 by omega)).trans (upd_same _ _ _))
    unfold zeroT at hH1
    clear hk1 hn1
    rcases hcase with ⟨hno, rfl⟩ | ⟨u, hu, rfl, hrow⟩
    · have e : levelsR t bys = none := by simp [levelsR, hrk.out, hno]
      rw [e]
      clear e hno c1
      repeat' (first | ((with_reducible first | refine cond_pos (by omega) ?_ | refine cond_neg (by omega) ?_ | refine guard_pos (by omega) ?_ | refine guard_neg (by omega) ?_ | refine cond_ifn ?_ ?_ | refine cond_waysn ?_ ?_ | refine guard_ifn ?_ ?_ | refine guard_waysn ?_ ?_ | refine cond_if ?_ ?_ | refine cond_ways ?_ ?_ | refine guard_if ?_ ?_ | refine guard_ways ?_ ?_) <;> intro _) | simp (maxSteps := 1000000) (disch := omega) only [go_sem, Nat.reduceAdd, Nat.reduceMul, Nat.reduceSub, Nat.reduceLeDiff, Nat.reduceEqDiff, Nat.reduceBEq, ↓reduceIte, reduceCtorEq, Int.reduceEq, Int.reduceLE, Int.reduceLT, Int.reduceAdd, Int.reduceSub, Int.reduceNeg, Int.reduceToNat, Int.reduceNe, Nat.reducePow, Nat.reduceShiftRight, Nat.reduceMod, *])
      refine fin_ret (r0 := .tup [.agg zeroT, .sc (.bool false)]) 2 (by (simp (disch := omega) only [go_sem, Nat.reduceMul, Nat.reduceSub, Nat.reduceShiftRight, Nat.reduceMod, Nat.reduceEqDiff, Nat.reduceAdd, ↓reduceIte, Nat.reduceLeDiff, *]); all_goals rfl) ?_
      exact .of_eq (by simp [frz, zeroT, frz_sc, optT])
    · have hun := putL_nodes bys t u hu
      have c3 := tNodes_p u (by omega)
      rw [List.nil_append, List.append_nil] at hrow
      by_cases hu2 : u.nodes ≤ 2000
      · have e : levelsR t bys = some u := by simp [levelsR, hrk.out, hu, hu2]
        rw [e, show min u.nodes 2001 = u.nodes by omega] at *
        clear e hu hun c1
        repeat' (first | ((with_reducible first | refine cond_pos (by omega) ?_ | refine cond_neg (by omega) ?_ | refine guard_pos (by omega) ?_ | refine guard_neg (by omega) ?_ | refine cond_ifn ?_ ?_ | refine cond_waysn ?_ ?_ | refine guard_ifn ?_ ?_ | refine guard_waysn ?_ ?_ | refine cond_if ?_ ?_ | refine cond_ways ?_ ?_ | refine guard_if ?_ ?_ | refine guard_ways ?_ ?_) <;> intro _) | (((with_reducible refine call_id ?_); (first | (refine call_pure (c3) ?_)))) | simp (maxSteps := 1000000) (disch := omega) only [go_sem, Nat.reduceAdd, Nat.reduceMul, Nat.reduceSub, Nat.reduceLeDiff, Nat.reduceEqDiff, Nat.reduceBEq, ↓reduceIte, reduceCtorEq, Int.reduceEq, Int.reduceLE, Int.reduceLT, Int.reduceAdd, Int.reduceSub, Int.reduceNeg, Int.reduceToNat, Int.reduceNe, Nat.reducePow, Nat.reduceShiftRight, Nat.reduceMod, *])
        refine fin_ret (r0 := .tup [.agg u.pv, .sc (.bool true)]) 1 (by (simp (disch := omega) only [go_sem, Nat.reduceMul, Nat.reduceSub, Nat.reduceShiftRight, Nat.reduceMod, Nat.reduceEqDiff, Nat.reduceAdd, ↓reduceIte, Nat.reduceLeDiff, *]); all_goals rfl) ?_
        exact .of_eq (by simp [frz, optT])
      · have e : levelsR t bys = none := by simp [levelsR, hrk.out, hu, hu2]
        rw [e]
        rw [show min u.nodes 2001 = 2001 by omega] at c3
        clear e hu hun c1
        repeat' (first | ((with_reducible first | refine cond_pos (by omega) ?_ | refine cond_neg (by omega) ?_ | refine guard_pos (by omega) ?_ | refine guard_neg (by omega) ?_ | refine cond_ifn ?_ ?_ | refine cond_waysn ?_ ?_ | refine guard_ifn ?_ ?_ | refine guard_waysn ?_ ?_ | refine cond_if ?_ ?_ | refine cond_ways ?_ ?_ | refine guard_if ?_ ?_ | refine guard_ways ?_ ?_) <;> intro _) | (((with_reducible refine call_id ?_); (first | (refine call_pure (c3) ?_)))) | simp (maxSteps := 1000000) (disch := omega) only [go_sem, Nat.reduceAdd, Nat.reduceMul, Nat.reduceSub, Nat.reduceLeDiff, Nat.reduceEqDiff, Nat.reduceBEq, ↓reduceIte, reduceCtorEq, Int.reduceEq, Int.reduceLE, Int.reduceLT, Int.reduceAdd, Int.reduceSub, Int.reduceNeg, Int.reduceToNat, Int.reduceNe, Nat.reducePow, Nat.reduceShiftRight, Nat.reduceMod, *])
        refine fin_ret (r0 := .tup [.agg zeroT, .sc (.bool false)]) 2 (by (simp (disch := omega) only [go_sem, Nat.reduceMul, Nat.reduceSub, Nat.reduceShiftRight, Nat.reduceMod, Nat.reduceEqDiff, Nat.reduceAdd, ↓reduceIte, Nat.reduceLeDiff, *]); all_goals rfl) ?_
        exact .of_eq (by simp [frz, zeroT, frz_sc, optT])
  · have e : levelsR t bys = none := by simp [levelsR, hr]
    rw [e]
    rw [Bool.not_eq_true] at hr
    rw [hr] at c1
    clear hr e
    repeat' (first | ((with_reducible first | refine cond_pos (by omega) ?_ | refine cond_neg (by omega) ?_ | refine guard_pos (by omega) ?_ | refine guard_neg (by omega) ?_ | refine cond_ifn ?_ ?_ | refine cond_waysn ?_ ?_ | refine guard_ifn ?_ ?_ | refine guard_waysn ?_ ?_ | refine cond_if ?_ ?_ | refine cond_ways ?_ ?_ | refine guard_if ?_ ?_ | refine guard_ways ?_ ?_) <;> intro _) | (((with_reducible refine call_id ?_); (first | (refine call_pure (c1) ?_)))) | simp (maxSteps := 1000000) (disch := omega) only [go_sem, Nat.reduceAdd, Nat.reduceMul, Nat.reduceSub, Nat.reduceLeDiff, Nat.reduceEqDiff, Nat.reduceBEq, ↓reduceIte, reduceCtorEq, Int.reduceEq, Int.reduceLE, Int.reduceLT, Int.reduceAdd, Int.reduceSub, Int.reduceNeg, Int.reduceToNat, Int.reduceNe, Nat.reducePow, Nat.reduceShiftRight, Nat.reduceMod, mc_term_Levels, *])
    refine fin_ret (r0 := .tup [.agg zeroT, .sc (.bool false)]) 2 (by (simp (disch := omega) only [go_sem, Nat.reduceMul, Nat.reduceSub, Nat.reduceShiftRight, Nat.reduceMod, Nat.reduceEqDiff, Nat.reduceAdd, ↓reduceIte, Nat.reduceLeDiff, *]); all_goals rfl) ?_
    exact .of_eq (by simp [frz, zeroT, frz_sc, optT])
end
section
set_option maxRecDepth 20000
attribute [local go_sem] pv_len pv_take Nat.add_assoc tm_len tm_take pv_one tm_one tpvB_len tpvB_take tpvB_one pvB_len pvB_take pvB_one id_ne id_ne' id_ne2 List.append_assoc tm_take_app tm_drop_app tm_take10 tm_drop10 tm_drop15 tm_drop
mutual
theorem lpv_false : ∀ l : Lv, l.pvB false = l.pv
  | .mk k n args => by simp only [Lv.pvB, Lv.pv, slB, lpvs_false args]; rfl
theorem lpvs_false : ∀ ls : List Lv, ls.map (Lv.pvB false) = ls.map Lv.pv
  | [] => rfl
  | x :: r => by rw [List.map_cons, List.map_cons, lpv_false x, lpvs_false r]
end
mutual
theorem tpv_false : ∀ t : Tm, t.pvB false = t.pv
  | .mk k n s ls args => by simp only [Tm.pvB, Tm.pv, slB, lpvs_false ls, tpvs_false args]; rfl
theorem tpvs_false : ∀ ts : List Tm, ts.map (Tm.pvB false) = ts.map Tm.pv
  | [] => rfl
  | x :: r => by rw [List.map_cons, List.map_cons, tpv_false x, tpvs_false r]
end
theorem tSame_pf (a b : Tm) : PPure Tryz.prog F.term_Same [.agg (a.pvB true), .agg b.pv] (.sc (.bool (a.same b))) := by
  have := tSame_p a b true false rfl
  rwa [tpv_false] at this
def uL : Lv := .mk 2 0 []
def zL : Lv := .mk 1 0 []
def bA : ByteArray := ⟨#[97]⟩
def bB : ByteArray := ⟨#[98]⟩
def V0 : Tm := .mk 1 0 emp [] []
def V1 : Tm := .mk 1 1 emp [] []
def V2 : Tm := .mk 1 2 emp [] []
def SU : Tm := .mk 2 0 emp [uL] []
def SZ : Tm := .mk 2 0 emp [zL] []
def CA : Tm := .mk 3 0 bA [] []
def CB : Tm := .mk 3 0 bB [] []
def CBz : Tm := .mk 3 0 bB [zL] []
def idT : Tm := .mk 5 0 emp [] [SU, .mk 5 0 emp [] [V0, V0]]
def xT : Tm := .mk 5 0 emp [] [SZ, .mk 5 0 emp [] [V0, V0]]
def apT : Tm := .mk 4 0 emp [] [.mk 4 0 emp [] [idT, CA], CBz]
def arT : Tm := .mk 6 0 emp [] [V0, .mk 6 0 emp [] [SZ, V2]]
def baT : Tm := .mk 4 0 emp [] [CB, CA]
def leT : Tm := .mk 7 0 emp [] [SZ, V0, V1]
theorem noS_emp : noS emp = true := by simp [noS]
theorem nb_A : nameB bA = true := by rfl
theorem nb_B : nameB bB = true := by rfl
theorem ev_spine : apT.spine = (idT, [CA, CBz]) := by rfl
theorem ev_r1 : idT.right 1 0 = true := by simp [Tm.right, Tm.formed, formedA, hasB, constB, headR, Lv.right, Lv.formed, formedL, Lv.nodes, nodesL, Tm.nodes, nodesT, deepB, noS_emp, nb_A, nb_B, idT, xT, SU, SZ, V0, V1, V2, uL, zL, leT, CA, CB, baT]; omega
theorem ev_r2 : idT.right 0 0 = false := by simp [Tm.right, Tm.formed, formedA, hasB, constB, headR, Lv.right, Lv.formed, formedL, Lv.nodes, nodesL, Tm.nodes, nodesT, deepB, noS_emp, nb_A, nb_B, idT, xT, SU, SZ, V0, V1, V2, uL, zL, leT, CA, CB, baT]
theorem ev_r3 : xT.right 0 0 = true := by simp [Tm.right, Tm.formed, formedA, hasB, constB, headR, Lv.right, Lv.formed, formedL, Lv.nodes, nodesL, Tm.nodes, nodesT, deepB, noS_emp, nb_A, nb_B, idT, xT, SU, SZ, V0, V1, V2, uL, zL, leT, CA, CB, baT]; omega
theorem ev_r4 : leT.right 0 1 = true := by simp [Tm.right, Tm.formed, formedA, hasB, constB, headR, Lv.right, Lv.formed, formedL, Lv.nodes, nodesL, Tm.nodes, nodesT, deepB, noS_emp, nb_A, nb_B, idT, xT, SU, SZ, V0, V1, V2, uL, zL, leT, CA, CB, baT]; omega
theorem ev_r5 : idT.right 1 1125899906842624 = true := by simp [Tm.right, Tm.formed, formedA, hasB, constB, headR, Lv.right, Lv.formed, formedL, Lv.nodes, nodesL, Tm.nodes, nodesT, deepB, noS_emp, nb_A, nb_B, idT, xT, SU, SZ, V0, V1, V2, uL, zL, leT, CA, CB, baT]
theorem ev_r6 : V2.right 4 1125899906842624 = true := by simp [Tm.right, Tm.formed, formedA, hasB, constB, headR, Lv.right, Lv.formed, formedL, Lv.nodes, nodesL, Tm.nodes, nodesT, deepB, noS_emp, nb_A, nb_B, idT, xT, SU, SZ, V0, V1, V2, uL, zL, leT, CA, CB, baT]
theorem ev_r7 : baT.right 4 1125899906842624 = true := by simp [Tm.right, Tm.formed, formedA, hasB, constB, headR, Lv.right, Lv.formed, formedL, Lv.nodes, nodesL, Tm.nodes, nodesT, deepB, noS_emp, nb_A, nb_B, idT, xT, SU, SZ, V0, V1, V2, uL, zL, leT, CA, CB, baT]
theorem ev_r8 : V0.right 4 1125899906842624 = true := by simp [Tm.right, Tm.formed, formedA, hasB, constB, headR, Lv.right, Lv.formed, formedL, Lv.nodes, nodesL, Tm.nodes, nodesT, deepB, noS_emp, nb_A, nb_B, idT, xT, SU, SZ, V0, V1, V2, uL, zL, leT, CA, CB, baT]
theorem ev_r9 : SZ.right 4 1125899906842624 = true := by simp [Tm.right, Tm.formed, formedA, hasB, constB, headR, Lv.right, Lv.formed, formedL, Lv.nodes, nodesL, Tm.nodes, nodesT, deepB, noS_emp, nb_A, nb_B, idT, xT, SU, SZ, V0, V1, V2, uL, zL, leT, CA, CB, baT]
theorem ev_levels : levelsR idT [zL] = some xT := by
  have h1 : idT.putL [zL] = some xT := by rfl
  have h2 : xT.nodes ≤ 2000 := by decide
  unfold levelsR
  rw [if_pos (show idT.right (([zL].length : Nat) : Int) 1125899906842624 = true from ev_r5), h1]
  exact if_pos h2
theorem ev_arrow : arrowR V0 [V0, SZ] = .tup [.agg arT.pv, .sc (.bool true)] := by
  have h : arrowOk V0 [V0, SZ] = true := by
    unfold arrowOk
    simp only [List.all_cons, List.all_nil, ev_r8, ev_r9]
    decide
  have h2 : arrL V0 [V0, SZ].length 0 [V0, SZ] = arT := by rfl
  unfold arrowR
  rw [if_pos h, h2]
theorem ev_loose : looseT V2 = 3 := by
  unfold looseT
  rw [if_pos ev_r6]
  rfl
theorem ev_consts : constsT baT = [bA, bB] := by
  have h2 : namesOf baT.pre = [bB, bA] := by rfl
  unfold constsT sortedT
  rw [if_pos ev_r7, h2]
  simp [sortT, compL, bytesT, List.mergeSort, List.MergeSort.Internal.splitInTwo, List.merge, bA, bB]
  rw [if_neg (by decide)]
  rfl
set_option maxHeartbeats 8000000 in
theorem alive_p : PPure Tryz.prog F.law04_alive [] (.sc (.bool true)) := by
  have n1 : idT.nodes = 6 := by rfl
  have hb : ∀ t : Tm, t.nodes ≤ 100 → t.nodes ≤ 2 ^ 40 := fun t h => by omega
  have c1 : PPure Tryz.prog F.term_Var [.sc (.int .i64 0)] (.agg V0.pv) := Var_p 0
  have c2 : PPure Tryz.prog F.term_Var [.sc (.int .i64 1)] (.agg V1.pv) := Var_p 1
  have c3 : PPure Tryz.prog F.term_Var [.sc (.int .i64 2)] (.agg V2.pv) := Var_p 2
  have c4 : PPure Tryz.prog F.law04_u [] (.agg uL.pv) := u_p
  have c5 : PPure Tryz.prog F.law04_zero [] (.agg zL.pv) := zero_p
  have c6 : PPure Tryz.prog F.term_Sort [.agg uL.pv] (.agg SU.pv) := Sort_p uL (by decide)
  have c7 : PPure Tryz.prog F.term_Sort [.agg zL.pv] (.agg SZ.pv) := Sort_p zL (by decide)
  have c8 : PPure Tryz.prog F.term_Lam [.agg V0.pv, .sl 5 [SU.pv, V0.pv]] (.agg idT.pv) := Lam_p V0 [SU, V0] (by decide) (by decide)
  have c9 : PPure Tryz.prog F.term_Levels [.agg idT.pv, .sl 3 [zL.pv]] (.tup [.agg xT.pv, .sc (.bool true)]) := by
    have := term_Levels_p idT [zL] (hb _ (by rw [n1]; decide))
    rw [ev_levels] at this
    exact this
  have c10 : PPure Tryz.prog F.term_Const [.sc (.string ⟨#[97]⟩), .sc (.slice none 0 0)] (.agg CA.pv) := (Const_p ⟨#[97]⟩ [] (by decide)).weak ⟨.refl _, .nil 3, trivial⟩ (.refl _)
  have c11 : PPure Tryz.prog F.term_Const [.sc (.string ⟨#[98]⟩), .sl 3 [zL.pv]] (.agg CBz.pv) := Const_p ⟨#[98]⟩ [zL] (by decide)
  have c12 : PPure Tryz.prog F.term_App [.agg idT.pv, .sl 5 [CA.pv, CBz.pv]] (.agg apT.pv) := App_p idT [CA, CBz] (by decide) (by decide)
  have c13 : PPure Tryz.prog F.term_Spine [.agg apT.pv] (.tup [.agg (idT.pvB true), .sl 5 [[.sc (.int .i64 3), .sc (.int .i64 0), .sc (.string ⟨#[97]⟩), .sl 3 [], .sl 5 []], CBz.pv]]) := by
    have := term_Spine_pF apT (by decide)
    rw [ev_spine] at this
    have e : CA.pv = [.sc (.int .i64 3), .sc (.int .i64 0), .sc (.string ⟨#[97]⟩), .sl 3 [], .sl 5 []] := by simp [CA, Tm.pv, bA]
    simp only [List.map_cons, List.map_nil, e] at this
    exact this
  have c14 : PPure Tryz.prog F.term_Arrow [.agg V0.pv, .sl 5 [V0.pv, SZ.pv]] (.tup [.agg [.sc (.int .i64 6), .sc (.int .i64 0), .sc (.string ⟨#[]⟩), .sl 3 [], .sl 5 [V0.pv, [.sc (.int .i64 6), .sc (.int .i64 0), .sc (.string ⟨#[]⟩), .sl 3 [], .sl 5 [SZ.pv, [.sc (.int .i64 1), .sc (.int .i64 2), .sc (.string ⟨#[]⟩), .sl 3 [], .sl 5 []]]]]], .sc (.bool true)]) := by
    have := term_Arrow_p V0 [V0, SZ] (by decide) (by decide) (by decide)
    rw [ev_arrow] at this
    have e : arT.pv = [.sc (.int .i64 6), .sc (.int .i64 0), .sc (.string ⟨#[]⟩), .sl 3 [], .sl 5 [V0.pv, [.sc (.int .i64 6), .sc (.int .i64 0), .sc (.string ⟨#[]⟩), .sl 3 [], .sl 5 [SZ.pv, [.sc (.int .i64 1), .sc (.int .i64 2), .sc (.string ⟨#[]⟩), .sl 3 [], .sl 5 []]]]]] := by simp [arT, V2, Tm.pv]
    rw [e] at this
    exact this
  have c15 : PPure Tryz.prog F.term_Right [.agg idT.pv, .sc (.int .i64 1), .sc (.int .i64 0)] (.sc (.bool true)) := by
    have := tRight_p idT (by decide) 1 0
    rwa [ev_r1] at this
  have c16 : PPure Tryz.prog F.term_Right [.agg idT.pv, .sc (.int .i64 0), .sc (.int .i64 0)] (.sc (.bool false)) := by
    have := tRight_p idT (by decide) 0 0
    rwa [ev_r2] at this
  have c17 : PPure Tryz.prog F.term_Right [.agg xT.pv, .sc (.int .i64 0), .sc (.int .i64 0)] (.sc (.bool true)) := by
    have := tRight_p xT (by decide) 0 0
    rwa [ev_r3] at this
  have c18 : PPure Tryz.prog F.term_Nodes [.agg idT.pv] (.sc (.int .i64 6)) := by
    have := tNodes_p idT (by decide)
    rw [n1] at this
    exact this
  have c19 : PPure Tryz.prog F.term_Loose [.agg V2.pv] (.sc (.int .i64 3)) := by
    have := tLoose_p V2 (by decide)
    rwa [ev_loose] at this
  have c20 : PPure Tryz.prog F.term_Same [.agg (idT.pvB true), .agg idT.pv] (.sc (.bool true)) := by
    have := tSame_pf idT idT
    rwa [(tsame_iff idT idT).2 rfl] at this
  have c21 : PPure Tryz.prog F.term_Const [.sc (.string ⟨#[98]⟩), .sc (.slice none 0 0)] (.agg CB.pv) := (Const_p ⟨#[98]⟩ [] (by decide)).weak ⟨.refl _, .nil 3, trivial⟩ (.refl _)
  have c22 : PPure Tryz.prog F.term_App [.agg CB.pv, .sl 5 [CA.pv]] (.agg baT.pv) := App_p CB [CA] (by decide) (by decide)
  have c23 : PPure Tryz.prog F.term_Consts [.agg baT.pv] (.sl 1 [[.sc (.string ⟨#[97]⟩)], [.sc (.string ⟨#[98]⟩)]]) := by
    have := Consts_p baT (by decide)
    rw [ev_consts] at this
    exact this
  have c24 : PPure Tryz.prog F.ref00_SameTexts [.sl 1 [[.sc (.string ⟨#[97]⟩)], [.sc (.string ⟨#[98]⟩)]], .sl 1 [[.sc (.string ⟨#[97]⟩)], [.sc (.string ⟨#[98]⟩)]]] (.sc (.bool true)) := by
    have := SameTexts_p [bA, bB] [bA, bB]
    rw [decide_eq_true rfl] at this
    exact this
  have c25 : PPure Tryz.prog F.term_Let [.agg SZ.pv, .agg V0.pv, .agg V1.pv] (.agg leT.pv) := Let_p SZ V0 V1 (by decide) (by decide) (by decide)
  have c26 : PPure Tryz.prog F.term_Right [.agg leT.pv, .sc (.int .i64 0), .sc (.int .i64 1)] (.sc (.bool true)) := by
    have := tRight_p leT (by decide) 0 1
    rwa [ev_r4] at this
  have c27 : PPure Tryz.prog F.term_Pi [.agg V0.pv, .sl 5 [SZ.pv]] (.agg [.sc (.int .i64 6), .sc (.int .i64 0), .sc (.string ⟨#[]⟩), .sl 3 [], .sl 5 [SZ.pv, V0.pv]]) := by
    have := Pi_p V0 [SZ] (by decide) (by decide)
    have e : (boundT 6 V0 [SZ]).pv = [.sc (.int .i64 6), .sc (.int .i64 0), .sc (.string ⟨#[]⟩), .sl 3 [], .sl 5 [SZ.pv, V0.pv]] := by simp [boundT, Tm.pv]
    rw [e] at this
    exact this
  refine pure_by is_law04_alive (by simp) rfl fun hb nx => ?_
  clear hb n1
  repeat' (first | ((with_reducible first | refine cond_pos (by omega) ?_ | refine cond_neg (by omega) ?_ | refine guard_pos (by omega) ?_ | refine guard_neg (by omega) ?_ | refine cond_ifn ?_ ?_ | refine cond_waysn ?_ ?_ | refine guard_ifn ?_ ?_ | refine guard_waysn ?_ ?_ | refine cond_if ?_ ?_ | refine cond_ways ?_ ?_ | refine guard_if ?_ ?_ | refine guard_ways ?_ ?_) <;> intro _) | (((with_reducible refine call_id ?_); (first | (refine call_pure (c1) ?_) | (refine call_pure (c2) ?_) | (refine call_pure (c3) ?_) | (refine call_pure (c4) ?_) | (refine call_pure (c5) ?_) | (refine call_pure (c6) ?_) | (refine call_pure (c7) ?_) | (refine call_pure (c8) ?_) | (refine call_pure (c9) ?_) | (refine call_pure (c10) ?_) | (refine call_pure (c11) ?_) | (refine call_pure (c12) ?_) | (refine call_pure (c13) ?_) | (refine call_pure (c14) ?_) | (refine call_pure (c15) ?_) | (refine call_pure (c16) ?_) | (refine call_pure (c17) ?_) | (refine call_pure (c18) ?_) | (refine call_pure (c19) ?_) | (refine call_pure (c20) ?_) | (refine call_pure (c21) ?_) | (refine call_pure (c22) ?_) | (refine call_pure (c23) ?_) | (refine call_pure (c24) ?_) | (refine call_pure (c25) ?_) | (refine call_pure (c26) ?_) | (refine call_pure (c27) ?_)))) | simp (maxSteps := 1000000) (disch := omega) only [go_sem, Nat.reduceAdd, Nat.reduceMul, Nat.reduceSub, Nat.reduceLeDiff, Nat.reduceEqDiff, Nat.reduceBEq, ↓reduceIte, reduceCtorEq, Int.reduceEq, Int.reduceLE, Int.reduceLT, Int.reduceAdd, Int.reduceSub, Int.reduceNeg, Int.reduceToNat, Int.reduceNe, Nat.reducePow, Nat.reduceShiftRight, Nat.reduceMod, mc_law04_alive, strBin, beq_self_eq_true, *])
  all_goals (refine fin_tmp (.inr rfl) ?_; simp [upd])
  
end
section
theorem op_level {H : Type} {enc : TypeId × Value → H} {W : World} {sp : Nat → Bool} {hd : Bool} : ∀ n, OpAt enc W sp hd n 43 Lv.pv := by
  intro n
  induction n using Nat.strongRecOn with
  | ind n ih =>
    intro cs x h
    have hu : ∃ fs, Tryz.prog.underlying 43 = some (.struct fs) ∧ ∃ f0 f1 f2, fs = #[f0, f1, f2] ∧ f0.type = 3 ∧ f1.type = 3 ∧ f2.type = 22 ∧ f0.offset = 0 ∧ f1.offset = 1 ∧ f2.offset = 2 :=
      ⟨_, Tryz.underlying43, _, _, _, rfl, rfl, rfl, rfl, rfl, rfl, rfl⟩
    obtain ⟨fs, hu, f0, f1, f2, rfl, h0, h1, h2, o0, o1, o2⟩ := hu
    obtain ⟨xs, m, rfl, _, hlen, hxs, hx⟩ := DataW.trod_struct hu h
    have hc : Tryz.prog.cellsOf 43 = 3 := by kernel_rfl
    obtain ⟨a, ha⟩ := op_field hx hxs (i := 0) rfl h0 o0 (c := 1) (by kernel_rfl) (op_int Tryz.underlying3)
    obtain ⟨b, hb⟩ := op_field hx hxs (i := 1) rfl h1 o1 (c := 1) (by kernel_rfl) (op_int Tryz.underlying3)
    have hl : OpAt enc W sp hd m 22 (fun l : List Lv => [.sl 3 (l.map Lv.pv)]) := by
      cases m with
      | zero => exact op_zero
      | succ m => exact op_slice Tryz.underlying22 (by kernel_rfl) (by omega) (ih m (by omega))
    obtain ⟨l, hl⟩ := op_field hx hxs (i := 2) rfl h2 o2 (c := 1) (by kernel_rfl) hl
    rw [List.drop_zero] at ha
    have h3 := rep_split (rep_split ha hb) hl
    rw [hc] at hlen
    rw [List.take_of_length_le (by omega)] at h3
    refine ⟨.mk a b l, ?_⟩
    simp only [Lv.pv]
    exact h3
section
variable {H : Type} {enc : TypeId × Value → H} {W : World} {cs : Array Value} {a : Option Addr} {len cap : Nat} {d : DataW H} {p : List MemPlace}
end
end
section
theorem fitsT_map : ∀ l : List {t : Tm // t.fits}, fitsT (l.map (·.1))
  | [] => trivial
  | x :: r => ⟨x.2, fitsT_map r⟩
theorem op_term {H : Type} {enc : TypeId × Value → H} {W : World} {sp : Nat → Bool} {hd : Bool} : ∀ n, OpAt enc W sp hd n 25 (fun t : {t : Tm // t.fits} => t.1.pv) := by
  intro n
  induction n using Nat.strongRecOn with
  | ind n ih =>
    intro cs x h
    have hu : ∃ fs, Tryz.prog.underlying 25 = some (.struct fs) ∧ ∃ f0 f1 f2 f3 f4, fs = #[f0, f1, f2, f3, f4] ∧ f0.type = 3 ∧ f1.type = 3 ∧ f2.type = 9 ∧ f3.type = 22 ∧ f4.type = 23 ∧ f0.offset = 0 ∧ f1.offset = 1 ∧ f2.offset = 2 ∧ f3.offset = 3 ∧ f4.offset = 4 :=
      ⟨_, Tryz.underlying25, _, _, _, _, _, rfl, rfl, rfl, rfl, rfl, rfl, rfl, rfl, rfl, rfl, rfl⟩
    obtain ⟨fs, hu, f0, f1, f2, f3, f4, rfl, h0, h1, h2, h3, h4, o0, o1, o2, o3, o4⟩ := hu
    obtain ⟨xs, m, rfl, _, hlen, hxs, hx⟩ := DataW.trod_struct hu h
    have hc : Tryz.prog.cellsOf 25 = 5 := by kernel_rfl
    obtain ⟨a, ha⟩ := op_field hx hxs (i := 0) rfl h0 o0 (c := 1) (by kernel_rfl) (op_int Tryz.underlying3)
    obtain ⟨b, hb⟩ := op_field hx hxs (i := 1) rfl h1 o1 (c := 1) (by kernel_rfl) (op_int Tryz.underlying3)
    obtain ⟨z, hz⟩ := op_field hx hxs (i := 2) rfl h2 o2 (c := 1) (by kernel_rfl) (op_string Tryz.underlying9)
    have hl : OpAt enc W sp hd m 22 (fun l : List Lv => [.sl 3 (l.map Lv.pv)]) := by
      cases m with
      | zero => exact op_zero
      | succ m => exact op_slice Tryz.underlying22 (by kernel_rfl) (by omega) (op_level m)
    have hl2 : OpAt enc W sp hd m 23 (fun l : List {t : Tm // t.fits} => [.sl 5 (l.map fun t => t.1.pv)]) := by
      cases m with
      | zero => exact op_zero
      | succ m => exact op_slice Tryz.underlying23 (by kernel_rfl) (by omega) (ih m (by omega))
    obtain ⟨l, hl⟩ := op_field hx hxs (i := 3) rfl h3 o3 (c := 1) (by kernel_rfl) hl
    obtain ⟨r, hr⟩ := op_field hx hxs (i := 4) rfl h4 o4 (c := 1) (by kernel_rfl) hl2
    rw [List.drop_zero] at ha
    have h5 := rep_split (rep_split (rep_split (rep_split ha hb) hz) hl) hr
    rw [hc] at hlen
    rw [List.take_of_length_le (by omega)] at h5
    refine ⟨⟨.mk a b z.1 l (r.map (·.1)), z.2, fitsT_map r⟩, ?_⟩
    simp only [Tm.pv, List.map_map]
    exact h5
section
variable {H : Type} {enc : TypeId × Value → H} {W : World} {cs : Array Value} {a : Option Addr} {len cap : Nat} {d : DataW H} {p : List MemPlace}
theorem open_term (h : DataW.Trod enc Tryz.prog W 0 (fun _ => true) true 25 (.agg cs) d p) : ∃ t : {t : Tm // t.fits}, Rep (allV W) (.agg t.1.pv) (.agg cs) := trod_agg (fun n => op_term n) h
end
end
section
set_option maxRecDepth 20000
attribute [local go_sem] pv_len pv_take Nat.add_assoc tm_len tm_take pv_one tm_one tpvB_len tpvB_take tpvB_one pvB_len pvB_take pvB_one id_ne id_ne' id_ne2 List.append_assoc
mutual
theorem nodes_mass : ∀ t : Tm, t.nodes ≤ t.mass
  | .mk k n s ls args => by have := nodesT_mass args; simp only [Tm.nodes, Tm.mass]; omega
theorem nodesT_mass : ∀ ts : List Tm, nodesT ts ≤ massT ts
  | [] => Nat.le_refl _
  | t :: r => by have := nodes_mass t; have := nodesT_mass r; simp only [nodesT, massT]; omega
end
theorem great_no {t : Tm} (h : ¬ 2500 < t.mass) : t.nodes ≤ 2500 := by have := nodes_mass t; omega
end
section
set_option maxRecDepth 20000
attribute [local go_sem] pv_len pv_take Nat.add_assoc tm_len tm_take pv_one tm_one tpvB_len tpvB_take tpvB_one pvB_len pvB_take pvB_one id_ne id_ne' id_ne2 List.append_assoc
theorem spineF_fuel : ∀ (n m : Nat) (t : Tm), t.size ≤ n → t.size ≤ m → spineF n t = spineF m t
  | 0, _, t, h, _ => by have := size_pos t; omega
  | _ + 1, 0, t, _, h => by have := size_pos t; omega
  | n + 1, m + 1, t, h1, h2 => by
    simp only [spineF]
    split
    · rename_i ha
      have hs := ap_size ha
      rw [spineF_fuel n m (t.kid 0) (by omega) (by omega)]
    · rfl
end
section
set_option maxRecDepth 20000
attribute [local go_sem] pv_len pv_take Nat.add_assoc tm_len tm_take pv_one tm_one id_ne id_ne' id_ne2 List.append_assoc
def rconstsT (t : Tm) : List ByteArray := if t.right 4 1125899906842624 = true then insAll (namesOf t.pre) else []
theorem ref04_Consts_p (t : Tm) (hm : t.nodes ≤ 2 ^ 40) : PPure Tryz.prog F.ref04_Consts [.agg t.pv] (.sl 1 ((rconstsT t).map txt)) := by
  refine pure_by is_ref04_Consts (by simp) (by simp [PV.imm, txts_immLL]) fun hb nx => ?_
  clear hb
  have c1 := ref04_Any_p t 4
  by_cases hr : t.right 4 1125899906842624 = true
  · have c2 := ref_consts_p t.size t (Nat.le_refl _) hm
    have hl : (namesOf t.pre).length ≤ 2 ^ 40 := by
      have h1 := pre_len t
      have h2 := namesOf_len t.pre
      have h3 := size_nodes t
      omega
    have c3 := ref01_Sort_p (namesOf t.pre) hl
    have e : rconstsT t = insAll (namesOf t.pre) := if_pos hr
    rw [hr] at c1
    rw [e]
    clear hr e hl
    repeat' (first | ((with_reducible first | refine cond_pos (by omega) ?_ | refine cond_neg (by omega) ?_ | refine guard_pos (by omega) ?_ | refine guard_neg (by omega) ?_ | refine cond_ifn ?_ ?_ | refine cond_waysn ?_ ?_ | refine guard_ifn ?_ ?_ | refine guard_waysn ?_ ?_ | refine cond_if ?_ ?_ | refine cond_ways ?_ ?_ | refine guard_if ?_ ?_ | refine guard_ways ?_ ?_) <;> intro _) | (((with_reducible refine call_id ?_); (first | (refine call_pure (c1) ?_) | (refine call_pure (c2) ?_) | (refine call_pure (c3) ?_)))) | simp (maxSteps := 1000000) (disch := omega) only [go_sem, Nat.reduceAdd, Nat.reduceMul, Nat.reduceSub, Nat.reduceLeDiff, Nat.reduceEqDiff, Nat.reduceBEq, ↓reduceIte, reduceCtorEq, Int.reduceEq, Int.reduceLE, Int.reduceLT, Int.reduceAdd, Int.reduceSub, Int.reduceNeg, Int.reduceToNat, Int.reduceNe, Nat.reducePow, Nat.reduceShiftRight, Nat.reduceMod, mc_ref04_Consts, *])
    all_goals (refine fin_tmp (.inr rfl) ?_; simp [upd])
  · have e : rconstsT t = [] := if_neg hr
    rw [Bool.not_eq_true] at hr
    rw [hr] at c1
    rw [e]
    clear e hr
    repeat' (first | ((with_reducible first | refine cond_pos (by omega) ?_ | refine cond_neg (by omega) ?_ | refine guard_pos (by omega) ?_ | refine guard_neg (by omega) ?_ | refine cond_ifn ?_ ?_ | refine cond_waysn ?_ ?_ | refine guard_ifn ?_ ?_ | refine guard_waysn ?_ ?_ | refine cond_if ?_ ?_ | refine cond_ways ?_ ?_ | refine guard_if ?_ ?_ | refine guard_ways ?_ ?_) <;> intro _) | (((with_reducible refine call_id ?_); (first | (refine call_pure (c1) ?_)))) | simp (maxSteps := 1000000) (disch := omega) only [go_sem, Nat.reduceAdd, Nat.reduceMul, Nat.reduceSub, Nat.reduceLeDiff, Nat.reduceEqDiff, Nat.reduceBEq, ↓reduceIte, reduceCtorEq, Int.reduceEq, Int.reduceLE, Int.reduceLT, Int.reduceAdd, Int.reduceSub, Int.reduceNeg, Int.reduceToNat, Int.reduceNe, Nat.reducePow, Nat.reduceShiftRight, Nat.reduceMod, mc_ref04_Consts, *])
    refine fin_ret (r0 := .sc (.slice none 0 0)) 0 (by (simp (disch := omega) only [go_sem, Nat.reduceMul, Nat.reduceSub, Nat.reduceShiftRight, Nat.reduceMod, Nat.reduceEqDiff, Nat.reduceAdd, ↓reduceIte, Nat.reduceLeDiff]); all_goals rfl) ?_
    exact Weak.nil 1
def SpineQ (t : Tm) (H : Nat → Option PObj) (nx : Nat) (H' : Nat → Option PObj) (nx' : Nat) (r : PV) : Prop :=
  nx ≤ nx' ∧ (∀ j, j < nx → H' j = H j) ∧ ∃ id w, nx ≤ id ∧ id < nx' ∧ r = .tup [.agg t.spine.1.pv, .osl id 0 t.spine.2.length 5] ∧ H' id = some ⟨t.spine.2.flatMap Tm.pv, w⟩
set_option maxHeartbeats 4000000 in
theorem ref04_Spine_m : ∀ (fuel : Nat) (t : Tm), t.size ≤ fuel → t.nodes ≤ 2 ^ 40 → ∀ (H : Nat → Option PObj) (nx : Nat), PMut Tryz.prog F.ref04_Spine [.agg t.pv] H nx (SpineQ t H nx) := by
  intro fuel
  induction fuel with
  | zero => intro t h; have := size_pos t; omega
  | succ fuel ih =>
    intro t hf hm H nx
    refine mut_by is_ref04_Spine (by simp) fun hb => ?_
    clear hb
    cases hap : t.ap with
    | false =>
      have hsp : t.spine = (t, []) := by
        unfold Tm.spine
        rw [show t.size = (t.size - 1) + 1 by have := size_pos t; omega]
        simp [spineF, hap]
      have c1 := CopyTerm_p t.size t (Nat.le_refl _) hm
      have hspk := Kept.mk hsp
      cases t with
      | mk kind n s ls args =>
      simp only [Tm.ap, Bool.and_eq_false_iff, decide_eq_false_iff_not] at hap
      have hpv := Kept.mk (rfl : (Tm.mk kind n s ls args) = (Tm.mk kind n s ls args))
      have hk : ¬ kind = 4 ∨ (kind = 4 ∧ ¬ args.length = 2) := by omega
      clear hap hsp
      simp only [Tm.pv] at c1 ⊢
      rcases hk with hk | ⟨rfl, hk⟩
      all_goals
        repeat' (first | ((with_reducible first | refine cond_pos (by omega) ?_ | refine cond_neg (by omega) ?_ | refine guard_pos (by omega) ?_ | refine guard_neg (by omega) ?_ | refine cond_ifn ?_ ?_ | refine cond_waysn ?_ ?_ | refine guard_ifn ?_ ?_ | refine guard_waysn ?_ ?_ | refine cond_if ?_ ?_ | refine cond_ways ?_ ?_ | refine guard_if ?_ ?_ | refine guard_ways ?_ ?_) <;> intro _) | (((with_reducible refine call_id ?_); (first | (refine call_pure (c1) ?_)))) | simp (maxSteps := 1000000) (disch := omega) only [go_sem, Nat.reduceAdd, Nat.reduceMul, Nat.reduceSub, Nat.reduceLeDiff, Nat.reduceEqDiff, Nat.reduceBEq, ↓reduceIte, reduceCtorEq, Int.reduceEq, Int.reduceLE, Int.reduceLT, Int.reduceAdd, Int.reduceSub, Int.reduceNeg, Int.reduceToNat, Int.reduceNe, Nat.reducePow, Nat.reduceShiftRight, Nat.reduceMod, mc_ref04_Spine, *])
        refine fin_mut (.tup [.agg (Tm.mk _ n s ls args).pv, .osl (nx + 14) 0 0 5]) (.inr rfl) (by (simp (disch := omega) only [go_sem, Nat.reduceMul, Nat.reduceSub, Nat.reduceShiftRight, Nat.reduceMod, Nat.reduceEqDiff, Nat.reduceAdd, ↓reduceIte, Nat.reduceLeDiff, Tm.pv, *]); all_goals rfl) ⟨Nat.le_add_right _ _, fun j hj => ?_, nx + 14, true, Nat.le_add_right _ _, Nat.add_lt_add_left (by decide) _, ?_, ?_⟩
        · simp [upd, show j ≠ nx + 1 by omega, show j ≠ nx + 14 by omega]
        · rw [hspk.out]; rfl
        · rw [hspk.out]; simp [upd]
    | true =>
      obtain ⟨n, s, ls, x, y, rfl⟩ := ap_inv hap
      have hsp : (Tm.mk 4 n s ls [x, y]).spine = (x.spine.1, x.spine.2 ++ [y]) := by
        unfold Tm.spine
        rw [show (Tm.mk 4 n s ls [x, y]).size = (x.size + y.size) + 1 by simp only [Tm.size, sizeL]; omega]
        simp only [spineF, if_pos hap, Tm.kid, List.getElem?_cons_zero, List.getElem?_cons_succ]
        rw [spineF_fuel (x.size + y.size) x.size x (by omega) (Nat.le_refl _)]
      simp only [Tm.size, sizeL] at hf
      simp only [Tm.nodes, nodesT] at hm
      have c1 := ih x (by omega) (by omega)
      have c2 := CopyTerm_p y.size y (Nat.le_refl _) (by omega)
      have hspk := Kept.mk hsp
      have hsl : x.spine.2.length ≤ 2 ^ 40 := by have h1 := spineF_len x.size x; have h2 := size_nodes x; exact Nat.le_trans h1 (by omega)
      have hz : (x.spine.2.length + 1) * 80 ≤ 140737488355328 ∧ x.spine.2.length ≤ 4611686018427387903 := by omega
      have hfl : (x.spine.2.flatMap Tm.pv).length = x.spine.2.length * 5 := flat_lenG _ 5 tm_len _
      have c1k := Kept.mk c1
      clear c1 hsp hap ih
      simp only [Tm.pv, List.map_cons, List.map_nil]
      repeat' (first | ((with_reducible first | refine cond_pos (by omega) ?_ | refine cond_neg (by omega) ?_ | refine guard_pos (by omega) ?_ | refine guard_neg (by omega) ?_ | refine cond_ifn ?_ ?_ | refine cond_waysn ?_ ?_ | refine guard_ifn ?_ ?_ | refine guard_waysn ?_ ?_ | refine cond_if ?_ ?_ | refine cond_ways ?_ ?_ | refine guard_if ?_ ?_ | refine guard_ways ?_ ?_) <;> intro _) | simp (maxSteps := 1000000) (disch := omega) only [go_sem, Nat.reduceAdd, Nat.reduceMul, Nat.reduceSub, Nat.reduceLeDiff, Nat.reduceEqDiff, Nat.reduceBEq, ↓reduceIte, reduceCtorEq, Int.reduceEq, Int.reduceLE, Int.reduceLT, Int.reduceAdd, Int.reduceSub, Int.reduceNeg, Int.reduceToNat, Int.reduceNe, Nat.reducePow, Nat.reduceShiftRight, Nat.reduceMod, mc_ref04_Spine, *])
      refine call_mut (c1k.out _ _) ?_
      rintro H' nx' r ⟨h1, h2, id, w, h3, h4, rfl, h5⟩ -
      have h1' := Kept.mk h1
      have h2' := Kept.mk h2
      have h3' : nx + 23 ≤ id := h3
      have hne : ¬ id = nx + 20 := by omega
      have hn1 : nx + 23 ≤ nx' := h1
      have hH1 : H' (nx + 1) = _ := (h2 (nx + 1) (show nx + 1 < nx + 23 by omega)).trans (upd_same _ _ _)
      have hkeep : Kept (∀ j, j < nx → H' j = H j) := Kept.mk fun j hj => (h2 j (show j < nx + 23 by omega)).trans (upd_ne _ _ (by omega))
      clear h1 h2 h3 c1k h1' h2'
      repeat' (first | ((with_reducible first | refine cond_pos (by omega) ?_ | refine cond_neg (by omega) ?_ | refine guard_pos (by omega) ?_ | refine guard_neg (by omega) ?_ | refine cond_ifn ?_ ?_ | refine cond_waysn ?_ ?_ | refine guard_ifn ?_ ?_ | refine guard_waysn ?_ ?_ | refine cond_if ?_ ?_ | refine cond_ways ?_ ?_ | refine guard_if ?_ ?_ | refine guard_ways ?_ ?_) <;> intro _) | (((with_reducible refine call_id ?_); (first | (refine call_pure (c2) ?_)))) | simp (maxSteps := 1000000) (disch := omega) only [go_sem, Nat.reduceAdd, Nat.reduceMul, Nat.reduceSub, Nat.reduceLeDiff, Nat.reduceEqDiff, Nat.reduceBEq, ↓reduceIte, reduceCtorEq, Int.reduceEq, Int.reduceLE, Int.reduceLT, Int.reduceAdd, Int.reduceSub, Int.reduceNeg, Int.reduceToNat, Int.reduceNe, Nat.reducePow, Nat.reduceShiftRight, Nat.reduceMod, *])
      refine fin_mut (.tup [.agg x.spine.1.pv, .osl (nx' + 8) 0 (x.spine.2.length + 1) 5]) (.inr rfl) (by (simp (disch := omega) only [go_sem, Nat.reduceMul, Nat.reduceSub, Nat.reduceShiftRight, Nat.reduceMod, Nat.reduceEqDiff, Nat.reduceAdd, ↓reduceIte, Nat.reduceLeDiff, *]); all_goals rfl) ⟨Nat.le_trans (by omega : nx ≤ nx') (Nat.le_add_right _ _), fun j hj => ?_, nx' + 8, false, Nat.le_trans (by omega : nx ≤ nx') (Nat.le_add_right _ _), Nat.add_lt_add_left (by decide) _, ?_, ?_⟩
      · rw [← hkeep.out j hj]
        simp [upd, show j ≠ nx + 1 by omega, show j ≠ nx' + 8 by omega, show j ≠ id by omega, show j ≠ nx + 20 by omega]
      · rw [hspk.out]; simp
      · rw [hspk.out]
        refine (upd_ne _ _ (show nx' + 8 ≠ nx + 1 by omega)).trans ((upd_same _ _ _).trans ?_)
        simp
theorem row_frG {α : Type} {f : α → List PV} {sz : Nat} (hf : ∀ x, (f x).length = sz) (xs : List α) {H : Nat → Option PObj} {id : Nat} {w : Bool} (hH : H id = some ⟨xs.flatMap f, w⟩) :
    Weak (frzF 1 H (.osl id 0 xs.length sz)) (.sl sz (xs.map f)) := by
  have hl : (xs.flatMap f).length = xs.length * sz := flat_lenG f sz hf xs
  simp only [frzF, hH, List.drop_zero]
  rw [if_pos (by omega), List.take_of_length_le (by omega), List.map_id']
  refine .trans (Weak.fslW (es' := xs.map f) (by rw [chunks_length, List.length_map]) (fun e he => ?_) ?_) (Weak.fsl sz _)
  · obtain ⟨x, _, rfl⟩ := List.mem_map.1 he
    exact hf x
  · rw [chunks_flatten sz xs.length _ hl, ← List.flatMap_def]
    exact .refl _
theorem ref04_Spine_p (fuel : Nat) (t : Tm) (hf : t.size ≤ fuel) (hm : t.nodes ≤ 2 ^ 40) : PPure Tryz.prog F.ref04_Spine [.agg t.pv] (.tup [.agg t.spine.1.pv, .sl 5 (t.spine.2.map Tm.pv)]) := by
  refine PMut.pure (by simp [PV.imm, immL, tm_imm, tms_immLL]) (fun nx => ref04_Spine_m fuel t hf hm noneOwn nx) fun nx H' nx' r0 h => ?_
  obtain ⟨_, _, id, w, _, _, rfl, h⟩ := h
  refine ⟨2, ?_⟩
  have e1 : frzF 2 H' (.tup [.agg t.spine.1.pv, .osl id 0 t.spine.2.length 5]) = .tup [.agg (t.spine.1.pv.map (frzF 0 H')), frzF 1 H' (.osl id 0 t.spine.2.length 5)] := rfl
  rw [e1, frzF_pv5]
  exact Weak.tup (xs := [_, _]) ⟨.refl _, row_frG tm_len _ h, trivial⟩
end
section
set_option maxRecDepth 20000
theorem uniq_sorted {α : Type} {lt : α → α → Prop} (hi : ∀ a, ¬ lt a a) (ht : ∀ a b c, lt a b → lt b c → lt a c) : ∀ xs ys : List α, xs.Pairwise lt → ys.Pairwise lt → (∀ a, a ∈ xs ↔ a ∈ ys) → xs = ys
  | [], [], _, _, _ => rfl
  | [], y :: s, _, _, h => absurd ((h y).2 (by simp)) (by simp)
  | x :: r, [], _, _, h => absurd ((h x).1 (by simp)) (by simp)
  | x :: r, y :: s, hx, hy, h => by
    rw [List.pairwise_cons] at hx hy
    have e : x = y := by
      rcases List.mem_cons.1 ((h x).1 (by simp)) with e | h1
      · exact e
      · rcases List.mem_cons.1 ((h y).2 (by simp)) with e | h2
        · exact e.symm
        · exact absurd (ht _ _ _ (hy.1 x h1) (hx.1 y h2)) (hi _)
    subst e
    rw [uniq_sorted hi ht r s hx.2 hy.2 fun a => ?_]
    constructor
    · intro ha
      rcases List.mem_cons.1 ((h a).1 (by simp [ha])) with e | h1
      · subst e; exact absurd (hx.1 a ha) (hi a)
      · exact h1
    · intro ha
      rcases List.mem_cons.1 ((h a).2 (by simp [ha])) with e | h1
      · subst e; exact absurd (hy.1 a ha) (hi a)
      · exact h1
theorem bl_iff {a b : ByteArray} : bl a b = true ↔ a.data.toList < b.data.toList := by
  unfold bl
  rw [Go.Proofs.bytesLess_eq, decide_eq_true_eq, ByteArray.toList_eq, ByteArray.toList_eq]
theorem insT_cons (x y : ByteArray) (r : List ByteArray) : insT x (y :: r) = if bl y x = true then y :: insT x r else if y = x then y :: r else x :: y :: r := by
  by_cases h : bl y x = true
  · rw [if_pos h]
    unfold insT
    simp only [posT, if_pos h, List.getElem?_cons_succ, List.take_succ_cons, List.drop_succ_cons, List.cons_append]
    split <;> rfl
  · rw [if_neg h]
    unfold insT
    simp only [posT, if_neg h, List.getElem?_cons_zero, List.take_zero, List.drop_zero, List.nil_append, Option.some.injEq]
theorem insT_mem (x : ByteArray) : ∀ (ys : List ByteArray) (a : ByteArray), a ∈ insT x ys ↔ a = x ∨ a ∈ ys
  | [], a => by simp [insT, posT]
  | y :: r, a => by
    rw [insT_cons]
    split
    · rw [List.mem_cons, insT_mem x r a, List.mem_cons]
      constructor
      · rintro (h | h | h)
        · exact .inr (.inl h)
        · exact .inl h
        · exact .inr (.inr h)
      · rintro (h | h | h)
        · exact .inr (.inl h)
        · exact .inl h
        · exact .inr (.inr h)
    · split
      · rename_i e
        subst e
        simp
      · simp
theorem lt_tri (a b : List UInt8) : a < b ∨ a = b ∨ b < a := by
  by_cases h : a < b
  · exact .inl h
  · by_cases h2 : b < a
    · exact .inr (.inr h2)
    · exact .inr (.inl (List.le_antisymm (List.not_lt.1 h2) (List.not_lt.1 h)))
theorem insT_sorted (x : ByteArray) : ∀ ys : List ByteArray, ys.Pairwise (fun a b => bl a b = true) → (insT x ys).Pairwise (fun a b => bl a b = true)
  | [], _ => by simp [insT, posT]
  | y :: r, h => by
    rw [List.pairwise_cons] at h
    rw [insT_cons]
    split
    · rename_i hy
      rw [List.pairwise_cons]
      refine ⟨fun a ha => ?_, insT_sorted x r h.2⟩
      rcases (insT_mem x r a).1 ha with rfl | ha
      · exact hy
      · exact h.1 a ha
    · rename_i hy
      split
      · exact List.pairwise_cons.2 h
      · rename_i hne
        have hxy : bl x y = true := by
          rw [bl_iff] at hy ⊢
          rcases lt_tri x.data.toList y.data.toList with h1 | h1 | h1
          · exact h1
          · exact absurd (txt_inj (by rw [ByteArray.toList_eq, ByteArray.toList_eq, h1])) (fun e => hne e.symm)
          · exact absurd h1 hy
        rw [List.pairwise_cons]
        refine ⟨fun a ha => ?_, List.pairwise_cons.2 h⟩
        rcases List.mem_cons.1 ha with rfl | ha
        · exact hxy
        · have := h.1 a ha
          rw [bl_iff] at hxy this ⊢
          exact List.lt_trans hxy this
theorem insAll_spec : ∀ (n : Nat) (xs : List ByteArray), xs.length = n → (insAll xs).Pairwise (fun a b => bl a b = true) ∧ ∀ a, a ∈ insAll xs ↔ a ∈ xs := by
  intro n
  induction n with
  | zero =>
    intro xs h
    obtain rfl := List.eq_nil_of_length_eq_zero h
    exact ⟨.nil, fun a => by simp [insAll]⟩
  | succ n ih =>
    intro xs h
    obtain ⟨ys, y, rfl⟩ : ∃ ys y, xs = ys ++ [y] := ⟨xs.dropLast, xs.getLast (by intro e; subst e; cases h), (List.dropLast_concat_getLast _).symm⟩
    obtain ⟨h1, h2⟩ := ih ys (by simpa using h)
    rw [insAll_snoc]
    refine ⟨insT_sorted y _ h1, fun a => ?_⟩
    rw [insT_mem, h2, List.mem_append, List.mem_singleton]
    exact Or.comm
theorem compact_spec (L : List (List UInt8)) (hs : L.Pairwise (· ≤ ·)) : ∀ m, m ≤ L.length → (Go.Lib.compactUpTo L.toArray m).Pairwise (· < ·) ∧ (∀ a, a ∈ Go.Lib.compactUpTo L.toArray m ↔ a ∈ L.take m) := by
  intro m
  induction m with
  | zero => intro _; exact ⟨by simp [Go.Lib.compactUpTo], fun a => by simp [Go.Lib.compactUpTo]⟩
  | succ m ih =>
    intro hm
    obtain ⟨h1, h2⟩ := ih (by omega)
    have hget : L.toArray[m]! = L[m]'hm := by rw [getElem!_pos _ _ (by simp; omega)]; simp
    rw [Go.Lib.compactUpTo_succ]
    have hmem : ∀ a, a ∈ L.take (m + 1) ↔ a ∈ L.take m ∨ a = L[m]'hm := fun a => by rw [List.take_succ_eq_append_getElem hm, List.mem_append, List.mem_singleton]
    by_cases hk : Go.Lib.keeps L.toArray m = true
    · rw [if_pos hk]
      refine ⟨?_, fun a => by rw [List.mem_append, List.mem_singleton, h2, hmem, hget]⟩
      rw [List.pairwise_append]
      refine ⟨h1, by simp, fun a ha b hb => ?_⟩
      rw [List.mem_singleton] at hb
      rw [hb, hget]
      rw [h2] at ha
      obtain ⟨j, hj, rfl⟩ := List.mem_iff_getElem.1 ha
      rw [List.length_take] at hj
      have hjm : j < m := by omega
      rw [List.getElem_take]
      have hle : L[j]'(by omega) ≤ L[m - 1]'(by omega) := by
        by_cases e : j = m - 1
        · subst e; exact List.le_refl _
        · exact List.pairwise_iff_getElem.1 hs j (m - 1) (by omega) (by omega) (by omega)
      have hle2 : L[m - 1]'(by omega) ≤ L[m]'hm := List.pairwise_iff_getElem.1 hs (m - 1) m (by omega) hm (by omega)
      have hne : L[m]'hm ≠ L[m - 1]'(by omega) := by
        simp only [Go.Lib.keeps, decide_eq_true_eq] at hk
        rcases hk with hk | hk
        · omega
        · have hget1 : L.toArray[m - 1]! = L[m - 1]'(by omega) := by rw [getElem!_pos _ _ (by simp; omega)]; simp
          rwa [hget, hget1] at hk
      rcases lt_tri (L[m - 1]'(by omega)) (L[m]'hm) with h | h | h
      · exact List.lt_of_le_of_lt hle h
      · exact absurd h.symm hne
      · exact absurd h (List.not_lt.2 hle2)
    · rw [if_neg hk, List.append_nil]
      refine ⟨h1, fun a => ?_⟩
      rw [h2, hmem]
      have h0 : m ≠ 0 := by rintro rfl; simp [Go.Lib.keeps] at hk
      have e : L[m]'hm = L[m - 1]'(by omega) := by
        have hget1 : L.toArray[m - 1]! = L[m - 1]'(by omega) := by rw [getElem!_pos _ _ (by simp; omega)]; simp
        simp only [Go.Lib.keeps, decide_eq_true_eq, not_or, Decidable.not_not] at hk
        rw [← hget, ← hget1]
        exact hk.2
      constructor
      · exact .inl
      · rintro (h | rfl)
        · exact h
        · rw [e]
          refine List.mem_iff_getElem.2 ⟨m - 1, by rw [List.length_take]; omega, by rw [List.getElem_take]⟩
theorem sorted_same (xs : List ByteArray) : sortedT xs = insAll xs := by
  have hdl : ∀ l : List UInt8, (⟨l.toArray⟩ : ByteArray).data.toList = l := fun l => rfl
  have e1 : (sortT xs).map (·.data.toList) = (xs.map (·.data.toList)).mergeSort fun x y => decide (x ≤ y) := by
    unfold sortT
    rw [List.map_map]
    exact List.map_id' _
  have hsort : ((xs.map (·.data.toList)).mergeSort fun x y => decide (x ≤ y)).Pairwise (· ≤ ·) := by
    have := List.pairwise_mergeSort (le := fun x y : List UInt8 => decide (x ≤ y)) (fun a b c h1 h2 => by simpa using List.le_trans (by simpa using h1) (by simpa using h2)) (fun a b => by simpa using List.le_total a b) (xs.map (·.data.toList))
    exact this.imp fun h => by simpa using h
  obtain ⟨h1, h2⟩ := insAll_spec xs.length xs rfl
  refine uniq_sorted (lt := fun a b => bl a b = true) (fun a h => List.lt_irrefl _ (bl_iff.1 h)) (fun a b c h g => bl_iff.2 (List.lt_trans (bl_iff.1 h) (bl_iff.1 g))) _ _ ?_ h1 fun a => ?_
  · unfold sortedT bytesT compL
    rw [List.pairwise_map, e1]
    exact (compact_spec _ hsort _ (Nat.le_refl _)).1.imp fun h => bl_iff.2 h
  · rw [h2]
    unfold sortedT bytesT compL
    rw [List.mem_map, e1]
    have := (compact_spec _ hsort _ (Nat.le_refl _)).2
    unfold Go.Lib.compact
    constructor
    · rintro ⟨l, hl, rfl⟩
      have hl2 := (this l).1 hl
      rw [List.take_length, List.mem_mergeSort, List.mem_map] at hl2
      obtain ⟨x, hx, rfl⟩ := hl2
      exact hx
    · intro ha
      refine ⟨a.data.toList, (this _).2 ?_, rfl⟩
      rw [List.take_length, List.mem_mergeSort, List.mem_map]
      exact ⟨a, ha, rfl⟩
theorem consts_same (t : Tm) : constsT t = if t.right 4 1125899906842624 = true then insAll (namesOf t.pre) else [] := by
  unfold constsT
  rw [sorted_same]
end
section
set_option maxRecDepth 20000
attribute [local go_sem] pv_len pv_take Nat.add_assoc tm_len tm_take pv_one tm_one tpvB_len tpvB_take tpvB_one pvB_len pvB_take pvB_one id_ne id_ne' id_ne2 List.append_assoc
set_option maxRecDepth 100000 in
set_option maxHeartbeats 16000000 in
theorem TermAnswers_p (a b : {t : Tm // t.fits}) (n k : Int) : PPure Tryz.prog F.law04_TermAnswers [.agg a.1.pv, .agg b.1.pv, .sc (.int .i64 n), .sc (.int .i64 k)] (.sc (.bool true)) := by
  obtain ⟨a, ha⟩ := a
  obtain ⟨b, hb⟩ := b
  show PPure Tryz.prog F.law04_TermAnswers [.agg a.pv, .agg b.pv, .sc (.int .i64 n), .sc (.int .i64 k)] (.sc (.bool true))
  refine pure_by is_law04_TermAnswers (by simp) rfl fun hb nx => ?_
  clear hb
  have cG := Great_p a ha
  have cB := Great_p b hb
  have hl := alive_p
  by_cases hg : 2500 < a.mass
  · rw [decide_eq_true hg] at cG
    clear hg ha hb
    repeat' (first | ((with_reducible first | refine cond_pos (by omega) ?_ | refine cond_neg (by omega) ?_ | refine guard_pos (by omega) ?_ | refine guard_neg (by omega) ?_ | refine cond_ifn ?_ ?_ | refine cond_waysn ?_ ?_ | refine guard_ifn ?_ ?_ | refine guard_waysn ?_ ?_ | refine cond_if ?_ ?_ | refine cond_ways ?_ ?_ | refine guard_if ?_ ?_ | refine guard_ways ?_ ?_) <;> intro _) | (((with_reducible refine call_id ?_); (first | (refine call_pure (hl) ?_) | (refine call_pure (cG) ?_)))) | simp (maxSteps := 1000000) (disch := omega) only [go_sem, Nat.reduceAdd, Nat.reduceMul, Nat.reduceSub, Nat.reduceLeDiff, Nat.reduceEqDiff, Nat.reduceBEq, ↓reduceIte, reduceCtorEq, Int.reduceEq, Int.reduceLE, Int.reduceLT, Int.reduceAdd, Int.reduceSub, Int.reduceNeg, Int.reduceToNat, Int.reduceNe, Nat.reducePow, Nat.reduceShiftRight, Nat.reduceMod, mc_law04_TermAnswers, *])
    all_goals (refine fin_tmp (.inr rfl) ?_; (first | rfl | (simp (disch := omega) only [go_sem, Nat.reduceMul, Nat.reduceSub, Nat.reduceShiftRight, Nat.reduceMod, Nat.reduceEqDiff, Nat.reduceAdd, ↓reduceIte, Nat.reduceLeDiff, *]; done) | (simp [upd, *]; done) | (simp [upd, *]; omega)))
  rw [decide_eq_false hg] at cG
  have hn := great_no hg
  clear hg ha
  by_cases hg : 2500 < b.mass
  · rw [decide_eq_true hg] at cB
    clear hg hb
    repeat' (first | ((with_reducible first | refine cond_pos (by omega) ?_ | refine cond_neg (by omega) ?_ | refine guard_pos (by omega) ?_ | refine guard_neg (by omega) ?_ | refine cond_ifn ?_ ?_ | refine cond_waysn ?_ ?_ | refine guard_ifn ?_ ?_ | refine guard_waysn ?_ ?_ | refine cond_if ?_ ?_ | refine cond_ways ?_ ?_ | refine guard_if ?_ ?_ | refine guard_ways ?_ ?_) <;> intro _) | (((with_reducible refine call_id ?_); (first | (refine call_pure (hl) ?_) | (refine call_pure (cG) ?_) | (refine call_pure (cB) ?_)))) | simp (maxSteps := 1000000) (disch := omega) only [go_sem, Nat.reduceAdd, Nat.reduceMul, Nat.reduceSub, Nat.reduceLeDiff, Nat.reduceEqDiff, Nat.reduceBEq, ↓reduceIte, reduceCtorEq, Int.reduceEq, Int.reduceLE, Int.reduceLT, Int.reduceAdd, Int.reduceSub, Int.reduceNeg, Int.reduceToNat, Int.reduceNe, Nat.reducePow, Nat.reduceShiftRight, Nat.reduceMod, mc_law04_TermAnswers, *])
    all_goals (refine fin_tmp (.inr rfl) ?_; (first | rfl | (simp (disch := omega) only [go_sem, Nat.reduceMul, Nat.reduceSub, Nat.reduceShiftRight, Nat.reduceMod, Nat.reduceEqDiff, Nat.reduceAdd, ↓reduceIte, Nat.reduceLeDiff, *]; done) | (simp [upd, *]; done) | (simp [upd, *]; omega)))
  rw [decide_eq_false hg] at cB
  have hn2 := great_no hg
  clear hg hb
  have hw : WeakL [PV.agg (a.pvB true)] [.agg a.pv] := ⟨tm_agg true a, trivial⟩
  have c1 := CopyTerm_pF a.size a (Nat.le_refl _) (by omega)
  have c2 := (term_Spine_p a (by omega)).weak hw (.refl _)
  have c3 := ref04_Spine_p a.size a (Nat.le_refl _) (by omega)
  have c4 := SameTerm_p a.spine.1.size a.spine.1 a.spine.1 (Nat.le_refl _)
  rw [(tsame_iff a.spine.1 a.spine.1).2 rfl] at c4
  have hsl : a.spine.2.length ≤ 2500 := by have h1 := spineF_len a.size a; have h2 := size_nodes a; exact Nat.le_trans h1 (by omega)
  repeat' (first | ((with_reducible first | refine cond_pos (by omega) ?_ | refine cond_neg (by omega) ?_ | refine guard_pos (by omega) ?_ | refine guard_neg (by omega) ?_ | refine cond_ifn ?_ ?_ | refine cond_waysn ?_ ?_ | refine guard_ifn ?_ ?_ | refine guard_waysn ?_ ?_ | refine cond_if ?_ ?_ | refine cond_ways ?_ ?_ | refine guard_if ?_ ?_ | refine guard_ways ?_ ?_) <;> intro _) | (((with_reducible refine call_id ?_); (first | (refine call_pure (hl) ?_) | (refine call_pure (cG) ?_) | (refine call_pure (cB) ?_) | (refine call_pure (c1) ?_) | (refine call_pure (c2) ?_) | (refine call_pure (c3) ?_) | (refine call_pure (c4) ?_)))) | simp (maxSteps := 1000000) (disch := omega) only [go_sem, Nat.reduceAdd, Nat.reduceMul, Nat.reduceSub, Nat.reduceLeDiff, Nat.reduceEqDiff, Nat.reduceBEq, ↓reduceIte, reduceCtorEq, Int.reduceEq, Int.reduceLE, Int.reduceLT, Int.reduceAdd, Int.reduceSub, Int.reduceNeg, Int.reduceToNat, Int.reduceNe, Nat.reducePow, Nat.reduceShiftRight, Nat.reduceMod, mc_law04_TermAnswers, beq_self_eq_true, *])
  clear hl cG cB c1 c2 c3 c4
  refine c_loopW 4611615649683226880 (by kernel_rfl) (fun j f H m => ∃ i : Nat, j = a.spine.2.length - i ∧ i ≤ a.spine.2.length ∧ f 14 = .sc (.int .i64 i)) _ ⟨0, rfl, Nat.zero_le _, by simp [upd]⟩ ?_
  rintro _ f H m ⟨i, rfl, hi, e14⟩
  by_cases hlt : i < a.spine.2.length
  · have eg : a.spine.2[i]? = some a.spine.2[i] := List.getElem?_eq_getElem hlt
    have c5 := SameTerm_p a.spine.2[i].size a.spine.2[i] a.spine.2[i] (Nat.le_refl _)
    rw [(tsame_iff a.spine.2[i] a.spine.2[i]).2 rfl] at c5
    repeat' (first | ((with_reducible first | refine cond_pos (by omega) ?_ | refine cond_neg (by omega) ?_ | refine guard_pos (by omega) ?_ | refine guard_neg (by omega) ?_ | refine cond_ifn ?_ ?_ | refine cond_waysn ?_ ?_ | refine guard_ifn ?_ ?_ | refine guard_waysn ?_ ?_ | refine cond_if ?_ ?_ | refine cond_ways ?_ ?_ | refine guard_if ?_ ?_ | refine guard_ways ?_ ?_) <;> intro _) | (((with_reducible refine call_id ?_); (first | (refine call_pure (c5) ?_)))) | simp (maxSteps := 1000000) (disch := omega) only [go_sem, Nat.reduceAdd, Nat.reduceMul, Nat.reduceSub, Nat.reduceLeDiff, Nat.reduceEqDiff, Nat.reduceBEq, ↓reduceIte, reduceCtorEq, Int.reduceEq, Int.reduceLE, Int.reduceLT, Int.reduceAdd, Int.reduceSub, Int.reduceNeg, Int.reduceToNat, Int.reduceNe, Nat.reducePow, Nat.reduceShiftRight, Nat.reduceMod, *])
    exact Nx.mk (a.spine.2.length - (i + 1)) (by first | assumption | omega | rfl | (simp (disch := omega) only [go_sem, Nat.reduceMul, Nat.reduceSub, Nat.reduceShiftRight, Nat.reduceMod, Nat.reduceEqDiff, Nat.reduceAdd, ↓reduceIte, Nat.reduceLeDiff, *] <;> omega)) ⟨i + 1, rfl, (by first | assumption | omega | rfl | (simp (disch := omega) only [go_sem, Nat.reduceMul, Nat.reduceSub, Nat.reduceShiftRight, Nat.reduceMod, Nat.reduceEqDiff, Nat.reduceAdd, ↓reduceIte, Nat.reduceLeDiff, *] <;> omega)), by simp [upd]⟩
  · obtain rfl : i = a.spine.2.length := by omega
    have hwk : ∀ xs : List PV, WeakL (PV.agg (a.pvB true) :: xs) (.agg a.pv :: xs) := fun xs => ⟨tm_agg true a, .refl _⟩
    have d1 := (tRight_p a (by omega) n k).weak (hwk _) (.refl _)
    have d2 := ref04_Right_p a n k
    have d3 := (tNodes_p a (by omega)).weak (hwk _) (.refl _)
    have d4 : PPure Tryz.prog F.ref04_Nodes [.agg a.pv, .sc (.int .i64 2000)] (.sc (.int .i64 (min a.nodes 2001 : Nat))) := ref_Nodes_p 2000 (by omega) a.size a (Nat.le_refl _)
    have d5 := (tLoose_p a (by omega)).weak (hwk _) (.refl _)
    have d6 := ref04_Loose_p a
    have d7 := tSame_p a b true false rfl
    rw [tpv_false] at d7
    have d8 := SameTerm_p a.size a b (Nat.le_refl _)
    have d9 := (Consts_p a (by omega)).weak (hwk _) (.refl _)
    have d10 := ref04_Consts_p a (by omega)
    have d11 := SameTexts_p (constsT a) (rconstsT a)
    rw [decide_eq_true (show constsT a = rconstsT a from consts_same a)] at d11
    have d12 := (SameTerm_p a.size a a (Nat.le_refl _)).weak (hwk _) (.refl _)
    rw [(tsame_iff a a).2 rfl] at d12
    generalize a.right n k = r1 at d1 d2
    generalize a.same b = r2 at d7 d8
    clear hwk
    cases r1 <;> cases r2
    all_goals
      repeat' (first | ((with_reducible first | refine cond_pos (by omega) ?_ | refine cond_neg (by omega) ?_ | refine guard_pos (by omega) ?_ | refine guard_neg (by omega) ?_ | refine cond_ifn ?_ ?_ | refine cond_waysn ?_ ?_ | refine guard_ifn ?_ ?_ | refine guard_waysn ?_ ?_ | refine cond_if ?_ ?_ | refine cond_ways ?_ ?_ | refine guard_if ?_ ?_ | refine guard_ways ?_ ?_) <;> intro _) | (((with_reducible refine call_id ?_); (first | (refine call_pure (d1) ?_) | (refine call_pure (d2) ?_) | (refine call_pure (d3) ?_) | (refine call_pure (d4) ?_) | (refine call_pure (d5) ?_) | (refine call_pure (d6) ?_) | (refine call_pure (d7) ?_) | (refine call_pure (d8) ?_) | (refine call_pure (d9) ?_) | (refine call_pure (d10) ?_) | (refine call_pure (d11) ?_) | (refine call_pure (d12) ?_)))) | simp (maxSteps := 1000000) (disch := omega) only [go_sem, Nat.reduceAdd, Nat.reduceMul, Nat.reduceSub, Nat.reduceLeDiff, Nat.reduceEqDiff, Nat.reduceBEq, ↓reduceIte, reduceCtorEq, Int.reduceEq, Int.reduceLE, Int.reduceLT, Int.reduceAdd, Int.reduceSub, Int.reduceNeg, Int.reduceToNat, Int.reduceNe, Nat.reducePow, Nat.reduceShiftRight, Nat.reduceMod, beq_self_eq_true, *])
      all_goals (refine fin_tmp (.inr rfl) ?_; (first | rfl | (simp (disch := omega) only [go_sem, Nat.reduceMul, Nat.reduceSub, Nat.reduceShiftRight, Nat.reduceMod, Nat.reduceEqDiff, Nat.reduceAdd, ↓reduceIte, Nat.reduceLeDiff, *]; done) | (simp [upd, *]; done) | (simp [upd, *]; omega)))
end
end Go.Proofs.YtfhblaggeahbjaaGreat
