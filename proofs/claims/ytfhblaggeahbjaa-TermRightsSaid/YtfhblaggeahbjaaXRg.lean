/-
  Plain values: Tm5, Tm6, Tm7, Tm8, TnF, TnP, LvO, TmOp, TnG.
-/
import Derived.Sort.Row
import Derived.Sort.Grow
import Derived.Lib.RowBridge
import Derived.Test.YtfhblaggeahbjaaXRa
import Derived.Test.YtfhblaggeahbjaaXRb
import Derived.Test.YtfhblaggeahbjaaXRc
import Derived.Test.YtfhblaggeahbjaaXRd
import Derived.Test.YtfhblaggeahbjaaXRe
import Derived.Test.YtfhblaggeahbjaaXRf
set_option linter.unusedVariables false
set_option linter.unusedSimpArgs false
namespace Go.Proofs.Ytfhblaggeahbjaa
open Go.RowKit
attribute [local go_sem ↓] c_seq c_region c_cond c_block c_ret c_skip c_exit c_cont t_normal t_ret t_exit b_normal b_ret b_exit run_nil run_cons g_some o_mv o_pick o_bin o_un o_ld o_bld o_len o_mkf o_nilc o_fa o_fd o_ia o_iaa o_ix o_ixs o_ext o_al o_bxf o_bxt o_bsl o_bslf o_mks o_st o_stf o_call o_rng o_nxt o_callm o_calvm o_calv cond_true cond_false upd_get sigF_cons o_eqa o_mm o_app o_slc
attribute [local go_sem] num_nil num_cons chunks rngV next_is next_iter val_some new_some st_some stf_some guard_tt guard_ff guard_tf guard_ft guard_un calv_fn put_some put_none ev_tmp ev_const ev_func sig_eq sigF_nil q0 q1 nilcV faV fdV iaV iaaV ixV ixsV extV mksV loadP storeP lenPV binPV unPV intBin partsP fillP zeros PV.good PV.cellsOf PV.one q2 q3 q4 q5 q6 q7 q8 q9 q10 q11 q12 q13 q14 q15 q16 q17 q18 q19 q20 q21 q22 q23 q24 q25 q26 q27 q28 q29 q30 q31 q32 q33 q34 q35 q36 q37 q38 wrap64 app_some mmL mmV mm2 eqE eqParts eqInt eqBool eqStr partV q39 q40 pickV q41 q42 q43 q44 q45 q46 q47 q48 q49 appE oldOf rowOf updL q50 q51 q52 q53 zlt ovr_get ite_neN ite_eqN q54 q55 q56 q57 q58 q59 q60 q61 q62 q63 q64 q65 q66 q67 tailP_f tailP_t tailF_f tailF_t slcP bndO capO slcLen intOf Option.isSome_none Option.isNone_none Option.isSome_some Option.isNone_some nilP slc_sl slc_csl slc_osl slc_osl0 slc_ocap slc_str List.append_nil List.length_append resP resPs resP1 PV.sc.injEq Value.bool.injEq Value.int.injEq
section
open Go.RowKit Go.Sort
def sortT (ss : List ByteArray) : List ByteArray := ((ss.map (·.data.toList)).mergeSort fun x y => decide (x ≤ y)).map fun l => ⟨l.toArray⟩
theorem sortT_len (ss : List ByteArray) : (sortT ss).length = ss.length := by simp [sortT, List.length_mergeSort]
theorem txt_get (ss : List ByteArray) (i : Nat) : (ss.flatMap txt)[i]? = (ss[i]?).map fun s => PV.sc (.string s) := by
  have : ss.flatMap txt = ss.map fun s => PV.sc (.string s) := by
    induction ss with
    | nil => rfl
    | cons x r ih => simp only [List.flatMap_cons, List.map_cons, ih]; rfl
  rw [this, List.getElem?_map]
theorem txt_flen (ss : List ByteArray) : (ss.flatMap txt).length = ss.length := by rw [← txts_flat, txts_len]
set_option maxHeartbeats 2000000 in
theorem sSort_m (ss : List ByteArray) (hl : ss.length ≤ 2 ^ 40) (H : Nat → Option PObj) (nx id : Nat) (wh : Bool) (hH : H id = some ⟨ss.flatMap txt, wh⟩) :
    PMut Try.prog F.slices_Sort_string_string [.osl id 0 ss.length 1] H nx (fun H' nx' r => r = .tup [] ∧ nx' = nx ∧ H' = upd H id (some ⟨(sortT ss).flatMap txt, wh⟩)) := by
  refine ⟨is_slices_Sort_string_string.enters, fun w0 ok0 rho w vals hR hfree hv => ?_⟩
  obtain ⟨v1, hv1, hr1⟩ := hv.get (i := 0) (x := .osl id 0 ss.length 1) rfl
  have hvals : vals = [v1] := by
    have h1 := hv.1
    match vals, h1, hv1 with
    | [x], _, h => simp at h; rw [h]
  subst hvals
  obtain ⟨b, cap, c0, T0, fr0, rfl, hb, h1, h2, hsh, hfit⟩ := hr1.osl_inv
  obtain ⟨b', hb', hlow, hobj⟩ := hR.own id _ hH
  have hb2 : rho id = some b := hb
  rw [hb2] at hb'
  cases hb'
  obtain ⟨c, T, hc, hle, hwh, hcells⟩ := hobj.cells ⟨_, _, _, hsh⟩
  have hc' : w.heap[b]? = some (.cells c T (0, 0)) := hc
  have hblt : b < w.heap.size := (Array.getElem?_eq_some_iff.1 hc').1
  simp only [txt_flen] at hle hwh
  have hin : ∀ j (hj : j < ss.length), c[j]? = some (.string ss[j]) := fun j hj => by
    have hjc : j < c.size := by omega
    have h3 := hcells j (.sc (.string ss[j])) c[j] (by rw [txt_get, List.getElem?_eq_getElem hj]; rfl) (Array.getElem?_eq_getElem hjc)
    rw [Array.getElem?_eq_getElem hjc, ← h3.sc_inv]
  have hH2 : Holds encStr w b 0 (ss.map (·.data.toList)).toArray := fun j hj => by
    have hj' : j < ss.length := by simpa using hj
    refine ⟨?_, by simp [World.frozen?, hc']⟩
    have e : (ss.map (·.data.toList)).toArray[j]! = ss[j].data.toList := by simp [getElem!_pos, hj']
    rw [e, Nat.zero_add]
    have e2 := hin j hj'
    have e3 : encStr ss[j].data.toList = .string ss[j] := by simp [encStr]
    rw [e3]
    simpa [World.cell?, hc'] using e2
  have hcall := Try.slices_Sort_string b 0 cap (ss.map (·.data.toList)) w hH2 hblt (by simp; omega)
  rw [List.length_map] at hcall
  refine hcall.mono ?_
  rintro e w' ⟨rfl, n, os, rfl⟩
  have hsz : (putRow encStr (Sort.ahead w n) b 0 ((ss.map (·.data.toList)).mergeSort fun x y => decide (x ≤ y)).toArray).heap.size = w.heap.size := by simp [putRow, mapBlock, Sort.ahead]
  have hold : ∀ k, k < w.heap.size → (grow (putRow encStr (Sort.ahead w n) b 0 ((ss.map (·.data.toList)).mergeSort fun x y => decide (x ≤ y)).toArray) os).heap[k]? = (putRow encStr (Sort.ahead w n) b 0 ((ss.map (·.data.toList)).mergeSort fun x y => decide (x ≤ y)).toArray).heap[k]? := fun k hk => heap_grow_old _ os (by rw [hsz]; exact hk)
  obtain ⟨h5, h6⟩ := change_ext (o' := ⟨(sortT ss).flatMap txt, wh⟩) (c' := putCells encStr 0 ((ss.map (·.data.toList)).mergeSort fun x y => decide (x ≤ y)).toArray c) (w' := grow (putRow encStr (Sort.ahead w n) b 0 ((ss.map (·.data.toList)).mergeSort fun x y => decide (x ≤ y)).toArray) os) hR hH hb2 hc'
    (by rw [hold b hblt]; simp [putRow, mapBlock, Sort.ahead, Array.getElem?_modify, hc', onCells]) (by simp [putCells]) (fun k hk hkl => by rw [hold k hkl]; simp [putRow, mapBlock, Sort.ahead, Array.getElem?_modify, Ne.symm hk]) rfl rfl rfl (by simp [grow, hsz])
    (by simp only [txt_flen, sortT_len]; simp [putCells]; omega) (fun e => by simp only [txt_flen, sortT_len]; simp [putCells]; exact hwh e) (fun V i x v hx hv => by
      rw [txt_get, Option.map_eq_some_iff] at hx
      obtain ⟨t, ht, rfl⟩ := hx
      have hi : i < ss.length := by have := (List.getElem?_eq_some_iff.1 ht).1; rwa [sortT_len] at this
      have hd : i < ((ss.map (·.data.toList)).mergeSort fun x y => decide (x ≤ y)).length := by simpa [List.length_mergeSort] using hi
      simp only [sortT, List.getElem?_map, List.getElem?_eq_getElem hd, Option.map_some, Option.some.injEq] at ht
      have hic : i < c.size := by omega
      have e4 : v = .string t := by
        simp only [putCells, Array.getElem?_mapIdx, Array.getElem?_eq_getElem hic, Option.map_some, Option.some.injEq] at hv
        rw [← hv, ← ht, if_pos ⟨Nat.zero_le _, by simpa [List.length_mergeSort] using hi⟩]
        simp [encStr]
        rw [List.getElem?_eq_getElem hd]
        rfl
      rw [e4]
      exact .sc _)
  exact ⟨_, upd H id (some ⟨(sortT ss).flatMap txt, wh⟩), nx, .tup [], rho, rfl, ⟨rfl, rfl, rfl⟩, h5, h6, Nat.le_refl _, hfree, fun _ _ => rfl, .tup [] [] rfl fun i x v h => by simp at h⟩
end
section
open Go.RowKit Go.Sort
def bytesT (D : List (List UInt8)) : List ByteArray := D.map fun l => ⟨l.toArray⟩
theorem bytesT_len (D : List (List UInt8)) : (bytesT D).length = D.length := by simp [bytesT]
theorem row_put {w0 : World} {ok0 : Nat → Prop} {H : Nat → Option PObj} {rho : Nat → Option Nat} {w : World} (hR : RelH w0 ok0 H rho w) {id b n : Nat} {wh : Bool} {cs : List PV} {c : Array Value} {T : TypeId} {os : Array Obj} (D : List (List UInt8))
    (hH : H id = some ⟨cs, wh⟩) (hD : D.length = cs.length) (hb : rho id = some b) (hc : w.heap[b]? = some (.cells c T (0, 0))) (hle : cs.length ≤ c.size) (hwh : wh = true → cs.length = c.size) :
    RelH w0 ok0 (upd H id (some ⟨(bytesT D).flatMap txt, wh⟩)) rho (grow (putRow encStr (Sort.ahead w n) b 0 D.toArray) os) ∧ (viewOf w0 ok0 H rho w).Leq (viewOf w0 ok0 (upd H id (some ⟨(bytesT D).flatMap txt, wh⟩)) rho (grow (putRow encStr (Sort.ahead w n) b 0 D.toArray) os)) := by
  have hblt : b < w.heap.size := (Array.getElem?_eq_some_iff.1 hc).1
  have hsz : (putRow encStr (Sort.ahead w n) b 0 D.toArray).heap.size = w.heap.size := by simp [putRow, mapBlock, Sort.ahead]
  have hold : ∀ k, k < w.heap.size → (grow (putRow encStr (Sort.ahead w n) b 0 D.toArray) os).heap[k]? = (putRow encStr (Sort.ahead w n) b 0 D.toArray).heap[k]? := fun k hk => heap_grow_old _ os (by rw [hsz]; exact hk)
  exact change_ext (o' := ⟨(bytesT D).flatMap txt, wh⟩) (c' := putCells encStr 0 D.toArray c) (w' := grow (putRow encStr (Sort.ahead w n) b 0 D.toArray) os) hR hH hb hc
    (by rw [hold b hblt]; simp [putRow, mapBlock, Sort.ahead, Array.getElem?_modify, hc, onCells]) (by simp [putCells]) (fun k hk hkl => by rw [hold k hkl]; simp [putRow, mapBlock, Sort.ahead, Array.getElem?_modify, Ne.symm hk]) rfl rfl rfl (by simp [grow, hsz])
    (by simp only [txt_flen, bytesT_len]; simp [putCells]; omega) (fun e => by simp only [txt_flen, bytesT_len]; simp [putCells]; have := hwh e; omega) (fun V i x v hx hv => by
      rw [txt_get, Option.map_eq_some_iff] at hx
      obtain ⟨t, ht, rfl⟩ := hx
      have hi : i < D.length := by have := (List.getElem?_eq_some_iff.1 ht).1; rwa [bytesT_len] at this
      simp only [bytesT, List.getElem?_map, List.getElem?_eq_getElem hi, Option.map_some, Option.some.injEq] at ht
      have hic : i < c.size := by omega
      have e4 : v = .string t := by
        simp only [putCells, Array.getElem?_mapIdx, Array.getElem?_eq_getElem hic, Option.map_some, Option.some.injEq] at hv
        rw [← hv, ← ht, if_pos ⟨Nat.zero_le _, by simpa using hi⟩]
        simp [encStr]
        rw [List.getElem?_eq_getElem hi]
        rfl
      rw [e4]
      exact .sc _)
theorem row_holds {V : Vw} {id b cap : Nat} {ss : List ByteArray} {wh : Bool} {c : Array Value} {T : TypeId} (hc : V.w.heap[b]? = some (.cells c T (0, 0))) (hle : ss.length ≤ c.size)
    (hcells : ∀ (i : Nat) (x : PV) (v : Value), (ss.flatMap txt)[i]? = some x → c[i]? = some v → Rep V x v) : Holds encStr V.w b 0 (ss.map (·.data.toList)).toArray := fun j hj => by
  have hj' : j < ss.length := by simpa using hj
  refine ⟨?_, by simp [World.frozen?, hc]⟩
  have e : (ss.map (·.data.toList)).toArray[j]! = ss[j].data.toList := by simp [getElem!_pos, hj']
  have hjc : j < c.size := by omega
  have h3 := hcells j (.sc (.string ss[j])) c[j] (by rw [txt_get, List.getElem?_eq_getElem hj']; rfl) (Array.getElem?_eq_getElem hjc)
  have e2 : c[j]? = some (.string ss[j]) := by rw [Array.getElem?_eq_getElem hjc, ← h3.sc_inv]
  have e3 : encStr ss[j].data.toList = .string ss[j] := by simp [encStr]
  rw [e, Nat.zero_add, e3]
  simpa [World.cell?, hc] using e2
def compL (ss : List ByteArray) : List (List UInt8) := Go.Lib.compact (ss.map (·.data.toList))
theorem compL_le (ss : List ByteArray) : (compL ss).length ≤ ss.length := by
  have := Go.Lib.compact_length_le (ss.map (·.data.toList))
  rwa [List.length_map] at this
set_option maxHeartbeats 2000000 in
theorem sCompact_m (ss : List ByteArray) (hl : ss.length ≤ 2 ^ 40) (H : Nat → Option PObj) (nx id : Nat) (wh : Bool) (hH : H id = some ⟨ss.flatMap txt, wh⟩) :
    PMut Try.prog F.slices_Compact_string_string [.osl id 0 ss.length 1] H nx (fun H' nx' r => r = .osl id 0 (compL ss).length 1 ∧ nx' = nx ∧ H' = upd H id (some ⟨(bytesT (compL ss ++ List.replicate (ss.length - (compL ss).length) [])).flatMap txt, wh⟩)) := by
  refine ⟨is_slices_Compact_string_string.enters, fun w0 ok0 rho w vals hR hfree hv => ?_⟩
  obtain ⟨v1, hv1, hr1⟩ := hv.get (i := 0) (x := .osl id 0 ss.length 1) rfl
  have hvals : vals = [v1] := by
    have h1 := hv.1
    match vals, h1, hv1 with
    | [x], _, h => simp at h; rw [h]
  subst hvals
  obtain ⟨b, cap, c0, T0, fr0, rfl, hb, h1, h2, hsh, hfit⟩ := hr1.osl_inv
  obtain ⟨b', hb', hlow, hobj⟩ := hR.own id _ hH
  have hb2 : rho id = some b := hb
  rw [hb2] at hb'
  cases hb'
  obtain ⟨c, T, hc, hle, hwh, hcells⟩ := hobj.cells ⟨_, _, _, hsh⟩
  have hc' : w.heap[b]? = some (.cells c T (0, 0)) := hc
  have hsh' : w.heap[b]? = some (.cells c0 T0 fr0) := hsh
  rw [hc'] at hsh'
  cases hsh'
  have hle' : ss.length ≤ c0.size := by simpa only [txt_flen] using hle
  have hH2 : Holds encStr w b 0 (ss.map (·.data.toList)).toArray := row_holds (V := viewOf w0 ok0 H rho w) (id := id) (cap := cap) (wh := wh) hc hle' hcells
  have hcall := Try.slices_Compact_string b 0 cap (ss.map (·.data.toList)) w hH2 (by simp; omega) (by simpa using h1)
  rw [List.length_map] at hcall
  refine hcall.mono ?_
  rintro e w' ⟨rfl, n, rfl⟩
  have hcl := compL_le ss
  have hg : ∀ W : World, grow W #[] = W := fun W => by simp [grow]
  obtain ⟨h5, h6⟩ := row_put (n := n) (os := #[]) hR (compL ss ++ List.replicate (ss.length - (compL ss).length) []) hH (by rw [txt_flen, List.length_append, List.length_replicate]; omega) hb2 hc' hle hwh
  rw [hg] at h5 h6
  refine ⟨_, _, nx, .osl id 0 (compL ss).length 1, rho, rfl, ⟨rfl, rfl, rfl⟩, h5, h6, Nat.le_refl _, hfree, fun _ _ => rfl, ?_⟩
  obtain ⟨c2, T2, fr2, h7, h8⟩ := h6.shp id b c0 T0 (0, 0) hb2 hc'
  exact .osl id 0 _ 1 cap b c2 T2 fr2 hb2 (by have : (compL ss).length ≤ cap := by omega
                                              exact this) h2 h7 (by omega)
end
section
set_option maxRecDepth 20000
attribute [local go_sem] pv_len pv_take id_ne id_ne' id_ne2 List.append_assoc
theorem one_val {V : Vw} {u : Value} {vals : List Value} (h : RepL V [.sc u] vals) : vals = [u] := by
  obtain ⟨v, hv, hr⟩ := h.get (i := 0) (x := .sc u) rfl
  have h1 := h.1
  match vals, h1, hv with
  | [x], _, h => simp at h; rw [h, hr.sc_inv]
theorem sSort_nil : PPure Try.prog F.slices_Sort_string_string [.sc (.slice none 0 0)] (.tup []) := by
  refine ⟨is_slices_Sort_string_string.enters, fun V nx vals hok hfree hv => ?_⟩
  rw [one_val hv]
  refine (Try.slices_Sort_string_none none 0 V.w).mono ?_
  rintro e w' ⟨rfl, rfl⟩
  exact ⟨_, rfl, Below.refl _ _, .tup [] [] rfl fun i x v h => by simp at h⟩
theorem sCompact_nil : PPure Try.prog F.slices_Compact_string_string [.sc (.slice none 0 0)] (.sc (.slice none 0 0)) := by
  refine ⟨is_slices_Compact_string_string.enters, fun V nx vals hok hfree hv => ?_⟩
  rw [one_val hv]
  refine (Try.slices_Compact_string_empty none 0 V.w).mono ?_
  rintro e w' ⟨rfl, rfl⟩
  exact ⟨_, rfl, Below.refl _ _, .sc _⟩
def sortedT (xs : List ByteArray) : List ByteArray := bytesT (compL (sortT xs))
set_option maxHeartbeats 4000000 in
theorem name_Sort_m (xs : List ByteArray) (hl : xs.length ≤ 2 ^ 40) (H : Nat → Option PObj) (nx : Nat) : PMut Try.prog F.name_Sort [.sl 1 (xs.map txt)] H nx (fun H' nx' r => ∃ k, Weak (frzF k H' r) (.sl 1 ((sortedT xs).map txt))) := by
  refine mut_by is_name_Sort (by simp) fun hb => ?_
  clear hb
  repeat' (first | ((with_reducible first | refine cond_pos (by omega) ?_ | refine cond_neg (by omega) ?_ | refine guard_pos (by omega) ?_ | refine guard_neg (by omega) ?_ | refine cond_ifn ?_ ?_ | refine cond_waysn ?_ ?_ | refine guard_ifn ?_ ?_ | refine guard_waysn ?_ ?_ | refine cond_if ?_ ?_ | refine cond_ways ?_ ?_ | refine guard_if ?_ ?_ | refine guard_ways ?_ ?_) <;> intro _) | simp (maxSteps := 1000000) (disch := omega) only [go_sem, Nat.reduceAdd, Nat.reduceMul, Nat.reduceSub, Nat.reduceLeDiff, Nat.reduceEqDiff, Nat.reduceBEq, ↓reduceIte, reduceCtorEq, Int.reduceEq, Int.reduceLE, Int.reduceLT, Int.reduceAdd, Int.reduceSub, Int.reduceNeg, Int.reduceToNat, Int.reduceNe, Nat.reducePow, Nat.reduceShiftRight, Nat.reduceMod, mc_name_Sort, *])
  refine call_mut (sClone_m xs hl _ _) ?_
  rintro H1 nx1 r1 ⟨hn1, hk1, ⟨rfl, rfl⟩ | ⟨id, g1, g2, rfl, g3⟩⟩ -
  · clear hk1 hn1
    repeat' (first | ((with_reducible first | refine cond_pos (by omega) ?_ | refine cond_neg (by omega) ?_ | refine guard_pos (by omega) ?_ | refine guard_neg (by omega) ?_ | refine cond_ifn ?_ ?_ | refine cond_waysn ?_ ?_ | refine guard_ifn ?_ ?_ | refine guard_waysn ?_ ?_ | refine cond_if ?_ ?_ | refine cond_ways ?_ ?_ | refine guard_if ?_ ?_ | refine guard_ways ?_ ?_) <;> intro _) | (((with_reducible refine call_id ?_); (first | (refine call_pure (sSort_nil) ?_) | (refine call_pure (sCompact_nil) ?_)))) | simp (maxSteps := 1000000) (disch := omega) only [go_sem, Nat.reduceAdd, Nat.reduceMul, Nat.reduceSub, Nat.reduceLeDiff, Nat.reduceEqDiff, Nat.reduceBEq, ↓reduceIte, reduceCtorEq, Int.reduceEq, Int.reduceLE, Int.reduceLT, Int.reduceAdd, Int.reduceSub, Int.reduceNeg, Int.reduceToNat, Int.reduceNe, Nat.reducePow, Nat.reduceShiftRight, Nat.reduceMod, *])
    refine fin_mut (.sc (.slice none 0 0)) (.inr rfl) (by (simp (disch := omega) only [go_sem, Nat.reduceMul, Nat.reduceSub, Nat.reduceShiftRight, Nat.reduceMod, Nat.reduceEqDiff, Nat.reduceAdd, ↓reduceIte, Nat.reduceLeDiff]); all_goals rfl) ⟨0, ?_⟩
    have e : sortedT [] = [] := by
      have := compL_le (sortT [])
      rw [sortT_len] at this
      exact List.eq_nil_of_length_eq_zero (by rw [sortedT, bytesT_len]; simpa using this)
    rw [e]
    exact Weak.nil 1
  · clear hk1 hn1 g1
    repeat' (first | ((with_reducible first | refine cond_pos (by omega) ?_ | refine cond_neg (by omega) ?_ | refine guard_pos (by omega) ?_ | refine guard_neg (by omega) ?_ | refine cond_ifn ?_ ?_ | refine cond_waysn ?_ ?_ | refine guard_ifn ?_ ?_ | refine guard_waysn ?_ ?_ | refine cond_if ?_ ?_ | refine cond_ways ?_ ?_ | refine guard_if ?_ ?_ | refine guard_ways ?_ ?_) <;> intro _) | simp (maxSteps := 1000000) (disch := omega) only [go_sem, Nat.reduceAdd, Nat.reduceMul, Nat.reduceSub, Nat.reduceLeDiff, Nat.reduceEqDiff, Nat.reduceBEq, ↓reduceIte, reduceCtorEq, Int.reduceEq, Int.reduceLE, Int.reduceLT, Int.reduceAdd, Int.reduceSub, Int.reduceNeg, Int.reduceToNat, Int.reduceNe, Nat.reducePow, Nat.reduceShiftRight, Nat.reduceMod, *])
    refine call_mut (sSort_m xs hl _ _ id false (by simpa [upd] using g3)) ?_
    rintro H2 nx2 r2 ⟨rfl, rfl, rfl⟩ -
    have hc := sCompact_m (sortT xs) (by rw [sortT_len]; exact hl)
    rw [sortT_len] at hc
    have hcl := compL_le (sortT xs)
    rw [sortT_len] at hcl
    repeat' (first | ((with_reducible first | refine cond_pos (by omega) ?_ | refine cond_neg (by omega) ?_ | refine guard_pos (by omega) ?_ | refine guard_neg (by omega) ?_ | refine cond_ifn ?_ ?_ | refine cond_waysn ?_ ?_ | refine guard_ifn ?_ ?_ | refine guard_waysn ?_ ?_ | refine cond_if ?_ ?_ | refine cond_ways ?_ ?_ | refine guard_if ?_ ?_ | refine guard_ways ?_ ?_) <;> intro _) | simp (maxSteps := 1000000) (disch := omega) only [go_sem, Nat.reduceAdd, Nat.reduceMul, Nat.reduceSub, Nat.reduceLeDiff, Nat.reduceEqDiff, Nat.reduceBEq, ↓reduceIte, reduceCtorEq, Int.reduceEq, Int.reduceLE, Int.reduceLT, Int.reduceAdd, Int.reduceSub, Int.reduceNeg, Int.reduceToNat, Int.reduceNe, Nat.reducePow, Nat.reduceShiftRight, Nat.reduceMod, *])
    refine call_mut (hc _ _ id false (by simp [upd])) ?_
    rintro H3 nx3 r3 ⟨rfl, rfl, rfl⟩ -
    repeat' (first | ((with_reducible first | refine cond_pos (by omega) ?_ | refine cond_neg (by omega) ?_ | refine guard_pos (by omega) ?_ | refine guard_neg (by omega) ?_ | refine cond_ifn ?_ ?_ | refine cond_waysn ?_ ?_ | refine guard_ifn ?_ ?_ | refine guard_waysn ?_ ?_ | refine cond_if ?_ ?_ | refine cond_ways ?_ ?_ | refine guard_if ?_ ?_ | refine guard_ways ?_ ?_) <;> intro _) | simp (maxSteps := 1000000) (disch := omega) only [go_sem, Nat.reduceAdd, Nat.reduceMul, Nat.reduceSub, Nat.reduceLeDiff, Nat.reduceEqDiff, Nat.reduceBEq, ↓reduceIte, reduceCtorEq, Int.reduceEq, Int.reduceLE, Int.reduceLT, Int.reduceAdd, Int.reduceSub, Int.reduceNeg, Int.reduceToNat, Int.reduceNe, Nat.reducePow, Nat.reduceShiftRight, Nat.reduceMod, *])
    refine fin_mut (.osl id 0 (compL (sortT xs)).length 1) (.inr rfl) (by (simp (disch := omega) only [go_sem, Nat.reduceMul, Nat.reduceSub, Nat.reduceShiftRight, Nat.reduceMod, Nat.reduceEqDiff, Nat.reduceAdd, ↓reduceIte, Nat.reduceLeDiff]); all_goals rfl) ⟨1, ?_⟩
    refine .trans ?_ (Weak.fsl 1 _)
    have hrow : ∀ Hx : Nat → Option PObj, Hx id = some ⟨(bytesT (compL (sortT xs) ++ List.replicate (xs.length - (compL (sortT xs)).length) [])).flatMap txt, false⟩ → Weak (frzF 1 Hx (.osl id 0 (compL (sortT xs)).length 1)) (.fsl 1 ((sortedT xs).map txt)) := fun Hx hx => by
      have hlen : ((bytesT (compL (sortT xs) ++ List.replicate (xs.length - (compL (sortT xs)).length) [])).flatMap txt).length = xs.length := by rw [txt_flen, bytesT_len, List.length_append, List.length_replicate]; omega
      have htk : ((bytesT (compL (sortT xs) ++ List.replicate (xs.length - (compL (sortT xs)).length) [])).flatMap txt).take ((compL (sortT xs)).length * 1) = (sortedT xs).flatMap txt := by
        rw [bytesT, List.map_append, List.flatMap_append]
        exact List.take_left' (by rw [txt_flen, List.length_map]; omega)
      simp only [frzF, hx, List.drop_zero]
      rw [if_pos (by omega), htk]
      refine Weak.fslW (by rw [chunks_length, List.length_map, sortedT, bytesT_len]) (fun e he => ?_) ?_
      · obtain ⟨t, _, rfl⟩ := List.mem_map.1 he; rfl
      · rw [chunks_flatten 1 _ _ (by rw [List.length_map, txt_flen, sortedT, bytesT_len]; omega), txts_flat]
        rw [List.map_id']
        exact .refl _
    exact hrow _ (by simp [upd])
theorem name_Sort_p (xs : List ByteArray) (hl : xs.length ≤ 2 ^ 40) : PPure Try.prog F.name_Sort [.sl 1 (xs.map txt)] (.sl 1 ((sortedT xs).map txt)) := by
  refine PMut.pure ?_ (fun nx => name_Sort_m xs hl noneOwn nx) fun nx H' nx' r0 h => h
  have : ∀ ys : List ByteArray, immLL (ys.map txt) = true := fun ys => by
    induction ys with
    | nil => rfl
    | cons y r ih => simp only [List.map_cons, immLL, ih]; rfl
  simp [PV.imm, this]
end
section
set_option maxRecDepth 20000
attribute [local go_sem] pv_len pv_take Nat.add_assoc tm_len tm_take pv_one tm_one id_ne id_ne' id_ne2 List.append_assoc
def nameOf : Tm → List ByteArray
  | .mk k _ s _ _ => if k = 3 then [s] else []
def namesOf (us : List Tm) : List ByteArray := us.flatMap nameOf
theorem namesOf_len : ∀ us : List Tm, (namesOf us).length ≤ us.length
  | [] => by simp [namesOf]
  | x :: r => by
    have h1 := namesOf_len r
    have h2 : (nameOf x).length ≤ 1 := by
      cases x
      simp only [nameOf]
      split <;> simp
    show (nameOf x ++ namesOf r).length ≤ _
    rw [List.length_append, List.length_cons]
    omega
theorem name_of_pv {a b : Tm} (h : nodePV a = nodePV b) : nameOf a = nameOf b := by
  cases a; cases b
  simp only [nodePV, Tm.pv, PV.ptr.injEq, List.cons.injEq, PV.sc.injEq, Value.int.injEq, Value.string.injEq, true_and, and_true] at h
  simp only [nameOf, h.1, h.2.2.1]
theorem names_of_pv : ∀ {us vs : List Tm}, us.map nodePV = vs.map nodePV → namesOf us = namesOf vs
  | [], [], _ => rfl
  | [], _ :: _, h => by simp at h
  | _ :: _, [], h => by simp at h
  | a :: us, b :: vs, h => by
    simp only [List.map_cons, List.cons.injEq] at h
    have := names_of_pv h.2
    simp only [namesOf, List.flatMap_cons] at this ⊢
    rw [name_of_pv h.1, this]
mutual
theorem pre_len : ∀ t : Tm, t.pre.length ≤ t.nodes
  | .mk k n s ls args => by
    have := preL_len args
    simp only [Tm.pre, List.length_cons, Tm.nodes]
    omega
theorem preL_len : ∀ ts : List Tm, (preL ts).length ≤ nodesT ts
  | [] => by simp [preL, nodesT]
  | x :: r => by
    have := pre_len x
    have := preL_len r
    simp only [preL, List.length_append, nodesT]
    omega
end
def constsT (t : Tm) : List ByteArray := if t.right 4 1125899906842624 = true then sortedT (namesOf t.pre) else []
theorem RowAt.noIt {H : Nat → Option PObj} {lo m sz : Nat} {a : PV} {xs : List ByteArray} {n : Nat} (h : RowAt H lo m sz a (xs.flatMap txt) n) : RowAt (noIt H) lo m sz a (xs.flatMap txt) n := by
  rcases h with h | ⟨id, h1, h2, h3, h4⟩
  · exact .inl h
  · refine .inr ⟨id, h1, h2, h3, noIt_keep h4 ?_⟩
    cases xs with
    | nil => rfl
    | cons x r => cases r <;> rfl
theorem row_give {Hx : Nat → Option PObj} {id : Nat} {w : Bool} (xs : List ByteArray) (n : Nat) (h : Hx id = some ⟨xs.flatMap txt, w⟩) (hn : n = xs.length := by rfl) : WeakL ([PV.osl id 0 n 1].map (frgF (fun j => decide (j = id)) 1 Hx)) [.sl 1 (xs.map txt)] := by
  subst hn
  have hlen := txt_flen xs
  simp only [List.map_cons, List.map_nil, frgF, decide_true, if_true, h, List.drop_zero]
  rw [if_pos (by omega), List.take_of_length_le (by omega)]
  refine ⟨.trans (Weak.fslW (es' := xs.map txt) (by rw [chunks_length, List.length_map]) (fun e he => ?_) ?_) (Weak.fsl 1 _), trivial⟩
  · obtain ⟨t, _, rfl⟩ := List.mem_map.1 he; rfl
  · rw [chunks_flatten 1 _ _ (by rw [List.length_map]; omega), txts_flat, List.map_id']
    exact .refl _
set_option maxHeartbeats 4000000 in
theorem Consts_m (t : Tm) (hm : t.nodes ≤ 2 ^ 40) (H : Nat → Option PObj) (nx : Nat) : PMut Try.prog F.term_Consts [.agg t.pv] H nx (fun H' nx' r => ∃ k, Weak (frzF k H' r) (.sl 1 ((constsT t).map txt))) := by
  refine mut_byR is_term_Consts (by simp) fun hb => ?_
  clear hb
  have c1 := tRight_p t hm 4 1125899906842624
  by_cases hr : t.right 4 1125899906842624 = true
  · rw [hr] at c1
    have e : constsT t = sortedT (namesOf t.pre) := by simp [constsT, hr]
    rw [e]
    clear e hr
    repeat' (first | ((with_reducible first | refine cond_pos (by omega) ?_ | refine cond_neg (by omega) ?_ | refine guard_pos (by omega) ?_ | refine guard_neg (by omega) ?_ | refine cond_ifn ?_ ?_ | refine cond_waysn ?_ ?_ | refine guard_ifn ?_ ?_ | refine guard_waysn ?_ ?_ | refine cond_if ?_ ?_ | refine cond_ways ?_ ?_ | refine guard_if ?_ ?_ | refine guard_ways ?_ ?_) <;> intro _) | (((with_reducible refine call_id ?_); (first | (refine call_pure (all_p t) ?_) | (refine call_pure (c1) ?_)))) | simp (maxSteps := 1000000) (disch := omega) only [go_sem, Nat.reduceAdd, Nat.reduceMul, Nat.reduceSub, Nat.reduceLeDiff, Nat.reduceEqDiff, Nat.reduceBEq, ↓reduceIte, reduceCtorEq, Int.reduceEq, Int.reduceLE, Int.reduceLT, Int.reduceAdd, Int.reduceSub, Int.reduceNeg, Int.reduceToNat, Int.reduceNe, Nat.reducePow, Nat.reduceShiftRight, Nat.reduceMod, mc_term_Consts, *])
    clear c1
    refine c_rng (all_seq t) (by simp [ev, upd]) (fun pre H' m => ∃ (us : List Tm) (a : PV), pre = us.map nodePV ∧ nx + 7 ≤ m ∧ H' (nx + 5) = some ⟨[a], true⟩ ∧ RowAt H' (nx + 5) m 1 a ((namesOf us).flatMap txt) (namesOf us).length)
      ⟨[], _, rfl, Nat.le_refl _, noIt_keep (by simp [upd]) rfl, .inl ⟨rfl, rfl⟩⟩ ?round ?done
    case round =>
      rintro pre x H' m hx hlen ⟨us, a, rfl, hm2, h1, hrow⟩ hnx
      obtain ⟨u, hu, rfl⟩ := List.mem_map.1 hx
      have hus : (us.map nodePV ++ [nodePV u]) = (us ++ [u]).map nodePV := by simp
      rw [hus]
      have hpl := pre_len t
      have hnl := namesOf_len us
      simp only [List.length_map] at hlen
      have hz : ((namesOf us).length + 1) * 16 ≤ 140737488355328 ∧ (namesOf us).length ≤ 4611686018427387903 := by omega
      have hfl := txt_flen (namesOf us)
      have hnm : namesOf (us ++ [u]) = namesOf us ++ nameOf u := by simp [namesOf]
      clear hx hu hus hpl hnl hlen hnx
      cases u with
      | mk k n s ls args =>
      simp only [nameOf] at hnm
      simp only [nodePV]
      by_cases h3 : k = 3
      · rw [if_pos h3] at hnm
        subst h3
        rcases hrow with ⟨h0, rfl⟩ | ⟨id, g1, g2, rfl, g3⟩
        · have hn0 : namesOf us = [] := List.eq_nil_of_length_eq_zero h0
          have hnk := Kept.mk hnm
          clear hnm
          repeat' (first | ((with_reducible first | refine cond_pos (by omega) ?_ | refine cond_neg (by omega) ?_ | refine guard_pos (by omega) ?_ | refine guard_neg (by omega) ?_ | refine cond_ifn ?_ ?_ | refine cond_waysn ?_ ?_ | refine guard_ifn ?_ ?_ | refine guard_waysn ?_ ?_ | refine cond_if ?_ ?_ | refine cond_ways ?_ ?_ | refine guard_if ?_ ?_ | refine guard_ways ?_ ?_) <;> intro _) | simp (maxSteps := 1000000) (disch := omega) only [go_sem, Nat.reduceAdd, Nat.reduceMul, Nat.reduceSub, Nat.reduceLeDiff, Nat.reduceEqDiff, Nat.reduceBEq, ↓reduceIte, reduceCtorEq, Int.reduceEq, Int.reduceLE, Int.reduceLT, Int.reduceAdd, Int.reduceSub, Int.reduceNeg, Int.reduceToNat, Int.reduceNe, Nat.reducePow, Nat.reduceShiftRight, Nat.reduceMod, Tm.pv, *])
          exact rq_normal ⟨us ++ [.mk 3 n s ls args], .osl (m + 11) 0 1 1, rfl, (by show nx + 7 ≤ m + 13; omega), noIt_keep (by simp [upd]) rfl, RowAt.noIt (.inr ⟨m + 11, by omega, (by show m + 11 < m + 13; omega), by rw [hnk.out, hn0]; rfl, by rw [hnk.out, hn0]; simp [upd, txt, show m + 11 ≠ nx + 5 by omega]⟩)⟩
        · have hnk := Kept.mk hnm
          clear hnm
          repeat' (first | ((with_reducible first | refine cond_pos (by omega) ?_ | refine cond_neg (by omega) ?_ | refine guard_pos (by omega) ?_ | refine guard_neg (by omega) ?_ | refine cond_ifn ?_ ?_ | refine cond_waysn ?_ ?_ | refine guard_ifn ?_ ?_ | refine guard_waysn ?_ ?_ | refine cond_if ?_ ?_ | refine cond_ways ?_ ?_ | refine guard_if ?_ ?_ | refine guard_ways ?_ ?_) <;> intro _) | simp (maxSteps := 1000000) (disch := omega) only [go_sem, Nat.reduceAdd, Nat.reduceMul, Nat.reduceSub, Nat.reduceLeDiff, Nat.reduceEqDiff, Nat.reduceBEq, ↓reduceIte, reduceCtorEq, Int.reduceEq, Int.reduceLE, Int.reduceLT, Int.reduceAdd, Int.reduceSub, Int.reduceNeg, Int.reduceToNat, Int.reduceNe, Nat.reducePow, Nat.reduceShiftRight, Nat.reduceMod, Tm.pv, *])
          exact rq_normal ⟨us ++ [.mk 3 n s ls args], .osl (m + 11) 0 ((namesOf us).length + 1) 1, rfl, (by show nx + 7 ≤ m + 13; omega), noIt_keep (by simp [upd]) rfl, RowAt.noIt (.inr ⟨m + 11, by omega, (by show m + 11 < m + 13; omega), by rw [hnk.out, List.length_append]; rfl, by rw [hnk.out, List.flatMap_append]; simp [upd, txt, show m + 11 ≠ nx + 5 by omega]⟩)⟩
      · rw [if_neg h3] at hnm
        have hnk := Kept.mk hnm
        have hrk := Kept.mk hrow
        clear hnm hrow
        repeat' (first | ((with_reducible first | refine cond_pos (by omega) ?_ | refine cond_neg (by omega) ?_ | refine guard_pos (by omega) ?_ | refine guard_neg (by omega) ?_ | refine cond_ifn ?_ ?_ | refine cond_waysn ?_ ?_ | refine guard_ifn ?_ ?_ | refine guard_waysn ?_ ?_ | refine cond_if ?_ ?_ | refine cond_ways ?_ ?_ | refine guard_if ?_ ?_ | refine guard_ways ?_ ?_) <;> intro _) | simp (maxSteps := 1000000) (disch := omega) only [go_sem, Nat.reduceAdd, Nat.reduceMul, Nat.reduceSub, Nat.reduceLeDiff, Nat.reduceEqDiff, Nat.reduceBEq, ↓reduceIte, reduceCtorEq, Int.reduceEq, Int.reduceLE, Int.reduceLT, Int.reduceAdd, Int.reduceSub, Int.reduceNeg, Int.reduceToNat, Int.reduceNe, Nat.reducePow, Nat.reduceShiftRight, Nat.reduceMod, Tm.pv, *])
        have hit : PObj.isIt ⟨[a], true⟩ = false := by
          rcases hrk.out with ⟨_, rfl⟩ | ⟨_, _, _, rfl, _⟩ <;> rfl
        exact rq_normal ⟨us ++ [.mk k n s ls args], a, rfl, (by show nx + 7 ≤ m + 5; omega), noIt_keep h1 hit, RowAt.noIt (by rw [hnk.out, List.append_nil]; exact hrk.out.mono (by show m ≤ m + 5; omega) fun _ _ _ => rfl)⟩
    case done =>
      rintro H' m ⟨us, a, hus, hm2, h1, hrow⟩ hnx
      rw [← names_of_pv hus] at hrow
      clear hus hnx
      have hpl := pre_len t
      have hnl := namesOf_len t.pre
      have hc := name_Sort_p (namesOf t.pre) (by omega)
      rcases hrow with ⟨h0, rfl⟩ | ⟨id, g1, g2, rfl, g3⟩
      · have hn0 : namesOf t.pre = [] := List.eq_nil_of_length_eq_zero h0
        rw [hn0] at hc ⊢
        have hc' : PPure Try.prog F.name_Sort [.sc (.slice none 0 0)] (.sl 1 ((sortedT []).map txt)) := hc.weak ⟨.nil 1, trivial⟩ (.refl _)
        clear hc hn0 h0 hpl hnl
        repeat' (first | ((with_reducible first | refine cond_pos (by omega) ?_ | refine cond_neg (by omega) ?_ | refine guard_pos (by omega) ?_ | refine guard_neg (by omega) ?_ | refine cond_ifn ?_ ?_ | refine cond_waysn ?_ ?_ | refine guard_ifn ?_ ?_ | refine guard_waysn ?_ ?_ | refine cond_if ?_ ?_ | refine cond_ways ?_ ?_ | refine guard_if ?_ ?_ | refine guard_ways ?_ ?_) <;> intro _) | (((with_reducible refine call_id ?_); (first | (refine call_pure (hc') ?_)))) | simp (maxSteps := 1000000) (disch := omega) only [go_sem, Nat.reduceAdd, Nat.reduceMul, Nat.reduceSub, Nat.reduceLeDiff, Nat.reduceEqDiff, Nat.reduceBEq, ↓reduceIte, reduceCtorEq, Int.reduceEq, Int.reduceLE, Int.reduceLT, Int.reduceAdd, Int.reduceSub, Int.reduceNeg, Int.reduceToNat, Int.reduceNe, Nat.reducePow, Nat.reduceShiftRight, Nat.reduceMod, *])
        refine fin_mut (.sl 1 ((sortedT []).map txt)) (.inr rfl) (by (simp (disch := omega) only [go_sem, Nat.reduceMul, Nat.reduceSub, Nat.reduceShiftRight, Nat.reduceMod, Nat.reduceEqDiff, Nat.reduceAdd, ↓reduceIte, Nat.reduceLeDiff]); all_goals rfl) ⟨0, .refl _⟩
      · repeat' (first | ((with_reducible first | refine cond_pos (by omega) ?_ | refine cond_neg (by omega) ?_ | refine guard_pos (by omega) ?_ | refine guard_neg (by omega) ?_ | refine cond_ifn ?_ ?_ | refine cond_waysn ?_ ?_ | refine guard_ifn ?_ ?_ | refine guard_waysn ?_ ?_ | refine cond_if ?_ ?_ | refine cond_ways ?_ ?_ | refine guard_if ?_ ?_ | refine guard_ways ?_ ?_) <;> intro _) | simp (maxSteps := 1000000) (disch := omega) only [go_sem, Nat.reduceAdd, Nat.reduceMul, Nat.reduceSub, Nat.reduceLeDiff, Nat.reduceEqDiff, Nat.reduceBEq, ↓reduceIte, reduceCtorEq, Int.reduceEq, Int.reduceLE, Int.reduceLT, Int.reduceAdd, Int.reduceSub, Int.reduceNeg, Int.reduceToNat, Int.reduceNe, Nat.reducePow, Nat.reduceShiftRight, Nat.reduceMod, *])
        refine call_mut (PPure.givein (fun j => decide (j = id)) 1 hc ?w) ?_
        case w => exact row_give _ _ g3
        rintro H2 nx2 r2 ⟨rfl, rfl, rfl⟩ -
        repeat' (first | ((with_reducible first | refine cond_pos (by omega) ?_ | refine cond_neg (by omega) ?_ | refine guard_pos (by omega) ?_ | refine guard_neg (by omega) ?_ | refine cond_ifn ?_ ?_ | refine cond_waysn ?_ ?_ | refine guard_ifn ?_ ?_ | refine guard_waysn ?_ ?_ | refine cond_if ?_ ?_ | refine cond_ways ?_ ?_ | refine guard_if ?_ ?_ | refine guard_ways ?_ ?_) <;> intro _) | simp (maxSteps := 1000000) (disch := omega) only [go_sem, Nat.reduceAdd, Nat.reduceMul, Nat.reduceSub, Nat.reduceLeDiff, Nat.reduceEqDiff, Nat.reduceBEq, ↓reduceIte, reduceCtorEq, Int.reduceEq, Int.reduceLE, Int.reduceLT, Int.reduceAdd, Int.reduceSub, Int.reduceNeg, Int.reduceToNat, Int.reduceNe, Nat.reducePow, Nat.reduceShiftRight, Nat.reduceMod, *])
        refine fin_mut (.sl 1 ((sortedT (namesOf t.pre)).map txt)) (.inr rfl) (by (simp (disch := omega) only [go_sem, Nat.reduceMul, Nat.reduceSub, Nat.reduceShiftRight, Nat.reduceMod, Nat.reduceEqDiff, Nat.reduceAdd, ↓reduceIte, Nat.reduceLeDiff]); all_goals rfl) ⟨0, .refl _⟩
  · have e : constsT t = [] := by simp [constsT, hr]
    rw [Bool.not_eq_true] at hr
    rw [hr] at c1
    rw [e]
    clear e hr
    repeat' (first | ((with_reducible first | refine cond_pos (by omega) ?_ | refine cond_neg (by omega) ?_ | refine guard_pos (by omega) ?_ | refine guard_neg (by omega) ?_ | refine cond_ifn ?_ ?_ | refine cond_waysn ?_ ?_ | refine guard_ifn ?_ ?_ | refine guard_waysn ?_ ?_ | refine cond_if ?_ ?_ | refine cond_ways ?_ ?_ | refine guard_if ?_ ?_ | refine guard_ways ?_ ?_) <;> intro _) | (((with_reducible refine call_id ?_); (first | (refine call_pure (c1) ?_)))) | simp (maxSteps := 1000000) (disch := omega) only [go_sem, Nat.reduceAdd, Nat.reduceMul, Nat.reduceSub, Nat.reduceLeDiff, Nat.reduceEqDiff, Nat.reduceBEq, ↓reduceIte, reduceCtorEq, Int.reduceEq, Int.reduceLE, Int.reduceLT, Int.reduceAdd, Int.reduceSub, Int.reduceNeg, Int.reduceToNat, Int.reduceNe, Nat.reducePow, Nat.reduceShiftRight, Nat.reduceMod, mc_term_Consts, *])
    refine fin_mut (.sc (.slice none 0 0)) (.inr rfl) (by (simp (disch := omega) only [go_sem, Nat.reduceMul, Nat.reduceSub, Nat.reduceShiftRight, Nat.reduceMod, Nat.reduceEqDiff, Nat.reduceAdd, ↓reduceIte, Nat.reduceLeDiff]); all_goals rfl) ⟨0, Weak.nil 1⟩
theorem Consts_p (t : Tm) (hm : t.nodes ≤ 2 ^ 40) : PPure Try.prog F.term_Consts [.agg t.pv] (.sl 1 ((constsT t).map txt)) := by
  refine PMut.pure ?_ (fun nx => Consts_m t hm noneOwn nx) fun nx H' nx' r0 h => h
  have : ∀ ys : List ByteArray, immLL (ys.map txt) = true := fun ys => by
    induction ys with
    | nil => rfl
    | cons y r ih => simp only [List.map_cons, immLL, ih]; rfl
  simp [PV.imm, this]
end
section
set_option maxRecDepth 20000
attribute [local go_sem] pv_len pv_take Nat.add_assoc tm_len tm_take pv_one tm_one tpvB_len tpvB_take tpvB_one pvB_len pvB_take pvB_one id_ne id_ne' id_ne2 List.append_assoc tm_take_app tm_drop_app tm_take10 tm_drop10 tm_drop15 tm_drop
mutual
theorem lpv_false : ∀ l : Lv, l.pvB false = l.pv
  | .mk k n args => by simp only [Lv.pvB, Lv.pv, slB, lpvs_false args]; rfl
theorem lpvs_false : ∀ ls : List Lv, ls.map (Lv.pvB false) = ls.map Lv.pv
  | [] => rfl
  | x :: r => by rw [List.map_cons, List.map_cons, lpv_false x, lpvs_false r]
end
mutual
theorem tpv_false : ∀ t : Tm, t.pvB false = t.pv
  | .mk k n s ls args => by simp only [Tm.pvB, Tm.pv, slB, lpvs_false ls, tpvs_false args]; rfl
theorem tpvs_false : ∀ ts : List Tm, ts.map (Tm.pvB false) = ts.map Tm.pv
  | [] => rfl
  | x :: r => by rw [List.map_cons, List.map_cons, tpv_false x, tpvs_false r]
end
theorem tSame_pf (a b : Tm) : PPure Try.prog F.term_Same [.agg (a.pvB true), .agg b.pv] (.sc (.bool (a.same b))) := by
  have := tSame_p a b true false rfl
  rwa [tpv_false] at this
def uL : Lv := .mk 2 0 []
def zL : Lv := .mk 1 0 []
def bA : ByteArray := ⟨#[97]⟩
def bB : ByteArray := ⟨#[98]⟩
def V0 : Tm := .mk 1 0 emp [] []
def V1 : Tm := .mk 1 1 emp [] []
def V2 : Tm := .mk 1 2 emp [] []
def SU : Tm := .mk 2 0 emp [uL] []
def SZ : Tm := .mk 2 0 emp [zL] []
def CA : Tm := .mk 3 0 bA [] []
def CB : Tm := .mk 3 0 bB [] []
def CBz : Tm := .mk 3 0 bB [zL] []
def idT : Tm := .mk 5 0 emp [] [SU, .mk 5 0 emp [] [V0, V0]]
def xT : Tm := .mk 5 0 emp [] [SZ, .mk 5 0 emp [] [V0, V0]]
def apT : Tm := .mk 4 0 emp [] [.mk 4 0 emp [] [idT, CA], CBz]
def arT : Tm := .mk 6 0 emp [] [V0, .mk 6 0 emp [] [SZ, V2]]
def baT : Tm := .mk 4 0 emp [] [CB, CA]
def leT : Tm := .mk 7 0 emp [] [SZ, V0, V1]
theorem noS_emp : noS emp = true := by simp [noS]
theorem nb_A : nameB bA = true := by rfl
theorem nb_B : nameB bB = true := by rfl
theorem ev_spine : apT.spine = (idT, [CA, CBz]) := by rfl
theorem ev_r1 : idT.right 1 0 = true := by simp [Tm.right, Tm.formed, formedA, hasB, constB, headR, Lv.right, Lv.formed, formedL, Lv.nodes, nodesL, Tm.nodes, nodesT, deepB, noS_emp, nb_A, nb_B, idT, xT, SU, SZ, V0, V1, V2, uL, zL, leT, CA, CB, baT]; omega
theorem ev_r2 : idT.right 0 0 = false := by simp [Tm.right, Tm.formed, formedA, hasB, constB, headR, Lv.right, Lv.formed, formedL, Lv.nodes, nodesL, Tm.nodes, nodesT, deepB, noS_emp, nb_A, nb_B, idT, xT, SU, SZ, V0, V1, V2, uL, zL, leT, CA, CB, baT]
theorem ev_r3 : xT.right 0 0 = true := by simp [Tm.right, Tm.formed, formedA, hasB, constB, headR, Lv.right, Lv.formed, formedL, Lv.nodes, nodesL, Tm.nodes, nodesT, deepB, noS_emp, nb_A, nb_B, idT, xT, SU, SZ, V0, V1, V2, uL, zL, leT, CA, CB, baT]; omega
theorem ev_r4 : leT.right 0 1 = true := by simp [Tm.right, Tm.formed, formedA, hasB, constB, headR, Lv.right, Lv.formed, formedL, Lv.nodes, nodesL, Tm.nodes, nodesT, deepB, noS_emp, nb_A, nb_B, idT, xT, SU, SZ, V0, V1, V2, uL, zL, leT, CA, CB, baT]; omega
theorem ev_r5 : idT.right 1 1125899906842624 = true := by simp [Tm.right, Tm.formed, formedA, hasB, constB, headR, Lv.right, Lv.formed, formedL, Lv.nodes, nodesL, Tm.nodes, nodesT, deepB, noS_emp, nb_A, nb_B, idT, xT, SU, SZ, V0, V1, V2, uL, zL, leT, CA, CB, baT]
theorem ev_r6 : V2.right 4 1125899906842624 = true := by simp [Tm.right, Tm.formed, formedA, hasB, constB, headR, Lv.right, Lv.formed, formedL, Lv.nodes, nodesL, Tm.nodes, nodesT, deepB, noS_emp, nb_A, nb_B, idT, xT, SU, SZ, V0, V1, V2, uL, zL, leT, CA, CB, baT]
theorem ev_r7 : baT.right 4 1125899906842624 = true := by simp [Tm.right, Tm.formed, formedA, hasB, constB, headR, Lv.right, Lv.formed, formedL, Lv.nodes, nodesL, Tm.nodes, nodesT, deepB, noS_emp, nb_A, nb_B, idT, xT, SU, SZ, V0, V1, V2, uL, zL, leT, CA, CB, baT]
theorem ev_r8 : V0.right 4 1125899906842624 = true := by simp [Tm.right, Tm.formed, formedA, hasB, constB, headR, Lv.right, Lv.formed, formedL, Lv.nodes, nodesL, Tm.nodes, nodesT, deepB, noS_emp, nb_A, nb_B, idT, xT, SU, SZ, V0, V1, V2, uL, zL, leT, CA, CB, baT]
theorem ev_r9 : SZ.right 4 1125899906842624 = true := by simp [Tm.right, Tm.formed, formedA, hasB, constB, headR, Lv.right, Lv.formed, formedL, Lv.nodes, nodesL, Tm.nodes, nodesT, deepB, noS_emp, nb_A, nb_B, idT, xT, SU, SZ, V0, V1, V2, uL, zL, leT, CA, CB, baT]
theorem ev_levels : levelsR idT [zL] = some xT := by
  have h1 : idT.putL [zL] = some xT := by rfl
  have h2 : xT.nodes ≤ 2000 := by decide
  unfold levelsR
  rw [if_pos (show idT.right (([zL].length : Nat) : Int) 1125899906842624 = true from ev_r5), h1]
  exact if_pos h2
theorem ev_arrow : arrowR V0 [V0, SZ] = .tup [.agg arT.pv, .sc (.bool true)] := by
  have h : arrowOk V0 [V0, SZ] = true := by
    unfold arrowOk
    simp only [List.all_cons, List.all_nil, ev_r8, ev_r9]
    decide
  have h2 : arrL V0 [V0, SZ].length 0 [V0, SZ] = arT := by rfl
  unfold arrowR
  rw [if_pos h, h2]
theorem ev_loose : looseT V2 = 3 := by
  unfold looseT
  rw [if_pos ev_r6]
  rfl
theorem ev_consts : constsT baT = [bA, bB] := by
  have h2 : namesOf baT.pre = [bB, bA] := by rfl
  unfold constsT sortedT
  rw [if_pos ev_r7, h2]
  simp [sortT, compL, bytesT, List.mergeSort, List.MergeSort.Internal.splitInTwo, List.merge, bA, bB]
  rw [if_neg (by decide)]
  rfl
set_option maxHeartbeats 8000000 in
theorem alive_p : PPure Try.prog F.law04_alive [] (.sc (.bool true)) := by
  have n1 : idT.nodes = 6 := by rfl
  have hb : ∀ t : Tm, t.nodes ≤ 100 → t.nodes ≤ 2 ^ 40 := fun t h => by omega
  have c1 : PPure Try.prog F.term_Var [.sc (.int .i64 0)] (.agg V0.pv) := Var_p 0
  have c2 : PPure Try.prog F.term_Var [.sc (.int .i64 1)] (.agg V1.pv) := Var_p 1
  have c3 : PPure Try.prog F.term_Var [.sc (.int .i64 2)] (.agg V2.pv) := Var_p 2
  have c4 : PPure Try.prog F.law04_u [] (.agg uL.pv) := u_p
  have c5 : PPure Try.prog F.law04_zero [] (.agg zL.pv) := zero_p
  have c6 : PPure Try.prog F.term_Sort [.agg uL.pv] (.agg SU.pv) := Sort_p uL (by decide)
  have c7 : PPure Try.prog F.term_Sort [.agg zL.pv] (.agg SZ.pv) := Sort_p zL (by decide)
  have c8 : PPure Try.prog F.term_Lam [.agg V0.pv, .sl 5 [SU.pv, V0.pv]] (.agg idT.pv) := Lam_p V0 [SU, V0] (by decide) (by decide)
  have c9 : PPure Try.prog F.term_Levels [.agg idT.pv, .sl 3 [zL.pv]] (.tup [.agg xT.pv, .sc (.bool true)]) := by
    have := term_Levels_p idT [zL] (hb _ (by rw [n1]; decide))
    rw [ev_levels] at this
    exact this
  have c10 : PPure Try.prog F.term_Const [.sc (.string ⟨#[97]⟩), .sc (.slice none 0 0)] (.agg CA.pv) := (Const_p ⟨#[97]⟩ [] (by decide)).weak ⟨.refl _, .nil 3, trivial⟩ (.refl _)
  have c11 : PPure Try.prog F.term_Const [.sc (.string ⟨#[98]⟩), .sl 3 [zL.pv]] (.agg CBz.pv) := Const_p ⟨#[98]⟩ [zL] (by decide)
  have c12 : PPure Try.prog F.term_App [.agg idT.pv, .sl 5 [CA.pv, CBz.pv]] (.agg apT.pv) := App_p idT [CA, CBz] (by decide) (by decide)
  have c13 : PPure Try.prog F.term_Spine [.agg apT.pv] (.tup [.agg (idT.pvB true), .sl 5 [[.sc (.int .i64 3), .sc (.int .i64 0), .sc (.string ⟨#[97]⟩), .sl 3 [], .sl 5 []], CBz.pv]]) := by
    have := term_Spine_pF apT (by decide)
    rw [ev_spine] at this
    have e : CA.pv = [.sc (.int .i64 3), .sc (.int .i64 0), .sc (.string ⟨#[97]⟩), .sl 3 [], .sl 5 []] := by simp [CA, Tm.pv, bA]
    simp only [List.map_cons, List.map_nil, e] at this
    exact this
  have c14 : PPure Try.prog F.term_Arrow [.agg V0.pv, .sl 5 [V0.pv, SZ.pv]] (.tup [.agg [.sc (.int .i64 6), .sc (.int .i64 0), .sc (.string ⟨#[]⟩), .sl 3 [], .sl 5 [V0.pv, [.sc (.int .i64 6), .sc (.int .i64 0), .sc (.string ⟨#[]⟩), .sl 3 [], .sl 5 [SZ.pv, [.sc (.int .i64 1), .sc (.int .i64 2), .sc (.string ⟨#[]⟩), .sl 3 [], .sl 5 []]]]]], .sc (.bool true)]) := by
    have := term_Arrow_p V0 [V0, SZ] (by decide) (by decide) (by decide)
    rw [ev_arrow] at this
    have e : arT.pv = [.sc (.int .i64 6), .sc (.int .i64 0), .sc (.string ⟨#[]⟩), .sl 3 [], .sl 5 [V0.pv, [.sc (.int .i64 6), .sc (.int .i64 0), .sc (.string ⟨#[]⟩), .sl 3 [], .sl 5 [SZ.pv, [.sc (.int .i64 1), .sc (.int .i64 2), .sc (.string ⟨#[]⟩), .sl 3 [], .sl 5 []]]]]] := by simp [arT, V2, Tm.pv]
    rw [e] at this
    exact this
  have c15 : PPure Try.prog F.term_Right [.agg idT.pv, .sc (.int .i64 1), .sc (.int .i64 0)] (.sc (.bool true)) := by
    have := tRight_p idT (by decide) 1 0
    rwa [ev_r1] at this
  have c16 : PPure Try.prog F.term_Right [.agg idT.pv, .sc (.int .i64 0), .sc (.int .i64 0)] (.sc (.bool false)) := by
    have := tRight_p idT (by decide) 0 0
    rwa [ev_r2] at this
  have c17 : PPure Try.prog F.term_Right [.agg xT.pv, .sc (.int .i64 0), .sc (.int .i64 0)] (.sc (.bool true)) := by
    have := tRight_p xT (by decide) 0 0
    rwa [ev_r3] at this
  have c18 : PPure Try.prog F.term_Nodes [.agg idT.pv] (.sc (.int .i64 6)) := by
    have := tNodes_p idT (by decide)
    rw [n1] at this
    exact this
  have c19 : PPure Try.prog F.term_Loose [.agg V2.pv] (.sc (.int .i64 3)) := by
    have := tLoose_p V2 (by decide)
    rwa [ev_loose] at this
  have c20 : PPure Try.prog F.term_Same [.agg (idT.pvB true), .agg idT.pv] (.sc (.bool true)) := by
    have := tSame_pf idT idT
    rwa [(tsame_iff idT idT).2 rfl] at this
  have c21 : PPure Try.prog F.term_Const [.sc (.string ⟨#[98]⟩), .sc (.slice none 0 0)] (.agg CB.pv) := (Const_p ⟨#[98]⟩ [] (by decide)).weak ⟨.refl _, .nil 3, trivial⟩ (.refl _)
  have c22 : PPure Try.prog F.term_App [.agg CB.pv, .sl 5 [CA.pv]] (.agg baT.pv) := App_p CB [CA] (by decide) (by decide)
  have c23 : PPure Try.prog F.term_Consts [.agg baT.pv] (.sl 1 [[.sc (.string ⟨#[97]⟩)], [.sc (.string ⟨#[98]⟩)]]) := by
    have := Consts_p baT (by decide)
    rw [ev_consts] at this
    exact this
  have c24 : PPure Try.prog F.ref00_SameTexts [.sl 1 [[.sc (.string ⟨#[97]⟩)], [.sc (.string ⟨#[98]⟩)]], .sl 1 [[.sc (.string ⟨#[97]⟩)], [.sc (.string ⟨#[98]⟩)]]] (.sc (.bool true)) := by
    have := SameTexts_p [bA, bB] [bA, bB]
    rw [decide_eq_true rfl] at this
    exact this
  have c25 : PPure Try.prog F.term_Let [.agg SZ.pv, .agg V0.pv, .agg V1.pv] (.agg leT.pv) := Let_p SZ V0 V1 (by decide) (by decide) (by decide)
  have c26 : PPure Try.prog F.term_Right [.agg leT.pv, .sc (.int .i64 0), .sc (.int .i64 1)] (.sc (.bool true)) := by
    have := tRight_p leT (by decide) 0 1
    rwa [ev_r4] at this
  have c27 : PPure Try.prog F.term_Pi [.agg V0.pv, .sl 5 [SZ.pv]] (.agg [.sc (.int .i64 6), .sc (.int .i64 0), .sc (.string ⟨#[]⟩), .sl 3 [], .sl 5 [SZ.pv, V0.pv]]) := by
    have := Pi_p V0 [SZ] (by decide) (by decide)
    have e : (boundT 6 V0 [SZ]).pv = [.sc (.int .i64 6), .sc (.int .i64 0), .sc (.string ⟨#[]⟩), .sl 3 [], .sl 5 [SZ.pv, V0.pv]] := by simp [boundT, Tm.pv]
    rw [e] at this
    exact this
  refine pure_by is_law04_alive (by simp) rfl fun hb nx => ?_
  clear hb n1
  repeat' (first | ((with_reducible first | refine cond_pos (by omega) ?_ | refine cond_neg (by omega) ?_ | refine guard_pos (by omega) ?_ | refine guard_neg (by omega) ?_ | refine cond_ifn ?_ ?_ | refine cond_waysn ?_ ?_ | refine guard_ifn ?_ ?_ | refine guard_waysn ?_ ?_ | refine cond_if ?_ ?_ | refine cond_ways ?_ ?_ | refine guard_if ?_ ?_ | refine guard_ways ?_ ?_) <;> intro _) | (((with_reducible refine call_id ?_); (first | (refine call_pure (c1) ?_) | (refine call_pure (c2) ?_) | (refine call_pure (c3) ?_) | (refine call_pure (c4) ?_) | (refine call_pure (c5) ?_) | (refine call_pure (c6) ?_) | (refine call_pure (c7) ?_) | (refine call_pure (c8) ?_) | (refine call_pure (c9) ?_) | (refine call_pure (c10) ?_) | (refine call_pure (c11) ?_) | (refine call_pure (c12) ?_) | (refine call_pure (c13) ?_) | (refine call_pure (c14) ?_) | (refine call_pure (c15) ?_) | (refine call_pure (c16) ?_) | (refine call_pure (c17) ?_) | (refine call_pure (c18) ?_) | (refine call_pure (c19) ?_) | (refine call_pure (c20) ?_) | (refine call_pure (c21) ?_) | (refine call_pure (c22) ?_) | (refine call_pure (c23) ?_) | (refine call_pure (c24) ?_) | (refine call_pure (c25) ?_) | (refine call_pure (c26) ?_) | (refine call_pure (c27) ?_)))) | simp (maxSteps := 1000000) (disch := omega) only [go_sem, Nat.reduceAdd, Nat.reduceMul, Nat.reduceSub, Nat.reduceLeDiff, Nat.reduceEqDiff, Nat.reduceBEq, ↓reduceIte, reduceCtorEq, Int.reduceEq, Int.reduceLE, Int.reduceLT, Int.reduceAdd, Int.reduceSub, Int.reduceNeg, Int.reduceToNat, Int.reduceNe, Nat.reducePow, Nat.reduceShiftRight, Nat.reduceMod, mc_law04_alive, strBin, beq_self_eq_true, *])
  all_goals (refine fin_tmp (.inr rfl) ?_; simp [upd])
  
end
section
set_option maxRecDepth 20000
mutual
theorem lv_formed_mono {np nq : Int} (h : np ≤ nq) : ∀ l : Lv, l.formed np = true → l.formed nq = true
  | .mk k n args, hf => by
    have hA := lv_formedL_mono h args
    simp only [Lv.formed] at hf ⊢
    split at hf
    · rw [if_pos (by assumption)]; exact hf
    rw [if_neg (by assumption)]
    split at hf
    · rw [if_pos (by assumption)]
      simp only [Bool.and_eq_true, decide_eq_true_eq] at hf ⊢
      omega
    rw [if_neg (by assumption)]
    split at hf
    · rw [if_pos (by assumption)]
      simp only [Bool.and_eq_true] at hf ⊢
      exact ⟨hf.1, hf.2.1, hA hf.2.2⟩
    rw [if_neg (by assumption)]
    split at hf
    · rw [if_pos (by assumption)]
      simp only [Bool.and_eq_true] at hf ⊢
      exact ⟨hf.1, hf.2.1, hA hf.2.2⟩
    · cases hf
theorem lv_formedL_mono {np nq : Int} (h : np ≤ nq) : ∀ ls : List Lv, formedL np ls = true → formedL nq ls = true
  | [], _ => rfl
  | x :: r, hf => by
    simp only [formedL, Bool.and_eq_true] at hf ⊢
    exact ⟨lv_formed_mono h x hf.1, lv_formedL_mono h r hf.2⟩
end
theorem lv_right_mono {np nq : Int} (h : np ≤ nq) (h4 : nq ≤ 4) (l : Lv) (hr : l.right np = true) : l.right nq = true := by
  simp only [Lv.right, Bool.and_eq_true, decide_eq_true_eq] at hr ⊢
  exact ⟨by omega, h4, hr.2.2.1, lv_formed_mono h l hr.2.2.2⟩
mutual
theorem formed_low (np : Int) : ∀ (t : Tm) (k j : Int), t.formed np k = true → t.loose ≤ j → 0 ≤ j → t.formed np j = true
  | .mk kind n s ls args, k, j, h, hl, hj => by
    have key : kind ≠ 1 → formedA np k kind args.length 0 args = true → formedA np j kind args.length 0 args = true := fun hk hA => by
      simp only [Tm.loose, if_neg hk] at hl
      exact formedA_low np args kind args.length 0 k j hA hl hj
    simp only [Tm.formed] at h ⊢
    by_cases h1 : kind = 1
    · simp only [Tm.loose, if_pos h1] at hl
      rw [if_pos h1] at h ⊢
      simp only [Bool.and_eq_true, decide_eq_true_eq] at h ⊢
      exact ⟨h.1, by omega, h.2.2⟩
    rw [if_neg h1] at h ⊢
    split at h
    · rw [if_pos (by assumption)]; exact h
    rw [if_neg (by assumption)]
    split at h
    · rw [if_pos (by assumption)]; exact h
    rw [if_neg (by assumption)]
    split at h
    · rw [if_pos (by assumption)]
      simp only [Bool.and_eq_true] at h ⊢
      exact ⟨h.1, key h1 h.2⟩
    rw [if_neg (by assumption)]
    split at h
    · rw [if_pos (by assumption)]
      simp only [Bool.and_eq_true] at h ⊢
      exact ⟨h.1, key h1 h.2⟩
    · cases h
theorem formedA_low (np : Int) : ∀ (xs : List Tm) (kind : Int) (len i : Nat) (k j : Int), formedA np k kind len i xs = true → looseA kind len i xs ≤ j → 0 ≤ j → formedA np j kind len i xs = true
  | [], _, _, _, _, _, _, _, _ => rfl
  | x :: r, kind, len, i, k, j, h, hl, hj => by
    simp only [formedA, Bool.and_eq_true] at h ⊢
    simp only [looseA] at hl
    have hd := deep_bd kind len i
    exact ⟨formed_low np x _ _ h.1 (by omega) (by omega), formedA_low np r kind len (i + 1) k j h.2 (by omega) hj⟩
end
mutual
theorem formed_np {np nq : Int} (hn : np ≤ nq) (h4 : nq ≤ 4) : ∀ (t : Tm) (k : Int), t.formed np k = true → t.formed nq k = true
  | .mk kind n s ls args, k, h => by
    have key : formedA np k kind args.length 0 args = true → formedA nq k kind args.length 0 args = true := fun hA => formedA_np hn h4 args kind args.length 0 k hA
    simp only [Tm.formed] at h ⊢
    split at h
    · rw [if_pos (by assumption)]; exact h
    rw [if_neg (by assumption)]
    split at h
    · rw [if_pos (by assumption)]
      simp only [Bool.and_eq_true] at h ⊢
      refine ⟨h.1, ?_⟩
      cases ls with
      | nil => exact h.2
      | cons l r => exact lv_right_mono hn h4 l h.2
    rw [if_neg (by assumption)]
    split at h
    · rw [if_pos (by assumption)]
      simp only [constB, Bool.and_eq_true] at h ⊢
      refine ⟨h.1, h.2.1, h.2.2.1, h.2.2.2.1, ?_⟩
      have := h.2.2.2.2
      rw [List.all_eq_true] at this ⊢
      exact fun l hl => lv_right_mono hn h4 l (this l hl)
    rw [if_neg (by assumption)]
    split at h
    · rw [if_pos (by assumption)]
      simp only [Bool.and_eq_true] at h ⊢
      exact ⟨h.1, key h.2⟩
    rw [if_neg (by assumption)]
    split at h
    · rw [if_pos (by assumption)]
      simp only [Bool.and_eq_true] at h ⊢
      exact ⟨h.1, key h.2⟩
    · cases h
theorem formedA_np {np nq : Int} (hn : np ≤ nq) (h4 : nq ≤ 4) : ∀ (xs : List Tm) (kind : Int) (len i : Nat) (k : Int), formedA np k kind len i xs = true → formedA nq k kind len i xs = true
  | [], _, _, _, _, _ => rfl
  | x :: r, kind, len, i, k, h => by
    simp only [formedA, Bool.and_eq_true] at h ⊢
    exact ⟨formed_np hn h4 x _ h.1, formedA_np hn h4 r kind len (i + 1) k h.2⟩
end
theorem right_iff {t : Tm} {np b : Int} : t.right np b = true ↔ 0 ≤ b ∧ 0 ≤ np ∧ np ≤ 4 ∧ t.nodes ≤ 2000 ∧ t.formed np (min b 1125899906842624) = true := by
  simp only [Tm.right, Bool.and_eq_true, decide_eq_true_eq]
theorem right_low {t : Tm} {np b c : Int} (h : t.right np b = true) (hl : t.loose ≤ min c 1125899906842624) (hc : 0 ≤ c) : t.right np c = true := by
  rw [right_iff] at h ⊢
  exact ⟨hc, h.2.1, h.2.2.1, h.2.2.2.1, formed_low np t _ _ h.2.2.2.2 hl (by omega)⟩
theorem right_loose {t : Tm} {np b : Int} (h : t.right np b = true) : 0 ≤ t.loose ∧ t.loose ≤ min b 1125899906842624 := by
  rw [right_iff] at h
  exact loose_bd np t _ (by omega) h.2.2.2.2
theorem right_np {t : Tm} {np nq b : Int} (h : t.right np b = true) (hn : np ≤ nq) (h4 : nq ≤ 4) : t.right nq b = true := by
  rw [right_iff] at h ⊢
  exact ⟨h.1, by omega, h4, h.2.2.2.1, formed_np hn h4 t _ h.2.2.2.2⟩
theorem rights_all {t : Tm} {n k more : Int} (hk : 0 ≤ k ∧ k ≤ 1000) (hm : 0 ≤ more ∧ more ≤ 1000) (h : t.right n k = true) :
    t.right n (k + more) = true ∧ t.right 4 k = true ∧ looseT t = t.loose ∧ 0 ≤ t.loose ∧ t.loose ≤ k ∧ t.right n t.loose = true ∧ (t.loose = 0 ∨ t.right n (t.loose - 1) = false) := by
  have hl := right_loose h
  have hn := (right_iff.1 h).2.2.1
  have h4 := right_np h hn (Int.le_refl _)
  refine ⟨right_low h (by omega) (by omega), h4, ?_, hl.1, by omega, right_low h (by omega) hl.1, ?_⟩
  · unfold looseT
    rw [if_pos (right_low h4 (by omega) (by omega))]
  · by_cases h0 : t.loose = 0
    · exact .inl h0
    · right
      rw [← Bool.not_eq_true]
      intro h2
      have := right_loose h2
      omega
end
section
theorem op_level {H : Type} {enc : TypeId × Value → H} {W : World} {sp : Nat → Bool} {hd : Bool} : ∀ n, OpAt enc W sp hd n 33 Lv.pv := by
  intro n
  induction n using Nat.strongRecOn with
  | ind n ih =>
    intro cs x h
    have hu : ∃ fs, Try.prog.underlying 33 = some (.struct fs) ∧ ∃ f0 f1 f2, fs = #[f0, f1, f2] ∧ f0.type = 3 ∧ f1.type = 3 ∧ f2.type = 22 ∧ f0.offset = 0 ∧ f1.offset = 1 ∧ f2.offset = 2 :=
      ⟨_, Try.underlying33, _, _, _, rfl, rfl, rfl, rfl, rfl, rfl, rfl⟩
    obtain ⟨fs, hu, f0, f1, f2, rfl, h0, h1, h2, o0, o1, o2⟩ := hu
    obtain ⟨xs, m, rfl, _, hlen, hxs, hx⟩ := DataW.trod_struct hu h
    have hc : Try.prog.cellsOf 33 = 3 := by kernel_rfl
    obtain ⟨a, ha⟩ := op_field hx hxs (i := 0) rfl h0 o0 (c := 1) (by kernel_rfl) (op_int Try.underlying3)
    obtain ⟨b, hb⟩ := op_field hx hxs (i := 1) rfl h1 o1 (c := 1) (by kernel_rfl) (op_int Try.underlying3)
    have hl : OpAt enc W sp hd m 22 (fun l : List Lv => [.sl 3 (l.map Lv.pv)]) := by
      cases m with
      | zero => exact op_zero
      | succ m => exact op_slice Try.underlying22 (by kernel_rfl) (by omega) (ih m (by omega))
    obtain ⟨l, hl⟩ := op_field hx hxs (i := 2) rfl h2 o2 (c := 1) (by kernel_rfl) hl
    rw [List.drop_zero] at ha
    have h3 := rep_split (rep_split ha hb) hl
    rw [hc] at hlen
    rw [List.take_of_length_le (by omega)] at h3
    refine ⟨.mk a b l, ?_⟩
    simp only [Lv.pv]
    exact h3
section
variable {H : Type} {enc : TypeId × Value → H} {W : World} {cs : Array Value} {a : Option Addr} {len cap : Nat} {d : DataW H} {p : List MemPlace}
end
end
section
theorem fitsT_map : ∀ l : List {t : Tm // t.fits}, fitsT (l.map (·.1))
  | [] => trivial
  | x :: r => ⟨x.2, fitsT_map r⟩
theorem op_term {H : Type} {enc : TypeId × Value → H} {W : World} {sp : Nat → Bool} {hd : Bool} : ∀ n, OpAt enc W sp hd n 25 (fun t : {t : Tm // t.fits} => t.1.pv) := by
  intro n
  induction n using Nat.strongRecOn with
  | ind n ih =>
    intro cs x h
    have hu : ∃ fs, Try.prog.underlying 25 = some (.struct fs) ∧ ∃ f0 f1 f2 f3 f4, fs = #[f0, f1, f2, f3, f4] ∧ f0.type = 3 ∧ f1.type = 3 ∧ f2.type = 9 ∧ f3.type = 22 ∧ f4.type = 23 ∧ f0.offset = 0 ∧ f1.offset = 1 ∧ f2.offset = 2 ∧ f3.offset = 3 ∧ f4.offset = 4 :=
      ⟨_, Try.underlying25, _, _, _, _, _, rfl, rfl, rfl, rfl, rfl, rfl, rfl, rfl, rfl, rfl, rfl⟩
    obtain ⟨fs, hu, f0, f1, f2, f3, f4, rfl, h0, h1, h2, h3, h4, o0, o1, o2, o3, o4⟩ := hu
    obtain ⟨xs, m, rfl, _, hlen, hxs, hx⟩ := DataW.trod_struct hu h
    have hc : Try.prog.cellsOf 25 = 5 := by kernel_rfl
    obtain ⟨a, ha⟩ := op_field hx hxs (i := 0) rfl h0 o0 (c := 1) (by kernel_rfl) (op_int Try.underlying3)
    obtain ⟨b, hb⟩ := op_field hx hxs (i := 1) rfl h1 o1 (c := 1) (by kernel_rfl) (op_int Try.underlying3)
    obtain ⟨z, hz⟩ := op_field hx hxs (i := 2) rfl h2 o2 (c := 1) (by kernel_rfl) (op_string Try.underlying9)
    have hl : OpAt enc W sp hd m 22 (fun l : List Lv => [.sl 3 (l.map Lv.pv)]) := by
      cases m with
      | zero => exact op_zero
      | succ m => exact op_slice Try.underlying22 (by kernel_rfl) (by omega) (op_level m)
    have hl2 : OpAt enc W sp hd m 23 (fun l : List {t : Tm // t.fits} => [.sl 5 (l.map fun t => t.1.pv)]) := by
      cases m with
      | zero => exact op_zero
      | succ m => exact op_slice Try.underlying23 (by kernel_rfl) (by omega) (ih m (by omega))
    obtain ⟨l, hl⟩ := op_field hx hxs (i := 3) rfl h3 o3 (c := 1) (by kernel_rfl) hl
    obtain ⟨r, hr⟩ := op_field hx hxs (i := 4) rfl h4 o4 (c := 1) (by kernel_rfl) hl2
    rw [List.drop_zero] at ha
    have h5 := rep_split (rep_split (rep_split (rep_split ha hb) hz) hl) hr
    rw [hc] at hlen
    rw [List.take_of_length_le (by omega)] at h5
    refine ⟨⟨.mk a b z.1 l (r.map (·.1)), z.2, fitsT_map r⟩, ?_⟩
    simp only [Tm.pv, List.map_map]
    exact h5
section
variable {H : Type} {enc : TypeId × Value → H} {W : World} {cs : Array Value} {a : Option Addr} {len cap : Nat} {d : DataW H} {p : List MemPlace}
theorem open_term (h : DataW.Trod enc Try.prog W 0 (fun _ => true) true 25 (.agg cs) d p) : ∃ t : {t : Tm // t.fits}, Rep (allV W) (.agg t.1.pv) (.agg cs) := trod_agg (fun n => op_term n) h
end
end
section
set_option maxRecDepth 20000
attribute [local go_sem] pv_len pv_take Nat.add_assoc tm_len tm_take pv_one tm_one tpvB_len tpvB_take tpvB_one pvB_len pvB_take pvB_one id_ne id_ne' id_ne2 List.append_assoc
mutual
theorem nodes_mass : ∀ t : Tm, t.nodes ≤ t.mass
  | .mk k n s ls args => by have := nodesT_mass args; simp only [Tm.nodes, Tm.mass]; omega
theorem nodesT_mass : ∀ ts : List Tm, nodesT ts ≤ massT ts
  | [] => Nat.le_refl _
  | t :: r => by have := nodes_mass t; have := nodesT_mass r; simp only [nodesT, massT]; omega
end
theorem great_no {t : Tm} (h : ¬ 2500 < t.mass) : t.nodes ≤ 2500 := by have := nodes_mass t; omega
set_option maxHeartbeats 8000000 in
theorem TermRights_p (t : {t : Tm // t.fits}) (n k more : Int) : PPure Try.prog F.law04_TermRights [.agg t.1.pv, .sc (.int .i64 n), .sc (.int .i64 k), .sc (.int .i64 more)] (.sc (.bool true)) := by
  obtain ⟨t, ht⟩ := t
  show PPure Try.prog F.law04_TermRights [.agg t.pv, .sc (.int .i64 n), .sc (.int .i64 k), .sc (.int .i64 more)] (.sc (.bool true))
  refine pure_by is_law04_TermRights (by simp) rfl fun hb nx => ?_
  clear hb
  have cG := Great_p t ht
  have hl := alive_p
  by_cases hg : 2500 < t.mass
  · rw [decide_eq_true hg] at cG
    clear hg ht
    repeat' (first | ((with_reducible first | refine cond_pos (by omega) ?_ | refine cond_neg (by omega) ?_ | refine guard_pos (by omega) ?_ | refine guard_neg (by omega) ?_ | refine cond_ifn ?_ ?_ | refine cond_waysn ?_ ?_ | refine guard_ifn ?_ ?_ | refine guard_waysn ?_ ?_ | refine cond_if ?_ ?_ | refine cond_ways ?_ ?_ | refine guard_if ?_ ?_ | refine guard_ways ?_ ?_) <;> intro _) | (((with_reducible refine call_id ?_); (first | (refine call_pure (hl) ?_) | (refine call_pure (cG) ?_)))) | simp (maxSteps := 1000000) (disch := omega) only [go_sem, Nat.reduceAdd, Nat.reduceMul, Nat.reduceSub, Nat.reduceLeDiff, Nat.reduceEqDiff, Nat.reduceBEq, ↓reduceIte, reduceCtorEq, Int.reduceEq, Int.reduceLE, Int.reduceLT, Int.reduceAdd, Int.reduceSub, Int.reduceNeg, Int.reduceToNat, Int.reduceNe, Nat.reducePow, Nat.reduceShiftRight, Nat.reduceMod, mc_law04_TermRights, *])
    all_goals (refine fin_tmp (.inr rfl) ?_; (first | rfl | (simp (disch := omega) only [go_sem, Nat.reduceMul, Nat.reduceSub, Nat.reduceShiftRight, Nat.reduceMod, Nat.reduceEqDiff, Nat.reduceAdd, ↓reduceIte, Nat.reduceLeDiff, *]; done) | (simp [upd, *]; done) | (simp [upd, *]; omega)))
  · rw [decide_eq_false hg] at cG
    have hn := great_no hg
    clear hg ht
    by_cases hk : 0 ≤ k ∧ k ≤ 1000 ∧ 0 ≤ more ∧ more ≤ 1000
    · have cR := tRight_p t (by omega) n k
      have cL := tLoose_p t (by omega)
      cases hr : t.right n k with
      | false =>
        rw [hr] at cR
        clear hr
        repeat' (first | ((with_reducible first | refine cond_pos (by omega) ?_ | refine cond_neg (by omega) ?_ | refine guard_pos (by omega) ?_ | refine guard_neg (by omega) ?_ | refine cond_ifn ?_ ?_ | refine cond_waysn ?_ ?_ | refine guard_ifn ?_ ?_ | refine guard_waysn ?_ ?_ | refine cond_if ?_ ?_ | refine cond_ways ?_ ?_ | refine guard_if ?_ ?_ | refine guard_ways ?_ ?_) <;> intro _) | (((with_reducible refine call_id ?_); (first | (refine call_pure (hl) ?_) | (refine call_pure (cG) ?_) | (refine call_pure (cR) ?_) | (refine call_pure (cL) ?_)))) | simp (maxSteps := 1000000) (disch := omega) only [go_sem, Nat.reduceAdd, Nat.reduceMul, Nat.reduceSub, Nat.reduceLeDiff, Nat.reduceEqDiff, Nat.reduceBEq, ↓reduceIte, reduceCtorEq, Int.reduceEq, Int.reduceLE, Int.reduceLT, Int.reduceAdd, Int.reduceSub, Int.reduceNeg, Int.reduceToNat, Int.reduceNe, Nat.reducePow, Nat.reduceShiftRight, Nat.reduceMod, mc_law04_TermRights, *])
        all_goals (refine fin_tmp (.inr rfl) ?_; (first | rfl | (simp (disch := omega) only [go_sem, Nat.reduceMul, Nat.reduceSub, Nat.reduceShiftRight, Nat.reduceMod, Nat.reduceEqDiff, Nat.reduceAdd, ↓reduceIte, Nat.reduceLeDiff, *]; done) | (simp [upd, *]; done) | (simp [upd, *]; omega)))
      | true =>
        obtain ⟨h1, h2, h3, h4, h5, h6, h7⟩ := rights_all ⟨hk.1, hk.2.1⟩ ⟨hk.2.2.1, hk.2.2.2⟩ hr
        rw [hr] at cR
        rw [h3] at cL
        have c1 := tRight_p t (by omega) n (k + more)
        rw [h1] at c1
        have c2 := tRight_p t (by omega) 4 k
        rw [h2] at c2
        have c3 := tRight_p t (by omega) n t.loose
        rw [h6] at c3
        have c4 := tRight_p t (by omega) n (t.loose - 1)
        clear h1 h2 h3 h6 hr
        by_cases h0 : t.loose = 0
        · rw [h0] at cL c3
          repeat' (first | ((with_reducible first | refine cond_pos (by omega) ?_ | refine cond_neg (by omega) ?_ | refine guard_pos (by omega) ?_ | refine guard_neg (by omega) ?_ | refine cond_ifn ?_ ?_ | refine cond_waysn ?_ ?_ | refine guard_ifn ?_ ?_ | refine guard_waysn ?_ ?_ | refine cond_if ?_ ?_ | refine cond_ways ?_ ?_ | refine guard_if ?_ ?_ | refine guard_ways ?_ ?_) <;> intro _) | (((with_reducible refine call_id ?_); (first | (refine call_pure (hl) ?_) | (refine call_pure (cG) ?_) | (refine call_pure (cR) ?_) | (refine call_pure (cL) ?_) | (refine call_pure (c1) ?_) | (refine call_pure (c2) ?_) | (refine call_pure (c3) ?_)))) | simp (maxSteps := 1000000) (disch := omega) only [go_sem, Nat.reduceAdd, Nat.reduceMul, Nat.reduceSub, Nat.reduceLeDiff, Nat.reduceEqDiff, Nat.reduceBEq, ↓reduceIte, reduceCtorEq, Int.reduceEq, Int.reduceLE, Int.reduceLT, Int.reduceAdd, Int.reduceSub, Int.reduceNeg, Int.reduceToNat, Int.reduceNe, Nat.reducePow, Nat.reduceShiftRight, Nat.reduceMod, mc_law04_TermRights, *])
          all_goals (refine fin_tmp (.inr rfl) ?_; (first | rfl | (simp (disch := omega) only [go_sem, Nat.reduceMul, Nat.reduceSub, Nat.reduceShiftRight, Nat.reduceMod, Nat.reduceEqDiff, Nat.reduceAdd, ↓reduceIte, Nat.reduceLeDiff, *]; done) | (simp [upd, *]; done) | (simp [upd, *]; omega)))
        · rw [h7.resolve_left h0] at c4
          clear h7
          repeat' (first | ((with_reducible first | refine cond_pos (by omega) ?_ | refine cond_neg (by omega) ?_ | refine guard_pos (by omega) ?_ | refine guard_neg (by omega) ?_ | refine cond_ifn ?_ ?_ | refine cond_waysn ?_ ?_ | refine guard_ifn ?_ ?_ | refine guard_waysn ?_ ?_ | refine cond_if ?_ ?_ | refine cond_ways ?_ ?_ | refine guard_if ?_ ?_ | refine guard_ways ?_ ?_) <;> intro _) | (((with_reducible refine call_id ?_); (first | (refine call_pure (hl) ?_) | (refine call_pure (cG) ?_) | (refine call_pure (cR) ?_) | (refine call_pure (cL) ?_) | (refine call_pure (c1) ?_) | (refine call_pure (c2) ?_) | (refine call_pure (c3) ?_) | (refine call_pure (c4) ?_)))) | simp (maxSteps := 1000000) (disch := omega) only [go_sem, Nat.reduceAdd, Nat.reduceMul, Nat.reduceSub, Nat.reduceLeDiff, Nat.reduceEqDiff, Nat.reduceBEq, ↓reduceIte, reduceCtorEq, Int.reduceEq, Int.reduceLE, Int.reduceLT, Int.reduceAdd, Int.reduceSub, Int.reduceNeg, Int.reduceToNat, Int.reduceNe, Nat.reducePow, Nat.reduceShiftRight, Nat.reduceMod, mc_law04_TermRights, *])
          all_goals (refine fin_tmp (.inr rfl) ?_; (first | rfl | (simp (disch := omega) only [go_sem, Nat.reduceMul, Nat.reduceSub, Nat.reduceShiftRight, Nat.reduceMod, Nat.reduceEqDiff, Nat.reduceAdd, ↓reduceIte, Nat.reduceLeDiff, *]; done) | (simp [upd, *]; done) | (simp [upd, *]; omega)))
    · repeat' (first | ((with_reducible first | refine cond_pos (by omega) ?_ | refine cond_neg (by omega) ?_ | refine guard_pos (by omega) ?_ | refine guard_neg (by omega) ?_ | refine cond_ifn ?_ ?_ | refine cond_waysn ?_ ?_ | refine guard_ifn ?_ ?_ | refine guard_waysn ?_ ?_ | refine cond_if ?_ ?_ | refine cond_ways ?_ ?_ | refine guard_if ?_ ?_ | refine guard_ways ?_ ?_) <;> intro _) | (((with_reducible refine call_id ?_); (first | (refine call_pure (hl) ?_) | (refine call_pure (cG) ?_)))) | simp (maxSteps := 1000000) (disch := omega) only [go_sem, Nat.reduceAdd, Nat.reduceMul, Nat.reduceSub, Nat.reduceLeDiff, Nat.reduceEqDiff, Nat.reduceBEq, ↓reduceIte, reduceCtorEq, Int.reduceEq, Int.reduceLE, Int.reduceLT, Int.reduceAdd, Int.reduceSub, Int.reduceNeg, Int.reduceToNat, Int.reduceNe, Nat.reducePow, Nat.reduceShiftRight, Nat.reduceMod, mc_law04_TermRights, *])
      all_goals first | (exfalso; omega) | (refine fin_tmp (.inr rfl) ?_; (first | rfl | (simp (disch := omega) only [go_sem, Nat.reduceMul, Nat.reduceSub, Nat.reduceShiftRight, Nat.reduceMod, Nat.reduceEqDiff, Nat.reduceAdd, ↓reduceIte, Nat.reduceLeDiff, *]; done) | (simp [upd, *]; done) | (simp [upd, *]; omega)))
  
end
end Go.Proofs.Ytfhblaggeahbjaa
