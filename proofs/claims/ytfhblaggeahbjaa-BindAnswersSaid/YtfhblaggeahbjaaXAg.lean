/-
  Plain values: Tm5, Tm8, TnF, LvO, TmOp, TnG, TnI, TnJ, TnK, TqA, TqB, ToA, ToB, ToC, ToD, ToE, ToF, ToM, ToN, ToG, ToH, ToI, TrA, Tm9.
-/
import Derived.Sort.Row
import Derived.Sort.Grow
import Derived.Test.YtfhblaggeahbjaaXAa
import Derived.Test.YtfhblaggeahbjaaXAb
import Derived.Test.YtfhblaggeahbjaaXAc
import Derived.Test.YtfhblaggeahbjaaXAd
import Derived.Test.YtfhblaggeahbjaaXAe
import Derived.Test.YtfhblaggeahbjaaXAf
set_option linter.unusedVariables false
set_option linter.unusedSimpArgs false
namespace Go.Proofs.Ytfhblaggeahbjaa
open Go.RowKit
attribute [local go_sem ↓] c_seq c_region c_cond c_block c_ret c_skip c_exit c_cont t_normal t_ret t_exit b_normal b_ret b_exit run_nil run_cons g_some o_mv o_pick o_bin o_un o_ld o_ldf o_bld o_len o_mkf o_nilc o_fa o_fd o_ia o_iaa o_ix o_ixs o_ext o_al o_bxf o_bxt o_bsl o_bslf o_mks o_st o_stf o_call o_rng o_nxt o_callm o_callmA o_calvm o_calv cond_true cond_false upd_get sigF_cons o_eqa o_mm o_app o_slc
attribute [local go_sem] num_nil num_cons isP chunks rngV next_is next_iter val_some new_some st_some stf_some guard_tt guard_ff guard_tf guard_ft guard_un calv_fn put_some put_none ev_tmp ev_const ev_func sig_eq sigF_nil q0 q1 nilcV faV fdV iaV iaaV ixV ixsV extV mksV loadP storeP lenPV binPV unPV intBin partsP fillP zeros PV.good PV.cellsOf PV.one q2 q3 q4 q5 q6 q7 q8 q9 q10 q11 q12 q13 q14 q15 q16 q17 q18 q19 q20 q21 q22 q23 q24 q25 q26 q27 q28 q29 q30 q31 q32 q33 q34 q35 q36 q37 q38 wrap64 app_some mmL mmV mm2 eqE eqParts eqInt eqBool eqStr partV q39 q40 pickV q41 q42 q43 q44 q45 q46 q47 q48 q49 appE oldOf rowOf updL q50 q51 q52 q53 zlt ovr_get ite_neN ite_eqN q54 q55 q56 q57 q58 q59 q60 q61 q62 q63 q64 q65 q66 q67 tailP_f tailP_t tailF_f tailF_t slcP bndO capO slcLen intOf Option.isSome_none Option.isNone_none Option.isSome_some Option.isNone_some nilP slc_sl slc_csl slc_osl slc_osl0 slc_ocap slc_str List.append_nil List.length_append resP resPs resP1 PV.sc.injEq Value.bool.injEq Value.int.injEq
section
open Go.RowKit Go.Sort
theorem txt_flen (ss : List ByteArray) : (ss.flatMap txt).length = ss.length := by rw [← txts_flat, txts_len]
end
section
set_option maxRecDepth 20000
attribute [local go_sem] pv_len pv_take Nat.add_assoc tm_len tm_take pv_one tm_one id_ne id_ne' id_ne2 List.append_assoc
def nameOf : Tm → List ByteArray
  | .mk k _ s _ _ => if k = 3 then [s] else []
def namesOf (us : List Tm) : List ByteArray := us.flatMap nameOf
theorem namesOf_len : ∀ us : List Tm, (namesOf us).length ≤ us.length
  | [] => by simp [namesOf]
  | x :: r => by
    have h1 := namesOf_len r
    have h2 : (nameOf x).length ≤ 1 := by
      cases x
      simp only [nameOf]
      split <;> simp
    show (nameOf x ++ namesOf r).length ≤ _
    rw [List.length_append, List.length_cons]
    omega
mutual
theorem pre_len : ∀ t : Tm, t.pre.length ≤ t.nodes
  | .mk k n s ls args => by
    have := preL_len args
    simp only [Tm.pre, List.length_cons, Tm.nodes]
    omega
theorem preL_len : ∀ ts : List Tm, (preL ts).length ≤ nodesT ts
  | [] => by simp [preL, nodesT]
  | x :: r => by
    have := pre_len x
    have := preL_len r
    simp only [preL, List.length_append, nodesT]
    omega
end
theorem RowAt.noIt {H : Nat → Option PObj} {lo m sz : Nat} {a : PV} {xs : List ByteArray} {n : Nat} (h : RowAt H lo m sz a (xs.flatMap txt) n) : RowAt (noIt H) lo m sz a (xs.flatMap txt) n := by
  rcases h with h | ⟨id, h1, h2, h3, h4⟩
  · exact .inl h
  · refine .inr ⟨id, h1, h2, h3, noIt_keep h4 ?_⟩
    cases xs with
    | nil => rfl
    | cons x r => cases r <;> rfl
end
section
set_option maxRecDepth 20000
attribute [local go_sem] pv_len pv_take Nat.add_assoc tm_len tm_take pv_one tm_one tpvB_len tpvB_take tpvB_one pvB_len pvB_take pvB_one id_ne id_ne' id_ne2 List.append_assoc tm_take_app tm_drop_app tm_take10 tm_drop10 tm_drop15 tm_drop
def bA : ByteArray := ⟨#[97]⟩
def bB : ByteArray := ⟨#[98]⟩
def V1 : Tm := .mk 1 1 emp [] []
theorem noS_emp : noS emp = true := by simp [noS]
theorem nb_A : nameB bA = true := by rfl
theorem nb_B : nameB bB = true := by rfl
end
section
theorem op_level {H : Type} {enc : TypeId × Value → H} {W : World} {sp : Nat → Bool} {hd : Bool} : ∀ n, OpAt enc W sp hd n 33 Lv.pv := by
  intro n
  induction n using Nat.strongRecOn with
  | ind n ih =>
    intro cs x h
    have hu : ∃ fs, Try.prog.underlying 33 = some (.struct fs) ∧ ∃ f0 f1 f2, fs = #[f0, f1, f2] ∧ f0.type = 3 ∧ f1.type = 3 ∧ f2.type = 22 ∧ f0.offset = 0 ∧ f1.offset = 1 ∧ f2.offset = 2 :=
      ⟨_, Try.underlying33, _, _, _, rfl, rfl, rfl, rfl, rfl, rfl, rfl⟩
    obtain ⟨fs, hu, f0, f1, f2, rfl, h0, h1, h2, o0, o1, o2⟩ := hu
    obtain ⟨xs, m, rfl, _, hlen, hxs, hx⟩ := DataW.trod_struct hu h
    have hc : Try.prog.cellsOf 33 = 3 := by kernel_rfl
    obtain ⟨a, ha⟩ := op_field hx hxs (i := 0) rfl h0 o0 (c := 1) (by kernel_rfl) (op_int Try.underlying3)
    obtain ⟨b, hb⟩ := op_field hx hxs (i := 1) rfl h1 o1 (c := 1) (by kernel_rfl) (op_int Try.underlying3)
    have hl : OpAt enc W sp hd m 22 (fun l : List Lv => [.sl 3 (l.map Lv.pv)]) := by
      cases m with
      | zero => exact op_zero
      | succ m => exact op_slice Try.underlying22 (by kernel_rfl) (by omega) (ih m (by omega))
    obtain ⟨l, hl⟩ := op_field hx hxs (i := 2) rfl h2 o2 (c := 1) (by kernel_rfl) hl
    rw [List.drop_zero] at ha
    have h3 := rep_split (rep_split ha hb) hl
    rw [hc] at hlen
    rw [List.take_of_length_le (by omega)] at h3
    refine ⟨.mk a b l, ?_⟩
    simp only [Lv.pv]
    exact h3
section
variable {H : Type} {enc : TypeId × Value → H} {W : World} {cs : Array Value} {a : Option Addr} {len cap : Nat} {d : DataW H} {p : List MemPlace}
end
end
section
theorem fitsT_map : ∀ l : List {t : Tm // t.fits}, fitsT (l.map (·.1))
  | [] => trivial
  | x :: r => ⟨x.2, fitsT_map r⟩
theorem op_term {H : Type} {enc : TypeId × Value → H} {W : World} {sp : Nat → Bool} {hd : Bool} : ∀ n, OpAt enc W sp hd n 25 (fun t : {t : Tm // t.fits} => t.1.pv) := by
  intro n
  induction n using Nat.strongRecOn with
  | ind n ih =>
    intro cs x h
    have hu : ∃ fs, Try.prog.underlying 25 = some (.struct fs) ∧ ∃ f0 f1 f2 f3 f4, fs = #[f0, f1, f2, f3, f4] ∧ f0.type = 3 ∧ f1.type = 3 ∧ f2.type = 9 ∧ f3.type = 22 ∧ f4.type = 23 ∧ f0.offset = 0 ∧ f1.offset = 1 ∧ f2.offset = 2 ∧ f3.offset = 3 ∧ f4.offset = 4 :=
      ⟨_, Try.underlying25, _, _, _, _, _, rfl, rfl, rfl, rfl, rfl, rfl, rfl, rfl, rfl, rfl, rfl⟩
    obtain ⟨fs, hu, f0, f1, f2, f3, f4, rfl, h0, h1, h2, h3, h4, o0, o1, o2, o3, o4⟩ := hu
    obtain ⟨xs, m, rfl, _, hlen, hxs, hx⟩ := DataW.trod_struct hu h
    have hc : Try.prog.cellsOf 25 = 5 := by kernel_rfl
    obtain ⟨a, ha⟩ := op_field hx hxs (i := 0) rfl h0 o0 (c := 1) (by kernel_rfl) (op_int Try.underlying3)
    obtain ⟨b, hb⟩ := op_field hx hxs (i := 1) rfl h1 o1 (c := 1) (by kernel_rfl) (op_int Try.underlying3)
    obtain ⟨z, hz⟩ := op_field hx hxs (i := 2) rfl h2 o2 (c := 1) (by kernel_rfl) (op_string Try.underlying9)
    have hl : OpAt enc W sp hd m 22 (fun l : List Lv => [.sl 3 (l.map Lv.pv)]) := by
      cases m with
      | zero => exact op_zero
      | succ m => exact op_slice Try.underlying22 (by kernel_rfl) (by omega) (op_level m)
    have hl2 : OpAt enc W sp hd m 23 (fun l : List {t : Tm // t.fits} => [.sl 5 (l.map fun t => t.1.pv)]) := by
      cases m with
      | zero => exact op_zero
      | succ m => exact op_slice Try.underlying23 (by kernel_rfl) (by omega) (ih m (by omega))
    obtain ⟨l, hl⟩ := op_field hx hxs (i := 3) rfl h3 o3 (c := 1) (by kernel_rfl) hl
    obtain ⟨r, hr⟩ := op_field hx hxs (i := 4) rfl h4 o4 (c := 1) (by kernel_rfl) hl2
    rw [List.drop_zero] at ha
    have h5 := rep_split (rep_split (rep_split (rep_split ha hb) hz) hl) hr
    rw [hc] at hlen
    rw [List.take_of_length_le (by omega)] at h5
    refine ⟨⟨.mk a b z.1 l (r.map (·.1)), z.2, fitsT_map r⟩, ?_⟩
    simp only [Tm.pv, List.map_map]
    exact h5
section
variable {H : Type} {enc : TypeId × Value → H} {W : World} {cs : Array Value} {a : Option Addr} {len cap : Nat} {d : DataW H} {p : List MemPlace}
theorem open_term (h : DataW.Trod enc Try.prog W 0 (fun _ => true) true 25 (.agg cs) d p) : ∃ t : {t : Tm // t.fits}, Rep (allV W) (.agg t.1.pv) (.agg cs) := trod_agg (fun n => op_term n) h
theorem open_terms (h : DataW.Trod enc Try.prog W 0 (fun _ => true) true 23 (.slice a len cap) d p) : ∃ l : List {t : Tm // t.fits}, Rep (allV W) (.sl 5 (l.map fun t => t.1.pv)) (.slice a len cap) :=
  trod_one (fun n => by cases n with
    | zero => exact op_zero
    | succ n => exact op_slice Try.underlying23 (by kernel_rfl) (by omega) (op_term n)) rfl h
end
end
section
set_option maxRecDepth 20000
attribute [local go_sem] pv_len pv_take Nat.add_assoc tm_len tm_take pv_one tm_one tpvB_len tpvB_take tpvB_one pvB_len pvB_take pvB_one id_ne id_ne' id_ne2 List.append_assoc
mutual
theorem nodes_mass : ∀ t : Tm, t.nodes ≤ t.mass
  | .mk k n s ls args => by have := nodesT_mass args; simp only [Tm.nodes, Tm.mass]; omega
theorem nodesT_mass : ∀ ts : List Tm, nodesT ts ≤ massT ts
  | [] => Nat.le_refl _
  | t :: r => by have := nodes_mass t; have := nodesT_mass r; simp only [nodesT, massT]; omega
end
theorem great_no {t : Tm} (h : ¬ 2500 < t.mass) : t.nodes ≤ 2500 := by have := nodes_mass t; omega
end
section
set_option maxRecDepth 20000
attribute [local go_sem] pv_len pv_take Nat.add_assoc tm_len tm_take pv_one tm_one tpvB_len tpvB_take tpvB_one pvB_len pvB_take pvB_one id_ne id_ne' id_ne2 List.append_assoc
def mx : Int → List Tm → Int
  | a, [] => a
  | a, x :: r => max x.loose (mx a r)
end
section
set_option maxRecDepth 20000
attribute [local go_sem] pv_len pv_take Nat.add_assoc tm_len tm_take pv_one tm_one tpvB_len tpvB_take tpvB_one pvB_len pvB_take pvB_one id_ne id_ne' id_ne2 List.append_assoc
def params (n : Nat) : List Lv := (List.range n).map fun i : Nat => .mk 2 (i : Int) []
theorem formed_lvs {np k kind n : Int} {s : ByteArray} {ls : List Lv} {args : List Tm} (h : (Tm.mk kind n s ls args).formed np k = true) : ∀ l ∈ ls, l.right np = true := by
  cases ha : ls.all (Lv.right np) with
  | true => exact List.all_eq_true.1 ha
  | false => rw [formed_levels np k kind n s ls args ha] at h; cases h
end
section
set_option maxRecDepth 20000
attribute [local go_sem] pv_len pv_take Nat.add_assoc tm_len tm_take pv_one tm_one tpvB_len tpvB_take tpvB_one pvB_len pvB_take pvB_one id_ne id_ne' id_ne2 List.append_assoc
theorem weak_flat {α : Type} {f g : α → List PV} (h : ∀ x, WeakL (f x) (g x)) : ∀ xs : List α, WeakL (xs.flatMap f) (xs.map g).flatten
  | [] => trivial
  | x :: r => by simp only [List.flatMap_cons, List.map_cons, List.flatten_cons]; exact (h x).append (weak_flat h r)
theorem row_giveG {α : Type} {f g : α → List PV} {sz : Nat} (hf : ∀ x, (f x).length = sz) (hg : ∀ x, (g x).length = sz) (hw : ∀ x, WeakL (f x) (g x)) (xs : List α) {n : Nat} (hn : xs.length = n) {H : Nat → Option PObj} {id : Nat} {w : Bool} (hH : H id = some ⟨xs.flatMap f, w⟩) :
    Weak (frgF (fun j => decide (j = id)) 1 H (.osl id 0 n sz)) (.sl sz (xs.map g)) := by
  have hl : (xs.flatMap f).length = n * sz := by rw [flat_lenG f sz hf, hn]
  simp only [frgF, decide_true, if_true, hH, List.drop_zero]
  rw [if_pos (by omega), List.take_of_length_le (by omega), List.map_id']
  refine .trans (Weak.fslW (es' := xs.map g) (by rw [chunks_length, List.length_map, hn]) (fun e he => ?_) ?_) (Weak.fsl sz _)
  · obtain ⟨x, _, rfl⟩ := List.mem_map.1 he
    exact hg x
  · rw [chunks_flatten sz n _ hl]
    exact weak_flat hw xs
end
section
set_option maxRecDepth 20000
attribute [local go_sem] pv_len pv_take tm_len tm_take pv_one tm_one id_ne id_ne' id_ne2
mutual
def Tm.vis (np : Int) : Int → Tm → Nat
  | k, .mk kind n s ls args => 1 + (if ((kind = 4 ∨ kind = 5 ∨ kind = 6) ∧ hasB n s ls args 0 0 2 = true) ∨ (kind = 7 ∧ hasB n s ls args 0 0 3 = true) then visA np k kind args.length 0 args else 0)
def visA (np : Int) : Int → Int → Nat → Nat → List Tm → Nat
  | _, _, _, _, [] => 0
  | k, kind, len, i, x :: r => x.vis np (k + deepB kind len i) + (if x.formed np (k + deepB kind len i) = true then visA np k kind len (i + 1) r else 0)
end
theorem vis_pos (np k : Int) (t : Tm) : 0 < t.vis np k := by
  cases t
  simp only [Tm.vis]
  omega
set_option maxHeartbeats 16000000 in
theorem formedV_p (np : Int) : ∀ (fuel : Nat) (t : Tm) (k : Int), t.vis np k ≤ fuel → 0 ≤ k → k + t.vis np k ≤ 2 ^ 60 → PPure Try.prog F.term_formed [.ptr t.pv, .sc (.int .i64 np), .sc (.int .i64 k)] (.sc (.bool (t.formed np k))) := by
  intro fuel
  induction fuel with
  | zero => intro t k h; have := vis_pos np k t; omega
  | succ fuel ih =>
    have hparts : ∀ (kind n : Int) (s : ByteArray) (ls : List Lv) (args : List Tm) (k : Int), visA np k kind args.length 0 args ≤ fuel → 0 ≤ k → k + visA np k kind args.length 0 args + 1 ≤ 2 ^ 60 →
        PPure Try.prog F.term_parts [.ptr (Tm.mk kind n s ls args).pv, .sc (.int .i64 np), .sc (.int .i64 k)] (.sc (.bool (formedA np k kind args.length 0 args))) := by
      intro kind n s ls args k hsz h0 h1
      have hih := Kept.mk ih
      clear ih
      refine pure_by is_term_parts (by simp) rfl fun hb nx => ?_
      have hb0 : args.length ≤ 9223372036854775807 := by simp [Tm.pv, bndL, PV.bnd] at hb; exact hb.2.1
      clear hb
      repeat' (first | ((with_reducible first | refine wA (by omega) ?_ | refine wB (by omega) ?_ | refine wC (by omega) ?_ | refine wD (by omega) ?_ | refine wE ?_ ?_ | refine wF ?_ ?_ | refine wG ?_ ?_ | refine wH ?_ ?_ | refine wI ?_ ?_ | refine wJ ?_ ?_ | refine wK ?_ ?_ | refine wL ?_ ?_) <;> intro _) | simp (maxSteps := 1000000) (disch := omega) only [go_sem, Nat.reduceAdd, Nat.reduceMul, Nat.reduceSub, Nat.reduceLeDiff, Nat.reduceEqDiff, Nat.reduceBEq, ↓reduceIte, reduceCtorEq, Int.reduceEq, Int.reduceLE, Int.reduceLT, Int.reduceAdd, Int.reduceSub, Int.reduceNeg, Int.reduceToNat, Int.reduceNe, Nat.reducePow, Nat.reduceShiftRight, Nat.reduceMod, mc_term_parts, Tm.pv, *])
      refine c_loopW 2147475648 (by kernel_rfl) (fun j f H m => ∃ i : Nat, j = args.length - i ∧ i ≤ args.length ∧ f 13 = .sc (.int .i64 i) ∧ Kept (formedA np k kind args.length 0 args = formedA np k kind args.length i (args.drop i)) ∧ visA np k kind args.length i (args.drop i) ≤ visA np k kind args.length 0 args) _ ⟨0, rfl, cE1, cE1, Kept.mk (by rw [List.drop_zero]), by rw [List.drop_zero]; exact Nat.le_refl _⟩ ?_
      rintro _ f H m ⟨i, rfl, hi, e13, hs, hv⟩
      by_cases hlt : i < args.length
      · have eg : args[i]? = some args[i] := List.getElem?_eq_getElem hlt
        have hd := deep_bd kind args.length i
        have hst : Kept (formedA np k kind args.length i (args.drop i) = (args[i].formed np (k + deepB kind args.length i) && formedA np k kind args.length (i + 1) (args.drop (i + 1)))) := Kept.mk (by rw [List.drop_eq_getElem_cons hlt]; rfl)
        have hvs : visA np k kind args.length i (args.drop i) = args[i].vis np (k + deepB kind args.length i) + (if args[i].formed np (k + deepB kind args.length i) = true then visA np k kind args.length (i + 1) (args.drop (i + 1)) else 0) := by rw [List.drop_eq_getElem_cons hlt]; rfl
        have hc1 := deeper_p (.mk kind n s ls args) i
        have hc2 := hc1 kind n s ls args rfl
        simp only [Tm.pv] at hc2
        have hc3 := hih.out args[i] (k + deepB kind args.length i) (by omega) (by omega) (by omega)
        clear hc1
        cases hf : args[i].formed np (k + deepB kind args.length i) with
        | false =>
          have e : formedA np k kind args.length 0 args = false := by rw [hs.out, hst.out, hf]; rfl
          rw [e]
          rw [hf] at hc3
          clear hs hst hvs hv hf e
          repeat' (first | ((with_reducible first | refine wA (by omega) ?_ | refine wB (by omega) ?_ | refine wC (by omega) ?_ | refine wD (by omega) ?_ | refine wE ?_ ?_ | refine wF ?_ ?_ | refine wG ?_ ?_ | refine wH ?_ ?_ | refine wI ?_ ?_ | refine wJ ?_ ?_ | refine wK ?_ ?_ | refine wL ?_ ?_) <;> intro _) | (((with_reducible refine call_id ?_); (first | (refine call_pure (hc2) ?_) | (refine call_pure (hc3) ?_)))) | simp (maxSteps := 1000000) (disch := omega) only [go_sem, Nat.reduceAdd, Nat.reduceMul, Nat.reduceSub, Nat.reduceLeDiff, Nat.reduceEqDiff, Nat.reduceBEq, ↓reduceIte, reduceCtorEq, Int.reduceEq, Int.reduceLE, Int.reduceLT, Int.reduceAdd, Int.reduceSub, Int.reduceNeg, Int.reduceToNat, Int.reduceNe, Nat.reducePow, Nat.reduceShiftRight, Nat.reduceMod, Tm.pv, *])
          all_goals (exact fin_tmp (.inr rfl) cE3)
        | true =>
          have hs2 : Kept (formedA np k kind args.length 0 args = formedA np k kind args.length (i + 1) (args.drop (i + 1))) := Kept.mk (by rw [hs.out, hst.out, hf]; rfl)
          rw [hf, if_pos rfl] at hvs
          rw [hf] at hc3
          have hv2 : visA np k kind args.length (i + 1) (args.drop (i + 1)) ≤ visA np k kind args.length 0 args := by omega
          clear hs hst hvs hf
          repeat' (first | ((with_reducible first | refine wA (by omega) ?_ | refine wB (by omega) ?_ | refine wC (by omega) ?_ | refine wD (by omega) ?_ | refine wE ?_ ?_ | refine wF ?_ ?_ | refine wG ?_ ?_ | refine wH ?_ ?_ | refine wI ?_ ?_ | refine wJ ?_ ?_ | refine wK ?_ ?_ | refine wL ?_ ?_) <;> intro _) | (((with_reducible refine call_id ?_); (first | (refine call_pure (hc2) ?_) | (refine call_pure (hc3) ?_)))) | simp (maxSteps := 1000000) (disch := omega) only [go_sem, Nat.reduceAdd, Nat.reduceMul, Nat.reduceSub, Nat.reduceLeDiff, Nat.reduceEqDiff, Nat.reduceBEq, ↓reduceIte, reduceCtorEq, Int.reduceEq, Int.reduceLE, Int.reduceLT, Int.reduceAdd, Int.reduceSub, Int.reduceNeg, Int.reduceToNat, Int.reduceNe, Nat.reducePow, Nat.reduceShiftRight, Nat.reduceMod, Tm.pv, *])
          exact Nx.mk (args.length - (i + 1)) cE1 ⟨i + 1, rfl, cE1, by simp [upd], hs2, hv2⟩
      · obtain rfl : i = args.length := by omega
        have h2 := hs.out
        rw [List.drop_length, formedA] at h2
        rw [h2]
        clear hs h2
        repeat' (first | ((with_reducible first | refine wA (by omega) ?_ | refine wB (by omega) ?_ | refine wC (by omega) ?_ | refine wD (by omega) ?_ | refine wE ?_ ?_ | refine wF ?_ ?_ | refine wG ?_ ?_ | refine wH ?_ ?_ | refine wI ?_ ?_ | refine wJ ?_ ?_ | refine wK ?_ ?_ | refine wL ?_ ?_) <;> intro _) | simp (maxSteps := 1000000) (disch := omega) only [go_sem, Nat.reduceAdd, Nat.reduceMul, Nat.reduceSub, Nat.reduceLeDiff, Nat.reduceEqDiff, Nat.reduceBEq, ↓reduceIte, reduceCtorEq, Int.reduceEq, Int.reduceLE, Int.reduceLT, Int.reduceAdd, Int.reduceSub, Int.reduceNeg, Int.reduceToNat, Int.reduceNe, Nat.reducePow, Nat.reduceShiftRight, Nat.reduceMod, Tm.pv, *])
        all_goals (exact fin_tmp (.inr rfl) cE3)
    intro t k hsz h0 h1
    cases t with
    | mk kind n s ls args =>
    simp only [Tm.vis] at hsz h1
    have c1 := has_p kind n s ls args
    have c2 := constant_p kind n s ls args np
    have c3 : ((kind = 4 ∨ kind = 5 ∨ kind = 6) ∧ hasB n s ls args 0 0 2 = true) ∨ (kind = 7 ∧ hasB n s ls args 0 0 3 = true) → PPure Try.prog F.term_parts [.ptr (Tm.mk kind n s ls args).pv, .sc (.int .i64 np), .sc (.int .i64 k)] (.sc (.bool (formedA np k kind args.length 0 args))) := fun h => by
      rw [if_pos h] at hsz h1
      exact hparts kind n s ls args k (by omega) h0 (by omega)
    simp only [Tm.pv] at c1 c2 c3
    clear ih hparts hsz
    refine pure_by is_term_formed (by simp) rfl fun hb nx => ?_
    clear hb
    by_cases k1 : kind = 1
    · subst k1
      clear c3
      repeat' (first | ((with_reducible first | refine wA (by omega) ?_ | refine wB (by omega) ?_ | refine wC (by omega) ?_ | refine wD (by omega) ?_ | refine wE ?_ ?_ | refine wF ?_ ?_ | refine wG ?_ ?_ | refine wH ?_ ?_ | refine wI ?_ ?_ | refine wJ ?_ ?_ | refine wK ?_ ?_ | refine wL ?_ ?_) <;> intro _) | (((with_reducible refine call_id ?_); (first | (refine call_pure (c1 n 0 0) ?_)))) | simp (maxSteps := 1000000) (disch := omega) only [go_sem, Nat.reduceAdd, Nat.reduceMul, Nat.reduceSub, Nat.reduceLeDiff, Nat.reduceEqDiff, Nat.reduceBEq, ↓reduceIte, reduceCtorEq, Int.reduceEq, Int.reduceLE, Int.reduceLT, Int.reduceAdd, Int.reduceSub, Int.reduceNeg, Int.reduceToNat, Int.reduceNe, Nat.reducePow, Nat.reduceShiftRight, Nat.reduceMod, mc_term_formed, Tm.pv, *])
      all_goals (refine fin_tmp (.inr rfl) ?_; simp [upd, Tm.formed, headR, *]; try omega)
    by_cases k2 : kind = 2
    · subst k2
      clear c3
      by_cases h2 : hasB n s ls args 0 1 0 = true
      · have hl : ls.length = 1 := by
          simp only [hasB, Bool.and_eq_true, decide_eq_true_eq] at h2
          omega
        match ls, hl with
        | [l], _ =>
          repeat' (first | ((with_reducible first | refine wA (by omega) ?_ | refine wB (by omega) ?_ | refine wC (by omega) ?_ | refine wD (by omega) ?_ | refine wE ?_ ?_ | refine wF ?_ ?_ | refine wG ?_ ?_ | refine wH ?_ ?_ | refine wI ?_ ?_ | refine wJ ?_ ?_ | refine wK ?_ ?_ | refine wL ?_ ?_) <;> intro _) | (((with_reducible refine call_id ?_); (first | (refine call_pure (c1 0 1 0) ?_) | (refine call_pure (Right_p l np) ?_)))) | simp (maxSteps := 1000000) (disch := omega) only [go_sem, Nat.reduceAdd, Nat.reduceMul, Nat.reduceSub, Nat.reduceLeDiff, Nat.reduceEqDiff, Nat.reduceBEq, ↓reduceIte, reduceCtorEq, Int.reduceEq, Int.reduceLE, Int.reduceLT, Int.reduceAdd, Int.reduceSub, Int.reduceNeg, Int.reduceToNat, Int.reduceNe, Nat.reducePow, Nat.reduceShiftRight, Nat.reduceMod, mc_term_formed, Tm.pv, *])
          all_goals (refine fin_tmp (.inr rfl) ?_; simp [upd, Tm.formed, headR, *]; try omega)
      · repeat' (first | ((with_reducible first | refine wA (by omega) ?_ | refine wB (by omega) ?_ | refine wC (by omega) ?_ | refine wD (by omega) ?_ | refine wE ?_ ?_ | refine wF ?_ ?_ | refine wG ?_ ?_ | refine wH ?_ ?_ | refine wI ?_ ?_ | refine wJ ?_ ?_ | refine wK ?_ ?_ | refine wL ?_ ?_) <;> intro _) | (((with_reducible refine call_id ?_); (first | (refine call_pure (c1 0 1 0) ?_)))) | simp (maxSteps := 1000000) (disch := omega) only [go_sem, Nat.reduceAdd, Nat.reduceMul, Nat.reduceSub, Nat.reduceLeDiff, Nat.reduceEqDiff, Nat.reduceBEq, ↓reduceIte, reduceCtorEq, Int.reduceEq, Int.reduceLE, Int.reduceLT, Int.reduceAdd, Int.reduceSub, Int.reduceNeg, Int.reduceToNat, Int.reduceNe, Nat.reducePow, Nat.reduceShiftRight, Nat.reduceMod, mc_term_formed, Tm.pv, *])
        all_goals (refine fin_tmp (.inr rfl) ?_; simp [upd, Tm.formed, headR, *]; try omega)
    by_cases k3 : kind = 3
    · subst k3
      clear c3
      repeat' (first | ((with_reducible first | refine wA (by omega) ?_ | refine wB (by omega) ?_ | refine wC (by omega) ?_ | refine wD (by omega) ?_ | refine wE ?_ ?_ | refine wF ?_ ?_ | refine wG ?_ ?_ | refine wH ?_ ?_ | refine wI ?_ ?_ | refine wJ ?_ ?_ | refine wK ?_ ?_ | refine wL ?_ ?_) <;> intro _) | (((with_reducible refine call_id ?_); (first | (refine call_pure (c2) ?_)))) | simp (maxSteps := 1000000) (disch := omega) only [go_sem, Nat.reduceAdd, Nat.reduceMul, Nat.reduceSub, Nat.reduceLeDiff, Nat.reduceEqDiff, Nat.reduceBEq, ↓reduceIte, reduceCtorEq, Int.reduceEq, Int.reduceLE, Int.reduceLT, Int.reduceAdd, Int.reduceSub, Int.reduceNeg, Int.reduceToNat, Int.reduceNe, Nat.reducePow, Nat.reduceShiftRight, Nat.reduceMod, mc_term_formed, Tm.pv, *])
      all_goals (refine fin_tmp (.inr rfl) ?_; simp [upd, Tm.formed, headR, *]; try omega)
    by_cases k456 : kind = 4 ∨ kind = 5 ∨ kind = 6
    · by_cases h2 : hasB n s ls args 0 0 2 = true
      · have c4 := c3 (.inl ⟨k456, h2⟩)
        have c5 := c1 0 0 2
        rw [h2] at c5
        clear c3 c1 c2
        rcases k456 with rfl | rfl | rfl
        all_goals
          repeat' (first | ((with_reducible first | refine wA (by omega) ?_ | refine wB (by omega) ?_ | refine wC (by omega) ?_ | refine wD (by omega) ?_ | refine wE ?_ ?_ | refine wF ?_ ?_ | refine wG ?_ ?_ | refine wH ?_ ?_ | refine wI ?_ ?_ | refine wJ ?_ ?_ | refine wK ?_ ?_ | refine wL ?_ ?_) <;> intro _) | (((with_reducible refine call_id ?_); (first | (refine call_pure (c5) ?_) | (refine call_pure (c4) ?_)))) | simp (maxSteps := 1000000) (disch := omega) only [go_sem, Nat.reduceAdd, Nat.reduceMul, Nat.reduceSub, Nat.reduceLeDiff, Nat.reduceEqDiff, Nat.reduceBEq, ↓reduceIte, reduceCtorEq, Int.reduceEq, Int.reduceLE, Int.reduceLT, Int.reduceAdd, Int.reduceSub, Int.reduceNeg, Int.reduceToNat, Int.reduceNe, Nat.reducePow, Nat.reduceShiftRight, Nat.reduceMod, mc_term_formed, Tm.pv, *])
          all_goals (refine fin_tmp (.inr rfl) ?_; simp [upd, Tm.formed, headR, *]; try omega)
      · have c5 := c1 0 0 2
        rw [Bool.not_eq_true] at h2
        rw [h2] at c5
        clear c3 c1 c2
        rcases k456 with rfl | rfl | rfl
        all_goals
          repeat' (first | ((with_reducible first | refine wA (by omega) ?_ | refine wB (by omega) ?_ | refine wC (by omega) ?_ | refine wD (by omega) ?_ | refine wE ?_ ?_ | refine wF ?_ ?_ | refine wG ?_ ?_ | refine wH ?_ ?_ | refine wI ?_ ?_ | refine wJ ?_ ?_ | refine wK ?_ ?_ | refine wL ?_ ?_) <;> intro _) | (((with_reducible refine call_id ?_); (first | (refine call_pure (c5) ?_)))) | simp (maxSteps := 1000000) (disch := omega) only [go_sem, Nat.reduceAdd, Nat.reduceMul, Nat.reduceSub, Nat.reduceLeDiff, Nat.reduceEqDiff, Nat.reduceBEq, ↓reduceIte, reduceCtorEq, Int.reduceEq, Int.reduceLE, Int.reduceLT, Int.reduceAdd, Int.reduceSub, Int.reduceNeg, Int.reduceToNat, Int.reduceNe, Nat.reducePow, Nat.reduceShiftRight, Nat.reduceMod, mc_term_formed, Tm.pv, *])
          all_goals (refine fin_tmp (.inr rfl) ?_; simp [upd, Tm.formed, headR, *]; try omega)
    have k4 : kind ≠ 4 := fun h => k456 (.inl h)
    have k5 : kind ≠ 5 := fun h => k456 (.inr (.inl h))
    have k6 : kind ≠ 6 := fun h => k456 (.inr (.inr h))
    by_cases k7 : kind = 7
    · subst k7
      by_cases h2 : hasB n s ls args 0 0 3 = true
      · have c4 := c3 (.inr ⟨rfl, h2⟩)
        have c5 := c1 0 0 3
        rw [h2] at c5
        clear c3 c1 c2
        repeat' (first | ((with_reducible first | refine wA (by omega) ?_ | refine wB (by omega) ?_ | refine wC (by omega) ?_ | refine wD (by omega) ?_ | refine wE ?_ ?_ | refine wF ?_ ?_ | refine wG ?_ ?_ | refine wH ?_ ?_ | refine wI ?_ ?_ | refine wJ ?_ ?_ | refine wK ?_ ?_ | refine wL ?_ ?_) <;> intro _) | (((with_reducible refine call_id ?_); (first | (refine call_pure (c5) ?_) | (refine call_pure (c4) ?_)))) | simp (maxSteps := 1000000) (disch := omega) only [go_sem, Nat.reduceAdd, Nat.reduceMul, Nat.reduceSub, Nat.reduceLeDiff, Nat.reduceEqDiff, Nat.reduceBEq, ↓reduceIte, reduceCtorEq, Int.reduceEq, Int.reduceLE, Int.reduceLT, Int.reduceAdd, Int.reduceSub, Int.reduceNeg, Int.reduceToNat, Int.reduceNe, Nat.reducePow, Nat.reduceShiftRight, Nat.reduceMod, mc_term_formed, Tm.pv, *])
        all_goals (refine fin_tmp (.inr rfl) ?_; simp [upd, Tm.formed, headR, *]; try omega)
      · have c5 := c1 0 0 3
        rw [Bool.not_eq_true] at h2
        rw [h2] at c5
        clear c3 c1 c2
        repeat' (first | ((with_reducible first | refine wA (by omega) ?_ | refine wB (by omega) ?_ | refine wC (by omega) ?_ | refine wD (by omega) ?_ | refine wE ?_ ?_ | refine wF ?_ ?_ | refine wG ?_ ?_ | refine wH ?_ ?_ | refine wI ?_ ?_ | refine wJ ?_ ?_ | refine wK ?_ ?_ | refine wL ?_ ?_) <;> intro _) | (((with_reducible refine call_id ?_); (first | (refine call_pure (c5) ?_)))) | simp (maxSteps := 1000000) (disch := omega) only [go_sem, Nat.reduceAdd, Nat.reduceMul, Nat.reduceSub, Nat.reduceLeDiff, Nat.reduceEqDiff, Nat.reduceBEq, ↓reduceIte, reduceCtorEq, Int.reduceEq, Int.reduceLE, Int.reduceLT, Int.reduceAdd, Int.reduceSub, Int.reduceNeg, Int.reduceToNat, Int.reduceNe, Nat.reducePow, Nat.reduceShiftRight, Nat.reduceMod, mc_term_formed, Tm.pv, *])
        all_goals (refine fin_tmp (.inr rfl) ?_; simp [upd, Tm.formed, headR, *]; try omega)
    clear c1 c2 c3
    repeat' (first | ((with_reducible first | refine wA (by omega) ?_ | refine wB (by omega) ?_ | refine wC (by omega) ?_ | refine wD (by omega) ?_ | refine wE ?_ ?_ | refine wF ?_ ?_ | refine wG ?_ ?_ | refine wH ?_ ?_ | refine wI ?_ ?_ | refine wJ ?_ ?_ | refine wK ?_ ?_ | refine wL ?_ ?_) <;> intro _) | simp (maxSteps := 1000000) (disch := omega) only [go_sem, Nat.reduceAdd, Nat.reduceMul, Nat.reduceSub, Nat.reduceLeDiff, Nat.reduceEqDiff, Nat.reduceBEq, ↓reduceIte, reduceCtorEq, Int.reduceEq, Int.reduceLE, Int.reduceLT, Int.reduceAdd, Int.reduceSub, Int.reduceNeg, Int.reduceToNat, Int.reduceNe, Nat.reducePow, Nat.reduceShiftRight, Nat.reduceMod, mc_term_formed, Tm.pv, *])
    all_goals (refine fin_tmp (.inr rfl) ?_; simp [upd, Tm.formed, headR, *]; try omega)
end
section
set_option maxRecDepth 20000
attribute [local go_sem] pv_len pv_take tm_len tm_take pv_one tm_one id_ne id_ne' id_ne2
def Tm.nlv : Tm → Nat
  | .mk _ _ _ ls _ => ls.length
theorem nlv_of_pv {a b : Tm} (h : nodePV a = nodePV b) : a.nlv = b.nlv := by
  cases a; cases b
  simp only [nodePV, Tm.pv, PV.ptr.injEq, List.cons.injEq, PV.sl.injEq, true_and, and_true] at h
  simp only [Tm.nlv]
  rw [pvL_inj _ _ h.2.2.2.1]
def HasBad (us : List Tm) : Prop := ∃ p u, p ≤ 2000 ∧ us[p]? = some u ∧ 2 ^ 40 < u.nlv
theorem bad_prefix {us vs : List Tm} (h : us.map nodePV <+: vs.map nodePV) (hb : HasBad us) : HasBad vs := by
  obtain ⟨p, u, hp, hu, hn⟩ := hb
  obtain ⟨z, hz⟩ := h
  have h1 : (vs.map nodePV)[p]? = some (nodePV u) := by
    rw [← hz, List.getElem?_append_left (by rw [List.length_map]; exact (List.getElem?_eq_some_iff.1 hu).1), List.getElem?_map, hu]
    rfl
  rw [List.getElem?_map] at h1
  cases hv : vs[p]? with
  | none => rw [hv] at h1; cases h1
  | some v =>
    rw [hv] at h1
    simp only [Option.map_some, Option.some.injEq] at h1
    exact ⟨p, v, hp, hv, by rw [nlv_of_pv h1]; exact hn⟩
theorem bad_app {us vs : List Tm} (hb : HasBad us) : HasBad (us ++ vs) := by
  obtain ⟨p, u, hp, hu, hn⟩ := hb
  exact ⟨p, u, hp, by rw [List.getElem?_append_left (List.getElem?_eq_some_iff.1 hu).1]; exact hu, hn⟩
theorem bad_last {us : List Tm} {u : Tm} (h : us.length ≤ 2000) (hn : 2 ^ 40 < u.nlv) : HasBad (us ++ [u]) := ⟨us.length, u, h, by simp, hn⟩
theorem len_wts : ∀ us : List Tm, us.length ≤ wts us
  | [] => by simp [wts]
  | .mk k n s ls args :: r => by
    have := len_wts r
    simp only [wts, List.map_cons, List.sum_cons, List.length_cons, Tm.wt] at *
    omega
theorem minsL_len : ∀ ls : List Lv, minsL ls ≤ 2001 * ls.length
  | [] => by simp [minsL]
  | x :: r => by
    have := minsL_len r
    simp only [minsL, List.map_cons, List.sum_cons, List.length_cons] at *
    omega
mutual
theorem bnd_pre : ∀ t : Tm, bndL t.pv → ∀ u ∈ t.pre, u.nlv ≤ 9223372036854775807
  | .mk k n s ls args, h, u, hu => by
    simp only [Tm.pv, bndL, PV.bnd, List.length_map] at h
    simp only [Tm.pre, List.mem_cons] at hu
    rcases hu with rfl | hu
    · exact h.2.2.2.1.1
    · exact bnd_preL args h.2.2.2.2.1.2 u hu
theorem bnd_preL : ∀ ts : List Tm, bndLL (ts.map Tm.pv) → ∀ u ∈ preL ts, u.nlv ≤ 9223372036854775807
  | [], _, u, hu => by cases hu
  | x :: r, h, u, hu => by
    simp only [List.map_cons, bndLL] at h
    simp only [preL, List.mem_append] at hu
    rcases hu with hu | hu
    · exact bnd_pre x h.1 u hu
    · exact bnd_preL r h.2 u hu
end
set_option maxHeartbeats 8000000 in
theorem NodesG_m (t : Tm) (H : Nat → Option PObj) (nx : Nat) : PMut Try.prog F.term_Nodes [.agg t.pv] H nx (fun H' nx' r => ∃ v : Int, r = .sc (.int .i64 v) ∧ (v = (min t.nodes 2001 : Nat) ∨ HasBad t.pre)) := by
  refine mut_byR is_term_Nodes (by simp) fun hb => ?_
  have hbd := bnd_pre t (by simp only [bndL, PV.bnd] at hb; exact hb.1)
  clear hb
  repeat' (first | ((with_reducible first | refine wA (by omega) ?_ | refine wB (by omega) ?_ | refine wC (by omega) ?_ | refine wD (by omega) ?_ | refine wE ?_ ?_ | refine wF ?_ ?_ | refine wG ?_ ?_ | refine wH ?_ ?_ | refine wI ?_ ?_ | refine wJ ?_ ?_ | refine wK ?_ ?_ | refine wL ?_ ?_) <;> intro _) | (((with_reducible refine call_id ?_); (first | (refine call_pure (all_p t) ?_)))) | simp (maxSteps := 1000000) (disch := omega) only [go_sem, Nat.reduceAdd, Nat.reduceMul, Nat.reduceSub, Nat.reduceLeDiff, Nat.reduceEqDiff, Nat.reduceBEq, ↓reduceIte, reduceCtorEq, Int.reduceEq, Int.reduceLE, Int.reduceLT, Int.reduceAdd, Int.reduceSub, Int.reduceNeg, Int.reduceToNat, Int.reduceNe, Nat.reducePow, Nat.reduceShiftRight, Nat.reduceMod, mc_term_Nodes, *])
  refine c_rng (all_seq t) (by simp [ev, upd]) (fun pre H' m => ∃ (us : List Tm) (v : Int), pre = us.map nodePV ∧ H' (nx + 1) = some ⟨[.sc (.int .i64 0)], true⟩ ∧ H' (nx + 2) = some ⟨[.sc (.int .i64 v)], true⟩ ∧ ((wts us ≤ 2000 ∧ v = wts us) ∨ HasBad us))
    ⟨[], 0, rfl, noIt_keep (by simp [upd]) rfl, noIt_keep (by simp [upd]) rfl, .inl (by simp [wts])⟩ ?round ?done
  case round =>
    rintro pre x H' m hx hlen ⟨us, v, rfl, h1, h2, hor⟩ hnx
    obtain ⟨u, hu, rfl⟩ := List.mem_map.1 hx
    have hub := hbd u hu
    have hus : (us.map nodePV ++ [nodePV u]) = (us ++ [u]).map nodePV := by simp
    rw [hus]
    have hwu : wts (us ++ [u]) = wts us + u.wt := by simp [wts]
    clear hx hlen hu hus hbd
    by_cases hgood : (wts us ≤ 2000 ∧ v = wts us) ∧ u.nlv ≤ 2 ^ 40
    · obtain ⟨⟨hw, rfl⟩, hl40⟩ := hgood
      clear hor hub
      cases u with
      | mk k n s ls args =>
      simp only [Tm.nlv] at hl40
      have hmn := minsL_len ls
      simp only [Tm.wt] at hwu
      simp only [nodePV]
      repeat' (first | ((with_reducible first | refine wA (by omega) ?_ | refine wB (by omega) ?_ | refine wC (by omega) ?_ | refine wD (by omega) ?_ | refine wE ?_ ?_ | refine wF ?_ ?_ | refine wG ?_ ?_ | refine wH ?_ ?_ | refine wI ?_ ?_ | refine wJ ?_ ?_ | refine wK ?_ ?_ | refine wL ?_ ?_) <;> intro _) | simp (maxSteps := 1000000) (disch := omega) only [go_sem, Nat.reduceAdd, Nat.reduceMul, Nat.reduceSub, Nat.reduceLeDiff, Nat.reduceEqDiff, Nat.reduceBEq, ↓reduceIte, reduceCtorEq, Int.reduceEq, Int.reduceLE, Int.reduceLT, Int.reduceAdd, Int.reduceSub, Int.reduceNeg, Int.reduceToNat, Int.reduceNe, Nat.reducePow, Nat.reduceShiftRight, Nat.reduceMod, Tm.pv, h1, h2, *])
      refine c_loopW 268402720 (by kernel_rfl) (fun j f H2 m2 => ∃ i : Nat, j = ls.length - i ∧ i ≤ ls.length ∧ f 15 = .sc (.int .i64 i) ∧ H2 (nx + 1) = some ⟨[.sc (.int .i64 0)], true⟩ ∧ H2 (nx + 2) = some ⟨[.sc (.int .i64 ((wts us : Nat) + 1 + (minsL (ls.take i) : Nat)))], true⟩) _ ⟨0, rfl, cE1, cE1, by simp [upd, h1], by simp [upd, minsL]⟩ ?_
      rintro _ f H2 m2 ⟨i, rfl, hi, e15, g1, g2⟩
      have hmi : minsL (ls.take i) ≤ 2001 * i := Nat.le_trans (minsL_len _) (Nat.mul_le_mul_left _ (by rw [List.length_take]; omega))
      by_cases hlt : i < ls.length
      · have eg : ls[i]? = some ls[i] := List.getElem?_eq_getElem hlt
        have hst := minsL_take ls i hlt
        clear hwu hmn
        repeat' (first | ((with_reducible first | refine wA (by omega) ?_ | refine wB (by omega) ?_ | refine wC (by omega) ?_ | refine wD (by omega) ?_ | refine wE ?_ ?_ | refine wF ?_ ?_ | refine wG ?_ ?_ | refine wH ?_ ?_ | refine wI ?_ ?_ | refine wJ ?_ ?_ | refine wK ?_ ?_ | refine wL ?_ ?_) <;> intro _) | (((with_reducible refine call_id ?_); (first | (refine call_pure (tlNodes_p 2001 ls[i] 2001 (.inr (by omega)) (by omega) (by omega)) ?_)))) | simp (maxSteps := 1000000) (disch := omega) only [go_sem, Nat.reduceAdd, Nat.reduceMul, Nat.reduceSub, Nat.reduceLeDiff, Nat.reduceEqDiff, Nat.reduceBEq, ↓reduceIte, reduceCtorEq, Int.reduceEq, Int.reduceLE, Int.reduceLT, Int.reduceAdd, Int.reduceSub, Int.reduceNeg, Int.reduceToNat, Int.reduceNe, Nat.reducePow, Nat.reduceShiftRight, Nat.reduceMod, Tm.pv, *])
        refine Nx.mk (ls.length - (i + 1)) cE1 ⟨i + 1, rfl, cE1, cE1, by simp [upd, g1], ?_⟩
        simp only [upd, if_true, Option.some.injEq, PObj.mk.injEq, and_true, List.cons.injEq, PV.sc.injEq, Value.int.injEq]
        refine ⟨trivial, ?_⟩
        rw [hst]
        omega
      · obtain rfl : i = ls.length := by omega
        rw [List.take_length] at g2 hmi
        clear hlt hi
        by_cases hgt : 2000 < wts us + 1 + minsL ls
        · repeat' (first | ((with_reducible first | refine wA (by omega) ?_ | refine wB (by omega) ?_ | refine wC (by omega) ?_ | refine wD (by omega) ?_ | refine wE ?_ ?_ | refine wF ?_ ?_ | refine wG ?_ ?_ | refine wH ?_ ?_ | refine wI ?_ ?_ | refine wJ ?_ ?_ | refine wK ?_ ?_ | refine wL ?_ ?_) <;> intro _) | simp (maxSteps := 1000000) (disch := omega) only [go_sem, Nat.reduceAdd, Nat.reduceMul, Nat.reduceSub, Nat.reduceLeDiff, Nat.reduceEqDiff, Nat.reduceBEq, ↓reduceIte, reduceCtorEq, Int.reduceEq, Int.reduceLE, Int.reduceLT, Int.reduceAdd, Int.reduceSub, Int.reduceNeg, Int.reduceToNat, Int.reduceNe, Nat.reducePow, Nat.reduceShiftRight, Nat.reduceMod, *])
          refine rq_ret fun hp => ?_
          have hle := wts_prefix hp
          have he := wts_le t.pre
          rw [own_pre] at he
          have hmin : min t.nodes 2001 = 2001 := by unfold minsL at hgt; omega
          have hq := noIt_keep (H := upd H2 (nx + 1) (some ⟨[.sc (.int .i64 2001)], true⟩)) (id := nx + 1) (upd_same _ _ _) rfl
          rw [hmin]
          generalize noIt (upd H2 (nx + 1) (some ⟨[.sc (.int .i64 2001)], true⟩)) = H3 at hq ⊢
          clear hwu hmn hgt hp hle he hmin
          simp (maxSteps := 1000000) (disch := omega) only [go_sem, Nat.reduceAdd, Nat.reduceMul, Nat.reduceSub, Nat.reduceLeDiff, Nat.reduceEqDiff, Nat.reduceBEq, ↓reduceIte, reduceCtorEq, Int.reduceEq, Int.reduceLE, Int.reduceLT, Int.reduceAdd, Int.reduceSub, Int.reduceNeg, Int.reduceToNat, Int.reduceNe, Nat.reducePow, Nat.reduceShiftRight, Nat.reduceMod, hq]
          exact fin_mut (.sc (.int .i64 2001)) (.inr rfl) (by (simp (disch := omega) only [go_sem, Nat.reduceMul, Nat.reduceSub, Nat.reduceShiftRight, Nat.reduceMod, Nat.reduceEqDiff, Nat.reduceAdd, ↓reduceIte, Nat.reduceLeDiff, hq]); all_goals rfl) ⟨2001, rfl, .inl rfl⟩
        · repeat' (first | ((with_reducible first | refine wA (by omega) ?_ | refine wB (by omega) ?_ | refine wC (by omega) ?_ | refine wD (by omega) ?_ | refine wE ?_ ?_ | refine wF ?_ ?_ | refine wG ?_ ?_ | refine wH ?_ ?_ | refine wI ?_ ?_ | refine wJ ?_ ?_ | refine wK ?_ ?_ | refine wL ?_ ?_) <;> intro _) | simp (maxSteps := 1000000) (disch := omega) only [go_sem, Nat.reduceAdd, Nat.reduceMul, Nat.reduceSub, Nat.reduceLeDiff, Nat.reduceEqDiff, Nat.reduceBEq, ↓reduceIte, reduceCtorEq, Int.reduceEq, Int.reduceLE, Int.reduceLT, Int.reduceAdd, Int.reduceSub, Int.reduceNeg, Int.reduceToNat, Int.reduceNe, Nat.reducePow, Nat.reduceShiftRight, Nat.reduceMod, *])
          refine rq_normal ⟨us ++ [.mk k n s ls args], _, rfl, noIt_keep g1 rfl, noIt_keep g2 rfl, .inl ⟨?_, ?_⟩⟩
          · rw [hwu]
            unfold minsL at hgt
            omega
          · rw [hwu]
            unfold minsL
            omega
    · have hbad : HasBad (us ++ [u]) := by
        rcases hor with h | h
        · exact bad_last (Nat.le_trans (len_wts us) h.1) (Nat.lt_of_not_le fun h2 => hgood ⟨h, h2⟩)
        · exact bad_app h
      clear hor hgood hwu
      cases u with
      | mk k n s ls args =>
      simp only [Tm.nlv] at hub
      simp only [nodePV]
      repeat' (first | ((with_reducible first | refine wA (by omega) ?_ | refine wB (by omega) ?_ | refine wC (by omega) ?_ | refine wD (by omega) ?_ | refine wE ?_ ?_ | refine wF ?_ ?_ | refine wG ?_ ?_ | refine wH ?_ ?_ | refine wI ?_ ?_ | refine wJ ?_ ?_ | refine wK ?_ ?_ | refine wL ?_ ?_) <;> intro _) | simp (maxSteps := 1000000) (disch := omega) only [go_sem, Nat.reduceAdd, Nat.reduceMul, Nat.reduceSub, Nat.reduceLeDiff, Nat.reduceEqDiff, Nat.reduceBEq, ↓reduceIte, reduceCtorEq, Int.reduceEq, Int.reduceLE, Int.reduceLT, Int.reduceAdd, Int.reduceSub, Int.reduceNeg, Int.reduceToNat, Int.reduceNe, Nat.reducePow, Nat.reduceShiftRight, Nat.reduceMod, Tm.pv, h1, h2, *])
      refine c_loopW 268402720 (by kernel_rfl) (fun j f H2 m2 => ∃ (i : Nat) (w : Int), j = ls.length - i ∧ i ≤ ls.length ∧ f 15 = .sc (.int .i64 i) ∧ H2 (nx + 1) = some ⟨[.sc (.int .i64 0)], true⟩ ∧ H2 (nx + 2) = some ⟨[.sc (.int .i64 w)], true⟩) _ ⟨0, IntKind.i64.wrap (v + 1), rfl, cE1, cE1, by simp [upd, h1], by simp [upd]⟩ ?_
      rintro _ f H2 m2 ⟨i, w, rfl, hi, e15, g1, g2⟩
      by_cases hlt : i < ls.length
      · have eg : ls[i]? = some ls[i] := List.getElem?_eq_getElem hlt
        repeat' (first | ((with_reducible first | refine wA (by omega) ?_ | refine wB (by omega) ?_ | refine wC (by omega) ?_ | refine wD (by omega) ?_ | refine wE ?_ ?_ | refine wF ?_ ?_ | refine wG ?_ ?_ | refine wH ?_ ?_ | refine wI ?_ ?_ | refine wJ ?_ ?_ | refine wK ?_ ?_ | refine wL ?_ ?_) <;> intro _) | (((with_reducible refine call_id ?_); (first | (refine call_pure (tlNodes_p 2001 ls[i] 2001 (.inr (by omega)) (by omega) (by omega)) ?_)))) | simp (maxSteps := 1000000) (disch := omega) only [go_sem, Nat.reduceAdd, Nat.reduceMul, Nat.reduceSub, Nat.reduceLeDiff, Nat.reduceEqDiff, Nat.reduceBEq, ↓reduceIte, reduceCtorEq, Int.reduceEq, Int.reduceLE, Int.reduceLT, Int.reduceAdd, Int.reduceSub, Int.reduceNeg, Int.reduceToNat, Int.reduceNe, Nat.reducePow, Nat.reduceShiftRight, Nat.reduceMod, Tm.pv, *])
        exact Nx.mk (ls.length - (i + 1)) cE1 ⟨i + 1, IntKind.i64.wrap (w + (min ls[i].nodes 2001 : Nat)), rfl, cE1, cE1, by simp [upd, g1], by simp [upd]⟩
      · obtain rfl : i = ls.length := by omega
        clear hlt hi
        by_cases hgt : 2000 < w
        · repeat' (first | ((with_reducible first | refine wA (by omega) ?_ | refine wB (by omega) ?_ | refine wC (by omega) ?_ | refine wD (by omega) ?_ | refine wE ?_ ?_ | refine wF ?_ ?_ | refine wG ?_ ?_ | refine wH ?_ ?_ | refine wI ?_ ?_ | refine wJ ?_ ?_ | refine wK ?_ ?_ | refine wL ?_ ?_) <;> intro _) | simp (maxSteps := 1000000) (disch := omega) only [go_sem, Nat.reduceAdd, Nat.reduceMul, Nat.reduceSub, Nat.reduceLeDiff, Nat.reduceEqDiff, Nat.reduceBEq, ↓reduceIte, reduceCtorEq, Int.reduceEq, Int.reduceLE, Int.reduceLT, Int.reduceAdd, Int.reduceSub, Int.reduceNeg, Int.reduceToNat, Int.reduceNe, Nat.reducePow, Nat.reduceShiftRight, Nat.reduceMod, *])
          refine rq_ret fun hp => ?_
          have hbad2 := bad_prefix hp hbad
          have hq := noIt_keep (H := upd H2 (nx + 1) (some ⟨[.sc (.int .i64 2001)], true⟩)) (id := nx + 1) (upd_same _ _ _) rfl
          generalize noIt (upd H2 (nx + 1) (some ⟨[.sc (.int .i64 2001)], true⟩)) = H3 at hq ⊢
          clear hgt hp hbad
          simp (maxSteps := 1000000) (disch := omega) only [go_sem, Nat.reduceAdd, Nat.reduceMul, Nat.reduceSub, Nat.reduceLeDiff, Nat.reduceEqDiff, Nat.reduceBEq, ↓reduceIte, reduceCtorEq, Int.reduceEq, Int.reduceLE, Int.reduceLT, Int.reduceAdd, Int.reduceSub, Int.reduceNeg, Int.reduceToNat, Int.reduceNe, Nat.reducePow, Nat.reduceShiftRight, Nat.reduceMod, hq]
          exact fin_mut (.sc (.int .i64 2001)) (.inr rfl) (by (simp (disch := omega) only [go_sem, Nat.reduceMul, Nat.reduceSub, Nat.reduceShiftRight, Nat.reduceMod, Nat.reduceEqDiff, Nat.reduceAdd, ↓reduceIte, Nat.reduceLeDiff, hq]); all_goals rfl) ⟨2001, rfl, .inr hbad2⟩
        · repeat' (first | ((with_reducible first | refine wA (by omega) ?_ | refine wB (by omega) ?_ | refine wC (by omega) ?_ | refine wD (by omega) ?_ | refine wE ?_ ?_ | refine wF ?_ ?_ | refine wG ?_ ?_ | refine wH ?_ ?_ | refine wI ?_ ?_ | refine wJ ?_ ?_ | refine wK ?_ ?_ | refine wL ?_ ?_) <;> intro _) | simp (maxSteps := 1000000) (disch := omega) only [go_sem, Nat.reduceAdd, Nat.reduceMul, Nat.reduceSub, Nat.reduceLeDiff, Nat.reduceEqDiff, Nat.reduceBEq, ↓reduceIte, reduceCtorEq, Int.reduceEq, Int.reduceLE, Int.reduceLT, Int.reduceAdd, Int.reduceSub, Int.reduceNeg, Int.reduceToNat, Int.reduceNe, Nat.reducePow, Nat.reduceShiftRight, Nat.reduceMod, *])
          exact rq_normal ⟨us ++ [.mk k n s ls args], w, rfl, noIt_keep g1 rfl, noIt_keep g2 rfl, .inr hbad⟩
  case done =>
    rintro H' m ⟨us, v, hus, h1, h2, hor⟩ hnx
    have hor2 : v = (min t.nodes 2001 : Nat) ∨ HasBad t.pre := by
      rcases hor with ⟨hw, hv⟩ | hor
      · rw [← wts_of_pv hus] at hw hv
        have he := wts_eq t.pre hw
        rw [own_pre] at he
        exact .inl (by omega)
      · exact .inr (bad_prefix (by rw [hus]; exact ⟨[], by simp⟩) hor)
    clear hor hus hbd
    repeat' (first | ((with_reducible first | refine wA (by omega) ?_ | refine wB (by omega) ?_ | refine wC (by omega) ?_ | refine wD (by omega) ?_ | refine wE ?_ ?_ | refine wF ?_ ?_ | refine wG ?_ ?_ | refine wH ?_ ?_ | refine wI ?_ ?_ | refine wJ ?_ ?_ | refine wK ?_ ?_ | refine wL ?_ ?_) <;> intro _) | simp (maxSteps := 1000000) (disch := omega) only [go_sem, Nat.reduceAdd, Nat.reduceMul, Nat.reduceSub, Nat.reduceLeDiff, Nat.reduceEqDiff, Nat.reduceBEq, ↓reduceIte, reduceCtorEq, Int.reduceEq, Int.reduceLE, Int.reduceLT, Int.reduceAdd, Int.reduceSub, Int.reduceNeg, Int.reduceToNat, Int.reduceNe, Nat.reducePow, Nat.reduceShiftRight, Nat.reduceMod, h1, h2, *])
    exact fin_mut (.sc (.int .i64 v)) (.inr rfl) (by (simp (disch := omega) only [go_sem, Nat.reduceMul, Nat.reduceSub, Nat.reduceShiftRight, Nat.reduceMod, Nat.reduceEqDiff, Nat.reduceAdd, ↓reduceIte, Nat.reduceLeDiff, h1, h2]); all_goals rfl) ⟨v, rfl, hor2⟩
theorem bad_no_formed {np k kind n : Int} {s : ByteArray} {ls : List Lv} {args : List Tm} (h : 4 < ls.length) : (Tm.mk kind n s ls args).formed np k = false ∧ (Tm.mk kind n s ls args).vis np k = 1 := by
  have h0 : ∀ a c, hasB n s ls args a 0 c = false := fun a c => by
    have : ls ≠ [] := fun e => by rw [e] at h; simp at h
    simp [hasB, this]
  have h1 : hasB n s ls args 0 1 0 = false := by
    have : ¬ ((ls.length : Int) = 1) := by omega
    simp [hasB, this]
  have h2 : constB n s ls args np = false := by
    have : ¬ ls.length ≤ 4 := by omega
    simp [constB, this]
  simp [Tm.formed, Tm.vis, h0, h1, h2]
mutual
theorem vis_pre (np : Int) : ∀ (t : Tm) (k : Int), t.vis np k ≤ t.pre.length
  | .mk kind n s ls args, k => by
    have := vis_preA np args k kind args.length 0
    simp only [Tm.vis, Tm.pre, List.length_cons]
    split <;> omega
theorem vis_preA (np : Int) : ∀ (ts : List Tm) (k kind : Int) (len i : Nat), visA np k kind len i ts ≤ (preL ts).length
  | [], _, _, _, _ => by simp [visA]
  | x :: r, k, kind, len, i => by
    have h1 := vis_pre np x (k + deepB kind len i)
    have h2 := vis_preA np r k kind len (i + 1)
    simp only [visA, preL, List.length_append]
    split <;> omega
end
mutual
theorem bad_vis (np : Int) : ∀ (t : Tm) (k : Int) (p : Nat) (u : Tm), t.pre[p]? = some u → 4 < u.nlv → t.formed np k = false ∧ t.vis np k ≤ p + 1
  | .mk kind n s ls args, k, 0, u, h, hb => by
    simp only [Tm.pre, List.getElem?_cons_zero, Option.some.injEq] at h
    subst h
    have := bad_no_formed (np := np) (k := k) (kind := kind) (n := n) (s := s) (args := args) hb
    exact ⟨this.1, by omega⟩
  | .mk kind n s ls args, k, p + 1, u, h, hb => by
    simp only [Tm.pre, List.getElem?_cons_succ] at h
    have h2 := bad_visA np args k kind args.length 0 p u h hb
    have h3 : 0 < args.length := by
      cases args with
      | nil => simp [preL] at h
      | cons => simp
    have h4 : ¬ ((args.length : Int) = 0) := by omega
    have h5 : ¬ (args.length = 0) := by omega
    constructor
    · simp [Tm.formed, hasB, constB, h4, h5, h2.1]
    · simp only [Tm.vis]
      split <;> omega
theorem bad_visA (np : Int) : ∀ (ts : List Tm) (k kind : Int) (len i p : Nat) (u : Tm), (preL ts)[p]? = some u → 4 < u.nlv → formedA np k kind len i ts = false ∧ visA np k kind len i ts ≤ p + 1
  | [], _, _, _, _, p, u, h, _ => by simp [preL] at h
  | x :: r, k, kind, len, i, p, u, h, hb => by
    simp only [preL] at h
    by_cases hp : p < x.pre.length
    · rw [List.getElem?_append_left hp] at h
      have h1 := bad_vis np x (k + deepB kind len i) p u h hb
      simp only [formedA, visA, h1.1, Bool.false_and]
      exact ⟨trivial, by simp only [Bool.false_eq_true, if_false]; omega⟩
    · rw [List.getElem?_append_right (by omega)] at h
      have h1 := bad_visA np r k kind len (i + 1) (p - x.pre.length) u h hb
      have h2 := vis_pre np x (k + deepB kind len i)
      simp only [formedA, visA, h1.1, Bool.and_false]
      refine ⟨trivial, ?_⟩
      split <;> omega
end
mutual
theorem pre_nodes : ∀ t : Tm, t.pre.length ≤ t.nodes
  | .mk k n s ls args => by
    have := pre_nodesA args
    simp only [Tm.pre, List.length_cons, Tm.nodes]
    omega
theorem pre_nodesA : ∀ ts : List Tm, (preL ts).length ≤ nodesT ts
  | [] => by simp [preL, nodesT]
  | x :: r => by
    have := pre_nodes x
    have := pre_nodesA r
    simp only [preL, List.length_append, nodesT]
    omega
end
set_option maxHeartbeats 4000000 in
theorem tRightG_p (t : Tm) (np bound : Int) : PPure Try.prog F.term_Right [.agg t.pv, .sc (.int .i64 np), .sc (.int .i64 bound)] (.sc (.bool (t.right np bound))) := by
  refine PMut.pure (Q := fun _ _ _ r => r = .sc (.bool (t.right np bound))) rfl (fun nx => ?_) fun nx H' nx' r0 h => ?_
  rotate_left
  · rw [h]
    exact ⟨0, .refl _⟩
  refine mut_by is_term_Right (by simp) fun hb => ?_
  clear hb
  by_cases hpre : 0 ≤ np ∧ np ≤ 4 ∧ 0 ≤ bound
  · obtain ⟨p1, p2, p3⟩ := hpre
    repeat' (first | ((with_reducible first | refine wA (by omega) ?_ | refine wB (by omega) ?_ | refine wC (by omega) ?_ | refine wD (by omega) ?_ | refine wE ?_ ?_ | refine wF ?_ ?_ | refine wG ?_ ?_ | refine wH ?_ ?_ | refine wI ?_ ?_ | refine wJ ?_ ?_ | refine wK ?_ ?_ | refine wL ?_ ?_) <;> intro _) | simp (maxSteps := 1000000) (disch := omega) only [go_sem, Nat.reduceAdd, Nat.reduceMul, Nat.reduceSub, Nat.reduceLeDiff, Nat.reduceEqDiff, Nat.reduceBEq, ↓reduceIte, reduceCtorEq, Int.reduceEq, Int.reduceLE, Int.reduceLT, Int.reduceAdd, Int.reduceSub, Int.reduceNeg, Int.reduceToNat, Int.reduceNe, Nat.reducePow, Nat.reduceShiftRight, Nat.reduceMod, mc_term_Right, *])
    refine call_mut (NodesG_m t _ _) ?_
    rintro H' nx' r ⟨v, rfl, hv⟩ -
    by_cases hv2 : v ≤ 2000
    · have hk : t.vis np (min bound 1125899906842624) ≤ 2001 ∧ (t.nodes ≤ 2000 ∨ t.formed np (min bound 1125899906842624) = false) := by
        rcases hv with rfl | ⟨p, u, hp, hu, hn⟩
        · have h1 := vis_pre np t (min bound 1125899906842624)
          have h2 := pre_nodes t
          exact ⟨by omega, .inl (by omega)⟩
        · have h1 := bad_vis np t (min bound 1125899906842624) p u hu (by omega)
          exact ⟨by omega, .inr h1.1⟩
      have c2 := formedV_p np 2001 t (min bound 1125899906842624) hk.1 (by omega) (by omega)
      have e : t.right np bound = t.formed np (min bound 1125899906842624) := by
        unfold Tm.right
        rcases hk.2 with h | h
        · simp [h, p1, p2, p3]
        · simp [h]
      rw [e]
      clear hk hv e
      repeat' (first | ((with_reducible first | refine wA (by omega) ?_ | refine wB (by omega) ?_ | refine wC (by omega) ?_ | refine wD (by omega) ?_ | refine wE ?_ ?_ | refine wF ?_ ?_ | refine wG ?_ ?_ | refine wH ?_ ?_ | refine wI ?_ ?_ | refine wJ ?_ ?_ | refine wK ?_ ?_ | refine wL ?_ ?_) <;> intro _) | (((with_reducible refine call_id ?_); (first | (refine call_pure (c2) ?_)))) | simp (maxSteps := 1000000) (disch := omega) only [go_sem, Nat.reduceAdd, Nat.reduceMul, Nat.reduceSub, Nat.reduceLeDiff, Nat.reduceEqDiff, Nat.reduceBEq, ↓reduceIte, reduceCtorEq, Int.reduceEq, Int.reduceLE, Int.reduceLT, Int.reduceAdd, Int.reduceSub, Int.reduceNeg, Int.reduceToNat, Int.reduceNe, Nat.reducePow, Nat.reduceShiftRight, Nat.reduceMod, *])
      all_goals exact fin_mut (.sc (.bool (t.formed np (min bound 1125899906842624)))) (.inr rfl) cE2 rfl
    · have e : t.right np bound = false := by
        rcases hv with rfl | ⟨p, u, hp, hu, hn⟩
        · have : ¬ t.nodes ≤ 2000 := by omega
          simp [Tm.right, this]
        · simp [Tm.right, (bad_vis np t (min bound 1125899906842624) p u hu (by omega)).1]
      rw [e]
      clear hv e
      repeat' (first | ((with_reducible first | refine wA (by omega) ?_ | refine wB (by omega) ?_ | refine wC (by omega) ?_ | refine wD (by omega) ?_ | refine wE ?_ ?_ | refine wF ?_ ?_ | refine wG ?_ ?_ | refine wH ?_ ?_ | refine wI ?_ ?_ | refine wJ ?_ ?_ | refine wK ?_ ?_ | refine wL ?_ ?_) <;> intro _) | simp (maxSteps := 1000000) (disch := omega) only [go_sem, Nat.reduceAdd, Nat.reduceMul, Nat.reduceSub, Nat.reduceLeDiff, Nat.reduceEqDiff, Nat.reduceBEq, ↓reduceIte, reduceCtorEq, Int.reduceEq, Int.reduceLE, Int.reduceLT, Int.reduceAdd, Int.reduceSub, Int.reduceNeg, Int.reduceToNat, Int.reduceNe, Nat.reducePow, Nat.reduceShiftRight, Nat.reduceMod, *])
      all_goals exact fin_mut (.sc (.bool false)) (.inr rfl) cE2 rfl
  · have e : t.right np bound = false := by
      unfold Tm.right
      by_cases h1 : 0 ≤ np
      · by_cases h2 : np ≤ 4
        · have : ¬ 0 ≤ bound := fun h => hpre ⟨h1, h2, h⟩
          simp [this]
        · simp [h2]
      · simp [h1]
    rw [e]
    clear e
    have h9 : np < 0 ∨ (0 ≤ np ∧ 4 < np) ∨ (0 ≤ np ∧ np ≤ 4 ∧ bound < 0) := by omega
    clear hpre
    rcases h9 with h | ⟨h, h2⟩ | ⟨h, h2, h3⟩
    all_goals
      repeat' (first | ((with_reducible first | refine wA (by omega) ?_ | refine wB (by omega) ?_ | refine wC (by omega) ?_ | refine wD (by omega) ?_ | refine wE ?_ ?_ | refine wF ?_ ?_ | refine wG ?_ ?_ | refine wH ?_ ?_ | refine wI ?_ ?_ | refine wJ ?_ ?_ | refine wK ?_ ?_ | refine wL ?_ ?_) <;> intro _) | simp (maxSteps := 1000000) (disch := omega) only [go_sem, Nat.reduceAdd, Nat.reduceMul, Nat.reduceSub, Nat.reduceLeDiff, Nat.reduceEqDiff, Nat.reduceBEq, ↓reduceIte, reduceCtorEq, Int.reduceEq, Int.reduceLE, Int.reduceLT, Int.reduceAdd, Int.reduceSub, Int.reduceNeg, Int.reduceToNat, Int.reduceNe, Nat.reducePow, Nat.reduceShiftRight, Nat.reduceMod, mc_term_Right, *])
      all_goals exact fin_mut (.sc (.bool false)) (.inr rfl) cE2 rfl
end
section
set_option maxRecDepth 20000
attribute [local go_sem] pv_len pv_take Nat.add_assoc tm_len tm_take pv_one tm_one id_ne id_ne' id_ne2 List.append_assoc
theorem bind_right_p (t : Tm) : PPure Try.prog F.bind_right [.ptr t.pv] (.sc (.bool (t.right 4 1125899906842624))) := by
  refine pure_by is_bind_right (by simp) rfl fun hb nx => ?_
  repeat' (first | ((with_reducible first | refine wA (by omega) ?_ | refine wB (by omega) ?_ | refine wC (by omega) ?_ | refine wD (by omega) ?_ | refine wE ?_ ?_ | refine wF ?_ ?_ | refine wG ?_ ?_ | refine wH ?_ ?_ | refine wI ?_ ?_ | refine wJ ?_ ?_ | refine wK ?_ ?_ | refine wL ?_ ?_) <;> intro _) | (((with_reducible refine call_id ?_); (first | (refine call_pure (tRightG_p t 4 1125899906842624) ?_)))) | simp (maxSteps := 1000000) (disch := omega) only [go_sem, Nat.reduceAdd, Nat.reduceMul, Nat.reduceSub, Nat.reduceLeDiff, Nat.reduceEqDiff, Nat.reduceBEq, ↓reduceIte, reduceCtorEq, Int.reduceEq, Int.reduceLE, Int.reduceLT, Int.reduceAdd, Int.reduceSub, Int.reduceNeg, Int.reduceToNat, Int.reduceNe, Nat.reducePow, Nat.reduceShiftRight, Nat.reduceMod, mc_bind_right, *])
  all_goals (exact fin_tmp (.inr rfl) cE3)
theorem bind_deeper_p (kind n : Int) (s : ByteArray) (ls : List Lv) (args : List Tm) (i : Nat) (hi : i < args.length) (hl : args.length ≤ 2 ^ 40) : PPure Try.prog F.bind_deeper [.ptr [.sc (.int .i64 kind), .sc (.int .i64 n), .sc (.string s), .sl 3 (ls.map Lv.pv), .sl 5 (args.map Tm.pv)], .sc (.int .i64 i)] (.sc (.int .i64 (deepB kind args.length i))) := by
  refine pure_by is_bind_deeper (by simp) rfl fun hb nx => ?_
  repeat' (first | ((with_reducible first | refine wA (by omega) ?_ | refine wB (by omega) ?_ | refine wC (by omega) ?_ | refine wD (by omega) ?_ | refine wE ?_ ?_ | refine wF ?_ ?_ | refine wG ?_ ?_ | refine wH ?_ ?_ | refine wI ?_ ?_ | refine wJ ?_ ?_ | refine wK ?_ ?_ | refine wL ?_ ?_) <;> intro _) | simp (maxSteps := 1000000) (disch := omega) only [go_sem, Nat.reduceAdd, Nat.reduceMul, Nat.reduceSub, Nat.reduceLeDiff, Nat.reduceEqDiff, Nat.reduceBEq, ↓reduceIte, reduceCtorEq, Int.reduceEq, Int.reduceLE, Int.reduceLT, Int.reduceAdd, Int.reduceSub, Int.reduceNeg, Int.reduceToNat, Int.reduceNe, Nat.reducePow, Nat.reduceShiftRight, Nat.reduceMod, mc_bind_deeper, *])
  all_goals (refine fin_tmp (.inr rfl) ?_; simp [upd, deepB, *]; try omega)
theorem raised_p (by_ frm : Int) : PPure Try.prog F.bind_raised [.sc (.int .i64 by_), .sc (.int .i64 frm)] (.fn F.bind_raised_1 [.ptr [.sc (.int .i64 frm)], .ptr [.sc (.int .i64 by_)]]) := by
  refine pure_by is_bind_raised (by simp) (by simp [PV.imm, immL]) fun hb nx => ?_
  repeat' (first | ((with_reducible first | refine wA (by omega) ?_ | refine wB (by omega) ?_ | refine wC (by omega) ?_ | refine wD (by omega) ?_ | refine wE ?_ ?_ | refine wF ?_ ?_ | refine wG ?_ ?_ | refine wH ?_ ?_ | refine wI ?_ ?_ | refine wJ ?_ ?_ | refine wK ?_ ?_ | refine wL ?_ ?_) <;> intro _) | simp (maxSteps := 1000000) (disch := omega) only [go_sem, Nat.reduceAdd, Nat.reduceMul, Nat.reduceSub, Nat.reduceLeDiff, Nat.reduceEqDiff, Nat.reduceBEq, ↓reduceIte, reduceCtorEq, Int.reduceEq, Int.reduceLE, Int.reduceLT, Int.reduceAdd, Int.reduceSub, Int.reduceNeg, Int.reduceToNat, Int.reduceNe, Nat.reducePow, Nat.reduceShiftRight, Nat.reduceMod, mc_bind_raised, *])
  all_goals (exact fin_tmp (.inr rfl) cE3)
def LeafIs : LeafR → PV → Prop
  | .no, r => ∃ x : Int, r = .tup [.agg [.sc (.pointer none), .sc (.int .i64 x)], .sc (.bool false)]
  | .num m, r => r = .tup [.agg [.sc (.pointer none), .sc (.int .i64 m)], .sc (.bool true)]
  | .put u, r => r = .tup [.agg [.ptr u.pv, .sc (.int .i64 0)], .sc (.bool true)]
theorem var_num {np k kind n : Int} {s : ByteArray} {ls : List Lv} {args : List Tm} (hf : (Tm.mk kind n s ls args).formed np k = true) (e : kind = 1) : 0 ≤ n ∧ n < k := by
  rcases formed_cases np k kind n s ls args hf with h | h | h | h <;> omega
set_option maxHeartbeats 4000000 in
theorem raised1_p (by_ frm : Int) (hby : 0 ≤ by_ ∧ by_ ≤ 2 ^ 50) (t : Tm) (deep np k : Int) (hd : 0 ≤ deep ∧ deep ≤ 2 ^ 50) (hk : k ≤ 2 ^ 60) (hf : t.formed np k = true) :
    ∃ r, LeafIs (raisedL by_ frm t deep) r ∧ PPure Try.prog F.bind_raised_1 [.ptr t.pv, .sc (.int .i64 deep), .ptr [.sc (.int .i64 frm)], .ptr [.sc (.int .i64 by_)]] r := by
  cases t with
  | mk kind n s ls args =>
  have hn := Kept.mk (var_num hf)
  clear hf
  by_cases h1 : kind = 1
  · have hn2 := hn.out h1
    subst h1
    by_cases h2 : frm ≤ n - deep
    · refine ⟨.tup [.agg [.sc (.pointer none), .sc (.int .i64 (n + by_))], .sc (.bool true)], by simp [raisedL, h2, LeafIs], ?_⟩
      refine pure_by is_bind_raised_1 (by simp) (by simp [PV.imm, immL]) fun hb nx => ?_
      clear hb
      simp only [Tm.pv]
      repeat' (first | ((with_reducible first | refine wA (by omega) ?_ | refine wB (by omega) ?_ | refine wC (by omega) ?_ | refine wD (by omega) ?_ | refine wE ?_ ?_ | refine wF ?_ ?_ | refine wG ?_ ?_ | refine wH ?_ ?_ | refine wI ?_ ?_ | refine wJ ?_ ?_ | refine wK ?_ ?_ | refine wL ?_ ?_) <;> intro _) | simp (maxSteps := 1000000) (disch := omega) only [go_sem, Nat.reduceAdd, Nat.reduceMul, Nat.reduceSub, Nat.reduceLeDiff, Nat.reduceEqDiff, Nat.reduceBEq, ↓reduceIte, reduceCtorEq, Int.reduceEq, Int.reduceLE, Int.reduceLT, Int.reduceAdd, Int.reduceSub, Int.reduceNeg, Int.reduceToNat, Int.reduceNe, Nat.reducePow, Nat.reduceShiftRight, Nat.reduceMod, mc_bind_raised_1, *])
      refine fin_ret (r0 := .tup [.agg [.sc (.pointer none), .sc (.int .i64 (n + by_))], .sc (.bool true)]) 2 cE2 ?_
      exact .of_eq (by simp [frz, frz_sc])
    · refine ⟨.tup [.agg [.sc (.pointer none), .sc (.int .i64 n)], .sc (.bool true)], by simp [raisedL, h2, LeafIs], ?_⟩
      refine pure_by is_bind_raised_1 (by simp) (by simp [PV.imm, immL]) fun hb nx => ?_
      clear hb
      simp only [Tm.pv]
      repeat' (first | ((with_reducible first | refine wA (by omega) ?_ | refine wB (by omega) ?_ | refine wC (by omega) ?_ | refine wD (by omega) ?_ | refine wE ?_ ?_ | refine wF ?_ ?_ | refine wG ?_ ?_ | refine wH ?_ ?_ | refine wI ?_ ?_ | refine wJ ?_ ?_ | refine wK ?_ ?_ | refine wL ?_ ?_) <;> intro _) | simp (maxSteps := 1000000) (disch := omega) only [go_sem, Nat.reduceAdd, Nat.reduceMul, Nat.reduceSub, Nat.reduceLeDiff, Nat.reduceEqDiff, Nat.reduceBEq, ↓reduceIte, reduceCtorEq, Int.reduceEq, Int.reduceLE, Int.reduceLT, Int.reduceAdd, Int.reduceSub, Int.reduceNeg, Int.reduceToNat, Int.reduceNe, Nat.reducePow, Nat.reduceShiftRight, Nat.reduceMod, mc_bind_raised_1, *])
      refine fin_ret (r0 := .tup [.agg [.sc (.pointer none), .sc (.int .i64 n)], .sc (.bool true)]) 2 cE2 ?_
      exact .of_eq (by simp [frz, frz_sc])
  · refine ⟨.tup [.agg [.sc (.pointer none), .sc (.int .i64 n)], .sc (.bool true)], by simp [raisedL, h1, LeafIs], ?_⟩
    refine pure_by is_bind_raised_1 (by simp) (by simp [PV.imm, immL]) fun hb nx => ?_
    clear hb
    simp only [Tm.pv]
    repeat' (first | ((with_reducible first | refine wA (by omega) ?_ | refine wB (by omega) ?_ | refine wC (by omega) ?_ | refine wD (by omega) ?_ | refine wE ?_ ?_ | refine wF ?_ ?_ | refine wG ?_ ?_ | refine wH ?_ ?_ | refine wI ?_ ?_ | refine wJ ?_ ?_ | refine wK ?_ ?_ | refine wL ?_ ?_) <;> intro _) | simp (maxSteps := 1000000) (disch := omega) only [go_sem, Nat.reduceAdd, Nat.reduceMul, Nat.reduceSub, Nat.reduceLeDiff, Nat.reduceEqDiff, Nat.reduceBEq, ↓reduceIte, reduceCtorEq, Int.reduceEq, Int.reduceLE, Int.reduceLT, Int.reduceAdd, Int.reduceSub, Int.reduceNeg, Int.reduceToNat, Int.reduceNe, Nat.reducePow, Nat.reduceShiftRight, Nat.reduceMod, mc_bind_raised_1, *])
    refine fin_ret (r0 := .tup [.agg [.sc (.pointer none), .sc (.int .i64 n)], .sc (.bool true)]) 2 cE2 ?_
    exact .of_eq (by simp [frz, frz_sc])
set_option maxHeartbeats 4000000 in
theorem lower1_p (by_ : Int) (hby : 0 ≤ by_ ∧ by_ ≤ 2 ^ 50) (t : Tm) (deep np k : Int) (hd : 0 ≤ deep ∧ deep ≤ 2 ^ 50) (hk : k ≤ 2 ^ 60) (hf : t.formed np k = true) :
    ∃ r, LeafIs (lowerL by_ t deep) r ∧ PPure Try.prog F.bind_Lower_1 [.ptr t.pv, .sc (.int .i64 deep), .ptr [.sc (.int .i64 by_)]] r := by
  cases t with
  | mk kind n s ls args =>
  have hn := Kept.mk (var_num hf)
  clear hf
  by_cases h1 : kind = 1 ∧ deep ≤ n
  · have hn2 := hn.out h1.1
    obtain ⟨rfl, h3⟩ := h1
    by_cases h2 : by_ ≤ n - deep
    · refine ⟨.tup [.agg [.sc (.pointer none), .sc (.int .i64 (n - by_))], .sc (.bool true)], by simp [lowerL, h2, h3, LeafIs], ?_⟩
      refine pure_by is_bind_Lower_1 (by simp) (by simp [PV.imm, immL]) fun hb nx => ?_
      clear hb
      simp only [Tm.pv]
      repeat' (first | ((with_reducible first | refine wA (by omega) ?_ | refine wB (by omega) ?_ | refine wC (by omega) ?_ | refine wD (by omega) ?_ | refine wE ?_ ?_ | refine wF ?_ ?_ | refine wG ?_ ?_ | refine wH ?_ ?_ | refine wI ?_ ?_ | refine wJ ?_ ?_ | refine wK ?_ ?_ | refine wL ?_ ?_) <;> intro _) | simp (maxSteps := 1000000) (disch := omega) only [go_sem, Nat.reduceAdd, Nat.reduceMul, Nat.reduceSub, Nat.reduceLeDiff, Nat.reduceEqDiff, Nat.reduceBEq, ↓reduceIte, reduceCtorEq, Int.reduceEq, Int.reduceLE, Int.reduceLT, Int.reduceAdd, Int.reduceSub, Int.reduceNeg, Int.reduceToNat, Int.reduceNe, Nat.reducePow, Nat.reduceShiftRight, Nat.reduceMod, mc_bind_Lower_1, *])
      refine fin_ret (r0 := .tup [.agg [.sc (.pointer none), .sc (.int .i64 (n - by_))], .sc (.bool true)]) 2 cE2 ?_
      exact .of_eq (by simp [frz, frz_sc])
    · refine ⟨.tup [.agg [.sc (.pointer none), .sc (.int .i64 (n - by_))], .sc (.bool false)], by simp [lowerL, h2, h3, LeafIs], ?_⟩
      refine pure_by is_bind_Lower_1 (by simp) (by simp [PV.imm, immL]) fun hb nx => ?_
      clear hb
      simp only [Tm.pv]
      repeat' (first | ((with_reducible first | refine wA (by omega) ?_ | refine wB (by omega) ?_ | refine wC (by omega) ?_ | refine wD (by omega) ?_ | refine wE ?_ ?_ | refine wF ?_ ?_ | refine wG ?_ ?_ | refine wH ?_ ?_ | refine wI ?_ ?_ | refine wJ ?_ ?_ | refine wK ?_ ?_ | refine wL ?_ ?_) <;> intro _) | simp (maxSteps := 1000000) (disch := omega) only [go_sem, Nat.reduceAdd, Nat.reduceMul, Nat.reduceSub, Nat.reduceLeDiff, Nat.reduceEqDiff, Nat.reduceBEq, ↓reduceIte, reduceCtorEq, Int.reduceEq, Int.reduceLE, Int.reduceLT, Int.reduceAdd, Int.reduceSub, Int.reduceNeg, Int.reduceToNat, Int.reduceNe, Nat.reducePow, Nat.reduceShiftRight, Nat.reduceMod, mc_bind_Lower_1, *])
      refine fin_ret (r0 := .tup [.agg [.sc (.pointer none), .sc (.int .i64 (n - by_))], .sc (.bool false)]) 2 cE2 ?_
      exact .of_eq (by simp [frz, frz_sc])
  · refine ⟨.tup [.agg [.sc (.pointer none), .sc (.int .i64 n)], .sc (.bool true)], by simp only [lowerL, if_neg h1, LeafIs], ?_⟩
    refine pure_by is_bind_Lower_1 (by simp) (by simp [PV.imm, immL]) fun hb nx => ?_
    clear hb
    simp only [Tm.pv]
    have h9 : ¬ kind = 1 ∨ (kind = 1 ∧ n < deep) := by omega
    clear h1
    rcases h9 with h1 | ⟨rfl, h1⟩
    all_goals
      repeat' (first | ((with_reducible first | refine wA (by omega) ?_ | refine wB (by omega) ?_ | refine wC (by omega) ?_ | refine wD (by omega) ?_ | refine wE ?_ ?_ | refine wF ?_ ?_ | refine wG ?_ ?_ | refine wH ?_ ?_ | refine wI ?_ ?_ | refine wJ ?_ ?_ | refine wK ?_ ?_ | refine wL ?_ ?_) <;> intro _) | simp (maxSteps := 1000000) (disch := omega) only [go_sem, Nat.reduceAdd, Nat.reduceMul, Nat.reduceSub, Nat.reduceLeDiff, Nat.reduceEqDiff, Nat.reduceBEq, ↓reduceIte, reduceCtorEq, Int.reduceEq, Int.reduceLE, Int.reduceLT, Int.reduceAdd, Int.reduceSub, Int.reduceNeg, Int.reduceToNat, Int.reduceNe, Nat.reducePow, Nat.reduceShiftRight, Nat.reduceMod, mc_bind_Lower_1, *])
      refine fin_ret (r0 := .tup [.agg [.sc (.pointer none), .sc (.int .i64 n)], .sc (.bool true)]) 2 cE2 ?_
      exact .of_eq (by simp [frz, frz_sc])
end
section
set_option maxRecDepth 20000
attribute [local go_sem] pv_len pv_take Nat.add_assoc tm_len tm_take pv_one tm_one id_ne id_ne' id_ne2 List.append_assoc
set_option maxHeartbeats 4000000 in
theorem inst1_p (xs : List Tm) (hx : xs.length ≤ 2 ^ 40) (t : Tm) (deep np k : Int) (hd : 0 ≤ deep ∧ deep ≤ 2 ^ 50) (hk : k ≤ 2 ^ 60) (hf : t.formed np k = true) :
    ∃ r, LeafIs (instL6 xs t deep) r ∧ PPure Try.prog F.bind_Inst_1 [.ptr t.pv, .sc (.int .i64 deep), .ptr [.sc (.int .i64 xs.length)], .ptr [.sl 5 (xs.map Tm.pv)]] r := by
  cases t with
  | mk kind n s ls args =>
  have hn := Kept.mk (var_num hf)
  clear hf
  by_cases h1 : kind = 1 ∧ deep ≤ n
  · have hn2 := hn.out h1.1
    obtain ⟨rfl, h3⟩ := h1
    by_cases h2 : n - deep < xs.length
    · have hlt : xs.length - 1 - (n - deep).toNat < xs.length := by omega
      have eg : xs[xs.length - 1 - (n - deep).toNat]? = some xs[xs.length - 1 - (n - deep).toNat] := List.getElem?_eq_getElem hlt
      have hr : xs.reverse[(n - deep).toNat]? = some xs[xs.length - 1 - (n - deep).toNat] := by
        rw [List.getElem?_reverse (by omega), eg]
      have hto : ((xs.length : Int) - 1 - (n - deep)).toNat = xs.length - 1 - (n - deep).toNat := by omega
      have hp0 : 0 ≤ (xs.length : Int) - 1 - (n - deep) := by omega
      refine ⟨.tup [.agg [.ptr xs[xs.length - 1 - (n - deep).toNat].pv, .sc (.int .i64 0)], .sc (.bool true)], by simp [instL6, h3, hr, LeafIs], ?_⟩
      refine pure_by is_bind_Inst_1 (by simp) (by simp [PV.imm, immL, tm_imm]) fun hb nx => ?_
      clear hb hr
      simp only [Tm.pv]
      repeat' (first | ((with_reducible first | refine wA (by omega) ?_ | refine wB (by omega) ?_ | refine wC (by omega) ?_ | refine wD (by omega) ?_ | refine wE ?_ ?_ | refine wF ?_ ?_ | refine wG ?_ ?_ | refine wH ?_ ?_ | refine wI ?_ ?_ | refine wJ ?_ ?_ | refine wK ?_ ?_ | refine wL ?_ ?_) <;> intro _) | simp (maxSteps := 1000000) (disch := omega) only [go_sem, Nat.reduceAdd, Nat.reduceMul, Nat.reduceSub, Nat.reduceLeDiff, Nat.reduceEqDiff, Nat.reduceBEq, ↓reduceIte, reduceCtorEq, Int.reduceEq, Int.reduceLE, Int.reduceLT, Int.reduceAdd, Int.reduceSub, Int.reduceNeg, Int.reduceToNat, Int.reduceNe, Nat.reducePow, Nat.reduceShiftRight, Nat.reduceMod, mc_bind_Inst_1, *])
      refine fin_ret (r0 := .tup [.agg [.ptr xs[xs.length - 1 - (n - deep).toNat].pv, .sc (.int .i64 0)], .sc (.bool true)]) 2 cE2 ?_
      exact .of_eq (by simp [frz, frz_sc])
    · have hr : xs.reverse[(n - deep).toNat]? = none := List.getElem?_eq_none (by rw [List.length_reverse]; omega)
      refine ⟨.tup [.agg [.sc (.pointer none), .sc (.int .i64 (n - xs.length))], .sc (.bool true)], by simp [instL6, h3, hr, LeafIs], ?_⟩
      refine pure_by is_bind_Inst_1 (by simp) (by simp [PV.imm, immL]) fun hb nx => ?_
      clear hb hr
      simp only [Tm.pv]
      repeat' (first | ((with_reducible first | refine wA (by omega) ?_ | refine wB (by omega) ?_ | refine wC (by omega) ?_ | refine wD (by omega) ?_ | refine wE ?_ ?_ | refine wF ?_ ?_ | refine wG ?_ ?_ | refine wH ?_ ?_ | refine wI ?_ ?_ | refine wJ ?_ ?_ | refine wK ?_ ?_ | refine wL ?_ ?_) <;> intro _) | simp (maxSteps := 1000000) (disch := omega) only [go_sem, Nat.reduceAdd, Nat.reduceMul, Nat.reduceSub, Nat.reduceLeDiff, Nat.reduceEqDiff, Nat.reduceBEq, ↓reduceIte, reduceCtorEq, Int.reduceEq, Int.reduceLE, Int.reduceLT, Int.reduceAdd, Int.reduceSub, Int.reduceNeg, Int.reduceToNat, Int.reduceNe, Nat.reducePow, Nat.reduceShiftRight, Nat.reduceMod, mc_bind_Inst_1, *])
      refine fin_ret (r0 := .tup [.agg [.sc (.pointer none), .sc (.int .i64 (n - xs.length))], .sc (.bool true)]) 2 cE2 ?_
      exact .of_eq (by simp [frz, frz_sc])
  · refine ⟨.tup [.agg [.sc (.pointer none), .sc (.int .i64 n)], .sc (.bool true)], by simp only [instL6, if_neg h1, LeafIs], ?_⟩
    refine pure_by is_bind_Inst_1 (by simp) (by simp [PV.imm, immL]) fun hb nx => ?_
    clear hb
    simp only [Tm.pv]
    have h9 : ¬ kind = 1 ∨ (kind = 1 ∧ n < deep) := by omega
    clear h1
    rcases h9 with h1 | ⟨rfl, h1⟩
    all_goals
      repeat' (first | ((with_reducible first | refine wA (by omega) ?_ | refine wB (by omega) ?_ | refine wC (by omega) ?_ | refine wD (by omega) ?_ | refine wE ?_ ?_ | refine wF ?_ ?_ | refine wG ?_ ?_ | refine wH ?_ ?_ | refine wI ?_ ?_ | refine wJ ?_ ?_ | refine wK ?_ ?_ | refine wL ?_ ?_) <;> intro _) | simp (maxSteps := 1000000) (disch := omega) only [go_sem, Nat.reduceAdd, Nat.reduceMul, Nat.reduceSub, Nat.reduceLeDiff, Nat.reduceEqDiff, Nat.reduceBEq, ↓reduceIte, reduceCtorEq, Int.reduceEq, Int.reduceLE, Int.reduceLT, Int.reduceAdd, Int.reduceSub, Int.reduceNeg, Int.reduceToNat, Int.reduceNe, Nat.reducePow, Nat.reduceShiftRight, Nat.reduceMod, mc_bind_Inst_1, *])
      refine fin_ret (r0 := .tup [.agg [.sc (.pointer none), .sc (.int .i64 n)], .sc (.bool true)]) 2 cE2 ?_
      exact .of_eq (by simp [frz, frz_sc])
def replL (name : ByteArray) (u : Tm) : Tm → Int → LeafR
  | .mk k n s _ _, _ => if k = 3 ∧ sameB s name = true then .put u else .num n
set_option maxHeartbeats 4000000 in
theorem repl1_p (name : ByteArray) (u t : Tm) (deep : Int) :
    ∃ r, LeafIs (replL name u t deep) r ∧ PPure Try.prog F.bind_Replace_1 [.ptr t.pv, .sc (.int .i64 deep), .ptr [.sc (.string name)], .ptr u.pv] r := by
  cases t with
  | mk kind n s ls args =>
  by_cases h1 : kind = 3
  · subst h1
    cases h2 : sameB s name with
    | true =>
      refine ⟨.tup [.agg [.ptr u.pv, .sc (.int .i64 0)], .sc (.bool true)], by simp [replL, h2, LeafIs], ?_⟩
      refine pure_by is_bind_Replace_1 (by simp) (by simp [PV.imm, immL, tm_imm]) fun hb nx => ?_
      clear hb
      simp only [Tm.pv]
      repeat' (first | ((with_reducible first | refine wA (by omega) ?_ | refine wB (by omega) ?_ | refine wC (by omega) ?_ | refine wD (by omega) ?_ | refine wE ?_ ?_ | refine wF ?_ ?_ | refine wG ?_ ?_ | refine wH ?_ ?_ | refine wI ?_ ?_ | refine wJ ?_ ?_ | refine wK ?_ ?_ | refine wL ?_ ?_) <;> intro _) | simp (maxSteps := 1000000) (disch := omega) only [go_sem, Nat.reduceAdd, Nat.reduceMul, Nat.reduceSub, Nat.reduceLeDiff, Nat.reduceEqDiff, Nat.reduceBEq, ↓reduceIte, reduceCtorEq, Int.reduceEq, Int.reduceLE, Int.reduceLT, Int.reduceAdd, Int.reduceSub, Int.reduceNeg, Int.reduceToNat, Int.reduceNe, Nat.reducePow, Nat.reduceShiftRight, Nat.reduceMod, mc_bind_Replace_1, strBin, fold_sameB, *])
      refine fin_ret (r0 := .tup [.agg [.ptr u.pv, .sc (.int .i64 0)], .sc (.bool true)]) 2 cE2 ?_
      exact .of_eq (by simp [frz, frz_sc])
    | false =>
      refine ⟨.tup [.agg [.sc (.pointer none), .sc (.int .i64 n)], .sc (.bool true)], by simp [replL, h2, LeafIs], ?_⟩
      refine pure_by is_bind_Replace_1 (by simp) (by simp [PV.imm, immL]) fun hb nx => ?_
      clear hb
      simp only [Tm.pv]
      repeat' (first | ((with_reducible first | refine wA (by omega) ?_ | refine wB (by omega) ?_ | refine wC (by omega) ?_ | refine wD (by omega) ?_ | refine wE ?_ ?_ | refine wF ?_ ?_ | refine wG ?_ ?_ | refine wH ?_ ?_ | refine wI ?_ ?_ | refine wJ ?_ ?_ | refine wK ?_ ?_ | refine wL ?_ ?_) <;> intro _) | simp (maxSteps := 1000000) (disch := omega) only [go_sem, Nat.reduceAdd, Nat.reduceMul, Nat.reduceSub, Nat.reduceLeDiff, Nat.reduceEqDiff, Nat.reduceBEq, ↓reduceIte, reduceCtorEq, Int.reduceEq, Int.reduceLE, Int.reduceLT, Int.reduceAdd, Int.reduceSub, Int.reduceNeg, Int.reduceToNat, Int.reduceNe, Nat.reducePow, Nat.reduceShiftRight, Nat.reduceMod, mc_bind_Replace_1, strBin, fold_sameB, *])
      refine fin_ret (r0 := .tup [.agg [.sc (.pointer none), .sc (.int .i64 n)], .sc (.bool true)]) 2 cE2 ?_
      exact .of_eq (by simp [frz, frz_sc])
  · refine ⟨.tup [.agg [.sc (.pointer none), .sc (.int .i64 n)], .sc (.bool true)], by simp [replL, h1, LeafIs], ?_⟩
    refine pure_by is_bind_Replace_1 (by simp) (by simp [PV.imm, immL]) fun hb nx => ?_
    clear hb
    simp only [Tm.pv]
    repeat' (first | ((with_reducible first | refine wA (by omega) ?_ | refine wB (by omega) ?_ | refine wC (by omega) ?_ | refine wD (by omega) ?_ | refine wE ?_ ?_ | refine wF ?_ ?_ | refine wG ?_ ?_ | refine wH ?_ ?_ | refine wI ?_ ?_ | refine wJ ?_ ?_ | refine wK ?_ ?_ | refine wL ?_ ?_) <;> intro _) | simp (maxSteps := 1000000) (disch := omega) only [go_sem, Nat.reduceAdd, Nat.reduceMul, Nat.reduceSub, Nat.reduceLeDiff, Nat.reduceEqDiff, Nat.reduceBEq, ↓reduceIte, reduceCtorEq, Int.reduceEq, Int.reduceLE, Int.reduceLT, Int.reduceAdd, Int.reduceSub, Int.reduceNeg, Int.reduceToNat, Int.reduceNe, Nat.reducePow, Nat.reduceShiftRight, Nat.reduceMod, mc_bind_Replace_1, strBin, fold_sameB, *])
    refine fin_ret (r0 := .tup [.agg [.sc (.pointer none), .sc (.int .i64 n)], .sc (.bool true)]) 2 cE2 ?_
    exact .of_eq (by simp [frz, frz_sc])
theorem sizeL_take : ∀ (xs : List Tm) (j : Nat), sizeL (xs.take j) ≤ sizeL xs
  | [], j => by simp [sizeL]
  | x :: r, 0 => by simp [sizeL]
  | x :: r, j + 1 => by
    have := sizeL_take r j
    simp only [List.take_succ_cons, sizeL]
    omega
mutual
def Tm.cnt (L : Tm → Int → Bool) : Int → Tm → Nat
  | deep, .mk k n s ls args => (if L (.mk k n s ls args) deep = true then 1 else 0) + cntA L deep k args.length 0 args
def cntA (L : Tm → Int → Bool) : Int → Int → Nat → Nat → List Tm → Nat
  | _, _, _, _, [] => 0
  | deep, kind, len, i, x :: r => x.cnt L (deep + deepB kind len i) + cntA L deep kind len (i + 1) r
end
mutual
theorem cnt_le (L : Tm → Int → Bool) : ∀ (t : Tm) (deep : Int), t.cnt L deep ≤ t.size
  | .mk k n s ls args, deep => by
    have := cntA_le L args deep k args.length 0
    simp only [Tm.cnt, Tm.size]
    split <;> omega
theorem cntA_le (L : Tm → Int → Bool) : ∀ (xs : List Tm) (deep kind : Int) (len i : Nat), cntA L deep kind len i xs ≤ sizeL xs
  | [], _, _, _, _ => Nat.zero_le _
  | x :: r, deep, kind, len, i => by
    have := cnt_le L x (deep + deepB kind len i)
    have := cntA_le L r deep kind len (i + 1)
    simp only [cntA, sizeL]
    omega
end
theorem cntA_take (L : Tm → Int → Bool) (deep kind : Int) (len : Nat) : ∀ (xs : List Tm) (i j : Nat) (h : j < xs.length), cntA L deep kind len i (xs.take (j + 1)) = cntA L deep kind len i (xs.take j) + xs[j].cnt L (deep + deepB kind len (i + j))
  | x :: r, i, 0, h => by simp [cntA]
  | x :: r, i, j + 1, h => by
    have := cntA_take L deep kind len r (i + 1) j (by simpa using h)
    simp only [List.take_succ_cons, cntA, List.getElem_cons_succ, this]
    rw [show i + 1 + j = i + (j + 1) by omega]
    omega
set_option maxHeartbeats 8000000 in
theorem count_p (np : Int) (f : FuncId) (caps : List PV) (hi : immL caps = true) (L : Tm → Int → Bool) (hL : ∀ (t : Tm) (deep k : Int), 0 ≤ deep → deep ≤ 2 ^ 50 → k ≤ 2 ^ 60 → t.formed np k = true → PPure Try.prog f (.ptr t.pv :: .sc (.int .i64 deep) :: caps) (.sc (.bool (L t deep)))) :
    ∀ (fuel : Nat) (t : Tm) (k deep : Int), t.size ≤ fuel → t.nodes ≤ 2 ^ 40 → k + t.size ≤ 2 ^ 60 → t.formed np k = true → 0 ≤ deep → deep + t.size ≤ 2 ^ 50 → PPure Try.prog F.bind_count [.ptr t.pv, .sc (.int .i64 deep), .fn f caps] (.sc (.int .i64 (t.cnt L deep))) := by
  intro fuel
  induction fuel with
  | zero => intro t k deep h; have := size_pos t; omega
  | succ fuel ih =>
    intro t k deep hf hm hk hfm hd0 hd1
    have hcl := hL t deep k hd0 (by omega) (by have := size_pos t; omega) hfm
    cases t with
    | mk kind n s ls args =>
    simp only [Tm.size] at hf hk hd1
    simp only [Tm.nodes] at hm
    have hA := Kept.mk (formed_args np k kind n s ls args hfm)
    have hla := len_nodesT args
    have hcc := cntA_le L args deep kind args.length 0
    have hih := Kept.mk ih
    clear hfm ih
    refine pure_by is_bind_count (by simp) rfl fun hb nx => ?_
    clear hb
    have key : ∀ c : Bool, L (.mk kind n s ls args) deep = c → PPure Try.prog f (.ptr (Tm.mk kind n s ls args).pv :: .sc (.int .i64 deep) :: caps) (.sc (.bool c)) := fun c h => by rw [← h]; exact hcl
    clear hcl
    simp only [Tm.pv] at key ⊢
    cases hc : L (.mk kind n s ls args) deep with
    | true =>
      have c1 := key _ hc
      have e : (Tm.mk kind n s ls args).cnt L deep = 1 + cntA L deep kind args.length 0 args := by simp [Tm.cnt, hc]
      rw [e]
      clear key hc e
      repeat' (first | ((with_reducible first | refine wA (by omega) ?_ | refine wB (by omega) ?_ | refine wC (by omega) ?_ | refine wD (by omega) ?_ | refine wE ?_ ?_ | refine wF ?_ ?_ | refine wG ?_ ?_ | refine wH ?_ ?_ | refine wI ?_ ?_ | refine wJ ?_ ?_ | refine wK ?_ ?_ | refine wL ?_ ?_) <;> intro _) | (((with_reducible refine call_id ?_); (first | (refine call_pure (c1) ?_)))) | simp (maxSteps := 1000000) (disch := omega) only [go_sem, Nat.reduceAdd, Nat.reduceMul, Nat.reduceSub, Nat.reduceLeDiff, Nat.reduceEqDiff, Nat.reduceBEq, ↓reduceIte, reduceCtorEq, Int.reduceEq, Int.reduceLE, Int.reduceLT, Int.reduceAdd, Int.reduceSub, Int.reduceNeg, Int.reduceToNat, Int.reduceNe, Nat.reducePow, Nat.reduceShiftRight, Nat.reduceMod, mc_bind_count, *])
      refine c_loopW 137438691712 (by kernel_rfl) (fun j g H m => ∃ (i v : Nat), j = args.length - i ∧ i ≤ args.length ∧ g 18 = .sc (.int .i64 i) ∧ g 7 = .sc (.int .i64 v) ∧ v ≤ 2 ^ 40 ∧ Kept (v = 1 + cntA L deep kind args.length 0 (args.take i))) _ ⟨0, 1, rfl, cE1, by simp [upd], by simp [upd], by omega, Kept.mk (by simp [cntA])⟩ ?_
      clear c1
      rintro _ g H m ⟨i, v, rfl, hi2, e18, e7, hv, hvk⟩
      by_cases hlt : i < args.length
      · have eg : args[i]? = some args[i] := List.getElem?_eq_getElem hlt
        have hn := nodesT_mem args i hlt
        have hs := sizeL_mem args i hlt
        have hd := deep_bd kind args.length i
        have hfi := formedA_mem np k kind args.length args 0 i hlt hA.out
        rw [Nat.zero_add] at hfi
        have c2 := bind_deeper_p kind n s ls args i hlt (by omega)
        have c3 := hih.out args[i] (k + deepB kind args.length i) (deep + deepB kind args.length i) (by omega) (by omega) (by omega) hfi (by omega) (by omega)
        have hst := cntA_take L deep kind args.length args 0 i hlt
        rw [Nat.zero_add] at hst
        have hstk := Kept.mk hst
        have hcl := cnt_le L args[i] (deep + deepB kind args.length i)
        have hcl2 := cntA_le L (args.take (i + 1)) deep kind args.length 0
        have hsz : sizeL (args.take (i + 1)) ≤ sizeL args := sizeL_take args (i + 1)
        have hv2 : v + args[i].cnt L (deep + deepB kind args.length i) ≤ 2 ^ 40 := by
          have := hvk.out
          have := size_nodes args[i]
          have h1 := sizeL_nodes args
          omega
        clear hfi hst hcl2 hsz
        repeat' (first | ((with_reducible first | refine wA (by omega) ?_ | refine wB (by omega) ?_ | refine wC (by omega) ?_ | refine wD (by omega) ?_ | refine wE ?_ ?_ | refine wF ?_ ?_ | refine wG ?_ ?_ | refine wH ?_ ?_ | refine wI ?_ ?_ | refine wJ ?_ ?_ | refine wK ?_ ?_ | refine wL ?_ ?_) <;> intro _) | (((with_reducible refine call_id ?_); (first | (refine call_pure (c2) ?_) | (refine call_pure (c3) ?_)))) | simp (maxSteps := 1000000) (disch := omega) only [go_sem, Nat.reduceAdd, Nat.reduceMul, Nat.reduceSub, Nat.reduceLeDiff, Nat.reduceEqDiff, Nat.reduceBEq, ↓reduceIte, reduceCtorEq, Int.reduceEq, Int.reduceLE, Int.reduceLT, Int.reduceAdd, Int.reduceSub, Int.reduceNeg, Int.reduceToNat, Int.reduceNe, Nat.reducePow, Nat.reduceShiftRight, Nat.reduceMod, *])
        exact Nx.mk (args.length - (i + 1)) cE1 ⟨i + 1, v + args[i].cnt L (deep + deepB kind args.length i), rfl, cE1, by simp [upd], by simp [upd], hv2, Kept.mk (by have := hvk.out; have := hstk.out; omega)⟩
      · obtain rfl : i = args.length := by omega
        have hvv := hvk.out
        rw [List.take_length] at hvv
        rw [← hvv]
        clear hvk hvv
        repeat' (first | ((with_reducible first | refine wA (by omega) ?_ | refine wB (by omega) ?_ | refine wC (by omega) ?_ | refine wD (by omega) ?_ | refine wE ?_ ?_ | refine wF ?_ ?_ | refine wG ?_ ?_ | refine wH ?_ ?_ | refine wI ?_ ?_ | refine wJ ?_ ?_ | refine wK ?_ ?_ | refine wL ?_ ?_) <;> intro _) | simp (maxSteps := 1000000) (disch := omega) only [go_sem, Nat.reduceAdd, Nat.reduceMul, Nat.reduceSub, Nat.reduceLeDiff, Nat.reduceEqDiff, Nat.reduceBEq, ↓reduceIte, reduceCtorEq, Int.reduceEq, Int.reduceLE, Int.reduceLT, Int.reduceAdd, Int.reduceSub, Int.reduceNeg, Int.reduceToNat, Int.reduceNe, Nat.reducePow, Nat.reduceShiftRight, Nat.reduceMod, *])
        all_goals (refine fin_tmp (.inr rfl) ?_; simp [upd])
    | false =>
      have c1 := key _ hc
      have e : (Tm.mk kind n s ls args).cnt L deep = 0 + cntA L deep kind args.length 0 args := by simp [Tm.cnt, hc]
      rw [e]
      clear key hc e
      repeat' (first | ((with_reducible first | refine wA (by omega) ?_ | refine wB (by omega) ?_ | refine wC (by omega) ?_ | refine wD (by omega) ?_ | refine wE ?_ ?_ | refine wF ?_ ?_ | refine wG ?_ ?_ | refine wH ?_ ?_ | refine wI ?_ ?_ | refine wJ ?_ ?_ | refine wK ?_ ?_ | refine wL ?_ ?_) <;> intro _) | (((with_reducible refine call_id ?_); (first | (refine call_pure (c1) ?_)))) | simp (maxSteps := 1000000) (disch := omega) only [go_sem, Nat.reduceAdd, Nat.reduceMul, Nat.reduceSub, Nat.reduceLeDiff, Nat.reduceEqDiff, Nat.reduceBEq, ↓reduceIte, reduceCtorEq, Int.reduceEq, Int.reduceLE, Int.reduceLT, Int.reduceAdd, Int.reduceSub, Int.reduceNeg, Int.reduceToNat, Int.reduceNe, Nat.reducePow, Nat.reduceShiftRight, Nat.reduceMod, mc_bind_count, *])
      refine c_loopW 137438691712 (by kernel_rfl) (fun j g H m => ∃ (i v : Nat), j = args.length - i ∧ i ≤ args.length ∧ g 18 = .sc (.int .i64 i) ∧ g 7 = .sc (.int .i64 v) ∧ v ≤ 2 ^ 40 ∧ Kept (v = 0 + cntA L deep kind args.length 0 (args.take i))) _ ⟨0, 0, rfl, cE1, by simp [upd], by simp [upd], by omega, Kept.mk (by simp [cntA])⟩ ?_
      clear c1
      rintro _ g H m ⟨i, v, rfl, hi2, e18, e7, hv, hvk⟩
      by_cases hlt : i < args.length
      · have eg : args[i]? = some args[i] := List.getElem?_eq_getElem hlt
        have hn := nodesT_mem args i hlt
        have hs := sizeL_mem args i hlt
        have hd := deep_bd kind args.length i
        have hfi := formedA_mem np k kind args.length args 0 i hlt hA.out
        rw [Nat.zero_add] at hfi
        have c2 := bind_deeper_p kind n s ls args i hlt (by omega)
        have c3 := hih.out args[i] (k + deepB kind args.length i) (deep + deepB kind args.length i) (by omega) (by omega) (by omega) hfi (by omega) (by omega)
        have hst := cntA_take L deep kind args.length args 0 i hlt
        rw [Nat.zero_add] at hst
        have hstk := Kept.mk hst
        have hcl := cnt_le L args[i] (deep + deepB kind args.length i)
        have hcl2 := cntA_le L (args.take (i + 1)) deep kind args.length 0
        have hsz : sizeL (args.take (i + 1)) ≤ sizeL args := sizeL_take args (i + 1)
        have hv2 : v + args[i].cnt L (deep + deepB kind args.length i) ≤ 2 ^ 40 := by
          have := hvk.out
          have := size_nodes args[i]
          have h1 := sizeL_nodes args
          omega
        clear hfi hst hcl2 hsz
        repeat' (first | ((with_reducible first | refine wA (by omega) ?_ | refine wB (by omega) ?_ | refine wC (by omega) ?_ | refine wD (by omega) ?_ | refine wE ?_ ?_ | refine wF ?_ ?_ | refine wG ?_ ?_ | refine wH ?_ ?_ | refine wI ?_ ?_ | refine wJ ?_ ?_ | refine wK ?_ ?_ | refine wL ?_ ?_) <;> intro _) | (((with_reducible refine call_id ?_); (first | (refine call_pure (c2) ?_) | (refine call_pure (c3) ?_)))) | simp (maxSteps := 1000000) (disch := omega) only [go_sem, Nat.reduceAdd, Nat.reduceMul, Nat.reduceSub, Nat.reduceLeDiff, Nat.reduceEqDiff, Nat.reduceBEq, ↓reduceIte, reduceCtorEq, Int.reduceEq, Int.reduceLE, Int.reduceLT, Int.reduceAdd, Int.reduceSub, Int.reduceNeg, Int.reduceToNat, Int.reduceNe, Nat.reducePow, Nat.reduceShiftRight, Nat.reduceMod, *])
        exact Nx.mk (args.length - (i + 1)) cE1 ⟨i + 1, v + args[i].cnt L (deep + deepB kind args.length i), rfl, cE1, by simp [upd], by simp [upd], hv2, Kept.mk (by have := hvk.out; have := hstk.out; omega)⟩
      · obtain rfl : i = args.length := by omega
        have hvv := hvk.out
        rw [List.take_length] at hvv
        rw [Nat.zero_add] at hvv
        rw [← hvv]
        clear hvk hvv
        repeat' (first | ((with_reducible first | refine wA (by omega) ?_ | refine wB (by omega) ?_ | refine wC (by omega) ?_ | refine wD (by omega) ?_ | refine wE ?_ ?_ | refine wF ?_ ?_ | refine wG ?_ ?_ | refine wH ?_ ?_ | refine wI ?_ ?_ | refine wJ ?_ ?_ | refine wK ?_ ?_ | refine wL ?_ ?_) <;> intro _) | simp (maxSteps := 1000000) (disch := omega) only [go_sem, Nat.reduceAdd, Nat.reduceMul, Nat.reduceSub, Nat.reduceLeDiff, Nat.reduceEqDiff, Nat.reduceBEq, ↓reduceIte, reduceCtorEq, Int.reduceEq, Int.reduceLE, Int.reduceLT, Int.reduceAdd, Int.reduceSub, Int.reduceNeg, Int.reduceToNat, Int.reduceNe, Nat.reducePow, Nat.reduceShiftRight, Nat.reduceMod, *])
        all_goals (refine fin_tmp (.inr rfl) ?_; simp [upd])
end
section
set_option maxRecDepth 20000
attribute [local go_sem] pv_len pv_take Nat.add_assoc tm_len tm_take pv_one tm_one id_ne id_ne' id_ne2 List.append_assoc
def nodeRaw (kind num : Int) (s : ByteArray) (ls : List Lv) (args : List Tm) (H : Nat → Option PObj) (nx id fid : Nat) (left : Int) (p q : List PV) (kp : Nat → Bool) (wf : Bool) (H' : Nat → Option PObj) (nx' : Nat) (r : PV) : Prop :=
  nx ≤ nx' ∧ (∀ j, kp j = true → H' j = H j) ∧ r = .sc (.bool (decide (0 ≤ left - 1 - nodesL ls))) ∧ H' fid = some ⟨[.sc (.int .i64 (left - 1 - nodesL ls))], wf⟩ ∧
    ∃ a b, H' id = some ⟨p ++ (.sc (.int .i64 kind) :: .sc (.int .i64 num) :: .sc (.string s) :: a :: b :: q), true⟩ ∧ RowP H' nx nx' 3 a (ls.map Lv.pv) ∧
      ((args = [] ∧ b = .sc (.slice none 0 0)) ∨ ∃ ida, nx ≤ ida ∧ ida < nx' ∧ leads a ida = false ∧ b = .osl ida 0 args.length 5 ∧ H' ida = some ⟨zeros [.int .i64 0, .int .i64 0, .string ⟨#[]⟩, .slice none 0 0, .slice none 0 0] args.length, true⟩)
theorem nodesL_take_succ' : ∀ (ls : List Lv) (i : Nat) (h : i < ls.length), nodesL (ls.take (i + 1)) = nodesL (ls.take i) + ls[i].nodes
  | x :: r, 0, h => by simp [nodesL]
  | x :: r, i + 1, h => by
    have := nodesL_take_succ' r i (by simpa using h)
    simp only [List.take_succ_cons, nodesL, List.getElem_cons_succ, this]
    omega
set_option maxHeartbeats 16000000 in
theorem node_m (kind n num : Int) (s : ByteArray) (ls : List Lv) (args : List Tm) (hls : ∀ l ∈ ls, l.nodes ≤ 64) (hln : nodesL ls ≤ 2 ^ 40) (hla : args.length ≤ 2 ^ 40) (left : Int) (hleft : -(2 ^ 50) ≤ left ∧ left ≤ 2 ^ 50)
    (H : Nat → Option PObj) (nx id off fid : Nat) (p q : List PV) (kp : Nat → Bool) (wf : Bool) (hH : H id = some ⟨p ++ (zero5 ++ q), true⟩) (hF : H fid = some ⟨[.sc (.int .i64 left)], wf⟩) (hid : id < nx) (hfid : fid < nx) (hne : fid ≠ id) (hoff : p.length = off)
    (hkp : ∀ j, kp j = true → j ≠ id ∧ j ≠ fid ∧ j < nx) :
    PMut Try.prog F.bind_filler_node [.optr fid 0, .optr id off, .ptr [.sc (.int .i64 kind), .sc (.int .i64 n), .sc (.string s), .sl 3 (ls.map Lv.pv), .sl 5 (args.map Tm.pv)], .sc (.int .i64 num)] H nx (nodeRaw kind num s ls args H nx id fid left p q kp wf) := by
  refine mut_by is_bind_filler_node (by simp) fun hb => ?_
  have hb0 : ls.length ≤ 9223372036854775807 ∧ args.length ≤ 9223372036854775807 := by simp [bndL, PV.bnd] at hb; omega
  clear hb
  rw [zero5] at hH
  have at0 : ∀ x, List.take off (p ++ x) = p := fun x => List.take_left' hoff
  have at1 : ∀ x i, List.take (off + i) (p ++ x) = p ++ List.take i x := fun x i => at_take p x off i hoff
  have at2 : ∀ x i, List.drop (off + i) (p ++ x) = List.drop i x := fun x i => at_drop p x off i hoff
  have at3 : off + 1 ≤ off + (q.length + 5) ∧ off + 2 ≤ off + (q.length + 5) ∧ off + 3 ≤ off + (q.length + 5) ∧ off + 4 ≤ off + (q.length + 5) ∧ off + 5 ≤ off + (q.length + 5) := by omega
  have at4 : ∀ x, List.drop off (p ++ x) = x := fun x => List.drop_left' hoff
  have hll := len_nodesL ls
  have hz1 : 80 * (args.length : Int) ≤ 2 ^ 47 := by omega
  have hz2 : (args.length : Int) ≤ 2 ^ 47 := by omega
  have hz3 : 40 * (ls.length : Int) ≤ 2 ^ 47 := by omega
  have hz4 : (ls.length : Int) ≤ 2 ^ 47 := by omega
  have hkp2 := Kept.mk hkp
  have hlsk := Kept.mk fun i (h : i < ls.length) => hls _ (List.getElem_mem h)
  have hne2 : id ≠ fid := fun e => hne e.symm
  have hne3 : ¬ fid = id := hne
  have hne4 : ¬ id = fid := hne2
  clear hls hkp
  by_cases hl0 : ls.length = 0
  · obtain rfl : ls = [] := List.eq_nil_of_length_eq_zero hl0
    repeat' (first | ((with_reducible first | refine wA (by omega) ?_ | refine wB (by omega) ?_ | refine wC (by omega) ?_ | refine wD (by omega) ?_ | refine wE ?_ ?_ | refine wF ?_ ?_ | refine wG ?_ ?_ | refine wH ?_ ?_ | refine wI ?_ ?_ | refine wJ ?_ ?_ | refine wK ?_ ?_ | refine wL ?_ ?_) <;> intro _) | simp (maxSteps := 1000000) (disch := omega) only [go_sem, Nat.reduceAdd, Nat.reduceMul, Nat.reduceSub, Nat.reduceLeDiff, Nat.reduceEqDiff, Nat.reduceBEq, ↓reduceIte, reduceCtorEq, Int.reduceEq, Int.reduceLE, Int.reduceLT, Int.reduceAdd, Int.reduceSub, Int.reduceNeg, Int.reduceToNat, Int.reduceNe, Nat.reducePow, Nat.reduceShiftRight, Nat.reduceMod, mc_bind_filler_node, at0, at1, at2, at3, at4, List.take_succ_cons, List.drop_succ_cons, List.take_zero, List.drop_zero, List.cons_append, List.nil_append, hz1, hz2, hz3, hz4, and_self, *])
    refine c_loopW 618970019606661340430598656 (by kernel_rfl) (fun j f H2 m => f 55 = .sc (.int .i64 0) ∧ nx ≤ m ∧ Kept (∀ j, kp j = true → H2 j = H j) ∧ H2 fid = some ⟨[.sc (.int .i64 (left - 1))], wf⟩ ∧ H2 id = some ⟨p ++ (.sc (.int .i64 kind) :: .sc (.int .i64 num) :: .sc (.string s) :: .sc (.slice none 0 0) :: .sc (.slice none 0 0) :: q), true⟩) 0 ⟨cE1, Nat.le_add_right _ _, Kept.mk (fun j hj => by have := hkp2.out j hj; simp [upd, this.1, this.2.1]), by simp [upd, hne], upd_same _ _ _⟩ ?_
    clear hl0 hH hF
    rintro _ f H2 m ⟨e55, hm2, hkk, hFi, hHi⟩
    have hrk : Kept (RowP H2 nx m 3 (.sc (.slice none 0 0)) (([] : List Lv).map Lv.pv)) := Kept.mk (.inl ⟨rfl, rfl⟩)
    have hk0 := 0
    by_cases ha0 : args.length = 0
    · obtain rfl : args = [] := List.eq_nil_of_length_eq_zero ha0
      clear hk0
      repeat' (first | ((with_reducible first | refine wA (by omega) ?_ | refine wB (by omega) ?_ | refine wC (by omega) ?_ | refine wD (by omega) ?_ | refine wE ?_ ?_ | refine wF ?_ ?_ | refine wG ?_ ?_ | refine wH ?_ ?_ | refine wI ?_ ?_ | refine wJ ?_ ?_ | refine wK ?_ ?_ | refine wL ?_ ?_) <;> intro _) | simp (maxSteps := 1000000) (disch := omega) only [go_sem, Nat.reduceAdd, Nat.reduceMul, Nat.reduceSub, Nat.reduceLeDiff, Nat.reduceEqDiff, Nat.reduceBEq, ↓reduceIte, reduceCtorEq, Int.reduceEq, Int.reduceLE, Int.reduceLT, Int.reduceAdd, Int.reduceSub, Int.reduceNeg, Int.reduceToNat, Int.reduceNe, Nat.reducePow, Nat.reduceShiftRight, Nat.reduceMod, at0, at1, at2, at3, at4, List.take_succ_cons, List.drop_succ_cons, List.take_zero, List.drop_zero, List.cons_append, List.nil_append, hz1, hz2, hz3, hz4, and_self, *])
      exact fin_mut (.sc (.bool (decide (0 ≤ left - 1)))) (.inr rfl) cE2 (show nodeRaw kind num s [] [] H nx id fid left p q kp wf _ _ _ from ⟨Nat.le_trans hm2 (Nat.le_add_right _ _), hkk.out, by simp [nodesL], by simpa [nodesL] using hFi, .sc (.slice none 0 0), .sc (.slice none 0 0), hHi, hrk.out.mono (Nat.le_add_right _ _) (fun _ _ _ _ => rfl), .inl ⟨rfl, rfl⟩⟩)
    · have ha00 : 0 < args.length := by omega
      clear hk0
      repeat' (first | ((with_reducible first | refine wA (by omega) ?_ | refine wB (by omega) ?_ | refine wC (by omega) ?_ | refine wD (by omega) ?_ | refine wE ?_ ?_ | refine wF ?_ ?_ | refine wG ?_ ?_ | refine wH ?_ ?_ | refine wI ?_ ?_ | refine wJ ?_ ?_ | refine wK ?_ ?_ | refine wL ?_ ?_) <;> intro _) | simp (maxSteps := 1000000) (disch := omega) only [go_sem, Nat.reduceAdd, Nat.reduceMul, Nat.reduceSub, Nat.reduceLeDiff, Nat.reduceEqDiff, Nat.reduceBEq, ↓reduceIte, reduceCtorEq, Int.reduceEq, Int.reduceLE, Int.reduceLT, Int.reduceAdd, Int.reduceSub, Int.reduceNeg, Int.reduceToNat, Int.reduceNe, Nat.reducePow, Nat.reduceShiftRight, Nat.reduceMod, at0, at1, at2, at3, at4, List.take_succ_cons, List.drop_succ_cons, List.take_zero, List.drop_zero, List.cons_append, List.nil_append, hz1, hz2, hz3, hz4, and_self, *])
      exact fin_mut (.sc (.bool (decide (0 ≤ left - 1)))) (.inr rfl) cE2 (show nodeRaw kind num s [] args H nx id fid left p q kp wf _ _ _ from ⟨Nat.le_trans hm2 (Nat.le_add_right _ _), fun j hj => by have h1 := hkp2.out j hj; exact ((upd_ne _ _ h1.1).trans (upd_ne _ _ (show j ≠ m + 13 by omega))).trans (hkk.out j hj), by simp [nodesL], ((upd_ne _ _ hne).trans (upd_ne _ _ (show fid ≠ m + 13 by omega))).trans (by simpa [nodesL] using hFi), .sc (.slice none 0 0), .osl (m + 13) 0 args.length 5, upd_same _ _ _, hrk.out.mono (Nat.le_add_right _ _) (fun j g1 g2 _ => (upd_ne _ _ (show j ≠ id by omega)).trans (upd_ne _ _ (show j ≠ m + 13 by omega))), .inr ⟨m + 13, by omega, Nat.add_lt_add_left (by omega) _, by simp [leads]; try omega, rfl, (upd_ne _ _ (show m + 13 ≠ id by omega)).trans ((upd_same _ _ _).trans rfl)⟩⟩)
  · have hl00 : 0 < ls.length := by omega
    repeat' (first | ((with_reducible first | refine wA (by omega) ?_ | refine wB (by omega) ?_ | refine wC (by omega) ?_ | refine wD (by omega) ?_ | refine wE ?_ ?_ | refine wF ?_ ?_ | refine wG ?_ ?_ | refine wH ?_ ?_ | refine wI ?_ ?_ | refine wJ ?_ ?_ | refine wK ?_ ?_ | refine wL ?_ ?_) <;> intro _) | simp (maxSteps := 1000000) (disch := omega) only [go_sem, Nat.reduceAdd, Nat.reduceMul, Nat.reduceSub, Nat.reduceLeDiff, Nat.reduceEqDiff, Nat.reduceBEq, ↓reduceIte, reduceCtorEq, Int.reduceEq, Int.reduceLE, Int.reduceLT, Int.reduceAdd, Int.reduceSub, Int.reduceNeg, Int.reduceToNat, Int.reduceNe, Nat.reducePow, Nat.reduceShiftRight, Nat.reduceMod, mc_bind_filler_node, at0, at1, at2, at3, at4, List.take_succ_cons, List.drop_succ_cons, List.take_zero, List.drop_zero, List.cons_append, List.nil_append, hz1, hz2, hz3, hz4, and_self, *])
    refine c_loopW 618970019606661340430598656 (by kernel_rfl) (fun j f H2 m => ∃ (i v : Nat) (a : PV), j = ls.length - i ∧ i ≤ ls.length ∧ f 55 = .sc (.int .i64 i) ∧ nx ≤ m ∧ Kept (v = nodesL (ls.take i)) ∧ v ≤ 2 ^ 40 ∧ Kept (∀ j, kp j = true → H2 j = H j) ∧ H2 fid = some ⟨[.sc (.int .i64 (left - 1 - v))], wf⟩ ∧
      H2 id = some ⟨p ++ (.sc (.int .i64 kind) :: .sc (.int .i64 num) :: .sc (.string s) :: a :: .sc (.slice none 0 0) :: q), true⟩ ∧ ∃ idr, nx ≤ idr ∧ idr < m ∧ a = .osl idr 0 ls.length 3 ∧ H2 idr = some ⟨halfG Lv.pv z3 (ls.take i) (ls.length - i), true⟩) _ ⟨0, 0, _, rfl, cE1, cE1, Nat.le_add_right _ _, Kept.mk rfl, by omega, Kept.mk (fun j hj => by have := hkp2.out j hj; simp [upd, this.1, this.2.1, show j ≠ nx + 42 by omega]), by simp [upd, hne, show fid ≠ nx + 42 by omega], upd_same _ _ _, _, Nat.le_add_right _ _, Nat.add_lt_add_left (by omega) _, rfl, (upd_ne _ _ (show nx + 42 ≠ id by omega)).trans ((upd_same _ _ _).trans rfl)⟩ ?_
    clear hl0 hH hF
    rintro _ f H2 m ⟨i, v, _, rfl, hi, e55, hm2, hv, hv2, hkk, hFi, hHi, idr, hr1, hr2, rfl, hr3⟩
    by_cases hlt : i < ls.length
    · have eg : ls[i]? = some ls[i] := List.getElem?_eq_getElem hlt
      have hn := hlsk.out i hlt
      have c1 := Nodes_p ls[i]
      rw [show min ls[i].nodes 65 = ls[i].nodes by omega] at c1
      have c2 : PPure Try.prog F.level_Max [.sl 3 [ls[i].pv]] (.agg ls[i].pv) := (Max1_pF ls[i] (by omega)).weak (.refl _) (lv_agg true _)
      have hsn := nodesL_take_succ' ls i hlt
      have hle2 : nodesL (ls.take (i + 1)) ≤ nodesL ls := nodesL_take_le ls (i + 1)
      have hv3 : v + ls[i].nodes ≤ 2 ^ 40 := by have := hv.out; omega
      have hvk : Kept (v + ls[i].nodes = nodesL (ls.take (i + 1))) := Kept.mk (by have := hv.out; omega)
      have hyl : (ls.take i).length = i := by rw [List.length_take]; omega
      have hhl := halfG_len (g := Lv.pv) pv_len (rfl : z3.length = 3) (ls.take i) (ls.length - i)
      rw [hyl] at hhl
      have hhs := halfG_set' (g := Lv.pv) pv_len (rfl : z3.length = 3) (ls.take i) i ls.length ls[i] hlt hyl
      rw [← List.take_succ_eq_append_getElem hlt] at hhs
      have hle : i * 3 + 3 ≤ i * 3 + (ls.length - i) * 3 := by omega
      have hne5 : idr ≠ fid := by omega
      have hne6 : idr ≠ id := by omega
      clear hsn hle2 hv hyl
      repeat' (first | ((with_reducible first | refine wA (by omega) ?_ | refine wB (by omega) ?_ | refine wC (by omega) ?_ | refine wD (by omega) ?_ | refine wE ?_ ?_ | refine wF ?_ ?_ | refine wG ?_ ?_ | refine wH ?_ ?_ | refine wI ?_ ?_ | refine wJ ?_ ?_ | refine wK ?_ ?_ | refine wL ?_ ?_) <;> intro _) | (((with_reducible refine call_id ?_); (first | (refine call_pure (c1) ?_) | (refine call_pure (c2) ?_)))) | simp (maxSteps := 1000000) (disch := omega) only [go_sem, Nat.reduceAdd, Nat.reduceMul, Nat.reduceSub, Nat.reduceLeDiff, Nat.reduceEqDiff, Nat.reduceBEq, ↓reduceIte, reduceCtorEq, Int.reduceEq, Int.reduceLE, Int.reduceLT, Int.reduceAdd, Int.reduceSub, Int.reduceNeg, Int.reduceToNat, Int.reduceNe, Nat.reducePow, Nat.reduceShiftRight, Nat.reduceMod, at0, at1, at2, at3, at4, List.take_succ_cons, List.drop_succ_cons, List.take_zero, List.drop_zero, List.cons_append, List.nil_append, hz1, hz2, hz3, hz4, and_self, *])
      exact Nx.mk (ls.length - (i + 1)) cE1 ⟨i + 1, v + ls[i].nodes, _, rfl, cE1, by simp [upd], Nat.le_trans hm2 (Nat.le_add_right _ _), hvk, hv3, Kept.mk (fun j hj => by have h1 := hkp2.out j hj; have h2 := hkk.out j hj; simp [upd, h1.2.1, show j ≠ idr by omega, h2]), (by simp [upd, hne5.symm, Int.sub_sub, Int.add_assoc]), by (simp [upd, hne2, hne6.symm]; exact hHi), idr, hr1, Nat.lt_of_lt_of_le hr2 (Nat.le_add_right _ _), rfl, upd_same _ _ _⟩
    · obtain rfl : i = ls.length := by omega
      have hrk : Kept (RowP H2 nx m 3 (.osl idr 0 ls.length 3) (ls.map Lv.pv)) := Kept.mk (.inr ⟨idr, hr1, hr2, by rw [List.length_map], by rw [hr3, Nat.sub_self, List.take_length, halfG, List.flatMap_def]; simp [zeros]⟩)
      have hk0 := hv.out
      rw [List.take_length] at hk0
      subst hk0
      have hk0 := 0
      clear hv hr3
      by_cases ha0 : args.length = 0
      · obtain rfl : args = [] := List.eq_nil_of_length_eq_zero ha0
        clear hk0
        repeat' (first | ((with_reducible first | refine wA (by omega) ?_ | refine wB (by omega) ?_ | refine wC (by omega) ?_ | refine wD (by omega) ?_ | refine wE ?_ ?_ | refine wF ?_ ?_ | refine wG ?_ ?_ | refine wH ?_ ?_ | refine wI ?_ ?_ | refine wJ ?_ ?_ | refine wK ?_ ?_ | refine wL ?_ ?_) <;> intro _) | simp (maxSteps := 1000000) (disch := omega) only [go_sem, Nat.reduceAdd, Nat.reduceMul, Nat.reduceSub, Nat.reduceLeDiff, Nat.reduceEqDiff, Nat.reduceBEq, ↓reduceIte, reduceCtorEq, Int.reduceEq, Int.reduceLE, Int.reduceLT, Int.reduceAdd, Int.reduceSub, Int.reduceNeg, Int.reduceToNat, Int.reduceNe, Nat.reducePow, Nat.reduceShiftRight, Nat.reduceMod, at0, at1, at2, at3, at4, List.take_succ_cons, List.drop_succ_cons, List.take_zero, List.drop_zero, List.cons_append, List.nil_append, hz1, hz2, hz3, hz4, and_self, *])
        exact fin_mut (.sc (.bool (decide (0 ≤ left - 1 - nodesL ls)))) (.inr rfl) cE2 (show nodeRaw kind num s ls [] H nx id fid left p q kp wf _ _ _ from ⟨Nat.le_trans hm2 (Nat.le_add_right _ _), hkk.out, rfl, hFi, (.osl idr 0 ls.length 3), .sc (.slice none 0 0), hHi, hrk.out.mono (Nat.le_add_right _ _) (fun _ _ _ _ => rfl), .inl ⟨rfl, rfl⟩⟩)
      · have ha00 : 0 < args.length := by omega
        clear hk0
        repeat' (first | ((with_reducible first | refine wA (by omega) ?_ | refine wB (by omega) ?_ | refine wC (by omega) ?_ | refine wD (by omega) ?_ | refine wE ?_ ?_ | refine wF ?_ ?_ | refine wG ?_ ?_ | refine wH ?_ ?_ | refine wI ?_ ?_ | refine wJ ?_ ?_ | refine wK ?_ ?_ | refine wL ?_ ?_) <;> intro _) | simp (maxSteps := 1000000) (disch := omega) only [go_sem, Nat.reduceAdd, Nat.reduceMul, Nat.reduceSub, Nat.reduceLeDiff, Nat.reduceEqDiff, Nat.reduceBEq, ↓reduceIte, reduceCtorEq, Int.reduceEq, Int.reduceLE, Int.reduceLT, Int.reduceAdd, Int.reduceSub, Int.reduceNeg, Int.reduceToNat, Int.reduceNe, Nat.reducePow, Nat.reduceShiftRight, Nat.reduceMod, at0, at1, at2, at3, at4, List.take_succ_cons, List.drop_succ_cons, List.take_zero, List.drop_zero, List.cons_append, List.nil_append, hz1, hz2, hz3, hz4, and_self, *])
        exact fin_mut (.sc (.bool (decide (0 ≤ left - 1 - nodesL ls)))) (.inr rfl) cE2 (show nodeRaw kind num s ls args H nx id fid left p q kp wf _ _ _ from ⟨Nat.le_trans hm2 (Nat.le_add_right _ _), fun j hj => by have h1 := hkp2.out j hj; exact ((upd_ne _ _ h1.1).trans (upd_ne _ _ (show j ≠ m + 13 by omega))).trans (hkk.out j hj), rfl, ((upd_ne _ _ hne).trans (upd_ne _ _ (show fid ≠ m + 13 by omega))).trans (hFi), (.osl idr 0 ls.length 3), .osl (m + 13) 0 args.length 5, upd_same _ _ _, hrk.out.mono (Nat.le_add_right _ _) (fun j g1 g2 _ => (upd_ne _ _ (show j ≠ id by omega)).trans (upd_ne _ _ (show j ≠ m + 13 by omega))), .inr ⟨m + 13, by omega, Nat.add_lt_add_left (by omega) _, by simp [leads]; try omega, rfl, (upd_ne _ _ (show m + 13 ≠ id by omega)).trans ((upd_same _ _ _).trans rfl)⟩⟩)
end
section
def pnil : PV → Option Bool
  | .ptr _ => some false
  | .sc (.pointer none) => some true
  | _ => none
theorem pnil_rep {V : Vw} {p : PV} {t : Bool} {v : Value} (hp : pnil p = some t) (h : Rep V p v) : ∃ A : Option Addr, v = .pointer A ∧ A.isNone = t := by
  cases p with
  | ptr c =>
    simp only [pnil, Option.some.injEq] at hp
    subst hp
    obtain ⟨b, off, vs, rfl, _⟩ := h.ptr_inv
    exact ⟨_, rfl, rfl⟩
  | sc u =>
    cases h
    unfold pnil at hp
    split at hp
    · rename_i h0; cases h0
    · rename_i h0
      cases h0
      cases hp
      exact ⟨none, rfl, rfl⟩
    · cases hp
  | _ => simp [pnil] at hp
theorem run_nil_ptr {P : Program} {w : World} {T e : TypeId} {A : Option Addr} (hu : P.underlying T = some (.pointer e)) :
    (Op.equal T (.pointer A) (.pointer none)).run P w = .ok A.isNone w := by
  have h9 : ∀ k : Nat, (Op.equalIn (k + 1) T (.pointer A) (.pointer none)).run P w = .ok A.isNone w := fun k => by
    cases A <;> simp [Op.equalIn, run_under hu]
  simp [Op.equal, Op.maxDepth, h9 9999]
theorem o_pnil {P : Program} {pure : Bool} {id : Nat} {d : Option Nat} {K : St → Prop} {s : St} {o : Oper} {T e U : TypeId} {x : Operand} {t : Bool}
    (hop : o.op = .binOp .neq T x (.const (.pointer none)) U) (hd : o.dst = d) (hu : P.underlying T = some (.pointer e)) (hx : pnil (ev s x) = some t)
    (hk : K (put s d (.sc (.bool (!t))))) : opG P pure id ⟨d, .raw o, none⟩ K s := by
  refine opG_val hd (fun c e => by rw [hop] at e; cases e) fun V ρ hρ => ?_
  obtain ⟨A, e1, h1⟩ := pnil_rep hx (hρ x)
  have e2 : ρ (.const (.pointer none)) = .pointer none := (hρ (.const (.pointer none))).sc_inv
  refine ⟨.sc (.bool !t), .bool !t, ?_, .sc _, hk⟩
  subst h1
  obtain ⟨dst, op, ty, pos, af, gd⟩ := o
  simp only at hop
  subst hop
  simp only [execOp, e1, e2, eqGuard, binOp, Sem.run_bind, run_nil_ptr hu, Result.andThen_ok, Sem.run_pure]
  simp [run_nil_ptr hu]
theorem nodesT_cons (x : Tm) (r : List Tm) : nodesT (x :: r) = x.nodes + nodesT r := by simp [nodesT]
theorem nodesT_app : ∀ xs ys : List Tm, nodesT (xs ++ ys) = nodesT xs + nodesT ys
  | [], ys => by simp [nodesT]
  | x :: r, ys => by rw [List.cons_append, nodesT_cons, nodesT_cons, nodesT_app r ys]; omega
theorem fillA_snoc (L : Tm → Int → LeafR) (deep kind : Int) (len : Nat) (x : Tm) : ∀ (xs zs : List Tm) (i : Nat), fillA L deep kind len i xs = some zs → fillA L deep kind len i (xs ++ [x]) = (x.fill L (deep + deepB kind len (i + xs.length))).map fun y => zs ++ [y]
  | [], zs, i, h => by
    simp only [fillA, Option.some.injEq] at h
    subst h
    simp only [List.nil_append, fillA, List.length_nil, Nat.add_zero]
    cases x.fill L (deep + deepB kind len i) <;> rfl
  | a :: r, zs, i, h => by
    simp only [fillA] at h
    split at h
    · rename_i y ys' h1 h2
      cases h
      simp only [List.cons_append, fillA, h1, fillA_snoc L deep kind len x r ys' (i + 1) h2]
      rw [show i + 1 + r.length = i + (a :: r).length by rw [List.length_cons]; omega]
      cases x.fill L (deep + deepB kind len (i + (a :: r).length)) <;> rfl
    · cases h
theorem fillA_split (L : Tm → Int → LeafR) (deep kind : Int) (len : Nat) : ∀ (xs ys : List Tm) (i j : Nat) (h : j < xs.length), fillA L deep kind len i xs = some ys →
    ∃ zs y ws, fillA L deep kind len i (xs.take j) = some zs ∧ xs[j].fill L (deep + deepB kind len (i + j)) = some y ∧ ys = zs ++ y :: ws
  | a :: r, ys, i, 0, h, e => by
    simp only [fillA] at e
    split at e
    · rename_i y ys' h1 h2
      cases e
      exact ⟨[], y, ys', rfl, by simpa using h1, rfl⟩
    · cases e
  | a :: r, ys, i, j + 1, h, e => by
    simp only [fillA] at e
    split at e
    · rename_i y ys' h1 h2
      cases e
      obtain ⟨zs, z, ws, g1, g2, g3⟩ := fillA_split L deep kind len r ys' (i + 1) j (by simpa using h) h2
      refine ⟨y :: zs, z, ws, by simp only [List.take_succ_cons, fillA, h1, g1], ?_, by rw [g3]; rfl⟩
      rw [show i + (j + 1) = i + 1 + j by omega]
      exact g2
    · cases e
def Bad (res : Option Tm) (left : Int) : Prop := ∀ y, res = some y → left < y.nodes
def leafN (L : Tm → Int → LeafR) : Tm → Int → LeafR
  | .mk k n s ls args, deep => if k = 1 ∨ k = 3 then L (.mk k n s ls args) deep else .num n
theorem fill_num {L : Tm → Int → LeafR} {k n m : Int} {s : ByteArray} {ls : List Lv} {args : List Tm} {deep : Int} (h : leafN L (.mk k n s ls args) deep = .num m) : (Tm.mk k n s ls args).fill L deep = (fillA L deep k args.length 0 args).map fun as_ => .mk k m s ls as_ := by
  simp only [leafN] at h
  simp only [Tm.fill]
  split at h
  · rename_i h1
    rw [if_pos h1, h]
  · rename_i h1
    cases h
    rw [if_neg h1]
theorem fill_put {L : Tm → Int → LeafR} {k n : Int} {s : ByteArray} {ls : List Lv} {args : List Tm} {deep : Int} {u : Tm} (h : leafN L (.mk k n s ls args) deep = .put u) : (Tm.mk k n s ls args).fill L deep = some (u.lift deep 0) := by
  simp only [leafN] at h
  simp only [Tm.fill]
  split at h
  · rename_i h1
    rw [if_pos h1, h]
  · cases h
theorem fill_no {L : Tm → Int → LeafR} {k n : Int} {s : ByteArray} {ls : List Lv} {args : List Tm} {deep : Int} (h : leafN L (.mk k n s ls args) deep = .no) : (Tm.mk k n s ls args).fill L deep = none := by
  simp only [leafN] at h
  simp only [Tm.fill]
  split at h
  · rename_i h1
    rw [if_pos h1, h]
  · cases h
theorem bad_node {L : Tm → Int → LeafR} {k n m : Int} {s : ByteArray} {ls : List Lv} {args : List Tm} {deep left : Int} (h : leafN L (.mk k n s ls args) deep = .num m) (hl : left - 1 - nodesL ls < 0) : Bad ((Tm.mk k n s ls args).fill L deep) left := by
  intro y hy
  rw [fill_num h, Option.map_eq_some_iff] at hy
  obtain ⟨as_, _, rfl⟩ := hy
  simp only [Tm.nodes]
  omega
theorem bad_part {L : Tm → Int → LeafR} {k n m : Int} {s : ByteArray} {ls : List Lv} {args zs : List Tm} {deep left v : Int} {i : Nat} (hi : i < args.length) (h : leafN L (.mk k n s ls args) deep = .num m) (hz : fillA L deep k args.length 0 (args.take i) = some zs)
    (hv : v = left - 1 - nodesL ls - nodesT zs) (hb : Bad (args[i].fill L (deep + deepB k args.length i)) v) : Bad ((Tm.mk k n s ls args).fill L deep) left := by
  intro y hy
  rw [fill_num h, Option.map_eq_some_iff] at hy
  obtain ⟨as_, ha, rfl⟩ := hy
  obtain ⟨zs', z, ws, g1, g2, rfl⟩ := fillA_split L deep k args.length args as_ 0 i hi ha
  rw [hz] at g1
  cases g1
  rw [Nat.zero_add] at g2
  have := hb z g2
  simp only [Tm.nodes, nodesT_app, nodesT_cons]
  omega
end
section
set_option maxRecDepth 20000
attribute [local go_sem] pv_len pv_take Nat.add_assoc tm_len tm_take pv_one tm_one id_ne id_ne' id_ne2 List.append_assoc
def ToldM (H H2 : Nat → Option PObj) : Prop := ∀ id o2, H2 id = some o2 → ∃ o, H id = some o ∧ (o2 = o ∨ (o.isIt = false ∧ o.whole = o2.whole ∧ WeakL o.cells o2.cells))
theorem toldM_leq {w0 : World} {ok0 : Nat → Prop} {H H2 : Nat → Option PObj} {rho : Nat → Option Nat} {w : World} (ht : ToldM H H2) : (viewOf w0 ok0 H rho w).Leq (viewOf w0 ok0 H2 rho w) :=
  ⟨fun b hb => ⟨hb.1, fun id o2 ho => let ⟨o, h1, _⟩ := ht id o2 ho; hb.2 id o h1⟩, fun _ _ => rfl, fun _ _ h => h, fun _ _ c T fr _ hh => ⟨c, T, fr, hh, Nat.le_refl _⟩, Nat.le_refl _⟩
theorem toldM_rel {w0 : World} {ok0 : Nat → Prop} {H H2 : Nat → Option PObj} {rho : Nat → Option Nat} {w : World} (ht : ToldM H H2) (hH : RelH w0 ok0 H rho w) : RelH w0 ok0 H2 rho w := by
  refine ⟨hH.okb, hH.bel, fun id o2 ho => ?_, fun id id' b h h' => ?_⟩
  · obtain ⟨o, h0, h⟩ := ht id o2 ho
    obtain ⟨b, h1, h2, h3⟩ := hH.own id o h0
    rcases h with rfl | ⟨hi, hw, hc⟩
    · exact ⟨b, h1, h2, h3.mono (toldM_leq ht) rfl⟩
    obtain ⟨c, T, hh, l1, l2, l3⟩ := h3.cellsNo hi
    refine ⟨b, h1, h2, .inl ⟨c, T, hh, by rw [← hc.len]; exact l1, fun e => by rw [← hc.len]; exact l2 (by rw [hw]; exact e), fun i x v hx hv => ?_⟩⟩
    obtain ⟨y, hy, hyx⟩ := hc.get hx
    exact (hyx _ _ (l3 i y v hy hv)).mono (toldM_leq ht)
  · have key : ∀ id, H2 id ≠ none → H id ≠ none := fun id h => by
      obtain ⟨o2, ho⟩ := Option.ne_none_iff_exists'.1 h
      obtain ⟨o, h0, _⟩ := ht id o2 ho
      rw [h0]
      simp
    exact hH.inj id id' b (key id h) (key id' h')
theorem PMut.becomeM {P : Program} {f : FuncId} {args : List PV} {H : Nat → Option PObj} {nx : Nat} {Q Q2 : (Nat → Option PObj) → Nat → PV → Prop} (h : PMut P f args H nx Q)
    (hq : ∀ H' nx' r, Q H' nx' r → ∃ G k H2 r2, ToldM (lessC G k H') H2 ∧ Weak (frgF G k H' r) r2 ∧ Q2 H2 nx' r2) : PMut P f args H nx Q2 := by
  refine ⟨h.1, fun w0 ok0 rho w vals hH hfree hv => (h.2 w0 ok0 rho w vals hH hfree hv).mono ?_⟩
  rintro e w' ⟨v, H', nx', r, rho', h1, h2, h3, h4, h5, h6, h7, h8⟩
  obtain ⟨G, k, H2, r2, k1, k2, k3⟩ := hq H' nx' r h2
  exact ⟨v, H2, nx', r2, rho', h1, k3, toldM_rel k1 (lessC_rel h3), ((h4.trans (less_leq ..)).trans (less_lessC ..)).trans (toldM_leq k1), h5, h6, h7, (k2 _ _ ((frgF_sound h3 k r v h8).mono (less_lessC ..))).mono (toldM_leq k1)⟩
theorem tell_lowM {P : Program} {f : FuncId} {args : List PV} {H : Nat → Option PObj} {nx : Nat} {Q Q2 : (Nat → Option PObj) → Nat → PV → Prop} (kp : Nat → Bool) (id : Nat) (hid : id < nx) (hkp : ∀ j, kp j = true → j ≠ id ∧ j < nx) (h : PMut P f args H nx Q)
    (hq : ∀ H' nx' r, Q H' nx' r → r.imm = true ∧ (∀ j o, kp j = true → H' j = some o → FixL nx o.cells) ∧ ∃ (res : Option (List PV)) (k : Nat),
      (∀ cs', res = some cs' → ∃ cs, H' id = some ⟨cs, true⟩ ∧ cs.length ≠ 1 ∧ WeakL (cs.map (frgF (fun j => decide (nx ≤ j)) k H')) cs') ∧
      ∀ H2 : Nat → Option PObj, (∀ j, kp j = true → H2 j = H' j) → H2 id = res.map (fun c => ⟨c, true⟩) → Q2 H2 nx' r) : PMut P f args H nx Q2 := by
  refine PMut.becomeM h fun H' nx' r hQ => ?_
  obtain ⟨hr, h1, res, k, h2, h3⟩ := hq H' nx' r hQ
  refine ⟨fun j => decide (nx ≤ j), k, fun j => if j = id then res.map (fun c => ⟨c, true⟩) else if kp j = true then H' j else none, r, fun j o2 hj => ?_, .of_eq (frgF_imm _ _ _ _ hr), h3 _ (fun j hj => by simp [(hkp j hj).1, hj]) (by simp)⟩
  by_cases he : j = id
  · subst he
    simp only [if_true] at hj
    cases res with
    | none => simp at hj
    | some cs' =>
      simp only [Option.map_some, Option.some.injEq] at hj
      subst hj
      obtain ⟨cs, g1, g2, g3⟩ := h2 cs' rfl
      exact ⟨⟨cs.map (frgF (fun j => decide (nx ≤ j)) k H'), true⟩, by simp [lessC, Nat.not_le.2 hid, g1], .inr ⟨isIt_len (by simpa using g2), rfl, g3⟩⟩
  · simp only [he, if_false] at hj
    split at hj
    · rename_i hk
      obtain ⟨h6, h7⟩ := hkp j hk
      have h9 := h1 j o2 hk hj
      refine ⟨o2, ?_, .inl rfl⟩
      have := h9 (fun j => decide (nx ≤ j)) k H' (fun j hj => by simp; omega)
      simp only [lessC, Nat.not_le.2 h7, decide_false, Bool.false_eq_true, if_false, hj, Option.map_some, this]
    · cases hj
theorem RowP.low {H : Nat → Option PObj} {lo lo' m sz : Nat} {a : PV} {es : List (List PV)} (h : RowP H lo m sz a es) (hl : lo' ≤ lo) : RowP H lo' m sz a es := by
  rcases h with h | ⟨id, h1, h2, h3⟩
  · exact .inl h
  · exact .inr ⟨id, by omega, h2, h3⟩
def fillQ (res : Option Tm) (H : Nat → Option PObj) (nx id fid : Nat) (left : Int) (p q : List PV) (kp : Nat → Bool) (wf : Bool) (H' : Nat → Option PObj) (nx' : Nat) (r : PV) : Prop :=
  nx ≤ nx' ∧ (∀ j, kp j = true → H' j = H j) ∧ ∃ x : Int, H' fid = some ⟨[.sc (.int .i64 x)], wf⟩ ∧
    ((Bad res left ∧ r = .sc (.bool false)) ∨ ∃ y, res = some y ∧ (y.nodes : Int) ≤ left ∧ x = left - y.nodes ∧ r = .sc (.bool true) ∧ H' id = some ⟨p ++ (y.pv ++ q), true⟩)
def fillRaw (res : Option Tm) (H : Nat → Option PObj) (nx id fid : Nat) (left : Int) (p q : List PV) (kp : Nat → Bool) (wf : Bool) (H' : Nat → Option PObj) (nx' : Nat) (r : PV) : Prop :=
  nx ≤ nx' ∧ (∀ j, kp j = true → H' j = H j) ∧ ∃ x : Int, H' fid = some ⟨[.sc (.int .i64 x)], wf⟩ ∧
    ((Bad res left ∧ r = .sc (.bool false)) ∨ ∃ (kind m : Int) (s : ByteArray) (ls : List Lv) (args : List Tm) (a b : PV), res = some (.mk kind m s ls args) ∧ 0 ≤ x ∧ x = left - 1 - nodesL ls - nodesT args ∧ r = .sc (.bool true) ∧
      H' id = some ⟨p ++ (.sc (.int .i64 kind) :: .sc (.int .i64 m) :: .sc (.string s) :: a :: b :: q), true⟩ ∧ RowP H' nx nx' 3 a (ls.map Lv.pv) ∧ RowP H' nx nx' 5 b (args.map Tm.pv))
theorem fill_tell {f : FuncId} {as_ : List PV} {res : Option Tm} {H : Nat → Option PObj} {nx id fid : Nat} {left : Int} {p q : List PV} {kp : Nat → Bool} {wf : Bool} (hid : id < nx) (hfid : fid < nx) (hne : fid ≠ id) (hpi : immL p = true) (hqi : immL q = true)
    (hkp : ∀ j, kp j = true → j ≠ id ∧ j ≠ fid ∧ j < nx ∧ ∀ o, H j = some o → FixL nx o.cells)
    (h : PMut Try.prog f as_ H nx (fillRaw res H nx id fid left p q kp wf)) : PMut Try.prog f as_ H nx (fillQ res H nx id fid left p q kp wf) := by
  refine tell_lowM (fun j => kp j || decide (j = fid)) id hid (fun j hj => ?_) h ?_
  · simp only [Bool.or_eq_true, decide_eq_true_eq] at hj
    rcases hj with hj | rfl
    · exact ⟨(hkp j hj).1, (hkp j hj).2.2.1⟩
    · exact ⟨hne, hfid⟩
  rintro H' nx' r ⟨h1, h2, x, hx, h3⟩
  have hfix : ∀ j o, (kp j || decide (j = fid)) = true → H' j = some o → FixL nx o.cells := fun j o hj ho => by
    simp only [Bool.or_eq_true, decide_eq_true_eq] at hj
    rcases hj with hj | rfl
    · exact (hkp j hj).2.2.2 o ((h2 j hj).symm.trans ho)
    · rw [hx] at ho
      cases ho
      exact .imm rfl
  rcases h3 with ⟨h3, rfl⟩ | ⟨kind, m, s, ls, args, a, b, h3, h4, h5, rfl, h6, h7, h8⟩
  · exact ⟨rfl, hfix, none, 0, (fun _ h => by cases h), fun H2 g1 g2 => ⟨h1, fun j hj => (g1 j (by simp [hj])).trans (h2 j hj), x, (g1 fid (by simp)).trans hx, .inl ⟨h3, rfl⟩⟩⟩
  · refine ⟨rfl, hfix, some (p ++ ((Tm.mk kind m s ls args).pv ++ q)), 1, fun cs' e => ?_, fun H2 g1 g2 => ⟨h1, fun j hj => (g1 j (by simp [hj])).trans (h2 j hj), x, (g1 fid (by simp)).trans hx, .inr ⟨_, h3, by simp only [Tm.nodes]; omega, by simp only [Tm.nodes]; omega, rfl, g2⟩⟩⟩
    cases e
    refine ⟨_, h6, by simp; omega, ?_⟩
    rw [List.map_append, frgF_immL _ _ _ p hpi]
    refine (WeakL.refl _).append ?_
    simp only [List.map_cons, frgF_sc, Tm.pv, List.cons_append, List.nil_append]
    rw [frgF_immL _ _ _ q hqi]
    refine ⟨.refl _, .refl _, .refl _, h7.frg (fun e he => ?_) _ (fun j hj => by simpa using hj), h8.frg (fun e he => ?_) _ (fun j hj => by simpa using hj), .refl _⟩
    · obtain ⟨x, _, rfl⟩ := List.mem_map.1 he; exact pv_len x
    · obtain ⟨x, _, rfl⟩ := List.mem_map.1 he; exact tm_len x
structure Need where
  kc : Nat → Bool
  pre : (Nat → Option PObj) → Prop
  hold : ∀ H H', (∀ j, kc j = true → H' j = H j) → pre H → pre H'
def noNeed : Need := ⟨fun _ => false, fun _ => True, fun _ _ _ _ => trivial⟩
def Tells (N : Need) (f : FuncId) (args : List PV) (r : PV) : Prop := ∀ (H : Nat → Option PObj) (nx : Nat), N.pre H → (∀ j, N.kc j = true → j < nx) → PMut Try.prog f args H nx (fun H' nx' r' => nx ≤ nx' ∧ r' = r ∧ ∀ j, j < nx → H' j = H j)
theorem PPure.tells {f : FuncId} {args : List PV} {r : PV} (h : PPure Try.prog f args r) (N : Need) : Tells N f args r := fun H nx _ _ =>
  PMut.mono (PPure.mut h) (by rintro H' nx' r' ⟨rfl, rfl, rfl⟩; exact ⟨Nat.le_refl _, rfl, fun _ _ => rfl⟩)
def FillC (N : Need) (u : Tm) (deep : Int) (clo : PV) (res : Option Tm) : Prop := ∀ (H : Nat → Option PObj) (nx id off fid : Nat) (left : Int) (p q : List PV) (kp : Nat → Bool) (wf : Bool), N.pre H → (∀ j, N.kc j = true → kp j = true) →
  H id = some ⟨p ++ (zero5 ++ q), true⟩ → H fid = some ⟨[.sc (.int .i64 left)], wf⟩ → id < nx → fid < nx → fid ≠ id → p.length = off → immL p = true → immL q = true → 0 ≤ left → left ≤ 2 ^ 40 →
  (∀ j, kp j = true → j ≠ id ∧ j ≠ fid ∧ j < nx ∧ ∀ o, H j = some o → FixL nx o.cells) →
  PMut Try.prog F.bind_filler_fill [.optr fid 0, .optr id off, .ptr u.pv, .sc (.int .i64 deep), clo] H nx (fillQ res H nx id fid left p q kp wf)
set_option maxHeartbeats 16000000 in
theorem fill_leaf (N : Need) (f : FuncId) (caps : List PV) (L : Tm → Int → LeafR) (kind n : Int) (s : ByteArray) (ls : List Lv) (hk : kind = 1 ∨ kind = 3) (hls : ∀ l ∈ ls, l.nodes ≤ 64) (hln : nodesL ls ≤ 2 ^ 40) (deep : Int) (hd : 0 ≤ deep ∧ deep ≤ 2 ^ 50) (r : PV)
    (hr : LeafIs (L (.mk kind n s ls []) deep) r) (hc : Tells N f (.ptr (Tm.mk kind n s ls []).pv :: .sc (.int .i64 deep) :: caps) r)
    (hP : ∀ u, L (.mk kind n s ls []) deep = .put u → FillC noNeed u 0 (.fn F.bind_raised_1 [.ptr [.sc (.int .i64 0)], .ptr [.sc (.int .i64 deep)]]) (some (u.lift deep 0))) :
    FillC N (.mk kind n s ls []) deep (.fn f caps) ((Tm.mk kind n s ls []).fill L deep) := by
  intro H nx id off fid left p q kp wf hpre hkc hH hF hid hfid hne hoff hpi hqi hl0 hl1 hkp
  have hLf : leafN L (.mk kind n s ls []) deep = L (.mk kind n s ls []) deep := if_pos hk
  cases hL : L (.mk kind n s ls []) deep with
  | no =>
    rw [hL] at hr
    obtain ⟨x, rfl⟩ := hr
    rw [fill_no (hLf.trans hL)]
    clear hP hL hLf
    refine mut_by is_bind_filler_fill (by simp) fun hb => ?_
    clear hb
    simp only [Tm.pv] at hc ⊢
    have hkp2 := Kept.mk hkp
    clear hkp
    rcases hk with rfl | rfl
    all_goals
      repeat' (first | ((with_reducible first | refine wA (by omega) ?_ | refine wB (by omega) ?_ | refine wC (by omega) ?_ | refine wD (by omega) ?_ | refine wE ?_ ?_ | refine wF ?_ ?_ | refine wG ?_ ?_ | refine wH ?_ ?_ | refine wI ?_ ?_ | refine wJ ?_ ?_ | refine wK ?_ ?_ | refine wL ?_ ?_) <;> intro _) | simp (maxSteps := 1000000) (disch := omega) only [go_sem, Nat.reduceAdd, Nat.reduceMul, Nat.reduceSub, Nat.reduceLeDiff, Nat.reduceEqDiff, Nat.reduceBEq, ↓reduceIte, reduceCtorEq, Int.reduceEq, Int.reduceLE, Int.reduceLT, Int.reduceAdd, Int.reduceSub, Int.reduceNeg, Int.reduceToNat, Int.reduceNe, Nat.reducePow, Nat.reduceShiftRight, Nat.reduceMod, mc_bind_filler_fill, *])
      refine call_mut (hc _ _ hpre (fun j hj => Nat.lt_of_lt_of_le (hkp2.out j (hkc j hj)).2.2.1 (Nat.le_add_right _ _))) ?_
      rintro H0 m r' ⟨hm, rfl, hk0⟩ -
      have hm2 : nx ≤ m := Nat.le_trans (Nat.le_add_right _ _) hm
      have hkk := Kept.mk fun j (hj : j < nx) => hk0 j (Nat.lt_of_lt_of_le hj (Nat.le_add_right _ _))
      have hF0 := (hkk.out fid hfid).trans hF
      have hH0 := (hkk.out id hid).trans hH
      clear hF hH hk0 hm hc
      clear hH0
      repeat' (first | ((with_reducible first | refine wA (by omega) ?_ | refine wB (by omega) ?_ | refine wC (by omega) ?_ | refine wD (by omega) ?_ | refine wE ?_ ?_ | refine wF ?_ ?_ | refine wG ?_ ?_ | refine wH ?_ ?_ | refine wI ?_ ?_ | refine wJ ?_ ?_ | refine wK ?_ ?_ | refine wL ?_ ?_) <;> intro _) | simp (maxSteps := 1000000) (disch := omega) only [go_sem, Nat.reduceAdd, Nat.reduceMul, Nat.reduceSub, Nat.reduceLeDiff, Nat.reduceEqDiff, Nat.reduceBEq, ↓reduceIte, reduceCtorEq, Int.reduceEq, Int.reduceLE, Int.reduceLT, Int.reduceAdd, Int.reduceSub, Int.reduceNeg, Int.reduceToNat, Int.reduceNe, Nat.reducePow, Nat.reduceShiftRight, Nat.reduceMod, *])
      exact fin_mut (.sc (.bool false)) (.inr rfl) cE2 (show fillQ none H nx id fid left p q kp wf _ _ _ from ⟨Nat.le_trans hm2 (Nat.le_add_right _ _), (fun j hj => by have h1 := hkp2.out j hj; have h2 := hkk.out j h1.2.2.1; simp [upd, show j ≠ nx + 25 by omega, h2]), left, (by simp [upd, show fid ≠ nx + 25 by omega, hF0]), .inl ⟨(fun y h => by cases h), rfl⟩⟩)
  | put u =>
    rw [hL] at hr
    obtain rfl := hr
    rw [fill_put (hLf.trans hL)]
    have hP2 := Kept.mk (hP u hL)
    clear hP hL hLf
    refine mut_by is_bind_filler_fill (by simp) fun hb => ?_
    clear hb
    simp only [Tm.pv] at hc ⊢
    have hkp2 := Kept.mk hkp
    clear hkp
    rcases hk with rfl | rfl
    all_goals
      repeat' (first | ((with_reducible first | refine wA (by omega) ?_ | refine wB (by omega) ?_ | refine wC (by omega) ?_ | refine wD (by omega) ?_ | refine wE ?_ ?_ | refine wF ?_ ?_ | refine wG ?_ ?_ | refine wH ?_ ?_ | refine wI ?_ ?_ | refine wJ ?_ ?_ | refine wK ?_ ?_ | refine wL ?_ ?_) <;> intro _) | simp (maxSteps := 1000000) (disch := omega) only [go_sem, Nat.reduceAdd, Nat.reduceMul, Nat.reduceSub, Nat.reduceLeDiff, Nat.reduceEqDiff, Nat.reduceBEq, ↓reduceIte, reduceCtorEq, Int.reduceEq, Int.reduceLE, Int.reduceLT, Int.reduceAdd, Int.reduceSub, Int.reduceNeg, Int.reduceToNat, Int.reduceNe, Nat.reducePow, Nat.reduceShiftRight, Nat.reduceMod, mc_bind_filler_fill, *])
      refine call_mut (hc _ _ hpre (fun j hj => Nat.lt_of_lt_of_le (hkp2.out j (hkc j hj)).2.2.1 (Nat.le_add_right _ _))) ?_
      rintro H0 m r' ⟨hm, rfl, hk0⟩ -
      have hm2 : nx ≤ m := Nat.le_trans (Nat.le_add_right _ _) hm
      have hkk := Kept.mk fun j (hj : j < nx) => hk0 j (Nat.lt_of_lt_of_le hj (Nat.le_add_right _ _))
      have hF0 := (hkk.out fid hfid).trans hF
      have hH0 := (hkk.out id hid).trans hH
      clear hF hH hk0 hm hc
      repeat' (first | ((with_reducible first | refine wA (by omega) ?_ | refine wB (by omega) ?_ | refine wC (by omega) ?_ | refine wD (by omega) ?_ | refine wE ?_ ?_ | refine wF ?_ ?_ | refine wG ?_ ?_ | refine wH ?_ ?_ | refine wI ?_ ?_ | refine wJ ?_ ?_ | refine wK ?_ ?_ | refine wL ?_ ?_) <;> intro _) | simp (maxSteps := 1000000) (disch := omega) only [go_sem, Nat.reduceAdd, Nat.reduceMul, Nat.reduceSub, Nat.reduceLeDiff, Nat.reduceEqDiff, Nat.reduceBEq, ↓reduceIte, reduceCtorEq, Int.reduceEq, Int.reduceLE, Int.reduceLT, Int.reduceAdd, Int.reduceSub, Int.reduceNeg, Int.reduceToNat, Int.reduceNe, Nat.reducePow, Nat.reduceShiftRight, Nat.reduceMod, *])
      refine o_pnil (t := false) rfl rfl Try.underlying73 (by (simp (disch := omega) only [go_sem, Nat.reduceMul, Nat.reduceSub, Nat.reduceShiftRight, Nat.reduceMod, Nat.reduceEqDiff, Nat.reduceAdd, ↓reduceIte, Nat.reduceLeDiff, ev_tmp, pnil])) ?_
      repeat' (first | ((with_reducible first | refine wA (by omega) ?_ | refine wB (by omega) ?_ | refine wC (by omega) ?_ | refine wD (by omega) ?_ | refine wE ?_ ?_ | refine wF ?_ ?_ | refine wG ?_ ?_ | refine wH ?_ ?_ | refine wI ?_ ?_ | refine wJ ?_ ?_ | refine wK ?_ ?_ | refine wL ?_ ?_) <;> intro _) | (((with_reducible refine call_id ?_); (first | (refine call_pure (raised_p deep 0) ?_)))) | simp (maxSteps := 1000000) (disch := omega) only [go_sem, Nat.reduceAdd, Nat.reduceMul, Nat.reduceSub, Nat.reduceLeDiff, Nat.reduceEqDiff, Nat.reduceBEq, ↓reduceIte, reduceCtorEq, Int.reduceEq, Int.reduceLE, Int.reduceLT, Int.reduceAdd, Int.reduceSub, Int.reduceNeg, Int.reduceToNat, Int.reduceNe, Nat.reducePow, Nat.reduceShiftRight, Nat.reduceMod, *])
      refine call_mut (hP2.out _ _ id off fid left p q kp wf trivial (fun j hj => by cases hj) ((upd_ne _ _ (show id ≠ nx + 25 by omega)).trans ((upd_ne _ _ (show id ≠ nx + 25 by omega)).trans hH0)) ((upd_ne _ _ (show fid ≠ nx + 25 by omega)).trans ((upd_ne _ _ (show fid ≠ nx + 25 by omega)).trans hF0)) (Nat.lt_of_lt_of_le (by omega : id < m) (Nat.le_add_right _ _)) (Nat.lt_of_lt_of_le (by omega : fid < m) (Nat.le_add_right _ _)) hne hoff hpi hqi hl0 hl1 ?kp) ?_
      case kp =>
        intro j hj
        have h1 := hkp2.out j hj
        refine ⟨h1.1, h1.2.1, Nat.lt_of_lt_of_le (by omega : j < m) (Nat.le_add_right _ _), fun o ho => ?_⟩
        exact (h1.2.2.2 o ((hkk.out j h1.2.2.1).symm.trans (((upd_ne _ _ (show j ≠ nx + 25 by omega)).trans (upd_ne _ _ (show j ≠ nx + 25 by omega))).symm.trans ho))).mono (Nat.le_trans hm2 (Nat.le_add_right _ _))
      rintro H' nx' r' ⟨hn1, hk1, x, hx, hcase⟩ -
      have hn2 : nx ≤ nx' := Nat.le_trans hm2 (Nat.le_trans (Nat.le_add_right _ _) hn1)
      have hk2 : Kept (∀ j, kp j = true → H' j = H j) := Kept.mk fun j hj => by
        have h1 := hkp2.out j hj
        exact (hk1 j hj).trans (((upd_ne _ _ (show j ≠ nx + 25 by omega)).trans (upd_ne _ _ (show j ≠ nx + 25 by omega))).trans (hkk.out j h1.2.2.1))
      clear hk1 hn1 hH0 hF0
      rcases hcase with ⟨hbad, rfl⟩ | ⟨y, hy, hyl, rfl, rfl, hrow⟩
      · have hbk := Kept.mk hbad
        clear hbad
        repeat' (first | ((with_reducible first | refine wA (by omega) ?_ | refine wB (by omega) ?_ | refine wC (by omega) ?_ | refine wD (by omega) ?_ | refine wE ?_ ?_ | refine wF ?_ ?_ | refine wG ?_ ?_ | refine wH ?_ ?_ | refine wI ?_ ?_ | refine wJ ?_ ?_ | refine wK ?_ ?_ | refine wL ?_ ?_) <;> intro _) | simp (maxSteps := 1000000) (disch := omega) only [go_sem, Nat.reduceAdd, Nat.reduceMul, Nat.reduceSub, Nat.reduceLeDiff, Nat.reduceEqDiff, Nat.reduceBEq, ↓reduceIte, reduceCtorEq, Int.reduceEq, Int.reduceLE, Int.reduceLT, Int.reduceAdd, Int.reduceSub, Int.reduceNeg, Int.reduceToNat, Int.reduceNe, Nat.reducePow, Nat.reduceShiftRight, Nat.reduceMod, *])
        exact fin_mut (.sc (.bool false)) (.inr rfl) cE2 (show fillQ (some (u.lift deep 0)) H nx id fid left p q kp wf _ _ _ from ⟨hn2, hk2.out, x, hx, .inl ⟨hbk.out, rfl⟩⟩)
      · have hyk := Kept.mk hy
        have hrk := Kept.mk hrow
        clear hy hrow
        repeat' (first | ((with_reducible first | refine wA (by omega) ?_ | refine wB (by omega) ?_ | refine wC (by omega) ?_ | refine wD (by omega) ?_ | refine wE ?_ ?_ | refine wF ?_ ?_ | refine wG ?_ ?_ | refine wH ?_ ?_ | refine wI ?_ ?_ | refine wJ ?_ ?_ | refine wK ?_ ?_ | refine wL ?_ ?_) <;> intro _) | simp (maxSteps := 1000000) (disch := omega) only [go_sem, Nat.reduceAdd, Nat.reduceMul, Nat.reduceSub, Nat.reduceLeDiff, Nat.reduceEqDiff, Nat.reduceBEq, ↓reduceIte, reduceCtorEq, Int.reduceEq, Int.reduceLE, Int.reduceLT, Int.reduceAdd, Int.reduceSub, Int.reduceNeg, Int.reduceToNat, Int.reduceNe, Nat.reducePow, Nat.reduceShiftRight, Nat.reduceMod, *])
        exact fin_mut (.sc (.bool true)) (.inr rfl) cE2 (show fillQ (some (u.lift deep 0)) H nx id fid left p q kp wf _ _ _ from ⟨hn2, hk2.out, _, hx, .inr ⟨y, hyk.out, hyl, rfl, rfl, hrk.out⟩⟩)
  | num m2 =>
    rw [hL] at hr
    obtain rfl := hr
    have hnum := hLf.trans hL
    have hfl : (Tm.mk kind n s ls []).fill L deep = some (.mk kind m2 s ls []) := by rw [fill_num hnum]; rfl
    have hbd : left - 1 - nodesL ls < 0 → Bad (some (Tm.mk kind m2 s ls [])) left := fun h => by rw [← hfl]; exact bad_node hnum h
    rw [hfl]
    clear hP hL hLf hfl hnum
    refine fill_tell hid hfid hne hpi hqi hkp ?_
    refine mut_by is_bind_filler_fill (by simp) fun hb => ?_
    clear hb
    simp only [Tm.pv] at hc ⊢
    have hkp2 := Kept.mk hkp
    clear hkp
    rcases hk with rfl | rfl
    all_goals
      repeat' (first | ((with_reducible first | refine wA (by omega) ?_ | refine wB (by omega) ?_ | refine wC (by omega) ?_ | refine wD (by omega) ?_ | refine wE ?_ ?_ | refine wF ?_ ?_ | refine wG ?_ ?_ | refine wH ?_ ?_ | refine wI ?_ ?_ | refine wJ ?_ ?_ | refine wK ?_ ?_ | refine wL ?_ ?_) <;> intro _) | simp (maxSteps := 1000000) (disch := omega) only [go_sem, Nat.reduceAdd, Nat.reduceMul, Nat.reduceSub, Nat.reduceLeDiff, Nat.reduceEqDiff, Nat.reduceBEq, ↓reduceIte, reduceCtorEq, Int.reduceEq, Int.reduceLE, Int.reduceLT, Int.reduceAdd, Int.reduceSub, Int.reduceNeg, Int.reduceToNat, Int.reduceNe, Nat.reducePow, Nat.reduceShiftRight, Nat.reduceMod, mc_bind_filler_fill, *])
      refine call_mut (hc _ _ hpre (fun j hj => Nat.lt_of_lt_of_le (hkp2.out j (hkc j hj)).2.2.1 (Nat.le_add_right _ _))) ?_
      rintro H0 m r' ⟨hm, rfl, hk0⟩ -
      have hm2 : nx ≤ m := Nat.le_trans (Nat.le_add_right _ _) hm
      have hkk := Kept.mk fun j (hj : j < nx) => hk0 j (Nat.lt_of_lt_of_le hj (Nat.le_add_right _ _))
      have hF0 := (hkk.out fid hfid).trans hF
      have hH0 := (hkk.out id hid).trans hH
      clear hF hH hk0 hm hc
      repeat' (first | ((with_reducible first | refine wA (by omega) ?_ | refine wB (by omega) ?_ | refine wC (by omega) ?_ | refine wD (by omega) ?_ | refine wE ?_ ?_ | refine wF ?_ ?_ | refine wG ?_ ?_ | refine wH ?_ ?_ | refine wI ?_ ?_ | refine wJ ?_ ?_ | refine wK ?_ ?_ | refine wL ?_ ?_) <;> intro _) | simp (maxSteps := 1000000) (disch := omega) only [go_sem, Nat.reduceAdd, Nat.reduceMul, Nat.reduceSub, Nat.reduceLeDiff, Nat.reduceEqDiff, Nat.reduceBEq, ↓reduceIte, reduceCtorEq, Int.reduceEq, Int.reduceLE, Int.reduceLT, Int.reduceAdd, Int.reduceSub, Int.reduceNeg, Int.reduceToNat, Int.reduceNe, Nat.reducePow, Nat.reduceShiftRight, Nat.reduceMod, *])
      refine o_pnil (t := true) rfl rfl Try.underlying73 (by (simp (disch := omega) only [go_sem, Nat.reduceMul, Nat.reduceSub, Nat.reduceShiftRight, Nat.reduceMod, Nat.reduceEqDiff, Nat.reduceAdd, ↓reduceIte, Nat.reduceLeDiff, ev_tmp, pnil])) ?_
      repeat' (first | ((with_reducible first | refine wA (by omega) ?_ | refine wB (by omega) ?_ | refine wC (by omega) ?_ | refine wD (by omega) ?_ | refine wE ?_ ?_ | refine wF ?_ ?_ | refine wG ?_ ?_ | refine wH ?_ ?_ | refine wI ?_ ?_ | refine wJ ?_ ?_ | refine wK ?_ ?_ | refine wL ?_ ?_) <;> intro _) | simp (maxSteps := 1000000) (disch := omega) only [go_sem, Nat.reduceAdd, Nat.reduceMul, Nat.reduceSub, Nat.reduceLeDiff, Nat.reduceEqDiff, Nat.reduceBEq, ↓reduceIte, reduceCtorEq, Int.reduceEq, Int.reduceLE, Int.reduceLT, Int.reduceAdd, Int.reduceSub, Int.reduceNeg, Int.reduceToNat, Int.reduceNe, Nat.reducePow, Nat.reduceShiftRight, Nat.reduceMod, *])
      refine call_mut (node_m _ n m2 s ls [] hls hln (by simp) left ⟨by omega, by omega⟩ _ _ id off fid p q kp wf ((upd_ne _ _ (show id ≠ nx + 25 by omega)).trans ((upd_ne _ _ (show id ≠ nx + 25 by omega)).trans hH0)) ((upd_ne _ _ (show fid ≠ nx + 25 by omega)).trans ((upd_ne _ _ (show fid ≠ nx + 25 by omega)).trans hF0)) (Nat.lt_of_lt_of_le (by omega : id < m) (Nat.le_add_right _ _)) (Nat.lt_of_lt_of_le (by omega : fid < m) (Nat.le_add_right _ _)) hne hoff ?kp) ?_
      case kp =>
        intro j hj
        have h1 := hkp2.out j hj
        exact ⟨h1.1, h1.2.1, Nat.lt_of_lt_of_le (by omega : j < m) (Nat.le_add_right _ _)⟩
      rintro H' nx' r' ⟨hn1, hk1, rfl, hF', a, b, hI', hra, hrb⟩ -
      have hn3 : m ≤ nx' := Nat.le_trans (Nat.le_add_right _ _) hn1
      have hn2 : nx ≤ nx' := Nat.le_trans hm2 hn3
      have hk2 : Kept (∀ j, kp j = true → H' j = H j) := Kept.mk fun j hj => by
        have h1 := hkp2.out j hj
        exact (hk1 j hj).trans (((upd_ne _ _ (show j ≠ nx + 25 by omega)).trans (upd_ne _ _ (show j ≠ nx + 25 by omega))).trans (hkk.out j h1.2.2.1))
      have hra2 : Kept (RowP H' nx nx' 3 a (ls.map Lv.pv)) := Kept.mk (hra.low (Nat.le_trans hm2 (Nat.le_add_right _ _)))
      have hrb2 : Kept (RowP H' nx nx' 5 b (([] : List Tm).map Tm.pv)) := Kept.mk (by
        rcases hrb with ⟨_, rfl⟩ | ⟨ida, g1, g2, _, rfl, g3⟩
        · exact .inl ⟨rfl, rfl⟩
        · exact .inr ⟨ida, Nat.le_trans (Nat.le_trans hm2 (Nat.le_add_right _ _)) g1, g2, rfl, g3.trans rfl⟩)
      have hIk := Kept.mk hI'
      clear hk1 hn1 hH0 hF0 hra hrb hI'
      by_cases hneg : left - 1 - nodesL ls < 0
      · rw [decide_eq_false (show ¬ 0 ≤ left - 1 - (nodesL ls : Int) by omega)]
        have hbk := Kept.mk (hbd hneg)
        clear hneg hbd
        repeat' (first | ((with_reducible first | refine wA (by omega) ?_ | refine wB (by omega) ?_ | refine wC (by omega) ?_ | refine wD (by omega) ?_ | refine wE ?_ ?_ | refine wF ?_ ?_ | refine wG ?_ ?_ | refine wH ?_ ?_ | refine wI ?_ ?_ | refine wJ ?_ ?_ | refine wK ?_ ?_ | refine wL ?_ ?_) <;> intro _) | simp (maxSteps := 1000000) (disch := omega) only [go_sem, Nat.reduceAdd, Nat.reduceMul, Nat.reduceSub, Nat.reduceLeDiff, Nat.reduceEqDiff, Nat.reduceBEq, ↓reduceIte, reduceCtorEq, Int.reduceEq, Int.reduceLE, Int.reduceLT, Int.reduceAdd, Int.reduceSub, Int.reduceNeg, Int.reduceToNat, Int.reduceNe, Nat.reducePow, Nat.reduceShiftRight, Nat.reduceMod, *])
        exact fin_mut (.sc (.bool false)) (.inr rfl) cE2 (show fillRaw _ H nx id fid left p q kp wf _ _ _ from ⟨Nat.le_trans hn2 (Nat.le_add_right _ _), hk2.out, _, hF', .inl ⟨hbk.out, rfl⟩⟩)
      · rw [decide_eq_true (show 0 ≤ left - 1 - (nodesL ls : Int) by omega)]
        clear hbd
        repeat' (first | ((with_reducible first | refine wA (by omega) ?_ | refine wB (by omega) ?_ | refine wC (by omega) ?_ | refine wD (by omega) ?_ | refine wE ?_ ?_ | refine wF ?_ ?_ | refine wG ?_ ?_ | refine wH ?_ ?_ | refine wI ?_ ?_ | refine wJ ?_ ?_ | refine wK ?_ ?_ | refine wL ?_ ?_) <;> intro _) | simp (maxSteps := 1000000) (disch := omega) only [go_sem, Nat.reduceAdd, Nat.reduceMul, Nat.reduceSub, Nat.reduceLeDiff, Nat.reduceEqDiff, Nat.reduceBEq, ↓reduceIte, reduceCtorEq, Int.reduceEq, Int.reduceLE, Int.reduceLT, Int.reduceAdd, Int.reduceSub, Int.reduceNeg, Int.reduceToNat, Int.reduceNe, Nat.reducePow, Nat.reduceShiftRight, Nat.reduceMod, *])
        refine c_rounds 1 ?_
        repeat' (first | ((with_reducible first | refine wA (by omega) ?_ | refine wB (by omega) ?_ | refine wC (by omega) ?_ | refine wD (by omega) ?_ | refine wE ?_ ?_ | refine wF ?_ ?_ | refine wG ?_ ?_ | refine wH ?_ ?_ | refine wI ?_ ?_ | refine wJ ?_ ?_ | refine wK ?_ ?_ | refine wL ?_ ?_) <;> intro _) | simp (maxSteps := 1000000) (disch := omega) only [go_sem, Nat.reduceAdd, Nat.reduceMul, Nat.reduceSub, Nat.reduceLeDiff, Nat.reduceEqDiff, Nat.reduceBEq, ↓reduceIte, reduceCtorEq, Int.reduceEq, Int.reduceLE, Int.reduceLT, Int.reduceAdd, Int.reduceSub, Int.reduceNeg, Int.reduceToNat, Int.reduceNe, Nat.reducePow, Nat.reduceShiftRight, Nat.reduceMod, rounds_next, *])
        exact fin_mut (.sc (.bool true)) (.inr rfl) cE2 (show fillRaw _ H nx id fid left p q kp wf _ _ _ from ⟨Nat.le_trans hn2 (Nat.le_add_right _ _), hk2.out, _, hF', .inr ⟨_, m2, s, ls, [], a, b, rfl, by omega, by simp [nodesT], rfl, hIk.out, hra2.out.mono (Nat.le_add_right _ _) (fun _ _ _ _ => rfl), hrb2.out.mono (Nat.le_add_right _ _) (fun _ _ _ _ => rfl)⟩⟩)
end
section
set_option maxRecDepth 20000
attribute [local go_sem] pv_len pv_take Nat.add_assoc tm_len tm_take pv_one tm_one id_ne id_ne' id_ne2 List.append_assoc
set_option maxHeartbeats 16000000 in
theorem fill_p (np : Int) (N : Need) (f : FuncId) (caps : List PV) (L : Tm → Int → LeafR)
    (hL : ∀ (t : Tm) (deep k : Int), 0 ≤ deep ∧ deep ≤ 2 ^ 50 → k ≤ 2 ^ 60 → t.formed np k = true → ∃ r, LeafIs (L t deep) r ∧ Tells N f (.ptr t.pv :: .sc (.int .i64 deep) :: caps) r)
    (hP : ∀ (t : Tm) (deep k : Int) (u : Tm), 0 ≤ deep ∧ deep ≤ 2 ^ 50 → t.formed np k = true → L t deep = .put u → FillC noNeed u 0 (.fn F.bind_raised_1 [.ptr [.sc (.int .i64 0)], .ptr [.sc (.int .i64 deep)]]) (some (u.lift deep 0))) :
    ∀ (fuel : Nat) (t : Tm) (k deep : Int), t.size ≤ fuel → t.nodes ≤ 2 ^ 40 → k + t.size ≤ 2 ^ 60 → t.formed np k = true → 0 ≤ deep → deep + t.size ≤ 2 ^ 50 → FillC N t deep (.fn f caps) (t.fill L deep) := by
  intro fuel
  induction fuel with
  | zero => intro t k deep h; have := size_pos t; omega
  | succ fuel ih =>
    intro t k deep hf hm hk hfm hd0 hd1
    cases t with
    | mk kind n s ls args =>
    have hls : ∀ l ∈ ls, l.nodes ≤ 64 := fun l hl => (right_parts (formed_lvs hfm l hl)).2.2.1
    by_cases hkd : kind = 1 ∨ kind = 3
    · have ha : args = [] := by
        rcases formed_cases np k kind n s ls args hfm with h | h | h | h
        · exact h.2.2.2
        · exact h.2
        · omega
        · omega
      subst ha
      have hsz := size_pos (Tm.mk kind n s ls [])
      obtain ⟨r, hr, hc⟩ := hL _ deep k ⟨hd0, by omega⟩ (by omega) hfm
      refine fill_leaf N f caps L kind n s ls hkd hls (by simp only [Tm.nodes] at hm; omega) deep ⟨hd0, by omega⟩ r hr hc fun u hu => hP _ deep k u ⟨hd0, by omega⟩ hfm hu
    have hnum : leafN L (.mk kind n s ls args) deep = .num n := if_neg hkd
    intro H nx id off fid left p q kp wf hpre hkc hH hF hid hfid hne hoff hpi hqi hl0 hl1 hkp
    refine fill_tell hid hfid hne hpi hqi hkp ?_
    simp only [Tm.size] at hf hk hd1
    simp only [Tm.nodes] at hm
    have hA := Kept.mk (formed_args np k kind n s ls args hfm)
    have hla := len_nodesT args
    have hih := Kept.mk ih
    clear hfm ih hL hP
    have hk1 : kind ≠ 1 := fun h => hkd (.inl h)
    have hk3 : kind ≠ 3 := fun h => hkd (.inr h)
    refine mut_by is_bind_filler_fill (by simp) fun hb => ?_
    clear hb hkd
    simp only [Tm.pv]
    have at0 : ∀ x, List.take off (p ++ x) = p := fun x => List.take_left' hoff
    have at1 : ∀ x i, List.take (off + i) (p ++ x) = p ++ List.take i x := fun x i => at_take p x off i hoff
    have at2 : ∀ x i, List.drop (off + i) (p ++ x) = List.drop i x := fun x i => at_drop p x off i hoff
    have at3 : off + 1 ≤ off + (q.length + 5) ∧ off + 2 ≤ off + (q.length + 5) ∧ off + 3 ≤ off + (q.length + 5) ∧ off + 4 ≤ off + (q.length + 5) ∧ off + 5 ≤ off + (q.length + 5) := by omega
    have at4 : ∀ x, List.drop off (p ++ x) = x := fun x => List.drop_left' hoff
    have hkpk := Kept.mk hkp
    have hpik := Kept.mk hpi
    have hqik := Kept.mk hqi
    have hlsk := Kept.mk hls
    clear hkp hpi hqi hls
    repeat' (first | ((with_reducible first | refine wA (by omega) ?_ | refine wB (by omega) ?_ | refine wC (by omega) ?_ | refine wD (by omega) ?_ | refine wE ?_ ?_ | refine wF ?_ ?_ | refine wG ?_ ?_ | refine wH ?_ ?_ | refine wI ?_ ?_ | refine wJ ?_ ?_ | refine wK ?_ ?_ | refine wL ?_ ?_) <;> intro _) | simp (maxSteps := 1000000) (disch := omega) only [go_sem, Nat.reduceAdd, Nat.reduceMul, Nat.reduceSub, Nat.reduceLeDiff, Nat.reduceEqDiff, Nat.reduceBEq, ↓reduceIte, reduceCtorEq, Int.reduceEq, Int.reduceLE, Int.reduceLT, Int.reduceAdd, Int.reduceSub, Int.reduceNeg, Int.reduceToNat, Int.reduceNe, Nat.reducePow, Nat.reduceShiftRight, Nat.reduceMod, mc_bind_filler_fill, *])
    refine call_mut (node_m _ n n s ls args hlsk.out (by omega) (by omega) left ⟨by omega, by omega⟩ _ _ id off fid p q kp wf hH hF (Nat.lt_of_lt_of_le hid (Nat.le_add_right _ _)) (Nat.lt_of_lt_of_le hfid (Nat.le_add_right _ _)) hne hoff ?kp) ?_
    case kp =>
      intro j hj
      have h1 := hkpk.out j hj
      exact ⟨h1.1, h1.2.1, Nat.lt_of_lt_of_le h1.2.2.1 (Nat.le_add_right _ _)⟩
    rintro H1 m0 r' ⟨hn1, hk2, rfl, hF1, a, b, hI1, hra, hrb⟩ -
    have hn2 : nx ≤ m0 := Nat.le_trans (Nat.le_add_right _ _) hn1
    have hkk : Kept (∀ j, kp j = true → H1 j = H j) := Kept.mk hk2
    have hrk : Kept (RowP H1 nx m0 3 a (ls.map Lv.pv)) := Kept.mk (hra.low (Nat.le_add_right _ _))
    clear hk2 hra hH hF
    by_cases hneg : left - 1 - nodesL ls < 0
    · rw [decide_eq_false (show ¬ 0 ≤ left - 1 - (nodesL ls : Int) by omega)]
      have hbk := Kept.mk (bad_node hnum hneg)
      clear hneg hnum hrb hn1
      repeat' (first | ((with_reducible first | refine wA (by omega) ?_ | refine wB (by omega) ?_ | refine wC (by omega) ?_ | refine wD (by omega) ?_ | refine wE ?_ ?_ | refine wF ?_ ?_ | refine wG ?_ ?_ | refine wH ?_ ?_ | refine wI ?_ ?_ | refine wJ ?_ ?_ | refine wK ?_ ?_ | refine wL ?_ ?_) <;> intro _) | simp (maxSteps := 1000000) (disch := omega) only [go_sem, Nat.reduceAdd, Nat.reduceMul, Nat.reduceSub, Nat.reduceLeDiff, Nat.reduceEqDiff, Nat.reduceBEq, ↓reduceIte, reduceCtorEq, Int.reduceEq, Int.reduceLE, Int.reduceLT, Int.reduceAdd, Int.reduceSub, Int.reduceNeg, Int.reduceToNat, Int.reduceNe, Nat.reducePow, Nat.reduceShiftRight, Nat.reduceMod, *])
      exact fin_mut (.sc (.bool false)) (.inr rfl) cE2 (show fillRaw _ H nx id fid left p q kp wf _ _ _ from ⟨Nat.le_trans hn2 (Nat.le_add_right _ _), hkk.out, _, hF1, .inl ⟨hbk.out, rfl⟩⟩)
    rw [decide_eq_true (show 0 ≤ left - 1 - (nodesL ls : Int) by omega)]
    have hnk := Kept.mk hnum
    clear hnum
    by_cases ha0 : args.length = 0
    · obtain rfl : args = [] := List.eq_nil_of_length_eq_zero ha0
      have hfl : Kept ((Tm.mk kind n s ls []).fill L deep = some (.mk kind n s ls [])) := Kept.mk (by rw [fill_num hnk.out]; rfl)
      have hrb2 : Kept (RowP H1 nx m0 5 b (([] : List Tm).map Tm.pv)) := Kept.mk (by
        rcases hrb with ⟨_, rfl⟩ | ⟨ida, g1, g2, _, rfl, g3⟩
        · exact .inl ⟨rfl, rfl⟩
        · exact .inr ⟨ida, Nat.le_trans (Nat.le_add_right _ _) g1, g2, rfl, g3.trans rfl⟩)
      have hIk := Kept.mk hI1
      clear hrb hI1 hih hn1
      repeat' (first | ((with_reducible first | refine wA (by omega) ?_ | refine wB (by omega) ?_ | refine wC (by omega) ?_ | refine wD (by omega) ?_ | refine wE ?_ ?_ | refine wF ?_ ?_ | refine wG ?_ ?_ | refine wH ?_ ?_ | refine wI ?_ ?_ | refine wJ ?_ ?_ | refine wK ?_ ?_ | refine wL ?_ ?_) <;> intro _) | simp (maxSteps := 1000000) (disch := omega) only [go_sem, Nat.reduceAdd, Nat.reduceMul, Nat.reduceSub, Nat.reduceLeDiff, Nat.reduceEqDiff, Nat.reduceBEq, ↓reduceIte, reduceCtorEq, Int.reduceEq, Int.reduceLE, Int.reduceLT, Int.reduceAdd, Int.reduceSub, Int.reduceNeg, Int.reduceToNat, Int.reduceNe, Nat.reducePow, Nat.reduceShiftRight, Nat.reduceMod, *])
      refine c_rounds 1 ?_
      repeat' (first | ((with_reducible first | refine wA (by omega) ?_ | refine wB (by omega) ?_ | refine wC (by omega) ?_ | refine wD (by omega) ?_ | refine wE ?_ ?_ | refine wF ?_ ?_ | refine wG ?_ ?_ | refine wH ?_ ?_ | refine wI ?_ ?_ | refine wJ ?_ ?_ | refine wK ?_ ?_ | refine wL ?_ ?_) <;> intro _) | simp (maxSteps := 1000000) (disch := omega) only [go_sem, Nat.reduceAdd, Nat.reduceMul, Nat.reduceSub, Nat.reduceLeDiff, Nat.reduceEqDiff, Nat.reduceBEq, ↓reduceIte, reduceCtorEq, Int.reduceEq, Int.reduceLE, Int.reduceLT, Int.reduceAdd, Int.reduceSub, Int.reduceNeg, Int.reduceToNat, Int.reduceNe, Nat.reducePow, Nat.reduceShiftRight, Nat.reduceMod, rounds_next, *])
      exact fin_mut (.sc (.bool true)) (.inr rfl) cE2 (show fillRaw _ H nx id fid left p q kp wf _ _ _ from ⟨Nat.le_trans hn2 (Nat.le_add_right _ _), hkk.out, _, hF1, .inr ⟨_, n, s, ls, [], a, b, hfl.out, by omega, by simp [nodesT], rfl, hIk.out, hrk.out.mono (Nat.le_add_right _ _) (fun _ _ _ _ => rfl), hrb2.out.mono (Nat.le_add_right _ _) (fun _ _ _ _ => rfl)⟩⟩)
    · have ha00 : 0 < args.length := by omega
      obtain ⟨ida, g1, g2, g3, rfl, g4⟩ : ∃ ida, nx ≤ ida ∧ ida < m0 ∧ leads a ida = false ∧ b = .osl ida 0 args.length 5 ∧ H1 ida = some ⟨zeros [.int .i64 0, .int .i64 0, .string ⟨#[]⟩, .slice none 0 0, .slice none 0 0] args.length, true⟩ := by
        rcases hrb with ⟨rfl, _⟩ | ⟨ida, g1, g2, g3, g4, g5⟩
        · simp at ha00
        · exact ⟨ida, Nat.le_trans (Nat.le_add_right _ _) g1, g2, g3, g4, g5⟩
      clear hrb hn1
      repeat' (first | ((with_reducible first | refine wA (by omega) ?_ | refine wB (by omega) ?_ | refine wC (by omega) ?_ | refine wD (by omega) ?_ | refine wE ?_ ?_ | refine wF ?_ ?_ | refine wG ?_ ?_ | refine wH ?_ ?_ | refine wI ?_ ?_ | refine wJ ?_ ?_ | refine wK ?_ ?_ | refine wL ?_ ?_) <;> intro _) | simp (maxSteps := 1000000) (disch := omega) only [go_sem, Nat.reduceAdd, Nat.reduceMul, Nat.reduceSub, Nat.reduceLeDiff, Nat.reduceEqDiff, Nat.reduceBEq, ↓reduceIte, reduceCtorEq, Int.reduceEq, Int.reduceLE, Int.reduceLT, Int.reduceAdd, Int.reduceSub, Int.reduceNeg, Int.reduceToNat, Int.reduceNe, Nat.reducePow, Nat.reduceShiftRight, Nat.reduceMod, *])
      refine c_loopW 1237940002391892127480038400 (by kernel_rfl) (fun j f H3 m3 => ∃ (i2 : Nat) (zs : List Tm) (v : Int), j = args.length - i2 ∧ i2 ≤ args.length ∧ f 65 = .sc (.int .i64 i2) ∧ m0 ≤ m3 ∧ Kept (fillA L deep kind args.length 0 (args.take i2) = some zs) ∧ Kept (zs.length = i2) ∧ Kept (∀ j, kp j = true → H3 j = H j) ∧
          0 ≤ v ∧ v ≤ 2 ^ 40 ∧ Kept (v = left - 1 - nodesL ls - nodesT zs) ∧ H3 fid = some ⟨[.sc (.int .i64 v)], wf⟩ ∧
          H3 id = some ⟨p ++ (.sc (.int .i64 kind) :: .sc (.int .i64 n) :: .sc (.string s) :: a :: .osl ida 0 args.length 5 :: q), true⟩ ∧ Kept (H3 ida = some ⟨zs.flatMap Tm.pv ++ zeros [.int .i64 0, .int .i64 0, .string ⟨#[]⟩, .slice none 0 0, .slice none 0 0] (args.length - i2), true⟩) ∧ Kept (RowP H3 nx m0 3 a (ls.map Lv.pv))) _
        ⟨0, [], left - 1 - nodesL ls, rfl, Nat.zero_le _, cE1, Nat.le_add_right _ _, Kept.mk rfl, Kept.mk rfl, hkk, by omega, by omega, Kept.mk (by simp [nodesT]), hF1, hI1, Kept.mk g4, hrk⟩ ?_
      clear hkk hrk hI1 hF1 g4 hneg
      rintro _ f3 H3 m3 ⟨i2, zs, v, rfl, hi2, e65, hm3, hzs, hzl, hkk, hv0, hv1, hv, hF3, hHi, hHb, hrk⟩
      by_cases hlt2 : i2 < args.length
      · have eg : args[i2]? = some args[i2] := List.getElem?_eq_getElem hlt2
        have hn := nodesT_mem args i2 hlt2
        have hs := sizeL_mem args i2 hlt2
        have hd := deep_bd kind args.length i2
        have hfi := formedA_mem np k kind args.length args 0 i2 hlt2 hA.out
        rw [Nat.zero_add] at hfi
        have hfik := Kept.mk hfi
        have c2 := bind_deeper_p kind n s ls args i2 hlt2 (by omega)
        clear hfi
        repeat' (first | ((with_reducible first | refine wA (by omega) ?_ | refine wB (by omega) ?_ | refine wC (by omega) ?_ | refine wD (by omega) ?_ | refine wE ?_ ?_ | refine wF ?_ ?_ | refine wG ?_ ?_ | refine wH ?_ ?_ | refine wI ?_ ?_ | refine wJ ?_ ?_ | refine wK ?_ ?_ | refine wL ?_ ?_) <;> intro _) | (((with_reducible refine call_id ?_); (first | (refine call_pure (c2) ?_)))) | simp (maxSteps := 1000000) (disch := omega) only [go_sem, Nat.reduceAdd, Nat.reduceMul, Nat.reduceSub, Nat.reduceLeDiff, Nat.reduceEqDiff, Nat.reduceBEq, ↓reduceIte, reduceCtorEq, Int.reduceEq, Int.reduceLE, Int.reduceLT, Int.reduceAdd, Int.reduceSub, Int.reduceNeg, Int.reduceToNat, Int.reduceNe, Nat.reducePow, Nat.reduceShiftRight, Nat.reduceMod, at0, at1, at2, at3, at4, List.take_succ_cons, List.drop_succ_cons, List.take_zero, List.drop_zero, List.cons_append, List.nil_append, *])
        obtain ⟨r, hr⟩ : ∃ r, args.length - i2 = r + 1 := ⟨args.length - i2 - 1, by omega⟩
        have hHb2 := hHb.out
        rw [hr] at hHb2
        refine call_mut (hih.out args[i2] (k + deepB kind args.length i2) (deep + deepB kind args.length i2) (by omega) (by omega) (by omega) hfik.out (by omega) (by omega) _ _ ida (i2 * 5) fid v (zs.flatMap Tm.pv) (zeros [.int .i64 0, .int .i64 0, .string ⟨#[]⟩, .slice none 0 0, .slice none 0 0] r) (fun j => kp j || decide (j = id) || leads a j) wf (N.hold _ _ (fun j hj => hkk.out j (hkc j hj)) hpre) (fun j hj => by simp [hkc j hj]) hHb2 hF3 (Nat.lt_of_lt_of_le (by omega : ida < m3) (Nat.le_add_right _ _)) (Nat.lt_of_lt_of_le (by omega : fid < m3) (Nat.le_add_right _ _)) (by omega) (by rw [flat_lenG _ 5 tm_len, hzl.out]) (tms_immF zs) (zeros_imm r) hv0 hv1 ?kp) ?_
        case kp =>
          intro j hj
          simp only [Bool.or_eq_true, decide_eq_true_eq] at hj
          rcases hj with (hj | rfl) | hj
          · have h1 := hkpk.out j hj
            refine ⟨by omega, h1.2.1, Nat.lt_of_lt_of_le (by omega : j < m3) (Nat.le_add_right _ _), fun o ho => ?_⟩
            exact (h1.2.2.2 o ((hkk.out j hj).symm.trans ho)).mono (Nat.le_trans (by omega : nx ≤ m3) (Nat.le_add_right _ _))
          · refine ⟨by omega, fun h => hne h.symm, Nat.lt_of_lt_of_le (by omega : j < m3) (Nat.le_add_right _ _), fun o ho => ?_⟩
            have ho2 := hHi.symm.trans ho
            cases ho2
            exact (FixL.imm hpik.out).append (.cons rfl (.cons rfl (.cons rfl (hrk.out.fix (Nat.le_trans (by omega : m0 ≤ m3) (Nat.le_add_right _ _)) (.osl (Nat.lt_of_lt_of_le (by omega : ida < m3) (Nat.le_add_right _ _)) (.imm hqik.out))))))
          · have h1 := hrk.out.lead (flat3_ne1 _) (lvs_immF _) hj (m3 + 50)
            refine ⟨(fun h => by rw [h, g3] at hj; cases hj), by omega, Nat.lt_of_lt_of_le (by omega : j < m3) (Nat.le_add_right _ _), fun o ho => ((hrk.out.lead (flat3_ne1 _) (lvs_immF _) hj _).2.2 o ho).2⟩
        rintro H' nx' r' ⟨hn1, hk1, x, hF', hcase⟩ -
        have hn3 : m3 ≤ nx' := Nat.le_trans (Nat.le_add_right _ _) hn1
        have hkk' : Kept (∀ j, kp j = true → H' j = H j) := Kept.mk fun j hj => (hk1 j (by simp [hj])).trans (hkk.out j hj)
        have hHi' : H' id = _ := (hk1 id (by simp)).trans hHi
        have hrk' : Kept (RowP H' nx m0 3 a (ls.map Lv.pv)) := Kept.mk (hrk.out.mono (Nat.le_refl _) fun j _ _ g3 => hk1 j (by simp [g3]))
        rcases hcase with ⟨hbad, rfl⟩ | ⟨y, hy, hyl, rfl, rfl, hrow'⟩
        · have hbk := Kept.mk (bad_part hlt2 hnk.out hzs.out hv.out hbad)
          clear hbad hk1 hkk hHi hrk hHb hHb2 hih hn1 hF3
          repeat' (first | ((with_reducible first | refine wA (by omega) ?_ | refine wB (by omega) ?_ | refine wC (by omega) ?_ | refine wD (by omega) ?_ | refine wE ?_ ?_ | refine wF ?_ ?_ | refine wG ?_ ?_ | refine wH ?_ ?_ | refine wI ?_ ?_ | refine wJ ?_ ?_ | refine wK ?_ ?_ | refine wL ?_ ?_) <;> intro _) | simp (maxSteps := 1000000) (disch := omega) only [go_sem, Nat.reduceAdd, Nat.reduceMul, Nat.reduceSub, Nat.reduceLeDiff, Nat.reduceEqDiff, Nat.reduceBEq, ↓reduceIte, reduceCtorEq, Int.reduceEq, Int.reduceLE, Int.reduceLT, Int.reduceAdd, Int.reduceSub, Int.reduceNeg, Int.reduceToNat, Int.reduceNe, Nat.reducePow, Nat.reduceShiftRight, Nat.reduceMod, *])
          exact fin_mut (.sc (.bool false)) (.inr rfl) cE2 (show fillRaw _ H nx id fid left p q kp wf _ _ _ from ⟨Nat.le_trans (by omega : nx ≤ nx') (Nat.le_add_right _ _), hkk'.out, _, hF', .inl ⟨hbk.out, rfl⟩⟩)
        · have hsn := fillA_snoc L deep kind args.length args[i2] (args.take i2) zs 0 hzs.out
          rw [Nat.zero_add, show (args.take i2).length = i2 by rw [List.length_take]; omega, hy, Option.map_some] at hsn
          have hzs2 : Kept (fillA L deep kind args.length 0 (args.take (i2 + 1)) = some (zs ++ [y])) := Kept.mk (by rw [List.take_succ_eq_append_getElem hlt2]; exact hsn)
          have hrowk : Kept (H' ida = some ⟨(zs ++ [y]).flatMap Tm.pv ++ zeros [.int .i64 0, .int .i64 0, .string ⟨#[]⟩, .slice none 0 0, .slice none 0 0] (args.length - (i2 + 1)), true⟩) := Kept.mk (by
            rw [hrow', show args.length - (i2 + 1) = r by omega, List.flatMap_append]
            simp)
          have hvk : Kept (v - y.nodes = left - 1 - nodesL ls - nodesT (zs ++ [y])) := Kept.mk (by have := hv.out; rw [nodesT_app]; simp only [nodesT]; omega)
          clear hy hsn hk1 hkk hHi hrk hHb hHb2 hih hn1 hrow' hzs hF3 hv
          repeat' (first | ((with_reducible first | refine wA (by omega) ?_ | refine wB (by omega) ?_ | refine wC (by omega) ?_ | refine wD (by omega) ?_ | refine wE ?_ ?_ | refine wF ?_ ?_ | refine wG ?_ ?_ | refine wH ?_ ?_ | refine wI ?_ ?_ | refine wJ ?_ ?_ | refine wK ?_ ?_ | refine wL ?_ ?_) <;> intro _) | simp (maxSteps := 1000000) (disch := omega) only [go_sem, Nat.reduceAdd, Nat.reduceMul, Nat.reduceSub, Nat.reduceLeDiff, Nat.reduceEqDiff, Nat.reduceBEq, ↓reduceIte, reduceCtorEq, Int.reduceEq, Int.reduceLE, Int.reduceLT, Int.reduceAdd, Int.reduceSub, Int.reduceNeg, Int.reduceToNat, Int.reduceNe, Nat.reducePow, Nat.reduceShiftRight, Nat.reduceMod, *])
          exact Nx.mk (args.length - (i2 + 1)) cE1 ⟨i2 + 1, zs ++ [y], v - y.nodes, rfl, cE1, by simp [upd], Nat.le_trans (by omega : m0 ≤ nx') (Nat.le_add_right _ _), hzs2, Kept.mk (by simp [hzl.out]), hkk', by omega, by omega, hvk, hF', hHi', hrowk, hrk'⟩
      · obtain rfl : i2 = args.length := by omega
        have hzs' := hzs.out
        rw [List.take_length] at hzs'
        have hfl : Kept ((Tm.mk kind n s ls args).fill L deep = some (.mk kind n s ls zs)) := Kept.mk (by rw [fill_num hnk.out, hzs']; rfl)
        have hHb' : Kept (H3 ida = some ⟨zs.flatMap Tm.pv, true⟩) := Kept.mk (by rw [hHb.out, Nat.sub_self]; simp [zeros])
        clear hzs' hzs hHb hih
        repeat' (first | ((with_reducible first | refine wA (by omega) ?_ | refine wB (by omega) ?_ | refine wC (by omega) ?_ | refine wD (by omega) ?_ | refine wE ?_ ?_ | refine wF ?_ ?_ | refine wG ?_ ?_ | refine wH ?_ ?_ | refine wI ?_ ?_ | refine wJ ?_ ?_ | refine wK ?_ ?_ | refine wL ?_ ?_) <;> intro _) | simp (maxSteps := 1000000) (disch := omega) only [go_sem, Nat.reduceAdd, Nat.reduceMul, Nat.reduceSub, Nat.reduceLeDiff, Nat.reduceEqDiff, Nat.reduceBEq, ↓reduceIte, reduceCtorEq, Int.reduceEq, Int.reduceLE, Int.reduceLT, Int.reduceAdd, Int.reduceSub, Int.reduceNeg, Int.reduceToNat, Int.reduceNe, Nat.reducePow, Nat.reduceShiftRight, Nat.reduceMod, *])
        exact fin_mut (.sc (.bool true)) (.inr rfl) cE2 (show fillRaw _ H nx id fid left p q kp wf _ _ _ from ⟨Nat.le_trans (by omega : nx ≤ m3) (Nat.le_add_right _ _), hkk.out, _, hF3, .inr ⟨_, n, s, ls, zs, a, .osl ida 0 args.length 5, hfl.out, hv0, hv.out, rfl, hHi, (hrk.out.mono (Nat.le_trans (by omega : m0 ≤ m3) (Nat.le_add_right _ _)) (fun _ _ _ _ => rfl)), .inr ⟨ida, g1, Nat.lt_of_lt_of_le (by omega : ida < m3) (Nat.le_add_right _ _), by rw [List.length_map, hzl.out], hHb'.out.trans (by rw [List.flatMap_def])⟩⟩⟩)
end
section
set_option maxRecDepth 20000
mutual
theorem inst_total (xs : List Tm) : ∀ (t : Tm) (deep : Int), ∃ y, t.fill (instL6 xs) deep = some y
  | .mk k n s ls args, deep => by
    obtain ⟨as_, ha⟩ := instA_total xs args deep k args.length 0
    simp only [Tm.fill, instL6, ha]
    split
    · split
      · rename_i h
        split at h
        · split at h <;> cases h
        · cases h
      · exact ⟨_, rfl⟩
      · exact ⟨_, rfl⟩
    · exact ⟨_, rfl⟩
theorem instA_total (xs : List Tm) : ∀ (ts : List Tm) (deep kind : Int) (len i : Nat), ∃ ys, fillA (instL6 xs) deep kind len i ts = some ys
  | [], _, _, _, _ => ⟨[], rfl⟩
  | t :: r, deep, kind, len, i => by
    obtain ⟨y, hy⟩ := inst_total xs t (deep + deepB kind len i)
    obtain ⟨ys, hys⟩ := instA_total xs r deep kind len (i + 1)
    exact ⟨y :: ys, by simp only [fillA, hy, hys]⟩
end
theorem fillA_lenM (L : Tm → Int → LeafR) : ∀ (xs ys : List Tm) (deep kind : Int) (len i : Nat), fillA L deep kind len i xs = some ys → ys.length = xs.length
  | [], ys, _, _, _, _, h => by simp only [fillA, Option.some.injEq] at h; subst h; rfl
  | x :: r, ys, deep, kind, len, i, h => by
    simp only [fillA] at h
    split at h
    · rename_i y ys' h1 h2
      cases h
      rw [List.length_cons, List.length_cons, fillA_lenM L r ys' deep kind len (i + 1) h2]
    · cases h
theorem inst_node (xs : List Tm) (k n : Int) (s : ByteArray) (ls : List Lv) (args : List Tm) (deep : Int) (hk : k ≠ 1) : (Tm.mk k n s ls args).fill (instL6 xs) deep = (fillA (instL6 xs) deep k args.length 0 args).map fun as_ => .mk k n s ls as_ := by
  simp only [Tm.fill, instL6, if_neg (fun h : k = 1 ∧ deep ≤ n => hk h.1)]
  split <;> rfl
theorem inst_low (xs : List Tm) (n : Int) (s : ByteArray) (ls : List Lv) (args : List Tm) (deep : Int) (hn : n < deep) : (Tm.mk 1 n s ls args).fill (instL6 xs) deep = (fillA (instL6 xs) deep 1 args.length 0 args).map fun as_ => .mk 1 n s ls as_ := by
  have h9 : ¬ deep ≤ n := by omega
  simp [Tm.fill, instL6, h9]
theorem inst_put (xs : List Tm) (n : Int) (s : ByteArray) (ls : List Lv) (args : List Tm) (deep : Int) (u : Tm) (hn : deep ≤ n) (hu : xs.reverse[(n - deep).toNat]? = some u) : (Tm.mk 1 n s ls args).fill (instL6 xs) deep = some (u.lift deep 0) := by
  simp [Tm.fill, instL6, hn, hu]
theorem inst_far (xs : List Tm) (n : Int) (s : ByteArray) (ls : List Lv) (args : List Tm) (deep : Int) (hn : deep + xs.length ≤ n) : (Tm.mk 1 n s ls args).fill (instL6 xs) deep = (fillA (instL6 xs) deep 1 args.length 0 args).map fun as_ => .mk 1 (n - xs.length) s ls as_ := by
  have hu : xs.reverse[(n - deep).toNat]? = none := List.getElem?_eq_none (by rw [List.length_reverse]; omega)
  simp [Tm.fill, instL6, show deep ≤ n by omega, hu]
def varL (v : Int) : Tm → Int → Bool
  | .mk k n _ _ _, deep => decide (k = 1 ∧ n - deep = v)
def conL (name : ByteArray) : Tm → Int → Bool
  | .mk k _ s _ _, _ => decide (k = 3 ∧ s = name)
theorem fmA {np k kind n : Int} {s : ByteArray} {ls : List Lv} {args : List Tm} (h : (Tm.mk kind n s ls args).formed np k = true) : formedA np k kind args.length 0 args = true := formed_args np k kind n s ls args h
theorem fm_var {np k n : Int} {s : ByteArray} {ls : List Lv} {args : List Tm} (h : (Tm.mk 1 n s ls args).formed np k = true) : 0 ≤ n ∧ n < k ∧ ls = [] ∧ args = [] := by
  simp only [Tm.formed, if_true, hasB, Bool.and_eq_true, decide_eq_true_eq] at h
  exact ⟨h.1, h.2.1, List.eq_nil_of_length_eq_zero (by omega), List.eq_nil_of_length_eq_zero (by omega)⟩
theorem fm_con {np k n : Int} {s : ByteArray} {ls : List Lv} {args : List Tm} (h : (Tm.mk 3 n s ls args).formed np k = true) : n = 0 ∧ args = [] ∧ nameB s = true := by
  simp [Tm.formed, constB] at h
  exact ⟨h.1, h.2.1, h.2.2.2.1⟩
def swapL (name : ByteArray) (u : Tm) : Tm → Int → LeafR
  | .mk k n s _ _, _ => if k = 3 ∧ s = name then .put u else .num n
end
section
set_option maxRecDepth 20000
theorem kvFind_set (k v : ByteArray) (x : Value) : ∀ (kv : List (ByteArray × Value)) (j : Nat) (u : Value), kvFind k kv = some (j, u) → (kvFind v (kv.set j (k, x))).map (·.2) = if k = v then some x else (kvFind v kv).map (·.2)
  | [], j, u, h => by cases h
  | (s, y) :: r, j, u, h => by
    simp only [kvFind] at h
    by_cases hs : s = k
    · rw [if_pos hs] at h
      cases h
      subst hs
      simp only [List.set_cons_zero, kvFind]
      by_cases hv : s = v
      · simp [hv]
      · simp [hv]
    · rw [if_neg hs, Option.map_eq_some_iff] at h
      obtain ⟨⟨j', u'⟩, h, e⟩ := h
      cases e
      have ih := kvFind_set k v x r j' u' h
      simp only [List.set_cons_succ, kvFind]
      by_cases hv : s = v
      · subst hv
        simp [show ¬ k = s from fun e => hs e.symm]
        try (intro e; exact absurd e.symm hs)
      · rw [if_neg hv, if_neg hv, Option.map_map, Option.map_map]
        simpa [Function.comp_def] using ih
theorem kvFind_app (k v : ByteArray) (x : Value) : ∀ (kv : List (ByteArray × Value)), kvFind k kv = none → (kvFind v (kv ++ [(k, x)])).map (·.2) = if k = v then some x else (kvFind v kv).map (·.2)
  | [], _ => by
    simp only [List.nil_append, kvFind]
    split <;> rfl
  | (s, y) :: r, h => by
    simp only [kvFind] at h
    by_cases hs : s = k
    · rw [if_pos hs] at h; cases h
    · rw [if_neg hs, Option.map_eq_none_iff] at h
      have ih := kvFind_app k v x r h
      simp only [List.cons_append, kvFind]
      by_cases hv : s = v
      · subst hv
        simp [show ¬ k = s from fun e => hs e.symm]
        try (intro e; exact absurd e.symm hs)
      · rw [if_neg hv, if_neg hv, Option.map_map, Option.map_map]
        simpa [Function.comp_def] using ih
theorem kvGet_set (kv : List (ByteArray × Value)) (k v : ByteArray) (x : Value) : kvGet (kvSet kv k x) v = if k = v then some x else kvGet kv v := by
  unfold kvGet kvSet
  cases h : kvFind k kv with
  | none => exact kvFind_app k v x kv h
  | some p =>
    obtain ⟨j, u⟩ := p
    exact kvFind_set k v x kv j u h
def firstAt (key : ByteArray) : List ByteArray → Option Nat
  | [] => none
  | s :: r => if s = key then some 0 else (firstAt key r).map (· + 1)
theorem firstAt_lt {key : ByteArray} : ∀ {names : List ByteArray} {i : Nat}, firstAt key names = some i → i < names.length ∧ names[i]? = some key
  | s :: r, i, h => by
    simp only [firstAt] at h
    split at h
    · rename_i hs
      cases h
      exact ⟨by simp, by simp [hs]⟩
    · rw [Option.map_eq_some_iff] at h
      obtain ⟨j, hj, rfl⟩ := h
      have := firstAt_lt hj
      exact ⟨by simp; omega, by simpa using this.2⟩
def PlacesAt (names : List ByteArray) (i : Nat) (kv : List (ByteArray × Value)) : Prop := ∀ key, kvGet kv key = (firstAt key (names.drop i)).map fun (j : Nat) => Value.int .i64 ((i + j : Nat) : Int)
theorem PlacesAt.step {names : List ByteArray} {i : Nat} {kv : List (ByteArray × Value)} (hi : i < names.length) (h : PlacesAt names (i + 1) kv) : PlacesAt names i (kvSet kv names[i] (.int .i64 (i : Int))) := fun key => by
  rw [kvGet_set, h key, List.drop_eq_getElem_cons hi, firstAt]
  by_cases hs : names[i] = key
  · simp [hs]
  · simp only [if_neg hs, Option.map_map, Function.comp_def]
    congr 1
    funext j
    congr 1
    omega
theorem PlacesAt.none_ (names : List ByteArray) : PlacesAt names names.length [] := fun key => by simp [kvGet, kvFind, firstAt]
theorem noS_e : noS emp = true := by simp [noS]
def varT (n : Int) : Tm := .mk 1 n emp [] []
def conT (name : ByteArray) : Tm := .mk 3 0 name [] []
def absL (names : List ByteArray) : Tm → Int → LeafR
  | .mk k n s ls args, deep => if k = 3 then (match firstAt s names with
    | some i => .put (varT ((names.length : Int) - 1 - i))
    | none => .num n) else .num (if k = 1 ∧ 0 ≤ n - deep then n + names.length else n)
theorem abs_put {names : List ByteArray} {n : Int} {s : ByteArray} {ls : List Lv} {args : List Tm} {deep : Int} {i : Nat} (h : firstAt s names = some i) : (Tm.mk 3 n s ls args).fill (absL names) deep = some (varT ((names.length : Int) - 1 - i + deep)) := by
  have hl := (firstAt_lt h).1
  have h0 : 0 ≤ (names.length : Int) - 1 - i := by omega
  simp [Tm.fill, absL, h, varT, Tm.lift, liftA, h0]
  try omega
theorem abs_con0 {names : List ByteArray} {n : Int} {s : ByteArray} {ls : List Lv} {args : List Tm} {deep : Int} (h : firstAt s names = none) : (Tm.mk 3 n s ls args).fill (absL names) deep = (fillA (absL names) deep 3 args.length 0 args).map fun as_ => .mk 3 n s ls as_ := by
  simp [Tm.fill, absL, h]
theorem abs_var {names : List ByteArray} {n : Int} {s : ByteArray} {ls : List Lv} {args : List Tm} {deep : Int} : (Tm.mk 1 n s ls args).fill (absL names) deep = (fillA (absL names) deep 1 args.length 0 args).map fun as_ => .mk 1 (if deep ≤ n then n + names.length else n) s ls as_ := by
  have e : (0 ≤ n - deep) = (deep ≤ n) := propext ⟨fun _ => by omega, fun _ => by omega⟩
  simp [Tm.fill, absL, e]
theorem abs_node {names : List ByteArray} {k n : Int} {s : ByteArray} {ls : List Lv} {args : List Tm} {deep : Int} (h1 : k ≠ 1) (h3 : k ≠ 3) : (Tm.mk k n s ls args).fill (absL names) deep = (fillA (absL names) deep k args.length 0 args).map fun as_ => .mk k n s ls as_ := by
  simp [Tm.fill, absL, h1, h3]
end
section
set_option maxRecDepth 20000
attribute [local go_sem] pv_len pv_take Nat.add_assoc tm_len tm_take pv_one tm_one id_ne id_ne' id_ne2 List.append_assoc
def cap2 (r : Option Tm) : Option Tm := r.bind fun y => if y.nodes ≤ 2000 then some y else none
set_option maxHeartbeats 16000000 in
theorem filled_m (np : Int) (N : Need) (f : FuncId) (caps : List PV) (L : Tm → Int → LeafR)
    (hL : ∀ (t : Tm) (deep k : Int), 0 ≤ deep ∧ deep ≤ 2 ^ 50 → k ≤ 2 ^ 60 → t.formed np k = true → ∃ r, LeafIs (L t deep) r ∧ Tells N f (.ptr t.pv :: .sc (.int .i64 deep) :: caps) r)
    (hP : ∀ (t : Tm) (deep k : Int) (u : Tm), 0 ≤ deep ∧ deep ≤ 2 ^ 50 → t.formed np k = true → L t deep = .put u → FillC noNeed u 0 (.fn F.bind_raised_1 [.ptr [.sc (.int .i64 0)], .ptr [.sc (.int .i64 deep)]]) (some (u.lift deep 0)))
    (t : Tm) (k : Int) (hm : t.nodes ≤ 2 ^ 40) (hk : k ≤ 2 ^ 50) (hf : t.formed np k = true) (H : Nat → Option PObj) (nx : Nat) (kp : Nat → Bool) (hpre : N.pre H) (hkc : ∀ j, N.kc j = true → kp j = true)
    (hkp : ∀ j, kp j = true → j < nx ∧ ∀ o, H j = some o → FixL nx o.cells) :
    PMut Try.prog F.bind_filled [.ptr t.pv, .fn f caps] H nx (fun H' nx' r => nx ≤ nx' ∧ (∀ j, kp j = true → H' j = H j) ∧ r = optT (cap2 (t.fill L 0))) := by
  refine mut_by is_bind_filled (by simp) fun hb => ?_
  clear hb
  have hs := size_nodes t
  have hkp2 := Kept.mk hkp
  clear hkp
  repeat' (first | ((with_reducible first | refine wA (by omega) ?_ | refine wB (by omega) ?_ | refine wC (by omega) ?_ | refine wD (by omega) ?_ | refine wE ?_ ?_ | refine wF ?_ ?_ | refine wG ?_ ?_ | refine wH ?_ ?_ | refine wI ?_ ?_ | refine wJ ?_ ?_ | refine wK ?_ ?_ | refine wL ?_ ?_) <;> intro _) | simp (maxSteps := 1000000) (disch := omega) only [go_sem, Nat.reduceAdd, Nat.reduceMul, Nat.reduceSub, Nat.reduceLeDiff, Nat.reduceEqDiff, Nat.reduceBEq, ↓reduceIte, reduceCtorEq, Int.reduceEq, Int.reduceLE, Int.reduceLT, Int.reduceAdd, Int.reduceSub, Int.reduceNeg, Int.reduceToNat, Int.reduceNe, Nat.reducePow, Nat.reduceShiftRight, Nat.reduceMod, mc_bind_filled, *])
  have hlow : ∀ j, j < nx → (upd (upd (upd (upd H nx (some ⟨[.sc (.int .i64 0), .sc (.int .i64 0), .sc (.string ⟨#[]⟩), .sc (.slice none 0 0), .sc (.slice none 0 0)], true⟩)) (nx + 2) (some ⟨[.sc (.int .i64 0), .sc (.int .i64 0), .sc (.string ⟨#[]⟩), .sc (.slice none 0 0), .sc (.slice none 0 0)], true⟩)) (nx + 4) (some ⟨[.sc (.int .i64 0)], true⟩)) (nx + 4) (some ⟨[.sc (.int .i64 2000)], true⟩)) j = H j := fun j hj => by simp [upd, show j ≠ nx by omega, show j ≠ nx + 2 by omega, show j ≠ nx + 4 by omega]
  refine call_mut (fill_p np N f caps L hL hP t.size t k 0 (Nat.le_refl _) hm (by omega) hf (Int.le_refl _) (by omega) _ _ (nx + 2) 0 (nx + 4) 2000 [] [] (fun j => kp j || decide (j = nx)) true (N.hold H _ (fun j hj => hlow j (hkp2.out j (hkc j hj)).1) hpre) (fun j hj => by simp [hkc j hj]) (by simp [upd, zero5]) (by simp [upd]) (Nat.add_lt_add_left (by decide) _) (Nat.add_lt_add_left (by decide) _) (by omega) rfl rfl rfl (by omega) (by omega) ?kp) ?_
  case kp =>
    intro j hj
    simp only [Bool.or_eq_true, decide_eq_true_eq] at hj
    rcases hj with hj | rfl
    · have h1 := hkp2.out j hj
      exact ⟨by omega, by omega, Nat.lt_of_lt_of_le h1.1 (Nat.le_add_right _ _), fun o ho => (h1.2 o ((hlow j h1.1).symm.trans ho)).mono (Nat.le_add_right _ _)⟩
    · refine ⟨by omega, by omega, by show _ < _; exact Nat.lt_add_of_pos_right (by decide), fun o ho => ?_⟩
      have e : (upd (upd (upd (upd H j (some ⟨[.sc (.int .i64 0), .sc (.int .i64 0), .sc (.string ⟨#[]⟩), .sc (.slice none 0 0), .sc (.slice none 0 0)], true⟩)) (j + 2) (some ⟨[.sc (.int .i64 0), .sc (.int .i64 0), .sc (.string ⟨#[]⟩), .sc (.slice none 0 0), .sc (.slice none 0 0)], true⟩)) (j + 4) (some ⟨[.sc (.int .i64 0)], true⟩)) (j + 4) (some ⟨[.sc (.int .i64 2000)], true⟩)) j = some ⟨[.sc (.int .i64 0), .sc (.int .i64 0), .sc (.string ⟨#[]⟩), .sc (.slice none 0 0), .sc (.slice none 0 0)], true⟩ := by simp [upd]
      have := e.symm.trans ho
      cases this
      exact .imm rfl
  rintro H' nx' r ⟨hn, hk1, x, hx, hcase⟩ -
  have hk2 : Kept (∀ j, kp j = true → H' j = H j) := Kept.mk fun j hj => (hk1 j (by simp [hj])).trans (hlow j (hkp2.out j hj).1)
  have h4 : H' nx = some ⟨[.sc (.int .i64 0), .sc (.int .i64 0), .sc (.string ⟨#[]⟩), .sc (.slice none 0 0), .sc (.slice none 0 0)], true⟩ := (hk1 nx (by simp)).trans (by simp [upd])
  have hn2 : nx + 10 ≤ nx' := hn
  clear hlow hk1 hn hL hP
  rcases hcase with ⟨hbad, rfl⟩ | ⟨y, hy, hyl, rfl, rfl, hrow⟩
  · have e : cap2 (t.fill L 0) = none := by
      unfold cap2
      cases hc : t.fill L 0 with
      | none => rfl
      | some y => have := hbad y hc; exact if_neg (by omega)
    rw [e]
    simp only [optT, zeroT]
    clear hbad e
    repeat' (first | ((with_reducible first | refine wA (by omega) ?_ | refine wB (by omega) ?_ | refine wC (by omega) ?_ | refine wD (by omega) ?_ | refine wE ?_ ?_ | refine wF ?_ ?_ | refine wG ?_ ?_ | refine wH ?_ ?_ | refine wI ?_ ?_ | refine wJ ?_ ?_ | refine wK ?_ ?_ | refine wL ?_ ?_) <;> intro _) | simp (maxSteps := 1000000) (disch := omega) only [go_sem, Nat.reduceAdd, Nat.reduceMul, Nat.reduceSub, Nat.reduceLeDiff, Nat.reduceEqDiff, Nat.reduceBEq, ↓reduceIte, reduceCtorEq, Int.reduceEq, Int.reduceLE, Int.reduceLT, Int.reduceAdd, Int.reduceSub, Int.reduceNeg, Int.reduceToNat, Int.reduceNe, Nat.reducePow, Nat.reduceShiftRight, Nat.reduceMod, *])
    refine fin_mut (.tup [.agg [.sc (.int .i64 0), .sc (.int .i64 0), .sc (.string ⟨#[]⟩), .sc (.slice none 0 0), .sc (.slice none 0 0)], .sc (.bool false)]) (.inr rfl) cE2 ⟨Nat.le_trans (by omega : nx ≤ nx') (Nat.le_add_right _ _), fun j hj => ?_, rfl⟩
    have := (hkp2.out j hj).1
    simp [upd, show j ≠ nx by omega, hk2.out j hj]
  · have e : cap2 (t.fill L 0) = some y := by rw [hy]; exact if_pos (by omega)
    rw [e]
    simp only [List.nil_append, List.append_nil] at hrow
    simp only [optT]
    clear e hy
    repeat' (first | ((with_reducible first | refine wA (by omega) ?_ | refine wB (by omega) ?_ | refine wC (by omega) ?_ | refine wD (by omega) ?_ | refine wE ?_ ?_ | refine wF ?_ ?_ | refine wG ?_ ?_ | refine wH ?_ ?_ | refine wI ?_ ?_ | refine wJ ?_ ?_ | refine wK ?_ ?_ | refine wL ?_ ?_) <;> intro _) | simp (maxSteps := 1000000) (disch := omega) only [go_sem, Nat.reduceAdd, Nat.reduceMul, Nat.reduceSub, Nat.reduceLeDiff, Nat.reduceEqDiff, Nat.reduceBEq, ↓reduceIte, reduceCtorEq, Int.reduceEq, Int.reduceLE, Int.reduceLT, Int.reduceAdd, Int.reduceSub, Int.reduceNeg, Int.reduceToNat, Int.reduceNe, Nat.reducePow, Nat.reduceShiftRight, Nat.reduceMod, *])
    refine fin_mut (.tup [.agg y.pv, .sc (.bool true)]) (.inr (by simp [PV.imm, immL, tm_imm])) cE2 ⟨Nat.le_trans (by omega : nx ≤ nx') (Nat.le_add_right _ _), fun j hj => ?_, rfl⟩
    have := (hkp2.out j hj).1
    simp [upd, show j ≠ nx by omega, hk2.out j hj]
end
section
set_option maxRecDepth 20000
attribute [local go_sem] pv_len pv_take Nat.add_assoc tm_len tm_take pv_one tm_one id_ne id_ne' id_ne2 List.append_assoc
theorem right_far {t : Tm} (h : t.right 4 1125899906842624 = true) : t.formed 4 1125899906842624 = true ∧ t.nodes ≤ 2000 := by
  have := right_formed h
  exact ⟨by simpa using this.1, this.2.2.2.2⟩
theorem filled_p (f : FuncId) (caps : List PV) (L : Tm → Int → LeafR)
    (hL : ∀ (t : Tm) (deep k : Int), 0 ≤ deep ∧ deep ≤ 2 ^ 50 → k ≤ 2 ^ 60 → t.formed 4 k = true → ∃ r, LeafIs (L t deep) r ∧ PPure Try.prog f (.ptr t.pv :: .sc (.int .i64 deep) :: caps) r)
    (hP : ∀ (t : Tm) (deep k : Int) (u : Tm), 0 ≤ deep ∧ deep ≤ 2 ^ 50 → t.formed 4 k = true → L t deep = .put u → FillC noNeed u 0 (.fn F.bind_raised_1 [.ptr [.sc (.int .i64 0)], .ptr [.sc (.int .i64 deep)]]) (some (u.lift deep 0)))
    (t : Tm) (hr : t.right 4 1125899906842624 = true) : PPure Try.prog F.bind_filled [.ptr t.pv, .fn f caps] (optT (cap2 (t.fill L 0))) := by
  obtain ⟨hf, hn⟩ := right_far hr
  refine PMut.pure (optT_imm _) (fun nx => filled_m 4 noNeed f caps L (fun t deep k h1 h2 h3 => ?_) hP t 1125899906842624 (by omega) (by omega) hf noneOwn nx (fun _ => false) trivial (fun j hj => by cases hj) (fun j hj => by cases hj)) fun nx H' nx' r0 h => ?_
  · obtain ⟨r, g1, g2⟩ := hL t deep k h1 h2 h3
    exact ⟨r, g1, g2.tells noNeed⟩
  · obtain ⟨_, _, rfl⟩ := h
    exact ⟨0, .of_eq rfl⟩
theorem raised_fill (by_ frm : Int) (hb : 0 ≤ by_ ∧ by_ ≤ 2 ^ 50) (u : Tm) (k : Int) (hk : k ≤ 2 ^ 50) (hm : u.nodes ≤ 2 ^ 40) (hf : u.formed 4 k = true) :
    FillC noNeed u 0 (.fn F.bind_raised_1 [.ptr [.sc (.int .i64 frm)], .ptr [.sc (.int .i64 by_)]]) (some (u.lift by_ frm)) := by
  have h := fill_p 4 noNeed F.bind_raised_1 [.ptr [.sc (.int .i64 frm)], .ptr [.sc (.int .i64 by_)]] (raisedL by_ frm) (fun t deep k h1 h2 h3 => by
    obtain ⟨r, g1, g2⟩ := raised1_p by_ frm hb t deep 4 k h1 h2 h3
    exact ⟨r, g1, g2.tells noNeed⟩) (fun t deep k u _ _ e => by cases t; simp [raisedL] at e) u.size u k 0 (Nat.le_refl _) hm (by have := size_nodes u; omega) hf (Int.le_refl _) (by have := size_nodes u; omega)
  rw [fill_raised, show frm + (0 : Int) = frm by omega] at h
  exact h
theorem raised_put {u : Tm} {deep k : Int} (hd : 0 ≤ deep ∧ deep ≤ 2 ^ 50) (hk : k ≤ 2 ^ 50) (hm : u.nodes ≤ 2 ^ 40) (hf : u.formed 4 k = true) : FillC noNeed u 0 (.fn F.bind_raised_1 [.ptr [.sc (.int .i64 0)], .ptr [.sc (.int .i64 deep)]]) (some (u.lift deep 0)) := raised_fill deep 0 hd u k hk hm hf
def liftR (t : Tm) (by_ frm : Int) : Option Tm := if 0 ≤ by_ ∧ by_ ≤ 1048576 ∧ 0 ≤ frm ∧ frm ≤ 1048576 ∧ t.right 4 1125899906842624 = true then some (t.lift by_ frm) else none
set_option maxHeartbeats 16000000 in
theorem bind_Lift_p (t : Tm) (by_ frm : Int) : PPure Try.prog F.bind_Lift [.agg t.pv, .sc (.int .i64 by_), .sc (.int .i64 frm)] (optT (liftR t by_ frm)) := by
  refine pure_by is_bind_Lift (by simp) (optT_imm _) fun hb nx => ?_
  clear hb
  have c1 := bind_right_p t
  have c2 := raised_p by_ frm
  cases hr : t.right 4 1125899906842624 with
  | false =>
    have e : liftR t by_ frm = none := if_neg fun h => by rw [hr] at h; exact absurd h.2.2.2.2 (by decide)
    rw [e]
    rw [hr] at c1
    simp only [optT, zeroT]
    clear e hr
    repeat' (first | ((with_reducible first | refine wA (by omega) ?_ | refine wB (by omega) ?_ | refine wC (by omega) ?_ | refine wD (by omega) ?_ | refine wE ?_ ?_ | refine wF ?_ ?_ | refine wG ?_ ?_ | refine wH ?_ ?_ | refine wI ?_ ?_ | refine wJ ?_ ?_ | refine wK ?_ ?_ | refine wL ?_ ?_) <;> intro _) | (((with_reducible refine call_id ?_); (first | (refine call_pure (c1) ?_)))) | simp (maxSteps := 1000000) (disch := omega) only [go_sem, Nat.reduceAdd, Nat.reduceMul, Nat.reduceSub, Nat.reduceLeDiff, Nat.reduceEqDiff, Nat.reduceBEq, ↓reduceIte, reduceCtorEq, Int.reduceEq, Int.reduceLE, Int.reduceLT, Int.reduceAdd, Int.reduceSub, Int.reduceNeg, Int.reduceToNat, Int.reduceNe, Nat.reducePow, Nat.reduceShiftRight, Nat.reduceMod, mc_bind_Lift, *])
    all_goals
      refine fin_ret (r0 := .tup [.agg [.sc (.int .i64 0), .sc (.int .i64 0), .sc (.string ⟨#[]⟩), .sc (.slice none 0 0), .sc (.slice none 0 0)], .sc (.bool false)]) 2 cE2 ?_
      exact .of_eq (by simp [frz, frz_sc])
  | true =>
    by_cases h : 0 ≤ by_ ∧ by_ ≤ 1048576 ∧ 0 ≤ frm ∧ frm ≤ 1048576
    · have e : liftR t by_ frm = some (t.lift by_ frm) := if_pos ⟨h.1, h.2.1, h.2.2.1, h.2.2.2, hr⟩
      have c3 := filled_p F.bind_raised_1 [.ptr [.sc (.int .i64 frm)], .ptr [.sc (.int .i64 by_)]] (raisedL by_ frm) (fun t deep k h1 h2 h3 => raised1_p by_ frm ⟨by omega, by omega⟩ t deep 4 k h1 h2 h3) (fun t deep k u _ _ e => by cases t; simp [raisedL] at e) t hr
      have e2 : cap2 (t.fill (raisedL by_ frm) 0) = some (t.lift by_ frm) := by
        rw [fill_raised, show frm + (0 : Int) = frm by omega]
        exact if_pos (by rw [lift_nodes]; exact (right_far hr).2)
      rw [e]
      rw [e2] at c3
      rw [hr] at c1
      simp only [optT] at c3 ⊢
      clear e e2 hr
      repeat' (first | ((with_reducible first | refine wA (by omega) ?_ | refine wB (by omega) ?_ | refine wC (by omega) ?_ | refine wD (by omega) ?_ | refine wE ?_ ?_ | refine wF ?_ ?_ | refine wG ?_ ?_ | refine wH ?_ ?_ | refine wI ?_ ?_ | refine wJ ?_ ?_ | refine wK ?_ ?_ | refine wL ?_ ?_) <;> intro _) | (((with_reducible refine call_id ?_); (first | (refine call_pure (c1) ?_) | (refine call_pure (c2) ?_) | (refine call_pure (c3) ?_)))) | simp (maxSteps := 1000000) (disch := omega) only [go_sem, Nat.reduceAdd, Nat.reduceMul, Nat.reduceSub, Nat.reduceLeDiff, Nat.reduceEqDiff, Nat.reduceBEq, ↓reduceIte, reduceCtorEq, Int.reduceEq, Int.reduceLE, Int.reduceLT, Int.reduceAdd, Int.reduceSub, Int.reduceNeg, Int.reduceToNat, Int.reduceNe, Nat.reducePow, Nat.reduceShiftRight, Nat.reduceMod, mc_bind_Lift, *])
      all_goals
        refine fin_ret (r0 := .tup [.agg (t.lift by_ frm).pv, .sc (.bool true)]) 1 cE2 ?_
        exact .of_eq (by simp [frz])
    · have e : liftR t by_ frm = none := if_neg fun h2 => h ⟨h2.1, h2.2.1, h2.2.2.1, h2.2.2.2.1⟩
      rw [e]
      rw [hr] at c1
      simp only [optT, zeroT]
      clear e hr
      have h9 : by_ < 0 ∨ (0 ≤ by_ ∧ 1048576 < by_) ∨ (0 ≤ by_ ∧ by_ ≤ 1048576 ∧ frm < 0) ∨ (0 ≤ by_ ∧ by_ ≤ 1048576 ∧ 0 ≤ frm ∧ 1048576 < frm) := by omega
      clear h
      rcases h9 with h | ⟨h, h2⟩ | ⟨h, h2, h3⟩ | ⟨h, h2, h3, h4⟩
      all_goals
        repeat' (first | ((with_reducible first | refine wA (by omega) ?_ | refine wB (by omega) ?_ | refine wC (by omega) ?_ | refine wD (by omega) ?_ | refine wE ?_ ?_ | refine wF ?_ ?_ | refine wG ?_ ?_ | refine wH ?_ ?_ | refine wI ?_ ?_ | refine wJ ?_ ?_ | refine wK ?_ ?_ | refine wL ?_ ?_) <;> intro _) | (((with_reducible refine call_id ?_); (first | (refine call_pure (c1) ?_)))) | simp (maxSteps := 1000000) (disch := omega) only [go_sem, Nat.reduceAdd, Nat.reduceMul, Nat.reduceSub, Nat.reduceLeDiff, Nat.reduceEqDiff, Nat.reduceBEq, ↓reduceIte, reduceCtorEq, Int.reduceEq, Int.reduceLE, Int.reduceLT, Int.reduceAdd, Int.reduceSub, Int.reduceNeg, Int.reduceToNat, Int.reduceNe, Nat.reducePow, Nat.reduceShiftRight, Nat.reduceMod, mc_bind_Lift, *])
        refine fin_ret (r0 := .tup [.agg [.sc (.int .i64 0), .sc (.int .i64 0), .sc (.string ⟨#[]⟩), .sc (.slice none 0 0), .sc (.slice none 0 0)], .sc (.bool false)]) 2 cE2 ?_
        exact .of_eq (by simp [frz, frz_sc])
end
section
set_option maxRecDepth 20000
attribute [local go_sem] pv_len pv_take Nat.add_assoc tm_len tm_take pv_one tm_one id_ne id_ne' id_ne2 List.append_assoc
def lowR (t : Tm) (by_ : Int) : Option Tm := if 0 ≤ by_ ∧ by_ ≤ 1048576 ∧ t.right 4 1125899906842624 = true then cap2 (t.fill (lowerL by_) 0) else none
set_option maxHeartbeats 16000000 in
theorem bind_Lower_p (t : Tm) (by_ : Int) : PPure Try.prog F.bind_Lower [.agg t.pv, .sc (.int .i64 by_)] (optT (lowR t by_)) := by
  refine pure_by is_bind_Lower (by simp) (optT_imm _) fun hb nx => ?_
  clear hb
  have c1 := bind_right_p t
  cases hr : t.right 4 1125899906842624 with
  | false =>
    have e : lowR t by_ = none := if_neg fun h => by rw [hr] at h; exact absurd h.2.2 (by decide)
    rw [e]
    rw [hr] at c1
    simp only [optT, zeroT]
    clear e hr
    repeat' (first | ((with_reducible first | refine wA (by omega) ?_ | refine wB (by omega) ?_ | refine wC (by omega) ?_ | refine wD (by omega) ?_ | refine wE ?_ ?_ | refine wF ?_ ?_ | refine wG ?_ ?_ | refine wH ?_ ?_ | refine wI ?_ ?_ | refine wJ ?_ ?_ | refine wK ?_ ?_ | refine wL ?_ ?_) <;> intro _) | (((with_reducible refine call_id ?_); (first | (refine call_pure (c1) ?_)))) | simp (maxSteps := 1000000) (disch := omega) only [go_sem, Nat.reduceAdd, Nat.reduceMul, Nat.reduceSub, Nat.reduceLeDiff, Nat.reduceEqDiff, Nat.reduceBEq, ↓reduceIte, reduceCtorEq, Int.reduceEq, Int.reduceLE, Int.reduceLT, Int.reduceAdd, Int.reduceSub, Int.reduceNeg, Int.reduceToNat, Int.reduceNe, Nat.reducePow, Nat.reduceShiftRight, Nat.reduceMod, mc_bind_Lower, *])
    all_goals
      refine fin_ret (r0 := .tup [.agg [.sc (.int .i64 0), .sc (.int .i64 0), .sc (.string ⟨#[]⟩), .sc (.slice none 0 0), .sc (.slice none 0 0)], .sc (.bool false)]) 2 cE2 ?_
      exact .of_eq (by simp [frz, frz_sc])
  | true =>
    by_cases h : 0 ≤ by_ ∧ by_ ≤ 1048576
    · have e : lowR t by_ = cap2 (t.fill (lowerL by_) 0) := if_pos ⟨h.1, h.2, hr⟩
      have c3 := filled_p F.bind_Lower_1 [.ptr [.sc (.int .i64 by_)]] (lowerL by_) (fun t deep k h1 h2 h3 => lower1_p by_ ⟨by omega, by omega⟩ t deep 4 k h1 h2 h3) (fun t deep k u _ _ e => by
        cases t
        simp only [lowerL] at e
        split at e
        · split at e <;> cases e
        · cases e) t hr
      rw [e]
      rw [hr] at c1
      clear e hr
      cases hc : cap2 (t.fill (lowerL by_) 0) with
      | none =>
        rw [hc] at c3
        simp only [optT, zeroT] at c3 ⊢
        clear hc
        repeat' (first | ((with_reducible first | refine wA (by omega) ?_ | refine wB (by omega) ?_ | refine wC (by omega) ?_ | refine wD (by omega) ?_ | refine wE ?_ ?_ | refine wF ?_ ?_ | refine wG ?_ ?_ | refine wH ?_ ?_ | refine wI ?_ ?_ | refine wJ ?_ ?_ | refine wK ?_ ?_ | refine wL ?_ ?_) <;> intro _) | (((with_reducible refine call_id ?_); (first | (refine call_pure (c1) ?_) | (refine call_pure (c3) ?_)))) | simp (maxSteps := 1000000) (disch := omega) only [go_sem, Nat.reduceAdd, Nat.reduceMul, Nat.reduceSub, Nat.reduceLeDiff, Nat.reduceEqDiff, Nat.reduceBEq, ↓reduceIte, reduceCtorEq, Int.reduceEq, Int.reduceLE, Int.reduceLT, Int.reduceAdd, Int.reduceSub, Int.reduceNeg, Int.reduceToNat, Int.reduceNe, Nat.reducePow, Nat.reduceShiftRight, Nat.reduceMod, mc_bind_Lower, *])
        all_goals
          refine fin_ret (r0 := .tup [.agg [.sc (.int .i64 0), .sc (.int .i64 0), .sc (.string ⟨#[]⟩), .sc (.slice none 0 0), .sc (.slice none 0 0)], .sc (.bool false)]) 2 cE2 ?_
          exact .of_eq (by simp [frz, frz_sc])
      | some y =>
        rw [hc] at c3
        simp only [optT] at c3 ⊢
        clear hc
        repeat' (first | ((with_reducible first | refine wA (by omega) ?_ | refine wB (by omega) ?_ | refine wC (by omega) ?_ | refine wD (by omega) ?_ | refine wE ?_ ?_ | refine wF ?_ ?_ | refine wG ?_ ?_ | refine wH ?_ ?_ | refine wI ?_ ?_ | refine wJ ?_ ?_ | refine wK ?_ ?_ | refine wL ?_ ?_) <;> intro _) | (((with_reducible refine call_id ?_); (first | (refine call_pure (c1) ?_) | (refine call_pure (c3) ?_)))) | simp (maxSteps := 1000000) (disch := omega) only [go_sem, Nat.reduceAdd, Nat.reduceMul, Nat.reduceSub, Nat.reduceLeDiff, Nat.reduceEqDiff, Nat.reduceBEq, ↓reduceIte, reduceCtorEq, Int.reduceEq, Int.reduceLE, Int.reduceLT, Int.reduceAdd, Int.reduceSub, Int.reduceNeg, Int.reduceToNat, Int.reduceNe, Nat.reducePow, Nat.reduceShiftRight, Nat.reduceMod, mc_bind_Lower, *])
        all_goals
          refine fin_ret (r0 := .tup [.agg y.pv, .sc (.bool true)]) 1 cE2 ?_
          exact .of_eq (by simp [frz])
    · have e : lowR t by_ = none := if_neg fun h2 => h ⟨h2.1, h2.2.1⟩
      rw [e]
      rw [hr] at c1
      simp only [optT, zeroT]
      clear e hr
      have h9 : by_ < 0 ∨ (0 ≤ by_ ∧ 1048576 < by_) := by omega
      clear h
      rcases h9 with h | ⟨h, h2⟩
      all_goals
        repeat' (first | ((with_reducible first | refine wA (by omega) ?_ | refine wB (by omega) ?_ | refine wC (by omega) ?_ | refine wD (by omega) ?_ | refine wE ?_ ?_ | refine wF ?_ ?_ | refine wG ?_ ?_ | refine wH ?_ ?_ | refine wI ?_ ?_ | refine wJ ?_ ?_ | refine wK ?_ ?_ | refine wL ?_ ?_) <;> intro _) | (((with_reducible refine call_id ?_); (first | (refine call_pure (c1) ?_)))) | simp (maxSteps := 1000000) (disch := omega) only [go_sem, Nat.reduceAdd, Nat.reduceMul, Nat.reduceSub, Nat.reduceLeDiff, Nat.reduceEqDiff, Nat.reduceBEq, ↓reduceIte, reduceCtorEq, Int.reduceEq, Int.reduceLE, Int.reduceLT, Int.reduceAdd, Int.reduceSub, Int.reduceNeg, Int.reduceToNat, Int.reduceNe, Nat.reducePow, Nat.reduceShiftRight, Nat.reduceMod, mc_bind_Lower, *])
        refine fin_ret (r0 := .tup [.agg [.sc (.int .i64 0), .sc (.int .i64 0), .sc (.string ⟨#[]⟩), .sc (.slice none 0 0), .sc (.slice none 0 0)], .sc (.bool false)]) 2 cE2 ?_
        exact .of_eq (by simp [frz, frz_sc])
theorem bytes_eq {a b : ByteArray} : (a.toList == b.toList) = decide (a = b) := by
  rw [Bool.eq_iff_iff, beq_iff_eq, decide_eq_true_eq]
  exact ⟨fun h => by
    have ha : a.data.toList = b.data.toList := by simpa [ByteArray.toList_eq] using h
    cases a
    cases b
    congr
    exact Array.toList_inj.1 ha, fun h => by rw [h]⟩
theorem replL_swap (name : ByteArray) (u : Tm) : replL name u = swapL name u := by
  funext t deep
  cases t
  simp only [replL, swapL, sameB, bytes_eq, decide_eq_true_eq]
def replR (t : Tm) (name : ByteArray) (u : Tm) : Option Tm := if t.right 4 1125899906842624 = true ∧ u.right 4 1125899906842624 = true then cap2 (t.fill (swapL name u) 0) else none
set_option maxHeartbeats 16000000 in
theorem bind_Replace_p (t : Tm) (name : ByteArray) (u : Tm) : PPure Try.prog F.bind_Replace [.agg t.pv, .sc (.string name), .agg u.pv] (optT (replR t name u)) := by
  refine pure_by is_bind_Replace (by simp) (optT_imm _) fun hb nx => ?_
  clear hb
  have c1 := bind_right_p t
  have c2 := bind_right_p u
  cases hr : t.right 4 1125899906842624 with
  | false =>
    have e : replR t name u = none := if_neg fun h => by rw [hr] at h; exact absurd h.1 (by decide)
    rw [e]
    rw [hr] at c1
    simp only [optT, zeroT]
    clear e hr
    repeat' (first | ((with_reducible first | refine wA (by omega) ?_ | refine wB (by omega) ?_ | refine wC (by omega) ?_ | refine wD (by omega) ?_ | refine wE ?_ ?_ | refine wF ?_ ?_ | refine wG ?_ ?_ | refine wH ?_ ?_ | refine wI ?_ ?_ | refine wJ ?_ ?_ | refine wK ?_ ?_ | refine wL ?_ ?_) <;> intro _) | (((with_reducible refine call_id ?_); (first | (refine call_pure (c1) ?_)))) | simp (maxSteps := 1000000) (disch := omega) only [go_sem, Nat.reduceAdd, Nat.reduceMul, Nat.reduceSub, Nat.reduceLeDiff, Nat.reduceEqDiff, Nat.reduceBEq, ↓reduceIte, reduceCtorEq, Int.reduceEq, Int.reduceLE, Int.reduceLT, Int.reduceAdd, Int.reduceSub, Int.reduceNeg, Int.reduceToNat, Int.reduceNe, Nat.reducePow, Nat.reduceShiftRight, Nat.reduceMod, mc_bind_Replace, *])
    all_goals
      refine fin_ret (r0 := .tup [.agg [.sc (.int .i64 0), .sc (.int .i64 0), .sc (.string ⟨#[]⟩), .sc (.slice none 0 0), .sc (.slice none 0 0)], .sc (.bool false)]) 2 cE2 ?_
      exact .of_eq (by simp [frz, frz_sc])
  | true =>
    rw [hr] at c1
    cases hru : u.right 4 1125899906842624 with
    | false =>
      have e : replR t name u = none := if_neg fun h => by rw [hru] at h; exact absurd h.2 (by decide)
      rw [e]
      rw [hru] at c2
      simp only [optT, zeroT]
      clear e hr hru
      repeat' (first | ((with_reducible first | refine wA (by omega) ?_ | refine wB (by omega) ?_ | refine wC (by omega) ?_ | refine wD (by omega) ?_ | refine wE ?_ ?_ | refine wF ?_ ?_ | refine wG ?_ ?_ | refine wH ?_ ?_ | refine wI ?_ ?_ | refine wJ ?_ ?_ | refine wK ?_ ?_ | refine wL ?_ ?_) <;> intro _) | (((with_reducible refine call_id ?_); (first | (refine call_pure (c1) ?_) | (refine call_pure (c2) ?_)))) | simp (maxSteps := 1000000) (disch := omega) only [go_sem, Nat.reduceAdd, Nat.reduceMul, Nat.reduceSub, Nat.reduceLeDiff, Nat.reduceEqDiff, Nat.reduceBEq, ↓reduceIte, reduceCtorEq, Int.reduceEq, Int.reduceLE, Int.reduceLT, Int.reduceAdd, Int.reduceSub, Int.reduceNeg, Int.reduceToNat, Int.reduceNe, Nat.reducePow, Nat.reduceShiftRight, Nat.reduceMod, mc_bind_Replace, *])
      all_goals
        refine fin_ret (r0 := .tup [.agg [.sc (.int .i64 0), .sc (.int .i64 0), .sc (.string ⟨#[]⟩), .sc (.slice none 0 0), .sc (.slice none 0 0)], .sc (.bool false)]) 2 cE2 ?_
        exact .of_eq (by simp [frz, frz_sc])
    | true =>
      have e : replR t name u = cap2 (t.fill (swapL name u) 0) := if_pos ⟨hr, hru⟩
      have c3 := filled_p F.bind_Replace_1 [.ptr [.sc (.string name)], .ptr u.pv] (replL name u) (fun t deep k h1 h2 h3 => repl1_p name u t deep) (fun t deep k v h1 _ e => by
        cases t
        simp only [replL] at e
        split at e
        · cases e
          exact raised_put h1 (by omega) (by have := (right_far hru).2; omega) (right_far hru).1
        · cases e) t hr
      rw [replL_swap] at c3
      rw [e]
      rw [hru] at c2
      clear e hr hru
      cases hc : cap2 (t.fill (swapL name u) 0) with
      | none =>
        rw [hc] at c3
        simp only [optT, zeroT] at c3 ⊢
        clear hc
        repeat' (first | ((with_reducible first | refine wA (by omega) ?_ | refine wB (by omega) ?_ | refine wC (by omega) ?_ | refine wD (by omega) ?_ | refine wE ?_ ?_ | refine wF ?_ ?_ | refine wG ?_ ?_ | refine wH ?_ ?_ | refine wI ?_ ?_ | refine wJ ?_ ?_ | refine wK ?_ ?_ | refine wL ?_ ?_) <;> intro _) | (((with_reducible refine call_id ?_); (first | (refine call_pure (c1) ?_) | (refine call_pure (c2) ?_) | (refine call_pure (c3) ?_)))) | simp (maxSteps := 1000000) (disch := omega) only [go_sem, Nat.reduceAdd, Nat.reduceMul, Nat.reduceSub, Nat.reduceLeDiff, Nat.reduceEqDiff, Nat.reduceBEq, ↓reduceIte, reduceCtorEq, Int.reduceEq, Int.reduceLE, Int.reduceLT, Int.reduceAdd, Int.reduceSub, Int.reduceNeg, Int.reduceToNat, Int.reduceNe, Nat.reducePow, Nat.reduceShiftRight, Nat.reduceMod, mc_bind_Replace, *])
        all_goals
          refine fin_ret (r0 := .tup [.agg [.sc (.int .i64 0), .sc (.int .i64 0), .sc (.string ⟨#[]⟩), .sc (.slice none 0 0), .sc (.slice none 0 0)], .sc (.bool false)]) 2 cE2 ?_
          exact .of_eq (by simp [frz, frz_sc])
      | some y =>
        rw [hc] at c3
        simp only [optT] at c3 ⊢
        clear hc
        repeat' (first | ((with_reducible first | refine wA (by omega) ?_ | refine wB (by omega) ?_ | refine wC (by omega) ?_ | refine wD (by omega) ?_ | refine wE ?_ ?_ | refine wF ?_ ?_ | refine wG ?_ ?_ | refine wH ?_ ?_ | refine wI ?_ ?_ | refine wJ ?_ ?_ | refine wK ?_ ?_ | refine wL ?_ ?_) <;> intro _) | (((with_reducible refine call_id ?_); (first | (refine call_pure (c1) ?_) | (refine call_pure (c2) ?_) | (refine call_pure (c3) ?_)))) | simp (maxSteps := 1000000) (disch := omega) only [go_sem, Nat.reduceAdd, Nat.reduceMul, Nat.reduceSub, Nat.reduceLeDiff, Nat.reduceEqDiff, Nat.reduceBEq, ↓reduceIte, reduceCtorEq, Int.reduceEq, Int.reduceLE, Int.reduceLT, Int.reduceAdd, Int.reduceSub, Int.reduceNeg, Int.reduceToNat, Int.reduceNe, Nat.reducePow, Nat.reduceShiftRight, Nat.reduceMod, mc_bind_Replace, *])
        all_goals
          refine fin_ret (r0 := .tup [.agg y.pv, .sc (.bool true)]) 1 cE2 ?_
          exact .of_eq (by simp [frz])
theorem Count_1_p (v : Int) (t : Tm) (deep k : Int) (hd : 0 ≤ deep) (hd2 : deep ≤ 2 ^ 50) (hk : k ≤ 2 ^ 60) (hf : t.formed 4 k = true) : PPure Try.prog F.bind_Count_1 [.ptr t.pv, .sc (.int .i64 deep), .ptr [.sc (.int .i64 v)]] (.sc (.bool (varL v t deep))) := by
  cases t with
  | mk kind n s ls args =>
  have hn := Kept.mk (var_num hf)
  clear hf
  refine pure_by is_bind_Count_1 (by simp) rfl fun hb nx => ?_
  clear hb
  simp only [Tm.pv, varL]
  by_cases h1 : kind = 1
  · have hn2 := hn.out h1
    by_cases h2 : n - deep = v
    · repeat' (first | ((with_reducible first | refine wA (by omega) ?_ | refine wB (by omega) ?_ | refine wC (by omega) ?_ | refine wD (by omega) ?_ | refine wE ?_ ?_ | refine wF ?_ ?_ | refine wG ?_ ?_ | refine wH ?_ ?_ | refine wI ?_ ?_ | refine wJ ?_ ?_ | refine wK ?_ ?_ | refine wL ?_ ?_) <;> intro _) | simp (maxSteps := 1000000) (disch := omega) only [go_sem, Nat.reduceAdd, Nat.reduceMul, Nat.reduceSub, Nat.reduceLeDiff, Nat.reduceEqDiff, Nat.reduceBEq, ↓reduceIte, reduceCtorEq, Int.reduceEq, Int.reduceLE, Int.reduceLT, Int.reduceAdd, Int.reduceSub, Int.reduceNeg, Int.reduceToNat, Int.reduceNe, Nat.reducePow, Nat.reduceShiftRight, Nat.reduceMod, mc_bind_Count_1, *])
      all_goals (exact fin_tmp (.inr rfl) cE3)
    · repeat' (first | ((with_reducible first | refine wA (by omega) ?_ | refine wB (by omega) ?_ | refine wC (by omega) ?_ | refine wD (by omega) ?_ | refine wE ?_ ?_ | refine wF ?_ ?_ | refine wG ?_ ?_ | refine wH ?_ ?_ | refine wI ?_ ?_ | refine wJ ?_ ?_ | refine wK ?_ ?_ | refine wL ?_ ?_) <;> intro _) | simp (maxSteps := 1000000) (disch := omega) only [go_sem, Nat.reduceAdd, Nat.reduceMul, Nat.reduceSub, Nat.reduceLeDiff, Nat.reduceEqDiff, Nat.reduceBEq, ↓reduceIte, reduceCtorEq, Int.reduceEq, Int.reduceLE, Int.reduceLT, Int.reduceAdd, Int.reduceSub, Int.reduceNeg, Int.reduceToNat, Int.reduceNe, Nat.reducePow, Nat.reduceShiftRight, Nat.reduceMod, mc_bind_Count_1, *])
      all_goals (exact fin_tmp (.inr rfl) cE3)
  · repeat' (first | ((with_reducible first | refine wA (by omega) ?_ | refine wB (by omega) ?_ | refine wC (by omega) ?_ | refine wD (by omega) ?_ | refine wE ?_ ?_ | refine wF ?_ ?_ | refine wG ?_ ?_ | refine wH ?_ ?_ | refine wI ?_ ?_ | refine wJ ?_ ?_ | refine wK ?_ ?_ | refine wL ?_ ?_) <;> intro _) | simp (maxSteps := 1000000) (disch := omega) only [go_sem, Nat.reduceAdd, Nat.reduceMul, Nat.reduceSub, Nat.reduceLeDiff, Nat.reduceEqDiff, Nat.reduceBEq, ↓reduceIte, reduceCtorEq, Int.reduceEq, Int.reduceLE, Int.reduceLT, Int.reduceAdd, Int.reduceSub, Int.reduceNeg, Int.reduceToNat, Int.reduceNe, Nat.reducePow, Nat.reduceShiftRight, Nat.reduceMod, mc_bind_Count_1, *])
    all_goals (exact fin_tmp (.inr rfl) cE3)
def countR (t : Tm) (v : Int) : Nat := if 0 ≤ v ∧ t.right 4 1125899906842624 = true then t.cnt (varL v) 0 else 0
theorem bind_Count_p (t : Tm) (v : Int) : PPure Try.prog F.bind_Count [.agg t.pv, .sc (.int .i64 v)] (.sc (.int .i64 (countR t v))) := by
  refine pure_by is_bind_Count (by simp) rfl fun hb nx => ?_
  clear hb
  have c1 := bind_right_p t
  cases hr : t.right 4 1125899906842624 with
  | false =>
    have e : countR t v = 0 := if_neg fun h => by rw [hr] at h; exact absurd h.2 (by decide)
    rw [hr] at c1
    rw [e]
    clear e hr
    repeat' (first | ((with_reducible first | refine wA (by omega) ?_ | refine wB (by omega) ?_ | refine wC (by omega) ?_ | refine wD (by omega) ?_ | refine wE ?_ ?_ | refine wF ?_ ?_ | refine wG ?_ ?_ | refine wH ?_ ?_ | refine wI ?_ ?_ | refine wJ ?_ ?_ | refine wK ?_ ?_ | refine wL ?_ ?_) <;> intro _) | (((with_reducible refine call_id ?_); (first | (refine call_pure (c1) ?_)))) | simp (maxSteps := 1000000) (disch := omega) only [go_sem, Nat.reduceAdd, Nat.reduceMul, Nat.reduceSub, Nat.reduceLeDiff, Nat.reduceEqDiff, Nat.reduceBEq, ↓reduceIte, reduceCtorEq, Int.reduceEq, Int.reduceLE, Int.reduceLT, Int.reduceAdd, Int.reduceSub, Int.reduceNeg, Int.reduceToNat, Int.reduceNe, Nat.reducePow, Nat.reduceShiftRight, Nat.reduceMod, mc_bind_Count, *])
    all_goals (exact fin_tmp (.inr rfl) cE3)
  | true =>
    by_cases h : 0 ≤ v
    · have e : countR t v = t.cnt (varL v) 0 := if_pos ⟨h, hr⟩
      have hrf := right_far hr
      have hs := size_nodes t
      have c3 := count_p 4 F.bind_Count_1 [.ptr [.sc (.int .i64 v)]] (by simp [immL, PV.imm]) (varL v) (fun t deep k h1 h2 h3 h4 => Count_1_p v t deep k h1 h2 h3 h4) t.size t 1125899906842624 0 (Nat.le_refl _) (by omega) (by omega) hrf.1 (by omega) (by omega)
      rw [hr] at c1
      rw [e]
      clear e hr hrf
      repeat' (first | ((with_reducible first | refine wA (by omega) ?_ | refine wB (by omega) ?_ | refine wC (by omega) ?_ | refine wD (by omega) ?_ | refine wE ?_ ?_ | refine wF ?_ ?_ | refine wG ?_ ?_ | refine wH ?_ ?_ | refine wI ?_ ?_ | refine wJ ?_ ?_ | refine wK ?_ ?_ | refine wL ?_ ?_) <;> intro _) | (((with_reducible refine call_id ?_); (first | (refine call_pure (c1) ?_) | (refine call_pure (c3) ?_)))) | simp (maxSteps := 1000000) (disch := omega) only [go_sem, Nat.reduceAdd, Nat.reduceMul, Nat.reduceSub, Nat.reduceLeDiff, Nat.reduceEqDiff, Nat.reduceBEq, ↓reduceIte, reduceCtorEq, Int.reduceEq, Int.reduceLE, Int.reduceLT, Int.reduceAdd, Int.reduceSub, Int.reduceNeg, Int.reduceToNat, Int.reduceNe, Nat.reducePow, Nat.reduceShiftRight, Nat.reduceMod, mc_bind_Count, *])
      all_goals (exact fin_tmp (.inr rfl) cE3)
    · have e : countR t v = 0 := if_neg fun h2 => h h2.1
      rw [hr] at c1
      rw [e]
      clear e hr
      repeat' (first | ((with_reducible first | refine wA (by omega) ?_ | refine wB (by omega) ?_ | refine wC (by omega) ?_ | refine wD (by omega) ?_ | refine wE ?_ ?_ | refine wF ?_ ?_ | refine wG ?_ ?_ | refine wH ?_ ?_ | refine wI ?_ ?_ | refine wJ ?_ ?_ | refine wK ?_ ?_ | refine wL ?_ ?_) <;> intro _) | (((with_reducible refine call_id ?_); (first | (refine call_pure (c1) ?_)))) | simp (maxSteps := 1000000) (disch := omega) only [go_sem, Nat.reduceAdd, Nat.reduceMul, Nat.reduceSub, Nat.reduceLeDiff, Nat.reduceEqDiff, Nat.reduceBEq, ↓reduceIte, reduceCtorEq, Int.reduceEq, Int.reduceLE, Int.reduceLT, Int.reduceAdd, Int.reduceSub, Int.reduceNeg, Int.reduceToNat, Int.reduceNe, Nat.reducePow, Nat.reduceShiftRight, Nat.reduceMod, mc_bind_Count, *])
      all_goals (exact fin_tmp (.inr rfl) cE3)
theorem bind_Uses_p (t : Tm) (v : Int) : PPure Try.prog F.bind_Uses [.agg t.pv, .sc (.int .i64 v)] (.sc (.bool (decide (0 < countR t v)))) := by
  refine pure_by is_bind_Uses (by simp) rfl fun hb nx => ?_
  clear hb
  have c1 := bind_Count_p t v
  by_cases h : 0 < countR t v
  · repeat' (first | ((with_reducible first | refine wA (by omega) ?_ | refine wB (by omega) ?_ | refine wC (by omega) ?_ | refine wD (by omega) ?_ | refine wE ?_ ?_ | refine wF ?_ ?_ | refine wG ?_ ?_ | refine wH ?_ ?_ | refine wI ?_ ?_ | refine wJ ?_ ?_ | refine wK ?_ ?_ | refine wL ?_ ?_) <;> intro _) | (((with_reducible refine call_id ?_); (first | (refine call_pure (c1) ?_)))) | simp (maxSteps := 1000000) (disch := omega) only [go_sem, Nat.reduceAdd, Nat.reduceMul, Nat.reduceSub, Nat.reduceLeDiff, Nat.reduceEqDiff, Nat.reduceBEq, ↓reduceIte, reduceCtorEq, Int.reduceEq, Int.reduceLE, Int.reduceLT, Int.reduceAdd, Int.reduceSub, Int.reduceNeg, Int.reduceToNat, Int.reduceNe, Nat.reducePow, Nat.reduceShiftRight, Nat.reduceMod, mc_bind_Uses, *])
    all_goals (exact fin_tmp (.inr rfl) cE3)
  · repeat' (first | ((with_reducible first | refine wA (by omega) ?_ | refine wB (by omega) ?_ | refine wC (by omega) ?_ | refine wD (by omega) ?_ | refine wE ?_ ?_ | refine wF ?_ ?_ | refine wG ?_ ?_ | refine wH ?_ ?_ | refine wI ?_ ?_ | refine wJ ?_ ?_ | refine wK ?_ ?_ | refine wL ?_ ?_) <;> intro _) | (((with_reducible refine call_id ?_); (first | (refine call_pure (c1) ?_)))) | simp (maxSteps := 1000000) (disch := omega) only [go_sem, Nat.reduceAdd, Nat.reduceMul, Nat.reduceSub, Nat.reduceLeDiff, Nat.reduceEqDiff, Nat.reduceBEq, ↓reduceIte, reduceCtorEq, Int.reduceEq, Int.reduceLE, Int.reduceLT, Int.reduceAdd, Int.reduceSub, Int.reduceNeg, Int.reduceToNat, Int.reduceNe, Nat.reducePow, Nat.reduceShiftRight, Nat.reduceMod, mc_bind_Uses, *])
    all_goals (exact fin_tmp (.inr rfl) cE3)
theorem Occurs_1_p (name : ByteArray) (t : Tm) (deep : Int) : PPure Try.prog F.bind_Occurs_1 [.ptr t.pv, .sc (.int .i64 deep), .ptr [.sc (.string name)]] (.sc (.bool (conL name t deep))) := by
  cases t with
  | mk kind n s ls args =>
  refine pure_by is_bind_Occurs_1 (by simp) rfl fun hb nx => ?_
  clear hb
  simp only [Tm.pv, conL]
  by_cases h1 : kind = 3
  · repeat' (first | ((with_reducible first | refine wA (by omega) ?_ | refine wB (by omega) ?_ | refine wC (by omega) ?_ | refine wD (by omega) ?_ | refine wE ?_ ?_ | refine wF ?_ ?_ | refine wG ?_ ?_ | refine wH ?_ ?_ | refine wI ?_ ?_ | refine wJ ?_ ?_ | refine wK ?_ ?_ | refine wL ?_ ?_) <;> intro _) | simp (maxSteps := 1000000) (disch := omega) only [go_sem, Nat.reduceAdd, Nat.reduceMul, Nat.reduceSub, Nat.reduceLeDiff, Nat.reduceEqDiff, Nat.reduceBEq, ↓reduceIte, reduceCtorEq, Int.reduceEq, Int.reduceLE, Int.reduceLT, Int.reduceAdd, Int.reduceSub, Int.reduceNeg, Int.reduceToNat, Int.reduceNe, Nat.reducePow, Nat.reduceShiftRight, Nat.reduceMod, mc_bind_Occurs_1, strBin, bytes_eq, *])
    all_goals (exact fin_tmp (.inr rfl) cE3)
  · repeat' (first | ((with_reducible first | refine wA (by omega) ?_ | refine wB (by omega) ?_ | refine wC (by omega) ?_ | refine wD (by omega) ?_ | refine wE ?_ ?_ | refine wF ?_ ?_ | refine wG ?_ ?_ | refine wH ?_ ?_ | refine wI ?_ ?_ | refine wJ ?_ ?_ | refine wK ?_ ?_ | refine wL ?_ ?_) <;> intro _) | simp (maxSteps := 1000000) (disch := omega) only [go_sem, Nat.reduceAdd, Nat.reduceMul, Nat.reduceSub, Nat.reduceLeDiff, Nat.reduceEqDiff, Nat.reduceBEq, ↓reduceIte, reduceCtorEq, Int.reduceEq, Int.reduceLE, Int.reduceLT, Int.reduceAdd, Int.reduceSub, Int.reduceNeg, Int.reduceToNat, Int.reduceNe, Nat.reducePow, Nat.reduceShiftRight, Nat.reduceMod, mc_bind_Occurs_1, strBin, bytes_eq, *])
    all_goals (exact fin_tmp (.inr rfl) cE3)
def occR (t : Tm) (name : ByteArray) : Bool := t.right 4 1125899906842624 && decide (0 < t.cnt (conL name) 0)
theorem bind_Occurs_p (t : Tm) (name : ByteArray) : PPure Try.prog F.bind_Occurs [.agg t.pv, .sc (.string name)] (.sc (.bool (occR t name))) := by
  refine pure_by is_bind_Occurs (by simp) rfl fun hb nx => ?_
  clear hb
  have c1 := bind_right_p t
  unfold occR
  cases hr : t.right 4 1125899906842624 with
  | false =>
    rw [hr] at c1
    rw [Bool.false_and]
    clear hr
    repeat' (first | ((with_reducible first | refine wA (by omega) ?_ | refine wB (by omega) ?_ | refine wC (by omega) ?_ | refine wD (by omega) ?_ | refine wE ?_ ?_ | refine wF ?_ ?_ | refine wG ?_ ?_ | refine wH ?_ ?_ | refine wI ?_ ?_ | refine wJ ?_ ?_ | refine wK ?_ ?_ | refine wL ?_ ?_) <;> intro _) | (((with_reducible refine call_id ?_); (first | (refine call_pure (c1) ?_)))) | simp (maxSteps := 1000000) (disch := omega) only [go_sem, Nat.reduceAdd, Nat.reduceMul, Nat.reduceSub, Nat.reduceLeDiff, Nat.reduceEqDiff, Nat.reduceBEq, ↓reduceIte, reduceCtorEq, Int.reduceEq, Int.reduceLE, Int.reduceLT, Int.reduceAdd, Int.reduceSub, Int.reduceNeg, Int.reduceToNat, Int.reduceNe, Nat.reducePow, Nat.reduceShiftRight, Nat.reduceMod, mc_bind_Occurs, *])
    all_goals (exact fin_tmp (.inr rfl) cE3)
  | true =>
    have hrf := right_far hr
    have hs := size_nodes t
    have c3 := count_p 4 F.bind_Occurs_1 [.ptr [.sc (.string name)]] (by simp [immL, PV.imm]) (conL name) (fun t deep k h1 h2 h3 h4 => Occurs_1_p name t deep) t.size t 1125899906842624 0 (Nat.le_refl _) (by omega) (by omega) hrf.1 (by omega) (by omega)
    rw [hr] at c1
    rw [Bool.true_and]
    clear hr hrf
    by_cases h : 0 < t.cnt (conL name) 0
    · repeat' (first | ((with_reducible first | refine wA (by omega) ?_ | refine wB (by omega) ?_ | refine wC (by omega) ?_ | refine wD (by omega) ?_ | refine wE ?_ ?_ | refine wF ?_ ?_ | refine wG ?_ ?_ | refine wH ?_ ?_ | refine wI ?_ ?_ | refine wJ ?_ ?_ | refine wK ?_ ?_ | refine wL ?_ ?_) <;> intro _) | (((with_reducible refine call_id ?_); (first | (refine call_pure (c1) ?_) | (refine call_pure (c3) ?_)))) | simp (maxSteps := 1000000) (disch := omega) only [go_sem, Nat.reduceAdd, Nat.reduceMul, Nat.reduceSub, Nat.reduceLeDiff, Nat.reduceEqDiff, Nat.reduceBEq, ↓reduceIte, reduceCtorEq, Int.reduceEq, Int.reduceLE, Int.reduceLT, Int.reduceAdd, Int.reduceSub, Int.reduceNeg, Int.reduceToNat, Int.reduceNe, Nat.reducePow, Nat.reduceShiftRight, Nat.reduceMod, mc_bind_Occurs, *])
      all_goals (exact fin_tmp (.inr rfl) cE3)
    · repeat' (first | ((with_reducible first | refine wA (by omega) ?_ | refine wB (by omega) ?_ | refine wC (by omega) ?_ | refine wD (by omega) ?_ | refine wE ?_ ?_ | refine wF ?_ ?_ | refine wG ?_ ?_ | refine wH ?_ ?_ | refine wI ?_ ?_ | refine wJ ?_ ?_ | refine wK ?_ ?_ | refine wL ?_ ?_) <;> intro _) | (((with_reducible refine call_id ?_); (first | (refine call_pure (c1) ?_) | (refine call_pure (c3) ?_)))) | simp (maxSteps := 1000000) (disch := omega) only [go_sem, Nat.reduceAdd, Nat.reduceMul, Nat.reduceSub, Nat.reduceLeDiff, Nat.reduceEqDiff, Nat.reduceBEq, ↓reduceIte, reduceCtorEq, Int.reduceEq, Int.reduceLE, Int.reduceLT, Int.reduceAdd, Int.reduceSub, Int.reduceNeg, Int.reduceToNat, Int.reduceNe, Nat.reducePow, Nat.reduceShiftRight, Nat.reduceMod, mc_bind_Occurs, *])
      all_goals (exact fin_tmp (.inr rfl) cE3)
end
section
set_option maxRecDepth 20000
attribute [local go_sem] pv_len pv_take Nat.add_assoc tm_len tm_take pv_one tm_one id_ne id_ne' id_ne2 List.append_assoc
theorem inner6_p (kind deep : Int) (i : Nat) (hd : 0 ≤ deep ∧ deep ≤ 2 ^ 60) : PPure Try.prog F.ref06_inner [.sc (.int .i64 kind), .sc (.int .i64 i), .sc (.int .i64 deep)] (.sc (.int .i64 (deep + if ((kind = 5 ∨ kind = 6) ∧ (i : Int) = 1) ∨ (kind = 7 ∧ (i : Int) = 2) then 1 else 0))) := by
  refine pure_by is_ref06_inner (by simp) rfl fun hb nx => ?_
  clear hb
  repeat' (first | ((with_reducible first | refine wA (by omega) ?_ | refine wB (by omega) ?_ | refine wC (by omega) ?_ | refine wD (by omega) ?_ | refine wE ?_ ?_ | refine wF ?_ ?_ | refine wG ?_ ?_ | refine wH ?_ ?_ | refine wI ?_ ?_ | refine wJ ?_ ?_ | refine wK ?_ ?_ | refine wL ?_ ?_) <;> intro _) | simp (maxSteps := 1000000) (disch := omega) only [go_sem, Nat.reduceAdd, Nat.reduceMul, Nat.reduceSub, Nat.reduceLeDiff, Nat.reduceEqDiff, Nat.reduceBEq, ↓reduceIte, reduceCtorEq, Int.reduceEq, Int.reduceLE, Int.reduceLT, Int.reduceAdd, Int.reduceSub, Int.reduceNeg, Int.reduceToNat, Int.reduceNe, Nat.reducePow, Nat.reduceShiftRight, Nat.reduceMod, mc_ref06_inner, *])
  all_goals (refine fin_tmp (.inr rfl) ?_; simp [upd, *] <;> omega)
theorem inner_deep {np k kind n : Int} {s : ByteArray} {ls : List Lv} {args : List Tm} (h : (Tm.mk kind n s ls args).formed np k = true) : ∀ i : Nat, i < args.length → deepB kind args.length i = if ((kind = 5 ∨ kind = 6) ∧ (i : Int) = 1) ∨ (kind = 7 ∧ (i : Int) = 2) then 1 else 0 := by
  have hc := formed_cases np k kind n s ls args h
  intro i hi
  unfold deepB
  rcases hc with h | h | h | h
  · rw [h.2.2.2] at hi; simp at hi
  · rw [h.2] at hi; simp at hi
  · split <;> split <;> omega
  · split <;> split <;> omega
theorem small6_p (n : Int) : PPure Try.prog F.ref06_small [.sc (.int .i64 n)] (.sc (.bool (decide (0 ≤ n ∧ n ≤ 1048576)))) := by
  refine pure_by is_ref06_small (by simp) rfl fun hb nx => ?_
  clear hb
  by_cases h : 0 ≤ n ∧ n ≤ 1048576
  · repeat' (first | ((with_reducible first | refine wA (by omega) ?_ | refine wB (by omega) ?_ | refine wC (by omega) ?_ | refine wD (by omega) ?_ | refine wE ?_ ?_ | refine wF ?_ ?_ | refine wG ?_ ?_ | refine wH ?_ ?_ | refine wI ?_ ?_ | refine wJ ?_ ?_ | refine wK ?_ ?_ | refine wL ?_ ?_) <;> intro _) | simp (maxSteps := 1000000) (disch := omega) only [go_sem, Nat.reduceAdd, Nat.reduceMul, Nat.reduceSub, Nat.reduceLeDiff, Nat.reduceEqDiff, Nat.reduceBEq, ↓reduceIte, reduceCtorEq, Int.reduceEq, Int.reduceLE, Int.reduceLT, Int.reduceAdd, Int.reduceSub, Int.reduceNeg, Int.reduceToNat, Int.reduceNe, Nat.reducePow, Nat.reduceShiftRight, Nat.reduceMod, mc_ref06_small, *])
    all_goals (refine fin_tmp (.inr rfl) ?_; simp [upd, *] <;> omega)
  · have h9 : n < 0 ∨ (0 ≤ n ∧ 1048576 < n) := by omega
    rw [decide_eq_false h]
    clear h
    rcases h9 with h | ⟨h, h2⟩
    all_goals
      repeat' (first | ((with_reducible first | refine wA (by omega) ?_ | refine wB (by omega) ?_ | refine wC (by omega) ?_ | refine wD (by omega) ?_ | refine wE ?_ ?_ | refine wF ?_ ?_ | refine wG ?_ ?_ | refine wH ?_ ?_ | refine wI ?_ ?_ | refine wJ ?_ ?_ | refine wK ?_ ?_ | refine wL ?_ ?_) <;> intro _) | simp (maxSteps := 1000000) (disch := omega) only [go_sem, Nat.reduceAdd, Nat.reduceMul, Nat.reduceSub, Nat.reduceLeDiff, Nat.reduceEqDiff, Nat.reduceBEq, ↓reduceIte, reduceCtorEq, Int.reduceEq, Int.reduceLE, Int.reduceLT, Int.reduceAdd, Int.reduceSub, Int.reduceNeg, Int.reduceToNat, Int.reduceNe, Nat.reducePow, Nat.reduceShiftRight, Nat.reduceMod, mc_ref06_small, *])
      all_goals (refine fin_tmp (.inr rfl) ?_; simp [upd, *] <;> omega)
theorem fits6_p (t : Tm) : PPure Try.prog F.ref06_fits [.agg t.pv] (optT (if t.nodes ≤ 2000 then some t else none)) := by
  refine pure_by is_ref06_fits (by simp) (optT_imm _) fun hb nx => ?_
  clear hb
  have c1 := ref_Nodes_p 2000 (by omega) t.size t (Nat.le_refl _)
  by_cases h : t.nodes ≤ 2000
  · rw [if_pos h]
    rw [show min t.nodes (2000 + 1) = t.nodes by omega] at c1
    simp only [optT]
    repeat' (first | ((with_reducible first | refine wA (by omega) ?_ | refine wB (by omega) ?_ | refine wC (by omega) ?_ | refine wD (by omega) ?_ | refine wE ?_ ?_ | refine wF ?_ ?_ | refine wG ?_ ?_ | refine wH ?_ ?_ | refine wI ?_ ?_ | refine wJ ?_ ?_ | refine wK ?_ ?_ | refine wL ?_ ?_) <;> intro _) | (((with_reducible refine call_id ?_); (first | (refine call_pure (c1) ?_)))) | simp (maxSteps := 1000000) (disch := omega) only [go_sem, Nat.reduceAdd, Nat.reduceMul, Nat.reduceSub, Nat.reduceLeDiff, Nat.reduceEqDiff, Nat.reduceBEq, ↓reduceIte, reduceCtorEq, Int.reduceEq, Int.reduceLE, Int.reduceLT, Int.reduceAdd, Int.reduceSub, Int.reduceNeg, Int.reduceToNat, Int.reduceNe, Nat.reducePow, Nat.reduceShiftRight, Nat.reduceMod, mc_ref06_fits, *])
    all_goals
      refine fin_ret (r0 := .tup [.agg t.pv, .sc (.bool true)]) 1 cE2 ?_
      exact .of_eq (by simp [frz])
  · rw [if_neg h]
    rw [show min t.nodes (2000 + 1) = 2001 by omega] at c1
    simp only [optT, zeroT]
    repeat' (first | ((with_reducible first | refine wA (by omega) ?_ | refine wB (by omega) ?_ | refine wC (by omega) ?_ | refine wD (by omega) ?_ | refine wE ?_ ?_ | refine wF ?_ ?_ | refine wG ?_ ?_ | refine wH ?_ ?_ | refine wI ?_ ?_ | refine wJ ?_ ?_ | refine wK ?_ ?_ | refine wL ?_ ?_) <;> intro _) | (((with_reducible refine call_id ?_); (first | (refine call_pure (c1) ?_)))) | simp (maxSteps := 1000000) (disch := omega) only [go_sem, Nat.reduceAdd, Nat.reduceMul, Nat.reduceSub, Nat.reduceLeDiff, Nat.reduceEqDiff, Nat.reduceBEq, ↓reduceIte, reduceCtorEq, Int.reduceEq, Int.reduceLE, Int.reduceLT, Int.reduceAdd, Int.reduceSub, Int.reduceNeg, Int.reduceToNat, Int.reduceNe, Nat.reducePow, Nat.reduceShiftRight, Nat.reduceMod, mc_ref06_fits, *])
    all_goals
      refine fin_ret (r0 := .tup [.agg [.sc (.int .i64 0), .sc (.int .i64 0), .sc (.string ⟨#[]⟩), .sc (.slice none 0 0), .sc (.slice none 0 0)], .sc (.bool false)]) 2 cE2 ?_
      exact .of_eq (by simp [frz, frz_sc])
set_option maxHeartbeats 8000000 in
theorem ref06_Lift_p (t : Tm) (by_ frm : Int) : PPure Try.prog F.ref06_Lift [.agg t.pv, .sc (.int .i64 by_), .sc (.int .i64 frm)] (optT (liftR t by_ frm)) := by
  refine pure_by is_ref06_Lift (by simp) (optT_imm _) fun hb nx => ?_
  clear hb
  have c1 := ref04_Any_p t 4
  have c2 := small6_p by_
  have c3 := small6_p frm
  by_cases h : 0 ≤ by_ ∧ by_ ≤ 1048576 ∧ 0 ≤ frm ∧ frm ≤ 1048576 ∧ t.right 4 1125899906842624 = true
  · have e : liftR t by_ frm = some (t.lift by_ frm) := if_pos h
    obtain ⟨h1, h2, h3, h4, hr⟩ := h
    have hrf := right_far hr
    have hs := size_nodes t
    have c4 := Lift_p 4 by_ ⟨by omega, by omega⟩ t.size t 1125899906842624 frm (Nat.le_refl _) (by omega) (by omega) (by omega) hrf.1 (by omega) (by omega)
    have c5 := fits6_p (t.lift by_ frm)
    rw [if_pos (by rw [lift_nodes]; exact hrf.2)] at c5
    rw [hr] at c1
    rw [decide_eq_true ⟨h1, h2⟩] at c2
    rw [decide_eq_true ⟨h3, h4⟩] at c3
    rw [e]
    simp only [optT] at c5 ⊢
    clear e hr hrf hs
    repeat' (first | ((with_reducible first | refine wA (by omega) ?_ | refine wB (by omega) ?_ | refine wC (by omega) ?_ | refine wD (by omega) ?_ | refine wE ?_ ?_ | refine wF ?_ ?_ | refine wG ?_ ?_ | refine wH ?_ ?_ | refine wI ?_ ?_ | refine wJ ?_ ?_ | refine wK ?_ ?_ | refine wL ?_ ?_) <;> intro _) | (((with_reducible refine call_id ?_); (first | (refine call_pure (c1) ?_) | (refine call_pure (c2) ?_) | (refine call_pure (c3) ?_) | (refine call_pure (c4) ?_) | (refine call_pure (c5) ?_)))) | simp (maxSteps := 1000000) (disch := omega) only [go_sem, Nat.reduceAdd, Nat.reduceMul, Nat.reduceSub, Nat.reduceLeDiff, Nat.reduceEqDiff, Nat.reduceBEq, ↓reduceIte, reduceCtorEq, Int.reduceEq, Int.reduceLE, Int.reduceLT, Int.reduceAdd, Int.reduceSub, Int.reduceNeg, Int.reduceToNat, Int.reduceNe, Nat.reducePow, Nat.reduceShiftRight, Nat.reduceMod, mc_ref06_Lift, *])
    all_goals
      refine fin_ret (r0 := .tup [.agg (t.lift by_ frm).pv, .sc (.bool true)]) 1 cE2 ?_
      exact .of_eq (by simp [frz])
  · have e : liftR t by_ frm = none := if_neg h
    rw [e]
    simp only [optT, zeroT]
    clear e
    cases hr : t.right 4 1125899906842624 with
    | false =>
      rw [hr] at c1
      clear hr h
      repeat' (first | ((with_reducible first | refine wA (by omega) ?_ | refine wB (by omega) ?_ | refine wC (by omega) ?_ | refine wD (by omega) ?_ | refine wE ?_ ?_ | refine wF ?_ ?_ | refine wG ?_ ?_ | refine wH ?_ ?_ | refine wI ?_ ?_ | refine wJ ?_ ?_ | refine wK ?_ ?_ | refine wL ?_ ?_) <;> intro _) | (((with_reducible refine call_id ?_); (first | (refine call_pure (c1) ?_)))) | simp (maxSteps := 1000000) (disch := omega) only [go_sem, Nat.reduceAdd, Nat.reduceMul, Nat.reduceSub, Nat.reduceLeDiff, Nat.reduceEqDiff, Nat.reduceBEq, ↓reduceIte, reduceCtorEq, Int.reduceEq, Int.reduceLE, Int.reduceLT, Int.reduceAdd, Int.reduceSub, Int.reduceNeg, Int.reduceToNat, Int.reduceNe, Nat.reducePow, Nat.reduceShiftRight, Nat.reduceMod, mc_ref06_Lift, *])
      all_goals
        refine fin_ret (r0 := .tup [.agg [.sc (.int .i64 0), .sc (.int .i64 0), .sc (.string ⟨#[]⟩), .sc (.slice none 0 0), .sc (.slice none 0 0)], .sc (.bool false)]) 2 cE2 ?_
        exact .of_eq (by simp [frz, frz_sc])
    | true =>
      rw [hr] at c1 h
      by_cases h1 : 0 ≤ by_ ∧ by_ ≤ 1048576
      · have h2 : ¬ (0 ≤ frm ∧ frm ≤ 1048576) := fun h2 => h ⟨h1.1, h1.2, h2.1, h2.2, rfl⟩
        rw [decide_eq_true h1] at c2
        rw [decide_eq_false h2] at c3
        clear hr h h1 h2
        repeat' (first | ((with_reducible first | refine wA (by omega) ?_ | refine wB (by omega) ?_ | refine wC (by omega) ?_ | refine wD (by omega) ?_ | refine wE ?_ ?_ | refine wF ?_ ?_ | refine wG ?_ ?_ | refine wH ?_ ?_ | refine wI ?_ ?_ | refine wJ ?_ ?_ | refine wK ?_ ?_ | refine wL ?_ ?_) <;> intro _) | (((with_reducible refine call_id ?_); (first | (refine call_pure (c1) ?_) | (refine call_pure (c2) ?_) | (refine call_pure (c3) ?_)))) | simp (maxSteps := 1000000) (disch := omega) only [go_sem, Nat.reduceAdd, Nat.reduceMul, Nat.reduceSub, Nat.reduceLeDiff, Nat.reduceEqDiff, Nat.reduceBEq, ↓reduceIte, reduceCtorEq, Int.reduceEq, Int.reduceLE, Int.reduceLT, Int.reduceAdd, Int.reduceSub, Int.reduceNeg, Int.reduceToNat, Int.reduceNe, Nat.reducePow, Nat.reduceShiftRight, Nat.reduceMod, mc_ref06_Lift, *])
        all_goals
          refine fin_ret (r0 := .tup [.agg [.sc (.int .i64 0), .sc (.int .i64 0), .sc (.string ⟨#[]⟩), .sc (.slice none 0 0), .sc (.slice none 0 0)], .sc (.bool false)]) 2 cE2 ?_
          exact .of_eq (by simp [frz, frz_sc])
      · rw [decide_eq_false h1] at c2
        clear hr h h1
        repeat' (first | ((with_reducible first | refine wA (by omega) ?_ | refine wB (by omega) ?_ | refine wC (by omega) ?_ | refine wD (by omega) ?_ | refine wE ?_ ?_ | refine wF ?_ ?_ | refine wG ?_ ?_ | refine wH ?_ ?_ | refine wI ?_ ?_ | refine wJ ?_ ?_ | refine wK ?_ ?_ | refine wL ?_ ?_) <;> intro _) | (((with_reducible refine call_id ?_); (first | (refine call_pure (c1) ?_) | (refine call_pure (c2) ?_)))) | simp (maxSteps := 1000000) (disch := omega) only [go_sem, Nat.reduceAdd, Nat.reduceMul, Nat.reduceSub, Nat.reduceLeDiff, Nat.reduceEqDiff, Nat.reduceBEq, ↓reduceIte, reduceCtorEq, Int.reduceEq, Int.reduceLE, Int.reduceLT, Int.reduceAdd, Int.reduceSub, Int.reduceNeg, Int.reduceToNat, Int.reduceNe, Nat.reducePow, Nat.reduceShiftRight, Nat.reduceMod, mc_ref06_Lift, *])
        all_goals
          refine fin_ret (r0 := .tup [.agg [.sc (.int .i64 0), .sc (.int .i64 0), .sc (.string ⟨#[]⟩), .sc (.slice none 0 0), .sc (.slice none 0 0)], .sc (.bool false)]) 2 cE2 ?_
          exact .of_eq (by simp [frz, frz_sc])
theorem sizeL_take_succ : ∀ (xs : List Tm) (i : Nat) (h : i < xs.length), sizeL (xs.take (i + 1)) = sizeL (xs.take i) + xs[i].size
  | x :: r, 0, h => by simp [sizeL]
  | x :: r, i + 1, h => by
    have := sizeL_take_succ r i (by simpa using h)
    simp only [List.take_succ_cons, sizeL, List.getElem_cons_succ, this]
    omega
theorem sizeL_take_le : ∀ (xs : List Tm) (i : Nat), sizeL (xs.take i) ≤ sizeL xs
  | [], i => by simp
  | x :: r, 0 => by simp [sizeL]
  | x :: r, i + 1 => by
    have := sizeL_take_le r i
    simp only [List.take_succ_cons, sizeL]
    omega
set_option maxHeartbeats 8000000 in
theorem count6_p (v : Int) (hv : 0 ≤ v ∧ v ≤ 2 ^ 50) : ∀ (fuel : Nat) (t : Tm) (k deep : Int), t.size ≤ fuel → t.size ≤ 2 ^ 40 → t.formed 4 k = true → 0 ≤ k → k + t.size ≤ 2 ^ 60 → 0 ≤ deep → deep + t.size ≤ 2 ^ 59 →
    PPure Try.prog F.ref06_count [.agg t.pv, .sc (.int .i64 v), .sc (.int .i64 deep)] (.sc (.int .i64 (t.cnt (varL v) deep : Nat))) := by
  intro fuel
  induction fuel with
  | zero => intro t k deep h; have := size_pos t; omega
  | succ fuel ih =>
    intro t k deep hf h40 hfm hk0 hk1 hd0 hd1
    cases t with
    | mk kind n s ls args =>
    simp only [Tm.size] at hf hk1 hd1 h40
    have hA := Kept.mk (formed_args 4 k kind n s ls args hfm)
    have hdp := Kept.mk (inner_deep hfm)
    refine pure_by is_ref06_count (by simp) rfl fun hb nx => ?_
    have hb0 : args.length ≤ 9223372036854775807 := by simp [Tm.pv, bndL, PV.bnd] at hb; exact hb.2.1
    clear hb
    have hih := Kept.mk ih
    clear ih
    by_cases h1 : kind = 1
    · subst h1
      obtain ⟨hn0, hn1, rfl, rfl⟩ := fm_var hfm
      clear hih hA hdp hfm
      by_cases h2 : n = v + deep
      · have e : (Tm.mk 1 n s [] []).cnt (varL v) deep = 1 := by simp [Tm.cnt, cntA, varL]; omega
        rw [e]
        repeat' (first | ((with_reducible first | refine wA (by omega) ?_ | refine wB (by omega) ?_ | refine wC (by omega) ?_ | refine wD (by omega) ?_ | refine wE ?_ ?_ | refine wF ?_ ?_ | refine wG ?_ ?_ | refine wH ?_ ?_ | refine wI ?_ ?_ | refine wJ ?_ ?_ | refine wK ?_ ?_ | refine wL ?_ ?_) <;> intro _) | simp (maxSteps := 1000000) (disch := omega) only [go_sem, Nat.reduceAdd, Nat.reduceMul, Nat.reduceSub, Nat.reduceLeDiff, Nat.reduceEqDiff, Nat.reduceBEq, ↓reduceIte, reduceCtorEq, Int.reduceEq, Int.reduceLE, Int.reduceLT, Int.reduceAdd, Int.reduceSub, Int.reduceNeg, Int.reduceToNat, Int.reduceNe, Nat.reducePow, Nat.reduceShiftRight, Nat.reduceMod, mc_ref06_count, Tm.pv, *])
        refine c_rounds 1 ?_
        repeat' (first | ((with_reducible first | refine wA (by omega) ?_ | refine wB (by omega) ?_ | refine wC (by omega) ?_ | refine wD (by omega) ?_ | refine wE ?_ ?_ | refine wF ?_ ?_ | refine wG ?_ ?_ | refine wH ?_ ?_ | refine wI ?_ ?_ | refine wJ ?_ ?_ | refine wK ?_ ?_ | refine wL ?_ ?_) <;> intro _) | simp (maxSteps := 1000000) (disch := omega) only [go_sem, Nat.reduceAdd, Nat.reduceMul, Nat.reduceSub, Nat.reduceLeDiff, Nat.reduceEqDiff, Nat.reduceBEq, ↓reduceIte, reduceCtorEq, Int.reduceEq, Int.reduceLE, Int.reduceLT, Int.reduceAdd, Int.reduceSub, Int.reduceNeg, Int.reduceToNat, Int.reduceNe, Nat.reducePow, Nat.reduceShiftRight, Nat.reduceMod, rounds_next, *])
        all_goals (exact fin_tmp (.inr rfl) cE3)
      · have e : (Tm.mk 1 n s [] []).cnt (varL v) deep = 0 := by simp [Tm.cnt, cntA, varL]; omega
        rw [e]
        repeat' (first | ((with_reducible first | refine wA (by omega) ?_ | refine wB (by omega) ?_ | refine wC (by omega) ?_ | refine wD (by omega) ?_ | refine wE ?_ ?_ | refine wF ?_ ?_ | refine wG ?_ ?_ | refine wH ?_ ?_ | refine wI ?_ ?_ | refine wJ ?_ ?_ | refine wK ?_ ?_ | refine wL ?_ ?_) <;> intro _) | simp (maxSteps := 1000000) (disch := omega) only [go_sem, Nat.reduceAdd, Nat.reduceMul, Nat.reduceSub, Nat.reduceLeDiff, Nat.reduceEqDiff, Nat.reduceBEq, ↓reduceIte, reduceCtorEq, Int.reduceEq, Int.reduceLE, Int.reduceLT, Int.reduceAdd, Int.reduceSub, Int.reduceNeg, Int.reduceToNat, Int.reduceNe, Nat.reducePow, Nat.reduceShiftRight, Nat.reduceMod, mc_ref06_count, Tm.pv, *])
        refine c_rounds 1 ?_
        repeat' (first | ((with_reducible first | refine wA (by omega) ?_ | refine wB (by omega) ?_ | refine wC (by omega) ?_ | refine wD (by omega) ?_ | refine wE ?_ ?_ | refine wF ?_ ?_ | refine wG ?_ ?_ | refine wH ?_ ?_ | refine wI ?_ ?_ | refine wJ ?_ ?_ | refine wK ?_ ?_ | refine wL ?_ ?_) <;> intro _) | simp (maxSteps := 1000000) (disch := omega) only [go_sem, Nat.reduceAdd, Nat.reduceMul, Nat.reduceSub, Nat.reduceLeDiff, Nat.reduceEqDiff, Nat.reduceBEq, ↓reduceIte, reduceCtorEq, Int.reduceEq, Int.reduceLE, Int.reduceLT, Int.reduceAdd, Int.reduceSub, Int.reduceNeg, Int.reduceToNat, Int.reduceNe, Nat.reducePow, Nat.reduceShiftRight, Nat.reduceMod, rounds_next, *])
        all_goals (exact fin_tmp (.inr rfl) cE3)
    · have htot : Kept ((Tm.mk kind n s ls args).cnt (varL v) deep = cntA (varL v) deep kind args.length 0 args) := Kept.mk (by
        have : varL v (.mk kind n s ls args) deep = false := by simp [varL, h1]
        simp only [Tm.cnt, this, Bool.false_eq_true, if_false, Nat.zero_add])
      clear hfm
      repeat' (first | ((with_reducible first | refine wA (by omega) ?_ | refine wB (by omega) ?_ | refine wC (by omega) ?_ | refine wD (by omega) ?_ | refine wE ?_ ?_ | refine wF ?_ ?_ | refine wG ?_ ?_ | refine wH ?_ ?_ | refine wI ?_ ?_ | refine wJ ?_ ?_ | refine wK ?_ ?_ | refine wL ?_ ?_) <;> intro _) | simp (maxSteps := 1000000) (disch := omega) only [go_sem, Nat.reduceAdd, Nat.reduceMul, Nat.reduceSub, Nat.reduceLeDiff, Nat.reduceEqDiff, Nat.reduceBEq, ↓reduceIte, reduceCtorEq, Int.reduceEq, Int.reduceLE, Int.reduceLT, Int.reduceAdd, Int.reduceSub, Int.reduceNeg, Int.reduceToNat, Int.reduceNe, Nat.reducePow, Nat.reduceShiftRight, Nat.reduceMod, mc_ref06_count, Tm.pv, *])
      refine c_loopW 2199022207360 (by kernel_rfl) (fun j f H m => ∃ (i c : Nat), j = args.length - i ∧ i ≤ args.length ∧ f 8 = .sc (.int .i64 i) ∧ f 7 = .sc (.int .i64 c) ∧ c ≤ sizeL (args.take i) ∧ Kept ((Tm.mk kind n s ls args).cnt (varL v) deep = c + cntA (varL v) deep kind args.length i (args.drop i))) _ ⟨0, 0, rfl, Nat.zero_le _, cE1, cE1, (by simp), Kept.mk (by rw [htot.out, List.drop_zero, Nat.zero_add])⟩ ?_
      clear htot
      rintro _ f H m ⟨i, c, rfl, hi, e8, e7, hc, hs⟩
      by_cases hlt : i < args.length
      · have eg : args[i]? = some args[i] := List.getElem?_eq_getElem hlt
        have hd := deep_bd kind args.length i
        have hfi := formedA_mem 4 k kind args.length args 0 i hlt hA.out
        rw [Nat.zero_add] at hfi
        have hsz := sizeL_mem args i hlt
        have hst := sizeL_take_succ args i hlt
        have hsl := sizeL_take_le args (i + 1)
        have hcl := cnt_le (varL v) args[i] (deep + deepB kind args.length i)
        have hs2 : Kept ((Tm.mk kind n s ls args).cnt (varL v) deep = (c + args[i].cnt (varL v) (deep + deepB kind args.length i)) + cntA (varL v) deep kind args.length (i + 1) (args.drop (i + 1))) := Kept.mk (by rw [hs.out, List.drop_eq_getElem_cons hlt, cntA]; omega)
        have c1 := inner6_p kind deep i ⟨hd0, by omega⟩
        rw [← hdp.out i hlt] at c1
        have c2 := hih.out args[i] (k + deepB kind args.length i) (deep + deepB kind args.length i) (by omega) (by omega) hfi (by omega) (by omega) (by omega) (by omega)
        clear hfi hs
        repeat' (first | ((with_reducible first | refine wA (by omega) ?_ | refine wB (by omega) ?_ | refine wC (by omega) ?_ | refine wD (by omega) ?_ | refine wE ?_ ?_ | refine wF ?_ ?_ | refine wG ?_ ?_ | refine wH ?_ ?_ | refine wI ?_ ?_ | refine wJ ?_ ?_ | refine wK ?_ ?_ | refine wL ?_ ?_) <;> intro _) | (((with_reducible refine call_id ?_); (first | (refine call_pure (c1) ?_) | (refine call_pure (c2) ?_)))) | simp (maxSteps := 1000000) (disch := omega) only [go_sem, Nat.reduceAdd, Nat.reduceMul, Nat.reduceSub, Nat.reduceLeDiff, Nat.reduceEqDiff, Nat.reduceBEq, ↓reduceIte, reduceCtorEq, Int.reduceEq, Int.reduceLE, Int.reduceLT, Int.reduceAdd, Int.reduceSub, Int.reduceNeg, Int.reduceToNat, Int.reduceNe, Nat.reducePow, Nat.reduceShiftRight, Nat.reduceMod, Tm.pv, *])
        exact Nx.mk (args.length - (i + 1)) cE1 ⟨i + 1, c + args[i].cnt (varL v) (deep + deepB kind args.length i), rfl, cE1, by simp [upd], by simp [upd], by omega, hs2⟩
      · obtain rfl : i = args.length := by omega
        have hs2 := hs.out
        rw [List.drop_length, cntA, Nat.add_zero] at hs2
        rw [hs2]
        clear hs hs2
        repeat' (first | ((with_reducible first | refine wA (by omega) ?_ | refine wB (by omega) ?_ | refine wC (by omega) ?_ | refine wD (by omega) ?_ | refine wE ?_ ?_ | refine wF ?_ ?_ | refine wG ?_ ?_ | refine wH ?_ ?_ | refine wI ?_ ?_ | refine wJ ?_ ?_ | refine wK ?_ ?_ | refine wL ?_ ?_) <;> intro _) | simp (maxSteps := 1000000) (disch := omega) only [go_sem, Nat.reduceAdd, Nat.reduceMul, Nat.reduceSub, Nat.reduceLeDiff, Nat.reduceEqDiff, Nat.reduceBEq, ↓reduceIte, reduceCtorEq, Int.reduceEq, Int.reduceLE, Int.reduceLT, Int.reduceAdd, Int.reduceSub, Int.reduceNeg, Int.reduceToNat, Int.reduceNe, Nat.reducePow, Nat.reduceShiftRight, Nat.reduceMod, *])
        all_goals (exact fin_tmp (.inr rfl) cE3)
mutual
theorem cnt_far (v : Int) (np : Int) : ∀ (t : Tm) (k deep : Int), t.formed np k = true → k - deep ≤ v → t.cnt (varL v) deep = 0
  | .mk kd n s ls args, k, deep, hf, h => by
    have hA := cntA_far v np args k deep kd args.length 0 (fmA hf) h
    have h1 : varL v (.mk kd n s ls args) deep = false := by
      simp only [varL, decide_eq_false_iff_not]
      rintro ⟨rfl, h2⟩
      have := (fm_var hf).2.1
      omega
    simp only [Tm.cnt, h1, hA, Bool.false_eq_true, if_false]
theorem cntA_far (v : Int) (np : Int) : ∀ (xs : List Tm) (k deep kind : Int) (len i : Nat), formedA np k kind len i xs = true → k - deep ≤ v → cntA (varL v) deep kind len i xs = 0
  | [], _, _, _, _, _, _, _ => rfl
  | x :: r, k, deep, kind, len, i, hf, h => by
    simp only [formedA, Bool.and_eq_true] at hf
    simp only [cntA, cnt_far v np x _ (deep + deepB kind len i) hf.1 (by omega), cntA_far v np r k deep kind len (i + 1) hf.2 h]
end
theorem ref06_Count_p (t : Tm) (v : Int) : PPure Try.prog F.ref06_Count [.agg t.pv, .sc (.int .i64 v)] (.sc (.int .i64 (countR t v))) := by
  refine pure_by is_ref06_Count (by simp) rfl fun hb nx => ?_
  clear hb
  have c1 := ref04_Any_p t 4
  cases hr : t.right 4 1125899906842624 with
  | false =>
    have e : countR t v = 0 := if_neg fun h => by rw [hr] at h; exact absurd h.2 (by decide)
    rw [hr] at c1
    rw [e]
    clear e hr
    repeat' (first | ((with_reducible first | refine wA (by omega) ?_ | refine wB (by omega) ?_ | refine wC (by omega) ?_ | refine wD (by omega) ?_ | refine wE ?_ ?_ | refine wF ?_ ?_ | refine wG ?_ ?_ | refine wH ?_ ?_ | refine wI ?_ ?_ | refine wJ ?_ ?_ | refine wK ?_ ?_ | refine wL ?_ ?_) <;> intro _) | (((with_reducible refine call_id ?_); (first | (refine call_pure (c1) ?_)))) | simp (maxSteps := 1000000) (disch := omega) only [go_sem, Nat.reduceAdd, Nat.reduceMul, Nat.reduceSub, Nat.reduceLeDiff, Nat.reduceEqDiff, Nat.reduceBEq, ↓reduceIte, reduceCtorEq, Int.reduceEq, Int.reduceLE, Int.reduceLT, Int.reduceAdd, Int.reduceSub, Int.reduceNeg, Int.reduceToNat, Int.reduceNe, Nat.reducePow, Nat.reduceShiftRight, Nat.reduceMod, mc_ref06_Count, *])
    all_goals (exact fin_tmp (.inr rfl) cE3)
  | true =>
    rw [hr] at c1
    by_cases h : 0 ≤ v
    · have e : countR t v = t.cnt (varL v) 0 := if_pos ⟨h, hr⟩
      have hrf := right_far hr
      have hs := size_nodes t
      rw [e]
      by_cases h2 : v ≤ 1125899906842624
      · have c3 := count6_p v ⟨h, by omega⟩ t.size t 1125899906842624 0 (Nat.le_refl _) (by omega) hrf.1 (by omega) (by omega) (by omega) (by omega)
        clear e hr hrf
        repeat' (first | ((with_reducible first | refine wA (by omega) ?_ | refine wB (by omega) ?_ | refine wC (by omega) ?_ | refine wD (by omega) ?_ | refine wE ?_ ?_ | refine wF ?_ ?_ | refine wG ?_ ?_ | refine wH ?_ ?_ | refine wI ?_ ?_ | refine wJ ?_ ?_ | refine wK ?_ ?_ | refine wL ?_ ?_) <;> intro _) | (((with_reducible refine call_id ?_); (first | (refine call_pure (c1) ?_) | (refine call_pure (c3) ?_)))) | simp (maxSteps := 1000000) (disch := omega) only [go_sem, Nat.reduceAdd, Nat.reduceMul, Nat.reduceSub, Nat.reduceLeDiff, Nat.reduceEqDiff, Nat.reduceBEq, ↓reduceIte, reduceCtorEq, Int.reduceEq, Int.reduceLE, Int.reduceLT, Int.reduceAdd, Int.reduceSub, Int.reduceNeg, Int.reduceToNat, Int.reduceNe, Nat.reducePow, Nat.reduceShiftRight, Nat.reduceMod, mc_ref06_Count, *])
        all_goals (exact fin_tmp (.inr rfl) cE3)
      · rw [cnt_far v 4 t _ 0 hrf.1 (by omega)]
        clear e hr hrf
        repeat' (first | ((with_reducible first | refine wA (by omega) ?_ | refine wB (by omega) ?_ | refine wC (by omega) ?_ | refine wD (by omega) ?_ | refine wE ?_ ?_ | refine wF ?_ ?_ | refine wG ?_ ?_ | refine wH ?_ ?_ | refine wI ?_ ?_ | refine wJ ?_ ?_ | refine wK ?_ ?_ | refine wL ?_ ?_) <;> intro _) | (((with_reducible refine call_id ?_); (first | (refine call_pure (c1) ?_)))) | simp (maxSteps := 1000000) (disch := omega) only [go_sem, Nat.reduceAdd, Nat.reduceMul, Nat.reduceSub, Nat.reduceLeDiff, Nat.reduceEqDiff, Nat.reduceBEq, ↓reduceIte, reduceCtorEq, Int.reduceEq, Int.reduceLE, Int.reduceLT, Int.reduceAdd, Int.reduceSub, Int.reduceNeg, Int.reduceToNat, Int.reduceNe, Nat.reducePow, Nat.reduceShiftRight, Nat.reduceMod, mc_ref06_Count, *])
        all_goals (exact fin_tmp (.inr rfl) cE3)
    · have e : countR t v = 0 := if_neg fun h2 => h h2.1
      rw [e]
      clear e hr
      repeat' (first | ((with_reducible first | refine wA (by omega) ?_ | refine wB (by omega) ?_ | refine wC (by omega) ?_ | refine wD (by omega) ?_ | refine wE ?_ ?_ | refine wF ?_ ?_ | refine wG ?_ ?_ | refine wH ?_ ?_ | refine wI ?_ ?_ | refine wJ ?_ ?_ | refine wK ?_ ?_ | refine wL ?_ ?_) <;> intro _) | (((with_reducible refine call_id ?_); (first | (refine call_pure (c1) ?_)))) | simp (maxSteps := 1000000) (disch := omega) only [go_sem, Nat.reduceAdd, Nat.reduceMul, Nat.reduceSub, Nat.reduceLeDiff, Nat.reduceEqDiff, Nat.reduceBEq, ↓reduceIte, reduceCtorEq, Int.reduceEq, Int.reduceLE, Int.reduceLT, Int.reduceAdd, Int.reduceSub, Int.reduceNeg, Int.reduceToNat, Int.reduceNe, Nat.reducePow, Nat.reduceShiftRight, Nat.reduceMod, mc_ref06_Count, *])
      all_goals (exact fin_tmp (.inr rfl) cE3)
def minLow (a k : Int) : Int := if 0 ≤ k ∧ (a < 0 ∨ k < a) then k else a
mutual
def Tm.low : Int → Tm → Int
  | deep, .mk kind n s ls args => lowA deep kind args.length 0 (if kind = 1 ∧ deep ≤ n then n - deep else -1) args
def lowA : Int → Int → Nat → Nat → Int → List Tm → Int
  | _, _, _, _, a, [] => a
  | deep, kind, len, i, a, x :: r => lowA deep kind len (i + 1) (minLow a (x.low (deep + deepB kind len i))) r
end
def lowBad (by_ v : Int) : Prop := 0 ≤ v ∧ v < by_
theorem lowBad_min {by_ a k : Int} : lowBad by_ (minLow a k) ↔ lowBad by_ a ∨ lowBad by_ k := by
  unfold lowBad minLow
  split <;> omega
theorem fill_low_leaf (by_ : Int) (k n : Int) (s : ByteArray) (ls : List Lv) (args : List Tm) (deep : Int) : (Tm.mk k n s ls args).fill (lowerL by_) deep = if k = 1 ∧ deep ≤ n ∧ n - deep < by_ then none else (fillA (lowerL by_) deep k args.length 0 args).map fun as_ => .mk k (if k = 1 ∧ deep ≤ n then n + -by_ else n) s ls as_ := by
  simp only [Tm.fill, lowerL]
  by_cases h1 : k = 1
  · subst h1
    by_cases h2 : deep ≤ n
    · by_cases h3 : by_ ≤ n - deep
      · simp [h2, h3, show ¬ n - deep < by_ by omega]
        try simp only [Int.sub_eq_add_neg]
      · simp [h2, h3, show n - deep < by_ by omega]
    · simp [h2]
  · by_cases h3 : k = 3
    · simp [h3]
    · simp [h1, h3]
mutual
theorem fill_low (by_ : Int) (hb : 0 ≤ by_) : ∀ (t : Tm) (deep : Int), (lowBad by_ (t.low deep) → t.fill (lowerL by_) deep = none) ∧ (¬ lowBad by_ (t.low deep) → t.fill (lowerL by_) deep = some (t.lift (-by_) deep))
  | .mk k n s ls args, deep => by
    have hA := fillA_low by_ hb args deep k args.length 0 (if k = 1 ∧ deep ≤ n then n - deep else -1)
    rw [fill_low_leaf]
    simp only [Tm.low]
    have hL : lowBad by_ (if k = 1 ∧ deep ≤ n then n - deep else -1) ↔ (k = 1 ∧ deep ≤ n ∧ n - deep < by_) := by
      unfold lowBad
      split <;> omega
    by_cases hc : k = 1 ∧ deep ≤ n ∧ n - deep < by_
    · rw [if_pos hc]
      exact ⟨fun _ => rfl, fun h => absurd (hA.2.2 (hL.2 hc)) h⟩
    · rw [if_neg hc]
      refine ⟨fun h => ?_, fun h => ?_⟩
      · rw [hA.1 h (fun h2 => hc (hL.1 h2))]
        rfl
      · rw [hA.2.1 h, Option.map_some, Tm.lift]
theorem fillA_low (by_ : Int) (hb : 0 ≤ by_) : ∀ (xs : List Tm) (deep kind : Int) (len i : Nat) (a : Int), (lowBad by_ (lowA deep kind len i a xs) → ¬ lowBad by_ a → fillA (lowerL by_) deep kind len i xs = none) ∧ (¬ lowBad by_ (lowA deep kind len i a xs) → fillA (lowerL by_) deep kind len i xs = some (liftA (-by_) deep kind len i xs)) ∧ (lowBad by_ a → lowBad by_ (lowA deep kind len i a xs))
  | [], _, _, _, _, a => by
    simp only [lowA, fillA, liftA]
    exact ⟨fun h h2 => absurd h h2, fun _ => trivial, fun h => h⟩
  | x :: r, deep, kind, len, i, a => by
    have hx := fill_low by_ hb x (deep + deepB kind len i)
    have hr := fillA_low by_ hb r deep kind len (i + 1) (minLow a (x.low (deep + deepB kind len i)))
    simp only [lowA, fillA, liftA]
    refine ⟨fun h h2 => ?_, fun h => ?_, fun h => hr.2.2 (lowBad_min.2 (.inl h))⟩
    · by_cases h3 : lowBad by_ (x.low (deep + deepB kind len i))
      · rw [hx.1 h3]
      · rw [hx.2 h3, hr.1 h (fun h4 => (lowBad_min.1 h4).elim h2 h3)]
    · have h4 : ¬ lowBad by_ (minLow a (x.low (deep + deepB kind len i))) := fun h5 => h (hr.2.2 h5)
      have h5 : ¬ lowBad by_ (x.low (deep + deepB kind len i)) := fun h6 => h4 (lowBad_min.2 (.inr h6))
      rw [hx.2 h5, hr.2.1 h]
end
mutual
theorem low_bd (np : Int) : ∀ (t : Tm) (k deep : Int), t.formed np k = true → 0 ≤ k → 0 ≤ deep → -1 ≤ t.low deep ∧ t.low deep < k + t.size
  | .mk kd n s ls args, k, deep, hf, hk, hd => by
    have hA := lowA_bd np args k deep kd args.length 0 (if kd = 1 ∧ deep ≤ n then n - deep else -1) (fmA hf) hk hd
    have hn : kd = 1 → n < k := fun e => by subst e; exact (fm_var hf).2.1
    simp only [Tm.low, Tm.size]
    have h1 : -1 ≤ (if kd = 1 ∧ deep ≤ n then n - deep else -1) ∧ (if kd = 1 ∧ deep ≤ n then n - deep else -1) ≤ k := by
      split
      · rename_i h; have := hn h.1; omega
      · omega
    have := hA k (Int.le_refl _) h1.1 h1.2
    omega
theorem lowA_bd (np : Int) : ∀ (xs : List Tm) (k deep kind : Int) (len i : Nat) (a : Int), formedA np k kind len i xs = true → 0 ≤ k → 0 ≤ deep → ∀ b : Int, k ≤ b → -1 ≤ a → a ≤ b → -1 ≤ lowA deep kind len i a xs ∧ lowA deep kind len i a xs ≤ b + sizeL xs
  | [], k, deep, kind, len, i, a, _, _, _, b, hb, h1, h2 => by
    simp only [lowA, sizeL]
    omega
  | x :: r, k, deep, kind, len, i, a, hf, hk, hd, b, hb, h1, h2 => by
    have hdb := deep_bd kind len i
    simp only [formedA, Bool.and_eq_true] at hf
    have hx := low_bd np x (k + deepB kind len i) (deep + deepB kind len i) hf.1 (by omega) (by omega)
    have hm : -1 ≤ minLow a (x.low (deep + deepB kind len i)) ∧ minLow a (x.low (deep + deepB kind len i)) ≤ b + x.size := by
      unfold minLow
      split <;> omega
    have hr := lowA_bd np r k deep kind len (i + 1) _ hf.2 hk hd (b + x.size) (by omega) hm.1 hm.2
    simp only [lowA, sizeL]
    omega
end
end
section
set_option maxRecDepth 20000
attribute [local go_sem] pv_len pv_take Nat.add_assoc tm_len tm_take pv_one tm_one id_ne id_ne' id_ne2 List.append_assoc
theorem namesOf_append (a b : List Tm) : namesOf (a ++ b) = namesOf a ++ namesOf b := by simp [namesOf]
theorem txts_imm : ∀ ys : List ByteArray, immLL (ys.map txt) = true
  | [] => rfl
  | y :: r => by simp only [List.map_cons, immLL, txts_imm r]; rfl
theorem row_frz {Hx : Nat → Option PObj} {id : Nat} {w : Bool} (xs : List ByteArray) (n : Nat) (h : Hx id = some ⟨xs.flatMap txt, w⟩) (hn : n = xs.length := by rfl) : Weak (frzF 1 Hx (.osl id 0 n 1)) (.sl 1 (xs.map txt)) := by
  subst hn
  have hlen := txt_flen xs
  simp only [frzF, h, List.drop_zero]
  rw [if_pos (by omega), List.take_of_length_le (by omega)]
  refine .trans (Weak.fslW (es' := xs.map txt) (by rw [chunks_length, List.length_map]) (fun e he => ?_) ?_) (Weak.fsl 1 _)
  · obtain ⟨t, _, rfl⟩ := List.mem_map.1 he; rfl
  · rw [chunks_flatten 1 _ _ (by rw [List.length_map]; omega), txts_flat, List.map_id']
    exact .refl _
set_option maxHeartbeats 4000000 in
theorem ref_consts_p : ∀ (fuel : Nat) (t : Tm), t.size ≤ fuel → t.nodes ≤ 2 ^ 40 → PPure Try.prog F.ref04_consts [.agg t.pv] (.sl 1 ((namesOf t.pre).map txt)) := by
  intro fuel
  induction fuel with
  | zero => intro t h; have := size_pos t; omega
  | succ fuel ih =>
    intro t hf hm
    cases t with
    | mk k n s ls args =>
    simp only [Tm.size] at hf
    simp only [Tm.nodes] at hm
    refine pure_by is_ref04_consts (by simp) (by simp [PV.imm, txts_imm]) fun hb nx => ?_
    have hb0 : args.length ≤ 9223372036854775807 := by simp [Tm.pv, bndL, PV.bnd] at hb; exact hb.2.1
    have hpl := preL_len args
    by_cases h3 : k = 3
    all_goals
      repeat' (first | ((with_reducible first | refine wA (by omega) ?_ | refine wB (by omega) ?_ | refine wC (by omega) ?_ | refine wD (by omega) ?_ | refine wE ?_ ?_ | refine wF ?_ ?_ | refine wG ?_ ?_ | refine wH ?_ ?_ | refine wI ?_ ?_ | refine wJ ?_ ?_ | refine wK ?_ ?_ | refine wL ?_ ?_) <;> intro _) | simp (maxSteps := 1000000) (disch := omega) only [go_sem, Nat.reduceAdd, Nat.reduceMul, Nat.reduceSub, Nat.reduceLeDiff, Nat.reduceEqDiff, Nat.reduceBEq, ↓reduceIte, reduceCtorEq, Int.reduceEq, Int.reduceLE, Int.reduceLT, Int.reduceAdd, Int.reduceSub, Int.reduceNeg, Int.reduceToNat, Int.reduceNe, Nat.reducePow, Nat.reduceShiftRight, Nat.reduceMod, mc_ref04_consts, Tm.pv, *])
      refine c_loopW 536854552 (by kernel_rfl) (fun j f H m => ∃ (i id : Nat) (w : Bool) (ys : List ByteArray), j = args.length - i ∧ i ≤ args.length ∧ f 4 = .sc (.int .i64 i) ∧ id < m ∧ f 3 = .osl id 0 ys.length 1 ∧ H id = some ⟨ys.flatMap txt, w⟩ ∧ Kept (ys = (if k = 3 then [s] else []) ++ namesOf (preL (args.take i)))) args.length ?init ?step
      case step =>
        rintro _ f H m ⟨i, id, w, ys, rfl, hi, e4, hid, e3, hH, hys⟩
        have hyl : ys.length ≤ 1 + (preL (args.take i)).length := by
          rw [hys.out, List.length_append]
          have := namesOf_len (preL (args.take i))
          split <;> simp <;> omega
        have hpt := preL_len (args.take i)
        have hnt := nodesT_take_le args i
        by_cases hlt : i < args.length
        · have eg : args[i]? = some args[i] := List.getElem?_eq_getElem hlt
          have hn := nodesT_mem args i hlt
          have hs := sizeL_mem args i hlt
          have hp1 := pre_len args[i]
          have hnn := namesOf_len args[i].pre
          have c1 := ih args[i] (by omega) (by omega)
          have hst : namesOf (preL (args.take (i + 1))) = namesOf (preL (args.take i)) ++ namesOf args[i].pre := by rw [preL_take args i hlt, namesOf_append]
          have h1 := txts_len (namesOf args[i].pre)
          have h2 := txts_one (namesOf args[i].pre)
          have hfl := txt_flen ys
          have hz : (ys.length + (namesOf args[i].pre).length) * 16 ≤ 140737488355328 ∧ ys.length + (namesOf args[i].pre).length ≤ 4611686018427387904 ∧ ys.length ≤ 4611686018427387903 := by omega
          have hstk := Kept.mk hst
          clear hst ih hp1 hnn hn hs hpt hnt hyl
          repeat' (first | ((with_reducible first | refine wA (by omega) ?_ | refine wB (by omega) ?_ | refine wC (by omega) ?_ | refine wD (by omega) ?_ | refine wE ?_ ?_ | refine wF ?_ ?_ | refine wG ?_ ?_ | refine wH ?_ ?_ | refine wI ?_ ?_ | refine wJ ?_ ?_ | refine wK ?_ ?_ | refine wL ?_ ?_) <;> intro _) | (((with_reducible refine call_id ?_); (first | (refine call_pure (c1) ?_)))) | simp (maxSteps := 1000000) (disch := omega) only [go_sem, Nat.reduceAdd, Nat.reduceMul, Nat.reduceSub, Nat.reduceLeDiff, Nat.reduceEqDiff, Nat.reduceBEq, ↓reduceIte, reduceCtorEq, Int.reduceEq, Int.reduceLE, Int.reduceLT, Int.reduceAdd, Int.reduceSub, Int.reduceNeg, Int.reduceToNat, Int.reduceNe, Nat.reducePow, Nat.reduceShiftRight, Nat.reduceMod, Tm.pv, *])
          refine Nx.mk (args.length - (i + 1)) cE1 ⟨i + 1, m + 12, false, ys ++ namesOf args[i].pre, rfl, cE1, by simp [upd], (by show m + 12 < m + 17; omega), by simp [upd], by simp [upd, txts_flat, List.flatMap_append], Kept.mk ?_⟩
          have h9 := hys.out
          simp [h3] at h9
          rw [h9, hstk.out]
          try simp
        · obtain rfl : i = args.length := by omega
          have hyy : ys = namesOf (Tm.mk k n s ls args).pre := by
            rw [hys.out, List.take_length, Tm.pre]
            rfl
          have hw := Kept.mk (row_frz ys ys.length hH)
          rw [hyy] at hw
          have hwk : Kept (Weak (frzF 1 H (.osl id 0 ys.length 1)) (.sl 1 ((namesOf (Tm.mk k n s ls args).pre).map txt))) := Kept.mk (by rw [← hyy]; exact row_frz ys ys.length hH)
          clear hyy hw hyl hpt hnt ih
          repeat' (first | ((with_reducible first | refine wA (by omega) ?_ | refine wB (by omega) ?_ | refine wC (by omega) ?_ | refine wD (by omega) ?_ | refine wE ?_ ?_ | refine wF ?_ ?_ | refine wG ?_ ?_ | refine wH ?_ ?_ | refine wI ?_ ?_ | refine wJ ?_ ?_ | refine wK ?_ ?_ | refine wL ?_ ?_) <;> intro _) | simp (maxSteps := 1000000) (disch := omega) only [go_sem, Nat.reduceAdd, Nat.reduceMul, Nat.reduceSub, Nat.reduceLeDiff, Nat.reduceEqDiff, Nat.reduceBEq, ↓reduceIte, reduceCtorEq, Int.reduceEq, Int.reduceLE, Int.reduceLT, Int.reduceAdd, Int.reduceSub, Int.reduceNeg, Int.reduceToNat, Int.reduceNe, Nat.reducePow, Nat.reduceShiftRight, Nat.reduceMod, Tm.pv, *])
          refine fin_retF (r0 := .osl id 0 ys.length 1) 1 (by (simp (disch := omega) only [go_sem, Nat.reduceMul, Nat.reduceSub, Nat.reduceShiftRight, Nat.reduceMod, Nat.reduceEqDiff, Nat.reduceAdd, ↓reduceIte, Nat.reduceLeDiff, e3]); all_goals rfl) ?_
          first | exact hwk.out | (have := hwk.out; rw [h3] at this; exact this)
      case init =>
        first
          | exact ⟨0, nx + 11, false, [s], by omega, Nat.zero_le _, by simp [upd], (by show nx + 11 < nx + 14; omega), by simp [upd], by simp [upd, txt], Kept.mk (by simp [preL, namesOf, h3])⟩
          | exact ⟨0, nx + 2, true, [], by omega, Nat.zero_le _, by simp [upd], (by simp only [Nat.add_assoc]; exact Nat.add_lt_add_left (by omega) _), by simp [upd], by simp [upd], Kept.mk (by simp [preL, namesOf, h3])⟩
end
end Go.Proofs.Ytfhblaggeahbjaa
