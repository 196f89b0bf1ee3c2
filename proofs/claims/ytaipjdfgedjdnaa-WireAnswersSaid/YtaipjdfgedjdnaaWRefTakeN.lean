/-
  Layer 2: the references: Take where there is no list.
-/
import Derived.Test.YtaipjdfgedjdnaaWRefTake
set_option linter.unusedVariables false
namespace Go.Proofs.Ytaipjdfgedjdnaa
open Go.RowKit

set_option maxRecDepth 100000 in
set_option maxHeartbeats 1600000 in
theorem refTake_no2 (A : Option Addr) (n c B : Nat) (l : List UInt8) (most : Int) (w : World) (hn : n ≤ 1000000) (hc : n ≤ c) (hcm : c ≤ maxLen) (hr : Rd w B A n (l.map Plain.cell)) (hB : B ≤ w.heap.size)
    (h0 : (Plain.tk l).2 ≠ 0) (hm : ((Plain.tk l).1 : Int) ≤ most) (h : takeL (Plain.tk l).1 (l.drop (Plain.tk l).2) = none) :
    Calls Try.prog 18 #[.slice A n c, .int .i64 most] w fun e w' => e = .returned (.tuple #[.slice none 0 0, .slice none 0 0, .bool false]) ∧ Below w.heap.size w w' := by
  obtain ⟨i0, hi0, hz0, hz1, hz2⟩ := info_parts info9
  have hl := hr.1
  rw [List.length_map] at hl
  have hrd := Plain.tk_read l h0
  have hmm' : ((Plain.tk l).1 : Int) ≤ 1099511627776 := Plain.mc_le hrd.1
  have Hq := Lib.hid (refNum_yes A n c B l w hn hc hcm hr hB h0)
  have H := Lib.hid h; clear h
  have hdl : (l.drop (Plain.tk l).2).length ≤ 1000000 := by rw [List.length_drop]; omega
  clear hrd h0 hr hl
  generalize (Plain.tk l).1 = m at *
  generalize (Plain.tk l).2 = s at *
  generalize l.drop s = l0 at *
  go_enter Try.func18, Try.ntmps18
  go_wp2_with fail
  refine Hq.out.mono ?_
  rintro e w1 ⟨v1, rfl, hown1, hb1⟩
  obtain ⟨A1, c1, rfl, hc1, hm1⟩ := own_shape hown1
  have hx1 := Rd.own hown1
  have hown0 : (w1.alloc (.cells #[] 9)).ownsRow w.heap.size 9 1 (.slice (some ⟨w1.heap.size, 0, none⟩) 0 0) 0 [] := World.ownsRow_lit w1 #[] 0 hb1.size (by unfold maxLen; omega) rfl
  have hb0 : Below w.heap.size w (w1.alloc (.cells #[] 9)) := hb1.alloc hb1.size _
  have hx0 : Rd (w1.alloc (.cells #[] 9)) (w1.alloc (.cells #[] 9)).heap.size A1 (n - s) (l0.map Plain.cell) := (hx1.alloc (Nat.le_refl _) _).more (by simp)
  have hty0 : Ty (w1.alloc (.cells #[] 9)) A1 (n - s) := fun x hx hn => by
    obtain ⟨cs, hcs⟩ := Ty.own hown1 x hx hn
    exact ⟨cs, (Below.heap_alloc w1 _ x.block (Array.getElem?_eq_some_iff.1 hcs).1).trans hcs⟩
  clear hown1 hb1 hx1 Hq
  go_wp2
  go_loopw [8, 10, 11] (fun r v i wr => ∃ (k : Nat) (A1 : Option Addr) (n1 c1 : Nat) (L1 : List UInt8) (ts : List Value), k ≤ m ∧ i = .int .i64 k ∧ r = .slice A1 n1 c1 ∧ n1 ≤ c1 ∧ c1 ≤ maxLen ∧ Rd wr wr.heap.size A1 n1 (L1.map Plain.cell) ∧ Ty wr A1 n1 ∧
      wr.ownsRow w.heap.size 9 1 v k ts ∧ k + L1.length ≤ 1000000 ∧ takeL (m - k) L1 = none ∧ Below w.heap.size w wr) (fun _ _ i _ => m - (intOf i).toNat)
  case atStart => exact ⟨0, A1, _, c1, l0, [], Nat.zero_le _, rfl, rfl, hc1, hm1, hx0, hty0, hown0, by omega, H.out, hb0⟩
  case round =>
    obtain ⟨k, A1, n1, c1, L1, ts, hk, rfl, rfl, hn1, hcm1, hr1, hty1, hown, hkl, hrest, hbel⟩ := hrel
    clear hown0 hb0 hx0 hty0
    have hsz := hbel.size
    have hln : L1.length = n1 := by have := hr1.1; rwa [List.length_map] at this
    have hn1' : n1 ≤ 1000000 := by omega
    by_cases hlt : k < m
    · rcases htt : tt L1 with _ | ⟨S, L2⟩
      · have Hcall := Lib.hid (refText_no A1 n1 c1 wr.heap.size L1 wr hn1' hn1 hcm1 hr1 (Nat.le_refl _) htt)
        clear htt hr1 hrest hown hty1
        have Hln := Lib.hid hln; clear hln
        go_wp2_with fail
        refine Hcall.out.mono ?_
        rintro e w2 ⟨rfl, hbel2⟩
        have hb2 := hbel.trans (hbel2.mono hsz)
        go_wp2_with fail
        go_ret3
        exact ⟨rfl, hb2⟩
      · have hsh := tt_shorter htt
        rw [show m - k = (m - (k + 1)) + 1 from by omega, takeL_step htt, Option.map_eq_none_iff] at hrest
        have hcall := refText_yes A1 n1 c1 wr.heap.size L1 wr S L2 hn1' hn1 hcm1 hr1 (Nat.le_refl _) htt
        have Hcall := Lib.hid hcall; clear hcall htt hr1
        have Hrest := Lib.hid hrest; clear hrest
        have Hln := Lib.hid hln; clear hln
        go_wp2_with fail
        refine Hcall.out.mono ?_
        rintro e w2 ⟨A2, n2, c2, rfl, hr2, hty2, hn2, hcm2, hbel2⟩
        have hb2 := hbel.trans (hbel2.mono hsz)
        have hown2 := own_below hown hbel2
        have hs2 := hb2.size
        clear hown hbel hbel2 Hcall
        go_wp2_with (at_builtin; (refine wpList_append_own _ rfl _ _ 23 rfl w.heap.size 9 i0 (.string ByteArray.empty) 1 16 Try.underlying23 hi0 hz0 hz1 hz2 rfl (by decide) _ _ _ rfl (hown2.alloc _) ⟨w2.heap.size, 0, none⟩ 1 1 [.string S] rfl rfl (cell_one_new _ _ _) (fun x hx => by simp at hx; subst hx; rfl) (by unfold maxLen; omega) (by omega) (by simp; omega) ?_); intro v' w3 hown' hgrow' _; have hb3 := below_app _ hb2 hown2 hs2 hgrow'; have hr3 := rd_app_own hr2 (Nat.le_refl _) hty2 hown2 hgrow'; clear hgrow' hb2 hown2 hr2 hty2)
        go_roundw
        case rel =>
          refine ⟨k + 1, A2, n2, c2, L2, _, by omega, by go_num, rfl, hn2, hcm2, hr3.1, hr3.2, hown', by omega, Hrest.out, hb3⟩
        case measure => simp [intOf]; omega
    · exfalso
      have hkm : k = m := by omega
      subst hkm
      rw [Nat.sub_self] at hrest
      simp only [takeL] at hrest
      cases hrest

end Go.Proofs.Ytaipjdfgedjdnaa
