/-
  Layer 2: Take where there is no list; SameTexts.
-/
import Derived.Test.YtaipjdfgedjdnaaWTakeL
set_option linter.unusedVariables false
namespace Go.Proofs.Ytaipjdfgedjdnaa
open Go.RowKit

set_option maxRecDepth 100000 in
set_option maxHeartbeats 800000 in
theorem take_no1 (A : Option Addr) (n c B : Nat) (l : List UInt8) (most : Int) (w : World) (hn : n ≤ 1000000) (hc : n ≤ c) (hr : Rd w B A n (l.map Plain.cell))
    (h : (Plain.tk l).2 = 0 ∨ most < ((Plain.tk l).1 : Int)) :
    Calls Try.prog 17 #[.slice A n c, .int .i64 most] w fun e w' => e = .returned (.tuple #[.slice none 0 0, .slice none 0 0, .bool false]) ∧ w = w' := by
  have ht := takeNum_any A n c B l w (by unfold maxLen; omega) hc hr
  have Ht := Lib.hid ht; clear ht hr
  by_cases h0 : (Plain.tk l).2 = 0
  · have Hz := Lib.hid (Plain.tk_zero l h0)
    rw [Hz.out] at Ht
    clear h h0
    go_enter Try.func17, Try.ntmps17
    go_wp2_with (go_at_call 30; refine Ht.out.mono ?_; rintro e w' ⟨rfl, rfl⟩)
    go_ret3
    exact ⟨rfl, rfl⟩
  · have hm : most < ((Plain.tk l).1 : Int) := by omega
    generalize (Plain.tk l).1 = m at *
    generalize (Plain.tk l).2 = s at *
    have hs0 : 0 < s := by omega
    have hsb : ((s : Int) == 0) = false := by rw [beq_eq_false_iff_ne]; omega
    clear h h0
    go_enter Try.func17, Try.ntmps17
    go_wp2_with (go_at_call 30; refine Ht.out.mono ?_; rintro e w' ⟨rfl, rfl⟩)
    go_ret3
    exact ⟨rfl, rfl⟩

set_option maxRecDepth 100000 in
set_option maxHeartbeats 1600000 in
theorem take_no2 (A : Option Addr) (n c B : Nat) (l : List UInt8) (most : Int) (w : World) (hn : n ≤ 1000000) (hc : n ≤ c) (hcm : c ≤ maxLen) (hr : Rd w B A n (l.map Plain.cell)) (hB : B ≤ w.heap.size)
    (h0 : (Plain.tk l).2 ≠ 0) (hm : ((Plain.tk l).1 : Int) ≤ most) (h : takeL (Plain.tk l).1 (l.drop (Plain.tk l).2) = none) :
    Calls Try.prog 17 #[.slice A n c, .int .i64 most] w fun e w' => e = .returned (.tuple #[.slice none 0 0, .slice none 0 0, .bool false]) ∧ Below w.heap.size w w' := by
  obtain ⟨i0, hi0, hz0, hz1, hz2⟩ := info_parts info9
  have hl := hr.1
  rw [List.length_map] at hl
  have ht := takeNum_any A n c B l w (by omega) hc hr
  have hrd := Plain.tk_read l h0
  have hsn : (Plain.tk l).2 ≤ n := by rw [← hl]; exact hrd.2.2.2
  have hmm := hrd.1
  have Ht := Lib.hid ht; clear ht
  have Hr := Lib.hid hr; clear hr
  have Hl := Lib.hid hl; clear hl hrd
  have H := Lib.hid h; clear h
  generalize (Plain.tk l).1 = m at *
  generalize (Plain.tk l).2 = s at *
  have hs0 : 0 < s := by omega
  have hsb : ((s : Int) == 0) = false := by rw [beq_eq_false_iff_ne]; omega
  unfold maxLen at hcm
  clear h0
  have hmm' : (m : Int) ≤ 1099511627776 := Plain.mc_le hmm
  have hstart1 := Hr.out.cut_all (A' := A) (k := s)
  have hstart2 := Hr.out.cut_in s
  rw [← List.map_drop] at hstart1 hstart2
  have Hstart1 := Lib.hid hstart1; clear hstart1
  have Hstart2 := Lib.hid hstart2; clear hstart2
  go_enter Try.func17, Try.ntmps17
  go_wp2_with (go_at_call 30; refine Ht.out.mono ?_; rintro e w' ⟨rfl, rfl⟩)
  all_goals
    go_loopw [9, 10, 30] (fun r v i wr => ∃ (k : Nat) (A1 : Option Addr) (n1 c1 : Nat) (L1 : List UInt8) (ts : List Value), k ≤ m ∧ i = .int .i64 k ∧ r = .slice A1 n1 c1 ∧ n1 ≤ c1 ∧ c1 ≤ maxLen ∧ Rd wr B A1 n1 (L1.map Plain.cell) ∧
      wr.ownsRow w.heap.size 9 1 v k ts ∧ k + L1.length ≤ n ∧ takeL (m - k) L1 = none ∧ Below w.heap.size w wr) (fun _ _ i _ => m - (intOf i).toNat)
    case atStart =>
      first
      | exact ⟨0, _, _, _, _, [], Nat.zero_le _, rfl, rfl, by omega, by unfold maxLen; omega, Hstart2.out, World.ownsRow_nil _ _ _ _, by rw [List.length_drop, Hl.out]; omega, H.out, Below.refl _ _⟩
      | exact ⟨0, _, _, _, _, [], Nat.zero_le _, rfl, rfl, by omega, by unfold maxLen; omega, Hstart1.out (by omega), World.ownsRow_nil _ _ _ _, by rw [List.length_drop, Hl.out]; omega, H.out, Below.refl _ _⟩
    case round =>
      obtain ⟨k, A1, n1, c1, L1, ts, hk, rfl, rfl, hn1, hcm1, hr1, hown, hkl, hrest, hbel⟩ := hrel
      have hsz := hbel.size
      by_cases hlt : k < m
      · rcases htt : tt L1 with _ | ⟨S, L2⟩
        · have hcall := takeText_none A1 n1 c1 B L1 wr (by omega) hn1 hr1 htt
          have Hcall := Lib.hid hcall; clear hcall htt hr1 hrest hown
          go_wp2_with fail
          refine Hcall.out.mono ?_
          rintro e w2 ⟨rfl, rfl⟩
          go_wp2_with fail
          go_ret3
          exact ⟨rfl, hbel⟩
        · have hsh := tt_shorter htt
          rw [show m - k = (m - (k + 1)) + 1 from by omega, takeL_step htt, Option.map_eq_none_iff] at hrest
          have hcall := takeText_some A1 n1 c1 B L1 wr S L2 hn1 hcm1 hr1 htt
          have Hcall := Lib.hid hcall; clear hcall htt hr1
          have Hrest := Lib.hid hrest; clear hrest
          go_wp2_with fail
          refine Hcall.out.mono ?_
          rintro e w2 ⟨A2, n2, c2, rfl, hr2, hn2, hcm2, q, rfl⟩
          have hb2 := below_drewN hbel q
          have hownq : (wr.drewN q).ownsRow w.heap.size 9 1 _ k ts := hown
          have hszq : w.heap.size ≤ (wr.drewN q).heap.size := hsz
          have hr2 := hr2.drewN q
          clear hown hbel Hcall
          generalize hw2 : wr.drewN q = w2 at *
          clear hw2
          go_wp2_with (at_builtin; (refine wpList_append_own _ rfl _ _ 23 rfl w.heap.size 9 i0 (.string ByteArray.empty) 1 16 Try.underlying23 hi0 hz0 hz1 hz2 rfl (by decide) _ _ _ rfl (hownq.alloc _) ⟨w2.heap.size, 0, none⟩ 1 1 [.string S] rfl rfl (cell_one_new _ _ _) (fun x hx => by simp at hx; subst hx; rfl) (by unfold maxLen; omega) (by omega) (by simp; omega) ?_); intro v' w3 hown' hgrow' _; have hb3 := below_app _ hb2 hownq hszq hgrow'; have hr3 := rd_app _ hr2 hB hszq hownq hgrow'; clear hgrow' hb2 hownq hr2)
          go_roundw
          case rel =>
            refine ⟨k + 1, A2, n2, c2, L2, _, by omega, by go_num, rfl, hn2, hcm2, hr3, hown', by omega, Hrest.out, hb3⟩
          case measure => simp [intOf]; omega
      · exfalso
        have hkm : k = m := by omega
        subst hkm
        rw [Nat.sub_self] at hrest
        simp only [takeL] at hrest
        cases hrest

set_option maxRecDepth 100000 in
set_option maxHeartbeats 400000 in
theorem sameTexts_yes (A1 A2 : Option Addr) (n c1 c2 B1 B2 : Nat) (l : List ByteArray) (w : World) (hm : n ≤ maxLen)
    (h1 : Rd w B1 A1 n (l.map Value.string)) (h2 : Rd w B2 A2 n (l.map Value.string)) :
    Calls Try.prog 25 #[.slice A1 n c1, .slice A2 n c2] w fun e w' => e = .returned (.bool true) ∧ ∃ q, w' = w.drewN q := by
  unfold maxLen at hm
  have hl := h1.1
  rw [List.length_map] at hl
  have Hl := Lib.hid hl; clear hl
  have H1 := Lib.hid h1; clear h1
  have H2 := Lib.hid h2; clear h2
  go_enter Try.func25, Try.ntmps25
  go_wp2
  go_loopw [5] (fun i wr => ∃ k q : Nat, k ≤ n ∧ i = .int .i64 k ∧ wr = w.drewN q) (fun i _ => n - (intOf i).toNat)
  case atStart => exact ⟨0, 0, Nat.zero_le _, rfl, rfl⟩
  case round =>
    obtain ⟨k, q, hk, rfl, rfl⟩ := hrel
    by_cases hlt : k < n
    · obtain ⟨b1, o1, rfl, _, hc1⟩ := H1.out.2 (by omega)
      obtain ⟨b2, o2, rfl, _, hc2⟩ := H2.out.2 (by omega)
      have hkl : k < l.length := by rw [Hl.out]; exact hlt
      have g1 : w.cell? ⟨b1, o1 + k, none⟩ = some (.string l[k]) := hc1 k _ (by rw [List.getElem?_map, List.getElem?_eq_getElem hkl]; rfl)
      have g2 : w.cell? ⟨b2, o2 + k, none⟩ = some (.string l[k]) := hc2 k _ (by rw [List.getElem?_map, List.getElem?_eq_getElem hkl]; rfl)
      clear hc1 hc2
      have hi : (k : Int) < (n : Int) := by omega
      go_wp2
      go_quiet (fail)
      go_wp2
      go_roundw
      case rel => exact ⟨k + 1, _, by omega, by go_num, rfl⟩
      case measure => simp [intOf]; omega
    · go_wp2
      go_ret
      exact ⟨rfl, q, rfl⟩

end Go.Proofs.Ytaipjdfgedjdnaa
