/-
  Layer 2: takeNum.
-/
import Derived.Test.YtaipjdfgedjdnaaWNums
import Derived.Test.YtaipjdfgedjdnaaWDec
import Derived.WalkLawsBesides
namespace Go.Proofs.Ytaipjdfgedjdnaa
open Go.RowKit

theorem ret_two {a b c d : Int} (h1 : a = c) (h2 : b = d) : Ending.returned (.tuple #[.int .i64 a, .int .i64 b]) = .returned (.tuple #[.int .i64 c, .int .i64 d]) := by rw [h1, h2]

set_option maxRecDepth 100000 in
set_option maxHeartbeats 1600000 in
theorem takeNum_any (A : Option Addr) (n c B : Nat) (l : List UInt8) (w : World) (hn : n ≤ maxLen) (hc : n ≤ c) (hr : Rd w B A n (l.map Plain.cell)) :
    Calls Try.prog 30 #[.slice A n c] w fun e w' =>
      e = .returned (.tuple #[.int .i64 ((Plain.tk l).1 : Nat), .int .i64 ((Plain.tk l).2 : Nat)]) ∧ w = w' := by
  have hl := hr.1
  rw [List.length_map] at hl
  have Hl := Lib.hid hl; clear hl
  have Hr := Lib.hid hr; clear hr
  unfold maxLen at hn
  obtain ⟨r, hr1, hr2, hcase⟩ : ∃ r : Nat, r ≤ 6 ∧ r ≤ n ∧ ((n < 6 ∧ n ≤ r) ∨ (6 ≤ n ∧ 6 ≤ r)) := by
    by_cases h : n < 6
    · exact ⟨n, by omega, by omega, .inl ⟨h, by omega⟩⟩
    · exact ⟨6, by omega, by omega, .inr ⟨by omega, by omega⟩⟩
  go_enter Try.func30, Try.ntmps30
  rcases hcase with ⟨h6, hr3⟩ | ⟨h6, hr3⟩
  all_goals
    go_wp2
    go_loop [4, 13] (fun a i => ∃ k m : Nat, k ≤ r ∧ i = .int .i64 k ∧ a = .int .i64 m ∧ Plain.Mid l k m) (fun _ i => r - (intOf i).toNat)
    case atStart => exact ⟨0, 0, Nat.zero_le _, rfl, rfl, Plain.mid_start l⟩
    case round =>
      obtain ⟨k, m, hk, rfl, rfl, hm⟩ := hrel
      by_cases hlt : k < r
      · obtain ⟨b, off, rfl, hb, hc⟩ := Hr.out.2 (by omega)
        have hkl : k < l.length := by rw [Hl.out]; omega
        have g : w.cell? ⟨b, off + k, none⟩ = some (.int .u8 (l[k].toNat : Int)) := hc k _ (by rw [List.getElem?_map, List.getElem?_eq_getElem hkl]; rfl)
        clear hc
        have hbyte := l[k].toNat_lt
        have Hv := Lib.hid (Plain.round_val m l[k].toNat k (by omega) hm.1 hbyte)
        by_cases hx : 128 ≤ l[k].toNat
        · have Hgo := Lib.hid (Plain.mid_go hm (by omega) hkl hx)
          clear hm
          generalize hx' : l[k].toNat = x at *
          have Hx := Lib.hid hx'; clear hx'
          go_wp2
          go_round
          case rel => exact ⟨k + 1, _, by omega, by go_num, by rw [Hv.out], Hgo.out⟩
          case measure => simp [intOf]; omega
        · have Hend := Lib.hid (Plain.tk_of_raw (Plain.mid_end hm (by omega) hkl (by omega)))
          clear hm
          generalize hx' : l[k].toNat = x at *
          have Hx := Lib.hid hx'; clear hx'
          have e : x % 128 = x := by omega
          rw [e] at Hv
          clear e
          generalize hV : m + x * 128 ^ k = V at *
          have HV := Lib.hid hV; clear hV
          go_wp2_with fail
          rw [Hv.out]
          by_cases hmc : V ≤ Plain.mc
          · have hmc' := Plain.mc_le hmc
            refine (isNumber_yes _ _ (by omega) hmc').mono ?_
            rintro e w' ⟨rfl, rfl⟩
            by_cases hs : (Plain.enc V).length = k + 1
            · have hsb : (((Plain.enc V).length : Int) != (k : Int) + 1) = false := by rw [bne_eq_false_iff_eq]; omega
              have Hs := Lib.hid hs; clear hs
              go_wp2_with (go_at_call 19; refine (size_yes _ _ hmc).mono ?_; rintro e w' ⟨rfl, rfl⟩)
              go_ret2
              have h := Hend.out
              rw [if_pos ⟨hmc, Hs.out⟩] at h
              exact ⟨ret_two (by rw [h]) (by rw [h]; omega), rfl⟩
            · have hsb : (((Plain.enc V).length : Int) != (k : Int) + 1) = true := by rw [bne_iff_ne]; omega
              have Hs := Lib.hid hs; clear hs
              go_wp2_with (go_at_call 19; refine (size_yes _ _ hmc).mono ?_; rintro e w' ⟨rfl, rfl⟩)
              go_ret2
              have h := Hend.out
              rw [if_neg (fun hh => Hs.out hh.2)] at h
              exact ⟨ret_two (by rw [h]; rfl) (by rw [h]; rfl), rfl⟩
          · refine (isNumber_no _ _ (.inr (by unfold Plain.mc at hmc; omega))).mono ?_
            rintro e w' ⟨rfl, rfl⟩
            go_wp2_with fail
            go_ret2
            have h := Hend.out
            rw [if_neg (fun hh => hmc hh.1)] at h
            exact ⟨ret_two (by rw [h]; rfl) (by rw [h]; rfl), rfl⟩
      · have Hnone := Lib.hid (Plain.mid_none hm (by rw [Hl.out]; omega))
        clear hm
        go_wp2
        go_ret2
        have h := Hnone.out
        exact ⟨ret_two (by rw [h]; rfl) (by rw [h]; rfl), rfl⟩

end Go.Proofs.Ytaipjdfgedjdnaa
