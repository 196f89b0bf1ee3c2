/-
  WireRows: the walk.
-/
import Derived.Test.YtaipjdfgedjdnaaWAlive
import Derived.Test.YtaipjdfgedjdnaaLawKit
set_option linter.unusedVariables false
namespace Go.Proofs.Ytaipjdfgedjdnaa
open Go.RowKit

theorem ret_bool {a b : Bool} (h : a = b) : Ending.returned (.bool a) = .returned (.bool b) := by rw [h]

set_option maxRecDepth 100000 in
set_option maxHeartbeats 1600000 in
theorem rows_yes (A : Option Addr) (len cap : Nat) (zs : List Int) (W : World) (hr : Rd W W.heap.size A len (zs.map numCell)) (hlen : len ≤ 200) (hz : ∀ z ∈ zs, IsN z) :
    Calls Try.prog 7 #[.slice A len cap] W fun e w' => e = .returned (.bool true) ∧ Below W.heap.size W w' := by
  have hl := hr.1
  rw [List.length_map] at hl
  have htot := encAll_length zs hz
  have Hl := Lib.hid hl; clear hl
  have Hz := Lib.hid hz; clear hz
  have htot' : (encAll zs).length ≤ 1200 := by have := Hl.out; omega
  clear htot
  go_enter Try.func7, Try.ntmps7
  go_wp2_with fail
  refine (alive_any W).mono ?_
  rintro e w2 ⟨rfl, hB2⟩
  have hr2 := hr.below hB2 (Nat.le_refl _)
  go_wp2_with fail
  refine (nums_yes A len cap W.heap.size zs w2 (by omega) hr2 hB2.size Hz.out).mono ?_
  rintro e w3 ⟨v3, rfl, hown3, hbel3⟩
  obtain ⟨A3, c3, rfl, hc3, hm3⟩ := own_shape hown3
  have hx3 : Rd w3 w3.heap.size A3 (encAll zs).length ((encAll zs).map Plain.cell) := Rd.own hown3
  have hB3 := hB2.trans (hbel3.mono hB2.size)
  have hr3 := hr2.below hbel3 hB2.size
  have Hr3 := Lib.hid hr3; clear hr3 hr2 hown3 hbel3 hB2
  have Hr := Lib.hid hr; clear hr
  go_wp2
  go_loop [5, 6] (fun s i => ∃ k : Nat, k ≤ len ∧ i = .int .i64 k ∧ s = .int .i64 (encAll (zs.take k)).length) (fun _ i => len - (intOf i).toNat)
  case atStart => exact ⟨0, Nat.zero_le _, rfl, rfl⟩
  case round =>
    obtain ⟨k, hk, rfl, rfl⟩ := hrel
    by_cases hlt : k < len
    · obtain ⟨b, off, rfl, hb, hc⟩ := Hr3.out.2 (by omega)
      have hkl : k < zs.length := by rw [Hl.out]; exact hlt
      have hv := Hz.out zs[k] (by simp)
      have hnat := hv.nat
      have g : w3.cell? ⟨b, off + k, none⟩ = some (.int .i64 zs[k]) := hc k _ (by rw [List.getElem?_map, List.getElem?_eq_getElem hkl]; rfl)
      clear hc
      have hlk : (encAll (zs.take k)).length ≤ 1200 := by
        have h1 := encAll_length (zs.take k) (fun z hz => Hz.out z (List.mem_of_mem_take hz))
        have h2 : (zs.take k).length ≤ k := List.length_take_le _ _
        omega
      have Hs := Lib.hid (show (encAll (zs.take (k + 1))).length = (encAll (zs.take k)).length + (Plain.enc zs[k].toNat).length by rw [take_snoc' _ _ hkl, encAll_snoc, List.length_append])
      generalize hx : zs[k] = x at *
      have Hx := Lib.hid hx; clear hx
      obtain ⟨m, rfl⟩ := Int.eq_ofNat_of_zero_le hv.1
      have hm : m ≤ Plain.mc := by have := hnat.1; simpa using this
      clear hnat hv
      have h6 := Plain.enc_length_six hm
      have hp := Plain.enc_length_pos m
      have hne : (((Plain.enc m).length : Int) == 0) = false := by rw [beq_eq_false_iff_ne]; omega
      go_wp2_with (go_at_call 19; refine (size_yes m _ hm).mono ?_; rintro e w' ⟨rfl, rfl⟩)
      go_round
      case rel => exact ⟨k + 1, by omega, by go_num, by rw [Hs.out, Int.toNat_natCast]; go_num⟩
      case measure => simp [intOf]; omega
    · have hkn : k = len := by omega
      subst hkn
      have e : zs.take k = zs := List.take_of_length_le (by rw [Hl.out]; omega)
      have He := Lib.hid e; clear e
      rw [He.out]
      have hne : (((encAll zs).length : Int) != ((encAll zs).length : Int)) = false := by simp
      go_wp2
      go_loopw [3, 8] (fun v i wr => ∃ (j : Nat) (A1 : Option Addr) (n1 c1 : Nat), j ≤ k ∧ i = .int .i64 j ∧ v = .slice A1 n1 c1 ∧ n1 ≤ c1 ∧ c1 ≤ maxLen ∧ Rd wr wr.heap.size A1 n1 ((encAll (zs.drop j)).map Plain.cell) ∧ Rd wr W.heap.size A k (zs.map numCell) ∧ Below W.heap.size W wr) (fun _ i _ => k - (intOf i).toNat)
      case atStart => exact ⟨0, A3, _, c3, Nat.zero_le _, rfl, rfl, hc3, hm3, hx3, Hr3.out, hB3⟩
      case round =>
        obtain ⟨j, A1, n1, c1, hj, rfl, rfl, hn1, hcm1, hx1, hr1, hbel⟩ := hrel
        by_cases hlt : j < k
        · obtain ⟨b, off, hA, hb, hc⟩ := hr1.2 (by omega)
          have hjl : j < zs.length := by rw [Hl.out]; exact hlt
          have hv := Hz.out zs[j] (by simp)
          have hnat := hv.nat
          have Hd := Lib.hid (show encAll (zs.drop j) = Plain.enc zs[j].toNat ++ encAll (zs.drop (j + 1)) by rw [List.drop_eq_getElem_cons hjl]; rfl)
          have g0 := hc j _ (show (zs.map numCell)[j]? = some (.int .i64 zs[j]) by rw [List.getElem?_map, List.getElem?_eq_getElem hjl]; rfl)
          clear hc
          have hl1 := hx1.1
          rw [List.length_map] at hl1
          have hle : n1 ≤ 1200 := by
            have h1 := encAll_length (zs.drop j) (fun z hz => Hz.out z (List.mem_of_mem_drop hz))
            have h2 : (zs.drop j).length ≤ 200 := by rw [List.length_drop, Hl.out]; omega
            omega
          generalize hx : zs[j] = x at *
          have Hx := Lib.hid hx; clear hx
          obtain ⟨m, rfl⟩ := Int.eq_ofNat_of_zero_le hv.1
          have hm : m ≤ Plain.mc := by have := hnat.1; simpa using this
          clear hnat hv
          have hp := Plain.enc_length_pos m
          have htk : Plain.tk (encAll (zs.drop j)) = (m, (Plain.enc m).length) := by rw [Hd.out]; simpa using Plain.tk_enc m _ hm
          have hq := num_yes A1 n1 c1 wr.heap.size (encAll (zs.drop j)) wr (by omega) hn1 hcm1 hx1 (Nat.le_refl _) (by rw [htk]; show (Plain.enc m).length ≠ 0; omega)
          rw [htk] at hq
          have Hq := Lib.hid hq; clear hq htk
          have Hl1 := Lib.hid hl1; clear hl1
          subst hA
          go_wp2_with fail
          refine Hq.out.mono ?_
          rintro e w4 ⟨v4, rfl, hown4, hbel4⟩
          obtain ⟨A4, c4, rfl, hc4, hm4⟩ := own_shape hown4
          have hx4 := Rd.own hown4
          have g : w4.cell? ⟨b, off + j, none⟩ = some (.int .i64 (m : Int)) := (hbel4.cell (p := ⟨b, off + j, none⟩) (by have := hbel.size; show b < wr.heap.size; omega)).trans g0
          have hb4 := hbel.trans (hbel4.mono hbel.size)
          have hr4 := hr1.below hbel4 hbel.size
          have hne2 : ((m : Int) != (m : Int)) = false := by simp
          clear hown4 hbel4 hbel g0
          go_wp2_with fail
          go_roundw
          case rel =>
            refine ⟨j + 1, A4, _, c4, by omega, by go_num, rfl, hc4, hm4, ?_, hr4, hb4⟩
            have e : (encAll (zs.drop j)).drop (Plain.enc m).length = encAll (zs.drop (j + 1)) := by rw [Hd.out]; simp
            rw [e] at hx4
            exact hx4
          case measure => simp [intOf]; omega
        · have hjk : j = k := by omega
          subst hjk
          have h0 := hx1.1
          rw [List.drop_of_length_le (by rw [Hl.out]; omega)] at h0
          have h0' : n1 = 0 := by simpa [encAll] using h0.symm
          subst h0'
          go_wp2_with fail
          go_ret
          exact ⟨rfl, hbel⟩

set_option maxRecDepth 100000 in
set_option maxHeartbeats 1600000 in
theorem rows_no (A : Option Addr) (len cap : Nat) (zs : List Int) (W : World) (hr : Rd W W.heap.size A len (zs.map numCell)) (hlen : len ≤ 200) (hz : ∃ z ∈ zs, ¬ IsN z) :
    Calls Try.prog 7 #[.slice A len cap] W fun e w' => e = .returned (.bool true) ∧ Below W.heap.size W w' := by
  have hl := hr.1
  rw [List.length_map] at hl
  have Hl := Lib.hid hl; clear hl
  have Hz := Lib.hid hz; clear hz
  go_enter Try.func7, Try.ntmps7
  go_wp2_with fail
  refine (alive_any W).mono ?_
  rintro e w2 ⟨rfl, hB2⟩
  have hr2 := hr.below hB2 (Nat.le_refl _)
  go_wp2_with fail
  refine (nums_no A len cap W.heap.size zs w2 (by omega) hr2 hB2.size Hz.out).mono ?_
  rintro e w3 ⟨rfl, hbel3⟩
  have hB3 := hB2.trans (hbel3.mono hB2.size)
  have hr3 := hr2.below hbel3 hB2.size
  have Hr3 := Lib.hid hr3; clear hr3 hr2 hbel3 hB2
  have Hr := Lib.hid hr; clear hr
  go_wp2
  go_loop [5, 6] (fun s i => ∃ k t : Nat, k ≤ len ∧ i = .int .i64 k ∧ s = .int .i64 t ∧ t ≤ 6 * k ∧ ∀ z ∈ zs.take k, IsN z) (fun _ i => len - (intOf i).toNat)
  case atStart => exact ⟨0, 0, Nat.zero_le _, rfl, rfl, by omega, by simp⟩
  case round =>
    obtain ⟨k, t, hk, rfl, rfl, ht, hall⟩ := hrel
    have Hall := Lib.hid hall; clear hall
    by_cases hlt : k < len
    · obtain ⟨b, off, rfl, hb, hc⟩ := Hr3.out.2 (by omega)
      have hkl : k < zs.length := by rw [Hl.out]; exact hlt
      have g : w3.cell? ⟨b, off + k, none⟩ = some (.int .i64 zs[k]) := hc k _ (by rw [List.getElem?_map, List.getElem?_eq_getElem hkl]; rfl)
      clear hc
      have Ht := Lib.hid (take_snoc' zs k hkl)
      generalize hx : zs[k] = x at *
      have Hx := Lib.hid hx; clear hx
      by_cases hv : IsN x
      · have hnat := hv.nat
        obtain ⟨m, rfl⟩ := Int.eq_ofNat_of_zero_le hv.1
        have hm : m ≤ Plain.mc := by have := hnat.1; simpa using this
        clear hnat
        have Hv := Lib.hid hv; clear hv
        have h6 := Plain.enc_length_six hm
        have hp := Plain.enc_length_pos m
        have hne : (((Plain.enc m).length : Int) == 0) = false := by rw [beq_eq_false_iff_ne]; omega
        go_wp2_with (go_at_call 19; refine (size_yes m _ hm).mono ?_; rintro e w' ⟨rfl, rfl⟩)
        go_round
        case rel =>
          refine ⟨k + 1, t + (Plain.enc m).length, by omega, by go_num, by go_num, by omega, ?_⟩
          rw [Ht.out]
          intro z hz
          rcases List.mem_append.1 hz with h | h
          · exact Hall.out z h
          · rw [List.mem_singleton.1 h]; exact Hv.out
        case measure => simp [intOf]; omega
      · have hv' : x < 0 ∨ 1099511627776 < x := by unfold IsN at hv; omega
        have Hv := Lib.hid hv'; clear hv hv'
        go_wp2_with (go_at_call 19; refine (size_no _ _ Hv.out).mono ?_; rintro e w' ⟨rfl, rfl⟩)
        go_ret
        exact ⟨rfl, hB3⟩
    · exfalso
      have hkn : k = len := by omega
      subst hkn
      obtain ⟨z, hz, hnz⟩ := Hz.out
      have h := Hall.out
      rw [List.take_of_length_le (by rw [Hl.out]; omega)] at h
      exact hnz (h z hz)

set_option maxRecDepth 100000 in
theorem walk_WireRows (A : Option Addr) (len cap : Nat) (zs : List Int) (W : World) (hr : Rd W W.heap.size A len (zs.map numCell)) (hc : len ≤ cap) (hm : cap ≤ maxLen) :
    Calls Try.prog 7 #[.slice A len cap] W fun e w' => e = .returned (.bool true) ∧ Below W.heap.size W w' := by
  by_cases h : len ≤ 200
  · by_cases hz : ∀ z ∈ zs, IsN z
    · exact rows_yes A len cap zs W hr h hz
    · refine rows_no A len cap zs W hr h ?_
      simpa using hz
  · have h' : 200 < len := by omega
    clear hr hc hm
    go_enter Try.func7, Try.ntmps7
    go_wp2_with fail
    refine (alive_any W).mono ?_
    rintro e w2 ⟨rfl, hB2⟩
    go_wp2_with fail
    go_ret
    exact ⟨rfl, hB2⟩

end Go.Proofs.Ytaipjdfgedjdnaa
