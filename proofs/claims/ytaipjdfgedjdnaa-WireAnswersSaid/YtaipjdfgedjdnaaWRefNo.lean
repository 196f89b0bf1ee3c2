/-
  Layer 2: the references: Num where there is no number.
-/
import Derived.Test.YtaipjdfgedjdnaaWRefTexts
set_option linter.unusedVariables false
namespace Go.Proofs.Ytaipjdfgedjdnaa
open Go.RowKit

set_option maxRecDepth 100000 in
set_option maxHeartbeats 1600000 in
theorem refNum_no (A : Option Addr) (n c B : Nat) (l : List UInt8) (w : World) (hn : n ≤ 1000000) (hc : n ≤ c) (hcm : c ≤ maxLen) (hr : Rd w B A n (l.map Plain.cell)) (hB : B ≤ w.heap.size) (h : (Plain.tk l).2 = 0) :
    Calls Try.prog 14 #[.slice A n c] w fun e w' => e = .returned (.tuple #[.int .i64 0, .slice none 0 0, .bool false]) ∧ Below w.heap.size w w' := by
  have hl := hr.1
  rw [List.length_map] at hl
  have Hl := Lib.hid hl; clear hl
  have Hr := Lib.hid hr; clear hr
  have H := Lib.hid h; clear h
  unfold maxLen at hcm
  go_enter Try.func14, Try.ntmps14
  go_wp2
  go_loop [5, 6, 7] (fun a o i => ∃ k m : Nat, k ≤ n ∧ k ≤ 6 ∧ i = .int .i64 k ∧ o = .int .i64 (128 ^ k : Nat) ∧ a = .int .i64 m ∧ Plain.Mid l k m) (fun _ _ i => 6 - (intOf i).toNat)
  case atStart => exact ⟨0, 0, Nat.zero_le _, by omega, rfl, rfl, rfl, Plain.mid_start l⟩
  case round =>
    obtain ⟨k, m, hk, hk6, rfl, rfl, rfl, hm⟩ := hrel
    by_cases hend : 6 ≤ k ∨ n ≤ k
    · clear hm
      by_cases hkn : k < n
      · have hk6' : 6 ≤ k := by omega
        clear hend
        go_wp2
        go_ret3
        exact ⟨rfl, Below.refl _ _⟩
      · have hkn' : n ≤ k := by omega
        clear hend
        go_wp2
        go_ret3
        exact ⟨rfl, Below.refl _ _⟩
    · have hk1 : k < n := by omega
      have hk2 : k < 6 := by omega
      obtain ⟨b, off, hA, hb, hc⟩ := Hr.out.2 (by omega)
      have hkl : k < l.length := by rw [Hl.out]; exact hk1
      have g : w.cell? ⟨b, off + k, none⟩ = some (.int .u8 (l[k].toNat : Int)) := hc k _ (by rw [List.getElem?_map, List.getElem?_eq_getElem hkl]; rfl)
      clear hc hend
      have hbyte := l[k].toNat_lt
      have hP : 128 ^ k ≤ 34359738368 := by have := Nat.pow_le_pow_right (n := 128) (by omega) (show k ≤ 5 by omega); omega
      have Hv := Lib.hid (ref_val m l[k].toNat k hk2 hm.1 hbyte)
      have Hpow := Lib.hid (show ((128 ^ k : Nat) : Int) * 128 = ((128 ^ (k + 1) : Nat) : Int) by rw [Nat.pow_succ]; push_cast; rfl)
      by_cases hx : 128 ≤ l[k].toNat
      · have Hgo := Lib.hid (Plain.mid_go hm hk2 hkl hx)
        clear hm
        generalize hx' : l[k].toNat = x at *
        have Hx := Lib.hid hx'; clear hx'
        generalize hPP : 128 ^ k = P at *
        have HPP := Lib.hid hPP; clear hPP
        subst hA
        go_wp2
        go_round
        case rel => exact ⟨k + 1, _, by omega, by omega, by go_num, by rw [Hpow.out], by rw [Hv.out], Hgo.out⟩
        case measure => simp [intOf]; omega
      · have htk := Plain.tk_of_raw (Plain.mid_end hm hk2 hkl (by omega))
        have hcond : ¬ (m + l[k].toNat * 128 ^ k ≤ Plain.mc ∧ (Plain.enc (m + l[k].toNat * 128 ^ k)).length = k + 1) := by
          intro hc
          rw [if_pos hc] at htk
          have := H.out
          rw [htk] at this
          simp at this
        clear htk hm
        have Hcond := Lib.hid hcond; clear hcond
        generalize hx' : l[k].toNat = x at *
        have Hx := Lib.hid hx'; clear hx'
        have e : x % 128 = x := by omega
        rw [e] at Hv
        clear e
        generalize hV : m + x * 128 ^ k = V at *
        have HV := Lib.hid hV; clear hV
        generalize hPP : 128 ^ k = P at *
        have HPP := Lib.hid hPP; clear hPP
        subst hA
        by_cases hmc1 : V ≤ Plain.mc
        · have Hlen := Lib.hid (fun hh => Hcond.out ⟨hmc1, hh⟩)
          have hmle := Plain.mc_le hmc1
          have hdec : decide ((1099511627776 : Int) < (V : Int)) = false := by simp; omega
          go_wp2
          rw [Hv.out]
          have hbw : b < w.heap.size := by omega
          have q1 : (0 : Int) ≤ (k : Int) + 1 := by omega
          have q2 : (k : Int) + 1 ≤ (c : Int) := by omega
          have q3 : IntKind.i64.wrap ((k : Int) + 1) = (k : Int) + 1 := IntWalk.i64_in _ (by omega)
          have q4 : ((k : Int) + 1).toNat = k + 1 := by omega
          have q5 : k + 1 ≤ c := by omega
          go_region_held3 (fun w' => w'.cell? ⟨b, off + k, none⟩ = some (.int .u8 x)) (first | go_keep | exact (hb1.cell (p := ⟨b, off + k, none⟩) (by simpa using hbw)).trans g | exact (hb1.cell (p := ⟨b, off + k, none⟩) hbw).trans g) ((first
            | (go_at_call 29; refine (refOne_any V _ hmc1).mono ?_; rintro e w1 ⟨v1, rfl, hown1, hb1⟩; obtain ⟨A1, c1, rfl, _, _⟩ := own_shape hown1; have hs1 : w.heap.size ≤ w1.heap.size := hb1.size; clear hown1)
            | (go_at_call 20; refine (sameBytes_len A1 _ (Plain.enc V).length (k + 1) c1 _ _ (fun hh => Hlen.out hh)).mono ?_; rintro e w2 ⟨rfl, q, rfl⟩)))
          have h1 : Below w.heap.size w w1 := ⟨hb1.os, hb1.tape, hb1.output, hb1.size, hb1.block⟩
          have hb5 := below_drewN h1 q
          go_wp2_with fail
          go_ret3
          exact ⟨rfl, hb5⟩
        · have hgt : (1099511627776 : Int) < (V : Int) := by unfold Plain.mc at hmc1; omega
          have hdec : decide ((1099511627776 : Int) < (V : Int)) = true := by simp; omega
          go_wp2
          rw [Hv.out]
          go_quiet (fail)
          go_wp2
          go_ret3
          exact ⟨rfl, below_drewN (Below.refl _ _) _⟩

end Go.Proofs.Ytaipjdfgedjdnaa
