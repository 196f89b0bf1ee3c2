/-
  Layer 2: the references: One, Nums, Texts, List.
-/
import Derived.Test.YtaipjdfgedjdnaaWGreat
import Derived.Test.YtaipjdfgedjdnaaWOne
set_option linter.unusedVariables false
namespace Go.Proofs.Ytaipjdfgedjdnaa
open Go.RowKit

set_option maxRecDepth 100000 in
set_option maxHeartbeats 800000 in
theorem refOne_any (n : Nat) (w : World) (h1 : n ≤ Plain.mc) :
    Calls Try.prog 29 #[.int .i64 n] w fun e w' =>
      ∃ v', e = .returned v' ∧ w'.ownsRow w.heap.size 5 1 v' (Plain.enc n).length ((Plain.enc n).map Plain.cell) ∧ Below w.heap.size w w' := by
  obtain ⟨i0, hi0, hz0, hz1, hz2⟩ := info_parts info5
  have hown0 : (w.alloc (.cells #[] 5)).ownsRow w.heap.size 5 1 (.slice (some ⟨w.heap.size, 0, none⟩) 0 0) 0 [] := World.ownsRow_lit w #[] 0 (Nat.le_refl _) (by unfold maxLen; omega) rfl
  have hb0 : Below w.heap.size w (w.alloc (.cells #[] 5)) := (Below.refl _ _).alloc (Nat.le_refl _) _
  have h6 := Plain.enc_length_six h1
  go_enter Try.func29, Try.ntmps29
  go_wp2
  go_loopw [0, 3] (fun b a wr => ∃ (m j : Nat) (ys : List Value), m ≤ Plain.mc ∧ b = .int .i64 m ∧ wr.ownsRow w.heap.size 5 1 a j ys ∧ j + (Plain.enc m).length = (Plain.enc n).length ∧ ys ++ (Plain.enc m).map Plain.cell = (Plain.enc n).map Plain.cell ∧ Below w.heap.size w wr) (fun b _ _ => (intOf b).toNat)
  case atStart => exact ⟨n, 0, [], h1, rfl, hown0, by omega, rfl, hb0⟩
  case round =>
    obtain ⟨m, j, ys, hm, rfl, hown1, hj, hys, hbel⟩ := hrel
    have Hj := Lib.hid hj; clear hj
    have Hys := Lib.hid hys; clear hys
    have hsz := hbel.size
    have hj' : j ≤ 6 := by have := Hj.out; omega
    clear hown0 hb0
    by_cases hlt : 128 ≤ m
    · have hd := Plain.mc_div hm
      have hmle := Plain.mc_le hm
      go_wp2_with (at_builtin; refine wpList_append_own _ rfl _ _ 24 rfl w.heap.size 5 i0 (.int .u8 0) 1 1 Try.underlying24 hi0 hz0 hz1 hz2 rfl (by decide) _ _ _ rfl (hown1.alloc _) ⟨wr.heap.size, 0, none⟩ 1 1 [.int .u8 ((m : Int) % 128 + 128)] rfl rfl (cell_one_new _ _ _) (fun x hx => by simp at hx; subst hx; rfl) (by unfold maxLen; omega) (by omega) (by simp; omega) ?_; intro v' w1 hown' hgrow' _; have hb' := below_app _ hbel hown1 (by omega) hgrow'; clear hgrow' hown1)
      go_roundw
      case rel =>
        refine ⟨m / 128, j + 1, _, hd, by go_num, hown', ?_, ?_, hb'⟩
        · have := Hj.out; rw [Plain.enc_big hlt, List.length_cons] at this; omega
        · have := Hys.out
          rw [Plain.enc_big hlt, List.map_cons, List.append_cons] at this
          have e : (m : Int) % 128 + 128 = ((UInt8.ofNat (m % 128 + 128)).toNat : Int) := by rw [UInt8.toNat_ofNat']; omega
          rw [e]
          exact this
      case measure => simp [intOf]; omega
    · go_wp2_with (at_builtin; refine wpList_append_own _ rfl _ _ 24 rfl w.heap.size 5 i0 (.int .u8 0) 1 1 Try.underlying24 hi0 hz0 hz1 hz2 rfl (by decide) _ _ _ rfl (hown1.alloc _) ⟨wr.heap.size, 0, none⟩ 1 1 [.int .u8 (m : Int)] rfl rfl (cell_one_new _ _ _) (fun x hx => by simp at hx; subst hx; rfl) (by unfold maxLen; omega) (by omega) (by simp; omega) ?_; intro v' w1 hown' hgrow' _; have hb' := below_app _ hbel hown1 (by omega) hgrow'; clear hgrow' hown1)
      go_ret
      have h1 := Hj.out
      have h2 := Hys.out
      rw [Plain.enc_small (by omega : m < 128)] at h1 h2
      have e : Value.int .u8 (m : Int) = Plain.cell (UInt8.ofNat m) := by unfold Plain.cell; rw [← Plain.byte_hi m (by omega)]
      refine ⟨v', rfl, ?_, hb'⟩
      rw [e] at hown'
      rw [← h1, ← h2]
      exact hown'

set_option maxRecDepth 100000 in
set_option maxHeartbeats 800000 in
theorem refNums_yes (A : Option Addr) (n c B : Nat) (zs : List Int) (w : World) (hn : n ≤ 1000) (hr : Rd w B A n (zs.map numCell)) (hB : B ≤ w.heap.size) (hz : ∀ z ∈ zs, IsN z) :
    Calls Try.prog 12 #[.slice A n c] w fun e w' =>
      ∃ v, e = .returned (.tuple #[v, .bool true]) ∧ w'.ownsRow w.heap.size 5 1 v (encAll zs).length ((encAll zs).map Plain.cell) ∧ Below w.heap.size w w' := by
  obtain ⟨i0, hi0, hz0, hz1, hz2⟩ := info_parts info5
  have hown0 : (w.alloc (.cells #[] 5)).ownsRow w.heap.size 5 1 (.slice (some ⟨w.heap.size, 0, none⟩) 0 0) 0 [] := World.ownsRow_lit w #[] 0 (Nat.le_refl _) (by unfold maxLen; omega) rfl
  have hb0 : Below w.heap.size w (w.alloc (.cells #[] 5)) := (Below.refl _ _).alloc (Nat.le_refl _) _
  have hl := hr.1
  rw [List.length_map] at hl
  have Hl := Lib.hid hl; clear hl
  have Hz := Lib.hid hz; clear hz
  have Hr := Lib.hid hr; clear hr
  go_enter Try.func12, Try.ntmps12
  go_wp2
  go_loopw [4, 5] (fun v i wr => ∃ k : Nat, k ≤ n ∧ i = .int .i64 k ∧ wr.ownsRow w.heap.size 5 1 v (encAll (zs.take k)).length ((encAll (zs.take k)).map Plain.cell) ∧ Below w.heap.size w wr) (fun _ i _ => n - (intOf i).toNat)
  case atStart => exact ⟨0, Nat.zero_le _, rfl, hown0, hb0⟩
  case round =>
    obtain ⟨k, hk, rfl, hown, hbel⟩ := hrel
    clear hown0 hb0
    by_cases hlt : k < n
    · obtain ⟨b, off, rfl, hb, hc⟩ := Hr.out.2 (by omega)
      have hkl : k < zs.length := by rw [Hl.out]; exact hlt
      have hv := Hz.out zs[k] (by simp)
      have hnat := hv.nat
      have hlen := encAll_length (zs.take k) (fun z hz => Hz.out z (List.mem_of_mem_take hz))
      have hlen2 : (zs.take k).length ≤ k := List.length_take_le _ _
      have g : wr.cell? ⟨b, off + k, none⟩ = some (.int .i64 zs[k]) := by
        rw [hbel.cell (p := ⟨b, off + k, none⟩) (by show b < w.heap.size; omega)]
        exact hc k _ (by rw [List.getElem?_map, List.getElem?_eq_getElem hkl]; rfl)
      clear hc
      have Hs := Lib.hid (show encAll (zs.take (k + 1)) = encAll (zs.take k) ++ Plain.enc zs[k].toNat by rw [take_snoc' _ _ hkl, encAll_snoc])
      generalize hx : zs[k] = x at *
      have Hx := Lib.hid hx; clear hx
      have hge := hv.1
      have hle := hv.2
      obtain ⟨m, rfl⟩ := Int.eq_ofNat_of_zero_le hv.1
      have hm : m ≤ Plain.mc := by have := hnat.1; simpa using this
      have h6 := Plain.enc_length_six hm
      clear hnat hv
      have hsz := hbel.size
      go_wp2_with fail
      refine (refOne_any m wr hm).mono ?_
      rintro e w1 ⟨v', rfl, hown', hbel'⟩
      have hb2 := hbel.trans (hbel'.mono hsz)
      have hown2 := own_below hown hbel'
      have hs1 : w.heap.size ≤ w1.heap.size := hb2.size
      obtain ⟨A', c', rfl, _, _⟩ := own_shape hown'
      have hx' := Rd.own hown'
      clear hown hbel hown' hbel'
      go_wp2_with (at_builtin; refine wpList_append_some _ rfl _ _ 24 rfl w.heap.size 5 i0 (.int .u8 0) 1 1 Try.underlying24 hi0 hz0 hz1 hz2 rfl rfl _ _ _ rfl hown2 A' _ c' _ w1.heap.size rfl hx' (cells_one _) (by unfold maxLen; omega) (by omega) hs1 ?_; intro v3 w3 hown3 hgrow3; have hb3 := below_app1 hb2 hown2 hs1 (Nat.le_refl _) hgrow3; clear hgrow3 hown2 hb2 hx')
      go_roundw
      case rel =>
        refine ⟨k + 1, by omega, by go_num, ?_, hb3⟩
        rw [Hs.out, List.length_append, List.map_append]
        simpa using hown3
      case measure => simp [intOf]; omega
    · have hkn : k = n := by omega
      subst hkn
      have e : zs.take k = zs := List.take_of_length_le (by rw [Hl.out]; omega)
      rw [e] at hown
      go_wp2
      go_ret2
      exact ⟨_, rfl, hown, hbel⟩

set_option maxRecDepth 100000 in
set_option maxHeartbeats 800000 in
theorem refNums_no (A : Option Addr) (n c B : Nat) (zs : List Int) (w : World) (hn : n ≤ 1000) (hr : Rd w B A n (zs.map numCell)) (hB : B ≤ w.heap.size) (hz : ∃ z ∈ zs, ¬ IsN z) :
    Calls Try.prog 12 #[.slice A n c] w fun e w' =>
      e = .returned (.tuple #[.slice none 0 0, .bool false]) ∧ Below w.heap.size w w' := by
  obtain ⟨i0, hi0, hz0, hz1, hz2⟩ := info_parts info5
  have hown0 : (w.alloc (.cells #[] 5)).ownsRow w.heap.size 5 1 (.slice (some ⟨w.heap.size, 0, none⟩) 0 0) 0 [] := World.ownsRow_lit w #[] 0 (Nat.le_refl _) (by unfold maxLen; omega) rfl
  have hb0 : Below w.heap.size w (w.alloc (.cells #[] 5)) := (Below.refl _ _).alloc (Nat.le_refl _) _
  have hl := hr.1
  rw [List.length_map] at hl
  have Hl := Lib.hid hl; clear hl
  have Hz := Lib.hid hz; clear hz
  have Hr := Lib.hid hr; clear hr
  go_enter Try.func12, Try.ntmps12
  go_wp2
  go_loopw [4, 5] (fun v i wr => ∃ k : Nat, k ≤ n ∧ i = .int .i64 k ∧ (∀ z ∈ zs.take k, IsN z) ∧ (∃ xs, wr.ownsRow w.heap.size 5 1 v (encAll (zs.take k)).length xs) ∧ Below w.heap.size w wr) (fun _ i _ => n - (intOf i).toNat)
  case atStart => exact ⟨0, Nat.zero_le _, rfl, by simp, ⟨[], hown0⟩, hb0⟩
  case round =>
    obtain ⟨k, hk, rfl, hall, ⟨xs, hown⟩, hbel⟩ := hrel
    clear hown0 hb0
    have Hall := Lib.hid hall; clear hall
    by_cases hlt : k < n
    · obtain ⟨b, off, rfl, hb, hc⟩ := Hr.out.2 (by omega)
      have hkl : k < zs.length := by rw [Hl.out]; exact hlt
      have hlen := encAll_length (zs.take k) Hall.out
      have hlen2 : (zs.take k).length ≤ k := List.length_take_le _ _
      have g : wr.cell? ⟨b, off + k, none⟩ = some (.int .i64 zs[k]) := by
        rw [hbel.cell (p := ⟨b, off + k, none⟩) (by show b < w.heap.size; omega)]
        exact hc k _ (by rw [List.getElem?_map, List.getElem?_eq_getElem hkl]; rfl)
      clear hc
      have Hs := Lib.hid (show encAll (zs.take (k + 1)) = encAll (zs.take k) ++ Plain.enc zs[k].toNat by rw [take_snoc' _ _ hkl, encAll_snoc])
      have Ht := Lib.hid (take_snoc' zs k hkl)
      have hsz := hbel.size
      generalize hx : zs[k] = x at *
      have Hx := Lib.hid hx; clear hx
      by_cases hv : IsN x
      · have hnat := hv.nat
        have hge := hv.1
        have hle := hv.2
        obtain ⟨m, rfl⟩ := Int.eq_ofNat_of_zero_le hv.1
        have hm : m ≤ Plain.mc := by have := hnat.1; simpa using this
        have h6 := Plain.enc_length_six hm
        clear hnat
        have Hv := Lib.hid hv; clear hv
        go_wp2_with fail
        refine (refOne_any m wr hm).mono ?_
        rintro e w1 ⟨v', rfl, hown', hbel'⟩
        have hb2 := hbel.trans (hbel'.mono hsz)
        have hown2 := own_below hown hbel'
        have hs1 : w.heap.size ≤ w1.heap.size := hb2.size
        obtain ⟨A', c', rfl, _, _⟩ := own_shape hown'
        have hx' := Rd.own hown'
        clear hown hbel hown' hbel'
        go_wp2_with (at_builtin; refine wpList_append_some _ rfl _ _ 24 rfl w.heap.size 5 i0 (.int .u8 0) 1 1 Try.underlying24 hi0 hz0 hz1 hz2 rfl rfl _ _ _ rfl hown2 A' _ c' _ w1.heap.size rfl hx' (cells_one _) (by unfold maxLen; omega) (by omega) hs1 ?_; intro v3 w3 hown3 hgrow3; have hb3 := below_app1 hb2 hown2 hs1 (Nat.le_refl _) hgrow3; clear hgrow3 hown2 hb2 hx')
        go_roundw
        case rel =>
          refine ⟨k + 1, by omega, by go_num, ?_, ⟨xs ++ (Plain.enc m).map Plain.cell, ?_⟩, hb3⟩
          · rw [Ht.out]
            intro z hz
            rcases List.mem_append.1 hz with h | h
            · exact Hall.out z h
            · rw [List.mem_singleton.1 h]; exact Hv.out
          · rw [Hs.out, List.length_append]
            simpa using hown3
        case measure => simp [intOf]; omega
      · have hv' : x < 0 ∨ 1099511627776 < x := by unfold IsN at hv; omega
        clear hv
        rcases hv' with hneg | hgt
        · go_wp2
          go_ret2
          exact ⟨rfl, hbel⟩
        · have hge : 0 ≤ x := by omega
          have hd : decide (1099511627776 < x) = true := by simp; omega
          go_wp2
          go_ret2
          exact ⟨rfl, hbel⟩
    · exfalso
      have hkn : k = n := by omega
      subst hkn
      obtain ⟨z, hz, hnz⟩ := Hz.out
      have h := Hall.out
      rw [List.take_of_length_le (by rw [Hl.out]; omega)] at h
      exact hnz (h z hz)

end Go.Proofs.Ytaipjdfgedjdnaa
