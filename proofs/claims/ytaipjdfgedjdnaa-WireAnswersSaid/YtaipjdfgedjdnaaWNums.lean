/-
  Layer 2: Nums.
-/
import Derived.Test.YtaipjdfgedjdnaaWSame
namespace Go.Proofs.Ytaipjdfgedjdnaa
open Go.RowKit

def numCell (z : Int) : Value := .int .i64 z
def IsN (z : Int) : Prop := 0 ≤ z ∧ z ≤ 1099511627776
def encAll (zs : List Int) : List UInt8 := zs.flatMap fun z => Plain.enc z.toNat
theorem encAll_snoc (zs : List Int) (z : Int) : encAll (zs ++ [z]) = encAll zs ++ Plain.enc z.toNat := by simp [encAll]
theorem IsN.nat {z : Int} (h : IsN z) : z.toNat ≤ Plain.mc ∧ ((z.toNat : Nat) : Int) = z := by
  unfold IsN at h
  unfold Plain.mc
  omega
theorem encAll_length : ∀ (zs : List Int), (∀ z ∈ zs, IsN z) → (encAll zs).length ≤ 6 * zs.length := by
  intro zs
  induction zs with
  | nil => intro _; simp [encAll]
  | cons z zs ih =>
    intro h
    have h1 := Plain.enc_length_six (h z (by simp)).nat.1
    have h2 := ih fun x hx => h x (by simp [hx])
    have e : encAll (z :: zs) = Plain.enc z.toNat ++ encAll zs := rfl
    rw [e, List.length_append, List.length_cons]
    omega

set_option maxRecDepth 100000 in
set_option maxHeartbeats 800000 in
theorem nums_yes (A : Option Addr) (n c B : Nat) (zs : List Int) (w : World) (hn : n ≤ 1000) (hr : Rd w B A n (zs.map numCell)) (hB : B ≤ w.heap.size) (hz : ∀ z ∈ zs, IsN z) :
    Calls Try.prog 11 #[.slice A n c] w fun e w' =>
      ∃ v, e = .returned (.tuple #[v, .bool true]) ∧ w'.ownsRow w.heap.size 5 1 v (encAll zs).length ((encAll zs).map Plain.cell) ∧ Below w.heap.size w w' := by
  have hl := hr.1
  rw [List.length_map] at hl
  have Hl := Lib.hid hl; clear hl
  have Hz := Lib.hid hz; clear hz
  have Hr := Lib.hid hr; clear hr
  go_enter Try.func11, Try.ntmps11
  go_wp2
  go_loopw [4, 9] (fun v i wr => ∃ k : Nat, k ≤ n ∧ i = .int .i64 k ∧ wr.ownsRow w.heap.size 5 1 v (encAll (zs.take k)).length ((encAll (zs.take k)).map Plain.cell) ∧ Below w.heap.size w wr) (fun _ i _ => n - (intOf i).toNat)
  case atStart => exact ⟨0, Nat.zero_le _, rfl, World.ownsRow_nil _ _ _ _, Below.refl _ _⟩
  case round =>
    obtain ⟨k, hk, rfl, hown, hbel⟩ := hrel
    by_cases hlt : k < n
    · obtain ⟨b, off, rfl, hb, hc⟩ := Hr.out.2 (by omega)
      have hkl : k < zs.length := by rw [Hl.out]; exact hlt
      have hv := Hz.out zs[k] (by simp)
      have hnat := hv.nat
      have hlen := encAll_length (zs.take k) (fun z hz => Hz.out z (List.mem_of_mem_take hz))
      have hlen2 : (zs.take k).length ≤ k := List.length_take_le _ _
      have g : wr.cell? ⟨b, off + k, none⟩ = some (.int .i64 zs[k]) := by
        rw [hbel.cell (p := ⟨b, off + k, none⟩) (by show b < w.heap.size; omega)]
        exact hc k _ (by rw [List.getElem?_map, List.getElem?_eq_getElem hkl]; rfl)
      clear hc
      have Hs := Lib.hid (show encAll (zs.take (k + 1)) = encAll (zs.take k) ++ Plain.enc zs[k].toNat by rw [take_snoc' _ _ hkl, encAll_snoc])
      generalize hx : zs[k] = x at *
      have Hx := Lib.hid hx; clear hx
      obtain ⟨m, rfl⟩ := Int.eq_ofNat_of_zero_le hv.1
      have hm : m ≤ Plain.mc := by have := hnat.1; simpa using this
      clear hnat
      have hsz := hbel.size
      go_wp2_with (first
        | (go_at_call 27; refine (isNumber_yes _ _ (by omega) (Plain.mc_le hm)).mono ?_; rintro e w' ⟨rfl, rfl⟩)
        | (go_at_call 28; refine (putNum_any _ _ _ m w.heap.size _ hm (by omega) hown hsz).mono ?_; rintro e w1 ⟨v', rfl, hown', hbel'⟩; have hb2 := hbel.trans hbel'; clear hown hbel))
      go_roundw
      case rel =>
        refine ⟨k + 1, by omega, by go_num, ?_, hb2⟩
        rw [Hs.out, List.length_append, List.map_append]
        simpa using hown'
      case measure => simp [intOf]; omega
    · have hkn : k = n := by omega
      subst hkn
      have e : zs.take k = zs := List.take_of_length_le (by rw [Hl.out]; omega)
      rw [e] at hown
      go_wp2
      go_ret2
      exact ⟨_, rfl, hown, hbel⟩

set_option maxRecDepth 100000 in
set_option maxHeartbeats 800000 in
theorem nums_no (A : Option Addr) (n c B : Nat) (zs : List Int) (w : World) (hn : n ≤ 1000) (hr : Rd w B A n (zs.map numCell)) (hB : B ≤ w.heap.size) (hz : ∃ z ∈ zs, ¬ IsN z) :
    Calls Try.prog 11 #[.slice A n c] w fun e w' =>
      e = .returned (.tuple #[.slice none 0 0, .bool false]) ∧ Below w.heap.size w w' := by
  have hl := hr.1
  rw [List.length_map] at hl
  have Hl := Lib.hid hl; clear hl
  have Hz := Lib.hid hz; clear hz
  have Hr := Lib.hid hr; clear hr
  go_enter Try.func11, Try.ntmps11
  go_wp2
  go_loopw [4, 9] (fun v i wr => ∃ k : Nat, k ≤ n ∧ i = .int .i64 k ∧ (∀ z ∈ zs.take k, IsN z) ∧ (∃ xs, wr.ownsRow w.heap.size 5 1 v (encAll (zs.take k)).length xs) ∧ Below w.heap.size w wr) (fun _ i _ => n - (intOf i).toNat)
  case atStart => exact ⟨0, Nat.zero_le _, rfl, by simp, ⟨[], World.ownsRow_nil _ _ _ _⟩, Below.refl _ _⟩
  case round =>
    obtain ⟨k, hk, rfl, hall, ⟨xs, hown⟩, hbel⟩ := hrel
    have Hall := Lib.hid hall; clear hall
    by_cases hlt : k < n
    · obtain ⟨b, off, rfl, hb, hc⟩ := Hr.out.2 (by omega)
      have hkl : k < zs.length := by rw [Hl.out]; exact hlt
      have hlen := encAll_length (zs.take k) Hall.out
      have hlen2 : (zs.take k).length ≤ k := List.length_take_le _ _
      have g : wr.cell? ⟨b, off + k, none⟩ = some (.int .i64 zs[k]) := by
        rw [hbel.cell (p := ⟨b, off + k, none⟩) (by show b < w.heap.size; omega)]
        exact hc k _ (by rw [List.getElem?_map, List.getElem?_eq_getElem hkl]; rfl)
      clear hc
      have Hs := Lib.hid (show encAll (zs.take (k + 1)) = encAll (zs.take k) ++ Plain.enc zs[k].toNat by rw [take_snoc' _ _ hkl, encAll_snoc])
      have Ht := Lib.hid (take_snoc' zs k hkl)
      have hsz := hbel.size
      by_cases hv : IsN zs[k]
      · have hnat := hv.nat
        generalize hx : zs[k] = x at *
        have Hx := Lib.hid hx; clear hx
        obtain ⟨m, rfl⟩ := Int.eq_ofNat_of_zero_le hv.1
        have hm : m ≤ Plain.mc := by have := hnat.1; simpa using this
        clear hnat
        have Hv := Lib.hid hv; clear hv
        go_wp2_with (first
          | (go_at_call 27; refine (isNumber_yes _ _ (by omega) (Plain.mc_le hm)).mono ?_; rintro e w' ⟨rfl, rfl⟩)
          | (go_at_call 28; refine (putNum_any _ _ _ m w.heap.size _ hm (by omega) hown hsz).mono ?_; rintro e w1 ⟨v', rfl, hown', hbel'⟩; have hb2 := hbel.trans hbel'; clear hown hbel))
        go_roundw
        case rel =>
          refine ⟨k + 1, by omega, by go_num, ?_, ⟨xs ++ (Plain.enc m).map Plain.cell, ?_⟩, hb2⟩
          · rw [Ht.out]
            intro z hz
            rcases List.mem_append.1 hz with h | h
            · exact Hall.out z h
            · rw [List.mem_singleton.1 h]; exact Hv.out
          · rw [Hs.out, List.length_append]
            simpa using hown'
        case measure => simp [intOf]; omega
      · have hv' : zs[k] < 0 ∨ 1099511627776 < zs[k] := by unfold IsN at hv; omega
        have Hv := Lib.hid hv'; clear hv hv'
        go_wp2_with (go_at_call 27; refine (isNumber_no _ _ Hv.out).mono ?_; rintro e w' ⟨rfl, rfl⟩)
        go_ret2
        exact ⟨rfl, hbel⟩
    · exfalso
      have hkn : k = n := by omega
      subst hkn
      obtain ⟨z, hz, hnz⟩ := Hz.out
      have h := Hall.out
      rw [List.take_of_length_le (by rw [Hl.out]; omega)] at h
      exact hnz (h z hz)

end Go.Proofs.Ytaipjdfgedjdnaa
