/-
  Layer 2: what the statements ask of sizes; CopyBytes; Text, said of a text.
-/
import Derived.Test.YtaipjdfgedjdnaaWAlive
set_option linter.unusedVariables false
namespace Go.Proofs.Ytaipjdfgedjdnaa
open Go.RowKit

def lensum : List ByteArray → Nat
  | [] => 0
  | s :: r => 1 + s.size + lensum r
theorem lensum_append : ∀ a b : List ByteArray, lensum (a ++ b) = lensum a + lensum b
  | [], b => by simp [lensum]
  | s :: r, b => by simp only [List.cons_append, lensum, lensum_append r b]; omega
theorem lensum_take (ss : List ByteArray) (k : Nat) : lensum (ss.take k) ≤ lensum ss := by
  have h := lensum_append (ss.take k) (ss.drop k)
  rw [List.take_append_drop] at h
  omega
theorem lensum_count : ∀ ss : List ByteArray, ss.length ≤ lensum ss
  | [] => by simp [lensum]
  | s :: r => by have := lensum_count r; simp only [List.length_cons, lensum]; omega
/-- Behind a name: the walk unfolds great numerals. -/
def reach : Nat := 140737488351232
theorem reach_le {n : Nat} (h : n ≤ reach) : (n : Int) ≤ 140737488351232 := by unfold reach at h; omega
theorem lensum_snoc (ss : List ByteArray) (k : Nat) (h : k < ss.length) : lensum (ss.take (k + 1)) = lensum (ss.take k) + (1 + ss[k].size) := by
  rw [take_snoc' _ _ h, lensum_append]
  simp [lensum]

set_option maxRecDepth 100000 in
set_option maxHeartbeats 800000 in
theorem lengths_small (A : Option Addr) (n c B : Nat) (ss : List ByteArray) (w : World) (hr : Rd w B A n (ss.map Value.string)) (h : lensum ss ≤ 2000) :
    Calls Try.prog 26 #[.slice A n c, .int .i64 2000] w fun e w' => e = .returned (.int .i64 (lensum ss)) ∧ w = w' := by
  have hl := hr.1
  rw [List.length_map] at hl
  have hcount := lensum_count ss
  have hn : n ≤ 2000 := by omega
  have Hl := Lib.hid hl; clear hl
  have Hr := Lib.hid hr; clear hr
  clear hcount
  go_enter Try.func26, Try.ntmps26
  go_wp2
  go_loop [5, 6] (fun s i => ∃ k : Nat, k ≤ n ∧ i = .int .i64 k ∧ s = .int .i64 (lensum (ss.take k))) (fun _ i => n - (intOf i).toNat)
  case atStart => exact ⟨0, Nat.zero_le _, rfl, rfl⟩
  case round =>
    obtain ⟨k, hk, rfl, rfl⟩ := hrel
    have hle := lensum_take ss k
    by_cases hlt : k < n
    · obtain ⟨b, off, rfl, hb, hc⟩ := Hr.out.2 (by omega)
      have hkl : k < ss.length := by rw [Hl.out]; exact hlt
      have g : w.cell? ⟨b, off + k, none⟩ = some (.string ss[k]) := hc k _ (by rw [List.getElem?_map, List.getElem?_eq_getElem hkl]; rfl)
      clear hc
      have hs := lensum_snoc ss k hkl
      have hle2 := lensum_take ss (k + 1)
      have hsz : ss[k].size ≤ 2000 := by omega
      have Hs := Lib.hid hs; clear hs hle2
      generalize hx : ss[k] = x at *
      have Hx := Lib.hid hx; clear hx
      go_wp2
      go_round
      case rel => exact ⟨k + 1, by omega, by go_num, by rw [Hs.out]; go_num⟩
      case measure => simp [intOf]; omega
    · have hkn : k = n := by omega
      subst hkn
      have e : ss.take k = ss := List.take_of_length_le (by rw [Hl.out]; omega)
      rw [e]
      go_wp2
      go_ret
      exact ⟨rfl, rfl⟩

set_option maxRecDepth 100000 in
set_option maxHeartbeats 800000 in
theorem lengths_big (A : Option Addr) (n c B : Nat) (ss : List ByteArray) (w : World) (hr : Rd w B A n (ss.map Value.string)) (hsz : ∀ s ∈ ss, s.size ≤ reach) (h : 2000 < lensum ss) :
    Calls Try.prog 26 #[.slice A n c, .int .i64 2000] w fun e w' => (∃ r : Int, e = .returned (.int .i64 r) ∧ 2000 < r) ∧ w = w' := by
  have hl := hr.1
  rw [List.length_map] at hl
  have Hl := Lib.hid hl; clear hl
  have Hr := Lib.hid hr; clear hr
  have Hsz := Lib.hid hsz; clear hsz
  by_cases hn : n ≤ 2000
  · go_enter Try.func26, Try.ntmps26
    go_wp2
    go_loop [5, 6] (fun s i => ∃ k : Nat, k ≤ n ∧ i = .int .i64 k ∧ s = .int .i64 (lensum (ss.take k)) ∧ lensum (ss.take k) ≤ 140737488353233) (fun _ i => n - (intOf i).toNat)
    case atStart => exact ⟨0, Nat.zero_le _, rfl, rfl, by simp [lensum]⟩
    case round =>
      obtain ⟨k, hk, rfl, rfl, hbd⟩ := hrel
      by_cases hbig : lensum (ss.take k) ≤ 2000
      · have hlt : k < n := by
          rcases Nat.lt_or_ge k n with h1 | h1
          · exact h1
          · exfalso
            rw [List.take_of_length_le (by rw [Hl.out]; omega)] at hbig
            omega
        obtain ⟨b, off, rfl, hb, hc⟩ := Hr.out.2 (by omega)
        have hkl : k < ss.length := by rw [Hl.out]; exact hlt
        have g : w.cell? ⟨b, off + k, none⟩ = some (.string ss[k]) := hc k _ (by rw [List.getElem?_map, List.getElem?_eq_getElem hkl]; rfl)
        clear hc
        have hs := lensum_snoc ss k hkl
        have hx2 := reach_le (Hsz.out ss[k] (by simp))
        have Hs := Lib.hid hs; clear hs
        generalize hx : ss[k] = x at *
        have Hx := Lib.hid hx; clear hx hbd
        go_wp2
        go_round
        case rel => exact ⟨k + 1, by omega, by go_num, by rw [Hs.out]; go_num, by rw [Hs.out]; omega⟩
        case measure => simp [intOf]; omega
      · have hgt : (2000 : Int) < (lensum (ss.take k) : Int) := by omega
        have hdec : decide ((lensum (ss.take k) : Int) ≤ 2000) = false := by simp; omega
        by_cases hlt : k < n
        all_goals
          go_wp2
          go_ret
          exact ⟨⟨_, rfl, hgt⟩, rfl⟩
  · have hn' : 2000 < n := by omega
    go_enter Try.func26, Try.ntmps26
    go_wp2
    go_ret
    exact ⟨⟨_, rfl, by omega⟩, rfl⟩

theorem ret_b {a b : Bool} (h : a = b) : Ending.returned (.bool a) = .returned (.bool b) := by rw [h]

set_option maxRecDepth 100000 in
theorem great_no (A A2 : Option Addr) (n c n2 c2 B : Nat) (ss : List ByteArray) (w : World) (hr : Rd w B A n (ss.map Value.string)) (h : lensum ss ≤ 2000) (h2 : n2 ≤ 3000) :
    Calls Try.prog 9 #[.slice A n c, .slice A2 n2 c2] w fun e w' => e = .returned (.bool false) ∧ w = w' := by
  have Hq := Lib.hid (lengths_small A n c B ss w hr h)
  clear hr
  go_enter Try.func9, Try.ntmps9
  go_wp2_with fail
  refine Hq.out.mono ?_
  rintro e w' ⟨rfl, rfl⟩
  go_wp2_with fail
  go_ret
  exact ⟨ret_b (by simp <;> omega), rfl⟩

set_option maxRecDepth 100000 in
theorem great_yes (A A2 : Option Addr) (n c n2 c2 B : Nat) (ss : List ByteArray) (w : World) (hr : Rd w B A n (ss.map Value.string)) (hsz : ∀ s ∈ ss, s.size ≤ reach) (h : 2000 < lensum ss ∨ 3000 < n2) :
    Calls Try.prog 9 #[.slice A n c, .slice A2 n2 c2] w fun e w' => e = .returned (.bool true) ∧ w = w' := by
  by_cases h1 : 2000 < lensum ss
  · have Hq := Lib.hid (lengths_big A n c B ss w hr hsz h1)
    clear hr hsz
    go_enter Try.func9, Try.ntmps9
    go_wp2_with fail
    refine Hq.out.mono ?_
    rintro e w' ⟨⟨r, rfl, hr⟩, rfl⟩
    go_wp2_with fail
    go_ret
    exact ⟨ret_b (by simp <;> omega), rfl⟩
  · have h2 : 3000 < n2 := by omega
    have h1' : lensum ss ≤ 2000 := by omega
    have Hq := Lib.hid (lengths_small A n c B ss w hr h1')
    clear hr hsz h h1
    go_enter Try.func9, Try.ntmps9
    go_wp2_with fail
    refine Hq.out.mono ?_
    rintro e w' ⟨rfl, rfl⟩
    go_wp2_with fail
    go_ret
    exact ⟨ret_b (by simp <;> omega), rfl⟩

set_option maxRecDepth 100000 in
set_option maxHeartbeats 400000 in
theorem copyBytes_any (A : Option Addr) (n c B : Nat) (l : List UInt8) (w : World) (hn : n ≤ 1000000) (hr : Rd w B A n (l.map Plain.cell)) (hB : B ≤ w.heap.size) :
    Calls Try.prog 10 #[.slice A n c] w fun e w' =>
      ∃ v, e = .returned v ∧ w'.ownsRow w.heap.size 5 1 v n (l.map Plain.cell) ∧ Below w.heap.size w w' := by
  obtain ⟨i0, hi0, hz0, hz1, hz2⟩ := info_parts info5
  have hown0 : (w.alloc (.cells #[] 5)).ownsRow w.heap.size 5 1 (.slice (some ⟨w.heap.size, 0, none⟩) 0 0) 0 [] := World.ownsRow_lit w #[] 0 (Nat.le_refl _) (by unfold maxLen; omega) rfl
  have hr1 := hr.alloc hB (.cells #[] 5)
  clear hr
  go_enter Try.func10, Try.ntmps10
  go_wp2_with (at_builtin; refine wpList_append_some _ rfl _ _ 24 rfl w.heap.size 5 i0 (.int .u8 0) 1 1 Try.underlying24 hi0 hz0 hz1 hz2 rfl rfl _ _ _ rfl hown0 A n c (l.map Plain.cell) B rfl hr1 (cells_one l) (by unfold maxLen; omega) (by omega) (by simp) ?_; intro v' w1 hown' hgrow')
  go_ret
  refine ⟨v', rfl, by simpa using hown', ?_⟩
  exact ((Below.refl w.heap.size w).alloc (Nat.le_refl _) _).grown hgrow' (by simp) fun k hk => (hown0.lt k hk).1

theorem text_some (A : Option Addr) (n c B : Nat) (l : List UInt8) (w : World) (S : ByteArray) (L : List UInt8) (hn : n ≤ 1000000) (hc : n ≤ c) (hcm : c ≤ maxLen) (hr : Rd w B A n (l.map Plain.cell)) (hB : B ≤ w.heap.size) (h : tt l = some (S, L)) :
    Calls Try.prog 15 #[.slice A n c] w fun e w' =>
      ∃ v, e = .returned (.tuple #[.string S, v, .bool true]) ∧ w'.ownsRow w.heap.size 5 1 v L.length (L.map Plain.cell) ∧ Below w.heap.size w w' := by
  have hl := hr.1
  rw [List.length_map] at hl
  obtain ⟨h0, h1, rfl, rfl⟩ := tt_some h
  rw [hl] at h1
  refine (text_yes A n c B l w hn hc hcm hr hB h0 h1).mono ?_
  rintro e w' ⟨v, he, hown, hb⟩
  refine ⟨v, he, ?_, hb⟩
  rw [List.length_drop, hl]
  exact hown

end Go.Proofs.Ytaipjdfgedjdnaa
