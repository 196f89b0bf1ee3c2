/-
  Layer 2: takeText, Text.
-/
import Derived.Test.YtaipjdfgedjdnaaWNum
import Derived.Laws.BytesArg
set_option linter.unusedVariables false
namespace Go.Proofs.Ytaipjdfgedjdnaa
open Go.RowKit

/-- A string of bytes. -/
def str (l : List UInt8) : ByteArray := ⟨l.toArray⟩

theorem run_conv (w : World) {B n : Nat} {A : Option Addr} (c : Nat) {l : List UInt8} (hr : Rd w B A n (l.map Plain.cell)) :
    (convert 24 9 (.slice A n c)).run Try.prog w = .ok (.string (str l)) w := by
  rcases A with _ | ad
  · have h0 : n = 0 := by
      rcases Nat.eq_zero_or_pos n with h0 | h0
      · exact h0
      · obtain ⟨b, off, e, _⟩ := hr.2 h0
        cases e
    have hx : l = [] := by
      have := hr.1
      rw [List.length_map, h0] at this
      exact List.eq_nil_of_length_eq_zero this
    subst hx
    exact run_convert_bytes_nil w _ _ Try.underlying24 Try.underlying5 _ _ _ Try.underlying9
  · have hl := run_loadCells_list (P := Try.prog) w ad (l.map Plain.cell) hr.news
    rw [hr.1] at hl
    have e : l.map Plain.cell = (l.map fun c => (c.toNat : Int)).map (Value.int .u8) := by rw [List.map_map]; rfl
    rw [e] at hl
    rw [run_convert_bytes_string w _ _ _ _ n c Try.underlying24 Try.underlying5 Try.underlying9, run_bytesToString w _ n c _ hl, foldl_push_bytes, List.map_map]
    have e2 : l.map ((fun n : Int => UInt8.ofNat n.toNat) ∘ fun c : UInt8 => (c.toNat : Int)) = l := by
      conv => rhs; rw [← List.map_id l]
      apply List.map_congr_left
      intro c _
      simp
    rw [e2]
    simp [str, ByteArray.empty, ByteArray.emptyWithCapacity]
    rfl

/-- The text at the beginning of bytes, and what is behind it. -/
def tt (l : List UInt8) : Option (ByteArray × List UInt8) :=
  if (Plain.tk l).2 = 0 ∨ l.length - (Plain.tk l).2 < (Plain.tk l).1 then none
  else some (str ((l.drop (Plain.tk l).2).take (Plain.tk l).1), l.drop ((Plain.tk l).2 + (Plain.tk l).1))
theorem tt_none {l : List UInt8} (h : tt l = none) : (Plain.tk l).2 = 0 ∨ l.length - (Plain.tk l).2 < (Plain.tk l).1 := by
  unfold tt at h
  split at h
  · assumption
  · cases h
theorem tt_some {l : List UInt8} {S : ByteArray} {L : List UInt8} (h : tt l = some (S, L)) :
    (Plain.tk l).2 ≠ 0 ∧ (Plain.tk l).1 ≤ l.length - (Plain.tk l).2 ∧ S = str ((l.drop (Plain.tk l).2).take (Plain.tk l).1) ∧ L = l.drop ((Plain.tk l).2 + (Plain.tk l).1) := by
  unfold tt at h
  split at h
  · cases h
  · rename_i hn
    simp only [Option.some.injEq, Prod.mk.injEq] at h
    exact ⟨by omega, by omega, h.1.symm, h.2.symm⟩

set_option maxRecDepth 100000 in
set_option maxHeartbeats 400000 in
theorem takeText_no (A : Option Addr) (n c B : Nat) (l : List UInt8) (w : World) (hn : n ≤ maxLen) (hc : n ≤ c) (hr : Rd w B A n (l.map Plain.cell)) (h : (Plain.tk l).2 = 0 ∨ n - (Plain.tk l).2 < (Plain.tk l).1) :
    Calls Try.prog 32 #[.slice A n c] w fun e w' => e = .returned (.tuple #[.string ByteArray.empty, .slice none 0 0, .bool false]) ∧ w = w' := by
  have hl := hr.1
  rw [List.length_map] at hl
  have ht := takeNum_any A n c B l w hn hc hr
  have Ht := Lib.hid ht; clear ht hr
  unfold maxLen at hn
  by_cases h0 : (Plain.tk l).2 = 0
  · have Hz := Lib.hid (Plain.tk_zero l h0)
    rw [Hz.out] at Ht
    clear h h0 hl
    go_enter Try.func32, Try.ntmps32
    go_wp2_with (go_at_call 30; refine Ht.out.mono ?_; rintro e w' ⟨rfl, rfl⟩)
    go_ret3
    exact ⟨rfl, rfl⟩
  · have hrd := Plain.tk_read l h0
    have hsn : (Plain.tk l).2 ≤ n := by rw [← hl]; exact hrd.2.2.2
    have Hl := Lib.hid hl; clear hl hrd
    generalize (Plain.tk l).1 = m at *
    generalize (Plain.tk l).2 = s at *
    have hs0 : 0 < s := by omega
    have hsb : ((s : Int) == 0) = false := by rw [beq_eq_false_iff_ne]; omega
    have hg : (n : Int) - (s : Int) < (m : Int) := by omega
    clear h h0
    go_enter Try.func32, Try.ntmps32
    go_wp2_with (go_at_call 30; refine Ht.out.mono ?_; rintro e w' ⟨rfl, rfl⟩)
    go_ret3
    exact ⟨rfl, rfl⟩

set_option maxRecDepth 100000 in
set_option maxHeartbeats 400000 in
theorem takeText_yes (A : Option Addr) (n c B : Nat) (l : List UInt8) (w : World) (hc : n ≤ c) (hcm : c ≤ maxLen) (hr : Rd w B A n (l.map Plain.cell)) (h0 : (Plain.tk l).2 ≠ 0) (h : (Plain.tk l).1 ≤ n - (Plain.tk l).2) :
    Calls Try.prog 32 #[.slice A n c] w fun e w' =>
      ∃ A' c', e = .returned (.tuple #[.string (str ((l.drop (Plain.tk l).2).take (Plain.tk l).1)), .slice A' (n - ((Plain.tk l).2 + (Plain.tk l).1)) c', .bool true]) ∧
        Rd w B A' (n - ((Plain.tk l).2 + (Plain.tk l).1)) ((l.drop ((Plain.tk l).2 + (Plain.tk l).1)).map Plain.cell) ∧ n - ((Plain.tk l).2 + (Plain.tk l).1) ≤ c' ∧ c' ≤ maxLen ∧ ∃ q, w' = w.drewN q := by
  have hl := hr.1
  rw [List.length_map] at hl
  have ht := takeNum_any A n c B l w (by omega) hc hr
  have hrd := Plain.tk_read l h0
  have hsn : (Plain.tk l).2 ≤ n := by rw [← hl]; exact hrd.2.2.2
  have Ht := Lib.hid ht; clear ht
  have Hr := Lib.hid hr; clear hr
  have Hl := Lib.hid hl; clear hl hrd
  generalize (Plain.tk l).1 = m at *
  generalize (Plain.tk l).2 = s at *
  have hs0 : 0 < s := by omega
  have hsb : ((s : Int) == 0) = false := by rw [beq_eq_false_iff_ne]; omega
  have hg : (m : Int) ≤ (n : Int) - (s : Int) := by omega
  unfold maxLen at hcm
  clear h0
  by_cases h1 : c = s
  · obtain rfl : m = 0 := by omega
    obtain rfl : n = s := by omega
    obtain rfl : c = n := by omega
    have hconv : ∀ q, (convert 24 9 (.slice A 0 0)).run Try.prog (w.drewN q) = .ok (.string (str ((l.drop c).take 0))) (w.drewN q) := fun q =>
      run_conv (w.drewN q) (B := B) _ (by rw [List.take_zero]; exact Rd.nil_ _ _ _)
    clear hsn hc hg h h1
    go_enter Try.func32, Try.ntmps32
    go_wp2_with (go_at_call 30; refine Ht.out.mono ?_; rintro e w' ⟨rfl, rfl⟩)
    go_quiet (fail)
    go_wp2
    go_ret3
    exact ⟨A, 0, by simp, by rw [Nat.add_zero, Nat.sub_self, List.drop_of_length_le (by rw [Hl.out]; omega)]; exact Rd.nil_ _ _ _, by omega, by omega, _, rfl⟩
  · by_cases h2 : c = s + m
    · obtain rfl : n = s + m := by omega
      obtain rfl : c = s + m := by omega
      have h1' : s < s + m := by omega
      have hconv : ∀ q, (convert 24 9 (.slice (Option.map (fun x => x.add s) A) m m)).run Try.prog (w.drewN q) = .ok (.string (str ((l.drop s).take m))) (w.drewN q) := fun q =>
        run_conv (w.drewN q) (B := B) _ (by rw [List.map_take, List.map_drop]; exact ((Hr.out.drewN q).cut_in s).cut_end m (by omega))
      clear h1 h2 hc h
      go_enter Try.func32, Try.ntmps32
      go_wp2_with (go_at_call 30; refine Ht.out.mono ?_; rintro e w' ⟨rfl, rfl⟩)
      go_quiet (fail)
      go_wp2
      go_ret3
      exact ⟨_, _, rfl, by rw [List.map_drop]; exact Hr.out.cut_all (by omega), by omega, by unfold maxLen; omega, _, rfl⟩
    · have h1' : s < c := by omega
      have h2' : s + m < c := by omega
      have hconv : ∀ q, (convert 24 9 (.slice (Option.map (fun x => x.add s) A) m (c - s))).run Try.prog (w.drewN q) = .ok (.string (str ((l.drop s).take m))) (w.drewN q) := fun q =>
        run_conv (w.drewN q) (B := B) _ (by rw [List.map_take, List.map_drop]; exact ((Hr.out.drewN q).cut_in s).cut_end m (by omega))
      clear h1 h2
      go_enter Try.func32, Try.ntmps32
      go_wp2_with (go_at_call 30; refine Ht.out.mono ?_; rintro e w' ⟨rfl, rfl⟩)
      go_quiet (fail)
      go_wp2
      go_ret3
      exact ⟨_, _, rfl, by rw [List.map_drop]; exact Hr.out.cut_in (s + m), by omega, by unfold maxLen; omega, _, rfl⟩

set_option maxRecDepth 100000 in
set_option maxHeartbeats 400000 in
theorem text_yes (A : Option Addr) (n c B : Nat) (l : List UInt8) (w : World) (hn : n ≤ 1000000) (hc : n ≤ c) (hcm : c ≤ maxLen) (hr : Rd w B A n (l.map Plain.cell)) (hB : B ≤ w.heap.size) (h0 : (Plain.tk l).2 ≠ 0) (h : (Plain.tk l).1 ≤ n - (Plain.tk l).2) :
    Calls Try.prog 15 #[.slice A n c] w fun e w' =>
      ∃ v, e = .returned (.tuple #[.string (str ((l.drop (Plain.tk l).2).take (Plain.tk l).1)), v, .bool true]) ∧
        w'.ownsRow w.heap.size 5 1 v (n - ((Plain.tk l).2 + (Plain.tk l).1)) ((l.drop ((Plain.tk l).2 + (Plain.tk l).1)).map Plain.cell) ∧ Below w.heap.size w w' := by
  have ht := takeText_yes A n c B l w hc hcm hr h0 h
  have Ht := Lib.hid ht; clear ht
  generalize (Plain.tk l).1 = m at *
  generalize (Plain.tk l).2 = s at *
  generalize str ((l.drop s).take m) = S at *
  generalize l.drop (s + m) = L at *
  generalize hk : n - (s + m) = k at *
  have hk' : k ≤ 1000000 := by omega
  clear hk hr h h0
  go_enter Try.func15, Try.ntmps15
  go_wp2_with fail
  refine Ht.out.mono ?_
  rintro e w' ⟨A', c', rfl, hr', hc1, hc2, q, rfl⟩
  go_wp2_with fail
  refine (clone_any A' k c' B L (w.drewN q) hk' (hr'.drewN q) hB).mono ?_
  rintro e w1 ⟨v, rfl, hown, hbel⟩
  go_wp2_with fail
  go_ret3
  exact ⟨v, rfl, hown, ⟨hbel.os, hbel.tape, hbel.output, hbel.size, hbel.block⟩⟩

set_option maxRecDepth 100000 in
set_option maxHeartbeats 400000 in
theorem text_no (A : Option Addr) (n c B : Nat) (l : List UInt8) (w : World) (hn : n ≤ maxLen) (hc : n ≤ c) (hr : Rd w B A n (l.map Plain.cell)) (h : (Plain.tk l).2 = 0 ∨ n - (Plain.tk l).2 < (Plain.tk l).1) :
    Calls Try.prog 15 #[.slice A n c] w fun e w' =>
      ∃ v, e = .returned (.tuple #[.string ByteArray.empty, v, .bool false]) ∧ w'.ownsRow w.heap.size 5 1 v 0 [] ∧ Below w.heap.size w w' := by
  have ht := takeText_no A n c B l w hn hc hr h
  have Ht := Lib.hid ht; clear ht hr h
  go_enter Try.func15, Try.ntmps15
  go_wp2_with fail
  refine Ht.out.mono ?_
  rintro e w' ⟨rfl, rfl⟩
  go_wp2_with fail
  refine (clone_any none 0 0 0 [] w (by omega) (Rd.nil_ _ _ _) (Nat.zero_le _)).mono ?_
  rintro e w1 ⟨v, rfl, hown, hbel⟩
  go_wp2_with fail
  go_ret3
  exact ⟨v, rfl, hown, hbel⟩

end Go.Proofs.Ytaipjdfgedjdnaa
