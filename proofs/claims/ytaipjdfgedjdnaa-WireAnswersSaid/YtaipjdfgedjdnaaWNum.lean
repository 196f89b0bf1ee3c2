/-
  Layer 2: Num, takeText, Text.
-/
import Derived.Test.YtaipjdfgedjdnaaWClone
set_option linter.unusedVariables false
namespace Go.Proofs.Ytaipjdfgedjdnaa
open Go.RowKit

set_option maxRecDepth 100000 in
set_option maxHeartbeats 400000 in
theorem num_yes (A : Option Addr) (n c B : Nat) (l : List UInt8) (w : World) (hn : n ≤ 1000000) (hc : n ≤ c) (hcm : c ≤ maxLen) (hr : Rd w B A n (l.map Plain.cell)) (hB : B ≤ w.heap.size) (h : (Plain.tk l).2 ≠ 0) :
    Calls Try.prog 13 #[.slice A n c] w fun e w' =>
      ∃ v, e = .returned (.tuple #[.int .i64 ((Plain.tk l).1 : Nat), v, .bool true]) ∧ w'.ownsRow w.heap.size 5 1 v (n - (Plain.tk l).2) ((l.drop (Plain.tk l).2).map Plain.cell) ∧ Below w.heap.size w w' := by
  have hl := hr.1
  rw [List.length_map] at hl
  have hrd := Plain.tk_read l h
  have ht := takeNum_any A n c B l w (by unfold maxLen; omega) hc hr
  have hsn : (Plain.tk l).2 ≤ n := by rw [← hl]; exact hrd.2.2.2
  have Hl := Lib.hid hl; clear hl hrd
  have Hr := Lib.hid hr; clear hr
  have Ht := Lib.hid ht; clear ht
  generalize (Plain.tk l).1 = m at *
  generalize (Plain.tk l).2 = s at *
  have hs0 : 0 < s := by omega
  have hsb : ((s : Int) == 0) = false := by rw [beq_eq_false_iff_ne]; omega
  clear h
  unfold maxLen at hcm
  go_enter Try.func13, Try.ntmps13
  go_wp2_with (go_at_call 30; refine Ht.out.mono ?_; rintro e w' ⟨rfl, rfl⟩)
  · rename_i hcs
    refine (clone_any _ _ _ B (l.drop s) _ (by omega) (by rw [List.map_drop]; exact Hr.out.cut_all (by omega)) hB).mono ?_
    rintro e w1 ⟨v, rfl, hown, hbel⟩
    go_wp2
    refine bodyPost_ret (results_tmp3 rfl _ _ _) rfl ?_
    exact ⟨v, rfl, hown, hbel⟩
  · refine (clone_any _ _ _ B (l.drop s) _ (by omega) (by rw [List.map_drop]; exact Hr.out.cut_in s) hB).mono ?_
    rintro e w1 ⟨v, rfl, hown, hbel⟩
    go_wp2
    go_ret3
    exact ⟨v, rfl, hown, hbel⟩

set_option maxRecDepth 100000 in
set_option maxHeartbeats 400000 in
theorem num_no (A : Option Addr) (n c B : Nat) (l : List UInt8) (w : World) (hn : n ≤ 1000000) (hc : n ≤ c) (hr : Rd w B A n (l.map Plain.cell)) (h : (Plain.tk l).2 = 0) :
    Calls Try.prog 13 #[.slice A n c] w fun e w' => e = .returned (.tuple #[.int .i64 0, .slice none 0 0, .bool false]) ∧ w = w' := by
  have ht := takeNum_any A n c B l w (by unfold maxLen; omega) hc hr
  rw [Plain.tk_zero l h] at ht
  have Ht := Lib.hid ht; clear ht hr h
  go_enter Try.func13, Try.ntmps13
  go_wp2_with (go_at_call 30; refine Ht.out.mono ?_; rintro e w' ⟨rfl, rfl⟩)
  go_ret3
  exact ⟨rfl, rfl⟩

end Go.Proofs.Ytaipjdfgedjdnaa
