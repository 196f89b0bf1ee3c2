/-
  Layer 2: the contracts of the leaves: isNumber, Size, putNum.
-/
import Derived.Test.YtaipjdfgedjdnaaRows
import Derived.Test.YtaipjdfgedjdnaaWPlain
import Derived.WalkKit
import Derived.ProofKit
import Derived.Below
import Derived.BigQuiet
import Derived.Deep.QuietTactic
import Derived.Lib.Hide
import Derived.Outline
import Derived.LoopTactic
import Derived.Maps.AppendAt
import Derived.OwnWalk
namespace Go.Proofs.Ytaipjdfgedjdnaa
open Go.RowKit

theorem ret_i64 {a b : Int} (h : a = b) : Ending.returned (.int .i64 a) = .returned (.int .i64 b) := by rw [h]
/-- Behind an append onto a row of the call's own, with a block laid for the new cells. -/
theorem below_app {base n : Nat} {e : TypeId} {size : Nat} {w wr w1 : World} {v : Value} {xs : List Value} (o : Obj) (h : Below base w wr) (hown : wr.ownsRow base e size v n xs)
    (hb : base ≤ wr.heap.size) (hg : (wr.alloc o).grownBy w1 v.ownBlock) : Below base w w1 :=
  (h.alloc hb o).grown hg (by simp; omega) fun k hk => (hown.lt k hk).1
theorem isNumber_yes (n : Int) (w : World) (h0 : 0 ≤ n) (h1 : n ≤ 1099511627776) :
    Calls Try.prog 27 #[.int .i64 n] w fun e w' => e = .returned (.bool true) ∧ w = w' := by
  go_enter Try.func27, Try.ntmps27
  go_wp2
  go_ret
  exact ⟨rfl, rfl⟩

theorem isNumber_no (n : Int) (w : World) (h : n < 0 ∨ 1099511627776 < n) :
    Calls Try.prog 27 #[.int .i64 n] w fun e w' => e = .returned (.bool false) ∧ w = w' := by
  rcases h with h | h
  · go_enter Try.func27, Try.ntmps27
    go_wp2
    go_ret
    exact ⟨rfl, rfl⟩
  · have h0 : 0 ≤ n := by omega
    have hb : decide (n ≤ 1099511627776) = false := by simp; omega
    go_enter Try.func27, Try.ntmps27
    go_wp2
    go_ret
    exact ⟨rfl, rfl⟩

theorem size_no (n : Int) (w : World) (h : n < 0 ∨ 1099511627776 < n) :
    Calls Try.prog 19 #[.int .i64 n] w fun e w' => e = .returned (.int .i64 0) ∧ w = w' := by
  go_enter Try.func19, Try.ntmps19
  go_wp2_with (go_at_call 27; refine (isNumber_no _ _ h).mono ?_; rintro e w' ⟨rfl, rfl⟩)
  go_ret
  exact ⟨rfl, rfl⟩

set_option maxRecDepth 100000 in
theorem size_yes (n : Nat) (w : World) (h1 : n ≤ Plain.mc) :
    Calls Try.prog 19 #[.int .i64 n] w fun e w' => e = .returned (.int .i64 (Plain.enc n).length) ∧ w = w' := by
  go_enter Try.func19, Try.ntmps19
  go_wp2_with (go_at_call 27; refine (isNumber_yes _ _ (by omega) (Plain.mc_le h1)).mono ?_; rintro e w' ⟨rfl, rfl⟩)
  go_loop [0, 3] (fun a s => ∃ m k : Nat, m ≤ Plain.mc ∧ k ≤ 7 ∧ k + (Plain.enc m).length = (Plain.enc n).length + 1 ∧ a = .int .i64 m ∧ s = .int .i64 k) (fun a _ => (intOf a).toNat)
  case atStart => exact ⟨n, 1, h1, by omega, by omega, rfl, rfl⟩
  case round =>
    obtain ⟨m, k, hm, hk, he, rfl, rfl⟩ := hrel
    have H := Lib.hid he; clear he
    by_cases hlt : 128 ≤ m
    · have hd := Plain.mc_div hm
      have hb := Plain.size_step h1 hlt H.out
      go_wp2
      go_round
      case rel => exact ⟨m / 128, k + 1, hd, hb.1, hb.2, by go_num, by go_num⟩
      case measure => simp [intOf]; omega
    · go_wp2
      go_ret
      have := H.out
      rw [Plain.enc_small (by omega : m < 128), List.length_singleton] at this
      have e : (k : Int) = ((Plain.enc n).length : Int) := by omega
      exact ⟨ret_i64 e, rfl⟩

/-! ### putNum: onto a row of the call's own -/
theorem info5 : (Try.prog.info? 5).map (fun i => (i.zero, i.size, i.bytes)) = some (some (.int .u8 0), 1, 1) := by kernel_rfl

set_option maxRecDepth 100000 in
set_option maxHeartbeats 400000 in
theorem putNum_any (v : Value) (k : Nat) (xs : List Value) (n : Nat) (base : Nat) (w : World) (h1 : n ≤ Plain.mc) (hk : k ≤ 1000000)
    (hown : w.ownsRow base 5 1 v k xs) (hbase : base ≤ w.heap.size) :
    Calls Try.prog 28 #[v, .int .i64 n] w fun e w' =>
      ∃ v', e = .returned v' ∧ w'.ownsRow base 5 1 v' (k + (Plain.enc n).length) (xs ++ (Plain.enc n).map Plain.cell) ∧ Below base w w' := by
  obtain ⟨i0, hi0, hz0, hz1, hz2⟩ := info_parts info5
  go_enter Try.func28, Try.ntmps28
  go_wp2
  go_loopw [0, 1] (fun a b wr => ∃ (m j : Nat) (ys : List Value), m ≤ Plain.mc ∧ b = .int .i64 m ∧ wr.ownsRow base 5 1 a j ys ∧ j + (Plain.enc m).length = k + (Plain.enc n).length ∧ ys ++ (Plain.enc m).map Plain.cell = xs ++ (Plain.enc n).map Plain.cell ∧ Below base w wr) (fun _ b _ => (intOf b).toNat)
  case atStart => exact ⟨n, k, xs, h1, rfl, hown, rfl, rfl, Below.refl _ _⟩
  case round =>
    obtain ⟨m, j, ys, hm, rfl, hown1, hj, hys, hbel⟩ := hrel
    have Hj := Lib.hid hj; clear hj
    have Hys := Lib.hid hys; clear hys
    have hsz := hbel.size
    have hj' : j ≤ 1000006 := by have := Hj.out; have := Plain.enc_length_six h1; have := Plain.enc_length_pos m; omega
    by_cases hlt : 128 ≤ m
    · have hd := Plain.mc_div hm
      go_wp2_with (at_builtin; refine wpList_append_own _ rfl _ _ 24 rfl base 5 i0 (.int .u8 0) 1 1 Try.underlying24 hi0 hz0 hz1 hz2 rfl (by decide) _ _ _ rfl (hown1.alloc _) ⟨wr.heap.size, 0, none⟩ 1 1 [.int .u8 (bits .or .i64 (bits .and .i64 (m : Int) 127) 128 % 256)] rfl rfl (cell_one_new _ _ _) (fun x hx => by simp at hx; subst hx; rfl) (by unfold maxLen; omega) (by omega) (by simp; omega) ?_; intro v' w1 hown' hgrow' _; have hb' := below_app _ hbel hown1 (by omega) hgrow'; clear hgrow' hown1)
      go_roundw
      case rel =>
        refine ⟨m / 128, j + 1, _, hd, by go_num, hown', ?_, ?_, hb'⟩
        · have := Hj.out; rw [Plain.enc_big hlt, List.length_cons] at this; omega
        · have := Hys.out
          rw [Plain.enc_big hlt, List.map_cons, List.append_cons] at this
          rw [Plain.byte_lo m hm]
          exact this
      case measure => simp [intOf]; omega
    · go_wp2_with (at_builtin; refine wpList_append_own _ rfl _ _ 24 rfl base 5 i0 (.int .u8 0) 1 1 Try.underlying24 hi0 hz0 hz1 hz2 rfl (by decide) _ _ _ rfl (hown1.alloc _) ⟨wr.heap.size, 0, none⟩ 1 1 [.int .u8 (m : Int)] rfl rfl (cell_one_new _ _ _) (fun x hx => by simp at hx; subst hx; rfl) (by unfold maxLen; omega) (by omega) (by simp; omega) ?_; intro v' w1 hown' hgrow' _; have hb' := below_app _ hbel hown1 (by omega) hgrow'; clear hgrow' hown1)
      go_ret
      have h1 := Hj.out
      have h2 := Hys.out
      rw [Plain.enc_small (by omega : m < 128)] at h1 h2
      have e : Value.int .u8 (m : Int) = Plain.cell (UInt8.ofNat m) := by unfold Plain.cell; rw [← Plain.byte_hi m (by omega)]
      refine ⟨v', rfl, ?_, hb'⟩
      rw [e] at hown'
      rw [← h1, ← h2]
      exact hown'

end Go.Proofs.Ytaipjdfgedjdnaa
