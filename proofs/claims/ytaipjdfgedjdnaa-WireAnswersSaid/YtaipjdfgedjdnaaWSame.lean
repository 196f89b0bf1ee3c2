/-
  Layer 2: what a slice reads as; SameBytes.
-/
import Derived.Test.YtaipjdfgedjdnaaWLeaf
import Derived.Deep.LoopGhost
import Derived.Deep.Draws
import Derived.WalkSpells
namespace Go.Proofs.Ytaipjdfgedjdnaa
open Go.RowKit

/-- A slice's address, length and cells: nil and empty ones let in. Its block lies below B. -/
def Rd (w : World) (B : Nat) (A : Option Addr) (n : Nat) (xs : List Value) : Prop :=
  xs.length = n ∧ (0 < n → ∃ b off, A = some ⟨b, off, none⟩ ∧ b < B ∧ ∀ j u, xs[j]? = some u → w.cell? ⟨b, off + j, none⟩ = some u)

theorem Rd.nil_ (w : World) (B : Nat) (A : Option Addr) : Rd w B A 0 [] := ⟨rfl, fun h => absurd h (by omega)⟩
theorem Rd.keep {w w' : World} {B n : Nat} {A : Option Addr} {xs : List Value} (h : Rd w B A n xs) (hk : ∀ p : Addr, p.block < B → w'.cell? p = w.cell? p) : Rd w' B A n xs :=
  ⟨h.1, fun hn => by
    obtain ⟨b, off, e, hb, hc⟩ := h.2 hn
    exact ⟨b, off, e, hb, fun j u hu => (hk _ hb).trans (hc j u hu)⟩⟩
theorem Rd.below {w w' : World} {B B' n : Nat} {A : Option Addr} {xs : List Value} (h : Rd w B A n xs) (hb : Below B' w w') (hB : B ≤ B') : Rd w' B A n xs :=
  h.keep fun p hp => hb.cell (p := p) (by omega)
theorem Rd.more {w : World} {B B' n : Nat} {A : Option Addr} {xs : List Value} (h : Rd w B A n xs) (hB : B ≤ B') : Rd w B' A n xs :=
  ⟨h.1, fun hn => by
    obtain ⟨b, off, e, hb, hc⟩ := h.2 hn
    exact ⟨b, off, e, by omega, hc⟩⟩
theorem Rd.drewN {w : World} {B n : Nat} {A : Option Addr} {xs : List Value} (h : Rd w B A n xs) (k : Nat) : Rd (w.drewN k) B A n xs := h
theorem Rd.alloc {w : World} {B n : Nat} {A : Option Addr} {xs : List Value} (h : Rd w B A n xs) (hB : B ≤ w.heap.size) (o : Obj) : Rd (w.alloc o) B A n xs :=
  h.keep fun p hp => World.cell?_alloc_lt w o p (by omega)
/-- What is owned is read. -/
theorem Rd.own {w : World} {base n c : Nat} {e : TypeId} {A : Option Addr} {xs : List Value} (h : w.ownsRow base e 1 (.slice A n c) n xs) : Rd w w.heap.size A n xs := by
  refine ⟨by simpa using h.1, fun hn => ?_⟩
  rcases h.2 with ⟨h', h0⟩ | ⟨g, cap, cur, h', _, hg, _⟩
  · omega
  · have hc := h.cells (g := g) (by rw [h']; rfl)
    injection h' with hA hcap
    refine ⟨g, 0, hA, (Array.getElem?_eq_some_iff.1 hg).1, fun j u hu => ?_⟩
    have := hc j u hu
    have ea : (⟨g, 0, none⟩ : Addr).add j = ⟨g, 0 + j, none⟩ := by unfold Addr.add; split <;> simp_all
    rw [ea] at this
    exact this

set_option maxRecDepth 100000 in
set_option maxHeartbeats 400000 in
theorem sameBytes_yes (A1 A2 : Option Addr) (n c1 c2 B1 B2 : Nat) (l : List UInt8) (w : World) (hm : n ≤ maxLen)
    (h1 : Rd w B1 A1 n (l.map Plain.cell)) (h2 : Rd w B2 A2 n (l.map Plain.cell)) :
    Calls Try.prog 20 #[.slice A1 n c1, .slice A2 n c2] w fun e w' => e = .returned (.bool true) ∧ ∃ q, w' = w.drewN q := by
  unfold maxLen at hm
  have hl := h1.1
  rw [List.length_map] at hl
  have Hl := Lib.hid hl; clear hl
  have H1 := Lib.hid h1; clear h1
  have H2 := Lib.hid h2; clear h2
  go_enter Try.func20, Try.ntmps20
  go_wp2
  go_loopw [5] (fun i wr => ∃ k q : Nat, k ≤ n ∧ i = .int .i64 k ∧ wr = w.drewN q) (fun i _ => n - (intOf i).toNat)
  case atStart => exact ⟨0, 0, Nat.zero_le _, rfl, rfl⟩
  case round =>
    obtain ⟨k, q, hk, rfl, rfl⟩ := hrel
    by_cases hlt : k < n
    · obtain ⟨b1, o1, rfl, _, hc1⟩ := H1.out.2 (by omega)
      obtain ⟨b2, o2, rfl, _, hc2⟩ := H2.out.2 (by omega)
      have hkl : k < l.length := by rw [Hl.out]; exact hlt
      have g1 : w.cell? ⟨b1, o1 + k, none⟩ = some (.int .u8 (l[k].toNat : Int)) := hc1 k _ (by rw [List.getElem?_map, List.getElem?_eq_getElem hkl]; rfl)
      have g2 : w.cell? ⟨b2, o2 + k, none⟩ = some (.int .u8 (l[k].toNat : Int)) := hc2 k _ (by rw [List.getElem?_map, List.getElem?_eq_getElem hkl]; rfl)
      clear hc1 hc2
      have hi : (k : Int) < (n : Int) := by omega
      go_wp2

      go_quiet (fail)
      go_wp2
      go_roundw
      case rel => exact ⟨k + 1, _, by omega, by go_num, rfl⟩
      case measure => simp [intOf]; omega
    · go_wp2
      go_ret
      exact ⟨rfl, q, rfl⟩

set_option maxRecDepth 100000 in
theorem sameBytes_len (A1 A2 : Option Addr) (n m c1 c2 : Nat) (w : World) (hne : n ≠ m) :
    Calls Try.prog 20 #[.slice A1 n c1, .slice A2 m c2] w fun e w' => e = .returned (.bool false) ∧ ∃ q, w' = w.drewN q := by
  have hb : ((n : Int) != (m : Int)) = true := by rw [bne_iff_ne]; omega
  go_enter Try.func20, Try.ntmps20
  go_wp2
  go_ret
  exact ⟨rfl, 0, rfl⟩

theorem take_snoc' {α : Type} (l : List α) (k : Nat) (h : k < l.length) : l.take (k + 1) = l.take k ++ [l[k]] := by
  rw [List.take_succ_eq_append_getElem h]

set_option maxRecDepth 100000 in
set_option maxHeartbeats 400000 in
theorem sameBytes_no (A1 A2 : Option Addr) (n c1 c2 B1 B2 : Nat) (l1 l2 : List UInt8) (w : World) (hm : n ≤ maxLen)
    (h1 : Rd w B1 A1 n (l1.map Plain.cell)) (h2 : Rd w B2 A2 n (l2.map Plain.cell)) (hne : l1 ≠ l2) :
    Calls Try.prog 20 #[.slice A1 n c1, .slice A2 n c2] w fun e w' => e = .returned (.bool false) ∧ ∃ q, w' = w.drewN q := by
  unfold maxLen at hm
  have hl1 := h1.1
  have hl2 := h2.1
  rw [List.length_map] at hl1 hl2
  have Hl1 := Lib.hid hl1; clear hl1
  have Hl2 := Lib.hid hl2; clear hl2
  have H1 := Lib.hid h1; clear h1
  have H2 := Lib.hid h2; clear h2
  have Hne := Lib.hid hne; clear hne
  go_enter Try.func20, Try.ntmps20
  go_wp2
  go_loopw [5] (fun i wr => ∃ k q : Nat, k ≤ n ∧ l1.take k = l2.take k ∧ i = .int .i64 k ∧ wr = w.drewN q) (fun i _ => n - (intOf i).toNat)
  case atStart => exact ⟨0, 0, Nat.zero_le _, rfl, rfl, rfl⟩
  case round =>
    obtain ⟨k, q, hk, ht, rfl, rfl⟩ := hrel
    have Ht := Lib.hid ht; clear ht
    by_cases hlt : k < n
    · obtain ⟨b1, o1, rfl, _, hc1⟩ := H1.out.2 (by omega)
      obtain ⟨b2, o2, rfl, _, hc2⟩ := H2.out.2 (by omega)
      have hk1 : k < l1.length := by rw [Hl1.out]; exact hlt
      have hk2 : k < l2.length := by rw [Hl2.out]; exact hlt
      have g1 : w.cell? ⟨b1, o1 + k, none⟩ = some (.int .u8 (l1[k].toNat : Int)) := hc1 k _ (by rw [List.getElem?_map, List.getElem?_eq_getElem hk1]; rfl)
      have g2 : w.cell? ⟨b2, o2 + k, none⟩ = some (.int .u8 (l2[k].toNat : Int)) := hc2 k _ (by rw [List.getElem?_map, List.getElem?_eq_getElem hk2]; rfl)
      clear hc1 hc2
      have hi : (k : Int) < (n : Int) := by omega
      by_cases he : l1[k] = l2[k]
      · have Hs := Lib.hid (show l1.take (k + 1) = l2.take (k + 1) by rw [take_snoc' _ _ hk1, take_snoc' _ _ hk2, Ht.out, he])
        have hbe : ((l1[k].toNat : Int) != (l2[k].toNat : Int)) = false := by rw [he]; simp
        clear he
        go_wp2
        go_quiet (fail)
        go_wp2
        go_roundw
        case rel => exact ⟨k + 1, _, by omega, Hs.out, by go_num, rfl⟩
        case measure => simp [intOf]; omega
      · have hbe : ((l1[k].toNat : Int) != (l2[k].toNat : Int)) = true := by
          rw [bne_iff_ne]
          intro h
          exact he (UInt8.toNat_inj.1 (by omega))
        clear he
        go_wp2
        go_quiet (fail)
        go_wp2
        go_ret
        exact ⟨rfl, _, World.drewN_drewN _ _ _⟩
    · exfalso
      have hkn : k = n := by omega
      subst hkn
      have h := Ht.out
      rw [List.take_of_length_le (by rw [Hl1.out]; omega), List.take_of_length_le (by rw [Hl2.out]; omega)] at h
      exact Hne.out h

end Go.Proofs.Ytaipjdfgedjdnaa
