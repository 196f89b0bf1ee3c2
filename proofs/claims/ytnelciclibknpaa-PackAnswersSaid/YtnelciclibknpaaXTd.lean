/-
  Plain mathematics of layer 2: numbers as groups of seven bits. No program is named here.
-/
import Derived.RowKit
import Derived.IntWalk
import Derived.WalkKit
import Derived.Laws.BitsAllLaws
import Derived.Laws.BitsLemmas
import Derived.Test.YtnelciclibknpaaXTa
import Derived.Test.YtnelciclibknpaaXTb
import Derived.Test.YtnelciclibknpaaXTc
namespace Go.Proofs.Ytnelciclibknpaa
namespace Plain

/-- The bytes of a number, as few as can be. -/
def enc (n : Nat) : List UInt8 :=
  if n < 128 then [UInt8.ofNat n] else UInt8.ofNat (n % 128 + 128) :: enc (n / 128)

theorem enc_small {n : Nat} (h : n < 128) : enc n = [UInt8.ofNat n] := by unfold enc; rw [if_pos h]
theorem enc_big {n : Nat} (h : 128 ≤ n) : enc n = UInt8.ofNat (n % 128 + 128) :: enc (n / 128) := by
  conv => lhs; unfold enc
  rw [if_neg (by omega)]

theorem enc_length_pos (n : Nat) : 0 < (enc n).length := by
  by_cases h : n < 128
  · rw [enc_small h]; simp
  · rw [enc_big (by omega)]; simp

/-- The greatest number of the document (behind a name: the walk unfolds great numerals). -/
def mc : Nat := 1099511627776
theorem mc_le {n : Nat} (h : n ≤ mc) : (n : Int) ≤ 1099511627776 := by unfold mc at h; omega
theorem mc_div {n : Nat} (h : n ≤ mc) : n / 128 ≤ mc := by unfold mc at h ⊢; omega
theorem mc_of {n : Nat} (h : (n : Int) ≤ 1099511627776) : n ≤ mc := by unfold mc; omega

/-- A number below 2^(7k) has at most k bytes. -/
theorem enc_length_le : ∀ (k n : Nat), n < 128 ^ (k + 1) → (enc n).length ≤ k + 1 := by
  intro k
  induction k with
  | zero => intro n h; rw [enc_small (by simpa using h)]; simp
  | succ k ih =>
    intro n h
    by_cases hn : n < 128
    · rw [enc_small hn]; simp
    · rw [enc_big (by omega), List.length_cons]
      have : n / 128 < 128 ^ (k + 1) := by
        rw [Nat.div_lt_iff_lt_mul (by omega)]
        rw [Nat.pow_succ] at h
        exact h
      have := ih _ this
      omega
theorem enc_length_six {n : Nat} (h : n ≤ mc) : (enc n).length ≤ 6 := enc_length_le 5 n (by unfold mc at h; omega)

theorem enc_mono_length : ∀ (a b : Nat), a ≤ b → (enc a).length ≤ (enc b).length := by
  intro a
  induction a using Nat.strongRecOn with
  | ind a ih =>
    intro b hab
    by_cases ha : a < 128
    · rw [enc_small ha]; have := enc_length_pos b; simp only [List.length_cons, List.length_nil]; omega
    · rw [enc_big (by omega : 128 ≤ a), enc_big (by omega : 128 ≤ b), List.length_cons, List.length_cons]
      have := ih (a / 128) (by omega) (b / 128) (Nat.div_le_div_right hab)
      omega

theorem size_step {n m k : Nat} (h1 : n ≤ mc) (hlt : 128 ≤ m) (h : k + (enc m).length = (enc n).length + 1) : k + 1 ≤ 7 ∧ k + 1 + (enc (m / 128)).length = (enc n).length + 1 := by
  rw [enc_big hlt, List.length_cons] at h
  have := enc_length_six h1
  have := enc_length_pos (m / 128)
  omega

/-- A byte as a cell. -/
def cell (c : UInt8) : Value := .int .u8 c.toNat

theorem ofInt64 (a : Nat) (ha : a < 9223372036854775808) : (BitVec.ofInt 64 (a : Int)).toNat = a := by
  rw [BitVec.ofInt_natCast, BitVec.toNat_ofNat]
  exact Nat.mod_eq_of_lt (by omega)
theorem and_i64 (a b : Nat) (ha : a < 9223372036854775808) (hb : b < 9223372036854775808) : bits .and .i64 (a : Int) (b : Int) = ((a &&& b : Nat) : Int) := by
  have hx : a &&& b < 2 ^ 63 := Nat.and_lt_two_pow _ (by omega)
  show IntKind.i64.wrap ((BitVec.ofInt 64 (a : Int) &&& BitVec.ofInt 64 (b : Int)).toNat : Int) = _
  rw [BitVec.toNat_and, ofInt64 a ha, ofInt64 b hb, IntKind.wrap_i64]
  omega
theorem or_i64 (a b : Nat) (ha : a < 9223372036854775808) (hb : b < 9223372036854775808) : bits .or .i64 (a : Int) (b : Int) = ((a ||| b : Nat) : Int) := by
  have hx : a ||| b < 2 ^ 63 := Nat.or_lt_two_pow (by omega) (by omega)
  show IntKind.i64.wrap ((BitVec.ofInt 64 (a : Int) ||| BitVec.ofInt 64 (b : Int)).toNat : Int) = _
  rw [BitVec.toNat_or, ofInt64 a ha, ofInt64 b hb, IntKind.wrap_i64]
  omega
theorem or_128 (r : Nat) (h : r < 128) : r ||| 128 = r + 128 := by
  have := Nat.two_pow_add_eq_or_of_lt (i := 7) (b := r) (by simpa using h) 1
  simp only [Nat.reducePow, Nat.mul_one] at this
  rw [Nat.or_comm, ← this, Nat.add_comm]
theorem byte_lo (m : Nat) (h : m ≤ mc) : bits .or .i64 (bits .and .i64 (m : Int) 127) 128 % 256 = ((UInt8.ofNat (m % 128 + 128)).toNat : Int) := by
  unfold mc at h
  have e1 := and_i64 m 127 (by omega) (by omega)
  have e3 : m &&& 127 = m % 128 := Nat.and_two_pow_sub_one_eq_mod m 7
  rw [e3] at e1
  have e2 := or_i64 (m % 128) 128 (by omega) (by omega)
  rw [or_128 _ (by omega)] at e2
  have e1' : bits .and .i64 (m : Int) 127 = ((m % 128 : Nat) : Int) := e1
  have e2' : bits .or .i64 ((m % 128 : Nat) : Int) 128 = ((m % 128 + 128 : Nat) : Int) := e2
  rw [e1', e2', UInt8.toNat_ofNat']
  omega
theorem byte_hi (m : Nat) (h : m < 128) : (m : Int) = ((UInt8.ofNat m).toNat : Int) := by
  rw [UInt8.toNat_ofNat']
  omega

end Plain
end Go.Proofs.Ytnelciclibknpaa
