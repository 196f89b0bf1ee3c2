/-
  Plain mathematics of layer 2: the number at the beginning of bytes.
-/
import Derived.Test.YtnelciclibknpaaXTa
import Derived.Test.YtnelciclibknpaaXTb
import Derived.Test.YtnelciclibknpaaXTc
import Derived.Test.YtnelciclibknpaaXTd
import Derived.Test.YtnelciclibknpaaXTe
import Derived.Test.YtnelciclibknpaaXTf
import Derived.Test.YtnelciclibknpaaXTg
namespace Go.Proofs.Ytnelciclibknpaa
namespace Plain
open Go.RowKit

/-- The groups of seven bits at the beginning of bytes: the number, and how many bytes they are. -/
def raw : Nat → List UInt8 → Option (Nat × Nat)
  | 0, _ => none
  | _ + 1, [] => none
  | f + 1, c :: l => if c.toNat < 128 then some (c.toNat, 1) else (raw f l).map fun p => (c.toNat % 128 + 128 * p.1, p.2 + 1)

/-- The number that is told by the beginning of bytes, and how many bytes it has; 0, 0 if there is none. -/
def tk (l : List UInt8) : Nat × Nat :=
  match raw 6 l with
  | some (n, s) => if n ≤ mc ∧ (enc n).length = s then (n, s) else (0, 0)
  | none => (0, 0)

theorem raw_pos : ∀ (f : Nat) (l : List UInt8) (n s : Nat), raw f l = some (n, s) → 1 ≤ s := by
  intro f l n s h
  match f, l with
  | 0, _ => simp [raw] at h
  | _ + 1, [] => simp [raw] at h
  | f + 1, c :: l =>
    simp only [raw] at h
    split at h
    · simp at h; omega
    · simp only [Option.map_eq_some_iff] at h
      obtain ⟨p, _, hp⟩ := h
      have := congrArg Prod.snd hp
      simp at this
      omega

theorem raw_read : ∀ (f : Nat) (l : List UInt8) (n s : Nat), raw f l = some (n, s) → (enc n).length = s → l.take s = enc n := by
  intro f
  induction f with
  | zero => intro l n s h; simp [raw] at h
  | succ f ih =>
    intro l n s h hs
    match l with
    | [] => simp [raw] at h
    | c :: l =>
      simp only [raw] at h
      split at h
      · rename_i hc
        simp only [Option.some.injEq, Prod.mk.injEq] at h
        obtain ⟨rfl, rfl⟩ := h
        rw [enc_small hc]
        simp
      · rename_i hc
        simp only [Option.map_eq_some_iff] at h
        obtain ⟨⟨p, t⟩, hp, he⟩ := h
        simp only [Prod.mk.injEq] at he
        obtain ⟨rfl, rfl⟩ := he
        have ht := raw_pos f l p t hp
        have hbig : 128 ≤ c.toNat % 128 + 128 * p := by
          rcases Nat.lt_or_ge (c.toNat % 128 + 128 * p) 128 with h | h
          · rw [enc_small h] at hs; simp at hs; omega
          · exact h
        have hcl := c.toNat_lt
        have e1 : (c.toNat % 128 + 128 * p) / 128 = p := by omega
        have e2 : (c.toNat % 128 + 128 * p) % 128 + 128 = c.toNat := by omega
        rw [enc_big hbig, e1, e2] at hs ⊢
        rw [List.length_cons] at hs
        rw [List.take_succ_cons, ih l p t hp (by omega), UInt8.ofNat_toNat]

theorem raw_enc : ∀ (f n : Nat) (l : List UInt8), (enc n).length ≤ f → raw f (enc n ++ l) = some (n, (enc n).length) := by
  intro f
  induction f with
  | zero => intro n l h; have := enc_length_pos n; omega
  | succ f ih =>
    intro n l h
    by_cases hn : n < 128
    · rw [enc_small hn]
      have e : (UInt8.ofNat n).toNat = n := by rw [UInt8.toNat_ofNat']; omega
      simp [raw, e, hn]
    · have hb : 128 ≤ n := by omega
      rw [enc_big hb] at h ⊢
      rw [List.length_cons] at h
      have e : (UInt8.ofNat (n % 128 + 128)).toNat = n % 128 + 128 := by rw [UInt8.toNat_ofNat']; omega
      have e3 : ¬ n % 128 + 128 < 128 := by omega
      have hi := ih (n / 128) l (by omega)
      simp only [List.cons_append, raw, e, if_neg e3, hi, Option.map_some, List.length_cons]
      have e4 : (n % 128 + 128) % 128 + 128 * (n / 128) = n := by omega
      rw [e4]

theorem tk_enc (n : Nat) (l : List UInt8) (h : n ≤ mc) : tk (enc n ++ l) = (n, (enc n).length) := by
  unfold tk
  rw [raw_enc 6 n l (enc_length_six h)]
  simp [h]

/-- What is read is written so. -/
theorem tk_read (l : List UInt8) (h : (tk l).2 ≠ 0) : (tk l).1 ≤ mc ∧ (enc (tk l).1).length = (tk l).2 ∧ l.take (tk l).2 = enc (tk l).1 ∧ (tk l).2 ≤ l.length := by
  unfold tk at h ⊢
  split at h
  · rename_i n s hr
    split at h
    · rename_i hc
      simp only [if_pos hc]
      have ht := raw_read 6 l n s hr hc.2
      refine ⟨hc.1, hc.2, ht, ?_⟩
      have := congrArg List.length ht
      rw [List.length_take, hc.2] at this
      omega
    · simp at h
  · simp at h
theorem tk_zero (l : List UInt8) (h : (tk l).2 = 0) : tk l = (0, 0) := by
  unfold tk at h ⊢
  split at h
  · rename_i n s hr
    have := raw_pos 6 l n s hr
    split at h
    · simp at h; omega
    · rename_i hc; simp only [if_neg hc]
  · rfl

/-! ### The loop of takeNum -/
/-- Behind k bytes that go on: the groups so far are m. -/
def Mid (l : List UInt8) (k m : Nat) : Prop := m < 128 ^ k ∧ raw 6 l = (raw (6 - k) (l.drop k)).map fun p => (m + 128 ^ k * p.1, p.2 + k)
theorem mid_start (l : List UInt8) : Mid l 0 0 := by
  refine ⟨by simp, ?_⟩
  rcases h : raw 6 l with _ | ⟨n, s⟩ <;> simp [h]
theorem mid_go {l : List UInt8} {k m : Nat} (h : Mid l k m) (hk : k < 6) (hl : k < l.length) (hc : 128 ≤ l[k].toNat) : Mid l (k + 1) (m + (l[k].toNat % 128) * 128 ^ k) := by
  refine ⟨?_, ?_⟩
  · have h1 := h.1
    have h2 : (l[k].toNat % 128) * 128 ^ k ≤ 127 * 128 ^ k := Nat.mul_le_mul_right _ (by omega)
    rw [Nat.pow_succ]
    omega
  · rw [h.2, List.drop_eq_getElem_cons hl, show 6 - k = (6 - (k + 1)) + 1 from by omega]
    simp only [raw, if_neg (show ¬ l[k].toNat < 128 by omega), Option.map_map]
    congr 1
    funext p
    simp only [Function.comp]
    congr 1
    · rw [Nat.mul_add, Nat.pow_succ, Nat.mul_comm (l[k].toNat % 128), Nat.mul_assoc, Nat.add_assoc]
    · omega
theorem mid_end {l : List UInt8} {k m : Nat} (h : Mid l k m) (hk : k < 6) (hl : k < l.length) (hc : l[k].toNat < 128) : raw 6 l = some (m + l[k].toNat * 128 ^ k, k + 1) := by
  rw [h.2, List.drop_eq_getElem_cons hl, show 6 - k = (6 - (k + 1)) + 1 from by omega]
  simp only [raw, if_pos hc, Option.map_some]
  rw [Nat.mul_comm, Nat.add_comm 1 k]
theorem mid_none {l : List UInt8} {k m : Nat} (h : Mid l k m) (hk : 6 ≤ k ∨ l.length ≤ k) : tk l = (0, 0) := by
  have : raw 6 l = none := by
    rw [h.2]
    rcases hk with hk | hk
    · rw [show 6 - k = 0 from by omega]; simp [raw]
    · rw [List.drop_eq_nil_of_le hk]
      cases 6 - k <;> simp [raw]
  unfold tk
  rw [this]
theorem tk_of_raw {l : List UInt8} {n s : Nat} (h : raw 6 l = some (n, s)) : tk l = if n ≤ mc ∧ (enc n).length = s then (n, s) else (0, 0) := by
  unfold tk
  rw [h]

theorem and_u8 (a b : Nat) (ha : a < 256) (hb : b < 256) : bits .and .u8 (a : Int) (b : Int) = ((a &&& b : Nat) : Int) := by
  have hx : a &&& b < 2 ^ 8 := Nat.and_lt_two_pow _ (by omega)
  have e : ∀ x : Nat, x < 256 → (BitVec.ofInt 8 (x : Int)).toNat = x := by
    intro x hx
    rw [BitVec.ofInt_natCast, BitVec.toNat_ofNat]
    exact Nat.mod_eq_of_lt (by omega)
  show IntKind.u8.wrap ((BitVec.ofInt 8 (a : Int) &&& BitVec.ofInt 8 (b : Int)).toNat : Int) = _
  rw [BitVec.toNat_and, e a ha, e b hb]
  show ((a &&& b : Nat) : Int) % 256 = _
  omega

/-- The value of one round. -/
theorem round_val (m x k : Nat) (hk : k < 6) (hm : m < 128 ^ k) (hx : x < 256) :
    bits .or .i64 (m : Int) (Go.RowKit.wrap64 (Go.RowKit.wrap64 (bits .and .u8 (x : Int) 127) * 2 ^ (7 * k))) = ((m + (x % 128) * 128 ^ k : Nat) : Int) := by
  have e1 := and_u8 x 127 hx (by omega)
  have e3 : x &&& 127 = x % 128 := Nat.and_two_pow_sub_one_eq_mod x 7
  rw [e3] at e1
  have e1' : bits .and .u8 (x : Int) 127 = ((x % 128 : Nat) : Int) := e1
  have hp : (128 : Nat) ^ k ≤ 128 ^ 5 := Nat.pow_le_pow_right (by omega) (by omega)
  have hy : (x % 128) * 128 ^ k ≤ 127 * 128 ^ 5 := Nat.mul_le_mul (by omega) hp
  have e4 : (2 : Int) ^ (7 * k) = ((128 ^ k : Nat) : Int) := by rw [Int.pow_mul]; push_cast; rfl
  have e5 : Go.RowKit.wrap64 ((x % 128 : Nat) : Int) = ((x % 128 : Nat) : Int) := IntWalk.wrap64_in _ ⟨by omega, by omega⟩
  rw [e1', e5, e4, ← Int.natCast_mul, IntWalk.wrap64_in _ ⟨by omega, by omega⟩, or_i64 _ _ (by omega) (by omega)]
  congr 1
  have e6 : (128 : Nat) ^ k = 2 ^ (7 * k) := by rw [Nat.pow_mul]
  rw [e6] at hm ⊢
  have := Nat.two_pow_add_eq_or_of_lt hm (x % 128)
  rw [Nat.or_comm, Nat.mul_comm (x % 128), ← this, Nat.add_comm]

end Plain
end Go.Proofs.Ytnelciclibknpaa
