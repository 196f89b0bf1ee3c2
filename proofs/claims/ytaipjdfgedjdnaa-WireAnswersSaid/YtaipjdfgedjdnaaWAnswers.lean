/-
  WireAnswers: the walk.
-/
import Derived.Test.YtaipjdfgedjdnaaWRefTakeN
import Derived.Test.YtaipjdfgedjdnaaWBack
set_option linter.unusedVariables false
namespace Go.Proofs.Ytaipjdfgedjdnaa
open Go.RowKit

/-! ### Each call, said in one form, whether or not there is an answer -/
noncomputable def numsB (zs : List Int) : Bool := @decide (∀ z ∈ zs, IsN z) (Classical.propDecidable _)
noncomputable def numsL (zs : List Int) : List UInt8 := if numsB zs then encAll zs else []
theorem numsB_yes {zs : List Int} (h : ∀ z ∈ zs, IsN z) : numsB zs = true := by unfold numsB; simpa using h
theorem numsB_no {zs : List Int} (h : ¬ ∀ z ∈ zs, IsN z) : numsB zs = false := by unfold numsB; simpa using h
theorem numsL_yes {zs : List Int} (h : ∀ z ∈ zs, IsN z) : numsL zs = encAll zs := by unfold numsL; rw [numsB_yes h]; rfl
theorem numsL_no {zs : List Int} (h : ¬ ∀ z ∈ zs, IsN z) : numsL zs = [] := by unfold numsL; rw [numsB_no h]; rfl

def numB (l : List UInt8) : Bool := decide ((Plain.tk l).2 ≠ 0)
def numR (l : List UInt8) : List UInt8 := if (Plain.tk l).2 = 0 then [] else l.drop (Plain.tk l).2
def textO (l : List UInt8) : ByteArray × List UInt8 × Bool := match tt l with | some (S, L) => (S, L, true) | none => (ByteArray.empty, [], false)
def takeO (l : List UInt8) (most : Int) : List ByteArray × List UInt8 × Bool :=
  if (Plain.tk l).2 = 0 ∨ most < ((Plain.tk l).1 : Int) then ([], [], false) else
    match takeL (Plain.tk l).1 (l.drop (Plain.tk l).2) with
    | some (ss, L) => (ss, L, true)
    | none => ([], [], false)

section
variable (A : Option Addr) (n c B : Nat) (w : World)

theorem nums_u (zs : List Int) (hn : n ≤ 1000) (hr : Rd w B A n (zs.map numCell)) (hB : B ≤ w.heap.size) :
    Calls Try.prog 11 #[.slice A n c] w fun e w' => ∃ A' n' c', e = .returned (.tuple #[.slice A' n' c', .bool (numsB zs)]) ∧ Rd w' w'.heap.size A' n' ((numsL zs).map Plain.cell) ∧ Below w.heap.size w w' := by
  by_cases h : ∀ z ∈ zs, IsN z
  · refine (nums_yes A n c B zs w hn hr hB h).mono ?_
    rintro e w' ⟨v, rfl, hown, hb⟩
    obtain ⟨A', c', rfl, _, _⟩ := own_shape hown
    rw [numsB_yes h, numsL_yes h]
    exact ⟨_, _, _, rfl, Rd.own hown, hb⟩
  · refine (nums_no A n c B zs w hn hr hB (by simpa using h)).mono ?_
    rintro e w' ⟨rfl, hb⟩
    rw [numsB_no h, numsL_no h]
    exact ⟨_, _, _, rfl, Rd.nil_ _ _ _, hb⟩
theorem refNums_u (zs : List Int) (hn : n ≤ 1000) (hr : Rd w B A n (zs.map numCell)) (hB : B ≤ w.heap.size) :
    Calls Try.prog 12 #[.slice A n c] w fun e w' => ∃ A' n' c', e = .returned (.tuple #[.slice A' n' c', .bool (numsB zs)]) ∧ Rd w' w'.heap.size A' n' ((numsL zs).map Plain.cell) ∧ Below w.heap.size w w' := by
  by_cases h : ∀ z ∈ zs, IsN z
  · refine (refNums_yes A n c B zs w hn hr hB h).mono ?_
    rintro e w' ⟨v, rfl, hown, hb⟩
    obtain ⟨A', c', rfl, _, _⟩ := own_shape hown
    rw [numsB_yes h, numsL_yes h]
    exact ⟨_, _, _, rfl, Rd.own hown, hb⟩
  · refine (refNums_no A n c B zs w hn hr hB (by simpa using h)).mono ?_
    rintro e w' ⟨rfl, hb⟩
    rw [numsB_no h, numsL_no h]
    exact ⟨_, _, _, rfl, Rd.nil_ _ _ _, hb⟩

variable (l : List UInt8) (hn : n ≤ 1000000) (hc : n ≤ c) (hcm : c ≤ maxLen) (hr : Rd w B A n (l.map Plain.cell)) (hB : B ≤ w.heap.size)
include hn hc hcm hr hB
theorem num_u : Calls Try.prog 13 #[.slice A n c] w fun e w' =>
    ∃ A' n' c', e = .returned (.tuple #[.int .i64 ((Plain.tk l).1 : Nat), .slice A' n' c', .bool (numB l)]) ∧ Rd w' w'.heap.size A' n' ((numR l).map Plain.cell) ∧ Below w.heap.size w w' := by
  unfold numB numR
  by_cases h : (Plain.tk l).2 = 0
  · refine (num_no A n c B l w hn hc hr h).mono ?_
    rintro e w' ⟨rfl, rfl⟩
    rw [Plain.tk_zero l h]
    exact ⟨_, _, _, rfl, Rd.nil_ _ _ _, Below.refl _ _⟩
  · refine (num_yes A n c B l w hn hc hcm hr hB h).mono ?_
    rintro e w' ⟨v, rfl, hown, hb⟩
    obtain ⟨A', c', rfl, _, _⟩ := own_shape hown
    refine ⟨A', _, c', by rw [show decide ((Plain.tk l).2 ≠ 0) = true by simpa using h], ?_, hb⟩
    rw [if_neg h]
    exact Rd.own hown
theorem refNum_u : Calls Try.prog 14 #[.slice A n c] w fun e w' =>
    ∃ A' n' c', e = .returned (.tuple #[.int .i64 ((Plain.tk l).1 : Nat), .slice A' n' c', .bool (numB l)]) ∧ Rd w' w'.heap.size A' n' ((numR l).map Plain.cell) ∧ Below w.heap.size w w' := by
  unfold numB numR
  by_cases h : (Plain.tk l).2 = 0
  · refine (refNum_no A n c B l w hn hc hcm hr hB h).mono ?_
    rintro e w' ⟨rfl, hb⟩
    rw [Plain.tk_zero l h]
    exact ⟨_, _, _, rfl, Rd.nil_ _ _ _, hb⟩
  · refine (refNum_yes A n c B l w hn hc hcm hr hB h).mono ?_
    rintro e w' ⟨v, rfl, hown, hb⟩
    obtain ⟨A', c', rfl, _, _⟩ := own_shape hown
    refine ⟨A', _, c', by rw [show decide ((Plain.tk l).2 ≠ 0) = true by simpa using h], ?_, hb⟩
    rw [if_neg h]
    exact Rd.own hown
theorem text_u : Calls Try.prog 15 #[.slice A n c] w fun e w' =>
    ∃ A' n' c', e = .returned (.tuple #[.string (textO l).1, .slice A' n' c', .bool (textO l).2.2]) ∧ Rd w' w'.heap.size A' n' ((textO l).2.1.map Plain.cell) ∧ Below w.heap.size w w' := by
  have hl := hr.1
  rw [List.length_map] at hl
  unfold textO
  rcases h : tt l with _ | ⟨S, L⟩
  · refine (text_no A n c B l w (by unfold maxLen; omega) hc hr (by rw [← hl]; exact tt_none h)).mono ?_
    rintro e w' ⟨v, rfl, hown, hb⟩
    obtain ⟨A', c', rfl, _, _⟩ := own_shape hown
    exact ⟨A', 0, c', rfl, Rd.own hown, hb⟩
  · refine (text_some A n c B l w S L hn hc hcm hr hB h).mono ?_
    rintro e w' ⟨v, rfl, hown, hb⟩
    obtain ⟨A', c', rfl, _, _⟩ := own_shape hown
    exact ⟨A', _, c', rfl, Rd.own hown, hb⟩
theorem refText_u : Calls Try.prog 16 #[.slice A n c] w fun e w' =>
    ∃ A' n' c', e = .returned (.tuple #[.string (textO l).1, .slice A' n' c', .bool (textO l).2.2]) ∧ Rd w' w'.heap.size A' n' ((textO l).2.1.map Plain.cell) ∧ Below w.heap.size w w' := by
  unfold textO
  rcases h : tt l with _ | ⟨S, L⟩
  · refine (refText_no A n c B l w hn hc hcm hr hB h).mono ?_
    rintro e w' ⟨rfl, hb⟩
    exact ⟨none, 0, 0, rfl, Rd.nil_ _ _ _, hb⟩
  · refine (refText_yes A n c B l w S L hn hc hcm hr hB h).mono ?_
    rintro e w' ⟨A', n', c', rfl, hx, _, _, _, hb⟩
    exact ⟨A', n', c', rfl, hx, hb⟩
theorem take_u (most : Int) : Calls Try.prog 17 #[.slice A n c, .int .i64 most] w fun e w' =>
    ∃ A1 n1 c1 A' n' c', e = .returned (.tuple #[.slice A1 n1 c1, .slice A' n' c', .bool (takeO l most).2.2]) ∧ Rd w' w'.heap.size A1 n1 ((takeO l most).1.map Value.string) ∧ Rd w' w'.heap.size A' n' ((takeO l most).2.1.map Plain.cell) ∧ Below w.heap.size w w' := by
  unfold takeO
  by_cases h : (Plain.tk l).2 = 0 ∨ most < ((Plain.tk l).1 : Int)
  · rw [if_pos h]
    refine (take_no1 A n c B l most w hn hc hr h).mono ?_
    rintro e w' ⟨rfl, rfl⟩
    exact ⟨none, 0, 0, none, 0, 0, rfl, Rd.nil_ _ _ _, Rd.nil_ _ _ _, Below.refl _ _⟩
  · rw [if_neg h]
    rcases ht : takeL (Plain.tk l).1 (l.drop (Plain.tk l).2) with _ | ⟨ss, L⟩
    · refine (take_no2 A n c B l most w hn hc hcm hr hB (by omega) (by omega) ht).mono ?_
      rintro e w' ⟨rfl, hb⟩
      exact ⟨none, 0, 0, none, 0, 0, rfl, Rd.nil_ _ _ _, Rd.nil_ _ _ _, hb⟩
    · refine (take_any A n c B l most w hn hc hcm hr hB (by omega) (by omega) ss L ht).mono ?_
      rintro e w' ⟨v, v', rfl, hown, hown', hb⟩
      obtain ⟨A1, c1, rfl, _, _⟩ := own_shape hown
      obtain ⟨A', c', rfl, _, _⟩ := own_shape hown'
      exact ⟨A1, _, c1, A', _, c', rfl, Rd.own hown, Rd.own hown', hb⟩
theorem refTake_u (most : Int) : Calls Try.prog 18 #[.slice A n c, .int .i64 most] w fun e w' =>
    ∃ A1 n1 c1 A' n' c', e = .returned (.tuple #[.slice A1 n1 c1, .slice A' n' c', .bool (takeO l most).2.2]) ∧ Rd w' w'.heap.size A1 n1 ((takeO l most).1.map Value.string) ∧ Rd w' w'.heap.size A' n' ((takeO l most).2.1.map Plain.cell) ∧ Below w.heap.size w w' := by
  unfold takeO
  by_cases h : (Plain.tk l).2 = 0 ∨ most < ((Plain.tk l).1 : Int)
  · rw [if_pos h]
    refine (refTake_no1 A n c B l most w hn hc hcm hr hB h).mono ?_
    rintro e w' ⟨rfl, hb⟩
    exact ⟨none, 0, 0, none, 0, 0, rfl, Rd.nil_ _ _ _, Rd.nil_ _ _ _, hb⟩
  · rw [if_neg h]
    rcases ht : takeL (Plain.tk l).1 (l.drop (Plain.tk l).2) with _ | ⟨ss, L⟩
    · refine (refTake_no2 A n c B l most w hn hc hcm hr hB (by omega) (by omega) ht).mono ?_
      rintro e w' ⟨rfl, hb⟩
      exact ⟨none, 0, 0, none, 0, 0, rfl, Rd.nil_ _ _ _, Rd.nil_ _ _ _, hb⟩
    · refine (refTake_yes A n c B l most w hn hc hcm hr hB (by omega) (by omega) ss L ht).mono ?_
      rintro e w' ⟨v, A', n', c', rfl, hown, hx, _, _, hb⟩
      obtain ⟨A1, c1, rfl, _, _⟩ := own_shape hown
      exact ⟨A1, _, c1, A', n', c', rfl, Rd.own hown, hx, hb⟩
end

theorem Rd.len_eq {w w' : World} {B B' n n' : Nat} {A A' : Option Addr} {xs : List Value} (h : Rd w B A n xs) (h' : Rd w' B' A' n' xs) : n' = n := by rw [← h.1, ← h'.1]
theorem same_u (A1 A2 : Option Addr) (n1 n2 c1 c2 B1 B2 : Nat) (l : List UInt8) (w : World) (hm : n1 ≤ maxLen) (h1 : Rd w B1 A1 n1 (l.map Plain.cell)) (h2 : Rd w B2 A2 n2 (l.map Plain.cell)) :
    Calls Try.prog 20 #[.slice A1 n1 c1, .slice A2 n2 c2] w fun e w' => e = .returned (.bool true) ∧ Below w.heap.size w w' := by
  obtain rfl := h1.len_eq h2
  refine (sameBytes_yes A1 A2 n2 c1 c2 B1 B2 l w hm h1 h2).mono ?_
  rintro e w' ⟨rfl, q, rfl⟩
  exact ⟨rfl, below_drewN (Below.refl _ _) q⟩
theorem sameT_u (A1 A2 : Option Addr) (n1 n2 c1 c2 B1 B2 : Nat) (l : List ByteArray) (w : World) (hm : n1 ≤ maxLen) (h1 : Rd w B1 A1 n1 (l.map Value.string)) (h2 : Rd w B2 A2 n2 (l.map Value.string)) :
    Calls Try.prog 25 #[.slice A1 n1 c1, .slice A2 n2 c2] w fun e w' => e = .returned (.bool true) ∧ Below w.heap.size w w' := by
  obtain rfl := h1.len_eq h2
  refine (sameTexts_yes A1 A2 n2 c1 c2 B1 B2 l w hm h1 h2).mono ?_
  rintro e w' ⟨rfl, q, rfl⟩
  exact ⟨rfl, below_drewN (Below.refl _ _) q⟩
/-- No list of answers is longer than what came in. -/
theorem numsL_len (zs : List Int) (h : zs.length ≤ 200) : (numsL zs).length ≤ 1200 := by
  by_cases hz : ∀ z ∈ zs, IsN z
  · rw [numsL_yes hz]; have := encAll_length zs hz; omega
  · rw [numsL_no hz]; simp
theorem numR_len (l : List UInt8) : (numR l).length ≤ l.length := by unfold numR; split <;> simp
theorem textO_len (l : List UInt8) : (textO l).2.1.length ≤ l.length := by
  unfold textO
  rcases h : tt l with _ | ⟨S, L⟩
  · simp
  · have := tt_shorter h
    show L.length ≤ l.length
    omega
theorem takeO_len (l : List UInt8) (most : Int) : (takeO l most).1.length ≤ l.length + 1099511627776 ∧ (takeO l most).2.1.length ≤ l.length := by
  unfold takeO
  by_cases h : (Plain.tk l).2 = 0 ∨ most < ((Plain.tk l).1 : Int)
  · rw [if_pos h]; simp
  · rw [if_neg h]
    rcases ht : takeL (Plain.tk l).1 (l.drop (Plain.tk l).2) with _ | ⟨ss, L⟩
    · simp
    · have h1 := takeL_read _ _ _ _ ht
      have h2 := Plain.tk_read l (by omega)
      have h3 := Plain.mc_le h2.1
      have h4 := congrArg List.length h1.1
      rw [List.length_drop, List.length_append] at h4
      refine ⟨?_, ?_⟩
      · show ss.length ≤ _
        rw [h1.2]; omega
      · show L.length ≤ _
        omega

set_option maxRecDepth 100000 in
set_option maxHeartbeats 8000000 in
theorem answers_main (A0 : Option Addr) (len0 cap0 : Nat) (zs : List Int) (A1 : Option Addr) (len1 cap1 : Nat) (ss : List ByteArray) (A2 : Option Addr) (len2 cap2 : Nat) (bs : List UInt8) (most a4 : Int) (W : World)
    (hr0 : Rd W W.heap.size A0 len0 (zs.map numCell)) (hr1 : Rd W W.heap.size A1 len1 (ss.map Value.string)) (hr2 : Rd W W.heap.size A2 len2 (bs.map Plain.cell)) (hc2 : len2 ≤ cap2) (hm2 : cap2 ≤ maxLen)
    (h0 : len0 ≤ 200) (hsum : lensum ss ≤ 2000) (h2 : len2 ≤ 3000) :
    Calls Try.prog 3 #[.slice A0 len0 cap0, .slice A1 len1 cap1, .slice A2 len2 cap2, .int .i64 most, .int .i64 a4] W fun e w' => e = .returned (.bool true) ∧ Below W.heap.size W w' := by
  have hl0 := hr0.1
  rw [List.length_map] at hl0
  have hl1 := hr1.1
  rw [List.length_map] at hl1
  have hl2 := hr2.1
  rw [List.length_map] at hl2
  have hcount := lensum_count ss
  have hlen1 : len1 ≤ 2000 := by omega
  have Hmem := Lib.hid (fun s (hs : s ∈ ss) => show s.size ≤ 2000 by have := lensum_mem hs; omega)
  have htx := encTexts_le ss Hmem.out
  have htot : (encTexts ss).length ≤ 12000 := by omega
  have hen1 := Plain.enc_length_six (hmc (show len1 ≤ 1000000 by omega))
  have g1 := numsL_len zs (by omega)
  have g2 := numR_len bs
  have g3 := textO_len bs
  have g4 := takeO_len bs most
  have G1 := Lib.hid (show (numsL zs).length ≤ maxLen by unfold maxLen; omega)
  have G2 := Lib.hid (show (numR bs).length ≤ maxLen by unfold maxLen; omega)
  have G3 := Lib.hid (show (textO bs).2.1.length ≤ maxLen by unfold maxLen; omega)
  have G4 := Lib.hid (show (takeO bs most).1.length ≤ maxLen by unfold maxLen; omega)
  have G5 := Lib.hid (show (takeO bs most).2.1.length ≤ maxLen by unfold maxLen; omega)
  clear g1 g2 g3 g4 hl0 hl1 hl2 hcount htx
  have eqI : ((Plain.tk bs).1 : Int) == ((Plain.tk bs).1 : Int) := by simp
  have eqb1 : (numsB zs == numsB zs) = true := by simp
  have eqb2 : (numB bs == numB bs) = true := by simp
  have eqb3 : ((textO bs).2.2 == (textO bs).2.2) = true := by simp
  have eqb4 : ((takeO bs most).2.2 == (takeO bs most).2.2) = true := by simp
  go_enter Try.func3, Try.ntmps3
  go_wp2_with fail
  refine (alive_any W).mono ?_
  rintro e w2 ⟨rfl, hB2⟩
  replace hr0 := hr0.below hB2 (Nat.le_refl _)
  replace hr1 := hr1.below hB2 (Nat.le_refl _)
  replace hr2 := hr2.below hB2 (Nat.le_refl _)
  go_wp2_with fail
  refine (great_no A1 A2 len1 cap1 len2 cap2 W.heap.size ss w2 hr1 hsum h2).mono ?_
  rintro e w2' ⟨rfl, rfl⟩
  go_wp2_with fail

  refine (copyBytes_any A2 len2 cap2 W.heap.size bs w2 (by omega) hr2 hB2.size).mono ?_
  rintro e w3 ⟨v3, rfl, hown3, hb3⟩
  obtain ⟨Ao, co, rfl, hco, hmo⟩ := own_shape hown3
  have hxo := Rd.own hown3
  clear hown3
  replace hr0 := hr0.below hb3 hB2.size
  replace hr1 := hr1.below hb3 hB2.size
  replace hr2 := hr2.below hb3 hB2.size
  have hB3 := hB2.trans (hb3.mono hB2.size)
  clear hB2
  clear hb3
  go_wp2_with fail
  refine (nums_u A0 len0 cap0 W.heap.size w3 zs (by omega) hr0 hB3.size).mono ?_
  rintro e w4 ⟨Ax, nx, cx, rfl, hxx, hb4⟩
  replace hr0 := hr0.below hb4 hB3.size
  replace hr1 := hr1.below hb4 hB3.size
  replace hr2 := hr2.below hb4 hB3.size
  replace hxo := (hxo.below hb4 (Nat.le_refl _)).more hb4.size
  have hB4 := hB3.trans (hb4.mono hB3.size)
  clear hB3
  clear hb4
  go_wp2_with fail
  refine (refNums_u A0 len0 cap0 W.heap.size w4 zs (by omega) hr0 hB4.size).mono ?_
  rintro e w5 ⟨Ay, ny, cy, rfl, hxy, hb5⟩
  replace hr0 := hr0.below hb5 hB4.size
  replace hr1 := hr1.below hb5 hB4.size
  replace hr2 := hr2.below hb5 hB4.size
  replace hxo := (hxo.below hb5 (Nat.le_refl _)).more hb5.size
  replace hxx := (hxx.below hb5 (Nat.le_refl _)).more hb5.size
  have hB5 := hB4.trans (hb5.mono hB4.size)
  clear hB4
  clear hb5
  go_wp2_with fail
  refine (num_u Ao len2 co w5.heap.size w5 bs (by omega) hco hmo hxo (Nat.le_refl _)).mono ?_
  rintro e w6 ⟨Ar, nr, cr, rfl, hxr, hb6⟩
  replace hr0 := hr0.below hb6 hB5.size
  replace hr1 := hr1.below hb6 hB5.size
  replace hr2 := hr2.below hb6 hB5.size
  replace hxo := (hxo.below hb6 (Nat.le_refl _)).more hb6.size
  replace hxx := (hxx.below hb6 (Nat.le_refl _)).more hb6.size
  replace hxy := (hxy.below hb6 (Nat.le_refl _)).more hb6.size
  have hB6 := hB5.trans (hb6.mono hB5.size)
  clear hB5
  clear hb6
  go_wp2_with fail
  refine (refNum_u A2 len2 cap2 W.heap.size w6 bs (by omega) hc2 hm2 hr2 hB6.size).mono ?_
  rintro e w7 ⟨Am, nm, cm, rfl, hxm, hb7⟩
  replace hr0 := hr0.below hb7 hB6.size
  replace hr1 := hr1.below hb7 hB6.size
  replace hr2 := hr2.below hb7 hB6.size
  replace hxo := (hxo.below hb7 (Nat.le_refl _)).more hb7.size
  replace hxx := (hxx.below hb7 (Nat.le_refl _)).more hb7.size
  replace hxy := (hxy.below hb7 (Nat.le_refl _)).more hb7.size
  replace hxr := (hxr.below hb7 (Nat.le_refl _)).more hb7.size
  have hB7 := hB6.trans (hb7.mono hB6.size)
  clear hB6
  clear hb7
  go_wp2_with fail
  refine (text_u Ao len2 co w7.heap.size w7 bs (by omega) hco hmo hxo (Nat.le_refl _)).mono ?_
  rintro e w8 ⟨Al, nl, cl, rfl, hxl, hb8⟩
  replace hr0 := hr0.below hb8 hB7.size
  replace hr1 := hr1.below hb8 hB7.size
  replace hr2 := hr2.below hb8 hB7.size
  replace hxo := (hxo.below hb8 (Nat.le_refl _)).more hb8.size
  replace hxx := (hxx.below hb8 (Nat.le_refl _)).more hb8.size
  replace hxy := (hxy.below hb8 (Nat.le_refl _)).more hb8.size
  replace hxr := (hxr.below hb8 (Nat.le_refl _)).more hb8.size
  replace hxm := (hxm.below hb8 (Nat.le_refl _)).more hb8.size
  have hB8 := hB7.trans (hb8.mono hB7.size)
  clear hB7
  clear hb8
  go_wp2_with fail
  refine (refText_u A2 len2 cap2 W.heap.size w8 bs (by omega) hc2 hm2 hr2 hB8.size).mono ?_
  rintro e w9 ⟨Ag, ng, cg, rfl, hxg, hb9⟩
  replace hr0 := hr0.below hb9 hB8.size
  replace hr1 := hr1.below hb9 hB8.size
  replace hr2 := hr2.below hb9 hB8.size
  replace hxo := (hxo.below hb9 (Nat.le_refl _)).more hb9.size
  replace hxx := (hxx.below hb9 (Nat.le_refl _)).more hb9.size
  replace hxy := (hxy.below hb9 (Nat.le_refl _)).more hb9.size
  replace hxr := (hxr.below hb9 (Nat.le_refl _)).more hb9.size
  replace hxm := (hxm.below hb9 (Nat.le_refl _)).more hb9.size
  replace hxl := (hxl.below hb9 (Nat.le_refl _)).more hb9.size
  have hB9 := hB8.trans (hb9.mono hB8.size)
  clear hB8
  clear hb9
  go_wp2_with fail
  refine (take_u Ao len2 co w9.heap.size w9 bs (by omega) hco hmo hxo (Nat.le_refl _) most).mono ?_
  rintro e w10 ⟨Ap, np, cp, Ae, ne, ce, rfl, hxp, hxe, hb10⟩
  replace hr0 := hr0.below hb10 hB9.size
  replace hr1 := hr1.below hb10 hB9.size
  replace hr2 := hr2.below hb10 hB9.size
  replace hxo := (hxo.below hb10 (Nat.le_refl _)).more hb10.size
  replace hxx := (hxx.below hb10 (Nat.le_refl _)).more hb10.size
  replace hxy := (hxy.below hb10 (Nat.le_refl _)).more hb10.size
  replace hxr := (hxr.below hb10 (Nat.le_refl _)).more hb10.size
  replace hxm := (hxm.below hb10 (Nat.le_refl _)).more hb10.size
  replace hxl := (hxl.below hb10 (Nat.le_refl _)).more hb10.size
  replace hxg := (hxg.below hb10 (Nat.le_refl _)).more hb10.size
  have hB10 := hB9.trans (hb10.mono hB9.size)
  clear hB9
  clear hb10
  go_wp2_with fail
  refine (refTake_u A2 len2 cap2 W.heap.size w10 bs (by omega) hc2 hm2 hr2 hB10.size most).mono ?_
  rintro e w11 ⟨Aq, nq, cq, At, nt, ct, rfl, hxq, hxt, hb11⟩
  replace hr0 := hr0.below hb11 hB10.size
  replace hr1 := hr1.below hb11 hB10.size
  replace hr2 := hr2.below hb11 hB10.size
  replace hxo := (hxo.below hb11 (Nat.le_refl _)).more hb11.size
  replace hxx := (hxx.below hb11 (Nat.le_refl _)).more hb11.size
  replace hxy := (hxy.below hb11 (Nat.le_refl _)).more hb11.size
  replace hxr := (hxr.below hb11 (Nat.le_refl _)).more hb11.size
  replace hxm := (hxm.below hb11 (Nat.le_refl _)).more hb11.size
  replace hxl := (hxl.below hb11 (Nat.le_refl _)).more hb11.size
  replace hxg := (hxg.below hb11 (Nat.le_refl _)).more hb11.size
  replace hxp := (hxp.below hb11 (Nat.le_refl _)).more hb11.size
  replace hxe := (hxe.below hb11 (Nat.le_refl _)).more hb11.size
  have hB11 := hB10.trans (hb11.mono hB10.size)
  clear hB10
  clear hb11
  go_wp2_with fail
  have hn := rd_new w11 #[.int .i64 a4] 3
  refine (refNums_u _ 1 1 (w11.heap.size + 1) _ [a4] (by omega) hn (by simp)).mono ?_
  rintro e w12 ⟨Az, nz, cz, rfl, hxz, hbz⟩
  have hb12 : Below w11.heap.size w11 w12 := ((Below.refl _ _).alloc (Nat.le_refl _) _).trans (hbz.mono (by simp))
  clear hbz hn
  replace hr0 := hr0.below hb12 hB11.size
  replace hr1 := hr1.below hb12 hB11.size
  replace hr2 := hr2.below hb12 hB11.size
  replace hxo := (hxo.below hb12 (Nat.le_refl _)).more hb12.size
  replace hxx := (hxx.below hb12 (Nat.le_refl _)).more hb12.size
  replace hxy := (hxy.below hb12 (Nat.le_refl _)).more hb12.size
  replace hxr := (hxr.below hb12 (Nat.le_refl _)).more hb12.size
  replace hxm := (hxm.below hb12 (Nat.le_refl _)).more hb12.size
  replace hxl := (hxl.below hb12 (Nat.le_refl _)).more hb12.size
  replace hxg := (hxg.below hb12 (Nat.le_refl _)).more hb12.size
  replace hxp := (hxp.below hb12 (Nat.le_refl _)).more hb12.size
  replace hxe := (hxe.below hb12 (Nat.le_refl _)).more hb12.size
  replace hxq := (hxq.below hb12 (Nat.le_refl _)).more hb12.size
  replace hxt := (hxt.below hb12 (Nat.le_refl _)).more hb12.size
  have hB12 := hB11.trans (hb12.mono hB11.size)
  clear hB11
  have hnz : nz = (numsL [a4]).length := by rw [← hxz.1, List.length_map]
  subst hnz
  clear hb12 hxz
  go_wp2_with fail
  by_cases h4 : IsN a4
  · obtain ⟨m4, rfl⟩ := Int.eq_ofNat_of_zero_le h4.1
    have g4 := h4.nat.1
    simp only [Int.toNat_natCast] at g4
    have hyes : ∀ z ∈ [(m4 : Int)], IsN z := by intro z hz; simp at hz; rw [hz]; exact h4
    have eR := numsB_yes hyes
    have eL : (numsL [(m4 : Int)]).length = (Plain.enc m4).length := by rw [numsL_yes hyes]; simp [encAll]
    rw [eR, eL]
    clear eR eL hyes
    refine (size_yes m4 w12 g4).mono ?_
    rintro e w12' ⟨rfl, rfl⟩
    have eqs : (((Plain.enc m4).length : Int) == ((Plain.enc m4).length : Int)) = true := by simp
    go_wp2_with fail
    refine (same_u Ax Ay nx ny cx cy w12.heap.size w12.heap.size (numsL zs) w12 (by rw [← hxx.1, List.length_map]; exact G1.out) hxx hxy).mono ?_
    rintro e w13 ⟨rfl, hb13⟩
    replace hr0 := hr0.below hb13 hB12.size
    replace hr1 := hr1.below hb13 hB12.size
    replace hr2 := hr2.below hb13 hB12.size
    replace hxo := (hxo.below hb13 (Nat.le_refl _)).more hb13.size
    replace hxx := (hxx.below hb13 (Nat.le_refl _)).more hb13.size
    replace hxy := (hxy.below hb13 (Nat.le_refl _)).more hb13.size
    replace hxr := (hxr.below hb13 (Nat.le_refl _)).more hb13.size
    replace hxm := (hxm.below hb13 (Nat.le_refl _)).more hb13.size
    replace hxl := (hxl.below hb13 (Nat.le_refl _)).more hb13.size
    replace hxg := (hxg.below hb13 (Nat.le_refl _)).more hb13.size
    replace hxp := (hxp.below hb13 (Nat.le_refl _)).more hb13.size
    replace hxe := (hxe.below hb13 (Nat.le_refl _)).more hb13.size
    replace hxq := (hxq.below hb13 (Nat.le_refl _)).more hb13.size
    replace hxt := (hxt.below hb13 (Nat.le_refl _)).more hb13.size
    have hB13 := hB12.trans (hb13.mono hB12.size)
    clear hB12
    clear hb13
    go_wp2_with fail
    clear hxx
    clear hxy
    refine (texts_any A1 len1 cap1 W.heap.size ss w13 (by omega) hr1 hB13.size (by omega)).mono ?_
    rintro e w14 ⟨v14, rfl, hown14, hb14⟩
    obtain ⟨AT1, cT1, rfl, _, _⟩ := own_shape hown14
    have hxT1 := Rd.own hown14
    clear hown14
    replace hr0 := hr0.below hb14 hB13.size
    replace hr1 := hr1.below hb14 hB13.size
    replace hr2 := hr2.below hb14 hB13.size
    replace hxo := (hxo.below hb14 (Nat.le_refl _)).more hb14.size
    replace hxr := (hxr.below hb14 (Nat.le_refl _)).more hb14.size
    replace hxm := (hxm.below hb14 (Nat.le_refl _)).more hb14.size
    replace hxl := (hxl.below hb14 (Nat.le_refl _)).more hb14.size
    replace hxg := (hxg.below hb14 (Nat.le_refl _)).more hb14.size
    replace hxp := (hxp.below hb14 (Nat.le_refl _)).more hb14.size
    replace hxe := (hxe.below hb14 (Nat.le_refl _)).more hb14.size
    replace hxq := (hxq.below hb14 (Nat.le_refl _)).more hb14.size
    replace hxt := (hxt.below hb14 (Nat.le_refl _)).more hb14.size
    have hB14 := hB13.trans (hb14.mono hB13.size)
    clear hB13
    clear hb14
    go_wp2_with fail
    refine (refTexts_any A1 len1 cap1 W.heap.size ss w14 (by omega) hr1 hB14.size (by omega)).mono ?_
    rintro e w15 ⟨v15, rfl, hown15, hb15⟩
    obtain ⟨AT2, cT2, rfl, _, _⟩ := own_shape hown15
    have hxT2 := Rd.own hown15
    clear hown15
    replace hr0 := hr0.below hb15 hB14.size
    replace hr1 := hr1.below hb15 hB14.size
    replace hr2 := hr2.below hb15 hB14.size
    replace hxo := (hxo.below hb15 (Nat.le_refl _)).more hb15.size
    replace hxr := (hxr.below hb15 (Nat.le_refl _)).more hb15.size
    replace hxm := (hxm.below hb15 (Nat.le_refl _)).more hb15.size
    replace hxl := (hxl.below hb15 (Nat.le_refl _)).more hb15.size
    replace hxg := (hxg.below hb15 (Nat.le_refl _)).more hb15.size
    replace hxp := (hxp.below hb15 (Nat.le_refl _)).more hb15.size
    replace hxe := (hxe.below hb15 (Nat.le_refl _)).more hb15.size
    replace hxq := (hxq.below hb15 (Nat.le_refl _)).more hb15.size
    replace hxt := (hxt.below hb15 (Nat.le_refl _)).more hb15.size
    replace hxT1 := (hxT1.below hb15 (Nat.le_refl _)).more hb15.size
    have hB15 := hB14.trans (hb15.mono hB14.size)
    clear hB14
    clear hb15
    go_wp2_with fail
    refine (same_u AT1 AT2 _ _ cT1 cT2 w15.heap.size w15.heap.size (encTexts ss) w15 (by unfold maxLen; omega) hxT1 hxT2).mono ?_
    rintro e w16 ⟨rfl, hb16⟩
    replace hr0 := hr0.below hb16 hB15.size
    replace hr1 := hr1.below hb16 hB15.size
    replace hr2 := hr2.below hb16 hB15.size
    replace hxo := (hxo.below hb16 (Nat.le_refl _)).more hb16.size
    replace hxr := (hxr.below hb16 (Nat.le_refl _)).more hb16.size
    replace hxm := (hxm.below hb16 (Nat.le_refl _)).more hb16.size
    replace hxl := (hxl.below hb16 (Nat.le_refl _)).more hb16.size
    replace hxg := (hxg.below hb16 (Nat.le_refl _)).more hb16.size
    replace hxp := (hxp.below hb16 (Nat.le_refl _)).more hb16.size
    replace hxe := (hxe.below hb16 (Nat.le_refl _)).more hb16.size
    replace hxq := (hxq.below hb16 (Nat.le_refl _)).more hb16.size
    replace hxt := (hxt.below hb16 (Nat.le_refl _)).more hb16.size
    replace hxT1 := (hxT1.below hb16 (Nat.le_refl _)).more hb16.size
    replace hxT2 := (hxT2.below hb16 (Nat.le_refl _)).more hb16.size
    have hB16 := hB15.trans (hb16.mono hB15.size)
    clear hB15
    clear hb16
    go_wp2_with fail
    clear hxT1
    clear hxT2
    refine (list_any A1 len1 cap1 W.heap.size ss w16 (by omega) hr1 hB16.size (by omega)).mono ?_
    rintro e w17 ⟨v17, rfl, hown17, hb17⟩
    obtain ⟨AL1, cL1, rfl, _, _⟩ := own_shape hown17
    have hxL1 := Rd.own hown17
    clear hown17
    replace hr0 := hr0.below hb17 hB16.size
    replace hr1 := hr1.below hb17 hB16.size
    replace hr2 := hr2.below hb17 hB16.size
    replace hxo := (hxo.below hb17 (Nat.le_refl _)).more hb17.size
    replace hxr := (hxr.below hb17 (Nat.le_refl _)).more hb17.size
    replace hxm := (hxm.below hb17 (Nat.le_refl _)).more hb17.size
    replace hxl := (hxl.below hb17 (Nat.le_refl _)).more hb17.size
    replace hxg := (hxg.below hb17 (Nat.le_refl _)).more hb17.size
    replace hxp := (hxp.below hb17 (Nat.le_refl _)).more hb17.size
    replace hxe := (hxe.below hb17 (Nat.le_refl _)).more hb17.size
    replace hxq := (hxq.below hb17 (Nat.le_refl _)).more hb17.size
    replace hxt := (hxt.below hb17 (Nat.le_refl _)).more hb17.size
    have hB17 := hB16.trans (hb17.mono hB16.size)
    clear hB16
    clear hb17
    go_wp2_with fail
    refine (refList_any A1 len1 cap1 W.heap.size ss w17 (by omega) hr1 hB17.size (by omega)).mono ?_
    rintro e w18 ⟨v18, rfl, hown18, hb18⟩
    obtain ⟨AL2, cL2, rfl, _, _⟩ := own_shape hown18
    have hxL2 := Rd.own hown18
    clear hown18
    replace hr0 := hr0.below hb18 hB17.size
    replace hr1 := hr1.below hb18 hB17.size
    replace hr2 := hr2.below hb18 hB17.size
    replace hxo := (hxo.below hb18 (Nat.le_refl _)).more hb18.size
    replace hxr := (hxr.below hb18 (Nat.le_refl _)).more hb18.size
    replace hxm := (hxm.below hb18 (Nat.le_refl _)).more hb18.size
    replace hxl := (hxl.below hb18 (Nat.le_refl _)).more hb18.size
    replace hxg := (hxg.below hb18 (Nat.le_refl _)).more hb18.size
    replace hxp := (hxp.below hb18 (Nat.le_refl _)).more hb18.size
    replace hxe := (hxe.below hb18 (Nat.le_refl _)).more hb18.size
    replace hxq := (hxq.below hb18 (Nat.le_refl _)).more hb18.size
    replace hxt := (hxt.below hb18 (Nat.le_refl _)).more hb18.size
    replace hxL1 := (hxL1.below hb18 (Nat.le_refl _)).more hb18.size
    have hB18 := hB17.trans (hb18.mono hB17.size)
    clear hB17
    clear hb18
    go_wp2_with fail
    refine (same_u AL1 AL2 _ _ cL1 cL2 w18.heap.size w18.heap.size (Plain.enc len1 ++ encTexts ss) w18 (by unfold maxLen; omega) hxL1 hxL2).mono ?_
    rintro e w19 ⟨rfl, hb19⟩
    replace hr0 := hr0.below hb19 hB18.size
    replace hr1 := hr1.below hb19 hB18.size
    replace hr2 := hr2.below hb19 hB18.size
    replace hxo := (hxo.below hb19 (Nat.le_refl _)).more hb19.size
    replace hxr := (hxr.below hb19 (Nat.le_refl _)).more hb19.size
    replace hxm := (hxm.below hb19 (Nat.le_refl _)).more hb19.size
    replace hxl := (hxl.below hb19 (Nat.le_refl _)).more hb19.size
    replace hxg := (hxg.below hb19 (Nat.le_refl _)).more hb19.size
    replace hxp := (hxp.below hb19 (Nat.le_refl _)).more hb19.size
    replace hxe := (hxe.below hb19 (Nat.le_refl _)).more hb19.size
    replace hxq := (hxq.below hb19 (Nat.le_refl _)).more hb19.size
    replace hxt := (hxt.below hb19 (Nat.le_refl _)).more hb19.size
    replace hxL1 := (hxL1.below hb19 (Nat.le_refl _)).more hb19.size
    replace hxL2 := (hxL2.below hb19 (Nat.le_refl _)).more hb19.size
    have hB19 := hB18.trans (hb19.mono hB18.size)
    clear hB18
    clear hb19
    go_wp2_with fail
    clear hxL1
    clear hxL2
    refine (same_u Ar Am nr nm cr cm w19.heap.size w19.heap.size (numR bs) w19 (by rw [← hxr.1, List.length_map]; exact G2.out) hxr hxm).mono ?_
    rintro e w20 ⟨rfl, hb20⟩
    replace hr0 := hr0.below hb20 hB19.size
    replace hr1 := hr1.below hb20 hB19.size
    replace hr2 := hr2.below hb20 hB19.size
    replace hxo := (hxo.below hb20 (Nat.le_refl _)).more hb20.size
    replace hxr := (hxr.below hb20 (Nat.le_refl _)).more hb20.size
    replace hxm := (hxm.below hb20 (Nat.le_refl _)).more hb20.size
    replace hxl := (hxl.below hb20 (Nat.le_refl _)).more hb20.size
    replace hxg := (hxg.below hb20 (Nat.le_refl _)).more hb20.size
    replace hxp := (hxp.below hb20 (Nat.le_refl _)).more hb20.size
    replace hxe := (hxe.below hb20 (Nat.le_refl _)).more hb20.size
    replace hxq := (hxq.below hb20 (Nat.le_refl _)).more hb20.size
    replace hxt := (hxt.below hb20 (Nat.le_refl _)).more hb20.size
    have hB20 := hB19.trans (hb20.mono hB19.size)
    clear hB19
    clear hb20
    go_wp2_with fail
    clear hxr
    clear hxm
    refine (same_u Al Ag nl ng cl cg w20.heap.size w20.heap.size (textO bs).2.1 w20 (by rw [← hxl.1, List.length_map]; exact G3.out) hxl hxg).mono ?_
    rintro e w21 ⟨rfl, hb21⟩
    replace hr0 := hr0.below hb21 hB20.size
    replace hr1 := hr1.below hb21 hB20.size
    replace hr2 := hr2.below hb21 hB20.size
    replace hxo := (hxo.below hb21 (Nat.le_refl _)).more hb21.size
    replace hxl := (hxl.below hb21 (Nat.le_refl _)).more hb21.size
    replace hxg := (hxg.below hb21 (Nat.le_refl _)).more hb21.size
    replace hxp := (hxp.below hb21 (Nat.le_refl _)).more hb21.size
    replace hxe := (hxe.below hb21 (Nat.le_refl _)).more hb21.size
    replace hxq := (hxq.below hb21 (Nat.le_refl _)).more hb21.size
    replace hxt := (hxt.below hb21 (Nat.le_refl _)).more hb21.size
    have hB21 := hB20.trans (hb21.mono hB20.size)
    clear hB20
    clear hb21
    go_wp2_with fail
    clear hxl
    clear hxg
    refine (sameT_u Ap Aq np nq cp cq w21.heap.size w21.heap.size (takeO bs most).1 w21 (by rw [← hxp.1, List.length_map]; exact G4.out) hxp hxq).mono ?_
    rintro e w22 ⟨rfl, hb22⟩
    replace hr0 := hr0.below hb22 hB21.size
    replace hr1 := hr1.below hb22 hB21.size
    replace hr2 := hr2.below hb22 hB21.size
    replace hxo := (hxo.below hb22 (Nat.le_refl _)).more hb22.size
    replace hxp := (hxp.below hb22 (Nat.le_refl _)).more hb22.size
    replace hxe := (hxe.below hb22 (Nat.le_refl _)).more hb22.size
    replace hxq := (hxq.below hb22 (Nat.le_refl _)).more hb22.size
    replace hxt := (hxt.below hb22 (Nat.le_refl _)).more hb22.size
    have hB22 := hB21.trans (hb22.mono hB21.size)
    clear hB21
    clear hb22
    go_wp2_with fail
    clear hxp
    clear hxq
    refine (same_u Ae At ne nt ce ct w22.heap.size w22.heap.size (takeO bs most).2.1 w22 (by rw [← hxe.1, List.length_map]; exact G5.out) hxe hxt).mono ?_
    rintro e w23 ⟨rfl, hb23⟩
    replace hr0 := hr0.below hb23 hB22.size
    replace hr1 := hr1.below hb23 hB22.size
    replace hr2 := hr2.below hb23 hB22.size
    replace hxo := (hxo.below hb23 (Nat.le_refl _)).more hb23.size
    replace hxe := (hxe.below hb23 (Nat.le_refl _)).more hb23.size
    replace hxt := (hxt.below hb23 (Nat.le_refl _)).more hb23.size
    have hB23 := hB22.trans (hb23.mono hB22.size)
    clear hB22
    clear hb23
    have hund : undef = Value.tuple #[] := rfl
    go_wp2_with fail
    clear hxe
    clear hxt
    refine (same_u Ao A2 len2 len2 co cap2 w23.heap.size W.heap.size bs w23 (by unfold maxLen; omega) hxo hr2).mono ?_
    rintro e w24 ⟨rfl, hb24⟩
    replace hr0 := hr0.below hb24 hB23.size
    replace hr1 := hr1.below hb24 hB23.size
    replace hr2 := hr2.below hb24 hB23.size
    replace hxo := (hxo.below hb24 (Nat.le_refl _)).more hb24.size
    have hB24 := hB23.trans (hb24.mono hB23.size)
    clear hB23
    clear hb24
    go_wp2_with fail
    go_ret
    exact ⟨rfl, hB24⟩
  · have hno : ¬ ∀ z ∈ [a4], IsN z := fun h => h4 (h a4 (by simp))
    have eR := numsB_no hno
    have eL : (numsL [a4]).length = 0 := by rw [numsL_no hno]; rfl
    rw [eR, eL]
    clear eR eL hno
    refine (size_no a4 w12 (not_isN h4)).mono ?_
    rintro e w12' ⟨rfl, rfl⟩
    go_wp2_with fail
    refine (same_u Ax Ay nx ny cx cy w12.heap.size w12.heap.size (numsL zs) w12 (by rw [← hxx.1, List.length_map]; exact G1.out) hxx hxy).mono ?_
    rintro e w13 ⟨rfl, hb13⟩
    replace hr0 := hr0.below hb13 hB12.size
    replace hr1 := hr1.below hb13 hB12.size
    replace hr2 := hr2.below hb13 hB12.size
    replace hxo := (hxo.below hb13 (Nat.le_refl _)).more hb13.size
    replace hxx := (hxx.below hb13 (Nat.le_refl _)).more hb13.size
    replace hxy := (hxy.below hb13 (Nat.le_refl _)).more hb13.size
    replace hxr := (hxr.below hb13 (Nat.le_refl _)).more hb13.size
    replace hxm := (hxm.below hb13 (Nat.le_refl _)).more hb13.size
    replace hxl := (hxl.below hb13 (Nat.le_refl _)).more hb13.size
    replace hxg := (hxg.below hb13 (Nat.le_refl _)).more hb13.size
    replace hxp := (hxp.below hb13 (Nat.le_refl _)).more hb13.size
    replace hxe := (hxe.below hb13 (Nat.le_refl _)).more hb13.size
    replace hxq := (hxq.below hb13 (Nat.le_refl _)).more hb13.size
    replace hxt := (hxt.below hb13 (Nat.le_refl _)).more hb13.size
    have hB13 := hB12.trans (hb13.mono hB12.size)
    clear hB12
    clear hb13
    go_wp2_with fail
    clear hxx
    clear hxy
    refine (texts_any A1 len1 cap1 W.heap.size ss w13 (by omega) hr1 hB13.size (by omega)).mono ?_
    rintro e w14 ⟨v14, rfl, hown14, hb14⟩
    obtain ⟨AT1, cT1, rfl, _, _⟩ := own_shape hown14
    have hxT1 := Rd.own hown14
    clear hown14
    replace hr0 := hr0.below hb14 hB13.size
    replace hr1 := hr1.below hb14 hB13.size
    replace hr2 := hr2.below hb14 hB13.size
    replace hxo := (hxo.below hb14 (Nat.le_refl _)).more hb14.size
    replace hxr := (hxr.below hb14 (Nat.le_refl _)).more hb14.size
    replace hxm := (hxm.below hb14 (Nat.le_refl _)).more hb14.size
    replace hxl := (hxl.below hb14 (Nat.le_refl _)).more hb14.size
    replace hxg := (hxg.below hb14 (Nat.le_refl _)).more hb14.size
    replace hxp := (hxp.below hb14 (Nat.le_refl _)).more hb14.size
    replace hxe := (hxe.below hb14 (Nat.le_refl _)).more hb14.size
    replace hxq := (hxq.below hb14 (Nat.le_refl _)).more hb14.size
    replace hxt := (hxt.below hb14 (Nat.le_refl _)).more hb14.size
    have hB14 := hB13.trans (hb14.mono hB13.size)
    clear hB13
    clear hb14
    go_wp2_with fail
    refine (refTexts_any A1 len1 cap1 W.heap.size ss w14 (by omega) hr1 hB14.size (by omega)).mono ?_
    rintro e w15 ⟨v15, rfl, hown15, hb15⟩
    obtain ⟨AT2, cT2, rfl, _, _⟩ := own_shape hown15
    have hxT2 := Rd.own hown15
    clear hown15
    replace hr0 := hr0.below hb15 hB14.size
    replace hr1 := hr1.below hb15 hB14.size
    replace hr2 := hr2.below hb15 hB14.size
    replace hxo := (hxo.below hb15 (Nat.le_refl _)).more hb15.size
    replace hxr := (hxr.below hb15 (Nat.le_refl _)).more hb15.size
    replace hxm := (hxm.below hb15 (Nat.le_refl _)).more hb15.size
    replace hxl := (hxl.below hb15 (Nat.le_refl _)).more hb15.size
    replace hxg := (hxg.below hb15 (Nat.le_refl _)).more hb15.size
    replace hxp := (hxp.below hb15 (Nat.le_refl _)).more hb15.size
    replace hxe := (hxe.below hb15 (Nat.le_refl _)).more hb15.size
    replace hxq := (hxq.below hb15 (Nat.le_refl _)).more hb15.size
    replace hxt := (hxt.below hb15 (Nat.le_refl _)).more hb15.size
    replace hxT1 := (hxT1.below hb15 (Nat.le_refl _)).more hb15.size
    have hB15 := hB14.trans (hb15.mono hB14.size)
    clear hB14
    clear hb15
    go_wp2_with fail
    refine (same_u AT1 AT2 _ _ cT1 cT2 w15.heap.size w15.heap.size (encTexts ss) w15 (by unfold maxLen; omega) hxT1 hxT2).mono ?_
    rintro e w16 ⟨rfl, hb16⟩
    replace hr0 := hr0.below hb16 hB15.size
    replace hr1 := hr1.below hb16 hB15.size
    replace hr2 := hr2.below hb16 hB15.size
    replace hxo := (hxo.below hb16 (Nat.le_refl _)).more hb16.size
    replace hxr := (hxr.below hb16 (Nat.le_refl _)).more hb16.size
    replace hxm := (hxm.below hb16 (Nat.le_refl _)).more hb16.size
    replace hxl := (hxl.below hb16 (Nat.le_refl _)).more hb16.size
    replace hxg := (hxg.below hb16 (Nat.le_refl _)).more hb16.size
    replace hxp := (hxp.below hb16 (Nat.le_refl _)).more hb16.size
    replace hxe := (hxe.below hb16 (Nat.le_refl _)).more hb16.size
    replace hxq := (hxq.below hb16 (Nat.le_refl _)).more hb16.size
    replace hxt := (hxt.below hb16 (Nat.le_refl _)).more hb16.size
    replace hxT1 := (hxT1.below hb16 (Nat.le_refl _)).more hb16.size
    replace hxT2 := (hxT2.below hb16 (Nat.le_refl _)).more hb16.size
    have hB16 := hB15.trans (hb16.mono hB15.size)
    clear hB15
    clear hb16
    go_wp2_with fail
    clear hxT1
    clear hxT2
    refine (list_any A1 len1 cap1 W.heap.size ss w16 (by omega) hr1 hB16.size (by omega)).mono ?_
    rintro e w17 ⟨v17, rfl, hown17, hb17⟩
    obtain ⟨AL1, cL1, rfl, _, _⟩ := own_shape hown17
    have hxL1 := Rd.own hown17
    clear hown17
    replace hr0 := hr0.below hb17 hB16.size
    replace hr1 := hr1.below hb17 hB16.size
    replace hr2 := hr2.below hb17 hB16.size
    replace hxo := (hxo.below hb17 (Nat.le_refl _)).more hb17.size
    replace hxr := (hxr.below hb17 (Nat.le_refl _)).more hb17.size
    replace hxm := (hxm.below hb17 (Nat.le_refl _)).more hb17.size
    replace hxl := (hxl.below hb17 (Nat.le_refl _)).more hb17.size
    replace hxg := (hxg.below hb17 (Nat.le_refl _)).more hb17.size
    replace hxp := (hxp.below hb17 (Nat.le_refl _)).more hb17.size
    replace hxe := (hxe.below hb17 (Nat.le_refl _)).more hb17.size
    replace hxq := (hxq.below hb17 (Nat.le_refl _)).more hb17.size
    replace hxt := (hxt.below hb17 (Nat.le_refl _)).more hb17.size
    have hB17 := hB16.trans (hb17.mono hB16.size)
    clear hB16
    clear hb17
    go_wp2_with fail
    refine (refList_any A1 len1 cap1 W.heap.size ss w17 (by omega) hr1 hB17.size (by omega)).mono ?_
    rintro e w18 ⟨v18, rfl, hown18, hb18⟩
    obtain ⟨AL2, cL2, rfl, _, _⟩ := own_shape hown18
    have hxL2 := Rd.own hown18
    clear hown18
    replace hr0 := hr0.below hb18 hB17.size
    replace hr1 := hr1.below hb18 hB17.size
    replace hr2 := hr2.below hb18 hB17.size
    replace hxo := (hxo.below hb18 (Nat.le_refl _)).more hb18.size
    replace hxr := (hxr.below hb18 (Nat.le_refl _)).more hb18.size
    replace hxm := (hxm.below hb18 (Nat.le_refl _)).more hb18.size
    replace hxl := (hxl.below hb18 (Nat.le_refl _)).more hb18.size
    replace hxg := (hxg.below hb18 (Nat.le_refl _)).more hb18.size
    replace hxp := (hxp.below hb18 (Nat.le_refl _)).more hb18.size
    replace hxe := (hxe.below hb18 (Nat.le_refl _)).more hb18.size
    replace hxq := (hxq.below hb18 (Nat.le_refl _)).more hb18.size
    replace hxt := (hxt.below hb18 (Nat.le_refl _)).more hb18.size
    replace hxL1 := (hxL1.below hb18 (Nat.le_refl _)).more hb18.size
    have hB18 := hB17.trans (hb18.mono hB17.size)
    clear hB17
    clear hb18
    go_wp2_with fail
    refine (same_u AL1 AL2 _ _ cL1 cL2 w18.heap.size w18.heap.size (Plain.enc len1 ++ encTexts ss) w18 (by unfold maxLen; omega) hxL1 hxL2).mono ?_
    rintro e w19 ⟨rfl, hb19⟩
    replace hr0 := hr0.below hb19 hB18.size
    replace hr1 := hr1.below hb19 hB18.size
    replace hr2 := hr2.below hb19 hB18.size
    replace hxo := (hxo.below hb19 (Nat.le_refl _)).more hb19.size
    replace hxr := (hxr.below hb19 (Nat.le_refl _)).more hb19.size
    replace hxm := (hxm.below hb19 (Nat.le_refl _)).more hb19.size
    replace hxl := (hxl.below hb19 (Nat.le_refl _)).more hb19.size
    replace hxg := (hxg.below hb19 (Nat.le_refl _)).more hb19.size
    replace hxp := (hxp.below hb19 (Nat.le_refl _)).more hb19.size
    replace hxe := (hxe.below hb19 (Nat.le_refl _)).more hb19.size
    replace hxq := (hxq.below hb19 (Nat.le_refl _)).more hb19.size
    replace hxt := (hxt.below hb19 (Nat.le_refl _)).more hb19.size
    replace hxL1 := (hxL1.below hb19 (Nat.le_refl _)).more hb19.size
    replace hxL2 := (hxL2.below hb19 (Nat.le_refl _)).more hb19.size
    have hB19 := hB18.trans (hb19.mono hB18.size)
    clear hB18
    clear hb19
    go_wp2_with fail
    clear hxL1
    clear hxL2
    refine (same_u Ar Am nr nm cr cm w19.heap.size w19.heap.size (numR bs) w19 (by rw [← hxr.1, List.length_map]; exact G2.out) hxr hxm).mono ?_
    rintro e w20 ⟨rfl, hb20⟩
    replace hr0 := hr0.below hb20 hB19.size
    replace hr1 := hr1.below hb20 hB19.size
    replace hr2 := hr2.below hb20 hB19.size
    replace hxo := (hxo.below hb20 (Nat.le_refl _)).more hb20.size
    replace hxr := (hxr.below hb20 (Nat.le_refl _)).more hb20.size
    replace hxm := (hxm.below hb20 (Nat.le_refl _)).more hb20.size
    replace hxl := (hxl.below hb20 (Nat.le_refl _)).more hb20.size
    replace hxg := (hxg.below hb20 (Nat.le_refl _)).more hb20.size
    replace hxp := (hxp.below hb20 (Nat.le_refl _)).more hb20.size
    replace hxe := (hxe.below hb20 (Nat.le_refl _)).more hb20.size
    replace hxq := (hxq.below hb20 (Nat.le_refl _)).more hb20.size
    replace hxt := (hxt.below hb20 (Nat.le_refl _)).more hb20.size
    have hB20 := hB19.trans (hb20.mono hB19.size)
    clear hB19
    clear hb20
    go_wp2_with fail
    clear hxr
    clear hxm
    refine (same_u Al Ag nl ng cl cg w20.heap.size w20.heap.size (textO bs).2.1 w20 (by rw [← hxl.1, List.length_map]; exact G3.out) hxl hxg).mono ?_
    rintro e w21 ⟨rfl, hb21⟩
    replace hr0 := hr0.below hb21 hB20.size
    replace hr1 := hr1.below hb21 hB20.size
    replace hr2 := hr2.below hb21 hB20.size
    replace hxo := (hxo.below hb21 (Nat.le_refl _)).more hb21.size
    replace hxl := (hxl.below hb21 (Nat.le_refl _)).more hb21.size
    replace hxg := (hxg.below hb21 (Nat.le_refl _)).more hb21.size
    replace hxp := (hxp.below hb21 (Nat.le_refl _)).more hb21.size
    replace hxe := (hxe.below hb21 (Nat.le_refl _)).more hb21.size
    replace hxq := (hxq.below hb21 (Nat.le_refl _)).more hb21.size
    replace hxt := (hxt.below hb21 (Nat.le_refl _)).more hb21.size
    have hB21 := hB20.trans (hb21.mono hB20.size)
    clear hB20
    clear hb21
    go_wp2_with fail
    clear hxl
    clear hxg
    refine (sameT_u Ap Aq np nq cp cq w21.heap.size w21.heap.size (takeO bs most).1 w21 (by rw [← hxp.1, List.length_map]; exact G4.out) hxp hxq).mono ?_
    rintro e w22 ⟨rfl, hb22⟩
    replace hr0 := hr0.below hb22 hB21.size
    replace hr1 := hr1.below hb22 hB21.size
    replace hr2 := hr2.below hb22 hB21.size
    replace hxo := (hxo.below hb22 (Nat.le_refl _)).more hb22.size
    replace hxp := (hxp.below hb22 (Nat.le_refl _)).more hb22.size
    replace hxe := (hxe.below hb22 (Nat.le_refl _)).more hb22.size
    replace hxq := (hxq.below hb22 (Nat.le_refl _)).more hb22.size
    replace hxt := (hxt.below hb22 (Nat.le_refl _)).more hb22.size
    have hB22 := hB21.trans (hb22.mono hB21.size)
    clear hB21
    clear hb22
    go_wp2_with fail
    clear hxp
    clear hxq
    refine (same_u Ae At ne nt ce ct w22.heap.size w22.heap.size (takeO bs most).2.1 w22 (by rw [← hxe.1, List.length_map]; exact G5.out) hxe hxt).mono ?_
    rintro e w23 ⟨rfl, hb23⟩
    replace hr0 := hr0.below hb23 hB22.size
    replace hr1 := hr1.below hb23 hB22.size
    replace hr2 := hr2.below hb23 hB22.size
    replace hxo := (hxo.below hb23 (Nat.le_refl _)).more hb23.size
    replace hxe := (hxe.below hb23 (Nat.le_refl _)).more hb23.size
    replace hxt := (hxt.below hb23 (Nat.le_refl _)).more hb23.size
    have hB23 := hB22.trans (hb23.mono hB22.size)
    clear hB22
    clear hb23
    go_wp2_with fail
    clear hxe
    clear hxt
    refine (same_u Ao A2 len2 len2 co cap2 w23.heap.size W.heap.size bs w23 (by unfold maxLen; omega) hxo hr2).mono ?_
    rintro e w24 ⟨rfl, hb24⟩
    replace hr0 := hr0.below hb24 hB23.size
    replace hr1 := hr1.below hb24 hB23.size
    replace hr2 := hr2.below hb24 hB23.size
    replace hxo := (hxo.below hb24 (Nat.le_refl _)).more hb24.size
    have hB24 := hB23.trans (hb24.mono hB23.size)
    clear hB23
    clear hb24
    go_wp2_with fail
    go_ret
    exact ⟨rfl, hB24⟩

set_option maxRecDepth 100000 in
theorem walk_WireAnswers (A0 : Option Addr) (len0 cap0 : Nat) (zs : List Int) (A1 : Option Addr) (len1 cap1 : Nat) (ss : List ByteArray) (A2 : Option Addr) (len2 cap2 : Nat) (bs : List UInt8) (most a4 : Int) (W : World)
    (hr0 : Rd W W.heap.size A0 len0 (zs.map numCell)) (c0 : len0 ≤ cap0) (m0 : cap0 ≤ maxLen) (hr1 : Rd W W.heap.size A1 len1 (ss.map Value.string)) (c1 : len1 ≤ cap1) (m1 : cap1 ≤ maxLen) (z1 : ∀ s ∈ ss, s.size ≤ reachBytes)
    (hr2 : Rd W W.heap.size A2 len2 (bs.map Plain.cell)) (hc2 : len2 ≤ cap2) (hm2 : cap2 ≤ maxLen) (w3 : (Lit.int .i64 most).wf = true) (w4 : (Lit.int .i64 a4).wf = true) :
    Calls Try.prog 3 #[.slice A0 len0 cap0, .slice A1 len1 cap1, .slice A2 len2 cap2, .int .i64 most, .int .i64 a4] W fun e w' => e = .returned (.bool true) ∧ Below W.heap.size W w' := by
  by_cases hg : 2000 < lensum ss ∨ 3000 < len2
  · clear hr0 c0 m0 c1 m1 hr2 hc2 hm2 w3 w4
    go_enter Try.func3, Try.ntmps3
    go_wp2_with fail
    refine (alive_any W).mono ?_
    rintro e w2 ⟨rfl, hB2⟩
    go_wp2_with fail
    refine (great_yes A1 A2 len1 cap1 len2 cap2 W.heap.size ss w2 (hr1.below hB2 (Nat.le_refl _)) z1 hg).mono ?_
    rintro e w3 ⟨rfl, rfl⟩
    go_wp2_with fail
    go_ret
    exact ⟨rfl, hB2⟩
  · have h1 : lensum ss ≤ 2000 := by omega
    have h2 : len2 ≤ 3000 := by omega
    by_cases h3 : len0 ≤ 200
    · exact answers_main A0 len0 cap0 zs A1 len1 cap1 ss A2 len2 cap2 bs most a4 W hr0 hr1 hr2 hc2 hm2 h3 h1 h2
    · have h3' : 200 < len0 := by omega
      clear hr0 c0 m0 c1 m1 hr2 hc2 hm2 w3 w4 z1 hg h3
      go_enter Try.func3, Try.ntmps3
      go_wp2_with fail
      refine (alive_any W).mono ?_
      rintro e w2 ⟨rfl, hB2⟩
      go_wp2_with fail
      refine (great_no A1 A2 len1 cap1 len2 cap2 W.heap.size ss w2 (hr1.below hB2 (Nat.le_refl _)) h1 h2).mono ?_
      rintro e w3 ⟨rfl, rfl⟩
      go_wp2_with fail
      go_ret
      exact ⟨rfl, hB2⟩

end Go.Proofs.Ytaipjdfgedjdnaa
