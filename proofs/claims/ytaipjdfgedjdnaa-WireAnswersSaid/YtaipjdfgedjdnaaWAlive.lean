/-
  Layer 2: the law's first line: the program answers what the document fixes.
-/
import Derived.Test.YtaipjdfgedjdnaaWTakeN
set_option linter.unusedVariables false
namespace Go.Proofs.Ytaipjdfgedjdnaa
open Go.RowKit

theorem rd_new (w : World) (cs : Array Value) (e : TypeId) : Rd (w.alloc (.cells cs e)) (w.heap.size + 1) (some ⟨w.heap.size, 0, none⟩) cs.size cs.toList := by
  refine ⟨by simp, fun _ => ⟨_, _, rfl, by omega, fun j u hu => ?_⟩⟩
  rw [Nat.zero_add, cell_of_row _ _ _ cs e (0, 0) (heap_alloc_new w _)]
  simpa using hu

theorem e300 : Plain.enc 300 = [172, 2] := by rw [Plain.enc_big (by omega), Plain.enc_small (by omega)]; rfl
theorem e1 : Plain.enc 1 = [1] := by rw [Plain.enc_small (by omega)]; rfl
theorem e2 : Plain.enc 2 = [2] := by rw [Plain.enc_small (by omega)]; rfl
theorem e0 : Plain.enc 0 = [0] := by rw [Plain.enc_small (by omega)]; rfl
theorem ea : encAll [300, 1] = [172, 2, 1] := by
  show Plain.enc 300 ++ (Plain.enc 1 ++ []) = _
  rw [e300, e1]; rfl
theorem hmc {n : Nat} (h : n ≤ 1000000) : n ≤ Plain.mc := by unfold Plain.mc; omega
theorem tka : Plain.tk [172, 2, 1] = (300, 2) := by
  have := Plain.tk_enc 300 [1] (hmc (by omega))
  rw [e300] at this
  exact this
def sAB : ByteArray := ⟨#[97, 98]⟩
def sC : ByteArray := ⟨#[99]⟩
def sX : ByteArray := ⟨#[120]⟩
def sE : ByteArray := ⟨#[]⟩
theorem et : encTexts [sAB, sC] = [2, 97, 98, 1, 99] := by
  show (Plain.enc 2 ++ [97, 98]) ++ ((Plain.enc 1 ++ [99]) ++ []) = _
  rw [e2, e1]; rfl
theorem tkt : Plain.tk [2, 97, 98, 1, 99] = (2, 1) := by
  have := Plain.tk_enc 2 [97, 98, 1, 99] (hmc (by omega))
  rw [e2] at this
  exact this
theorem el : Plain.enc 2 ++ encTexts [sX, sE] = [2, 1, 120, 0] := by
  show Plain.enc 2 ++ ((Plain.enc 1 ++ [120]) ++ ((Plain.enc 0 ++ []) ++ [])) = _
  rw [e2, e1, e0]; rfl
theorem tkl : Plain.tk [2, 1, 120, 0] = (2, 1) := by
  have := Plain.tk_enc 2 [1, 120, 0] (hmc (by omega))
  rw [e2] at this
  exact this
theorem tlx : takeL 2 [1, 120, 0] = some ([sX, sE], []) := by
  have := takeL_enc [sX, sE] [] (by intro s hs; simp at hs; rcases hs with rfl | rfl <;> exact hmc (by decide))
  have e : encTexts [sX, sE] ++ [] = [1, 120, 0] := by
    show ((Plain.enc 1 ++ [120]) ++ ((Plain.enc 0 ++ []) ++ [])) ++ [] = _
    rw [e1, e0]; rfl
  rw [e] at this
  exact this

set_option maxRecDepth 100000 in
set_option maxHeartbeats 1600000 in
theorem alive_any (w : World) : Calls Try.prog 8 #[] w fun e w' => e = .returned (.bool true) ∧ Below w.heap.size w w' := by
  have hstr : (str [97, 98]).toList = [97, 98] := by decide +kernel
  go_enter Try.func8, Try.ntmps8
  go_wp2_with fail
  have hr1 := rd_new w #[.int .i64 300, .int .i64 1] 3
  have hb1 : Below w.heap.size w (w.alloc (.cells #[.int .i64 300, .int .i64 1] 3)) := (Below.refl _ _).alloc (Nat.le_refl _) _
  refine (nums_yes _ 2 2 (w.heap.size + 1) [300, 1] _ (by omega) hr1 (by simp) (by intro z hz; simp at hz; unfold IsN; omega)).mono ?_
  rintro e w1 ⟨v1, rfl, hown1, hbel1⟩
  rw [ea] at hown1
  obtain ⟨A1, c1, rfl, hc1, hm1⟩ := own_shape hown1
  have hx1 : Rd w1 w1.heap.size A1 3 ([172, 2, 1].map Plain.cell) := Rd.own hown1
  have hs1 : w.heap.size ≤ w1.heap.size := by have := hbel1.size; simp at this; omega
  have hB1 : Below w.heap.size w w1 := hb1.trans (hbel1.mono (by simp))
  clear hown1 hbel1 hb1 hr1
  go_wp2_with fail
  have hq := num_yes A1 3 c1 _ [172, 2, 1] w1 (by omega) hc1 hm1 hx1 (Nat.le_refl _) (by rw [tka]; decide)
  rw [tka] at hq
  refine hq.mono ?_
  clear hq
  rintro e w2 ⟨v2, rfl, hown2, hbel2⟩
  obtain ⟨A2, c2, rfl, hc2, hm2⟩ := own_shape hown2
  have hx2 : Rd w2 w2.heap.size A2 1 ([1].map Plain.cell) := Rd.own hown2
  have hs2 : w.heap.size ≤ w2.heap.size := by have := hbel2.size; omega
  have hB2 : Below w.heap.size w w2 := hB1.trans (hbel2.mono hs1)
  have hx1 := (hx1.below hbel2 (Nat.le_refl _)).more hbel2.size
  clear hown2 hbel2 hB1
  go_wp2_with fail
  have hr3 := rd_new w2 #[.string sAB, .string sC] 9
  refine (texts_any _ 2 2 (w2.heap.size + 1) [sAB, sC] _ (by omega) hr3 (by simp) (by rw [et]; decide)).mono ?_
  rintro e w3 ⟨v3, rfl, hown3, hbel3⟩
  rw [et] at hown3
  obtain ⟨A3, c3, rfl, hc3, hm3⟩ := own_shape hown3
  have hx3 : Rd w3 w3.heap.size A3 5 ([2, 97, 98, 1, 99].map Plain.cell) := Rd.own hown3
  have hbel3' : Below w2.heap.size w2 w3 := ((Below.refl _ _).alloc (Nat.le_refl _) _).trans (hbel3.mono (by simp))
  have hs3 : w.heap.size ≤ w3.heap.size := by have := hbel3'.size; omega
  have hB3 : Below w.heap.size w w3 := hB2.trans (hbel3'.mono hs2)
  have hx1 := (hx1.below hbel3' (Nat.le_refl _)).more hbel3'.size
  have hx2 := (hx2.below hbel3' (Nat.le_refl _)).more hbel3'.size
  clear hown3 hbel3 hbel3' hr3 hB2
  go_wp2_with fail
  have hq := text_yes A3 5 c3 _ [2, 97, 98, 1, 99] w3 (by omega) hc3 hm3 hx3 (Nat.le_refl _) (by rw [tkt]; decide) (by rw [tkt]; decide)
  rw [tkt] at hq
  refine hq.mono ?_
  clear hq
  rintro e w4 ⟨v4, rfl, hown4, hbel4⟩
  obtain ⟨A4, c4, rfl, hc4, hm4⟩ := own_shape hown4
  have hx4 : Rd w4 w4.heap.size A4 2 ([1, 99].map Plain.cell) := Rd.own hown4
  have hs4 : w.heap.size ≤ w4.heap.size := by have := hbel4.size; omega
  have hB4 : Below w.heap.size w w4 := hB3.trans (hbel4.mono hs3)
  have hx1 := (hx1.below hbel4 (Nat.le_refl _)).more hbel4.size
  have hx2 := (hx2.below hbel4 (Nat.le_refl _)).more hbel4.size
  clear hown4 hbel4 hB3 hx3
  go_wp2_with fail
  have hr5 := rd_new w4 #[.string sX, .string sE] 9
  refine (list_any _ 2 2 (w4.heap.size + 1) [sX, sE] _ (by omega) hr5 (by simp) (by decide +kernel)).mono ?_
  rintro e w5 ⟨v5, rfl, hown5, hbel5⟩
  rw [← List.length_append, el] at hown5
  obtain ⟨A5, c5, rfl, hc5, hm5⟩ := own_shape hown5
  have hx5 : Rd w5 w5.heap.size A5 4 ([2, 1, 120, 0].map Plain.cell) := Rd.own hown5
  have hbel5' : Below w4.heap.size w4 w5 := ((Below.refl _ _).alloc (Nat.le_refl _) _).trans (hbel5.mono (by simp))
  have hs5 : w.heap.size ≤ w5.heap.size := by have := hbel5'.size; omega
  have hB5 : Below w.heap.size w w5 := hB4.trans (hbel5'.mono hs4)
  have hx1 := (hx1.below hbel5' (Nat.le_refl _)).more hbel5'.size
  have hx2 := (hx2.below hbel5' (Nat.le_refl _)).more hbel5'.size
  have hx4 := (hx4.below hbel5' (Nat.le_refl _)).more hbel5'.size
  clear hown5 hbel5 hbel5' hr5 hB4
  go_wp2_with fail
  have hq := take_any A5 4 c5 _ [2, 1, 120, 0] 2 w5 (by omega) hc5 hm5 hx5 (Nat.le_refl _) (by rw [tkl]; decide) (by rw [tkl]; decide) [sX, sE] [] (by rw [tkl]; exact tlx)
  refine hq.mono ?_
  clear hq
  rintro e w6 ⟨v6, v7, rfl, hown6, hown7, hbel6⟩
  obtain ⟨A6, c6, rfl, hc6, hm6⟩ := own_shape hown6
  obtain ⟨A7, c7, rfl, hc7, hm7⟩ := own_shape hown7
  have hx6 : Rd w6 w6.heap.size A6 2 ([sX, sE].map Value.string) := Rd.own hown6
  have hs6 : w.heap.size ≤ w6.heap.size := by have := hbel6.size; omega
  have hB6 : Below w.heap.size w w6 := hB5.trans (hbel6.mono hs5)
  have hx1 := (hx1.below hbel6 (Nat.le_refl _)).more hbel6.size
  have hx2 := (hx2.below hbel6 (Nat.le_refl _)).more hbel6.size
  have hx4 := (hx4.below hbel6 (Nat.le_refl _)).more hbel6.size
  clear hown6 hown7 hbel6 hB5 hx5
  go_wp2_with fail
  refine (sameBytes_yes A1 _ 3 c1 3 w6.heap.size (w6.heap.size + 1) [172, 2, 1] _ (by unfold maxLen; omega) (hx1.alloc (Nat.le_refl _) _) (rd_new w6 #[.int .u8 172, .int .u8 2, .int .u8 1] 5)).mono ?_
  rintro e w7 ⟨rfl, q7, rfl⟩
  have hx2 := ((hx2.alloc (Nat.le_refl _) (.cells #[.int .u8 172, .int .u8 2, .int .u8 1] 5)).drewN q7).more (Nat.le_succ _)
  have hx4 := ((hx4.alloc (Nat.le_refl _) (.cells #[.int .u8 172, .int .u8 2, .int .u8 1] 5)).drewN q7).more (Nat.le_succ _)
  have hx6 := ((hx6.alloc (Nat.le_refl _) (.cells #[.int .u8 172, .int .u8 2, .int .u8 1] 5)).drewN q7).more (Nat.le_succ _)
  have hB7 := below_drewN (hB6.alloc hs6 (.cells #[.int .u8 172, .int .u8 2, .int .u8 1] 5)) q7
  have hs7 : w6.heap.size + 1 ≤ ((w6.alloc (.cells #[.int .u8 172, .int .u8 2, .int .u8 1] 5)).drewN q7).heap.size := by simp [World.drewN]
  clear hx1 hB6
  generalize hw7 : (w6.alloc (.cells #[.int .u8 172, .int .u8 2, .int .u8 1] 5)).drewN q7 = w7 at *
  clear hw7
  go_wp2_with fail
  refine (sameBytes_yes A2 _ 1 c2 1 (w6.heap.size + 1) (w7.heap.size + 1) [1] _ (by unfold maxLen; omega) (hx2.alloc hs7 _) (rd_new w7 #[.int .u8 1] 5)).mono ?_
  rintro e w8 ⟨rfl, q8, rfl⟩
  have hx4 := ((hx4.alloc hs7 (.cells #[.int .u8 1] 5)).drewN q8)
  have hx6 := ((hx6.alloc hs7 (.cells #[.int .u8 1] 5)).drewN q8)
  have hB8 := below_drewN (hB7.alloc (by omega) (.cells #[.int .u8 1] 5)) q8
  have hs8 : w6.heap.size + 1 ≤ ((w7.alloc (.cells #[.int .u8 1] 5)).drewN q8).heap.size := by simp [World.drewN]; omega
  clear hx2 hB7 hs7
  generalize hw8 : (w7.alloc (.cells #[.int .u8 1] 5)).drewN q8 = w8 at *
  clear hw8
  go_wp2_with fail
  refine (sameBytes_yes A4 _ 2 c4 2 (w6.heap.size + 1) (w8.heap.size + 1) [1, 99] _ (by unfold maxLen; omega) (hx4.alloc hs8 _) (rd_new w8 #[.int .u8 1, .int .u8 99] 5)).mono ?_
  rintro e w9 ⟨rfl, q9, rfl⟩
  have hx6 := ((hx6.alloc hs8 (.cells #[.int .u8 1, .int .u8 99] 5)).drewN q9)
  have hB9 := below_drewN (hB8.alloc (by omega) (.cells #[.int .u8 1, .int .u8 99] 5)) q9
  have hs9 : w6.heap.size + 1 ≤ ((w8.alloc (.cells #[.int .u8 1, .int .u8 99] 5)).drewN q9).heap.size := by simp [World.drewN]; omega
  clear hx4 hB8 hs8
  generalize hw9 : (w8.alloc (.cells #[.int .u8 1, .int .u8 99] 5)).drewN q9 = w9 at *
  clear hw9
  go_wp2_with fail
  refine (sameTexts_yes A6 _ 2 c6 2 (w6.heap.size + 1) (w9.heap.size + 1) [sX, sE] _ (by unfold maxLen; omega) (hx6.alloc hs9 _) (rd_new w9 #[.string sX, .string sE] 9)).mono ?_
  rintro e w10 ⟨rfl, q10, rfl⟩
  have hB10 := below_drewN (hB9.alloc (by omega) (.cells #[.string sX, .string sE] 9)) q10
  clear hx6 hB9 hs9
  generalize hw10 : (w9.alloc (.cells #[.string sX, .string sE] 9)).drewN q10 = w10 at *
  clear hw10
  go_wp2_with fail
  have hq := size_yes 300 w10 (hmc (by omega))
  rw [e300] at hq
  refine hq.mono ?_
  clear hq
  rintro e w11 ⟨rfl, rfl⟩
  go_wp2_with fail
  go_ret
  exact ⟨rfl, hB10⟩

end Go.Proofs.Ytaipjdfgedjdnaa
