/-
  WireOrder: the walk.
-/
import Derived.Test.YtaipjdfgedjdnaaWAlive
import Derived.Test.YtaipjdfgedjdnaaLawKit
set_option linter.unusedVariables false
namespace Go.Proofs.Ytaipjdfgedjdnaa
open Go.RowKit

/-- The bytes of one number begin no other one's. -/
theorem enc_free {a b : Nat} (ha : a ≤ Plain.mc) (hb : b ≤ Plain.mc) (h : (Plain.enc b).take (Plain.enc a).length = Plain.enc a) : a = b := by
  have h1 := Plain.tk_enc b [] hb
  have e : Plain.enc b = Plain.enc a ++ (Plain.enc b).drop (Plain.enc a).length := by
    conv => lhs; rw [← List.take_append_drop (Plain.enc a).length (Plain.enc b), h]
  have h2 := Plain.tk_enc a ((Plain.enc b).drop (Plain.enc a).length) ha
  rw [← e] at h2
  rw [List.append_nil, h2] at h1
  exact congrArg Prod.fst h1

theorem not_isN {z : Int} (h : ¬ IsN z) : z < 0 ∨ 1099511627776 < z := by unfold IsN at h; omega

set_option maxRecDepth 100000 in
set_option maxHeartbeats 1600000 in
theorem walk_WireOrder (a0 a1 : Int) (W : World) (w0 : (Lit.int .i64 a0).wf = true) (w1 : (Lit.int .i64 a1).wf = true) :
    Calls Try.prog 6 #[.int .i64 a0, .int .i64 a1] W fun e w' => e = .returned (.bool true) ∧ Below W.heap.size W w' := by
  go_enter Try.func6, Try.ntmps6
  go_wp2_with fail
  refine (alive_any W).mono ?_
  rintro e w2 ⟨rfl, hB2⟩
  go_wp2_with fail
  by_cases h0 : IsN a0
  · obtain ⟨m0, rfl⟩ := Int.eq_ofNat_of_zero_le h0.1
    have hr := rd_new w2 #[.int .i64 (m0 : Int)] 3
    refine (nums_yes _ 1 1 (w2.heap.size + 1) [(m0 : Int)] _ (by omega) hr (by simp) (by intro z hz; simp at hz; rw [hz]; exact h0)).mono ?_
    rintro e w3 ⟨v3, rfl, hown3, hbel3⟩
    have e3 : encAll [(m0 : Int)] = Plain.enc m0 := by simp [encAll]
    rw [e3] at hown3
    obtain ⟨A3, c3, rfl, hc3, hm3⟩ := own_shape hown3
    have hx3 : Rd w3 w3.heap.size A3 (Plain.enc m0).length ((Plain.enc m0).map Plain.cell) := Rd.own hown3
    have hbel3' : Below W.heap.size W w3 := (hB2.alloc hB2.size _).trans (hbel3.mono (by have := hB2.size; simp; omega))
    clear hown3 hbel3 hr hB2 e3
    go_wp2_with fail
    by_cases h1 : IsN a1
    · obtain ⟨m1, rfl⟩ := Int.eq_ofNat_of_zero_le h1.1
      have hr := rd_new w3 #[.int .i64 (m1 : Int)] 3
      refine (nums_yes _ 1 1 (w3.heap.size + 1) [(m1 : Int)] _ (by omega) hr (by simp) (by intro z hz; simp at hz; rw [hz]; exact h1)).mono ?_
      rintro e w4 ⟨v4, rfl, hown4, hbel4⟩
      have e3 : encAll [(m1 : Int)] = Plain.enc m1 := by simp [encAll]
      rw [e3] at hown4
      obtain ⟨A4, c4, rfl, hc4, hm4⟩ := own_shape hown4
      have hx4 : Rd w4 w4.heap.size A4 (Plain.enc m1).length ((Plain.enc m1).map Plain.cell) := Rd.own hown4
      have hbel4'' : Below w3.heap.size w3 w4 := ((Below.refl _ _).alloc (Nat.le_refl _) _).trans (hbel4.mono (by simp))
      have hbel4' : Below W.heap.size W w4 := hbel3'.trans (hbel4''.mono hbel3'.size)
      have hx3 := hx3.below hbel4'' (Nat.le_refl _)
      clear hown4 hbel4 hr hbel4'' hbel3' e3
      have g0 := h0.nat.1
      have g1 := h1.nat.1
      simp only [Int.toNat_natCast] at g0 g1
      clear h0 h1
      have hmono : m0 ≤ m1 → (Plain.enc m0).length ≤ (Plain.enc m1).length := Plain.enc_mono_length m0 m1
      have l0 := Plain.enc_length_six g0
      have l1 := Plain.enc_length_six g1
      have Hfree := Lib.hid (fun h => enc_free g0 g1 h)
      generalize hE0 : Plain.enc m0 = E0 at *
      generalize hE1 : Plain.enc m1 = E1 at *
      have HE0 := Lib.hid hE0; clear hE0
      have HE1 := Lib.hid hE1; clear hE1
      by_cases hlt : m0 < m1
      · have hle : E0.length ≤ E1.length := hmono (by omega)
        have hne : ((m0 : Int) == (m1 : Int)) = false := by rw [beq_eq_false_iff_ne]; omega
        have hsame : E1.take E0.length ≠ E0 := fun h => by have := Hfree.out h; omega
        have Hsame := Lib.hid hsame; clear hsame
        clear hmono
        go_wp2_with fail
        refine (sameBytes_no A3 A4 E0.length c3 c4 w3.heap.size w4.heap.size E0 (E1.take E0.length) w4 (by unfold maxLen; omega) hx3 (by rw [List.map_take]; exact hx4.cut_end _ hle) (fun h => Hsame.out h.symm)).mono ?_
        rintro e w5 ⟨rfl, q, rfl⟩
        go_wp2_with fail
        go_ret
        exact ⟨rfl, below_drewN hbel4' q⟩
      · by_cases heq : m0 = m1
        · subst heq
          clear hmono
          go_wp2_with fail
          go_ret
          exact ⟨rfl, hbel4'⟩
        · have hgt : m1 < m0 := by omega
          have hne : ((m0 : Int) == (m1 : Int)) = false := by rw [beq_eq_false_iff_ne]; omega
          clear hmono
          by_cases hlen : E1.length < E0.length
          · go_wp2_with fail
            go_ret
            exact ⟨rfl, hbel4'⟩
          · have hle : E0.length ≤ E1.length := by omega
            have hsame : E1.take E0.length ≠ E0 := fun h => by have := Hfree.out h; omega
            have Hsame := Lib.hid hsame; clear hsame
            go_wp2_with fail
            refine (sameBytes_no A3 A4 E0.length c3 c4 w3.heap.size w4.heap.size E0 (E1.take E0.length) w4 (by unfold maxLen; omega) hx3 (by rw [List.map_take]; exact hx4.cut_end _ hle) (fun h => Hsame.out h.symm)).mono ?_
            rintro e w5 ⟨rfl, q, rfl⟩
            go_wp2_with fail
            go_ret
            exact ⟨rfl, below_drewN hbel4' q⟩
    · have hr := rd_new w3 #[.int .i64 a1] 3
      refine (nums_no _ 1 1 (w3.heap.size + 1) [a1] _ (by omega) hr (by simp) ⟨a1, by simp, h1⟩).mono ?_
      rintro e w4 ⟨rfl, hbel4⟩
      have hbel4' : Below W.heap.size W w4 := (hbel3'.alloc hbel3'.size _).trans (hbel4.mono (by have := hbel3'.size; simp; omega))
      clear hbel4 hbel3'
      go_wp2_with fail
      go_ret
      exact ⟨rfl, hbel4'⟩
  · have hr := rd_new w2 #[.int .i64 a0] 3
    refine (nums_no _ 1 1 (w2.heap.size + 1) [a0] _ (by omega) hr (by simp) ⟨a0, by simp, h0⟩).mono ?_
    rintro e w3 ⟨rfl, hbel3⟩
    have hbel3' : Below W.heap.size W w3 := (hB2.alloc hB2.size _).trans (hbel3.mono (by have := hB2.size; simp; omega))
    clear hbel3 hr hB2
    go_wp2_with fail
    by_cases h1 : IsN a1
    · have hr := rd_new w3 #[.int .i64 a1] 3
      refine (nums_yes _ 1 1 (w3.heap.size + 1) [a1] _ (by omega) hr (by simp) (by intro z hz; simp at hz; rw [hz]; exact h1)).mono ?_
      rintro e w4 ⟨v4, rfl, hown4, hbel4⟩
      have hbel4' : Below W.heap.size W w4 := (hbel3'.alloc hbel3'.size _).trans (hbel4.mono (by have := hbel3'.size; simp; omega))
      clear hbel4 hbel3' hr hown4
      go_wp2_with fail
      refine (size_no a0 w4 (not_isN h0)).mono ?_
      rintro e w5 ⟨rfl, rfl⟩
      go_wp2_with fail
      go_ret
      exact ⟨rfl, hbel4'⟩
    · have hr := rd_new w3 #[.int .i64 a1] 3
      refine (nums_no _ 1 1 (w3.heap.size + 1) [a1] _ (by omega) hr (by simp) ⟨a1, by simp, h1⟩).mono ?_
      rintro e w4 ⟨rfl, hbel4⟩
      have hbel4' : Below W.heap.size W w4 := (hbel3'.alloc hbel3'.size _).trans (hbel4.mono (by have := hbel3'.size; simp; omega))
      clear hbel4 hbel3' hr
      go_wp2_with fail
      refine (size_no a0 w4 (not_isN h0)).mono ?_
      rintro e w5 ⟨rfl, rfl⟩
      go_wp2_with fail
      go_ret
      exact ⟨rfl, hbel4'⟩

end Go.Proofs.Ytaipjdfgedjdnaa
