/-
  WireBack: the walk.
-/
import Derived.Test.YtaipjdfgedjdnaaWGreat
import Derived.Test.YtaipjdfgedjdnaaLawKit
import Derived.Test.YtaipjdfgedjdnaaWOrder
import Derived.Test.YtaipjdfgedjdnaaWOne
set_option linter.unusedVariables false
namespace Go.Proofs.Ytaipjdfgedjdnaa
open Go.RowKit

theorem encTexts_le : ∀ ss : List ByteArray, (∀ s ∈ ss, s.size ≤ 2000) → (encTexts ss).length ≤ 6 * lensum ss
  | [], _ => by simp [encTexts]
  | s :: r, h => by
    have h1 := encTexts_le r fun x hx => h x (by simp [hx])
    have e : encTexts (s :: r) = encText s ++ encTexts r := rfl
    have h2 := Plain.enc_length_six (hmc (show s.size ≤ 1000000 by have := h s (by simp); omega))
    rw [e, List.length_append, encText_length]
    simp only [lensum]
    omega
theorem lensum_mem : ∀ {ss : List ByteArray} {s : ByteArray}, s ∈ ss → s.size < lensum ss
  | x :: r, s, h => by
    simp only [lensum]
    rcases List.mem_cons.1 h with rfl | h
    · omega
    · have := lensum_mem h; omega

set_option maxRecDepth 100000 in
set_option maxHeartbeats 4000000 in
theorem back_main (a0 : Int) (a1 : ByteArray) (A2 : Option Addr) (len2 cap2 : Nat) (ss : List ByteArray) (A3 : Option Addr) (len3 cap3 : Nat) (bh : List UInt8) (W : World)
    (hr2 : Rd W W.heap.size A2 len2 (ss.map Value.string)) (hr3 : Rd W W.heap.size A3 len3 (bh.map Plain.cell)) (hsum : lensum ss ≤ 2000) (h3 : len3 ≤ 3000) (h1 : a1.size ≤ 1000) :
    Calls Try.prog 4 #[.int .i64 a0, .string a1, .slice A2 len2 cap2, .slice A3 len3 cap3] W fun e w' => e = .returned (.bool true) ∧ Below W.heap.size W w' := by
  obtain ⟨i0, hi0, hz0, hz1, hz2⟩ := info_parts info5
  have hl2 := hr2.1
  rw [List.length_map] at hl2
  have hl3 := hr3.1
  rw [List.length_map] at hl3
  have hcount := lensum_count ss
  have hlen2 : len2 ≤ 2000 := by omega
  have Hmem := Lib.hid (fun s (hs : s ∈ ss) => show s.size ≤ 2000 by have := lensum_mem hs; omega)
  have htx := encTexts_le ss Hmem.out
  have htot : (encTexts ss).length ≤ 12000 := by omega
  have Hl2 := Lib.hid hl2; clear hl2
  have Hl3 := Lib.hid hl3; clear hl3
  clear hcount htx
  have ha1 : a1.size ≤ Plain.mc := hmc (by omega)
  have hen1 := Plain.enc_length_six ha1
  have e1l := encText_length a1
  have he1 : (encText a1).length ≤ 1006 := by omega
  have Htt := Lib.hid (tt_enc a1 bh ha1)
  have hm2 : len2 ≤ Plain.mc := hmc (by omega)
  have hen2 := Plain.enc_length_six hm2
  have Htk := Lib.hid (Plain.tk_enc len2 (encTexts ss ++ bh) hm2)
  have Htk2 := Lib.hid (Plain.tk_enc len2 (encTexts ss) hm2)
  have Htl := Lib.hid (show takeL len2 ((Plain.enc len2 ++ (encTexts ss ++ bh)).drop (Plain.enc len2).length) = some (ss, bh) by
    rw [List.drop_left, ← Hl2.out]
    exact takeL_enc ss bh fun s hs => hmc (by have := Hmem.out s hs; omega))
  clear e1l
  go_enter Try.func4, Try.ntmps4
  go_wp2_with fail
  refine (alive_any W).mono ?_
  rintro e w2 ⟨rfl, hB2⟩
  have hr2 := hr2.below hB2 (Nat.le_refl _)
  have hr3 := hr3.below hB2 (Nat.le_refl _)
  go_wp2_with fail
  refine (great_no A2 A3 len2 cap2 len3 cap3 W.heap.size ss w2 hr2 hsum h3).mono ?_
  rintro e w2' ⟨rfl, rfl⟩
  go_wp2_with fail
  by_cases h0 : IsN a0
  · have hge : 0 ≤ a0 := h0.1
    have hle : a0 ≤ 1099511627776 := h0.2
    obtain ⟨m0, rfl⟩ := Int.eq_ofNat_of_zero_le h0.1
    have hn := rd_new w2 #[.int .i64 (m0 : Int)] 3
    refine (nums_yes _ 1 1 (w2.heap.size + 1) [(m0 : Int)] _ (by omega) hn (by simp) (by intro z hz; simp at hz; rw [hz]; exact h0)).mono ?_
    rintro e w3 ⟨v3, rfl, hown3, hbel3⟩
    have hbel3' : Below w2.heap.size w2 w3 := ((Below.refl _ _).alloc (Nat.le_refl _) _).trans (hbel3.mono (by simp))
    have e3 : encAll [(m0 : Int)] = Plain.enc m0 := by simp [encAll]
    rw [e3] at hown3
    have g0 := h0.nat.1
    simp only [Int.toNat_natCast] at g0
    have hen0 := Plain.enc_length_six g0
    obtain ⟨Ax, cx, rfl, hcx, hmx⟩ := own_shape hown3
    have hx3 : Rd w3 w3.heap.size Ax (Plain.enc m0).length ((Plain.enc m0).map Plain.cell) := Rd.own hown3
    have hr2 := hr2.below hbel3' hB2.size
    have hr3 := hr3.below hbel3' hB2.size
    have hB3 := hB2.trans (hbel3'.mono hB2.size)
    have hs3 := hB3.size
    clear hown3 hbel3 hbel3' hn e3 hB2 h0
    go_wp2_with fail
    refine (copyBytes_any Ax _ cx w3.heap.size (Plain.enc m0) w3 (by omega) hx3 (Nat.le_refl _)).mono ?_
    rintro e w4 ⟨v4, rfl, hown4, hbel4⟩
    have hr2 := hr2.below hbel4 hB3.size
    have hr3 := hr3.below hbel4 hB3.size
    have hB4 := hB3.trans (hbel4.mono hB3.size)
    have hs4 := hbel4.size
    clear hbel4 hB3 hx3
    go_wp2_with (at_builtin; refine wpList_append_some _ rfl _ _ 24 rfl w3.heap.size 5 i0 (.int .u8 0) 1 1 Try.underlying24 hi0 hz0 hz1 hz2 rfl rfl _ _ _ rfl hown4 A3 _ cap3 _ W.heap.size rfl hr3 (cells_one _) (by unfold maxLen; omega) (by omega) hs4 ?_; intro v5 w5 hown5 hgrow5; have hr2' := rd_app1 hr2 hs3 hs4 hown4 hgrow5; have hr3' := rd_app1 hr3 hs3 hs4 hown4 hgrow5; have hB5 := below_app1 hB4 hown4 hs4 hs3 hgrow5; clear hgrow5 hown4 hB4 hr2 hr3)
    rw [← List.map_append] at hown5
    obtain ⟨A5, c5, rfl, hc5, hm5⟩ := own_shape hown5
    have hx5 := Rd.own hown5
    have hs5 := hB5.size
    have htk5 := Plain.tk_enc m0 bh g0
    have hp0 := Plain.enc_length_pos m0
    have hq := num_yes A5 _ c5 _ (Plain.enc m0 ++ bh) w5 (by omega) hc5 hm5 hx5 (Nat.le_refl _) (by rw [htk5]; show (Plain.enc m0).length ≠ 0; omega)
    rw [htk5] at hq
    have hq' : (Plain.enc m0 ++ bh).drop (Plain.enc m0).length = bh := List.drop_left
    have hq2 : (Plain.enc m0).length + len3 - (Plain.enc m0).length = len3 := by omega
    simp only [hq', hq2] at hq
    have Hq := Lib.hid hq
    clear hq hq' hq2 htk5 hown5 hx5
    refine Hq.out.mono ?_
    rintro e w6 ⟨v6, rfl, hown6, hbel6⟩
    obtain ⟨A6, c6, rfl, hc6, hm6⟩ := own_shape hown6
    have hx6 := Rd.own hown6
    have hr2 := hr2'.below hbel6 hB5.size
    have hr3 := hr3'.below hbel6 hB5.size
    have hB6 := hB5.trans (hbel6.mono hB5.size)
    have hne : ((m0 : Int) != (m0 : Int)) = false := by simp
    clear hown6 hbel6 hB5 hr2' hr3' Hq
    go_wp2_with fail
    refine (sameBytes_yes A6 A3 len3 c6 cap3 w6.heap.size W.heap.size bh w6 (by unfold maxLen; omega) hx6 hr3).mono ?_
    rintro e w7 ⟨rfl, q7, rfl⟩
    have hr2 := hr2.drewN q7
    have hr3 := hr3.drewN q7
    have hB7 := below_drewN hB6 q7
    clear hx6 hB6
    generalize hw7 : w6.drewN q7 = w7 at *
    clear hw7
    go_wp2_with fail
    refine (size_yes m0 w7 g0).mono ?_
    rintro e w8 ⟨rfl, rfl⟩
    have hne2 : (((Plain.enc m0).length : Int) != ((Plain.enc m0).length : Int)) = false := by simp
    go_wp2_with fail
    have hn := rd_new w7 #[.string a1] 9
    have e10 : encTexts [a1] = encText a1 := by simp [encTexts]
    refine (texts_any _ 1 1 (w7.heap.size + 1) [a1] _ (by omega) hn (by simp) (by rw [e10]; omega)).mono ?_
    rintro e w10 ⟨v10, rfl, hown10, hbel10⟩
    have hbel10' : Below w7.heap.size w7 w10 := ((Below.refl _ _).alloc (Nat.le_refl _) _).trans (hbel10.mono (by simp))
    have hown10 := own_base hown10 (show w7.heap.size ≤ (w7.alloc (.cells #[.string a1] 9)).heap.size by simp)
    rw [e10] at hown10
    have hr2 := hr2.below hbel10' hB7.size
    have hr3 := hr3.below hbel10' hB7.size
    have hB10 := hB7.trans (hbel10'.mono hB7.size)
    have hs10 := hbel10'.size
    have hs7 := hB7.size
    clear hbel10 hbel10' hn e10 hB7
    go_wp2_with (at_builtin; refine wpList_append_some _ rfl _ _ 24 rfl w7.heap.size 5 i0 (.int .u8 0) 1 1 Try.underlying24 hi0 hz0 hz1 hz2 rfl rfl _ _ _ rfl hown10 A3 _ cap3 _ W.heap.size rfl hr3 (cells_one _) (by unfold maxLen; omega) (by omega) hs10 ?_; intro v11 w11 hown11 hgrow11; have hr2' := rd_app1 hr2 hs7 hs10 hown10 hgrow11; have hr3' := rd_app1 hr3 hs7 hs10 hown10 hgrow11; have hB11 := below_app1 hB10 hown10 hs10 hs7 hgrow11; clear hgrow11 hown10 hB10 hr2 hr3)
    rw [← List.map_append] at hown11
    obtain ⟨A11, c11, rfl, hc11, hm11⟩ := own_shape hown11
    have hx11 := Rd.own hown11
    refine (text_some A11 _ c11 _ (encText a1 ++ bh) w11 a1 bh (by omega) hc11 hm11 hx11 (Nat.le_refl _) Htt.out).mono ?_
    rintro e w12 ⟨v12, rfl, hown12, hbel12⟩
    rw [Hl3.out] at hown12
    obtain ⟨A12, c12, rfl, hc12, hm12⟩ := own_shape hown12
    have hx12 := Rd.own hown12
    have hr2 := hr2'.below hbel12 hB11.size
    have hr3 := hr3'.below hbel12 hB11.size
    have hB12 := hB11.trans (hbel12.mono hB11.size)
    clear hown11 hx11 hown12 hbel12 hB11 hr2' hr3'
    go_wp2_with fail
    refine (sameBytes_yes A12 A3 len3 c12 cap3 w12.heap.size W.heap.size bh w12 (by unfold maxLen; omega) hx12 hr3).mono ?_
    rintro e w13 ⟨rfl, q13, rfl⟩
    have hr2 := hr2.drewN q13
    have hr3 := hr3.drewN q13
    have hB13 := below_drewN hB12 q13
    clear hx12 hB12
    generalize hw13 : w12.drewN q13 = w13 at *
    clear hw13
    go_wp2_with fail
    refine (list_any A2 len2 cap2 W.heap.size ss w13 (by omega) hr2 hB13.size (by omega)).mono ?_
    rintro e w14 ⟨v14, rfl, hown14, hbel14⟩
    have hr2 := hr2.below hbel14 hB13.size
    have hr3 := hr3.below hbel14 hB13.size
    have hB14 := hB13.trans (hbel14.mono hB13.size)
    have hs14 := hbel14.size
    have hs13 := hB13.size
    clear hbel14 hB13
    go_wp2_with (at_builtin; refine wpList_append_some _ rfl _ _ 24 rfl w13.heap.size 5 i0 (.int .u8 0) 1 1 Try.underlying24 hi0 hz0 hz1 hz2 rfl rfl _ _ _ rfl hown14 A3 _ cap3 _ W.heap.size rfl hr3 (cells_one _) (by unfold maxLen; omega) (by omega) hs14 ?_; intro v15 w15 hown15 hgrow15; have hr2' := rd_app1 hr2 hs13 hs14 hown14 hgrow15; have hr3' := rd_app1 hr3 hs13 hs14 hown14 hgrow15; have hB15 := below_app1 hB14 hown14 hs14 hs13 hgrow15; clear hgrow15 hown14 hB14 hr2 hr3)
    rw [← List.map_append, List.append_assoc] at hown15
    obtain ⟨A15, c15, rfl, hc15, hm15⟩ := own_shape hown15
    have hx15 := Rd.own hown15
    have hp2 := Plain.enc_length_pos len2
    have hq := take_any A15 _ c15 _ (Plain.enc len2 ++ (encTexts ss ++ bh)) len2 w15 (by omega) hc15 hm15 hx15 (Nat.le_refl _) (by rw [Htk.out]; show (Plain.enc len2).length ≠ 0; omega) (by rw [Htk.out]; exact Int.le_refl _) ss bh (by rw [Htk.out]; exact Htl.out)
    have Hq := Lib.hid hq
    clear hq hown15 hx15
    refine Hq.out.mono ?_
    rintro e w16 ⟨v16, v17, rfl, hown16, hown17, hbel16⟩
    rw [Hl2.out] at hown16
    rw [Hl3.out] at hown17
    obtain ⟨A16, c16, rfl, hc16, hm16⟩ := own_shape hown16
    obtain ⟨A17, c17, rfl, hc17, hm17⟩ := own_shape hown17
    have hx16 := Rd.own hown16
    have hx17 := Rd.own hown17
    have hr2 := hr2'.below hbel16 hB15.size
    have hr3 := hr3'.below hbel16 hB15.size
    have hB16 := hB15.trans (hbel16.mono hB15.size)
    clear hown16 hown17 hbel16 hB15 hr2' hr3' Hq
    go_wp2_with fail
    refine (sameTexts_yes A16 A2 len2 c16 cap2 w16.heap.size W.heap.size ss w16 (by unfold maxLen; omega) hx16 hr2).mono ?_
    rintro e w18 ⟨rfl, q18, rfl⟩
    have hr2 := hr2.drewN q18
    have hr3 := hr3.drewN q18
    have hx17 := hx17.drewN q18
    have hB18 := below_drewN hB16 q18
    clear hx16 hB16
    generalize hw18 : w16.drewN q18 = w18 at *
    clear hw18
    go_wp2_with fail
    refine (sameBytes_yes A17 A3 len3 c17 cap3 w16.heap.size W.heap.size bh w18 (by unfold maxLen; omega) hx17 hr3).mono ?_
    rintro e w19 ⟨rfl, q19, rfl⟩
    have hr2 := hr2.drewN q19
    have hB19 := below_drewN hB18 q19
    clear hx17 hB18 hr3
    generalize hw19 : w18.drewN q19 = w19 at *
    clear hw19
    go_wp2_with fail
    refine (list_any A2 len2 cap2 W.heap.size ss w19 (by omega) hr2 hB19.size (by omega)).mono ?_
    rintro e w20 ⟨v20, rfl, hown20, hbel20⟩
    obtain ⟨A20, c20, rfl, hc20, hm20⟩ := own_shape hown20
    have hx20 := Rd.own hown20
    have hB20 := hB19.trans (hbel20.mono hB19.size)
    have hlen20 : (Plain.enc len2).length + (encTexts ss).length ≤ 1000000 := by omega
    have Hq := Lib.hid (take_no1 A20 _ c20 _ (Plain.enc len2 ++ encTexts ss) ((len2 : Int) - 1) w20 hlen20 hc20 hx20 (.inr (by rw [Htk2.out]; show (len2 : Int) - 1 < (len2 : Int); omega)))
    clear hown20 hbel20 hB19 hx20 hr2
    go_wp2_with fail
    refine Hq.out.mono ?_
    rintro e w21 ⟨rfl, rfl⟩
    go_wp2_with fail
    go_ret
    exact ⟨rfl, hB20⟩
  · have hnn := not_isN h0
    have hn := rd_new w2 #[.int .i64 a0] 3
    refine (nums_no _ 1 1 (w2.heap.size + 1) [a0] _ (by omega) hn (by simp) ⟨a0, by simp, h0⟩).mono ?_
    rintro e w7 ⟨rfl, hbel3⟩
    have hbel3' : Below w2.heap.size w2 w7 := ((Below.refl _ _).alloc (Nat.le_refl _) _).trans (hbel3.mono (by simp))
    have hr2 := hr2.below hbel3' hB2.size
    have hr3 := hr3.below hbel3' hB2.size
    have hB7 := hB2.trans (hbel3'.mono hB2.size)
    clear hbel3 hbel3' hn hB2
    go_wp2_with fail
    have hn := rd_new w7 #[.string a1] 9
    have e10 : encTexts [a1] = encText a1 := by simp [encTexts]
    refine (texts_any _ 1 1 (w7.heap.size + 1) [a1] _ (by omega) hn (by simp) (by rw [e10]; omega)).mono ?_
    rintro e w10 ⟨v10, rfl, hown10, hbel10⟩
    have hbel10' : Below w7.heap.size w7 w10 := ((Below.refl _ _).alloc (Nat.le_refl _) _).trans (hbel10.mono (by simp))
    have hown10 := own_base hown10 (show w7.heap.size ≤ (w7.alloc (.cells #[.string a1] 9)).heap.size by simp)
    rw [e10] at hown10
    have hr2 := hr2.below hbel10' hB7.size
    have hr3 := hr3.below hbel10' hB7.size
    have hB10 := hB7.trans (hbel10'.mono hB7.size)
    have hs10 := hbel10'.size
    have hs7 := hB7.size
    clear hbel10 hbel10' hn e10 hB7
    go_wp2_with (at_builtin; refine wpList_append_some _ rfl _ _ 24 rfl w7.heap.size 5 i0 (.int .u8 0) 1 1 Try.underlying24 hi0 hz0 hz1 hz2 rfl rfl _ _ _ rfl hown10 A3 _ cap3 _ W.heap.size rfl hr3 (cells_one _) (by unfold maxLen; omega) (by omega) hs10 ?_; intro v11 w11 hown11 hgrow11; have hr2' := rd_app1 hr2 hs7 hs10 hown10 hgrow11; have hr3' := rd_app1 hr3 hs7 hs10 hown10 hgrow11; have hB11 := below_app1 hB10 hown10 hs10 hs7 hgrow11; clear hgrow11 hown10 hB10 hr2 hr3)
    rw [← List.map_append] at hown11
    obtain ⟨A11, c11, rfl, hc11, hm11⟩ := own_shape hown11
    have hx11 := Rd.own hown11
    refine (text_some A11 _ c11 _ (encText a1 ++ bh) w11 a1 bh (by omega) hc11 hm11 hx11 (Nat.le_refl _) Htt.out).mono ?_
    rintro e w12 ⟨v12, rfl, hown12, hbel12⟩
    rw [Hl3.out] at hown12
    obtain ⟨A12, c12, rfl, hc12, hm12⟩ := own_shape hown12
    have hx12 := Rd.own hown12
    have hr2 := hr2'.below hbel12 hB11.size
    have hr3 := hr3'.below hbel12 hB11.size
    have hB12 := hB11.trans (hbel12.mono hB11.size)
    clear hown11 hx11 hown12 hbel12 hB11 hr2' hr3'
    go_wp2_with fail
    refine (sameBytes_yes A12 A3 len3 c12 cap3 w12.heap.size W.heap.size bh w12 (by unfold maxLen; omega) hx12 hr3).mono ?_
    rintro e w13 ⟨rfl, q13, rfl⟩
    have hr2 := hr2.drewN q13
    have hr3 := hr3.drewN q13
    have hB13 := below_drewN hB12 q13
    clear hx12 hB12
    generalize hw13 : w12.drewN q13 = w13 at *
    clear hw13
    go_wp2_with fail
    refine (list_any A2 len2 cap2 W.heap.size ss w13 (by omega) hr2 hB13.size (by omega)).mono ?_
    rintro e w14 ⟨v14, rfl, hown14, hbel14⟩
    have hr2 := hr2.below hbel14 hB13.size
    have hr3 := hr3.below hbel14 hB13.size
    have hB14 := hB13.trans (hbel14.mono hB13.size)
    have hs14 := hbel14.size
    have hs13 := hB13.size
    clear hbel14 hB13
    go_wp2_with (at_builtin; refine wpList_append_some _ rfl _ _ 24 rfl w13.heap.size 5 i0 (.int .u8 0) 1 1 Try.underlying24 hi0 hz0 hz1 hz2 rfl rfl _ _ _ rfl hown14 A3 _ cap3 _ W.heap.size rfl hr3 (cells_one _) (by unfold maxLen; omega) (by omega) hs14 ?_; intro v15 w15 hown15 hgrow15; have hr2' := rd_app1 hr2 hs13 hs14 hown14 hgrow15; have hr3' := rd_app1 hr3 hs13 hs14 hown14 hgrow15; have hB15 := below_app1 hB14 hown14 hs14 hs13 hgrow15; clear hgrow15 hown14 hB14 hr2 hr3)
    rw [← List.map_append, List.append_assoc] at hown15
    obtain ⟨A15, c15, rfl, hc15, hm15⟩ := own_shape hown15
    have hx15 := Rd.own hown15
    have hp2 := Plain.enc_length_pos len2
    have hq := take_any A15 _ c15 _ (Plain.enc len2 ++ (encTexts ss ++ bh)) len2 w15 (by omega) hc15 hm15 hx15 (Nat.le_refl _) (by rw [Htk.out]; show (Plain.enc len2).length ≠ 0; omega) (by rw [Htk.out]; exact Int.le_refl _) ss bh (by rw [Htk.out]; exact Htl.out)
    have Hq := Lib.hid hq
    clear hq hown15 hx15
    refine Hq.out.mono ?_
    rintro e w16 ⟨v16, v17, rfl, hown16, hown17, hbel16⟩
    rw [Hl2.out] at hown16
    rw [Hl3.out] at hown17
    obtain ⟨A16, c16, rfl, hc16, hm16⟩ := own_shape hown16
    obtain ⟨A17, c17, rfl, hc17, hm17⟩ := own_shape hown17
    have hx16 := Rd.own hown16
    have hx17 := Rd.own hown17
    have hr2 := hr2'.below hbel16 hB15.size
    have hr3 := hr3'.below hbel16 hB15.size
    have hB16 := hB15.trans (hbel16.mono hB15.size)
    clear hown16 hown17 hbel16 hB15 hr2' hr3' Hq
    go_wp2_with fail
    refine (sameTexts_yes A16 A2 len2 c16 cap2 w16.heap.size W.heap.size ss w16 (by unfold maxLen; omega) hx16 hr2).mono ?_
    rintro e w18 ⟨rfl, q18, rfl⟩
    have hr2 := hr2.drewN q18
    have hr3 := hr3.drewN q18
    have hx17 := hx17.drewN q18
    have hB18 := below_drewN hB16 q18
    clear hx16 hB16
    generalize hw18 : w16.drewN q18 = w18 at *
    clear hw18
    go_wp2_with fail
    refine (sameBytes_yes A17 A3 len3 c17 cap3 w16.heap.size W.heap.size bh w18 (by unfold maxLen; omega) hx17 hr3).mono ?_
    rintro e w19 ⟨rfl, q19, rfl⟩
    have hr2 := hr2.drewN q19
    have hB19 := below_drewN hB18 q19
    clear hx17 hB18 hr3
    generalize hw19 : w18.drewN q19 = w19 at *
    clear hw19
    go_wp2_with fail
    refine (list_any A2 len2 cap2 W.heap.size ss w19 (by omega) hr2 hB19.size (by omega)).mono ?_
    rintro e w20 ⟨v20, rfl, hown20, hbel20⟩
    obtain ⟨A20, c20, rfl, hc20, hm20⟩ := own_shape hown20
    have hx20 := Rd.own hown20
    have hB20 := hB19.trans (hbel20.mono hB19.size)
    have hlen20 : (Plain.enc len2).length + (encTexts ss).length ≤ 1000000 := by omega
    have Hq := Lib.hid (take_no1 A20 _ c20 _ (Plain.enc len2 ++ encTexts ss) ((len2 : Int) - 1) w20 hlen20 hc20 hx20 (.inr (by rw [Htk2.out]; show (len2 : Int) - 1 < (len2 : Int); omega)))
    clear hown20 hbel20 hB19 hx20 hr2
    go_wp2_with fail
    refine Hq.out.mono ?_
    rintro e w21 ⟨rfl, rfl⟩
    rcases hnn with hneg | hgt
    · have hd : decide (0 ≤ a0) = false := by simp; omega
      go_wp2_with fail
      go_ret
      exact ⟨rfl, hB20⟩
    · have hge : 0 ≤ a0 := by omega
      have hd : decide (a0 ≤ 1099511627776) = false := by simp; omega
      go_wp2_with fail
      go_ret
      exact ⟨rfl, hB20⟩

set_option maxRecDepth 100000 in
theorem walk_WireBack (a0 : Int) (a1 : ByteArray) (A2 : Option Addr) (len2 cap2 : Nat) (ss : List ByteArray) (A3 : Option Addr) (len3 cap3 : Nat) (bh : List UInt8) (W : World)
    (w0 : (Lit.int .i64 a0).wf = true) (w1 : a1.size ≤ maxLen) (z1 : a1.size ≤ reachBytes) (hr2 : Rd W W.heap.size A2 len2 (ss.map Value.string)) (c2 : len2 ≤ cap2) (m2 : cap2 ≤ maxLen) (z2 : ∀ s ∈ ss, s.size ≤ reachBytes)
    (hr3 : Rd W W.heap.size A3 len3 (bh.map Plain.cell)) (c3 : len3 ≤ cap3) (m3 : cap3 ≤ maxLen) :
    Calls Try.prog 4 #[.int .i64 a0, .string a1, .slice A2 len2 cap2, .slice A3 len3 cap3] W fun e w' => e = .returned (.bool true) ∧ Below W.heap.size W w' := by
  by_cases hg : 2000 < lensum ss ∨ 3000 < len3
  · clear w0 w1 z1 c2 m2 hr3 c3 m3
    go_enter Try.func4, Try.ntmps4
    go_wp2_with fail
    refine (alive_any W).mono ?_
    rintro e w2 ⟨rfl, hB2⟩
    go_wp2_with fail
    refine (great_yes A2 A3 len2 cap2 len3 cap3 W.heap.size ss w2 (hr2.below hB2 (Nat.le_refl _)) z2 hg).mono ?_
    rintro e w3 ⟨rfl, rfl⟩
    go_wp2_with fail
    go_ret
    exact ⟨rfl, hB2⟩
  · have h1 : lensum ss ≤ 2000 := by omega
    have h2 : len3 ≤ 3000 := by omega
    by_cases h3 : a1.size ≤ 1000
    · exact back_main a0 a1 A2 len2 cap2 ss A3 len3 cap3 bh W hr2 hr3 h1 h2 h3
    · have h3' : 1000 < a1.size := by omega
      clear w0 w1 z1 c2 m2 z2 hr3 c3 m3 hg h3
      go_enter Try.func4, Try.ntmps4
      go_wp2_with fail
      refine (alive_any W).mono ?_
      rintro e w2 ⟨rfl, hB2⟩
      go_wp2_with fail
      refine (great_no A2 A3 len2 cap2 len3 cap3 W.heap.size ss w2 (hr2.below hB2 (Nat.le_refl _)) h1 h2).mono ?_
      rintro e w3 ⟨rfl, rfl⟩
      go_wp2_with fail
      go_ret
      exact ⟨rfl, hB2⟩

end Go.Proofs.Ytaipjdfgedjdnaa
