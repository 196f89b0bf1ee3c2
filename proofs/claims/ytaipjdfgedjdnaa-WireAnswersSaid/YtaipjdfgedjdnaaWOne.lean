/-
  WireOne: the walk.
-/
import Derived.Test.YtaipjdfgedjdnaaWAlive
import Derived.Test.YtaipjdfgedjdnaaLawKit
set_option linter.unusedVariables false
namespace Go.Proofs.Ytaipjdfgedjdnaa
open Go.RowKit

theorem below_app1 {base n : Nat} {e : TypeId} {size B : Nat} {w wr w1 : World} {v : Value} {xs : List Value} (h : Below B w wr) (hown : wr.ownsRow base e size v n xs)
    (hb : base ≤ wr.heap.size) (hB : B ≤ base) (hg : wr.grownBy w1 v.ownBlock) : Below B w w1 :=
  h.grown hg (by omega) fun k hk => by have := (hown.lt k hk).1; omega
theorem rd_app1 {B base n m size : Nat} {e : TypeId} {w w' : World} {v : Value} {A : Option Addr} {xs ys : List Value} (h : Rd w B A n xs) (hB : B ≤ base) (hb : base ≤ w.heap.size)
    (hown : w.ownsRow base e size v m ys) (hg : w.grownBy w' v.ownBlock) : Rd w' B A n xs := by
  refine h.keep fun p hp => ?_
  exact World.cell?_of_block (hg.block p.block (by omega) (fun e => by have := (hown.lt _ e.symm).1; omega))

theorem own_eq {w : World} {base n n' size : Nat} {e : TypeId} {v : Value} {xs xs' : List Value} (h : w.ownsRow base e size v n xs) (hn : n = n') (hx : xs = xs') : w.ownsRow base e size v n' xs' := by
  subst hn; subst hx; exact h

set_option maxRecDepth 100000 in
set_option maxHeartbeats 4000000 in
theorem one_small (A : Option Addr) (len cap : Nat) (l : List UInt8) (W : World) (hr : Rd W W.heap.size A len (l.map Plain.cell)) (hc : len ≤ cap) (hm : cap ≤ maxLen) (hlen : len ≤ 3000) :
    Calls Try.prog 5 #[.slice A len cap] W fun e w' => e = .returned (.bool true) ∧ Below W.heap.size W w' := by
  obtain ⟨i0, hi0, hz0, hz1, hz2⟩ := info_parts info5
  have hl := hr.1
  rw [List.length_map] at hl
  have Hl := Lib.hid hl; clear hl
  go_enter Try.func5, Try.ntmps5
  go_wp2_with fail
  refine (alive_any W).mono ?_
  rintro e w2 ⟨rfl, hB2⟩
  have hr2 := hr.below hB2 (Nat.le_refl _)
  clear hr
  go_wp2_with fail
  by_cases h0 : (Plain.tk l).2 = 0
  · refine (num_no A len cap W.heap.size l w2 (by omega) hc hr2 h0).mono ?_
    rintro e w3 ⟨rfl, rfl⟩
    go_wp2_with fail
    refine (text_no A len cap W.heap.size l w2 (by unfold maxLen; omega) hc hr2 (.inl h0)).mono ?_
    rintro e w3 ⟨v3, rfl, hown3, hbel3⟩
    have hr3 := hr2.below hbel3 hB2.size
    have hB3 := hB2.trans (hbel3.mono hB2.size)
    clear hown3 hbel3 hr2
    go_wp2_with fail
    refine (take_no1 A len cap W.heap.size l 3000 w3 (by omega) hc hr3 (.inl h0)).mono ?_
    rintro e w4 ⟨rfl, rfl⟩
    go_wp2_with fail
    go_ret
    exact ⟨rfl, hB3⟩
  · have hrd := Plain.tk_read l h0
    have Hmc := Lib.hid hrd.1
    have Hsz := Lib.hid hrd.2.1
    have Htk := Lib.hid hrd.2.2.1
    have Hle := Lib.hid hrd.2.2.2
    clear hrd
    have hisn : IsN ((Plain.tk l).1 : Int) := ⟨by omega, Plain.mc_le Hmc.out⟩
    refine (num_yes A len cap W.heap.size l w2 (by omega) hc hm hr2 hB2.size h0).mono ?_
    rintro e w3 ⟨v3, rfl, hown3, hbel3⟩
    have hr3 := hr2.below hbel3 hB2.size
    have hB3 := hB2.trans (hbel3.mono hB2.size)
    obtain ⟨A3, c3, rfl, hc3, hm3⟩ := own_shape hown3
    have hx3 := Rd.own hown3
    clear hown3 hbel3 hr2
    go_wp2_with fail
    have hn := rd_new w3 #[.int .i64 ((Plain.tk l).1 : Int)] 3
    refine (nums_yes _ 1 1 (w3.heap.size + 1) [((Plain.tk l).1 : Int)] _ (by omega) hn (by simp) (by intro z hz; simp at hz; rw [hz]; exact hisn)).mono ?_
    rintro e w4 ⟨v4, rfl, hown4, hbel4⟩
    have hbel4' : Below w3.heap.size w3 w4 := ((Below.refl _ _).alloc (Nat.le_refl _) _).trans (hbel4.mono (by simp))
    have e4 : encAll [((Plain.tk l).1 : Int)] = Plain.enc (Plain.tk l).1 := by simp [encAll]
    rw [e4] at hown4
    have hown4 := own_base hown4 (show w3.heap.size ≤ (w3.alloc (.cells #[.int .i64 ((Plain.tk l).1 : Int)] 3)).heap.size by simp)
    have hr4 := hr3.below hbel4' hB3.size
    have hB4 := hB3.trans (hbel4'.mono hB3.size)
    have hx4 := hx3.below hbel4' (Nat.le_refl _)
    have hs4 := hbel4'.size
    have h6 := Plain.enc_length_six Hmc.out
    have hs3 := hB3.size
    clear hbel4 hbel4' hn e4 hr3 hB3 hx3
    go_wp2_with (at_builtin; refine wpList_append_some _ rfl _ _ 24 rfl w3.heap.size 5 i0 (.int .u8 0) 1 1 Try.underlying24 hi0 hz0 hz1 hz2 rfl rfl _ _ _ rfl hown4 A3 _ c3 _ w3.heap.size rfl hx4 (cells_one _) (by unfold maxLen; omega) (by omega) hs4 ?_; intro v5 w5 hown5 hgrow5; have hr5 := rd_app1 hr4 hs3 hs4 hown4 hgrow5; have hB5 := below_app1 hB4 hown4 hs4 hs3 hgrow5; clear hgrow5 hown4 hr4 hB4 hx4)
    have hown5 := own_eq hown5 (n' := len) (xs' := l.map Plain.cell) (by rw [Hsz.out]; have := Hl.out; have := Hle.out; omega) (by rw [← List.map_append, ← Htk.out, List.take_append_drop])
    obtain ⟨A5, c5, rfl, hc5, hm5⟩ := own_shape hown5
    have hx5 := Rd.own hown5
    clear hown5
    refine (sameBytes_yes A5 A len c5 cap w5.heap.size W.heap.size l w5 (by omega) hx5 hr5).mono ?_
    rintro e w6 ⟨rfl, q6, rfl⟩
    have hr6 := hr5.drewN q6
    have hB6 := below_drewN hB5 q6
    clear hx5 hr5 hB5
    generalize hw6 : w5.drewN q6 = w6 at *
    clear hw6
    go_wp2_with fail
    rcases htt : tt l with _ | ⟨S, L⟩
    · refine (text_no A len cap W.heap.size l w6 (by unfold maxLen; omega) hc hr6 (by rw [← Hl.out]; exact tt_none htt)).mono ?_
      rintro e w7 ⟨v7, rfl, hown7, hbel7⟩
      have hr7 := hr6.below hbel7 hB6.size
      have hB7 := hB6.trans (hbel7.mono hB6.size)
      clear hown7 hbel7 hr6 hB6 htt
      go_wp2_with fail
      by_cases hmo : 3000 < ((Plain.tk l).1 : Int)
      · refine (take_no1 A len cap W.heap.size l 3000 w7 (by omega) hc hr7 (.inr hmo)).mono ?_
        rintro e w8 ⟨rfl, rfl⟩
        go_wp2_with fail
        go_ret
        exact ⟨rfl, hB7⟩
      · rcases htl : takeL (Plain.tk l).1 (l.drop (Plain.tk l).2) with _ | ⟨ss, L2⟩
        · refine (take_no2 A len cap W.heap.size l 3000 w7 (by omega) hc hm hr7 hB7.size h0 (by omega) htl).mono ?_
          rintro e w8 ⟨rfl, hbel8⟩
          have hB8 := hB7.trans (hbel8.mono hB7.size)
          go_wp2_with fail
          go_ret
          exact ⟨rfl, hB8⟩
        · have htr := takeL_read _ _ _ _ htl
          have hsl : ss.length = (Plain.tk l).1 := htr.2
          have Hwhole := Lib.hid (show l = Plain.enc ss.length ++ encTexts ss ++ L2 by rw [hsl, ← Htk.out, List.append_assoc, ← htr.1, List.take_append_drop])
          have hlt := congrArg List.length Hwhole.out
          rw [List.length_append, List.length_append, Hl.out] at hlt
          have hsl2 : ss.length ≤ 3000 := by omega
          have hL2 : L2.length ≤ 3000 := by omega
          have htx : (encTexts ss).length ≤ 3000 := by omega
          have Hlt := Lib.hid hlt
          have hq := take_any A len cap W.heap.size l 3000 w7 (by omega) hc hm hr7 hB7.size h0 (by omega) ss L2 htl
          have Hq := Lib.hid hq
          clear htr hsl hlt hq htl hmo
          refine Hq.out.mono ?_
          rintro e w8 ⟨v8, v8', rfl, hown8, hown8', hbel8⟩
          have hr8 := hr7.below hbel8 hB7.size
          have hB8 := hB7.trans (hbel8.mono hB7.size)
          obtain ⟨A8, c8, rfl, hc8, hm8⟩ := own_shape hown8
          obtain ⟨A8', c8', rfl, hc8', hm8'⟩ := own_shape hown8'
          have hx8 := Rd.own hown8
          have hx8' := Rd.own hown8'
          clear hown8 hown8' hbel8 hr7 hB7 Hq
          go_wp2_with fail
          refine (list_any A8 ss.length c8 w8.heap.size ss w8 (by omega) hx8 (Nat.le_refl _) (by omega)).mono ?_
          rintro e w9 ⟨v9, rfl, hown9, hbel9⟩
          have hr9 := hr8.below hbel9 hB8.size
          have hB9 := hB8.trans (hbel9.mono hB8.size)
          have hx9 := hx8'.below hbel9 (Nat.le_refl _)
          have hs9 := hbel9.size
          have hs8 := hB8.size
          have hen := Plain.enc_length_six (hmc (show ss.length ≤ 1000000 by omega))
          clear hbel9 hr8 hB8 hx8 hx8'
          go_wp2_with (at_builtin; refine wpList_append_some _ rfl _ _ 24 rfl w8.heap.size 5 i0 (.int .u8 0) 1 1 Try.underlying24 hi0 hz0 hz1 hz2 rfl rfl _ _ _ rfl hown9 A8' _ c8' _ w8.heap.size rfl hx9 (cells_one _) (by unfold maxLen; omega) (by omega) hs9 ?_; intro v11 w11 hown11 hgrow11; have hr11 := rd_app1 hr9 hs8 hs9 hown9 hgrow11; have hB11 := below_app1 hB9 hown9 hs9 hs8 hgrow11; clear hgrow11 hown9 hr9 hB9 hx9)
          have hown11 := own_eq hown11 (n' := len) (xs' := l.map Plain.cell) Hlt.out.symm (by rw [← List.map_append, ← Hwhole.out])
          obtain ⟨A11, c11, rfl, hc11, hm11⟩ := own_shape hown11
          have hx11 := Rd.own hown11
          clear hown11
          refine (sameBytes_yes A11 A len c11 cap w11.heap.size W.heap.size l w11 (by omega) hx11 hr11).mono ?_
          rintro e w12 ⟨rfl, q12, rfl⟩
          have hB12 := below_drewN hB11 q12
          generalize hw12 : w11.drewN q12 = w12 at *
          clear hw12
          go_wp2_with fail
          go_ret
          exact ⟨rfl, hB12⟩
    · obtain ⟨hs0, hs1, hs2, hs3⟩ := tt_some htt
      have hrd := tt_read htt
      have Hrd := Lib.hid hrd
      have hlt := congrArg List.length hrd
      rw [List.length_append] at hlt
      have hLl : (encText S).length + L.length = len := by rw [← hlt, Hl.out]
      have hel := encText_length S
      have HLl := Lib.hid hLl
      have hle1 : (encText S).length ≤ 3000 := by omega
      have hle2 : L.length ≤ 3000 := by omega
      have hq := text_yes A len cap W.heap.size l w6 (by omega) hc hm hr6 hB6.size hs0 (by rw [← Hl.out]; exact hs1)
      rw [← hs2, ← hs3] at hq
      have hLn : len - ((Plain.tk l).2 + (Plain.tk l).1) = L.length := by rw [hs3, List.length_drop, Hl.out]
      rw [hLn] at hq
      have Hq := Lib.hid hq
      clear hs1 hs2 hs3 hrd hlt hLl hel hLn hq htt
      refine Hq.out.mono ?_
      rintro e w7 ⟨v7, rfl, hown7, hbel7⟩
      have hr7 := hr6.below hbel7 hB6.size
      have hB7 := hB6.trans (hbel7.mono hB6.size)
      obtain ⟨A7, c7, rfl, hc7, hm7⟩ := own_shape hown7
      have hx7 := Rd.own hown7
      clear hown7 hbel7 hr6 hB6 Hq
      go_wp2_with fail
      have hn := rd_new w7 #[.string S] 9
      have e7 : encTexts [S] = encText S := by simp [encTexts]
      refine (texts_any _ 1 1 (w7.heap.size + 1) [S] _ (by omega) hn (by simp) (by rw [e7]; omega)).mono ?_
      rintro e w8 ⟨v8, rfl, hown8, hbel8⟩
      have hbel8' : Below w7.heap.size w7 w8 := ((Below.refl _ _).alloc (Nat.le_refl _) _).trans (hbel8.mono (by simp))
      have hown8 := own_base hown8 (show w7.heap.size ≤ (w7.alloc (.cells #[.string S] 9)).heap.size by simp)
      rw [e7] at hown8
      have hr8 := hr7.below hbel8' hB7.size
      have hB8 := hB7.trans (hbel8'.mono hB7.size)
      have hx8 := hx7.below hbel8' (Nat.le_refl _)
      have hs8 := hbel8'.size
      have hs7 := hB7.size
      clear hbel8 hbel8' hn e7 hr7 hB7 hx7
      go_wp2_with (at_builtin; refine wpList_append_some _ rfl _ _ 24 rfl w7.heap.size 5 i0 (.int .u8 0) 1 1 Try.underlying24 hi0 hz0 hz1 hz2 rfl rfl _ _ _ rfl hown8 A7 _ c7 _ w7.heap.size rfl hx8 (cells_one _) (by unfold maxLen; omega) (by omega) hs8 ?_; intro v9 w9 hown9 hgrow9; have hr9 := rd_app1 hr8 hs7 hs8 hown8 hgrow9; have hB9 := below_app1 hB8 hown8 hs8 hs7 hgrow9; clear hgrow9 hown8 hr8 hB8 hx8)
      have hown9 := own_eq hown9 (n' := len) (xs' := l.map Plain.cell) HLl.out (by rw [← List.map_append, ← Hrd.out])
      obtain ⟨A9, c9, rfl, hc9, hm9⟩ := own_shape hown9
      have hx9 := Rd.own hown9
      clear hown9
      refine (sameBytes_yes A9 A len c9 cap w9.heap.size W.heap.size l w9 (by omega) hx9 hr9).mono ?_
      rintro e w10 ⟨rfl, q10, rfl⟩
      have hr7 := hr9.drewN q10
      have hB7 := below_drewN hB9 q10
      clear hx9 hr9 hB9
      generalize hw10 : w9.drewN q10 = w7 at *
      clear hw10
      go_wp2_with fail
      by_cases hmo : 3000 < ((Plain.tk l).1 : Int)
      · refine (take_no1 A len cap W.heap.size l 3000 w7 (by omega) hc hr7 (.inr hmo)).mono ?_
        rintro e w8 ⟨rfl, rfl⟩
        go_wp2_with fail
        go_ret
        exact ⟨rfl, hB7⟩
      · rcases htl : takeL (Plain.tk l).1 (l.drop (Plain.tk l).2) with _ | ⟨ss, L2⟩
        · refine (take_no2 A len cap W.heap.size l 3000 w7 (by omega) hc hm hr7 hB7.size h0 (by omega) htl).mono ?_
          rintro e w8 ⟨rfl, hbel8⟩
          have hB8 := hB7.trans (hbel8.mono hB7.size)
          go_wp2_with fail
          go_ret
          exact ⟨rfl, hB8⟩
        · have htr := takeL_read _ _ _ _ htl
          have hsl : ss.length = (Plain.tk l).1 := htr.2
          have Hwhole := Lib.hid (show l = Plain.enc ss.length ++ encTexts ss ++ L2 by rw [hsl, ← Htk.out, List.append_assoc, ← htr.1, List.take_append_drop])
          have hlt := congrArg List.length Hwhole.out
          rw [List.length_append, List.length_append, Hl.out] at hlt
          have hsl2 : ss.length ≤ 3000 := by omega
          have hL2 : L2.length ≤ 3000 := by omega
          have htx : (encTexts ss).length ≤ 3000 := by omega
          have Hlt := Lib.hid hlt
          have hq := take_any A len cap W.heap.size l 3000 w7 (by omega) hc hm hr7 hB7.size h0 (by omega) ss L2 htl
          have Hq := Lib.hid hq
          clear htr hsl hlt hq htl hmo
          refine Hq.out.mono ?_
          rintro e w8 ⟨v8, v8', rfl, hown8, hown8', hbel8⟩
          have hr8 := hr7.below hbel8 hB7.size
          have hB8 := hB7.trans (hbel8.mono hB7.size)
          obtain ⟨A8, c8, rfl, hc8, hm8⟩ := own_shape hown8
          obtain ⟨A8', c8', rfl, hc8', hm8'⟩ := own_shape hown8'
          have hx8 := Rd.own hown8
          have hx8' := Rd.own hown8'
          clear hown8 hown8' hbel8 hr7 hB7 Hq
          go_wp2_with fail
          refine (list_any A8 ss.length c8 w8.heap.size ss w8 (by omega) hx8 (Nat.le_refl _) (by omega)).mono ?_
          rintro e w9 ⟨v9, rfl, hown9, hbel9⟩
          have hr9 := hr8.below hbel9 hB8.size
          have hB9 := hB8.trans (hbel9.mono hB8.size)
          have hx9 := hx8'.below hbel9 (Nat.le_refl _)
          have hs9 := hbel9.size
          have hs8 := hB8.size
          have hen := Plain.enc_length_six (hmc (show ss.length ≤ 1000000 by omega))
          clear hbel9 hr8 hB8 hx8 hx8'
          go_wp2_with (at_builtin; refine wpList_append_some _ rfl _ _ 24 rfl w8.heap.size 5 i0 (.int .u8 0) 1 1 Try.underlying24 hi0 hz0 hz1 hz2 rfl rfl _ _ _ rfl hown9 A8' _ c8' _ w8.heap.size rfl hx9 (cells_one _) (by unfold maxLen; omega) (by omega) hs9 ?_; intro v11 w11 hown11 hgrow11; have hr11 := rd_app1 hr9 hs8 hs9 hown9 hgrow11; have hB11 := below_app1 hB9 hown9 hs9 hs8 hgrow11; clear hgrow11 hown9 hr9 hB9 hx9)
          have hown11 := own_eq hown11 (n' := len) (xs' := l.map Plain.cell) Hlt.out.symm (by rw [← List.map_append, ← Hwhole.out])
          obtain ⟨A11, c11, rfl, hc11, hm11⟩ := own_shape hown11
          have hx11 := Rd.own hown11
          clear hown11
          refine (sameBytes_yes A11 A len c11 cap w11.heap.size W.heap.size l w11 (by omega) hx11 hr11).mono ?_
          rintro e w12 ⟨rfl, q12, rfl⟩
          have hB12 := below_drewN hB11 q12
          generalize hw12 : w11.drewN q12 = w12 at *
          clear hw12
          go_wp2_with fail
          go_ret
          exact ⟨rfl, hB12⟩

set_option maxRecDepth 100000 in
theorem walk_WireOne (A : Option Addr) (len cap : Nat) (l : List UInt8) (W : World) (hr : Rd W W.heap.size A len (l.map Plain.cell)) (hc : len ≤ cap) (hm : cap ≤ maxLen) :
    Calls Try.prog 5 #[.slice A len cap] W fun e w' => e = .returned (.bool true) ∧ Below W.heap.size W w' := by
  by_cases h : len ≤ 3000
  · exact one_small A len cap l W hr hc hm h
  · have h' : 3000 < len := by omega
    clear hr hc hm
    go_enter Try.func5, Try.ntmps5
    go_wp2_with fail
    refine (alive_any W).mono ?_
    rintro e w2 ⟨rfl, hB2⟩
    go_wp2_with fail
    go_ret
    exact ⟨rfl, hB2⟩

end Go.Proofs.Ytaipjdfgedjdnaa
