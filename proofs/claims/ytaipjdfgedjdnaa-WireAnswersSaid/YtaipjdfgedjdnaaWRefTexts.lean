/-
  Layer 2: the references: Texts, List, Num.
-/
import Derived.Test.YtaipjdfgedjdnaaWRef
import Derived.Deep.RegionWith
import Derived.Deep.RegionHeld3
set_option linter.unusedVariables false
namespace Go.Proofs.Ytaipjdfgedjdnaa
open Go.RowKit

set_option maxRecDepth 100000 in
set_option maxHeartbeats 800000 in
theorem refTexts_any (A : Option Addr) (n c B : Nat) (ss : List ByteArray) (w : World) (hn : n ≤ 1000000) (hr : Rd w B A n (ss.map Value.string)) (hB : B ≤ w.heap.size) (htot : (encTexts ss).length ≤ 900000) :
    Calls Try.prog 22 #[.slice A n c] w fun e w' =>
      ∃ v, e = .returned v ∧ w'.ownsRow w.heap.size 5 1 v (encTexts ss).length ((encTexts ss).map Plain.cell) ∧ Below w.heap.size w w' := by
  obtain ⟨i0, hi0, hz0, hz1, hz2⟩ := info_parts info5
  have hown0 : (w.alloc (.cells #[] 5)).ownsRow w.heap.size 5 1 (.slice (some ⟨w.heap.size, 0, none⟩) 0 0) 0 [] := World.ownsRow_lit w #[] 0 (Nat.le_refl _) (by unfold maxLen; omega) rfl
  have hb0 : Below w.heap.size w (w.alloc (.cells #[] 5)) := (Below.refl _ _).alloc (Nat.le_refl _) _
  have hl := hr.1
  rw [List.length_map] at hl
  have Hl := Lib.hid hl; clear hl
  have Hr := Lib.hid hr; clear hr
  go_enter Try.func22, Try.ntmps22
  go_wp2
  go_loopw [3, 4] (fun v i wr => ∃ k : Nat, k ≤ n ∧ i = .int .i64 k ∧ wr.ownsRow w.heap.size 5 1 v (encTexts (ss.take k)).length ((encTexts (ss.take k)).map Plain.cell) ∧ Below w.heap.size w wr) (fun _ i _ => n - (intOf i).toNat)
  case atStart => exact ⟨0, Nat.zero_le _, rfl, hown0, hb0⟩
  case round =>
    obtain ⟨k, hk, rfl, hown, hbel⟩ := hrel
    clear hown0 hb0
    by_cases hlt : k < n
    · obtain ⟨b, off, rfl, hb, hc⟩ := Hr.out.2 (by omega)
      have hkl : k < ss.length := by rw [Hl.out]; exact hlt
      have g0 := hc k _ (show (ss.map Value.string)[k]? = some (.string ss[k]) by rw [List.getElem?_map, List.getElem?_eq_getElem hkl]; rfl)
      have g : wr.cell? ⟨b, off + k, none⟩ = some (.string ss[k]) := (hbel.cell (p := ⟨b, off + k, none⟩) (by show b < w.heap.size; omega)).trans g0
      clear hc
      have hle := encTexts_take_le ss k hkl
      rw [encText_length] at hle
      have Hs := Lib.hid (show encTexts (ss.take (k + 1)) = encTexts (ss.take k) ++ encText ss[k] by rw [take_snoc' _ _ hkl, encTexts_snoc])
      generalize hx : ss[k] = x at *
      have Hx := Lib.hid hx; clear hx
      have hm : x.size ≤ Plain.mc := by unfold Plain.mc; omega
      have hsz := hbel.size
      go_wp2_with fail
      refine (refOne_any x.size wr hm).mono ?_
      rintro e w1 ⟨v', rfl, hown', hbel'⟩
      have hb2 := hbel.trans (hbel'.mono hsz)
      have hown2 := own_below hown hbel'
      have hs1 : w.heap.size ≤ w1.heap.size := hb2.size
      obtain ⟨A', c', rfl, _, _⟩ := own_shape hown'
      have hx' := Rd.own hown'
      have g1 : w1.cell? ⟨b, off + k, none⟩ = some (.string x) := (hb2.cell (p := ⟨b, off + k, none⟩) (by show b < w.heap.size; omega)).trans g0
      clear hown hbel hown' hbel' g
      go_wp2_with (first
        | (at_builtin; refine wpList_append_some _ rfl _ _ 24 rfl w.heap.size 5 i0 (.int .u8 0) 1 1 Try.underlying24 hi0 hz0 hz1 hz2 rfl rfl _ _ _ rfl hown2 A' _ c' _ w1.heap.size rfl hx' (cells_one _) (by unfold maxLen; omega) (by omega) hs1 ?_; intro v3 w3 hown3 hgrow3; have hb3 := below_app1 hb2 hown2 hs1 (Nat.le_refl _) hgrow3; have hs3 := hb3.size; have g3 : w3.cell? ⟨b, off + k, none⟩ = some (.string x) := (hb3.cell (p := ⟨b, off + k, none⟩) (by show b < w.heap.size; omega)).trans g0; clear hgrow3 hown2 hb2 hx' g1)
        | (at_builtin; refine Lib.wpList_append_own_string _ rfl _ _ 24 9 rfl w.heap.size 5 i0 Try.underlying24 Try.underlying9 hi0 hz0 hz1 hz2 _ _ _ rfl hown3 x rfl (by unfold maxLen; omega) (by omega) hs3 ?_; intro v4 w4 hown4 hgrow4 _; have hb4 := below_app1 hb3 hown3 hs3 (Nat.le_refl _) hgrow4; clear hgrow4 hb3 hown3 g3))
      go_roundw
      case rel =>
        refine ⟨k + 1, by omega, by go_num, ?_, hb4⟩
        rw [Hs.out, List.length_append, List.map_append, encText_length, encText, List.map_append, ← Nat.add_assoc, ← List.append_assoc]
        exact hown4
      case measure => simp [intOf]; omega
    · have hkn : k = n := by omega
      subst hkn
      have e : ss.take k = ss := List.take_of_length_le (by rw [Hl.out]; omega)
      rw [e] at hown
      go_wp2
      go_ret
      exact ⟨_, rfl, hown, hbel⟩

set_option maxRecDepth 100000 in
set_option maxHeartbeats 800000 in
theorem refList_any (A : Option Addr) (n c B : Nat) (ss : List ByteArray) (w : World) (hn : n ≤ 1000000) (hr : Rd w B A n (ss.map Value.string)) (hB : B ≤ w.heap.size) (htot : (encTexts ss).length ≤ 900000) :
    Calls Try.prog 24 #[.slice A n c] w fun e w' =>
      ∃ v, e = .returned v ∧ w'.ownsRow w.heap.size 5 1 v ((Plain.enc n).length + (encTexts ss).length) ((Plain.enc n ++ encTexts ss).map Plain.cell) ∧ Below w.heap.size w w' := by
  obtain ⟨i0, hi0, hz0, hz1, hz2⟩ := info_parts info5
  have Hr := Lib.hid hr; clear hr
  have hnm : n ≤ Plain.mc := by unfold Plain.mc; omega
  have hen := Plain.enc_length_six hnm
  go_enter Try.func24, Try.ntmps24
  go_wp2_with fail
  refine (refOne_any n w hnm).mono ?_
  rintro e w1 ⟨v1, rfl, hown1, hb1⟩
  have hsz1 := hb1.size
  go_wp2_with fail
  refine (refTexts_any A n c B ss w1 hn (Hr.out.below hb1 hB) (by omega) htot).mono ?_
  rintro e w2 ⟨v2, rfl, hown2, hb2⟩
  have hsz2 := hb2.size
  have hown1' := own_below hown1 hb2
  have hbase2 : w.heap.size ≤ w2.heap.size := by omega
  obtain ⟨A2, c2, rfl⟩ := own_form hown2
  have hr2 := Rd.own hown2
  clear hown1
  go_wp2_with (at_builtin; refine wpList_append_some _ rfl _ _ 24 rfl w.heap.size 5 i0 (.int .u8 0) 1 1 Try.underlying24 hi0 hz0 hz1 hz2 rfl (by decide) _ _ _ rfl hown1' A2 (encTexts ss).length c2 ((encTexts ss).map Plain.cell) w2.heap.size rfl hr2 (cells_one _) (by unfold maxLen; omega) (by omega) hbase2 ?_; intro v3 w3 hown3 hgrow3)
  go_ret
  refine ⟨v3, rfl, ?_, ((hb1.trans (hb2.mono (by omega))).grown hgrow3 hbase2 fun k hk => (hown1'.lt k hk).1)⟩
  rw [List.map_append]
  exact hown3

theorem Rd.cut_at {w : World} {B n b off : Nat} {xs : List Value} (h : Rd w B (some ⟨b, off, none⟩) n xs) (k : Nat) : Rd w B (some ⟨b, off + k, none⟩) (n - k) (xs.drop k) := by
  have := h.cut_in k
  rwa [Option.map_some, add_at] at this

theorem ref_val (m x k : Nat) (hk : k < 6) (hm : m < 128 ^ k) (hx : x < 256) : wrap64 ((m : Int) + wrap64 ((x : Int) % 128 * ((128 ^ k : Nat) : Int))) = ((m + (x % 128) * 128 ^ k : Nat) : Int) := by
  have hp : (128 : Nat) ^ k ≤ 128 ^ 5 := Nat.pow_le_pow_right (by omega) (by omega)
  have hy : (x % 128) * 128 ^ k ≤ 127 * 128 ^ 5 := Nat.mul_le_mul (by omega) hp
  have e1 : (x : Int) % 128 * ((128 ^ k : Nat) : Int) = (((x % 128) * 128 ^ k : Nat) : Int) := by rw [Int.natCast_mul]; rfl
  rw [e1]
  generalize (x % 128) * 128 ^ k = y at *
  have e2 : wrap64 (y : Int) = y := IntWalk.wrap64_in _ ⟨by omega, by omega⟩
  rw [e2]
  exact (IntWalk.wrap64_in _ ⟨by omega, by omega⟩).trans (by omega)

set_option maxRecDepth 100000 in
set_option maxHeartbeats 1600000 in
theorem refNum_yes (A : Option Addr) (n c B : Nat) (l : List UInt8) (w : World) (hn : n ≤ 1000000) (hc : n ≤ c) (hcm : c ≤ maxLen) (hr : Rd w B A n (l.map Plain.cell)) (hB : B ≤ w.heap.size) (h : (Plain.tk l).2 ≠ 0) :
    Calls Try.prog 14 #[.slice A n c] w fun e w' =>
      ∃ v, e = .returned (.tuple #[.int .i64 ((Plain.tk l).1 : Nat), v, .bool true]) ∧ w'.ownsRow w.heap.size 5 1 v (n - (Plain.tk l).2) ((l.drop (Plain.tk l).2).map Plain.cell) ∧ Below w.heap.size w w' := by
  have hl := hr.1
  rw [List.length_map] at hl
  have Hl := Lib.hid hl; clear hl
  have Hr := Lib.hid hr; clear hr
  have H := Lib.hid h; clear h
  unfold maxLen at hcm
  go_enter Try.func14, Try.ntmps14
  go_wp2
  go_loop [5, 6, 7] (fun a o i => ∃ k m : Nat, k ≤ n ∧ k ≤ 6 ∧ i = .int .i64 k ∧ o = .int .i64 (128 ^ k : Nat) ∧ a = .int .i64 m ∧ Plain.Mid l k m) (fun _ _ i => 6 - (intOf i).toNat)
  case atStart => exact ⟨0, 0, Nat.zero_le _, by omega, rfl, rfl, rfl, Plain.mid_start l⟩
  case round =>
    obtain ⟨k, m, hk, hk6, rfl, rfl, rfl, hm⟩ := hrel
    by_cases hend : 6 ≤ k ∨ n ≤ k
    · exfalso
      exact H.out (by rw [Plain.mid_none hm (by rw [Hl.out]; omega)])
    · have hk1 : k < n := by omega
      have hk2 : k < 6 := by omega
      obtain ⟨b, off, hA, hb, hc⟩ := Hr.out.2 (by omega)
      have hkl : k < l.length := by rw [Hl.out]; exact hk1
      have g : w.cell? ⟨b, off + k, none⟩ = some (.int .u8 (l[k].toNat : Int)) := hc k _ (by rw [List.getElem?_map, List.getElem?_eq_getElem hkl]; rfl)
      clear hc hend
      have hbyte := l[k].toNat_lt
      have hP : 128 ^ k ≤ 34359738368 := by have := Nat.pow_le_pow_right (n := 128) (by omega) (show k ≤ 5 by omega); omega
      have Hv := Lib.hid (ref_val m l[k].toNat k hk2 hm.1 hbyte)
      have Hpow := Lib.hid (show ((128 ^ k : Nat) : Int) * 128 = ((128 ^ (k + 1) : Nat) : Int) by rw [Nat.pow_succ]; push_cast; rfl)
      by_cases hx : 128 ≤ l[k].toNat
      · have Hgo := Lib.hid (Plain.mid_go hm hk2 hkl hx)
        clear hm
        generalize hx' : l[k].toNat = x at *
        have Hx := Lib.hid hx'; clear hx'
        generalize hPP : 128 ^ k = P at *
        have HPP := Lib.hid hPP; clear hPP
        subst hA
        go_wp2
        go_round
        case rel => exact ⟨k + 1, _, by omega, by omega, by go_num, by rw [Hpow.out], by rw [Hv.out], Hgo.out⟩
        case measure => simp [intOf]; omega
      · have hraw := Plain.mid_end hm hk2 hkl (by omega)
        have htk := Plain.tk_of_raw hraw
        have hcond : m + l[k].toNat * 128 ^ k ≤ Plain.mc ∧ (Plain.enc (m + l[k].toNat * 128 ^ k)).length = k + 1 := by
          by_cases hc : m + l[k].toNat * 128 ^ k ≤ Plain.mc ∧ (Plain.enc (m + l[k].toNat * 128 ^ k)).length = k + 1
          · exact hc
          · exfalso
            rw [if_neg hc] at htk
            exact H.out (by rw [htk])
        have hread := Plain.raw_read 6 l _ _ hraw hcond.2
        rw [if_pos hcond] at htk
        have Htk := Lib.hid htk; clear htk hraw hm
        have hmc1 := hcond.1
        have Hlen := Lib.hid hcond.2; clear hcond
        have Hread := Lib.hid hread; clear hread
        generalize hx' : l[k].toNat = x at *
        have Hx := Lib.hid hx'; clear hx'
        have e : x % 128 = x := by omega
        rw [e] at Hv
        clear e
        generalize hV : m + x * 128 ^ k = V at *
        have HV := Lib.hid hV; clear hV
        generalize hPP : 128 ^ k = P at *
        have HPP := Lib.hid hPP; clear hPP
        have hmle := Plain.mc_le hmc1
        have hdec : decide ((1099511627776 : Int) < (V : Int)) = false := by simp; omega
        subst hA
        go_wp2
        rw [Hv.out]
        have hbw : b < w.heap.size := by omega
        have q1 : (0 : Int) ≤ (k : Int) + 1 := by omega
        have q2 : (k : Int) + 1 ≤ (c : Int) := by omega
        have q3 : IntKind.i64.wrap ((k : Int) + 1) = (k : Int) + 1 := IntWalk.i64_in _ (by omega)
        have q4 : ((k : Int) + 1).toNat = k + 1 := by omega
        have q5 : k + 1 ≤ c := by omega
        go_region_held3 (fun w' => w'.cell? ⟨b, off + k, none⟩ = some (.int .u8 x)) (first | go_keep | exact (hb1.cell (p := ⟨b, off + k, none⟩) (by simpa using hbw)).trans g | exact (hb1.cell (p := ⟨b, off + k, none⟩) hbw).trans g) ((first
          | (go_at_call 29; refine (refOne_any V _ hmc1).mono ?_; rintro e w1 ⟨v1, rfl, hown1, hb1⟩; rw [Hlen.out] at hown1; obtain ⟨A1, c1, rfl, _, _⟩ := own_shape hown1; have hx1 := Rd.own hown1; have hr1 := Rd.below (w := w.drew) Hr.out hb1 hB; have hs1 : w.heap.size ≤ w1.heap.size := hb1.size; have hx2 := hr1.cut_end (k + 1) (by omega); rw [← List.map_take, Hread.out] at hx2; clear hown1)
          | (go_at_call 20; refine (sameBytes_yes A1 _ (k + 1) c1 _ _ _ (Plain.enc V) _ (by unfold maxLen; omega) hx1 hx2).mono ?_; rintro e w2 ⟨rfl, q, rfl⟩)))
        go_wp2_with fail
        · have hq := copyBytes_any (some ⟨b, off, none⟩) (n - (k + 1)) 0 B (l.drop (k + 1)) (w1.drewN q) (by omega) (by rw [List.map_drop]; exact (hr1.drewN q).cut_all (by omega)) (Nat.le_trans hB hs1)
          refine hq.mono ?_
          clear hq
          rintro e w3 ⟨v3, rfl, hown3, hb3⟩
          have hown4 : w3.ownsRow w.heap.size 5 1 v3 (n - (k + 1)) ((l.drop (k + 1)).map Plain.cell) := own_base hown3 hs1
          have h1 : Below w.heap.size w w1 := ⟨hb1.os, hb1.tape, hb1.output, hb1.size, hb1.block⟩
          have hb5 : Below w.heap.size w w3 := (below_drewN h1 q).trans (hb3.mono hs1)
          clear hown3 hb3 h1
          go_wp2_with fail
          go_ret3
          rw [Htk.out]
          exact ⟨v3, rfl, hown4, hb5⟩
        · have hq := copyBytes_any (some ⟨b, off + (k + 1), none⟩) (n - (k + 1)) (c - (k + 1)) B (l.drop (k + 1)) (w1.drewN q) (by omega) (by rw [List.map_drop]; exact (hr1.drewN q).cut_at (k + 1)) (Nat.le_trans hB hs1)
          refine hq.mono ?_
          clear hq
          rintro e w3 ⟨v3, rfl, hown3, hb3⟩
          have hown4 : w3.ownsRow w.heap.size 5 1 v3 (n - (k + 1)) ((l.drop (k + 1)).map Plain.cell) := own_base hown3 hs1
          have h1 : Below w.heap.size w w1 := ⟨hb1.os, hb1.tape, hb1.output, hb1.size, hb1.block⟩
          have hb5 : Below w.heap.size w w3 := (below_drewN h1 q).trans (hb3.mono hs1)
          clear hown3 hb3 h1
          go_wp2_with fail
          go_ret3
          rw [Htk.out]
          exact ⟨v3, rfl, hown4, hb5⟩

end Go.Proofs.Ytaipjdfgedjdnaa
