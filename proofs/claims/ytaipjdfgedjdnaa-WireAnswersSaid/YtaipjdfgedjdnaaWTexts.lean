/-
  Layer 2: Texts, List.
-/
import Derived.Test.YtaipjdfgedjdnaaWText
import Derived.Lib.AppendStr
set_option linter.unusedVariables false
namespace Go.Proofs.Ytaipjdfgedjdnaa
open Go.RowKit

/-- A text's bytes: its length, and itself. -/
def encText (s : ByteArray) : List UInt8 := Plain.enc s.size ++ s.data.toList
def encTexts (ss : List ByteArray) : List UInt8 := ss.flatMap encText
theorem encTexts_snoc (ss : List ByteArray) (s : ByteArray) : encTexts (ss ++ [s]) = encTexts ss ++ encText s := by simp [encTexts]
theorem encText_length (s : ByteArray) : (encText s).length = (Plain.enc s.size).length + s.size := by rw [encText, List.length_append, Array.length_toList]; rfl
theorem encTexts_take_le (ss : List ByteArray) (k : Nat) (h : k < ss.length) : (encTexts (ss.take k)).length + (encText ss[k]).length ≤ (encTexts ss).length := by
  have e0 : ss.take k ++ ss[k] :: ss.drop (k + 1) = ss := by rw [← List.drop_eq_getElem_cons h, List.take_append_drop]
  have e : encTexts ss = encTexts (ss.take k) ++ (encText ss[k] ++ encTexts (ss.drop (k + 1))) := by
    refine (congrArg encTexts e0.symm).trans ?_
    simp only [encTexts, List.flatMap_append, List.flatMap_cons]
  rw [e]
  simp only [List.length_append]
  omega

set_option maxRecDepth 100000 in
set_option maxHeartbeats 800000 in
theorem texts_any (A : Option Addr) (n c B : Nat) (ss : List ByteArray) (w : World) (hn : n ≤ 1000000) (hr : Rd w B A n (ss.map Value.string)) (hB : B ≤ w.heap.size) (htot : (encTexts ss).length ≤ 900000) :
    Calls Try.prog 21 #[.slice A n c] w fun e w' =>
      ∃ v, e = .returned v ∧ w'.ownsRow w.heap.size 5 1 v (encTexts ss).length ((encTexts ss).map Plain.cell) ∧ Below w.heap.size w w' := by
  obtain ⟨i0, hi0, hz0, hz1, hz2⟩ := info_parts info5
  have hl := hr.1
  rw [List.length_map] at hl
  have Hl := Lib.hid hl; clear hl
  have Hr := Lib.hid hr; clear hr
  go_enter Try.func21, Try.ntmps21
  go_wp2
  go_loopw [3, 8] (fun v i wr => ∃ k : Nat, k ≤ n ∧ i = .int .i64 k ∧ wr.ownsRow w.heap.size 5 1 v (encTexts (ss.take k)).length ((encTexts (ss.take k)).map Plain.cell) ∧ Below w.heap.size w wr) (fun _ i _ => n - (intOf i).toNat)
  case atStart => exact ⟨0, Nat.zero_le _, rfl, World.ownsRow_nil _ _ _ _, Below.refl _ _⟩
  case round =>
    obtain ⟨k, hk, rfl, hown, hbel⟩ := hrel
    by_cases hlt : k < n
    · obtain ⟨b, off, rfl, hb, hc⟩ := Hr.out.2 (by omega)
      have hkl : k < ss.length := by rw [Hl.out]; exact hlt
      have g : wr.cell? ⟨b, off + k, none⟩ = some (.string ss[k]) := by
        rw [hbel.cell (p := ⟨b, off + k, none⟩) (by show b < w.heap.size; omega)]
        exact hc k _ (by rw [List.getElem?_map, List.getElem?_eq_getElem hkl]; rfl)
      clear hc
      have hle := encTexts_take_le ss k hkl
      rw [encText_length] at hle
      have Hs := Lib.hid (show encTexts (ss.take (k + 1)) = encTexts (ss.take k) ++ encText ss[k] by rw [take_snoc' _ _ hkl, encTexts_snoc])
      generalize hx : ss[k] = x at *
      have Hx := Lib.hid hx; clear hx
      have hm : x.size ≤ Plain.mc := by unfold Plain.mc; omega
      have hsz := hbel.size
      go_wp2_with fail
      refine (putNum_any _ _ _ x.size w.heap.size _ hm (by omega) hown hsz).mono ?_
      rintro e w1 ⟨v', rfl, hown', hbel'⟩
      have hb2 := hbel.trans hbel'
      have hsz1 := hb2.size
      clear hown hbel hbel'
      go_wp2_with (at_builtin; (refine Lib.wpList_append_own_string _ rfl _ _ 24 9 rfl w.heap.size 5 i0 Try.underlying24 Try.underlying9 hi0 hz0 hz1 hz2 _ _ _ rfl hown' x rfl (by unfold maxLen; omega) (by omega) hsz1 ?_); intro v2 w2 hown2 hgrow2 _; have hb3 := hb2.grown hgrow2 hsz1 (fun k hk => (hown'.lt k hk).1); clear hgrow2 hb2 hown')
      go_roundw
      case rel =>
        refine ⟨k + 1, by omega, by go_num, ?_, hb3⟩
        rw [Hs.out, List.length_append, List.map_append, encText_length, encText, List.map_append, ← Nat.add_assoc, ← List.append_assoc]
        exact hown2
      case measure => simp [intOf]; omega
    · have hkn : k = n := by omega
      subst hkn
      have e : ss.take k = ss := List.take_of_length_le (by rw [Hl.out]; omega)
      rw [e] at hown
      go_wp2
      go_ret
      exact ⟨_, rfl, hown, hbel⟩

set_option maxRecDepth 100000 in
set_option maxHeartbeats 800000 in
theorem list_any (A : Option Addr) (n c B : Nat) (ss : List ByteArray) (w : World) (hn : n ≤ 1000000) (hr : Rd w B A n (ss.map Value.string)) (hB : B ≤ w.heap.size) (htot : (encTexts ss).length ≤ 900000) :
    Calls Try.prog 23 #[.slice A n c] w fun e w' =>
      ∃ v, e = .returned v ∧ w'.ownsRow w.heap.size 5 1 v ((Plain.enc n).length + (encTexts ss).length) ((Plain.enc n ++ encTexts ss).map Plain.cell) ∧ Below w.heap.size w w' := by
  obtain ⟨i0, hi0, hz0, hz1, hz2⟩ := info_parts info5
  have Hr := Lib.hid hr; clear hr
  have hnm : n ≤ Plain.mc := by unfold Plain.mc; omega
  have hen := Plain.enc_length_six hnm
  go_enter Try.func23, Try.ntmps23
  go_wp2_with fail
  refine (putNum_any (.slice none 0 0) 0 [] n w.heap.size _ hnm (by omega) (World.ownsRow_nil _ _ _ _) (Nat.le_refl _)).mono ?_
  rintro e w1 ⟨v1, rfl, hown1, hb1⟩
  have hsz1 := hb1.size
  go_wp2_with fail
  refine (texts_any A n c B ss w1 hn (Hr.out.below hb1 hB) (by omega) htot).mono ?_
  rintro e w2 ⟨v2, rfl, hown2, hb2⟩
  have hsz2 := hb2.size
  have hown1' : w2.ownsRow w.heap.size 5 1 v1 (0 + (Plain.enc n).length) ([] ++ (Plain.enc n).map Plain.cell) := own_below hown1 hb2
  have hbase2 : w.heap.size ≤ w2.heap.size := by omega
  obtain ⟨A2, c2, rfl⟩ := own_form hown2
  have hr2 := Rd.own hown2
  clear hown1
  go_wp2_with (at_builtin; refine wpList_append_some _ rfl _ _ 24 rfl w.heap.size 5 i0 (.int .u8 0) 1 1 Try.underlying24 hi0 hz0 hz1 hz2 rfl (by decide) _ _ _ rfl hown1' A2 (encTexts ss).length c2 ((encTexts ss).map Plain.cell) w2.heap.size rfl hr2 (cells_one _) (by unfold maxLen; omega) (by omega) hbase2 ?_; intro v3 w3 hown3 hgrow3)
  go_ret
  refine ⟨v3, rfl, ?_, ((hb1.trans (hb2.mono (by omega))).grown hgrow3 hbase2 fun k hk => (hown1'.lt k hk).1)⟩
  rw [List.map_append]
  simpa using hown3

end Go.Proofs.Ytaipjdfgedjdnaa
