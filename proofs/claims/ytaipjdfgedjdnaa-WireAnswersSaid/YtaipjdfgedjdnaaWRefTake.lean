/-
  Layer 2: the references: Text, Take.
-/
import Derived.Test.YtaipjdfgedjdnaaWRefNo
set_option linter.unusedVariables false
namespace Go.Proofs.Ytaipjdfgedjdnaa
open Go.RowKit

/-- A slice's block is one of bytes. -/
def Ty (w : World) (A : Option Addr) (n : Nat) : Prop := ∀ x, A = some x → 0 < n → ∃ cs, w.heap[x.block]? = some (.cells cs 5 (0, 0))
theorem Ty.own {w : World} {base n c : Nat} {A : Option Addr} {xs : List Value} (h : w.ownsRow base 5 1 (.slice A n c) n xs) : Ty w A n := by
  intro x hx hn
  rcases h.2 with ⟨_, h0⟩ | ⟨g, cap, cur, h', _, hg, _⟩
  · omega
  · injection h' with hA _ _
    rw [hA] at hx
    injection hx with hx
    subst hx
    exact ⟨cur, hg⟩
theorem Ty.cut {w : World} {A : Option Addr} {n : Nat} (h : Ty w A n) (k : Nat) : Ty w (Option.map (fun x => x.add k) A) (n - k) := by
  intro x hx hn
  rcases A with _ | a
  · cases hx
  · simp only [Option.map_some, Option.some.injEq] at hx
    subst hx
    have e : (a.add k).block = a.block := by unfold Addr.add; split <;> rfl
    rw [e]
    exact h a rfl (by omega)
theorem rd_app_own {B base n m : Nat} {w w' : World} {v : Value} {A : Option Addr} {xs ys : List Value} {o : Obj} (h : Rd w B A n xs) (hB : B ≤ w.heap.size) (ht : Ty w A n)
    (hown : w.ownsRow base 9 1 v m ys) (hg : (w.alloc o).grownBy w' v.ownBlock) : Rd w' w'.heap.size A n xs ∧ Ty w' A n := by
  have hsz : w.heap.size ≤ w'.heap.size := by have := hg.size; simp at this; omega
  have hblk : ∀ x, A = some x → 0 < n → x.block < w.heap.size ∧ w'.heap[x.block]? = w.heap[x.block]? := by
    intro x hx hn
    obtain ⟨cs, hcs⟩ := ht x hx hn
    have hlt : x.block < w.heap.size := (Array.getElem?_eq_some_iff.1 hcs).1
    refine ⟨hlt, ?_⟩
    rw [hg.block x.block (by simp; omega) ?_]
    · exact Below.heap_alloc w o x.block hlt
    · intro e
      rcases hown.2 with ⟨rfl, _⟩ | ⟨g, cap, cur, rfl, _, hgg, _⟩
      · simp [Value.ownBlock] at e
      · simp only [Value.ownBlock, Option.some.injEq] at e
        rw [e, hgg] at hcs
        simp at hcs
  refine ⟨⟨h.1, fun hn => ?_⟩, fun x hx hn => ?_⟩
  · obtain ⟨b, off, e, hb, hc⟩ := h.2 hn
    obtain ⟨h1, h2⟩ := hblk _ e hn
    exact ⟨b, off, e, by have : b < w.heap.size := h1; omega, fun j u hu => (World.cell?_of_block (a := ⟨b, off + j, none⟩) h2).trans (hc j u hu)⟩
  · obtain ⟨cs, hcs⟩ := ht x hx hn
    exact ⟨cs, (hblk x hx hn).2.trans hcs⟩

set_option maxRecDepth 100000 in
set_option maxHeartbeats 800000 in
theorem refText_no (A : Option Addr) (n c B : Nat) (l : List UInt8) (w : World) (hn : n ≤ 1000000) (hc : n ≤ c) (hcm : c ≤ maxLen) (hr : Rd w B A n (l.map Plain.cell)) (hB : B ≤ w.heap.size) (h : tt l = none) :
    Calls Try.prog 16 #[.slice A n c] w fun e w' => e = .returned (.tuple #[.string ByteArray.empty, .slice none 0 0, .bool false]) ∧ Below w.heap.size w w' := by
  have hl := hr.1
  rw [List.length_map] at hl
  have h2 := tt_none h
  rw [hl] at h2
  by_cases h0 : (Plain.tk l).2 = 0
  · have Hq := Lib.hid (refNum_no A n c B l w hn hc hcm hr hB h0)
    clear hr h h2 h0 hl
    go_enter Try.func16, Try.ntmps16
    go_wp2_with fail
    refine Hq.out.mono ?_
    rintro e w1 ⟨rfl, hb1⟩
    go_wp2_with fail
    go_ret3
    exact ⟨rfl, hb1⟩
  · have hgt : n - (Plain.tk l).2 < (Plain.tk l).1 := by omega
    have Hq := Lib.hid (refNum_yes A n c B l w hn hc hcm hr hB h0)
    clear hr h h2 h0 hl
    generalize (Plain.tk l).1 = m at *
    generalize (Plain.tk l).2 = s at *
    go_enter Try.func16, Try.ntmps16
    go_wp2_with fail
    refine Hq.out.mono ?_
    rintro e w1 ⟨v1, rfl, hown1, hb1⟩
    obtain ⟨A1, c1, rfl, _, _⟩ := own_shape hown1
    clear hown1
    go_wp2_with fail
    go_ret3
    exact ⟨rfl, hb1⟩

set_option maxRecDepth 100000 in
set_option maxHeartbeats 800000 in
theorem refText_yes (A : Option Addr) (n c B : Nat) (l : List UInt8) (w : World) (S : ByteArray) (L : List UInt8) (hn : n ≤ 1000000) (hc : n ≤ c) (hcm : c ≤ maxLen) (hr : Rd w B A n (l.map Plain.cell)) (hB : B ≤ w.heap.size) (h : tt l = some (S, L)) :
    Calls Try.prog 16 #[.slice A n c] w fun e w' =>
      ∃ A' n' c', e = .returned (.tuple #[.string S, .slice A' n' c', .bool true]) ∧ Rd w' w'.heap.size A' n' (L.map Plain.cell) ∧ Ty w' A' n' ∧ n' ≤ c' ∧ c' ≤ maxLen ∧ Below w.heap.size w w' := by
  have hl := hr.1
  rw [List.length_map] at hl
  obtain ⟨h0, h1, hS, hL⟩ := tt_some h
  rw [hl] at h1
  have Hq := Lib.hid (refNum_yes A n c B l w hn hc hcm hr hB h0)
  have hrd := Plain.tk_read l h0
  have hsn : (Plain.tk l).2 ≤ n := by rw [← hl]; exact hrd.2.2.2
  have HS := Lib.hid hS; clear hS
  have HL := Lib.hid (show L = (l.drop (Plain.tk l).2).drop (Plain.tk l).1 by rw [List.drop_drop]; exact hL)
  have Hl := Lib.hid hl
  clear hr h h0 hl hrd hL
  generalize (Plain.tk l).1 = m at *
  generalize (Plain.tk l).2 = s at *
  go_enter Try.func16, Try.ntmps16
  go_wp2_with fail
  refine Hq.out.mono ?_
  rintro e w1 ⟨v1, rfl, hown1, hb1⟩
  obtain ⟨A1, c1, rfl, hc1, hm1⟩ := own_shape hown1
  have hx1 := Rd.own hown1
  have Hty := Lib.hid (Ty.own hown1)
  have Hx1 := Lib.hid hx1
  clear hown1 hx1
  unfold maxLen at hm1
  have hmi : (m : Int) ≤ ((n - s : Nat) : Int) := by omega
  have hconv : ∀ q, (convert 24 9 (.slice A1 m c1)).run Try.prog (w1.drewN q) = .ok (.string (str ((l.drop s).take m))) (w1.drewN q) := fun q =>
    run_conv (w1.drewN q) (B := w1.heap.size) _ (by rw [List.map_take]; exact (Hx1.out.drewN q).cut_end m h1)
  have q2 : (m : Int) ≤ (c1 : Int) := by omega
  have q5 : m ≤ c1 := by omega
  by_cases hcm2 : c1 = m
  · have hnm : n - s = m := by omega
    subst hcm2
    have Hc := Lib.hid (show Rd w1 w1.heap.size A1 0 (L.map Plain.cell) by
      have h9 := Rd.cut_all (A' := A1) Hx1.out (k := c1) (by omega)
      rw [hnm, Nat.sub_self, ← List.map_drop, ← HL.out] at h9
      exact h9)
    go_wp2_with fail
    go_quiet (fail)
    go_wp2
    go_ret3
    rw [HS.out]
    exact ⟨_, _, _, rfl, Hc.out.drewN _, fun x _ h => absurd h (by omega), by omega, by unfold maxLen; omega, below_drewN hb1 _⟩
  · go_wp2_with fail
    go_quiet (fail)
    go_wp2
    go_ret3
    rw [HS.out]
    exact ⟨_, _, _, rfl, by rw [HL.out, List.map_drop]; exact (Hx1.out.drewN _).cut_in m, Hty.out.cut m, by omega, by unfold maxLen; omega, below_drewN hb1 _⟩

set_option maxRecDepth 100000 in
set_option maxHeartbeats 800000 in
theorem refTake_no1 (A : Option Addr) (n c B : Nat) (l : List UInt8) (most : Int) (w : World) (hn : n ≤ 1000000) (hc : n ≤ c) (hcm : c ≤ maxLen) (hr : Rd w B A n (l.map Plain.cell)) (hB : B ≤ w.heap.size)
    (h : (Plain.tk l).2 = 0 ∨ most < ((Plain.tk l).1 : Int)) :
    Calls Try.prog 18 #[.slice A n c, .int .i64 most] w fun e w' => e = .returned (.tuple #[.slice none 0 0, .slice none 0 0, .bool false]) ∧ Below w.heap.size w w' := by
  by_cases h0 : (Plain.tk l).2 = 0
  · have Hq := Lib.hid (refNum_no A n c B l w hn hc hcm hr hB h0)
    clear hr h h0
    go_enter Try.func18, Try.ntmps18
    go_wp2_with fail
    refine Hq.out.mono ?_
    rintro e w1 ⟨rfl, hb1⟩
    go_wp2_with fail
    go_ret3
    exact ⟨rfl, hb1⟩
  · have hm : most < ((Plain.tk l).1 : Int) := by omega
    have Hq := Lib.hid (refNum_yes A n c B l w hn hc hcm hr hB h0)
    clear hr h h0
    generalize (Plain.tk l).1 = m at *
    generalize (Plain.tk l).2 = s at *
    go_enter Try.func18, Try.ntmps18
    go_wp2_with fail
    refine Hq.out.mono ?_
    rintro e w1 ⟨v1, rfl, hown1, hb1⟩
    go_wp2_with fail
    go_ret3
    exact ⟨rfl, hb1⟩

set_option maxRecDepth 100000 in
set_option maxHeartbeats 1600000 in
theorem refTake_yes (A : Option Addr) (n c B : Nat) (l : List UInt8) (most : Int) (w : World) (hn : n ≤ 1000000) (hc : n ≤ c) (hcm : c ≤ maxLen) (hr : Rd w B A n (l.map Plain.cell)) (hB : B ≤ w.heap.size)
    (h0 : (Plain.tk l).2 ≠ 0) (hm : ((Plain.tk l).1 : Int) ≤ most) (ss : List ByteArray) (L : List UInt8) (h : takeL (Plain.tk l).1 (l.drop (Plain.tk l).2) = some (ss, L)) :
    Calls Try.prog 18 #[.slice A n c, .int .i64 most] w fun e w' =>
      ∃ v A' n' c', e = .returned (.tuple #[v, .slice A' n' c', .bool true]) ∧ w'.ownsRow w.heap.size 9 1 v ss.length (ss.map Value.string) ∧ Rd w' w'.heap.size A' n' (L.map Plain.cell) ∧ n' ≤ c' ∧ c' ≤ maxLen ∧ Below w.heap.size w w' := by
  obtain ⟨i0, hi0, hz0, hz1, hz2⟩ := info_parts info9
  have hl := hr.1
  rw [List.length_map] at hl
  have hrd := Plain.tk_read l h0
  have hmm' : ((Plain.tk l).1 : Int) ≤ 1099511627776 := Plain.mc_le hrd.1
  have Hq := Lib.hid (refNum_yes A n c B l w hn hc hcm hr hB h0)
  have H := Lib.hid h; clear h
  have hdl : (l.drop (Plain.tk l).2).length ≤ 1000000 := by rw [List.length_drop]; omega
  clear hrd h0 hr hl
  generalize (Plain.tk l).1 = m at *
  generalize (Plain.tk l).2 = s at *
  generalize l.drop s = l0 at *
  go_enter Try.func18, Try.ntmps18
  go_wp2_with fail
  refine Hq.out.mono ?_
  rintro e w1 ⟨v1, rfl, hown1, hb1⟩
  obtain ⟨A1, c1, rfl, hc1, hm1⟩ := own_shape hown1
  have hx1 := Rd.own hown1
  have hown0 : (w1.alloc (.cells #[] 9)).ownsRow w.heap.size 9 1 (.slice (some ⟨w1.heap.size, 0, none⟩) 0 0) 0 [] := World.ownsRow_lit w1 #[] 0 hb1.size (by unfold maxLen; omega) rfl
  have hb0 : Below w.heap.size w (w1.alloc (.cells #[] 9)) := hb1.alloc hb1.size _
  have hx0 : Rd (w1.alloc (.cells #[] 9)) (w1.alloc (.cells #[] 9)).heap.size A1 (n - s) (l0.map Plain.cell) := (hx1.alloc (Nat.le_refl _) _).more (by simp)
  have hty0 : Ty (w1.alloc (.cells #[] 9)) A1 (n - s) := fun x hx hn => by
    obtain ⟨cs, hcs⟩ := Ty.own hown1 x hx hn
    exact ⟨cs, (Below.heap_alloc w1 _ x.block (Array.getElem?_eq_some_iff.1 hcs).1).trans hcs⟩
  clear hown1 hb1 hx1 Hq
  go_wp2
  go_loopw [8, 10, 11] (fun r v i wr => ∃ (k : Nat) (A1 : Option Addr) (n1 c1 : Nat) (L1 : List UInt8) (ts : List ByteArray), k ≤ m ∧ i = .int .i64 k ∧ r = .slice A1 n1 c1 ∧ n1 ≤ c1 ∧ c1 ≤ maxLen ∧ Rd wr wr.heap.size A1 n1 (L1.map Plain.cell) ∧ Ty wr A1 n1 ∧
      wr.ownsRow w.heap.size 9 1 v k (ts.map Value.string) ∧ k + L1.length ≤ 1000000 ∧ (∃ rest, takeL (m - k) L1 = some (rest, L) ∧ ts ++ rest = ss) ∧ Below w.heap.size w wr) (fun _ _ i _ => m - (intOf i).toNat)
  case atStart => exact ⟨0, A1, _, c1, l0, [], Nat.zero_le _, rfl, rfl, hc1, hm1, hx0, hty0, hown0, by omega, ⟨ss, H.out, rfl⟩, hb0⟩
  case round =>
    obtain ⟨k, A1, n1, c1, L1, ts, hk, rfl, rfl, hn1, hcm1, hr1, hty1, hown, hkl, ⟨rest, hrest, hts⟩, hbel⟩ := hrel
    clear hown0 hb0 hx0 hty0
    have hsz := hbel.size
    have hln : L1.length = n1 := by have := hr1.1; rwa [List.length_map] at this
    have hn1' : n1 ≤ 1000000 := by omega
    by_cases hlt : k < m
    · rcases htt : tt L1 with _ | ⟨S, L2⟩
      · exfalso
        rw [show m - k = (m - (k + 1)) + 1 from by omega] at hrest
        simp only [takeL, htt, Option.bind_none] at hrest
        cases hrest
      · have hsh := tt_shorter htt
        rw [show m - k = (m - (k + 1)) + 1 from by omega, takeL_step htt, Option.map_eq_some_iff] at hrest
        obtain ⟨⟨rest2, L3⟩, hrest2, he⟩ := hrest
        simp only [Prod.mk.injEq] at he
        obtain ⟨rfl, rfl⟩ := he
        have hcall := refText_yes A1 n1 c1 wr.heap.size L1 wr S L2 hn1' hn1 hcm1 hr1 (Nat.le_refl _) htt
        have Hcall := Lib.hid hcall; clear hcall htt hr1
        have Hrest := Lib.hid hrest2; clear hrest2
        have Hts := Lib.hid hts; clear hts
        have Hln := Lib.hid hln; clear hln
        go_wp2_with fail
        refine Hcall.out.mono ?_
        rintro e w2 ⟨A2, n2, c2, rfl, hr2, hty2, hn2, hcm2, hbel2⟩
        have hb2 := hbel.trans (hbel2.mono hsz)
        have hown2 := own_below hown hbel2
        have hs2 := hb2.size
        clear hown hbel hbel2 Hcall
        go_wp2_with (at_builtin; (refine wpList_append_own _ rfl _ _ 23 rfl w.heap.size 9 i0 (.string ByteArray.empty) 1 16 Try.underlying23 hi0 hz0 hz1 hz2 rfl (by decide) _ _ _ rfl (hown2.alloc _) ⟨w2.heap.size, 0, none⟩ 1 1 [.string S] rfl rfl (cell_one_new _ _ _) (fun x hx => by simp at hx; subst hx; rfl) (by unfold maxLen; omega) (by omega) (by simp; omega) ?_); intro v' w3 hown' hgrow' _; have hb3 := below_app _ hb2 hown2 hs2 hgrow'; have hr3 := rd_app_own hr2 (Nat.le_refl _) hty2 hown2 hgrow'; clear hgrow' hb2 hown2 hr2 hty2)
        go_roundw
        case rel =>
          refine ⟨k + 1, A2, n2, c2, L2, ts ++ [S], by omega, by go_num, rfl, hn2, hcm2, hr3.1, hr3.2, by rw [List.map_append]; exact hown', by omega, ⟨rest2, Hrest.out, by rw [List.append_assoc]; exact Hts.out⟩, hb3⟩
        case measure => simp [intOf]; omega
    · have hkm : k = m := by omega
      subst hkm
      rw [Nat.sub_self] at hrest
      simp only [takeL, Option.some.injEq, Prod.mk.injEq] at hrest
      obtain ⟨rfl, rfl⟩ := hrest
      rw [List.append_nil] at hts
      subst hts
      have htl : ts.length = k := by have := hown.1; simpa using this
      have Hln := Lib.hid hln; clear hln
      have Htl := Lib.hid htl; clear htl
      have Hr1 := Lib.hid hr1; clear hr1
      obtain ⟨Av, cv, rfl⟩ := own_form hown
      have Hown := Lib.hid hown; clear hown
      go_wp2_with fail
      go_ret3
      exact ⟨_, A1, n1, c1, rfl, by rw [Htl.out]; exact Hown.out, Hr1.out, hn1, hcm1, hbel⟩

end Go.Proofs.Ytaipjdfgedjdnaa
