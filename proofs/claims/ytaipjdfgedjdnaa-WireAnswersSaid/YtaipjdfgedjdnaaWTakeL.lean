/-
  Layer 2: Take; SameTexts.
-/
import Derived.Test.YtaipjdfgedjdnaaWTexts
set_option linter.unusedVariables false
namespace Go.Proofs.Ytaipjdfgedjdnaa
open Go.RowKit

/-- So many texts at the beginning of bytes. -/
def takeL : Nat → List UInt8 → Option (List ByteArray × List UInt8)
  | 0, l => some ([], l)
  | k + 1, l => (tt l).bind fun p => (takeL k p.2).map fun q => (p.1 :: q.1, q.2)

theorem tt_read {l : List UInt8} {S : ByteArray} {L : List UInt8} (h : tt l = some (S, L)) : l = encText S ++ L := by
  obtain ⟨h0, h1, rfl, rfl⟩ := tt_some h
  obtain ⟨hm, hlen, htake, hle⟩ := Plain.tk_read l h0
  have hsz : (str ((l.drop (Plain.tk l).2).take (Plain.tk l).1)).size = (Plain.tk l).1 := by
    show ((l.drop (Plain.tk l).2).take (Plain.tk l).1).toArray.size = _
    rw [List.size_toArray, List.length_take, List.length_drop]
    omega
  unfold encText
  rw [hsz, ← htake]
  show l = l.take (Plain.tk l).2 ++ ((l.drop (Plain.tk l).2).take (Plain.tk l).1) ++ l.drop ((Plain.tk l).2 + (Plain.tk l).1)
  rw [List.append_assoc, ← List.drop_drop, List.take_append_drop, List.take_append_drop]
theorem tt_enc (S : ByteArray) (L : List UInt8) (h : S.size ≤ Plain.mc) : tt (encText S ++ L) = some (S, L) := by
  have ht : Plain.tk (encText S ++ L) = (S.size, (Plain.enc S.size).length) := by
    unfold encText
    rw [List.append_assoc]
    exact Plain.tk_enc _ _ h
  have hp := Plain.enc_length_pos S.size
  have hS : S.data.toList.length = S.size := by rw [Array.length_toList]; rfl
  unfold tt
  rw [ht]
  have hl : (encText S ++ L).length = (Plain.enc S.size).length + S.size + L.length := by rw [List.length_append, encText_length]
  rw [if_neg (by simp only [hl]; omega)]
  simp only [Option.some.injEq, Prod.mk.injEq]
  unfold encText
  refine ⟨?_, ?_⟩
  · rw [List.append_assoc, List.drop_left, ← hS, List.take_left]
    unfold str
    simp
  · rw [← List.drop_drop, List.append_assoc, List.drop_left, ← hS, List.drop_left]
theorem tt_shorter {l : List UInt8} {S : ByteArray} {L : List UInt8} (h : tt l = some (S, L)) : L.length + 1 ≤ l.length := by
  have := congrArg List.length (tt_read h)
  have hp := Plain.enc_length_pos S.size
  rw [List.length_append, encText_length] at this
  omega
theorem takeL_read : ∀ (k : Nat) (l : List UInt8) (ss : List ByteArray) (L : List UInt8), takeL k l = some (ss, L) → l = encTexts ss ++ L ∧ ss.length = k := by
  intro k
  induction k with
  | zero =>
    intro l ss L h
    simp only [takeL, Option.some.injEq, Prod.mk.injEq] at h
    obtain ⟨rfl, rfl⟩ := h
    exact ⟨rfl, rfl⟩
  | succ k ih =>
    intro l ss L h
    simp only [takeL, Option.bind_eq_some_iff, Option.map_eq_some_iff] at h
    obtain ⟨⟨S, L1⟩, h1, ⟨ts, L2⟩, h2, h3⟩ := h
    simp only [Prod.mk.injEq] at h3
    obtain ⟨rfl, rfl⟩ := h3
    obtain ⟨e1, e2⟩ := ih _ _ _ h2
    have e3 := tt_read h1
    refine ⟨?_, by rw [List.length_cons, e2]⟩
    have e1' : L1 = encTexts ts ++ L2 := e1
    rw [e3, e1']
    simp [encTexts]
theorem takeL_enc : ∀ (ss : List ByteArray) (L : List UInt8), (∀ s ∈ ss, s.size ≤ Plain.mc) → takeL ss.length (encTexts ss ++ L) = some (ss, L) := by
  intro ss
  induction ss with
  | nil => intro L _; rfl
  | cons s ss ih =>
    intro L h
    have e : encTexts (s :: ss) ++ L = encText s ++ (encTexts ss ++ L) := by simp [encTexts]
    rw [e, List.length_cons]
    simp only [takeL]
    rw [tt_enc _ _ (h s (by simp))]
    simp only [Option.bind_some]
    rw [ih L fun x hx => h x (by simp [hx])]
    rfl
theorem takeL_step {k : Nat} {l L : List UInt8} {S : ByteArray} (h : tt l = some (S, L)) : takeL (k + 1) l = (takeL k L).map fun q => (S :: q.1, q.2) := by
  simp only [takeL, h, Option.bind_some]

theorem takeText_none (A : Option Addr) (n c B : Nat) (l : List UInt8) (w : World) (hn : n ≤ maxLen) (hc : n ≤ c) (hr : Rd w B A n (l.map Plain.cell)) (h : tt l = none) :
    Calls Try.prog 32 #[.slice A n c] w fun e w' => e = .returned (.tuple #[.string ByteArray.empty, .slice none 0 0, .bool false]) ∧ w = w' := by
  have hl := hr.1
  rw [List.length_map] at hl
  exact takeText_no A n c B l w hn hc hr (by rw [← hl]; exact tt_none h)
theorem takeText_some (A : Option Addr) (n c B : Nat) (l : List UInt8) (w : World) (S : ByteArray) (L : List UInt8) (hc : n ≤ c) (hcm : c ≤ maxLen) (hr : Rd w B A n (l.map Plain.cell)) (h : tt l = some (S, L)) :
    Calls Try.prog 32 #[.slice A n c] w fun e w' =>
      ∃ A' n' c', e = .returned (.tuple #[.string S, .slice A' n' c', .bool true]) ∧ Rd w B A' n' (L.map Plain.cell) ∧ n' ≤ c' ∧ c' ≤ maxLen ∧ ∃ q, w' = w.drewN q := by
  have hl := hr.1
  rw [List.length_map] at hl
  obtain ⟨h0, h1, rfl, rfl⟩ := tt_some h
  rw [hl] at h1
  refine (takeText_yes A n c B l w hc hcm hr h0 h1).mono ?_
  rintro e w' ⟨A', c', he, hr', h2, h3, hq⟩
  exact ⟨A', _, c', he, hr', h2, h3, hq⟩

theorem own_base {w : World} {base base' n size : Nat} {e : TypeId} {v : Value} {xs : List Value} (h : w.ownsRow base e size v n xs) (hb : base' ≤ base) : w.ownsRow base' e size v n xs := by
  refine ⟨h.1, ?_⟩
  rcases h.2 with hn | ⟨g, cap, cur, rfl, hbg, hg, rest⟩
  · exact .inl hn
  · exact .inr ⟨g, cap, cur, rfl, by omega, hg, rest⟩
theorem below_drewN {B : Nat} {a w : World} (h : Below B a w) (n : Nat) : Below B a (w.drewN n) := ⟨h.os, h.tape, h.output, h.size, h.block⟩

theorem rd_app {B base n m size : Nat} {e : TypeId} {w w' : World} {v : Value} {A : Option Addr} {xs ys : List Value} (o : Obj) (h : Rd w B A n xs) (hB : B ≤ base) (hb : base ≤ w.heap.size)
    (hown : w.ownsRow base e size v m ys) (hg : (w.alloc o).grownBy w' v.ownBlock) : Rd w' B A n xs := by
  refine h.keep fun p hp => ?_
  rw [World.cell?_of_block (hg.block p.block (by simp; omega) (fun e => by have := (hown.lt _ e.symm).1; omega))]
  exact World.cell?_alloc_lt w o p (by omega)

theorem info9 : (Try.prog.info? 9).map (fun i => (i.zero, i.size, i.bytes)) = some (some (.string ByteArray.empty), 1, 16) := by kernel_rfl

set_option maxRecDepth 100000 in
set_option maxHeartbeats 1600000 in
theorem take_any (A : Option Addr) (n c B : Nat) (l : List UInt8) (most : Int) (w : World) (hn : n ≤ 1000000) (hc : n ≤ c) (hcm : c ≤ maxLen) (hr : Rd w B A n (l.map Plain.cell)) (hB : B ≤ w.heap.size)
    (h0 : (Plain.tk l).2 ≠ 0) (hm : ((Plain.tk l).1 : Int) ≤ most) (ss : List ByteArray) (L : List UInt8) (h : takeL (Plain.tk l).1 (l.drop (Plain.tk l).2) = some (ss, L)) :
    Calls Try.prog 17 #[.slice A n c, .int .i64 most] w fun e w' =>
      ∃ v v', e = .returned (.tuple #[v, v', .bool true]) ∧ w'.ownsRow w.heap.size 9 1 v ss.length (ss.map Value.string) ∧ w'.ownsRow w.heap.size 5 1 v' L.length (L.map Plain.cell) ∧ Below w.heap.size w w' := by
  obtain ⟨i0, hi0, hz0, hz1, hz2⟩ := info_parts info9
  have hl := hr.1
  rw [List.length_map] at hl
  have ht := takeNum_any A n c B l w (by omega) hc hr
  have hrd := Plain.tk_read l h0
  have hsn : (Plain.tk l).2 ≤ n := by rw [← hl]; exact hrd.2.2.2
  have hmm := hrd.1
  have Ht := Lib.hid ht; clear ht
  have Hr := Lib.hid hr; clear hr
  have Hl := Lib.hid hl; clear hl hrd
  have H := Lib.hid h; clear h
  generalize (Plain.tk l).1 = m at *
  generalize (Plain.tk l).2 = s at *
  have hs0 : 0 < s := by omega
  have hsb : ((s : Int) == 0) = false := by rw [beq_eq_false_iff_ne]; omega
  unfold maxLen at hcm
  clear h0
  have hmm' : (m : Int) ≤ 1099511627776 := Plain.mc_le hmm
  have hstart1 := Hr.out.cut_all (A' := A) (k := s)
  have hstart2 := Hr.out.cut_in s
  rw [← List.map_drop] at hstart1 hstart2
  have Hstart1 := Lib.hid hstart1; clear hstart1
  have Hstart2 := Lib.hid hstart2; clear hstart2
  go_enter Try.func17, Try.ntmps17
  go_wp2_with (go_at_call 30; refine Ht.out.mono ?_; rintro e w' ⟨rfl, rfl⟩)
  all_goals
    go_loopw [9, 10, 30] (fun r v i wr => ∃ (k : Nat) (A1 : Option Addr) (n1 c1 : Nat) (L1 : List UInt8) (ts : List ByteArray), k ≤ m ∧ i = .int .i64 k ∧ r = .slice A1 n1 c1 ∧ n1 ≤ c1 ∧ c1 ≤ maxLen ∧ Rd wr B A1 n1 (L1.map Plain.cell) ∧
      wr.ownsRow w.heap.size 9 1 v k (ts.map Value.string) ∧ k + L1.length ≤ n ∧ (∃ rest, takeL (m - k) L1 = some (rest, L) ∧ ts ++ rest = ss) ∧ Below w.heap.size w wr) (fun _ _ i _ => m - (intOf i).toNat)
    case atStart =>
      first
      | exact ⟨0, _, _, _, _, [], Nat.zero_le _, rfl, rfl, by omega, by unfold maxLen; omega, Hstart2.out, World.ownsRow_nil _ _ _ _, by rw [List.length_drop, Hl.out]; omega, ⟨ss, H.out, rfl⟩, Below.refl _ _⟩
      | exact ⟨0, _, _, _, _, [], Nat.zero_le _, rfl, rfl, by omega, by unfold maxLen; omega, Hstart1.out (by omega), World.ownsRow_nil _ _ _ _, by rw [List.length_drop, Hl.out]; omega, ⟨ss, H.out, rfl⟩, Below.refl _ _⟩
    case round =>
      obtain ⟨k, A1, n1, c1, L1, ts, hk, rfl, rfl, hn1, hcm1, hr1, hown, hkl, ⟨rest, hrest, hts⟩, hbel⟩ := hrel
      have hsz := hbel.size
      by_cases hlt : k < m
      · rcases htt : tt L1 with _ | ⟨S, L2⟩
        · exfalso
          rw [show m - k = (m - (k + 1)) + 1 from by omega] at hrest
          simp only [takeL, htt, Option.bind_none] at hrest
          cases hrest
        · have hsh := tt_shorter htt
          rw [show m - k = (m - (k + 1)) + 1 from by omega, takeL_step htt, Option.map_eq_some_iff] at hrest
          obtain ⟨⟨rest2, L3⟩, hrest2, he⟩ := hrest
          simp only [Prod.mk.injEq] at he
          obtain ⟨rfl, rfl⟩ := he
          have hcall := takeText_some A1 n1 c1 B L1 wr S L2 hn1 hcm1 hr1 htt
          have Hcall := Lib.hid hcall; clear hcall htt hr1
          have Hrest := Lib.hid hrest2; clear hrest2
          have Hts := Lib.hid hts; clear hts
          go_wp2_with fail
          refine Hcall.out.mono ?_
          rintro e w2 ⟨A2, n2, c2, rfl, hr2, hn2, hcm2, q, rfl⟩
          have hb2 := below_drewN hbel q
          have hownq : (wr.drewN q).ownsRow w.heap.size 9 1 _ k (ts.map Value.string) := hown
          have hszq : w.heap.size ≤ (wr.drewN q).heap.size := hsz
          have hr2 := hr2.drewN q
          clear hown hbel Hcall
          generalize hw2 : wr.drewN q = w2 at *
          clear hw2
          go_wp2_with (at_builtin; (refine wpList_append_own _ rfl _ _ 23 rfl w.heap.size 9 i0 (.string ByteArray.empty) 1 16 Try.underlying23 hi0 hz0 hz1 hz2 rfl (by decide) _ _ _ rfl (hownq.alloc _) ⟨w2.heap.size, 0, none⟩ 1 1 [.string S] rfl rfl (cell_one_new _ _ _) (fun x hx => by simp at hx; subst hx; rfl) (by unfold maxLen; omega) (by omega) (by simp; omega) ?_); intro v' w3 hown' hgrow' _; have hb3 := below_app _ hb2 hownq hszq hgrow'; have hr3 := rd_app _ hr2 hB hszq hownq hgrow'; clear hgrow' hb2 hownq hr2)
          go_roundw
          case rel =>
            refine ⟨k + 1, A2, n2, c2, L2, ts ++ [S], by omega, by go_num, rfl, hn2, hcm2, hr3, by rw [List.map_append]; exact hown', by omega, ⟨rest2, Hrest.out, by rw [List.append_assoc]; exact Hts.out⟩, hb3⟩
          case measure => simp [intOf]; omega
      · have hkm : k = m := by omega
        subst hkm
        rw [Nat.sub_self] at hrest
        simp only [takeL, Option.some.injEq, Prod.mk.injEq] at hrest
        obtain ⟨rfl, rfl⟩ := hrest
        rw [List.append_nil] at hts
        subst hts
        have hln : L1.length = n1 := by have := hr1.1; rwa [List.length_map] at this
        have htl : ts.length = k := by have := hown.1; simpa using this
        have hn1' : n1 ≤ 1000000 := by omega
        have Hln := Lib.hid hln; clear hln
        have Htl := Lib.hid htl; clear htl
        have Hr1 := Lib.hid hr1; clear hr1
        obtain ⟨Av, cv, rfl⟩ := own_form hown
        have Hown := Lib.hid hown; clear hown
        go_wp2_with fail
        refine (clone_any A1 n1 c1 B L1 wr hn1' Hr1.out (by omega)).mono ?_
        rintro e w1 ⟨v, rfl, hown1, hbel1⟩
        go_wp2_with fail
        go_ret3
        refine ⟨_, v, rfl, by rw [Htl.out]; exact own_below Hown.out hbel1, by rw [Hln.out]; exact own_base hown1 hsz, hbel.trans (hbel1.mono hsz)⟩

end Go.Proofs.Ytaipjdfgedjdnaa
