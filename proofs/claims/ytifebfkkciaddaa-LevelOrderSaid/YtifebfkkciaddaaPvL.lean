/-
  Regions: in the order of the text, and in whatever order.
-/
import Derived.Test.YtifebfkkciaddaaPvK
set_option linter.unusedVariables false
set_option linter.unusedSimpArgs false
namespace Go.Proofs.Ytifebfkkciaddaa
open Go.RowKit

/-- What holds behind a piece of a body. -/
def Post (w0 : World) (ok0 : Nat → Prop) (n : Nat) (V : Vw) (nx0 : Nat) (Q : Exit → St → Prop) : Exit → Act → World → Prop :=
  fun e a w => ∃ s rho, Q e s ∧ RelF w0 ok0 n s rho a w ∧ V.Leq (viewOf w0 ok0 s.H rho w) ∧ (∀ id, id < nx0 → rho id = V.rho id) ∧ nx0 ≤ s.nx

theorem opG_sound {P : Program} {pol : Pol} {w0 : World} {ok0 : Nat → Prop} {n i : Nat} {ops : Array Oper} {o : Oper} {a : Act} {s : St} {rho : Nat → Option Nat} {w : World} {m : MO} {id : Nat} {pure : Bool} {K : St → Prop} {next : Act → World → Prop} {Q : Exit → Act → World → Prop}
    (ho : ops[i]? = some o) (hmo : mo P pol ops n o = some m) (hr : RelF w0 ok0 n s rho a w) (hid : rho id = none) (hlo : id < s.nx) (h : opG P pure id m K s)
    (hK : ∀ s' rho' a' w', K s' → RelF w0 ok0 n s' rho' a' w' → (viewOf w0 ok0 s.H rho w).Leq (viewOf w0 ok0 s'.H rho' w') → (∀ k, k ≠ id → k < s.nx → rho' k = rho k) → s.nx ≤ s'.nx → next a' w') :
    wpOp P ops Q i next a w := by
  obtain ⟨hm, hdst, hd, hg⟩ := mo_inv hmo
  unfold wpOp
  rw [ho]
  simp only []
  unfold opG at h
  cases hog : o.guard with
  | none =>
    rw [hog] at hg
    simp only [guardOf, Option.some.injEq] at hg
    rw [← hg] at h
    have hw : Region.wanted o (yielded ops a.tmps) = true := by simp [Region.wanted, hog]
    rw [if_pos hw]
    exact .inl (opP_sound hm hdst hd hr hid hlo h hK)
  | some q =>
    obtain ⟨j, want⟩ := q
    rw [hog] at hg
    simp only [guardOf, Option.bind_eq_some_iff] at hg
    obtain ⟨t, ht, hg⟩ := hg
    split at hg
    · rename_i htn
      simp only [Option.some.injEq] at hg
      rw [← hg] at h
      simp only [] at h
      have hslot := hr.rel.slot t
      split at h
      · rename_i b hb
        rw [hb] at hslot
        have e := hslot.sc_inv
        have hsz := hr.rel.size
        have hget : a.tmps[t]? = some (.bool b) := by
          have htl : t < a.tmps.size := by rw [hsz]; exact htn
          rw [Array.getD_eq_getD_getElem?, Array.getElem?_eq_getElem htl] at e
          rw [Array.getElem?_eq_getElem htl]
          simp at e
          rw [e]
        have hy : yielded ops a.tmps j = some b := by
          unfold yielded
          have : (ops[j]?).bind (·.dst) = some t := by simpa [Option.bind_eq_some_iff] using ht
          rw [this]
          simp [hget]
        by_cases hbw : b = want
        · rw [if_pos hbw] at h
          have hw : Region.wanted o (yielded ops a.tmps) = true := by simp [Region.wanted, hog, hy, hbw]
          rw [if_pos hw]
          exact .inl (opP_sound hm hdst hd hr hid hlo h hK)
        · rw [if_neg hbw] at h
          have hw : ¬ Region.wanted o (yielded ops a.tmps) = true := by simp [Region.wanted, hog, hy, hbw]
          rw [if_neg hw]
          rw [← hdst]
          have hd2 : ∀ t, m.dst = some t → t < a.tmps.size := fun t ht => by rw [hr.rel.size]; exact hd t (by rw [← hdst]; exact ht)
          refine hK _ rho _ _ h ⟨⟨by rw [put_H]; exact hr.rel.heap, by rw [aput_size]; exact hr.rel.size, by rw [aput_defs]; exact hr.rel.defs, ?_⟩, by rw [put_nx]; exact hr.free⟩ (by rw [put_H]; exact Vw.Leq.refl _) (fun _ _ _ => rfl) (by rw [put_nx]; exact Nat.le_refl _)
          rw [put_H]
          exact put_slots hr.rel.slot hd2 (.sc undef)
      · rename_i a0 hb
        rw [hb] at hslot
        have e := hslot.sc_inv
        have hsz := hr.rel.size
        have hget : a.tmps[t]? = some (.tuple a0) := by
          have htl : t < a.tmps.size := by rw [hsz]; exact htn
          rw [Array.getD_eq_getD_getElem?, Array.getElem?_eq_getElem htl] at e
          rw [Array.getElem?_eq_getElem htl]
          simp at e
          rw [e]
        have hy : yielded ops a.tmps j = none := by
          unfold yielded
          have : (ops[j]?).bind (·.dst) = some t := by simpa [Option.bind_eq_some_iff] using ht
          rw [this]
          simp [hget]
        have hw : ¬ Region.wanted o (yielded ops a.tmps) = true := by simp [Region.wanted, hog, hy]
        rw [if_neg hw]
        rw [← hdst]
        have hd2 : ∀ t, m.dst = some t → t < a.tmps.size := fun t ht => by rw [hr.rel.size]; exact hd t (by rw [← hdst]; exact ht)
        refine hK _ rho _ _ h ⟨⟨by rw [put_H]; exact hr.rel.heap, by rw [aput_size]; exact hr.rel.size, by rw [aput_defs]; exact hr.rel.defs, ?_⟩, by rw [put_nx]; exact hr.free⟩ (by rw [put_H]; exact Vw.Leq.refl _) (fun _ _ _ => rfl) (by rw [put_nx]; exact Nat.le_refl _)
        rw [put_H]
        exact put_slots hr.rel.slot hd2 (.sc undef)
      · exact h.elim
    · cases hg

def moL (P : Program) (pol : Pol) (ops : Array Oper) (n : Nat) : List Oper → Option (List MO)
  | [] => some []
  | o :: r => (mo P pol ops n o).bind fun m => (moL P pol ops n r).map (m :: ·)

def num {α : Type} : Nat → List α → List (Nat × α)
  | _, [] => []
  | k, x :: r => (k, x) :: num (k + 1) r

theorem num_mem {α : Type} : ∀ {l : List α} {k i : Nat} {x : α}, (i, x) ∈ num k l ↔ k ≤ i ∧ l[i - k]? = some x
  | [], k, i, x => by simp [num]
  | y :: r, k, i, x => by
    simp only [num, List.mem_cons, Prod.mk.injEq, num_mem (l := r)]
    constructor
    · rintro (⟨rfl, rfl⟩ | ⟨h1, h2⟩)
      · simp
      · have : i - k = i - (k + 1) + 1 := by omega
        rw [this]
        exact ⟨by omega, by simpa using h2⟩
    · rintro ⟨h1, h2⟩
      by_cases h : i = k
      · subst h
        simp at h2
        exact .inl ⟨rfl, h2.symm⟩
      · right
        have : i - k = i - (k + 1) + 1 := by omega
        rw [this] at h2
        exact ⟨by omega, by simpa using h2⟩
theorem num_sorted {α : Type} : ∀ {l : List α} {k : Nat}, (num k l).Pairwise (fun x y => x.1 < y.1)
  | [], k => .nil
  | y :: r, k => .cons (fun q hq => by
      obtain ⟨i, x⟩ := q
      have := (num_mem.1 hq).1
      show k < i
      omega) num_sorted
theorem num_map {α : Type} : ∀ {l : List α} {k : Nat}, (num k l).map (·.1) = List.range' k l.length
  | [], k => rfl
  | y :: r, k => by simp [num, num_map, List.range'_succ]
theorem num_length {α : Type} : ∀ {l : List α} {k : Nat}, (num k l).length = l.length
  | [], k => rfl
  | y :: r, k => by simp [num, num_length]

theorem moL_get {P : Program} {pol : Pol} {ops : Array Oper} {n : Nat} : ∀ {l : List Oper} {ms : List MO}, moL P pol ops n l = some ms →
    ms.length = l.length ∧ ∀ (i : Nat) (m : MO), ms[i]? = some m → ∃ o, l[i]? = some o ∧ mo P pol ops n o = some m
  | [], ms, h => by simp [moL] at h; subst h; simp
  | o :: r, ms, h => by
    simp only [moL, Option.bind_eq_some_iff, Option.map_eq_some_iff] at h
    obtain ⟨m, hm, ms', hms, rfl⟩ := h
    obtain ⟨h1, h2⟩ := moL_get hms
    refine ⟨by simp [h1], fun i m' hi => ?_⟩
    cases i with
    | zero => simp at hi; subst hi; exact ⟨o, by simp, hm⟩
    | succ i => simp at hi; obtain ⟨o', h3, h4⟩ := h2 i m' hi; exact ⟨o', by simpa using h3, h4⟩

theorem seq_sound {P : Program} {pol : Pol} {w0 : World} {ok0 : Nat → Prop} {n base nx0 : Nat} {ops : Array Oper} {pure : Bool} {K : St → Prop} {V : Vw} {Q : Exit → St → Prop} (hQ : ∀ s, K s → Q .normal s) :
    ∀ (l : List (Nat × MO)) (s : St) (rho : Nat → Option Nat) (a : Act) (w : World), (∀ q ∈ l, ∃ o, ops[q.1]? = some o ∧ mo P pol ops n o = some q.2) → l.Pairwise (fun x y => x.1 < y.1) → RelF w0 ok0 n s rho a w →
      V.Leq (viewOf w0 ok0 s.H rho w) → (∀ id, id < nx0 → rho id = V.rho id) → nx0 ≤ base → nx0 ≤ s.nx → (∀ q ∈ l, rho (base + q.1) = none ∧ base + q.1 < s.nx) → runOps P pure base l K s →
      wpOps P ops (Post w0 ok0 n V nx0 Q) (l.map (·.1)) a w
  | [], s, rho, a, w, _, _, hr, hV, hlow, _, hn, _, h => ⟨s, rho, hQ s h, hr, hV, hlow, hn⟩
  | (i, m) :: l, s, rho, a, w, hl, hp, hr, hV, hlow, hb, hn, hf, h => by
    obtain ⟨o, ho, hmo⟩ := hl (i, m) (by simp)
    have hf0 := hf (i, m) (by simp)
    rw [List.map_cons, wpOps_cons]
    simp only [runOps] at h
    refine opG_sound ho hmo hr hf0.1 hf0.2 h fun s' rho' a' w' hk hr' hV' hrho hnx => ?_
    refine seq_sound hQ l s' rho' a' w' (fun q hq => hl q (by simp [hq])) hp.of_cons hr' (hV.trans hV') (fun id hid => ?_) hb (by omega) (fun q hq => ?_) hk
    · rw [hrho id (by omega) (by omega)]
      exact hlow id hid
    · have h1 := hf q (by simp [hq])
      have h2 : i < q.1 := (List.pairwise_cons.1 hp).1 q hq
      refine ⟨?_, by omega⟩
      rw [hrho _ (by omega) h1.2]
      exact h1.1

def predsOf (o : Oper) : List Nat := (o.after.toList.filter fun e => Region.binds .any e).map (·.on)
def ancs (ops : List Oper) : List (List Nat) :=
  ops.foldl (fun acc o => acc ++ [(predsOf o ++ (predsOf o).flatMap fun p => acc.getD p []).eraseDups]) []
def regionOk (ops : Array Oper) (ms : List MO) : Bool :=
  let A := ancs ops.toList
  (List.range ops.size).all fun j =>
    match ops[j]?, ms[j]? with
    | some o, some m =>
      (predsOf o).all (fun p => decide (p < j)) && (A.getD j []).all (fun i => (predsOf o).contains i || (predsOf o).any fun p => (A.getD p []).contains i) &&
        (List.range j).all fun i => (A.getD j []).contains i || (match ms[i]? with | some y => indep y m | none => false)
    | _, _ => false

theorem regionOk_spec {ops : Array Oper} {ms : List MO} (h : regionOk ops ms = true) {j : Nat} {o : Oper} {m : MO} (ho : ops[j]? = some o) (hm : ms[j]? = some m) :
    (∀ p ∈ predsOf o, p < j) ∧ (∀ i ∈ (ancs ops.toList).getD j [], i ∈ predsOf o ∨ ∃ p ∈ predsOf o, i ∈ (ancs ops.toList).getD p []) ∧
      ∀ i y, i < j → ms[i]? = some y → i ∈ (ancs ops.toList).getD j [] ∨ indep y m = true := by
  have hj : j < ops.size := (Array.getElem?_eq_some_iff.1 ho).1
  unfold regionOk at h
  have := List.all_eq_true.1 h j (List.mem_range.2 hj)
  rw [ho, hm] at this
  simp only [Bool.and_eq_true, List.all_eq_true, decide_eq_true_eq, Bool.or_eq_true, List.contains_iff_mem, List.any_eq_true, List.mem_range] at this
  obtain ⟨⟨h1, h2⟩, h3⟩ := this
  refine ⟨h1, h2, fun i y hi hy => ?_⟩
  have := h3 i hi
  rw [hy] at this
  exact this

theorem drawn_sound {P : Program} {pol : Pol} {w0 : World} {ok0 : Nat → Prop} {n base nx0 : Nat} {ops : Array Oper} {ms : List MO} {K : St → Prop} {V : Vw} {Q : Exit → St → Prop} (hQ : ∀ s, K s → Q .normal s)
    (hok : regionOk ops ms = true) (hms : moL P pol ops n ops.toList = some ms) :
    ∀ (fuel : Nat) (listed : Array Bool) (l : List (Nat × MO)) (s : St) (rho : Nat → Option Nat) (a : Act) (w : World), listed.size = ops.size →
      (∀ i m, (i, m) ∈ l ↔ (listed.getD i true = false ∧ ms[i]? = some m)) → l.Pairwise (fun x y => x.1 < y.1) →
      (∀ p, listed.getD p false = true → ∀ i ∈ (ancs ops.toList).getD p [], listed.getD i false = true) → l.length ≤ fuel → RelF w0 ok0 n s rho a w →
      V.Leq (viewOf w0 ok0 s.H rho w) → (∀ id, id < nx0 → rho id = V.rho id) → nx0 ≤ base → nx0 ≤ s.nx → (∀ q ∈ l, rho (base + q.1) = none ∧ base + q.1 < s.nx) → runOps P true base l K s →
      wpAny P .any ops (Post w0 ok0 n V nx0 Q) fuel listed a w := by
  have hlen := moL_get hms
  have hget : ∀ i m, ms[i]? = some m → ∃ o, ops[i]? = some o ∧ mo P pol ops n o = some m := fun i m hi => by
    obtain ⟨o, h1, h2⟩ := hlen.2 i m hi
    exact ⟨o, by simpa using h1, h2⟩
  have hgetm : ∀ i o, ops[i]? = some o → ∃ m, ms[i]? = some m := fun i o hi => by
    have h1 : i < ops.size := (Array.getElem?_eq_some_iff.1 hi).1
    have h2 : i < ms.length := by rw [hlen.1]; simpa using h1
    exact ⟨ms[i], List.getElem?_eq_getElem h2⟩
  have hempty : ∀ (listed : Array Bool) (l : List (Nat × MO)), listed.size = ops.size → (∀ i m, (i, m) ∈ l ↔ (listed.getD i true = false ∧ ms[i]? = some m)) → l.Pairwise (fun x y => x.1 < y.1) → Region.ready .any ops listed = [] → l = [] := by
    intro listed l hsz hmem hs hrdy
    cases l with
    | nil => rfl
    | cons q r =>
      obtain ⟨i, m⟩ := q
      obtain ⟨h1, h2⟩ := (hmem i m).1 (by simp)
      obtain ⟨o, ho, hmo⟩ := hget i m h2
      have hsp := regionOk_spec hok ho h2
      have : i ∈ Region.ready .any ops listed := by
        refine mem_ready.2 ⟨h1, o, ho, fun e he hb => ?_⟩
        have hp : e.on ∈ predsOf o := by
          unfold predsOf
          exact List.mem_map.2 ⟨e, List.mem_filter.2 ⟨by simpa using he, hb⟩, rfl⟩
        have hlt := hsp.1 _ hp
        have hi : i < ops.size := (Array.getElem?_eq_some_iff.1 ho).1
        cases hh : listed.getD e.on false with
        | true => rfl
        | false =>
          have hin : e.on < listed.size := by omega
          have h3 : listed.getD e.on true = false := by
            rw [Array.getD_eq_getD_getElem?, Array.getElem?_eq_getElem hin] at hh ⊢
            exact hh
          obtain ⟨m', hm'⟩ := hgetm e.on _ (Array.getElem?_eq_getElem (show e.on < ops.size by omega))
          have h4 := (hmem e.on m').2 ⟨h3, hm'⟩
          rcases List.mem_cons.1 h4 with h5 | h5
          · simp only [Prod.mk.injEq] at h5
            omega
          · have := (List.pairwise_cons.1 hs).1 _ h5
            simp only at this
            omega
      rw [hrdy] at this
      cases this
  intro fuel
  induction fuel with
  | zero =>
    intro listed l s rho a w hsz hmem hs hcl hlf hr hV hlow hb hn hf h
    have hl0 : l = [] := List.eq_nil_of_length_eq_zero (by omega)
    subst hl0
    refine ⟨?_, s, rho, hQ s h, hr, hV, hlow, hn⟩
    cases hrd : Region.ready .any ops listed with
    | nil => rfl
    | cons i r =>
      have hi : i ∈ Region.ready .any ops listed := by rw [hrd]; simp
      obtain ⟨h1, o, ho, _⟩ := mem_ready.1 hi
      obtain ⟨m, hm⟩ := hgetm i o ho
      have := (hmem i m).2 ⟨h1, hm⟩
      cases this
  | succ fuel ih =>
    intro listed l s rho a w hsz hmem hs hcl hlf hr hV hlow hb hn hf h
    refine ⟨fun hrd => ?_, fun i hi => ?_⟩
    · have := hempty listed l hsz hmem hs hrd
      subst this
      exact ⟨s, rho, hQ s h, hr, hV, hlow, hn⟩
    · obtain ⟨h1, o, ho, hpre⟩ := mem_ready.1 hi
      obtain ⟨m, hm⟩ := hgetm i o ho
      obtain ⟨o', ho', hmo⟩ := hget i m hm
      rw [ho] at ho'
      cases ho'
      have hin := (hmem i m).2 ⟨h1, hm⟩
      obtain ⟨l1, l2, rfl⟩ := List.append_of_mem hin
      obtain ⟨hs1, hs2, hs3⟩ := List.pairwise_append.1 hs
      have hsp := regionOk_spec hok ho hm
      have hanc : ∀ k ∈ (ancs ops.toList).getD i [], listed.getD k false = true := by
        intro k hk
        have hp : ∀ p ∈ predsOf o, listed.getD p false = true := by
          intro p hp
          unfold predsOf at hp
          obtain ⟨e, he, rfl⟩ := List.mem_map.1 hp
          obtain ⟨he1, he2⟩ := List.mem_filter.1 he
          exact hpre e (by simpa using he1) he2
        rcases hsp.2.1 k hk with h2 | ⟨p, hpp, h2⟩
        · exact hp k h2
        · exact hcl p (hp p hpp) k h2
      have hlt : ∀ y ∈ l1, y.1 < i := fun y hy => hs3 y hy (i, m) (by simp)
      have hind : ∀ y ∈ l1, indep y.2 m = true := by
        intro y hy
        obtain ⟨k, my⟩ := y
        obtain ⟨h2, h3⟩ := (hmem k my).1 (by simp [hy])
        rcases hsp.2.2 k my (hlt _ hy) h3 with h4 | h4
        · have h5 := hanc k h4
          have hk : k < listed.size := by
            have h6 := hlt _ hy
            have h7 : i < ops.size := (Array.getElem?_eq_some_iff.1 ho).1
            simp only at h6
            omega
          rw [Array.getD_eq_getD_getElem?, Array.getElem?_eq_getElem hk] at h2 h5
          simp at h2 h5
          rw [h2] at h5
          cases h5
        · exact h4
      have hfi := hf (i, m) (by simp)
      have hHnone : s.H (base + i) = none := by
        cases hh : s.H (base + i) with
        | none => rfl
        | some ob =>
          obtain ⟨b, hb2, _⟩ := hr.rel.heap.own _ ob hh
          rw [hfi.1] at hb2
          cases hb2
      have hA : ∀ y ∈ l1, ∀ t ∈ adr m.op, ¬ ((∃ off, s.s t = .optr (base + y.1) off) ∨ ∃ off len sz, s.s t = .osl (base + y.1) off len sz) := by
        intro y hy t _ e
        have := hr.rel.slot t
        have h3 := (hf y (by simp [hy])).1
        rcases e with ⟨off, e⟩ | ⟨off, len, sz, e⟩
        · rw [e] at this
          obtain ⟨b, _, hb2⟩ := this.optr_inv
          have h4 : rho (base + y.1) = some b := hb2
          rw [h3] at h4
          cases h4
        · rw [e] at this
          obtain ⟨b, _, _, _, _, _, hb2, _⟩ := this.osl_inv
          have h4 : rho (base + y.1) = some b := hb2
          rw [h3] at h4
          cases h4
      have h2 := move_front (x := (i, m)) l1 s hind (fun y hy e => by have := hlt y hy; omega) hA hHnone h
      simp only [runOps] at h2
      refine opG_sound ho hmo hr hfi.1 hfi.2 h2 fun s' rho' a' w' hk hr' hV' hrho hnx => ?_
      have hil : i < listed.size := by
        have h7 : i < ops.size := (Array.getElem?_eq_some_iff.1 ho).1
        omega
      refine ih (listed.setIfInBounds i true) (l1 ++ l2) s' rho' a' w' (by simpa using hsz) (fun k mk => ?_) ?_ (fun p hp k hk2 => ?_) (by simp at hlf ⊢; omega) hr' (hV.trans hV') (fun id hid => ?_) hb (by omega) (fun q hq => ?_) hk
      · by_cases hki : k = i
        · subst hki
          constructor
          · intro hmem2
            exfalso
            rcases List.mem_append.1 hmem2 with h5 | h5
            · have := hlt _ h5; simp only at this; omega
            · have := (List.pairwise_cons.1 hs2).1 _ h5; simp only at this; omega
          · rintro ⟨h5, _⟩
            rw [Array.getD_eq_getD_getElem?, Array.getElem?_setIfInBounds_self] at h5
            simp [hil] at h5
        · rw [getD_set_ne true (fun e => hki e.symm)]
          rw [← hmem k mk]
          simp only [List.mem_append, List.mem_cons, Prod.mk.injEq, hki, false_and, false_or]
      · exact List.pairwise_append.2 ⟨hs1, hs2.of_cons, fun x hx y hy => hs3 x hx y (by simp [hy])⟩
      · by_cases hpi : p = i
        · subst hpi
          exact getD_set_true (hanc k hk2)
        · rw [getD_set_ne false (fun e => hpi e.symm)] at hp
          exact getD_set_true (hcl p hp k hk2)
      · rw [hrho id (by omega) (by omega)]
        exact hlow id hid
      · have h3 := hf q (by simp only [List.mem_append, List.mem_cons]; rcases List.mem_append.1 hq with h5 | h5 <;> simp [h5])
        have hqi : q.1 ≠ i := by
          intro e
          rcases List.mem_append.1 hq with h5 | h5
          · have := hlt _ h5; omega
          · have := (List.pairwise_cons.1 hs2).1 _ h5; simp only at this; omega
        refine ⟨?_, by omega⟩
        rw [hrho _ (by omega) h3.2]
        exact h3.1

end Go.Proofs.Ytifebfkkciaddaa
