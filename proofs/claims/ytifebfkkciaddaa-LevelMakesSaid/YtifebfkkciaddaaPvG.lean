/-
  The call's own blocks: a new one, a store, one that nobody writes to any more.
-/
import Derived.Test.YtifebfkkciaddaaPvF
set_option linter.unusedVariables false
set_option linter.unusedSimpArgs false
namespace Go.Proofs.Ytifebfkkciaddaa
open Go.RowKit

theorem Below.size' {B : Nat} {w w' : World} (h : Below B w w') : w.heap.size ≤ w'.heap.size := h.size

theorem ObjAt.mono {V V' : Vw} (hm : V.Leq V') {b : Nat} {o : PObj} (h : ObjAt V b o) (hb : V'.w.heap[b]? = V.w.heap[b]?) : ObjAt V' b o := by
  obtain ⟨c, T, hh, h1, h2, h3⟩ := h
  exact ⟨c, T, hb.trans hh, h1, h2, fun i x v hx hv => (h3 i x v hx hv).mono hm⟩

theorem RelH.owns {w0 : World} {ok0 : Nat → Prop} {H : Nat → Option PObj} {rho : Nat → Option Nat} {w : World} (h : RelH w0 ok0 H rho w) : Owns (viewOf w0 ok0 H rho w) H :=
  fun id o ho => let ⟨b, h1, _, h3⟩ := h.own id o ho; ⟨b, h1, h3⟩

theorem ObjAt.lt {V : Vw} {b : Nat} {o : PObj} (h : ObjAt V b o) : b < V.w.heap.size := by
  obtain ⟨c, T, hh, _⟩ := h
  exact (Array.getElem?_eq_some_iff.1 hh).1

/-- The view behind a new block. -/
theorem new_ext' {w0 : World} {ok0 : Nat → Prop} {H : Nat → Option PObj} {rho : Nat → Option Nat} {w : World} (h : RelH w0 ok0 H rho w) {id : Nat} (hid : rho id = none) (arr : Array Value) (T : TypeId) (o : PObj)
    (hle : o.cells.length ≤ arr.size) (hwh : o.whole = true → o.cells.length = arr.size) (hr : ∀ (i : Nat) (x : PV) (v : Value), o.cells[i]? = some x → arr[i]? = some v → Rep (viewOf w0 ok0 H rho w) x v) :
    RelH w0 ok0 (upd H id (some o)) (upd rho id (some w.heap.size)) (w.alloc (.cells arr T)) ∧
      (viewOf w0 ok0 H rho w).Leq (viewOf w0 ok0 (upd H id (some o)) (upd rho id (some w.heap.size)) (w.alloc (.cells arr T))) := by
  have hsz : (w.alloc (.cells arr T)).heap.size = w.heap.size + 1 := by show (w.heap.push _).size = _; exact Array.size_push _
  have hold : ∀ k, k < w.heap.size → (w.alloc (.cells arr T)).heap[k]? = w.heap[k]? := fun k hk => Below.heap_alloc w _ k hk
  have hnew : (w.alloc (.cells arr T)).heap[w.heap.size]? = some (.cells arr T (0, 0)) := by show (w.heap.push _)[w.heap.size]? = _; exact Array.getElem?_push_size
  have hbel := h.bel.size
  have hlt : ∀ b, (viewOf w0 ok0 H rho w).ok b → b < w.heap.size := by
    rintro b ⟨h1 | h1, _⟩
    · have := h.okb b h1; omega
    · exact h1.2
  have hleq : (viewOf w0 ok0 H rho w).Leq (viewOf w0 ok0 (upd H id (some o)) (upd rho id (some w.heap.size)) (w.alloc (.cells arr T))) := by
    refine ⟨fun b hb => ⟨?_, fun id' o' ho' => ?_⟩, fun b off hb => ?_, fun id' b hb => ?_, fun id' b c T' fr hb hh => ?_⟩
    · rcases hb.1 with h1 | h1
      · exact .inl h1
      · exact .inr ⟨h1.1, by rw [hsz]; omega⟩
    · have hbl := hlt b hb
      unfold upd at ho' ⊢
      by_cases he : id' = id
      · rw [if_pos he]
        intro e
        simp only [Option.some.injEq] at e
        omega
      · rw [if_neg he] at ho' ⊢
        exact hb.2 id' o' ho'
    · exact World.cell?_of_block (w := w) (hold b (hlt b hb))
    · show upd rho id (some w.heap.size) id' = some b
      have hb' : rho id' = some b := hb
      have hne : id' ≠ id := fun e => by rw [e, hid] at hb'; cases hb'
      rw [upd_ne _ _ hne]
      exact hb'
    · have hk := (Array.getElem?_eq_some_iff.1 hh).1
      exact ⟨c, T', fr, (hold b hk).trans hh, Nat.le_refl _⟩
  refine ⟨⟨h.okb, h.bel.alloc h.bel.size _, fun id' o' ho' => ?_, fun i j b hi hj hbi hbj => ?_⟩, hleq⟩
  · by_cases he : id' = id
    · subst he
      rw [upd_same] at ho' ⊢
      cases ho'
      exact ⟨w.heap.size, rfl, hbel, arr, T, hnew, hle, hwh, fun i x v hx hv => (hr i x v hx hv).mono hleq⟩
    · rw [upd_ne _ _ he] at ho' ⊢
      obtain ⟨b, h1, h2, h3⟩ := h.own id' o' ho'
      exact ⟨b, h1, h2, h3.mono hleq (hold b h3.lt)⟩
  · have key : ∀ k b, upd H id (some o) k ≠ none → k ≠ id → upd rho id (some w.heap.size) k = some b → b < w.heap.size ∧ H k ≠ none ∧ rho k = some b := by
      intro k b hk hne hb
      rw [upd_ne _ _ hne] at hk hb
      obtain ⟨o', ho'⟩ := Option.ne_none_iff_exists'.1 hk
      obtain ⟨b', h1, _, h3⟩ := h.own k o' ho'
      rw [h1] at hb
      cases hb
      exact ⟨h3.lt, hk, h1⟩
    by_cases h1 : i = id <;> by_cases h2 : j = id
    · rw [h1, h2]
    · have := key j b hj h2 hbj
      rw [h1, upd_same] at hbi
      cases hbi
      omega
    · have := key i b hi h1 hbi
      rw [h2, upd_same] at hbj
      cases hbj
      omega
    · obtain ⟨_, k1, k2⟩ := key i b hi h1 hbi
      obtain ⟨_, k3, k4⟩ := key j b hj h2 hbj
      exact h.inj i j b k1 k3 k2 k4

theorem new_ext {w0 : World} {ok0 : Nat → Prop} {H : Nat → Option PObj} {rho : Nat → Option Nat} {w : World} (h : RelH w0 ok0 H rho w) {id : Nat} (hid : rho id = none) (arr : Array Value) (T : TypeId) (o : PObj)
    (hr : RepL (viewOf w0 ok0 H rho w) o.cells arr.toList) :
    RelH w0 ok0 (upd H id (some o)) (upd rho id (some w.heap.size)) (w.alloc (.cells arr T)) ∧
      (viewOf w0 ok0 H rho w).Leq (viewOf w0 ok0 (upd H id (some o)) (upd rho id (some w.heap.size)) (w.alloc (.cells arr T))) := by
  have h1 := hr.1
  simp only [Array.length_toList] at h1
  exact new_ext' h hid arr T o (by omega) (fun _ => h1.symm) fun i x v hx hv => hr.2 i x v hx (by simpa using hv)

theorem RelH.drew {w0 : World} {ok0 : Nat → Prop} {H : Nat → Option PObj} {rho : Nat → Option Nat} {w : World} (h : RelH w0 ok0 H rho w) :
    RelH w0 ok0 H rho w.drew ∧ (viewOf w0 ok0 H rho w).Leq (viewOf w0 ok0 H rho w.drew) := by
  have hl : (viewOf w0 ok0 H rho w).Leq (viewOf w0 ok0 H rho w.drew) :=
    ⟨fun b hb => hb, fun _ _ _ => rfl, fun _ _ h => h, fun _ _ c T fr _ hh => ⟨c, T, fr, hh, Nat.le_refl _⟩⟩
  refine ⟨⟨h.okb, h.bel.drew, fun id o ho => ?_, h.inj⟩, hl⟩
  obtain ⟨b, h1, h2, h3⟩ := h.own id o ho
  exact ⟨b, h1, h2, h3.mono hl rfl⟩

/-- The view where a row has grown in its place. -/
theorem grow_ext {w0 : World} {ok0 : Nat → Prop} {H : Nat → Option PObj} {rho : Nat → Option Nat} {w : World} (h : RelH w0 ok0 H rho w) {id j b : Nat} {o : PObj} {c : Array Value} {T : TypeId} {xs : List PV} {vs : List Value}
    (ho : H j = some o) (hb : rho j = some b) (hid : rho id = none) (hc : w.heap[b]? = some (.cells c T (0, 0))) (hr : RepL (viewOf w0 ok0 H rho w) xs vs) (hfit : o.cells.length + xs.length ≤ c.size) :
    RelH w0 ok0 (upd (upd H j none) id (some ⟨o.cells ++ xs, false⟩)) (upd rho id (some b)) (w.setRow b (c.toList.take o.cells.length ++ vs ++ c.toList.drop (o.cells.length + vs.length)).toArray) ∧
      (viewOf w0 ok0 H rho w).Leq (viewOf w0 ok0 (upd (upd H j none) id (some ⟨o.cells ++ xs, false⟩)) (upd rho id (some b)) (w.setRow b (c.toList.take o.cells.length ++ vs ++ c.toList.drop (o.cells.length + vs.length)).toArray)) := by
  obtain ⟨b', hb', hlow, hobj⟩ := h.own j o ho
  rw [hb] at hb'
  cases hb'
  obtain ⟨c', T', hc', hle, hwh, hcells⟩ := hobj
  have e : (viewOf w0 ok0 H rho w).w.heap[b]? = w.heap[b]? := rfl
  rw [e, hc] at hc'
  cases hc'
  have hxl := hr.1
  have hnew := setRow_heap w b c (c.toList.take o.cells.length ++ vs ++ c.toList.drop (o.cells.length + vs.length)).toArray T (0, 0) hc
  have hsize : (c.toList.take o.cells.length ++ vs ++ c.toList.drop (o.cells.length + vs.length)).toArray.size = c.size := by simp; omega
  have hoth : ∀ k, k ≠ b → (w.setRow b (c.toList.take o.cells.length ++ vs ++ c.toList.drop (o.cells.length + vs.length)).toArray).heap[k]? = w.heap[k]? := fun k hk => setRow_other w b k _ hk
  have hjid : j ≠ id := fun e => by rw [e, hid] at hb; cases hb
  have hold : ∀ k o', upd (upd H j none) id (some ⟨o.cells ++ xs, false⟩) k = some o' → k ≠ id → k ≠ j ∧ H k = some o' := by
    intro k o' hk hne
    rw [upd_ne _ _ hne] at hk
    by_cases e2 : k = j
    · rw [e2, upd_same] at hk; cases hk
    · rw [upd_ne _ _ e2] at hk; exact ⟨e2, hk⟩
  have hleq : (viewOf w0 ok0 H rho w).Leq (viewOf w0 ok0 (upd (upd H j none) id (some ⟨o.cells ++ xs, false⟩)) (upd rho id (some b)) (w.setRow b (c.toList.take o.cells.length ++ vs ++ c.toList.drop (o.cells.length + vs.length)).toArray)) := by
    refine ⟨fun k hk => ⟨?_, fun id' o' ho' => ?_⟩, fun k off' hk => ?_, fun id' k hk => ?_, fun id' k c1 T1 fr1 hk hh => ?_⟩
    · rcases hk.1 with h1 | h1
      · exact .inl h1
      · exact .inr ⟨h1.1, by rw [setRow_size]; exact h1.2⟩
    · by_cases he : id' = id
      · subst he
        rw [upd_same]
        intro e3
        cases e3
        exact hk.2 j o ho hb
      · rw [upd_ne _ _ he]
        exact hk.2 id' o' (hold id' o' ho' he).2
    · have hne : k ≠ b := fun e => hk.2 j o ho (by rw [e]; exact hb)
      exact World.cell?_of_block (w := w) (hoth k hne)
    · show upd rho id (some b) id' = some k
      have hk' : rho id' = some k := hk
      have hne : id' ≠ id := fun e => by rw [e, hid] at hk'; cases hk'
      rw [upd_ne _ _ hne]
      exact hk'
    · by_cases he : k = b
      · subst he
        have e2 : w.heap[k]? = some (.cells c1 T1 fr1) := hh
        rw [hc] at e2
        cases e2
        exact ⟨_, _, _, hnew, by rw [hsize]; omega⟩
      · exact ⟨c1, T1, fr1, (hoth k he).trans hh, Nat.le_refl _⟩
  refine ⟨⟨h.okb, ?_, fun id' o' ho' => ?_, fun i k b2 hi hk hbi hbk => ?_⟩, hleq⟩
  · exact ⟨h.bel.os, h.bel.tape, h.bel.output, by rw [setRow_size]; exact h.bel.size, fun k hk => (hoth k (by omega)).trans (h.bel.block k hk)⟩
  · by_cases he : id' = id
    · subst he
      rw [upd_same] at ho' ⊢
      cases ho'
      refine ⟨b, rfl, hlow, _, T, hnew, ?_, fun hw => (by cases hw), fun i x v hx hv => ?_⟩
      · rw [hsize]; simp; omega
      · simp only [List.getElem?_toArray] at hv
        have htl : (c.toList.take o.cells.length).length = o.cells.length := by simp; omega
        rw [List.append_assoc] at hv
        by_cases h1 : i < o.cells.length
        · rw [List.getElem?_append_left (by omega)] at hx hv
          rw [List.getElem?_take, if_pos h1] at hv
          exact (hcells i x v hx (by simpa using hv)).mono hleq
        · rw [List.getElem?_append_right (by omega)] at hx hv
          rw [htl] at hv
          have hix : i - o.cells.length < xs.length := (List.getElem?_eq_some_iff.1 hx).1
          rw [List.getElem?_append_left (by omega)] at hv
          exact (hr.2 _ x v hx hv).mono hleq
    · obtain ⟨h1, h2⟩ := hold id' o' ho' he
      rw [upd_ne _ _ he]
      obtain ⟨k, h3, h4, h5⟩ := h.own id' o' h2
      have hne : k ≠ b := fun e => h1 (h.inj id' j k (by rw [h2]; simp) (by rw [ho]; simp) h3 (by rw [e]; exact hb))
      exact ⟨k, h3, h4, h5.mono hleq (hoth k hne)⟩
  · have key : ∀ k b2, upd (upd H j none) id (some ⟨o.cells ++ xs, false⟩) k ≠ none → k ≠ id → upd rho id (some b) k = some b2 → k ≠ j ∧ H k ≠ none ∧ rho k = some b2 := by
      intro k b2 hk hne hbk
      obtain ⟨o', ho'⟩ := Option.ne_none_iff_exists'.1 hk
      obtain ⟨h1, h2⟩ := hold k o' ho' hne
      rw [upd_ne _ _ hne] at hbk
      exact ⟨h1, by rw [h2]; simp, hbk⟩
    by_cases h1 : i = id <;> by_cases h2 : k = id
    · rw [h1, h2]
    · obtain ⟨k1, k2, k3⟩ := key k b2 hk h2 hbk
      rw [h1, upd_same] at hbi
      cases hbi
      exact absurd (h.inj k j b k2 (by rw [ho]; simp) k3 hb) k1
    · obtain ⟨k1, k2, k3⟩ := key i b2 hi h1 hbi
      rw [h2, upd_same] at hbk
      cases hbk
      exact absurd (h.inj i j b k2 (by rw [ho]; simp) k3 hb) k1
    · obtain ⟨_, k2, k3⟩ := key i b2 hi h1 hbi
      obtain ⟨_, k4, k5⟩ := key k b2 hk h2 hbk
      exact h.inj i k b2 k2 k4 k3 k5

/-- The view behind a store. -/
theorem store_ext {w0 : World} {ok0 : Nat → Prop} {H : Nat → Option PObj} {rho : Nat → Option Nat} {w : World} (h : RelH w0 ok0 H rho w) {id b off : Nat} {o : PObj} {c : Array Value} {T : TypeId} {xs : List PV} {vs : List Value}
    (ho : H id = some o) (hb : rho id = some b) (hc : w.heap[b]? = some (.cells c T (0, 0))) (hr : RepL (viewOf w0 ok0 H rho w) xs vs) (hfit : off + xs.length ≤ o.cells.length) :
    RelH w0 ok0 (upd H id (some { o with cells := o.cells.take off ++ xs ++ o.cells.drop (off + xs.length) })) rho (w.setRow b (c.toList.take off ++ vs ++ c.toList.drop (off + vs.length)).toArray) ∧
      (viewOf w0 ok0 H rho w).Leq (viewOf w0 ok0 (upd H id (some { o with cells := o.cells.take off ++ xs ++ o.cells.drop (off + xs.length) })) rho (w.setRow b (c.toList.take off ++ vs ++ c.toList.drop (off + vs.length)).toArray)) := by
  obtain ⟨b', hb', hlow, hobj⟩ := h.own id o ho
  rw [hb] at hb'
  cases hb'
  have hobj0 := hobj
  obtain ⟨c', T', hc', hle, hwh, hcells⟩ := hobj
  have e : (viewOf w0 ok0 H rho w).w.heap[b]? = w.heap[b]? := rfl
  rw [e, hc] at hc'
  cases hc'
  have hxl := hr.1
  have hnew := setRow_heap w b c (c.toList.take off ++ vs ++ c.toList.drop (off + vs.length)).toArray T (0, 0) hc
  have hsize : (c.toList.take off ++ vs ++ c.toList.drop (off + vs.length)).toArray.size = c.size := by simp; omega
  have hoth : ∀ k, k ≠ b → (w.setRow b (c.toList.take off ++ vs ++ c.toList.drop (off + vs.length)).toArray).heap[k]? = w.heap[k]? := fun k hk => setRow_other w b k _ hk
  have hleq : (viewOf w0 ok0 H rho w).Leq (viewOf w0 ok0 (upd H id (some { o with cells := o.cells.take off ++ xs ++ o.cells.drop (off + xs.length) })) rho (w.setRow b (c.toList.take off ++ vs ++ c.toList.drop (off + vs.length)).toArray)) := by
    refine ⟨fun k hk => ⟨?_, fun id' o' ho' => ?_⟩, fun k off' hk => ?_, fun id' k hk => hk, fun id' k c1 T1 fr1 hk hh => ?_⟩
    · rcases hk.1 with h1 | h1
      · exact .inl h1
      · exact .inr ⟨h1.1, by rw [setRow_size]; exact h1.2⟩
    · by_cases he : id' = id
      · subst he
        exact hk.2 id' o ho
      · rw [upd_ne _ _ he] at ho'
        exact hk.2 id' o' ho'
    · have hne : k ≠ b := fun e => hk.2 id o ho (by rw [e]; exact hb)
      exact World.cell?_of_block (w := w) (hoth k hne)
    · by_cases he : k = b
      · subst he
        have e2 : w.heap[k]? = some (.cells c1 T1 fr1) := hh
        rw [hc] at e2
        cases e2
        exact ⟨_, _, _, hnew, by rw [hsize]; omega⟩
      · exact ⟨c1, T1, fr1, (hoth k he).trans hh, Nat.le_refl _⟩
  refine ⟨⟨h.okb, ?_, fun id' o' ho' => ?_, fun i j k hi hj hki hkj => ?_⟩, hleq⟩
  · exact ⟨h.bel.os, h.bel.tape, h.bel.output, by rw [setRow_size]; exact h.bel.size, fun k hk => (hoth k (by omega)).trans (h.bel.block k hk)⟩
  · by_cases he : id' = id
    · subst he
      rw [upd_same] at ho'
      cases ho'
      refine ⟨b, hb, hlow, _, T, hnew, ?_, ?_, fun i x v hx hv => ?_⟩
      · rw [hsize]; simp; omega
      · intro hw; rw [hsize]; have := hwh hw; simp; omega
      · simp only [List.getElem?_toArray] at hv
        have htl : (c.toList.take off).length = off := by simp; omega
        have hol : (o.cells.take off).length = off := by simp; omega
        rw [List.append_assoc] at hx hv
        by_cases h1 : i < off
        · rw [List.getElem?_append_left (by omega), List.getElem?_take, if_pos h1] at hx hv
          exact (hcells i x v hx (by simpa using hv)).mono hleq
        · rw [List.getElem?_append_right (by omega)] at hx hv
          rw [hol] at hx
          rw [htl] at hv
          by_cases h2 : i - off < xs.length
          · rw [List.getElem?_append_left (by omega)] at hx hv
            exact (hr.2 _ x v hx hv).mono hleq
          · rw [List.getElem?_append_right (by omega), List.getElem?_drop] at hx hv
            have e3 : off + vs.length + (i - off - vs.length) = i := by omega
            have e4 : off + xs.length + (i - off - xs.length) = i := by omega
            rw [e3] at hv
            rw [e4] at hx
            exact (hcells i x v hx (by simpa using hv)).mono hleq
    · rw [upd_ne _ _ he] at ho'
      obtain ⟨k, h1, h2, h3⟩ := h.own id' o' ho'
      have hne : k ≠ b := fun e => he (h.inj id' id k (by rw [ho']; simp) (by rw [ho]; simp) h1 (by rw [e]; exact hb))
      exact ⟨k, h1, h2, h3.mono hleq (hoth k hne)⟩
  · have key : ∀ k', upd H id (some { o with cells := o.cells.take off ++ xs ++ o.cells.drop (off + xs.length) }) k' ≠ none → H k' ≠ none := by
      intro k' hk'
      by_cases he : k' = id
      · rw [he, ho]; simp
      · rwa [upd_ne _ _ he] at hk'
    exact h.inj i j k (key i hi) (key j hj) hki hkj

/-- The view where a block is nobody's own any more. -/
theorem drop_ext {w0 : World} {ok0 : Nat → Prop} {H : Nat → Option PObj} {rho : Nat → Option Nat} {w : World} (h : RelH w0 ok0 H rho w) (id : Nat) :
    RelH w0 ok0 (upd H id none) rho w ∧ (viewOf w0 ok0 H rho w).Leq (viewOf w0 ok0 (upd H id none) rho w) := by
  have hsub : ∀ k o, upd H id none k = some o → k ≠ id ∧ H k = some o := by
    intro k o hk
    by_cases he : k = id
    · rw [he, upd_same] at hk; cases hk
    · rw [upd_ne _ _ he] at hk; exact ⟨he, hk⟩
  have hleq : (viewOf w0 ok0 H rho w).Leq (viewOf w0 ok0 (upd H id none) rho w) :=
    ⟨fun b hb => ⟨hb.1, fun k o hk => hb.2 k o (hsub k o hk).2⟩, fun _ _ _ => rfl, fun _ _ h => h, fun _ _ c T fr _ hh => ⟨c, T, fr, hh, Nat.le_refl _⟩⟩
  refine ⟨⟨h.okb, h.bel, fun k o hk => ?_, fun i j b hi hj => ?_⟩, hleq⟩
  · obtain ⟨b, h1, h2, h3⟩ := h.own k o (hsub k o hk).2
    exact ⟨b, h1, h2, h3.mono hleq rfl⟩
  · have key : ∀ k, upd H id none k ≠ none → H k ≠ none := by
      intro k hk
      obtain ⟨o, ho⟩ := Option.ne_none_iff_exists'.1 hk
      rw [(hsub k o ho).2]
      simp
    exact h.inj i j b (key i hi) (key j hj)

theorem drop_ptr {w0 : World} {ok0 : Nat → Prop} {H : Nat → Option PObj} {rho : Nat → Option Nat} {w : World} (h : RelH w0 ok0 H rho w) {id b : Nat} {o : PObj} (ho : H id = some o) (hb : rho id = some b) :
    Rep (viewOf w0 ok0 (upd H id none) rho w) (.ptr o.cells) (.pointer (some ⟨b, 0, none⟩)) := by
  obtain ⟨b', hb', hlow, hobj⟩ := h.own id o ho
  rw [hb] at hb'
  cases hb'
  have hlt := hobj.lt
  obtain ⟨vs, h1, h2, h3⟩ := obj_cells hobj 0 o.cells.length (by omega)
  have e : (o.cells.drop 0).take o.cells.length = o.cells := by simp
  rw [e] at h1
  refine .ptr_mk ⟨.inr ⟨hlow, hlt⟩, fun k o' hk => ?_⟩ (h1.mono (drop_ext h id).2) h3
  by_cases he : k = id
  · rw [he, upd_same] at hk; cases hk
  · rw [upd_ne _ _ he] at hk
    exact fun e2 => he (h.inj k id b (by rw [hk]; simp) (by rw [ho]; simp) e2 hb)

end Go.Proofs.Ytifebfkkciaddaa
