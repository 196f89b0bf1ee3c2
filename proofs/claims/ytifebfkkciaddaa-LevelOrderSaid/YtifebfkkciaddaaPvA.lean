/-
  Plain values: a value of the program with what it leads to in memory, as a tree; how a tree stands for a value of the model.
-/
import Derived.Test.YtifebfkkciaddaaRows
import Derived.WalkKit
import Derived.ProofKit
import Derived.Below
import Derived.ChangeKeysEq
import Derived.Laws.StructEq
set_option linter.unusedVariables false
namespace Go.Proofs.Ytifebfkkciaddaa
open Go.RowKit

/-- sc: just this value. ptr: to memory that nobody writes to any more, with what lies there. sl: a slice of such memory. optr, osl: to a block of the call's own, by its number. -/
inductive PV where
  | sc (v : Value)
  | ptr (cells : List PV)
  | sl (sz : Nat) (elems : List (List PV))
  | fn (f : FuncId) (caps : List PV)
  | agg (cells : List PV)
  | tup (vs : List PV)
  | optr (id off : Nat)
  | osl (id off len sz : Nat)
  deriving Inhabited

structure Vw where
  w : World
  ok : Nat → Prop
  rho : Nat → Option Nat

/-- What stands for what. -/
inductive Rep (V : Vw) : PV → Value → Prop
  | sc (v : Value) : Rep V (.sc v) v
  | ptr (cells : List PV) (b off : Nat) (vs : List Value) (hok : V.ok b) (hl : vs.length = cells.length)
      (hc : ∀ (i : Nat) (v : Value), vs[i]? = some v → V.w.cell? ⟨b, off + i, none⟩ = some v)
      (hr : ∀ (i : Nat) (x : PV) (v : Value), cells[i]? = some x → vs[i]? = some v → Rep V x v) : Rep V (.ptr cells) (.pointer (some ⟨b, off, none⟩))
  | slNil (sz : Nat) (A : Option Addr) (cap : Nat) (h : cap ≤ maxLen) : Rep V (.sl sz []) (.slice A 0 cap)
  | sl (sz : Nat) (elems : List (List PV)) (b off len cap : Nat) (hlen : elems.length = len) (hs : ∀ e ∈ elems, e.length = sz) (h1 : len ≤ cap) (h2 : cap ≤ maxLen)
      (hp : Rep V (.ptr elems.flatten) (.pointer (some ⟨b, off, none⟩))) : Rep V (.sl sz elems) (.slice (some ⟨b, off, none⟩) len cap)
  | fn (f : FuncId) (caps : List PV) (vs : List Value) (hl : vs.length = caps.length)
      (hr : ∀ (i : Nat) (x : PV) (v : Value), caps[i]? = some x → vs[i]? = some v → Rep V x v) : Rep V (.fn f caps) (.func (.func f) #[] vs.toArray)
  | agg (cells : List PV) (vs : List Value) (hl : vs.length = cells.length)
      (hr : ∀ (i : Nat) (x : PV) (v : Value), cells[i]? = some x → vs[i]? = some v → Rep V x v) : Rep V (.agg cells) (.agg vs.toArray)
  | tup (cells : List PV) (vs : List Value) (hl : vs.length = cells.length)
      (hr : ∀ (i : Nat) (x : PV) (v : Value), cells[i]? = some x → vs[i]? = some v → Rep V x v) : Rep V (.tup cells) (.tuple vs.toArray)
  | optr (id off b : Nat) (h : V.rho id = some b) : Rep V (.optr id off) (.pointer (some ⟨b, off, none⟩))
  | osl (id off len sz cap b : Nat) (c : Array Value) (T : TypeId) (fr : Nat × Nat) (h : V.rho id = some b) (h1 : len ≤ cap) (h2 : cap ≤ maxLen)
      (hh : V.w.heap[b]? = some (.cells c T fr)) (hc : off + cap * sz ≤ c.size) : Rep V (.osl id off len sz) (.slice (some ⟨b, off, none⟩) len cap)

/-- A list of plain values for a list of values. -/
def RepL (V : Vw) (xs : List PV) (vs : List Value) : Prop :=
  vs.length = xs.length ∧ ∀ (i : Nat) (x : PV) (v : Value), xs[i]? = some x → vs[i]? = some v → Rep V x v

structure Vw.Leq (V V' : Vw) : Prop where
  ok : ∀ b, V.ok b → V'.ok b
  cell : ∀ b off, V.ok b → V'.w.cell? ⟨b, off, none⟩ = V.w.cell? ⟨b, off, none⟩
  rho : ∀ id b, V.rho id = some b → V'.rho id = some b
  shp : ∀ id b c T fr, V.rho id = some b → V.w.heap[b]? = some (.cells c T fr) → ∃ c' T' fr', V'.w.heap[b]? = some (.cells c' T' fr') ∧ c.size ≤ c'.size

theorem Vw.Leq.refl (V : Vw) : V.Leq V := ⟨fun _ h => h, fun _ _ _ => rfl, fun _ _ h => h, fun _ _ c T fr _ h => ⟨c, T, fr, h, Nat.le_refl _⟩⟩
theorem Vw.Leq.trans {U V W : Vw} (h : U.Leq V) (k : V.Leq W) : U.Leq W :=
  ⟨fun b hb => k.ok b (h.ok b hb), fun b off hb => (k.cell b off (h.ok b hb)).trans (h.cell b off hb), fun id b hb => k.rho id b (h.rho id b hb), fun id b c T fr hr hh => by
    obtain ⟨c', T', fr', h1, h2⟩ := h.shp id b c T fr hr hh
    obtain ⟨c2, T2, fr2, h3, h4⟩ := k.shp id b c' T' fr' (h.rho id b hr) h1
    exact ⟨c2, T2, fr2, h3, Nat.le_trans h2 h4⟩⟩

theorem Rep.mono {V V' : Vw} (hm : V.Leq V') {x : PV} {v : Value} (h : Rep V x v) : Rep V' x v := by
  induction h with
  | sc v => exact .sc v
  | ptr cells b off vs hok hl hc hr ih => exact .ptr cells b off vs (hm.ok b hok) hl (fun i v hv => (hm.cell b (off + i) hok).trans (hc i v hv)) ih
  | slNil sz A cap h => exact .slNil sz A cap h
  | sl sz elems b off len cap hlen hs h1 h2 hp ih => exact .sl sz elems b off len cap hlen hs h1 h2 ih
  | fn f caps vs hl hr ih => exact .fn f caps vs hl ih
  | agg cells vs hl hr ih => exact .agg cells vs hl ih
  | tup cells vs hl hr ih => exact .tup cells vs hl ih
  | optr id off b h => exact .optr id off b (hm.rho id b h)
  | osl id off len sz cap b c T fr h h1 h2 hh hc =>
    obtain ⟨c', T', fr', h3, h4⟩ := hm.shp id b c T fr h hh
    exact .osl id off len sz cap b c' T' fr' (hm.rho id b h) h1 h2 h3 (Nat.le_trans hc h4)

theorem RepL.mono {V V' : Vw} (hm : V.Leq V') {xs : List PV} {vs : List Value} (h : RepL V xs vs) : RepL V' xs vs :=
  ⟨h.1, fun i x v hx hv => (h.2 i x v hx hv).mono hm⟩

theorem RepL.nil {V : Vw} : RepL V [] [] := ⟨rfl, fun i x v h => by simp at h⟩
theorem RepL.cons {V : Vw} {x : PV} {v : Value} {xs : List PV} {vs : List Value} (h : Rep V x v) (hs : RepL V xs vs) : RepL V (x :: xs) (v :: vs) :=
  ⟨by simp [hs.1], fun i y u hy hu => by
    cases i with
    | zero => simp at hy hu; subst hy; subst hu; exact h
    | succ i => exact hs.2 i y u (by simpa using hy) (by simpa using hu)⟩
theorem RepL.append {V : Vw} {xs ys : List PV} {vs us : List Value} (h : RepL V xs vs) (k : RepL V ys us) : RepL V (xs ++ ys) (vs ++ us) := by
  refine ⟨by simp [h.1, k.1], fun i x v hx hv => ?_⟩
  have e := h.1
  by_cases hi : i < xs.length
  · rw [List.getElem?_append_left hi] at hx
    rw [List.getElem?_append_left (by omega)] at hv
    exact h.2 i x v hx hv
  · rw [List.getElem?_append_right (by omega)] at hx
    rw [List.getElem?_append_right (by omega)] at hv
    rw [e] at hv
    exact k.2 _ x v hx hv
theorem RepL.take {V : Vw} {xs : List PV} {vs : List Value} (h : RepL V xs vs) (n : Nat) : RepL V (xs.take n) (vs.take n) := by
  refine ⟨by simp [h.1], fun i x v hx hv => ?_⟩
  rw [List.getElem?_take] at hx hv
  by_cases hi : i < n
  · rw [if_pos hi] at hx hv
    exact h.2 i x v hx hv
  · rw [if_neg hi] at hx; cases hx
theorem RepL.drop {V : Vw} {xs : List PV} {vs : List Value} (h : RepL V xs vs) (n : Nat) : RepL V (xs.drop n) (vs.drop n) := by
  refine ⟨by simp [h.1], fun i x v hx hv => ?_⟩
  rw [List.getElem?_drop] at hx hv
  exact h.2 _ x v hx hv
theorem RepL.get {V : Vw} {xs : List PV} {vs : List Value} (h : RepL V xs vs) {i : Nat} {x : PV} (hx : xs[i]? = some x) : ∃ v, vs[i]? = some v ∧ Rep V x v := by
  obtain ⟨hi, rfl⟩ := List.getElem?_eq_some_iff.1 hx
  have : i < vs.length := by rw [h.1]; exact hi
  exact ⟨vs[i], List.getElem?_eq_getElem this, h.2 i _ _ hx (List.getElem?_eq_getElem this)⟩

/-- A block of the call's own: its first cells. whole: they are all of it. -/
structure PObj where
  cells : List PV
  whole : Bool
  deriving Inhabited

structure St where
  s : Nat → PV
  H : Nat → Option PObj
  nx : Nat

def upd {α : Type} (f : Nat → α) (i : Nat) (x : α) : Nat → α := fun j => if j = i then x else f j
theorem upd_same {α : Type} (f : Nat → α) (i : Nat) (x : α) : upd f i x i = x := by simp [upd]
theorem upd_ne {α : Type} (f : Nat → α) {i j : Nat} (x : α) (h : j ≠ i) : upd f i x j = f j := by simp [upd, h]
theorem upd_comm {α : Type} (f : Nat → α) {i j : Nat} (x y : α) (h : i ≠ j) : upd (upd f i x) j y = upd (upd f j y) i x := by
  funext k
  unfold upd
  by_cases h1 : k = i <;> by_cases h2 : k = j <;> simp_all

def ObjAt (V : Vw) (b : Nat) (o : PObj) : Prop :=
  ∃ c T, V.w.heap[b]? = some (.cells c T (0, 0)) ∧ o.cells.length ≤ c.size ∧ (o.whole = true → o.cells.length = c.size) ∧
    ∀ (i : Nat) (x : PV) (v : Value), o.cells[i]? = some x → c[i]? = some v → Rep V x v

def viewOf (w0 : World) (ok0 : Nat → Prop) (H : Nat → Option PObj) (rho : Nat → Option Nat) (w : World) : Vw :=
  ⟨w, fun b => (ok0 b ∨ (w0.heap.size ≤ b ∧ b < w.heap.size)) ∧ ∀ id o, H id = some o → rho id ≠ some b, rho⟩

/-- How the call's own blocks lie in memory. -/
structure RelH (w0 : World) (ok0 : Nat → Prop) (H : Nat → Option PObj) (rho : Nat → Option Nat) (w : World) : Prop where
  okb : ∀ b, ok0 b → b < w0.heap.size
  bel : Below w0.heap.size w0 w
  own : ∀ id o, H id = some o → ∃ b, rho id = some b ∧ w0.heap.size ≤ b ∧ ObjAt (viewOf w0 ok0 H rho w) b o
  inj : ∀ id id' b, H id ≠ none → H id' ≠ none → rho id = some b → rho id' = some b → id = id'

structure Rel (w0 : World) (ok0 : Nat → Prop) (n : Nat) (s : St) (rho : Nat → Option Nat) (a : Act) (w : World) : Prop where
  heap : RelH w0 ok0 s.H rho w
  size : a.tmps.size = n
  defs : a.defers = []
  slot : ∀ t, Rep (viewOf w0 ok0 s.H rho w) (s.s t) (a.tmps.getD t undef)

end Go.Proofs.Ytifebfkkciaddaa
