/-
 Plain values: PvA, PvB, PvC, PvD, PvE, PvF, PvG, PvH, PvI, PvJ, PvK.
-/
import Derived.Test.YtnoilfjeamffnaaGreatRows
import Derived.WalkKit
import Derived.ProofKit
import Derived.Below
import Derived.ChangeKeysEq
import Derived.Laws.StructEq
import Derived.Lib.OthersKept
import Derived.RangeFuncCalls
import Derived.OrdersIn
import Derived.LoopNIn
set_option linter.unusedVariables false
set_option linter.unusedSimpArgs false
namespace Go.Proofs.YtnoilfjeamffnaaGreat
open Go.RowKit
section
inductive PV where
 | sc (v : Value)
 | ptr (cells : List PV)
 | sl (sz : Nat) (elems : List (List PV))
 | fn (f : FuncId) (caps : List PV)
 | agg (cells : List PV)
 | tup (vs : List PV)
 | optr (id off : Nat)
 | osl (id off len sz : Nat)
 | oit (id : Nat)
 | omp (id : Nat)
 | itm (b : ByteArray) (pos : Nat)
 | fptr (cells : List PV)
 | fsl (sz : Nat) (elems : List (List PV))
 | csl (sz : Nat) (elems : List (List PV))
 | ocap (id off len sz : Nat)
 | mkv (kv : List (ByteArray × Value))
 deriving Inhabited
structure Vw where
 w : World
 ok : Nat → Prop
 rho : Nat → Option Nat
def MapIs (es : Array MapEntry) (kv : List (ByteArray × Value)) : Prop := (es.toList.map fun e => (e.key, e.val)) = kv.map fun p => (Value.string p.1, p.2)
inductive Rep (V : Vw) : PV → Value → Prop
 | sc (v : Value) : Rep V (.sc v) v
 | ptr (cells : List PV) (b off : Nat) (vs : List Value) (hok : V.ok b) (hl : vs.length = cells.length)
   (hc : ∀ (i : Nat) (v : Value), vs[i]? = some v → V.w.cell? ⟨b, off + i, none⟩ = some v)
   (hr : ∀ (i : Nat) (x : PV) (v : Value), cells[i]? = some x → vs[i]? = some v → Rep V x v) : Rep V (.ptr cells) (.pointer (some ⟨b, off, none⟩))
 | slNil (sz : Nat) (A : Option Addr) (cap : Nat) (h : cap ≤ maxLen) : Rep V (.sl sz []) (.slice A 0 cap)
 | sl (sz : Nat) (elems : List (List PV)) (b off len cap : Nat) (hlen : elems.length = len) (hs : ∀ e ∈ elems, e.length = sz) (h1 : len ≤ cap) (h2 : cap ≤ maxLen)
   (hp : Rep V (.ptr elems.flatten) (.pointer (some ⟨b, off, none⟩))) : Rep V (.sl sz elems) (.slice (some ⟨b, off, none⟩) len cap)
 | fn (f : FuncId) (caps : List PV) (vs : List Value) (hl : vs.length = caps.length)
   (hr : ∀ (i : Nat) (x : PV) (v : Value), caps[i]? = some x → vs[i]? = some v → Rep V x v) : Rep V (.fn f caps) (.func (.func f) #[] vs.toArray)
 | agg (cells : List PV) (vs : List Value) (hl : vs.length = cells.length)
   (hr : ∀ (i : Nat) (x : PV) (v : Value), cells[i]? = some x → vs[i]? = some v → Rep V x v) : Rep V (.agg cells) (.agg vs.toArray)
 | tup (cells : List PV) (vs : List Value) (hl : vs.length = cells.length)
   (hr : ∀ (i : Nat) (x : PV) (v : Value), cells[i]? = some x → vs[i]? = some v → Rep V x v) : Rep V (.tup cells) (.tuple vs.toArray)
 | optr (id off b : Nat) (c : Array Value) (T : TypeId) (fr : Nat × Nat) (h : V.rho id = some b) (hh : V.w.heap[b]? = some (.cells c T fr)) : Rep V (.optr id off) (.pointer (some ⟨b, off, none⟩))
 | oit (id b : Nat) (h : V.rho id = some b) : Rep V (.oit id) (.pointer (some ⟨b, 0, none⟩))
 | omp (id b : Nat) (h : V.rho id = some b) : Rep V (.omp id) (.map (some b))
 | fptr (cells : List PV) (v : Value) (hcl : ∀ b off, v = .pointer (some ⟨b, off, none⟩) → ∃ c T, V.w.heap[b]? = some (.cells c T (0, 0))) (h : Rep V (.ptr cells) v) : Rep V (.fptr cells) v
 | fsl (sz : Nat) (elems : List (List PV)) (v : Value) (hcl : ∀ b off len cap, v = .slice (some ⟨b, off, none⟩) len cap → elems ≠ [] → ∃ c T, V.w.heap[b]? = some (.cells c T (0, 0))) (h : Rep V (.sl sz elems) v) : Rep V (.fsl sz elems) v
 | csl (sz : Nat) (elems : List (List PV)) (A : Option Addr) (len : Nat) (h : Rep V (.sl sz elems) (.slice A len len)) : Rep V (.csl sz elems) (.slice A len len)
 | ocap (id off len sz b : Nat) (A : Option Addr) (c : Array Value) (T : TypeId) (fr : Nat × Nat) (h : V.rho id = some b) (hA : len = 0 ∨ A = some ⟨b, off, none⟩) (h2 : len ≤ maxLen)
   (hh : V.w.heap[b]? = some (.cells c T fr)) (hc : off + len * sz ≤ c.size) : Rep V (.ocap id off len sz) (.slice A len len)
 | osl (id off len sz cap b : Nat) (c : Array Value) (T : TypeId) (fr : Nat × Nat) (h : V.rho id = some b) (h1 : len ≤ cap) (h2 : cap ≤ maxLen)
   (hh : V.w.heap[b]? = some (.cells c T fr)) (hc : off + cap * sz ≤ c.size) : Rep V (.osl id off len sz) (.slice (some ⟨b, off, none⟩) len cap)
def RepL (V : Vw) (xs : List PV) (vs : List Value) : Prop :=
 vs.length = xs.length ∧ ∀ (i : Nat) (x : PV) (v : Value), xs[i]? = some x → vs[i]? = some v → Rep V x v
structure Vw.Leq (V V' : Vw) : Prop where
 ok : ∀ b, V.ok b → V'.ok b
 blk : ∀ b, V.ok b → V'.w.heap[b]? = V.w.heap[b]?
 rho : ∀ id b, V.rho id = some b → V'.rho id = some b
 shp : ∀ id b c T fr, V.rho id = some b → V.w.heap[b]? = some (.cells c T fr) → ∃ c' T' fr', V'.w.heap[b]? = some (.cells c' T' fr') ∧ c.size ≤ c'.size
 sz : V.w.heap.size ≤ V'.w.heap.size
structure Vw.LeqC (V V' : Vw) : Prop where
 ok : ∀ b, V.ok b → V'.ok b
 cel : ∀ b, V.ok b → ∀ c T fr, V.w.heap[b]? = some (.cells c T fr) → V'.w.heap[b]? = some (.cells c T fr)
 rho : ∀ id b, V.rho id = some b → V'.rho id = some b
 shp : ∀ id b c T fr, V.rho id = some b → V.w.heap[b]? = some (.cells c T fr) → ∃ c' T' fr', V'.w.heap[b]? = some (.cells c' T' fr') ∧ c.size ≤ c'.size
theorem Vw.Leq.c {V V' : Vw} (h : V.Leq V') : V.LeqC V' := ⟨h.ok, fun b hb c T fr e => (h.blk b hb).trans e, h.rho, h.shp⟩
theorem Vw.LeqC.cell {V V' : Vw} (h : V.LeqC V') (b off : Nat) (hb : V.ok b) (v : Value) (hv : V.w.cell? ⟨b, off, none⟩ = some v) : V'.w.cell? ⟨b, off, none⟩ = some v := by
 cases hh : V.w.heap[b]? with
 | none => simp [World.cell?, hh] at hv
 | some o =>
  cases o with
  | cells c T fr => rw [World.cell?_of_block (w := V.w) (w' := V'.w) (a := ⟨b, off, none⟩) ((h.cel b hb c T fr hh).trans hh.symm)]; exact hv
  | _ => simp [World.cell?, hh] at hv
theorem Vw.Leq.cell {V V' : Vw} (h : V.Leq V') (b off : Nat) (hb : V.ok b) : V'.w.cell? ⟨b, off, none⟩ = V.w.cell? ⟨b, off, none⟩ := World.cell?_of_block (w := V.w) (h.blk b hb)
theorem Vw.Leq.refl (V : Vw) : V.Leq V := ⟨fun _ h => h, fun _ _ => rfl, fun _ _ h => h, fun _ _ c T fr _ h => ⟨c, T, fr, h, Nat.le_refl _⟩, Nat.le_refl _⟩
theorem Vw.Leq.trans {U V W : Vw} (h : U.Leq V) (k : V.Leq W) : U.Leq W :=
 ⟨fun b hb => k.ok b (h.ok b hb), fun b hb => (k.blk b (h.ok b hb)).trans (h.blk b hb), fun id b hb => k.rho id b (h.rho id b hb), fun id b c T fr hr hh => by
  obtain ⟨c', T', fr', h1, h2⟩ := h.shp id b c T fr hr hh
  obtain ⟨c2, T2, fr2, h3, h4⟩ := k.shp id b c' T' fr' (h.rho id b hr) h1
  exact ⟨c2, T2, fr2, h3, Nat.le_trans h2 h4⟩, Nat.le_trans h.sz k.sz⟩
theorem Rep.monoC {V V' : Vw} (hm : V.LeqC V') {x : PV} {v : Value} (h : Rep V x v) : Rep V' x v := by
 induction h with
 | sc v => exact .sc v
 | ptr cells b off vs hok hl hc hr ih => exact .ptr cells b off vs (hm.ok b hok) hl (fun i v hv => hm.cell b (off + i) hok v (hc i v hv)) ih
 | slNil sz A cap h => exact .slNil sz A cap h
 | sl sz elems b off len cap hlen hs h1 h2 hp ih => exact .sl sz elems b off len cap hlen hs h1 h2 ih
 | fn f caps vs hl hr ih => exact .fn f caps vs hl ih
 | agg cells vs hl hr ih => exact .agg cells vs hl ih
 | tup cells vs hl hr ih => exact .tup cells vs hl ih
 | optr id off b c T fr h hh =>
  obtain ⟨c', T', fr', h3, _⟩ := hm.shp id b c T fr h hh
  exact .optr id off b c' T' fr' (hm.rho id b h) h3
 | oit id b h => exact .oit id b (hm.rho id b h)
 | omp id b h => exact .omp id b (hm.rho id b h)
 | fptr cells v hcl h ih =>
  refine .fptr cells v (fun b off e => ?_) ih
  subst e
  obtain ⟨c, T, hh⟩ := hcl b off rfl
  cases h with
  | ptr _ _ _ vs hok => exact ⟨c, T, hm.cel b hok _ _ _ hh⟩
 | fsl sz elems v hcl h ih =>
  refine .fsl sz elems v (fun b off len cap e he => ?_) ih
  subst e
  obtain ⟨c, T, hh⟩ := hcl b off len cap rfl he
  cases h with
  | slNil => exact absurd rfl he
  | sl _ _ _ _ _ _ _ _ _ _ hp =>
   cases hp with
   | ptr _ _ _ vs hok => exact ⟨c, T, hm.cel b hok _ _ _ hh⟩
 | csl sz elems A len h ih => exact .csl sz elems A len ih
 | ocap id off len sz b A c T fr h hA h2 hh hc =>
  obtain ⟨c', T', fr', h3, h4⟩ := hm.shp id b c T fr h hh
  exact .ocap id off len sz b A c' T' fr' (hm.rho id b h) hA h2 h3 (Nat.le_trans hc h4)
 | osl id off len sz cap b c T fr h h1 h2 hh hc =>
  obtain ⟨c', T', fr', h3, h4⟩ := hm.shp id b c T fr h hh
  exact .osl id off len sz cap b c' T' fr' (hm.rho id b h) h1 h2 h3 (Nat.le_trans hc h4)
theorem Rep.mono {V V' : Vw} (hm : V.Leq V') {x : PV} {v : Value} (h : Rep V x v) : Rep V' x v := h.monoC hm.c
theorem RepL.mono {V V' : Vw} (hm : V.Leq V') {xs : List PV} {vs : List Value} (h : RepL V xs vs) : RepL V' xs vs :=
 ⟨h.1, fun i x v hx hv => (h.2 i x v hx hv).mono hm⟩
theorem RepL.nil {V : Vw} : RepL V [] [] := ⟨rfl, fun i x v h => by simp at h⟩
theorem RepL.cons {V : Vw} {x : PV} {v : Value} {xs : List PV} {vs : List Value} (h : Rep V x v) (hs : RepL V xs vs) : RepL V (x :: xs) (v :: vs) :=
 ⟨by simp [hs.1], fun i y u hy hu => by
  cases i with
  | zero => simp at hy hu; subst hy; subst hu; exact h
  | succ i => exact hs.2 i y u (by simpa using hy) (by simpa using hu)⟩
theorem RepL.append {V : Vw} {xs ys : List PV} {vs us : List Value} (h : RepL V xs vs) (k : RepL V ys us) : RepL V (xs ++ ys) (vs ++ us) := by
 refine ⟨by simp [h.1, k.1], fun i x v hx hv => ?_⟩
 have e := h.1
 by_cases hi : i < xs.length
 ·rw [List.getElem?_append_left hi] at hx
  rw [List.getElem?_append_left (by omega)] at hv
  exact h.2 i x v hx hv
 ·rw [List.getElem?_append_right (by omega)] at hx
  rw [List.getElem?_append_right (by omega)] at hv
  rw [e] at hv
  exact k.2 _ x v hx hv
theorem RepL.take {V : Vw} {xs : List PV} {vs : List Value} (h : RepL V xs vs) (n : Nat) : RepL V (xs.take n) (vs.take n) := by
 refine ⟨by simp [h.1], fun i x v hx hv => ?_⟩
 rw [List.getElem?_take] at hx hv
 by_cases hi : i < n
 ·rw [if_pos hi] at hx hv
  exact h.2 i x v hx hv
 ·rw [if_neg hi] at hx; cases hx
theorem RepL.drop {V : Vw} {xs : List PV} {vs : List Value} (h : RepL V xs vs) (n : Nat) : RepL V (xs.drop n) (vs.drop n) := by
 refine ⟨by simp [h.1], fun i x v hx hv => ?_⟩
 rw [List.getElem?_drop] at hx hv
 exact h.2 _ x v hx hv
theorem RepL.get {V : Vw} {xs : List PV} {vs : List Value} (h : RepL V xs vs) {i : Nat} {x : PV} (hx : xs[i]? = some x) : ∃ v, vs[i]? = some v ∧ Rep V x v := by
 obtain ⟨hi, rfl⟩ := List.getElem?_eq_some_iff.1 hx
 have : i < vs.length := by rw [h.1]; exact hi
 exact ⟨vs[i], List.getElem?_eq_getElem this, h.2 i _ _ hx (List.getElem?_eq_getElem this)⟩
structure PObj where
 cells : List PV
 whole : Bool
 deriving Inhabited
structure St where
 s : Nat → PV
 H : Nat → Option PObj
 nx : Nat
def upd {α : Type} (f : Nat → α) (i : Nat) (x : α) : Nat → α := fun j => if j = i then x else f j
theorem upd_same {α : Type} (f : Nat → α) (i : Nat) (x : α) : upd f i x i = x := by simp [upd]
theorem upd_ne {α : Type} (f : Nat → α) {i j : Nat} (x : α) (h : j ≠ i) : upd f i x j = f j := by simp [upd, h]
theorem upd_comm {α : Type} (f : Nat → α) {i j : Nat} (x y : α) (h : i ≠ j) : upd (upd f i x) j y = upd (upd f j y) i x := by
 funext k
 unfold upd
 by_cases h1 : k = i <;> by_cases h2 : k = j <;> simp_all
def CellsAt (V : Vw) (b : Nat) (o : PObj) : Prop :=
 ∃ c T, V.w.heap[b]? = some (.cells c T (0, 0)) ∧ o.cells.length ≤ c.size ∧ (o.whole = true → o.cells.length = c.size) ∧
  ∀ (i : Nat) (x : PV) (v : Value), o.cells[i]? = some x → c[i]? = some v → Rep V x v
def PObj.iter (s : ByteArray) (pos : Nat) : PObj := ⟨[.itm s pos], true⟩
def PObj.mp (kv : List (ByteArray × Value)) : PObj := ⟨[.mkv kv], true⟩
def SpecAt (V : Vw) (b : Nat) (o : PObj) : Prop :=
 (∃ s pos, o = .iter s pos ∧ V.w.heap[b]? = some (.stringIter s pos)) ∨ ∃ kv es clk, o = .mp kv ∧ V.w.heap[b]? = some (.map es clk) ∧ MapIs es kv
def ObjAt (V : Vw) (b : Nat) (o : PObj) : Prop := CellsAt V b o ∨ SpecAt V b o
theorem ObjAt.cells {V : Vw} {b : Nat} {o : PObj} (h : ObjAt V b o) (hs : ∃ c T fr, V.w.heap[b]? = some (.cells c T fr)) : CellsAt V b o := by
 rcases h with h | ⟨s, pos, rfl, hh⟩ | ⟨kv, es, clk, rfl, hh, _⟩
 ·exact h
 ·obtain ⟨c, T, fr, hs⟩ := hs
  rw [hs] at hh
  cases hh
 ·obtain ⟨c, T, fr, hs⟩ := hs
  rw [hs] at hh
  cases hh
def viewOf (w0 : World) (ok0 : Nat → Prop) (H : Nat → Option PObj) (rho : Nat → Option Nat) (w : World) : Vw :=
 ⟨w, fun b => (ok0 b ∨ (w0.heap.size ≤ b ∧ b < w.heap.size)) ∧ ∀ id o, H id = some o → rho id ≠ some b, rho⟩
theorem ObjAt.mp {V : Vw} {b : Nat} {kv : List (ByteArray × Value)} (h : ObjAt V b (.mp kv)) : ∃ es clk, V.w.heap[b]? = some (.map es clk) ∧ MapIs es kv := by
 rcases h with ⟨c, T, hh, _, h2, h3⟩ | ⟨s, pos, e, _⟩ | ⟨kv', es, clk, e, hh, hm⟩
 ·have hc := h2 rfl
  have h0 : 0 < c.size := by rw [← hc]; exact Nat.zero_lt_one
  have := h3 0 (.mkv kv) c[0] rfl (Array.getElem?_eq_getElem h0)
  cases this
 ·simp [PObj.mp, PObj.iter] at e
 ·simp only [PObj.mp, PObj.mk.injEq, List.cons.injEq, PV.mkv.injEq, and_true] at e
  subst e
  exact ⟨es, clk, hh, hm⟩
structure RelH (w0 : World) (ok0 : Nat → Prop) (H : Nat → Option PObj) (rho : Nat → Option Nat) (w : World) : Prop where
 okb : ∀ b, ok0 b → b < w0.heap.size
 bel : Below w0.heap.size w0 w
 own : ∀ id o, H id = some o → ∃ b, rho id = some b ∧ w0.heap.size ≤ b ∧ ObjAt (viewOf w0 ok0 H rho w) b o
 inj : ∀ id id' b, H id ≠ none → H id' ≠ none → rho id = some b → rho id' = some b → id = id'
structure Rel (df : List Deferred) (w0 : World) (ok0 : Nat → Prop) (n : Nat) (s : St) (rho : Nat → Option Nat) (a : Act) (w : World) : Prop where
 heap : RelH w0 ok0 s.H rho w
 size : a.tmps.size = n
 defs : a.defers = df
 slot : ∀ t, Rep (viewOf w0 ok0 s.H rho w) (s.s t) (a.tmps.getD t undef)
end
section
inductive ETy where
 | bool
 | int
 | str
 | node (parts : List (Nat × Nat × Bool × ETy))
 deriving Inhabited
inductive MOp where
 | mv (x : Operand)
 | pick (c a b : Operand)
 | bin (op : BinOp) (x y : Operand)
 | un (op : UnOp) (x : Operand)
 | eqa (ne : Bool) (t : ETy) (x y : Operand)
 | nilc (x : Operand)
 | fa (x : Operand) (off : Nat)
 | fd (x : Operand) (off sz : Nat) (ag : Bool)
 | ia (x i : Operand) (sz : Nat) (tl : Bool)
 | iaa (x i : Operand) (len sz : Nat)
 | ix (x i : Operand) (len sz : Nat) (ag : Bool)
 | ixs (x i : Operand)
 | ld (x : Operand) (sz : Nat) (ag : Bool)
 | ldf (x : Operand) (sz : Nat) (ag : Bool)
 | ldo (x : Operand) (ks : List Nat) (sz : Nat) (ag : Bool)
 | st (x v : Operand) (sz : Nat) (fz : Bool)
 | al (zero : List Value)
 | bx (x : Operand) (own : Bool)
 | bld (zero : List Value) (parts : List (Nat × Nat × Operand))
 | bsl (sz len : Nat) (zero : List Value) (parts : List (Nat × Nat × Operand)) (own : Bool)
 | mks (sz bytes : Nat) (zero : List Value) (len cap : Operand)
 | len (x : Operand) (str : Bool)
 | ext (x : Operand) (i : Nat)
 | mm (mx : Bool) (xs : List Operand)
 | mkf (f : FuncId) (caps : List Operand)
 | app (sz bytes : Nat) (x y : Operand)
 | call (f : FuncId) (args : List Operand)
 | calv (x : Operand) (args : List Operand)
 | callm (f : FuncId) (args : List Operand)
 | calvm (x : Operand) (args : List Operand)
 | callmA (f : FuncId) (args : List Operand) (k : Nat)
 | rng (x : Operand)
 | nxt (x : Operand)
 | slc (x : Operand) (lo hi mx : Option Operand) (sz : Nat) (str : Bool)
 | raw (o : Oper)
 deriving Inhabited
structure MO where
 dst : Option Nat
 op : MOp
 guard : Option (Nat × Bool) := none
 deriving Inhabited
def ev (s : St) : Operand → PV
 | .tmp t => s.s t
 | .const v => .sc v
 | .global g => .sc (.pointer (some ⟨g, 0, none⟩))
 | .func f => .fn f []
def apartP : PV → PV → Bool
 | .optr i _, .optr j _ => decide (i ≠ j)
 | _, _ => false
def put (s : St) (d : Option Nat) (x : PV) : St :=
 match d with
 | some t => { s with s := upd s.s t x }
 | none => s
def PV.one : PV → Bool
 | .agg _ | .tup _ => false
 | .sc (.agg _) | .sc (.tuple _) => false
 | _ => true
def PV.good : PV → Bool
 | .sc (.agg _) => false
 | _ => true
def PV.cellsOf : PV → List PV
 | .agg xs => xs
 | x => [x]
def intBin (op : BinOp) (k : IntKind) (a b : Int) : Option Value :=
 match op with
 | .add => some (.int k (k.wrap (a + b)))
 | .sub => some (.int k (k.wrap (a - b)))
 | .mul => some (.int k (k.wrap (a * b)))
 | .quo => if b = 0 then none else some (.int k (k.wrap (a.tdiv b)))
 | .rem => if b = 0 then none else some (.int k (a.tmod b))
 | .eql => some (.bool (decide (a = b)))
 | .neq => some (.bool (decide (a ≠ b)))
 | .lss => some (.bool (a < b))
 | .leq => some (.bool (a ≤ b))
 | .gtr => some (.bool (a > b))
 | .geq => some (.bool (a ≥ b))
 | .shl => if b < 0 then none else some (.int k (k.wrap (a * 2 ^ (min b.toNat k.bits))))
 | .shr => if b < 0 then none else some (.int k (a.fdiv (2 ^ (min b.toNat k.bits))))
 | .and => some (.int k (k.wrap (BitVec.ofInt k.bits a &&& BitVec.ofInt k.bits b).toNat))
 | .or => some (.int k (k.wrap (BitVec.ofInt k.bits a ||| BitVec.ofInt k.bits b).toNat))
 | .xor => some (.int k (k.wrap (BitVec.ofInt k.bits a ^^^ BitVec.ofInt k.bits b).toNat))
 | .andNot => some (.int k (k.wrap (BitVec.ofInt k.bits a &&& ~~~ BitVec.ofInt k.bits b).toNat))
def strBin (op : BinOp) (a b : ByteArray) : Option Value :=
 match op with
 | .add => if ((a.size + b.size : Nat) : Int) > IntKind.i64.max then none else some (.string (a ++ b))
 | .eql => some (.bool (a.toList == b.toList))
 | .neq => some (.bool !(a.toList == b.toList))
 | .lss => some (.bool (Op.bytesLess a.toList b.toList))
 | .leq => some (.bool (Op.bytesLess a.toList b.toList || a.toList == b.toList))
 | .gtr => some (.bool !(Op.bytesLess a.toList b.toList || a.toList == b.toList))
 | .geq => some (.bool !(Op.bytesLess a.toList b.toList))
 | _ => none
def binPV (op : BinOp) : PV → PV → Option PV
 | .sc (.int k a), .sc (.int k' b) => if k = k' then (intBin op k a b).map .sc else none
 | .sc (.string a), .sc (.string b) => (strBin op a b).map .sc
 | _, _ => none
def unPV : UnOp → PV → Option PV
 | .not, .sc (.bool b) => some (.sc (.bool !b))
 | .neg, .sc (.int k n) => some (.sc (.int k (k.wrap (0 - n))))
 | _, _ => none
def partV (xs : List PV) (off sz : Nat) (ag : Bool) : Option PV :=
 if ag = true then (if off + sz ≤ xs.length then some (.agg ((xs.drop off).take sz)) else none) else xs[off]?
def eqInt : PV → PV → Option Bool
 | .sc (.int k a), .sc (.int k' b) => if k = k' then some (decide (a = b)) else none
 | _, _ => none
def eqBool : PV → PV → Option Bool
 | .sc (.bool a), .sc (.bool b) => some (a == b)
 | _, _ => none
def eqStr : PV → PV → Option Bool
 | .sc (.string a), .sc (.string b) => some (a.toList == b.toList)
 | _, _ => none
mutual
def eqE : ETy → PV → PV → Option Bool
 | .bool, a, b => eqBool a b
 | .int, a, b => eqInt a b
 | .str, a, b => eqStr a b
 | .node ps, a, b => match a, b with
  | .agg xs, .agg ys => eqParts ps xs ys
  | _, _ => none
def eqParts : List (Nat × Nat × Bool × ETy) → List PV → List PV → Option Bool
 | [], _, _ => some true
 | (off, sz, ag, e) :: r, xs, ys => (partV xs off sz ag).bind fun a => (partV ys off sz ag).bind fun b => (eqE e a b).bind fun c => (eqParts r xs ys).map fun d => c && d
end
def isP : PV → Bool
 | .ptr _ => true
 | .fptr _ => true
 | _ => false
def loadP (s : St) (p : PV) (n : Nat) : Option (List PV) :=
 match p with
 | .ptr cells => if n ≤ cells.length then some (cells.take n) else none
 | .optr id off =>
  match s.H id with
  | some o => if off + n ≤ o.cells.length then some ((o.cells.drop off).take n) else none
  | none => none
 | _ => none
def fillP : List PV → List (Nat × List PV) → Option (List PV)
 | cells, [] => some cells
 | cells, (off, xs) :: r => if off + xs.length ≤ cells.length then fillP (cells.take off ++ xs ++ cells.drop (off + xs.length)) r else none
def partsP (s : St) : List (Nat × Nat × Operand) → Option (List (Nat × List PV))
 | [] => some []
 | (off, sz, x) :: r => if (ev s x).cellsOf.length = sz ∧ (ev s x).good = true then (partsP s r).map ((off, (ev s x).cellsOf) :: ·) else none
def lenPV : Bool → PV → Option Nat
 | false, .sl _ es => some es.length
 | false, .fsl _ es => some es.length
 | false, .csl _ es => some es.length
 | false, .ocap _ _ n _ => some n
 | false, .osl _ _ n _ => some n
 | true, .sc (.string b) => some b.size
 | false, .sc (.slice _ n _) => some n
 | _, _ => none
def mm2 (mx : Bool) : PV → PV → Option PV
 | .sc (.int k a), .sc (.int _ b) => some (.sc (.int k (if mx = true then max a b else min a b)))
 | _, _ => none
def mmV (mx : Bool) : PV → List PV → Option PV
 | x, [] => some x
 | x, y :: r => (mm2 mx x y).bind fun z => mmV mx z r
def mmL (mx : Bool) : List PV → Option PV
 | x :: r => mmV mx x r
 | [] => none
def tailP (tl : Bool) (es : List (List PV)) (n : Int) (c : List PV) : PV := if tl = true then .ptr (es.drop n.toNat).flatten else .ptr c
def slcI (sz : Nat) (str : Bool) (l h : Int) (cap : Option Int) : PV → Option PV
 | .sc (.string b) => if str = true ∧ cap = none ∧ 0 ≤ l ∧ l ≤ h ∧ h ≤ b.size then some (.sc (.string (b.extract l.toNat h.toNat))) else none
 | .sl sz' es => if str = false ∧ sz' = sz ∧ 0 ≤ l ∧ l ≤ h ∧ h ≤ es.length then
   (if cap = none then some (.sl sz ((es.drop l.toNat).take (h - l).toNat)) else if cap = some h then some (.csl sz ((es.drop l.toNat).take (h - l).toNat)) else none) else none
 | .fsl sz' es => if str = false ∧ sz' = sz ∧ 0 ≤ l ∧ l ≤ h ∧ h ≤ es.length ∧ cap = none then some (.fsl sz ((es.drop l.toNat).take (h - l).toNat)) else none
 | .osl id off len sz' => if str = false ∧ sz' = sz ∧ 0 ≤ l ∧ l ≤ h ∧ h ≤ len then
   (if cap = none then (if l = h then some (.sl sz []) else some (.osl id (off + l.toNat * sz) (h - l).toNat sz)) else if cap = some h then some (.ocap id (off + l.toNat * sz) (h - l).toNat sz) else none) else none
 | .sc (.slice none 0 0) => if str = false ∧ l = 0 ∧ h = 0 ∧ cap = none then some (.sc (.slice none 0 0)) else none
 | _ => none
def slcLen : PV → Int
 | .sc (.string b) => b.size
 | .sl _ es => es.length
 | .fsl _ es => es.length
 | .osl _ _ n _ => n
 | _ => 0
def intOf : PV → Option Int
 | .sc (.int _ n) => some n
 | _ => none
def bndO (s : St) (d : Int) : Option Operand → Option Int
 | none => some d
 | some x => intOf (ev s x)
def capO (s : St) : Option Operand → Option (Option Int)
 | none => some none
 | some x => (intOf (ev s x)).map some
def slcP (s : St) (sz : Nat) (str : Bool) (lo hi mx : Option Operand) (p : PV) : Option PV :=
 (bndO s 0 lo).bind fun l => (bndO s (slcLen p) hi).bind fun h => (capO s mx).bind fun m => if mx.isSome = true ∧ hi.isNone = true then none else slcI sz str l h m p
def tailF (tl : Bool) (es : List (List PV)) (n : Int) (c : List PV) : PV := if tl = true then .fptr (es.drop n.toNat).flatten else .ptr c
def val (s : St) : MOp → Option PV
 | .mv x => some (ev s x)
 | .pick c a b => match ev s c with
  | .sc (.bool t) => some (if t then ev s a else ev s b)
  | _ => none
 | .bin op x y => binPV op (ev s x) (ev s y)
 | .un op x => unPV op (ev s x)
 | .eqa ne t x y => (eqE t (ev s x) (ev s y)).map fun (b : Bool) => PV.sc (.bool (if ne = true then !b else b))
 | .nilc x => match ev s x with
  | .ptr c => some (.ptr c)
  | .optr id off => some (.optr id off)
  | _ => none
 | .fa x off => match ev s x with
  | .ptr c => if off ≤ c.length then some (.ptr (c.drop off)) else none
  | .optr id o => some (.optr id (o + off))
  | _ => none
 | .fd x off sz ag => match ev s x with
  | .agg c => if ag then (if off + sz ≤ c.length then some (.agg ((c.drop off).take sz)) else none) else c[off]?
  | _ => none
 | .ia x i sz tl => match ev s x, ev s i with
  | .sl sz' es, .sc (.int _ n) => if 0 ≤ n ∧ sz' = sz then (es[n.toNat]?).map (tailP tl es n) else none
  | .osl id off len sz', .sc (.int _ n) => if 0 ≤ n ∧ n < len ∧ sz' = sz then some (.optr id (off + n.toNat * sz)) else none
  | .fsl sz' es, .sc (.int _ n) => if 0 ≤ n ∧ sz' = sz then (es[n.toNat]?).map (tailF tl es n) else none
  | _, _ => none
 | .iaa x i len sz => match ev s x, ev s i with
  | .ptr c, .sc (.int _ n) => if 0 ≤ n ∧ n < len ∧ n.toNat * sz ≤ c.length then some (.ptr (c.drop (n.toNat * sz))) else none
  | .optr id off, .sc (.int _ n) => if 0 ≤ n ∧ n < len then some (.optr id (off + n.toNat * sz)) else none
  | _, _ => none
 | .ix x i len sz ag => match ev s x, ev s i with
  | .agg c, .sc (.int _ n) => if 0 ≤ n ∧ n < len then (if ag then (if n.toNat * sz + sz ≤ c.length then some (.agg ((c.drop (n.toNat * sz)).take sz)) else none) else c[n.toNat * sz]?) else none
  | _, _ => none
 | .ixs x i => match ev s x, ev s i with
  | .sc (.string b), .sc (.int _ n) => if 0 ≤ n then (b[n.toNat]?).map fun c => .sc (.int .u8 c.toNat) else none
  | _, _ => none
 | .ldf x sz ag => if isP (ev s x) = true then (loadP s (ev s x) sz).bind fun cs => if ag then some (.agg cs) else if sz = 1 then cs.head? else none else none
 | .ldo x ks sz ag => if ks.all (fun k => apartP (ev s x) (s.s k)) = true then (loadP s (ev s x) sz).bind fun cs => if ag then some (.agg cs) else if sz = 1 then cs.head? else none else none
 | .ld x sz ag => (loadP s (ev s x) sz).bind fun cs => if ag then some (.agg cs) else if sz = 1 then cs.head? else none
 | .bld zero parts => (partsP s parts).bind fun ps => (fillP (zero.map .sc) ps).map .agg
 | .len x str => (lenPV str (ev s x)).map fun (n : Nat) => PV.sc (.int .i64 (n : Int))
 | .ext x i => match ev s x with
  | .tup vs => vs[i]?
  | _ => none
 | .mkf f caps => some (.fn f (caps.map (ev s)))
 | .mm mx xs => mmL mx (xs.map (ev s))
 | .slc x lo hi mx sz str => slcP s sz str lo hi mx (ev s x)
 | _ => none
def newAt (s : St) (d : Option Nat) (id : Nat) (x : PV) (o : PObj) : St := put { s with H := upd s.H id (some o) } d x
def storeP (s : St) (p : PV) (xs : List PV) : Option (Nat × PObj) :=
 match p with
 | .optr id off =>
  match s.H id with
  | some o => if off + xs.length ≤ o.cells.length then some (id, { o with cells := o.cells.take off ++ xs ++ o.cells.drop (off + xs.length) }) else none
  | none => none
 | _ => none
def zeros (zero : List Value) : Nat → List PV
 | 0 => []
 | n + 1 => zero.map .sc ++ zeros zero n
def rowOf (s : St) (sz : Nat) : PV → Option (List PV)
 | .sl sz' es => if sz' = sz ∨ es = [] then some es.flatten else none
 | .osl id off len sz' =>
  match s.H id with
  | some o => if sz' = sz ∧ off + len * sz ≤ o.cells.length then some ((o.cells.drop off).take (len * sz)) else none
  | none => none
 | .sc (.slice none 0 0) => some []
 | _ => none
def oldOf (s : St) (sz : Nat) : PV → Option (Option Nat × List PV × Nat)
 | .osl id 0 n sz' =>
  match s.H id with
  | some o => if sz' = sz ∧ o.cells.length = n * sz then some (some id, o.cells, n) else none
  | none => none
 | .sc (.slice none 0 0) => some (none, [], 0)
 | .csl sz' es => if sz' = sz then some (none, es.flatten, es.length) else none
 | .ocap id off n sz' =>
  match s.H id with
  | some o => if sz' = sz ∧ off + n * sz ≤ o.cells.length then some (none, (o.cells.drop off).take (n * sz), n) else none
  | none => none
 | _ => none
def nilP : PV → Bool
 | .sc (.slice none 0 0) => true
 | _ => false
def appE (s : St) (id sz bytes : Nat) (p q : PV) : Option (PV × List (Nat × Option PObj)) :=
 (oldOf s sz p).bind fun (oid, old, n) => (rowOf s sz q).bind fun new => (lenPV false q).bind fun m =>
  if 0 < sz ∧ new.length = m * sz ∧ (n + m) * bytes ≤ 2 ^ 47 ∧ n + m ≤ 2 ^ 62 ∧ new.all PV.one = true then
   match oid with
   | some j => some (.osl id 0 (n + m) sz, [(j, none), (id, some ⟨old ++ new, false⟩)])
   | none => if m = 0 then (if nilP p = true then some (.sc (.slice none 0 0), []) else none) else some (.osl id 0 (n + m) sz, [(id, some ⟨old ++ new, false⟩)])
  else none
def updL (f : Nat → Option PObj) : List (Nat × Option PObj) → Nat → Option PObj
 | [] => f
 | (t, x) :: r => updL (upd f t x) r
def nextO (id : Nat) : Option PObj → Option (PV × List (Nat × Option PObj))
 | some ⟨[.itm b p], true⟩ =>
  if p < b.size then some (.tup [.sc (.bool true), .sc (.int .i64 (p : Int)), .sc (.int .i32 ((Utf8.decode b p).1 : Int))], [(id, some (.iter b (p + (Utf8.decode b p).2)))])
  else some (.tup [.sc (.bool false)], [])
 | _ => none
def nextP (s : St) : PV → Option (PV × List (Nat × Option PObj))
 | .oit id => nextO id (s.H id)
 | _ => none
def chunks (sz : Nat) : Nat → List PV → List (List PV)
 | 0, _ => []
 | n + 1, xs => xs.take sz :: chunks sz n (xs.drop sz)
def stepM (id : Nat) (o : MO) (s : St) : Option St :=
 match o.op with
 | .al zero => some (newAt s o.dst id (.optr id 0) ⟨zero.map .sc, true⟩)
 | .bx x own =>
  if (ev s x).good = true then
   if own then some (newAt s o.dst id (.optr id 0) ⟨(ev s x).cellsOf, true⟩)
   else some (put s o.dst (.ptr (ev s x).cellsOf))
  else none
 | .bsl sz len zero parts own =>
  if zero.length = sz then (partsP s parts).bind fun ps => (fillP (zeros zero len) ps).map fun cells => if own = true then newAt s o.dst id (.osl id 0 len sz) ⟨cells, true⟩ else put s o.dst (.sl sz (chunks sz len cells)) else none
 | .mks sz bytes zero l c =>
  match ev s l, ev s c with
  | .sc (.int _ n), .sc (.int _ m) =>
   if 0 ≤ n ∧ n = m ∧ bytes * n ≤ 2 ^ 47 ∧ n ≤ 2 ^ 47 ∧ zero.length = sz then some (newAt s o.dst id (.osl id 0 n.toNat sz) ⟨zeros zero n.toNat, true⟩) else none
  | _, _ => none
 | .st x v sz fz =>
  if (ev s v).cellsOf.length = sz ∧ (ev s v).cellsOf.all PV.one = true then
   (storeP s (ev s x) (ev s v).cellsOf).bind fun (j, ob) =>
    if fz then
     match x, ev s x with
     | .tmp t, .optr _ 0 => some (put { s with s := upd s.s t (.ptr ob.cells), H := upd s.H j none } o.dst (.sc undef))
     | _, _ => none
    else some (put { s with H := upd s.H j (some ob) } o.dst (.sc undef))
  else none
 | .app sz bytes x y => (appE s id sz bytes (ev s x) (ev s y)).map fun (r, hs) => put { s with H := updL s.H hs } o.dst r
 | .rng x => match ev s x with
  | .sc (.string b) => some (newAt s o.dst id (.oit id) (.iter b 0))
  | _ => none
 | .nxt x => (nextP s (ev s x)).map fun (r, hs) => put { s with H := updL s.H hs } o.dst r
 | m => (val s m).map (put s o.dst)
def szOf (P : Program) (t : TypeId) : Option Nat := (P.info? t).map (·.size)
def zeroOf (P : Program) (t : TypeId) : Option (List Value) := ((P.info? t).bind (·.zero)).map fun v => v.cells.toList
def aggB (d : TypeDesc) : Bool := match d with
 | .struct _ | .array _ _ => true
 | _ => false
def etyOf (P : Program) : Nat → TypeId → Option ETy
 | 0, _ => none
 | d + 1, t => match P.underlying t with
  | some .bool => some .bool
  | some (.int _) => some .int
  | some .string => some .str
  | some (.struct fs) =>
   if P.stoodInHeld t = false then
    (fs.toList.foldr (fun f (r : Option (List (Nat × Nat × Bool × ETy))) => if f.name ≠ "_" then (etyOf P d f.type).bind fun e => (szOf P f.type).bind fun sz => (P.underlying f.type).bind fun dd => r.map ((f.offset, sz, aggB dd, e) :: ·) else none) (some [])).map .node
   else none
  | some (.array n el) => (etyOf P d el).bind fun e => (szOf P el).bind fun sz => (P.underlying el).map fun dd => .node ((List.range n).map fun i => (i * sz, sz, aggB dd, e))
  | _ => none
structure Pol where
 own : List Nat := []
 fz : List Nat := []
 mt : List Nat := []
 tl : List Nat := []
def partsOf (P : Program) (place : Nat → Option (Nat × Nat)) : List (Nat × Operand) → Option (List (Nat × Nat × Operand))
 | [] => some []
 | (i, x) :: r => (place i).bind fun (off, sz) => (partsOf P place r).map ((off, sz, x) :: ·)
def ldOp (tl : List Nat) (dst : Option Nat) (x : Operand) (sz : Nat) (ag : Bool) : MOp :=
 match dst with
 | some t => if tl.contains t = true then .ldf x sz ag else match tl.filterMap (fun z => if z / 1000 = 1000 + t then some (z % 1000) else none) with
  | [] => .ld x sz ag
  | k :: ks => .ldo x (k :: ks) sz ag
 | none => .ld x sz ag
theorem ldOp_is (tl : List Nat) (dst : Option Nat) (x : Operand) (sz : Nat) (ag : Bool) : ldOp tl dst x sz ag = .ldf x sz ag ∨ ldOp tl dst x sz ag = .ld x sz ag ∨ ∃ ks, ldOp tl dst x sz ag = .ldo x ks sz ag := by
 unfold ldOp
 cases dst with
 | none => exact .inr (.inl rfl)
 | some t =>
  simp only []
  split
  ·exact .inl rfl
  ·split
   ·exact .inr (.inl rfl)
   ·exact .inr (.inr ⟨_, rfl⟩)
def mop (P : Program) (pol : Pol) (o : Oper) : Option MOp :=
 match o.op with
 | .move x | .assign x => some (.mv x)
 | .pick c a b => some (.pick c a b)
 | .binOp op T x y _ =>
  match P.underlying T, op with
  | some (.struct _), .eql | some (.array _ _), .eql => if P.eqGuardType P.depth T = false then (etyOf P 20 T).map fun t => .eqa false t x y else none
  | some (.struct _), .neq | some (.array _ _), .neq => if P.eqGuardType P.depth T = false then (etyOf P 20 T).map fun t => .eqa true t x y else none
  | some .bool, .eql => some (.eqa false .bool x y)
  | some .bool, .neq => some (.eqa true .bool x y)
  | some (.pointer _), _ => none
  | some (.map _ _), _ => none
  | some (.interface _), _ => none
  | some (.slice _), _ => none
  | some (.func _ _ _), _ => none
  | _, _ => some (.bin op x y)
 | .unOp op _ x => some (.un op x)
 | .nilCheck x => some (.nilc x)
 | .alloc T => (zeroOf P T).map .al
 | .box T x => some (.bx x (match o.dst with | some d => pol.own.contains d | none => true))
 | .load T x => (P.underlying T).bind fun d => (szOf P T).map fun sz => ldOp pol.tl o.dst x sz (aggB d)
 | .store T x v => (szOf P T).map fun sz => .st x v sz (match x with | .tmp t => pol.fz.contains t | _ => false)
 | .fieldAddr T x f =>
  match P.underlying T with
  | some (.struct fs) => (fs[f]?).bind fun fd => match szOf P fd.type with
   | some (_ + 1) => some (.fa x fd.offset)
   | _ => none
  | _ => none
 | .field T x f =>
  match P.underlying T with
  | some (.struct fs) => (fs[f]?).bind fun fd => (szOf P fd.type).bind fun sz => (P.underlying fd.type).map fun d => .fd x fd.offset sz (aggB d)
  | _ => none
 | .indexAddr T x i =>
  match P.underlying T with
  | some (.slice e) => (szOf P e).map fun sz => .ia x i sz (match o.dst with | some d => pol.tl.contains d | none => false)
  | some (.array n e) => (szOf P e).map (.iaa x i n)
  | _ => none
 | .index T x i =>
  match P.underlying T with
  | some (.array n e) => (szOf P e).bind fun sz => (P.underlying e).map fun d => .ix x i n sz (aggB d)
  | some .string => some (.ixs x i)
  | _ => none
 | .build T parts =>
  match P.underlying T with
  | some (.struct fs) => if fs.all (fun fd => (szOf P fd.type).isSome) = true then (zeroOf P T).bind fun z => (partsOf P (fun i => (fs[i]?).bind fun fd => (szOf P fd.type).map fun sz => (fd.offset, sz)) parts.toList).map (.bld z) else none
  | some (.array _ e) => (zeroOf P T).bind fun z => (szOf P e).bind fun sz => (partsOf P (fun i => some (i * sz, sz)) parts.toList).map (.bld z)
  | _ => none
 | .buildSlice T len parts =>
  match P.underlying T with
  | some (.slice e) => (zeroOf P e).bind fun z => (szOf P e).bind fun sz => if len * sz ≤ 2 ^ 24 ∧ len ≤ 2 ^ 24 then (partsOf P (fun i => some (i * sz, sz)) parts.toList).map (fun ps => .bsl sz len z ps (match o.dst with | some d => pol.own.contains d | none => true)) else none
  | _ => none
 | .makeSlice T l c =>
  match P.underlying T with
  | some (.slice e) => (zeroOf P e).bind fun z => (P.info? e).map fun inf => .mks inf.size inf.bytes z l c
  | _ => none
 | .extract x i => some (.ext x i)
 | .slice T x lo hi mx => match P.underlying T with
  | some (.slice e) => (szOf P e).map fun sz => .slc x lo hi mx sz false
  | some .string => some (.slc x lo hi mx 1 true)
  | _ => none
 | .range T x => match P.underlying T with
  | some .string => some (.rng x)
  | _ => none
 | .next x str => if str = true then some (.nxt x) else none
 | .makeFunc (.func f) first caps => if first = #[] then some (.mkf f caps.toList) else none
 | .call { callee := .value (.func f), args, .. } => some (.call f args.toList)
 | .call { callee := .value x, args, .. } => some (.calv x args.toList)
 | .call { callee := .builtin .len, args, argTypes } =>
  match args.toList, argTypes.toList with
  | [x], [T] => match P.underlying T with
   | some (.slice _) => some (.len x false)
   | some .string => some (.len x true)
   | _ => none
  | _, _ => none
 | .call { callee := .builtin .max, args, .. } => some (.mm true args.toList)
 | .call { callee := .builtin .min, args, .. } => some (.mm false args.toList)
 | .call { callee := .builtin .append, args, argTypes } =>
  match args.toList, argTypes.toList with
  | [x, y], [T, U] => if T = U then (match P.underlying T with
   | some (.slice e) => (P.info? e).bind fun inf => (zeroOf P e).bind fun z => if z.length = inf.size then some (.app inf.size inf.bytes x y) else none
   | _ => none) else none
  | _, _ => none
 | _ => none
end
section
theorem Rep.ptr_inv {V : Vw} {cells : List PV} {v : Value} (h : Rep V (.ptr cells) v) :
  ∃ b off vs, v = .pointer (some ⟨b, off, none⟩) ∧ V.ok b ∧ RepL V cells vs ∧ ∀ (i : Nat) (u : Value), vs[i]? = some u → V.w.cell? ⟨b, off + i, none⟩ = some u := by
 cases h with
 | ptr _ b off vs hok hl hc hr => exact ⟨b, off, vs, rfl, hok, ⟨hl, hr⟩, hc⟩
theorem Rep.ptr_mk {V : Vw} {cells : List PV} {b off : Nat} {vs : List Value} (hok : V.ok b) (h : RepL V cells vs) (hc : ∀ (i : Nat) (u : Value), vs[i]? = some u → V.w.cell? ⟨b, off + i, none⟩ = some u) :
  Rep V (.ptr cells) (.pointer (some ⟨b, off, none⟩)) := .ptr cells b off vs hok h.1 hc h.2
theorem Rep.agg_inv {V : Vw} {cells : List PV} {v : Value} (h : Rep V (.agg cells) v) : ∃ vs, v = .agg (List.toArray vs) ∧ RepL V cells vs := by
 cases h with
 | agg _ vs hl hr => exact ⟨vs, rfl, hl, hr⟩
theorem Rep.tup_inv {V : Vw} {cells : List PV} {v : Value} (h : Rep V (.tup cells) v) : ∃ vs, v = .tuple (List.toArray vs) ∧ RepL V cells vs := by
 cases h with
 | tup _ vs hl hr => exact ⟨vs, rfl, hl, hr⟩
theorem Rep.sc_inv {V : Vw} {u v : Value} (h : Rep V (.sc u) v) : v = u := by cases h; rfl
theorem Rep.optr_inv {V : Vw} {id off : Nat} {v : Value} (h : Rep V (.optr id off) v) : ∃ b, v = .pointer (some ⟨b, off, none⟩) ∧ V.rho id = some b := by
 cases h with
 | optr _ _ b c T fr h hh => exact ⟨b, rfl, h⟩
theorem Rep.optr_shape {V : Vw} {id off b off' : Nat} {sp : Option Nat} (h : Rep V (.optr id off) (.pointer (some ⟨b, off', sp⟩))) : ∃ c T fr, V.w.heap[b]? = some (.cells c T fr) := by
 cases h with
 | optr _ _ b c T fr h hh => exact ⟨c, T, fr, hh⟩
theorem Rep.optr_mk {V : Vw} {id off b : Nat} (h : V.rho id = some b) (hs : ∃ c T fr, V.w.heap[b]? = some (.cells c T fr)) : Rep V (.optr id off) (.pointer (some ⟨b, off, none⟩)) := by
 obtain ⟨c, T, fr, hs⟩ := hs
 exact .optr id off b c T fr h hs
theorem Rep.osl_inv {V : Vw} {id off len sz : Nat} {v : Value} (h : Rep V (.osl id off len sz) v) :
  ∃ b cap c T fr, v = .slice (some ⟨b, off, none⟩) len cap ∧ V.rho id = some b ∧ len ≤ cap ∧ cap ≤ maxLen ∧ V.w.heap[b]? = some (.cells c T fr) ∧ off + cap * sz ≤ c.size := by
 cases h with
 | osl _ _ _ _ cap b c T fr h h1 h2 hh hc => exact ⟨b, cap, c, T, fr, rfl, h, h1, h2, hh, hc⟩
theorem addr_add (b off n : Nat) : (⟨b, off, none⟩ : Addr).add n = ⟨b, off + n, none⟩ := by
 unfold Addr.add
 split
 ·rename_i h; subst h; rfl
 ·rfl
theorem Rep.ptr_drop {V : Vw} {cells : List PV} {b off : Nat} (n : Nat) (h : Rep V (.ptr cells) (.pointer (some ⟨b, off, none⟩))) :
  Rep V (.ptr (cells.drop n)) (.pointer (some ⟨b, off + n, none⟩)) := by
 obtain ⟨b', off', vs, e, hok, hr, hc⟩ := h.ptr_inv
 cases e
 refine .ptr_mk hok (hr.drop n) fun i u hu => ?_
 rw [List.getElem?_drop] at hu
 have := hc _ _ hu
 rwa [Nat.add_assoc]
theorem Rep.ptr_take {V : Vw} {cells : List PV} {b off : Nat} (n : Nat) (h : Rep V (.ptr cells) (.pointer (some ⟨b, off, none⟩))) :
  Rep V (.ptr (cells.take n)) (.pointer (some ⟨b, off, none⟩)) := by
 obtain ⟨b', off', vs, e, hok, hr, hc⟩ := h.ptr_inv
 cases e
 refine .ptr_mk hok (hr.take n) fun i u hu => ?_
 rw [List.getElem?_take] at hu
 split at hu
 ·exact hc _ _ hu
 ·cases hu
theorem flatten_at {α : Type} {sz : Nat} : ∀ {es : List (List α)} (hs : ∀ e ∈ es, e.length = sz) {i : Nat} {e : List α}, es[i]? = some e → (es.flatten.drop (i * sz)).take sz = e
 | x :: r, hs, 0, e, h => by
  simp at h
  subst h
  have := hs x (by simp)
  simp [← this]
 | x :: r, hs, i + 1, e, h => by
  have hx := hs x (by simp)
  have ih := flatten_at (es := r) (fun e he => hs e (by simp [he])) (i := i) (e := e) (by simpa using h)
  have e1 : (i + 1) * sz = x.length + i * sz := by rw [hx, Nat.succ_mul, Nat.add_comm]
  rw [List.flatten_cons, e1, List.drop_length_add_append]
  exact ih
def Owns (V : Vw) (H : Nat → Option PObj) : Prop := ∀ id o, H id = some o → ∃ b, V.rho id = some b ∧ ObjAt V b o
theorem cell_of_heap {w : World} {b : Nat} {c : Array Value} {T : TypeId} {fr : Nat × Nat} (h : w.heap[b]? = some (.cells c T fr)) (i : Nat) : w.cell? ⟨b, i, none⟩ = c[i]? := by
 simp [World.cell?, h]
theorem obj_cells {V : Vw} {b : Nat} {o : PObj} (h : CellsAt V b o) (off n : Nat) (hn : off + n ≤ o.cells.length) :
  ∃ vs, RepL V ((o.cells.drop off).take n) vs ∧ vs.length = n ∧ ∀ (i : Nat) (u : Value), vs[i]? = some u → V.w.cell? ⟨b, off + i, none⟩ = some u := by
 obtain ⟨c, T, hh, hle, _, hr⟩ := h
 have hR : RepL V o.cells (c.toList.take o.cells.length) := ⟨by simp; omega, fun i x v hx hv => by
  rw [List.getElem?_take] at hv
  split at hv
  ·exact hr i x v hx (by simpa using hv)
  ·cases hv⟩
 refine ⟨((c.toList.take o.cells.length).drop off).take n, (hR.drop off).take n, by simp; omega, fun i u hu => ?_⟩
 rw [List.getElem?_take] at hu
 split at hu
 ·rw [List.getElem?_drop, List.getElem?_take] at hu
  split at hu
  ·rw [cell_of_heap hh]
   simpa using hu
  ·cases hu
 ·cases hu
theorem load_sound {V : Vw} {s : St} {p : PV} {n : Nat} {cs : List PV} {v : Value} (hO : Owns V s.H) (hp : Rep V p v) (h : loadP s p n = some cs) :
  ∃ b off vs, v = .pointer (some ⟨b, off, none⟩) ∧ RepL V cs vs ∧ vs.length = n ∧ ∀ (i : Nat) (u : Value), vs[i]? = some u → V.w.cell? ⟨b, off + i, none⟩ = some u := by
 unfold loadP at h
 split at h
 ·rename_i cells
  split at h
  ·rename_i hn
   cases h
   obtain ⟨b, off, vs, rfl, hok, hr, hc⟩ := (hp).ptr_inv
   refine ⟨b, off, vs.take n, rfl, hr.take n, by have := hr.1; simp; omega, fun i u hu => ?_⟩
   rw [List.getElem?_take] at hu
   split at hu
   ·exact hc _ _ hu
   ·cases hu
  ·cases h
 ·rename_i id off
  split at h
  ·rename_i o ho
   split at h
   ·rename_i hn
    cases h
    obtain ⟨b, rfl, hb⟩ := hp.optr_inv
    obtain ⟨b', hb', hobj⟩ := hO id o ho
    rw [hb] at hb'
    cases hb'
    obtain ⟨vs, h1, h2, h3⟩ := obj_cells (hobj.cells hp.optr_shape) off n hn
    exact ⟨b, off, vs, rfl, h1, h2, h3⟩
   ·cases h
  ·cases h
 ·cases h
theorem ev_rep {V : Vw} {s : St} {a : Act} (hs : ∀ t, Rep V (s.s t) (a.tmps.getD t undef)) (x : Operand) : Rep V (ev s x) (a.eval x) := by
 cases x with
 | tmp t => exact hs t
 | const v => exact .sc v
 | global g => exact .sc _
 | func f => exact .fn f [] [] rfl (fun i x v h => by simp at h)
theorem evs_rep {V : Vw} {s : St} {a : Act} (hs : ∀ t, Rep V (s.s t) (a.tmps.getD t undef)) : ∀ (xs : List Operand), RepL V (xs.map (ev s)) (xs.map a.eval)
 | [] => RepL.nil
 | x :: r => RepL.cons (ev_rep hs x) (evs_rep hs r)
theorem run_info {P : Program} {t : TypeId} {i : TypeInfo} (h : P.info? t = some i) (w : World) : (typeInfo t).run P w = .ok i w := by
 simp [typeInfo, program, Sem.run, h]
theorem run_under {P : Program} {t : TypeId} {d : TypeDesc} (h : P.underlying t = some d) (w : World) : (underlying t).run P w = .ok d w := by
 simp [underlying, program, Sem.run, h]
theorem run_size {P : Program} {t : TypeId} {n : Nat} (h : szOf P t = some n) (w : World) : (sizeOf t).run P w = .ok n w := by
 unfold szOf at h
 cases hi : P.info? t with
 | none => simp [hi] at h
 | some i => simp [hi] at h; subst h; simp [Go.sizeOf, run_info hi]
theorem run_zero {P : Program} {t : TypeId} {z : List Value} (h : zeroOf P t = some z) (w : World) : ∃ v, (zeroValue t).run P w = .ok v w ∧ v.cells.toList = z := by
 unfold zeroOf at h
 cases hi : P.info? t with
 | none => simp [hi] at h
 | some i =>
  cases hz : i.zero with
  | none => simp [hi, hz] at h
  | some v => simp [hi, hz] at h; exact ⟨v, by simp [zeroValue, run_info hi, hz], h⟩
theorem run_agg {P : Program} {t : TypeId} {d : TypeDesc} (h : P.underlying t = some d) (w : World) : (isAgg t).run P w = .ok (aggB d) w := by
 unfold isAgg aggB
 simp only [Sem.run_bind, run_under h, Result.andThen_ok]
 cases d <;> simp
end
section
theorem cellsOf_rep {V : Vw} {x : PV} {v : Value} (h : Rep V x v) (hg : x.good = true) : RepL V x.cellsOf v.cells.toList := by
 cases h with
 | agg cells vs hl hr => exact ⟨by simpa [PV.cellsOf, Value.cells] using hl, fun i y u hy hu => hr i y u (by simpa [PV.cellsOf] using hy) (by simpa [Value.cells] using hu)⟩
 | sc v =>
  cases v with
  | agg cs => simp [PV.good] at hg
  | _ => exact RepL.cons (.sc _) RepL.nil
 | ptr cells b off vs hok hl hc hr => exact RepL.cons (.ptr cells b off vs hok hl hc hr) RepL.nil
 | slNil sz A cap h => exact RepL.cons (.slNil sz A cap h) RepL.nil
 | sl sz elems b off len cap hlen hs h1 h2 hp => exact RepL.cons (.sl sz elems b off len cap hlen hs h1 h2 hp) RepL.nil
 | fptr cells v hcl h =>
  cases h with
  | ptr _ b off vs hok hl hc hr => exact RepL.cons (.fptr _ _ hcl (.ptr cells b off vs hok hl hc hr)) RepL.nil
 | fsl sz elems v hcl h =>
  cases h with
  | slNil _ A cap h => exact RepL.cons (.fsl _ _ _ hcl (.slNil sz A cap h)) RepL.nil
  | sl _ _ b off len cap hlen hs h1 h2 hp => exact RepL.cons (.fsl _ _ _ hcl (.sl sz elems b off len cap hlen hs h1 h2 hp)) RepL.nil
 | csl sz elems A len h => exact RepL.cons (.csl sz elems A len h) RepL.nil
 | ocap id off len sz b A c T fr h hA h2 hh hc => exact RepL.cons (.ocap id off len sz b A c T fr h hA h2 hh hc) RepL.nil
 | fn f caps vs hl hr => exact RepL.cons (.fn f caps vs hl hr) RepL.nil
 | tup cells vs hl hr => exact RepL.cons (.tup cells vs hl hr) RepL.nil
 | optr id off b c T fr h hh => exact RepL.cons (.optr id off b c T fr h hh) RepL.nil
 | oit id b h => exact RepL.cons (.oit id b h) RepL.nil
 | omp id b h => exact RepL.cons (.omp id b h) RepL.nil
 | osl id off len sz cap b c T fr h h1 h2 hh hc => exact RepL.cons (.osl id off len sz cap b c T fr h h1 h2 hh hc) RepL.nil
theorem fill_list (off : Nat) : ∀ (xs : List Value) (k : Nat) (cells : Array Value), off + k + xs.length ≤ cells.size →
  ((xs.zipIdx k).foldl (fun cs (c, j) => cs.setIfInBounds (off + j) c) cells).toList = cells.toList.take (off + k) ++ xs ++ cells.toList.drop (off + k + xs.length)
 | [], k, cells, h => by simp
 | x :: r, k, cells, h => by
  simp only [List.zipIdx_cons, List.foldl_cons]
  have hl : off + k < cells.size := by simp at h; omega
  rw [fill_list off r (k + 1) (cells.setIfInBounds (off + k) x) (by simp at h ⊢; omega)]
  rw [Array.toList_setIfInBounds]
  have e1 : off + (k + 1) = off + k + 1 := by omega
  rw [e1]
  apply List.ext_getElem?
  intro i
  simp only [List.length_cons, List.getElem?_append, List.getElem?_take, List.getElem?_drop, List.length_append, List.length_take, List.length_set, List.getElem?_set, Array.length_toList]
  have m1 : min (off + k + 1) cells.size = off + k + 1 := by omega
  have m2 : min (off + k) cells.size = off + k := by omega
  rw [m1, m2]
  by_cases c1 : i < off + k
  ·simp [c1, show i < off + k + 1 + r.length by omega, show i < off + k + (r.length + 1) by omega, show i < off + k + 1 by omega, show ¬ off + k = i by omega]
  ·by_cases c2 : i = off + k
   ·subst c2
    simp [show off + k < off + k + 1 + r.length by omega, hl]
   ·by_cases c3 : i < off + k + 1 + r.length
    ·have e2 : i - (off + k) = i - (off + k + 1) + 1 := by omega
     simp [c1, c3, show ¬ i < off + k + 1 by omega, show i < off + k + (r.length + 1) by omega, e2]
    ·simp [c3, show ¬ i < off + k + (r.length + 1) by omega, show off + k + 1 + r.length + (i - (off + k + 1 + r.length)) = off + k + (r.length + 1) + (i - (off + k + (r.length + 1))) by omega]
     intro hh
     omega
theorem fill_arr (off : Nat) (xs cells : Array Value) (h : off + xs.size ≤ cells.size) :
  (xs.zipIdx.foldl (fun cs (c, j) => cs.setIfInBounds (off + j) c) cells).toList = cells.toList.take off ++ xs.toList ++ cells.toList.drop (off + xs.size) := by
 have := fill_list off xs.toList 0 cells (by simpa using h)
 rw [← Array.foldl_toList, Array.toList_zipIdx]
 simpa using this
theorem fill_sound {V : Vw} {s : St} {a : Act} {place : Nat → Option (Nat × Nat)} (hs : ∀ t, Rep V (s.s t) (a.tmps.getD t undef)) :
  ∀ (parts : List (Nat × Operand)) (ms : List (Nat × Nat × Operand)) (ps : List (Nat × List PV)) (cells out : List PV) (arr : Array Value),
   (parts.foldr (fun (i, x) r => (place i).bind fun (off, sz) => r.map ((off, sz, x) :: ·)) (some [])) = some ms → partsP s ms = some ps → fillP cells ps = some out → RepL V cells arr.toList →
   ∃ arr', Instr.fill place arr (parts.map fun (i, x) => (i, a.eval x)) = some arr' ∧ RepL V out arr'.toList
 | [], ms, ps, cells, out, arr, h1, h2, h3, hr => by
  simp at h1
  subst h1
  simp [partsP] at h2
  subst h2
  simp [fillP] at h3
  subst h3
  exact ⟨arr, by simp [Instr.fill], hr⟩
 | (i, x) :: r, ms, ps, cells, out, arr, h1, h2, h3, hr => by
  simp only [List.foldr_cons] at h1
  cases hp : place i with
  | none => simp [hp] at h1
  | some q =>
   obtain ⟨off, sz⟩ := q
   simp only [hp, Option.bind_some, Option.map_eq_some_iff] at h1
   obtain ⟨ms', hm', rfl⟩ := h1
   simp only [partsP] at h2
   split at h2
   ·rename_i hcs
    obtain ⟨hcs, hgood⟩ := hcs
    simp only [Option.map_eq_some_iff] at h2
    obtain ⟨ps', hp', rfl⟩ := h2
    simp only [fillP] at h3
    split at h3
    ·rename_i hfit
     have hx := cellsOf_rep (ev_rep hs x) hgood
     have hlen := hx.1
     have hal := hr.1
     simp only [Array.length_toList] at hlen hal
     have hsz : (a.eval x).cells.size = sz := by omega
     have hf : off + (a.eval x).cells.size ≤ arr.size := by omega
     have hnew := fill_arr off (a.eval x).cells arr hf
     have hR : RepL V (cells.take off ++ (ev s x).cellsOf ++ cells.drop (off + (ev s x).cellsOf.length)) ((a.eval x).cells.zipIdx.foldl (fun cs (c, j) => cs.setIfInBounds (off + j) c) arr).toList := by
      rw [hnew]
      have : (a.eval x).cells.size = (ev s x).cellsOf.length := by omega
      rw [this]
      exact ((hr.take off).append hx).append (hr.drop _)
     obtain ⟨arr', h4, h5⟩ := fill_sound hs r ms' ps' _ out _ hm' hp' h3 hR
     refine ⟨arr', ?_, h5⟩
     simp only [List.map_cons, Instr.fill, hp]
     rw [if_neg (by simp [hsz]; omega)]
     exact h4
    ·cases h3
   ·cases h2
theorem partsOf_foldr (P : Program) (place : Nat → Option (Nat × Nat)) : ∀ parts, partsOf P place parts = parts.foldr (fun (i, x) r => (place i).bind fun (off, sz) => r.map ((off, sz, x) :: ·)) (some [])
 | [] => rfl
 | (i, x) :: r => by simp only [partsOf, List.foldr_cons, partsOf_foldr P place r]
theorem intBin_run {P : Program} {op : BinOp} {k : IntKind} {x y : Int} {v : Value} (h : intBin op k x y = some v) (w : World) (T : TypeId) :
  (binOp op T (.int k x) (.int k y)).run P w = .ok v w := by
 cases op <;> simp [intBin] at h
 case quo => obtain ⟨h0, rfl⟩ := h; simp [binOp, Op.intDiv, h0]
 case rem => obtain ⟨h0, rfl⟩ := h; simp [binOp, Op.intDiv, h0]
 case shl => obtain ⟨h0, rfl⟩ := h; simp [binOp, Op.shift, show ¬ y < 0 by omega]
 case shr => obtain ⟨h0, rfl⟩ := h; simp [binOp, Op.shift, show ¬ y < 0 by omega]
 case and => subst h; simp [binOp, Op.intBits]
 case or => subst h; simp [binOp, Op.intBits]
 case xor => subst h; simp [binOp, Op.intBits]
 case andNot => subst h; simp [binOp, Op.intBits]
 case eql => subst h; simp only [binOp, ne_eq, not_true_eq_false, if_false, Op.intCmp, Sem.run_pure]; congr 2
 case neq => subst h; simp only [binOp, ne_eq, not_true_eq_false, if_false, Op.intCmp, Sem.run_pure]; congr 2
 all_goals (subst h; simp [binOp, Op.intArith, Op.intCmp])
theorem strBin_run {P : Program} {op : BinOp} {x y : ByteArray} {v : Value} (h : strBin op x y = some v) (w : World) (T : TypeId) :
  (binOp op T (.string x) (.string y)).run P w = .ok v w := by
 cases op <;> simp only [strBin, reduceCtorEq, Option.some.injEq] at h
 case add =>
  split at h
  ·cases h
  ·rename_i h0
   cases h
   simp only [binOp, Op.stringOp]
   rw [if_neg h0]
   simp
 all_goals (subst h; simp [binOp, Op.stringOp])
theorem guard_run {P : Program} {op : BinOp} {T : TypeId} {x y : Operand} {u v : Value} (w : World) (h : (∃ k a, u = .int k a) ∨ (∃ b, u = .string b)) :
  (eqGuard op T x y u v).run P w = .ok () w := by
 unfold eqGuard
 rcases h with ⟨k, a, rfl⟩ | ⟨b, rfl⟩ <;> cases op <;> simp
theorem bin_sound {P : Program} {V : Vw} {w : World} {op : BinOp} {T : TypeId} {x y : Operand} {p q r : PV} {u v : Value} (hp : Rep V p u) (hq : Rep V q v) (h : binPV op p q = some r) :
  ∃ z, (do eqGuard op T x y u v; binOp op T u v : Sem Value).run P w = .ok z w ∧ Rep V r z := by
 unfold binPV at h
 split at h
 ·rename_i k a k' b
  split at h
  ·rename_i hk
   subst hk
   simp only [Option.map_eq_some_iff] at h
   obtain ⟨z, hz, rfl⟩ := h
   cases hp.sc_inv
   cases hq.sc_inv
   refine ⟨z, ?_, .sc z⟩
   simp only [Sem.run_bind, guard_run w (.inl ⟨_, _, rfl⟩), Result.andThen_ok]
   exact intBin_run hz w T
  ·cases h
 ·rename_i a b
  simp only [Option.map_eq_some_iff] at h
  obtain ⟨z, hz, rfl⟩ := h
  cases hp.sc_inv
  cases hq.sc_inv
  refine ⟨z, ?_, .sc z⟩
  simp only [Sem.run_bind, guard_run w (.inr ⟨_, rfl⟩), Result.andThen_ok]
  exact strBin_run hz w T
 ·cases h
theorem un_sound {P : Program} {V : Vw} {w : World} {op : UnOp} {p r : PV} {u : Value} (hp : Rep V p u) (h : unPV op p = some r) :
  ∃ z, (Op.unary op u).run P w = .ok z w ∧ Rep V r z := by
 unfold unPV at h
 split at h
 ·cases hp.sc_inv; cases h; exact ⟨_, by simp [Op.unary], .sc _⟩
 ·cases hp.sc_inv; cases h; exact ⟨_, by simp [Op.unary, Op.intArith], .sc _⟩
 ·cases h
theorem cells_rep {V : Vw} {cs : List PV} {vs : List Value} (h : RepL V cs vs) : Rep V (.agg cs) (.agg vs.toArray) := .agg cs vs h.1 h.2
theorem zero_rep {V : Vw} : ∀ (z : List Value), RepL V (z.map .sc) z
 | [] => RepL.nil
 | x :: r => RepL.cons (.sc x) (zero_rep r)
end
section
theorem loadVar_sound {P : Program} {V : Vw} {s : St} {p x : PV} {v : Value} {T : TypeId} {d : TypeDesc} {sz : Nat} (hO : Owns V s.H) (hp : Rep V p v) (hd : P.underlying T = some d) (hz : szOf P T = some sz)
  (h : ((loadP s p sz).bind fun cs => if aggB d = true then some (.agg cs) else if sz = 1 then cs.head? else none) = some x) :
  ∃ b off u, v = .pointer (some ⟨b, off, none⟩) ∧ (loadVar T ⟨b, off, none⟩).run P V.w = .ok u V.w ∧ Rep V x u := by
 simp only [Option.bind_eq_some_iff] at h
 obtain ⟨cs, hcs, h⟩ := h
 obtain ⟨b, off, vs, rfl, hr, hn, hc⟩ := load_sound hO hp hcs
 by_cases hb : aggB d = true
 ·rw [if_pos hb] at h
  cases h
  refine ⟨b, off, .agg vs.toArray, rfl, ?_, cells_rep hr⟩
  have := run_loadCells_list (P := P) V.w ⟨b, off, none⟩ vs (fun j u hu => by rw [addr_add]; exact hc j u hu)
  rw [hn] at this
  unfold loadVar
  simp only [Sem.run_bind, run_agg hd, Result.andThen_ok]
  rw [if_pos hb]
  simp only [Sem.run_bind, run_size hz, Result.andThen_ok, this]
  simp
 ·rw [if_neg hb] at h
  split at h
  ·rename_i h1
   obtain ⟨u, hu, hru⟩ := hr.get (i := 0) (by rw [List.head?_eq_getElem?] at h; exact h)
   refine ⟨b, off, u, rfl, ?_, hru⟩
   have := hc 0 u hu
   simp only [Nat.add_zero] at this
   unfold loadVar
   simp only [Sem.run_bind, run_agg hd, Result.andThen_ok]
   rw [if_neg hb]
   simp [load, Sem.run, this]
  ·cases h
theorem part_sound {P : Program} {V : Vw} {cs : List PV} {vs : List Value} {T : TypeId} {d : TypeDesc} {sz off : Nat} {x : PV} (hr : RepL V cs vs) (hd : P.underlying T = some d) (hz : szOf P T = some sz)
  (h : (if aggB d = true then (if off + sz ≤ cs.length then some (PV.agg ((cs.drop off).take sz)) else none) else cs[off]?) = some x) :
  ∃ u, (part T vs.toArray off).run P V.w = .ok u V.w ∧ Rep V x u := by
 by_cases hb : aggB d = true
 ·rw [if_pos hb] at h
  split at h
  ·cases h
   have e : vs.toArray.extract off (off + sz) = ((vs.drop off).take sz).toArray := by simp [List.extract_toArray, List.extract_eq_take_drop]
   refine ⟨.agg ((vs.drop off).take sz).toArray, ?_, cells_rep ((hr.drop off).take sz)⟩
   unfold part
   simp only [Sem.run_bind, run_agg hd, Result.andThen_ok]
   rw [if_pos hb]
   simp only [Sem.run_bind, run_size hz, Result.andThen_ok, e]
   simp
  ·cases h
 ·rw [if_neg hb] at h
  obtain ⟨u, hu, hru⟩ := hr.get h
  refine ⟨u, ?_, hru⟩
  unfold part
  simp only [Sem.run_bind, run_agg hd, Result.andThen_ok]
  rw [if_neg hb]
  simp [hu]
theorem mop_fieldAddr {P : Program} {pol : Pol} {T : TypeId} {x : Operand} {f : Nat} {dst : Option Tmp} {ty : TypeId} {pos : String} {af : Array Edge} {g : Option (Nat × Bool)} {m : MOp}
  (h : mop P pol ⟨dst, .fieldAddr T x f, ty, pos, af, g⟩ = some m) : ∃ fs fd k, P.underlying T = some (.struct fs) ∧ fs[f]? = some fd ∧ szOf P fd.type = some (k + 1) ∧ m = .fa x fd.offset := by
 simp only [mop] at h
 split at h
 ·rename_i fs hu
  simp only [Option.bind_eq_some_iff] at h
  obtain ⟨fd, hf, h⟩ := h
  split at h
  ·rename_i k hk
   cases h
   exact ⟨fs, fd, k, hu, hf, hk, rfl⟩
  ·cases h
 ·cases h
theorem mop_field {P : Program} {pol : Pol} {T : TypeId} {x : Operand} {f : Nat} {dst : Option Tmp} {ty : TypeId} {pos : String} {af : Array Edge} {g : Option (Nat × Bool)} {m : MOp}
  (h : mop P pol ⟨dst, .field T x f, ty, pos, af, g⟩ = some m) : ∃ fs fd sz d, P.underlying T = some (.struct fs) ∧ fs[f]? = some fd ∧ szOf P fd.type = some sz ∧ P.underlying fd.type = some d ∧ m = .fd x fd.offset sz (aggB d) := by
 simp only [mop] at h
 split at h
 ·rename_i fs hu
  simp only [Option.bind_eq_some_iff, Option.map_eq_some_iff] at h
  obtain ⟨fd, hf, sz, hk, d, hd, rfl⟩ := h
  exact ⟨fs, fd, sz, d, hu, hf, hk, hd, rfl⟩
 ·cases h
theorem fieldAddr_sound {P : Program} {V : Vw} {s : St} {p r : PV} {v : Value} {T : TypeId} {f k : Nat} {fs : Array Field} {fd : Field} (hu : P.underlying T = some (.struct fs)) (hf : fs[f]? = some fd) (hk : szOf P fd.type = some (k + 1)) (hp : Rep V p v)
  (h : (match (generalizing := false) p with
   | .ptr c => if fd.offset ≤ c.length then some (PV.ptr (c.drop fd.offset)) else none
   | .optr id o => some (.optr id (o + fd.offset))
   | _ => none) = some r) : ∃ u, (Instr.fieldAt T v f).run P V.w = .ok u V.w ∧ Rep V r u := by
 have key : ∀ b off, (Instr.fieldAt T (.pointer (some ⟨b, off, none⟩)) f).run P V.w = .ok (.pointer (some ⟨b, off + fd.offset, none⟩)) V.w := by
  intro b off
  unfold Instr.fieldAt
  simp only [Sem.run_bind, run_under hu, Result.andThen_ok, hf, Instr.sureAddr, fieldPlace, run_size hk]
  simp [addr_add, run_size hk]
 split at h
 ·rename_i c
  split at h
  ·cases h
   obtain ⟨b, off, vs, rfl, _⟩ := hp.ptr_inv
   exact ⟨_, key b off, hp.ptr_drop fd.offset⟩
  ·cases h
 ·cases h
  obtain ⟨b, rfl, hb⟩ := hp.optr_inv
  exact ⟨_, key b _, .optr_mk hb hp.optr_shape⟩
 ·cases h
theorem flatten_drop {α : Type} {sz : Nat} : ∀ {es : List (List α)} (hs : ∀ e ∈ es, e.length = sz) (n : Nat), es.flatten.drop (n * sz) = (es.drop n).flatten
 | _, hs, 0 => by simp
 | [], hs, n + 1 => by simp
 | x :: r, hs, n + 1 => by
  have h1 := hs x (by simp)
  rw [List.flatten_cons, List.drop_succ_cons, ← flatten_drop (fun e he => hs e (by simp [he])) n, Nat.succ_mul, List.drop_append, List.drop_eq_nil_of_le (by omega), List.nil_append]
  congr 1
  omega
theorem indexSlice_sound {P : Program} {V : Vw} {p q r : PV} {u v : Value} {T e : TypeId} {sz : Nat} {tl : Bool} (hu : P.underlying T = some (.slice e)) (hz : szOf P e = some sz) (hp : Rep V p u) (hq : Rep V q v)
  (h : (match (generalizing := false) p, q with
   | .sl sz' es, .sc (.int _ n) => if 0 ≤ n ∧ sz' = sz then (es[n.toNat]?).map (tailP tl es n) else none
   | .osl id off len sz', .sc (.int _ n) => if 0 ≤ n ∧ n < len ∧ sz' = sz then some (.optr id (off + n.toNat * sz)) else none
   | .fsl sz' es, .sc (.int _ n) => if 0 ≤ n ∧ sz' = sz then (es[n.toNat]?).map (tailF tl es n) else none
   | _, _ => none) = some r) : ∃ z, (Instr.indexAt T u v).run P V.w = .ok z V.w ∧ Rep V r z := by
 have key : ∀ (b off len cap : Nat) (k : IntKind) (n : Int), 0 ≤ n → n < (len : Int) → (Instr.indexAt T (.slice (some ⟨b, off, none⟩) len cap) (.int k n)).run P V.w = .ok (.pointer (some ⟨b, off + n.toNat * sz, none⟩)) V.w := by
  intro b off len cap k n h0 h1
  unfold Instr.indexAt
  simp only [asIntOf, Sem.run_bind, Sem.run, Result.andThen_ok, run_under hu, pure]
  rw [if_pos ⟨h0, h1⟩]
  simp [run_size hz, addr_add]
 split at h
 ·rename_i sz' es k n
  split at h
  ·rename_i hc
   obtain ⟨h0, rfl⟩ := hc
   simp only [Option.map_eq_some_iff] at h
   obtain ⟨x, hx, rfl⟩ := h
   cases hq.sc_inv
   obtain ⟨hi, hxe⟩ := List.getElem?_eq_some_iff.1 hx
   cases hp with
   | slNil _ A cap hc => simp at hi
   | sl _ _ b off len cap hlen hs h1 h2 hpp =>
    refine ⟨_, key b off len cap k n h0 (by omega), ?_⟩
    cases tl with
    | false =>
     have := (hpp.ptr_drop (n.toNat * sz')).ptr_take sz'
     rw [flatten_at hs hx] at this
     exact this
    | true =>
     have := hpp.ptr_drop (n.toNat * sz')
     rw [flatten_drop hs] at this
     exact this
  ·cases h
 ·rename_i id off len sz' k n
  split at h
  ·rename_i hc
   obtain ⟨h0, h1, rfl⟩ := hc
   cases h
   cases hq.sc_inv
   obtain ⟨b, cap, c, T', fr, rfl, hb, _, _, hsh, _⟩ := hp.osl_inv
   exact ⟨_, key b off len cap k n h0 h1, .optr_mk hb ⟨_, _, _, hsh⟩⟩
  ·cases h
 ·rename_i sz' es k n
  split at h
  ·rename_i hc
   obtain ⟨h0, rfl⟩ := hc
   simp only [Option.map_eq_some_iff] at h
   obtain ⟨x, hx, rfl⟩ := h
   cases hq.sc_inv
   obtain ⟨hi, hxe⟩ := List.getElem?_eq_some_iff.1 hx
   cases hp with
   | fsl _ _ _ hcl hp =>
   cases hp with
   | slNil _ A cap hc => simp at hi
   | sl _ _ b off len cap hlen hs h1 h2 hpp =>
    refine ⟨_, key b off len cap k n h0 (by omega), ?_⟩
    cases tl with
    | false =>
     have := (hpp.ptr_drop (n.toNat * sz')).ptr_take sz'
     rw [flatten_at hs hx] at this
     exact this
    | true =>
     have := hpp.ptr_drop (n.toNat * sz')
     rw [flatten_drop hs] at this
     refine .fptr _ _ (fun b' off' e => ?_) this
     cases e
     exact hcl b off len cap rfl (fun e => by rw [e] at hi; simp at hi)
  ·cases h
 ·cases h
theorem indexArr_sound {P : Program} {V : Vw} {p q r : PV} {u v : Value} {T e : TypeId} {sz len : Nat} (hu : P.underlying T = some (.array len e)) (hz : szOf P e = some sz) (hp : Rep V p u) (hq : Rep V q v)
  (h : (match (generalizing := false) p, q with
   | .ptr c, .sc (.int _ n) => if 0 ≤ n ∧ n < len ∧ n.toNat * sz ≤ c.length then some (PV.ptr (c.drop (n.toNat * sz))) else none
   | .optr id off, .sc (.int _ n) => if 0 ≤ n ∧ n < len then some (.optr id (off + n.toNat * sz)) else none
   | _, _ => none) = some r) : ∃ z, (Instr.indexAt T u v).run P V.w = .ok z V.w ∧ Rep V r z := by
 have key : ∀ (b off : Nat) (k : IntKind) (n : Int), 0 ≤ n → n < (len : Int) → (Instr.indexAt T (.pointer (some ⟨b, off, none⟩)) (.int k n)).run P V.w = .ok (.pointer (some ⟨b, off + n.toNat * sz, none⟩)) V.w := by
  intro b off k n h0 h1
  unfold Instr.indexAt
  simp only [asIntOf, Sem.run_bind, Sem.run, Result.andThen_ok, run_under hu, pure, Instr.sureAddr]
  rw [if_pos ⟨h0, h1⟩]
  simp [run_size hz, addr_add]
 split at h
 ·rename_i c k n
  split at h
  ·rename_i hc
   obtain ⟨h0, h1, h2⟩ := hc
   cases h
   cases hq.sc_inv
   obtain ⟨b, off, vs, rfl, _⟩ := hp.ptr_inv
   exact ⟨_, key b off k n h0 h1, hp.ptr_drop _⟩
  ·cases h
 ·rename_i id off k n
  split at h
  ·rename_i hc
   obtain ⟨h0, h1⟩ := hc
   cases h
   cases hq.sc_inv
   obtain ⟨b, rfl, hb⟩ := hp.optr_inv
   exact ⟨_, key b off k n h0 h1, .optr_mk hb hp.optr_shape⟩
  ·cases h
 ·cases h
theorem indexVal_sound {P : Program} {V : Vw} {p q r : PV} {u v : Value} {T e : TypeId} {d : TypeDesc} {sz len : Nat} (hu : P.underlying T = some (.array len e)) (hz : szOf P e = some sz) (hd : P.underlying e = some d) (hp : Rep V p u) (hq : Rep V q v)
  (h : (match (generalizing := false) p, q with
   | .agg c, .sc (.int _ n) => if 0 ≤ n ∧ n < len then (if aggB d then (if n.toNat * sz + sz ≤ c.length then some (PV.agg ((c.drop (n.toNat * sz)).take sz)) else none) else c[n.toNat * sz]?) else none
   | _, _ => none) = some r) : ∃ z, (Instr.index T u v).run P V.w = .ok z V.w ∧ Rep V r z := by
 split at h
 ·rename_i c k n
  split at h
  ·rename_i hc
   cases hq.sc_inv
   obtain ⟨vs, rfl, hr⟩ := hp.agg_inv
   obtain ⟨z, hz1, hz2⟩ := part_sound (off := n.toNat * sz) hr hd hz h
   refine ⟨z, ?_, hz2⟩
   unfold Instr.index
   simp only [asIntOf, Sem.run_bind, Sem.run, Result.andThen_ok, run_under hu, pure]
   rw [if_pos hc]
   simp only [Sem.run_bind, run_size hz, Result.andThen_ok]
   exact hz1
  ·cases h
 ·cases h
theorem indexStr_sound {P : Program} {V : Vw} {p q r : PV} {u v : Value} {T : TypeId} (hu : P.underlying T = some .string) (hp : Rep V p u) (hq : Rep V q v)
  (h : (match (generalizing := false) p, q with
   | .sc (.string b), .sc (.int _ n) => if 0 ≤ n then (b[n.toNat]?).map fun c => PV.sc (.int .u8 c.toNat) else none
   | _, _ => none) = some r) : ∃ z, (Instr.index T u v).run P V.w = .ok z V.w ∧ Rep V r z := by
 split at h
 ·rename_i b k n
  split at h
  ·rename_i hc
   cases hq.sc_inv
   cases hp.sc_inv
   simp only [Option.map_eq_some_iff] at h
   obtain ⟨c, hcb, rfl⟩ := h
   refine ⟨_, ?_, .sc _⟩
   unfold Instr.index
   simp only [asIntOf, Sem.run_bind, Sem.run, Result.andThen_ok, run_under hu, pure]
   rw [if_pos hc, hcb]
   rfl
  ·cases h
 ·cases h
theorem len_sound {P : Program} {V : Vw} {p : PV} {n : Nat} {u : Value} {T ty : TypeId} {str : Bool} (hu : if str = true then P.underlying T = some .string else ∃ e, P.underlying T = some (.slice e)) (hp : Rep V p u) (h : lenPV str p = some n) :
  (Builtin.len_ #[T] ty #[u]).run P V.w = .ok (.int .i64 n) V.w := by
 cases str with
 | false =>
  simp only [Bool.false_eq_true, if_false] at hu
  obtain ⟨e, hu⟩ := hu
  have key : ∀ A len cap, (Builtin.len_ #[T] ty #[.slice A len cap]).run P V.w = .ok (.int .i64 len) V.w := by
   intro A len cap
   unfold Builtin.len_
   simp [run_under hu, goInt]
  cases p with
  | sl sz es =>
   simp only [lenPV, Option.some.injEq] at h
   subst h
   cases hp with
   | slNil _ A cap hc => exact key _ _ _
   | sl _ _ b off len cap hlen hs h1 h2 hpp => rw [hlen]; exact key _ _ _
  | csl sz es =>
   simp only [lenPV, Option.some.injEq] at h
   subst h
   cases hp with
   | csl _ _ A len hp =>
   generalize hl : len = cap at hp
   have h2 : es.length = len := by
    subst hl
    cases hp with
    | slNil => rfl
    | sl _ _ b off len cap hlen => exact hlen
   rw [h2, ← hl]
   exact key _ _ _
  | ocap id off len sz =>
   simp only [lenPV, Option.some.injEq] at h
   subst h
   cases hp
   exact key _ _ _
  | fsl sz es =>
   simp only [lenPV, Option.some.injEq] at h
   subst h
   cases hp with
   | fsl _ _ _ hcl hp =>
   cases hp with
   | slNil _ A cap hc => exact key _ _ _
   | sl _ _ b off len cap hlen hs h1 h2 hpp => rw [hlen]; exact key _ _ _
  | osl id off len sz =>
   simp only [lenPV, Option.some.injEq] at h
   subst h
   obtain ⟨b, cap, c, T', fr, rfl, _⟩ := hp.osl_inv
   exact key _ _ _
  | sc v =>
   cases hp.sc_inv
   cases u <;> simp only [lenPV, reduceCtorEq, Option.some.injEq] at h
   subst h
   exact key _ _ _
  | _ => simp [lenPV] at h
 | true =>
  simp only [if_true] at hu
  cases p with
  | sc v =>
   cases hp.sc_inv
   cases u <;> simp only [lenPV, reduceCtorEq, Option.some.injEq] at h
   subst h
   unfold Builtin.len_
   simp [run_under hu, goInt]
  | _ => simp [lenPV] at h
theorem part_eq {P : Program} {V : Vw} {cs : List PV} {vs : List Value} {T : TypeId} {d : TypeDesc} {sz off : Nat} {x : PV} (hr : RepL V cs vs) (hd : P.underlying T = some d) (hz : szOf P T = some sz) (h : partV cs off sz (aggB d) = some x) :
  ∃ u, (part T vs.toArray off).run P V.w = .ok u V.w ∧ Rep V x u := part_sound hr hd hz h
theorem cellsOf_of {P : Program} {t : TypeId} {n : Nat} (h : szOf P t = some n) : P.cellsOf t = n := by
 unfold szOf at h
 cases hi : P.info? t with
 | none => simp [hi] at h
 | some i => simp [hi] at h; subst h; simp [Program.cellsOf, hi]
theorem eqE_sound {P : Program} {V : Vw} : ∀ (d : Nat) (t : TypeId) (e : ETy) (D : Nat) (p q : PV) (u v : Value) (b : Bool), etyOf P d t = some e → d ≤ D → Rep V p u → Rep V q v → eqE e p q = some b → (Op.equalIn D t u v).run P V.w = .ok b V.w := by
 intro d
 induction d with
 | zero => intro t e D p q u v b h; simp [etyOf] at h
 | succ d ih =>
  intro t e D p q u v b h hD hp hq hb
  obtain ⟨D, rfl⟩ : ∃ k, D = k + 1 := ⟨D - 1, by omega⟩
  simp only [etyOf] at h
  split at h
  ·rename_i hu
   cases h
   simp only [eqE] at hb
   unfold eqBool at hb
   split at hb
   ·cases hb
    cases hp.sc_inv
    cases hq.sc_inv
    exact run_equalIn_bool' V.w D t _ _ hu
   ·cases hb
  ·rename_i k hu
   cases h
   simp only [eqE] at hb
   unfold eqInt at hb
   split at hb
   ·split at hb
    ·rename_i hk
     subst hk
     cases hb
     cases hp.sc_inv
     cases hq.sc_inv
     rw [run_equalIn_int V.w D t _ k _ _ hu]
     first | rfl | (congr 1; rw [Bool.eq_iff_iff]; simp)
    ·cases hb
   ·cases hb
  ·rename_i hu
   cases h
   simp only [eqE] at hb
   unfold eqStr at hb
   split at hb
   ·cases hb
    cases hp.sc_inv
    cases hq.sc_inv
    exact run_equalIn_string V.w D t _ _ hu
   ·cases hb
  ·rename_i fs hu
   split at h
   ·rename_i hst
    simp only [Option.map_eq_some_iff] at h
    obtain ⟨ps, hps, rfl⟩ := h
    simp only [eqE] at hb
    split at hb
    ·rename_i xs ys
     obtain ⟨us, rfl, hru⟩ := hp.agg_inv
     obtain ⟨vs, rfl, hrv⟩ := hq.agg_inv
     have hfs : P.fieldsOf t = fs := by simp [Program.fieldsOf, hu]
     rw [run_equalIn_struct V.w D t _ _ (by rw [hfs]; exact hu) hst, hfs]
     clear hu hfs hst hp hq
     generalize fs.toList = l at hps
     induction l generalizing ps b with
     | nil =>
      simp at hps
      subst hps
      simp only [eqParts, Option.some.injEq] at hb
      subst hb
      simp [Op.eqFields]
     | cons f l ihl =>
      simp only [List.foldr_cons] at hps
      split at hps
      ·rename_i hname
       simp only [Option.bind_eq_some_iff, Option.map_eq_some_iff] at hps
       obtain ⟨e, he, sz, hsz, dd, hdd, ps', hps', rfl⟩ := hps
       simp only [eqParts, Option.bind_eq_some_iff, Option.map_eq_some_iff] at hb
       obtain ⟨x, hx, y, hy, c, hc, r, hr, rfl⟩ := hb
       obtain ⟨x', hx1, hx2⟩ := part_eq (P := P) hru hdd hsz hx
       obtain ⟨y', hy1, hy2⟩ := part_eq (P := P) hrv hdd hsz hy
       have h1 := ih f.type e D x y x' y' c he (by omega) hx2 hy2 hc
       have h2 := ihl r ps' ‹_› ‹_›
       simp only [Op.eqFields]
       rw [if_pos hname]
       simp only [Sem.run_bind, hx1, hy1, h1, Result.andThen_ok]
       cases c
       ·simp
       ·simp only [Bool.not_true, Bool.false_eq_true, if_false, Bool.true_and]
        exact h2
      ·cases hps
    ·cases hb
   ·cases h
  ·rename_i n el hu
   simp only [Option.bind_eq_some_iff, Option.map_eq_some_iff] at h
   obtain ⟨e, he, sz, hsz, dd, hdd, rfl⟩ := h
   simp only [eqE] at hb
   split at hb
   ·rename_i xs ys
    obtain ⟨us, rfl, hru⟩ := hp.agg_inv
    obtain ⟨vs, rfl, hrv⟩ := hq.agg_inv
    obtain ⟨i, hi⟩ : ∃ i, P.info? el = some i := by
     unfold szOf at hsz
     cases hi : P.info? el with
     | none => simp [hi] at hsz
     | some i => exact ⟨i, rfl⟩
    rw [run_equalIn_array V.w D _ _ hu hi, cellsOf_of hsz]
    clear hu hp hq
    generalize List.range n = l at hb
    induction l generalizing b with
    | nil =>
     simp only [List.map_nil, eqParts, Option.some.injEq] at hb
     subst hb
     simp [Op.eqItems]
    | cons k l ihl =>
     simp only [List.map_cons, eqParts, Option.bind_eq_some_iff, Option.map_eq_some_iff] at hb
     obtain ⟨x, hx, y, hy, c, hc, r, hr, rfl⟩ := hb
     obtain ⟨x', hx1, hx2⟩ := part_eq (P := P) hru hdd hsz hx
     obtain ⟨y', hy1, hy2⟩ := part_eq (P := P) hrv hdd hsz hy
     have h1 := ih el e D x y x' y' c he (by omega) hx2 hy2 hc
     have h2 := ihl r hr
     simp only [Op.eqItems, Sem.run_bind, hx1, hy1, h1, Result.andThen_ok]
     cases c
     ·simp
     ·simp only [Bool.not_true, Bool.false_eq_true, if_false, Bool.true_and]
      exact h2
   ·cases hb
  ·cases h
theorem etyOf_node {P : Program} {T : TypeId} {d : Nat} {e : ETy} (hd : (∃ fs, P.underlying T = some (.struct fs)) ∨ ∃ n el, P.underlying T = some (.array n el)) (he : etyOf P (d + 1) T = some e) : ∃ ps, e = .node ps := by
 simp only [etyOf] at he
 rcases hd with ⟨fs, hu⟩ | ⟨n, el, hu⟩
 ·rw [hu] at he
  simp only [] at he
  split at he
  ·simp only [Option.map_eq_some_iff] at he
   obtain ⟨ps, _, rfl⟩ := he
   exact ⟨ps, rfl⟩
  ·cases he
 ·rw [hu] at he
  simp only [Option.bind_eq_some_iff, Option.map_eq_some_iff] at he
  obtain ⟨_, _, _, _, _, _, rfl⟩ := he
  exact ⟨_, rfl⟩
theorem eqa_sound {P : Program} {V : Vw} {T : TypeId} {e : ETy} {p q : PV} {u v : Value} {b : Bool} (hd : (∃ fs, P.underlying T = some (.struct fs)) ∨ ∃ n el, P.underlying T = some (.array n el)) (hg : P.eqGuardType P.depth T = false) (he : etyOf P 20 T = some e)
  (hp : Rep V p u) (hq : Rep V q v) (hb : eqE e p q = some b) (x y : Operand) :
  ((do eqGuard .eql T x y u v; binOp .eql T u v : Sem Value).run P V.w = .ok (.bool b) V.w) ∧ (do eqGuard .neq T x y u v; binOp .neq T u v : Sem Value).run P V.w = .ok (.bool !b) V.w := by
 have hrun := eqE_sound 20 T e 10000 p q u v b he (by omega) hp hq hb
 have hnode : ∃ ps, e = .node ps := etyOf_node (d := 19) hd he
 obtain ⟨ps, rfl⟩ := hnode
 simp only [eqE] at hb
 split at hb
 ·obtain ⟨us, rfl, _⟩ := hp.agg_inv
  obtain ⟨vs, rfl, _⟩ := hq.agg_inv
  constructor
  ·simp only [Sem.run_bind, run_eqGuard_agg V.w .eql T x y _ _ hg, Result.andThen_ok, run_eql_struct, hrun]
  ·simp only [Sem.run_bind, run_eqGuard_agg V.w .neq T x y _ _ hg, Result.andThen_ok, run_neq_struct, hrun]
 ·cases hb
theorem eqb_sound {P : Program} {V : Vw} {T : TypeId} {p q : PV} {u v : Value} {b : Bool} (hu : P.underlying T = some .bool)
  (hp : Rep V p u) (hq : Rep V q v) (hb : eqE .bool p q = some b) (x y : Operand) :
  ((do eqGuard .eql T x y u v; binOp .eql T u v : Sem Value).run P V.w = .ok (.bool b) V.w) ∧ (do eqGuard .neq T x y u v; binOp .neq T u v : Sem Value).run P V.w = .ok (.bool !b) V.w := by
 have he : etyOf P (19 + 1) T = some .bool := by unfold etyOf; rw [hu]
 have hrun := eqE_sound 20 T .bool 10000 p q u v b he (by omega) hp hq hb
 simp only [eqE] at hb
 unfold eqBool at hb
 split at hb
 ·cases hp.sc_inv
  cases hq.sc_inv
  constructor
  ·simp only [eqGuard, binOp, Op.equal, Op.maxDepth, Sem.run_bind, hrun, Result.andThen_ok, Sem.run_pure]
   simp [hrun]
  ·simp only [eqGuard, binOp, Op.equal, Op.maxDepth, Sem.run_bind, hrun, Result.andThen_ok, Sem.run_pure]
   simp [hrun]
 ·cases hb
theorem build_sound {P : Program} {V : Vw} {s : St} {a : Act} {T : TypeId} {z : List Value} {parts : Array (Nat × Operand)} {ms : List (Nat × Nat × Operand)} {ps : List (Nat × List PV)} {out : List PV} {d : TypeDesc}
  (hs : ∀ t, Rep V (s.s t) (a.tmps.getD t undef)) (hz : zeroOf P T = some z) (hd : P.underlying T = some d) (place : Nat → Option (Nat × Nat))
  (hpl : (∃ fs, d = .struct fs ∧ place = fun i => (fs[i]?).bind fun fd => (szOf P fd.type).map fun sz => (fd.offset, sz)) ∨ (∃ n e sz, d = .array n e ∧ szOf P e = some sz ∧ place = fun i => some (i * sz, sz)))
  (hm : partsOf P place parts.toList = some ms) (hp : partsP s ms = some ps) (hf : fillP (z.map .sc) ps = some out) (hall : ∀ fs, d = .struct fs → ∀ fd ∈ fs, (szOf P fd.type).isSome = true) :
  ∃ u, (Instr.build T (parts.map fun (i, x) => (i, a.eval x))).run P V.w = .ok u V.w ∧ Rep V (.agg out) u := by
 obtain ⟨zv, hzr, hzc⟩ := run_zero (P := P) hz V.w
 rw [partsOf_foldr] at hm
 obtain ⟨arr', h4, h5⟩ := fill_sound (place := place) hs parts.toList ms ps _ out zv.cells hm hp hf (by rw [hzc]; exact zero_rep z)
 refine ⟨.agg arr', ?_, ?_⟩
 ·unfold Instr.build
  simp only [Sem.run_bind, hzr, Result.andThen_ok, run_under hd]
  rcases hpl with ⟨fs, rfl, hpl⟩ | ⟨n, e, sz, rfl, hsz, hpl⟩
  ·have hmap : ∀ (l : List Field), (∀ fd ∈ l, (szOf P fd.type).isSome = true) → (l.mapM (m := Sem) fun f => do pure (f.offset, ← sizeOf f.type)).run P V.w = .ok (l.map fun fd => (fd.offset, (szOf P fd.type).getD 0)) V.w := by
    intro l
    induction l with
    | nil => intro _; simp
    | cons fd r ih =>
     intro hl
     obtain ⟨sz, hsz⟩ := Option.isSome_iff_exists.1 (hl fd (by simp))
     simp only [List.mapM_cons, Sem.run_bind, run_size hsz, Result.andThen_ok, Sem.run_pure, ih (fun x hx => hl x (by simp [hx])), List.map_cons, hsz, Option.getD_some]
   have hmm : (fs.mapM (m := Sem) fun f => do pure (f.offset, ← sizeOf f.type)).run P V.w = .ok (fs.map fun fd => (fd.offset, (szOf P fd.type).getD 0)) V.w := by
    rw [Array.mapM_eq_mapM_toList]
    simp only [Sem.run_map, hmap fs.toList (fun fd hfd => hall fs rfl fd (by simpa using hfd)), Result.andThen_ok]
    rw [← Array.toList_map, Array.toArray_toList]
   have hpl2 : place = fun i => (fs.map fun fd => (fd.offset, (szOf P fd.type).getD 0))[i]? := by
    rw [hpl]
    funext i
    rw [Array.getElem?_map]
    cases hfi : fs[i]? with
    | none => rfl
    | some fd =>
     have hmem : fd ∈ fs := Array.mem_of_getElem? hfi
     obtain ⟨sz, hsz⟩ := Option.isSome_iff_exists.1 (hall fs rfl fd hmem)
     simp [hsz]
   rw [hpl2] at h4
   simp only [Sem.run_bind, hmm, Result.andThen_ok]
   have e : (parts.map fun (i, x) => (i, a.eval x)).toList = parts.toList.map fun (i, x) => (i, a.eval x) := by simp
   rw [e, h4]
   rfl
  ·rw [hpl] at h4
   simp only [Sem.run_bind, run_size hsz, Result.andThen_ok]
   have e : (parts.map fun (i, x) => (i, a.eval x)).toList = parts.toList.map fun (i, x) => (i, a.eval x) := by simp
   rw [e, h4]
   rfl
 ·have := cells_rep h5
  simpa using this
def Bd (o : Option Value) (d n : Int) : Prop := (o = none ∧ n = d) ∨ ∃ k, o = some (.int k n)
theorem run_bounds {P : Program} {w : World} {isS : Bool} {len cap : Nat} {lo hi mx : Option Value} {l h m : Int} (hl : Bd lo 0 l) (hh : Bd hi len h) (hm : Bd mx cap m) (hx : mx.isSome = true → hi.isSome = true) (h0 : 0 ≤ l) (h1 : l ≤ h) (h2 : h ≤ m) (h3 : m ≤ cap) :
  (Instr.sliceBounds isS len cap lo hi mx).run P w = .ok (l.toNat, h.toNat, m.toNat) w := by
 have e0 : 0 ≤ h := by omega
 have e1 : 0 ≤ m := by omega
 have e2 : h ≤ cap := by omega
 have e3 : ((h.toNat : Nat) : Int) = h := by omega
 have e4 : ((m.toNat : Nat) : Int) = m := by omega
 have e5 : max h 0 = h := by omega
 have e6 : max m 0 = m := by omega
 rcases hl with ⟨rfl, rfl⟩ | ⟨kl, rfl⟩ <;> rcases hh with ⟨rfl, rfl⟩ | ⟨kh, rfl⟩ <;> rcases hm with ⟨rfl, rfl⟩ | ⟨km, rfl⟩ <;>
  first
   | (exfalso; simp at hx; done)
   | (simp [Instr.sliceBounds, run_sliceBound, *]; done)
theorem flatten_take {α : Type} {sz : Nat} : ∀ {es : List (List α)} (hs : ∀ e ∈ es, e.length = sz) (n : Nat), es.flatten.take (n * sz) = (es.take n).flatten
 | _, hs, 0 => by simp
 | [], hs, n + 1 => by simp
 | x :: r, hs, n + 1 => by
  have h1 := hs x (by simp)
  rw [List.flatten_cons, List.take_succ_cons, List.flatten_cons, ← flatten_take (fun e he => hs e (by simp [he])) n, Nat.succ_mul, List.take_append, List.take_of_length_le (by omega)]
  congr 2
  omega
def cutA (A : Option Addr) (l m sz : Nat) : Option Addr := if m = l then A else A.map (·.add (l * sz))
theorem sl_cut {V : Vw} {sz : Nat} {es : List (List PV)} {A : Option Addr} {len cap l h m : Nat} (hr : Rep V (.sl sz es) (.slice A len cap)) (h1 : l ≤ h) (h2 : h ≤ es.length) (h3 : h ≤ m) (h4 : m ≤ cap) :
  Rep V (.sl sz ((es.drop l).take (h - l))) (.slice (cutA A l m sz) (h - l) (m - l)) := by
 have hcap : cap ≤ maxLen := by
  cases hr with
  | slNil _ _ _ hc => exact hc
  | sl _ _ _ _ _ _ _ _ _ hc => exact hc
 by_cases hlh : l = h
 ·subst hlh
  simp only [Nat.sub_self, List.take_zero]
  exact .slNil _ _ _ (by omega)
 ·cases hr with
  | slNil => simp at h2; omega
  | sl _ _ b off _ _ hlen hs h5 h6 hp =>
   have hml : ¬ m = l := by omega
   simp only [cutA, if_neg hml, Option.map_some]
   rw [addr_add]
   refine .sl sz _ b (off + l * sz) (h - l) (m - l) (by simp; omega) (fun e he => hs e (List.mem_of_mem_drop (List.mem_of_mem_take he))) (by omega) (by omega) ?_
   have h7 := (hp.ptr_drop (l * sz)).ptr_take ((h - l) * sz)
   rw [flatten_drop hs, flatten_take (fun e he => hs e (List.mem_of_mem_drop he))] at h7
   exact h7
theorem run_slice_cut {P : Program} {w : World} {T e : TypeId} {sz : Nat} {A : Option Addr} {len cap : Nat} {lo hi mx : Option Value} {l h m : Int} (hu : P.underlying T = some (.slice e)) (hz : szOf P e = some sz)
  (hl : Bd lo 0 l) (hh : Bd hi len h) (hm : Bd mx cap m) (hx : mx.isSome = true → hi.isSome = true) (h0 : 0 ≤ l) (h1 : l ≤ h) (h2 : h ≤ m) (h3 : m ≤ cap) :
  (Instr.sliceAt T (.slice A len cap) lo hi mx).run P w = .ok (.slice (cutA A l.toNat m.toNat sz) (h.toNat - l.toNat) (m.toNat - l.toNat)) w := by
 simp [Instr.sliceAt, Instr.slice, run_under hu, run_bounds hl hh hm hx h0 h1 h2 h3, run_size hz, cutA]
theorem slc_sound {P : Program} {V : Vw} {T : TypeId} {sz : Nat} {str : Bool} {p r : PV} {u : Value} {lo hi mx : Option Value} {l h : Int} {m : Option Int}
  (hu : (str = false ∧ ∃ e, P.underlying T = some (.slice e) ∧ szOf P e = some sz) ∨ (str = true ∧ P.underlying T = some .string))
  (hl : Bd lo 0 l) (hh : Bd hi (slcLen p) h) (hm : (m = none ∧ mx = none) ∨ ∃ k n, m = some n ∧ mx = some (.int k n)) (hx : mx.isSome = true → hi.isSome = true)
  (hp : Rep V p u) (hr : slcI sz str l h m p = some r) : ∃ z, (Instr.sliceAt T u lo hi mx).run P V.w = .ok z V.w ∧ Rep V r z := by
 have hcase : ∀ {A : Option Addr} {len cap : Nat}, u = .slice A len cap → (m = none ∧ mx = none ∧ Bd mx cap (cap : Int)) ∨ (∃ n, m = some n ∧ Bd mx cap n) := by
  intro A len cap _
  rcases hm with ⟨rfl, rfl⟩ | ⟨k, n, rfl, rfl⟩
  ·exact .inl ⟨rfl, rfl, .inl ⟨rfl, rfl⟩⟩
  ·exact .inr ⟨n, rfl, .inr ⟨k, rfl⟩⟩
 have hslen : ∀ {sz' : Nat} {es : List (List PV)} {A : Option Addr} {len cap : Nat}, Rep V (.sl sz' es) (.slice A len cap) → es.length = len ∧ len ≤ cap := by
  intro sz' es A len cap h
  cases h with
  | slNil => exact ⟨rfl, Nat.zero_le _⟩
  | sl _ _ b off _ _ hlen _ h5 => exact ⟨hlen, h5⟩
 have hsl : ∀ {sz' : Nat} {es : List (List PV)} {v : Value}, Rep V (.sl sz' es) v → ∃ A len cap, v = .slice A len cap := by
  intro sz' es v h
  cases h with
  | slNil _ A cap => exact ⟨A, 0, cap, rfl⟩
  | sl _ _ b off len cap => exact ⟨_, len, cap, rfl⟩
 cases p with
 | sl sz' es =>
  simp only [slcI] at hr
  split at hr
  ·rename_i hc
   obtain ⟨hs, rfl, h0, h1, h2⟩ := hc
   obtain ⟨A, len, cap, rfl⟩ := hsl hp
   obtain ⟨e1, e2⟩ := hslen hp
   obtain ⟨_, e, hu1, hu2⟩ := hu.resolve_right (fun h => by rw [hs] at h; cases h.1)
   have hh' : Bd hi len h := by rw [← e1]; exact hh
   rcases hcase rfl with ⟨rfl, rfl, hbm⟩ | ⟨n, rfl, hbm⟩
   ·rw [if_pos rfl] at hr
    cases hr
    refine ⟨_, run_slice_cut hu1 hu2 hl hh' hbm hx h0 h1 (by omega) (Int.le_refl _), ?_⟩
    have := sl_cut (l := l.toNat) (h := h.toNat) (m := cap) hp (by omega) (by omega) (by omega) (Nat.le_refl _)
    rw [show (h - l).toNat = h.toNat - l.toNat by omega]
    exact this
   ·rw [if_neg (by simp)] at hr
    split at hr
    ·rename_i hn
     cases hn
     cases hr
     refine ⟨_, run_slice_cut hu1 hu2 hl hh' hbm hx h0 h1 (Int.le_refl _) (by omega), ?_⟩
     have := sl_cut (l := l.toNat) (h := h.toNat) (m := h.toNat) hp (by omega) (by omega) (Nat.le_refl _) (by omega)
     rw [show (h - l).toNat = h.toNat - l.toNat by omega]
     exact .csl _ _ _ _ this
    ·cases hr
  ·cases hr
 | fsl sz' es =>
  simp only [slcI] at hr
  split at hr
  ·rename_i hc
   obtain ⟨hs, rfl, h0, h1, h2, rfl⟩ := hc
   cases hr
   cases hp with
   | fsl _ _ _ hcl hp =>
   obtain ⟨A, len, cap, rfl⟩ := hsl hp
   obtain ⟨e1, e2⟩ := hslen hp
   obtain ⟨_, e, hu1, hu2⟩ := hu.resolve_right (fun h => by rw [hs] at h; cases h.1)
   have hh' : Bd hi len h := by rw [← e1]; exact hh
   rcases hcase rfl with ⟨_, rfl, hbm⟩ | ⟨n, hn, hbm⟩
   ·refine ⟨_, run_slice_cut hu1 hu2 hl hh' hbm hx h0 h1 (by omega) (Int.le_refl _), ?_⟩
    have := sl_cut (l := l.toNat) (h := h.toNat) (m := cap) hp (by omega) (by omega) (by omega) (Nat.le_refl _)
    rw [show (h - l).toNat = h.toNat - l.toNat by omega]
    refine .fsl _ _ _ (fun b off len' cap' e he => ?_) this
    simp only [Value.slice.injEq, Int.toNat_natCast, cutA] at e
    have hne : es ≠ [] := fun h => he (by rw [h]; simp)
    generalize hA : A = A' at hp
    cases hp with
    | slNil => exact absurd rfl hne
    | sl _ _ b0 off0 =>
     subst hA
     have hb : b0 = b := by
      have e0 := e.1
      split at e0
      ·cases e0; rfl
      ·rw [Option.map_some, addr_add] at e0
       cases e0
       rfl
     subst hb
     exact hcl b0 off0 len cap rfl hne
   ·cases hn
  ·cases hr
 | osl id off len sz' =>
  simp only [slcI] at hr
  split at hr
  ·rename_i hc
   obtain ⟨hs, rfl, h0, h1, h2⟩ := hc
   obtain ⟨b, cap, c, T', fr, rfl, hb, h5, h6, hsh, hfit⟩ := hp.osl_inv
   obtain ⟨_, e, hu1, hu2⟩ := hu.resolve_right (fun h => by rw [hs] at h; cases h.1)
   have hh' : Bd hi len h := hh
   have hmul : ∀ m : Nat, m ≤ cap → l.toNat ≤ m → off + l.toNat * sz' + (m - l.toNat) * sz' ≤ c.size := fun m hm hlm => by
    have : l.toNat * sz' + (m - l.toNat) * sz' = m * sz' := by rw [← Nat.add_mul]; congr 1; omega
    have : m * sz' ≤ cap * sz' := Nat.mul_le_mul_right _ hm
    omega
   rcases hcase rfl with ⟨rfl, rfl, hbm⟩ | ⟨n, rfl, hbm⟩
   ·rw [if_pos rfl] at hr
    refine ⟨_, run_slice_cut hu1 hu2 hl hh' hbm hx h0 h1 (by omega) (Int.le_refl _), ?_⟩
    split at hr
    ·rename_i hlh
     cases hr
     subst hlh
     rw [Nat.sub_self]
     exact .slNil _ _ _ (by omega)
    ·rename_i hlh
     cases hr
     have hne : ¬ (cap : Int).toNat = l.toNat := by omega
     simp only [cutA, if_neg hne, Option.map_some]
     rw [addr_add, show (h - l).toNat = h.toNat - l.toNat by omega, Int.toNat_natCast]
     exact .osl id (off + l.toNat * sz') (h.toNat - l.toNat) sz' (cap - l.toNat) b c T' fr hb (by omega) (by omega) hsh (hmul cap (Nat.le_refl _) (by omega))
   ·rw [if_neg (by simp)] at hr
    split at hr
    ·rename_i hn
     cases hn
     cases hr
     refine ⟨_, run_slice_cut hu1 hu2 hl hh' hbm hx h0 h1 (Int.le_refl _) (by omega), ?_⟩
     rw [show (h - l).toNat = h.toNat - l.toNat by omega]
     refine .ocap id (off + l.toNat * sz') (h.toNat - l.toNat) sz' b _ c T' fr hb ?_ (by omega) hsh (hmul h.toNat (by omega) (by omega))
     by_cases hlh : h.toNat = l.toNat
     ·left; omega
     ·right
      simp only [cutA, if_neg hlh, Option.map_some]
      rw [addr_add]
    ·cases hr
  ·cases hr
 | sc v =>
  cases hp.sc_inv
  cases u with
  | string b =>
   simp only [slcI] at hr
   split at hr
   ·rename_i hc
    obtain ⟨hs, rfl, h0, h1, h2⟩ := hc
    cases hr
    obtain ⟨_, hu1⟩ := hu.resolve_left (fun h => by rw [hs] at h; cases h.1)
    rcases hm with ⟨_, rfl⟩ | ⟨_, _, h9, _⟩
    ·refine ⟨_, ?_, .sc _⟩
     simp [Instr.sliceAt, Instr.slice, run_under hu1, run_bounds (len := b.size) (cap := b.size) hl hh (.inl ⟨rfl, rfl⟩) hx h0 h1 h2 (Int.le_refl _)]
    ·cases h9
   ·cases hr
  | slice A n c =>
   cases A with
   | some ad => simp [slcI] at hr
   | none =>
    cases n with
    | succ k => simp [slcI] at hr
    | zero =>
     cases c with
     | succ k => simp [slcI] at hr
     | zero =>
      simp only [slcI] at hr
      split at hr
      ·rename_i hc
       obtain ⟨hs, rfl, rfl, rfl⟩ := hc
       cases hr
       obtain ⟨_, e, hu1, hu2⟩ := hu.resolve_right (fun h => by rw [hs] at h; cases h.1)
       have hh' : Bd hi (0 : Nat) 0 := hh
       rcases hm with ⟨_, rfl⟩ | ⟨_, _, h9, _⟩
       ·refine ⟨_, run_slice_cut hu1 hu2 hl hh' (.inl ⟨rfl, rfl⟩) hx (Int.le_refl _) (Int.le_refl _) (Int.le_refl _) (Int.le_refl _), ?_⟩
        exact .sc _
       ·cases h9
      ·cases hr
  | _ => simp [slcI] at hr
 | _ => simp [slcI] at hr
theorem bnd_of {V : Vw} {s : St} {a : Act} (hs : ∀ t, Rep V (s.s t) (a.tmps.getD t undef)) {d n : Int} {o : Option Operand} (h : bndO s d o = some n) : Bd (o.map a.eval) d n := by
 cases o with
 | none => simp only [bndO, Option.some.injEq] at h; exact .inl ⟨rfl, h.symm⟩
 | some x =>
  simp only [bndO] at h
  have := ev_rep hs x
  unfold intOf at h
  split at h
  ·rename_i k m he
   cases h
   rw [he] at this
   exact .inr ⟨k, by simp [this.sc_inv]⟩
  ·cases h
theorem cap_of {V : Vw} {s : St} {a : Act} (hs : ∀ t, Rep V (s.s t) (a.tmps.getD t undef)) {m : Option Int} {o : Option Operand} (h : capO s o = some m) : (m = none ∧ o.map a.eval = none) ∨ ∃ k n, m = some n ∧ o.map a.eval = some (.int k n) := by
 cases o with
 | none => simp only [capO, Option.some.injEq] at h; exact .inl ⟨h.symm, rfl⟩
 | some x =>
  simp only [capO, Option.map_eq_some_iff] at h
  obtain ⟨n, h, rfl⟩ := h
  have := ev_rep hs x
  unfold intOf at h
  split at h
  ·rename_i k m he
   cases h
   rw [he] at this
   exact .inr ⟨_, _, rfl, by rw [Option.map_some, this.sc_inv]⟩
  ·cases h
end
section
theorem ext_sound {P : Program} {V : Vw} {p x : PV} {i : Nat} {u : Value} (hp : Rep V p u) (h : (match (generalizing := false) p with | .tup vs => vs[i]? | _ => none) = some x) :
  ∃ z, (Instr.extract u i).run P V.w = .ok z V.w ∧ Rep V x z := by
 cases p with
 | tup vs =>
  obtain ⟨us, rfl, hr⟩ := hp.tup_inv
  obtain ⟨z, hz, hrz⟩ := hr.get h
  exact ⟨z, by simp [Instr.extract, hz], hrz⟩
 | _ => simp at h
theorem mm_sound {P : Program} {V : Vw} {mx : Bool} : ∀ (ps : List PV) (vs : List Value) (p r : PV) (x : Value), Rep V p x → RepL V ps vs → mmV mx p ps = some r →
  ∃ z, (vs.foldlM (if mx = true then Builtin.max2 else Builtin.min2) x).run P V.w = .ok z V.w ∧ Rep V r z
 | [], [], p, r, x, hp, _, h => by
  simp [mmV] at h
  subst h
  exact ⟨x, by simp, hp⟩
 | q :: ps, v :: vs, p, r, x, hp, hv, h => by
  simp only [mmV, Option.bind_eq_some_iff] at h
  obtain ⟨y, hy, h⟩ := h
  have hq := hv.2 0 q v rfl rfl
  have hrest : RepL V ps vs := ⟨by simpa using hv.1, fun i a b ha hb => hv.2 (i + 1) a b (by simpa using ha) (by simpa using hb)⟩
  unfold mm2 at hy
  split at hy
  ·rename_i k a k' b
   cases hy
   cases hp.sc_inv
   cases hq.sc_inv
   obtain ⟨z, h1, h2⟩ := mm_sound (mx := mx) ps vs _ r _ (.sc (.int k (if mx = true then max a b else min a b))) hrest h
   refine ⟨z, ?_, h2⟩
   rw [List.foldlM_cons]
   cases mx with
   | true =>
    have e : (if b > a then b else a) = max a b := by rw [Int.max_def]; split <;> split <;> omega
    simp only [if_true, Sem.run_bind, Builtin.max2, Sem.run_pure, Result.andThen_ok, e] at h1 ⊢
    exact h1
   | false =>
    have e : (if b < a then b else a) = min a b := by rw [Int.min_def]; split <;> split <;> omega
    simp only [Bool.false_eq_true, if_false, Sem.run_bind, Builtin.min2, Sem.run_pure, Result.andThen_ok, e] at h1 ⊢
    exact h1
  ·cases hy
 | [], v :: vs, p, r, x, _, hv, _ => absurd hv.1 (by simp)
 | q :: ps, [], p, r, x, _, hv, _ => absurd hv.1 (by simp)
theorem val_sound {P : Program} {pol : Pol} {o : Oper} {a : Act} {V : Vw} {s : St} {m : MOp} {x : PV} (hm : mop P pol o = some m) (hO : Owns V s.H) (hs : ∀ t, Rep V (s.s t) (a.tmps.getD t undef)) (h : val s m = some x) :
  ∃ v, (execOp a.eval o).run P V.w = .ok (.value v) V.w ∧ Rep V x v := by
 obtain ⟨dst, op, ty, pos, af, g⟩ := o
 have lift : ∀ {c : Sem Value} {v : Value}, c.run P V.w = .ok v V.w → (do pure (Next.value (← c)) : Sem Next).run P V.w = .ok (.value v) V.w := by
  intro c v hc
  simp [hc]
 cases op with
 | move y =>
  simp only [mop, Option.some.injEq] at hm
  subst hm
  simp only [val, Option.some.injEq] at h
  subst h
  exact ⟨a.eval y, rfl, ev_rep hs y⟩
 | assign y =>
  simp only [mop, Option.some.injEq] at hm
  subst hm
  simp only [val, Option.some.injEq] at h
  subst h
  exact ⟨a.eval y, rfl, ev_rep hs y⟩
 | pick c y z =>
  simp only [mop, Option.some.injEq] at hm
  subst hm
  simp only [val] at h
  have hc := ev_rep hs c
  split at h
  ·rename_i t ht
   simp only [Option.some.injEq] at h
   subst h
   rw [ht] at hc
   have e := hc.sc_inv
   cases t
   ·exact ⟨a.eval z, by simp [execOp, e, asBool], ev_rep hs z⟩
   ·exact ⟨a.eval y, by simp [execOp, e, asBool], ev_rep hs y⟩
  ·cases h
 | binOp bo T y z yT =>
  simp only [mop] at hm
  split at hm
  ·rename_i fs hu
   split at hm
   ·rename_i hg
    simp only [Option.map_eq_some_iff] at hm
    obtain ⟨t, ht, rfl⟩ := hm
    simp only [val, Option.map_eq_some_iff] at h
    obtain ⟨b, hb, rfl⟩ := h
    exact ⟨_, lift (eqa_sound (.inl ⟨fs, hu⟩) hg ht (ev_rep hs y) (ev_rep hs z) hb y z).1, .sc _⟩
   ·cases hm
  ·rename_i n el hu
   split at hm
   ·rename_i hg
    simp only [Option.map_eq_some_iff] at hm
    obtain ⟨t, ht, rfl⟩ := hm
    simp only [val, Option.map_eq_some_iff] at h
    obtain ⟨b, hb, rfl⟩ := h
    exact ⟨_, lift (eqa_sound (.inr ⟨n, el, hu⟩) hg ht (ev_rep hs y) (ev_rep hs z) hb y z).1, .sc _⟩
   ·cases hm
  ·rename_i fs hu
   split at hm
   ·rename_i hg
    simp only [Option.map_eq_some_iff] at hm
    obtain ⟨t, ht, rfl⟩ := hm
    simp only [val, Option.map_eq_some_iff] at h
    obtain ⟨b, hb, rfl⟩ := h
    exact ⟨_, lift (eqa_sound (.inl ⟨fs, hu⟩) hg ht (ev_rep hs y) (ev_rep hs z) hb y z).2, .sc _⟩
   ·cases hm
  ·rename_i n el hu
   split at hm
   ·rename_i hg
    simp only [Option.map_eq_some_iff] at hm
    obtain ⟨t, ht, rfl⟩ := hm
    simp only [val, Option.map_eq_some_iff] at h
    obtain ⟨b, hb, rfl⟩ := h
    exact ⟨_, lift (eqa_sound (.inr ⟨n, el, hu⟩) hg ht (ev_rep hs y) (ev_rep hs z) hb y z).2, .sc _⟩
   ·cases hm
  ·rename_i hu
   cases hm
   simp only [val, Option.map_eq_some_iff] at h
   obtain ⟨b, hb, rfl⟩ := h
   exact ⟨_, lift (eqb_sound hu (ev_rep hs y) (ev_rep hs z) hb y z).1, .sc _⟩
  ·rename_i hu
   cases hm
   simp only [val, Option.map_eq_some_iff] at h
   obtain ⟨b, hb, rfl⟩ := h
   exact ⟨_, lift (eqb_sound hu (ev_rep hs y) (ev_rep hs z) hb y z).2, .sc _⟩
  ·cases hm
  ·cases hm
  ·cases hm
  ·cases hm
  ·cases hm
  ·simp only [Option.some.injEq] at hm
   subst hm
   simp only [val] at h
   obtain ⟨u, h1, h2⟩ := bin_sound (P := P) (w := V.w) (T := T) (x := y) (y := z) (ev_rep hs y) (ev_rep hs z) h
   exact ⟨u, lift h1, h2⟩
 | slice T y lo hi mx =>
  simp only [mop] at hm
  have key : ∀ {sz : Nat} {str : Bool}, ((str = false ∧ ∃ e, P.underlying T = some (.slice e) ∧ szOf P e = some sz) ∨ (str = true ∧ P.underlying T = some .string)) → slcP s sz str lo hi mx (ev s y) = some x →
    ∃ v, (Instr.sliceAt T (a.eval y) (lo.map a.eval) (hi.map a.eval) (mx.map a.eval)).run P V.w = .ok v V.w ∧ Rep V x v := by
   intro sz str hu h
   simp only [slcP, Option.bind_eq_some_iff] at h
   obtain ⟨l, hl, h', hh, m, hm, h⟩ := h
   split at h
   ·cases h
   ·rename_i hx
    refine slc_sound hu (bnd_of hs hl) (bnd_of hs hh) (cap_of hs hm) (fun hx2 => ?_) (ev_rep hs y) h
    cases hi with
    | some _ => rfl
    | none =>
     cases mx with
     | none => simp at hx2
     | some _ => simp at hx
  split at hm
  ·rename_i e hu
   simp only [Option.map_eq_some_iff] at hm
   obtain ⟨sz, hz, rfl⟩ := hm
   simp only [val] at h
   obtain ⟨u, h1, h2⟩ := key (.inl ⟨rfl, e, hu, hz⟩) h
   exact ⟨u, lift h1, h2⟩
  ·rename_i hu
   cases hm
   simp only [val] at h
   obtain ⟨u, h1, h2⟩ := key (.inr ⟨rfl, hu⟩) h
   exact ⟨u, lift h1, h2⟩
  ·cases hm
 | unOp uo T y =>
  simp only [mop, Option.some.injEq] at hm
  subst hm
  simp only [val] at h
  obtain ⟨u, h1, h2⟩ := un_sound (P := P) (w := V.w) (ev_rep hs y) h
  exact ⟨u, lift h1, h2⟩
 | nilCheck y =>
  simp only [mop, Option.some.injEq] at hm
  subst hm
  simp only [val] at h
  have hy := ev_rep hs y
  split at h
  ·rename_i c hc
   cases h
   rw [hc] at hy
   obtain ⟨b, off, vs, e, _⟩ := hy.ptr_inv
   rw [e] at hy
   exact ⟨_, by simp [execOp, e], hy⟩
  ·rename_i id off hc
   cases h
   rw [hc] at hy
   obtain ⟨b, e, _⟩ := hy.optr_inv
   rw [e] at hy
   exact ⟨_, by simp [execOp, e], hy⟩
  ·cases h
 | fieldAddr T y f =>
  obtain ⟨fs, fd, k, h1, h2, h3, rfl⟩ := mop_fieldAddr hm
  simp only [val] at h
  obtain ⟨u, h4, h5⟩ := fieldAddr_sound (s := s) h1 h2 h3 (ev_rep hs y) h
  exact ⟨u, lift h4, h5⟩
 | field T y f =>
  obtain ⟨fs, fd, sz, d, h1, h2, h3, h4, rfl⟩ := mop_field hm
  simp only [val] at h
  have hy := ev_rep hs y
  split at h
  ·rename_i c hc
   rw [hc] at hy
   obtain ⟨vs, e, hr⟩ := hy.agg_inv
   obtain ⟨u, h5, h6⟩ := part_sound hr h4 h3 h
   refine ⟨u, lift ?_, h6⟩
   unfold Instr.field
   simp only [Sem.run_bind, run_under h1, Result.andThen_ok, h2, e, asAgg, Sem.run_pure]
   exact h5
  ·cases h
 | indexAddr T y i =>
  simp only [mop] at hm
  split at hm
  ·rename_i e hu
   simp only [Option.map_eq_some_iff] at hm
   obtain ⟨sz, hz, rfl⟩ := hm
   simp only [val] at h
   obtain ⟨u, h1, h2⟩ := indexSlice_sound hu hz (ev_rep hs y) (ev_rep hs i) h
   exact ⟨u, lift h1, h2⟩
  ·rename_i n e hu
   simp only [Option.map_eq_some_iff] at hm
   obtain ⟨sz, hz, rfl⟩ := hm
   simp only [val] at h
   obtain ⟨u, h1, h2⟩ := indexArr_sound hu hz (ev_rep hs y) (ev_rep hs i) h
   exact ⟨u, lift h1, h2⟩
  ·cases hm
 | index T y i =>
  simp only [mop] at hm
  split at hm
  ·rename_i n e hu
   simp only [Option.bind_eq_some_iff, Option.map_eq_some_iff] at hm
   obtain ⟨sz, hz, d, hd, rfl⟩ := hm
   simp only [val] at h
   obtain ⟨u, h1, h2⟩ := indexVal_sound hu hz hd (ev_rep hs y) (ev_rep hs i) h
   exact ⟨u, lift h1, h2⟩
  ·rename_i hu
   simp only [Option.some.injEq] at hm
   subst hm
   simp only [val] at h
   obtain ⟨u, h1, h2⟩ := indexStr_sound hu (ev_rep hs y) (ev_rep hs i) h
   exact ⟨u, lift h1, h2⟩
  ·cases hm
 | load T y =>
  simp only [mop, Option.bind_eq_some_iff, Option.map_eq_some_iff] at hm
  obtain ⟨d, hd, sz, hz, hm⟩ := hm
  have h' : ((loadP s (ev s y) sz).bind fun cs => if aggB d = true then some (.agg cs) else if sz = 1 then cs.head? else none) = some x := by
   have key : ∀ (dst : Option Nat) (m' : MOp), ldOp pol.tl dst y sz (aggB d) = m' → val s m' = some x → ((loadP s (ev s y) sz).bind fun cs => if aggB d = true then some (.agg cs) else if sz = 1 then cs.head? else none) = some x := by
    intro dst m' hc h
    rcases ldOp_is pol.tl dst y sz (aggB d) with e | e | ⟨ks, e⟩
    ·rw [← hc, e] at h
     simp only [val] at h
     split at h
     ·exact h
     ·cases h
    ·rw [← hc, e] at h
     simpa only [val] using h
    ·rw [← hc, e] at h
     simp only [val] at h
     split at h
     ·exact h
     ·cases h
   exact key _ _ hm h
  obtain ⟨b, off, u, e, h1, h2⟩ := loadVar_sound hO (ev_rep hs y) hd hz h'
  refine ⟨u, lift ?_, h2⟩
  simp only [Instr.loadAt, e, Instr.sureAddr, Sem.run_bind, Sem.run_pure, Result.andThen_ok]
  exact h1
 | build T parts =>
  simp only [mop] at hm
  split at hm
  ·rename_i fs hu
   split at hm
   ·rename_i hall
    simp only [Option.bind_eq_some_iff, Option.map_eq_some_iff] at hm
    obtain ⟨z, hz, ms, hms, rfl⟩ := hm
    simp only [val, Option.bind_eq_some_iff, Option.map_eq_some_iff] at h
    obtain ⟨ps, hps, out, hout, rfl⟩ := h
    obtain ⟨u, h1, h2⟩ := build_sound hs hz hu _ (.inl ⟨fs, rfl, rfl⟩) hms hps hout (fun fs' e fd hfd => by cases e; exact (Array.all_eq_true_iff_forall_mem.1 hall) fd hfd)
    exact ⟨u, lift h1, h2⟩
   ·cases hm
  ·rename_i n e hu
   simp only [Option.bind_eq_some_iff, Option.map_eq_some_iff] at hm
   obtain ⟨z, hz, sz, hsz, ms, hms, rfl⟩ := hm
   simp only [val, Option.bind_eq_some_iff, Option.map_eq_some_iff] at h
   obtain ⟨ps, hps, out, hout, rfl⟩ := h
   obtain ⟨u, h1, h2⟩ := build_sound hs hz hu _ (.inr ⟨n, e, sz, rfl, hsz, rfl⟩) hms hps hout (fun fs' e' => by cases e')
   exact ⟨u, lift h1, h2⟩
  ·cases hm
 | extract y i =>
  simp only [mop, Option.some.injEq] at hm
  subst hm
  simp only [val] at h
  obtain ⟨u, h1, h2⟩ := ext_sound (P := P) (ev_rep hs y) h
  exact ⟨u, lift h1, h2⟩
 | makeFunc fn first caps =>
  cases fn <;> simp only [mop, reduceCtorEq] at hm
  rename_i f
  split at hm
  ·rename_i h0
   cases hm
   simp only [val, Option.some.injEq] at h
   subst h
   subst h0
   refine ⟨.func (.func f) #[] (caps.toList.map a.eval).toArray, lift ?_, ?_⟩
   ·have e : (caps.toList.map a.eval).toArray = caps.map a.eval := by rw [← Array.toList_map]
    rw [e]
    simp [Instr.makeFunc]
   ·have := evs_rep hs caps.toList
    exact .fn f _ _ this.1 this.2
  ·cases hm
 | call c =>
  obtain ⟨callee, args, ats⟩ := c
  cases callee with
  | value f =>
   cases f <;> simp only [mop, Option.some.injEq] at hm <;> subst hm <;> simp [val] at h
  | invoke r mm => simp [mop] at hm
  | builtin b =>
   have hmm : ∀ mx : Bool, m = .mm mx args.toList → ∃ v, (do pure (Next.value (← ((if mx = true then Builtin.max_ else Builtin.min_) ats ty (args.map a.eval)))) : Sem Next).run P V.w = .ok (.value v) V.w ∧ Rep V x v := by
    rintro mx rfl
    simp only [val] at h
    have hargs := evs_rep hs args.toList
    cases hl : args.toList with
    | nil => rw [hl] at h; simp [mmL] at h
    | cons y ys =>
     rw [hl] at h hargs
     simp only [List.map_cons, mmL] at h
     have h0 := hargs.2 0 _ _ rfl rfl
     have hrest : RepL V (ys.map (ev s)) (ys.map a.eval) := evs_rep hs ys
     obtain ⟨z, h1, h2⟩ := mm_sound (P := P) (mx := mx) _ _ _ _ _ h0 hrest h
     refine ⟨z, lift ?_, h2⟩
     have e : (args.map a.eval).toList = a.eval y :: ys.map a.eval := by rw [Array.toList_map, hl]; rfl
     cases mx with
     | true =>
      simp only [if_true, Builtin.max_, e] at h1 ⊢
      exact h1
     | false =>
      simp only [Bool.false_eq_true, if_false, Builtin.min_, e] at h1 ⊢
      exact h1
   cases b <;> simp only [mop, reduceCtorEq] at hm
   case max =>
    simp only [Option.some.injEq] at hm
    obtain ⟨v, h1, h2⟩ := hmm true hm.symm
    refine ⟨v, ?_, h2⟩
    simp only [if_true] at h1
    simp only [execOp, resolve, Sem.run_bind, Sem.run_pure, Result.andThen_ok, invoke, builtin] at h1 ⊢
    exact h1
   case min =>
    simp only [Option.some.injEq] at hm
    obtain ⟨v, h1, h2⟩ := hmm false hm.symm
    refine ⟨v, ?_, h2⟩
    simp only [Bool.false_eq_true, if_false] at h1
    simp only [execOp, resolve, Sem.run_bind, Sem.run_pure, Result.andThen_ok, invoke, builtin] at h1 ⊢
    exact h1
   case append =>
    exfalso
    split at hm
    ·split at hm
     ·split at hm
      ·simp only [Option.bind_eq_some_iff] at hm
       obtain ⟨_, _, _, _, hm⟩ := hm
       split at hm
       ·cases hm; simp [val] at h
       ·cases hm
      ·cases hm
     ·cases hm
    ·cases hm
   split at hm
   ·rename_i y T ha ht
    have ha' : args = #[y] := by cases args; simp_all
    have ht' : ats = #[T] := by cases ats; simp_all
    subst ha'
    subst ht'
    have key : ∀ str : Bool, (if str = true then P.underlying T = some .string else ∃ e, P.underlying T = some (.slice e)) → m = .len y str → ∃ v, (execOp a.eval ⟨dst, .call { callee := .builtin .len, args := #[y], argTypes := #[T] }, ty, pos, af, g⟩).run P V.w = .ok (.value v) V.w ∧ Rep V x v := by
     rintro str hu rfl
     simp only [val, Option.map_eq_some_iff] at h
     obtain ⟨n, hn, rfl⟩ := h
     refine ⟨_, ?_, .sc _⟩
     have := len_sound (ty := ty) hu (ev_rep hs y) hn
     simp only [execOp, resolve, Sem.run_bind, Sem.run_pure, Result.andThen_ok, invoke, builtin]
     simp [this]
    split at hm
    ·rename_i e hu
     cases hm
     exact key false ⟨e, hu⟩ rfl
    ·rename_i hu
     cases hm
     exact key true hu rfl
    ·cases hm
   ·cases hm
 | alloc T =>
  simp only [mop, Option.map_eq_some_iff] at hm
  obtain ⟨z, hz, rfl⟩ := hm
  simp [val] at h
 | box T y =>
  simp only [mop, Option.some.injEq] at hm
  subst hm
  simp [val] at h
 | store T y z =>
  simp only [mop, Option.map_eq_some_iff] at hm
  obtain ⟨sz, hz, rfl⟩ := hm
  simp [val] at h
 | buildSlice T len parts =>
  simp only [mop] at hm
  split at hm
  ·simp only [Option.bind_eq_some_iff] at hm
   obtain ⟨z, hz, sz, hsz, hm⟩ := hm
   split at hm
   ·simp only [Option.map_eq_some_iff] at hm
    obtain ⟨ms, hms, rfl⟩ := hm
    simp [val] at h
   ·cases hm
  ·cases hm
 | makeSlice T l c =>
  simp only [mop] at hm
  split at hm
  ·simp only [Option.bind_eq_some_iff, Option.map_eq_some_iff] at hm
   obtain ⟨z, hz, inf, hi, rfl⟩ := hm
   simp [val] at h
  ·cases hm
 | range T y =>
  simp only [mop] at hm
  split at hm <;> cases hm
  simp [val] at h
 | next y str =>
  simp only [mop] at hm
  split at hm <;> cases hm
  simp [val] at h
 | _ => simp [mop] at hm
end
section
theorem ObjAt.monoC {V V' : Vw} (hm : V.LeqC V') {b : Nat} {o : PObj} (h : ObjAt V b o) (hb : V'.w.heap[b]? = V.w.heap[b]?) : ObjAt V' b o := by
 rcases h with ⟨c, T, hh, h1, h2, h3⟩ | ⟨s, pos, h1, h2⟩ | ⟨kv, es, clk, h1, h2, h3⟩
 ·exact .inl ⟨c, T, hb.trans hh, h1, h2, fun i x v hx hv => (h3 i x v hx hv).monoC hm⟩
 ·exact .inr (.inl ⟨s, pos, h1, hb.trans h2⟩)
 ·exact .inr (.inr ⟨kv, es, clk, h1, hb.trans h2, h3⟩)
theorem ObjAt.mono {V V' : Vw} (hm : V.Leq V') {b : Nat} {o : PObj} (h : ObjAt V b o) (hb : V'.w.heap[b]? = V.w.heap[b]?) : ObjAt V' b o := h.monoC hm.c hb
theorem RelH.owns {w0 : World} {ok0 : Nat → Prop} {H : Nat → Option PObj} {rho : Nat → Option Nat} {w : World} (h : RelH w0 ok0 H rho w) : Owns (viewOf w0 ok0 H rho w) H :=
 fun id o ho => let ⟨b, h1, _, h3⟩ := h.own id o ho; ⟨b, h1, h3⟩
theorem ObjAt.lt {V : Vw} {b : Nat} {o : PObj} (h : ObjAt V b o) : b < V.w.heap.size := by
 rcases h with ⟨c, T, hh, _⟩ | ⟨s, pos, _, hh⟩ | ⟨_, _, _, _, hh, _⟩
 ·exact (Array.getElem?_eq_some_iff.1 hh).1
 ·exact (Array.getElem?_eq_some_iff.1 hh).1
 ·exact (Array.getElem?_eq_some_iff.1 hh).1
theorem new_obj {w0 : World} {ok0 : Nat → Prop} {H : Nat → Option PObj} {rho : Nat → Option Nat} {w : World} (h : RelH w0 ok0 H rho w) {id : Nat} (hid : rho id = none) (obj : Obj) (o : PObj)
  (hO : ∀ V : Vw, (viewOf w0 ok0 H rho w).Leq V → V.w = w.alloc obj → ObjAt V w.heap.size o) :
  RelH w0 ok0 (upd H id (some o)) (upd rho id (some w.heap.size)) (w.alloc obj) ∧
   (viewOf w0 ok0 H rho w).Leq (viewOf w0 ok0 (upd H id (some o)) (upd rho id (some w.heap.size)) (w.alloc obj)) := by
 have hsz : (w.alloc obj).heap.size = w.heap.size + 1 := by show (w.heap.push _).size = _; exact Array.size_push _
 have hold : ∀ k, k < w.heap.size → (w.alloc obj).heap[k]? = w.heap[k]? := fun k hk => Below.heap_alloc w _ k hk
 have hnew : (w.alloc obj).heap[w.heap.size]? = some obj := by show (w.heap.push _)[w.heap.size]? = _; exact Array.getElem?_push_size
 have hbel := h.bel.size
 have hlt : ∀ b, (viewOf w0 ok0 H rho w).ok b → b < w.heap.size := by
  rintro b ⟨h1 | h1, _⟩
  ·have := h.okb b h1; omega
  ·exact h1.2
 have hleq : (viewOf w0 ok0 H rho w).Leq (viewOf w0 ok0 (upd H id (some o)) (upd rho id (some w.heap.size)) (w.alloc obj)) := by
  refine ⟨fun b hb => ⟨?_, fun id' o' ho' => ?_⟩, fun b hb => ?_, fun id' b hb => ?_, fun id' b c T' fr hb hh => ?_, by show w.heap.size ≤ (w.alloc _).heap.size; rw [World.size_alloc]; omega⟩
  ·rcases hb.1 with h1 | h1
   ·exact .inl h1
   ·exact .inr ⟨h1.1, by rw [hsz]; omega⟩
  ·have hbl := hlt b hb
   unfold upd at ho' ⊢
   by_cases he : id' = id
   ·rw [if_pos he]
    intro e
    simp only [Option.some.injEq] at e
    omega
   ·rw [if_neg he] at ho' ⊢
    exact hb.2 id' o' ho'
  ·exact hold b (hlt b hb)
  ·show upd rho id (some w.heap.size) id' = some b
   have hb' : rho id' = some b := hb
   have hne : id' ≠ id := fun e => by rw [e, hid] at hb'; cases hb'
   rw [upd_ne _ _ hne]
   exact hb'
  ·have hk := (Array.getElem?_eq_some_iff.1 hh).1
   exact ⟨c, T', fr, (hold b hk).trans hh, Nat.le_refl _⟩
 refine ⟨⟨h.okb, h.bel.alloc h.bel.size _, fun id' o' ho' => ?_, fun i j b hi hj hbi hbj => ?_⟩, hleq⟩
 ·by_cases he : id' = id
  ·subst he
   rw [upd_same] at ho' ⊢
   cases ho'
   exact ⟨w.heap.size, rfl, hbel, hO _ hleq rfl⟩
  ·rw [upd_ne _ _ he] at ho' ⊢
   obtain ⟨b, h1, h2, h3⟩ := h.own id' o' ho'
   exact ⟨b, h1, h2, h3.mono hleq (hold b h3.lt)⟩
 ·have key : ∀ k b, upd H id (some o) k ≠ none → k ≠ id → upd rho id (some w.heap.size) k = some b → b < w.heap.size ∧ H k ≠ none ∧ rho k = some b := by
   intro k b hk hne hb
   rw [upd_ne _ _ hne] at hk hb
   obtain ⟨o', ho'⟩ := Option.ne_none_iff_exists'.1 hk
   obtain ⟨b', h1, _, h3⟩ := h.own k o' ho'
   rw [h1] at hb
   cases hb
   exact ⟨h3.lt, hk, h1⟩
  by_cases h1 : i = id <;> by_cases h2 : j = id
  ·rw [h1, h2]
  ·have := key j b hj h2 hbj
   rw [h1, upd_same] at hbi
   cases hbi
   omega
  ·have := key i b hi h1 hbi
   rw [h2, upd_same] at hbj
   cases hbj
   omega
  ·obtain ⟨_, k1, k2⟩ := key i b hi h1 hbi
   obtain ⟨_, k3, k4⟩ := key j b hj h2 hbj
   exact h.inj i j b k1 k3 k2 k4
theorem new_ext' {w0 : World} {ok0 : Nat → Prop} {H : Nat → Option PObj} {rho : Nat → Option Nat} {w : World} (h : RelH w0 ok0 H rho w) {id : Nat} (hid : rho id = none) (arr : Array Value) (T : TypeId) (o : PObj)
  (hle : o.cells.length ≤ arr.size) (hwh : o.whole = true → o.cells.length = arr.size) (hr : ∀ (i : Nat) (x : PV) (v : Value), o.cells[i]? = some x → arr[i]? = some v → Rep (viewOf w0 ok0 H rho w) x v) :
  RelH w0 ok0 (upd H id (some o)) (upd rho id (some w.heap.size)) (w.alloc (.cells arr T)) ∧
   (viewOf w0 ok0 H rho w).Leq (viewOf w0 ok0 (upd H id (some o)) (upd rho id (some w.heap.size)) (w.alloc (.cells arr T))) :=
 new_obj h hid _ o fun V hl hw => .inl ⟨arr, T, by rw [hw]; show (w.heap.push _)[w.heap.size]? = _; exact Array.getElem?_push_size, hle, hwh, fun i x v hx hv => (hr i x v hx hv).mono hl⟩
theorem new_iter {w0 : World} {ok0 : Nat → Prop} {H : Nat → Option PObj} {rho : Nat → Option Nat} {w : World} (h : RelH w0 ok0 H rho w) {id : Nat} (hid : rho id = none) (b : ByteArray) :
  RelH w0 ok0 (upd H id (some (.iter b 0))) (upd rho id (some w.heap.size)) (w.alloc (.stringIter b 0)) ∧
   (viewOf w0 ok0 H rho w).Leq (viewOf w0 ok0 (upd H id (some (.iter b 0))) (upd rho id (some w.heap.size)) (w.alloc (.stringIter b 0))) :=
 new_obj h hid _ _ fun V hl hw => .inr (.inl ⟨b, 0, rfl, by rw [hw]; show (w.heap.push _)[w.heap.size]? = _; exact Array.getElem?_push_size⟩)
theorem new_ext {w0 : World} {ok0 : Nat → Prop} {H : Nat → Option PObj} {rho : Nat → Option Nat} {w : World} (h : RelH w0 ok0 H rho w) {id : Nat} (hid : rho id = none) (arr : Array Value) (T : TypeId) (o : PObj)
  (hr : RepL (viewOf w0 ok0 H rho w) o.cells arr.toList) :
  RelH w0 ok0 (upd H id (some o)) (upd rho id (some w.heap.size)) (w.alloc (.cells arr T)) ∧
   (viewOf w0 ok0 H rho w).Leq (viewOf w0 ok0 (upd H id (some o)) (upd rho id (some w.heap.size)) (w.alloc (.cells arr T))) := by
 have h1 := hr.1
 simp only [Array.length_toList] at h1
 exact new_ext' h hid arr T o (by omega) (fun _ => h1.symm) fun i x v hx hv => hr.2 i x v hx (by simpa using hv)
theorem alloc_shape (w : World) (arr : Array Value) (T : TypeId) : ∃ c T' fr, (w.alloc (.cells arr T)).heap[w.heap.size]? = some (.cells c T' fr) := by
 refine ⟨arr, T, (0, 0), ?_⟩
 show (w.heap.push _)[w.heap.size]? = _
 exact Array.getElem?_push_size
theorem RelH.drew {w0 : World} {ok0 : Nat → Prop} {H : Nat → Option PObj} {rho : Nat → Option Nat} {w : World} (h : RelH w0 ok0 H rho w) :
  RelH w0 ok0 H rho w.drew ∧ (viewOf w0 ok0 H rho w).Leq (viewOf w0 ok0 H rho w.drew) := by
 have hl : (viewOf w0 ok0 H rho w).Leq (viewOf w0 ok0 H rho w.drew) :=
  ⟨fun b hb => hb, fun _ _ => rfl, fun _ _ h => h, fun _ _ c T fr _ hh => ⟨c, T, fr, hh, Nat.le_refl _⟩, Nat.le_refl _⟩
 refine ⟨⟨h.okb, h.bel.drew, fun id o ho => ?_, h.inj⟩, hl⟩
 obtain ⟨b, h1, h2, h3⟩ := h.own id o ho
 exact ⟨b, h1, h2, h3.mono hl rfl⟩
theorem grow_ext {w0 : World} {ok0 : Nat → Prop} {H : Nat → Option PObj} {rho : Nat → Option Nat} {w : World} (h : RelH w0 ok0 H rho w) {id j b : Nat} {o : PObj} {c : Array Value} {T : TypeId} {xs : List PV} {vs : List Value}
  (ho : H j = some o) (hb : rho j = some b) (hid : rho id = none) (hc : w.heap[b]? = some (.cells c T (0, 0))) (hr : RepL (viewOf w0 ok0 H rho w) xs vs) (hfit : o.cells.length + xs.length ≤ c.size) :
  RelH w0 ok0 (upd (upd H j none) id (some ⟨o.cells ++ xs, false⟩)) (upd rho id (some b)) (w.setRow b (c.toList.take o.cells.length ++ vs ++ c.toList.drop (o.cells.length + vs.length)).toArray) ∧
   (viewOf w0 ok0 H rho w).Leq (viewOf w0 ok0 (upd (upd H j none) id (some ⟨o.cells ++ xs, false⟩)) (upd rho id (some b)) (w.setRow b (c.toList.take o.cells.length ++ vs ++ c.toList.drop (o.cells.length + vs.length)).toArray)) := by
 obtain ⟨b', hb', hlow, hobj⟩ := h.own j o ho
 rw [hb] at hb'
 cases hb'
 obtain ⟨c', T', hc', hle, hwh, hcells⟩ := hobj.cells ⟨_, _, _, hc⟩
 have e : (viewOf w0 ok0 H rho w).w.heap[b]? = w.heap[b]? := rfl
 rw [e, hc] at hc'
 cases hc'
 have hxl := hr.1
 have hnew := setRow_heap w b c (c.toList.take o.cells.length ++ vs ++ c.toList.drop (o.cells.length + vs.length)).toArray T (0, 0) hc
 have hsize : (c.toList.take o.cells.length ++ vs ++ c.toList.drop (o.cells.length + vs.length)).toArray.size = c.size := by simp; omega
 have hoth : ∀ k, k ≠ b → (w.setRow b (c.toList.take o.cells.length ++ vs ++ c.toList.drop (o.cells.length + vs.length)).toArray).heap[k]? = w.heap[k]? := fun k hk => setRow_other w b k _ hk
 have hjid : j ≠ id := fun e => by rw [e, hid] at hb; cases hb
 have hold : ∀ k o', upd (upd H j none) id (some ⟨o.cells ++ xs, false⟩) k = some o' → k ≠ id → k ≠ j ∧ H k = some o' := by
  intro k o' hk hne
  rw [upd_ne _ _ hne] at hk
  by_cases e2 : k = j
  ·rw [e2, upd_same] at hk; cases hk
  ·rw [upd_ne _ _ e2] at hk; exact ⟨e2, hk⟩
 have hleq : (viewOf w0 ok0 H rho w).Leq (viewOf w0 ok0 (upd (upd H j none) id (some ⟨o.cells ++ xs, false⟩)) (upd rho id (some b)) (w.setRow b (c.toList.take o.cells.length ++ vs ++ c.toList.drop (o.cells.length + vs.length)).toArray)) := by
  refine ⟨fun k hk => ⟨?_, fun id' o' ho' => ?_⟩, fun k hk => ?_, fun id' k hk => ?_, fun id' k c1 T1 fr1 hk hh => ?_, by show w.heap.size ≤ (w.setRow _ _).heap.size; rw [setRow_size]; exact Nat.le_refl _⟩
  ·rcases hk.1 with h1 | h1
   ·exact .inl h1
   ·exact .inr ⟨h1.1, by rw [setRow_size]; exact h1.2⟩
  ·by_cases he : id' = id
   ·subst he
    rw [upd_same]
    intro e3
    cases e3
    exact hk.2 j o ho hb
   ·rw [upd_ne _ _ he]
    exact hk.2 id' o' (hold id' o' ho' he).2
  ·have hne : k ≠ b := fun e => hk.2 j o ho (by rw [e]; exact hb)
   exact hoth k hne
  ·show upd rho id (some b) id' = some k
   have hk' : rho id' = some k := hk
   have hne : id' ≠ id := fun e => by rw [e, hid] at hk'; cases hk'
   rw [upd_ne _ _ hne]
   exact hk'
  ·by_cases he : k = b
   ·subst he
    have e2 : w.heap[k]? = some (.cells c1 T1 fr1) := hh
    rw [hc] at e2
    cases e2
    exact ⟨_, _, _, hnew, by rw [hsize]; omega⟩
   ·exact ⟨c1, T1, fr1, (hoth k he).trans hh, Nat.le_refl _⟩
 refine ⟨⟨h.okb, ?_, fun id' o' ho' => ?_, fun i k b2 hi hk hbi hbk => ?_⟩, hleq⟩
 ·exact ⟨h.bel.os, h.bel.tape, h.bel.output, by rw [setRow_size]; exact h.bel.size, fun k hk => (hoth k (by omega)).trans (h.bel.block k hk)⟩
 ·by_cases he : id' = id
  ·subst he
   rw [upd_same] at ho' ⊢
   cases ho'
   refine ⟨b, rfl, hlow, .inl ⟨_, T, hnew, ?_, fun hw => (by cases hw), fun i x v hx hv => ?_⟩⟩
   ·rw [hsize]; simp; omega
   ·simp only [List.getElem?_toArray] at hv
    have htl : (c.toList.take o.cells.length).length = o.cells.length := by simp; omega
    rw [List.append_assoc] at hv
    by_cases h1 : i < o.cells.length
    ·rw [List.getElem?_append_left (by omega)] at hx hv
     rw [List.getElem?_take, if_pos h1] at hv
     exact (hcells i x v hx (by simpa using hv)).mono hleq
    ·rw [List.getElem?_append_right (by omega)] at hx hv
     rw [htl] at hv
     have hix : i - o.cells.length < xs.length := (List.getElem?_eq_some_iff.1 hx).1
     rw [List.getElem?_append_left (by omega)] at hv
     exact (hr.2 _ x v hx hv).mono hleq
  ·obtain ⟨h1, h2⟩ := hold id' o' ho' he
   rw [upd_ne _ _ he]
   obtain ⟨k, h3, h4, h5⟩ := h.own id' o' h2
   have hne : k ≠ b := fun e => h1 (h.inj id' j k (by rw [h2]; simp) (by rw [ho]; simp) h3 (by rw [e]; exact hb))
   exact ⟨k, h3, h4, h5.mono hleq (hoth k hne)⟩
 ·have key : ∀ k b2, upd (upd H j none) id (some ⟨o.cells ++ xs, false⟩) k ≠ none → k ≠ id → upd rho id (some b) k = some b2 → k ≠ j ∧ H k ≠ none ∧ rho k = some b2 := by
   intro k b2 hk hne hbk
   obtain ⟨o', ho'⟩ := Option.ne_none_iff_exists'.1 hk
   obtain ⟨h1, h2⟩ := hold k o' ho' hne
   rw [upd_ne _ _ hne] at hbk
   exact ⟨h1, by rw [h2]; simp, hbk⟩
  by_cases h1 : i = id <;> by_cases h2 : k = id
  ·rw [h1, h2]
  ·obtain ⟨k1, k2, k3⟩ := key k b2 hk h2 hbk
   rw [h1, upd_same] at hbi
   cases hbi
   exact absurd (h.inj k j b k2 (by rw [ho]; simp) k3 hb) k1
  ·obtain ⟨k1, k2, k3⟩ := key i b2 hi h1 hbi
   rw [h2, upd_same] at hbk
   cases hbk
   exact absurd (h.inj i j b k2 (by rw [ho]; simp) k3 hb) k1
  ·obtain ⟨_, k2, k3⟩ := key i b2 hi h1 hbi
   obtain ⟨_, k4, k5⟩ := key k b2 hk h2 hbk
   exact h.inj i k b2 k2 k4 k3 k5
theorem store_ext {w0 : World} {ok0 : Nat → Prop} {H : Nat → Option PObj} {rho : Nat → Option Nat} {w : World} (h : RelH w0 ok0 H rho w) {id b off : Nat} {o : PObj} {c : Array Value} {T : TypeId} {xs : List PV} {vs : List Value}
  (ho : H id = some o) (hb : rho id = some b) (hc : w.heap[b]? = some (.cells c T (0, 0))) (hr : RepL (viewOf w0 ok0 H rho w) xs vs) (hfit : off + xs.length ≤ o.cells.length) :
  RelH w0 ok0 (upd H id (some { o with cells := o.cells.take off ++ xs ++ o.cells.drop (off + xs.length) })) rho (w.setRow b (c.toList.take off ++ vs ++ c.toList.drop (off + vs.length)).toArray) ∧
   (viewOf w0 ok0 H rho w).Leq (viewOf w0 ok0 (upd H id (some { o with cells := o.cells.take off ++ xs ++ o.cells.drop (off + xs.length) })) rho (w.setRow b (c.toList.take off ++ vs ++ c.toList.drop (off + vs.length)).toArray)) := by
 obtain ⟨b', hb', hlow, hobj⟩ := h.own id o ho
 rw [hb] at hb'
 cases hb'
 have hobj0 := hobj
 obtain ⟨c', T', hc', hle, hwh, hcells⟩ := hobj.cells ⟨_, _, _, hc⟩
 have e : (viewOf w0 ok0 H rho w).w.heap[b]? = w.heap[b]? := rfl
 rw [e, hc] at hc'
 cases hc'
 have hxl := hr.1
 have hnew := setRow_heap w b c (c.toList.take off ++ vs ++ c.toList.drop (off + vs.length)).toArray T (0, 0) hc
 have hsize : (c.toList.take off ++ vs ++ c.toList.drop (off + vs.length)).toArray.size = c.size := by simp; omega
 have hoth : ∀ k, k ≠ b → (w.setRow b (c.toList.take off ++ vs ++ c.toList.drop (off + vs.length)).toArray).heap[k]? = w.heap[k]? := fun k hk => setRow_other w b k _ hk
 have hleq : (viewOf w0 ok0 H rho w).Leq (viewOf w0 ok0 (upd H id (some { o with cells := o.cells.take off ++ xs ++ o.cells.drop (off + xs.length) })) rho (w.setRow b (c.toList.take off ++ vs ++ c.toList.drop (off + vs.length)).toArray)) := by
  refine ⟨fun k hk => ⟨?_, fun id' o' ho' => ?_⟩, fun k hk => ?_, fun id' k hk => hk, fun id' k c1 T1 fr1 hk hh => ?_, by show w.heap.size ≤ (w.setRow _ _).heap.size; rw [setRow_size]; exact Nat.le_refl _⟩
  ·rcases hk.1 with h1 | h1
   ·exact .inl h1
   ·exact .inr ⟨h1.1, by rw [setRow_size]; exact h1.2⟩
  ·by_cases he : id' = id
   ·subst he
    exact hk.2 id' o ho
   ·rw [upd_ne _ _ he] at ho'
    exact hk.2 id' o' ho'
  ·have hne : k ≠ b := fun e => hk.2 id o ho (by rw [e]; exact hb)
   exact hoth k hne
  ·by_cases he : k = b
   ·subst he
    have e2 : w.heap[k]? = some (.cells c1 T1 fr1) := hh
    rw [hc] at e2
    cases e2
    exact ⟨_, _, _, hnew, by rw [hsize]; omega⟩
   ·exact ⟨c1, T1, fr1, (hoth k he).trans hh, Nat.le_refl _⟩
 refine ⟨⟨h.okb, ?_, fun id' o' ho' => ?_, fun i j k hi hj hki hkj => ?_⟩, hleq⟩
 ·exact ⟨h.bel.os, h.bel.tape, h.bel.output, by rw [setRow_size]; exact h.bel.size, fun k hk => (hoth k (by omega)).trans (h.bel.block k hk)⟩
 ·by_cases he : id' = id
  ·subst he
   rw [upd_same] at ho'
   cases ho'
   refine ⟨b, hb, hlow, .inl ⟨_, T, hnew, ?_, ?_, fun i x v hx hv => ?_⟩⟩
   ·rw [hsize]; simp; omega
   ·intro hw; rw [hsize]; have := hwh hw; simp; omega
   ·simp only [List.getElem?_toArray] at hv
    have htl : (c.toList.take off).length = off := by simp; omega
    have hol : (o.cells.take off).length = off := by simp; omega
    rw [List.append_assoc] at hx hv
    by_cases h1 : i < off
    ·rw [List.getElem?_append_left (by omega), List.getElem?_take, if_pos h1] at hx hv
     exact (hcells i x v hx (by simpa using hv)).mono hleq
    ·rw [List.getElem?_append_right (by omega)] at hx hv
     rw [hol] at hx
     rw [htl] at hv
     by_cases h2 : i - off < xs.length
     ·rw [List.getElem?_append_left (by omega)] at hx hv
      exact (hr.2 _ x v hx hv).mono hleq
     ·rw [List.getElem?_append_right (by omega), List.getElem?_drop] at hx hv
      have e3 : off + vs.length + (i - off - vs.length) = i := by omega
      have e4 : off + xs.length + (i - off - xs.length) = i := by omega
      rw [e3] at hv
      rw [e4] at hx
      exact (hcells i x v hx (by simpa using hv)).mono hleq
  ·rw [upd_ne _ _ he] at ho'
   obtain ⟨k, h1, h2, h3⟩ := h.own id' o' ho'
   have hne : k ≠ b := fun e => he (h.inj id' id k (by rw [ho']; simp) (by rw [ho]; simp) h1 (by rw [e]; exact hb))
   exact ⟨k, h1, h2, h3.mono hleq (hoth k hne)⟩
 ·have key : ∀ k', upd H id (some { o with cells := o.cells.take off ++ xs ++ o.cells.drop (off + xs.length) }) k' ≠ none → H k' ≠ none := by
   intro k' hk'
   by_cases he : k' = id
   ·rw [he, ho]; simp
   ·rwa [upd_ne _ _ he] at hk'
  exact h.inj i j k (key i hi) (key j hj) hki hkj
theorem drop_ext {w0 : World} {ok0 : Nat → Prop} {H : Nat → Option PObj} {rho : Nat → Option Nat} {w : World} (h : RelH w0 ok0 H rho w) (id : Nat) :
  RelH w0 ok0 (upd H id none) rho w ∧ (viewOf w0 ok0 H rho w).Leq (viewOf w0 ok0 (upd H id none) rho w) := by
 have hsub : ∀ k o, upd H id none k = some o → k ≠ id ∧ H k = some o := by
  intro k o hk
  by_cases he : k = id
  ·rw [he, upd_same] at hk; cases hk
  ·rw [upd_ne _ _ he] at hk; exact ⟨he, hk⟩
 have hleq : (viewOf w0 ok0 H rho w).Leq (viewOf w0 ok0 (upd H id none) rho w) :=
  ⟨fun b hb => ⟨hb.1, fun k o hk => hb.2 k o (hsub k o hk).2⟩, fun _ _ => rfl, fun _ _ h => h, fun _ _ c T fr _ hh => ⟨c, T, fr, hh, Nat.le_refl _⟩, Nat.le_refl _⟩
 refine ⟨⟨h.okb, h.bel, fun k o hk => ?_, fun i j b hi hj => ?_⟩, hleq⟩
 ·obtain ⟨b, h1, h2, h3⟩ := h.own k o (hsub k o hk).2
  exact ⟨b, h1, h2, h3.mono hleq rfl⟩
 ·have key : ∀ k, upd H id none k ≠ none → H k ≠ none := by
   intro k hk
   obtain ⟨o, ho⟩ := Option.ne_none_iff_exists'.1 hk
   rw [(hsub k o ho).2]
   simp
  exact h.inj i j b (key i hi) (key j hj)
theorem iter_ext {w0 : World} {ok0 : Nat → Prop} {H : Nat → Option PObj} {rho : Nat → Option Nat} {w : World} (h : RelH w0 ok0 H rho w) {id b : Nat} {sb : ByteArray} {pos : Nat}
  (ho : H id = some (.iter sb pos)) (hb : rho id = some b) (hc : w.heap[b]? = some (.stringIter sb pos)) (pos' : Nat) :
  RelH w0 ok0 (upd H id (some (.iter sb pos'))) rho (w.iterAt b sb pos') ∧
   (viewOf w0 ok0 H rho w).Leq (viewOf w0 ok0 (upd H id (some (.iter sb pos'))) rho (w.iterAt b sb pos')) := by
 obtain ⟨b', hb', hlow, hobj⟩ := h.own id _ ho
 rw [hb] at hb'
 cases hb'
 have hsz : (w.iterAt b sb pos').heap.size = w.heap.size := by simp [World.iterAt]
 have hold : ∀ k, k ≠ b → (w.iterAt b sb pos').heap[k]? = w.heap[k]? := fun k hk => by
  simp only [World.iterAt]
  rw [Array.getElem?_setIfInBounds_ne (fun e => hk e.symm)]
 have hnew : (w.iterAt b sb pos').heap[b]? = some (.stringIter sb pos') := Go.Lib.iterAt_heap w b sb pos pos' hc
 have hsame : ∀ k, upd H id (some (.iter sb pos')) k ≠ none → H k ≠ none := by
  intro k hk
  by_cases he : k = id
  ·rw [he, ho]; simp
  ·rwa [upd_ne _ _ he] at hk
 have hleq : (viewOf w0 ok0 H rho w).Leq (viewOf w0 ok0 (upd H id (some (.iter sb pos'))) rho (w.iterAt b sb pos')) := by
  refine ⟨fun k hk => ⟨?_, fun id' o' ho' => ?_⟩, fun k hk => ?_, fun _ _ h => h, fun id' k c T fr hk hh => ?_, by show w.heap.size ≤ (w.iterAt _ _ _).heap.size; rw [hsz]; exact Nat.le_refl _⟩
  ·rcases hk.1 with h1 | h1
   ·exact .inl h1
   ·exact .inr ⟨h1.1, by rw [hsz]; exact h1.2⟩
  ·obtain ⟨o2, ho2⟩ := Option.ne_none_iff_exists'.1 (hsame id' (by rw [ho']; simp))
   exact hk.2 id' o2 ho2
  ·have hne : k ≠ b := fun e => hk.2 id _ ho (by rw [hb, e])
   exact hold k hne
  ·have hne : k ≠ b := by
    intro e
    have h1 : w.heap[k]? = some (.cells c T fr) := hh
    rw [e, hc] at h1
    cases h1
   exact ⟨c, T, fr, (hold k hne).trans hh, Nat.le_refl _⟩
 refine ⟨⟨h.okb, ⟨h.bel.os, h.bel.tape, h.bel.output, by rw [hsz]; exact h.bel.size, fun k hk => (hold k (by omega)).trans (h.bel.block k hk)⟩, fun id' o' ho' => ?_, fun i j k hi hj => h.inj i j k (hsame i hi) (hsame j hj)⟩, hleq⟩
 by_cases he : id' = id
 ·subst he
  rw [upd_same] at ho'
  cases ho'
  exact ⟨b, hb, hlow, .inr (.inl ⟨sb, pos', rfl, hnew⟩)⟩
 ·rw [upd_ne _ _ he] at ho'
  obtain ⟨k, h1, h2, h3⟩ := h.own id' o' ho'
  have hne : k ≠ b := fun e => he (h.inj id' id b (by rw [ho']; simp) (by rw [ho]; simp) (by rw [h1, e]) hb)
  exact ⟨k, h1, h2, h3.mono hleq (hold k hne)⟩
theorem drop_ptr {w0 : World} {ok0 : Nat → Prop} {H : Nat → Option PObj} {rho : Nat → Option Nat} {w : World} (h : RelH w0 ok0 H rho w) {id b : Nat} {o : PObj} (ho : H id = some o) (hb : rho id = some b) (hs : ∃ c T fr, w.heap[b]? = some (.cells c T fr)) :
  Rep (viewOf w0 ok0 (upd H id none) rho w) (.ptr o.cells) (.pointer (some ⟨b, 0, none⟩)) := by
 obtain ⟨b', hb', hlow, hobj⟩ := h.own id o ho
 rw [hb] at hb'
 cases hb'
 have hlt := hobj.lt
 obtain ⟨vs, h1, h2, h3⟩ := obj_cells (hobj.cells hs) 0 o.cells.length (by omega)
 have e : (o.cells.drop 0).take o.cells.length = o.cells := by simp
 rw [e] at h1
 refine .ptr_mk ⟨.inr ⟨hlow, hlt⟩, fun k o' hk => ?_⟩ (h1.mono (drop_ext h id).2) h3
 by_cases he : k = id
 ·rw [he, upd_same] at hk; cases hk
 ·rw [upd_ne _ _ he] at hk
  exact fun e2 => he (h.inj k id b (by rw [hk]; simp) (by rw [ho]; simp) e2 hb)
end
section
theorem put_getD (a : Act) (d t : Nat) (v : Value) : (a.put (some d) v).tmps.getD t undef = if t = d ∧ d < a.tmps.size then v else a.tmps.getD t undef := by
 simp only [Act.put, Array.getD_eq_getD_getElem?, Array.getElem?_setIfInBounds]
 by_cases h : d = t
 ·subst h
  by_cases h2 : d < a.tmps.size
  ·simp [h2]
  ·simp [h2]
 ·simp [h, show ¬ t = d from fun e => h e.symm]
theorem put_slots {V : Vw} {s : St} {a : Act} {d : Option Nat} {x : PV} {v : Value} (hs : ∀ t, Rep V (s.s t) (a.tmps.getD t undef)) (hd : ∀ t, d = some t → t < a.tmps.size) (hx : Rep V x v) :
  ∀ t, Rep V ((put s d x).s t) ((a.put d v).tmps.getD t undef) := by
 intro t
 cases d with
 | none => exact hs t
 | some d =>
  rw [put_getD]
  have h1 := hd d rfl
  by_cases h : t = d
  ·subst h
   rw [if_pos ⟨rfl, h1⟩]
   simpa [put, upd] using hx
  ·rw [if_neg (fun e => h e.1)]
   have e : (put s (some d) x).s t = s.s t := by simp [put, upd, h]
   rw [e]
   exact hs t
theorem put_H (s : St) (d : Option Nat) (x : PV) : (put s d x).H = s.H := by cases d <;> rfl
theorem put_nx (s : St) (d : Option Nat) (x : PV) : (put s d x).nx = s.nx := by cases d <;> rfl
theorem aput_size (a : Act) (d : Option Nat) (v : Value) : (a.put d v).tmps.size = a.tmps.size := by cases d <;> simp [Act.put]
theorem aput_defs (a : Act) (d : Option Nat) (v : Value) : (a.put d v).defers = a.defers := by cases d <;> rfl
theorem zeros_get (z : List Value) : ∀ (n i : Nat), (zeros z n)[i]? = if i < n * z.length then (z[i % z.length]?).map .sc else none
 | 0, i => by simp [zeros]
 | n + 1, i => by
  unfold zeros
  rw [Nat.succ_mul]
  by_cases h : i < z.length
  ·rw [List.getElem?_append_left (by simpa using h), if_pos (by omega), Nat.mod_eq_of_lt h, List.getElem?_map]
  ·rw [List.getElem?_append_right (by simpa using h), zeros_get z n, List.length_map]
   by_cases h2 : i < n * z.length + z.length
   ·rw [if_pos h2, if_pos (by omega), ← Nat.mod_eq_sub_mod (by omega)]
   ·rw [if_neg h2, if_neg (by omega)]
theorem zeros_length (z : List Value) : ∀ n, (zeros z n).length = n * z.length
 | 0 => by simp [zeros]
 | n + 1 => by simp [zeros, zeros_length z n, Nat.succ_mul, Nat.add_comm]
theorem zeros_rep {V : Vw} (z : Array Value) (n : Nat) : RepL V (zeros z.toList n) (madeCells z (n * z.size)).toList := by
 refine ⟨by simp [zeros_length, size_madeCells], fun i x v hx hv => ?_⟩
 rw [zeros_get] at hx
 simp only [Array.length_toList] at hx
 split at hx
 ·rename_i hi
  have hp : 0 < z.size := by
   rcases Nat.eq_zero_or_pos z.size with h | h
   ·rw [h] at hi; simp at hi
   ·exact h
  have hm : i % z.size < z.size := Nat.mod_lt _ hp
  simp only [Option.map_eq_some_iff] at hx
  obtain ⟨u, hu, rfl⟩ := hx
  simp only [madeCells, Array.toList_map, Array.toList_range, List.getElem?_map] at hv
  rw [List.getElem?_range hi] at hv
  simp only [Option.map_some, Option.some.injEq] at hv
  have : u = v := by
   rw [← hv]
   simp only [Array.getElem?_toList] at hu
   simp [getElem!_pos, hm, Array.getElem?_eq_getElem hm] at hu ⊢
   exact hu.symm
  subst this
  exact .sc u
 ·cases hx
def Fine (r : Next) (v : Value) : Prop := r = .value v ∨ (r = .skip ∧ v = undef)
def Stepped (df : List Deferred) (P : Program) (w0 : World) (ok0 : Nat → Prop) (n : Nat) (o : Oper) (a : Act) (s : St) (rho : Nat → Option Nat) (w : World) (s' : St) (id : Nat) : Prop :=
 ∃ r v w' rho', (execOp a.eval o).run P w = .ok r w' ∧ Fine r v ∧ Rel df w0 ok0 n s' rho' (a.put o.dst v) w' ∧
  (viewOf w0 ok0 s.H rho w).Leq (viewOf w0 ok0 s'.H rho' w') ∧ ∀ k, k ≠ id → rho' k = rho k
theorem val_step {df : List Deferred} {P : Program} {pol : Pol} {w0 : World} {ok0 : Nat → Prop} {n id : Nat} {o : Oper} {a : Act} {s : St} {rho : Nat → Option Nat} {w : World} {m : MOp} {x : PV}
  (hm : mop P pol o = some m) (hr : Rel df w0 ok0 n s rho a w) (hd : ∀ t, o.dst = some t → t < n) (h : val s m = some x) : Stepped df P w0 ok0 n o a s rho w (put s o.dst x) id := by
 obtain ⟨v, h1, h2⟩ := val_sound (V := viewOf w0 ok0 s.H rho w) hm hr.heap.owns hr.slot h
 refine ⟨.value v, v, w, rho, h1, .inl rfl, ⟨?_, ?_, ?_, ?_⟩, ?_, fun _ _ => rfl⟩
 ·rw [put_H]; exact hr.heap
 ·rw [aput_size]; exact hr.size
 ·rw [aput_defs]; exact hr.defs
 ·rw [put_H]; exact put_slots hr.slot (fun t ht => by rw [hr.size]; exact hd t ht) h2
 ·rw [put_H]; exact Vw.Leq.refl _
theorem new_step {df : List Deferred} {P : Program} {w0 : World} {ok0 : Nat → Prop} {n id : Nat} {o : Oper} {a : Act} {s : St} {rho : Nat → Option Nat} {w : World} {x : PV} {ob : PObj} {arr : Array Value} {T : TypeId} {v : Value}
  (hr : Rel df w0 ok0 n s rho a w) (hd : ∀ t, o.dst = some t → t < n) (hid : rho id = none)
  (hrun : (execOp a.eval o).run P w = .ok (.value v) (w.alloc (.cells arr T))) (hc : RepL (viewOf w0 ok0 s.H rho w) ob.cells arr.toList)
  (hx : Rep (viewOf w0 ok0 (upd s.H id (some ob)) (upd rho id (some w.heap.size)) (w.alloc (.cells arr T))) x v) : Stepped df P w0 ok0 n o a s rho w (newAt s o.dst id x ob) id := by
 obtain ⟨h1, h2⟩ := new_ext hr.heap hid arr T ob hc
 refine ⟨.value v, v, _, upd rho id (some w.heap.size), hrun, .inl rfl, ⟨?_, ?_, ?_, ?_⟩, ?_, fun k hk => upd_ne _ _ hk⟩
 ·unfold newAt; rw [put_H]; exact h1
 ·rw [aput_size]; exact hr.size
 ·rw [aput_defs]; exact hr.defs
 ·unfold newAt
  rw [put_H]
  exact put_slots (s := { s with H := upd s.H id (some ob) }) (fun t => (hr.slot t).mono h2) (fun t ht => by rw [hr.size]; exact hd t ht) hx
 ·unfold newAt; rw [put_H]; exact h2
theorem ones_run : ∀ (xs : List PV) (vs : List Value) {V : Vw}, RepL V xs vs → xs.all PV.one = true → ∀ v ∈ vs, v.oneCell' = true := by
 intro xs vs V h ho v hv
 obtain ⟨i, hi, rfl⟩ := List.getElem_of_mem hv
 have hx : i < xs.length := by rw [← h.1]; exact hi
 have hr := h.2 i xs[i] vs[i] (List.getElem?_eq_getElem hx) (List.getElem?_eq_getElem hi)
 have h1 := (List.all_eq_true.1 ho) xs[i] (List.getElem_mem hx)
 generalize xs[i] = x at hr h1
 generalize vs[i] = u at hr
 cases hr with
 | sc => cases u <;> simp_all [PV.one, Value.oneCell']
 | ptr => rfl
 | slNil => rfl
 | sl => rfl
 | csl => rfl
 | ocap => rfl
 | fptr _ _ _ h => cases h; rfl
 | fsl _ _ _ _ h => cases h <;> rfl
 | fn => rfl
 | agg => simp [PV.one] at h1
 | tup => simp [PV.one] at h1
 | optr => rfl
 | osl => rfl
 | oit => rfl
 | omp => rfl
theorem storeP_inv {s : St} {p : PV} {xs : List PV} {j : Nat} {ob : PObj} (h : storeP s p xs = some (j, ob)) :
  ∃ off o, p = .optr j off ∧ s.H j = some o ∧ off + xs.length ≤ o.cells.length ∧ ob = { o with cells := o.cells.take off ++ xs ++ o.cells.drop (off + xs.length) } := by
 cases p with
 | optr id off =>
  simp only [storeP] at h
  split at h
  ·rename_i o ho
   split at h
   ·rename_i hf
    simp only [Option.some.injEq, Prod.mk.injEq] at h
    obtain ⟨rfl, rfl⟩ := h
    exact ⟨off, o, rfl, ho, hf, rfl⟩
   ·cases h
  ·cases h
 | _ => simp [storeP] at h
theorem good_of_ones {x : PV} (h : x.cellsOf.all PV.one = true) : x.good = true := by
 cases x with
 | sc v => cases v <;> simp_all [PV.cellsOf, PV.one, PV.good]
 | _ => rfl
def MOp.tag : MOp → Nat
 | .al .. => 1
 | .bx .. => 2
 | .st .. => 3
 | .bsl .. => 4
 | .mks .. => 5
 | .call .. => 6
 | .calv .. => 7
 | .app .. => 8
 | .rng .. => 9
 | .nxt .. => 10
 | .callm .. => 99
 | .calvm .. => 99
 | .callmA .. => 99
 | .raw _ => 98
 | _ => 0
def opTag : Op → Nat
 | .alloc .. => 1
 | .box .. => 2
 | .store .. => 3
 | .buildSlice .. => 4
 | .makeSlice .. => 5
 | .call { callee := .value (.func _), .. } => 6
 | .call { callee := .value _, .. } => 7
 | .call { callee := .builtin .append, .. } => 8
 | .range .. => 9
 | .next .. => 10
 | _ => 0
theorem opTag_call (c : Call) : opTag (.call c) = 0 ∨ opTag (.call c) = 6 ∨ opTag (.call c) = 7 ∨ opTag (.call c) = 8 := by
 obtain ⟨callee, args, ats⟩ := c
 cases callee with
 | value x => cases x <;> simp [opTag]
 | builtin b => cases b <;> simp [opTag]
 | _ => simp [opTag]
theorem opTag_le (op : Op) : opTag op ≤ 10 := by
 cases op with
 | call c => rcases opTag_call c with h | h | h | h <;> omega
 | _ => simp [opTag]
theorem mop_tag {P : Program} {pol : Pol} {o : Oper} {m : MOp} (hm : mop P pol o = some m) : m.tag = opTag o.op := by
 obtain ⟨dst, op, ty, pos, af, g⟩ := o
 cases op with
 | alloc T => simp only [mop, Option.map_eq_some_iff] at hm; obtain ⟨_, _, rfl⟩ := hm; rfl
 | box T x => simp only [mop, Option.some.injEq] at hm; subst hm; rfl
 | store T x y => simp only [mop, Option.map_eq_some_iff] at hm; obtain ⟨_, _, rfl⟩ := hm; rfl
 | buildSlice T l ps =>
  simp only [mop] at hm
  split at hm
  ·simp only [Option.bind_eq_some_iff] at hm
   obtain ⟨_, _, _, _, hm⟩ := hm
   split at hm
   ·simp only [Option.map_eq_some_iff] at hm; obtain ⟨_, _, rfl⟩ := hm; rfl
   ·cases hm
  ·cases hm
 | makeSlice T l c =>
  simp only [mop] at hm
  split at hm
  ·simp only [Option.bind_eq_some_iff, Option.map_eq_some_iff] at hm; obtain ⟨_, _, _, _, rfl⟩ := hm; rfl
  ·cases hm
 | fieldAddr T y f => obtain ⟨_, _, _, _, _, _, rfl⟩ := mop_fieldAddr hm; rfl
 | field T y f => obtain ⟨_, _, _, _, _, _, _, _, rfl⟩ := mop_field hm; rfl
 | indexAddr T y i =>
  simp only [mop] at hm
  split at hm
  ·simp only [Option.map_eq_some_iff] at hm; obtain ⟨_, _, rfl⟩ := hm; rfl
  ·simp only [Option.map_eq_some_iff] at hm; obtain ⟨_, _, rfl⟩ := hm; rfl
  ·cases hm
 | index T y i =>
  simp only [mop] at hm
  split at hm
  ·simp only [Option.bind_eq_some_iff, Option.map_eq_some_iff] at hm; obtain ⟨_, _, _, _, rfl⟩ := hm; rfl
  ·simp only [Option.some.injEq] at hm; subst hm; rfl
  ·cases hm
 | load T y => simp only [mop, Option.bind_eq_some_iff, Option.map_eq_some_iff] at hm; obtain ⟨d1, _, s1, _, rfl⟩ := hm; rcases ldOp_is pol.tl dst y s1 (aggB d1) with e | e | ⟨ks, e⟩ <;> rw [e] <;> rfl
 | build T parts =>
  simp only [mop] at hm
  split at hm
  ·split at hm
   ·simp only [Option.bind_eq_some_iff, Option.map_eq_some_iff] at hm; obtain ⟨_, _, _, _, rfl⟩ := hm; rfl
   ·cases hm
  ·simp only [Option.bind_eq_some_iff, Option.map_eq_some_iff] at hm; obtain ⟨_, _, _, _, _, _, rfl⟩ := hm; rfl
  ·cases hm
 | makeFunc fn first caps =>
  cases fn <;> simp only [mop, reduceCtorEq] at hm
  split at hm
  ·cases hm; rfl
  ·cases hm
 | call c =>
  obtain ⟨callee, args, ats⟩ := c
  cases callee with
  | value f => cases f <;> simp only [mop, Option.some.injEq] at hm <;> subst hm <;> rfl
  | invoke r mm => simp [mop] at hm
  | builtin b =>
   cases b <;> simp only [mop, reduceCtorEq] at hm
   case max => simp only [Option.some.injEq] at hm; subst hm; rfl
   case min => simp only [Option.some.injEq] at hm; subst hm; rfl
   case append =>
    split at hm
    ·split at hm
     ·split at hm
      ·simp only [Option.bind_eq_some_iff] at hm
       obtain ⟨_, _, _, _, hm⟩ := hm
       split at hm
       ·cases hm; rfl
       ·cases hm
      ·cases hm
     ·cases hm
    ·cases hm
   split at hm
   ·split at hm
    ·cases hm; rfl
    ·cases hm; rfl
    ·cases hm
   ·cases hm
 | move y => simp only [mop, Option.some.injEq] at hm; subst hm; rfl
 | assign y => simp only [mop, Option.some.injEq] at hm; subst hm; rfl
 | pick c y z => simp only [mop, Option.some.injEq] at hm; subst hm; rfl
 | binOp bo T y z yT =>
  simp only [mop] at hm
  split at hm
  ·split at hm
   ·simp only [Option.map_eq_some_iff] at hm; obtain ⟨_, _, rfl⟩ := hm; rfl
   ·cases hm
  ·split at hm
   ·simp only [Option.map_eq_some_iff] at hm; obtain ⟨_, _, rfl⟩ := hm; rfl
   ·cases hm
  ·split at hm
   ·simp only [Option.map_eq_some_iff] at hm; obtain ⟨_, _, rfl⟩ := hm; rfl
   ·cases hm
  ·split at hm
   ·simp only [Option.map_eq_some_iff] at hm; obtain ⟨_, _, rfl⟩ := hm; rfl
   ·cases hm
  ·cases hm; rfl
  ·cases hm; rfl
  ·cases hm
  ·cases hm
  ·cases hm
  ·cases hm
  ·cases hm
  ·simp only [Option.some.injEq] at hm; subst hm; rfl
 | slice T y lo hi mx =>
  simp only [mop] at hm
  split at hm
  ·simp only [Option.map_eq_some_iff] at hm; obtain ⟨_, _, rfl⟩ := hm; rfl
  ·cases hm; rfl
  ·cases hm
 | unOp uo T y => simp only [mop, Option.some.injEq] at hm; subst hm; rfl
 | nilCheck y => simp only [mop, Option.some.injEq] at hm; subst hm; rfl
 | extract y i => simp only [mop, Option.some.injEq] at hm; subst hm; rfl
 | range T y =>
  simp only [mop] at hm
  split at hm <;> cases hm
  rfl
 | next y str =>
  simp only [mop] at hm
  split at hm <;> cases hm
  rfl
 | _ => simp [mop] at hm
theorem row_sound {V : Vw} {s : St} {q : PV} {u : Value} {sz m : Nat} {new : List PV} (hO : Owns V s.H) (hq : Rep V q u) (h1 : rowOf s sz q = some new) (h2 : lenPV false q = some m) (h3 : new.length = m * sz) :
  ∃ A c vs, u = .slice A m c ∧ RepL V new vs ∧ (0 < m → ∃ b off, A = some ⟨b, off, none⟩ ∧ ∀ (i : Nat) (v : Value), vs[i]? = some v → V.w.cell? ⟨b, off + i, none⟩ = some v) := by
 cases q with
 | sl sz' es =>
  simp only [rowOf] at h1
  simp only [lenPV, Option.some.injEq] at h2
  subst h2
  split at h1
  ·cases h1
   cases hq with
   | slNil _ A cap hc => exact ⟨A, cap, [], rfl, RepL.nil, fun h => absurd h (by simp)⟩
   | sl _ _ b off len cap hlen hs h4 h5 hp =>
    obtain ⟨b', off', vs, e, _, hr, hc⟩ := hp.ptr_inv
    cases e
    subst hlen
    exact ⟨_, _, vs, rfl, hr, fun _ => ⟨b, off, rfl, hc⟩⟩
  ·cases h1
 | osl id off len sz' =>
  simp only [lenPV, Option.some.injEq] at h2
  subst h2
  simp only [rowOf] at h1
  cases ho : s.H id with
  | none => simp [ho] at h1
  | some o =>
   simp only [ho] at h1
   split at h1
   ·rename_i hc
    obtain ⟨rfl, hfit⟩ := hc
    cases h1
    obtain ⟨b, cap, c, T, fr, rfl, hb, _, _, hsh, _⟩ := hq.osl_inv
    obtain ⟨b', hb', hobj⟩ := hO id o ho
    rw [hb] at hb'
    cases hb'
    obtain ⟨vs, h4, h5, h6⟩ := obj_cells (hobj.cells ⟨_, _, _, hsh⟩) off (len * sz') hfit
    exact ⟨_, _, vs, rfl, h4, fun _ => ⟨b, off, rfl, h6⟩⟩
   ·cases h1
 | sc v =>
  have e := hq.sc_inv
  subst e
  cases u with
  | slice A0 n0 c0 =>
   cases A0 with
   | some ad => simp [rowOf] at h1
   | none =>
    cases n0 with
    | succ k => simp [rowOf] at h1
    | zero =>
     cases c0 with
     | succ k => simp [rowOf] at h1
     | zero =>
      simp only [rowOf, Option.some.injEq] at h1
      subst h1
      simp only [lenPV, Option.some.injEq] at h2
      subst h2
      exact ⟨none, 0, [], rfl, RepL.nil, fun h => absurd h (by simp)⟩
  | _ => simp [rowOf] at h1
 | _ => simp [rowOf] at h1
theorem flat_len_of {α : Type} {sz : Nat} : ∀ {es : List (List α)}, (∀ e ∈ es, e.length = sz) → es.flatten.length = es.length * sz
 | [], _ => by simp
 | x :: r, h => by rw [List.flatten_cons, List.length_append, h x (by simp), flat_len_of (fun e he => h e (by simp [he])), List.length_cons, Nat.succ_mul]; omega
theorem app_step {df : List Deferred} {P : Program} {w0 : World} {ok0 : Nat → Prop} {n id : Nat} {dst : Option Tmp} {ty : TypeId} {pos : String} {af : Array Edge} {g : Option (Nat × Bool)} {a : Act} {s : St} {rho : Nat → Option Nat} {w : World} {x y : Operand} {T e : TypeId} {inf : TypeInfo} {z : List Value} {r : PV} {hs : List (Nat × Option PObj)}
  (hu : P.underlying T = some (.slice e)) (hi : P.info? e = some inf) (hz : zeroOf P e = some z) (hzl : z.length = inf.size) (hr : Rel df w0 ok0 n s rho a w) (hd : ∀ t, dst = some t → t < n) (hid : rho id = none)
  (h : appE s id inf.size inf.bytes (ev s x) (ev s y) = some (r, hs)) :
  Stepped df P w0 ok0 n ⟨dst, .call { callee := .builtin .append, args := #[x, y], argTypes := #[T, T] }, ty, pos, af, g⟩ a s rho w (put { s with H := updL s.H hs } dst r) id := by
 have hexec : ∀ {u w'}, (Builtin.append_ #[T, T] ty #[a.eval x, a.eval y]).run P w = .ok u w' → (execOp a.eval ⟨dst, .call { callee := .builtin .append, args := #[x, y], argTypes := #[T, T] }, ty, pos, af, g⟩).run P w = .ok (.value u) w' := by
  intro u w' hrun
  simp only [execOp, resolve, Sem.run_bind, Sem.run_pure, Result.andThen_ok, invoke, builtin]
  simp [hrun]
 have hz2 := hz
 unfold zeroOf at hz2
 rw [hi] at hz2
 simp only [Option.bind_some, Option.map_eq_some_iff] at hz2
 obtain ⟨zv, hzv, hzc⟩ := hz2
 have hzs : zv.cells.size = inf.size := by rw [← Array.length_toList, hzc]; exact hzl
 simp only [appE, Option.bind_eq_some_iff] at h
 obtain ⟨⟨oid, old, nn⟩, hold, new, hnew, m, hm, h⟩ := h
 simp only [] at h
 split at h
 ·rename_i hc
  obtain ⟨hsz, hnl, hby, hmx, hone⟩ := hc
  have hyr := ev_rep hr.slot y
  obtain ⟨A, cy, vs, hev, hvr, haddr⟩ := row_sound hr.heap.owns hyr hnew hm hnl
  have hvl := hvr.1
  have hones := ones_run _ _ hvr hone
  have hxr := ev_rep hr.slot x
  have hms : 0 < m → ∃ b off, A = some ⟨b, off, none⟩ ∧ ∀ (j : Nat) (v : Value), vs[j]? = some v → w.cell? ((⟨b, off, none⟩ : Addr).add j) = some v := by
   intro h0
   obtain ⟨b, off, h4, h5⟩ := haddr h0
   exact ⟨b, off, h4, fun j v hv => by rw [addr_add]; exact h5 j v hv⟩
  -- a new block, drawn for
  have hgrown : ∀ (cap : Nat) (H2 : Nat → Option PObj) (us : List Value) (os : List PV), (∀ k, k = id → H2 k = none) → RelH w0 ok0 H2 rho w → (viewOf w0 ok0 s.H rho w).Leq (viewOf w0 ok0 H2 rho w) → RepL (viewOf w0 ok0 s.H rho w) os us → us.length = (nn + m) * inf.size →
    hs = hs → (∀ k, updL s.H hs k = upd H2 id (some ⟨os, false⟩) k) → r = .osl id 0 (nn + m) inf.size →
    (Builtin.append_ #[T, T] ty #[a.eval x, a.eval y]).run P w = .ok (.slice (some ⟨w.heap.size, 0, none⟩) (nn + m) (grownCap w (nn + m) cap e)) (w.drew.alloc (.cells (us.toArray ++ Builtin.zeroCells zv.cells (grownCap w (nn + m) cap e - (nn + m))) e)) →
    Stepped df P w0 ok0 n ⟨dst, .call { callee := .builtin .append, args := #[x, y], argTypes := #[T, T] }, ty, pos, af, g⟩ a s rho w (put { s with H := updL s.H hs } dst r) id := by
   rintro cap H2 us os hH2 hRel hL0 hrep hlen - hHs rfl hrun
   have hge := grownCap_ge w (nn + m) cap e
   have hcm := grownCap_le_maxLen w (nn + m) cap e (by unfold maxLen; omega)
   obtain ⟨k1, k2⟩ := hRel.drew
   have hHe : updL s.H hs = upd H2 id (some ⟨os, false⟩) := funext hHs
   have hsize : (us.toArray ++ Builtin.zeroCells zv.cells (grownCap w (nn + m) cap e - (nn + m))).size = grownCap w (nn + m) cap e * inf.size := by
    simp only [Array.size_append, List.size_toArray, size_zeroCells, hzs, hlen, ← Nat.add_mul]
    congr 1
    omega
   have hol := hrep.1
   obtain ⟨k3, k4⟩ := new_ext' k1 hid (us.toArray ++ Builtin.zeroCells zv.cells (grownCap w (nn + m) cap e - (nn + m))) e ⟨os, false⟩ (by simp; omega) (fun h => by cases h) (fun i p v hp hv => by
    have hi2 : i < os.length := (List.getElem?_eq_some_iff.1 hp).1
    rw [Array.getElem?_append_left (by simp; omega)] at hv
    exact ((hrep.2 i p v hp (by simpa using hv)).mono hL0).mono k2)
   have hsz2 : w.drew.heap.size = w.heap.size := rfl
   rw [hsz2] at k3 k4
   have hall := (hL0.trans k2).trans k4
   refine ⟨.value _, _, _, upd rho id (some w.heap.size), hexec hrun, .inl rfl, ⟨?_, ?_, ?_, ?_⟩, ?_, fun k hk => upd_ne _ _ hk⟩
   ·rw [put_H, hHe]; exact k3
   ·rw [aput_size]; exact hr.size
   ·rw [aput_defs]; exact hr.defs
   ·rw [put_H, hHe]
    refine put_slots (s := { s with H := upd H2 id (some ⟨os, false⟩) }) (fun t => (hr.slot t).mono hall) (fun t ht => by rw [hr.size]; exact hd t ht) ?_
    refine .osl id 0 (nn + m) inf.size _ w.heap.size _ e (0, 0) (upd_same _ _ _) hge hcm ?_ (by rw [hsize]; omega)
    show (w.drew.heap.push _)[w.heap.size]? = _
    exact Array.getElem?_push_size
   ·rw [put_H, hHe]; exact hall
  have hHid : s.H id = none := by
   cases hh : s.H id with
   | none => rfl
   | some ob =>
    obtain ⟨b, hb, _⟩ := hr.heap.own id ob hh
    rw [hid] at hb
    cases hb
  generalize hpx : ev s x = p at hold hxr
  unfold oldOf at hold
  split at hold
  · -- to a row of the call's own
   rename_i j nn' sz'
   split at hold
   ·rename_i o ho
    split at hold
    ·rename_i hcc
     obtain ⟨rfl, hol⟩ := hcc
     cases hold
     simp only [Option.some.injEq, Prod.mk.injEq] at h
     obtain ⟨rfl, rfl⟩ := h
     obtain ⟨b, cap, c, T', fr, hevx, hb, hle, hcapm, hheap, hfit⟩ := hxr.osl_inv
     have hb2 : rho j = some b := hb
     obtain ⟨b', hb', hlow, hobj⟩ := hr.heap.own j o ho
     rw [hb2] at hb'
     cases hb'
     obtain ⟨c', T2, hheap2, hole, _, hcells⟩ := hobj.cells ⟨_, _, _, hheap⟩
     have hh1 : w.heap[b]? = some (.cells c T' fr) := hheap
     have hh2 : w.heap[b]? = some (.cells c' T2 (0, 0)) := hheap2
     rw [hh1] at hh2
     cases hh2
     have hjid : j ≠ id := fun e => by rw [e, hid] at hb2; cases hb2
     by_cases hroom : nn + m ≤ cap
     · -- in its place
      have hmul : (nn + m) * inf.size ≤ cap * inf.size := Nat.mul_le_mul_right _ hroom
      rw [Nat.add_mul] at hmul
      obtain ⟨k1, k2⟩ := grow_ext (xs := new) (vs := vs) hr.heap ho hb2 hid hh1 hvr (by omega)
      have hst := run_storeCells_at P b (nn * inf.size) T' vs 0 c w hh1 (by omega) hones
      simp only [Nat.add_zero] at hst
      have hf : (Builtin.firstCells inf.size m (.slice A m cy)).run P w = .ok vs.toArray w := by
       rcases Nat.eq_zero_or_pos m with h0 | h0
       ·subst h0
        have : vs = [] := List.eq_nil_of_length_eq_zero (by simp at hnl; rw [hvl, hnl]; rfl)
        subst this
        cases A with
        | none => simp [Builtin.firstCells]
        | some ad => simp [Builtin.firstCells, loadCells, loadCellsFrom]
       ·obtain ⟨b3, off3, rfl, h5⟩ := hms h0
        exact run_firstCells_some (P := P) w inf.size m _ m cy vs (by omega) h5
      have hrun : (Builtin.append_ #[T, T] ty #[a.eval x, a.eval y]).run P w = .ok (.slice (some ⟨b, 0, none⟩) (nn + m) cap) (w.setRow b (c.toList.take (nn * inf.size) ++ vs ++ c.toList.drop (nn * inf.size + vs.length)).toArray) := by
       rw [hevx, hev]
       simp [Builtin.append_, run_underlying hu, Go.sizeOf, typeInfo, hi, Builtin.lenOf, hroom, hf, addr_add, hst]
      rw [← hol] at hrun
      have hHe : updL s.H [(j, none), (id, some ⟨o.cells ++ new, false⟩)] = upd (upd s.H j none) id (some ⟨o.cells ++ new, false⟩) := rfl
      refine ⟨.value _, _, _, upd rho id (some b), hexec hrun, .inl rfl, ⟨?_, ?_, ?_, ?_⟩, ?_, fun k hk => upd_ne _ _ hk⟩
      ·rw [put_H, hHe]; exact k1
      ·rw [aput_size]; exact hr.size
      ·rw [aput_defs]; exact hr.defs
      ·rw [put_H, hHe]
       refine put_slots (s := { s with H := upd (upd s.H j none) id (some ⟨o.cells ++ new, false⟩) }) (fun t => (hr.slot t).mono k2) (fun t ht => by rw [hr.size]; exact hd t ht) ?_
       refine .osl id 0 (nn + m) inf.size cap b _ T' (0, 0) (upd_same _ _ _) hroom hcapm (setRow_heap w b c _ T' _ hh1) ?_
       simp only [List.size_toArray, List.length_append, List.length_take, List.length_drop, Array.length_toList]
       omega
      ·rw [put_H, hHe]; exact k2
     · -- in a new place
      have hm0 : 0 < m := by omega
      obtain ⟨b3, off3, hA, h5⟩ := hms hm0
      obtain ⟨us, h6, h7, h8⟩ := obj_cells ⟨c, T', hh1, hole, by assumption, hcells⟩ 0 o.cells.length (by omega)
      have e0 : (o.cells.drop 0).take o.cells.length = o.cells := by simp
      rw [e0] at h6
      have hrg := run_append_grow (P := P) w T ty e inf zv hu hi hzv ⟨b, 0, none⟩ nn cap us (by omega) (fun k v hk => by rw [addr_add]; exact h8 k v hk) ⟨b3, off3, none⟩ m cy vs (by omega) h5 (by omega) (by omega) (growslice_fits (by omega) hby)
      obtain ⟨k1, k2⟩ := drop_ext hr.heap j
      refine hgrown cap (upd s.H j none) (us ++ vs) (o.cells ++ new) (fun k hk => ?_) k1 k2 (h6.append hvr) (by rw [List.length_append, Nat.add_mul]; omega) rfl (fun k => rfl) rfl ?_
      ·subst hk; rw [upd_ne _ _ (fun e => hjid e.symm)]; exact hHid
      ·rw [hevx, hev, hA, hrg]
       simp
    ·cases hold
   ·cases hold
  · -- to nothing
   cases hold
   have hevx := hxr.sc_inv
   simp only [] at h
   by_cases hm0 : m = 0
   ·rw [if_pos hm0, hpx, if_pos (by rfl : nilP _ = true)] at h
    cases h
    subst hm0
    have hf : (Builtin.firstCells inf.size 0 (.slice A 0 cy)).run P w = .ok #[] w := by
     cases A with
     | none => simp [Builtin.firstCells]
     | some ad => simp [Builtin.firstCells, loadCells, loadCellsFrom]
    have hrun : (Builtin.append_ #[T, T] ty #[a.eval x, a.eval y]).run P w = .ok (.slice none 0 0) w := by
     rw [hevx, hev]
     simp [Builtin.append_, run_underlying hu, Go.sizeOf, typeInfo, hi, Builtin.lenOf, hf]
    refine ⟨.value _, _, _, rho, hexec hrun, .inl rfl, ⟨?_, ?_, ?_, ?_⟩, ?_, fun k hk => rfl⟩
    ·rw [put_H]; exact hr.heap
    ·rw [aput_size]; exact hr.size
    ·rw [aput_defs]; exact hr.defs
    ·rw [put_H]; exact put_slots (s := { s with H := s.H }) hr.slot (fun t ht => by rw [hr.size]; exact hd t ht) (.sc _)
    ·rw [put_H]; exact Vw.Leq.refl _
   ·rw [if_neg hm0] at h
    cases h
    have hmp : 0 < m := by omega
    simp only [Nat.zero_add] at hby
    obtain ⟨b3, off3, hA, h5⟩ := hms hmp
    have hrg := run_append_nil (P := P) w T ty e inf zv hu hi hzv ⟨b3, off3, none⟩ m cy vs (by omega) h5 hmp (by omega) (by omega)
    refine hgrown 0 s.H vs new (fun k hk => by subst hk; exact hHid) hr.heap (Vw.Leq.refl _) hvr (by rw [Nat.zero_add]; omega) rfl (fun k => rfl) (by simp) ?_
    rw [hevx, hev, hA, hrg]
    simp
  · -- to what has no room behind
   rename_i sz' es
   split at hold
   ·rename_i hcc
    subst hcc
    cases hold
    simp only [] at h
    split at h
    ·rw [hpx, if_neg (by simp [nilP])] at h; cases h
    ·rename_i hm0
     cases h
     generalize hux : a.eval x = ux at hxr
     cases hxr with
     | csl _ _ Ax len hsl =>
     obtain ⟨b3, off3, hA, h5⟩ := hms (by omega)
     have hlen : es.length = len := by
      generalize hl : len = cap at hsl
      subst hl
      cases hsl with
      | slNil => rfl
      | sl _ _ b off _ _ hlen => exact hlen
     by_cases hl0 : es = []
     ·subst hl0
      simp only [List.length_nil] at hlen
      subst hlen
      have hby' : m * inf.bytes ≤ 2 ^ 47 := by simpa using hby
      have hmx' : m ≤ 2 ^ 62 := by simpa using hmx
      have g1 : vs.length = (([] : List (List PV)).length + m) * inf.size := by simp; omega
      cases Ax with
      | none =>
       have hrg := run_append_nil (P := P) w T ty e inf zv hu hi hzv ⟨b3, off3, none⟩ m cy vs (by omega) h5 (by omega) (by omega) (by omega)
       refine hgrown 0 s.H vs new (fun k hk => by subst hk; exact hHid) hr.heap (Vw.Leq.refl _) hvr g1 rfl (fun k => by simp [updL]) (by simp) ?_
       rw [hux, hev, hA, hrg]
       simp
      | some ad =>
       have hrg := run_append_grow (P := P) w T ty e inf zv hu hi hzv ad 0 0 [] (by simp) (fun k v hk => by simp at hk) ⟨b3, off3, none⟩ m cy vs (by omega) h5 (by omega) (by omega) (growslice_fits (by omega) (by rw [Nat.zero_add]; exact hby'))
       refine hgrown 0 s.H vs new (fun k hk => by subst hk; exact hHid) hr.heap (Vw.Leq.refl _) hvr g1 rfl (fun k => by simp [updL]) (by simp) ?_
       rw [hux, hev, hA, hrg]
       simp
     ·have hlp : 0 < es.length := List.length_pos_iff.2 hl0
      subst hlen
      generalize hgc : es.length = cap at hsl
      cases hsl with
      | slNil => exact absurd rfl hl0
      | sl _ _ b off len2 _ hlen2 hse h61 h62 hpp =>
       subst hlen2
       obtain ⟨b4, off4, us, e4, _, hus, hcell⟩ := hpp.ptr_inv
       cases e4
       have hfl : es.flatten.length = es.length * inf.size := by
        exact flat_len_of hse
       have hul := hus.1
       have hrg := run_append_grow (P := P) w T ty e inf zv hu hi hzv ⟨b, off, none⟩ es.length es.length us (by omega) (fun k v hk => by rw [addr_add]; exact hcell k v hk) ⟨b3, off3, none⟩ m cy vs (by omega) h5 (by omega) (by omega) (growslice_fits (by omega) hby)
       refine hgrown es.length s.H (us ++ vs) (es.flatten ++ new) (fun k hk => by subst hk; exact hHid) hr.heap (Vw.Leq.refl _) (hus.append hvr) (by rw [List.length_append, Nat.add_mul]; omega) rfl (fun k => rfl) rfl ?_
       rw [hux, hev, hA, hrg]
       simp
   ·cases hold
  · -- to a row of the call's own that has no room behind
   rename_i j off nn' sz'
   split at hold
   ·rename_i o ho
    split at hold
    ·rename_i hcc
     obtain ⟨rfl, hfit⟩ := hcc
     cases hold
     simp only [] at h
     split at h
     ·rw [hpx, if_neg (by simp [nilP])] at h; cases h
     ·rename_i hm0
      cases h
      generalize hux : a.eval x = ux at hxr
      cases hxr with
      | ocap _ _ _ _ b Ax c T' fr hb hAx hcapm hheap hfit2 =>
      obtain ⟨b3, off3, hA, h5⟩ := hms (by omega)
      have hb2 : rho j = some b := hb
      obtain ⟨b', hb', hlow, hobj⟩ := hr.heap.own j o ho
      rw [hb2] at hb'
      cases hb'
      obtain ⟨us, h6, h7, h8⟩ := obj_cells (hobj.cells ⟨_, _, _, hheap⟩) off (nn * inf.size) hfit
      have hul := h6.1
      have hol : ((o.cells.drop off).take (nn * inf.size)).length = nn * inf.size := by rw [List.length_take, List.length_drop]; omega
      cases Ax with
      | none =>
       have hn0 : nn = 0 := by rcases hAx with h | h; exact h; cases h
       subst hn0
       have hby' : m * inf.bytes ≤ 2 ^ 47 := by simpa using hby
       have hus : us = [] := List.eq_nil_of_length_eq_zero (by omega)
       have hrg := run_append_nil (P := P) w T ty e inf zv hu hi hzv ⟨b3, off3, none⟩ m cy vs (by omega) h5 (by omega) (by omega) (by omega)
       refine hgrown 0 s.H (us ++ vs) _ (fun k hk => by subst hk; exact hHid) hr.heap (Vw.Leq.refl _) (h6.append hvr) (by rw [List.length_append, Nat.add_mul]; omega) rfl (fun k => rfl) rfl ?_
       rw [hux, hev, hA, hrg, hus]
       simp
      | some ad =>
       have hcell : ∀ (k : Nat) (v : Value), us[k]? = some v → w.cell? (ad.add k) = some v := by
        intro k v hk
        rcases hAx with h | h
        ·have : us = [] := List.eq_nil_of_length_eq_zero (by rw [hul, hol, h]; simp)
         rw [this] at hk
         simp at hk
        ·cases h
         rw [addr_add]
         exact h8 k v hk
       have hrg := run_append_grow (P := P) w T ty e inf zv hu hi hzv ad nn nn us (by omega) hcell ⟨b3, off3, none⟩ m cy vs (by omega) h5 (by omega) (by omega) (growslice_fits (by omega) hby)
       refine hgrown nn s.H (us ++ vs) _ (fun k hk => by subst hk; exact hHid) hr.heap (Vw.Leq.refl _) (h6.append hvr) (by rw [List.length_append, Nat.add_mul]; omega) rfl (fun k => rfl) rfl ?_
       rw [hux, hev, hA, hrg]
       simp
    ·cases hold
   ·cases hold
  ·cases hold
 ·cases h
theorem made_step {df : List Deferred} {P : Program} {w0 : World} {ok0 : Nat → Prop} {n id : Nat} {o : Oper} {a : Act} {s : St} {rho : Nat → Option Nat} {w : World} {x : PV} {ob : PObj} {arr : Array Value} {T : TypeId} {v : Value}
  (hr : Rel df w0 ok0 n s rho a w) (hd : ∀ t, o.dst = some t → t < n) (hid : rho id = none)
  (hrun : (execOp a.eval o).run P w = .ok (.value v) (w.alloc (.cells arr T))) (hc : RepL (viewOf w0 ok0 s.H rho w) ob.cells arr.toList)
  (hx : ∀ V, Rep V (.ptr ob.cells) (.pointer (some ⟨w.heap.size, 0, none⟩)) → Rep V x v) : Stepped df P w0 ok0 n o a s rho w (put s o.dst x) id := by
 obtain ⟨h1, h2⟩ := new_ext (id := id) hr.heap hid arr T ob hc
 obtain ⟨h3, h4⟩ := drop_ext h1 id
 have h5 := drop_ptr (id := id) h1 (upd_same _ _ _) (upd_same _ _ _) (alloc_shape _ _ _)
 have hnone : s.H id = none := by
  cases hh : s.H id with
  | none => rfl
  | some ob =>
   obtain ⟨b, hb, _⟩ := hr.heap.own id ob hh
   rw [hid] at hb
   cases hb
 have e : upd (upd s.H id (some ob)) id none = s.H := by
  funext k
  by_cases hk : k = id
  ·rw [hk, upd_same, hnone]
  ·rw [upd_ne _ _ hk, upd_ne _ _ hk]
 rw [e] at h3 h4 h5
 refine ⟨.value _, _, _, upd rho id (some w.heap.size), hrun, .inl rfl, ⟨?_, ?_, ?_, ?_⟩, ?_, fun k hk => upd_ne _ _ hk⟩
 ·rw [put_H]; exact h3
 ·rw [aput_size]; exact hr.size
 ·rw [aput_defs]; exact hr.defs
 ·rw [put_H]
  exact put_slots (fun t => (hr.slot t).mono (h2.trans h4)) (fun t ht => by rw [hr.size]; exact hd t ht) (hx _ h5)
 ·rw [put_H]; exact h2.trans h4
theorem chunks_spec (sz : Nat) : ∀ (n : Nat) (xs : List PV), xs.length = n * sz → (chunks sz n xs).flatten = xs ∧ (chunks sz n xs).length = n ∧ ∀ e ∈ chunks sz n xs, e.length = sz
 | 0, xs, h => by
  have : xs = [] := List.eq_nil_of_length_eq_zero (by simpa using h)
  subst this
  simp [chunks]
 | n + 1, xs, h => by
  rw [Nat.succ_mul] at h
  obtain ⟨h1, h2, h3⟩ := chunks_spec sz n (xs.drop sz) (by simp; omega)
  refine ⟨by simp [chunks, h1], by simp [chunks, h2], fun e he => ?_⟩
  rcases List.mem_cons.1 he with rfl | he
  ·simp; omega
  ·exact h3 e he
theorem step_sound {df : List Deferred} {P : Program} {pol : Pol} {w0 : World} {ok0 : Nat → Prop} {n id : Nat} {o : Oper} {a : Act} {s s' : St} {rho : Nat → Option Nat} {w : World} {m : MOp} {g : Option (Nat × Bool)}
  (hm : mop P pol o = some m) (hr : Rel df w0 ok0 n s rho a w) (hd : ∀ t, o.dst = some t → t < n) (hid : rho id = none) (h : stepM id ⟨o.dst, m, g⟩ s = some s') : Stepped df P w0 ok0 n o a s rho w s' id := by
 have hval : ∀ {x}, (∀ s, stepM id ⟨o.dst, m, g⟩ s = (val s m).map (put s o.dst)) → val s m = some x → put s o.dst x = s' → Stepped df P w0 ok0 n o a s rho w s' id := by
  rintro x h0 hx rfl
  exact val_step hm hr hd hx
 cases m
 case al zero =>
  simp only [stepM, Option.some.injEq] at h
  subst h
  have ht := mop_tag hm
  obtain ⟨dst, op, ty, pos, af, gg⟩ := o
  cases op <;> first | (exfalso; revert ht; simp [MOp.tag, opTag]; done) | (exfalso; rename_i c0; have hh := opTag_call c0; simp only [MOp.tag] at ht; omega) | skip
  simp only [mop, reduceCtorEq, Option.some.injEq, Option.map_eq_some_iff, Option.bind_eq_some_iff, false_and, and_false, exists_false] at hm
  rename_i q1
  ·
   obtain ⟨z, hz, hm⟩ := hm
   cases hm
   obtain ⟨zv, hzr, hzc⟩ := run_zero (P := P) hz w
   refine new_step (arr := zv.cells) (T := q1) (v := .pointer (some ⟨w.heap.size, 0, none⟩)) hr hd hid ?_ (by rw [hzc]; exact zero_rep _) (.optr_mk (upd_same _ _ _) (alloc_shape _ _ _))
   simp only [execOp, Instr.alloc, Sem.run_bind, hzr, Result.andThen_ok, newVar, newRow, run_newObj, Sem.run_pure]
   rfl
 case bx x own =>
  have ht := mop_tag hm
  obtain ⟨dst, op, ty, pos, af, gg⟩ := o
  cases op <;> first | (exfalso; revert ht; simp [MOp.tag, opTag]; done) | (exfalso; rename_i c0; have hh := opTag_call c0; simp only [MOp.tag] at ht; omega) | skip
  simp only [mop, reduceCtorEq, Option.some.injEq, Option.map_eq_some_iff, Option.bind_eq_some_iff, false_and, and_false, exists_false] at hm
  rename_i q1 q2
  ·
   simp only [MOp.bx.injEq] at hm
   obtain ⟨rfl, -⟩ := hm
   simp only [stepM] at h
   split at h
   ·rename_i hg
    have hx := cellsOf_rep (ev_rep hr.slot q2) hg
    have hrun : (execOp a.eval ⟨dst, .box q1 q2, ty, pos, af, gg⟩).run P w = .ok (.value (.pointer (some ⟨w.heap.size, 0, none⟩))) (w.alloc (.cells (a.eval q2).cells q1)) := by
     simp only [execOp, Instr.box, Sem.run_bind, newVar, newRow, run_newObj, Result.andThen_ok, Sem.run_pure]
     rfl
    split at h
    ·cases h
     exact new_step (arr := (a.eval q2).cells) (T := q1) hr hd hid hrun hx (.optr_mk (upd_same _ _ _) (alloc_shape _ _ _))
    ·cases h
     -- a block that nobody writes to: made, and nobody's own at once
     obtain ⟨h1, h2⟩ := new_ext (id := id) hr.heap hid (a.eval q2).cells q1 ⟨(ev s q2).cellsOf, true⟩ hx
     obtain ⟨h3, h4⟩ := drop_ext h1 id
     have h5 := drop_ptr (id := id) h1 (upd_same _ _ _) (upd_same _ _ _) (alloc_shape _ _ _)
     have hnone : s.H id = none := by
      cases hh : s.H id with
      | none => rfl
      | some ob =>
       obtain ⟨b, hb, _⟩ := hr.heap.own id ob hh
       rw [hid] at hb
       cases hb
     have e : upd (upd s.H id (some ⟨(ev s q2).cellsOf, true⟩)) id none = s.H := by
      funext k
      by_cases hk : k = id
      ·rw [hk, upd_same, hnone]
      ·rw [upd_ne _ _ hk, upd_ne _ _ hk]
     rw [e] at h3 h4 h5
     refine ⟨.value _, _, _, upd rho id (some w.heap.size), hrun, .inl rfl, ⟨?_, ?_, ?_, ?_⟩, ?_, fun k hk => upd_ne _ _ hk⟩
     ·rw [put_H]; exact h3
     ·rw [aput_size]; exact hr.size
     ·rw [aput_defs]; exact hr.defs
     ·rw [put_H]
      exact put_slots (fun t => (hr.slot t).mono (h2.trans h4)) (fun t ht => by rw [hr.size]; exact hd t ht) h5
     ·rw [put_H]; exact h2.trans h4
   ·cases h
 case st x v sz fz =>
  have ht := mop_tag hm
  obtain ⟨dst, op, ty, pos, af, gg⟩ := o
  cases op <;> first | (exfalso; revert ht; simp [MOp.tag, opTag]; done) | (exfalso; rename_i c0; have hh := opTag_call c0; simp only [MOp.tag] at ht; omega) | skip
  simp only [mop, reduceCtorEq, Option.some.injEq, Option.map_eq_some_iff, Option.bind_eq_some_iff, false_and, and_false, exists_false] at hm
  rename_i q1 q2 q3
  ·
   obtain ⟨sz', hsz, hm⟩ := hm
   simp only [MOp.st.injEq] at hm
   obtain ⟨rfl, rfl, rfl, -⟩ := hm
   simp only [stepM] at h
   split at h
   ·rename_i hc
    obtain ⟨hlen, hone⟩ := hc
    simp only [Option.bind_eq_some_iff] at h
    obtain ⟨⟨j, ob⟩, hst, h⟩ := h
    obtain ⟨off, ob0, hp, hH, hfit, rfl⟩ := storeP_inv hst
    have hx := cellsOf_rep (ev_rep hr.slot q3) (good_of_ones hone)
    have hpx := ev_rep hr.slot q2
    rw [hp] at hpx
    obtain ⟨b, hev, hb⟩ := hpx.optr_inv
    have hb' : rho j = some b := hb
    obtain ⟨b2, hb2, hlow, hobj⟩ := hr.heap.own j ob0 hH
    rw [hb'] at hb2
    cases hb2
    rw [hev] at hpx
    obtain ⟨c, T', hcell, hle, _, _⟩ := hobj.cells hpx.optr_shape
    have hxl := hx.1
    simp only [Array.length_toList] at hxl
    obtain ⟨h1, h2⟩ := store_ext (off := off) hr.heap hH hb' hcell hx hfit
    have hrun : (execOp a.eval ⟨dst, .store q1 q2 q3, ty, pos, af, gg⟩).run P w = .ok .skip (w.setRow b (c.toList.take off ++ (a.eval q3).cells.toList ++ c.toList.drop (off + (a.eval q3).cells.toList.length)).toArray) := by
     have := run_storeCells_at (P := P) b off T' (a.eval q3).cells.toList 0 c w hcell (by simp; omega) (ones_run _ _ hx hone)
     simp only [Nat.add_zero] at this
     simp only [execOp, Instr.storeAt, hev, Instr.sureAddr, storeVar, Sem.run_bind, Sem.run_pure, Result.andThen_ok, run_size hsz]
     rw [if_neg (by omega)]
     simp only [Sem.run_bind, Sem.run_pure, Result.andThen_ok, this]
    split at h
    · -- nobody writes to it any more
     split at h
     ·rename_i t id0 hxe
      cases h
      rw [hp] at hxe
      cases hxe
      obtain ⟨h3, h4⟩ := drop_ext h1 j
      have h5 := drop_ptr (id := j) h1 (upd_same _ _ _) hb' (h2.shp j b c T' (0, 0) hb' hcell |>.imp fun _ h => h.imp fun _ h => h.imp fun _ h => h.1)
      have e : upd (upd s.H j (some { ob0 with cells := ob0.cells.take 0 ++ (ev s q3).cellsOf ++ ob0.cells.drop (0 + (ev s q3).cellsOf.length) })) j none = upd s.H j none := by
       funext k
       by_cases hk : k = j
       ·rw [hk, upd_same, upd_same]
       ·rw [upd_ne _ _ hk, upd_ne _ _ hk, upd_ne _ _ hk]
      rw [e] at h3 h4 h5
      refine ⟨.skip, undef, _, rho, hrun, .inr ⟨rfl, rfl⟩, ⟨?_, ?_, ?_, ?_⟩, ?_, fun _ _ => rfl⟩
      ·rw [put_H]; exact h3
      ·rw [aput_size]; exact hr.size
      ·rw [aput_defs]; exact hr.defs
      ·rw [put_H]
       refine put_slots (s := { s with s := upd s.s t _, H := upd s.H j none }) (fun k => ?_) (fun t ht => by rw [hr.size]; exact hd t ht) (.sc undef)
       by_cases hk : k = t
       ·rw [hk]
        have e2 : a.tmps.getD t undef = .pointer (some ⟨b, 0, none⟩) := hev
        rw [e2]
        simp only [upd_same]
        exact h5
       ·simp only [upd_ne _ _ hk]
        exact (hr.slot k).mono (h2.trans h4)
      ·rw [put_H]; exact h2.trans h4
     ·cases h
    ·cases h
     refine ⟨.skip, undef, _, rho, hrun, .inr ⟨rfl, rfl⟩, ⟨?_, ?_, ?_, ?_⟩, ?_, fun _ _ => rfl⟩
     ·rw [put_H]; exact h1
     ·rw [aput_size]; exact hr.size
     ·rw [aput_defs]; exact hr.defs
     ·rw [put_H]
      exact put_slots (s := { s with H := _ }) (fun k => (hr.slot k).mono h2) (fun t ht => by rw [hr.size]; exact hd t ht) (.sc undef)
     ·rw [put_H]; exact h2
   ·cases h
 case bsl sz len zero parts own =>
  have ht := mop_tag hm
  obtain ⟨dst, op, ty, pos, af, gg⟩ := o
  cases op <;> first | (exfalso; revert ht; simp [MOp.tag, opTag]; done) | (exfalso; rename_i c0; have hh := opTag_call c0; simp only [MOp.tag] at ht; omega) | skip
  simp only [mop, reduceCtorEq, Option.some.injEq, Option.map_eq_some_iff, Option.bind_eq_some_iff, false_and, and_false, exists_false] at hm
  rename_i q1 q2 q3
  ·
   split at hm
   ·rename_i e hu
    simp only [Option.bind_eq_some_iff] at hm
    obtain ⟨z, hz, sz', hsz, hm⟩ := hm
    split at hm
    ·rename_i hbd
     simp only [Option.map_eq_some_iff] at hm
     obtain ⟨ms, hms, hm⟩ := hm
     simp only [MOp.bsl.injEq] at hm
     obtain ⟨k1, k2, k3, k4, -⟩ := hm
     subst sz'; subst q2; subst z; subst ms
     simp only [stepM] at h
     split at h
     ·rename_i hzl
      simp only [Option.bind_eq_some_iff, Option.map_eq_some_iff] at h
      obtain ⟨ps, hps, cells, hf, hs'⟩ := h
      obtain ⟨zv, hzr, hzc⟩ := run_zero (P := P) hz w
      have hzs : zv.cells.size = sz := by rw [← Array.length_toList, hzc]; exact hzl
      rw [partsOf_foldr] at hms
      have hz0 : RepL (viewOf w0 ok0 s.H rho w) (zeros zero len) (madeCells zv.cells (len * sz)).toList := by
       have := zeros_rep (V := viewOf w0 ok0 s.H rho w) zv.cells len
       rw [hzc, hzs] at this
       exact this
      obtain ⟨arr', h4, h5⟩ := fill_sound (place := fun i => some (i * sz, sz)) hr.slot q3.toList parts ps _ cells (madeCells zv.cells (len * sz)) hms hps hf hz0
      have hsz2 : arr'.size = len * sz := by
       have hfl : ∀ (qs : List (Nat × List PV)) (c out : List PV), fillP c qs = some out → out.length = c.length := by
        intro qs
        induction qs with
        | nil => intro c out hh; simp [fillP] at hh; rw [hh]
        | cons q r ih =>
         intro c out hh
         obtain ⟨off, xs⟩ := q
         simp only [fillP] at hh
         split at hh
         ·rw [ih _ _ hh]; simp; omega
         ·cases hh
       have h6 := h5.1
       have h7 := hfl _ _ _ hf
       rw [zeros_length, hzl] at h7
       simp only [Array.length_toList] at h6
       omega
      have hrun : (execOp a.eval ⟨dst, .buildSlice q1 len q3, ty, pos, af, gg⟩).run P w = .ok (.value (.slice (some ⟨w.heap.size, 0, none⟩) len len)) (w.alloc (.cells arr' e)) := by
       have e1 : (q3.map fun (i, x) => (i, a.eval x)).toList = q3.toList.map fun (i, x) => (i, a.eval x) := by simp
       simp only [execOp, Instr.buildSlice, Sem.run_bind, run_under hu, Result.andThen_ok, run_size hsz, Sem.run_pure]
       rw [if_neg (by omega)]
       by_cases h0 : len * sz = 0
       ·rw [if_pos h0]
        simp only [Sem.run_bind, Sem.run_pure, Result.andThen_ok, e1]
        have e2 : (Array.range (len * sz)).map (fun x => (#[] : Array Value)[x % (#[] : Array Value).size]!) = madeCells zv.cells (len * sz) := by
         rw [h0]; simp [madeCells]
        rw [e2, h4]
        simp only [newRow, Sem.run_bind, run_newObj, Result.andThen_ok, Sem.run_pure]
        rfl
       ·rw [if_neg h0]
        simp only [Sem.run_bind, hzr, Sem.run_pure, Result.andThen_ok, e1]
        have e2 : (Array.range (len * sz)).map (fun x => zv.cells[x % zv.cells.size]!) = madeCells zv.cells (len * sz) := rfl
        rw [e2, h4]
        simp only [newRow, Sem.run_bind, run_newObj, Result.andThen_ok, Sem.run_pure]
        rfl
      have hlc : cells.length = len * sz := by have h6 := h5.1; simp only [Array.length_toList] at h6; omega
      split at hs'
      ·subst hs'
       refine new_step (arr := arr') (T := e) (v := .slice (some ⟨w.heap.size, 0, none⟩) len len) hr hd hid hrun h5 ?_
       ·refine .osl id 0 len sz len w.heap.size arr' e (0, 0) (upd_same _ _ _) (Nat.le_refl _) ?_ ?_ (by omega)
        ·unfold maxLen; omega
        ·show (w.heap.push _)[w.heap.size]? = _
         exact Array.getElem?_push_size
      ·subst hs'
       obtain ⟨c1, c2, c3⟩ := chunks_spec sz len cells hlc
       exact made_step (ob := ⟨cells, true⟩) (arr := arr') (T := e) hr hd hid hrun h5 fun V hp => .sl sz _ _ _ _ _ c2 c3 (Nat.le_refl _) (by unfold maxLen; omega) (by rw [c1]; exact hp)
     ·cases h
    ·cases hm
   ·cases hm
 case mks sz bytes zero l c =>
  have ht := mop_tag hm
  obtain ⟨dst, op, ty, pos, af, gg⟩ := o
  cases op <;> first | (exfalso; revert ht; simp [MOp.tag, opTag]; done) | (exfalso; rename_i c0; have hh := opTag_call c0; simp only [MOp.tag] at ht; omega) | skip
  simp only [mop, reduceCtorEq, Option.some.injEq, Option.map_eq_some_iff, Option.bind_eq_some_iff, false_and, and_false, exists_false] at hm
  rename_i q1 q2 q3
  ·
   split at hm
   ·rename_i e hu
    simp only [Option.bind_eq_some_iff, Option.map_eq_some_iff] at hm
    obtain ⟨z, hz, inf, hi, hm⟩ := hm
    cases hm
    simp only [stepM] at h
    have hl := ev_rep hr.slot l
    have hc := ev_rep hr.slot c
    split at h
    ·rename_i k1 nn k2 mm e1 e2
     split at h
     ·rename_i hcond
      obtain ⟨h0, rfl, hb, hn, hzl⟩ := hcond
      cases h
      rw [e1] at hl
      rw [e2] at hc
      have el := hl.sc_inv
      have ec := hc.sc_inv
      have hz2 := hz
      unfold zeroOf at hz2
      rw [hi] at hz2
      simp only [Option.bind_some, Option.map_eq_some_iff] at hz2
      obtain ⟨zv, hzv, hzc⟩ := hz2
      have hzs : zv.cells.size = inf.size := by rw [← Array.length_toList, hzc]; exact hzl
      have hrm := run_make (P := P) w q1 e inf zv hu hi hzv k1 k2 nn nn h0 (Int.le_refl _) (by omega) (by omega)
      refine new_step (arr := madeCells zv.cells (nn.toNat * inf.size)) (T := e) (v := .slice (some ⟨w.heap.size, 0, none⟩) nn.toNat nn.toNat) hr hd hid ?_ ?_ ?_
      ·simp only [execOp, el, ec, Sem.run_bind, hrm, Result.andThen_ok, Sem.run_pure]
      ·have := zeros_rep (V := viewOf w0 ok0 s.H rho w) zv.cells nn.toNat
       rw [hzc, hzs] at this
       exact this
      ·refine .osl id 0 nn.toNat inf.size nn.toNat w.heap.size (madeCells zv.cells (nn.toNat * inf.size)) e (0, 0) (upd_same _ _ _) (Nat.le_refl _) ?_ ?_ (by rw [size_madeCells]; omega)
       ·unfold maxLen; omega
       ·show (w.heap.push _)[w.heap.size]? = _
        exact Array.getElem?_push_size
     ·cases h
    ·cases h
   ·cases hm
 case app sz bytes x y =>
  have ht := mop_tag hm
  obtain ⟨dst, op, ty, pos, af, gg⟩ := o
  cases op <;> first | (exfalso; revert ht; simp [MOp.tag, opTag]; done) | skip
  rename_i c
  obtain ⟨callee, args, ats⟩ := c
  cases callee with
  | value f => cases f <;> simp [mop] at hm
  | invoke r mm => simp [mop] at hm
  | builtin b =>
   cases b <;> first | (exfalso; revert ht; simp [MOp.tag, opTag]; done) | skip
   simp only [mop] at hm
   split at hm
   ·rename_i x' y' T U ha hta
    have ha' : args = #[x', y'] := by cases args; simp_all
    have ht' : ats = #[T, U] := by cases ats; simp_all
    subst ha'
    subst ht'
    split at hm
    ·rename_i hTU
     subst hTU
     split at hm
     ·rename_i e hu
      simp only [Option.bind_eq_some_iff] at hm
      obtain ⟨inf, hi, z, hz, hm⟩ := hm
      split at hm
      ·rename_i hzl
       cases hm
       simp only [stepM, Option.map_eq_some_iff] at h
       obtain ⟨⟨r, hs⟩, hE, rfl⟩ := h
       exact app_step hu hi hz hzl hr hd hid hE
      ·cases hm
     ·cases hm
    ·cases hm
   ·cases hm
 case rng x =>
  have ht := mop_tag hm
  obtain ⟨dst, op, ty, pos, af, gg⟩ := o
  cases op <;> first | (exfalso; revert ht; simp [MOp.tag, opTag]; done) | (exfalso; rename_i c0; have hh := opTag_call c0; simp only [MOp.tag] at ht; omega) | skip
  rename_i T y
  simp only [mop] at hm
  split at hm
  ·rename_i hu
   cases hm
   simp only [stepM] at h
   split at h
   ·rename_i b hb
    cases h
    have hx := ev_rep hr.slot x
    rw [hb] at hx
    have hev := hx.sc_inv
    have hrun : (execOp a.eval ⟨dst, .range T x, ty, pos, af, gg⟩).run P w = .ok (.value (.pointer (some ⟨w.heap.size, 0, none⟩))) (w.alloc (.stringIter b 0)) := by
     simp only [execOp, hev, Sem.run_bind, run_range_string w T b hu, Result.andThen_ok, Sem.run_pure]
     rfl
    obtain ⟨h1, h2⟩ := new_iter (id := id) hr.heap hid b
    refine ⟨.value _, _, _, upd rho id (some w.heap.size), hrun, .inl rfl, ⟨?_, ?_, ?_, ?_⟩, ?_, fun k hk => upd_ne _ _ hk⟩
    ·unfold newAt; rw [put_H]; exact h1
    ·rw [aput_size]; exact hr.size
    ·rw [aput_defs]; exact hr.defs
    ·unfold newAt
     rw [put_H]
     exact put_slots (s := { s with H := upd s.H id (some _) }) (fun t => (hr.slot t).mono h2) (fun t ht => by rw [hr.size]; exact hd t ht) (.oit _ _ (upd_same _ _ _))
    ·unfold newAt; rw [put_H]; exact h2
   ·cases h
  ·cases hm
 case nxt x =>
  have ht := mop_tag hm
  obtain ⟨dst, op, ty, pos, af, gg⟩ := o
  cases op <;> first | (exfalso; revert ht; simp [MOp.tag, opTag]; done) | (exfalso; rename_i c0; have hh := opTag_call c0; simp only [MOp.tag] at ht; omega) | skip
  rename_i y str
  simp only [mop] at hm
  split at hm
  ·rename_i hstr
   subst hstr
   cases hm
   simp only [stepM, Option.map_eq_some_iff] at h
   obtain ⟨⟨r, hs⟩, hN, rfl⟩ := h
   have hx := ev_rep hr.slot x
   unfold nextP at hN
   split at hN
   ·rename_i k hk
    rw [hk] at hx
    generalize hq : a.eval x = q at hx
    cases hx with
    | oit _ b hb =>
     have hb' : rho k = some b := hb
     unfold nextO at hN
     split at hN
     ·rename_i sb n hH
      obtain ⟨b2, hb2, hlow, hobj⟩ := hr.heap.own k _ hH
      rw [hb'] at hb2
      cases hb2
      have hspec : w.heap[b]? = some (.stringIter sb n) := by
       rcases hobj with ⟨c, T, hh, hle, hwh, hcl⟩ | ⟨s', pos', he, hh⟩ | ⟨kv, es, clk, he, _, _⟩
       ·exfalso
        have h1 := hwh rfl
        simp only [List.length_cons, List.length_nil] at h1
        have h3 := hcl 0 _ _ rfl (Array.getElem?_eq_getElem (show 0 < c.size by omega))
        cases h3
       ·simp only [PObj.iter, PObj.mk.injEq, List.cons.injEq, PV.itm.injEq, and_true] at he
        obtain ⟨rfl, rfl⟩ := he
        exact hh
       ·simp [PObj.mp] at he
      split at hN
      ·rename_i hlt
       cases hN
       have hrun : (execOp a.eval ⟨dst, .next x true, ty, pos, af, gg⟩).run P w = .ok (.value (.tuple #[.bool true, .int .i64 n, .int .i32 (Utf8.decode sb n).1])) (w.iterAt b sb (n + (Utf8.decode sb n).2)) := by
        simp only [execOp, hq, Sem.run_bind, Go.Lib.run_next_any_at w b sb n ty hspec hlt, Result.andThen_ok, Sem.run_pure]
       obtain ⟨h1, h2⟩ := iter_ext hr.heap hH hb' hspec (n + (Utf8.decode sb n).2)
       refine ⟨.value _, _, _, rho, hrun, .inl rfl, ⟨?_, ?_, ?_, ?_⟩, ?_, fun _ _ => rfl⟩
       ·rw [put_H]; exact h1
       ·rw [aput_size]; exact hr.size
       ·rw [aput_defs]; exact hr.defs
       ·rw [put_H]
        refine put_slots (s := { s with H := upd s.H k (some _) }) (fun t => (hr.slot t).mono h2) (fun t ht => by rw [hr.size]; exact hd t ht) ?_
        exact .tup _ [.bool true, .int .i64 n, .int .i32 (Utf8.decode sb n).1] rfl (RepL.cons (.sc _) (RepL.cons (.sc _) (RepL.cons (.sc _) RepL.nil))).2
       ·rw [put_H]; exact h2
      ·rename_i hp
       cases hN
       have hrun : (execOp a.eval ⟨dst, .next x true, ty, pos, af, gg⟩).run P w = .ok (.value (.tuple #[.bool false])) w := by
        simp only [execOp, hq, Sem.run_bind, Go.Lib.run_next_end_at w b sb n ty hspec hp, Result.andThen_ok, Sem.run_pure]
       refine ⟨.value _, _, _, rho, hrun, .inl rfl, ⟨?_, ?_, ?_, ?_⟩, ?_, fun _ _ => rfl⟩
       ·rw [put_H]; exact hr.heap
       ·rw [aput_size]; exact hr.size
       ·rw [aput_defs]; exact hr.defs
       ·rw [put_H]
        refine put_slots (s := { s with H := s.H }) hr.slot (fun t ht => by rw [hr.size]; exact hd t ht) ?_
        exact .tup _ [.bool false] rfl (RepL.cons (.sc _) RepL.nil).2
       ·rw [put_H]; exact Vw.Leq.refl _
     ·cases hN
   ·cases hN
  ·cases hm
 all_goals
  simp only [stepM, Option.map_eq_some_iff] at h
  obtain ⟨x, hx, hxs⟩ := h
  exact hval (fun _ => rfl) hx hxs
end
section
def enters (P : Program) (f : FuncId) : Bool :=
 match P.funcs[f]? with
 | some fn => fn.name != "runtime.NumGoroutine" && fn.body.isSome
 | none => false
def grown (V : Vw) (w' : World) : Vw := ⟨w', fun b => V.ok b ∨ (V.w.heap.size ≤ b ∧ b < w'.heap.size), V.rho⟩
def PPure (P : Program) (f : FuncId) (args : List PV) (r : PV) : Prop :=
 enters P f = true ∧ ∀ (V : Vw) (nx : Nat) (vals : List Value), (∀ b, V.ok b → b < V.w.heap.size) → (∀ id, nx ≤ id → V.rho id = none) → RepL V args vals →
  Calls P f vals.toArray V.w fun e w' => ∃ v, e = .returned v ∧ Below V.w.heap.size V.w w' ∧ Rep (grown V w') r v
def PMut (P : Program) (f : FuncId) (args : List PV) (H : Nat → Option PObj) (nx : Nat) (Q : (Nat → Option PObj) → Nat → PV → Prop) : Prop :=
 enters P f = true ∧ ∀ (w0 : World) (ok0 : Nat → Prop) (rho : Nat → Option Nat) (w : World) (vals : List Value), RelH w0 ok0 H rho w → (∀ id, nx ≤ id → rho id = none) → RepL (viewOf w0 ok0 H rho w) args vals →
  Calls P f vals.toArray w fun e w' => ∃ v H' nx' r rho', e = .returned v ∧ Q H' nx' r ∧ RelH w0 ok0 H' rho' w' ∧ (viewOf w0 ok0 H rho w).Leq (viewOf w0 ok0 H' rho' w') ∧
   nx ≤ nx' ∧ (∀ id, nx' ≤ id → rho' id = none) ∧ (∀ id, id < nx → rho' id = rho id) ∧ Rep (viewOf w0 ok0 H' rho' w') r v
def noneOwn : Nat → Option PObj := fun _ => none
theorem none_leq (w0 : World) (ok0 : Nat → Prop) (H : Nat → Option PObj) (rho : Nat → Option Nat) (w : World) : (viewOf w0 ok0 H rho w).Leq (viewOf w0 ok0 noneOwn rho w) :=
 ⟨fun b hb => ⟨hb.1, fun id o ho => by cases ho⟩, fun _ _ => rfl, fun _ _ h => h, fun _ _ c T fr _ hh => ⟨c, T, fr, hh, Nat.le_refl _⟩, Nat.le_refl _⟩
mutual
def PV.imm : PV → Bool
 | .sc _ => true
 | .ptr cs => immL cs
 | .sl _ es => immLL es
 | .fn _ cs => immL cs
 | .agg cs => immL cs
 | .tup cs => immL cs
 | .optr .. => false
 | .osl .. => false
 | .oit .. => false
 | .omp .. => false
 | .itm .. => false
 | .mkv _ => false
 | .csl _ es => immLL es
 | .ocap .. => false
 | .fptr cs => immL cs
 | .fsl _ es => immLL es
def immL : List PV → Bool
 | [] => true
 | x :: r => x.imm && immL r
def immLL : List (List PV) → Bool
 | [] => true
 | x :: r => immL x && immLL r
end
theorem immL_get : ∀ {xs : List PV}, immL xs = true → ∀ {i : Nat} {x : PV}, xs[i]? = some x → x.imm = true
 | x :: r, h, 0, y, hy => by simp [immL] at h; simp at hy; subst hy; exact h.1
 | x :: r, h, i + 1, y, hy => by simp only [immL, Bool.and_eq_true] at h; exact immL_get h.2 (by simpa using hy)
theorem immL_append : ∀ {a b : List PV}, immL (a ++ b) = (immL a && immL b)
 | [], b => by simp [immL]
 | x :: r, b => by simp [immL, immL_append, Bool.and_assoc]
theorem immLL_flatten : ∀ {es : List (List PV)}, immLL es = immL es.flatten
 | [] => rfl
 | x :: r => by simp [immLL, List.flatten_cons, immL_append, immLL_flatten]
theorem Rep.imm {V : Vw} {x : PV} {v : Value} (h : Rep V x v) : x.imm = true → ∀ (rho : Nat → Option Nat), Rep ⟨V.w, V.ok, rho⟩ x v := by
 induction h with
 | sc v => intro _ rho; exact .sc v
 | ptr cells b off vs hok hl hc hr ih => intro hi rho; exact .ptr cells b off vs hok hl hc fun i x v hx hv => ih i x v hx hv (immL_get (by simpa [PV.imm] using hi) hx) rho
 | slNil sz A cap h => intro _ rho; exact .slNil sz A cap h
 | sl sz elems b off len cap hlen hs h1 h2 hp ih => intro hi rho; exact .sl sz elems b off len cap hlen hs h1 h2 (ih (by simp only [PV.imm] at hi ⊢; rw [← immLL_flatten]; exact hi) rho)
 | fn f caps vs hl hr ih => intro hi rho; exact .fn f caps vs hl fun i x v hx hv => ih i x v hx hv (immL_get (by simpa [PV.imm] using hi) hx) rho
 | agg cells vs hl hr ih => intro hi rho; exact .agg cells vs hl fun i x v hx hv => ih i x v hx hv (immL_get (by simpa [PV.imm] using hi) hx) rho
 | tup cells vs hl hr ih => intro hi rho; exact .tup cells vs hl fun i x v hx hv => ih i x v hx hv (immL_get (by simpa [PV.imm] using hi) hx) rho
 | csl sz elems A len h ih => intro hi rho; exact .csl sz elems A len (ih (by simpa [PV.imm] using hi) rho)
 | ocap id off len sz b A c T fr h hA h2 hh hc => intro hi; simp [PV.imm] at hi
 | fptr cells v hcl h ih => intro hi rho; exact .fptr cells v hcl (ih (by simpa [PV.imm] using hi) rho)
 | fsl sz elems v hcl h ih => intro hi rho; exact .fsl sz elems v hcl (ih (by simpa [PV.imm] using hi) rho)
 | optr id off b c T fr h hh => intro hi; simp [PV.imm] at hi
 | oit id b h => intro hi; simp [PV.imm] at hi
 | omp id b h => intro hi; simp [PV.imm] at hi
 | osl id off len sz cap b c T fr h h1 h2 hh hc => intro hi; simp [PV.imm] at hi
def brw (H : Nat → Option PObj) : PV → PV
 | .optr id off => match H id with
  | some o => if off ≤ o.cells.length then .ptr (o.cells.drop off) else .optr id off
  | none => .optr id off
 | .osl id off len sz => match H id with
  | some o => if off + len * sz ≤ o.cells.length then .sl sz (chunks sz len ((o.cells.drop off).take (len * sz))) else .osl id off len sz
  | none => .osl id off len sz
 | x => x
mutual
def PV.flat : PV → Bool
 | .sc _ => true
 | .agg cs => flatL cs
 | .tup cs => flatL cs
 | _ => false
def flatL : List PV → Bool
 | [] => true
 | x :: r => x.flat && flatL r
end
theorem flatL_get : ∀ {xs : List PV}, flatL xs = true → ∀ {i : Nat} {x : PV}, xs[i]? = some x → x.flat = true
 | x :: r, h, 0, y, hy => by simp [flatL] at h; simp at hy; subst hy; exact h.1
 | x :: r, h, i + 1, y, hy => by simp only [flatL, Bool.and_eq_true] at h; exact flatL_get h.2 (by simpa using hy)
theorem Rep.flat {V : Vw} {x : PV} {v : Value} (h : Rep V x v) : x.flat = true → ∀ (V' : Vw), Rep V' x v := by
 induction h with
 | sc v => intro _ V'; exact .sc v
 | agg cells vs hl hr ih => intro hi V'; exact .agg cells vs hl fun i x v hx hv => ih i x v hx hv (flatL_get (by simpa [PV.flat] using hi) hx) V'
 | tup cells vs hl hr ih => intro hi V'; exact .tup cells vs hl fun i x v hx hv => ih i x v hx hv (flatL_get (by simpa [PV.flat] using hi) hx) V'
 | _ => intro hi; simp [PV.flat] at hi
def PV.top : PV → Bool
 | .optr .. | .osl .. | .ocap .. => false
 | _ => true
def topL : List PV → Bool
 | [] => true
 | x :: r => x.top && topL r
def Lent (P : Program) (f : FuncId) (args : List PV) (H : Nat → Option PObj) (r : PV) : Prop :=
 r.flat = true ∧ topL (args.map (brw H)) = true ∧ PPure P f (args.map (brw H)) r
def CallV (P : Program) (lend : Bool) (f : FuncId) (args : List PV) (H : Nat → Option PObj) (r : PV) : Prop := PPure P f args r ∨ (lend = true ∧ Lent P f args H r)
def MOp.lend : MOp → Bool
 | .call .. | .callm .. | .callmA .. => true
 | _ => false
theorem CallV.enters {P : Program} {f : FuncId} {args : List PV} {H : Nat → Option PObj} {r : PV} {lend : Bool} (h : CallV P lend f args H r) : enters P f = true := by
 rcases h with h | h
 ·exact h.1
 ·exact h.2.2.2.1
theorem brw_sound {w0 : World} {ok0 : Nat → Prop} {H : Nat → Option PObj} {rho : Nat → Option Nat} {w : World} (hH : RelH w0 ok0 H rho w) {x : PV} {v : Value} (h : Rep (viewOf w0 ok0 H rho w) x v) : Rep (viewOf w0 ok0 noneOwn rho w) (brw H x) v := by
 cases x with
 | optr id off =>
  simp only [brw]
  cases ho : H id with
  | none => exact h.mono (none_leq ..)
  | some o =>
   simp only []
   split
   ·rename_i hoff
    obtain ⟨b, rfl, hb⟩ := h.optr_inv
    obtain ⟨b', hb', hlow, hobj⟩ := hH.own id o ho
    have hb2 : rho id = some b := hb
    rw [hb2] at hb'
    cases hb'
    have hlt := hobj.lt
    obtain ⟨vs, h1, h2, h3⟩ := obj_cells (hobj.cells h.optr_shape) off (o.cells.length - off) (by omega)
    have e : (o.cells.drop off).take (o.cells.length - off) = o.cells.drop off := List.take_of_length_le (by simp)
    rw [e] at h1
    exact .ptr_mk ⟨.inr ⟨hlow, hlt⟩, fun id o ho => by cases ho⟩ (h1.mono (none_leq ..)) h3
   ·exact h.mono (none_leq ..)
 | osl id off len sz =>
  simp only [brw]
  cases ho : H id with
  | none => exact h.mono (none_leq ..)
  | some o =>
   simp only []
   split
   ·rename_i hfit
    obtain ⟨b, cap, c0, T0, fr0, rfl, hb, h1, h2, hsh, _⟩ := h.osl_inv
    obtain ⟨b', hb', hlow, hobj⟩ := hH.own id o ho
    have hb2 : rho id = some b := hb
    rw [hb2] at hb'
    cases hb'
    have hlt := hobj.lt
    obtain ⟨vs, h3, h4, h5⟩ := obj_cells (hobj.cells ⟨_, _, _, hsh⟩) off (len * sz) hfit
    obtain ⟨c1, c2, c3⟩ := chunks_spec sz len ((o.cells.drop off).take (len * sz)) (by simp; omega)
    refine .sl sz _ b off len cap c2 c3 h1 h2 ?_
    rw [c1]
    exact .ptr_mk ⟨.inr ⟨hlow, hlt⟩, fun id o ho => by cases ho⟩ (h3.mono (none_leq ..)) h5
   ·exact h.mono (none_leq ..)
 | _ => exact h.mono (none_leq ..)
theorem brws_sound {w0 : World} {ok0 : Nat → Prop} {H : Nat → Option PObj} {rho : Nat → Option Nat} {w : World} (hH : RelH w0 ok0 H rho w) {xs : List PV} {vs : List Value} (h : RepL (viewOf w0 ok0 H rho w) xs vs) : RepL (viewOf w0 ok0 noneOwn rho w) (xs.map (brw H)) vs :=
 ⟨by simp [h.1], fun i x v hx hv => by
  rw [List.getElem?_map] at hx
  cases hxi : xs[i]? with
  | none => simp [hxi] at hx
  | some y => simp [hxi] at hx; subst hx; exact brw_sound hH (h.2 i y v hxi hv)⟩
def calleeP (s : St) (o : MOp) : Option (FuncId × List PV) :=
 match o with
 | .call f args => some (f, args.map (ev s))
 | .calv x args => match ev s x with
  | .fn f caps => some (f, args.map (ev s) ++ caps)
  | _ => none
 | .callm f args => some (f, args.map (ev s))
 | .callmA f args _ => some (f, args.map (ev s))
 | .calvm x args => match ev s x with
  | .fn f caps => some (f, args.map (ev s) ++ caps)
  | _ => none
 | _ => none
def MOp.isCall : MOp → Bool
 | .call .. | .calv .. | .callm .. | .calvm .. | .callmA .. | .raw _ => true
 | _ => false
def MOp.free : MOp → Bool
 | .callm .. | .calvm .. | .callmA .. | .rng .. | .nxt .. | .raw _ => true
 | _ => false
def relab (b : Nat) : MOp → MOp
 | .call f xs => match b with
  | 0 => .call f xs
  | 1 => .callm f xs
  | k + 2 => .callmA f xs k
 | .calv x xs => match b with
  | 0 => .calv x xs
  | _ + 1 => .calvm x xs
 | m => m
theorem relab_callee {b : Nat} {m : MOp} {s : St} : calleeP s (relab b m) = calleeP s m := by
 match b with
 | 0 => cases m <;> rfl
 | 1 => cases m <;> rfl
 | k + 2 => cases m <;> rfl
theorem relab_not {b : Nat} {m : MOp} (h : ¬ (relab b m).isCall = true) : relab b m = m := by
 match b with
 | 0 => cases m <;> rfl
 | 1 => cases m <;> first | rfl | (exfalso; simp [relab, MOp.isCall] at h)
 | k + 2 => cases m <;> first | rfl | (exfalso; simp [relab, MOp.isCall] at h)
def mutAt (pol : Pol) : Option Nat → Nat
 | some d => if pol.mt.contains d = true then 1 else match pol.mt.find? (fun z => z / 1000 == 1000 + d) with
  | some z => z % 1000 + 2
  | none => 0
 | none => 0
def callA (P : Program) (id k : Nat) (f : FuncId) (args : List PV) (d : Option Nat) (K : St → Prop) (s : St) : Prop :=
 (∃ Q, PMut P f args s.H s.nx Q ∧ ∀ H' nx' r, Q H' nx' r → s.nx ≤ nx' → K (put { s with H := H', nx := nx' } d r)) ∧
  ∀ zs : List Value, s.H (id + k) = none → ∃ Q2, PMut P f args (upd s.H (id + k) (some ⟨zs.map .sc, true⟩)) s.nx Q2 ∧
   ∀ H2 nx2 r, Q2 H2 nx2 r → s.nx ≤ nx2 → ∃ H', H2 = upd H' (id + k) (some ⟨zs.map .sc, true⟩) ∧ H' (id + k) = none ∧ K (put { s with H := H', nx := nx2 } d r)
structure RelF (df : List Deferred) (w0 : World) (ok0 : Nat → Prop) (n : Nat) (s : St) (rho : Nat → Option Nat) (a : Act) (w : World) : Prop where
 rel : Rel df w0 ok0 n s rho a w
 free : ∀ id, s.nx ≤ id → rho id = none
def fnc : Option Nat → Fence
 | none => Fence.wide
 | some l => Fence.wide.inRound l
theorem fnc_fn (q : Option Nat) (f : FuncId) : (fnc q).fn f := by cases q <;> trivial
theorem fnc_depth (q : Option Nat) : (fnc q).depth = none := by cases q <;> rfl
theorem fnc_calls {q : Option Nat} {N : Nat} {P : Program} {f : FuncId} {args : Array Value} {w : World} {R : Ending → World → Prop} (h : Calls P f args w R) : CallsIn (fnc q) N P f args w R := by
 cases q with
 | none => exact callsIn_wide.2 h
 | some l => exact CallsIn.inRound l (callsIn_wide.2 h)
theorem in_about {q : Option Nat} {P : Program} {o : Oper} {a : Act} {w : World} : ∀ f, o.about P w a.eval = some f → (fnc q).fn f := fun f _ => fnc_fn q f
theorem in_value {q : Option Nat} {N : Nat} {P : Program} {o : Oper} {a : Act} {w w' : World} {v : Value} {next : Act → World → Prop} {Q : Exit → Act → World → Prop} (hnd : ∀ c, o.op ≠ .defer c)
  (h : (execOp a.eval o).run P w = .ok (.value v) w') (hn : next (a.put o.dst v) w') : o.wpIn (fnc q) N P a w next Q := by
 refine ⟨in_about, ?_⟩
 rw [Oper.semAt_eq _ _ _ hnd, h]
 exact hn
theorem in_skip {q : Option Nat} {N : Nat} {P : Program} {o : Oper} {a : Act} {w w' : World} {next : Act → World → Prop} {Q : Exit → Act → World → Prop} (hnd : ∀ c, o.op ≠ .defer c)
  (h : (execOp a.eval o).run P w = .ok .skip w') (hn : next (a.put o.dst undef) w') : o.wpIn (fnc q) N P a w next Q := by
 refine ⟨in_about, ?_⟩
 rw [Oper.semAt_eq _ _ _ hnd, h]
 exact hn
theorem in_enter {q : Option Nat} {N : Nat} {P : Program} {o : Oper} {a : Act} {w w' : World} {f : FuncId} {args : Array Value} {next : Act → World → Prop} {Q : Exit → Act → World → Prop} (hnd : ∀ c, o.op ≠ .defer c)
  (h : (execOp a.eval o).run P w = .ok (.enter f args) w') (hn : Calls P f args w' fun e w'' => ∃ v, e = .returned v ∧ next (a.put o.dst v) w'') : o.wpIn (fnc q) N P a w next Q := by
 refine ⟨in_about, ?_⟩
 rw [Oper.semAt_eq _ _ _ hnd, h, Oper.uponIn_enter]
 refine ⟨fun h => (by rw [fnc_depth] at h; cases h), (fnc_calls hn).mono ?_⟩
 rintro e w'' ⟨v, rfl, hv⟩
 exact hv
def rawP (P : Program) (id : Nat) (o : MO) (K : St → Prop) (s : St) : Prop :=
 ∃ op, o.op = .raw op ∧ ∀ (df : List Deferred) (w0 : World) (ok0 : Nat → Prop) (n : Nat) (rho : Nat → Option Nat) (a : Act) (w : World) (next : Act → World → Prop) (Q : Exit → Act → World → Prop) (q : Option Nat) (N : Nat),
  RelF df w0 ok0 n s rho a w → rho id = none → id < s.nx → (∀ t, o.dst = some t → t < n) → op.dst = o.dst →
  (∀ H' nx' r rho' a' w', K (put { s with H := H', nx := nx' } o.dst r) → RelF df w0 ok0 n (put { s with H := H', nx := nx' } o.dst r) rho' a' w' → (viewOf w0 ok0 s.H rho w).Leq (viewOf w0 ok0 H' rho' w') → (∀ k, k ≠ id → k < s.nx → rho' k = rho k) → s.nx ≤ nx' → next a' w') →
  op.wpIn (fnc q) N P a w next Q
def opP (P : Program) (pure : Bool) (id : Nat) (o : MO) (K : St → Prop) (s : St) : Prop :=
 if o.op.isCall = true then
  match o.op with
  | .callmA f xs k => callA P id k f (xs.map (ev s)) o.dst K s
  | _ => match calleeP s o.op with
  | some (f, args) => (∃ r, CallV P o.op.lend f args s.H r ∧ K (put s o.dst r)) ∨
    ((!o.op.free && pure) = false ∧ ∃ Q, PMut P f args s.H s.nx Q ∧ ∀ H' nx' r, Q H' nx' r → s.nx ≤ nx' → K (put { s with H := H', nx := nx' } o.dst r))
  | none => rawP P id o K s
 else
  match stepM id o s with
  | some s' => K s'
  | none => False
def opG (P : Program) (pure : Bool) (id : Nat) (o : MO) (K : St → Prop) (s : St) : Prop :=
 match o.guard with
 | none => opP P pure id o K s
 | some (t, want) => match s.s t with
  | .sc (.bool b) => if b = want then opP P pure id o K s else K (put s o.dst (.sc undef))
  | .sc (.tuple _) => K (put s o.dst (.sc undef))
  | _ => False
def runOps (P : Program) (pure : Bool) (base : Nat) : List (Nat × MO) → (St → Prop) → St → Prop
 | [], K, s => K s
 | (i, o) :: r, K, s => opG P pure (base + i) o (runOps P pure base r K) s
def dstOk (n : Nat) : Option Nat → Bool
 | some t => decide (t < n)
 | none => true
def guardOf (ops : Array Oper) (n : Nat) : Option (Nat × Bool) → Option (Option (Nat × Bool))
 | none => some none
 | some (j, want) => ((ops[j]?).bind (·.dst)).bind fun t => if t < n then some (some (t, want)) else none
def moOp (P : Program) (pol : Pol) (o : Oper) : MOp :=
 match mop P pol o with
 | some m => relab (mutAt pol o.dst) m
 | none => .raw o
def mo (P : Program) (pol : Pol) (ops : Array Oper) (n : Nat) (o : Oper) : Option MO :=
 (guardOf ops n o.guard).bind fun g => if dstOk n o.dst = true then some ⟨o.dst, moOp P pol o, g⟩ else none
theorem mo_inv {P : Program} {pol : Pol} {ops : Array Oper} {n : Nat} {o : Oper} {m : MO} (h : mo P pol ops n o = some m) :
  ((∃ m0, mop P pol o = some m0 ∧ m.op = relab (mutAt pol o.dst) m0) ∨ m.op = .raw o) ∧ m.dst = o.dst ∧ (∀ t, o.dst = some t → t < n) ∧ guardOf ops n o.guard = some m.guard := by
 simp only [mo, Option.bind_eq_some_iff] at h
 obtain ⟨g, hg, h⟩ := h
 split at h
 ·rename_i hd
  cases h
  refine ⟨?_, rfl, fun t ht => ?_, hg⟩
  ·unfold moOp
   cases hm : mop P pol o with
   | none => exact .inr rfl
   | some m' => exact .inl ⟨m', rfl, rfl⟩
  rw [ht] at hd
  simpa [dstOk] using hd
 ·cases h
theorem pure_core {P : Program} {f : FuncId} {args : List PV} {r : PV} {w0 : World} {ok0 : Nat → Prop} {H H2 : Nat → Option PObj} {nx : Nat} {rho : Nat → Option Nat} {w : World} {vals : List Value} (hp : PPure P f args r) (hH : RelH w0 ok0 H rho w) (hfree : ∀ id, nx ≤ id → rho id = none)
  (hv : RepL (viewOf w0 ok0 H2 rho w) args vals) :
  Calls P f vals.toArray w fun e w' => ∃ v, e = .returned v ∧ RelH w0 ok0 H rho w' ∧ (viewOf w0 ok0 H rho w).Leq (viewOf w0 ok0 H rho w') ∧ Rep (grown (viewOf w0 ok0 H2 rho w) w') r v ∧ Below w.heap.size w w' := by
 have hsz := hH.bel.size
 have hlt : ∀ b, (viewOf w0 ok0 H2 rho w).ok b → b < w.heap.size := by
  rintro b ⟨h1 | h1, _⟩
  ·have := hH.okb b h1; omega
  ·exact h1.2
 have hlt0 : ∀ b, (viewOf w0 ok0 H rho w).ok b → b < w.heap.size := by
  rintro b ⟨h1 | h1, _⟩
  ·have := hH.okb b h1; omega
  ·exact h1.2
 refine (hp.2 (viewOf w0 ok0 H2 rho w) nx vals hlt hfree hv).mono ?_
 rintro e w' ⟨v, he, hb, hrep⟩
 have hb' : Below w.heap.size w w' := hb
 have hsz' := hb'.size
 have hleq : (viewOf w0 ok0 H rho w).Leq (viewOf w0 ok0 H rho w') := by
  refine ⟨fun b hk => ⟨?_, hk.2⟩, fun b hk => ?_, fun _ _ h => h, fun id b c T fr hk hh => ?_, hsz'⟩
  ·rcases hk.1 with h1 | h1
   ·exact .inl h1
   ·exact .inr ⟨h1.1, by have := h1.2; omega⟩
  ·exact hb'.block b (hlt0 b hk)
  ·have hk2 := (Array.getElem?_eq_some_iff.1 hh).1
   exact ⟨c, T, fr, (hb'.block b hk2).trans hh, Nat.le_refl _⟩
 refine ⟨v, he, ⟨hH.okb, hH.bel.trans (hb'.mono hsz), fun id o ho => ?_, hH.inj⟩, hleq, hrep, hb'⟩
 obtain ⟨b, h1, h2, h3⟩ := hH.own id o ho
 exact ⟨b, h1, h2, h3.mono hleq (hb'.block b h3.lt)⟩
theorem pure_call {df : List Deferred} {P : Program} {f : FuncId} {args : List PV} {r : PV} {w0 : World} {ok0 : Nat → Prop} {n : Nat} {s : St} {rho : Nat → Option Nat} {a : Act} {w : World} {vals : List Value} {lend : Bool} (hp : CallV P lend f args s.H r) (hr : RelF df w0 ok0 n s rho a w)
  (hv : RepL (viewOf w0 ok0 s.H rho w) args vals) :
  Calls P f vals.toArray w fun e w' => ∃ v, e = .returned v ∧ RelH w0 ok0 s.H rho w' ∧ (viewOf w0 ok0 s.H rho w).Leq (viewOf w0 ok0 s.H rho w') ∧ Rep (viewOf w0 ok0 s.H rho w') r v := by
 have hH := hr.rel.heap
 have hsz := hH.bel.size
 rcases hp with hp | ⟨_, hfl, _, hp⟩
 ·refine (pure_core hp hH hr.free hv).mono ?_
  rintro e w' ⟨v, he, h1, h2, h3, h4⟩
  refine ⟨v, he, h1, h2, h3.mono ?_⟩
  refine ⟨fun b hk => ?_, fun b hk => rfl, fun _ _ h => h, fun id b c T fr hk hh => ⟨c, T, fr, hh, Nat.le_refl _⟩, Nat.le_refl _⟩
  rcases hk with h5 | h5
  ·exact h2.ok b h5
  ·have h1a : w.heap.size ≤ b := h5.1
   refine ⟨.inr ⟨by omega, h5.2⟩, fun id o ho e => ?_⟩
   obtain ⟨b', h6, h7, h8⟩ := hH.own id o ho
   rw [e] at h6
   cases h6
   have := h8.lt
   have h9 : (viewOf w0 ok0 s.H rho w).w.heap.size = w.heap.size := rfl
   omega
 ·refine (pure_core (H2 := noneOwn) hp hH hr.free (brws_sound hH hv)).mono ?_
  rintro e w' ⟨v, he, h1, h2, h3, h4⟩
  exact ⟨v, he, h1, h2, h3.flat hfl _⟩
theorem run_enter {P : Program} {f : FuncId} {vs : Array Value} (h : enters P f = true) (w : World) : (callFunc f vs).run P w = .ok (.enter f vs) w := by
 unfold enters at h
 cases hf : P.funcs[f]? with
 | none => simp [hf] at h
 | some fn =>
  rw [hf] at h
  simp only [Bool.and_eq_true, bne_iff_ne, ne_eq] at h
  obtain ⟨c, hc⟩ := Option.isSome_iff_exists.1 h.2
  have hn : (fn.name == "runtime.NumGoroutine") = false := by rw [beq_eq_false_iff_ne]; exact h.1
  have hb : fn.body.isNone = false := by rw [hc]; rfl
  have hn' : ¬ (fn.name == "runtime.NumGoroutine") = true := by rw [hn]; simp
  have hb' : ¬ fn.body.isNone = true := by rw [hb]; simp
  simp only [callFunc, program, Sem.run_bind, Sem.run, Result.andThen_ok, hf]
  rw [if_neg hn', if_neg hb']
  simp
theorem run_call_fn {P : Program} {f : FuncId} {a : Act} {args : Array Operand} {ats : Array TypeId} {x : Operand} {caps : List Value} {dst : Option Tmp} {ty : TypeId} {pos : String} {af : Array Edge} {g : Option (Nat × Bool)}
  (hx : a.eval x = .func (.func f) #[] caps.toArray) (h : enters P f = true) (w : World) :
  (execOp a.eval ⟨dst, .call { callee := .value x, args, argTypes := ats }, ty, pos, af, g⟩).run P w = .ok (.enter f (args.toList.map a.eval ++ caps).toArray) w := by
 have e : (args.toList.map a.eval ++ caps).toArray = #[] ++ args.map a.eval ++ caps.toArray := by
  apply Array.ext'
  simp
 simp only [execOp, resolve, hx, Deferred.ofValue, Sem.run_bind, Sem.run_pure, Result.andThen_ok, invoke]
 rw [run_enter h, e]
theorem step_nx {id : Nat} {m : MO} {s s' : St} (h : stepM id m s = some s') : s'.nx = s.nx := by
 unfold stepM at h
 split at h
 ·cases h; simp [newAt, put_nx]
 ·split at h
  ·split at h <;> cases h <;> simp [newAt, put_nx]
  ·cases h
 ·split at h
  ·simp only [Option.bind_eq_some_iff, Option.map_eq_some_iff] at h
   obtain ⟨_, _, _, _, h⟩ := h
   split at h <;> subst h <;> simp [newAt, put_nx]
  ·cases h
 ·split at h
  ·split at h
   ·cases h; simp [newAt, put_nx]
   ·cases h
  ·cases h
 ·split at h
  ·simp only [Option.bind_eq_some_iff] at h
   obtain ⟨⟨j, ob⟩, _, h⟩ := h
   split at h
   ·split at h
    ·cases h; simp [put_nx]
    ·cases h
   ·cases h; simp [put_nx]
  ·cases h
 ·simp only [Option.map_eq_some_iff] at h
  obtain ⟨⟨_, _⟩, _, rfl⟩ := h
  exact put_nx _ _ _
 ·split at h
  ·cases h; simp [newAt, put_nx]
  ·cases h
 ·simp only [Option.map_eq_some_iff] at h
  obtain ⟨⟨_, _⟩, _, rfl⟩ := h
  exact put_nx _ _ _
 ·simp only [Option.map_eq_some_iff] at h
  obtain ⟨_, _, rfl⟩ := h
  exact put_nx _ _ _
theorem mop_call {P : Program} {pol : Pol} {o : Oper} {m : MOp} {s : St} {f : FuncId} {args : List PV} {V : Vw} {a : Act} (hm : mop P pol o = some m) (hc : calleeP s m = some (f, args)) (hs : ∀ t, Rep V (s.s t) (a.tmps.getD t undef)) :
  ∃ vals, RepL V args vals ∧ (enters P f = true → ∀ w, (execOp a.eval o).run P w = .ok (.enter f vals.toArray) w) := by
 have ht := mop_tag hm
 obtain ⟨dst, op, ty, pos, af, g⟩ := o
 cases m with
 | call f' xs =>
  simp only [calleeP, Option.some.injEq, Prod.mk.injEq] at hc
  obtain ⟨rfl, rfl⟩ := hc
  cases op with
  | call c =>
   obtain ⟨callee, ys, ats⟩ := c
   cases callee with
   | value x =>
    cases x with
    | func f =>
     simp only [mop, Option.some.injEq, MOp.call.injEq] at hm
     obtain ⟨rfl, rfl⟩ := hm
     refine ⟨ys.toList.map a.eval, evs_rep hs _, fun he w => ?_⟩
     have := run_call_fn (args := ys) (ats := ats) (dst := dst) (ty := ty) (pos := pos) (af := af) (g := g) (a := a) (x := .func f) (caps := []) rfl he w
     rwa [List.append_nil] at this
    | _ => simp [mop] at hm
   | builtin b =>
    exfalso
    cases b <;> simp [MOp.tag, opTag] at ht
   | _ => simp [mop] at hm
  | _ => exfalso; revert ht; simp [MOp.tag, opTag]; done
 | calv x xs =>
  simp only [calleeP] at hc
  split at hc
  ·rename_i f' caps hx
   simp only [Option.some.injEq, Prod.mk.injEq] at hc
   obtain ⟨rfl, rfl⟩ := hc
   cases op with
   | call c =>
    obtain ⟨callee, ys, ats⟩ := c
    cases callee with
    | value z =>
     have hz : z = x ∧ ys.toList = xs := by
      cases z <;> simp only [mop, Option.some.injEq, MOp.calv.injEq, reduceCtorEq] at hm <;> exact hm
     obtain ⟨rfl, rfl⟩ := hz
     have hv := ev_rep hs z
     rw [hx] at hv
     generalize hq : a.eval z = q at hv
     cases hv with
     | fn _ _ vs hl hr =>
      exact ⟨ys.toList.map a.eval ++ vs, (evs_rep hs _).append ⟨hl, hr⟩, fun he w => run_call_fn hq he w⟩
    | builtin b =>
     exfalso
     cases b <;> simp [MOp.tag, opTag] at ht
    | _ => simp [mop] at hm
   | _ => exfalso; revert ht; simp [MOp.tag, opTag]; done
  ·cases hc
 | callm f xs =>
  exfalso
  have h1 : (99 : Nat) = opTag op := ht
  have h2 := opTag_le op
  omega
 | calvm x xs =>
  exfalso
  have h1 : (99 : Nat) = opTag op := ht
  have h2 := opTag_le op
  omega
 | callmA f xs k =>
  exfalso
  have h1 : (99 : Nat) = opTag op := ht
  have h2 := opTag_le op
  omega
 | _ => simp [calleeP] at hc
theorem opP_sound {df : List Deferred} {P : Program} {pol : Pol} {w0 : World} {ok0 : Nat → Prop} {n : Nat} {o : Oper} {a : Act} {s : St} {rho : Nat → Option Nat} {w : World} {m : MO} {id : Nat} {pure : Bool} {K : St → Prop} {next : Act → World → Prop} {Q : Exit → Act → World → Prop} {q : Option Nat} {N : Nat}
  (hm00 : (∃ m0, mop P pol o = some m0 ∧ m.op = relab (mutAt pol o.dst) m0) ∨ m.op = .raw o) (hdst : m.dst = o.dst) (hd : ∀ t, o.dst = some t → t < n) (hr : RelF df w0 ok0 n s rho a w) (hid : rho id = none) (hlo : id < s.nx) (h : opP P pure id m K s)
  (hK : ∀ s' rho' a' w', K s' → RelF df w0 ok0 n s' rho' a' w' → (viewOf w0 ok0 s.H rho w).Leq (viewOf w0 ok0 s'.H rho' w') → (∀ k, k ≠ id → k < s.nx → rho' k = rho k) → s.nx ≤ s'.nx → next a' w') :
  o.wpIn (fnc q) N P a w next Q := by
 have hd2 : ∀ t, m.dst = some t → t < a.tmps.size := fun t ht => by rw [hr.rel.size]; exact hd t (by rw [← hdst]; exact ht)
 rcases hm00 with hm0 | hraw
 case inr =>
  unfold opP at h
  rw [if_pos (by rw [hraw]; rfl), hraw] at h
  obtain ⟨op, hop, h⟩ := h
  rw [hraw] at hop
  cases hop
  exact h df w0 ok0 n rho a w next Q q N hr hid hlo (fun t ht => hd t (by rw [← hdst]; exact ht)) hdst.symm fun H' nx' r rho' a' w' h1 h2 h3 h4 h5 => hK _ rho' a' w' h1 h2 (by rw [put_H]; exact h3) h4 (by rw [put_nx]; exact h5)
 obtain ⟨m0, hm, hre⟩ := hm0
 have hnd : ∀ c, o.op ≠ .defer c := fun c e => by
  unfold mop at hm
  rw [e] at hm
  simp at hm
 unfold opP at h
 split at h
 ·rename_i hcall
  split at h
  ·rename_i f xs k hcA
   have hc : calleeP s m.op = some (f, xs.map (ev s)) := by rw [hcA]; rfl
   rw [hre, relab_callee] at hc
   obtain ⟨vals, hv, hrun⟩ := mop_call hm hc hr.rel.slot
   obtain ⟨⟨Q', hp, hk⟩, _⟩ := h
   refine in_enter hnd (hrun hp.1 w) ((hp.2 w0 ok0 rho w vals hr.rel.heap hr.free hv).mono ?_)
   rintro e w' ⟨v, H', nx', r, rho', rfl, h1, h2, h3, h4, h5, h6, h7⟩
   refine ⟨v, rfl, ?_⟩
   rw [← hdst]
   refine hK _ rho' _ _ (hk H' nx' r h1 h4) ⟨⟨by rw [put_H]; exact h2, by rw [aput_size]; exact hr.rel.size, by rw [aput_defs]; exact hr.rel.defs, ?_⟩, by rw [put_nx]; exact h5⟩ (by rw [put_H]; exact h3) (fun k _ hk => h6 k hk) (by rw [put_nx]; exact h4)
   rw [put_H]
   exact put_slots (s := { s with H := H', nx := nx' }) (fun t => (hr.rel.slot t).mono h3) hd2 h7
  split at h
  ·rename_i f args hc
   rw [hre, relab_callee] at hc
   obtain ⟨vals, hv, hrun⟩ := mop_call hm hc hr.rel.slot
   rcases h with ⟨r, hp, hk⟩ | ⟨_, Q', hp, hk⟩
   ·refine in_enter hnd (hrun hp.enters w) ((pure_call hp hr hv).mono ?_)
    rintro e w' ⟨v, rfl, h1, h2, h3⟩
    refine ⟨v, rfl, ?_⟩
    rw [← hdst]
    refine hK _ rho _ _ hk ⟨⟨by rw [put_H]; exact h1, by rw [aput_size]; exact hr.rel.size, by rw [aput_defs]; exact hr.rel.defs, ?_⟩, by rw [put_nx]; exact hr.free⟩ (by rw [put_H]; exact h2) (fun _ _ _ => rfl) (by rw [put_nx]; exact Nat.le_refl _)
    rw [put_H]
    exact put_slots (fun t => (hr.rel.slot t).mono h2) hd2 h3
   ·refine in_enter hnd (hrun hp.1 w) ((hp.2 w0 ok0 rho w vals hr.rel.heap hr.free hv).mono ?_)
    rintro e w' ⟨v, H', nx', r, rho', rfl, h1, h2, h3, h4, h5, h6, h7⟩
    refine ⟨v, rfl, ?_⟩
    rw [← hdst]
    refine hK _ rho' _ _ (hk H' nx' r h1 h4) ⟨⟨by rw [put_H]; exact h2, by rw [aput_size]; exact hr.rel.size, by rw [aput_defs]; exact hr.rel.defs, ?_⟩, by rw [put_nx]; exact h5⟩ (by rw [put_H]; exact h3) (fun k _ hk => h6 k hk) (by rw [put_nx]; exact h4)
    rw [put_H]
    exact put_slots (s := { s with H := H', nx := nx' }) (fun t => (hr.rel.slot t).mono h3) hd2 h7
  ·obtain ⟨op, hop, _⟩ := h
   exfalso
   rw [hre] at hop
   have h1 := mop_tag hm
   have h2 := opTag_le o.op
   have h3 : m0 = .raw op := by cases m0 <;> first | exact hop | (simp only [relab] at hop; split at hop <;> cases hop)
   subst h3
   simp only [MOp.tag] at h1
   omega
 ·rename_i hcall
  rw [hre] at hcall
  rw [relab_not hcall] at hre
  rw [← hre] at hm
  split at h
  ·rename_i s' hs
   have hs2 : stepM id ⟨o.dst, m.op, m.guard⟩ s = some s' := by rw [← hdst]; exact hs
   obtain ⟨r, v, w', rho', h1, h2, h3, h4, h5⟩ := step_sound hm hr.rel hd hid hs2
   have hnx : s'.nx = s.nx := step_nx hs
   have hnext : next (a.put o.dst v) w' := hK s' rho' _ _ h ⟨h3, fun k hk => by rw [h5 k (by omega)]; exact hr.free k (by omega)⟩ h4 (fun k hk _ => h5 k hk) (by omega)
   rcases h2 with rfl | ⟨rfl, rfl⟩
   ·exact in_value hnd h1 hnext
   ·exact in_skip hnd h1 hnext
  ·exact h.elim
end
section
structure Eff where
 sl : List (Nat × PV)
 hp : List (Nat × Option PObj)
def sets (f : Nat → PV) : List (Nat × PV) → Nat → PV
 | [] => f
 | (t, x) :: r => sets (upd f t x) r
def Eff.app (E : Eff) (s : St) : St :=
 { s with s := sets s.s E.sl, H := updL s.H E.hp }
def slD (d : Option Nat) (x : PV) : List (Nat × PV) :=
 match d with
 | some t => [(t, x)]
 | none => []
def effM (id : Nat) (o : MO) (s : St) : Option Eff :=
 match o.op with
 | .al zero => some ⟨slD o.dst (.optr id 0), [(id, some ⟨zero.map .sc, true⟩)]⟩
 | .bx x own =>
  if (ev s x).good = true then
   if own then some ⟨slD o.dst (.optr id 0), [(id, some ⟨(ev s x).cellsOf, true⟩)]⟩
   else some ⟨slD o.dst (.ptr (ev s x).cellsOf), []⟩
  else none
 | .bsl sz len zero parts own =>
  if zero.length = sz then (partsP s parts).bind fun ps => (fillP (zeros zero len) ps).map fun cells => if own = true then ⟨slD o.dst (.osl id 0 len sz), [(id, some ⟨cells, true⟩)]⟩ else ⟨slD o.dst (.sl sz (chunks sz len cells)), []⟩ else none
 | .mks sz bytes zero l c =>
  match ev s l, ev s c with
  | .sc (.int _ n), .sc (.int _ m) =>
   if 0 ≤ n ∧ n = m ∧ bytes * n ≤ 2 ^ 47 ∧ n ≤ 2 ^ 47 ∧ zero.length = sz then some ⟨slD o.dst (.osl id 0 n.toNat sz), [(id, some ⟨zeros zero n.toNat, true⟩)]⟩ else none
  | _, _ => none
 | .st x v sz fz =>
  if (ev s v).cellsOf.length = sz ∧ (ev s v).cellsOf.all PV.one = true then
   (storeP s (ev s x) (ev s v).cellsOf).bind fun (j, ob) =>
    if fz then
     match x, ev s x with
     | .tmp t, .optr _ 0 => some ⟨(t, .ptr ob.cells) :: slD o.dst (.sc undef), [(j, none)]⟩
     | _, _ => none
    else some ⟨slD o.dst (.sc undef), [(j, some ob)]⟩
  else none
 | .app sz bytes x y => (appE s id sz bytes (ev s x) (ev s y)).map fun (r, hs) => ⟨slD o.dst r, hs⟩
 | .rng x => match ev s x with
  | .sc (.string b) => some ⟨slD o.dst (.oit id), [(id, some (.iter b 0))]⟩
  | _ => none
 | .nxt x => (nextP s (ev s x)).map fun (r, hs) => ⟨slD o.dst r, hs⟩
 | m => (val s m).map fun x => ⟨slD o.dst x, []⟩
theorem app_slD (s : St) (d : Option Nat) (x : PV) : (Eff.app ⟨slD d x, []⟩ s) = put s d x := by cases d <;> rfl
theorem app_new (s : St) (d : Option Nat) (x : PV) (id : Nat) (ob : PObj) : (Eff.app ⟨slD d x, [(id, some ob)]⟩ s) = newAt s d id x ob := by cases d <;> rfl
theorem stepM_eff (id : Nat) (o : MO) (s : St) : stepM id o s = (effM id o s).map fun E => E.app s := by
 obtain ⟨dst, op, g⟩ := o
 cases op with
 | al zero => simp only [stepM, effM, Option.map_some, app_new]
 | bx x own =>
  simp only [stepM, effM]
  split
  ·split
   ·simp only [Option.map_some, app_new]
   ·simp only [Option.map_some, app_slD]
  ·rfl
 | bsl sz len zero parts own =>
  simp only [stepM, effM]
  split
  ·cases partsP s parts with
   | none => rfl
   | some ps =>
    simp only [Option.bind_some]
    cases fillP (zeros zero len) ps with
    | none => rfl
    | some cells => by_cases ho : own = true <;> simp only [ho, Option.map_some, if_true, if_false, Bool.false_eq_true, app_new, app_slD]
  ·rfl
 | mks sz bytes zero l c =>
  simp only [stepM, effM]
  generalize ev s l = p
  generalize ev s c = q
  cases p with
  | sc v =>
   cases v with
   | int k n =>
    cases q with
    | sc u =>
     cases u with
     | int k' m =>
      simp only []
      split
      ·simp only [Option.map_some, app_new]
      ·rfl
     | _ => rfl
    | _ => rfl
   | _ => rfl
  | _ => rfl
 | st x v sz fz =>
  simp only [stepM, effM]
  split
  ·cases storeP s (ev s x) (ev s v).cellsOf with
   | none => rfl
   | some q =>
    obtain ⟨j, ob⟩ := q
    simp only [Option.bind_some]
    split
    ·cases x with
     | tmp t =>
      generalize ev s (.tmp t) = p
      cases p with
      | optr i off =>
       cases off with
       | zero => simp only [Option.map_some, Option.some.injEq]; cases dst <;> rfl
       | succ off => rfl
      | _ => rfl
     | _ => rfl
    ·simp only [Option.map_some, Option.some.injEq]; cases dst <;> rfl
  ·rfl
 | app sz bytes x y =>
  simp only [stepM, effM]
  cases appE s id sz bytes (ev s x) (ev s y) with
  | none => rfl
  | some q =>
   obtain ⟨r, hs⟩ := q
   simp only [Option.map_some]
   cases dst <;> rfl
 | rng x =>
  simp only [stepM, effM]
  generalize ev s x = p
  cases p with
  | sc v =>
   cases v with
   | string b => simp only [Option.map_some, app_new]
   | _ => rfl
  | _ => rfl
 | nxt x =>
  simp only [stepM, effM]
  cases nextP s (ev s x) with
  | none => rfl
  | some q =>
   obtain ⟨r, hs⟩ := q
   simp only [Option.map_some]
   cases dst <;> rfl
 | _ =>
  simp only [stepM, effM, Option.map_map]
  congr 1
  funext x
  exact (app_slD s dst x).symm
def opds : MOp → List Operand
 | .rng x | .nxt x | .mv x | .un _ x | .nilc x | .fa x _ | .fd x _ _ _ | .ld x _ _ | .ldf x _ _ | .bx x _ | .len x _ | .ext x _ => [x]
 | .pick c a b => [c, a, b]
 | .bin _ x y | .eqa _ _ x y | .ixs x y | .ia x y _ _ | .iaa x y _ _ | .ix x y _ _ _ | .st x y _ _ | .mks _ _ _ x y | .app _ _ x y => [x, y]
 | .al .. | .raw _ => []
 | .ldo x ks _ _ => x :: ks.map .tmp
 | .bld _ ps => ps.map (·.2.2)
 | .bsl _ _ _ ps _ => ps.map (·.2.2)
 | .mkf _ xs | .call _ xs | .callm _ xs | .callmA _ xs _ | .mm _ xs => xs
 | .calv x xs | .calvm x xs => x :: xs
 | .slc x lo hi mx _ _ => x :: (lo.toList ++ (hi.toList ++ mx.toList))
end
section
def OwnAt (p : PV) (id : Nat) : Prop := (∃ off, p = .optr id off) ∨ (∃ off len sz, p = .osl id off len sz) ∨ ∃ off len sz, p = .ocap id off len sz
def slotOf : Operand → List Nat
 | .tmp t => [t]
 | _ => []
def reads (o : MO) : List Nat :=
 (match o.guard with
 | some (t, _) => [t]
 | none => []) ++ (opds o.op).flatMap slotOf
def writes (o : MO) : List Nat :=
 o.dst.toList ++ (match o.op with
 | .st (.tmp t) _ _ true => [t]
 | _ => [])
def adr : MOp → List Nat
 | .ld x _ _ | .ldo x _ _ _ | .st x _ _ _ => slotOf x
 | .app _ _ x y => slotOf x ++ slotOf y
 | .call _ xs | .callm _ xs | .callmA _ xs _ => xs.flatMap slotOf
 | .calv x xs | .calvm x xs => (x :: xs).flatMap slotOf
 | _ => []
def hk : MOp → Nat
 | .ld .. | .ldo .. | .call .. | .calv .. | .callm .. | .calvm .. | .callmA .. => 1
 | .al .. | .bx .. | .bsl .. | .mks .. => 2
 | .st .. | .app .. => 3
 | _ => 0
def disj (a b : List Nat) : Bool := a.all fun t => !b.contains t
def away (y x : MO) : Bool :=
 match y.op, x.op with
 | .st (.tmp k) _ _ false, .ldo _ ks _ _ => ks.contains k && (y.guard.isNone && x.guard.isNone)
 | _, _ => false
def indep0 (y x : MO) : Bool :=
 disj (writes y) (reads x) && disj (writes y) (writes x) && disj (writes x) (reads y) && !(hk y.op == 3 && (hk x.op != 0 && !away y x)) && !(hk x.op == 3 && (hk y.op != 0 && !away x y))
theorem away_or {y x : MO} (h : (!(hk y.op == 3 && (hk x.op != 0 && !away y x))) = true) (h3 : hk y.op = 3) : hk x.op = 0 ∨ away y x = true := by
 by_cases h0 : hk x.op = 0
 ·exact .inl h0
 ·cases ha : away y x with
  | true => exact .inr rfl
  | false => simp [h3, ha, h0] at h
theorem away_inv {y x : MO} (h : away y x = true) : ∃ k v sz x' ks sz' ag, y.op = .st (.tmp k) v sz false ∧ x.op = .ldo x' ks sz' ag ∧ k ∈ ks ∧ y.guard = none ∧ x.guard = none := by
 unfold away at h
 split at h
 ·rename_i k v sz x' ks sz' ag h1 h2
  simp only [Bool.and_eq_true, List.contains_iff_mem, Option.isNone_iff_eq_none] at h
  exact ⟨k, v, sz, x', ks, sz', ag, h1, h2, h.1, h.2.1, h.2.2⟩
 ·cases h
def indep (y x : MO) : Bool := indep0 y x && (!y.op.free && !x.op.free)
theorem indep_inv {y x : MO} (h : indep y x = true) : indep0 y x = true ∧ y.op.free = false ∧ x.op.free = false := by
 simpa [indep] using h
theorem disj_spec {a b : List Nat} (h : disj a b = true) {t : Nat} (ha : t ∈ a) : t ∉ b := by
 have := List.all_eq_true.1 h t ha
 simpa using this
theorem ev_congr {s s' : St} {x : Operand} (h : ∀ t ∈ slotOf x, s'.s t = s.s t) : ev s' x = ev s x := by
 cases x with
 | tmp t => exact h t (by simp [slotOf])
 | _ => rfl
theorem evs_congr {s s' : St} {xs : List Operand} (h : ∀ t ∈ xs.flatMap slotOf, s'.s t = s.s t) : xs.map (ev s') = xs.map (ev s) := by
 apply List.map_congr_left
 intro x hx
 exact ev_congr fun t ht => h t (List.mem_flatMap.2 ⟨x, hx, ht⟩)
theorem parts_congr {s s' : St} : ∀ {ps : List (Nat × Nat × Operand)}, (∀ t ∈ (ps.map (·.2.2)).flatMap slotOf, s'.s t = s.s t) → partsP s' ps = partsP s ps
 | [], _ => rfl
 | (off, sz, x) :: r, h => by
  have e1 : ev s' x = ev s x := ev_congr fun t ht => h t (by simp [ht])
  have e2 := parts_congr (ps := r) fun t ht => h t (by simp only [List.map_cons, List.flatMap_cons, List.mem_append]; exact .inr ht)
  simp only [partsP, e1, e2]
theorem loadP_isP {p : PV} {sz : Nat} (h : isP p = true) (s s' : St) : loadP s p sz = loadP s' p sz := by
 cases p with
 | ptr c => rfl
 | fptr c => rfl
 | _ => cases h
theorem load_congr {s s' : St} {x : Operand} {sz : Nat} {cs : List PV} (he : ev s' x = ev s x) (hh : ∀ t ∈ slotOf x, ∀ id off, s.s t = .optr id off → s.H id ≠ none → s'.H id = s.H id) (h : loadP s (ev s x) sz = some cs) : loadP s' (ev s' x) sz = some cs := by
 rw [he]
 cases x with
 | tmp t =>
  generalize hp : ev s (.tmp t) = p at *
  cases p with
  | optr id off =>
   simp only [loadP] at h ⊢
   cases ho : s.H id with
   | none => simp [ho] at h
   | some o =>
    have := hh t (by simp [slotOf]) id off hp (by rw [ho]; simp)
    rw [this]
    exact h
  | _ => exact h
 | _ => simp [ev, loadP] at h
theorem storeP_congr {s s' : St} {x : Operand} {xs : List PV} {q : Nat × PObj} (he : ev s' x = ev s x) (hh : ∀ t ∈ slotOf x, ∀ id off, s.s t = .optr id off → s.H id ≠ none → s'.H id = s.H id) (h : storeP s (ev s x) xs = some q) : storeP s' (ev s' x) xs = some q := by
 rw [he]
 cases x with
 | tmp t =>
  generalize hp : ev s (.tmp t) = p at *
  cases p with
  | optr id off =>
   simp only [storeP] at h ⊢
   cases ho : s.H id with
   | none => simp [ho] at h
   | some o =>
    have := hh t (by simp [slotOf]) id off hp (by rw [ho]; simp)
    rw [this]
    exact h
  | _ => exact h
 | _ => simp [ev, storeP] at h
theorem oldOf_sc (s s' : St) (sz : Nat) (v : Value) : oldOf s sz (.sc v) = oldOf s' sz (.sc v) ∧ ∀ q, oldOf s sz (.sc v) = some q → q.1 = none := by
 cases v with
 | slice A n c =>
  cases A with
  | some ad => exact ⟨rfl, fun q h => by simp [oldOf] at h⟩
  | none =>
   cases n with
   | succ k => exact ⟨rfl, fun q h => by simp [oldOf] at h⟩
   | zero =>
    cases c with
    | succ k => exact ⟨rfl, fun q h => by simp [oldOf] at h⟩
    | zero => exact ⟨rfl, fun q h => by simp only [oldOf, Option.some.injEq] at h; rw [← h]⟩
 | _ => exact ⟨rfl, fun q h => by simp [oldOf] at h⟩
theorem rowOf_sc (s s' : St) (sz : Nat) (v : Value) : rowOf s sz (.sc v) = rowOf s' sz (.sc v) := by
 cases v with
 | slice A n c =>
  cases A with
  | some ad => rfl
  | none =>
   cases n with
   | succ k => rfl
   | zero => cases c <;> rfl
 | _ => rfl
theorem osl_heap {s s' : St} {x : Operand} (hh : ∀ t ∈ slotOf x, ∀ id : Nat, OwnAt (s.s t) id → s.H id ≠ none → s'.H id = s.H id) {id off len sz : Nat} (he : ev s x = .osl id off len sz) (hn : s.H id ≠ none) : s'.H id = s.H id := by
 cases x with
 | tmp t => exact hh t (by simp [slotOf]) id (.inr (.inl ⟨off, len, sz, he⟩)) hn
 | _ => simp [ev] at he
theorem ocap_heap {s s' : St} {x : Operand} (hh : ∀ t ∈ slotOf x, ∀ id : Nat, OwnAt (s.s t) id → s.H id ≠ none → s'.H id = s.H id) {id off len sz : Nat} (he : ev s x = .ocap id off len sz) (hn : s.H id ≠ none) : s'.H id = s.H id := by
 cases x with
 | tmp t => exact hh t (by simp [slotOf]) id (.inr (.inr ⟨off, len, sz, he⟩)) hn
 | _ => simp [ev] at he
theorem oldOf_congr {s s' : St} {x : Operand} {sz : Nat} {q : Option Nat × List PV × Nat} (he : ev s' x = ev s x) (hh : ∀ t ∈ slotOf x, ∀ id : Nat, OwnAt (s.s t) id → s.H id ≠ none → s'.H id = s.H id) (h : oldOf s sz (ev s x) = some q) : oldOf s' sz (ev s' x) = some q := by
 rw [he]
 have key := fun {id off len sz} => osl_heap (s := s) (s' := s') (x := x) hh (id := id) (off := off) (len := len) (sz := sz)
 have key2 := fun {id off len sz} => ocap_heap (s := s) (s' := s') (x := x) hh (id := id) (off := off) (len := len) (sz := sz)
 generalize ev s x = p at h key key2
 cases p with
 | csl sz' es => exact h
 | ocap id off len sz' =>
  simp only [oldOf] at h ⊢
  cases ho : s.H id with
  | none => simp [ho] at h
  | some o =>
   rw [key2 rfl (by rw [ho]; simp)]
   simpa only [ho] using h
 | osl id off len sz' =>
  cases off with
  | succ k => simp [oldOf] at h
  | zero =>
   simp only [oldOf] at h ⊢
   cases ho : s.H id with
   | none => simp [ho] at h
   | some o =>
    rw [key rfl (by rw [ho]; simp)]
    simpa only [ho] using h
 | sc v => rw [← (oldOf_sc s s' sz v).1]; exact h
 | _ => simp [oldOf] at h
theorem rowOf_congr {s s' : St} {x : Operand} {sz : Nat} {q : List PV} (he : ev s' x = ev s x) (hh : ∀ t ∈ slotOf x, ∀ id : Nat, OwnAt (s.s t) id → s.H id ≠ none → s'.H id = s.H id) (h : rowOf s sz (ev s x) = some q) : rowOf s' sz (ev s' x) = some q := by
 rw [he]
 have key := fun {id off len sz} => osl_heap (s := s) (s' := s') (x := x) hh (id := id) (off := off) (len := len) (sz := sz)
 generalize ev s x = p at h key
 cases p with
 | osl id off len sz' =>
  simp only [rowOf] at h ⊢
  cases ho : s.H id with
  | none => simp [ho] at h
  | some o =>
   rw [key rfl (by rw [ho]; simp)]
   simpa only [ho] using h
 | sc v => rw [← rowOf_sc s s' sz v]; exact h
 | sl sz es => exact h
 | _ => simp [rowOf] at h
theorem effM_congr {id : Nat} {o : MO} {s s' : St} {E : Eff} (hfr : o.op.free = false) (hr : ∀ t ∈ (opds o.op).flatMap slotOf, s'.s t = s.s t) (hh0 : ∀ t ∈ adr o.op, ∀ id : Nat, OwnAt (s.s t) id → s.H id ≠ none → s'.H id = s.H id)
  (h : effM id o s = some E) : effM id o s' = some E := by
 have hh : ∀ t ∈ adr o.op, ∀ id off, s.s t = .optr id off → s.H id ≠ none → s'.H id = s.H id := fun t ht id off e hn => hh0 t ht id (.inl ⟨off, e⟩) hn
 obtain ⟨dst, op, g⟩ := o
 have e1 : ∀ x ∈ opds op, ev s' x = ev s x := fun x hx => ev_congr fun t ht => hr t (List.mem_flatMap.2 ⟨x, hx, ht⟩)
 cases op with
 | al zero => exact h
 | bx x own =>
  have := e1 x (by simp [opds])
  simp only [effM, this] at h ⊢
  exact h
 | bsl sz len zero parts own =>
  have := parts_congr (s := s) (s' := s') (ps := parts) hr
  simp only [effM, this] at h ⊢
  exact h
 | mks sz bytes zero l c =>
  have h1 := e1 l (by simp [opds])
  have h2 := e1 c (by simp [opds])
  simp only [effM, h1, h2] at h ⊢
  exact h
 | st x v sz fz =>
  have h1 := e1 x (by simp [opds])
  have h2 := e1 v (by simp [opds])
  simp only [effM, h2] at h ⊢
  split at h
  ·rename_i hc
   rw [if_pos hc]
   simp only [Option.bind_eq_some_iff] at h
   obtain ⟨q, hq, h⟩ := h
   rw [storeP_congr h1 hh hq]
   simp only [Option.bind_some, h1]
   exact h
  ·cases h
 | ldf x sz ag =>
  have h1 := e1 x (by simp [opds])
  simp only [effM, val, h1] at h ⊢
  split at h
  ·rename_i hp
   rw [if_pos hp, loadP_isP hp s' s]
   exact h
  ·simp at h
 | ldo x ks sz ag =>
  have h1 := e1 x (by simp [opds])
  have h2 : ∀ k ∈ ks, s'.s k = s.s k := fun k hk => hr k (by simp only [opds, List.flatMap_cons, List.mem_append, List.mem_flatMap]; exact .inr ⟨.tmp k, List.mem_map.2 ⟨k, hk, rfl⟩, by simp [slotOf]⟩)
  simp only [effM, val, Option.map_eq_some_iff] at h ⊢
  obtain ⟨y, h, hE⟩ := h
  split at h
  ·rename_i hc
   have hc2 : ks.all (fun k => apartP (ev s' x) (s'.s k)) = true := by
    rw [List.all_eq_true] at hc ⊢
    intro k hk
    rw [h1, h2 k hk]
    exact hc k hk
   rw [if_pos hc2]
   rw [Option.bind_eq_some_iff] at h
   obtain ⟨cs, hcs, hy⟩ := h
   exact ⟨y, by rw [load_congr h1 hh hcs]; exact hy, hE⟩
  ·cases h
 | ld x sz ag =>
  have h1 := e1 x (by simp [opds])
  simp only [effM, val, Option.map_eq_some_iff, Option.bind_eq_some_iff] at h ⊢
  obtain ⟨y, ⟨cs, hcs, hy⟩, hE⟩ := h
  exact ⟨y, ⟨cs, load_congr h1 hh hcs, hy⟩, hE⟩
 | bld zero parts =>
  have := parts_congr (s := s) (s' := s') (ps := parts) hr
  simp only [effM, val, this] at h ⊢
  exact h
 | mkf f caps =>
  have := evs_congr (s := s) (s' := s') (xs := caps) hr
  simp only [effM, val, this] at h ⊢
  exact h
 | mm mx xs =>
  have := evs_congr (s := s) (s' := s') (xs := xs) hr
  simp only [effM, val, this] at h ⊢
  exact h
 | app sz bytes x y =>
  have h1 := e1 x (by simp [opds])
  have h2 := e1 y (by simp [opds])
  have hx : ∀ t ∈ slotOf x, ∀ id : Nat, OwnAt (s.s t) id → s.H id ≠ none → s'.H id = s.H id := fun t ht => hh0 t (by simp [adr, ht])
  have hy : ∀ t ∈ slotOf y, ∀ id : Nat, OwnAt (s.s t) id → s.H id ≠ none → s'.H id = s.H id := fun t ht => hh0 t (by simp [adr, ht])
  simp only [effM, appE, Option.map_eq_some_iff, Option.bind_eq_some_iff] at h ⊢
  obtain ⟨q, ⟨q1, hq1, q2, hq2, m, hm, hq⟩, hE⟩ := h
  exact ⟨q, ⟨q1, oldOf_congr h1 hx hq1, q2, rowOf_congr h2 hy hq2, m, by rw [h2]; exact hm, by rw [h1]; exact hq⟩, hE⟩
 | pick c y z =>
  have h1 := e1 c (by simp [opds])
  have h2 := e1 y (by simp [opds])
  have h3 := e1 z (by simp [opds])
  simp only [effM, val, h1, h2, h3] at h ⊢
  exact h
 | bin b x y =>
  have h1 := e1 x (by simp [opds])
  have h2 := e1 y (by simp [opds])
  simp only [effM, val, h1, h2] at h ⊢
  exact h
 | eqa ne t x y =>
  have h1 := e1 x (by simp [opds])
  have h2 := e1 y (by simp [opds])
  simp only [effM, val, h1, h2] at h ⊢
  exact h
 | ia x y sz tl =>
  have h1 := e1 x (by simp [opds])
  have h2 := e1 y (by simp [opds])
  simp only [effM, val, h1, h2] at h ⊢
  exact h
 | iaa x y l sz =>
  have h1 := e1 x (by simp [opds])
  have h2 := e1 y (by simp [opds])
  simp only [effM, val, h1, h2] at h ⊢
  exact h
 | ix x y l sz ag =>
  have h1 := e1 x (by simp [opds])
  have h2 := e1 y (by simp [opds])
  simp only [effM, val, h1, h2] at h ⊢
  exact h
 | ixs x y =>
  have h1 := e1 x (by simp [opds])
  have h2 := e1 y (by simp [opds])
  simp only [effM, val, h1, h2] at h ⊢
  exact h
 | mv x => have h1 := e1 x (by simp [opds]); simp only [effM, val, h1] at h ⊢; exact h
 | un b x => have h1 := e1 x (by simp [opds]); simp only [effM, val, h1] at h ⊢; exact h
 | nilc x => have h1 := e1 x (by simp [opds]); simp only [effM, val, h1] at h ⊢; exact h
 | fa x off => have h1 := e1 x (by simp [opds]); simp only [effM, val, h1] at h ⊢; exact h
 | fd x off sz ag => have h1 := e1 x (by simp [opds]); simp only [effM, val, h1] at h ⊢; exact h
 | len x str => have h1 := e1 x (by simp [opds]); simp only [effM, val, h1] at h ⊢; exact h
 | ext x i => have h1 := e1 x (by simp [opds]); simp only [effM, val, h1] at h ⊢; exact h
 | slc x lo hi mx sz str =>
  have h1 := e1 x (by simp [opds])
  have h2 : ∀ (o : Option Operand) d, (∀ y ∈ o.toList, y ∈ opds (.slc x lo hi mx sz str)) → bndO s' d o = bndO s d o := fun o d ho => by
   cases o with
   | none => rfl
   | some y => simp only [bndO, e1 y (ho y (by simp))]
  have h3 : ∀ (o : Option Operand), (∀ y ∈ o.toList, y ∈ opds (.slc x lo hi mx sz str)) → capO s' o = capO s o := fun o ho => by
   cases o with
   | none => rfl
   | some y => simp only [capO, e1 y (ho y (by simp))]
  have g1 := h2 lo 0 (fun y hy => by simp only [opds, List.mem_cons, List.mem_append]; exact .inr (.inl hy))
  have g2 := h2 hi (slcLen (ev s x)) (fun y hy => by simp only [opds, List.mem_cons, List.mem_append]; exact .inr (.inr (.inl hy)))
  have g3 := h3 mx (fun y hy => by simp only [opds, List.mem_cons, List.mem_append]; exact .inr (.inr (.inr hy)))
  simp only [effM, val, slcP, h1, g1, g2, g3] at h ⊢
  exact h
 | rng x => simp [MOp.free] at hfr
 | nxt x => simp [MOp.free] at hfr
 | _ => simp [effM, val] at h
theorem callee_congr {s s' : St} {m : MOp} (hr : ∀ t ∈ (opds m).flatMap slotOf, s'.s t = s.s t) : calleeP s' m = calleeP s m := by
 cases m with
 | call f xs => simp only [calleeP]; rw [evs_congr (xs := xs) hr]
 | calv x xs =>
  have h1 : ev s' x = ev s x := ev_congr fun t ht => hr t (by simp [opds, ht])
  have h2 : xs.map (ev s') = xs.map (ev s) := evs_congr fun t ht => hr t (by simp only [opds, List.flatMap_cons, List.mem_append]; exact .inr ht)
  simp only [calleeP, h1, h2]
 | callm f xs => simp only [calleeP]; rw [evs_congr (xs := xs) hr]
 | callmA f xs k => simp only [calleeP]; rw [evs_congr (xs := xs) hr]
 | calvm x xs =>
  have h1 : ev s' x = ev s x := ev_congr fun t ht => hr t (by simp [opds, ht])
  have h2 : xs.map (ev s') = xs.map (ev s) := evs_congr fun t ht => hr t (by simp only [opds, List.flatMap_cons, List.mem_append]; exact .inr ht)
  simp only [calleeP, h1, h2]
 | _ => rfl
def DoesP (P : Program) (id : Nat) (o : MO) (s : St) (E : Eff) : Prop :=
 if o.op.isCall = true then ∃ f args r, calleeP s o.op = some (f, args) ∧ CallV P o.op.lend f args s.H r ∧ E = ⟨slD o.dst r, []⟩
 else effM id o s = some E
def DoesG (P : Program) (id : Nat) (o : MO) (s : St) (E : Eff) : Prop :=
 match o.guard with
 | none => DoesP P id o s E
 | some (t, want) => match s.s t with
  | .sc (.bool b) => if b = want then DoesP P id o s E else E = ⟨slD o.dst (.sc undef), []⟩
  | .sc (.tuple _) => E = ⟨slD o.dst (.sc undef), []⟩
  | _ => False
theorem opP_does {P : Program} {id : Nat} {o : MO} {K : St → Prop} {s : St} (hfr : o.op.free = false) : opP P true id o K s ↔ ∃ E, DoesP P id o s E ∧ K (E.app s) := by
 unfold opP DoesP
 by_cases hc : o.op.isCall = true
 ·rw [if_pos hc]
  simp only [if_pos hc]
  constructor
  ·intro h
   split at h
   ·rename_i hA
    rw [hA] at hfr
    cases hfr
   split at h
   ·rename_i f args hf
    rcases h with ⟨r, hp, hk⟩ | ⟨h0, _⟩
    ·exact ⟨_, ⟨f, args, r, hf, hp, rfl⟩, by rw [app_slD]; exact hk⟩
    ·rw [hfr] at h0; cases h0
   ·obtain ⟨op, hop, _⟩ := h
    rw [hop] at hfr
    cases hfr
  ·rintro ⟨E, ⟨f, args, r, hf, hp, rfl⟩, hk⟩
   rw [app_slD] at hk
   split
   ·rename_i hA
    rw [hA] at hfr
    cases hfr
   rw [hf]
   exact .inl ⟨r, hp, hk⟩
 ·rw [if_neg hc]
  simp only [if_neg hc, stepM_eff]
  constructor
  ·intro h
   cases he : effM id o s with
   | none => simp [he] at h
   | some E => simp [he] at h; exact ⟨E, rfl, h⟩
  ·rintro ⟨E, he, hk⟩
   simp only [he, Option.map_some]
   exact hk
theorem opG_does {P : Program} {id : Nat} {o : MO} {K : St → Prop} {s : St} (hfr : o.op.free = false) : opG P true id o K s ↔ ∃ E, DoesG P id o s E ∧ K (E.app s) := by
 unfold opG DoesG
 cases hg : o.guard with
 | none => exact opP_does hfr
 | some q =>
  obtain ⟨t, want⟩ := q
  simp only []
  generalize s.s t = p
  cases p with
  | sc v =>
   cases v with
   | bool b =>
    simp only []
    by_cases hb : b = want
    ·simp only [if_pos hb]; exact opP_does hfr
    ·simp only [if_neg hb]
     constructor
     ·intro h; exact ⟨_, rfl, by rw [app_slD]; exact h⟩
     ·rintro ⟨E, rfl, h⟩; rw [app_slD] at h; exact h
   | tuple _ =>
    simp only []
    constructor
    ·intro h; exact ⟨_, rfl, by rw [app_slD]; exact h⟩
    ·rintro ⟨E, rfl, h⟩; rw [app_slD] at h; exact h
   | _ => simp
  | _ => simp
theorem brw_congr {H H' : Nat → Option PObj} {x : PV} (hi : (brw H x).top = true) (hh : ∀ id : Nat, OwnAt (x) id → H id ≠ none → H' id = H id) : brw H' x = brw H x := by
 cases x with
 | optr id off =>
  cases ho : H id with
  | none => simp [brw, ho, PV.top] at hi
  | some o => simp only [brw, hh id (.inl ⟨off, rfl⟩) (by rw [ho]; simp)]
 | osl id off len sz =>
  cases ho : H id with
  | none => simp [brw, ho, PV.top] at hi
  | some o => simp only [brw, hh id (.inr (.inl ⟨off, len, sz, rfl⟩)) (by rw [ho]; simp)]
 | _ => rfl
theorem caps_imm {H : Nat → Option PObj} : ∀ (xs : List PV), topL (xs.map (brw H)) = true → ∀ (H' : Nat → Option PObj), (∀ x ∈ xs, ∀ id : Nat, OwnAt (x) id → H id ≠ none → H' id = H id) → xs.map (brw H') = xs.map (brw H)
 | [], _, _, _ => rfl
 | x :: r, h, H', hh => by
  simp only [List.map_cons, topL, Bool.and_eq_true] at h ⊢
  rw [brw_congr h.1 (hh x (by simp)), caps_imm r h.2 H' fun y hy => hh y (by simp [hy])]
theorem callV_congr {P : Program} {s s' : St} {m : MOp} {f : FuncId} {args : List PV} {r : PV} (hc : calleeP s m = some (f, args)) (hh : ∀ t ∈ adr m, ∀ id : Nat, OwnAt (s.s t) id → s.H id ≠ none → s'.H id = s.H id)
  (h : CallV P m.lend f args s.H r) : CallV P m.lend f args s'.H r := by
 rcases h with h | ⟨h0, h1, h2, h3⟩
 ·exact .inl h
 ·cases m with
  | call g xs =>
   simp only [calleeP, Option.some.injEq, Prod.mk.injEq] at hc
   obtain ⟨rfl, rfl⟩ := hc
   have e : (xs.map (ev s)).map (brw s'.H) = (xs.map (ev s)).map (brw s.H) := by
    refine caps_imm _ h2 s'.H fun x hx id hid hn => ?_
    obtain ⟨y, hy, rfl⟩ := List.mem_map.1 hx
    cases y with
    | tmp t => exact hh t (List.mem_flatMap.2 ⟨_, hy, by simp [slotOf]⟩) id hid hn
    | _ =>
     rcases hid with ⟨_, e⟩ | ⟨_, _, _, e⟩ | ⟨_, _, _, e⟩ <;> simp [ev] at e
   exact .inr ⟨h0, h1, by rw [e]; exact h2, by rw [e]; exact h3⟩
  | callm g xs =>
   simp only [calleeP, Option.some.injEq, Prod.mk.injEq] at hc
   obtain ⟨rfl, rfl⟩ := hc
   have e : (xs.map (ev s)).map (brw s'.H) = (xs.map (ev s)).map (brw s.H) := by
    refine caps_imm _ h2 s'.H fun x hx id hid hn => ?_
    obtain ⟨y, hy, rfl⟩ := List.mem_map.1 hx
    cases y with
    | tmp t => exact hh t (List.mem_flatMap.2 ⟨_, hy, by simp [slotOf]⟩) id hid hn
    | _ =>
     rcases hid with ⟨_, e⟩ | ⟨_, _, _, e⟩ | ⟨_, _, _, e⟩ <;> simp [ev] at e
   exact .inr ⟨h0, h1, by rw [e]; exact h2, by rw [e]; exact h3⟩
  | callmA g xs k =>
   simp only [calleeP, Option.some.injEq, Prod.mk.injEq] at hc
   obtain ⟨rfl, rfl⟩ := hc
   have e : (xs.map (ev s)).map (brw s'.H) = (xs.map (ev s)).map (brw s.H) := by
    refine caps_imm _ h2 s'.H fun x hx id hid hn => ?_
    obtain ⟨y, hy, rfl⟩ := List.mem_map.1 hx
    cases y with
    | tmp t => exact hh t (List.mem_flatMap.2 ⟨_, hy, by simp [slotOf]⟩) id hid hn
    | _ =>
     rcases hid with ⟨_, e⟩ | ⟨_, _, _, e⟩ | ⟨_, _, _, e⟩ <;> simp [ev] at e
   exact .inr ⟨h0, h1, by rw [e]; exact h2, by rw [e]; exact h3⟩
  | _ => simp [MOp.lend] at h0
theorem DoesG_congr {P : Program} {id : Nat} {o : MO} {s s' : St} {E : Eff} (hfr : o.op.free = false) (hr : ∀ t ∈ reads o, s'.s t = s.s t) (hh : ∀ t ∈ adr o.op, ∀ id : Nat, OwnAt (s.s t) id → s.H id ≠ none → s'.H id = s.H id)
  (h : DoesG P id o s E) : DoesG P id o s' E := by
 have hr2 : ∀ t ∈ (opds o.op).flatMap slotOf, s'.s t = s.s t := fun t ht => hr t (by simp only [reads, List.mem_append]; exact .inr ht)
 have hP : DoesP P id o s E → DoesP P id o s' E := by
  intro hd
  unfold DoesP at hd ⊢
  split at hd
  ·rename_i hc
   rw [if_pos hc, callee_congr hr2]
   obtain ⟨f, args, r, h1, h2, h3⟩ := hd
   exact ⟨f, args, r, h1, callV_congr h1 hh h2, h3⟩
  ·rename_i hc
   rw [if_neg hc]
   exact effM_congr hfr hr2 hh hd
 unfold DoesG at h ⊢
 cases hg : o.guard with
 | none => rw [hg] at h; exact hP h
 | some q =>
  obtain ⟨t, want⟩ := q
  rw [hg] at h
  have : s'.s t = s.s t := hr t (by simp [reads, hg])
  simp only [this] at h ⊢
  generalize s.s t = p at *
  cases p with
  | sc v =>
   cases v with
   | bool b =>
    simp only [] at h ⊢
    by_cases hb : b = want
    ·rw [if_pos hb] at h ⊢; exact hP h
    ·rw [if_neg hb] at h ⊢; exact h
   | _ => exact h
  | _ => exact h
theorem slD_mem {d : Option Nat} {x : PV} {q : Nat × PV} (h : q ∈ slD d x) : d = some q.1 := by
 cases d with
 | none => cases h
 | some t => simp [slD] at h; simp [h]
theorem does_writes {P : Program} {id : Nat} {o : MO} {s : St} {E : Eff} (hfr : o.op.free = false) (h : DoesG P id o s E) :
  (∀ q ∈ E.sl, q.1 ∈ writes o) ∧ (E.hp = [] ∨ (hk o.op = 2 ∧ ∃ ob, E.hp = [(id, some ob)]) ∨ (hk o.op = 3 ∧ ∀ q ∈ E.hp, q.1 = id ∨ s.H q.1 ≠ none)) := by
 have hD : ∀ {x : PV} {q : Nat × PV}, q ∈ slD o.dst x → q.1 ∈ writes o := by
  intro x q hq
  have := slD_mem hq
  simp [writes, this]
 have hskip : E = ⟨slD o.dst (.sc undef), []⟩ → (∀ q ∈ E.sl, q.1 ∈ writes o) ∧ (E.hp = [] ∨ (hk o.op = 2 ∧ ∃ ob, E.hp = [(id, some ob)]) ∨ (hk o.op = 3 ∧ ∀ q ∈ E.hp, q.1 = id ∨ s.H q.1 ≠ none)) := by
  rintro rfl
  exact ⟨fun q hq => hD hq, .inl rfl⟩
 have hP : DoesP P id o s E → (∀ q ∈ E.sl, q.1 ∈ writes o) ∧ (E.hp = [] ∨ (hk o.op = 2 ∧ ∃ ob, E.hp = [(id, some ob)]) ∨ (hk o.op = 3 ∧ ∀ q ∈ E.hp, q.1 = id ∨ s.H q.1 ≠ none)) := by
  intro hd
  unfold DoesP at hd
  split at hd
  ·obtain ⟨f, args, r, _, _, rfl⟩ := hd
   exact ⟨fun q hq => hD hq, .inl rfl⟩
  ·obtain ⟨dst, op, g⟩ := o
   cases op with
   | al zero =>
    simp only [effM, Option.some.injEq] at hd
    subst hd
    exact ⟨fun q hq => hD hq, .inr (.inl ⟨rfl, _, rfl⟩)⟩
   | bx x own =>
    simp only [effM] at hd
    split at hd
    ·split at hd
     ·cases hd; exact ⟨fun q hq => hD hq, .inr (.inl ⟨rfl, _, rfl⟩)⟩
     ·cases hd; exact ⟨fun q hq => hD hq, .inl rfl⟩
    ·cases hd
   | bsl sz len zero parts own =>
    simp only [effM] at hd
    split at hd
    ·simp only [Option.bind_eq_some_iff, Option.map_eq_some_iff] at hd
     obtain ⟨_, _, _, _, hd⟩ := hd
     split at hd
     ·subst hd; exact ⟨fun q hq => hD hq, .inr (.inl ⟨rfl, _, rfl⟩)⟩
     ·subst hd; exact ⟨fun q hq => hD hq, .inl rfl⟩
    ·cases hd
   | mks sz bytes zero l c =>
    simp only [effM] at hd
    split at hd
    ·split at hd
     ·cases hd; exact ⟨fun q hq => hD hq, .inr (.inl ⟨rfl, _, rfl⟩)⟩
     ·cases hd
    ·cases hd
   | st x v sz fz =>
    simp only [effM] at hd
    split at hd
    ·simp only [Option.bind_eq_some_iff] at hd
     obtain ⟨⟨j, ob⟩, hst, hd⟩ := hd
     obtain ⟨off, o0, _, hH, _, _⟩ := storeP_inv hst
     have hne : s.H j ≠ none := by rw [hH]; simp
     split at hd
     ·rename_i hfz
      split at hd
      ·cases hd
       refine ⟨fun q hq => ?_, .inr (.inr ⟨rfl, fun q hq => by simp at hq; rw [hq]; exact .inr hne⟩)⟩
       rcases List.mem_cons.1 hq with rfl | hq
       ·subst hfz
        simp [writes]
       ·exact hD hq
      ·cases hd
     ·cases hd
      exact ⟨fun q hq => hD hq, .inr (.inr ⟨rfl, fun q hq => by simp at hq; rw [hq]; exact .inr hne⟩)⟩
    ·cases hd
   | app sz bytes x y =>
    simp only [effM, Option.map_eq_some_iff] at hd
    obtain ⟨⟨r, hs⟩, hE, rfl⟩ := hd
    refine ⟨fun q hq => hD hq, .inr (.inr ⟨rfl, fun q hq => ?_⟩)⟩
    simp only [appE, Option.bind_eq_some_iff] at hE
    obtain ⟨⟨oid, old, nn⟩, hold, new, hnew, m, hm, hE⟩ := hE
    simp only [] at hE
    split at hE
    ·cases oid with
     | some j =>
      simp only [Option.some.injEq, Prod.mk.injEq] at hE
      obtain ⟨_, rfl⟩ := hE
      have hj : s.H j ≠ none := by
       generalize ev s x = p at hold
       cases p with
       | osl id' off len sz' =>
        cases off with
        | succ k => simp [oldOf] at hold
        | zero =>
         simp only [oldOf] at hold
         cases ho : s.H id' with
         | none => simp [ho] at hold
         | some o =>
          simp only [ho] at hold
          split at hold
          ·simp only [Option.some.injEq, Prod.mk.injEq] at hold
           rw [← hold.1, ho]
           simp
          ·cases hold
       | ocap id2 off2 n2 sz2 =>
        exfalso
        simp only [oldOf] at hold
        split at hold
        ·split at hold
         ·cases hold
         ·cases hold
        ·cases hold
       | csl sz2 es =>
        exfalso
        simp only [oldOf] at hold
        split at hold
        ·cases hold
        ·cases hold
       | sc v =>
        have := (oldOf_sc s s sz v).2 _ hold
        cases this
       | _ => simp [oldOf] at hold
      simp at hq
      rcases hq with rfl | rfl
      ·exact .inr hj
      ·exact .inl rfl
     | none =>
      simp only [] at hE
      split at hE
      ·split at hE
       ·simp only [Option.some.injEq, Prod.mk.injEq] at hE
        obtain ⟨_, rfl⟩ := hE
        simp at hq
       ·cases hE
      ·simp only [Option.some.injEq, Prod.mk.injEq] at hE
       obtain ⟨_, rfl⟩ := hE
       simp at hq
       rw [hq]
       exact .inl rfl
    ·cases hE
   | rng x => simp [MOp.free] at hfr
   | nxt x => simp [MOp.free] at hfr
   | _ =>
    simp only [effM, Option.map_eq_some_iff] at hd
    obtain ⟨_, _, rfl⟩ := hd
    exact ⟨fun q hq => hD hq, .inl rfl⟩
 unfold DoesG at h
 split at h
 ·exact hP h
 ·split at h
  ·split at h
   ·exact hP h
   ·exact hskip h
  ·exact hskip h
  ·exact h.elim
theorem updL_out {f : Nat → Option PObj} {k : Nat} : ∀ {l : List (Nat × Option PObj)}, (∀ q ∈ l, q.1 ≠ k) → updL f l k = f k := by
 intro l
 induction l generalizing f with
 | nil => intro _; rfl
 | cons q r ih =>
  intro h
  obtain ⟨t, x⟩ := q
  simp only [updL]
  rw [ih (fun q hq => h q (by simp [hq]))]
  exact upd_ne _ _ (fun e => h (t, x) (by simp) e.symm)
theorem sets_out {f : Nat → PV} {t : Nat} : ∀ {l : List (Nat × PV)}, (∀ q ∈ l, q.1 ≠ t) → sets f l t = f t := by
 intro l
 induction l generalizing f with
 | nil => intro _; rfl
 | cons q r ih =>
  intro h
  obtain ⟨k, x⟩ := q
  simp only [sets]
  rw [ih (fun q hq => h q (by simp [hq]))]
  exact upd_ne _ _ (fun e => h (k, x) (by simp) e.symm)
theorem sets_upd {t : Nat} {x : PV} : ∀ {l : List (Nat × PV)} {f : Nat → PV}, (∀ q ∈ l, q.1 ≠ t) → sets (upd f t x) l = upd (sets f l) t x := by
 intro l
 induction l with
 | nil => intro f _; rfl
 | cons q r ih =>
  intro f h
  obtain ⟨k, y⟩ := q
  simp only [sets]
  rw [upd_comm f x y (fun e => h (k, y) (by simp) e.symm), ih (fun q hq => h q (by simp [hq]))]
theorem sets_comm : ∀ {l k : List (Nat × PV)} {f : Nat → PV}, (∀ q ∈ l, ∀ p ∈ k, p.1 ≠ q.1) → sets (sets f l) k = sets (sets f k) l := by
 intro l
 induction l with
 | nil => intro k f _; rfl
 | cons q r ih =>
  intro k f h
  obtain ⟨t, x⟩ := q
  simp only [sets]
  rw [ih (fun q hq p hp => h q (by simp [hq]) p hp), sets_upd (fun p hp => h (t, x) (by simp) p hp)]
theorem app_slot {E : Eff} {s : St} {t : Nat} (h : ∀ q ∈ E.sl, q.1 ≠ t) : (E.app s).s t = s.s t := sets_out h
theorem adr_sub (m : MOp) {t : Nat} (ht : t ∈ adr m) : t ∈ (opds m).flatMap slotOf := by
 cases m with
 | ld x sz ag => simpa [opds, adr] using ht
 | ldo x ks sz ag => simp only [opds, List.flatMap_cons, List.mem_append]; exact .inl ht
 | ldf x sz ag => simp [adr] at ht
 | st x v sz fz => simp only [opds, List.flatMap_cons, List.mem_append]; exact .inl ht
 | app sz bytes x y => simp only [opds, List.flatMap_cons, List.flatMap_nil, List.mem_append, List.append_nil]; exact List.mem_append.1 ht
 | call f xs => simpa [opds, adr] using ht
 | calv x xs => simpa [opds, adr] using ht
 | callm f xs => simpa [opds, adr] using ht
 | callmA f xs k => simpa [opds, adr] using ht
 | calvm x xs => simpa [opds, adr] using ht
 | _ => simp [adr] at ht
theorem adr_hk (m : MOp) {t : Nat} (ht : t ∈ adr m) : hk m ≠ 0 := by
 cases m <;> first | (simp [hk]; done) | (simp [adr] at ht; done)
theorem st_eff {P : Program} {iy : Nat} {y : MO} {s : St} {E : Eff} {k sz : Nat} {v : Operand} (o : y.op = .st (.tmp k) v sz false) (g : y.guard = none) (h : DoesG P iy y s E) : ∃ j off ob, s.s k = .optr j off ∧ E.hp = [(j, some ob)] := by
 obtain ⟨dst, op, gd⟩ := y
 subst o
 subst g
 have h2 : effM iy ⟨dst, .st (.tmp k) v sz false, none⟩ s = some E := by
  have h1 : DoesP P iy ⟨dst, .st (.tmp k) v sz false, none⟩ s E := h
  unfold DoesP at h1
  rw [if_neg (by simp [MOp.isCall])] at h1
  exact h1
 simp only [effM] at h2
 split at h2
 ·simp only [Option.bind_eq_some_iff] at h2
  obtain ⟨⟨j, ob⟩, hst, h2⟩ := h2
  obtain ⟨off, o0, he, _, _, _⟩ := storeP_inv hst
  rw [if_neg (by simp)] at h2
  cases h2
  exact ⟨j, off, ob, he, rfl⟩
 ·cases h2
theorem ldo_eff {P : Program} {ix : Nat} {x : MO} {s : St} {E : Eff} {x' : Operand} {ks : List Nat} {sz : Nat} {ag : Bool} (o : x.op = .ldo x' ks sz ag) (g : x.guard = none) (h : DoesG P ix x s E) : (∀ k ∈ ks, apartP (ev s x') (s.s k) = true) ∧ E.hp = [] := by
 obtain ⟨dst, op, gd⟩ := x
 subst o
 subst g
 have h2 : effM ix ⟨dst, .ldo x' ks sz ag, none⟩ s = some E := by
  have h1 : DoesP P ix ⟨dst, .ldo x' ks sz ag, none⟩ s E := h
  unfold DoesP at h1
  rw [if_neg (by simp [MOp.isCall])] at h1
  exact h1
 simp only [effM, val, Option.map_eq_some_iff] at h2
 obtain ⟨y, h2, rfl⟩ := h2
 split at h2
 ·rename_i hc
  exact ⟨List.all_eq_true.1 hc, rfl⟩
 ·cases h2
theorem ldo_reads {x : MO} {x' : Operand} {ks : List Nat} {sz k : Nat} {ag : Bool} (o : x.op = .ldo x' ks sz ag) (hk : k ∈ ks) : k ∈ reads x := by
 simp only [reads, o, opds, List.mem_append, List.flatMap_cons, List.mem_flatMap]
 exact .inr (.inr ⟨.tmp k, List.mem_map.2 ⟨k, hk, rfl⟩, by simp [slotOf]⟩)
theorem adr_ev {s : St} {x' : Operand} {ks : List Nat} {sz t id : Nat} {ag : Bool} (ht : t ∈ adr (.ldo x' ks sz ag)) (he : OwnAt (s.s t) id) : OwnAt (ev s x') id := by
 cases x' with
 | tmp u =>
  simp only [adr, slotOf, List.mem_singleton] at ht
  subst ht
  exact he
 | _ => simp [adr, slotOf] at ht
theorem apart_ne {p : PV} {j off id : Nat} (h : apartP p (.optr j off) = true) (ho : OwnAt p id) : id ≠ j := by
 rcases ho with ⟨_, rfl⟩ | ⟨_, _, _, rfl⟩ | ⟨_, _, _, rfl⟩
 ·simpa [apartP] using h
 ·simp [apartP] at h
 ·simp [apartP] at h
theorem swap {P : Program} {y x : MO} {iy ix : Nat} {s : St} {Ey Ex : Eff} (hi : indep y x = true) (hne : iy ≠ ix) (hy : DoesG P iy y s Ey) (hx : DoesG P ix x (Ey.app s) Ex)
  (hA : ∀ t ∈ adr x.op, ¬ OwnAt (s.s t) iy) (hB : s.H ix = none) : DoesG P ix x s Ex ∧ DoesG P iy y (Ex.app s) Ey ∧ Ex.app (Ey.app s) = Ey.app (Ex.app s) := by
 obtain ⟨hi, fy, fx⟩ := indep_inv hi
 simp only [indep0, Bool.and_eq_true] at hi
 obtain ⟨⟨⟨⟨h1, h2⟩, h3⟩, h4⟩, h5⟩ := hi
 replace h4 : hk y.op = 3 → hk x.op = 0 ∨ away y x = true := away_or h4
 replace h5 : hk x.op = 3 → hk y.op = 0 ∨ away x y = true := away_or h5
 obtain ⟨wy, py⟩ := does_writes fy hy
 obtain ⟨wx, px⟩ := does_writes fx hx
 have r1 : ∀ t ∈ reads x, (Ey.app s).s t = s.s t := fun t ht => app_slot fun q hq e => disj_spec h1 (wy q hq) (by rw [e]; exact ht)
 have hsub : ∀ t ∈ adr x.op, t ∈ reads x := by
  intro t ht
  simp only [reads, List.mem_append]
  exact .inr (adr_sub _ ht)
 have hsuby : ∀ t ∈ adr y.op, t ∈ reads y := by
  intro t ht
  simp only [reads, List.mem_append]
  exact .inr (adr_sub _ ht)
 have hadr : ∀ m : MOp, ∀ t ∈ adr m, hk m ≠ 0 := fun m t ht => adr_hk m ht
 have d1 : DoesG P ix x s Ex := by
  refine DoesG_congr fx (fun t ht => (r1 t ht).symm) (fun t ht id he hn => ?_) hx
  have hx0 := hadr _ t ht
  rcases py with hp | ⟨_, ob, hp⟩ | ⟨h6, hp⟩
  ·simp only [Eff.app, hp, updL]
  ·have hid : id ≠ iy := fun e => hA t ht (by rw [r1 t (hsub t ht), e] at he; exact he)
   simp only [Eff.app, hp, updL, upd_ne _ _ hid]
  ·rcases h4 h6 with h | h
   ·exact absurd h hx0
   ·obtain ⟨k, v, sz, x', ks, sz', ag, o1, o2, hkm, g1, g2⟩ := away_inv h
    obtain ⟨j, off, ob, e1, e2⟩ := st_eff o1 g1 hy
    have e3 := (ldo_eff o2 g2 hx).1 k hkm
    rw [r1 k (ldo_reads o2 hkm), e1] at e3
    have hid := apart_ne e3 (by rw [o2] at ht; exact adr_ev ht he)
    simp only [Eff.app, e2, updL, upd_ne _ _ hid]
 obtain ⟨wx2, px2⟩ := does_writes fx d1
 have d2 : DoesG P iy y (Ex.app s) Ey := by
  refine DoesG_congr fy (fun t ht => app_slot fun q hq e => disj_spec h3 (wx q hq) (by rw [e]; exact ht)) (fun t ht id he hn => ?_) hy
  have hy0 := hadr _ t ht
  rcases px2 with hp | ⟨_, ob, hp⟩ | ⟨h6, hp⟩
  ·simp only [Eff.app, hp, updL]
  ·have hid : id ≠ ix := fun e => hn (by rw [e]; exact hB)
   simp only [Eff.app, hp, updL, upd_ne _ _ hid]
  ·rcases h5 h6 with h | h
   ·exact absurd h hy0
   ·obtain ⟨k, v, sz, x', ks, sz', ag, o1, o2, hkm, g1, g2⟩ := away_inv h
    obtain ⟨j, off, ob, e1, e2⟩ := st_eff o1 g1 d1
    have e3 := (ldo_eff o2 g2 hy).1 k hkm
    rw [e1] at e3
    have hid := apart_ne e3 (by rw [o2] at ht; exact adr_ev ht he)
    simp only [Eff.app, e2, updL, upd_ne _ _ hid]
 refine ⟨d1, d2, ?_⟩
 have hs : sets (sets s.s Ey.sl) Ex.sl = sets (sets s.s Ex.sl) Ey.sl := sets_comm fun q hq p hp e => disj_spec h2 (wy q hq) (by rw [← e]; exact wx p hp)
 have hH : (Ex.app (Ey.app s)).H = (Ey.app (Ex.app s)).H := by
  rcases py with hp | ⟨k1, ob, hp⟩ | ⟨h6, hp⟩
  ·simp only [Eff.app, hp, updL]
  ·rcases px2 with hq | ⟨_, ob', hq⟩ | ⟨h7, hq⟩
   ·simp only [Eff.app, hp, hq, updL]
   ·simp only [Eff.app, hp, hq, updL]
    exact upd_comm _ _ _ hne
   ·have : hk y.op = 0 ∨ hk y.op = 1 := by
     rcases h5 h7 with h | h
     ·exact .inl h
     ·obtain ⟨_, _, _, _, _, _, _, _, o2, _⟩ := away_inv h
      rw [o2]
      exact .inr rfl
    omega
  ·have h8 : hk x.op = 0 ∨ hk x.op = 1 := by
    rcases h4 h6 with h | h
    ·exact .inl h
    ·obtain ⟨_, _, _, _, _, _, _, _, o2, _⟩ := away_inv h
     rw [o2]
     exact .inr rfl
   rcases px2 with hq | ⟨k2, ob', hq⟩ | ⟨h7, hq⟩
   ·simp only [Eff.app, hq, updL]
   ·omega
   ·omega
 have e : ∀ u v : St, u.s = v.s → u.H = v.H → u.nx = v.nx → u = v := by
  rintro ⟨a, b, c⟩ ⟨a', b', c'⟩ rfl rfl rfl
  rfl
 exact e _ _ hs hH rfl
def ahead (y x : Nat × MO) : Bool :=
 match y.2.op, x.2.op with
 | .callmA _ _ k, .al _ => y.2.guard.isNone && (x.2.guard.isNone && (x.1 == y.1 + k && (disj x.2.dst.toList (reads y.2) && disj x.2.dst.toList y.2.dst.toList)))
 | _, _ => false
theorem ahead_swap {P : Program} {base : Nat} {iy ix : Nat} {my mx : MO} {K K2 : St → Prop} {s : St} (ha : ahead (iy, my) (ix, mx) = true) (hB : s.H (base + ix) = none)
  (hK : ∀ s', s'.H (base + ix) = none → K s' → opG P true (base + ix) mx K2 s') (h : opG P true (base + iy) my K s) : opG P true (base + ix) mx (opG P true (base + iy) my K2) s := by
 obtain ⟨dy, oy, gy⟩ := my
 obtain ⟨dx, ox, gx⟩ := mx
 unfold ahead at ha
 split at ha
 ·rename_i f xs k zero e1 e2
  simp only at e1 e2
  subst e1
  subst e2
  simp only [Bool.and_eq_true, Option.isNone_iff_eq_none, beq_iff_eq] at ha
  obtain ⟨rfl, rfl, rfl, hd1, hd2⟩ := ha
  have h1 : callA P (base + iy) k f (xs.map (ev s)) dy K s := h
  obtain ⟨_, h2⟩ := h1
  have hB' : s.H (base + iy + k) = none := by rw [Nat.add_assoc]; exact hB
  obtain ⟨Q2, h3, h4⟩ := h2 zero hB'
  show opG P true (base + iy) ⟨dy, .callmA f xs k, none⟩ K2 (newAt s dx (base + (iy + k)) (.optr (base + (iy + k)) 0) ⟨zero.map .sc, true⟩)
  have hev : xs.map (ev (newAt s dx (base + (iy + k)) (.optr (base + (iy + k)) 0) ⟨zero.map .sc, true⟩)) = xs.map (ev s) := evs_congr fun t ht => by
   cases dx with
   | none => rfl
   | some u =>
    have : t ≠ u := fun e => disj_spec hd1 (t := u) (by simp) (by rw [← e]; simp only [reads, List.mem_append]; exact .inr ht)
    simp only [newAt, put, upd, if_neg this]
  have hH : (newAt s dx (base + (iy + k)) (.optr (base + (iy + k)) 0) ⟨zero.map .sc, true⟩).H = upd s.H (base + iy + k) (some ⟨zero.map .sc, true⟩) := by cases dx <;> simp only [newAt, put, Nat.add_assoc]
  have hnx : (newAt s dx (base + (iy + k)) (.optr (base + (iy + k)) 0) ⟨zero.map .sc, true⟩).nx = s.nx := by cases dx <;> rfl
  show callA P (base + iy) k f (xs.map (ev (newAt s dx (base + (iy + k)) (.optr (base + (iy + k)) 0) ⟨zero.map .sc, true⟩))) dy K2 (newAt s dx (base + (iy + k)) (.optr (base + (iy + k)) 0) ⟨zero.map .sc, true⟩)
  rw [hev]
  refine ⟨⟨Q2, by rw [hH, hnx]; exact h3, fun H2 nx2 r hq hn => ?_⟩, fun zs hz => ?_⟩
  ·rw [hnx] at hn
   obtain ⟨H', h5, h6, h7⟩ := h4 H2 nx2 r hq hn
   have h8 := hK _ (by cases dy <;> exact (by rw [Nat.add_assoc] at h6; exact h6)) h7
   have h9 : K2 (newAt (put { s with H := H', nx := nx2 } dy r) dx (base + (iy + k)) (.optr (base + (iy + k)) 0) ⟨zero.map .sc, true⟩) := h8
   have e : newAt (put { s with H := H', nx := nx2 } dy r) dx (base + (iy + k)) (.optr (base + (iy + k)) 0) ⟨zero.map .sc, true⟩ = put { (newAt s dx (base + (iy + k)) (.optr (base + (iy + k)) 0) ⟨zero.map .sc, true⟩) with H := H2, nx := nx2 } dy r := by
    rw [h5, Nat.add_assoc]
    cases dx with
    | none => cases dy <;> rfl
    | some u =>
     cases dy with
     | none => rfl
     | some t =>
      have : u ≠ t := fun e => disj_spec hd2 (t := u) (by simp) (by simp [e])
      simp only [newAt, put]
      rw [upd_comm s.s r _ (fun e => this e.symm)]
   rw [e] at h9
   exact h9
  ·rw [hH] at hz
   simp [upd] at hz
 ·cases ha
theorem move_front {P : Program} {base : Nat} {x : Nat × MO} {l2 : List (Nat × MO)} {K : St → Prop} : ∀ (l1 : List (Nat × MO)) (s : St), (∀ y ∈ l1, indep y.2 x.2 = true ∨ ahead y x = true) → (∀ y ∈ l1, y.1 ≠ x.1) →
  (∀ y ∈ l1, ∀ t ∈ adr x.2.op, ¬ OwnAt (s.s t) (base + y.1)) → s.H (base + x.1) = none → runOps P true base (l1 ++ x :: l2) K s → runOps P true base (x :: (l1 ++ l2)) K s
 | [], s, _, _, _, _, h => h
 | y :: l1, s, hi, hne, hA, hB, h => by
  obtain ⟨iy, my⟩ := y
  obtain ⟨ix, mx⟩ := x
  have hne0 : iy ≠ ix := hne (iy, my) (by simp)
  rcases hi (iy, my) (by simp) with hi0 | ha0
  case inr =>
   simp only [List.cons_append, runOps] at h ⊢
   refine ahead_swap ha0 hB (fun s' hB' hk => ?_) h
   have hal : adr mx.op = [] := by
    unfold ahead at ha0
    split at ha0
    ·rename_i e2
     simp only at e2
     rw [e2]
     rfl
    ·cases ha0
   have := move_front l1 s' (fun y hy => hi y (by simp [hy])) (fun y hy => hne y (by simp [hy])) (fun y hy t ht => by simp only [hal] at ht; cases ht) hB' hk
   simpa only [runOps] using this
  have hi0 : indep my mx = true := hi0
  simp only [List.cons_append, runOps] at h ⊢
  obtain ⟨_, fy, fx⟩ := indep_inv hi0
  obtain ⟨Ey, hy, h⟩ := (opG_does fy).1 h
  have hi1 := (indep_inv hi0).1
  simp only [indep0, Bool.and_eq_true] at hi1
  obtain ⟨⟨⟨⟨h1, _⟩, _⟩, _⟩, _⟩ := hi1
  obtain ⟨wy, py⟩ := does_writes fy hy
  have hsub : ∀ t ∈ adr mx.op, t ∈ reads mx := by
   intro t ht
   simp only [reads, List.mem_append]
   exact .inr (adr_sub _ ht)
  have hslot : ∀ t ∈ adr mx.op, (Ey.app s).s t = s.s t := fun t ht => app_slot fun q hq e => disj_spec h1 (wy q hq) (by rw [e]; exact hsub t ht)
  have hB2 : (Ey.app s).H (base + ix) = none := by
   rcases py with hp | ⟨_, ob, hp⟩ | ⟨_, hp⟩
   ·simp only [Eff.app, hp, updL]; exact hB
   ·simp only [Eff.app, hp, updL]
    rw [upd_ne _ _ (by omega)]
    exact hB
   ·simp only [Eff.app]
    rw [updL_out fun q hq e => ?_]
    ·exact hB
    ·rcases hp q hq with h9 | h9
     ·omega
     ·rw [e] at h9; exact h9 hB
  have h2 := move_front l1 (Ey.app s) (fun y hy => hi y (by simp [hy])) (fun y hy => hne y (by simp [hy])) (fun y hy t ht => by rw [hslot t ht]; exact hA y (by simp [hy]) t ht) hB2 h
  simp only [runOps] at h2
  obtain ⟨Ex, hx, h3⟩ := (opG_does fx).1 h2
  obtain ⟨s1, s2, s3⟩ := swap hi0 (by omega) hy hx (fun t ht => hA (iy, my) (by simp) t ht) hB
  refine (opG_does fx).2 ⟨Ex, s1, (opG_does fy).2 ⟨Ey, s2, ?_⟩⟩
  rw [← s3]
  exact h3
end
end Go.Proofs.YtnoilfjeamffnaaGreat
