/-
  A region in whatever order: what an operation does, as an effect; which operations change places.
-/
import Derived.Test.YtifebfkkciaddaaPvI
set_option linter.unusedVariables false
set_option linter.unusedSimpArgs false
namespace Go.Proofs.Ytifebfkkciaddaa
open Go.RowKit

structure Eff where
  sl : List (Nat × PV)
  hp : List (Nat × Option PObj)

def sets (f : Nat → PV) : List (Nat × PV) → Nat → PV
  | [] => f
  | (t, x) :: r => sets (upd f t x) r

def Eff.app (E : Eff) (s : St) : St :=
  { s with s := sets s.s E.sl, H := updL s.H E.hp }

def slD (d : Option Nat) (x : PV) : List (Nat × PV) :=
  match d with
  | some t => [(t, x)]
  | none => []

def effM (id : Nat) (o : MO) (s : St) : Option Eff :=
  match o.op with
  | .al zero => some ⟨slD o.dst (.optr id 0), [(id, some ⟨zero.map .sc, true⟩)]⟩
  | .bx x own =>
    if (ev s x).good = true then
      if own then some ⟨slD o.dst (.optr id 0), [(id, some ⟨(ev s x).cellsOf, true⟩)]⟩
      else some ⟨slD o.dst (.ptr (ev s x).cellsOf), []⟩
    else none
  | .bsl sz len zero parts own =>
    if zero.length = sz then (partsP s parts).bind fun ps => (fillP (zeros zero len) ps).map fun cells => if own = true then ⟨slD o.dst (.osl id 0 len sz), [(id, some ⟨cells, true⟩)]⟩ else ⟨slD o.dst (.sl sz (chunks sz len cells)), []⟩ else none
  | .mks sz bytes zero l c =>
    match ev s l, ev s c with
    | .sc (.int _ n), .sc (.int _ m) =>
      if 0 ≤ n ∧ n = m ∧ bytes * n ≤ 2 ^ 47 ∧ n ≤ 2 ^ 47 ∧ zero.length = sz then some ⟨slD o.dst (.osl id 0 n.toNat sz), [(id, some ⟨zeros zero n.toNat, true⟩)]⟩ else none
    | _, _ => none
  | .st x v sz fz =>
    if (ev s v).cellsOf.length = sz ∧ (ev s v).cellsOf.all PV.one = true then
      (storeP s (ev s x) (ev s v).cellsOf).bind fun (j, ob) =>
        if fz then
          match x, ev s x with
          | .tmp t, .optr _ 0 => some ⟨(t, .ptr ob.cells) :: slD o.dst (.sc undef), [(j, none)]⟩
          | _, _ => none
        else some ⟨slD o.dst (.sc undef), [(j, some ob)]⟩
    else none
  | .app sz bytes x y => (appE s id sz bytes (ev s x) (ev s y)).map fun (r, hs) => ⟨slD o.dst r, hs⟩
  | m => (val s m).map fun x => ⟨slD o.dst x, []⟩

theorem app_slD (s : St) (d : Option Nat) (x : PV) : (Eff.app ⟨slD d x, []⟩ s) = put s d x := by cases d <;> rfl
theorem app_new (s : St) (d : Option Nat) (x : PV) (id : Nat) (ob : PObj) : (Eff.app ⟨slD d x, [(id, some ob)]⟩ s) = newAt s d id x ob := by cases d <;> rfl

theorem stepM_eff (id : Nat) (o : MO) (s : St) : stepM id o s = (effM id o s).map fun E => E.app s := by
  obtain ⟨dst, op, g⟩ := o
  cases op with
  | al zero => simp only [stepM, effM, Option.map_some, app_new]
  | bx x own =>
    simp only [stepM, effM]
    split
    · split
      · simp only [Option.map_some, app_new]
      · simp only [Option.map_some, app_slD]
    · rfl
  | bsl sz len zero parts own =>
    simp only [stepM, effM]
    split
    · cases partsP s parts with
      | none => rfl
      | some ps =>
        simp only [Option.bind_some]
        cases fillP (zeros zero len) ps with
        | none => rfl
        | some cells => by_cases ho : own = true <;> simp only [ho, Option.map_some, if_true, if_false, Bool.false_eq_true, app_new, app_slD]
    · rfl
  | mks sz bytes zero l c =>
    simp only [stepM, effM]
    generalize ev s l = p
    generalize ev s c = q
    cases p with
    | sc v =>
      cases v with
      | int k n =>
        cases q with
        | sc u =>
          cases u with
          | int k' m =>
            simp only []
            split
            · simp only [Option.map_some, app_new]
            · rfl
          | _ => rfl
        | _ => rfl
      | _ => rfl
    | _ => rfl
  | st x v sz fz =>
    simp only [stepM, effM]
    split
    · cases storeP s (ev s x) (ev s v).cellsOf with
      | none => rfl
      | some q =>
        obtain ⟨j, ob⟩ := q
        simp only [Option.bind_some]
        split
        · cases x with
          | tmp t =>
            generalize ev s (.tmp t) = p
            cases p with
            | optr i off =>
              cases off with
              | zero => simp only [Option.map_some, Option.some.injEq]; cases dst <;> rfl
              | succ off => rfl
            | _ => rfl
          | _ => rfl
        · simp only [Option.map_some, Option.some.injEq]; cases dst <;> rfl
    · rfl
  | app sz bytes x y =>
    simp only [stepM, effM]
    cases appE s id sz bytes (ev s x) (ev s y) with
    | none => rfl
    | some q =>
      obtain ⟨r, hs⟩ := q
      simp only [Option.map_some]
      cases dst <;> rfl
  | _ =>
    simp only [stepM, effM, Option.map_map]
    congr 1
    funext x
    exact (app_slD s dst x).symm

def opds : MOp → List Operand
  | .mv x | .un _ x | .nilc x | .fa x _ | .fd x _ _ _ | .ld x _ _ | .bx x _ | .len x _ | .ext x _ => [x]
  | .pick c a b => [c, a, b]
  | .bin _ x y | .eqa _ _ x y | .ixs x y | .ia x y _ | .iaa x y _ _ | .ix x y _ _ _ | .st x y _ _ | .mks _ _ _ x y | .app _ _ x y => [x, y]
  | .al .. => []
  | .bld _ ps => ps.map (·.2.2)
  | .bsl _ _ _ ps _ => ps.map (·.2.2)
  | .mkf _ xs | .call _ xs | .mm _ xs => xs
  | .calv x xs => x :: xs

end Go.Proofs.Ytifebfkkciaddaa
