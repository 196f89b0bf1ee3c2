/-
  Operations over plain values: what an operation of the model comes to, its types' sizes looked up; one step of each.
-/
import Derived.Test.YtifebfkkciaddaaPvA
set_option linter.unusedVariables false
namespace Go.Proofs.Ytifebfkkciaddaa
open Go.RowKit

/-- What is compared where a struct or an array is: its parts' places and sizes. -/
inductive ETy where
  | bool
  | int
  | str
  | node (parts : List (Nat × Nat × Bool × ETy))
  deriving Inhabited

inductive MOp where
  | mv (x : Operand)
  | pick (c a b : Operand)
  | bin (op : BinOp) (x y : Operand)
  | un (op : UnOp) (x : Operand)
  | eqa (ne : Bool) (t : ETy) (x y : Operand)
  | nilc (x : Operand)
  | fa (x : Operand) (off : Nat)
  | fd (x : Operand) (off sz : Nat) (ag : Bool)
  | ia (x i : Operand) (sz : Nat)
  | iaa (x i : Operand) (len sz : Nat)
  | ix (x i : Operand) (len sz : Nat) (ag : Bool)
  | ixs (x i : Operand)
  | ld (x : Operand) (sz : Nat) (ag : Bool)
  | st (x v : Operand) (sz : Nat) (fz : Bool)
  | al (zero : List Value)
  | bx (x : Operand) (own : Bool)
  | bld (zero : List Value) (parts : List (Nat × Nat × Operand))
  | bsl (sz len : Nat) (zero : List Value) (parts : List (Nat × Nat × Operand)) (own : Bool)
  | mks (sz bytes : Nat) (zero : List Value) (len cap : Operand)
  | len (x : Operand) (str : Bool)
  | ext (x : Operand) (i : Nat)
  | mm (mx : Bool) (xs : List Operand)
  | mkf (f : FuncId) (caps : List Operand)
  | app (sz bytes : Nat) (x y : Operand)
  | call (f : FuncId) (args : List Operand)
  | calv (x : Operand) (args : List Operand)
  deriving Inhabited

structure MO where
  dst : Option Nat
  op : MOp
  guard : Option (Nat × Bool) := none
  deriving Inhabited

def ev (s : St) : Operand → PV
  | .tmp t => s.s t
  | .const v => .sc v
  | .global g => .sc (.pointer (some ⟨g, 0, none⟩))
  | .func f => .fn f []

def put (s : St) (d : Option Nat) (x : PV) : St :=
  match d with
  | some t => { s with s := upd s.s t x }
  | none => s

/-- A value of one cell. -/
def PV.one : PV → Bool
  | .agg _ | .tup _ => false
  | .sc (.agg _) | .sc (.tuple _) => false
  | _ => true

def PV.good : PV → Bool
  | .sc (.agg _) => false
  | _ => true

def PV.cellsOf : PV → List PV
  | .agg xs => xs
  | x => [x]

def intBin (op : BinOp) (k : IntKind) (a b : Int) : Option Value :=
  match op with
  | .add => some (.int k (k.wrap (a + b)))
  | .sub => some (.int k (k.wrap (a - b)))
  | .mul => some (.int k (k.wrap (a * b)))
  | .quo => if b = 0 then none else some (.int k (k.wrap (a.tdiv b)))
  | .rem => if b = 0 then none else some (.int k (a.tmod b))
  | .eql => some (.bool (decide (a = b)))
  | .neq => some (.bool (decide (a ≠ b)))
  | .lss => some (.bool (a < b))
  | .leq => some (.bool (a ≤ b))
  | .gtr => some (.bool (a > b))
  | .geq => some (.bool (a ≥ b))
  | .shl => if b < 0 then none else some (.int k (k.wrap (a * 2 ^ (min b.toNat k.bits))))
  | .shr => if b < 0 then none else some (.int k (a.fdiv (2 ^ (min b.toNat k.bits))))
  | .and => some (.int k (k.wrap (BitVec.ofInt k.bits a &&& BitVec.ofInt k.bits b).toNat))
  | .or => some (.int k (k.wrap (BitVec.ofInt k.bits a ||| BitVec.ofInt k.bits b).toNat))
  | .xor => some (.int k (k.wrap (BitVec.ofInt k.bits a ^^^ BitVec.ofInt k.bits b).toNat))
  | .andNot => some (.int k (k.wrap (BitVec.ofInt k.bits a &&& ~~~ BitVec.ofInt k.bits b).toNat))

def strBin (op : BinOp) (a b : ByteArray) : Option Value :=
  match op with
  | .add => if ((a.size + b.size : Nat) : Int) > IntKind.i64.max then none else some (.string (a ++ b))
  | .eql => some (.bool (a.toList == b.toList))
  | .neq => some (.bool !(a.toList == b.toList))
  | .lss => some (.bool (Op.bytesLess a.toList b.toList))
  | .leq => some (.bool (Op.bytesLess a.toList b.toList || a.toList == b.toList))
  | .gtr => some (.bool !(Op.bytesLess a.toList b.toList || a.toList == b.toList))
  | .geq => some (.bool !(Op.bytesLess a.toList b.toList))
  | _ => none

def binPV (op : BinOp) : PV → PV → Option PV
  | .sc (.int k a), .sc (.int k' b) => if k = k' then (intBin op k a b).map .sc else none
  | .sc (.string a), .sc (.string b) => (strBin op a b).map .sc
  | _, _ => none

def unPV : UnOp → PV → Option PV
  | .not, .sc (.bool b) => some (.sc (.bool !b))
  | .neg, .sc (.int k n) => some (.sc (.int k (k.wrap (0 - n))))
  | _, _ => none

def partV (xs : List PV) (off sz : Nat) (ag : Bool) : Option PV :=
  if ag = true then (if off + sz ≤ xs.length then some (.agg ((xs.drop off).take sz)) else none) else xs[off]?
def eqInt : PV → PV → Option Bool
  | .sc (.int k a), .sc (.int k' b) => if k = k' then some (decide (a = b)) else none
  | _, _ => none
def eqBool : PV → PV → Option Bool
  | .sc (.bool a), .sc (.bool b) => some (a == b)
  | _, _ => none
def eqStr : PV → PV → Option Bool
  | .sc (.string a), .sc (.string b) => some (a.toList == b.toList)
  | _, _ => none
mutual
def eqE : ETy → PV → PV → Option Bool
  | .bool, a, b => eqBool a b
  | .int, a, b => eqInt a b
  | .str, a, b => eqStr a b
  | .node ps, a, b => match a, b with
    | .agg xs, .agg ys => eqParts ps xs ys
    | _, _ => none
def eqParts : List (Nat × Nat × Bool × ETy) → List PV → List PV → Option Bool
  | [], _, _ => some true
  | (off, sz, ag, e) :: r, xs, ys => (partV xs off sz ag).bind fun a => (partV ys off sz ag).bind fun b => (eqE e a b).bind fun c => (eqParts r xs ys).map fun d => c && d
end

def loadP (s : St) (p : PV) (n : Nat) : Option (List PV) :=
  match p with
  | .ptr cells => if n ≤ cells.length then some (cells.take n) else none
  | .optr id off =>
    match s.H id with
    | some o => if off + n ≤ o.cells.length then some ((o.cells.drop off).take n) else none
    | none => none
  | _ => none

def fillP : List PV → List (Nat × List PV) → Option (List PV)
  | cells, [] => some cells
  | cells, (off, xs) :: r => if off + xs.length ≤ cells.length then fillP (cells.take off ++ xs ++ cells.drop (off + xs.length)) r else none

/-- The parts of a literal: each as large as its place. -/
def partsP (s : St) : List (Nat × Nat × Operand) → Option (List (Nat × List PV))
  | [] => some []
  | (off, sz, x) :: r => if (ev s x).cellsOf.length = sz ∧ (ev s x).good = true then (partsP s r).map ((off, (ev s x).cellsOf) :: ·) else none

def lenPV : Bool → PV → Option Nat
  | false, .sl _ es => some es.length
  | false, .osl _ _ n _ => some n
  | true, .sc (.string b) => some b.size
  | false, .sc (.slice _ n _) => some n
  | _, _ => none

def mm2 (mx : Bool) : PV → PV → Option PV
  | .sc (.int k a), .sc (.int _ b) => some (.sc (.int k (if mx = true then max a b else min a b)))
  | _, _ => none
def mmV (mx : Bool) : PV → List PV → Option PV
  | x, [] => some x
  | x, y :: r => (mm2 mx x y).bind fun z => mmV mx z r
def mmL (mx : Bool) : List PV → Option PV
  | x :: r => mmV mx x r
  | [] => none

/-- What an operation that changes no memory comes to. -/
def val (s : St) : MOp → Option PV
  | .mv x => some (ev s x)
  | .pick c a b => match ev s c with
    | .sc (.bool t) => some (if t then ev s a else ev s b)
    | _ => none
  | .bin op x y => binPV op (ev s x) (ev s y)
  | .un op x => unPV op (ev s x)
  | .eqa ne t x y => (eqE t (ev s x) (ev s y)).map fun (b : Bool) => PV.sc (.bool (if ne = true then !b else b))
  | .nilc x => match ev s x with
    | .ptr c => some (.ptr c)
    | .optr id off => some (.optr id off)
    | _ => none
  | .fa x off => match ev s x with
    | .ptr c => if off ≤ c.length then some (.ptr (c.drop off)) else none
    | .optr id o => some (.optr id (o + off))
    | _ => none
  | .fd x off sz ag => match ev s x with
    | .agg c => if ag then (if off + sz ≤ c.length then some (.agg ((c.drop off).take sz)) else none) else c[off]?
    | _ => none
  | .ia x i sz => match ev s x, ev s i with
    | .sl sz' es, .sc (.int _ n) => if 0 ≤ n ∧ sz' = sz then (es[n.toNat]?).map .ptr else none
    | .osl id off len sz', .sc (.int _ n) => if 0 ≤ n ∧ n < len ∧ sz' = sz then some (.optr id (off + n.toNat * sz)) else none
    | _, _ => none
  | .iaa x i len sz => match ev s x, ev s i with
    | .ptr c, .sc (.int _ n) => if 0 ≤ n ∧ n < len ∧ n.toNat * sz ≤ c.length then some (.ptr (c.drop (n.toNat * sz))) else none
    | .optr id off, .sc (.int _ n) => if 0 ≤ n ∧ n < len then some (.optr id (off + n.toNat * sz)) else none
    | _, _ => none
  | .ix x i len sz ag => match ev s x, ev s i with
    | .agg c, .sc (.int _ n) => if 0 ≤ n ∧ n < len then (if ag then (if n.toNat * sz + sz ≤ c.length then some (.agg ((c.drop (n.toNat * sz)).take sz)) else none) else c[n.toNat * sz]?) else none
    | _, _ => none
  | .ixs x i => match ev s x, ev s i with
    | .sc (.string b), .sc (.int _ n) => if 0 ≤ n then (b[n.toNat]?).map fun c => .sc (.int .u8 c.toNat) else none
    | _, _ => none
  | .ld x sz ag => (loadP s (ev s x) sz).bind fun cs => if ag then some (.agg cs) else if sz = 1 then cs.head? else none
  | .bld zero parts => (partsP s parts).bind fun ps => (fillP (zero.map .sc) ps).map .agg
  | .len x str => (lenPV str (ev s x)).map fun (n : Nat) => PV.sc (.int .i64 (n : Int))
  | .ext x i => match ev s x with
    | .tup vs => vs[i]?
    | _ => none
  | .mkf f caps => some (.fn f (caps.map (ev s)))
  | .mm mx xs => mmL mx (xs.map (ev s))
  | _ => none

def newAt (s : St) (d : Option Nat) (id : Nat) (x : PV) (o : PObj) : St := put { s with H := upd s.H id (some o) } d x

def storeP (s : St) (p : PV) (xs : List PV) : Option (Nat × PObj) :=
  match p with
  | .optr id off =>
    match s.H id with
    | some o => if off + xs.length ≤ o.cells.length then some (id, { o with cells := o.cells.take off ++ xs ++ o.cells.drop (off + xs.length) }) else none
    | none => none
  | _ => none

def zeros (zero : List Value) : Nat → List PV
  | 0 => []
  | n + 1 => zero.map .sc ++ zeros zero n

/-- What an append appends, and what it appends to: the cells, one by one. -/
def rowOf (s : St) (sz : Nat) : PV → Option (List PV)
  | .sl sz' es => if sz' = sz ∨ es = [] then some es.flatten else none
  | .osl id off len sz' =>
    match s.H id with
    | some o => if sz' = sz ∧ off + len * sz ≤ o.cells.length then some ((o.cells.drop off).take (len * sz)) else none
    | none => none
  | .sc (.slice none 0 0) => some []
  | _ => none
/-- What is appended to: its number, its cells, how many elements. -/
def oldOf (s : St) (sz : Nat) : PV → Option (Option Nat × List PV × Nat)
  | .osl id 0 n sz' =>
    match s.H id with
    | some o => if sz' = sz ∧ o.cells.length = n * sz then some (some id, o.cells, n) else none
    | none => none
  | .sc (.slice none 0 0) => some (none, [], 0)
  | _ => none
/-- An append: what it answers, and the changes of the own blocks. -/
def appE (s : St) (id sz bytes : Nat) (p q : PV) : Option (PV × List (Nat × Option PObj)) :=
  (oldOf s sz p).bind fun (oid, old, n) => (rowOf s sz q).bind fun new => (lenPV false q).bind fun m =>
    if 0 < sz ∧ new.length = m * sz ∧ (n + m) * bytes ≤ 2 ^ 47 ∧ n + m ≤ 2 ^ 62 ∧ new.all PV.one = true then
      match oid with
      | some j => some (.osl id 0 (n + m) sz, [(j, none), (id, some ⟨old ++ new, false⟩)])
      | none => if m = 0 then some (.sc (.slice none 0 0), []) else some (.osl id 0 m sz, [(id, some ⟨new, false⟩)])
    else none
def updL (f : Nat → Option PObj) : List (Nat × Option PObj) → Nat → Option PObj
  | [] => f
  | (t, x) :: r => updL (upd f t x) r

def chunks (sz : Nat) : Nat → List PV → List (List PV)
  | 0, _ => []
  | n + 1, xs => xs.take sz :: chunks sz n (xs.drop sz)

/-- A step of an operation, but for calls: its number gives the number of what it makes. -/
def stepM (id : Nat) (o : MO) (s : St) : Option St :=
  match o.op with
  | .al zero => some (newAt s o.dst id (.optr id 0) ⟨zero.map .sc, true⟩)
  | .bx x own =>
    if (ev s x).good = true then
      if own then some (newAt s o.dst id (.optr id 0) ⟨(ev s x).cellsOf, true⟩)
      else some (put s o.dst (.ptr (ev s x).cellsOf))
    else none
  | .bsl sz len zero parts own =>
    if zero.length = sz then (partsP s parts).bind fun ps => (fillP (zeros zero len) ps).map fun cells => if own = true then newAt s o.dst id (.osl id 0 len sz) ⟨cells, true⟩ else put s o.dst (.sl sz (chunks sz len cells)) else none
  | .mks sz bytes zero l c =>
    match ev s l, ev s c with
    | .sc (.int _ n), .sc (.int _ m) =>
      if 0 ≤ n ∧ n = m ∧ bytes * n ≤ 2 ^ 47 ∧ n ≤ 2 ^ 47 ∧ zero.length = sz then some (newAt s o.dst id (.osl id 0 n.toNat sz) ⟨zeros zero n.toNat, true⟩) else none
    | _, _ => none
  | .st x v sz fz =>
    if (ev s v).cellsOf.length = sz ∧ (ev s v).cellsOf.all PV.one = true then
      (storeP s (ev s x) (ev s v).cellsOf).bind fun (j, ob) =>
        if fz then
          match x, ev s x with
          | .tmp t, .optr _ 0 => some (put { s with s := upd s.s t (.ptr ob.cells), H := upd s.H j none } o.dst (.sc undef))
          | _, _ => none
        else some (put { s with H := upd s.H j (some ob) } o.dst (.sc undef))
    else none
  | .app sz bytes x y => (appE s id sz bytes (ev s x) (ev s y)).map fun (r, hs) => put { s with H := updL s.H hs } o.dst r
  | m => (val s m).map (put s o.dst)

/-! What an operation of the model is, with its sizes looked up. fz: a slot whose block nobody writes to any more behind a store through it. own: a slot whose box is written to. -/
def szOf (P : Program) (t : TypeId) : Option Nat := (P.info? t).map (·.size)
def zeroOf (P : Program) (t : TypeId) : Option (List Value) := ((P.info? t).bind (·.zero)).map fun v => v.cells.toList
def aggB (d : TypeDesc) : Bool := match d with
  | .struct _ | .array _ _ => true
  | _ => false

def etyOf (P : Program) : Nat → TypeId → Option ETy
  | 0, _ => none
  | d + 1, t => match P.underlying t with
    | some .bool => some .bool
    | some (.int _) => some .int
    | some .string => some .str
    | some (.struct fs) =>
      if P.stoodInHeld t = false then
        (fs.toList.foldr (fun f (r : Option (List (Nat × Nat × Bool × ETy))) => if f.name ≠ "_" then (etyOf P d f.type).bind fun e => (szOf P f.type).bind fun sz => (P.underlying f.type).bind fun dd => r.map ((f.offset, sz, aggB dd, e) :: ·) else none) (some [])).map .node
      else none
    | some (.array n el) => (etyOf P d el).bind fun e => (szOf P el).bind fun sz => (P.underlying el).map fun dd => .node ((List.range n).map fun i => (i * sz, sz, aggB dd, e))
    | _ => none

structure Pol where
  own : List Nat := []
  fz : List Nat := []

def partsOf (P : Program) (place : Nat → Option (Nat × Nat)) : List (Nat × Operand) → Option (List (Nat × Nat × Operand))
  | [] => some []
  | (i, x) :: r => (place i).bind fun (off, sz) => (partsOf P place r).map ((off, sz, x) :: ·)

def mop (P : Program) (pol : Pol) (o : Oper) : Option MOp :=
  match o.op with
  | .move x | .assign x => some (.mv x)
  | .pick c a b => some (.pick c a b)
  | .binOp op T x y _ =>
    match P.underlying T, op with
    | some (.struct _), .eql | some (.array _ _), .eql => if P.eqGuardType P.depth T = false then (etyOf P 20 T).map fun t => .eqa false t x y else none
    | some (.struct _), .neq | some (.array _ _), .neq => if P.eqGuardType P.depth T = false then (etyOf P 20 T).map fun t => .eqa true t x y else none
    | some .bool, .eql => some (.eqa false .bool x y)
    | some .bool, .neq => some (.eqa true .bool x y)
    | _, _ => some (.bin op x y)
  | .unOp op _ x => some (.un op x)
  | .nilCheck x => some (.nilc x)
  | .alloc T => (zeroOf P T).map .al
  | .box T x => some (.bx x (match o.dst with | some d => pol.own.contains d | none => true))
  | .load T x => (P.underlying T).bind fun d => (szOf P T).map fun sz => .ld x sz (aggB d)
  | .store T x v => (szOf P T).map fun sz => .st x v sz (match x with | .tmp t => pol.fz.contains t | _ => false)
  | .fieldAddr T x f =>
    match P.underlying T with
    | some (.struct fs) => (fs[f]?).bind fun fd => match szOf P fd.type with
      | some (_ + 1) => some (.fa x fd.offset)
      | _ => none
    | _ => none
  | .field T x f =>
    match P.underlying T with
    | some (.struct fs) => (fs[f]?).bind fun fd => (szOf P fd.type).bind fun sz => (P.underlying fd.type).map fun d => .fd x fd.offset sz (aggB d)
    | _ => none
  | .indexAddr T x i =>
    match P.underlying T with
    | some (.slice e) => (szOf P e).map (.ia x i)
    | some (.array n e) => (szOf P e).map (.iaa x i n)
    | _ => none
  | .index T x i =>
    match P.underlying T with
    | some (.array n e) => (szOf P e).bind fun sz => (P.underlying e).map fun d => .ix x i n sz (aggB d)
    | some .string => some (.ixs x i)
    | _ => none
  | .build T parts =>
    match P.underlying T with
    | some (.struct fs) => if fs.all (fun fd => (szOf P fd.type).isSome) = true then (zeroOf P T).bind fun z => (partsOf P (fun i => (fs[i]?).bind fun fd => (szOf P fd.type).map fun sz => (fd.offset, sz)) parts.toList).map (.bld z) else none
    | some (.array _ e) => (zeroOf P T).bind fun z => (szOf P e).bind fun sz => (partsOf P (fun i => some (i * sz, sz)) parts.toList).map (.bld z)
    | _ => none
  | .buildSlice T len parts =>
    match P.underlying T with
    | some (.slice e) => (zeroOf P e).bind fun z => (szOf P e).bind fun sz => if len * sz ≤ 2 ^ 24 ∧ len ≤ 2 ^ 24 then (partsOf P (fun i => some (i * sz, sz)) parts.toList).map (fun ps => .bsl sz len z ps (match o.dst with | some d => pol.own.contains d | none => true)) else none
    | _ => none
  | .makeSlice T l c =>
    match P.underlying T with
    | some (.slice e) => (zeroOf P e).bind fun z => (P.info? e).map fun inf => .mks inf.size inf.bytes z l c
    | _ => none
  | .extract x i => some (.ext x i)
  | .makeFunc (.func f) first caps => if first = #[] then some (.mkf f caps.toList) else none
  | .call { callee := .value (.func f), args, .. } => some (.call f args.toList)
  | .call { callee := .value x, args, .. } => some (.calv x args.toList)
  | .call { callee := .builtin .len, args, argTypes } =>
    match args.toList, argTypes.toList with
    | [x], [T] => match P.underlying T with
      | some (.slice _) => some (.len x false)
      | some .string => some (.len x true)
      | _ => none
    | _, _ => none
  | .call { callee := .builtin .max, args, .. } => some (.mm true args.toList)
  | .call { callee := .builtin .min, args, .. } => some (.mm false args.toList)
  | .call { callee := .builtin .append, args, argTypes } =>
    match args.toList, argTypes.toList with
    | [x, y], [T, U] => if T = U then (match P.underlying T with
      | some (.slice e) => (P.info? e).bind fun inf => (zeroOf P e).bind fun z => if z.length = inf.size then some (.app inf.size inf.bytes x y) else none
      | _ => none) else none
    | _, _ => none
  | _ => none

end Go.Proofs.Ytifebfkkciaddaa
