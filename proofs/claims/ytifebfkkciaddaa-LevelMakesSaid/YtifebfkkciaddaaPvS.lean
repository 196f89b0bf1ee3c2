/-
  Bodies over plain values, step by step.
-/
import Derived.Test.YtifebfkkciaddaaPvN
set_option linter.unusedVariables false
set_option linter.unusedSimpArgs false
namespace Go.Proofs.Ytifebfkkciaddaa
open Go.RowKit
universe u

theorem nr {α : Sort u} {a b : α} (h : a = b) : a = b := h

def optP (o : Option St) (K : St → Prop) : Prop :=
  match o with
  | some s => K s
  | none => False
def condP (p : PV) (A B : St → Prop) (s : St) : Prop :=
  match p with
  | .sc (.bool t) => if t = true then A s else B s
  | _ => False
def guardK (p : PV) (want : Bool) (A K : St → Prop) (d : Option Nat) (s : St) : Prop :=
  match p with
  | .sc (.bool b) => if b = want then A s else K (put s d (.sc undef))
  | .sc (.tuple _) => K (put s d (.sc undef))
  | _ => False
def callP (P : Program) (pure : Bool) (lend : Bool) (f : FuncId) (args : List PV) (d : Option Nat) (K : St → Prop) (s : St) : Prop :=
  (∃ r, CallV P lend f args s.H r ∧ K (put s d r)) ∨ (pure = false ∧ ∃ Q, PMut P f args s.H s.nx Q ∧ ∀ H' nx' r, Q H' nx' r → s.nx ≤ nx' → K (put { s with H := H', nx := nx' } d r))
def calvP (P : Program) (pure : Bool) (p : PV) (args : List PV) (d : Option Nat) (K : St → Prop) (s : St) : Prop :=
  match p with
  | .fn f caps => callP P pure false f (args ++ caps) d K s
  | _ => False
/-- A value is put into a slot. -/
def valP (o : Option PV) (d : Option Nat) (K : St → Prop) (s : St) : Prop :=
  match o with
  | some x => K (put s d x)
  | none => False
def storeK (q : Option (Nat × PObj)) (d : Option Nat) (K : St → Prop) (s : St) : Prop :=
  match q with
  | some (j, ob) => K (put { s with H := upd s.H j (some ob) } d (.sc undef))
  | none => False
def storeF (q : Option (Nat × PObj)) (t : Nat) (p : PV) (d : Option Nat) (K : St → Prop) (s : St) : Prop :=
  match p, q with
  | .optr _ 0, some (j, ob) => K (put { s with s := upd s.s t (.ptr ob.cells), H := upd s.H j none } d (.sc undef))
  | _, _ => False
def newP (q : Option (PV × PObj)) (id : Nat) (d : Option Nat) (K : St → Prop) (s : St) : Prop :=
  match q with
  | some (x, ob) => K (put { s with H := upd s.H id (some ob) } d x)
  | none => False

section
variable {P : Program} {b : Bool} {id base i : Nat} {d : Option Nat} {K : St → Prop} {s : St} {r : List (Nat × MO)} {o : MO}

theorem run_nil : runOps P b base [] K s = K s := nr rfl
theorem run_cons : runOps P b base ((i, o) :: r) K s = opG P b (base + i) o (runOps P b base r K) s := nr rfl
theorem num_nil {k : Nat} : num k ([] : List MO) = [] := nr rfl
theorem num_cons {k : Nat} {o : MO} {l : List MO} : num k (o :: l) = (k, o) :: num (k + 1) l := nr rfl
theorem put_some {t : Nat} {x : PV} : put s (some t) x = { s with s := upd s.s t x } := nr rfl
theorem put_none {x : PV} : put s none x = s := nr rfl
theorem ev_tmp {t : Nat} : ev s (.tmp t) = s.s t := nr rfl
theorem ev_const {v : Value} : ev s (.const v) = .sc v := nr rfl
theorem ev_func {f : FuncId} : ev s (.func f) = .fn f [] := nr rfl
theorem upd_get {α : Type} {f : Nat → α} {i j : Nat} {x : α} : upd f i x j = if j = i then x else f j := nr rfl

theorem g_some {m : MOp} {t : Nat} {w : Bool} : opG P b id ⟨d, m, some (t, w)⟩ K s = guardK (s.s t) w (opG P b id ⟨d, m, none⟩ K) K d s := by
  unfold opG guardK
  simp only []
  generalize s.s t = p
  cases p with
  | sc v => cases v <;> rfl
  | _ => rfl

theorem val_op {m : MOp} (h : m.isCall = false) (h2 : ∀ o : MO, o.op = m → ∀ s, stepM id o s = (val s m).map (put s o.dst)) : opG P b id ⟨d, m, none⟩ K s = valP (val s m) d K s := by
  have e : stepM id ⟨d, m, none⟩ s = (val s m).map (put s d) := h2 ⟨d, m, none⟩ rfl s
  have h' : ¬ (MO.op ⟨d, m, none⟩).isCall = true := by simp [h]
  unfold opG opP valP
  simp only []
  rw [if_neg h', e]
  cases val s m <;> rfl

theorem o_mv {x : Operand} : opG P b id ⟨d, .mv x, none⟩ K s = K (put s d (ev s x)) := nr rfl
def pickV (p q r : PV) : Option PV := match p with
  | .sc (.bool t) => some (if t then q else r)
  | _ => none
theorem o_pick {c x y : Operand} : opG P b id ⟨d, .pick c x y, none⟩ K s = valP (pickV (ev s c) (ev s x) (ev s y)) d K s := val_op rfl fun o h s => by simp only [stepM, h]
theorem o_bin {op : BinOp} {x y : Operand} : opG P b id ⟨d, .bin op x y, none⟩ K s = valP (binPV op (ev s x) (ev s y)) d K s := val_op rfl fun o h s => by simp only [stepM, h]
theorem o_eqa {ne : Bool} {t : ETy} {x y : Operand} : opG P b id ⟨d, .eqa ne t x y, none⟩ K s = valP ((eqE t (ev s x) (ev s y)).map fun (b : Bool) => PV.sc (.bool (if ne = true then !b else b))) d K s := val_op rfl fun o h s => by simp only [stepM, h]
theorem o_mm {mx : Bool} {xs : List Operand} : opG P b id ⟨d, .mm mx xs, none⟩ K s = valP (mmL mx (xs.map (ev s))) d K s := val_op rfl fun o h s => by simp only [stepM, h]
def appK (q : Option (PV × List (Nat × Option PObj))) (d : Option Nat) (K : St → Prop) (s : St) : Prop := match q with
  | some (r, hs) => K (put { s with H := updL s.H hs } d r)
  | none => False
theorem app_some {r : PV} {hs : List (Nat × Option PObj)} : appK (some (r, hs)) d K s = K (put { s with H := updL s.H hs } d r) := nr rfl
theorem o_app {sz bytes : Nat} {x y : Operand} : opG P b id ⟨d, .app sz bytes x y, none⟩ K s = appK (appE s id sz bytes (ev s x) (ev s y)) d K s := by
  unfold opG opP appK
  simp only [MOp.isCall, Bool.false_eq_true, if_false, stepM]
  cases appE s id sz bytes (ev s x) (ev s y) <;> rfl
theorem o_un {op : UnOp} {x : Operand} : opG P b id ⟨d, .un op x, none⟩ K s = valP (unPV op (ev s x)) d K s := val_op rfl fun o h s => by simp only [stepM, h]
theorem o_ld {x : Operand} {sz : Nat} {ag : Bool} : opG P b id ⟨d, .ld x sz ag, none⟩ K s = valP ((loadP s (ev s x) sz).bind fun cs => if ag then some (.agg cs) else if sz = 1 then cs.head? else none) d K s := val_op rfl fun o h s => by simp only [stepM, h]
theorem o_bld {z : List Value} {ps : List (Nat × Nat × Operand)} : opG P b id ⟨d, .bld z ps, none⟩ K s = valP ((partsP s ps).bind fun qs => (fillP (z.map .sc) qs).map .agg) d K s := val_op rfl fun o h s => by simp only [stepM, h]
theorem o_len {x : Operand} {str : Bool} : opG P b id ⟨d, .len x str, none⟩ K s = valP ((lenPV str (ev s x)).map fun (n : Nat) => PV.sc (.int .i64 (n : Int))) d K s := val_op rfl fun o h s => by simp only [stepM, h]
theorem o_mkf {f : FuncId} {xs : List Operand} : opG P b id ⟨d, .mkf f xs, none⟩ K s = K (put s d (.fn f (xs.map (ev s)))) := nr rfl

def nilcV (p : PV) : Option PV := match p with
  | .ptr c => some (.ptr c)
  | .optr id off => some (.optr id off)
  | _ => none
theorem o_nilc {x : Operand} : opG P b id ⟨d, .nilc x, none⟩ K s = valP (nilcV (ev s x)) d K s := val_op rfl fun o h s => by simp only [stepM, h]
def faV (p : PV) (off : Nat) : Option PV := match p with
  | .ptr c => if off ≤ c.length then some (.ptr (c.drop off)) else none
  | .optr id o => some (.optr id (o + off))
  | _ => none
theorem o_fa {x : Operand} {off : Nat} : opG P b id ⟨d, .fa x off, none⟩ K s = valP (faV (ev s x) off) d K s := val_op rfl fun o h s => by simp only [stepM, h]
def fdV (p : PV) (off sz : Nat) (ag : Bool) : Option PV := match p with
  | .agg c => if ag then (if off + sz ≤ c.length then some (.agg ((c.drop off).take sz)) else none) else c[off]?
  | _ => none
theorem o_fd {x : Operand} {off sz : Nat} {ag : Bool} : opG P b id ⟨d, .fd x off sz ag, none⟩ K s = valP (fdV (ev s x) off sz ag) d K s := val_op rfl fun o h s => by simp only [stepM, h]
def iaV (p q : PV) (sz : Nat) : Option PV := match p, q with
  | .sl sz' es, .sc (.int _ n) => if 0 ≤ n ∧ sz' = sz then (es[n.toNat]?).map .ptr else none
  | .osl id off len sz', .sc (.int _ n) => if 0 ≤ n ∧ n < len ∧ sz' = sz then some (.optr id (off + n.toNat * sz)) else none
  | _, _ => none
theorem o_ia {x y : Operand} {sz : Nat} : opG P b id ⟨d, .ia x y sz, none⟩ K s = valP (iaV (ev s x) (ev s y) sz) d K s := val_op rfl fun o h s => by simp only [stepM, h]
def iaaV (p q : PV) (len sz : Nat) : Option PV := match p, q with
  | .ptr c, .sc (.int _ n) => if 0 ≤ n ∧ n < len ∧ n.toNat * sz ≤ c.length then some (.ptr (c.drop (n.toNat * sz))) else none
  | .optr id off, .sc (.int _ n) => if 0 ≤ n ∧ n < len then some (.optr id (off + n.toNat * sz)) else none
  | _, _ => none
theorem o_iaa {x y : Operand} {len sz : Nat} : opG P b id ⟨d, .iaa x y len sz, none⟩ K s = valP (iaaV (ev s x) (ev s y) len sz) d K s := val_op rfl fun o h s => by simp only [stepM, h]
def ixV (p q : PV) (len sz : Nat) (ag : Bool) : Option PV := match p, q with
  | .agg c, .sc (.int _ n) => if 0 ≤ n ∧ n < len then (if ag then (if n.toNat * sz + sz ≤ c.length then some (.agg ((c.drop (n.toNat * sz)).take sz)) else none) else c[n.toNat * sz]?) else none
  | _, _ => none
theorem o_ix {x y : Operand} {len sz : Nat} {ag : Bool} : opG P b id ⟨d, .ix x y len sz ag, none⟩ K s = valP (ixV (ev s x) (ev s y) len sz ag) d K s := val_op rfl fun o h s => by simp only [stepM, h]
def ixsV (p q : PV) : Option PV := match p, q with
  | .sc (.string b), .sc (.int _ n) => if 0 ≤ n then (b[n.toNat]?).map fun c => .sc (.int .u8 c.toNat) else none
  | _, _ => none
theorem o_ixs {x y : Operand} : opG P b id ⟨d, .ixs x y, none⟩ K s = valP (ixsV (ev s x) (ev s y)) d K s := val_op rfl fun o h s => by simp only [stepM, h]
def extV (p : PV) (i : Nat) : Option PV := match p with
  | .tup vs => vs[i]?
  | _ => none
theorem o_ext {x : Operand} {j : Nat} : opG P b id ⟨d, .ext x j, none⟩ K s = valP (extV (ev s x) j) d K s := val_op rfl fun o h s => by simp only [stepM, h]

theorem o_al {z : List Value} : opG P b id ⟨d, .al z, none⟩ K s = K (put { s with H := upd s.H id (some ⟨z.map .sc, true⟩) } d (.optr id 0)) := nr rfl
theorem o_bxf {x : Operand} : opG P b id ⟨d, .bx x false, none⟩ K s = valP (if (ev s x).good = true then some (.ptr (ev s x).cellsOf) else none) d K s := by
  unfold opG opP valP
  simp only [MOp.isCall, Bool.false_eq_true, if_false, stepM]
  by_cases h : (ev s x).good = true <;> simp [h]
theorem o_bxt {x : Operand} : opG P b id ⟨d, .bx x true, none⟩ K s = newP (if (ev s x).good = true then some (.optr id 0, ⟨(ev s x).cellsOf, true⟩) else none) id d K s := by
  unfold opG opP newP
  simp only [MOp.isCall, Bool.false_eq_true, if_false, stepM, if_true]
  by_cases h : (ev s x).good = true <;> simp [h, newAt]
theorem o_bsl {sz len : Nat} {z : List Value} {ps : List (Nat × Nat × Operand)} : opG P b id ⟨d, .bsl sz len z ps true, none⟩ K s = newP (if z.length = sz then (partsP s ps).bind fun qs => (fillP (zeros z len) qs).map fun cells => (.osl id 0 len sz, ⟨cells, true⟩) else none) id d K s := by
  unfold opG opP newP
  simp only [MOp.isCall, Bool.false_eq_true, if_false, stepM, if_true]
  by_cases h : z.length = sz
  · rw [if_pos h, if_pos h]
    cases partsP s ps with
    | none => rfl
    | some qs =>
      simp only [Option.bind_some]
      cases fillP (zeros z len) qs <;> rfl
  · rw [if_neg h, if_neg h]
theorem o_bslf {sz len : Nat} {z : List Value} {ps : List (Nat × Nat × Operand)} : opG P b id ⟨d, .bsl sz len z ps false, none⟩ K s = valP (if z.length = sz then (partsP s ps).bind fun qs => (fillP (zeros z len) qs).map fun cells => .sl sz (chunks sz len cells) else none) d K s := by
  unfold opG opP valP
  simp only [MOp.isCall, Bool.false_eq_true, if_false, stepM]
  by_cases h : z.length = sz
  · rw [if_pos h, if_pos h]
    cases partsP s ps with
    | none => rfl
    | some qs =>
      simp only [Option.bind_some]
      cases fillP (zeros z len) qs <;> rfl
  · rw [if_neg h, if_neg h]
theorem chunks_zero {sz : Nat} {xs : List PV} : chunks sz 0 xs = [] := rfl
theorem chunks_succ {sz n : Nat} {xs : List PV} : chunks sz (n + 1) xs = xs.take sz :: chunks sz n (xs.drop sz) := rfl
def mksV (id sz bytes : Nat) (z : List Value) (p q : PV) : Option (PV × PObj) := match p, q with
  | .sc (.int _ n), .sc (.int _ m) => if 0 ≤ n ∧ n = m ∧ bytes * n ≤ 2 ^ 47 ∧ n ≤ 2 ^ 47 ∧ z.length = sz then some (.osl id 0 n.toNat sz, ⟨zeros z n.toNat, true⟩) else none
  | _, _ => none
theorem o_mks {sz bytes : Nat} {z : List Value} {x y : Operand} : opG P b id ⟨d, .mks sz bytes z x y, none⟩ K s = newP (mksV id sz bytes z (ev s x) (ev s y)) id d K s := by
  unfold opG opP newP mksV
  simp only [MOp.isCall, Bool.false_eq_true, if_false, stepM]
  generalize ev s x = p
  generalize ev s y = q
  cases p with
  | sc v =>
    cases v with
    | int k n =>
      cases q with
      | sc u =>
        cases u with
        | int k' m =>
          simp only []
          by_cases h : 0 ≤ n ∧ n = m ∧ bytes * n ≤ 2 ^ 47 ∧ n ≤ 2 ^ 47 ∧ z.length = sz
          · rw [if_pos h, if_pos h]; rfl
          · rw [if_neg h, if_neg h]
        | _ => rfl
      | _ => rfl
    | _ => rfl
  | _ => rfl
theorem o_st {x v : Operand} {sz : Nat} : opG P b id ⟨d, .st x v sz false, none⟩ K s = storeK (if (ev s v).cellsOf.length = sz ∧ (ev s v).cellsOf.all PV.one = true then storeP s (ev s x) (ev s v).cellsOf else none) d K s := by
  unfold opG opP storeK
  simp only [MOp.isCall, Bool.false_eq_true, if_false, stepM]
  by_cases h : (ev s v).cellsOf.length = sz ∧ (ev s v).cellsOf.all PV.one = true
  · rw [if_pos h, if_pos h]
    cases storeP s (ev s x) (ev s v).cellsOf with
    | none => rfl
    | some q => rfl
  · rw [if_neg h, if_neg h]
theorem o_stf {t : Nat} {v : Operand} {sz : Nat} : opG P b id ⟨d, .st (.tmp t) v sz true, none⟩ K s = storeF (if (ev s v).cellsOf.length = sz ∧ (ev s v).cellsOf.all PV.one = true then storeP s (s.s t) (ev s v).cellsOf else none) t (s.s t) d K s := by
  unfold opG opP storeF
  simp only [MOp.isCall, Bool.false_eq_true, if_false, stepM, if_true]
  by_cases h : (ev s v).cellsOf.length = sz ∧ (ev s v).cellsOf.all PV.one = true
  · rw [if_pos h, if_pos h]
    have e : ev s (.tmp t) = s.s t := rfl
    rw [e]
    cases storeP s (s.s t) (ev s v).cellsOf with
    | none =>
      simp only [Option.bind_none]
      cases s.s t with
      | optr j off => cases off <;> rfl
      | _ => rfl
    | some q =>
      obtain ⟨j, ob⟩ := q
      simp only [Option.bind_some]
      cases s.s t with
      | optr j off => cases off <;> rfl
      | _ => rfl
  · rw [if_neg h, if_neg h]
    cases s.s t with
    | optr j off => cases off <;> rfl
    | _ => rfl
theorem o_call {f : FuncId} {xs : List Operand} : opG P b id ⟨d, .call f xs, none⟩ K s = callP P b true f (xs.map (ev s)) d K s := nr rfl
theorem o_calv {x : Operand} {xs : List Operand} : opG P b id ⟨d, .calv x xs, none⟩ K s = calvP P b (ev s x) (xs.map (ev s)) d K s := by
  unfold opG opP calvP
  simp only [MOp.isCall, if_true, calleeP]
  cases ev s x <;> rfl

theorem val_some {x : PV} : valP (some x) d K s = K (put s d x) := nr rfl
theorem new_some {x : PV} {ob : PObj} : newP (some (x, ob)) id d K s = K (put { s with H := upd s.H id (some ob) } d x) := nr rfl
theorem st_some {j : Nat} {ob : PObj} : storeK (some (j, ob)) d K s = K (put { s with H := upd s.H j (some ob) } d (.sc undef)) := nr rfl
theorem stf_some {j k t : Nat} {ob : PObj} : storeF (some (j, ob)) t (.optr k 0) d K s = K (put { s with s := upd s.s t (.ptr ob.cells), H := upd s.H j none } d (.sc undef)) := nr rfl
theorem guard_tt {A K : St → Prop} : guardK (.sc (.bool true)) true A K d s = A s := nr rfl
theorem guard_ff {A K : St → Prop} : guardK (.sc (.bool false)) false A K d s = A s := nr rfl
theorem guard_tf {A K : St → Prop} : guardK (.sc (.bool true)) false A K d s = K (put s d (.sc undef)) := nr rfl
theorem guard_ft {A K : St → Prop} : guardK (.sc (.bool false)) true A K d s = K (put s d (.sc undef)) := nr rfl
theorem guard_un {A K : St → Prop} {w : Bool} : guardK (.sc undef) w A K d s = K (put s d (.sc undef)) := nr rfl
theorem cond_true {A B : St → Prop} : condP (.sc (.bool true)) A B s = A s := nr rfl
theorem cond_false {A B : St → Prop} : condP (.sc (.bool false)) A B s = B s := nr rfl
theorem calv_fn {f : FuncId} {caps xs : List PV} : calvP P b (.fn f caps) xs d K s = callP P b false f (xs ++ caps) d K s := nr rfl

theorem call_pure {lend : Bool} {f : FuncId} {args : List PV} {r : PV} (h : PPure P f args r) (hk : K (put s d r)) : callP P b lend f args d K s := .inl ⟨r, .inl h, hk⟩
theorem call_lent {f : FuncId} {args : List PV} {r : PV} (h : PPure P f (args.map (brw s.H)) r) (hf : r.flat = true) (hi : immL (args.map (brw s.H)) = true) (hk : K (put s d r)) : callP P b true f args d K s := .inl ⟨r, .inr ⟨rfl, hf, hi, h⟩, hk⟩
theorem call_mut {lend : Bool} {f : FuncId} {args : List PV} {Q : (Nat → Option PObj) → Nat → PV → Prop} (h : PMut P f args s.H s.nx Q) (hk : ∀ H' nx' r, Q H' nx' r → s.nx ≤ nx' → K (put { s with H := H', nx := nx' } d r)) : callP P false lend f args d K s := .inr ⟨rfl, Q, h, hk⟩

variable {Q : Exit → St → Prop}
theorem c_skip : pw P .skip Q s = Q .normal s := nr rfl
theorem c_ret : pw P .ret Q s = Q .ret s := nr rfl
theorem c_exit {j : Nat} : pw P (.exit j) Q s = Q (.exit j) s := nr rfl
theorem c_seq {x y : MCode} : pw P (.seq x y) Q s = pw P x (thenP (pw P y Q) Q) s := nr rfl
theorem c_block {j : Nat} {x : MCode} : pw P (.block j x) Q s = pw P x (blockP j Q) s := nr rfl
theorem c_region {ms : List MO} {dr : Bool} : pw P (.region ms dr) Q s = runOps P dr s.nx (num 0 ms) (contN Q) { s with nx := s.nx + ms.length } := nr rfl
theorem c_cond {c : Operand} {x y : MCode} : pw P (.cond c x y) Q s = condP (ev s c) (pw P x Q) (pw P y Q) s := by
  simp only [pw, condP]
  generalize ev s c = p
  cases p with
  | sc v => cases v <;> rfl
  | _ => rfl
theorem c_cont : contN Q s = Q .normal s := nr rfl
theorem t_normal {next : St → Prop} : thenP next Q .normal s = next s := nr rfl
theorem t_ret {next : St → Prop} : thenP next Q .ret s = Q .ret s := nr rfl
theorem t_exit {next : St → Prop} {j : Nat} : thenP next Q (.exit j) s = Q (.exit j) s := nr rfl
theorem b_normal {j : Nat} : blockP j Q .normal s = Q .normal s := nr rfl
theorem b_ret {j : Nat} : blockP j Q .ret s = Q .ret s := nr rfl
theorem b_exit {j k : Nat} : blockP j Q (.exit k) s = if k = j then Q .normal s else Q (.exit k) s := nr rfl

theorem c_loop {c : MCode} (I : Nat → St → Prop) (k0 : Nat) (h0 : I k0 s) (h : ∀ k s, I k s → pw P c (thenP (fun s' => ∃ k', k' < k ∧ I k' s') Q) s) : pw P (.loop c) Q s := ⟨I, ⟨k0, h0⟩, h⟩

/-- What holds at a pure function's end. -/
def finP (rs : List RV) (r : PV) (e : Exit) (s : St) : Prop := (e = .normal ∨ e = .ret) ∧ ∃ r0, resP s rs = some r0 ∧ ∃ k, Weak (frz k s.H r0) r
theorem fin_tmp {t : Nat} {r : PV} {e : Exit} (he : e = .normal ∨ e = .ret) (h : s.s t = r) : finP [.tmp t] r e s := ⟨he, _, rfl, 0, .of_eq h⟩
theorem fin_ret {rs : List RV} {r r0 : PV} (k : Nat) (h : resP s rs = some r0) (h2 : Weak (frz k s.H r0) r) : finP rs r .ret s := ⟨.inr rfl, r0, h, k, h2⟩
theorem fin_normal {rs : List RV} {r r0 : PV} (k : Nat) (h : resP s rs = some r0) (h2 : Weak (frz k s.H r0) r) : finP rs r .normal s := ⟨.inl rfl, r0, h, k, h2⟩
end

mutual
/-- No slice of it is longer than a slice can be. -/
def PV.bnd : PV → Prop
  | .sc _ => True
  | .ptr cs => bndL cs
  | .sl _ es => es.length ≤ 9223372036854775807 ∧ bndLL es
  | .fn _ cs => bndL cs
  | .agg cs => bndL cs
  | .tup cs => bndL cs
  | .optr .. => True
  | .osl .. => True
def bndL : List PV → Prop
  | [] => True
  | x :: r => x.bnd ∧ bndL r
def bndLL : List (List PV) → Prop
  | [] => True
  | x :: r => bndL x ∧ bndLL r
end
theorem bndL_get : ∀ {xs : List PV}, (∀ (i : Nat) (x : PV), xs[i]? = some x → x.bnd) → bndL xs
  | [], _ => trivial
  | x :: r, h => ⟨h 0 x rfl, bndL_get fun i y hy => h (i + 1) y (by simpa using hy)⟩
theorem bndL_append : ∀ {a b : List PV}, bndL (a ++ b) ↔ bndL a ∧ bndL b
  | [], b => by simp [bndL]
  | x :: r, b => by simp [bndL, bndL_append, and_assoc]
theorem bndLL_flatten : ∀ {es : List (List PV)}, bndLL es ↔ bndL es.flatten
  | [] => by simp [bndLL, bndL]
  | x :: r => by simp [bndLL, List.flatten_cons, bndL_append, bndLL_flatten]
theorem bndL_mem : ∀ {xs : List PV} {x : PV}, bndL xs → x ∈ xs → x.bnd
  | y :: r, x, h, hx => by
    rcases List.mem_cons.1 hx with rfl | hx
    · exact h.1
    · exact bndL_mem h.2 hx
theorem bndLL_mem : ∀ {xs : List (List PV)} {x : List PV}, bndLL xs → x ∈ xs → bndL x
  | y :: r, x, h, hx => by
    rcases List.mem_cons.1 hx with rfl | hx
    · exact h.1
    · exact bndLL_mem h.2 hx

theorem Rep.bnd {V : Vw} {x : PV} {v : Value} (h : Rep V x v) : x.bnd := by
  have key : ∀ (xs : List PV) (vs : List Value), vs.length = xs.length → (∀ (i : Nat) (x : PV) (v : Value), xs[i]? = some x → vs[i]? = some v → x.bnd) → bndL xs := by
    intro xs vs hl hx
    refine bndL_get fun i x hi => ?_
    have h1 := (List.getElem?_eq_some_iff.1 hi).1
    exact hx i x vs[i] hi (List.getElem?_eq_getElem (by omega))
  induction h with
  | sc v => trivial
  | ptr cells b off vs hok hl hc hr ih => exact key cells vs hl ih
  | slNil sz A cap h => exact ⟨by simp, trivial⟩
  | sl sz elems b off len cap hlen hs h1 h2 hp ih =>
    unfold maxLen at h2
    exact ⟨by omega, bndLL_flatten.2 ih⟩
  | fn f caps vs hl hr ih => exact key caps vs hl ih
  | agg cells vs hl hr ih => exact key cells vs hl ih
  | tup cells vs hl hr ih => exact key cells vs hl ih
  | optr id off b h => trivial
  | osl id off len sz cap b c T fr h h1 h2 hh hc => trivial

/-- What is handed in is no longer than slices can be. -/
theorem pure_bnd {P : Program} {f : FuncId} {args : List PV} {r : PV} (he : enters P f = true) (h : bndL args → PPure P f args r) : PPure P f args r := by
  refine ⟨he, fun V nx vals hok hfree hv => ?_⟩
  have hb : bndL args := bndL_get fun i x hi => by
    obtain ⟨v, _, hr⟩ := hv.get hi
    exact hr.bnd
  exact (h hb).2 V nx vals hok hfree hv

theorem pure_by {P : Program} {pol : Pol} {f : FuncId} {n : Nat} {mc : MCode} {rs : List RV} {args : List PV} {r : PV} (hf : FnIs P pol f n mc rs) (hn : args.length ≤ n) (hi : r.imm = true)
    (h : bndL args → ∀ nx, pw P mc (finP rs r) ⟨sig args, noneOwn, nx⟩) : PPure P f args r := pure_bnd hf.enters fun hb => pure_fn hf hn hi (h hb)

def sigF : Nat → List PV → Nat → PV
  | _, [], _ => .sc undef
  | k, x :: r, j => if j = k then x else sigF (k + 1) r j
theorem sigF_nil {k j : Nat} : sigF k [] j = .sc undef := nr rfl
theorem sigF_cons {k j : Nat} {x : PV} {r : List PV} : sigF k (x :: r) j = if j = k then x else sigF (k + 1) r j := nr rfl
theorem sigF_eq : ∀ (args : List PV) (k j : Nat), k ≤ j → sigF k args j = args.getD (j - k) (.sc undef)
  | [], k, j, _ => by simp [sigF]
  | x :: r, k, j, h => by
    unfold sigF
    by_cases e : j = k
    · subst e; simp
    · rw [if_neg e, sigF_eq r (k + 1) j (by omega)]
      have : j - k = j - (k + 1) + 1 := by omega
      rw [this, List.getD_cons_succ]
theorem sig_eq {args : List PV} : sig args = sigF 0 args := by
  funext j
  rw [sigF_eq args 0 j (Nat.zero_le _)]
  rfl
theorem sig_get {args : List PV} {t : Nat} : sig args t = args.getD t (.sc undef) := nr rfl
theorem wrap64 {n : Int} (h : -9223372036854775808 ≤ n ∧ n ≤ 9223372036854775807) : IntKind.i64.wrap n = n := by
  rw [IntKind.wrap_i64]; omega
end Go.Proofs.Ytifebfkkciaddaa
