/-
  Calls by what they come to; a region in the order of its text.
-/
import Derived.Test.YtifebfkkciaddaaPvH
set_option linter.unusedVariables false
set_option linter.unusedSimpArgs false
namespace Go.Proofs.Ytifebfkkciaddaa
open Go.RowKit

/-- It is a function with a body. -/
def enters (P : Program) (f : FuncId) : Bool :=
  match P.funcs[f]? with
  | some fn => fn.name != "runtime.NumGoroutine" && fn.body.isSome
  | none => false

def grown (V : Vw) (w' : World) : Vw := ⟨w', fun b => V.ok b ∨ (V.w.heap.size ≤ b ∧ b < w'.heap.size), V.rho⟩

/-- It comes to r, and changes nothing that was there. -/
def PPure (P : Program) (f : FuncId) (args : List PV) (r : PV) : Prop :=
  enters P f = true ∧ ∀ (V : Vw) (nx : Nat) (vals : List Value), (∀ b, V.ok b → b < V.w.heap.size) → (∀ id, nx ≤ id → V.rho id = none) → RepL V args vals →
    Calls P f vals.toArray V.w fun e w' => ∃ v, e = .returned v ∧ Below V.w.heap.size V.w w' ∧ Rep (grown V w') r v

/-- It may change the caller's own blocks: what it leaves. -/
def PMut (P : Program) (f : FuncId) (args : List PV) (H : Nat → Option PObj) (nx : Nat) (Q : (Nat → Option PObj) → Nat → PV → Prop) : Prop :=
  enters P f = true ∧ ∀ (w0 : World) (ok0 : Nat → Prop) (rho : Nat → Option Nat) (w : World) (vals : List Value), RelH w0 ok0 H rho w → (∀ id, nx ≤ id → rho id = none) → RepL (viewOf w0 ok0 H rho w) args vals →
    Calls P f vals.toArray w fun e w' => ∃ v H' nx' r rho', e = .returned v ∧ Q H' nx' r ∧ RelH w0 ok0 H' rho' w' ∧ (viewOf w0 ok0 H rho w).Leq (viewOf w0 ok0 H' rho' w') ∧
      nx ≤ nx' ∧ (∀ id, nx' ≤ id → rho' id = none) ∧ (∀ id, id < nx → rho' id = rho id) ∧ Rep (viewOf w0 ok0 H' rho' w') r v

def noneOwn : Nat → Option PObj := fun _ => none

theorem none_leq (w0 : World) (ok0 : Nat → Prop) (H : Nat → Option PObj) (rho : Nat → Option Nat) (w : World) : (viewOf w0 ok0 H rho w).Leq (viewOf w0 ok0 noneOwn rho w) :=
  ⟨fun b hb => ⟨hb.1, fun id o ho => by cases ho⟩, fun _ _ _ => rfl, fun _ _ h => h, fun _ _ c T fr _ hh => ⟨c, T, fr, hh, Nat.le_refl _⟩⟩

mutual
/-- Nothing of it is a call's own. -/
def PV.imm : PV → Bool
  | .sc _ => true
  | .ptr cs => immL cs
  | .sl _ es => immLL es
  | .fn _ cs => immL cs
  | .agg cs => immL cs
  | .tup cs => immL cs
  | .optr .. => false
  | .osl .. => false
def immL : List PV → Bool
  | [] => true
  | x :: r => x.imm && immL r
def immLL : List (List PV) → Bool
  | [] => true
  | x :: r => immL x && immLL r
end

theorem immL_get : ∀ {xs : List PV}, immL xs = true → ∀ {i : Nat} {x : PV}, xs[i]? = some x → x.imm = true
  | x :: r, h, 0, y, hy => by simp [immL] at h; simp at hy; subst hy; exact h.1
  | x :: r, h, i + 1, y, hy => by simp only [immL, Bool.and_eq_true] at h; exact immL_get h.2 (by simpa using hy)
theorem immL_append : ∀ {a b : List PV}, immL (a ++ b) = (immL a && immL b)
  | [], b => by simp [immL]
  | x :: r, b => by simp [immL, immL_append, Bool.and_assoc]
theorem immLL_flatten : ∀ {es : List (List PV)}, immLL es = immL es.flatten
  | [] => rfl
  | x :: r => by simp [immLL, List.flatten_cons, immL_append, immLL_flatten]

theorem Rep.imm {V : Vw} {x : PV} {v : Value} (h : Rep V x v) : x.imm = true → ∀ (rho : Nat → Option Nat), Rep ⟨V.w, V.ok, rho⟩ x v := by
  induction h with
  | sc v => intro _ rho; exact .sc v
  | ptr cells b off vs hok hl hc hr ih => intro hi rho; exact .ptr cells b off vs hok hl hc fun i x v hx hv => ih i x v hx hv (immL_get (by simpa [PV.imm] using hi) hx) rho
  | slNil sz A cap h => intro _ rho; exact .slNil sz A cap h
  | sl sz elems b off len cap hlen hs h1 h2 hp ih => intro hi rho; exact .sl sz elems b off len cap hlen hs h1 h2 (ih (by simp only [PV.imm] at hi ⊢; rw [← immLL_flatten]; exact hi) rho)
  | fn f caps vs hl hr ih => intro hi rho; exact .fn f caps vs hl fun i x v hx hv => ih i x v hx hv (immL_get (by simpa [PV.imm] using hi) hx) rho
  | agg cells vs hl hr ih => intro hi rho; exact .agg cells vs hl fun i x v hx hv => ih i x v hx hv (immL_get (by simpa [PV.imm] using hi) hx) rho
  | tup cells vs hl hr ih => intro hi rho; exact .tup cells vs hl fun i x v hx hv => ih i x v hx hv (immL_get (by simpa [PV.imm] using hi) hx) rho
  | optr id off b h => intro hi; simp [PV.imm] at hi
  | osl id off len sz cap b c T fr h h1 h2 hh hc => intro hi; simp [PV.imm] at hi

/-! What is a call's own may be lent to a function that answers nothing but plain numbers, texts and the like. -/
def brw (H : Nat → Option PObj) : PV → PV
  | .optr id off => match H id with
    | some o => if off ≤ o.cells.length then .ptr (o.cells.drop off) else .optr id off
    | none => .optr id off
  | .osl id off len sz => match H id with
    | some o => if off + len * sz ≤ o.cells.length then .sl sz (chunks sz len ((o.cells.drop off).take (len * sz))) else .osl id off len sz
    | none => .osl id off len sz
  | x => x
mutual
/-- It leads to no memory. -/
def PV.flat : PV → Bool
  | .sc _ => true
  | .agg cs => flatL cs
  | .tup cs => flatL cs
  | _ => false
def flatL : List PV → Bool
  | [] => true
  | x :: r => x.flat && flatL r
end
theorem flatL_get : ∀ {xs : List PV}, flatL xs = true → ∀ {i : Nat} {x : PV}, xs[i]? = some x → x.flat = true
  | x :: r, h, 0, y, hy => by simp [flatL] at h; simp at hy; subst hy; exact h.1
  | x :: r, h, i + 1, y, hy => by simp only [flatL, Bool.and_eq_true] at h; exact flatL_get h.2 (by simpa using hy)
theorem Rep.flat {V : Vw} {x : PV} {v : Value} (h : Rep V x v) : x.flat = true → ∀ (V' : Vw), Rep V' x v := by
  induction h with
  | sc v => intro _ V'; exact .sc v
  | agg cells vs hl hr ih => intro hi V'; exact .agg cells vs hl fun i x v hx hv => ih i x v hx hv (flatL_get (by simpa [PV.flat] using hi) hx) V'
  | tup cells vs hl hr ih => intro hi V'; exact .tup cells vs hl fun i x v hx hv => ih i x v hx hv (flatL_get (by simpa [PV.flat] using hi) hx) V'
  | _ => intro hi; simp [PV.flat] at hi
/-- It comes to r, which leads to no memory, when it is lent what is the caller's own. -/
def Lent (P : Program) (f : FuncId) (args : List PV) (H : Nat → Option PObj) (r : PV) : Prop :=
  r.flat = true ∧ immL (args.map (brw H)) = true ∧ PPure P f (args.map (brw H)) r
def CallV (P : Program) (lend : Bool) (f : FuncId) (args : List PV) (H : Nat → Option PObj) (r : PV) : Prop := PPure P f args r ∨ (lend = true ∧ Lent P f args H r)
/-- To a function that is called by its name. -/
def MOp.lend : MOp → Bool
  | .call .. => true
  | _ => false
theorem CallV.enters {P : Program} {f : FuncId} {args : List PV} {H : Nat → Option PObj} {r : PV} {lend : Bool} (h : CallV P lend f args H r) : enters P f = true := by
  rcases h with h | h
  · exact h.1
  · exact h.2.2.2.1
theorem brw_sound {w0 : World} {ok0 : Nat → Prop} {H : Nat → Option PObj} {rho : Nat → Option Nat} {w : World} (hH : RelH w0 ok0 H rho w) {x : PV} {v : Value} (h : Rep (viewOf w0 ok0 H rho w) x v) : Rep (viewOf w0 ok0 noneOwn rho w) (brw H x) v := by
  cases x with
  | optr id off =>
    simp only [brw]
    cases ho : H id with
    | none => exact h.mono (none_leq ..)
    | some o =>
      simp only []
      split
      · rename_i hoff
        obtain ⟨b, rfl, hb⟩ := h.optr_inv
        obtain ⟨b', hb', hlow, hobj⟩ := hH.own id o ho
        have hb2 : rho id = some b := hb
        rw [hb2] at hb'
        cases hb'
        have hlt := hobj.lt
        obtain ⟨vs, h1, h2, h3⟩ := obj_cells hobj off (o.cells.length - off) (by omega)
        have e : (o.cells.drop off).take (o.cells.length - off) = o.cells.drop off := List.take_of_length_le (by simp)
        rw [e] at h1
        exact .ptr_mk ⟨.inr ⟨hlow, hlt⟩, fun id o ho => by cases ho⟩ (h1.mono (none_leq ..)) h3
      · exact h.mono (none_leq ..)
  | osl id off len sz =>
    simp only [brw]
    cases ho : H id with
    | none => exact h.mono (none_leq ..)
    | some o =>
      simp only []
      split
      · rename_i hfit
        obtain ⟨b, cap, c0, T0, fr0, rfl, hb, h1, h2, _, _⟩ := h.osl_inv
        obtain ⟨b', hb', hlow, hobj⟩ := hH.own id o ho
        have hb2 : rho id = some b := hb
        rw [hb2] at hb'
        cases hb'
        have hlt := hobj.lt
        obtain ⟨vs, h3, h4, h5⟩ := obj_cells hobj off (len * sz) hfit
        obtain ⟨c1, c2, c3⟩ := chunks_spec sz len ((o.cells.drop off).take (len * sz)) (by simp; omega)
        refine .sl sz _ b off len cap c2 c3 h1 h2 ?_
        rw [c1]
        exact .ptr_mk ⟨.inr ⟨hlow, hlt⟩, fun id o ho => by cases ho⟩ (h3.mono (none_leq ..)) h5
      · exact h.mono (none_leq ..)
  | _ => exact h.mono (none_leq ..)
theorem brws_sound {w0 : World} {ok0 : Nat → Prop} {H : Nat → Option PObj} {rho : Nat → Option Nat} {w : World} (hH : RelH w0 ok0 H rho w) {xs : List PV} {vs : List Value} (h : RepL (viewOf w0 ok0 H rho w) xs vs) : RepL (viewOf w0 ok0 noneOwn rho w) (xs.map (brw H)) vs :=
  ⟨by simp [h.1], fun i x v hx hv => by
    rw [List.getElem?_map] at hx
    cases hxi : xs[i]? with
    | none => simp [hxi] at hx
    | some y => simp [hxi] at hx; subst hx; exact brw_sound hH (h.2 i y v hxi hv)⟩

/-- A function, or one with what it has captured. -/
def calleeP (s : St) (o : MOp) : Option (FuncId × List PV) :=
  match o with
  | .call f args => some (f, args.map (ev s))
  | .calv x args => match ev s x with
    | .fn f caps => some (f, args.map (ev s) ++ caps)
    | _ => none
  | _ => none

def MOp.isCall : MOp → Bool
  | .call .. | .calv .. => true
  | _ => false

/-- One operation: pure says that what it calls changes nothing. -/
def opP (P : Program) (pure : Bool) (id : Nat) (o : MO) (K : St → Prop) (s : St) : Prop :=
  if o.op.isCall = true then
    match calleeP s o.op with
    | some (f, args) => (∃ r, CallV P o.op.lend f args s.H r ∧ K (put s o.dst r)) ∨
        (pure = false ∧ ∃ Q, PMut P f args s.H s.nx Q ∧ ∀ H' nx' r, Q H' nx' r → s.nx ≤ nx' → K (put { s with H := H', nx := nx' } o.dst r))
    | none => False
  else
    match stepM id o s with
    | some s' => K s'
    | none => False

/-- One operation with its guard. -/
def opG (P : Program) (pure : Bool) (id : Nat) (o : MO) (K : St → Prop) (s : St) : Prop :=
  match o.guard with
  | none => opP P pure id o K s
  | some (t, want) => match s.s t with
    | .sc (.bool b) => if b = want then opP P pure id o K s else K (put s o.dst (.sc undef))
    | .sc (.tuple _) => K (put s o.dst (.sc undef))
    | _ => False

def runOps (P : Program) (pure : Bool) (base : Nat) : List (Nat × MO) → (St → Prop) → St → Prop
  | [], K, s => K s
  | (i, o) :: r, K, s => opG P pure (base + i) o (runOps P pure base r K) s

def dstOk (n : Nat) : Option Nat → Bool
  | some t => decide (t < n)
  | none => true
def guardOf (ops : Array Oper) (n : Nat) : Option (Nat × Bool) → Option (Option (Nat × Bool))
  | none => some none
  | some (j, want) => ((ops[j]?).bind (·.dst)).bind fun t => if t < n then some (some (t, want)) else none

/-- An operation with its guard's slot looked up. -/
def mo (P : Program) (pol : Pol) (ops : Array Oper) (n : Nat) (o : Oper) : Option MO :=
  (mop P pol o).bind fun m => (guardOf ops n o.guard).bind fun g => if dstOk n o.dst = true then some ⟨o.dst, m, g⟩ else none

/-- All that is known at a place in a body. -/
structure RelF (w0 : World) (ok0 : Nat → Prop) (n : Nat) (s : St) (rho : Nat → Option Nat) (a : Act) (w : World) : Prop where
  rel : Rel w0 ok0 n s rho a w
  free : ∀ id, s.nx ≤ id → rho id = none

theorem mo_inv {P : Program} {pol : Pol} {ops : Array Oper} {n : Nat} {o : Oper} {m : MO} (h : mo P pol ops n o = some m) :
    mop P pol o = some m.op ∧ m.dst = o.dst ∧ (∀ t, o.dst = some t → t < n) ∧ guardOf ops n o.guard = some m.guard := by
  simp only [mo, Option.bind_eq_some_iff] at h
  obtain ⟨m', hm, g, hg, h⟩ := h
  split at h
  · rename_i hd
    cases h
    refine ⟨hm, rfl, fun t ht => ?_, hg⟩
    rw [ht] at hd
    simpa [dstOk] using hd
  · cases h

theorem pure_core {P : Program} {f : FuncId} {args : List PV} {r : PV} {w0 : World} {ok0 : Nat → Prop} {H H2 : Nat → Option PObj} {nx : Nat} {rho : Nat → Option Nat} {w : World} {vals : List Value} (hp : PPure P f args r) (hH : RelH w0 ok0 H rho w) (hfree : ∀ id, nx ≤ id → rho id = none)
    (hv : RepL (viewOf w0 ok0 H2 rho w) args vals) :
    Calls P f vals.toArray w fun e w' => ∃ v, e = .returned v ∧ RelH w0 ok0 H rho w' ∧ (viewOf w0 ok0 H rho w).Leq (viewOf w0 ok0 H rho w') ∧ Rep (grown (viewOf w0 ok0 H2 rho w) w') r v ∧ Below w.heap.size w w' := by
  have hsz := hH.bel.size
  have hlt : ∀ b, (viewOf w0 ok0 H2 rho w).ok b → b < w.heap.size := by
    rintro b ⟨h1 | h1, _⟩
    · have := hH.okb b h1; omega
    · exact h1.2
  have hlt0 : ∀ b, (viewOf w0 ok0 H rho w).ok b → b < w.heap.size := by
    rintro b ⟨h1 | h1, _⟩
    · have := hH.okb b h1; omega
    · exact h1.2
  refine (hp.2 (viewOf w0 ok0 H2 rho w) nx vals hlt hfree hv).mono ?_
  rintro e w' ⟨v, he, hb, hrep⟩
  have hb' : Below w.heap.size w w' := hb
  have hsz' := hb'.size
  have hleq : (viewOf w0 ok0 H rho w).Leq (viewOf w0 ok0 H rho w') := by
    refine ⟨fun b hk => ⟨?_, hk.2⟩, fun b off hk => ?_, fun _ _ h => h, fun id b c T fr hk hh => ?_⟩
    · rcases hk.1 with h1 | h1
      · exact .inl h1
      · exact .inr ⟨h1.1, by have := h1.2; omega⟩
    · exact World.cell?_of_block (w := w) (hb'.block b (hlt0 b hk))
    · have hk2 := (Array.getElem?_eq_some_iff.1 hh).1
      exact ⟨c, T, fr, (hb'.block b hk2).trans hh, Nat.le_refl _⟩
  refine ⟨v, he, ⟨hH.okb, hH.bel.trans (hb'.mono hsz), fun id o ho => ?_, hH.inj⟩, hleq, hrep, hb'⟩
  obtain ⟨b, h1, h2, h3⟩ := hH.own id o ho
  exact ⟨b, h1, h2, h3.mono hleq (hb'.block b h3.lt)⟩

theorem pure_call {P : Program} {f : FuncId} {args : List PV} {r : PV} {w0 : World} {ok0 : Nat → Prop} {n : Nat} {s : St} {rho : Nat → Option Nat} {a : Act} {w : World} {vals : List Value} {lend : Bool} (hp : CallV P lend f args s.H r) (hr : RelF w0 ok0 n s rho a w)
    (hv : RepL (viewOf w0 ok0 s.H rho w) args vals) :
    Calls P f vals.toArray w fun e w' => ∃ v, e = .returned v ∧ RelH w0 ok0 s.H rho w' ∧ (viewOf w0 ok0 s.H rho w).Leq (viewOf w0 ok0 s.H rho w') ∧ Rep (viewOf w0 ok0 s.H rho w') r v := by
  have hH := hr.rel.heap
  have hsz := hH.bel.size
  rcases hp with hp | ⟨_, hfl, _, hp⟩
  · refine (pure_core hp hH hr.free hv).mono ?_
    rintro e w' ⟨v, he, h1, h2, h3, h4⟩
    refine ⟨v, he, h1, h2, h3.mono ?_⟩
    refine ⟨fun b hk => ?_, fun b off hk => rfl, fun _ _ h => h, fun id b c T fr hk hh => ⟨c, T, fr, hh, Nat.le_refl _⟩⟩
    rcases hk with h5 | h5
    · exact h2.ok b h5
    · have h1a : w.heap.size ≤ b := h5.1
      refine ⟨.inr ⟨by omega, h5.2⟩, fun id o ho e => ?_⟩
      obtain ⟨b', h6, h7, h8⟩ := hH.own id o ho
      rw [e] at h6
      cases h6
      have := h8.lt
      have h9 : (viewOf w0 ok0 s.H rho w).w.heap.size = w.heap.size := rfl
      omega
  · refine (pure_core (H2 := noneOwn) hp hH hr.free (brws_sound hH hv)).mono ?_
    rintro e w' ⟨v, he, h1, h2, h3, h4⟩
    exact ⟨v, he, h1, h2, h3.flat hfl _⟩

theorem run_enter {P : Program} {f : FuncId} {vs : Array Value} (h : enters P f = true) (w : World) : (callFunc f vs).run P w = .ok (.enter f vs) w := by
  unfold enters at h
  cases hf : P.funcs[f]? with
  | none => simp [hf] at h
  | some fn =>
    rw [hf] at h
    simp only [Bool.and_eq_true, bne_iff_ne, ne_eq] at h
    obtain ⟨c, hc⟩ := Option.isSome_iff_exists.1 h.2
    have hn : (fn.name == "runtime.NumGoroutine") = false := by rw [beq_eq_false_iff_ne]; exact h.1
    have hb : fn.body.isNone = false := by rw [hc]; rfl
    have hn' : ¬ (fn.name == "runtime.NumGoroutine") = true := by rw [hn]; simp
    have hb' : ¬ fn.body.isNone = true := by rw [hb]; simp
    simp only [callFunc, program, Sem.run_bind, Sem.run, Result.andThen_ok, hf]
    rw [if_neg hn', if_neg hb']
    simp

theorem run_call_fn {P : Program} {f : FuncId} {a : Act} {args : Array Operand} {ats : Array TypeId} {x : Operand} {caps : List Value} {dst : Option Tmp} {ty : TypeId} {pos : String} {af : Array Edge} {g : Option (Nat × Bool)}
    (hx : a.eval x = .func (.func f) #[] caps.toArray) (h : enters P f = true) (w : World) :
    (execOp a.eval ⟨dst, .call { callee := .value x, args, argTypes := ats }, ty, pos, af, g⟩).run P w = .ok (.enter f (args.toList.map a.eval ++ caps).toArray) w := by
  have e : (args.toList.map a.eval ++ caps).toArray = #[] ++ args.map a.eval ++ caps.toArray := by
    apply Array.ext'
    simp
  simp only [execOp, resolve, hx, Deferred.ofValue, Sem.run_bind, Sem.run_pure, Result.andThen_ok, invoke]
  rw [run_enter h, e]

theorem step_nx {id : Nat} {m : MO} {s s' : St} (h : stepM id m s = some s') : s'.nx = s.nx := by
  unfold stepM at h
  split at h
  · cases h; simp [newAt, put_nx]
  · split at h
    · split at h <;> cases h <;> simp [newAt, put_nx]
    · cases h
  · split at h
    · simp only [Option.bind_eq_some_iff, Option.map_eq_some_iff] at h
      obtain ⟨_, _, _, _, h⟩ := h
      split at h <;> subst h <;> simp [newAt, put_nx]
    · cases h
  · split at h
    · split at h
      · cases h; simp [newAt, put_nx]
      · cases h
    · cases h
  · split at h
    · simp only [Option.bind_eq_some_iff] at h
      obtain ⟨⟨j, ob⟩, _, h⟩ := h
      split at h
      · split at h
        · cases h; simp [put_nx]
        · cases h
      · cases h; simp [put_nx]
    · cases h
  · simp only [Option.map_eq_some_iff] at h
    obtain ⟨⟨_, _⟩, _, rfl⟩ := h
    exact put_nx _ _ _
  · simp only [Option.map_eq_some_iff] at h
    obtain ⟨_, _, rfl⟩ := h
    exact put_nx _ _ _

theorem mop_call {P : Program} {pol : Pol} {o : Oper} {m : MOp} {s : St} {f : FuncId} {args : List PV} {V : Vw} {a : Act} (hm : mop P pol o = some m) (hc : calleeP s m = some (f, args)) (hs : ∀ t, Rep V (s.s t) (a.tmps.getD t undef)) :
    ∃ vals, RepL V args vals ∧ (enters P f = true → ∀ w, (execOp a.eval o).run P w = .ok (.enter f vals.toArray) w) := by
  have ht := mop_tag hm
  obtain ⟨dst, op, ty, pos, af, g⟩ := o
  cases m with
  | call f' xs =>
    simp only [calleeP, Option.some.injEq, Prod.mk.injEq] at hc
    obtain ⟨rfl, rfl⟩ := hc
    cases op with
    | call c =>
      obtain ⟨callee, ys, ats⟩ := c
      cases callee with
      | value x =>
        cases x with
        | func f =>
          simp only [mop, Option.some.injEq, MOp.call.injEq] at hm
          obtain ⟨rfl, rfl⟩ := hm
          refine ⟨ys.toList.map a.eval, evs_rep hs _, fun he w => ?_⟩
          have := run_call_fn (args := ys) (ats := ats) (dst := dst) (ty := ty) (pos := pos) (af := af) (g := g) (a := a) (x := .func f) (caps := []) rfl he w
          rwa [List.append_nil] at this
        | _ => simp [mop] at hm
      | builtin b =>
        exfalso
        cases b <;> simp [MOp.tag, opTag] at ht
      | _ => simp [mop] at hm
    | _ => exfalso; revert ht; simp [MOp.tag, opTag]; done
  | calv x xs =>
    simp only [calleeP] at hc
    split at hc
    · rename_i f' caps hx
      simp only [Option.some.injEq, Prod.mk.injEq] at hc
      obtain ⟨rfl, rfl⟩ := hc
      cases op with
      | call c =>
        obtain ⟨callee, ys, ats⟩ := c
        cases callee with
        | value z =>
          have hz : z = x ∧ ys.toList = xs := by
            cases z <;> simp only [mop, Option.some.injEq, MOp.calv.injEq, reduceCtorEq] at hm <;> exact hm
          obtain ⟨rfl, rfl⟩ := hz
          have hv := ev_rep hs z
          rw [hx] at hv
          generalize hq : a.eval z = q at hv
          cases hv with
          | fn _ _ vs hl hr =>
            exact ⟨ys.toList.map a.eval ++ vs, (evs_rep hs _).append ⟨hl, hr⟩, fun he w => run_call_fn hq he w⟩
        | builtin b =>
          exfalso
          cases b <;> simp [MOp.tag, opTag] at ht
        | _ => simp [mop] at hm
      | _ => exfalso; revert ht; simp [MOp.tag, opTag]; done
    · cases hc
  | _ => simp [calleeP] at hc

theorem opP_sound {P : Program} {pol : Pol} {w0 : World} {ok0 : Nat → Prop} {n : Nat} {o : Oper} {a : Act} {s : St} {rho : Nat → Option Nat} {w : World} {m : MO} {id : Nat} {pure : Bool} {K : St → Prop} {next : Act → World → Prop} {Q : Exit → Act → World → Prop}
    (hm : mop P pol o = some m.op) (hdst : m.dst = o.dst) (hd : ∀ t, o.dst = some t → t < n) (hr : RelF w0 ok0 n s rho a w) (hid : rho id = none) (hlo : id < s.nx) (h : opP P pure id m K s)
    (hK : ∀ s' rho' a' w', K s' → RelF w0 ok0 n s' rho' a' w' → (viewOf w0 ok0 s.H rho w).Leq (viewOf w0 ok0 s'.H rho' w') → (∀ k, k ≠ id → k < s.nx → rho' k = rho k) → s.nx ≤ s'.nx → next a' w') :
    o.wp P a w next Q := by
  have hd2 : ∀ t, m.dst = some t → t < a.tmps.size := fun t ht => by rw [hr.rel.size]; exact hd t (by rw [← hdst]; exact ht)
  unfold opP at h
  split at h
  · rename_i hcall
    split at h
    · rename_i f args hc
      obtain ⟨vals, hv, hrun⟩ := mop_call hm hc hr.rel.slot
      rcases h with ⟨r, hp, hk⟩ | ⟨_, Q', hp, hk⟩
      · unfold Oper.wp
        rw [hrun hp.enters, Oper.upon_enter]
        refine (pure_call hp hr hv).mono ?_
        rintro e w' ⟨v, rfl, h1, h2, h3⟩
        rw [← hdst]
        refine hK _ rho _ _ hk ⟨⟨by rw [put_H]; exact h1, by rw [aput_size]; exact hr.rel.size, by rw [aput_defs]; exact hr.rel.defs, ?_⟩, by rw [put_nx]; exact hr.free⟩ (by rw [put_H]; exact h2) (fun _ _ _ => rfl) (by rw [put_nx]; exact Nat.le_refl _)
        rw [put_H]
        exact put_slots (fun t => (hr.rel.slot t).mono h2) hd2 h3
      · unfold Oper.wp
        rw [hrun hp.1, Oper.upon_enter]
        refine (hp.2 w0 ok0 rho w vals hr.rel.heap hr.free hv).mono ?_
        rintro e w' ⟨v, H', nx', r, rho', rfl, h1, h2, h3, h4, h5, h6, h7⟩
        rw [← hdst]
        refine hK _ rho' _ _ (hk H' nx' r h1 h4) ⟨⟨by rw [put_H]; exact h2, by rw [aput_size]; exact hr.rel.size, by rw [aput_defs]; exact hr.rel.defs, ?_⟩, by rw [put_nx]; exact h5⟩ (by rw [put_H]; exact h3) (fun k _ hk => h6 k hk) (by rw [put_nx]; exact h4)
        rw [put_H]
        exact put_slots (s := { s with H := H', nx := nx' }) (fun t => (hr.rel.slot t).mono h3) hd2 h7
    · exact h.elim
  · split at h
    · rename_i s' hs
      have hs2 : stepM id ⟨o.dst, m.op, m.guard⟩ s = some s' := by rw [← hdst]; exact hs
      obtain ⟨r, v, w', rho', h1, h2, h3, h4, h5⟩ := step_sound hm hr.rel hd hid hs2
      have hnx : s'.nx = s.nx := step_nx hs
      have hnext : next (a.put o.dst v) w' := hK s' rho' _ _ h ⟨h3, fun k hk => by rw [h5 k (by omega)]; exact hr.free k (by omega)⟩ h4 (fun k hk _ => h5 k hk) (by omega)
      unfold Oper.wp
      rw [h1]
      rcases h2 with rfl | ⟨rfl, rfl⟩
      · exact hnext
      · exact hnext
    · exact h.elim

end Go.Proofs.Ytifebfkkciaddaa
