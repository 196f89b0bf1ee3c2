/-
  Calls by what they come to; a region in the order of its text.
-/
import Derived.Test.YtifebfkkciaddaaPvH
set_option linter.unusedVariables false
set_option linter.unusedSimpArgs false
namespace Go.Proofs.Ytifebfkkciaddaa
open Go.RowKit

/-- It is a function with a body. -/
def enters (P : Program) (f : FuncId) : Bool :=
  match P.funcs[f]? with
  | some fn => fn.name != "runtime.NumGoroutine" && fn.body.isSome
  | none => false

def grown (V : Vw) (w' : World) : Vw := ⟨w', fun b => V.ok b ∨ (V.w.heap.size ≤ b ∧ b < w'.heap.size), V.rho⟩

/-- It comes to r, and changes nothing that was there. -/
def PPure (P : Program) (f : FuncId) (args : List PV) (r : PV) : Prop :=
  enters P f = true ∧ ∀ (V : Vw) (nx : Nat) (vals : List Value), (∀ b, V.ok b → b < V.w.heap.size) → (∀ id, nx ≤ id → V.rho id = none) → RepL V args vals →
    Calls P f vals.toArray V.w fun e w' => ∃ v, e = .returned v ∧ Below V.w.heap.size V.w w' ∧ Rep (grown V w') r v

/-- It may change the caller's own blocks: what it leaves. -/
def PMut (P : Program) (f : FuncId) (args : List PV) (H : Nat → Option PObj) (nx : Nat) (Q : (Nat → Option PObj) → Nat → PV → Prop) : Prop :=
  enters P f = true ∧ ∀ (w0 : World) (ok0 : Nat → Prop) (rho : Nat → Option Nat) (w : World) (vals : List Value), RelH w0 ok0 H rho w → (∀ id, nx ≤ id → rho id = none) → RepL (viewOf w0 ok0 H rho w) args vals →
    Calls P f vals.toArray w fun e w' => ∃ v H' nx' r rho', e = .returned v ∧ Q H' nx' r ∧ RelH w0 ok0 H' rho' w' ∧ (viewOf w0 ok0 H rho w).Leq (viewOf w0 ok0 H' rho' w') ∧
      nx ≤ nx' ∧ (∀ id, nx' ≤ id → rho' id = none) ∧ (∀ id, id < nx → rho' id = rho id) ∧ Rep (viewOf w0 ok0 H' rho' w') r v

/-- A function, or one with what it has captured. -/
def calleeP (s : St) (o : MOp) : Option (FuncId × List PV) :=
  match o with
  | .call f args => some (f, args.map (ev s))
  | .calv x args => match ev s x with
    | .fn f caps => some (f, args.map (ev s) ++ caps)
    | _ => none
  | _ => none

def MOp.isCall : MOp → Bool
  | .call .. | .calv .. => true
  | _ => false

/-- One operation: pure says that what it calls changes nothing. -/
def opP (P : Program) (pure : Bool) (id : Nat) (o : MO) (K : St → Prop) (s : St) : Prop :=
  if o.op.isCall = true then
    match calleeP s o.op with
    | some (f, args) => (∃ r, PPure P f args r ∧ K (put s o.dst r)) ∨
        (pure = false ∧ ∃ Q, PMut P f args s.H s.nx Q ∧ ∀ H' nx' r, Q H' nx' r → s.nx ≤ nx' → K (put { s with H := H', nx := nx' } o.dst r))
    | none => False
  else
    match stepM id o s with
    | some s' => K s'
    | none => False

/-- One operation with its guard. -/
def opG (P : Program) (pure : Bool) (id : Nat) (o : MO) (K : St → Prop) (s : St) : Prop :=
  match o.guard with
  | none => opP P pure id o K s
  | some (t, want) => match s.s t with
    | .sc (.bool b) => if b = want then opP P pure id o K s else K (put s o.dst (.sc undef))
    | .sc (.tuple _) => K (put s o.dst (.sc undef))
    | _ => False

def runOps (P : Program) (pure : Bool) (base : Nat) : List (Nat × MO) → (St → Prop) → St → Prop
  | [], K, s => K s
  | (i, o) :: r, K, s => opG P pure (base + i) o (runOps P pure base r K) s

def dstOk (n : Nat) : Option Nat → Bool
  | some t => decide (t < n)
  | none => true
def guardOf (ops : Array Oper) (n : Nat) : Option (Nat × Bool) → Option (Option (Nat × Bool))
  | none => some none
  | some (j, want) => ((ops[j]?).bind (·.dst)).bind fun t => if t < n then some (some (t, want)) else none

/-- An operation with its guard's slot looked up. -/
def mo (P : Program) (pol : Pol) (ops : Array Oper) (n : Nat) (o : Oper) : Option MO :=
  (mop P pol o).bind fun m => (guardOf ops n o.guard).bind fun g => if dstOk n o.dst = true then some ⟨o.dst, m, g⟩ else none

/-- All that is known at a place in a body. -/
structure RelF (w0 : World) (ok0 : Nat → Prop) (n : Nat) (s : St) (rho : Nat → Option Nat) (a : Act) (w : World) : Prop where
  rel : Rel w0 ok0 n s rho a w
  free : ∀ id, s.nx ≤ id → rho id = none

theorem mo_inv {P : Program} {pol : Pol} {ops : Array Oper} {n : Nat} {o : Oper} {m : MO} (h : mo P pol ops n o = some m) :
    mop P pol o = some m.op ∧ m.dst = o.dst ∧ (∀ t, o.dst = some t → t < n) ∧ guardOf ops n o.guard = some m.guard := by
  simp only [mo, Option.bind_eq_some_iff] at h
  obtain ⟨m', hm, g, hg, h⟩ := h
  split at h
  · rename_i hd
    cases h
    refine ⟨hm, rfl, fun t ht => ?_, hg⟩
    rw [ht] at hd
    simpa [dstOk] using hd
  · cases h

theorem pure_call {P : Program} {f : FuncId} {args : List PV} {r : PV} {w0 : World} {ok0 : Nat → Prop} {n : Nat} {s : St} {rho : Nat → Option Nat} {a : Act} {w : World} {vals : List Value} (hp : PPure P f args r) (hr : RelF w0 ok0 n s rho a w)
    (hv : RepL (viewOf w0 ok0 s.H rho w) args vals) :
    Calls P f vals.toArray w fun e w' => ∃ v, e = .returned v ∧ RelH w0 ok0 s.H rho w' ∧ (viewOf w0 ok0 s.H rho w).Leq (viewOf w0 ok0 s.H rho w') ∧ Rep (viewOf w0 ok0 s.H rho w') r v := by
  have hrel := hr.rel
  have hH := hrel.heap
  have hsz := hH.bel.size
  have hlt : ∀ b, (viewOf w0 ok0 s.H rho w).ok b → b < w.heap.size := by
    rintro b ⟨h1 | h1, _⟩
    · have := hH.okb b h1; omega
    · exact h1.2
  refine (hp.2 (viewOf w0 ok0 s.H rho w) s.nx vals hlt hr.free hv).mono ?_
  rintro e w' ⟨v, he, hb, hrep⟩
  have hb' : Below w.heap.size w w' := hb
  have hsz' := hb'.size
  have hleq : (viewOf w0 ok0 s.H rho w).Leq (viewOf w0 ok0 s.H rho w') := by
    refine ⟨fun b hk => ⟨?_, hk.2⟩, fun b off hk => ?_, fun _ _ h => h, fun id b c T fr hk hh => ?_⟩
    · rcases hk.1 with h1 | h1
      · exact .inl h1
      · exact .inr ⟨h1.1, by have := h1.2; omega⟩
    · exact World.cell?_of_block (w := w) (hb'.block b (hlt b hk))
    · have hk2 := (Array.getElem?_eq_some_iff.1 hh).1
      exact ⟨c, T, fr, (hb'.block b hk2).trans hh, Nat.le_refl _⟩
  have hl2 : (grown (viewOf w0 ok0 s.H rho w) w').Leq (viewOf w0 ok0 s.H rho w') := by
    refine ⟨fun b hk => ?_, fun b off hk => rfl, fun _ _ h => h, fun id b c T fr hk hh => ⟨c, T, fr, hh, Nat.le_refl _⟩⟩
    rcases hk with h1 | h1
    · exact hleq.ok b h1
    · have h1a : w.heap.size ≤ b := h1.1
      refine ⟨.inr ⟨by omega, h1.2⟩, fun id o ho e => ?_⟩
      obtain ⟨b', h4, h5, h6⟩ := hH.own id o ho
      rw [e] at h4
      cases h4
      have := h6.lt
      have h7 : (viewOf w0 ok0 s.H rho w).w.heap.size = w.heap.size := rfl
      omega
  refine ⟨v, he, ⟨hH.okb, hH.bel.trans (hb'.mono hsz), fun id o ho => ?_, hH.inj⟩, hleq, hrep.mono hl2⟩
  obtain ⟨b, h1, h2, h3⟩ := hH.own id o ho
  exact ⟨b, h1, h2, h3.mono hleq (hb'.block b h3.lt)⟩

theorem run_enter {P : Program} {f : FuncId} {vs : Array Value} (h : enters P f = true) (w : World) : (callFunc f vs).run P w = .ok (.enter f vs) w := by
  unfold enters at h
  cases hf : P.funcs[f]? with
  | none => simp [hf] at h
  | some fn =>
    rw [hf] at h
    simp only [Bool.and_eq_true, bne_iff_ne, ne_eq] at h
    obtain ⟨c, hc⟩ := Option.isSome_iff_exists.1 h.2
    have hn : (fn.name == "runtime.NumGoroutine") = false := by rw [beq_eq_false_iff_ne]; exact h.1
    have hb : fn.body.isNone = false := by rw [hc]; rfl
    have hn' : ¬ (fn.name == "runtime.NumGoroutine") = true := by rw [hn]; simp
    have hb' : ¬ fn.body.isNone = true := by rw [hb]; simp
    simp only [callFunc, program, Sem.run_bind, Sem.run, Result.andThen_ok, hf]
    rw [if_neg hn', if_neg hb']
    simp

theorem run_call_fn {P : Program} {f : FuncId} {a : Act} {args : Array Operand} {ats : Array TypeId} {x : Operand} {caps : List Value} {dst : Option Tmp} {ty : TypeId} {pos : String} {af : Array Edge} {g : Option (Nat × Bool)}
    (hx : a.eval x = .func (.func f) #[] caps.toArray) (h : enters P f = true) (w : World) :
    (execOp a.eval ⟨dst, .call { callee := .value x, args, argTypes := ats }, ty, pos, af, g⟩).run P w = .ok (.enter f (args.toList.map a.eval ++ caps).toArray) w := by
  have e : (args.toList.map a.eval ++ caps).toArray = #[] ++ args.map a.eval ++ caps.toArray := by
    apply Array.ext'
    simp
  simp only [execOp, resolve, hx, Deferred.ofValue, Sem.run_bind, Sem.run_pure, Result.andThen_ok, invoke]
  rw [run_enter h, e]

theorem step_nx {id : Nat} {m : MO} {s s' : St} (h : stepM id m s = some s') : s'.nx = s.nx := by
  unfold stepM at h
  split at h
  · cases h; simp [newAt, put_nx]
  · split at h
    · split at h <;> cases h <;> simp [newAt, put_nx]
    · cases h
  · split at h
    · simp only [Option.bind_eq_some_iff, Option.map_eq_some_iff] at h
      obtain ⟨_, _, _, _, h⟩ := h
      split at h <;> subst h <;> simp [newAt, put_nx]
    · cases h
  · split at h
    · split at h
      · cases h; simp [newAt, put_nx]
      · cases h
    · cases h
  · split at h
    · simp only [Option.bind_eq_some_iff] at h
      obtain ⟨⟨j, ob⟩, _, h⟩ := h
      split at h
      · split at h
        · cases h; simp [put_nx]
        · cases h
      · cases h; simp [put_nx]
    · cases h
  · simp only [Option.map_eq_some_iff] at h
    obtain ⟨⟨_, _⟩, _, rfl⟩ := h
    exact put_nx _ _ _
  · simp only [Option.map_eq_some_iff] at h
    obtain ⟨_, _, rfl⟩ := h
    exact put_nx _ _ _

theorem mop_call {P : Program} {pol : Pol} {o : Oper} {m : MOp} {s : St} {f : FuncId} {args : List PV} {V : Vw} {a : Act} (hm : mop P pol o = some m) (hc : calleeP s m = some (f, args)) (hs : ∀ t, Rep V (s.s t) (a.tmps.getD t undef)) :
    ∃ vals, RepL V args vals ∧ (enters P f = true → ∀ w, (execOp a.eval o).run P w = .ok (.enter f vals.toArray) w) := by
  have ht := mop_tag hm
  obtain ⟨dst, op, ty, pos, af, g⟩ := o
  cases m with
  | call f' xs =>
    simp only [calleeP, Option.some.injEq, Prod.mk.injEq] at hc
    obtain ⟨rfl, rfl⟩ := hc
    cases op with
    | call c =>
      obtain ⟨callee, ys, ats⟩ := c
      cases callee with
      | value x =>
        cases x with
        | func f =>
          simp only [mop, Option.some.injEq, MOp.call.injEq] at hm
          obtain ⟨rfl, rfl⟩ := hm
          refine ⟨ys.toList.map a.eval, evs_rep hs _, fun he w => ?_⟩
          have := run_call_fn (args := ys) (ats := ats) (dst := dst) (ty := ty) (pos := pos) (af := af) (g := g) (a := a) (x := .func f) (caps := []) rfl he w
          rwa [List.append_nil] at this
        | _ => simp [mop] at hm
      | builtin b =>
        exfalso
        cases b <;> simp [MOp.tag, opTag] at ht
      | _ => simp [mop] at hm
    | _ => exfalso; revert ht; simp [MOp.tag, opTag]; done
  | calv x xs =>
    simp only [calleeP] at hc
    split at hc
    · rename_i f' caps hx
      simp only [Option.some.injEq, Prod.mk.injEq] at hc
      obtain ⟨rfl, rfl⟩ := hc
      cases op with
      | call c =>
        obtain ⟨callee, ys, ats⟩ := c
        cases callee with
        | value z =>
          have hz : z = x ∧ ys.toList = xs := by
            cases z <;> simp only [mop, Option.some.injEq, MOp.calv.injEq, reduceCtorEq] at hm <;> exact hm
          obtain ⟨rfl, rfl⟩ := hz
          have hv := ev_rep hs z
          rw [hx] at hv
          generalize hq : a.eval z = q at hv
          cases hv with
          | fn _ _ vs hl hr =>
            exact ⟨ys.toList.map a.eval ++ vs, (evs_rep hs _).append ⟨hl, hr⟩, fun he w => run_call_fn hq he w⟩
        | builtin b =>
          exfalso
          cases b <;> simp [MOp.tag, opTag] at ht
        | _ => simp [mop] at hm
      | _ => exfalso; revert ht; simp [MOp.tag, opTag]; done
    · cases hc
  | _ => simp [calleeP] at hc

theorem opP_sound {P : Program} {pol : Pol} {w0 : World} {ok0 : Nat → Prop} {n : Nat} {o : Oper} {a : Act} {s : St} {rho : Nat → Option Nat} {w : World} {m : MO} {id : Nat} {pure : Bool} {K : St → Prop} {next : Act → World → Prop} {Q : Exit → Act → World → Prop}
    (hm : mop P pol o = some m.op) (hdst : m.dst = o.dst) (hd : ∀ t, o.dst = some t → t < n) (hr : RelF w0 ok0 n s rho a w) (hid : rho id = none) (hlo : id < s.nx) (h : opP P pure id m K s)
    (hK : ∀ s' rho' a' w', K s' → RelF w0 ok0 n s' rho' a' w' → (viewOf w0 ok0 s.H rho w).Leq (viewOf w0 ok0 s'.H rho' w') → (∀ k, k ≠ id → k < s.nx → rho' k = rho k) → s.nx ≤ s'.nx → next a' w') :
    o.wp P a w next Q := by
  have hd2 : ∀ t, m.dst = some t → t < a.tmps.size := fun t ht => by rw [hr.rel.size]; exact hd t (by rw [← hdst]; exact ht)
  unfold opP at h
  split at h
  · rename_i hcall
    split at h
    · rename_i f args hc
      obtain ⟨vals, hv, hrun⟩ := mop_call hm hc hr.rel.slot
      rcases h with ⟨r, hp, hk⟩ | ⟨_, Q', hp, hk⟩
      · unfold Oper.wp
        rw [hrun hp.1, Oper.upon_enter]
        refine (pure_call hp hr hv).mono ?_
        rintro e w' ⟨v, rfl, h1, h2, h3⟩
        rw [← hdst]
        refine hK _ rho _ _ hk ⟨⟨by rw [put_H]; exact h1, by rw [aput_size]; exact hr.rel.size, by rw [aput_defs]; exact hr.rel.defs, ?_⟩, by rw [put_nx]; exact hr.free⟩ (by rw [put_H]; exact h2) (fun _ _ _ => rfl) (by rw [put_nx]; exact Nat.le_refl _)
        rw [put_H]
        exact put_slots (fun t => (hr.rel.slot t).mono h2) hd2 h3
      · unfold Oper.wp
        rw [hrun hp.1, Oper.upon_enter]
        refine (hp.2 w0 ok0 rho w vals hr.rel.heap hr.free hv).mono ?_
        rintro e w' ⟨v, H', nx', r, rho', rfl, h1, h2, h3, h4, h5, h6, h7⟩
        rw [← hdst]
        refine hK _ rho' _ _ (hk H' nx' r h1 h4) ⟨⟨by rw [put_H]; exact h2, by rw [aput_size]; exact hr.rel.size, by rw [aput_defs]; exact hr.rel.defs, ?_⟩, by rw [put_nx]; exact h5⟩ (by rw [put_H]; exact h3) (fun k _ hk => h6 k hk) (by rw [put_nx]; exact h4)
        rw [put_H]
        exact put_slots (s := { s with H := H', nx := nx' }) (fun t => (hr.rel.slot t).mono h3) hd2 h7
    · exact h.elim
  · split at h
    · rename_i s' hs
      have hs2 : stepM id ⟨o.dst, m.op, m.guard⟩ s = some s' := by rw [← hdst]; exact hs
      obtain ⟨r, v, w', rho', h1, h2, h3, h4, h5⟩ := step_sound hm hr.rel hd hid hs2
      have hnx : s'.nx = s.nx := step_nx hs
      have hnext : next (a.put o.dst v) w' := hK s' rho' _ _ h ⟨h3, fun k hk => by rw [h5 k (by omega)]; exact hr.free k (by omega)⟩ h4 (fun k hk _ => h5 k hk) (by omega)
      unfold Oper.wp
      rw [h1]
      rcases h2 with rfl | ⟨rfl, rfl⟩
      · exact hnext
      · exact hnext
    · exact h.elim

end Go.Proofs.Ytifebfkkciaddaa
