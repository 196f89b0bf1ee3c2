/-
  A step of an operation, but for calls.
-/
import Derived.Test.YtifebfkkciaddaaPvG
set_option linter.unusedVariables false
set_option linter.unusedSimpArgs false
namespace Go.Proofs.Ytifebfkkciaddaa
open Go.RowKit

theorem put_getD (a : Act) (d t : Nat) (v : Value) : (a.put (some d) v).tmps.getD t undef = if t = d ∧ d < a.tmps.size then v else a.tmps.getD t undef := by
  simp only [Act.put, Array.getD_eq_getD_getElem?, Array.getElem?_setIfInBounds]
  by_cases h : d = t
  · subst h
    by_cases h2 : d < a.tmps.size
    · simp [h2]
    · simp [h2]
  · simp [h, show ¬ t = d from fun e => h e.symm]

theorem put_slots {V : Vw} {s : St} {a : Act} {d : Option Nat} {x : PV} {v : Value} (hs : ∀ t, Rep V (s.s t) (a.tmps.getD t undef)) (hd : ∀ t, d = some t → t < a.tmps.size) (hx : Rep V x v) :
    ∀ t, Rep V ((put s d x).s t) ((a.put d v).tmps.getD t undef) := by
  intro t
  cases d with
  | none => exact hs t
  | some d =>
    rw [put_getD]
    have h1 := hd d rfl
    by_cases h : t = d
    · subst h
      rw [if_pos ⟨rfl, h1⟩]
      simpa [put, upd] using hx
    · rw [if_neg (fun e => h e.1)]
      have e : (put s (some d) x).s t = s.s t := by simp [put, upd, h]
      rw [e]
      exact hs t

theorem put_H (s : St) (d : Option Nat) (x : PV) : (put s d x).H = s.H := by cases d <;> rfl
theorem put_nx (s : St) (d : Option Nat) (x : PV) : (put s d x).nx = s.nx := by cases d <;> rfl
theorem aput_size (a : Act) (d : Option Nat) (v : Value) : (a.put d v).tmps.size = a.tmps.size := by cases d <;> simp [Act.put]
theorem aput_defs (a : Act) (d : Option Nat) (v : Value) : (a.put d v).defers = a.defers := by cases d <;> rfl

theorem zeros_get (z : List Value) : ∀ (n i : Nat), (zeros z n)[i]? = if i < n * z.length then (z[i % z.length]?).map .sc else none
  | 0, i => by simp [zeros]
  | n + 1, i => by
    unfold zeros
    rw [Nat.succ_mul]
    by_cases h : i < z.length
    · rw [List.getElem?_append_left (by simpa using h), if_pos (by omega), Nat.mod_eq_of_lt h, List.getElem?_map]
    · rw [List.getElem?_append_right (by simpa using h), zeros_get z n, List.length_map]
      by_cases h2 : i < n * z.length + z.length
      · rw [if_pos h2, if_pos (by omega), ← Nat.mod_eq_sub_mod (by omega)]
      · rw [if_neg h2, if_neg (by omega)]
theorem zeros_length (z : List Value) : ∀ n, (zeros z n).length = n * z.length
  | 0 => by simp [zeros]
  | n + 1 => by simp [zeros, zeros_length z n, Nat.succ_mul, Nat.add_comm]

theorem zeros_rep {V : Vw} (z : Array Value) (n : Nat) : RepL V (zeros z.toList n) (madeCells z (n * z.size)).toList := by
  refine ⟨by simp [zeros_length, size_madeCells], fun i x v hx hv => ?_⟩
  rw [zeros_get] at hx
  simp only [Array.length_toList] at hx
  split at hx
  · rename_i hi
    have hp : 0 < z.size := by
      rcases Nat.eq_zero_or_pos z.size with h | h
      · rw [h] at hi; simp at hi
      · exact h
    have hm : i % z.size < z.size := Nat.mod_lt _ hp
    simp only [Option.map_eq_some_iff] at hx
    obtain ⟨u, hu, rfl⟩ := hx
    simp only [madeCells, Array.toList_map, Array.toList_range, List.getElem?_map] at hv
    rw [List.getElem?_range hi] at hv
    simp only [Option.map_some, Option.some.injEq] at hv
    have : u = v := by
      rw [← hv]
      simp only [Array.getElem?_toList] at hu
      simp [getElem!_pos, hm, Array.getElem?_eq_getElem hm] at hu ⊢
      exact hu.symm
    subst this
    exact .sc u
  · cases hx

def Fine (r : Next) (v : Value) : Prop := r = .value v ∨ (r = .skip ∧ v = undef)

/-- What a step leaves. -/
def Stepped (P : Program) (w0 : World) (ok0 : Nat → Prop) (n : Nat) (o : Oper) (a : Act) (s : St) (rho : Nat → Option Nat) (w : World) (s' : St) (id : Nat) : Prop :=
  ∃ r v w' rho', (execOp a.eval o).run P w = .ok r w' ∧ Fine r v ∧ Rel w0 ok0 n s' rho' (a.put o.dst v) w' ∧
    (viewOf w0 ok0 s.H rho w).Leq (viewOf w0 ok0 s'.H rho' w') ∧ ∀ k, k ≠ id → rho' k = rho k

theorem val_step {P : Program} {pol : Pol} {w0 : World} {ok0 : Nat → Prop} {n id : Nat} {o : Oper} {a : Act} {s : St} {rho : Nat → Option Nat} {w : World} {m : MOp} {x : PV}
    (hm : mop P pol o = some m) (hr : Rel w0 ok0 n s rho a w) (hd : ∀ t, o.dst = some t → t < n) (h : val s m = some x) : Stepped P w0 ok0 n o a s rho w (put s o.dst x) id := by
  obtain ⟨v, h1, h2⟩ := val_sound (V := viewOf w0 ok0 s.H rho w) hm hr.heap.owns hr.slot h
  refine ⟨.value v, v, w, rho, h1, .inl rfl, ⟨?_, ?_, ?_, ?_⟩, ?_, fun _ _ => rfl⟩
  · rw [put_H]; exact hr.heap
  · rw [aput_size]; exact hr.size
  · rw [aput_defs]; exact hr.defs
  · rw [put_H]; exact put_slots hr.slot (fun t ht => by rw [hr.size]; exact hd t ht) h2
  · rw [put_H]; exact Vw.Leq.refl _

/-- A new block of the call's own. -/
theorem new_step {P : Program} {w0 : World} {ok0 : Nat → Prop} {n id : Nat} {o : Oper} {a : Act} {s : St} {rho : Nat → Option Nat} {w : World} {x : PV} {ob : PObj} {arr : Array Value} {T : TypeId} {v : Value}
    (hr : Rel w0 ok0 n s rho a w) (hd : ∀ t, o.dst = some t → t < n) (hid : rho id = none)
    (hrun : (execOp a.eval o).run P w = .ok (.value v) (w.alloc (.cells arr T))) (hc : RepL (viewOf w0 ok0 s.H rho w) ob.cells arr.toList)
    (hx : Rep (viewOf w0 ok0 (upd s.H id (some ob)) (upd rho id (some w.heap.size)) (w.alloc (.cells arr T))) x v) : Stepped P w0 ok0 n o a s rho w (newAt s o.dst id x ob) id := by
  obtain ⟨h1, h2⟩ := new_ext hr.heap hid arr T ob hc
  refine ⟨.value v, v, _, upd rho id (some w.heap.size), hrun, .inl rfl, ⟨?_, ?_, ?_, ?_⟩, ?_, fun k hk => upd_ne _ _ hk⟩
  · unfold newAt; rw [put_H]; exact h1
  · rw [aput_size]; exact hr.size
  · rw [aput_defs]; exact hr.defs
  · unfold newAt
    rw [put_H]
    exact put_slots (s := { s with H := upd s.H id (some ob) }) (fun t => (hr.slot t).mono h2) (fun t ht => by rw [hr.size]; exact hd t ht) hx
  · unfold newAt; rw [put_H]; exact h2

theorem ones_run : ∀ (xs : List PV) (vs : List Value) {V : Vw}, RepL V xs vs → xs.all PV.one = true → ∀ v ∈ vs, v.oneCell' = true := by
  intro xs vs V h ho v hv
  obtain ⟨i, hi, rfl⟩ := List.getElem_of_mem hv
  have hx : i < xs.length := by rw [← h.1]; exact hi
  have hr := h.2 i xs[i] vs[i] (List.getElem?_eq_getElem hx) (List.getElem?_eq_getElem hi)
  have h1 := (List.all_eq_true.1 ho) xs[i] (List.getElem_mem hx)
  generalize xs[i] = x at hr h1
  generalize vs[i] = u at hr
  cases hr with
  | sc => cases u <;> simp_all [PV.one, Value.oneCell']
  | ptr => rfl
  | slNil => rfl
  | sl => rfl
  | fn => rfl
  | agg => simp [PV.one] at h1
  | tup => simp [PV.one] at h1
  | optr => rfl
  | osl => rfl

theorem storeP_inv {s : St} {p : PV} {xs : List PV} {j : Nat} {ob : PObj} (h : storeP s p xs = some (j, ob)) :
    ∃ off o, p = .optr j off ∧ s.H j = some o ∧ off + xs.length ≤ o.cells.length ∧ ob = { o with cells := o.cells.take off ++ xs ++ o.cells.drop (off + xs.length) } := by
  cases p with
  | optr id off =>
    simp only [storeP] at h
    split at h
    · rename_i o ho
      split at h
      · rename_i hf
        simp only [Option.some.injEq, Prod.mk.injEq] at h
        obtain ⟨rfl, rfl⟩ := h
        exact ⟨off, o, rfl, ho, hf, rfl⟩
      · cases h
    · cases h
  | _ => simp [storeP] at h

theorem good_of_ones {x : PV} (h : x.cellsOf.all PV.one = true) : x.good = true := by
  cases x with
  | sc v => cases v <;> simp_all [PV.cellsOf, PV.one, PV.good]
  | _ => rfl

def MOp.tag : MOp → Nat
  | .al .. => 1
  | .bx .. => 2
  | .st .. => 3
  | .bsl .. => 4
  | .mks .. => 5
  | .call .. => 6
  | .calv .. => 7
  | .app .. => 8
  | _ => 0
def opTag : Op → Nat
  | .alloc .. => 1
  | .box .. => 2
  | .store .. => 3
  | .buildSlice .. => 4
  | .makeSlice .. => 5
  | .call { callee := .value (.func _), .. } => 6
  | .call { callee := .value _, .. } => 7
  | .call { callee := .builtin .append, .. } => 8
  | _ => 0

theorem opTag_call (c : Call) : opTag (.call c) = 0 ∨ opTag (.call c) = 6 ∨ opTag (.call c) = 7 ∨ opTag (.call c) = 8 := by
  obtain ⟨callee, args, ats⟩ := c
  cases callee with
  | value x => cases x <;> simp [opTag]
  | builtin b => cases b <;> simp [opTag]
  | _ => simp [opTag]

theorem mop_tag {P : Program} {pol : Pol} {o : Oper} {m : MOp} (hm : mop P pol o = some m) : m.tag = opTag o.op := by
  obtain ⟨dst, op, ty, pos, af, g⟩ := o
  cases op with
  | alloc T => simp only [mop, Option.map_eq_some_iff] at hm; obtain ⟨_, _, rfl⟩ := hm; rfl
  | box T x => simp only [mop, Option.some.injEq] at hm; subst hm; rfl
  | store T x y => simp only [mop, Option.map_eq_some_iff] at hm; obtain ⟨_, _, rfl⟩ := hm; rfl
  | buildSlice T l ps =>
    simp only [mop] at hm
    split at hm
    · simp only [Option.bind_eq_some_iff] at hm
      obtain ⟨_, _, _, _, hm⟩ := hm
      split at hm
      · simp only [Option.map_eq_some_iff] at hm; obtain ⟨_, _, rfl⟩ := hm; rfl
      · cases hm
    · cases hm
  | makeSlice T l c =>
    simp only [mop] at hm
    split at hm
    · simp only [Option.bind_eq_some_iff, Option.map_eq_some_iff] at hm; obtain ⟨_, _, _, _, rfl⟩ := hm; rfl
    · cases hm
  | fieldAddr T y f => obtain ⟨_, _, _, _, _, _, rfl⟩ := mop_fieldAddr hm; rfl
  | field T y f => obtain ⟨_, _, _, _, _, _, _, _, rfl⟩ := mop_field hm; rfl
  | indexAddr T y i =>
    simp only [mop] at hm
    split at hm
    · simp only [Option.map_eq_some_iff] at hm; obtain ⟨_, _, rfl⟩ := hm; rfl
    · simp only [Option.map_eq_some_iff] at hm; obtain ⟨_, _, rfl⟩ := hm; rfl
    · cases hm
  | index T y i =>
    simp only [mop] at hm
    split at hm
    · simp only [Option.bind_eq_some_iff, Option.map_eq_some_iff] at hm; obtain ⟨_, _, _, _, rfl⟩ := hm; rfl
    · simp only [Option.some.injEq] at hm; subst hm; rfl
    · cases hm
  | load T y => simp only [mop, Option.bind_eq_some_iff, Option.map_eq_some_iff] at hm; obtain ⟨_, _, _, _, rfl⟩ := hm; rfl
  | build T parts =>
    simp only [mop] at hm
    split at hm
    · split at hm
      · simp only [Option.bind_eq_some_iff, Option.map_eq_some_iff] at hm; obtain ⟨_, _, _, _, rfl⟩ := hm; rfl
      · cases hm
    · simp only [Option.bind_eq_some_iff, Option.map_eq_some_iff] at hm; obtain ⟨_, _, _, _, _, _, rfl⟩ := hm; rfl
    · cases hm
  | makeFunc fn first caps =>
    cases fn <;> simp only [mop, reduceCtorEq] at hm
    split at hm
    · cases hm; rfl
    · cases hm
  | call c =>
    obtain ⟨callee, args, ats⟩ := c
    cases callee with
    | value f => cases f <;> simp only [mop, Option.some.injEq] at hm <;> subst hm <;> rfl
    | invoke r mm => simp [mop] at hm
    | builtin b =>
      cases b <;> simp only [mop, reduceCtorEq] at hm
      case max => simp only [Option.some.injEq] at hm; subst hm; rfl
      case min => simp only [Option.some.injEq] at hm; subst hm; rfl
      case append =>
        split at hm
        · split at hm
          · split at hm
            · simp only [Option.bind_eq_some_iff] at hm
              obtain ⟨_, _, _, _, hm⟩ := hm
              split at hm
              · cases hm; rfl
              · cases hm
            · cases hm
          · cases hm
        · cases hm
      split at hm
      · split at hm
        · cases hm; rfl
        · cases hm; rfl
        · cases hm
      · cases hm
  | move y => simp only [mop, Option.some.injEq] at hm; subst hm; rfl
  | assign y => simp only [mop, Option.some.injEq] at hm; subst hm; rfl
  | pick c y z => simp only [mop, Option.some.injEq] at hm; subst hm; rfl
  | binOp bo T y z yT =>
    simp only [mop] at hm
    split at hm
    · split at hm
      · simp only [Option.map_eq_some_iff] at hm; obtain ⟨_, _, rfl⟩ := hm; rfl
      · cases hm
    · split at hm
      · simp only [Option.map_eq_some_iff] at hm; obtain ⟨_, _, rfl⟩ := hm; rfl
      · cases hm
    · split at hm
      · simp only [Option.map_eq_some_iff] at hm; obtain ⟨_, _, rfl⟩ := hm; rfl
      · cases hm
    · split at hm
      · simp only [Option.map_eq_some_iff] at hm; obtain ⟨_, _, rfl⟩ := hm; rfl
      · cases hm
    · cases hm; rfl
    · cases hm; rfl
    · simp only [Option.some.injEq] at hm; subst hm; rfl
  | unOp uo T y => simp only [mop, Option.some.injEq] at hm; subst hm; rfl
  | nilCheck y => simp only [mop, Option.some.injEq] at hm; subst hm; rfl
  | extract y i => simp only [mop, Option.some.injEq] at hm; subst hm; rfl
  | _ => simp [mop] at hm

theorem row_sound {V : Vw} {s : St} {q : PV} {u : Value} {sz m : Nat} {new : List PV} (hO : Owns V s.H) (hq : Rep V q u) (h1 : rowOf s sz q = some new) (h2 : lenPV false q = some m) (h3 : new.length = m * sz) :
    ∃ A c vs, u = .slice A m c ∧ RepL V new vs ∧ (0 < m → ∃ b off, A = some ⟨b, off, none⟩ ∧ ∀ (i : Nat) (v : Value), vs[i]? = some v → V.w.cell? ⟨b, off + i, none⟩ = some v) := by
  cases q with
  | sl sz' es =>
    simp only [rowOf] at h1
    simp only [lenPV, Option.some.injEq] at h2
    subst h2
    split at h1
    · cases h1
      cases hq with
      | slNil _ A cap hc => exact ⟨A, cap, [], rfl, RepL.nil, fun h => absurd h (by simp)⟩
      | sl _ _ b off len cap hlen hs h4 h5 hp =>
        obtain ⟨b', off', vs, e, _, hr, hc⟩ := hp.ptr_inv
        cases e
        subst hlen
        exact ⟨_, _, vs, rfl, hr, fun _ => ⟨b, off, rfl, hc⟩⟩
    · cases h1
  | osl id off len sz' =>
    simp only [lenPV, Option.some.injEq] at h2
    subst h2
    simp only [rowOf] at h1
    cases ho : s.H id with
    | none => simp [ho] at h1
    | some o =>
      simp only [ho] at h1
      split at h1
      · rename_i hc
        obtain ⟨rfl, hfit⟩ := hc
        cases h1
        obtain ⟨b, cap, c, T, fr, rfl, hb, _⟩ := hq.osl_inv
        obtain ⟨b', hb', hobj⟩ := hO id o ho
        rw [hb] at hb'
        cases hb'
        obtain ⟨vs, h4, h5, h6⟩ := obj_cells hobj off (len * sz') hfit
        exact ⟨_, _, vs, rfl, h4, fun _ => ⟨b, off, rfl, h6⟩⟩
      · cases h1
  | sc v =>
    have e := hq.sc_inv
    subst e
    cases u with
    | slice A0 n0 c0 =>
      cases A0 with
      | some ad => simp [rowOf] at h1
      | none =>
        cases n0 with
        | succ k => simp [rowOf] at h1
        | zero =>
          cases c0 with
          | succ k => simp [rowOf] at h1
          | zero =>
            simp only [rowOf, Option.some.injEq] at h1
            subst h1
            simp only [lenPV, Option.some.injEq] at h2
            subst h2
            exact ⟨none, 0, [], rfl, RepL.nil, fun h => absurd h (by simp)⟩
    | _ => simp [rowOf] at h1
  | _ => simp [rowOf] at h1

theorem app_step {P : Program} {w0 : World} {ok0 : Nat → Prop} {n id : Nat} {dst : Option Tmp} {ty : TypeId} {pos : String} {af : Array Edge} {g : Option (Nat × Bool)} {a : Act} {s : St} {rho : Nat → Option Nat} {w : World} {x y : Operand} {T e : TypeId} {inf : TypeInfo} {z : List Value} {r : PV} {hs : List (Nat × Option PObj)}
    (hu : P.underlying T = some (.slice e)) (hi : P.info? e = some inf) (hz : zeroOf P e = some z) (hzl : z.length = inf.size) (hr : Rel w0 ok0 n s rho a w) (hd : ∀ t, dst = some t → t < n) (hid : rho id = none)
    (h : appE s id inf.size inf.bytes (ev s x) (ev s y) = some (r, hs)) :
    Stepped P w0 ok0 n ⟨dst, .call { callee := .builtin .append, args := #[x, y], argTypes := #[T, T] }, ty, pos, af, g⟩ a s rho w (put { s with H := updL s.H hs } dst r) id := by
  have hexec : ∀ {u w'}, (Builtin.append_ #[T, T] ty #[a.eval x, a.eval y]).run P w = .ok u w' → (execOp a.eval ⟨dst, .call { callee := .builtin .append, args := #[x, y], argTypes := #[T, T] }, ty, pos, af, g⟩).run P w = .ok (.value u) w' := by
    intro u w' hrun
    simp only [execOp, resolve, Sem.run_bind, Sem.run_pure, Result.andThen_ok, invoke, builtin]
    simp [hrun]
  have hz2 := hz
  unfold zeroOf at hz2
  rw [hi] at hz2
  simp only [Option.bind_some, Option.map_eq_some_iff] at hz2
  obtain ⟨zv, hzv, hzc⟩ := hz2
  have hzs : zv.cells.size = inf.size := by rw [← Array.length_toList, hzc]; exact hzl
  simp only [appE, Option.bind_eq_some_iff] at h
  obtain ⟨⟨oid, old, nn⟩, hold, new, hnew, m, hm, h⟩ := h
  simp only [] at h
  split at h
  · rename_i hc
    obtain ⟨hsz, hnl, hby, hmx, hone⟩ := hc
    have hyr := ev_rep hr.slot y
    obtain ⟨A, cy, vs, hev, hvr, haddr⟩ := row_sound hr.heap.owns hyr hnew hm hnl
    have hvl := hvr.1
    have hones := ones_run _ _ hvr hone
    have hxr := ev_rep hr.slot x
    have hms : 0 < m → ∃ b off, A = some ⟨b, off, none⟩ ∧ ∀ (j : Nat) (v : Value), vs[j]? = some v → w.cell? ((⟨b, off, none⟩ : Addr).add j) = some v := by
      intro h0
      obtain ⟨b, off, h4, h5⟩ := haddr h0
      exact ⟨b, off, h4, fun j v hv => by rw [addr_add]; exact h5 j v hv⟩
    -- a new block, drawn for
    have hgrown : ∀ (cap : Nat) (H2 : Nat → Option PObj) (us : List Value) (os : List PV), (∀ k, k = id → H2 k = none) → RelH w0 ok0 H2 rho w → (viewOf w0 ok0 s.H rho w).Leq (viewOf w0 ok0 H2 rho w) → RepL (viewOf w0 ok0 s.H rho w) os us → us.length = (nn + m) * inf.size →
        hs = hs → (∀ k, updL s.H hs k = upd H2 id (some ⟨os, false⟩) k) → r = .osl id 0 (nn + m) inf.size →
        (Builtin.append_ #[T, T] ty #[a.eval x, a.eval y]).run P w = .ok (.slice (some ⟨w.heap.size, 0, none⟩) (nn + m) (grownCap w (nn + m) cap e)) (w.drew.alloc (.cells (us.toArray ++ Builtin.zeroCells zv.cells (grownCap w (nn + m) cap e - (nn + m))) e)) →
        Stepped P w0 ok0 n ⟨dst, .call { callee := .builtin .append, args := #[x, y], argTypes := #[T, T] }, ty, pos, af, g⟩ a s rho w (put { s with H := updL s.H hs } dst r) id := by
      rintro cap H2 us os hH2 hRel hL0 hrep hlen - hHs rfl hrun
      have hge := grownCap_ge w (nn + m) cap e
      have hcm := grownCap_le_maxLen w (nn + m) cap e (by unfold maxLen; omega)
      obtain ⟨k1, k2⟩ := hRel.drew
      have hHe : updL s.H hs = upd H2 id (some ⟨os, false⟩) := funext hHs
      have hsize : (us.toArray ++ Builtin.zeroCells zv.cells (grownCap w (nn + m) cap e - (nn + m))).size = grownCap w (nn + m) cap e * inf.size := by
        simp only [Array.size_append, List.size_toArray, size_zeroCells, hzs, hlen, ← Nat.add_mul]
        congr 1
        omega
      have hol := hrep.1
      obtain ⟨k3, k4⟩ := new_ext' k1 hid (us.toArray ++ Builtin.zeroCells zv.cells (grownCap w (nn + m) cap e - (nn + m))) e ⟨os, false⟩ (by simp; omega) (fun h => by cases h) (fun i p v hp hv => by
        have hi2 : i < os.length := (List.getElem?_eq_some_iff.1 hp).1
        rw [Array.getElem?_append_left (by simp; omega)] at hv
        exact ((hrep.2 i p v hp (by simpa using hv)).mono hL0).mono k2)
      have hsz2 : w.drew.heap.size = w.heap.size := rfl
      rw [hsz2] at k3 k4
      have hall := (hL0.trans k2).trans k4
      refine ⟨.value _, _, _, upd rho id (some w.heap.size), hexec hrun, .inl rfl, ⟨?_, ?_, ?_, ?_⟩, ?_, fun k hk => upd_ne _ _ hk⟩
      · rw [put_H, hHe]; exact k3
      · rw [aput_size]; exact hr.size
      · rw [aput_defs]; exact hr.defs
      · rw [put_H, hHe]
        refine put_slots (s := { s with H := upd H2 id (some ⟨os, false⟩) }) (fun t => (hr.slot t).mono hall) (fun t ht => by rw [hr.size]; exact hd t ht) ?_
        refine .osl id 0 (nn + m) inf.size _ w.heap.size _ e (0, 0) (upd_same _ _ _) hge hcm ?_ (by rw [hsize]; omega)
        show (w.drew.heap.push _)[w.heap.size]? = _
        exact Array.getElem?_push_size
      · rw [put_H, hHe]; exact hall
    have hHid : s.H id = none := by
      cases hh : s.H id with
      | none => rfl
      | some ob =>
        obtain ⟨b, hb, _⟩ := hr.heap.own id ob hh
        rw [hid] at hb
        cases hb
    generalize hpx : ev s x = p at hold hxr
    unfold oldOf at hold
    split at hold
    · -- to a row of the call's own
      rename_i j nn' sz'
      split at hold
      · rename_i o ho
        split at hold
        · rename_i hcc
          obtain ⟨rfl, hol⟩ := hcc
          cases hold
          simp only [Option.some.injEq, Prod.mk.injEq] at h
          obtain ⟨rfl, rfl⟩ := h
          obtain ⟨b, cap, c, T', fr, hevx, hb, hle, hcapm, hheap, hfit⟩ := hxr.osl_inv
          have hb2 : rho j = some b := hb
          obtain ⟨b', hb', hlow, hobj⟩ := hr.heap.own j o ho
          rw [hb2] at hb'
          cases hb'
          obtain ⟨c', T2, hheap2, hole, _, hcells⟩ := hobj
          have hh1 : w.heap[b]? = some (.cells c T' fr) := hheap
          have hh2 : w.heap[b]? = some (.cells c' T2 (0, 0)) := hheap2
          rw [hh1] at hh2
          cases hh2
          have hjid : j ≠ id := fun e => by rw [e, hid] at hb2; cases hb2
          by_cases hroom : nn + m ≤ cap
          · -- in its place
            have hmul : (nn + m) * inf.size ≤ cap * inf.size := Nat.mul_le_mul_right _ hroom
            rw [Nat.add_mul] at hmul
            obtain ⟨k1, k2⟩ := grow_ext (xs := new) (vs := vs) hr.heap ho hb2 hid hh1 hvr (by omega)
            have hst := run_storeCells_at P b (nn * inf.size) T' vs 0 c w hh1 (by omega) hones
            simp only [Nat.add_zero] at hst
            have hf : (Builtin.firstCells inf.size m (.slice A m cy)).run P w = .ok vs.toArray w := by
              rcases Nat.eq_zero_or_pos m with h0 | h0
              · subst h0
                have : vs = [] := List.eq_nil_of_length_eq_zero (by simp at hnl; rw [hvl, hnl]; rfl)
                subst this
                cases A with
                | none => simp [Builtin.firstCells]
                | some ad => simp [Builtin.firstCells, loadCells, loadCellsFrom]
              · obtain ⟨b3, off3, rfl, h5⟩ := hms h0
                exact run_firstCells_some (P := P) w inf.size m _ m cy vs (by omega) h5
            have hrun : (Builtin.append_ #[T, T] ty #[a.eval x, a.eval y]).run P w = .ok (.slice (some ⟨b, 0, none⟩) (nn + m) cap) (w.setRow b (c.toList.take (nn * inf.size) ++ vs ++ c.toList.drop (nn * inf.size + vs.length)).toArray) := by
              rw [hevx, hev]
              simp [Builtin.append_, run_underlying hu, Go.sizeOf, typeInfo, hi, Builtin.lenOf, hroom, hf, addr_add, hst]
            rw [← hol] at hrun
            have hHe : updL s.H [(j, none), (id, some ⟨o.cells ++ new, false⟩)] = upd (upd s.H j none) id (some ⟨o.cells ++ new, false⟩) := rfl
            refine ⟨.value _, _, _, upd rho id (some b), hexec hrun, .inl rfl, ⟨?_, ?_, ?_, ?_⟩, ?_, fun k hk => upd_ne _ _ hk⟩
            · rw [put_H, hHe]; exact k1
            · rw [aput_size]; exact hr.size
            · rw [aput_defs]; exact hr.defs
            · rw [put_H, hHe]
              refine put_slots (s := { s with H := upd (upd s.H j none) id (some ⟨o.cells ++ new, false⟩) }) (fun t => (hr.slot t).mono k2) (fun t ht => by rw [hr.size]; exact hd t ht) ?_
              refine .osl id 0 (nn + m) inf.size cap b _ T' (0, 0) (upd_same _ _ _) hroom hcapm (setRow_heap w b c _ T' _ hh1) ?_
              simp only [List.size_toArray, List.length_append, List.length_take, List.length_drop, Array.length_toList]
              omega
            · rw [put_H, hHe]; exact k2
          · -- in a new place
            have hm0 : 0 < m := by omega
            obtain ⟨b3, off3, hA, h5⟩ := hms hm0
            obtain ⟨us, h6, h7, h8⟩ := obj_cells ⟨c, T', hh1, hole, by assumption, hcells⟩ 0 o.cells.length (by omega)
            have e0 : (o.cells.drop 0).take o.cells.length = o.cells := by simp
            rw [e0] at h6
            have hrg := run_append_grow (P := P) w T ty e inf zv hu hi hzv ⟨b, 0, none⟩ nn cap us (by omega) (fun k v hk => by rw [addr_add]; exact h8 k v hk) ⟨b3, off3, none⟩ m cy vs (by omega) h5 (by omega) (by omega) (growslice_fits (by omega) hby)
            obtain ⟨k1, k2⟩ := drop_ext hr.heap j
            refine hgrown cap (upd s.H j none) (us ++ vs) (o.cells ++ new) (fun k hk => ?_) k1 k2 (h6.append hvr) (by rw [List.length_append, Nat.add_mul]; omega) rfl (fun k => rfl) rfl ?_
            · subst hk; rw [upd_ne _ _ (fun e => hjid e.symm)]; exact hHid
            · rw [hevx, hev, hA, hrg]
              simp
        · cases hold
      · cases hold
    · -- to nothing
      cases hold
      have hevx := hxr.sc_inv
      simp only [] at h
      by_cases hm0 : m = 0
      · rw [if_pos hm0] at h
        cases h
        subst hm0
        have hf : (Builtin.firstCells inf.size 0 (.slice A 0 cy)).run P w = .ok #[] w := by
          cases A with
          | none => simp [Builtin.firstCells]
          | some ad => simp [Builtin.firstCells, loadCells, loadCellsFrom]
        have hrun : (Builtin.append_ #[T, T] ty #[a.eval x, a.eval y]).run P w = .ok (.slice none 0 0) w := by
          rw [hevx, hev]
          simp [Builtin.append_, run_underlying hu, Go.sizeOf, typeInfo, hi, Builtin.lenOf, hf]
        refine ⟨.value _, _, _, rho, hexec hrun, .inl rfl, ⟨?_, ?_, ?_, ?_⟩, ?_, fun k hk => rfl⟩
        · rw [put_H]; exact hr.heap
        · rw [aput_size]; exact hr.size
        · rw [aput_defs]; exact hr.defs
        · rw [put_H]; exact put_slots (s := { s with H := s.H }) hr.slot (fun t ht => by rw [hr.size]; exact hd t ht) (.sc _)
        · rw [put_H]; exact Vw.Leq.refl _
      · rw [if_neg hm0] at h
        cases h
        have hmp : 0 < m := by omega
        simp only [Nat.zero_add] at hby
        obtain ⟨b3, off3, hA, h5⟩ := hms hmp
        have hrg := run_append_nil (P := P) w T ty e inf zv hu hi hzv ⟨b3, off3, none⟩ m cy vs (by omega) h5 hmp (by omega) (by omega)
        refine hgrown 0 s.H vs new (fun k hk => by subst hk; exact hHid) hr.heap (Vw.Leq.refl _) hvr (by rw [Nat.zero_add]; omega) rfl (fun k => rfl) (by simp) ?_
        rw [hevx, hev, hA, hrg]
        simp
    · cases hold
  · cases h

/-- A block that nobody writes to: made, and nobody's own at once. -/
theorem made_step {P : Program} {w0 : World} {ok0 : Nat → Prop} {n id : Nat} {o : Oper} {a : Act} {s : St} {rho : Nat → Option Nat} {w : World} {x : PV} {ob : PObj} {arr : Array Value} {T : TypeId} {v : Value}
    (hr : Rel w0 ok0 n s rho a w) (hd : ∀ t, o.dst = some t → t < n) (hid : rho id = none)
    (hrun : (execOp a.eval o).run P w = .ok (.value v) (w.alloc (.cells arr T))) (hc : RepL (viewOf w0 ok0 s.H rho w) ob.cells arr.toList)
    (hx : ∀ V, Rep V (.ptr ob.cells) (.pointer (some ⟨w.heap.size, 0, none⟩)) → Rep V x v) : Stepped P w0 ok0 n o a s rho w (put s o.dst x) id := by
  obtain ⟨h1, h2⟩ := new_ext (id := id) hr.heap hid arr T ob hc
  obtain ⟨h3, h4⟩ := drop_ext h1 id
  have h5 := drop_ptr (id := id) h1 (upd_same _ _ _) (upd_same _ _ _)
  have hnone : s.H id = none := by
    cases hh : s.H id with
    | none => rfl
    | some ob =>
      obtain ⟨b, hb, _⟩ := hr.heap.own id ob hh
      rw [hid] at hb
      cases hb
  have e : upd (upd s.H id (some ob)) id none = s.H := by
    funext k
    by_cases hk : k = id
    · rw [hk, upd_same, hnone]
    · rw [upd_ne _ _ hk, upd_ne _ _ hk]
  rw [e] at h3 h4 h5
  refine ⟨.value _, _, _, upd rho id (some w.heap.size), hrun, .inl rfl, ⟨?_, ?_, ?_, ?_⟩, ?_, fun k hk => upd_ne _ _ hk⟩
  · rw [put_H]; exact h3
  · rw [aput_size]; exact hr.size
  · rw [aput_defs]; exact hr.defs
  · rw [put_H]
    exact put_slots (fun t => (hr.slot t).mono (h2.trans h4)) (fun t ht => by rw [hr.size]; exact hd t ht) (hx _ h5)
  · rw [put_H]; exact h2.trans h4

theorem chunks_spec (sz : Nat) : ∀ (n : Nat) (xs : List PV), xs.length = n * sz → (chunks sz n xs).flatten = xs ∧ (chunks sz n xs).length = n ∧ ∀ e ∈ chunks sz n xs, e.length = sz
  | 0, xs, h => by
    have : xs = [] := List.eq_nil_of_length_eq_zero (by simpa using h)
    subst this
    simp [chunks]
  | n + 1, xs, h => by
    rw [Nat.succ_mul] at h
    obtain ⟨h1, h2, h3⟩ := chunks_spec sz n (xs.drop sz) (by simp; omega)
    refine ⟨by simp [chunks, h1], by simp [chunks, h2], fun e he => ?_⟩
    rcases List.mem_cons.1 he with rfl | he
    · simp; omega
    · exact h3 e he

theorem step_sound {P : Program} {pol : Pol} {w0 : World} {ok0 : Nat → Prop} {n id : Nat} {o : Oper} {a : Act} {s s' : St} {rho : Nat → Option Nat} {w : World} {m : MOp} {g : Option (Nat × Bool)}
    (hm : mop P pol o = some m) (hr : Rel w0 ok0 n s rho a w) (hd : ∀ t, o.dst = some t → t < n) (hid : rho id = none) (h : stepM id ⟨o.dst, m, g⟩ s = some s') : Stepped P w0 ok0 n o a s rho w s' id := by
  have hval : ∀ {x}, (∀ s, stepM id ⟨o.dst, m, g⟩ s = (val s m).map (put s o.dst)) → val s m = some x → put s o.dst x = s' → Stepped P w0 ok0 n o a s rho w s' id := by
    rintro x h0 hx rfl
    exact val_step hm hr hd hx
  cases m
  case al zero =>
    simp only [stepM, Option.some.injEq] at h
    subst h
    have ht := mop_tag hm
    obtain ⟨dst, op, ty, pos, af, gg⟩ := o
    cases op <;> first | (exfalso; revert ht; simp [MOp.tag, opTag]; done) | (exfalso; rename_i c0; have hh := opTag_call c0; simp only [MOp.tag] at ht; omega) | skip
    simp only [mop, reduceCtorEq, Option.some.injEq, Option.map_eq_some_iff, Option.bind_eq_some_iff, false_and, and_false, exists_false] at hm
    rename_i q1
    · 
      obtain ⟨z, hz, hm⟩ := hm
      cases hm
      obtain ⟨zv, hzr, hzc⟩ := run_zero (P := P) hz w
      refine new_step (arr := zv.cells) (T := q1) (v := .pointer (some ⟨w.heap.size, 0, none⟩)) hr hd hid ?_ (by rw [hzc]; exact zero_rep _) (.optr _ _ _ (upd_same _ _ _))
      simp only [execOp, Instr.alloc, Sem.run_bind, hzr, Result.andThen_ok, newVar, newRow, run_newObj, Sem.run_pure]
      rfl
  case bx x own =>
    have ht := mop_tag hm
    obtain ⟨dst, op, ty, pos, af, gg⟩ := o
    cases op <;> first | (exfalso; revert ht; simp [MOp.tag, opTag]; done) | (exfalso; rename_i c0; have hh := opTag_call c0; simp only [MOp.tag] at ht; omega) | skip
    simp only [mop, reduceCtorEq, Option.some.injEq, Option.map_eq_some_iff, Option.bind_eq_some_iff, false_and, and_false, exists_false] at hm
    rename_i q1 q2
    · 
      simp only [MOp.bx.injEq] at hm
      obtain ⟨rfl, -⟩ := hm
      simp only [stepM] at h
      split at h
      · rename_i hg
        have hx := cellsOf_rep (ev_rep hr.slot q2) hg
        have hrun : (execOp a.eval ⟨dst, .box q1 q2, ty, pos, af, gg⟩).run P w = .ok (.value (.pointer (some ⟨w.heap.size, 0, none⟩))) (w.alloc (.cells (a.eval q2).cells q1)) := by
          simp only [execOp, Instr.box, Sem.run_bind, newVar, newRow, run_newObj, Result.andThen_ok, Sem.run_pure]
          rfl
        split at h
        · cases h
          exact new_step (arr := (a.eval q2).cells) (T := q1) hr hd hid hrun hx (.optr _ _ _ (upd_same _ _ _))
        · cases h
          -- a block that nobody writes to: made, and nobody's own at once
          obtain ⟨h1, h2⟩ := new_ext (id := id) hr.heap hid (a.eval q2).cells q1 ⟨(ev s q2).cellsOf, true⟩ hx
          obtain ⟨h3, h4⟩ := drop_ext h1 id
          have h5 := drop_ptr (id := id) h1 (upd_same _ _ _) (upd_same _ _ _)
          have hnone : s.H id = none := by
            cases hh : s.H id with
            | none => rfl
            | some ob =>
              obtain ⟨b, hb, _⟩ := hr.heap.own id ob hh
              rw [hid] at hb
              cases hb
          have e : upd (upd s.H id (some ⟨(ev s q2).cellsOf, true⟩)) id none = s.H := by
            funext k
            by_cases hk : k = id
            · rw [hk, upd_same, hnone]
            · rw [upd_ne _ _ hk, upd_ne _ _ hk]
          rw [e] at h3 h4 h5
          refine ⟨.value _, _, _, upd rho id (some w.heap.size), hrun, .inl rfl, ⟨?_, ?_, ?_, ?_⟩, ?_, fun k hk => upd_ne _ _ hk⟩
          · rw [put_H]; exact h3
          · rw [aput_size]; exact hr.size
          · rw [aput_defs]; exact hr.defs
          · rw [put_H]
            exact put_slots (fun t => (hr.slot t).mono (h2.trans h4)) (fun t ht => by rw [hr.size]; exact hd t ht) h5
          · rw [put_H]; exact h2.trans h4
      · cases h
  case st x v sz fz =>
    have ht := mop_tag hm
    obtain ⟨dst, op, ty, pos, af, gg⟩ := o
    cases op <;> first | (exfalso; revert ht; simp [MOp.tag, opTag]; done) | (exfalso; rename_i c0; have hh := opTag_call c0; simp only [MOp.tag] at ht; omega) | skip
    simp only [mop, reduceCtorEq, Option.some.injEq, Option.map_eq_some_iff, Option.bind_eq_some_iff, false_and, and_false, exists_false] at hm
    rename_i q1 q2 q3
    · 
      obtain ⟨sz', hsz, hm⟩ := hm
      simp only [MOp.st.injEq] at hm
      obtain ⟨rfl, rfl, rfl, -⟩ := hm
      simp only [stepM] at h
      split at h
      · rename_i hc
        obtain ⟨hlen, hone⟩ := hc
        simp only [Option.bind_eq_some_iff] at h
        obtain ⟨⟨j, ob⟩, hst, h⟩ := h
        obtain ⟨off, ob0, hp, hH, hfit, rfl⟩ := storeP_inv hst
        have hx := cellsOf_rep (ev_rep hr.slot q3) (good_of_ones hone)
        have hpx := ev_rep hr.slot q2
        rw [hp] at hpx
        obtain ⟨b, hev, hb⟩ := hpx.optr_inv
        have hb' : rho j = some b := hb
        obtain ⟨b2, hb2, hlow, hobj⟩ := hr.heap.own j ob0 hH
        rw [hb'] at hb2
        cases hb2
        obtain ⟨c, T', hcell, hle, _, _⟩ := hobj
        have hxl := hx.1
        simp only [Array.length_toList] at hxl
        obtain ⟨h1, h2⟩ := store_ext (off := off) hr.heap hH hb' hcell hx hfit
        have hrun : (execOp a.eval ⟨dst, .store q1 q2 q3, ty, pos, af, gg⟩).run P w = .ok .skip (w.setRow b (c.toList.take off ++ (a.eval q3).cells.toList ++ c.toList.drop (off + (a.eval q3).cells.toList.length)).toArray) := by
          have := run_storeCells_at (P := P) b off T' (a.eval q3).cells.toList 0 c w hcell (by simp; omega) (ones_run _ _ hx hone)
          simp only [Nat.add_zero] at this
          simp only [execOp, Instr.storeAt, hev, Instr.sureAddr, storeVar, Sem.run_bind, Sem.run_pure, Result.andThen_ok, run_size hsz]
          rw [if_neg (by omega)]
          simp only [Sem.run_bind, Sem.run_pure, Result.andThen_ok, this]
        split at h
        · -- nobody writes to it any more
          split at h
          · rename_i t id0 hxe
            cases h
            rw [hp] at hxe
            cases hxe
            obtain ⟨h3, h4⟩ := drop_ext h1 j
            have h5 := drop_ptr (id := j) h1 (upd_same _ _ _) hb'
            have e : upd (upd s.H j (some { ob0 with cells := ob0.cells.take 0 ++ (ev s q3).cellsOf ++ ob0.cells.drop (0 + (ev s q3).cellsOf.length) })) j none = upd s.H j none := by
              funext k
              by_cases hk : k = j
              · rw [hk, upd_same, upd_same]
              · rw [upd_ne _ _ hk, upd_ne _ _ hk, upd_ne _ _ hk]
            rw [e] at h3 h4 h5
            refine ⟨.skip, undef, _, rho, hrun, .inr ⟨rfl, rfl⟩, ⟨?_, ?_, ?_, ?_⟩, ?_, fun _ _ => rfl⟩
            · rw [put_H]; exact h3
            · rw [aput_size]; exact hr.size
            · rw [aput_defs]; exact hr.defs
            · rw [put_H]
              refine put_slots (s := { s with s := upd s.s t _, H := upd s.H j none }) (fun k => ?_) (fun t ht => by rw [hr.size]; exact hd t ht) (.sc undef)
              by_cases hk : k = t
              · rw [hk]
                have e2 : a.tmps.getD t undef = .pointer (some ⟨b, 0, none⟩) := hev
                rw [e2]
                simp only [upd_same]
                exact h5
              · simp only [upd_ne _ _ hk]
                exact (hr.slot k).mono (h2.trans h4)
            · rw [put_H]; exact h2.trans h4
          · cases h
        · cases h
          refine ⟨.skip, undef, _, rho, hrun, .inr ⟨rfl, rfl⟩, ⟨?_, ?_, ?_, ?_⟩, ?_, fun _ _ => rfl⟩
          · rw [put_H]; exact h1
          · rw [aput_size]; exact hr.size
          · rw [aput_defs]; exact hr.defs
          · rw [put_H]
            exact put_slots (s := { s with H := _ }) (fun k => (hr.slot k).mono h2) (fun t ht => by rw [hr.size]; exact hd t ht) (.sc undef)
          · rw [put_H]; exact h2
      · cases h
  case bsl sz len zero parts own =>
    have ht := mop_tag hm
    obtain ⟨dst, op, ty, pos, af, gg⟩ := o
    cases op <;> first | (exfalso; revert ht; simp [MOp.tag, opTag]; done) | (exfalso; rename_i c0; have hh := opTag_call c0; simp only [MOp.tag] at ht; omega) | skip
    simp only [mop, reduceCtorEq, Option.some.injEq, Option.map_eq_some_iff, Option.bind_eq_some_iff, false_and, and_false, exists_false] at hm
    rename_i q1 q2 q3
    · 
      split at hm
      · rename_i e hu
        simp only [Option.bind_eq_some_iff] at hm
        obtain ⟨z, hz, sz', hsz, hm⟩ := hm
        split at hm
        · rename_i hbd
          simp only [Option.map_eq_some_iff] at hm
          obtain ⟨ms, hms, hm⟩ := hm
          simp only [MOp.bsl.injEq] at hm
          obtain ⟨k1, k2, k3, k4, -⟩ := hm
          subst sz'; subst q2; subst z; subst ms
          simp only [stepM] at h
          split at h
          · rename_i hzl
            simp only [Option.bind_eq_some_iff, Option.map_eq_some_iff] at h
            obtain ⟨ps, hps, cells, hf, hs'⟩ := h
            obtain ⟨zv, hzr, hzc⟩ := run_zero (P := P) hz w
            have hzs : zv.cells.size = sz := by rw [← Array.length_toList, hzc]; exact hzl
            rw [partsOf_foldr] at hms
            have hz0 : RepL (viewOf w0 ok0 s.H rho w) (zeros zero len) (madeCells zv.cells (len * sz)).toList := by
              have := zeros_rep (V := viewOf w0 ok0 s.H rho w) zv.cells len
              rw [hzc, hzs] at this
              exact this
            obtain ⟨arr', h4, h5⟩ := fill_sound (place := fun i => some (i * sz, sz)) hr.slot q3.toList parts ps _ cells (madeCells zv.cells (len * sz)) hms hps hf hz0
            have hsz2 : arr'.size = len * sz := by
              have hfl : ∀ (qs : List (Nat × List PV)) (c out : List PV), fillP c qs = some out → out.length = c.length := by
                intro qs
                induction qs with
                | nil => intro c out hh; simp [fillP] at hh; rw [hh]
                | cons q r ih =>
                  intro c out hh
                  obtain ⟨off, xs⟩ := q
                  simp only [fillP] at hh
                  split at hh
                  · rw [ih _ _ hh]; simp; omega
                  · cases hh
              have h6 := h5.1
              have h7 := hfl _ _ _ hf
              rw [zeros_length, hzl] at h7
              simp only [Array.length_toList] at h6
              omega
            have hrun : (execOp a.eval ⟨dst, .buildSlice q1 len q3, ty, pos, af, gg⟩).run P w = .ok (.value (.slice (some ⟨w.heap.size, 0, none⟩) len len)) (w.alloc (.cells arr' e)) := by
              have e1 : (q3.map fun (i, x) => (i, a.eval x)).toList = q3.toList.map fun (i, x) => (i, a.eval x) := by simp
              simp only [execOp, Instr.buildSlice, Sem.run_bind, run_under hu, Result.andThen_ok, run_size hsz, Sem.run_pure]
              rw [if_neg (by omega)]
              by_cases h0 : len * sz = 0
              · rw [if_pos h0]
                simp only [Sem.run_bind, Sem.run_pure, Result.andThen_ok, e1]
                have e2 : (Array.range (len * sz)).map (fun x => (#[] : Array Value)[x % (#[] : Array Value).size]!) = madeCells zv.cells (len * sz) := by
                  rw [h0]; simp [madeCells]
                rw [e2, h4]
                simp only [newRow, Sem.run_bind, run_newObj, Result.andThen_ok, Sem.run_pure]
                rfl
              · rw [if_neg h0]
                simp only [Sem.run_bind, hzr, Sem.run_pure, Result.andThen_ok, e1]
                have e2 : (Array.range (len * sz)).map (fun x => zv.cells[x % zv.cells.size]!) = madeCells zv.cells (len * sz) := rfl
                rw [e2, h4]
                simp only [newRow, Sem.run_bind, run_newObj, Result.andThen_ok, Sem.run_pure]
                rfl
            have hlc : cells.length = len * sz := by have h6 := h5.1; simp only [Array.length_toList] at h6; omega
            split at hs'
            · subst hs'
              refine new_step (arr := arr') (T := e) (v := .slice (some ⟨w.heap.size, 0, none⟩) len len) hr hd hid hrun h5 ?_
              · refine .osl id 0 len sz len w.heap.size arr' e (0, 0) (upd_same _ _ _) (Nat.le_refl _) ?_ ?_ (by omega)
                · unfold maxLen; omega
                · show (w.heap.push _)[w.heap.size]? = _
                  exact Array.getElem?_push_size
            · subst hs'
              obtain ⟨c1, c2, c3⟩ := chunks_spec sz len cells hlc
              exact made_step (ob := ⟨cells, true⟩) (arr := arr') (T := e) hr hd hid hrun h5 fun V hp => .sl sz _ _ _ _ _ c2 c3 (Nat.le_refl _) (by unfold maxLen; omega) (by rw [c1]; exact hp)
          · cases h
        · cases hm
      · cases hm
  case mks sz bytes zero l c =>
    have ht := mop_tag hm
    obtain ⟨dst, op, ty, pos, af, gg⟩ := o
    cases op <;> first | (exfalso; revert ht; simp [MOp.tag, opTag]; done) | (exfalso; rename_i c0; have hh := opTag_call c0; simp only [MOp.tag] at ht; omega) | skip
    simp only [mop, reduceCtorEq, Option.some.injEq, Option.map_eq_some_iff, Option.bind_eq_some_iff, false_and, and_false, exists_false] at hm
    rename_i q1 q2 q3
    · 
      split at hm
      · rename_i e hu
        simp only [Option.bind_eq_some_iff, Option.map_eq_some_iff] at hm
        obtain ⟨z, hz, inf, hi, hm⟩ := hm
        cases hm
        simp only [stepM] at h
        have hl := ev_rep hr.slot l
        have hc := ev_rep hr.slot c
        split at h
        · rename_i k1 nn k2 mm e1 e2
          split at h
          · rename_i hcond
            obtain ⟨h0, rfl, hb, hn, hzl⟩ := hcond
            cases h
            rw [e1] at hl
            rw [e2] at hc
            have el := hl.sc_inv
            have ec := hc.sc_inv
            have hz2 := hz
            unfold zeroOf at hz2
            rw [hi] at hz2
            simp only [Option.bind_some, Option.map_eq_some_iff] at hz2
            obtain ⟨zv, hzv, hzc⟩ := hz2
            have hzs : zv.cells.size = inf.size := by rw [← Array.length_toList, hzc]; exact hzl
            have hrm := run_make (P := P) w q1 e inf zv hu hi hzv k1 k2 nn nn h0 (Int.le_refl _) (by omega) (by omega)
            refine new_step (arr := madeCells zv.cells (nn.toNat * inf.size)) (T := e) (v := .slice (some ⟨w.heap.size, 0, none⟩) nn.toNat nn.toNat) hr hd hid ?_ ?_ ?_
            · simp only [execOp, el, ec, Sem.run_bind, hrm, Result.andThen_ok, Sem.run_pure]
            · have := zeros_rep (V := viewOf w0 ok0 s.H rho w) zv.cells nn.toNat
              rw [hzc, hzs] at this
              exact this
            · refine .osl id 0 nn.toNat inf.size nn.toNat w.heap.size (madeCells zv.cells (nn.toNat * inf.size)) e (0, 0) (upd_same _ _ _) (Nat.le_refl _) ?_ ?_ (by rw [size_madeCells]; omega)
              · unfold maxLen; omega
              · show (w.heap.push _)[w.heap.size]? = _
                exact Array.getElem?_push_size
          · cases h
        · cases h
      · cases hm
  case app sz bytes x y =>
    have ht := mop_tag hm
    obtain ⟨dst, op, ty, pos, af, gg⟩ := o
    cases op <;> first | (exfalso; revert ht; simp [MOp.tag, opTag]; done) | skip
    rename_i c
    obtain ⟨callee, args, ats⟩ := c
    cases callee with
    | value f => cases f <;> simp [mop] at hm
    | invoke r mm => simp [mop] at hm
    | builtin b =>
      cases b <;> first | (exfalso; revert ht; simp [MOp.tag, opTag]; done) | skip
      simp only [mop] at hm
      split at hm
      · rename_i x' y' T U ha hta
        have ha' : args = #[x', y'] := by cases args; simp_all
        have ht' : ats = #[T, U] := by cases ats; simp_all
        subst ha'
        subst ht'
        split at hm
        · rename_i hTU
          subst hTU
          split at hm
          · rename_i e hu
            simp only [Option.bind_eq_some_iff] at hm
            obtain ⟨inf, hi, z, hz, hm⟩ := hm
            split at hm
            · rename_i hzl
              cases hm
              simp only [stepM, Option.map_eq_some_iff] at h
              obtain ⟨⟨r, hs⟩, hE, rfl⟩ := h
              exact app_step hu hi hz hzl hr hd hid hE
            · cases hm
          · cases hm
        · cases hm
      · cases hm
  all_goals
    simp only [stepM, Option.map_eq_some_iff] at h
    obtain ⟨x, hx, hxs⟩ := h
    exact hval (fun _ => rfl) hx hxs

end Go.Proofs.Ytifebfkkciaddaa
