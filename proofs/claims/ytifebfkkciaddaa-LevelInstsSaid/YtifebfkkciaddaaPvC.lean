/-
  What an operation over plain values comes to is what the model's operation comes to: the operations that change no memory.
-/
import Derived.Test.YtifebfkkciaddaaPvB
set_option linter.unusedVariables false
namespace Go.Proofs.Ytifebfkkciaddaa
open Go.RowKit

theorem Rep.ptr_inv {V : Vw} {cells : List PV} {v : Value} (h : Rep V (.ptr cells) v) :
    ∃ b off vs, v = .pointer (some ⟨b, off, none⟩) ∧ V.ok b ∧ RepL V cells vs ∧ ∀ (i : Nat) (u : Value), vs[i]? = some u → V.w.cell? ⟨b, off + i, none⟩ = some u := by
  cases h with
  | ptr _ b off vs hok hl hc hr => exact ⟨b, off, vs, rfl, hok, ⟨hl, hr⟩, hc⟩
theorem Rep.ptr_mk {V : Vw} {cells : List PV} {b off : Nat} {vs : List Value} (hok : V.ok b) (h : RepL V cells vs) (hc : ∀ (i : Nat) (u : Value), vs[i]? = some u → V.w.cell? ⟨b, off + i, none⟩ = some u) :
    Rep V (.ptr cells) (.pointer (some ⟨b, off, none⟩)) := .ptr cells b off vs hok h.1 hc h.2
theorem Rep.agg_inv {V : Vw} {cells : List PV} {v : Value} (h : Rep V (.agg cells) v) : ∃ vs, v = .agg (List.toArray vs) ∧ RepL V cells vs := by
  cases h with
  | agg _ vs hl hr => exact ⟨vs, rfl, hl, hr⟩
theorem Rep.tup_inv {V : Vw} {cells : List PV} {v : Value} (h : Rep V (.tup cells) v) : ∃ vs, v = .tuple (List.toArray vs) ∧ RepL V cells vs := by
  cases h with
  | tup _ vs hl hr => exact ⟨vs, rfl, hl, hr⟩
theorem Rep.sc_inv {V : Vw} {u v : Value} (h : Rep V (.sc u) v) : v = u := by cases h; rfl
theorem Rep.optr_inv {V : Vw} {id off : Nat} {v : Value} (h : Rep V (.optr id off) v) : ∃ b, v = .pointer (some ⟨b, off, none⟩) ∧ V.rho id = some b := by
  cases h with
  | optr _ _ b h => exact ⟨b, rfl, h⟩
theorem Rep.osl_inv {V : Vw} {id off len sz : Nat} {v : Value} (h : Rep V (.osl id off len sz) v) :
    ∃ b cap c T fr, v = .slice (some ⟨b, off, none⟩) len cap ∧ V.rho id = some b ∧ len ≤ cap ∧ cap ≤ maxLen ∧ V.w.heap[b]? = some (.cells c T fr) ∧ off + cap * sz ≤ c.size := by
  cases h with
  | osl _ _ _ _ cap b c T fr h h1 h2 hh hc => exact ⟨b, cap, c, T, fr, rfl, h, h1, h2, hh, hc⟩

theorem addr_add (b off n : Nat) : (⟨b, off, none⟩ : Addr).add n = ⟨b, off + n, none⟩ := by
  unfold Addr.add
  split
  · rename_i h; subst h; rfl
  · rfl

theorem Rep.ptr_drop {V : Vw} {cells : List PV} {b off : Nat} (n : Nat) (h : Rep V (.ptr cells) (.pointer (some ⟨b, off, none⟩))) :
    Rep V (.ptr (cells.drop n)) (.pointer (some ⟨b, off + n, none⟩)) := by
  obtain ⟨b', off', vs, e, hok, hr, hc⟩ := h.ptr_inv
  cases e
  refine .ptr_mk hok (hr.drop n) fun i u hu => ?_
  rw [List.getElem?_drop] at hu
  have := hc _ _ hu
  rwa [Nat.add_assoc]
theorem Rep.ptr_take {V : Vw} {cells : List PV} {b off : Nat} (n : Nat) (h : Rep V (.ptr cells) (.pointer (some ⟨b, off, none⟩))) :
    Rep V (.ptr (cells.take n)) (.pointer (some ⟨b, off, none⟩)) := by
  obtain ⟨b', off', vs, e, hok, hr, hc⟩ := h.ptr_inv
  cases e
  refine .ptr_mk hok (hr.take n) fun i u hu => ?_
  rw [List.getElem?_take] at hu
  split at hu
  · exact hc _ _ hu
  · cases hu

/-- The elements of a row of rows. -/
theorem flatten_at {α : Type} {sz : Nat} : ∀ {es : List (List α)} (hs : ∀ e ∈ es, e.length = sz) {i : Nat} {e : List α}, es[i]? = some e → (es.flatten.drop (i * sz)).take sz = e
  | x :: r, hs, 0, e, h => by
    simp at h
    subst h
    have := hs x (by simp)
    simp [← this]
  | x :: r, hs, i + 1, e, h => by
    have hx := hs x (by simp)
    have ih := flatten_at (es := r) (fun e he => hs e (by simp [he])) (i := i) (e := e) (by simpa using h)
    have e1 : (i + 1) * sz = x.length + i * sz := by rw [hx, Nat.succ_mul, Nat.add_comm]
    rw [List.flatten_cons, e1, List.drop_length_add_append]
    exact ih

/-- The own blocks lie in memory. -/
def Owns (V : Vw) (H : Nat → Option PObj) : Prop := ∀ id o, H id = some o → ∃ b, V.rho id = some b ∧ ObjAt V b o

theorem cell_of_heap {w : World} {b : Nat} {c : Array Value} {T : TypeId} {fr : Nat × Nat} (h : w.heap[b]? = some (.cells c T fr)) (i : Nat) : w.cell? ⟨b, i, none⟩ = c[i]? := by
  simp [World.cell?, h]

theorem obj_cells {V : Vw} {b : Nat} {o : PObj} (h : ObjAt V b o) (off n : Nat) (hn : off + n ≤ o.cells.length) :
    ∃ vs, RepL V ((o.cells.drop off).take n) vs ∧ vs.length = n ∧ ∀ (i : Nat) (u : Value), vs[i]? = some u → V.w.cell? ⟨b, off + i, none⟩ = some u := by
  obtain ⟨c, T, hh, hle, _, hr⟩ := h
  have hR : RepL V o.cells (c.toList.take o.cells.length) := ⟨by simp; omega, fun i x v hx hv => by
    rw [List.getElem?_take] at hv
    split at hv
    · exact hr i x v hx (by simpa using hv)
    · cases hv⟩
  refine ⟨((c.toList.take o.cells.length).drop off).take n, (hR.drop off).take n, by simp; omega, fun i u hu => ?_⟩
  rw [List.getElem?_take] at hu
  split at hu
  · rw [List.getElem?_drop, List.getElem?_take] at hu
    split at hu
    · rw [cell_of_heap hh]
      simpa using hu
    · cases hu
  · cases hu

theorem load_sound {V : Vw} {s : St} {p : PV} {n : Nat} {cs : List PV} {v : Value} (hO : Owns V s.H) (hp : Rep V p v) (h : loadP s p n = some cs) :
    ∃ b off vs, v = .pointer (some ⟨b, off, none⟩) ∧ RepL V cs vs ∧ vs.length = n ∧ ∀ (i : Nat) (u : Value), vs[i]? = some u → V.w.cell? ⟨b, off + i, none⟩ = some u := by
  unfold loadP at h
  split at h
  · rename_i cells
    split at h
    · rename_i hn
      cases h
      obtain ⟨b, off, vs, rfl, hok, hr, hc⟩ := (hp).ptr_inv
      refine ⟨b, off, vs.take n, rfl, hr.take n, by have := hr.1; simp; omega, fun i u hu => ?_⟩
      rw [List.getElem?_take] at hu
      split at hu
      · exact hc _ _ hu
      · cases hu
    · cases h
  · rename_i id off
    split at h
    · rename_i o ho
      split at h
      · rename_i hn
        cases h
        obtain ⟨b, rfl, hb⟩ := hp.optr_inv
        obtain ⟨b', hb', hobj⟩ := hO id o ho
        rw [hb] at hb'
        cases hb'
        obtain ⟨vs, h1, h2, h3⟩ := obj_cells hobj off n hn
        exact ⟨b, off, vs, rfl, h1, h2, h3⟩
      · cases h
    · cases h
  · cases h

theorem ev_rep {V : Vw} {s : St} {a : Act} (hs : ∀ t, Rep V (s.s t) (a.tmps.getD t undef)) (x : Operand) : Rep V (ev s x) (a.eval x) := by
  cases x with
  | tmp t => exact hs t
  | const v => exact .sc v
  | global g => exact .sc _
  | func f => exact .fn f [] [] rfl (fun i x v h => by simp at h)

theorem evs_rep {V : Vw} {s : St} {a : Act} (hs : ∀ t, Rep V (s.s t) (a.tmps.getD t undef)) : ∀ (xs : List Operand), RepL V (xs.map (ev s)) (xs.map a.eval)
  | [] => RepL.nil
  | x :: r => RepL.cons (ev_rep hs x) (evs_rep hs r)

theorem run_info {P : Program} {t : TypeId} {i : TypeInfo} (h : P.info? t = some i) (w : World) : (typeInfo t).run P w = .ok i w := by
  simp [typeInfo, program, Sem.run, h]
theorem run_under {P : Program} {t : TypeId} {d : TypeDesc} (h : P.underlying t = some d) (w : World) : (underlying t).run P w = .ok d w := by
  simp [underlying, program, Sem.run, h]
theorem run_size {P : Program} {t : TypeId} {n : Nat} (h : szOf P t = some n) (w : World) : (sizeOf t).run P w = .ok n w := by
  unfold szOf at h
  cases hi : P.info? t with
  | none => simp [hi] at h
  | some i => simp [hi] at h; subst h; simp [Go.sizeOf, run_info hi]
theorem run_zero {P : Program} {t : TypeId} {z : List Value} (h : zeroOf P t = some z) (w : World) : ∃ v, (zeroValue t).run P w = .ok v w ∧ v.cells.toList = z := by
  unfold zeroOf at h
  cases hi : P.info? t with
  | none => simp [hi] at h
  | some i =>
    cases hz : i.zero with
    | none => simp [hi, hz] at h
    | some v => simp [hi, hz] at h; exact ⟨v, by simp [zeroValue, run_info hi, hz], h⟩
theorem run_agg {P : Program} {t : TypeId} {d : TypeDesc} (h : P.underlying t = some d) (w : World) : (isAgg t).run P w = .ok (aggB d) w := by
  unfold isAgg aggB
  simp only [Sem.run_bind, run_under h, Result.andThen_ok]
  cases d <;> simp

end Go.Proofs.Ytifebfkkciaddaa
