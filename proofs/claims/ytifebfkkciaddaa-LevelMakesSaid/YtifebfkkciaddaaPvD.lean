/-
  Each operation that changes no memory.
-/
import Derived.Test.YtifebfkkciaddaaPvC
set_option linter.unusedVariables false
namespace Go.Proofs.Ytifebfkkciaddaa
open Go.RowKit

theorem cellsOf_rep {V : Vw} {x : PV} {v : Value} (h : Rep V x v) (hg : x.good = true) : RepL V x.cellsOf v.cells.toList := by
  cases h with
  | agg cells vs hl hr => exact ⟨by simpa [PV.cellsOf, Value.cells] using hl, fun i y u hy hu => hr i y u (by simpa [PV.cellsOf] using hy) (by simpa [Value.cells] using hu)⟩
  | sc v =>
    cases v with
    | agg cs => simp [PV.good] at hg
    | _ => exact RepL.cons (.sc _) RepL.nil
  | ptr cells b off vs hok hl hc hr => exact RepL.cons (.ptr cells b off vs hok hl hc hr) RepL.nil
  | slNil sz A cap h => exact RepL.cons (.slNil sz A cap h) RepL.nil
  | sl sz elems b off len cap hlen hs h1 h2 hp => exact RepL.cons (.sl sz elems b off len cap hlen hs h1 h2 hp) RepL.nil
  | fn f caps vs hl hr => exact RepL.cons (.fn f caps vs hl hr) RepL.nil
  | tup cells vs hl hr => exact RepL.cons (.tup cells vs hl hr) RepL.nil
  | optr id off b h => exact RepL.cons (.optr id off b h) RepL.nil
  | osl id off len sz cap b c T fr h h1 h2 hh hc => exact RepL.cons (.osl id off len sz cap b c T fr h h1 h2 hh hc) RepL.nil

theorem fill_list (off : Nat) : ∀ (xs : List Value) (k : Nat) (cells : Array Value), off + k + xs.length ≤ cells.size →
    ((xs.zipIdx k).foldl (fun cs (c, j) => cs.setIfInBounds (off + j) c) cells).toList = cells.toList.take (off + k) ++ xs ++ cells.toList.drop (off + k + xs.length)
  | [], k, cells, h => by simp
  | x :: r, k, cells, h => by
    simp only [List.zipIdx_cons, List.foldl_cons]
    have hl : off + k < cells.size := by simp at h; omega
    rw [fill_list off r (k + 1) (cells.setIfInBounds (off + k) x) (by simp at h ⊢; omega)]
    rw [Array.toList_setIfInBounds]
    have e1 : off + (k + 1) = off + k + 1 := by omega
    rw [e1]
    apply List.ext_getElem?
    intro i
    simp only [List.length_cons, List.getElem?_append, List.getElem?_take, List.getElem?_drop, List.length_append, List.length_take, List.length_set, List.getElem?_set, Array.length_toList]
    have m1 : min (off + k + 1) cells.size = off + k + 1 := by omega
    have m2 : min (off + k) cells.size = off + k := by omega
    rw [m1, m2]
    by_cases c1 : i < off + k
    · simp [c1, show i < off + k + 1 + r.length by omega, show i < off + k + (r.length + 1) by omega, show i < off + k + 1 by omega, show ¬ off + k = i by omega]
    · by_cases c2 : i = off + k
      · subst c2
        simp [show off + k < off + k + 1 + r.length by omega, hl]
      · by_cases c3 : i < off + k + 1 + r.length
        · have e2 : i - (off + k) = i - (off + k + 1) + 1 := by omega
          simp [c1, c3, show ¬ i < off + k + 1 by omega, show i < off + k + (r.length + 1) by omega, e2]
        · simp [c3, show ¬ i < off + k + (r.length + 1) by omega, show off + k + 1 + r.length + (i - (off + k + 1 + r.length)) = off + k + (r.length + 1) + (i - (off + k + (r.length + 1))) by omega]
          intro hh
          omega

theorem fill_arr (off : Nat) (xs cells : Array Value) (h : off + xs.size ≤ cells.size) :
    (xs.zipIdx.foldl (fun cs (c, j) => cs.setIfInBounds (off + j) c) cells).toList = cells.toList.take off ++ xs.toList ++ cells.toList.drop (off + xs.size) := by
  have := fill_list off xs.toList 0 cells (by simpa using h)
  rw [← Array.foldl_toList, Array.toList_zipIdx]
  simpa using this

theorem fill_sound {V : Vw} {s : St} {a : Act} {place : Nat → Option (Nat × Nat)} (hs : ∀ t, Rep V (s.s t) (a.tmps.getD t undef)) :
    ∀ (parts : List (Nat × Operand)) (ms : List (Nat × Nat × Operand)) (ps : List (Nat × List PV)) (cells out : List PV) (arr : Array Value),
      (parts.foldr (fun (i, x) r => (place i).bind fun (off, sz) => r.map ((off, sz, x) :: ·)) (some [])) = some ms → partsP s ms = some ps → fillP cells ps = some out → RepL V cells arr.toList →
      ∃ arr', Instr.fill place arr (parts.map fun (i, x) => (i, a.eval x)) = some arr' ∧ RepL V out arr'.toList
  | [], ms, ps, cells, out, arr, h1, h2, h3, hr => by
    simp at h1
    subst h1
    simp [partsP] at h2
    subst h2
    simp [fillP] at h3
    subst h3
    exact ⟨arr, by simp [Instr.fill], hr⟩
  | (i, x) :: r, ms, ps, cells, out, arr, h1, h2, h3, hr => by
    simp only [List.foldr_cons] at h1
    cases hp : place i with
    | none => simp [hp] at h1
    | some q =>
      obtain ⟨off, sz⟩ := q
      simp only [hp, Option.bind_some, Option.map_eq_some_iff] at h1
      obtain ⟨ms', hm', rfl⟩ := h1
      simp only [partsP] at h2
      split at h2
      · rename_i hcs
        obtain ⟨hcs, hgood⟩ := hcs
        simp only [Option.map_eq_some_iff] at h2
        obtain ⟨ps', hp', rfl⟩ := h2
        simp only [fillP] at h3
        split at h3
        · rename_i hfit
          have hx := cellsOf_rep (ev_rep hs x) hgood
          have hlen := hx.1
          have hal := hr.1
          simp only [Array.length_toList] at hlen hal
          have hsz : (a.eval x).cells.size = sz := by omega
          have hf : off + (a.eval x).cells.size ≤ arr.size := by omega
          have hnew := fill_arr off (a.eval x).cells arr hf
          have hR : RepL V (cells.take off ++ (ev s x).cellsOf ++ cells.drop (off + (ev s x).cellsOf.length)) ((a.eval x).cells.zipIdx.foldl (fun cs (c, j) => cs.setIfInBounds (off + j) c) arr).toList := by
            rw [hnew]
            have : (a.eval x).cells.size = (ev s x).cellsOf.length := by omega
            rw [this]
            exact ((hr.take off).append hx).append (hr.drop _)
          obtain ⟨arr', h4, h5⟩ := fill_sound hs r ms' ps' _ out _ hm' hp' h3 hR
          refine ⟨arr', ?_, h5⟩
          simp only [List.map_cons, Instr.fill, hp]
          rw [if_neg (by simp [hsz]; omega)]
          exact h4
        · cases h3
      · cases h2

theorem partsOf_foldr (P : Program) (place : Nat → Option (Nat × Nat)) : ∀ parts, partsOf P place parts = parts.foldr (fun (i, x) r => (place i).bind fun (off, sz) => r.map ((off, sz, x) :: ·)) (some [])
  | [] => rfl
  | (i, x) :: r => by simp only [partsOf, List.foldr_cons, partsOf_foldr P place r]

theorem intBin_run {P : Program} {op : BinOp} {k : IntKind} {x y : Int} {v : Value} (h : intBin op k x y = some v) (w : World) (T : TypeId) :
    (binOp op T (.int k x) (.int k y)).run P w = .ok v w := by
  cases op <;> simp [intBin] at h
  case quo => obtain ⟨h0, rfl⟩ := h; simp [binOp, Op.intDiv, h0]
  case rem => obtain ⟨h0, rfl⟩ := h; simp [binOp, Op.intDiv, h0]
  case shl => obtain ⟨h0, rfl⟩ := h; simp [binOp, Op.shift, show ¬ y < 0 by omega]
  case shr => obtain ⟨h0, rfl⟩ := h; simp [binOp, Op.shift, show ¬ y < 0 by omega]
  case and => subst h; simp [binOp, Op.intBits]
  case or => subst h; simp [binOp, Op.intBits]
  case xor => subst h; simp [binOp, Op.intBits]
  case andNot => subst h; simp [binOp, Op.intBits]
  case eql => subst h; simp only [binOp, ne_eq, not_true_eq_false, if_false, Op.intCmp, Sem.run_pure]; congr 2
  case neq => subst h; simp only [binOp, ne_eq, not_true_eq_false, if_false, Op.intCmp, Sem.run_pure]; congr 2
  all_goals (subst h; simp [binOp, Op.intArith, Op.intCmp])

theorem strBin_run {P : Program} {op : BinOp} {x y : ByteArray} {v : Value} (h : strBin op x y = some v) (w : World) (T : TypeId) :
    (binOp op T (.string x) (.string y)).run P w = .ok v w := by
  cases op <;> simp only [strBin, reduceCtorEq, Option.some.injEq] at h
  case add =>
    split at h
    · cases h
    · rename_i h0
      cases h
      simp only [binOp, Op.stringOp]
      rw [if_neg h0]
      simp
  all_goals (subst h; simp [binOp, Op.stringOp])

theorem guard_run {P : Program} {op : BinOp} {T : TypeId} {x y : Operand} {u v : Value} (w : World) (h : (∃ k a, u = .int k a) ∨ (∃ b, u = .string b)) :
    (eqGuard op T x y u v).run P w = .ok () w := by
  unfold eqGuard
  rcases h with ⟨k, a, rfl⟩ | ⟨b, rfl⟩ <;> cases op <;> simp

theorem bin_sound {P : Program} {V : Vw} {w : World} {op : BinOp} {T : TypeId} {x y : Operand} {p q r : PV} {u v : Value} (hp : Rep V p u) (hq : Rep V q v) (h : binPV op p q = some r) :
    ∃ z, (do eqGuard op T x y u v; binOp op T u v : Sem Value).run P w = .ok z w ∧ Rep V r z := by
  unfold binPV at h
  split at h
  · rename_i k a k' b
    split at h
    · rename_i hk
      subst hk
      simp only [Option.map_eq_some_iff] at h
      obtain ⟨z, hz, rfl⟩ := h
      cases hp.sc_inv
      cases hq.sc_inv
      refine ⟨z, ?_, .sc z⟩
      simp only [Sem.run_bind, guard_run w (.inl ⟨_, _, rfl⟩), Result.andThen_ok]
      exact intBin_run hz w T
    · cases h
  · rename_i a b
    simp only [Option.map_eq_some_iff] at h
    obtain ⟨z, hz, rfl⟩ := h
    cases hp.sc_inv
    cases hq.sc_inv
    refine ⟨z, ?_, .sc z⟩
    simp only [Sem.run_bind, guard_run w (.inr ⟨_, rfl⟩), Result.andThen_ok]
    exact strBin_run hz w T
  · cases h

theorem un_sound {P : Program} {V : Vw} {w : World} {op : UnOp} {p r : PV} {u : Value} (hp : Rep V p u) (h : unPV op p = some r) :
    ∃ z, (Op.unary op u).run P w = .ok z w ∧ Rep V r z := by
  unfold unPV at h
  split at h
  · cases hp.sc_inv; cases h; exact ⟨_, by simp [Op.unary], .sc _⟩
  · cases hp.sc_inv; cases h; exact ⟨_, by simp [Op.unary, Op.intArith], .sc _⟩
  · cases h

theorem cells_rep {V : Vw} {cs : List PV} {vs : List Value} (h : RepL V cs vs) : Rep V (.agg cs) (.agg vs.toArray) := .agg cs vs h.1 h.2

theorem zero_rep {V : Vw} : ∀ (z : List Value), RepL V (z.map .sc) z
  | [] => RepL.nil
  | x :: r => RepL.cons (.sc x) (zero_rep r)

end Go.Proofs.Ytifebfkkciaddaa
