/-
  A value operation, whichever it is.
-/
import Derived.Test.YtifebfkkciaddaaPvE
set_option linter.unusedVariables false
set_option linter.unusedSimpArgs false
namespace Go.Proofs.Ytifebfkkciaddaa
open Go.RowKit

theorem ext_sound {P : Program} {V : Vw} {p x : PV} {i : Nat} {u : Value} (hp : Rep V p u) (h : (match (generalizing := false) p with | .tup vs => vs[i]? | _ => none) = some x) :
    ∃ z, (Instr.extract u i).run P V.w = .ok z V.w ∧ Rep V x z := by
  cases p with
  | tup vs =>
    obtain ⟨us, rfl, hr⟩ := hp.tup_inv
    obtain ⟨z, hz, hrz⟩ := hr.get h
    exact ⟨z, by simp [Instr.extract, hz], hrz⟩
  | _ => simp at h

theorem mm_sound {P : Program} {V : Vw} {mx : Bool} : ∀ (ps : List PV) (vs : List Value) (p r : PV) (x : Value), Rep V p x → RepL V ps vs → mmV mx p ps = some r →
    ∃ z, (vs.foldlM (if mx = true then Builtin.max2 else Builtin.min2) x).run P V.w = .ok z V.w ∧ Rep V r z
  | [], [], p, r, x, hp, _, h => by
    simp [mmV] at h
    subst h
    exact ⟨x, by simp, hp⟩
  | q :: ps, v :: vs, p, r, x, hp, hv, h => by
    simp only [mmV, Option.bind_eq_some_iff] at h
    obtain ⟨y, hy, h⟩ := h
    have hq := hv.2 0 q v rfl rfl
    have hrest : RepL V ps vs := ⟨by simpa using hv.1, fun i a b ha hb => hv.2 (i + 1) a b (by simpa using ha) (by simpa using hb)⟩
    unfold mm2 at hy
    split at hy
    · rename_i k a k' b
      cases hy
      cases hp.sc_inv
      cases hq.sc_inv
      obtain ⟨z, h1, h2⟩ := mm_sound (mx := mx) ps vs _ r _ (.sc (.int k (if mx = true then max a b else min a b))) hrest h
      refine ⟨z, ?_, h2⟩
      rw [List.foldlM_cons]
      cases mx with
      | true =>
        have e : (if b > a then b else a) = max a b := by rw [Int.max_def]; split <;> split <;> omega
        simp only [if_true, Sem.run_bind, Builtin.max2, Sem.run_pure, Result.andThen_ok, e] at h1 ⊢
        exact h1
      | false =>
        have e : (if b < a then b else a) = min a b := by rw [Int.min_def]; split <;> split <;> omega
        simp only [Bool.false_eq_true, if_false, Sem.run_bind, Builtin.min2, Sem.run_pure, Result.andThen_ok, e] at h1 ⊢
        exact h1
    · cases hy
  | [], v :: vs, p, r, x, _, hv, _ => absurd hv.1 (by simp)
  | q :: ps, [], p, r, x, _, hv, _ => absurd hv.1 (by simp)

theorem val_sound {P : Program} {pol : Pol} {o : Oper} {a : Act} {V : Vw} {s : St} {m : MOp} {x : PV} (hm : mop P pol o = some m) (hO : Owns V s.H) (hs : ∀ t, Rep V (s.s t) (a.tmps.getD t undef)) (h : val s m = some x) :
    ∃ v, (execOp a.eval o).run P V.w = .ok (.value v) V.w ∧ Rep V x v := by
  obtain ⟨dst, op, ty, pos, af, g⟩ := o
  have lift : ∀ {c : Sem Value} {v : Value}, c.run P V.w = .ok v V.w → (do pure (Next.value (← c)) : Sem Next).run P V.w = .ok (.value v) V.w := by
    intro c v hc
    simp [hc]
  cases op with
  | move y =>
    simp only [mop, Option.some.injEq] at hm
    subst hm
    simp only [val, Option.some.injEq] at h
    subst h
    exact ⟨a.eval y, rfl, ev_rep hs y⟩
  | assign y =>
    simp only [mop, Option.some.injEq] at hm
    subst hm
    simp only [val, Option.some.injEq] at h
    subst h
    exact ⟨a.eval y, rfl, ev_rep hs y⟩
  | pick c y z =>
    simp only [mop, Option.some.injEq] at hm
    subst hm
    simp only [val] at h
    have hc := ev_rep hs c
    split at h
    · rename_i t ht
      simp only [Option.some.injEq] at h
      subst h
      rw [ht] at hc
      have e := hc.sc_inv
      cases t
      · exact ⟨a.eval z, by simp [execOp, e, asBool], ev_rep hs z⟩
      · exact ⟨a.eval y, by simp [execOp, e, asBool], ev_rep hs y⟩
    · cases h
  | binOp bo T y z yT =>
    simp only [mop] at hm
    split at hm
    · rename_i fs hu
      split at hm
      · rename_i hg
        simp only [Option.map_eq_some_iff] at hm
        obtain ⟨t, ht, rfl⟩ := hm
        simp only [val, Option.map_eq_some_iff] at h
        obtain ⟨b, hb, rfl⟩ := h
        exact ⟨_, lift (eqa_sound (.inl ⟨fs, hu⟩) hg ht (ev_rep hs y) (ev_rep hs z) hb y z).1, .sc _⟩
      · cases hm
    · rename_i n el hu
      split at hm
      · rename_i hg
        simp only [Option.map_eq_some_iff] at hm
        obtain ⟨t, ht, rfl⟩ := hm
        simp only [val, Option.map_eq_some_iff] at h
        obtain ⟨b, hb, rfl⟩ := h
        exact ⟨_, lift (eqa_sound (.inr ⟨n, el, hu⟩) hg ht (ev_rep hs y) (ev_rep hs z) hb y z).1, .sc _⟩
      · cases hm
    · rename_i fs hu
      split at hm
      · rename_i hg
        simp only [Option.map_eq_some_iff] at hm
        obtain ⟨t, ht, rfl⟩ := hm
        simp only [val, Option.map_eq_some_iff] at h
        obtain ⟨b, hb, rfl⟩ := h
        exact ⟨_, lift (eqa_sound (.inl ⟨fs, hu⟩) hg ht (ev_rep hs y) (ev_rep hs z) hb y z).2, .sc _⟩
      · cases hm
    · rename_i n el hu
      split at hm
      · rename_i hg
        simp only [Option.map_eq_some_iff] at hm
        obtain ⟨t, ht, rfl⟩ := hm
        simp only [val, Option.map_eq_some_iff] at h
        obtain ⟨b, hb, rfl⟩ := h
        exact ⟨_, lift (eqa_sound (.inr ⟨n, el, hu⟩) hg ht (ev_rep hs y) (ev_rep hs z) hb y z).2, .sc _⟩
      · cases hm
    · rename_i hu
      cases hm
      simp only [val, Option.map_eq_some_iff] at h
      obtain ⟨b, hb, rfl⟩ := h
      exact ⟨_, lift (eqb_sound hu (ev_rep hs y) (ev_rep hs z) hb y z).1, .sc _⟩
    · rename_i hu
      cases hm
      simp only [val, Option.map_eq_some_iff] at h
      obtain ⟨b, hb, rfl⟩ := h
      exact ⟨_, lift (eqb_sound hu (ev_rep hs y) (ev_rep hs z) hb y z).2, .sc _⟩
    · simp only [Option.some.injEq] at hm
      subst hm
      simp only [val] at h
      obtain ⟨u, h1, h2⟩ := bin_sound (P := P) (w := V.w) (T := T) (x := y) (y := z) (ev_rep hs y) (ev_rep hs z) h
      exact ⟨u, lift h1, h2⟩
  | unOp uo T y =>
    simp only [mop, Option.some.injEq] at hm
    subst hm
    simp only [val] at h
    obtain ⟨u, h1, h2⟩ := un_sound (P := P) (w := V.w) (ev_rep hs y) h
    exact ⟨u, lift h1, h2⟩
  | nilCheck y =>
    simp only [mop, Option.some.injEq] at hm
    subst hm
    simp only [val] at h
    have hy := ev_rep hs y
    split at h
    · rename_i c hc
      cases h
      rw [hc] at hy
      obtain ⟨b, off, vs, e, _⟩ := hy.ptr_inv
      rw [e] at hy
      exact ⟨_, by simp [execOp, e], hy⟩
    · rename_i id off hc
      cases h
      rw [hc] at hy
      obtain ⟨b, e, _⟩ := hy.optr_inv
      rw [e] at hy
      exact ⟨_, by simp [execOp, e], hy⟩
    · cases h
  | fieldAddr T y f =>
    obtain ⟨fs, fd, k, h1, h2, h3, rfl⟩ := mop_fieldAddr hm
    simp only [val] at h
    obtain ⟨u, h4, h5⟩ := fieldAddr_sound (s := s) h1 h2 h3 (ev_rep hs y) h
    exact ⟨u, lift h4, h5⟩
  | field T y f =>
    obtain ⟨fs, fd, sz, d, h1, h2, h3, h4, rfl⟩ := mop_field hm
    simp only [val] at h
    have hy := ev_rep hs y
    split at h
    · rename_i c hc
      rw [hc] at hy
      obtain ⟨vs, e, hr⟩ := hy.agg_inv
      obtain ⟨u, h5, h6⟩ := part_sound hr h4 h3 h
      refine ⟨u, lift ?_, h6⟩
      unfold Instr.field
      simp only [Sem.run_bind, run_under h1, Result.andThen_ok, h2, e, asAgg, Sem.run_pure]
      exact h5
    · cases h
  | indexAddr T y i =>
    simp only [mop] at hm
    split at hm
    · rename_i e hu
      simp only [Option.map_eq_some_iff] at hm
      obtain ⟨sz, hz, rfl⟩ := hm
      simp only [val] at h
      obtain ⟨u, h1, h2⟩ := indexSlice_sound hu hz (ev_rep hs y) (ev_rep hs i) h
      exact ⟨u, lift h1, h2⟩
    · rename_i n e hu
      simp only [Option.map_eq_some_iff] at hm
      obtain ⟨sz, hz, rfl⟩ := hm
      simp only [val] at h
      obtain ⟨u, h1, h2⟩ := indexArr_sound hu hz (ev_rep hs y) (ev_rep hs i) h
      exact ⟨u, lift h1, h2⟩
    · cases hm
  | index T y i =>
    simp only [mop] at hm
    split at hm
    · rename_i n e hu
      simp only [Option.bind_eq_some_iff, Option.map_eq_some_iff] at hm
      obtain ⟨sz, hz, d, hd, rfl⟩ := hm
      simp only [val] at h
      obtain ⟨u, h1, h2⟩ := indexVal_sound hu hz hd (ev_rep hs y) (ev_rep hs i) h
      exact ⟨u, lift h1, h2⟩
    · rename_i hu
      simp only [Option.some.injEq] at hm
      subst hm
      simp only [val] at h
      obtain ⟨u, h1, h2⟩ := indexStr_sound hu (ev_rep hs y) (ev_rep hs i) h
      exact ⟨u, lift h1, h2⟩
    · cases hm
  | load T y =>
    simp only [mop, Option.bind_eq_some_iff, Option.map_eq_some_iff] at hm
    obtain ⟨d, hd, sz, hz, rfl⟩ := hm
    simp only [val] at h
    obtain ⟨b, off, u, e, h1, h2⟩ := loadVar_sound hO (ev_rep hs y) hd hz h
    refine ⟨u, lift ?_, h2⟩
    simp only [Instr.loadAt, e, Instr.sureAddr, Sem.run_bind, Sem.run_pure, Result.andThen_ok]
    exact h1
  | build T parts =>
    simp only [mop] at hm
    split at hm
    · rename_i fs hu
      split at hm
      · rename_i hall
        simp only [Option.bind_eq_some_iff, Option.map_eq_some_iff] at hm
        obtain ⟨z, hz, ms, hms, rfl⟩ := hm
        simp only [val, Option.bind_eq_some_iff, Option.map_eq_some_iff] at h
        obtain ⟨ps, hps, out, hout, rfl⟩ := h
        obtain ⟨u, h1, h2⟩ := build_sound hs hz hu _ (.inl ⟨fs, rfl, rfl⟩) hms hps hout (fun fs' e fd hfd => by cases e; exact (Array.all_eq_true_iff_forall_mem.1 hall) fd hfd)
        exact ⟨u, lift h1, h2⟩
      · cases hm
    · rename_i n e hu
      simp only [Option.bind_eq_some_iff, Option.map_eq_some_iff] at hm
      obtain ⟨z, hz, sz, hsz, ms, hms, rfl⟩ := hm
      simp only [val, Option.bind_eq_some_iff, Option.map_eq_some_iff] at h
      obtain ⟨ps, hps, out, hout, rfl⟩ := h
      obtain ⟨u, h1, h2⟩ := build_sound hs hz hu _ (.inr ⟨n, e, sz, rfl, hsz, rfl⟩) hms hps hout (fun fs' e' => by cases e')
      exact ⟨u, lift h1, h2⟩
    · cases hm
  | extract y i =>
    simp only [mop, Option.some.injEq] at hm
    subst hm
    simp only [val] at h
    obtain ⟨u, h1, h2⟩ := ext_sound (P := P) (ev_rep hs y) h
    exact ⟨u, lift h1, h2⟩
  | makeFunc fn first caps =>
    cases fn <;> simp only [mop, reduceCtorEq] at hm
    rename_i f
    split at hm
    · rename_i h0
      cases hm
      simp only [val, Option.some.injEq] at h
      subst h
      subst h0
      refine ⟨.func (.func f) #[] (caps.toList.map a.eval).toArray, lift ?_, ?_⟩
      · have e : (caps.toList.map a.eval).toArray = caps.map a.eval := by rw [← Array.toList_map]
        rw [e]
        simp [Instr.makeFunc]
      · have := evs_rep hs caps.toList
        exact .fn f _ _ this.1 this.2
    · cases hm
  | call c =>
    obtain ⟨callee, args, ats⟩ := c
    cases callee with
    | value f =>
      cases f <;> simp only [mop, Option.some.injEq] at hm <;> subst hm <;> simp [val] at h
    | invoke r mm => simp [mop] at hm
    | builtin b =>
      have hmm : ∀ mx : Bool, m = .mm mx args.toList → ∃ v, (do pure (Next.value (← ((if mx = true then Builtin.max_ else Builtin.min_) ats ty (args.map a.eval)))) : Sem Next).run P V.w = .ok (.value v) V.w ∧ Rep V x v := by
        rintro mx rfl
        simp only [val] at h
        have hargs := evs_rep hs args.toList
        cases hl : args.toList with
        | nil => rw [hl] at h; simp [mmL] at h
        | cons y ys =>
          rw [hl] at h hargs
          simp only [List.map_cons, mmL] at h
          have h0 := hargs.2 0 _ _ rfl rfl
          have hrest : RepL V (ys.map (ev s)) (ys.map a.eval) := evs_rep hs ys
          obtain ⟨z, h1, h2⟩ := mm_sound (P := P) (mx := mx) _ _ _ _ _ h0 hrest h
          refine ⟨z, lift ?_, h2⟩
          have e : (args.map a.eval).toList = a.eval y :: ys.map a.eval := by rw [Array.toList_map, hl]; rfl
          cases mx with
          | true =>
            simp only [if_true, Builtin.max_, e] at h1 ⊢
            exact h1
          | false =>
            simp only [Bool.false_eq_true, if_false, Builtin.min_, e] at h1 ⊢
            exact h1
      cases b <;> simp only [mop, reduceCtorEq] at hm
      case max =>
        simp only [Option.some.injEq] at hm
        obtain ⟨v, h1, h2⟩ := hmm true hm.symm
        refine ⟨v, ?_, h2⟩
        simp only [if_true] at h1
        simp only [execOp, resolve, Sem.run_bind, Sem.run_pure, Result.andThen_ok, invoke, builtin] at h1 ⊢
        exact h1
      case min =>
        simp only [Option.some.injEq] at hm
        obtain ⟨v, h1, h2⟩ := hmm false hm.symm
        refine ⟨v, ?_, h2⟩
        simp only [Bool.false_eq_true, if_false] at h1
        simp only [execOp, resolve, Sem.run_bind, Sem.run_pure, Result.andThen_ok, invoke, builtin] at h1 ⊢
        exact h1
      case append =>
        exfalso
        split at hm
        · split at hm
          · split at hm
            · simp only [Option.bind_eq_some_iff] at hm
              obtain ⟨_, _, _, _, hm⟩ := hm
              split at hm
              · cases hm; simp [val] at h
              · cases hm
            · cases hm
          · cases hm
        · cases hm
      split at hm
      · rename_i y T ha ht
        have ha' : args = #[y] := by cases args; simp_all
        have ht' : ats = #[T] := by cases ats; simp_all
        subst ha'
        subst ht'
        have key : ∀ str : Bool, (if str = true then P.underlying T = some .string else ∃ e, P.underlying T = some (.slice e)) → m = .len y str → ∃ v, (execOp a.eval ⟨dst, .call { callee := .builtin .len, args := #[y], argTypes := #[T] }, ty, pos, af, g⟩).run P V.w = .ok (.value v) V.w ∧ Rep V x v := by
          rintro str hu rfl
          simp only [val, Option.map_eq_some_iff] at h
          obtain ⟨n, hn, rfl⟩ := h
          refine ⟨_, ?_, .sc _⟩
          have := len_sound (ty := ty) hu (ev_rep hs y) hn
          simp only [execOp, resolve, Sem.run_bind, Sem.run_pure, Result.andThen_ok, invoke, builtin]
          simp [this]
        split at hm
        · rename_i e hu
          cases hm
          exact key false ⟨e, hu⟩ rfl
        · rename_i hu
          cases hm
          exact key true hu rfl
        · cases hm
      · cases hm
  | alloc T =>
    simp only [mop, Option.map_eq_some_iff] at hm
    obtain ⟨z, hz, rfl⟩ := hm
    simp [val] at h
  | box T y =>
    simp only [mop, Option.some.injEq] at hm
    subst hm
    simp [val] at h
  | store T y z =>
    simp only [mop, Option.map_eq_some_iff] at hm
    obtain ⟨sz, hz, rfl⟩ := hm
    simp [val] at h
  | buildSlice T len parts =>
    simp only [mop] at hm
    split at hm
    · simp only [Option.bind_eq_some_iff] at hm
      obtain ⟨z, hz, sz, hsz, hm⟩ := hm
      split at hm
      · simp only [Option.map_eq_some_iff] at hm
        obtain ⟨ms, hms, rfl⟩ := hm
        simp [val] at h
      · cases hm
    · cases hm
  | makeSlice T l c =>
    simp only [mop] at hm
    split at hm
    · simp only [Option.bind_eq_some_iff, Option.map_eq_some_iff] at hm
      obtain ⟨z, hz, inf, hi, rfl⟩ := hm
      simp [val] at h
    · cases hm
  | _ => simp [mop] at hm

end Go.Proofs.Ytifebfkkciaddaa
