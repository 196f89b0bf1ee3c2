/-
  What a value operation comes to: all of them.
-/
import Derived.Test.YtifebfkkciaddaaPvD
set_option linter.unusedVariables false
set_option linter.unusedSimpArgs false
namespace Go.Proofs.Ytifebfkkciaddaa
open Go.RowKit

/-- A place's cells, loaded as a type's. -/
theorem loadVar_sound {P : Program} {V : Vw} {s : St} {p x : PV} {v : Value} {T : TypeId} {d : TypeDesc} {sz : Nat} (hO : Owns V s.H) (hp : Rep V p v) (hd : P.underlying T = some d) (hz : szOf P T = some sz)
    (h : ((loadP s p sz).bind fun cs => if aggB d = true then some (.agg cs) else if sz = 1 then cs.head? else none) = some x) :
    ∃ b off u, v = .pointer (some ⟨b, off, none⟩) ∧ (loadVar T ⟨b, off, none⟩).run P V.w = .ok u V.w ∧ Rep V x u := by
  simp only [Option.bind_eq_some_iff] at h
  obtain ⟨cs, hcs, h⟩ := h
  obtain ⟨b, off, vs, rfl, hr, hn, hc⟩ := load_sound hO hp hcs
  by_cases hb : aggB d = true
  · rw [if_pos hb] at h
    cases h
    refine ⟨b, off, .agg vs.toArray, rfl, ?_, cells_rep hr⟩
    have := run_loadCells_list (P := P) V.w ⟨b, off, none⟩ vs (fun j u hu => by rw [addr_add]; exact hc j u hu)
    rw [hn] at this
    unfold loadVar
    simp only [Sem.run_bind, run_agg hd, Result.andThen_ok]
    rw [if_pos hb]
    simp only [Sem.run_bind, run_size hz, Result.andThen_ok, this]
    simp
  · rw [if_neg hb] at h
    split at h
    · rename_i h1
      obtain ⟨u, hu, hru⟩ := hr.get (i := 0) (by rw [List.head?_eq_getElem?] at h; exact h)
      refine ⟨b, off, u, rfl, ?_, hru⟩
      have := hc 0 u hu
      simp only [Nat.add_zero] at this
      unfold loadVar
      simp only [Sem.run_bind, run_agg hd, Result.andThen_ok]
      rw [if_neg hb]
      simp [load, Sem.run, this]
    · cases h

theorem part_sound {P : Program} {V : Vw} {cs : List PV} {vs : List Value} {T : TypeId} {d : TypeDesc} {sz off : Nat} {x : PV} (hr : RepL V cs vs) (hd : P.underlying T = some d) (hz : szOf P T = some sz)
    (h : (if aggB d = true then (if off + sz ≤ cs.length then some (PV.agg ((cs.drop off).take sz)) else none) else cs[off]?) = some x) :
    ∃ u, (part T vs.toArray off).run P V.w = .ok u V.w ∧ Rep V x u := by
  by_cases hb : aggB d = true
  · rw [if_pos hb] at h
    split at h
    · cases h
      have e : vs.toArray.extract off (off + sz) = ((vs.drop off).take sz).toArray := by simp [List.extract_toArray, List.extract_eq_take_drop]
      refine ⟨.agg ((vs.drop off).take sz).toArray, ?_, cells_rep ((hr.drop off).take sz)⟩
      unfold part
      simp only [Sem.run_bind, run_agg hd, Result.andThen_ok]
      rw [if_pos hb]
      simp only [Sem.run_bind, run_size hz, Result.andThen_ok, e]
      simp
    · cases h
  · rw [if_neg hb] at h
    obtain ⟨u, hu, hru⟩ := hr.get h
    refine ⟨u, ?_, hru⟩
    unfold part
    simp only [Sem.run_bind, run_agg hd, Result.andThen_ok]
    rw [if_neg hb]
    simp [hu]

theorem mop_fieldAddr {P : Program} {pol : Pol} {T : TypeId} {x : Operand} {f : Nat} {dst : Option Tmp} {ty : TypeId} {pos : String} {af : Array Edge} {g : Option (Nat × Bool)} {m : MOp}
    (h : mop P pol ⟨dst, .fieldAddr T x f, ty, pos, af, g⟩ = some m) : ∃ fs fd k, P.underlying T = some (.struct fs) ∧ fs[f]? = some fd ∧ szOf P fd.type = some (k + 1) ∧ m = .fa x fd.offset := by
  simp only [mop] at h
  split at h
  · rename_i fs hu
    simp only [Option.bind_eq_some_iff] at h
    obtain ⟨fd, hf, h⟩ := h
    split at h
    · rename_i k hk
      cases h
      exact ⟨fs, fd, k, hu, hf, hk, rfl⟩
    · cases h
  · cases h

theorem mop_field {P : Program} {pol : Pol} {T : TypeId} {x : Operand} {f : Nat} {dst : Option Tmp} {ty : TypeId} {pos : String} {af : Array Edge} {g : Option (Nat × Bool)} {m : MOp}
    (h : mop P pol ⟨dst, .field T x f, ty, pos, af, g⟩ = some m) : ∃ fs fd sz d, P.underlying T = some (.struct fs) ∧ fs[f]? = some fd ∧ szOf P fd.type = some sz ∧ P.underlying fd.type = some d ∧ m = .fd x fd.offset sz (aggB d) := by
  simp only [mop] at h
  split at h
  · rename_i fs hu
    simp only [Option.bind_eq_some_iff, Option.map_eq_some_iff] at h
    obtain ⟨fd, hf, sz, hk, d, hd, rfl⟩ := h
    exact ⟨fs, fd, sz, d, hu, hf, hk, hd, rfl⟩
  · cases h

theorem fieldAddr_sound {P : Program} {V : Vw} {s : St} {p r : PV} {v : Value} {T : TypeId} {f k : Nat} {fs : Array Field} {fd : Field} (hu : P.underlying T = some (.struct fs)) (hf : fs[f]? = some fd) (hk : szOf P fd.type = some (k + 1)) (hp : Rep V p v)
    (h : (match (generalizing := false) p with
      | .ptr c => if fd.offset ≤ c.length then some (PV.ptr (c.drop fd.offset)) else none
      | .optr id o => some (.optr id (o + fd.offset))
      | _ => none) = some r) : ∃ u, (Instr.fieldAt T v f).run P V.w = .ok u V.w ∧ Rep V r u := by
  have key : ∀ b off, (Instr.fieldAt T (.pointer (some ⟨b, off, none⟩)) f).run P V.w = .ok (.pointer (some ⟨b, off + fd.offset, none⟩)) V.w := by
    intro b off
    unfold Instr.fieldAt
    simp only [Sem.run_bind, run_under hu, Result.andThen_ok, hf, Instr.sureAddr, fieldPlace, run_size hk]
    simp [addr_add, run_size hk]
  split at h
  · rename_i c
    split at h
    · cases h
      obtain ⟨b, off, vs, rfl, _⟩ := hp.ptr_inv
      exact ⟨_, key b off, hp.ptr_drop fd.offset⟩
    · cases h
  · cases h
    obtain ⟨b, rfl, hb⟩ := hp.optr_inv
    exact ⟨_, key b _, .optr _ _ b hb⟩
  · cases h

theorem indexSlice_sound {P : Program} {V : Vw} {p q r : PV} {u v : Value} {T e : TypeId} {sz : Nat} (hu : P.underlying T = some (.slice e)) (hz : szOf P e = some sz) (hp : Rep V p u) (hq : Rep V q v)
    (h : (match (generalizing := false) p, q with
      | .sl sz' es, .sc (.int _ n) => if 0 ≤ n ∧ sz' = sz then (es[n.toNat]?).map PV.ptr else none
      | .osl id off len sz', .sc (.int _ n) => if 0 ≤ n ∧ n < len ∧ sz' = sz then some (.optr id (off + n.toNat * sz)) else none
      | _, _ => none) = some r) : ∃ z, (Instr.indexAt T u v).run P V.w = .ok z V.w ∧ Rep V r z := by
  have key : ∀ (b off len cap : Nat) (k : IntKind) (n : Int), 0 ≤ n → n < (len : Int) → (Instr.indexAt T (.slice (some ⟨b, off, none⟩) len cap) (.int k n)).run P V.w = .ok (.pointer (some ⟨b, off + n.toNat * sz, none⟩)) V.w := by
    intro b off len cap k n h0 h1
    unfold Instr.indexAt
    simp only [asIntOf, Sem.run_bind, Sem.run, Result.andThen_ok, run_under hu, pure]
    rw [if_pos ⟨h0, h1⟩]
    simp [run_size hz, addr_add]
  split at h
  · rename_i sz' es k n
    split at h
    · rename_i hc
      obtain ⟨h0, rfl⟩ := hc
      simp only [Option.map_eq_some_iff] at h
      obtain ⟨x, hx, rfl⟩ := h
      cases hq.sc_inv
      obtain ⟨hi, hxe⟩ := List.getElem?_eq_some_iff.1 hx
      cases hp with
      | slNil _ A cap hc => simp at hi
      | sl _ _ b off len cap hlen hs h1 h2 hpp =>
        refine ⟨_, key b off len cap k n h0 (by omega), ?_⟩
        have := (hpp.ptr_drop (n.toNat * sz')).ptr_take sz'
        rw [flatten_at hs hx] at this
        exact this
    · cases h
  · rename_i id off len sz' k n
    split at h
    · rename_i hc
      obtain ⟨h0, h1, rfl⟩ := hc
      cases h
      cases hq.sc_inv
      obtain ⟨b, cap, c, T', fr, rfl, hb, _⟩ := hp.osl_inv
      exact ⟨_, key b off len cap k n h0 h1, .optr _ _ b hb⟩
    · cases h
  · cases h

theorem indexArr_sound {P : Program} {V : Vw} {p q r : PV} {u v : Value} {T e : TypeId} {sz len : Nat} (hu : P.underlying T = some (.array len e)) (hz : szOf P e = some sz) (hp : Rep V p u) (hq : Rep V q v)
    (h : (match (generalizing := false) p, q with
      | .ptr c, .sc (.int _ n) => if 0 ≤ n ∧ n < len ∧ n.toNat * sz ≤ c.length then some (PV.ptr (c.drop (n.toNat * sz))) else none
      | .optr id off, .sc (.int _ n) => if 0 ≤ n ∧ n < len then some (.optr id (off + n.toNat * sz)) else none
      | _, _ => none) = some r) : ∃ z, (Instr.indexAt T u v).run P V.w = .ok z V.w ∧ Rep V r z := by
  have key : ∀ (b off : Nat) (k : IntKind) (n : Int), 0 ≤ n → n < (len : Int) → (Instr.indexAt T (.pointer (some ⟨b, off, none⟩)) (.int k n)).run P V.w = .ok (.pointer (some ⟨b, off + n.toNat * sz, none⟩)) V.w := by
    intro b off k n h0 h1
    unfold Instr.indexAt
    simp only [asIntOf, Sem.run_bind, Sem.run, Result.andThen_ok, run_under hu, pure, Instr.sureAddr]
    rw [if_pos ⟨h0, h1⟩]
    simp [run_size hz, addr_add]
  split at h
  · rename_i c k n
    split at h
    · rename_i hc
      obtain ⟨h0, h1, h2⟩ := hc
      cases h
      cases hq.sc_inv
      obtain ⟨b, off, vs, rfl, _⟩ := hp.ptr_inv
      exact ⟨_, key b off k n h0 h1, hp.ptr_drop _⟩
    · cases h
  · rename_i id off k n
    split at h
    · rename_i hc
      obtain ⟨h0, h1⟩ := hc
      cases h
      cases hq.sc_inv
      obtain ⟨b, rfl, hb⟩ := hp.optr_inv
      exact ⟨_, key b off k n h0 h1, .optr _ _ b hb⟩
    · cases h
  · cases h

theorem indexVal_sound {P : Program} {V : Vw} {p q r : PV} {u v : Value} {T e : TypeId} {d : TypeDesc} {sz len : Nat} (hu : P.underlying T = some (.array len e)) (hz : szOf P e = some sz) (hd : P.underlying e = some d) (hp : Rep V p u) (hq : Rep V q v)
    (h : (match (generalizing := false) p, q with
      | .agg c, .sc (.int _ n) => if 0 ≤ n ∧ n < len then (if aggB d then (if n.toNat * sz + sz ≤ c.length then some (PV.agg ((c.drop (n.toNat * sz)).take sz)) else none) else c[n.toNat * sz]?) else none
      | _, _ => none) = some r) : ∃ z, (Instr.index T u v).run P V.w = .ok z V.w ∧ Rep V r z := by
  split at h
  · rename_i c k n
    split at h
    · rename_i hc
      cases hq.sc_inv
      obtain ⟨vs, rfl, hr⟩ := hp.agg_inv
      obtain ⟨z, hz1, hz2⟩ := part_sound (off := n.toNat * sz) hr hd hz h
      refine ⟨z, ?_, hz2⟩
      unfold Instr.index
      simp only [asIntOf, Sem.run_bind, Sem.run, Result.andThen_ok, run_under hu, pure]
      rw [if_pos hc]
      simp only [Sem.run_bind, run_size hz, Result.andThen_ok]
      exact hz1
    · cases h
  · cases h

theorem indexStr_sound {P : Program} {V : Vw} {p q r : PV} {u v : Value} {T : TypeId} (hu : P.underlying T = some .string) (hp : Rep V p u) (hq : Rep V q v)
    (h : (match (generalizing := false) p, q with
      | .sc (.string b), .sc (.int _ n) => if 0 ≤ n then (b[n.toNat]?).map fun c => PV.sc (.int .u8 c.toNat) else none
      | _, _ => none) = some r) : ∃ z, (Instr.index T u v).run P V.w = .ok z V.w ∧ Rep V r z := by
  split at h
  · rename_i b k n
    split at h
    · rename_i hc
      cases hq.sc_inv
      cases hp.sc_inv
      simp only [Option.map_eq_some_iff] at h
      obtain ⟨c, hcb, rfl⟩ := h
      refine ⟨_, ?_, .sc _⟩
      unfold Instr.index
      simp only [asIntOf, Sem.run_bind, Sem.run, Result.andThen_ok, run_under hu, pure]
      rw [if_pos hc, hcb]
      rfl
    · cases h
  · cases h

theorem len_sound {P : Program} {V : Vw} {p : PV} {n : Nat} {u : Value} {T ty : TypeId} {str : Bool} (hu : if str = true then P.underlying T = some .string else ∃ e, P.underlying T = some (.slice e)) (hp : Rep V p u) (h : lenPV str p = some n) :
    (Builtin.len_ #[T] ty #[u]).run P V.w = .ok (.int .i64 n) V.w := by
  cases str with
  | false =>
    simp only [Bool.false_eq_true, if_false] at hu
    obtain ⟨e, hu⟩ := hu
    have key : ∀ A len cap, (Builtin.len_ #[T] ty #[.slice A len cap]).run P V.w = .ok (.int .i64 len) V.w := by
      intro A len cap
      unfold Builtin.len_
      simp [run_under hu, goInt]
    cases p with
    | sl sz es =>
      simp only [lenPV, Option.some.injEq] at h
      subst h
      cases hp with
      | slNil _ A cap hc => exact key _ _ _
      | sl _ _ b off len cap hlen hs h1 h2 hpp => rw [hlen]; exact key _ _ _
    | osl id off len sz =>
      simp only [lenPV, Option.some.injEq] at h
      subst h
      obtain ⟨b, cap, c, T', fr, rfl, _⟩ := hp.osl_inv
      exact key _ _ _
    | sc v =>
      cases hp.sc_inv
      cases u <;> simp only [lenPV, reduceCtorEq, Option.some.injEq] at h
      subst h
      exact key _ _ _
    | _ => simp [lenPV] at h
  | true =>
    simp only [if_true] at hu
    cases p with
    | sc v =>
      cases hp.sc_inv
      cases u <;> simp only [lenPV, reduceCtorEq, Option.some.injEq] at h
      subst h
      unfold Builtin.len_
      simp [run_under hu, goInt]
    | _ => simp [lenPV] at h

theorem part_eq {P : Program} {V : Vw} {cs : List PV} {vs : List Value} {T : TypeId} {d : TypeDesc} {sz off : Nat} {x : PV} (hr : RepL V cs vs) (hd : P.underlying T = some d) (hz : szOf P T = some sz) (h : partV cs off sz (aggB d) = some x) :
    ∃ u, (part T vs.toArray off).run P V.w = .ok u V.w ∧ Rep V x u := part_sound hr hd hz h

theorem cellsOf_of {P : Program} {t : TypeId} {n : Nat} (h : szOf P t = some n) : P.cellsOf t = n := by
  unfold szOf at h
  cases hi : P.info? t with
  | none => simp [hi] at h
  | some i => simp [hi] at h; subst h; simp [Program.cellsOf, hi]

/-- What is compared is compared so. -/
theorem eqE_sound {P : Program} {V : Vw} : ∀ (d : Nat) (t : TypeId) (e : ETy) (D : Nat) (p q : PV) (u v : Value) (b : Bool), etyOf P d t = some e → d ≤ D → Rep V p u → Rep V q v → eqE e p q = some b → (Op.equalIn D t u v).run P V.w = .ok b V.w := by
  intro d
  induction d with
  | zero => intro t e D p q u v b h; simp [etyOf] at h
  | succ d ih =>
    intro t e D p q u v b h hD hp hq hb
    obtain ⟨D, rfl⟩ : ∃ k, D = k + 1 := ⟨D - 1, by omega⟩
    simp only [etyOf] at h
    split at h
    · rename_i hu
      cases h
      simp only [eqE] at hb
      unfold eqBool at hb
      split at hb
      · cases hb
        cases hp.sc_inv
        cases hq.sc_inv
        exact run_equalIn_bool' V.w D t _ _ hu
      · cases hb
    · rename_i k hu
      cases h
      simp only [eqE] at hb
      unfold eqInt at hb
      split at hb
      · split at hb
        · rename_i hk
          subst hk
          cases hb
          cases hp.sc_inv
          cases hq.sc_inv
          rw [run_equalIn_int V.w D t _ k _ _ hu]
          first | rfl | (congr 1; rw [Bool.eq_iff_iff]; simp)
        · cases hb
      · cases hb
    · rename_i hu
      cases h
      simp only [eqE] at hb
      unfold eqStr at hb
      split at hb
      · cases hb
        cases hp.sc_inv
        cases hq.sc_inv
        exact run_equalIn_string V.w D t _ _ hu
      · cases hb
    · rename_i fs hu
      split at h
      · rename_i hst
        simp only [Option.map_eq_some_iff] at h
        obtain ⟨ps, hps, rfl⟩ := h
        simp only [eqE] at hb
        split at hb
        · rename_i xs ys
          obtain ⟨us, rfl, hru⟩ := hp.agg_inv
          obtain ⟨vs, rfl, hrv⟩ := hq.agg_inv
          have hfs : P.fieldsOf t = fs := by simp [Program.fieldsOf, hu]
          rw [run_equalIn_struct V.w D t _ _ (by rw [hfs]; exact hu) hst, hfs]
          clear hu hfs hst hp hq
          generalize fs.toList = l at hps
          induction l generalizing ps b with
          | nil =>
            simp at hps
            subst hps
            simp only [eqParts, Option.some.injEq] at hb
            subst hb
            simp [Op.eqFields]
          | cons f l ihl =>
            simp only [List.foldr_cons] at hps
            split at hps
            · rename_i hname
              simp only [Option.bind_eq_some_iff, Option.map_eq_some_iff] at hps
              obtain ⟨e, he, sz, hsz, dd, hdd, ps', hps', rfl⟩ := hps
              simp only [eqParts, Option.bind_eq_some_iff, Option.map_eq_some_iff] at hb
              obtain ⟨x, hx, y, hy, c, hc, r, hr, rfl⟩ := hb
              obtain ⟨x', hx1, hx2⟩ := part_eq (P := P) hru hdd hsz hx
              obtain ⟨y', hy1, hy2⟩ := part_eq (P := P) hrv hdd hsz hy
              have h1 := ih f.type e D x y x' y' c he (by omega) hx2 hy2 hc
              have h2 := ihl r ps' ‹_› ‹_›
              simp only [Op.eqFields]
              rw [if_pos hname]
              simp only [Sem.run_bind, hx1, hy1, h1, Result.andThen_ok]
              cases c
              · simp
              · simp only [Bool.not_true, Bool.false_eq_true, if_false, Bool.true_and]
                exact h2
            · cases hps
        · cases hb
      · cases h
    · rename_i n el hu
      simp only [Option.bind_eq_some_iff, Option.map_eq_some_iff] at h
      obtain ⟨e, he, sz, hsz, dd, hdd, rfl⟩ := h
      simp only [eqE] at hb
      split at hb
      · rename_i xs ys
        obtain ⟨us, rfl, hru⟩ := hp.agg_inv
        obtain ⟨vs, rfl, hrv⟩ := hq.agg_inv
        obtain ⟨i, hi⟩ : ∃ i, P.info? el = some i := by
          unfold szOf at hsz
          cases hi : P.info? el with
          | none => simp [hi] at hsz
          | some i => exact ⟨i, rfl⟩
        rw [run_equalIn_array V.w D _ _ hu hi, cellsOf_of hsz]
        clear hu hp hq
        generalize List.range n = l at hb
        induction l generalizing b with
        | nil =>
          simp only [List.map_nil, eqParts, Option.some.injEq] at hb
          subst hb
          simp [Op.eqItems]
        | cons k l ihl =>
          simp only [List.map_cons, eqParts, Option.bind_eq_some_iff, Option.map_eq_some_iff] at hb
          obtain ⟨x, hx, y, hy, c, hc, r, hr, rfl⟩ := hb
          obtain ⟨x', hx1, hx2⟩ := part_eq (P := P) hru hdd hsz hx
          obtain ⟨y', hy1, hy2⟩ := part_eq (P := P) hrv hdd hsz hy
          have h1 := ih el e D x y x' y' c he (by omega) hx2 hy2 hc
          have h2 := ihl r hr
          simp only [Op.eqItems, Sem.run_bind, hx1, hy1, h1, Result.andThen_ok]
          cases c
          · simp
          · simp only [Bool.not_true, Bool.false_eq_true, if_false, Bool.true_and]
            exact h2
      · cases hb
    · cases h

theorem etyOf_node {P : Program} {T : TypeId} {d : Nat} {e : ETy} (hd : (∃ fs, P.underlying T = some (.struct fs)) ∨ ∃ n el, P.underlying T = some (.array n el)) (he : etyOf P (d + 1) T = some e) : ∃ ps, e = .node ps := by
  simp only [etyOf] at he
  rcases hd with ⟨fs, hu⟩ | ⟨n, el, hu⟩
  · rw [hu] at he
    simp only [] at he
    split at he
    · simp only [Option.map_eq_some_iff] at he
      obtain ⟨ps, _, rfl⟩ := he
      exact ⟨ps, rfl⟩
    · cases he
  · rw [hu] at he
    simp only [Option.bind_eq_some_iff, Option.map_eq_some_iff] at he
    obtain ⟨_, _, _, _, _, _, rfl⟩ := he
    exact ⟨_, rfl⟩

theorem eqa_sound {P : Program} {V : Vw} {T : TypeId} {e : ETy} {p q : PV} {u v : Value} {b : Bool} (hd : (∃ fs, P.underlying T = some (.struct fs)) ∨ ∃ n el, P.underlying T = some (.array n el)) (hg : P.eqGuardType P.depth T = false) (he : etyOf P 20 T = some e)
    (hp : Rep V p u) (hq : Rep V q v) (hb : eqE e p q = some b) (x y : Operand) :
    ((do eqGuard .eql T x y u v; binOp .eql T u v : Sem Value).run P V.w = .ok (.bool b) V.w) ∧ (do eqGuard .neq T x y u v; binOp .neq T u v : Sem Value).run P V.w = .ok (.bool !b) V.w := by
  have hrun := eqE_sound 20 T e 10000 p q u v b he (by omega) hp hq hb
  have hnode : ∃ ps, e = .node ps := etyOf_node (d := 19) hd he
  obtain ⟨ps, rfl⟩ := hnode
  simp only [eqE] at hb
  split at hb
  · obtain ⟨us, rfl, _⟩ := hp.agg_inv
    obtain ⟨vs, rfl, _⟩ := hq.agg_inv
    constructor
    · simp only [Sem.run_bind, run_eqGuard_agg V.w .eql T x y _ _ hg, Result.andThen_ok, run_eql_struct, hrun]
    · simp only [Sem.run_bind, run_eqGuard_agg V.w .neq T x y _ _ hg, Result.andThen_ok, run_neq_struct, hrun]
  · cases hb

theorem eqb_sound {P : Program} {V : Vw} {T : TypeId} {p q : PV} {u v : Value} {b : Bool} (hu : P.underlying T = some .bool)
    (hp : Rep V p u) (hq : Rep V q v) (hb : eqE .bool p q = some b) (x y : Operand) :
    ((do eqGuard .eql T x y u v; binOp .eql T u v : Sem Value).run P V.w = .ok (.bool b) V.w) ∧ (do eqGuard .neq T x y u v; binOp .neq T u v : Sem Value).run P V.w = .ok (.bool !b) V.w := by
  have he : etyOf P (19 + 1) T = some .bool := by unfold etyOf; rw [hu]
  have hrun := eqE_sound 20 T .bool 10000 p q u v b he (by omega) hp hq hb
  simp only [eqE] at hb
  unfold eqBool at hb
  split at hb
  · cases hp.sc_inv
    cases hq.sc_inv
    constructor
    · simp only [eqGuard, binOp, Op.equal, Op.maxDepth, Sem.run_bind, hrun, Result.andThen_ok, Sem.run_pure]
      simp [hrun]
    · simp only [eqGuard, binOp, Op.equal, Op.maxDepth, Sem.run_bind, hrun, Result.andThen_ok, Sem.run_pure]
      simp [hrun]
  · cases hb

theorem build_sound {P : Program} {V : Vw} {s : St} {a : Act} {T : TypeId} {z : List Value} {parts : Array (Nat × Operand)} {ms : List (Nat × Nat × Operand)} {ps : List (Nat × List PV)} {out : List PV} {d : TypeDesc}
    (hs : ∀ t, Rep V (s.s t) (a.tmps.getD t undef)) (hz : zeroOf P T = some z) (hd : P.underlying T = some d) (place : Nat → Option (Nat × Nat))
    (hpl : (∃ fs, d = .struct fs ∧ place = fun i => (fs[i]?).bind fun fd => (szOf P fd.type).map fun sz => (fd.offset, sz)) ∨ (∃ n e sz, d = .array n e ∧ szOf P e = some sz ∧ place = fun i => some (i * sz, sz)))
    (hm : partsOf P place parts.toList = some ms) (hp : partsP s ms = some ps) (hf : fillP (z.map .sc) ps = some out) (hall : ∀ fs, d = .struct fs → ∀ fd ∈ fs, (szOf P fd.type).isSome = true) :
    ∃ u, (Instr.build T (parts.map fun (i, x) => (i, a.eval x))).run P V.w = .ok u V.w ∧ Rep V (.agg out) u := by
  obtain ⟨zv, hzr, hzc⟩ := run_zero (P := P) hz V.w
  rw [partsOf_foldr] at hm
  obtain ⟨arr', h4, h5⟩ := fill_sound (place := place) hs parts.toList ms ps _ out zv.cells hm hp hf (by rw [hzc]; exact zero_rep z)
  refine ⟨.agg arr', ?_, ?_⟩
  · unfold Instr.build
    simp only [Sem.run_bind, hzr, Result.andThen_ok, run_under hd]
    rcases hpl with ⟨fs, rfl, hpl⟩ | ⟨n, e, sz, rfl, hsz, hpl⟩
    · have hmap : ∀ (l : List Field), (∀ fd ∈ l, (szOf P fd.type).isSome = true) → (l.mapM (m := Sem) fun f => do pure (f.offset, ← sizeOf f.type)).run P V.w = .ok (l.map fun fd => (fd.offset, (szOf P fd.type).getD 0)) V.w := by
        intro l
        induction l with
        | nil => intro _; simp
        | cons fd r ih =>
          intro hl
          obtain ⟨sz, hsz⟩ := Option.isSome_iff_exists.1 (hl fd (by simp))
          simp only [List.mapM_cons, Sem.run_bind, run_size hsz, Result.andThen_ok, Sem.run_pure, ih (fun x hx => hl x (by simp [hx])), List.map_cons, hsz, Option.getD_some]
      have hmm : (fs.mapM (m := Sem) fun f => do pure (f.offset, ← sizeOf f.type)).run P V.w = .ok (fs.map fun fd => (fd.offset, (szOf P fd.type).getD 0)) V.w := by
        rw [Array.mapM_eq_mapM_toList]
        simp only [Sem.run_map, hmap fs.toList (fun fd hfd => hall fs rfl fd (by simpa using hfd)), Result.andThen_ok]
        rw [← Array.toList_map, Array.toArray_toList]
      have hpl2 : place = fun i => (fs.map fun fd => (fd.offset, (szOf P fd.type).getD 0))[i]? := by
        rw [hpl]
        funext i
        rw [Array.getElem?_map]
        cases hfi : fs[i]? with
        | none => rfl
        | some fd =>
          have hmem : fd ∈ fs := Array.mem_of_getElem? hfi
          obtain ⟨sz, hsz⟩ := Option.isSome_iff_exists.1 (hall fs rfl fd hmem)
          simp [hsz]
      rw [hpl2] at h4
      simp only [Sem.run_bind, hmm, Result.andThen_ok]
      have e : (parts.map fun (i, x) => (i, a.eval x)).toList = parts.toList.map fun (i, x) => (i, a.eval x) := by simp
      rw [e, h4]
      rfl
    · rw [hpl] at h4
      simp only [Sem.run_bind, run_size hsz, Result.andThen_ok]
      have e : (parts.map fun (i, x) => (i, a.eval x)).toList = parts.toList.map fun (i, x) => (i, a.eval x) := by simp
      rw [e, h4]
      rfl
  · have := cells_rep h5
    simpa using this

end Go.Proofs.Ytifebfkkciaddaa
