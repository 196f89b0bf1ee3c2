/-
  What a body leaves alone; loops told by the slots that they write; ways that part at a test.
-/
import Derived.Test.YtifebfkkciaddaaPvT
set_option linter.unusedVariables false
set_option linter.unusedSimpArgs false
namespace Go.Proofs.Ytifebfkkciaddaa
open Go.RowKit
universe u

/-- The slots that are written, as a row of bits. -/
def bitO : Option Nat → Nat
  | some t => 1 <<< t
  | none => 0
def wrO (o : MO) : Nat := bitO o.dst ||| (match o.op with
  | .st (.tmp t) _ _ true => 1 <<< t
  | _ => 0)
def wrL : List MO → Nat
  | [] => 0
  | o :: r => wrO o ||| wrL r
def wrC : MCode → Nat
  | .region ms _ => wrL ms
  | .seq a b => wrC a ||| wrC b
  | .cond _ a b => wrC a ||| wrC b
  | .block _ c => wrC c
  | .loop c => wrC c
  | _ => 0
def Fr (m : Nat) (s s' : St) : Prop := ∀ t, m.testBit t = false → s'.s t = s.s t
theorem Fr.refl {m : Nat} (s : St) : Fr m s s := fun _ _ => rfl
theorem Fr.trans {m : Nat} {a b c : St} (h : Fr m a b) (k : Fr m b c) : Fr m a c := fun t ht => (k t ht).trans (h t ht)
theorem Fr.left {m n : Nat} {a b : St} (h : Fr m a b) : Fr (m ||| n) a b := fun t ht => h t (by rw [Nat.testBit_or] at ht; simp at ht; exact ht.1)
theorem Fr.right {m n : Nat} {a b : St} (h : Fr n a b) : Fr (m ||| n) a b := fun t ht => h t (by rw [Nat.testBit_or] at ht; simp at ht; exact ht.2)
theorem bit_one {t k : Nat} : (1 <<< t).testBit k = decide (t = k) := by
  rw [Nat.one_shiftLeft, Nat.testBit_two_pow]
theorem put_fr {s : St} {d : Option Nat} {x : PV} {H : Nat → Option PObj} {nx : Nat} : Fr (bitO d) s (put { s with H := H, nx := nx } d x) := by
  intro t ht
  cases d with
  | none => rfl
  | some k =>
    simp only [bitO, bit_one, decide_eq_false_iff_not] at ht
    simp only [put, upd]
    rw [if_neg (fun e => ht e.symm)]
theorem put_fr' {s : St} {d : Option Nat} {x : PV} : Fr (bitO d) s (put s d x) := put_fr (s := s) (H := s.H) (nx := s.nx)

theorem step_fr {id : Nat} {o : MO} {s s' : St} (h : stepM id o s = some s') : Fr (wrO o) s s' := by
  unfold stepM at h
  unfold wrO
  split at h
  · cases h; exact put_fr.left
  · split at h
    · split at h <;> cases h
      · exact put_fr.left
      · exact put_fr'.left
    · cases h
  · split at h
    · simp only [Option.bind_eq_some_iff, Option.map_eq_some_iff] at h
      obtain ⟨_, _, _, _, h⟩ := h
      split at h <;> subst h
      · exact put_fr.left
      · exact put_fr'.left
    · cases h
  · split at h
    · split at h
      · cases h; exact put_fr.left
      · cases h
    · cases h
  · rename_i x v sz fz hop
    split at h
    · simp only [Option.bind_eq_some_iff] at h
      obtain ⟨⟨j, ob⟩, _, h⟩ := h
      split at h
      · rename_i hfz
        split at h
        · rename_i k _ _ _
          cases h
          rw [hop, hfz]
          simp only []
          intro t ht
          rw [Nat.testBit_or, bit_one] at ht
          simp at ht
          refine (put_fr (s := { s with s := upd s.s k (.ptr ob.cells) }) t (by simpa using ht.1)).trans ?_
          simp only [upd]
          rw [if_neg (fun e => ht.2 e.symm)]
        · cases h
      · cases h; exact put_fr.left
    · cases h
  · simp only [Option.map_eq_some_iff] at h
    obtain ⟨⟨_, _⟩, _, rfl⟩ := h
    exact put_fr.left
  · simp only [Option.map_eq_some_iff] at h
    obtain ⟨_, _, rfl⟩ := h
    exact put_fr'.left

theorem opP_fr {P : Program} {pure : Bool} {id : Nat} {o : MO} {K : St → Prop} {s : St} (h : opP P pure id o K s) : opP P pure id o (fun s' => K s' ∧ Fr (wrO o) s s') s := by
  unfold opP at h ⊢
  split at h
  · rename_i hc
    rw [if_pos hc]
    split at h
    · rcases h with ⟨r, h1, h2⟩ | ⟨h0, Q, h1, h2⟩
      · exact .inl ⟨r, h1, h2, put_fr'.left⟩
      · exact .inr ⟨h0, Q, h1, fun H' nx' r hq hn => ⟨h2 H' nx' r hq hn, put_fr.left⟩⟩
    · exact h.elim
  · rename_i hc
    rw [if_neg hc]
    split at h
    · rename_i s' hs
      exact ⟨h, step_fr hs⟩
    · exact h.elim
theorem opG_fr {P : Program} {pure : Bool} {id : Nat} {o : MO} {K : St → Prop} {s : St} (h : opG P pure id o K s) : opG P pure id o (fun s' => K s' ∧ Fr (wrO o) s s') s := by
  unfold opG at h ⊢
  split at h
  · exact opP_fr h
  · split at h
    · split at h
      · rename_i hb; rw [if_pos hb]; exact opP_fr h
      · rename_i hb; rw [if_neg hb]; exact ⟨h, put_fr'.left⟩
    · exact ⟨h, put_fr'.left⟩
    · exact h.elim
theorem runOps_fr {P : Program} {pure : Bool} {base : Nat} {K : St → Prop} : ∀ (l : List (Nat × MO)) (s : St), runOps P pure base l K s → runOps P pure base l (fun s' => K s' ∧ Fr (wrL (l.map (·.2))) s s') s
  | [], s, h => ⟨h, Fr.refl s⟩
  | (i, o) :: l, s, h => opG_mono (fun s1 h1 => runOps_mono (fun s2 h2 => ⟨h2.1, (Fr.left h1.2).trans (Fr.right h2.2)⟩) l s1 (runOps_fr l s1 h1.1)) (opG_fr h)
theorem num_snd : ∀ (k : Nat) (l : List MO), (num k l).map (·.2) = l
  | _, [] => rfl
  | k, o :: l => by rw [num_cons, List.map_cons, num_snd (k + 1) l]

theorem pw_fr {P : Program} : ∀ (c : MCode) {Q : Exit → St → Prop} {s : St}, pw P c Q s → pw P c (fun e s' => Q e s' ∧ Fr (wrC c) s s') s := by
  intro c
  induction c with
  | skip => intro Q s h; exact ⟨h, Fr.refl s⟩
  | ret => intro Q s h; exact ⟨h, Fr.refl s⟩
  | exit id => intro Q s h; exact ⟨h, Fr.refl s⟩
  | region ms d =>
    intro Q s h
    rw [c_region] at h ⊢
    have := runOps_fr _ _ h
    rw [num_snd] at this
    exact runOps_mono (fun s' h' => ⟨h'.1, h'.2⟩) _ _ this
  | seq a b iha ihb =>
    intro Q s h
    rw [c_seq] at h ⊢
    refine pw_mono a (fun e s1 h1 => ?_) (iha h)
    cases e with
    | normal => exact pw_mono b (fun e2 s2 h2 => ⟨h2.1, (Fr.left h1.2).trans (Fr.right h2.2)⟩) (ihb h1.1)
    | _ => exact ⟨h1.1, Fr.left h1.2⟩
  | cond c a b iha ihb =>
    intro Q s h
    rw [c_cond] at h ⊢
    unfold condP at h ⊢
    split at h
    · rename_i t _
      cases t with
      | true => exact pw_mono a (fun e s1 h1 => ⟨h1.1, Fr.left h1.2⟩) (iha h)
      | false => exact pw_mono b (fun e s1 h1 => ⟨h1.1, Fr.right h1.2⟩) (ihb h)
    · exact h.elim
  | block id c ih =>
    intro Q s h
    rw [c_block] at h ⊢
    refine pw_mono c (fun e s1 h1 => ?_) (ih h)
    cases e with
    | exit j =>
      simp only [blockP] at h1 ⊢
      by_cases hj : j = id
      · rw [if_pos hj] at h1 ⊢; exact h1
      · rw [if_neg hj] at h1 ⊢; exact h1
    | _ => exact h1
  | loop c ih =>
    intro Q s h
    obtain ⟨I, h0, hI⟩ := h
    refine ⟨fun k s' => I k s' ∧ Fr (wrC c) s s', h0.imp fun k hk => ⟨hk, Fr.refl s⟩, fun k s1 ⟨hk, hf⟩ => pw_mono c (fun e s2 h2 => ?_) (ih (hI k s1 hk))⟩
    cases e with
    | normal =>
      obtain ⟨⟨k', h3, h4⟩, h5⟩ := h2
      exact ⟨k', h3, h4, hf.trans h5⟩
    | _ => exact ⟨h2.1, hf.trans h2.2⟩

/-- Slots that were written, over slots that weren't. -/
def ovr (W : Nat) (f g : Nat → PV) : Nat → PV := fun t => if W.testBit t = true then f t else g t
theorem ovr_get {W : Nat} {f g : Nat → PV} {t : Nat} : ovr W f g t = if (W >>> t) % 2 = 1 then f t else g t := by
  unfold ovr
  rw [Nat.testBit_eq_decide_div_mod_eq, Nat.shiftRight_eq_div_pow]
  simp

/-- What is to be shown at a round's end: left as it is till then. -/
def Nx (I : Nat → (Nat → PV) → (Nat → Option PObj) → Nat → Prop) (k : Nat) (s : St) : Prop := ∃ k', k' < k ∧ I k' s.s s.H s.nx
theorem Nx.mk {I : Nat → (Nat → PV) → (Nat → Option PObj) → Nat → Prop} {k : Nat} {f : Nat → PV} {H : Nat → Option PObj} {nx : Nat} (k' : Nat) (h : k' < k) (hi : I k' f H nx) : Nx I k ⟨f, H, nx⟩ := ⟨k', h, hi⟩
theorem c_loopW {P : Program} {Q : Exit → St → Prop} {s : St} {c : MCode} (W : Nat) (hW : wrC c = W) (I : Nat → (Nat → PV) → (Nat → Option PObj) → Nat → Prop) (k0 : Nat) (h0 : I k0 s.s s.H s.nx)
    (h : ∀ k f H nx, I k f H nx → pw P c (thenP (Nx I k) Q) ⟨ovr W f s.s, H, nx⟩) : pw P (.loop c) Q s := by
  refine ⟨fun k s' => I k s'.s s'.H s'.nx ∧ Fr W s s', ⟨k0, h0, Fr.refl s⟩, fun k s1 ⟨hk, hf⟩ => ?_⟩
  have e : s1 = ⟨ovr W s1.s s.s, s1.H, s1.nx⟩ := by
    cases s1 with
    | mk s H nx =>
      simp only [St.mk.injEq, and_true]
      funext t
      unfold ovr
      split
      · rfl
      · rename_i ht; exact hf t (by simpa using ht)
  have h2 := h k s1.s s1.H s1.nx hk
  rw [← e] at h2
  refine pw_mono c (fun e s2 h3 => ?_) (pw_fr c h2)
  cases e with
  | normal =>
    obtain ⟨⟨k', h4, h5⟩, h6⟩ := h3
    rw [hW] at h6
    exact ⟨k', h4, h5, hf.trans h6⟩
  | _ => exact h3.1

theorem zlt {n : Nat} : (0 < n + 1) = True := by simp

theorem ite_neN {α : Sort u} {a b : Nat} {x y : α} (h : a ≠ b) : (if a = b then x else y) = y := if_neg h
theorem ite_eqN {α : Sort u} {a b : Nat} {x y : α} (h : a = b) : (if a = b then x else y) = x := if_pos h

theorem frz_agg1 {k : Nat} {H : Nat → Option PObj} {xs : List PV} : frz (k + 1) H (.agg xs) = .agg (xs.map (frz k H)) := rfl
theorem frz_tup1 {k : Nat} {H : Nat → Option PObj} {xs : List PV} : frz (k + 1) H (.tup xs) = .tup (xs.map (frz k H)) := rfl
theorem frz_sc1 {k : Nat} {H : Nat → Option PObj} {v : Value} : frz k H (.sc v) = .sc v := by cases k <;> rfl
theorem frz_sl1 {k : Nat} {H : Nat → Option PObj} {sz : Nat} {es : List (List PV)} : frz k H (.sl sz es) = .sl sz es := by cases k <;> rfl
theorem frz_ptr1 {k : Nat} {H : Nat → Option PObj} {es : List PV} : frz k H (.ptr es) = .ptr es := by cases k <;> rfl
theorem upd_gone {H : Nat → Option PObj} {i j : Nat} {x : Option PObj} {o : PObj} (h : H j = some o) (hij : j ≠ i) : upd H i x j = some o := by unfold upd; rw [if_neg hij, h]

/-! Ways that part. -/
section
variable {A B K : St → Prop} {s : St} {d : Option Nat}
theorem cond_ways {b : Bool} (ht : b = true → A s) (hf : b = false → B s) : condP (.sc (.bool b)) A B s := by
  cases b
  · exact hf rfl
  · exact ht rfl
theorem cond_if {p : Prop} [Decidable p] (ht : p → A s) (hf : ¬ p → B s) : condP (.sc (.bool (decide p))) A B s := by
  by_cases h : p
  · rw [decide_eq_true h]; exact ht h
  · rw [decide_eq_false h]; exact hf h
theorem cond_pos {p : Prop} [Decidable p] (h : p) (ht : p → A s) : condP (.sc (.bool (decide p))) A B s := by rw [decide_eq_true h]; exact ht h
theorem cond_neg {p : Prop} [Decidable p] (h : ¬ p) (hf : ¬ p → B s) : condP (.sc (.bool (decide p))) A B s := by rw [decide_eq_false h]; exact hf h
theorem guard_pos {p : Prop} [Decidable p] {w : Bool} (h : p) (ht : p → (if true = w then A s else K (put s d (.sc undef)))) : guardK (.sc (.bool (decide p))) w A K d s := by rw [decide_eq_true h]; exact ht h
theorem guard_neg {p : Prop} [Decidable p] {w : Bool} (h : ¬ p) (hf : ¬ p → (if false = w then A s else K (put s d (.sc undef)))) : guardK (.sc (.bool (decide p))) w A K d s := by rw [decide_eq_false h]; exact hf h
theorem cond_ifn {p : Prop} [Decidable p] (ht : ¬ p → A s) (hf : p → B s) : condP (.sc (.bool (decide (¬ p)))) A B s := cond_if ht fun h => hf (Decidable.not_not.1 h)
theorem cond_waysn {b : Bool} (ht : b = false → A s) (hf : b = true → B s) : condP (.sc (.bool (!b))) A B s := by
  cases b
  · exact ht rfl
  · exact hf rfl
theorem guard_ways {b w : Bool} (ht : b = true → (if true = w then A s else K (put s d (.sc undef)))) (hf : b = false → (if false = w then A s else K (put s d (.sc undef)))) : guardK (.sc (.bool b)) w A K d s := by
  cases b
  · exact hf rfl
  · exact ht rfl
theorem guard_if {p : Prop} [Decidable p] {w : Bool} (ht : p → (if true = w then A s else K (put s d (.sc undef)))) (hf : ¬ p → (if false = w then A s else K (put s d (.sc undef)))) : guardK (.sc (.bool (decide p))) w A K d s := by
  by_cases h : p
  · rw [decide_eq_true h]; exact ht h
  · rw [decide_eq_false h]; exact hf h
theorem guard_ifn {p : Prop} [Decidable p] {w : Bool} (ht : ¬ p → (if true = w then A s else K (put s d (.sc undef)))) (hf : p → (if false = w then A s else K (put s d (.sc undef)))) : guardK (.sc (.bool (decide (¬ p)))) w A K d s := guard_if ht fun h => hf (Decidable.not_not.1 h)
theorem guard_waysn {b w : Bool} (ht : b = false → (if true = w then A s else K (put s d (.sc undef)))) (hf : b = true → (if false = w then A s else K (put s d (.sc undef)))) : guardK (.sc (.bool (!b))) w A K d s := by
  cases b
  · exact ht rfl
  · exact hf rfl
theorem call_lend {P : Program} {b : Bool} {f : FuncId} {args args' : List PV} {r : PV} (h : PPure P f args' r) (ha : args.map (brw s.H) = args') (hi : immL args' = true) (hf : r.flat = true) (hk : K (put s d r)) : callP P b true f args d K s := .inl ⟨r, .inr ⟨rfl, hf, by rw [ha]; exact hi, by rw [ha]; exact h⟩, hk⟩
theorem call_id {P : Program} {b lend : Bool} {f : FuncId} {args : List PV} (h : callP P b lend f args d K s) : callP P b lend f args d K s := h
end

/-! What is a call's own may be given away: it is nobody's from then on. -/
def less (G : Nat → Bool) (H : Nat → Option PObj) : Nat → Option PObj := fun id => if G id = true then none else H id
def frg (G : Nat → Bool) : Nat → (Nat → Option PObj) → PV → PV
  | 0, _, x => x
  | k + 1, H, .optr id off => if G id = true then (match H id with
    | some o => .ptr ((o.cells.drop off).map (frg G k H))
    | none => .optr id off) else .optr id off
  | k + 1, H, .osl id off len sz => if G id = true then (match H id with
    | some o => if off + len * sz ≤ o.cells.length then .sl sz (chunks sz len (((o.cells.drop off).take (len * sz)).map (frg G k H))) else .osl id off len sz
    | none => .osl id off len sz) else .osl id off len sz
  | k + 1, H, .agg xs => .agg (xs.map (frg G k H))
  | k + 1, H, .tup xs => .tup (xs.map (frg G k H))
  | k + 1, H, .fn f xs => .fn f (xs.map (frg G k H))
  | _ + 1, _, x => x
theorem less_leq (w0 : World) (ok0 : Nat → Prop) (G : Nat → Bool) (H : Nat → Option PObj) (rho : Nat → Option Nat) (w : World) : (viewOf w0 ok0 H rho w).Leq (viewOf w0 ok0 (less G H) rho w) :=
  ⟨fun b hb => ⟨hb.1, fun id o ho => hb.2 id o (by unfold less at ho; split at ho; cases ho; exact ho)⟩, fun _ _ _ => rfl, fun _ _ h => h, fun _ _ c T fr _ hh => ⟨c, T, fr, hh, Nat.le_refl _⟩⟩
theorem less_some {G : Nat → Bool} {H : Nat → Option PObj} {id : Nat} {o : PObj} (h : less G H id = some o) : G id = false ∧ H id = some o := by
  unfold less at h
  split at h
  · cases h
  · rename_i hg; exact ⟨by simpa using hg, h⟩
theorem less_rel {w0 : World} {ok0 : Nat → Prop} {G : Nat → Bool} {H : Nat → Option PObj} {rho : Nat → Option Nat} {w : World} (hH : RelH w0 ok0 H rho w) : RelH w0 ok0 (less G H) rho w :=
  ⟨hH.okb, hH.bel, fun id o ho => by
    obtain ⟨b, h1, h2, h3⟩ := hH.own id o (less_some ho).2
    exact ⟨b, h1, h2, h3.mono (less_leq ..) rfl⟩, fun id id' b h h' => hH.inj id id' b (by cases hq : less G H id with | none => exact absurd hq h | some o => rw [(less_some hq).2]; simp) (by cases hq : less G H id' with | none => exact absurd hq h' | some o => rw [(less_some hq).2]; simp)⟩
theorem frg_sound {w0 : World} {ok0 : Nat → Prop} {G : Nat → Bool} {H : Nat → Option PObj} {rho : Nat → Option Nat} {w : World} (hH : RelH w0 ok0 H rho w) : ∀ (k : Nat) (x : PV) (v : Value), Rep (viewOf w0 ok0 H rho w) x v → Rep (viewOf w0 ok0 (less G H) rho w) (frg G k H x) v := by
  have hok : ∀ id b o, G id = true → H id = some o → rho id = some b → w0.heap.size ≤ b → b < w.heap.size → (viewOf w0 ok0 (less G H) rho w).ok b := by
    intro id b o hg ho hr h1 h2
    refine ⟨.inr ⟨h1, h2⟩, fun id' o' ho' e => ?_⟩
    obtain ⟨h3, h4⟩ := less_some ho'
    have := hH.inj id id' b (by rw [ho]; simp) (by rw [h4]; simp) hr e
    rw [this, h3] at hg
    cases hg
  intro k
  induction k with
  | zero => intro x v h; exact h.mono (less_leq ..)
  | succ k ih =>
    intro x v h
    cases x with
    | optr id off =>
      simp only [frg]
      split
      · rename_i hg
        cases ho : H id with
        | none => exact h.mono (less_leq ..)
        | some o =>
          obtain ⟨b, rfl, hb⟩ := h.optr_inv
          obtain ⟨b', hb', hlow, hobj⟩ := hH.own id o ho
          have hb2 : rho id = some b := hb
          rw [hb2] at hb'
          cases hb'
          have hlt := hobj.lt
          have hk := hok id b o hg ho hb2 hlow hlt
          obtain ⟨c, T, hh, hle, _, hrr⟩ := hobj
          by_cases hoff : off ≤ o.cells.length
          · obtain ⟨vs, h1, h2, h3⟩ := obj_cells ⟨c, T, hh, hle, by assumption, hrr⟩ off (o.cells.length - off) (by omega)
            have e : (o.cells.drop off).take (o.cells.length - off) = o.cells.drop off := List.take_of_length_le (by simp)
            rw [e] at h1
            exact .ptr_mk hk (map_repl ih h1) h3
          · have e : o.cells.drop off = [] := List.drop_eq_nil_of_le (by omega)
            show Rep _ (.ptr ((o.cells.drop off).map (frg G k H))) _
            rw [e]
            exact .ptr_mk (vs := []) hk RepL.nil (fun i u hu => by simp at hu)
      · exact h.mono (less_leq ..)
    | osl id off len sz =>
      simp only [frg]
      split
      · rename_i hg
        cases ho : H id with
        | none => exact h.mono (less_leq ..)
        | some o =>
          simp only []
          split
          · rename_i hfit
            obtain ⟨b, cap, c0, T0, fr0, rfl, hb, h1, h2, _, _⟩ := h.osl_inv
            obtain ⟨b', hb', hlow, hobj⟩ := hH.own id o ho
            have hb2 : rho id = some b := hb
            rw [hb2] at hb'
            cases hb'
            have hlt := hobj.lt
            have hk := hok id b o hg ho hb2 hlow hlt
            obtain ⟨vs, h3, h4, h5⟩ := obj_cells hobj off (len * sz) hfit
            have hm := map_repl (f := frg G k H) ih h3
            obtain ⟨c1, c2, c3⟩ := chunks_spec sz len (((o.cells.drop off).take (len * sz)).map (frg G k H)) (by simp; omega)
            refine .sl sz _ b off len cap c2 c3 h1 h2 ?_
            rw [c1]
            exact .ptr_mk hk hm h5
          · exact h.mono (less_leq ..)
      · exact h.mono (less_leq ..)
    | agg xs =>
      obtain ⟨vs, rfl, hr⟩ := h.agg_inv
      exact cells_rep (map_repl ih hr)
    | tup xs =>
      obtain ⟨vs, rfl, hr⟩ := h.tup_inv
      have := map_repl (f := frg G k H) ih hr
      exact .tup _ _ this.1 this.2
    | fn f xs =>
      cases h with
      | fn _ _ vs hl hr =>
        have := map_repl (f := frg G k H) (V := viewOf w0 ok0 H rho w) (V' := viewOf w0 ok0 (less G H) rho w) ih ⟨hl, hr⟩
        exact .fn f _ _ this.1 this.2
    | sc u => exact h.mono (less_leq ..)
    | ptr cs => exact h.mono (less_leq ..)
    | sl sz es => exact h.mono (less_leq ..)
theorem PMut.give {P : Program} {f : FuncId} {args : List PV} {H : Nat → Option PObj} {nx : Nat} {Q : (Nat → Option PObj) → Nat → PV → Prop} (G : Nat → Bool) (k : Nat) (h : PMut P f (args.map (frg G k H)) (less G H) nx Q) : PMut P f args H nx Q := by
  refine ⟨h.1, fun w0 ok0 rho w vals hH hfree hv => ?_⟩
  refine (h.2 w0 ok0 rho w vals (less_rel hH) hfree (map_repl (fun x v hx => frg_sound hH k x v hx) hv)).mono ?_
  rintro e w' ⟨v, H', nx', r, rho', h1, h2, h3, h4, h5⟩
  exact ⟨v, H', nx', r, rho', h1, h2, h3, (less_leq ..).trans h4, h5⟩
theorem PPure.mut {P : Program} {f : FuncId} {args : List PV} {r : PV} {H : Nat → Option PObj} {nx : Nat} (h : PPure P f args r) : PMut P f args H nx (fun H' nx' r' => H' = H ∧ nx' = nx ∧ r' = r) := by
  refine ⟨h.1, fun w0 ok0 rho w vals hH hfree hv => ?_⟩
  refine (pure_core h hH hfree hv).mono ?_
  rintro e w' ⟨v, he, h1, h2, h3, h4⟩
  refine ⟨v, H, nx, r, rho, he, ⟨rfl, rfl, rfl⟩, h1, h2, Nat.le_refl _, hfree, fun _ _ => rfl, h3.mono ?_⟩
  refine ⟨fun b hk => ?_, fun b off hk => rfl, fun _ _ h => h, fun id b c T fr hk hh => ⟨c, T, fr, hh, Nat.le_refl _⟩⟩
  have hsz := hH.bel.size
  rcases hk with h5 | h5
  · exact h2.ok b h5
  · have h1a : w.heap.size ≤ b := h5.1
    refine ⟨.inr ⟨by omega, h5.2⟩, fun id o ho e => ?_⟩
    obtain ⟨b', h6, h7, h8⟩ := hH.own id o ho
    rw [e] at h6
    cases h6
    have := h8.lt
    have h9 : (viewOf w0 ok0 H rho w).w.heap.size = w.heap.size := rfl
    omega
/-- A call that is given what is the caller's own, for good. -/
theorem call_give {P : Program} {lend : Bool} {f : FuncId} {args args' : List PV} {r : PV} {s : St} {d : Option Nat} {K : St → Prop} (G : Nat → Bool) (k : Nat) (h : PPure P f args' r) (ha : args.map (frg G k s.H) = args')
    (hk : K (put { s with H := less G s.H } d r)) : callP P false lend f args d K s :=
  by
  have hm : PMut P f args s.H s.nx (fun H' nx' r' => H' = less G s.H ∧ nx' = s.nx ∧ r' = r) := PMut.give G k (by rw [ha]; exact PPure.mut h)
  exact .inr ⟨rfl, _, hm, fun H' nx' r' ⟨h1, h2, h3⟩ _ => by rw [h1, h2, h3]; exact hk⟩

/-! Short names of the rules that a walk rewrites by. -/
theorem q0 : type_of% @List.map_cons := @List.map_cons
theorem q1 : type_of% @List.map_nil := @List.map_nil
theorem q2 : type_of% @Option.map_some := @Option.map_some
theorem q3 : type_of% @Option.bind_some := @Option.bind_some
theorem q4 : type_of% @List.length_cons := @List.length_cons
theorem q5 : type_of% @List.length_nil := @List.length_nil
theorem q6 : type_of% @List.drop_succ_cons := @List.drop_succ_cons
theorem q7 : type_of% @List.drop_zero := @List.drop_zero
theorem q8 : type_of% @List.take_succ_cons := @List.take_succ_cons
theorem q9 : type_of% @List.take_zero := @List.take_zero
theorem q10 : type_of% @List.head?_cons := @List.head?_cons
theorem q11 : type_of% @List.cons_append := @List.cons_append
theorem q12 : type_of% @List.nil_append := @List.nil_append
theorem q13 : type_of% @List.all_cons := @List.all_cons
theorem q14 : type_of% @List.all_nil := @List.all_nil
theorem q15 : type_of% @Nat.zero_add := @Nat.zero_add
theorem q16 : type_of% @Nat.add_zero := @Nat.add_zero
theorem q17 : type_of% @Nat.le_refl := @Nat.le_refl
theorem q18 : type_of% @Nat.zero_le := @Nat.zero_le
theorem q19 : type_of% @Bool.false_eq_true := @Bool.false_eq_true
theorem q20 : type_of% @Bool.true_eq_false := @Bool.true_eq_false
theorem q21 : type_of% @Bool.and_true := @Bool.and_true
theorem q22 : type_of% @Bool.true_and := @Bool.true_and
theorem q23 : type_of% @and_self := @and_self
theorem q24 : type_of% @and_true := @and_true
theorem q25 : type_of% @true_and := @true_and
theorem q26 : type_of% @if_true := @if_true
theorem q27 : type_of% @if_false := @if_false
theorem q28 : type_of% @ite_true := @ite_true
theorem q29 : type_of% @ite_false := @ite_false
theorem q30 : type_of% @Int.toNat_natCast := @Int.toNat_natCast
theorem q31 : type_of% @Int.natCast_nonneg := @Int.natCast_nonneg
theorem q32 : type_of% @List.getElem?_map := @List.getElem?_map
theorem q33 : type_of% @ge_iff_le := @ge_iff_le
theorem q34 : type_of% @gt_iff_lt := @gt_iff_lt
theorem q35 : type_of% @Int.ofNat_le := @Int.ofNat_le
theorem q36 : type_of% @Int.ofNat_lt := @Int.ofNat_lt
theorem q37 : type_of% @decide_true := @decide_true
theorem q38 : type_of% @decide_false := @decide_false
theorem q39 : type_of% @Bool.not_true := @Bool.not_true
theorem q40 : type_of% @Bool.not_false := @Bool.not_false
theorem q41 : type_of% @List.length_map := @List.length_map
theorem q42 : type_of% @ne_eq := @ne_eq
theorem q43 : type_of% @not_true_eq_false := @not_true_eq_false
theorem q44 : type_of% @not_false_eq_true := @not_false_eq_true
theorem q45 : type_of% @Int.natCast_inj := @Int.natCast_inj
theorem q46 : type_of% @Int.natCast_eq_zero := @Int.natCast_eq_zero
theorem q47 : type_of% @List.getElem?_cons_zero := @List.getElem?_cons_zero
theorem q48 : type_of% @List.getElem?_cons_succ := @List.getElem?_cons_succ
theorem q49 : type_of% @Int.cast_ofNat_Int := @Int.cast_ofNat_Int
theorem q50 : type_of% @true_or := @true_or
theorem q51 : type_of% @or_true := @or_true
theorem q52 : type_of% @List.flatten_cons := @List.flatten_cons
theorem q53 : type_of% @List.flatten_nil := @List.flatten_nil
theorem q54 : type_of% @List.flatMap_append := @List.flatMap_append
theorem q55 : type_of% @List.flatMap_cons := @List.flatMap_cons
theorem q56 : type_of% @List.flatMap_nil := @List.flatMap_nil
theorem q57 : type_of% @eq_self := @eq_self
theorem q58 : type_of% @Bool.false_and := @Bool.false_and
theorem q59 : type_of% @Bool.and_false := @Bool.and_false
theorem q60 : type_of% @Bool.or_true := @Bool.or_true
theorem q61 : type_of% @Bool.true_or := @Bool.true_or
theorem q62 : type_of% @Bool.or_false := @Bool.or_false
theorem q63 : type_of% @Bool.false_or := @Bool.false_or
theorem q64 : type_of% @beq_self_eq_true := @beq_self_eq_true
theorem q65 : type_of% @Nat.lt_add_one := @Nat.lt_add_one
theorem q66 : type_of% @Nat.mul_one := @Nat.mul_one
theorem q67 : type_of% @Nat.one_mul := @Nat.one_mul
end Go.Proofs.Ytifebfkkciaddaa
