/-
  Plain values: PkT, PkU, PkV, PkW, PkX, TqA, TqB, Tm2, DeA, DeB, DeE, PkY, PkZ, PkC, PkD.
-/
import Derived.Laws.Strings
import Derived.Test.YtnelciclibknpaaXRa
import Derived.Test.YtnelciclibknpaaXRb
import Derived.Test.YtnelciclibknpaaXRc
import Derived.Test.YtnelciclibknpaaXRd
import Derived.Test.YtnelciclibknpaaXRe
import Derived.Test.YtnelciclibknpaaXRf
import Derived.Test.YtnelciclibknpaaXRg
set_option linter.unusedVariables false
set_option linter.unusedSimpArgs false
namespace Go.Proofs.Ytnelciclibknpaa
open Go.RowKit
attribute [local go_sem ↓] c_seq c_region c_cond c_block c_ret c_skip c_exit c_cont t_normal t_ret t_exit b_normal b_ret b_exit run_nil run_cons g_some o_mv o_pick o_bin o_un o_ld o_ldf o_bld o_len o_mkf o_nilc o_fa o_fd o_ia o_iaa o_ix o_ixs o_ext o_al o_bxf o_bxt o_bsl o_bslf o_mks o_st o_stf o_call o_rng o_nxt o_callm o_callmA o_calvm o_calv cond_true cond_false upd_get sigF_cons o_eqa o_mm o_app o_slc o_apps o_cvt
attribute [local go_sem] num_nil num_cons isP chunks rngV next_is next_iter val_some new_some st_some stf_some guard_tt guard_ff guard_tf guard_ft guard_un calv_fn put_some put_none ev_tmp ev_const ev_func sig_eq sigF_nil q0 q1 nilcV faV fdV iaV iaaV ixV ixsV extV mksV loadP storeP lenPV binPV unPV intBin partsP fillP zeros PV.good PV.cellsOf PV.one q2 q3 q4 q5 q6 q7 q8 q9 q10 q11 q12 q13 q14 q15 q16 q17 q18 q19 q20 q21 q22 q23 q24 q25 q26 q27 q28 q29 q30 q31 q32 q33 q34 q35 q36 q37 q38 wrap64 app_some mmL mmV mm2 eqE eqParts eqInt eqBool eqStr partV q39 q40 pickV q41 q42 q43 q44 q45 q46 q47 q48 q49 appE oldOf rowOf updL q50 q51 q52 q53 zlt ovr_get ite_neN ite_eqN q54 q55 q56 q57 q58 q59 q60 q61 q62 q63 q64 q65 q66 q67 tailP_f tailP_t tailF_f tailF_t slcP bndO capO slcLen intOf Option.isSome_none Option.isNone_none Option.isSome_some Option.isNone_some nilP slc_sl slc_csl slc_osl slc_osl0 slc_ocap slc_str appR appS cvP shiftB false_or List.append_nil List.length_append resP resPs resP1 PV.sc.injEq Value.bool.injEq Value.int.injEq
section
theorem frg_fix {V : Vw} {nx : Nat} (hfree : ∀ id, nx ≤ id → V.rho id = none) : ∀ (k : Nat) (x : PV) (v : Value), Rep V x v → ∀ (G : Nat → Bool) (H : Nat → Option PObj), (∀ j, j < nx → G j = false) → frgF G k H x = x := by
  have low : ∀ id b, V.rho id = some b → id < nx := fun id b h => by
    by_cases hlt : id < nx
    · exact hlt
    · rw [hfree id (by omega)] at h
      cases h
  have many : ∀ {k : Nat}, (∀ (x : PV) (v : Value), Rep V x v → ∀ (G : Nat → Bool) (H : Nat → Option PObj), (∀ j, j < nx → G j = false) → frgF G k H x = x) →
      ∀ {xs : List PV} {vs : List Value}, RepL V xs vs → ∀ (G : Nat → Bool) (H : Nat → Option PObj), (∀ j, j < nx → G j = false) → xs.map (frgF G k H) = xs := by
    intro k ih xs vs hr G H hG
    refine (List.map_congr_left fun x hx => ?_).trans (List.map_id xs)
    obtain ⟨i, hi, rfl⟩ := List.mem_iff_getElem.1 hx
    have hiv : i < vs.length := hr.1 ▸ hi
    exact ih _ _ (hr.2 i _ _ (List.getElem?_eq_getElem hi) (List.getElem?_eq_getElem hiv)) G H hG
  intro k
  induction k with
  | zero => intro x v h G H hG; rfl
  | succ k ih =>
    intro x v h G H hG
    cases x with
    | optr id off =>
      obtain ⟨b, rfl, hb⟩ := h.optr_inv
      simp [frgF, hG id (low id b hb)]
    | osl id off len sz =>
      obtain ⟨b, cap, c0, T0, fr0, rfl, hb, _⟩ := h.osl_inv
      simp [frgF, hG id (low id b hb)]
    | agg xs =>
      obtain ⟨vs, rfl, hr⟩ := h.agg_inv
      simp only [frgF, many ih hr G H hG]
    | tup xs =>
      obtain ⟨vs, rfl, hr⟩ := h.tup_inv
      simp only [frgF, many ih hr G H hG]
    | fn f xs =>
      cases h with
      | fn _ _ vs hl hr => simp only [frgF, many ih ⟨hl, hr⟩ G H hG]
    | _ => rfl
theorem relH_fix {w0 : World} {ok0 : Nat → Prop} {H : Nat → Option PObj} {rho : Nat → Option Nat} {w : World} {nx : Nat} (hH : RelH w0 ok0 H rho w) (hfree : ∀ id, nx ≤ id → rho id = none) : ∀ j o, H j = some o → FixL nx o.cells := by
  intro j o hj G k H' hG
  obtain ⟨b, h1, h2, h3⟩ := hH.own j o hj
  rcases h3 with ⟨c, T, hh, l1, l2, l3⟩ | ⟨s, pos, rfl, hh⟩ | ⟨kv, es, clk, rfl, hh, hm⟩
  · refine (List.map_congr_left fun x hx => ?_).trans (List.map_id _)
    obtain ⟨i, hi, rfl⟩ := List.mem_iff_getElem.1 hx
    obtain ⟨v, hv⟩ : ∃ v, c[i]? = some v := ⟨_, Array.getElem?_eq_getElem (by omega)⟩
    exact frg_fix hfree k _ v (l3 i _ v (List.getElem?_eq_getElem hi) hv) G H' hG
  · cases k <;> rfl
  · cases k <;> rfl
theorem PMut.start {P : Program} {f : FuncId} {args : List PV} {H : Nat → Option PObj} {nx : Nat} {Q : (Nat → Option PObj) → Nat → PV → Prop} (he : enters P f = true)
    (h : (∀ j o, H j = some o → j < nx ∧ FixL nx o.cells) → PMut P f args H nx Q) : PMut P f args H nx Q := by
  refine ⟨he, fun w0 ok0 rho w vals hH hfree hv => (h fun j o hj => ⟨?_, relH_fix hH hfree j o hj⟩).2 w0 ok0 rho w vals hH hfree hv⟩
  obtain ⟨b, hb, _⟩ := hH.own j o hj
  by_cases hlt : j < nx
  · exact hlt
  · rw [hfree j (by omega)] at hb
    cases hb
theorem toldL_leq {w0 : World} {ok0 : Nat → Prop} {H H2 : Nat → Option PObj} {rho : Nat → Option Nat} {w : World} (ht : ∀ id o2, H2 id = some o2 → H id = some o2) : (viewOf w0 ok0 H rho w).Leq (viewOf w0 ok0 H2 rho w) :=
  ⟨fun b hb => ⟨hb.1, fun id o2 ho => hb.2 id o2 (ht id o2 ho)⟩, fun _ _ => rfl, fun _ _ h => h, fun _ _ c T fr _ hh => ⟨c, T, fr, hh, Nat.le_refl _⟩, Nat.le_refl _⟩
theorem toldL_rel {w0 : World} {ok0 : Nat → Prop} {H H2 : Nat → Option PObj} {rho : Nat → Option Nat} {w : World} (ht : ∀ id o2, H2 id = some o2 → H id = some o2) (hH : RelH w0 ok0 H rho w) : RelH w0 ok0 H2 rho w := by
  refine ⟨hH.okb, hH.bel, fun id o2 ho => ?_, fun id id' b h h' => ?_⟩
  · obtain ⟨b, h1, h2, h3⟩ := hH.own id o2 (ht id o2 ho)
    exact ⟨b, h1, h2, h3.mono (toldL_leq ht) rfl⟩
  · have key : ∀ id, H2 id ≠ none → H id ≠ none := fun id h => by
      obtain ⟨o2, ho⟩ := Option.ne_none_iff_exists'.1 h
      rw [ht id o2 ho]
      simp
    exact hH.inj id id' b (key id h) (key id' h')
theorem PMut.tell {P : Program} {f : FuncId} {args : List PV} {H : Nat → Option PObj} {nx : Nat} {Q Q2 : (Nat → Option PObj) → Nat → PV → Prop} (h : PMut P f args H nx Q)
    (hq : ∀ H' nx' r, Q H' nx' r → (∀ j o, j < nx → H' j = some o → FixL nx o.cells) ∧ ∃ k r2, Weak (frgF (fun j => decide (nx ≤ j)) k H' r) r2 ∧ Q2 (fun j => if j < nx then H' j else none) nx' r2) : PMut P f args H nx Q2 := by
  refine ⟨h.1, fun w0 ok0 rho w vals hH hfree hv => (h.2 w0 ok0 rho w vals hH hfree hv).mono ?_⟩
  rintro e w' ⟨v, H', nx', r, rho', h1, h2, h3, h4, h5, h6, h7, h8⟩
  obtain ⟨g1, k, r2, g2, g3⟩ := hq H' nx' r h2
  have ht : ∀ id o2, (fun j => if j < nx then H' j else none) id = some o2 → lessC (fun j => decide (nx ≤ j)) k H' id = some o2 := by
    intro id o2 ho
    have ho : (if id < nx then H' id else none) = some o2 := ho
    split at ho
    · rename_i hlt
      have := g1 id o2 hlt ho (fun j => decide (nx ≤ j)) k H' (fun j hj => by simp; omega)
      simp only [lessC, Nat.not_le.2 hlt, decide_false, Bool.false_eq_true, if_false, ho, Option.map_some, this]
    · cases ho
  exact ⟨v, _, nx', r2, rho', h1, g3, toldL_rel ht (lessC_rel h3), ((h4.trans (less_leq ..)).trans (less_lessC ..)).trans (toldL_leq ht), h5, h6, h7, (g2 _ _ ((frgF_sound h3 k r v h8).mono (less_lessC ..))).mono (toldL_leq ht)⟩
end
section
set_option maxRecDepth 20000
attribute [local go_sem] Nat.add_assoc id_ne id_ne' id_ne2 List.append_assoc pv_len pv_take pv_one
def repF {α : Type} (g : RS → α × RS) : Nat → RS → List α × RS
  | 0, s => ([], s)
  | n + 1, s => ((repF g n s).1 ++ [(g (repF g n s).2).1], (g (repF g n s).2).2)
theorem repF_len {α : Type} (g : RS → α × RS) : ∀ (n : Nat) (s : RS), (repF g n s).1.length = n
  | 0, s => rfl
  | n + 1, s => by simp [repF, repF_len g n s]
def levelF : Nat → RS → Lv × RS
  | 0, s => (.mk 0 0 [], roomF (numF s).2)
  | f + 1, s =>
    if (roomF (numF s).2).bad = true then (.mk 0 0 [], roomF (numF s).2)
    else if (numF s).1 = 1 ∨ (numF s).1 = 2 then (.mk (numF s).1 (numF (roomF (numF s).2)).1 [], (numF (roomF (numF s).2)).2)
    else if (numF s).1 = 3 then (.mk 3 0 (repF (levelF f) 1 (roomF (numF s).2)).1, (repF (levelF f) 1 (roomF (numF s).2)).2)
    else if (numF s).1 = 4 ∨ (numF s).1 = 5 then (.mk (numF s).1 0 (repF (levelF f) 2 (roomF (numF s).2)).1, (repF (levelF f) 2 (roomF (numF s).2)).2)
    else (.mk (numF s).1 0 [], ⟨(roomF (numF s).2).l, (roomF (numF s).2).nodes, true⟩)
def Rdy (fuel : Nat) (s : RS) : Prop := s.bad = true ∨ (0 ≤ s.nodes ∧ s.nodes ≤ 2000 ∧ 2001 ≤ (fuel : Int) + s.nodes)
theorem numF_nodes (s : RS) : (numF s).2.nodes = s.nodes := by unfold numF; split <;> rfl
theorem numF_bad (s : RS) (h : (numF s).2.bad = false) : s.bad = false ∧ (Plain.tk s.l).2 ≠ 0 := by
  unfold numF at h
  split at h
  · cases h
  · rename_i h0; exact ⟨h, h0⟩
theorem nameF_nodes (s : RS) : (nameF s).2.nodes = s.nodes := by unfold nameF; split <;> rfl
theorem nameF_bad (s : RS) (h : (nameF s).2.bad = false) : s.bad = false := by
  unfold nameF at h
  split at h
  · cases h
  · exact h
theorem roomF_bad (s : RS) (h : (roomF s).bad = false) : s.bad = false ∧ (roomF s).nodes ≤ 2000 := by
  unfold roomF at h ⊢
  simp only [Bool.or_eq_false_iff, decide_eq_false_iff_not] at h
  exact ⟨h.1, by have := h.2; show IntKind.i64.wrap (s.nodes + 1) ≤ 2000; omega⟩
theorem roomF_nodes (s : RS) (h0 : 0 ≤ s.nodes) (h1 : s.nodes ≤ 2000) : (roomF s).nodes = s.nodes + 1 := by
  unfold roomF
  simp only
  rw [IntKind.wrap_i64]
  omega
theorem room_step {fuel : Nat} {s : RS} (h : Rdy fuel s) (hb : (roomF (numF s).2).bad = false) : s.bad = false ∧ 0 ≤ s.nodes ∧ (roomF (numF s).2).nodes = s.nodes + 1 ∧ s.nodes + 1 ≤ 2000 ∧ 2001 ≤ (fuel : Int) + s.nodes := by
  obtain ⟨h1, h2⟩ := roomF_bad _ hb
  obtain ⟨h3, -⟩ := numF_bad s h1
  rcases h with h | ⟨g1, g2, g3⟩
  · rw [h3] at h; cases h
  · have := roomF_nodes (numF s).2 (by rw [numF_nodes]; exact g1) (by rw [numF_nodes]; exact g2)
    rw [numF_nodes] at this
    exact ⟨h3, g1, this, by omega, g3⟩
def Step (s s' : RS) : Prop := s'.bad = true ∨ (s.bad = false ∧ s.nodes ≤ s'.nodes ∧ s'.nodes ≤ 2000)
theorem Step.rdy {fuel : Nat} {s s' : RS} (h : Step s s') (hr : Rdy fuel s) : Rdy fuel s' := by
  rcases h with h | ⟨h1, h2, h3⟩
  · exact .inl h
  · rcases hr with g | ⟨g1, g2, g3⟩
    · rw [h1] at g; cases g
    · exact .inr ⟨by omega, h3, by omega⟩
theorem Step.trans {s s' s2 : RS} (h : Step s s') (g : Step s' s2) : Step s s2 := by
  rcases g with g | ⟨g1, g2, g3⟩
  · exact .inl g
  · rcases h with h | ⟨h1, h2, h3⟩
    · rw [h] at g1; cases g1
    · exact .inr ⟨h1, by omega, g3⟩
theorem Step.num {s : RS} (h : s.bad = false → s.nodes ≤ 2000) : Step s (numF s).2 := by
  cases hb : (numF s).2.bad with
  | true => exact .inl hb
  | false => exact .inr ⟨(numF_bad s hb).1, by rw [numF_nodes]; omega, by rw [numF_nodes]; exact h (numF_bad s hb).1⟩
theorem Step.name {s : RS} (h : s.bad = false → s.nodes ≤ 2000) : Step s (nameF s).2 := by
  cases hb : (nameF s).2.bad with
  | true => exact .inl hb
  | false => exact .inr ⟨nameF_bad s hb, by rw [nameF_nodes]; omega, by rw [nameF_nodes]; exact h (nameF_bad s hb)⟩
theorem Rdy.top {fuel : Nat} {s : RS} (h : Rdy fuel s) (hb : s.bad = false) : s.nodes ≤ 2000 := by
  rcases h with h | h
  · rw [hb] at h; cases h
  · exact h.2.1
theorem rep_step {α : Type} {g : RS → α × RS} {fuel : Nat} (hg : ∀ s, Rdy fuel s → Step s (g s).2) : ∀ (n : Nat) (s : RS), Rdy fuel s → Step s (repF g n s).2
  | 0, s, h => by
    cases hb : s.bad with
    | true => exact .inl hb
    | false => exact .inr ⟨hb, Int.le_refl _, h.top hb⟩
  | n + 1, s, h => by
    have h1 := rep_step hg n s h
    exact h1.trans (hg _ (h1.rdy h))
theorem level_step : ∀ (fuel : Nat) (s : RS), Rdy fuel s → Step s (levelF fuel s).2
  | 0, s, h => by
    cases hb : (roomF (numF s).2).bad with
    | true => exact .inl hb
    | false =>
      obtain ⟨h1, h2, h3, h4, h5⟩ := room_step h hb
      omega
  | f + 1, s, h => by
    unfold levelF
    cases hb : (roomF (numF s).2).bad with
    | true => rw [if_pos rfl]; exact .inl hb
    | false =>
      rw [if_neg (by simp)]
      obtain ⟨h1, h2, h3, h4, h5⟩ := room_step h hb
      have hs : Step s (roomF (numF s).2) := .inr ⟨h1, by omega, by omega⟩
      have hr : Rdy f (roomF (numF s).2) := .inr ⟨by omega, by omega, by omega⟩
      split
      · exact hs.trans (.num fun _ => by omega)
      · split
        · exact hs.trans (rep_step (level_step f) 1 _ hr)
        · split
          · exact hs.trans (rep_step (level_step f) 2 _ hr)
          · exact .inl rfl
theorem rep_shrink {α : Type} {g : RS → α × RS} (hg : ∀ s, (g s).2.l.length ≤ s.l.length) : ∀ (n : Nat) (s : RS), (repF g n s).2.l.length ≤ s.l.length
  | 0, s => Nat.le_refl _
  | n + 1, s => Nat.le_trans (hg _) (rep_shrink hg n s)
theorem roomF_l (s : RS) : (roomF s).l = s.l := rfl
theorem level_shrink : ∀ (fuel : Nat) (s : RS), (levelF fuel s).2.l.length ≤ s.l.length
  | 0, s => numF_len s
  | f + 1, s => by
    have h1 := numF_len s
    have h2 := numF_len (roomF (numF s).2)
    have h3 := rep_shrink (level_shrink f) 1 (roomF (numF s).2)
    have h4 := rep_shrink (level_shrink f) 2 (roomF (numF s).2)
    rw [roomF_l] at h2 h3 h4
    unfold levelF
    (repeat' split) <;> simp only [roomF_l] <;> omega
def LRow {α : Type} (f : α → List PV) (sz : Nat) (H : Nat → Option PObj) (lo m : Nat) (a : PV) (xs : List α) : Prop := (xs = [] ∧ a = .sc (.slice none 0 0)) ∨ ∃ id w, lo ≤ id ∧ id < m ∧ a = .osl id 0 xs.length sz ∧ H id = some ⟨xs.flatMap f, w⟩
theorem LRow.frg {α : Type} {f : α → List PV} {sz : Nat} (hf : ∀ x, (f x).length = sz) {H : Nat → Option PObj} {lo m : Nat} {a : PV} {xs : List α} (h : LRow f sz H lo m a xs) (G : Nat → Bool) (hG : ∀ j, lo ≤ j → G j = true) : Weak (frgF G 1 H a) (.sl sz (xs.map f)) := by
  rcases h with ⟨rfl, rfl⟩ | ⟨id, w, h1, h2, rfl, h4⟩
  · exact .nil sz
  · have hl : (xs.flatMap f).length = xs.length * sz := flat_lenG f sz hf xs
    simp only [frgF, hG id h1, if_true, h4, List.drop_zero]
    rw [if_pos (by omega), List.take_of_length_le (by omega)]
    refine .trans (Weak.fslW (es' := xs.map f) (by rw [chunks_length, List.length_map]) (fun e he => ?_) ?_) (Weak.fsl sz _)
    · obtain ⟨x, _, rfl⟩ := List.mem_map.1 he; exact hf x
    · rw [List.map_id', chunks_flatten sz xs.length _ (by omega), List.flatMap_def]
      exact .refl _
theorem LRow.weak {α : Type} {f : α → List PV} {sz : Nat} {H H' : Nat → Option PObj} {lo m m' : Nat} {a : PV} {xs : List α} (h : LRow f sz H lo m a xs) (hm : m ≤ m') (hH : ∀ j, lo ≤ j → j < m → H' j = H j) : LRow f sz H' lo m' a xs := by
  rcases h with h | ⟨id, w, h1, h2, h3, h4⟩
  · exact .inl h
  · exact .inr ⟨id, w, h1, by omega, h3, by rw [hH id h1 h2, h4]⟩
theorem rdC_imm (s : RS) : immL (rdC s) = true := by simp [rdC, immL, rowB_imm, PV.imm]
theorem rd_tell {f : FuncId} {args : List PV} {H : Nat → Option PObj} {nx rid : Nat} {w : Bool} {s : RS} {x : PV} (he : enters Try.prog f = true) (hr : rid < nx)
    (h : PMut Try.prog f args H nx (fun H' nx' r => nx ≤ nx' ∧ (∃ k, Weak (frgF (fun j => decide (nx ≤ j)) k H' r) x) ∧ H' rid = some ⟨rdC s, w⟩ ∧ ∀ j, j < nx → j ≠ rid → H' j = H j)) :
    PMut Try.prog f args H nx (RdQ H nx rid w s x) := by
  refine PMut.start he fun hlow => PMut.tell h ?_
  rintro H' nx' r ⟨h1, ⟨k, h2⟩, h3, h4⟩
  refine ⟨fun j o hj ho => ?_, k, x, h2, h1, rfl, ?_, fun j g1 g2 => ?_⟩
  · by_cases e : j = rid
    · subst e
      rw [h3] at ho
      cases ho
      exact FixL.imm (rdC_imm s)
    · rw [h4 j hj e] at ho
      exact (hlow j o ho).2
  · simp only [hr, if_true]; exact h3
  · simp only [g1, if_true]; exact h4 j g1 g2
set_option maxHeartbeats 8000000 in
theorem levels_m {fuel : Nat} {g : RS → Lv × RS} (hgs : ∀ s, Rdy fuel s → Step s (g s).2) (hgl : ∀ s, (g s).2.l.length ≤ s.l.length)
    (hg : ∀ s, Rdy fuel s → s.l.length ≤ 2 ^ 40 → ∀ (rid : Nat) (w : Bool) (H : Nat → Option PObj) (nx : Nat), rid < nx → H rid = some ⟨rdC s, w⟩ → PMut Try.prog F.pack_reader_level [.optr rid 0] H nx (RdQ H nx rid w (g s).2 (.agg (g s).1.pv)))
    (n : Nat) (hn : n ≤ 10) (s : RS) (hs : Rdy fuel s) (hl : s.l.length ≤ 2 ^ 40) (rid : Nat) (w : Bool) (H : Nat → Option PObj) (nx : Nat) (hr : rid < nx) (hH : H rid = some ⟨rdC s, w⟩) :
    PMut Try.prog F.pack_reader_levels [.optr rid 0, .sc (.int .i64 n)] H nx (RdQ H nx rid w (repF g n s).2 (.sl 3 ((repF g n s).1.map Lv.pv))) := by
  refine rd_tell is_pack_reader_levels.enters hr ?_
  refine mut_by is_pack_reader_levels (by simp) fun hb => ?_
  clear hb
  repeat' (first | ((with_reducible first | refine wA (by omega) ?_ | refine wB (by omega) ?_ | refine wC (by omega) ?_ | refine wD (by omega) ?_ | refine wE ?_ ?_ | refine wF ?_ ?_ | refine wG ?_ ?_ | refine wH ?_ ?_ | refine wI ?_ ?_ | refine wJ ?_ ?_ | refine wK ?_ ?_ | refine wL ?_ ?_) <;> intro _) | simp (maxSteps := 1000000) (disch := omega) only [go_sem, Nat.reduceAdd, Nat.reduceMul, Nat.reduceSub, Nat.reduceLeDiff, Nat.reduceEqDiff, Nat.reduceBEq, ↓reduceIte, reduceCtorEq, Int.reduceEq, Int.reduceLE, Int.reduceLT, Int.reduceAdd, Int.reduceSub, Int.reduceNeg, Int.reduceToNat, Int.reduceNe, Nat.reducePow, Nat.reduceShiftRight, Nat.reduceMod, mc_pack_reader_levels, *])
  refine c_loopW 32672 (by kernel_rfl) (fun j f H2 m => ∃ i : Nat, j = n - i ∧ i ≤ n ∧ f 7 = .sc (.int .i64 i) ∧ nx ≤ m ∧ Kept (LRow Lv.pv 3 H2 nx m (f 5) (repF g i s).1) ∧ H2 rid = some ⟨rdC (repF g i s).2, w⟩ ∧ Kept (∀ j, j < nx → j ≠ rid → H2 j = H j)) _ ⟨0, rfl, Nat.zero_le _, cE1, cE1, ?rr, hH, Kept.mk fun _ _ _ => rfl⟩ ?_
  case rr => refine Kept.mk (.inl ⟨rfl, cE1⟩)
  rintro _ f H2 m ⟨i, rfl, hi, e7, hm, hrow, hrd, hk⟩
  by_cases hlt : i < n
  · have hst := rep_step hgs i s hs
    have hll := rep_shrink hgl i s
    have c1 := hg (repF g i s).2 (hst.rdy hs) (by omega) rid w
    repeat' (first | ((with_reducible first | refine wA (by omega) ?_ | refine wB (by omega) ?_ | refine wC (by omega) ?_ | refine wD (by omega) ?_ | refine wE ?_ ?_ | refine wF ?_ ?_ | refine wG ?_ ?_ | refine wH ?_ ?_ | refine wI ?_ ?_ | refine wJ ?_ ?_ | refine wK ?_ ?_ | refine wL ?_ ?_) <;> intro _) | simp (maxSteps := 1000000) (disch := omega) only [go_sem, Nat.reduceAdd, Nat.reduceMul, Nat.reduceSub, Nat.reduceLeDiff, Nat.reduceEqDiff, Nat.reduceBEq, ↓reduceIte, reduceCtorEq, Int.reduceEq, Int.reduceLE, Int.reduceLT, Int.reduceAdd, Int.reduceSub, Int.reduceNeg, Int.reduceToNat, Int.reduceNe, Nat.reducePow, Nat.reduceShiftRight, Nat.reduceMod, *])
    refine call_mut (c1 H2 _ (Nat.lt_of_lt_of_le hr (Nat.le_trans hm (Nat.le_add_right _ _))) hrd) ?_
    rintro H3 m3 r3 ⟨g1', rfl, g3, g4'⟩ -
    have hm3 : m + 7 ≤ m3 := g1'
    have g1 : m ≤ m3 := Nat.le_trans (Nat.le_add_right _ _) g1'
    have g4 : Kept (∀ j, j < m → j ≠ rid → H3 j = H2 j) := fun j h1 h2 => g4' j (Nat.lt_of_lt_of_le h1 (Nat.le_add_right _ _)) h2
    have hlen := repF_len g i s
    have hE1 : (repF g (i + 1) s).1 = (repF g i s).1 ++ [(g (repF g i s).2).1] := rfl
    have hE2 : (repF g (i + 1) s).2 = (g (repF g i s).2).2 := rfl
    rw [← hE2] at g3
    generalize (g (repF g i s).2).1 = x at *
    clear c1 hst hll g1' g4'
    have hrm : rid < m := Nat.lt_of_lt_of_le hr hm
    obtain ⟨h0, e5⟩ | ⟨id, w', h1, h2, e5, h4⟩ := hrow
    · have hi0 : i = 0 := by rw [← hlen, h0]; rfl
      subst hi0
      repeat' (first | ((with_reducible first | refine wA (by omega) ?_ | refine wB (by omega) ?_ | refine wC (by omega) ?_ | refine wD (by omega) ?_ | refine wE ?_ ?_ | refine wF ?_ ?_ | refine wG ?_ ?_ | refine wH ?_ ?_ | refine wI ?_ ?_ | refine wJ ?_ ?_ | refine wK ?_ ?_ | refine wL ?_ ?_) <;> intro _) | simp (maxSteps := 1000000) (disch := omega) only [go_sem, Nat.reduceAdd, Nat.reduceMul, Nat.reduceSub, Nat.reduceLeDiff, Nat.reduceEqDiff, Nat.reduceBEq, ↓reduceIte, reduceCtorEq, Int.reduceEq, Int.reduceLE, Int.reduceLT, Int.reduceAdd, Int.reduceSub, Int.reduceNeg, Int.reduceToNat, Int.reduceNe, Nat.reducePow, Nat.reduceShiftRight, Nat.reduceMod, *])
      refine Nx.mk (n - 1) cE1 ⟨1, rfl, cE1, cE1, ?mm, ?rr, ?hh, ?kk⟩
      case mm => exact Nat.le_trans hm (Nat.le_trans g1 (Nat.le_add_right _ _))
      case rr =>
        refine Kept.mk (.inr ⟨m + 5, false, by omega, by omega, cE1, ?_⟩)
        rw [upd_same]
        simp [hE1, h0]
      case hh => rw [upd_ne _ _ (show rid ≠ m + 5 by omega)]; exact g3
      case kk => exact Kept.mk fun j k1 k2 => by rw [upd_ne _ _ (show j ≠ m + 5 by omega), g4 j (Nat.lt_of_lt_of_le k1 hm) k2]; exact hk j k1 k2
    · have h5 : H3 id = some ⟨(repF g i s).1.flatMap Lv.pv, w'⟩ := by rw [g4 id h2 (fun e => by omega)]; exact h4
      have hfl : ((repF g i s).1.flatMap Lv.pv).length = i * 3 := by rw [flat_lenG _ 3 pv_len, hlen]
      have hz : (i + 1) * 40 ≤ 140737488355328 ∧ i ≤ 4611686018427387903 := by omega
      rw [hlen] at e5
      clear h4
      repeat' (first | ((with_reducible first | refine wA (by omega) ?_ | refine wB (by omega) ?_ | refine wC (by omega) ?_ | refine wD (by omega) ?_ | refine wE ?_ ?_ | refine wF ?_ ?_ | refine wG ?_ ?_ | refine wH ?_ ?_ | refine wI ?_ ?_ | refine wJ ?_ ?_ | refine wK ?_ ?_ | refine wL ?_ ?_) <;> intro _) | simp (maxSteps := 1000000) (disch := omega) only [go_sem, Nat.reduceAdd, Nat.reduceMul, Nat.reduceSub, Nat.reduceLeDiff, Nat.reduceEqDiff, Nat.reduceBEq, ↓reduceIte, reduceCtorEq, Int.reduceEq, Int.reduceLE, Int.reduceLT, Int.reduceAdd, Int.reduceSub, Int.reduceNeg, Int.reduceToNat, Int.reduceNe, Nat.reducePow, Nat.reduceShiftRight, Nat.reduceMod, *])
      refine Nx.mk (n - (i + 1)) cE1 ⟨i + 1, rfl, cE1, cE1, ?mm, ?rr, ?hh, ?kk⟩
      case mm => exact Nat.le_trans hm (Nat.le_trans g1 (Nat.le_add_right _ _))
      case rr =>
        refine Kept.mk (.inr ⟨m + 5, false, by omega, by omega, ?_, ?_⟩)
        · simp only [upd_get, Nat.reduceEqDiff, ↓reduceIte]
          rw [hE1, List.length_append, hlen]; rfl
        · rw [upd_same]
          simp [hE1]
      case hh => rw [upd_ne _ _ (show rid ≠ m + 5 by omega), upd_ne _ _ (show rid ≠ id by omega)]; exact g3
      case kk => exact Kept.mk fun j k1 k2 => by rw [upd_ne _ _ (show j ≠ m + 5 by omega), upd_ne _ _ (show j ≠ id by omega), g4 j (Nat.lt_of_lt_of_le k1 hm) k2]; exact hk j k1 k2
  · obtain rfl : i = n := by omega
    repeat' (first | ((with_reducible first | refine wA (by omega) ?_ | refine wB (by omega) ?_ | refine wC (by omega) ?_ | refine wD (by omega) ?_ | refine wE ?_ ?_ | refine wF ?_ ?_ | refine wG ?_ ?_ | refine wH ?_ ?_ | refine wI ?_ ?_ | refine wJ ?_ ?_ | refine wK ?_ ?_ | refine wL ?_ ?_) <;> intro _) | simp (maxSteps := 1000000) (disch := omega) only [go_sem, Nat.reduceAdd, Nat.reduceMul, Nat.reduceSub, Nat.reduceLeDiff, Nat.reduceEqDiff, Nat.reduceBEq, ↓reduceIte, reduceCtorEq, Int.reduceEq, Int.reduceLE, Int.reduceLT, Int.reduceAdd, Int.reduceSub, Int.reduceNeg, Int.reduceToNat, Int.reduceNe, Nat.reducePow, Nat.reduceShiftRight, Nat.reduceMod, *])
    refine fin_mut (f 5) (.inr rfl) cE2 ⟨Nat.le_trans hm (Nat.le_add_right _ _), ⟨1, hrow.out.frg pv_len _ fun j hj => by simpa using hj⟩, hrd, hk⟩
end
section
set_option maxRecDepth 20000
attribute [local go_sem] Nat.add_assoc id_ne id_ne' id_ne2 List.append_assoc pv_len pv_take pv_one
theorem upd_out {α : Type} {f : Nat → α} {k j : Nat} {x : α} {y : α} (h : j ≠ k) (g : f j = y) : upd f k x j = y := by rw [upd_ne _ _ h]; exact g
theorem lv0_weak (k n : Int) : Weak (.agg [.sc (.int .i64 k), .sc (.int .i64 n), .sc (.slice none 0 0)]) (.agg (Lv.mk k n []).pv) := by
  simp only [Lv.pv]
  exact Weak.agg ⟨.refl _, .refl _, .nil 3, trivial⟩
set_option maxHeartbeats 16000000 in
theorem level_m : ∀ (fuel : Nat) (s : RS), Rdy fuel s → s.l.length ≤ 2 ^ 40 → ∀ (rid : Nat) (w : Bool) (H : Nat → Option PObj) (nx : Nat), rid < nx → H rid = some ⟨rdC s, w⟩ →
    PMut Try.prog F.pack_reader_level [.optr rid 0] H nx (RdQ H nx rid w (levelF fuel s).2 (.agg (levelF fuel s).1.pv)) := by
  intro fuel
  induction fuel with
  | zero =>
    intro s hs hl rid w H nx hr hH
    refine rd_tell is_pack_reader_level.enters hr ?_
    refine mut_by is_pack_reader_level (by simp) fun hb => ?_
    clear hb
    have hbad : (roomF (numF s).2).bad = true := by
      cases hb : (roomF (numF s).2).bad with
      | true => rfl
      | false => obtain ⟨h1, h2, h3, h4, h5⟩ := room_step hs hb; omega
    unfold levelF
    simp only
    have hl1 : (numF s).2.l.length ≤ 2 ^ 40 := Nat.le_trans (numF_len s) hl
    repeat' (first | ((with_reducible first | refine wA (by omega) ?_ | refine wB (by omega) ?_ | refine wC (by omega) ?_ | refine wD (by omega) ?_ | refine wE ?_ ?_ | refine wF ?_ ?_ | refine wG ?_ ?_ | refine wH ?_ ?_ | refine wI ?_ ?_ | refine wJ ?_ ?_ | refine wK ?_ ?_ | refine wL ?_ ?_) <;> intro _) | simp (maxSteps := 1000000) (disch := omega) only [go_sem, Nat.reduceAdd, Nat.reduceMul, Nat.reduceSub, Nat.reduceLeDiff, Nat.reduceEqDiff, Nat.reduceBEq, ↓reduceIte, reduceCtorEq, Int.reduceEq, Int.reduceLE, Int.reduceLT, Int.reduceAdd, Int.reduceSub, Int.reduceNeg, Int.reduceToNat, Int.reduceNe, Nat.reducePow, Nat.reduceShiftRight, Nat.reduceMod, mc_pack_reader_level, *])
    refine call_mut (number_m s hl rid w _ _ (Nat.lt_of_lt_of_le hr (Nat.le_add_right _ _)) (upd_out (by omega) hH)) ?_
    rintro H1 m1 r1 ⟨hm1', rfl, g1, k1'⟩ -
    have hm1 : nx + 6 ≤ m1 := hm1'
    have b1 : H1 nx = some ⟨[.sc (.int .i64 0), .sc (.int .i64 0), .sc (.slice none 0 0)], true⟩ := (k1' nx (Nat.lt_add_of_pos_right (by decide)) (by omega)).trans (upd_same _ _ _)
    have k1 : Kept (∀ j, j < nx → j ≠ rid → H1 j = H j) := fun j e1 e2 => (k1' j (Nat.lt_of_lt_of_le e1 (Nat.le_add_right _ _)) e2).trans (upd_ne _ _ (by omega))
    clear hm1' k1' hH
    generalize (numF s).1 = k at *
    generalize (numF s).2 = s1 at *
    repeat' (first | ((with_reducible first | refine wA (by omega) ?_ | refine wB (by omega) ?_ | refine wC (by omega) ?_ | refine wD (by omega) ?_ | refine wE ?_ ?_ | refine wF ?_ ?_ | refine wG ?_ ?_ | refine wH ?_ ?_ | refine wI ?_ ?_ | refine wJ ?_ ?_ | refine wK ?_ ?_ | refine wL ?_ ?_) <;> intro _) | simp (maxSteps := 1000000) (disch := omega) only [go_sem, Nat.reduceAdd, Nat.reduceMul, Nat.reduceSub, Nat.reduceLeDiff, Nat.reduceEqDiff, Nat.reduceBEq, ↓reduceIte, reduceCtorEq, Int.reduceEq, Int.reduceLE, Int.reduceLT, Int.reduceAdd, Int.reduceSub, Int.reduceNeg, Int.reduceToNat, Int.reduceNe, Nat.reducePow, Nat.reduceShiftRight, Nat.reduceMod, *])
    refine call_mut (room_m s1 rid w _ _ (show rid < _ from Nat.lt_of_lt_of_le (show rid < m1 by omega) (Nat.le_add_right _ _)) (upd_out (by omega) (upd_out (by omega) g1))) ?_
    rintro H2 m2 r2 ⟨hm2', rfl, g2, k2'⟩ -
    have hm2 : m1 ≤ m2 := Nat.le_trans (Nat.le_add_right _ _) hm2'
    have b2 : H2 nx = some ⟨[.sc (.int .i64 0), .sc (.int .i64 0), .sc (.slice none 0 0)], true⟩ := (k2' nx (Nat.lt_of_lt_of_le (show nx < m1 by omega) (Nat.le_add_right _ _)) (by omega)).trans (upd_out (by omega) (upd_out (by omega) b1))
    have b3 : H2 (nx + 4) = some ⟨[.sc (.int .i64 k), .sc (.int .i64 0), .sc (.slice none 0 0)], true⟩ := (k2' (nx + 4) (Nat.lt_of_lt_of_le (show nx + 4 < m1 by omega) (Nat.le_add_right _ _)) (by omega)).trans (upd_same _ _ _)
    have k2 : Kept (∀ j, j < nx → j ≠ rid → H2 j = H j) := fun j e1 e2 => (k2' j (Nat.lt_of_lt_of_le (show j < m1 by omega) (Nat.le_add_right _ _)) e2).trans (upd_out (by omega) (upd_out (by omega) (k1 j e1 e2)))
    clear hm2' k2' k1 b1 g1
    have hl2 : (roomF s1).l.length ≤ 2 ^ 40 := hl1
    rw [hbad]
    generalize roomF s1 = s2 at *
    clear hl1
    repeat' (first | ((with_reducible first | refine wA (by omega) ?_ | refine wB (by omega) ?_ | refine wC (by omega) ?_ | refine wD (by omega) ?_ | refine wE ?_ ?_ | refine wF ?_ ?_ | refine wG ?_ ?_ | refine wH ?_ ?_ | refine wI ?_ ?_ | refine wJ ?_ ?_ | refine wK ?_ ?_ | refine wL ?_ ?_) <;> intro _) | simp (maxSteps := 1000000) (disch := omega) only [go_sem, Nat.reduceAdd, Nat.reduceMul, Nat.reduceSub, Nat.reduceLeDiff, Nat.reduceEqDiff, Nat.reduceBEq, ↓reduceIte, reduceCtorEq, Int.reduceEq, Int.reduceLE, Int.reduceLT, Int.reduceAdd, Int.reduceSub, Int.reduceNeg, Int.reduceToNat, Int.reduceNe, Nat.reducePow, Nat.reduceShiftRight, Nat.reduceMod, *])
    refine fin_mut (.agg [.sc (.int .i64 0), .sc (.int .i64 0), .sc (.slice none 0 0)]) (.inr rfl) cE2 ⟨Nat.le_trans (Nat.le_trans (Nat.le_trans (Nat.le_add_right _ _) hm1) hm2) (Nat.le_add_right _ _), ⟨0, lv0_weak 0 0⟩, upd_out (by omega) g2, fun j e1 e2 => upd_out (by omega) (k2 j e1 e2)⟩
  | succ fuel ih =>
  intro s hs hl rid w H nx hr hH
  refine rd_tell is_pack_reader_level.enters hr ?_
  refine mut_by is_pack_reader_level (by simp) fun hb => ?_
  clear hb
  unfold levelF
  cases hbad : (roomF (numF s).2).bad with
  | true =>
    rw [if_pos rfl]
    simp only
    have hl1 : (numF s).2.l.length ≤ 2 ^ 40 := Nat.le_trans (numF_len s) hl
    repeat' (first | ((with_reducible first | refine wA (by omega) ?_ | refine wB (by omega) ?_ | refine wC (by omega) ?_ | refine wD (by omega) ?_ | refine wE ?_ ?_ | refine wF ?_ ?_ | refine wG ?_ ?_ | refine wH ?_ ?_ | refine wI ?_ ?_ | refine wJ ?_ ?_ | refine wK ?_ ?_ | refine wL ?_ ?_) <;> intro _) | simp (maxSteps := 1000000) (disch := omega) only [go_sem, Nat.reduceAdd, Nat.reduceMul, Nat.reduceSub, Nat.reduceLeDiff, Nat.reduceEqDiff, Nat.reduceBEq, ↓reduceIte, reduceCtorEq, Int.reduceEq, Int.reduceLE, Int.reduceLT, Int.reduceAdd, Int.reduceSub, Int.reduceNeg, Int.reduceToNat, Int.reduceNe, Nat.reducePow, Nat.reduceShiftRight, Nat.reduceMod, mc_pack_reader_level, *])
    refine call_mut (number_m s hl rid w _ _ (Nat.lt_of_lt_of_le hr (Nat.le_add_right _ _)) (upd_out (by omega) hH)) ?_
    rintro H1 m1 r1 ⟨hm1', rfl, g1, k1'⟩ -
    have hm1 : nx + 6 ≤ m1 := hm1'
    have b1 : H1 nx = some ⟨[.sc (.int .i64 0), .sc (.int .i64 0), .sc (.slice none 0 0)], true⟩ := (k1' nx (Nat.lt_add_of_pos_right (by decide)) (by omega)).trans (upd_same _ _ _)
    have k1 : Kept (∀ j, j < nx → j ≠ rid → H1 j = H j) := fun j e1 e2 => (k1' j (Nat.lt_of_lt_of_le e1 (Nat.le_add_right _ _)) e2).trans (upd_ne _ _ (by omega))
    clear hm1' k1' hH
    generalize (numF s).1 = k at *
    generalize (numF s).2 = s1 at *
    repeat' (first | ((with_reducible first | refine wA (by omega) ?_ | refine wB (by omega) ?_ | refine wC (by omega) ?_ | refine wD (by omega) ?_ | refine wE ?_ ?_ | refine wF ?_ ?_ | refine wG ?_ ?_ | refine wH ?_ ?_ | refine wI ?_ ?_ | refine wJ ?_ ?_ | refine wK ?_ ?_ | refine wL ?_ ?_) <;> intro _) | simp (maxSteps := 1000000) (disch := omega) only [go_sem, Nat.reduceAdd, Nat.reduceMul, Nat.reduceSub, Nat.reduceLeDiff, Nat.reduceEqDiff, Nat.reduceBEq, ↓reduceIte, reduceCtorEq, Int.reduceEq, Int.reduceLE, Int.reduceLT, Int.reduceAdd, Int.reduceSub, Int.reduceNeg, Int.reduceToNat, Int.reduceNe, Nat.reducePow, Nat.reduceShiftRight, Nat.reduceMod, *])
    refine call_mut (room_m s1 rid w _ _ (show rid < _ from Nat.lt_of_lt_of_le (show rid < m1 by omega) (Nat.le_add_right _ _)) (upd_out (by omega) (upd_out (by omega) g1))) ?_
    rintro H2 m2 r2 ⟨hm2', rfl, g2, k2'⟩ -
    have hm2 : m1 ≤ m2 := Nat.le_trans (Nat.le_add_right _ _) hm2'
    have b2 : H2 nx = some ⟨[.sc (.int .i64 0), .sc (.int .i64 0), .sc (.slice none 0 0)], true⟩ := (k2' nx (Nat.lt_of_lt_of_le (show nx < m1 by omega) (Nat.le_add_right _ _)) (by omega)).trans (upd_out (by omega) (upd_out (by omega) b1))
    have b3 : H2 (nx + 4) = some ⟨[.sc (.int .i64 k), .sc (.int .i64 0), .sc (.slice none 0 0)], true⟩ := (k2' (nx + 4) (Nat.lt_of_lt_of_le (show nx + 4 < m1 by omega) (Nat.le_add_right _ _)) (by omega)).trans (upd_same _ _ _)
    have k2 : Kept (∀ j, j < nx → j ≠ rid → H2 j = H j) := fun j e1 e2 => (k2' j (Nat.lt_of_lt_of_le (show j < m1 by omega) (Nat.le_add_right _ _)) e2).trans (upd_out (by omega) (upd_out (by omega) (k1 j e1 e2)))
    clear hm2' k2' k1 b1 g1
    have hl2 : (roomF s1).l.length ≤ 2 ^ 40 := hl1
    rw [hbad]
    generalize roomF s1 = s2 at *
    clear hl1
    repeat' (first | ((with_reducible first | refine wA (by omega) ?_ | refine wB (by omega) ?_ | refine wC (by omega) ?_ | refine wD (by omega) ?_ | refine wE ?_ ?_ | refine wF ?_ ?_ | refine wG ?_ ?_ | refine wH ?_ ?_ | refine wI ?_ ?_ | refine wJ ?_ ?_ | refine wK ?_ ?_ | refine wL ?_ ?_) <;> intro _) | simp (maxSteps := 1000000) (disch := omega) only [go_sem, Nat.reduceAdd, Nat.reduceMul, Nat.reduceSub, Nat.reduceLeDiff, Nat.reduceEqDiff, Nat.reduceBEq, ↓reduceIte, reduceCtorEq, Int.reduceEq, Int.reduceLE, Int.reduceLT, Int.reduceAdd, Int.reduceSub, Int.reduceNeg, Int.reduceToNat, Int.reduceNe, Nat.reducePow, Nat.reduceShiftRight, Nat.reduceMod, *])
    refine fin_mut (.agg [.sc (.int .i64 0), .sc (.int .i64 0), .sc (.slice none 0 0)]) (.inr rfl) cE2 ⟨Nat.le_trans (Nat.le_trans (Nat.le_trans (Nat.le_add_right _ _) hm1) hm2) (Nat.le_add_right _ _), ⟨0, lv0_weak 0 0⟩, upd_out (by omega) g2, fun j e1 e2 => upd_out (by omega) (k2 j e1 e2)⟩
  | false =>
    rw [if_neg (by simp)]
    obtain ⟨-, n0, n1, n2, n3⟩ := room_step hs hbad
    have hrdy : Rdy fuel (roomF (numF s).2) := .inr ⟨by omega, by omega, by omega⟩
    clear n0 n1 n2 n3
    have hl1 : (numF s).2.l.length ≤ 2 ^ 40 := Nat.le_trans (numF_len s) hl
    repeat' (first | ((with_reducible first | refine wA (by omega) ?_ | refine wB (by omega) ?_ | refine wC (by omega) ?_ | refine wD (by omega) ?_ | refine wE ?_ ?_ | refine wF ?_ ?_ | refine wG ?_ ?_ | refine wH ?_ ?_ | refine wI ?_ ?_ | refine wJ ?_ ?_ | refine wK ?_ ?_ | refine wL ?_ ?_) <;> intro _) | simp (maxSteps := 1000000) (disch := omega) only [go_sem, Nat.reduceAdd, Nat.reduceMul, Nat.reduceSub, Nat.reduceLeDiff, Nat.reduceEqDiff, Nat.reduceBEq, ↓reduceIte, reduceCtorEq, Int.reduceEq, Int.reduceLE, Int.reduceLT, Int.reduceAdd, Int.reduceSub, Int.reduceNeg, Int.reduceToNat, Int.reduceNe, Nat.reducePow, Nat.reduceShiftRight, Nat.reduceMod, mc_pack_reader_level, *])
    refine call_mut (number_m s hl rid w _ _ (Nat.lt_of_lt_of_le hr (Nat.le_add_right _ _)) (upd_out (by omega) hH)) ?_
    rintro H1 m1 r1 ⟨hm1', rfl, g1, k1'⟩ -
    have hm1 : nx + 6 ≤ m1 := hm1'
    have b1 : H1 nx = some ⟨[.sc (.int .i64 0), .sc (.int .i64 0), .sc (.slice none 0 0)], true⟩ := (k1' nx (Nat.lt_add_of_pos_right (by decide)) (by omega)).trans (upd_same _ _ _)
    have k1 : Kept (∀ j, j < nx → j ≠ rid → H1 j = H j) := fun j e1 e2 => (k1' j (Nat.lt_of_lt_of_le e1 (Nat.le_add_right _ _)) e2).trans (upd_ne _ _ (by omega))
    clear hm1' k1' hH
    generalize (numF s).1 = k at *
    generalize (numF s).2 = s1 at *
    repeat' (first | ((with_reducible first | refine wA (by omega) ?_ | refine wB (by omega) ?_ | refine wC (by omega) ?_ | refine wD (by omega) ?_ | refine wE ?_ ?_ | refine wF ?_ ?_ | refine wG ?_ ?_ | refine wH ?_ ?_ | refine wI ?_ ?_ | refine wJ ?_ ?_ | refine wK ?_ ?_ | refine wL ?_ ?_) <;> intro _) | simp (maxSteps := 1000000) (disch := omega) only [go_sem, Nat.reduceAdd, Nat.reduceMul, Nat.reduceSub, Nat.reduceLeDiff, Nat.reduceEqDiff, Nat.reduceBEq, ↓reduceIte, reduceCtorEq, Int.reduceEq, Int.reduceLE, Int.reduceLT, Int.reduceAdd, Int.reduceSub, Int.reduceNeg, Int.reduceToNat, Int.reduceNe, Nat.reducePow, Nat.reduceShiftRight, Nat.reduceMod, *])
    refine call_mut (room_m s1 rid w _ _ (show rid < _ from Nat.lt_of_lt_of_le (show rid < m1 by omega) (Nat.le_add_right _ _)) (upd_out (by omega) (upd_out (by omega) g1))) ?_
    rintro H2 m2 r2 ⟨hm2', rfl, g2, k2'⟩ -
    have hm2 : m1 ≤ m2 := Nat.le_trans (Nat.le_add_right _ _) hm2'
    have b2 : H2 nx = some ⟨[.sc (.int .i64 0), .sc (.int .i64 0), .sc (.slice none 0 0)], true⟩ := (k2' nx (Nat.lt_of_lt_of_le (show nx < m1 by omega) (Nat.le_add_right _ _)) (by omega)).trans (upd_out (by omega) (upd_out (by omega) b1))
    have b3 : H2 (nx + 4) = some ⟨[.sc (.int .i64 k), .sc (.int .i64 0), .sc (.slice none 0 0)], true⟩ := (k2' (nx + 4) (Nat.lt_of_lt_of_le (show nx + 4 < m1 by omega) (Nat.le_add_right _ _)) (by omega)).trans (upd_same _ _ _)
    have k2 : Kept (∀ j, j < nx → j ≠ rid → H2 j = H j) := fun j e1 e2 => (k2' j (Nat.lt_of_lt_of_le (show j < m1 by omega) (Nat.le_add_right _ _)) e2).trans (upd_out (by omega) (upd_out (by omega) (k1 j e1 e2)))
    clear hm2' k2' k1 b1 g1
    have hl2 : (roomF s1).l.length ≤ 2 ^ 40 := hl1
    rw [hbad]
    generalize roomF s1 = s2 at *
    clear hl1
    obtain rfl | rfl | rfl | rfl | rfl | ⟨h1, h2, h3, h4, h5⟩ : k = 1 ∨ k = 2 ∨ k = 3 ∨ k = 4 ∨ k = 5 ∨ (k ≠ 1 ∧ k ≠ 2 ∧ k ≠ 3 ∧ k ≠ 4 ∧ k ≠ 5) := by omega
    · rw [if_pos (.inl rfl)]
      simp only
      repeat' (first | ((with_reducible first | refine wA (by omega) ?_ | refine wB (by omega) ?_ | refine wC (by omega) ?_ | refine wD (by omega) ?_ | refine wE ?_ ?_ | refine wF ?_ ?_ | refine wG ?_ ?_ | refine wH ?_ ?_ | refine wI ?_ ?_ | refine wJ ?_ ?_ | refine wK ?_ ?_ | refine wL ?_ ?_) <;> intro _) | simp (maxSteps := 1000000) (disch := omega) only [go_sem, Nat.reduceAdd, Nat.reduceMul, Nat.reduceSub, Nat.reduceLeDiff, Nat.reduceEqDiff, Nat.reduceBEq, ↓reduceIte, reduceCtorEq, Int.reduceEq, Int.reduceLE, Int.reduceLT, Int.reduceAdd, Int.reduceSub, Int.reduceNeg, Int.reduceToNat, Int.reduceNe, Nat.reducePow, Nat.reduceShiftRight, Nat.reduceMod, *])
      refine call_mut (number_m s2 hl2 rid w _ _ (Nat.lt_of_lt_of_le (show rid < m2 by omega) (Nat.le_add_right _ _)) g2) ?_
      rintro H3 m3 r3 ⟨hm3', rfl, g3, k3'⟩ -
      have hm3 : m2 ≤ m3 := Nat.le_trans (Nat.le_add_right _ _) hm3'
      have b5 : H3 nx = some ⟨[.sc (.int .i64 0), .sc (.int .i64 0), .sc (.slice none 0 0)], true⟩ := (k3' nx (Nat.lt_of_lt_of_le (show nx < m2 by omega) (Nat.le_add_right _ _)) (by omega)).trans b2
      have b6 : H3 (nx + 4) = some ⟨[.sc (.int .i64 (1 : Nat)), .sc (.int .i64 0), .sc (.slice none 0 0)], true⟩ := (k3' (nx + 4) (Nat.lt_of_lt_of_le (show nx + 4 < m2 by omega) (Nat.le_add_right _ _)) (by omega)).trans b3
      have k3 : Kept (∀ j, j < nx → j ≠ rid → H3 j = H j) := fun j e1 e2 => (k3' j (Nat.lt_of_lt_of_le (show j < m2 by omega) (Nat.le_add_right _ _)) e2).trans (k2 j e1 e2)
      clear hm3' k3' k2 b2 b3 g2
      repeat' (first | ((with_reducible first | refine wA (by omega) ?_ | refine wB (by omega) ?_ | refine wC (by omega) ?_ | refine wD (by omega) ?_ | refine wE ?_ ?_ | refine wF ?_ ?_ | refine wG ?_ ?_ | refine wH ?_ ?_ | refine wI ?_ ?_ | refine wJ ?_ ?_ | refine wK ?_ ?_ | refine wL ?_ ?_) <;> intro _) | simp (maxSteps := 1000000) (disch := omega) only [go_sem, Nat.reduceAdd, Nat.reduceMul, Nat.reduceSub, Nat.reduceLeDiff, Nat.reduceEqDiff, Nat.reduceBEq, ↓reduceIte, reduceCtorEq, Int.reduceEq, Int.reduceLE, Int.reduceLT, Int.reduceAdd, Int.reduceSub, Int.reduceNeg, Int.reduceToNat, Int.reduceNe, Nat.reducePow, Nat.reduceShiftRight, Nat.reduceMod, *])
      refine fin_mut (.agg [.sc (.int .i64 (1 : Nat)), .sc (.int .i64 ((numF s2).1 : Nat)), .sc (.slice none 0 0)]) (.inr rfl) cE2 ⟨by simp only [Nat.add_assoc]; exact Nat.le_trans (by omega) (Nat.le_add_right _ _), ⟨0, lv0_weak _ _⟩, upd_out (by omega) (upd_out (by omega) g3), fun j e1 e2 => upd_out (by omega) (upd_out (by omega) (k3 j e1 e2))⟩
    · rw [if_pos (.inr rfl)]
      simp only
      repeat' (first | ((with_reducible first | refine wA (by omega) ?_ | refine wB (by omega) ?_ | refine wC (by omega) ?_ | refine wD (by omega) ?_ | refine wE ?_ ?_ | refine wF ?_ ?_ | refine wG ?_ ?_ | refine wH ?_ ?_ | refine wI ?_ ?_ | refine wJ ?_ ?_ | refine wK ?_ ?_ | refine wL ?_ ?_) <;> intro _) | simp (maxSteps := 1000000) (disch := omega) only [go_sem, Nat.reduceAdd, Nat.reduceMul, Nat.reduceSub, Nat.reduceLeDiff, Nat.reduceEqDiff, Nat.reduceBEq, ↓reduceIte, reduceCtorEq, Int.reduceEq, Int.reduceLE, Int.reduceLT, Int.reduceAdd, Int.reduceSub, Int.reduceNeg, Int.reduceToNat, Int.reduceNe, Nat.reducePow, Nat.reduceShiftRight, Nat.reduceMod, *])
      refine call_mut (number_m s2 hl2 rid w _ _ (Nat.lt_of_lt_of_le (show rid < m2 by omega) (Nat.le_add_right _ _)) g2) ?_
      rintro H3 m3 r3 ⟨hm3', rfl, g3, k3'⟩ -
      have hm3 : m2 ≤ m3 := Nat.le_trans (Nat.le_add_right _ _) hm3'
      have b5 : H3 nx = some ⟨[.sc (.int .i64 0), .sc (.int .i64 0), .sc (.slice none 0 0)], true⟩ := (k3' nx (Nat.lt_of_lt_of_le (show nx < m2 by omega) (Nat.le_add_right _ _)) (by omega)).trans b2
      have b6 : H3 (nx + 4) = some ⟨[.sc (.int .i64 (2 : Nat)), .sc (.int .i64 0), .sc (.slice none 0 0)], true⟩ := (k3' (nx + 4) (Nat.lt_of_lt_of_le (show nx + 4 < m2 by omega) (Nat.le_add_right _ _)) (by omega)).trans b3
      have k3 : Kept (∀ j, j < nx → j ≠ rid → H3 j = H j) := fun j e1 e2 => (k3' j (Nat.lt_of_lt_of_le (show j < m2 by omega) (Nat.le_add_right _ _)) e2).trans (k2 j e1 e2)
      clear hm3' k3' k2 b2 b3 g2
      repeat' (first | ((with_reducible first | refine wA (by omega) ?_ | refine wB (by omega) ?_ | refine wC (by omega) ?_ | refine wD (by omega) ?_ | refine wE ?_ ?_ | refine wF ?_ ?_ | refine wG ?_ ?_ | refine wH ?_ ?_ | refine wI ?_ ?_ | refine wJ ?_ ?_ | refine wK ?_ ?_ | refine wL ?_ ?_) <;> intro _) | simp (maxSteps := 1000000) (disch := omega) only [go_sem, Nat.reduceAdd, Nat.reduceMul, Nat.reduceSub, Nat.reduceLeDiff, Nat.reduceEqDiff, Nat.reduceBEq, ↓reduceIte, reduceCtorEq, Int.reduceEq, Int.reduceLE, Int.reduceLT, Int.reduceAdd, Int.reduceSub, Int.reduceNeg, Int.reduceToNat, Int.reduceNe, Nat.reducePow, Nat.reduceShiftRight, Nat.reduceMod, *])
      refine fin_mut (.agg [.sc (.int .i64 (2 : Nat)), .sc (.int .i64 ((numF s2).1 : Nat)), .sc (.slice none 0 0)]) (.inr rfl) cE2 ⟨by simp only [Nat.add_assoc]; exact Nat.le_trans (by omega) (Nat.le_add_right _ _), ⟨0, lv0_weak _ _⟩, upd_out (by omega) (upd_out (by omega) g3), fun j e1 e2 => upd_out (by omega) (upd_out (by omega) (k3 j e1 e2))⟩
    · rw [if_neg (by decide), if_pos rfl]
      simp only
      repeat' (first | ((with_reducible first | refine wA (by omega) ?_ | refine wB (by omega) ?_ | refine wC (by omega) ?_ | refine wD (by omega) ?_ | refine wE ?_ ?_ | refine wF ?_ ?_ | refine wG ?_ ?_ | refine wH ?_ ?_ | refine wI ?_ ?_ | refine wJ ?_ ?_ | refine wK ?_ ?_ | refine wL ?_ ?_) <;> intro _) | simp (maxSteps := 1000000) (disch := omega) only [go_sem, Nat.reduceAdd, Nat.reduceMul, Nat.reduceSub, Nat.reduceLeDiff, Nat.reduceEqDiff, Nat.reduceBEq, ↓reduceIte, reduceCtorEq, Int.reduceEq, Int.reduceLE, Int.reduceLT, Int.reduceAdd, Int.reduceSub, Int.reduceNeg, Int.reduceToNat, Int.reduceNe, Nat.reducePow, Nat.reduceShiftRight, Nat.reduceMod, *])
      refine call_mut (levels_m (level_step fuel) (level_shrink fuel) ih 1 (by decide) s2 hrdy hl2 rid w _ _ (Nat.lt_of_lt_of_le (show rid < m2 by omega) (Nat.le_add_right _ _)) g2) ?_
      rintro H3 m3 r3 ⟨hm3', rfl, g3, k3'⟩ -
      have hm3 : m2 ≤ m3 := Nat.le_trans (Nat.le_add_right _ _) hm3'
      have b5 : H3 nx = some ⟨[.sc (.int .i64 0), .sc (.int .i64 0), .sc (.slice none 0 0)], true⟩ := (k3' nx (Nat.lt_of_lt_of_le (show nx < m2 by omega) (Nat.le_add_right _ _)) (by omega)).trans b2
      have b6 : H3 (nx + 4) = some ⟨[.sc (.int .i64 (3 : Nat)), .sc (.int .i64 0), .sc (.slice none 0 0)], true⟩ := (k3' (nx + 4) (Nat.lt_of_lt_of_le (show nx + 4 < m2 by omega) (Nat.le_add_right _ _)) (by omega)).trans b3
      have k3 : Kept (∀ j, j < nx → j ≠ rid → H3 j = H j) := fun j e1 e2 => (k3' j (Nat.lt_of_lt_of_le (show j < m2 by omega) (Nat.le_add_right _ _)) e2).trans (k2 j e1 e2)
      clear hm3' k3' k2 b2 b3 g2
      repeat' (first | ((with_reducible first | refine wA (by omega) ?_ | refine wB (by omega) ?_ | refine wC (by omega) ?_ | refine wD (by omega) ?_ | refine wE ?_ ?_ | refine wF ?_ ?_ | refine wG ?_ ?_ | refine wH ?_ ?_ | refine wI ?_ ?_ | refine wJ ?_ ?_ | refine wK ?_ ?_ | refine wL ?_ ?_) <;> intro _) | simp (maxSteps := 1000000) (disch := omega) only [go_sem, Nat.reduceAdd, Nat.reduceMul, Nat.reduceSub, Nat.reduceLeDiff, Nat.reduceEqDiff, Nat.reduceBEq, ↓reduceIte, reduceCtorEq, Int.reduceEq, Int.reduceLE, Int.reduceLT, Int.reduceAdd, Int.reduceSub, Int.reduceNeg, Int.reduceToNat, Int.reduceNe, Nat.reducePow, Nat.reduceShiftRight, Nat.reduceMod, *])
      refine fin_mut (.agg [.sc (.int .i64 (3 : Nat)), .sc (.int .i64 0), .sl 3 ((repF (levelF fuel) 1 s2).1.map Lv.pv)]) (.inr rfl) cE2 ⟨by simp only [Nat.add_assoc]; exact Nat.le_trans (by omega) (Nat.le_add_right _ _), ⟨0, .of_eq (by simp only [frgF, Lv.pv]; rfl)⟩, upd_out (by omega) (upd_out (by omega) g3), fun j e1 e2 => upd_out (by omega) (upd_out (by omega) (k3 j e1 e2))⟩
    · rw [if_neg (by decide), if_neg (by decide), if_pos (.inl rfl)]
      simp only
      repeat' (first | ((with_reducible first | refine wA (by omega) ?_ | refine wB (by omega) ?_ | refine wC (by omega) ?_ | refine wD (by omega) ?_ | refine wE ?_ ?_ | refine wF ?_ ?_ | refine wG ?_ ?_ | refine wH ?_ ?_ | refine wI ?_ ?_ | refine wJ ?_ ?_ | refine wK ?_ ?_ | refine wL ?_ ?_) <;> intro _) | simp (maxSteps := 1000000) (disch := omega) only [go_sem, Nat.reduceAdd, Nat.reduceMul, Nat.reduceSub, Nat.reduceLeDiff, Nat.reduceEqDiff, Nat.reduceBEq, ↓reduceIte, reduceCtorEq, Int.reduceEq, Int.reduceLE, Int.reduceLT, Int.reduceAdd, Int.reduceSub, Int.reduceNeg, Int.reduceToNat, Int.reduceNe, Nat.reducePow, Nat.reduceShiftRight, Nat.reduceMod, *])
      refine call_mut (levels_m (level_step fuel) (level_shrink fuel) ih 2 (by decide) s2 hrdy hl2 rid w _ _ (Nat.lt_of_lt_of_le (show rid < m2 by omega) (Nat.le_add_right _ _)) g2) ?_
      rintro H3 m3 r3 ⟨hm3', rfl, g3, k3'⟩ -
      have hm3 : m2 ≤ m3 := Nat.le_trans (Nat.le_add_right _ _) hm3'
      have b5 : H3 nx = some ⟨[.sc (.int .i64 0), .sc (.int .i64 0), .sc (.slice none 0 0)], true⟩ := (k3' nx (Nat.lt_of_lt_of_le (show nx < m2 by omega) (Nat.le_add_right _ _)) (by omega)).trans b2
      have b6 : H3 (nx + 4) = some ⟨[.sc (.int .i64 (4 : Nat)), .sc (.int .i64 0), .sc (.slice none 0 0)], true⟩ := (k3' (nx + 4) (Nat.lt_of_lt_of_le (show nx + 4 < m2 by omega) (Nat.le_add_right _ _)) (by omega)).trans b3
      have k3 : Kept (∀ j, j < nx → j ≠ rid → H3 j = H j) := fun j e1 e2 => (k3' j (Nat.lt_of_lt_of_le (show j < m2 by omega) (Nat.le_add_right _ _)) e2).trans (k2 j e1 e2)
      clear hm3' k3' k2 b2 b3 g2
      repeat' (first | ((with_reducible first | refine wA (by omega) ?_ | refine wB (by omega) ?_ | refine wC (by omega) ?_ | refine wD (by omega) ?_ | refine wE ?_ ?_ | refine wF ?_ ?_ | refine wG ?_ ?_ | refine wH ?_ ?_ | refine wI ?_ ?_ | refine wJ ?_ ?_ | refine wK ?_ ?_ | refine wL ?_ ?_) <;> intro _) | simp (maxSteps := 1000000) (disch := omega) only [go_sem, Nat.reduceAdd, Nat.reduceMul, Nat.reduceSub, Nat.reduceLeDiff, Nat.reduceEqDiff, Nat.reduceBEq, ↓reduceIte, reduceCtorEq, Int.reduceEq, Int.reduceLE, Int.reduceLT, Int.reduceAdd, Int.reduceSub, Int.reduceNeg, Int.reduceToNat, Int.reduceNe, Nat.reducePow, Nat.reduceShiftRight, Nat.reduceMod, *])
      refine fin_mut (.agg [.sc (.int .i64 (4 : Nat)), .sc (.int .i64 0), .sl 3 ((repF (levelF fuel) 2 s2).1.map Lv.pv)]) (.inr rfl) cE2 ⟨by simp only [Nat.add_assoc]; exact Nat.le_trans (by omega) (Nat.le_add_right _ _), ⟨0, .of_eq (by simp only [frgF, Lv.pv]; rfl)⟩, upd_out (by omega) (upd_out (by omega) g3), fun j e1 e2 => upd_out (by omega) (upd_out (by omega) (k3 j e1 e2))⟩
    · rw [if_neg (by decide), if_neg (by decide), if_pos (.inr rfl)]
      simp only
      repeat' (first | ((with_reducible first | refine wA (by omega) ?_ | refine wB (by omega) ?_ | refine wC (by omega) ?_ | refine wD (by omega) ?_ | refine wE ?_ ?_ | refine wF ?_ ?_ | refine wG ?_ ?_ | refine wH ?_ ?_ | refine wI ?_ ?_ | refine wJ ?_ ?_ | refine wK ?_ ?_ | refine wL ?_ ?_) <;> intro _) | simp (maxSteps := 1000000) (disch := omega) only [go_sem, Nat.reduceAdd, Nat.reduceMul, Nat.reduceSub, Nat.reduceLeDiff, Nat.reduceEqDiff, Nat.reduceBEq, ↓reduceIte, reduceCtorEq, Int.reduceEq, Int.reduceLE, Int.reduceLT, Int.reduceAdd, Int.reduceSub, Int.reduceNeg, Int.reduceToNat, Int.reduceNe, Nat.reducePow, Nat.reduceShiftRight, Nat.reduceMod, *])
      refine call_mut (levels_m (level_step fuel) (level_shrink fuel) ih 2 (by decide) s2 hrdy hl2 rid w _ _ (Nat.lt_of_lt_of_le (show rid < m2 by omega) (Nat.le_add_right _ _)) g2) ?_
      rintro H3 m3 r3 ⟨hm3', rfl, g3, k3'⟩ -
      have hm3 : m2 ≤ m3 := Nat.le_trans (Nat.le_add_right _ _) hm3'
      have b5 : H3 nx = some ⟨[.sc (.int .i64 0), .sc (.int .i64 0), .sc (.slice none 0 0)], true⟩ := (k3' nx (Nat.lt_of_lt_of_le (show nx < m2 by omega) (Nat.le_add_right _ _)) (by omega)).trans b2
      have b6 : H3 (nx + 4) = some ⟨[.sc (.int .i64 (5 : Nat)), .sc (.int .i64 0), .sc (.slice none 0 0)], true⟩ := (k3' (nx + 4) (Nat.lt_of_lt_of_le (show nx + 4 < m2 by omega) (Nat.le_add_right _ _)) (by omega)).trans b3
      have k3 : Kept (∀ j, j < nx → j ≠ rid → H3 j = H j) := fun j e1 e2 => (k3' j (Nat.lt_of_lt_of_le (show j < m2 by omega) (Nat.le_add_right _ _)) e2).trans (k2 j e1 e2)
      clear hm3' k3' k2 b2 b3 g2
      repeat' (first | ((with_reducible first | refine wA (by omega) ?_ | refine wB (by omega) ?_ | refine wC (by omega) ?_ | refine wD (by omega) ?_ | refine wE ?_ ?_ | refine wF ?_ ?_ | refine wG ?_ ?_ | refine wH ?_ ?_ | refine wI ?_ ?_ | refine wJ ?_ ?_ | refine wK ?_ ?_ | refine wL ?_ ?_) <;> intro _) | simp (maxSteps := 1000000) (disch := omega) only [go_sem, Nat.reduceAdd, Nat.reduceMul, Nat.reduceSub, Nat.reduceLeDiff, Nat.reduceEqDiff, Nat.reduceBEq, ↓reduceIte, reduceCtorEq, Int.reduceEq, Int.reduceLE, Int.reduceLT, Int.reduceAdd, Int.reduceSub, Int.reduceNeg, Int.reduceToNat, Int.reduceNe, Nat.reducePow, Nat.reduceShiftRight, Nat.reduceMod, *])
      refine fin_mut (.agg [.sc (.int .i64 (5 : Nat)), .sc (.int .i64 0), .sl 3 ((repF (levelF fuel) 2 s2).1.map Lv.pv)]) (.inr rfl) cE2 ⟨by simp only [Nat.add_assoc]; exact Nat.le_trans (by omega) (Nat.le_add_right _ _), ⟨0, .of_eq (by simp only [frgF, Lv.pv]; rfl)⟩, upd_out (by omega) (upd_out (by omega) g3), fun j e1 e2 => upd_out (by omega) (upd_out (by omega) (k3 j e1 e2))⟩
    · rw [if_neg (by omega), if_neg h3, if_neg (by omega)]
      simp only
      obtain ⟨l2, no2, ba2⟩ := s2
      simp only [rdC] at g2
      repeat' (first | ((with_reducible first | refine wA (by omega) ?_ | refine wB (by omega) ?_ | refine wC (by omega) ?_ | refine wD (by omega) ?_ | refine wE ?_ ?_ | refine wF ?_ ?_ | refine wG ?_ ?_ | refine wH ?_ ?_ | refine wI ?_ ?_ | refine wJ ?_ ?_ | refine wK ?_ ?_ | refine wL ?_ ?_) <;> intro _) | simp (maxSteps := 1000000) (disch := omega) only [go_sem, Nat.reduceAdd, Nat.reduceMul, Nat.reduceSub, Nat.reduceLeDiff, Nat.reduceEqDiff, Nat.reduceBEq, ↓reduceIte, reduceCtorEq, Int.reduceEq, Int.reduceLE, Int.reduceLT, Int.reduceAdd, Int.reduceSub, Int.reduceNeg, Int.reduceToNat, Int.reduceNe, Nat.reducePow, Nat.reduceShiftRight, Nat.reduceMod, *])
      refine fin_mut (.agg [.sc (.int .i64 (k : Nat)), .sc (.int .i64 0), .sc (.slice none 0 0)]) (.inr rfl) cE2 ⟨by simp only [Nat.add_assoc]; exact Nat.le_trans (by omega) (Nat.le_add_right _ _), ⟨0, lv0_weak _ _⟩, ?_, fun j e1 e2 => ?_⟩
      · simp [upd, rdC, show rid ≠ nx by omega]
      · simp only [upd, e2, show j ≠ nx by omega, if_false]; exact k2 j e1 e2
end
section
set_option maxRecDepth 20000
attribute [local go_sem] Nat.add_assoc id_ne id_ne' id_ne2 List.append_assoc tm_len tm_take tm_one
def noStr : ByteArray := ⟨#[]⟩
def termF : Nat → RS → Tm × RS
  | 0, s => (.mk 0 0 noStr [] [], roomF (numF s).2)
  | f + 1, s =>
    if (roomF (numF s).2).bad = true then (.mk 0 0 noStr [] [], roomF (numF s).2)
    else if (numF s).1 = 1 then (.mk 1 (numF (roomF (numF s).2)).1 noStr [] [], (numF (roomF (numF s).2)).2)
    else if (numF s).1 = 2 then (.mk 2 0 noStr (repF (levelF f) 1 (roomF (numF s).2)).1 [], (repF (levelF f) 1 (roomF (numF s).2)).2)
    else if (numF s).1 = 3 then
      (.mk 3 0 (nameF (roomF (numF s).2)).1 (repF (levelF f) (min (numF (nameF (roomF (numF s).2)).2).1 5) (numF (nameF (roomF (numF s).2)).2).2).1 [],
        (repF (levelF f) (min (numF (nameF (roomF (numF s).2)).2).1 5) (numF (nameF (roomF (numF s).2)).2).2).2)
    else if (numF s).1 = 4 ∨ (numF s).1 = 5 ∨ (numF s).1 = 6 then (.mk (numF s).1 0 noStr [] (repF (termF f) 2 (roomF (numF s).2)).1, (repF (termF f) 2 (roomF (numF s).2)).2)
    else if (numF s).1 = 7 then (.mk 7 0 noStr [] (repF (termF f) 3 (roomF (numF s).2)).1, (repF (termF f) 3 (roomF (numF s).2)).2)
    else (.mk (numF s).1 0 noStr [] [], ⟨(roomF (numF s).2).l, (roomF (numF s).2).nodes, true⟩)
theorem term_step : ∀ (fuel : Nat) (s : RS), Rdy fuel s → Step s (termF fuel s).2
  | 0, s, h => by
    cases hb : (roomF (numF s).2).bad with
    | true => exact .inl hb
    | false =>
      obtain ⟨h1, h2, h3, h4, h5⟩ := room_step h hb
      omega
  | f + 1, s, h => by
    unfold termF
    cases hb : (roomF (numF s).2).bad with
    | true => rw [if_pos rfl]; exact .inl hb
    | false =>
      rw [if_neg (by simp)]
      obtain ⟨h1, h2, h3, h4, h5⟩ := room_step h hb
      have hs : Step s (roomF (numF s).2) := .inr ⟨h1, by omega, by omega⟩
      have hr : Rdy f (roomF (numF s).2) := .inr ⟨by omega, by omega, by omega⟩
      split
      · exact hs.trans (.num fun _ => by omega)
      split
      · exact hs.trans (rep_step (level_step f) 1 _ hr)
      split
      · have n1 : Step (roomF (numF s).2) (nameF (roomF (numF s).2)).2 := .name hr.top
        have n2 : Step (nameF (roomF (numF s).2)).2 (numF (nameF (roomF (numF s).2)).2).2 := .num (n1.rdy hr).top
        exact hs.trans (n1.trans (n2.trans (rep_step (level_step f) _ _ (n2.rdy (n1.rdy hr)))))
      split
      · exact hs.trans (rep_step (term_step f) 2 _ hr)
      split
      · exact hs.trans (rep_step (term_step f) 3 _ hr)
      · exact .inl rfl
theorem term_shrink : ∀ (fuel : Nat) (s : RS), (termF fuel s).2.l.length ≤ s.l.length
  | 0, s => numF_len s
  | f + 1, s => by
    have h1 := numF_len s
    have h2 := numF_len (roomF (numF s).2)
    have h3 := rep_shrink (level_shrink f) 1 (roomF (numF s).2)
    have h4 := rep_shrink (term_shrink f) 2 (roomF (numF s).2)
    have h5 := rep_shrink (term_shrink f) 3 (roomF (numF s).2)
    have h6 := nameF_len (roomF (numF s).2)
    have h7 := numF_len (nameF (roomF (numF s).2)).2
    have h8 := rep_shrink (level_shrink f) (min (numF (nameF (roomF (numF s).2)).2).1 5) (numF (nameF (roomF (numF s).2)).2).2
    rw [roomF_l] at h2 h3 h4 h5 h6
    unfold termF
    (repeat' split) <;> simp only [roomF_l] <;> omega
set_option maxHeartbeats 8000000 in
theorem terms_m {fuel : Nat} {g : RS → Tm × RS} (hgs : ∀ s, Rdy fuel s → Step s (g s).2) (hgl : ∀ s, (g s).2.l.length ≤ s.l.length)
    (hg : ∀ s, Rdy fuel s → s.l.length ≤ 2 ^ 40 → ∀ (rid : Nat) (w : Bool) (H : Nat → Option PObj) (nx : Nat), rid < nx → H rid = some ⟨rdC s, w⟩ → PMut Try.prog F.pack_reader_term [.optr rid 0] H nx (RdQ H nx rid w (g s).2 (.agg (g s).1.pv)))
    (n : Nat) (hn : n ≤ 10) (s : RS) (hs : Rdy fuel s) (hl : s.l.length ≤ 2 ^ 40) (rid : Nat) (w : Bool) (H : Nat → Option PObj) (nx : Nat) (hr : rid < nx) (hH : H rid = some ⟨rdC s, w⟩) :
    PMut Try.prog F.pack_reader_terms [.optr rid 0, .sc (.int .i64 n)] H nx (RdQ H nx rid w (repF g n s).2 (.sl 5 ((repF g n s).1.map Tm.pv))) := by
  refine rd_tell is_pack_reader_terms.enters hr ?_
  refine mut_by is_pack_reader_terms (by simp) fun hb => ?_
  clear hb
  repeat' (first | ((with_reducible first | refine wA (by omega) ?_ | refine wB (by omega) ?_ | refine wC (by omega) ?_ | refine wD (by omega) ?_ | refine wE ?_ ?_ | refine wF ?_ ?_ | refine wG ?_ ?_ | refine wH ?_ ?_ | refine wI ?_ ?_ | refine wJ ?_ ?_ | refine wK ?_ ?_ | refine wL ?_ ?_) <;> intro _) | simp (maxSteps := 1000000) (disch := omega) only [go_sem, Nat.reduceAdd, Nat.reduceMul, Nat.reduceSub, Nat.reduceLeDiff, Nat.reduceEqDiff, Nat.reduceBEq, ↓reduceIte, reduceCtorEq, Int.reduceEq, Int.reduceLE, Int.reduceLT, Int.reduceAdd, Int.reduceSub, Int.reduceNeg, Int.reduceToNat, Int.reduceNe, Nat.reducePow, Nat.reduceShiftRight, Nat.reduceMod, mc_pack_reader_terms, *])
  refine c_loopW 32672 (by kernel_rfl) (fun j f H2 m => ∃ i : Nat, j = n - i ∧ i ≤ n ∧ f 7 = .sc (.int .i64 i) ∧ nx ≤ m ∧ Kept (LRow Tm.pv 5 H2 nx m (f 5) (repF g i s).1) ∧ H2 rid = some ⟨rdC (repF g i s).2, w⟩ ∧ Kept (∀ j, j < nx → j ≠ rid → H2 j = H j)) _ ⟨0, rfl, Nat.zero_le _, cE1, cE1, ?rr, hH, Kept.mk fun _ _ _ => rfl⟩ ?_
  case rr => refine Kept.mk (.inl ⟨rfl, cE1⟩)
  rintro _ f H2 m ⟨i, rfl, hi, e7, hm, hrow, hrd, hk⟩
  by_cases hlt : i < n
  · have hst := rep_step hgs i s hs
    have hll := rep_shrink hgl i s
    have c1 := hg (repF g i s).2 (hst.rdy hs) (by omega) rid w
    repeat' (first | ((with_reducible first | refine wA (by omega) ?_ | refine wB (by omega) ?_ | refine wC (by omega) ?_ | refine wD (by omega) ?_ | refine wE ?_ ?_ | refine wF ?_ ?_ | refine wG ?_ ?_ | refine wH ?_ ?_ | refine wI ?_ ?_ | refine wJ ?_ ?_ | refine wK ?_ ?_ | refine wL ?_ ?_) <;> intro _) | simp (maxSteps := 1000000) (disch := omega) only [go_sem, Nat.reduceAdd, Nat.reduceMul, Nat.reduceSub, Nat.reduceLeDiff, Nat.reduceEqDiff, Nat.reduceBEq, ↓reduceIte, reduceCtorEq, Int.reduceEq, Int.reduceLE, Int.reduceLT, Int.reduceAdd, Int.reduceSub, Int.reduceNeg, Int.reduceToNat, Int.reduceNe, Nat.reducePow, Nat.reduceShiftRight, Nat.reduceMod, *])
    refine call_mut (c1 H2 _ (Nat.lt_of_lt_of_le hr (Nat.le_trans hm (Nat.le_add_right _ _))) hrd) ?_
    rintro H3 m3 r3 ⟨g1', rfl, g3, g4'⟩ -
    have hm3 : m + 7 ≤ m3 := g1'
    have g1 : m ≤ m3 := Nat.le_trans (Nat.le_add_right _ _) g1'
    have g4 : Kept (∀ j, j < m → j ≠ rid → H3 j = H2 j) := fun j h1 h2 => g4' j (Nat.lt_of_lt_of_le h1 (Nat.le_add_right _ _)) h2
    have hlen := repF_len g i s
    have hE1 : (repF g (i + 1) s).1 = (repF g i s).1 ++ [(g (repF g i s).2).1] := rfl
    have hE2 : (repF g (i + 1) s).2 = (g (repF g i s).2).2 := rfl
    rw [← hE2] at g3
    generalize (g (repF g i s).2).1 = x at *
    clear c1 hst hll g1' g4'
    have hrm : rid < m := Nat.lt_of_lt_of_le hr hm
    obtain ⟨h0, e5⟩ | ⟨id, w', h1, h2, e5, h4⟩ := hrow
    · have hi0 : i = 0 := by rw [← hlen, h0]; rfl
      subst hi0
      repeat' (first | ((with_reducible first | refine wA (by omega) ?_ | refine wB (by omega) ?_ | refine wC (by omega) ?_ | refine wD (by omega) ?_ | refine wE ?_ ?_ | refine wF ?_ ?_ | refine wG ?_ ?_ | refine wH ?_ ?_ | refine wI ?_ ?_ | refine wJ ?_ ?_ | refine wK ?_ ?_ | refine wL ?_ ?_) <;> intro _) | simp (maxSteps := 1000000) (disch := omega) only [go_sem, Nat.reduceAdd, Nat.reduceMul, Nat.reduceSub, Nat.reduceLeDiff, Nat.reduceEqDiff, Nat.reduceBEq, ↓reduceIte, reduceCtorEq, Int.reduceEq, Int.reduceLE, Int.reduceLT, Int.reduceAdd, Int.reduceSub, Int.reduceNeg, Int.reduceToNat, Int.reduceNe, Nat.reducePow, Nat.reduceShiftRight, Nat.reduceMod, *])
      refine Nx.mk (n - 1) cE1 ⟨1, rfl, cE1, cE1, ?mm, ?rr, ?hh, ?kk⟩
      case mm => exact Nat.le_trans hm (Nat.le_trans g1 (Nat.le_add_right _ _))
      case rr =>
        refine Kept.mk (.inr ⟨m + 5, false, by omega, by omega, cE1, ?_⟩)
        rw [upd_same]
        simp [hE1, h0]
      case hh => rw [upd_ne _ _ (show rid ≠ m + 5 by omega)]; exact g3
      case kk => exact Kept.mk fun j k1 k2 => by rw [upd_ne _ _ (show j ≠ m + 5 by omega), g4 j (Nat.lt_of_lt_of_le k1 hm) k2]; exact hk j k1 k2
    · have h5 : H3 id = some ⟨(repF g i s).1.flatMap Tm.pv, w'⟩ := by rw [g4 id h2 (fun e => by omega)]; exact h4
      have hfl : ((repF g i s).1.flatMap Tm.pv).length = i * 5 := by rw [flat_lenG _ 5 tm_len, hlen]
      have hz : (i + 1) * 80 ≤ 140737488355328 ∧ i ≤ 4611686018427387903 := by omega
      rw [hlen] at e5
      clear h4
      repeat' (first | ((with_reducible first | refine wA (by omega) ?_ | refine wB (by omega) ?_ | refine wC (by omega) ?_ | refine wD (by omega) ?_ | refine wE ?_ ?_ | refine wF ?_ ?_ | refine wG ?_ ?_ | refine wH ?_ ?_ | refine wI ?_ ?_ | refine wJ ?_ ?_ | refine wK ?_ ?_ | refine wL ?_ ?_) <;> intro _) | simp (maxSteps := 1000000) (disch := omega) only [go_sem, Nat.reduceAdd, Nat.reduceMul, Nat.reduceSub, Nat.reduceLeDiff, Nat.reduceEqDiff, Nat.reduceBEq, ↓reduceIte, reduceCtorEq, Int.reduceEq, Int.reduceLE, Int.reduceLT, Int.reduceAdd, Int.reduceSub, Int.reduceNeg, Int.reduceToNat, Int.reduceNe, Nat.reducePow, Nat.reduceShiftRight, Nat.reduceMod, *])
      refine Nx.mk (n - (i + 1)) cE1 ⟨i + 1, rfl, cE1, cE1, ?mm, ?rr, ?hh, ?kk⟩
      case mm => exact Nat.le_trans hm (Nat.le_trans g1 (Nat.le_add_right _ _))
      case rr =>
        refine Kept.mk (.inr ⟨m + 5, false, by omega, by omega, ?_, ?_⟩)
        · simp only [upd_get, Nat.reduceEqDiff, ↓reduceIte]
          rw [hE1, List.length_append, hlen]; rfl
        · rw [upd_same]
          simp [hE1]
      case hh => rw [upd_ne _ _ (show rid ≠ m + 5 by omega), upd_ne _ _ (show rid ≠ id by omega)]; exact g3
      case kk => exact Kept.mk fun j k1 k2 => by rw [upd_ne _ _ (show j ≠ m + 5 by omega), upd_ne _ _ (show j ≠ id by omega), g4 j (Nat.lt_of_lt_of_le k1 hm) k2]; exact hk j k1 k2
  · obtain rfl : i = n := by omega
    repeat' (first | ((with_reducible first | refine wA (by omega) ?_ | refine wB (by omega) ?_ | refine wC (by omega) ?_ | refine wD (by omega) ?_ | refine wE ?_ ?_ | refine wF ?_ ?_ | refine wG ?_ ?_ | refine wH ?_ ?_ | refine wI ?_ ?_ | refine wJ ?_ ?_ | refine wK ?_ ?_ | refine wL ?_ ?_) <;> intro _) | simp (maxSteps := 1000000) (disch := omega) only [go_sem, Nat.reduceAdd, Nat.reduceMul, Nat.reduceSub, Nat.reduceLeDiff, Nat.reduceEqDiff, Nat.reduceBEq, ↓reduceIte, reduceCtorEq, Int.reduceEq, Int.reduceLE, Int.reduceLT, Int.reduceAdd, Int.reduceSub, Int.reduceNeg, Int.reduceToNat, Int.reduceNe, Nat.reducePow, Nat.reduceShiftRight, Nat.reduceMod, *])
    refine fin_mut (f 5) (.inr rfl) cE2 ⟨Nat.le_trans hm (Nat.le_add_right _ _), ⟨1, hrow.out.frg tm_len _ fun j hj => by simpa using hj⟩, hrd, hk⟩
end
section
set_option maxRecDepth 20000
attribute [local go_sem] Nat.add_assoc id_ne id_ne' id_ne2 List.append_assoc tm_len tm_take tm_one
theorem tm0_weak (k n : Int) (s : ByteArray) (ls : List Lv) (args : List Tm) {a b : PV} (ha : Weak a (.sl 3 (ls.map Lv.pv))) (hb : Weak b (.sl 5 (args.map Tm.pv))) : Weak (.agg [.sc (.int .i64 k), .sc (.int .i64 n), .sc (.string s), a, b]) (.agg (Tm.mk k n s ls args).pv) := by
  simp only [Tm.pv]
  exact Weak.agg ⟨.refl _, .refl _, .refl _, ha, hb, trivial⟩
set_option maxHeartbeats 32000000 in
theorem term_m : ∀ (fuel : Nat) (s : RS), Rdy fuel s → s.l.length ≤ 2 ^ 40 → ∀ (rid : Nat) (w : Bool) (H : Nat → Option PObj) (nx : Nat), rid < nx → H rid = some ⟨rdC s, w⟩ →
    PMut Try.prog F.pack_reader_term [.optr rid 0] H nx (RdQ H nx rid w (termF fuel s).2 (.agg (termF fuel s).1.pv)) := by
  intro fuel
  induction fuel with
  | zero =>
    intro s hs hl rid w H nx hr hH
    refine rd_tell is_pack_reader_term.enters hr ?_
    refine mut_by is_pack_reader_term (by simp) fun hb => ?_
    clear hb
    have hbad : (roomF (numF s).2).bad = true := by
      cases hb : (roomF (numF s).2).bad with
      | true => rfl
      | false => obtain ⟨h1, h2, h3, h4, h5⟩ := room_step hs hb; omega
    unfold termF
    simp only
    have hl1 : (numF s).2.l.length ≤ 2 ^ 40 := Nat.le_trans (numF_len s) hl
    repeat' (first | ((with_reducible first | refine wA (by omega) ?_ | refine wB (by omega) ?_ | refine wC (by omega) ?_ | refine wD (by omega) ?_ | refine wE ?_ ?_ | refine wF ?_ ?_ | refine wG ?_ ?_ | refine wH ?_ ?_ | refine wI ?_ ?_ | refine wJ ?_ ?_ | refine wK ?_ ?_ | refine wL ?_ ?_) <;> intro _) | simp (maxSteps := 1000000) (disch := omega) only [go_sem, Nat.reduceAdd, Nat.reduceMul, Nat.reduceSub, Nat.reduceLeDiff, Nat.reduceEqDiff, Nat.reduceBEq, ↓reduceIte, reduceCtorEq, Int.reduceEq, Int.reduceLE, Int.reduceLT, Int.reduceAdd, Int.reduceSub, Int.reduceNeg, Int.reduceToNat, Int.reduceNe, Nat.reducePow, Nat.reduceShiftRight, Nat.reduceMod, mc_pack_reader_term, *])
    refine call_mut (number_m s hl rid w _ _ (Nat.lt_of_lt_of_le hr (Nat.le_add_right _ _)) (upd_out (by omega) hH)) ?_
    rintro H1 m1 r1 ⟨hm1', rfl, g1, k1'⟩ -
    have hm1 : nx + 6 ≤ m1 := hm1'
    have b1 : H1 nx = some ⟨[.sc (.int .i64 0), .sc (.int .i64 0), .sc (.string ⟨#[]⟩), .sc (.slice none 0 0), .sc (.slice none 0 0)], true⟩ := (k1' nx (Nat.lt_add_of_pos_right (by decide)) (by omega)).trans (upd_same _ _ _)
    have k1 : Kept (∀ j, j < nx → j ≠ rid → H1 j = H j) := fun j e1 e2 => (k1' j (Nat.lt_of_lt_of_le e1 (Nat.le_add_right _ _)) e2).trans (upd_ne _ _ (by omega))
    clear hm1' k1' hH
    generalize (numF s).1 = k at *
    generalize (numF s).2 = s1 at *
    repeat' (first | ((with_reducible first | refine wA (by omega) ?_ | refine wB (by omega) ?_ | refine wC (by omega) ?_ | refine wD (by omega) ?_ | refine wE ?_ ?_ | refine wF ?_ ?_ | refine wG ?_ ?_ | refine wH ?_ ?_ | refine wI ?_ ?_ | refine wJ ?_ ?_ | refine wK ?_ ?_ | refine wL ?_ ?_) <;> intro _) | simp (maxSteps := 1000000) (disch := omega) only [go_sem, Nat.reduceAdd, Nat.reduceMul, Nat.reduceSub, Nat.reduceLeDiff, Nat.reduceEqDiff, Nat.reduceBEq, ↓reduceIte, reduceCtorEq, Int.reduceEq, Int.reduceLE, Int.reduceLT, Int.reduceAdd, Int.reduceSub, Int.reduceNeg, Int.reduceToNat, Int.reduceNe, Nat.reducePow, Nat.reduceShiftRight, Nat.reduceMod, *])
    refine call_mut (room_m s1 rid w _ _ (show rid < _ from Nat.lt_of_lt_of_le (show rid < m1 by omega) (Nat.le_add_right _ _)) (upd_out (by omega) (upd_out (by omega) g1))) ?_
    rintro H2 m2 r2 ⟨hm2', rfl, g2, k2'⟩ -
    have hm2 : m1 ≤ m2 := Nat.le_trans (Nat.le_add_right _ _) hm2'
    have b2 : H2 nx = some ⟨[.sc (.int .i64 0), .sc (.int .i64 0), .sc (.string ⟨#[]⟩), .sc (.slice none 0 0), .sc (.slice none 0 0)], true⟩ := (k2' nx (Nat.lt_of_lt_of_le (show nx < m1 by omega) (Nat.le_add_right _ _)) (by omega)).trans (upd_out (by omega) (upd_out (by omega) b1))
    have b3 : H2 (nx + 4) = some ⟨[.sc (.int .i64 k), .sc (.int .i64 0), .sc (.string ⟨#[]⟩), .sc (.slice none 0 0), .sc (.slice none 0 0)], true⟩ := (k2' (nx + 4) (Nat.lt_of_lt_of_le (show nx + 4 < m1 by omega) (Nat.le_add_right _ _)) (by omega)).trans (upd_same _ _ _)
    have k2 : Kept (∀ j, j < nx → j ≠ rid → H2 j = H j) := fun j e1 e2 => (k2' j (Nat.lt_of_lt_of_le (show j < m1 by omega) (Nat.le_add_right _ _)) e2).trans (upd_out (by omega) (upd_out (by omega) (k1 j e1 e2)))
    clear hm2' k2' k1 b1 g1
    have hl2 : (roomF s1).l.length ≤ 2 ^ 40 := hl1
    rw [hbad]
    generalize roomF s1 = s2 at *
    clear hl1
    repeat' (first | ((with_reducible first | refine wA (by omega) ?_ | refine wB (by omega) ?_ | refine wC (by omega) ?_ | refine wD (by omega) ?_ | refine wE ?_ ?_ | refine wF ?_ ?_ | refine wG ?_ ?_ | refine wH ?_ ?_ | refine wI ?_ ?_ | refine wJ ?_ ?_ | refine wK ?_ ?_ | refine wL ?_ ?_) <;> intro _) | simp (maxSteps := 1000000) (disch := omega) only [go_sem, Nat.reduceAdd, Nat.reduceMul, Nat.reduceSub, Nat.reduceLeDiff, Nat.reduceEqDiff, Nat.reduceBEq, ↓reduceIte, reduceCtorEq, Int.reduceEq, Int.reduceLE, Int.reduceLT, Int.reduceAdd, Int.reduceSub, Int.reduceNeg, Int.reduceToNat, Int.reduceNe, Nat.reducePow, Nat.reduceShiftRight, Nat.reduceMod, *])
    refine fin_mut (.agg [.sc (.int .i64 0), .sc (.int .i64 0), .sc (.string ⟨#[]⟩), .sc (.slice none 0 0), .sc (.slice none 0 0)]) (.inr rfl) cE2 ⟨Nat.le_trans (Nat.le_trans (Nat.le_trans (Nat.le_add_right _ _) hm1) hm2) (Nat.le_add_right _ _), ⟨0, tm0_weak 0 0 _ [] [] (.nil 3) (.nil 5)⟩, upd_out (by omega) g2, fun j e1 e2 => upd_out (by omega) (k2 j e1 e2)⟩
  | succ fuel ih =>
  intro s hs hl rid w H nx hr hH
  refine rd_tell is_pack_reader_term.enters hr ?_
  refine mut_by is_pack_reader_term (by simp) fun hb => ?_
  clear hb
  unfold termF
  cases hbad : (roomF (numF s).2).bad with
  | true =>
    rw [if_pos rfl]
    simp only
    have hl1 : (numF s).2.l.length ≤ 2 ^ 40 := Nat.le_trans (numF_len s) hl
    repeat' (first | ((with_reducible first | refine wA (by omega) ?_ | refine wB (by omega) ?_ | refine wC (by omega) ?_ | refine wD (by omega) ?_ | refine wE ?_ ?_ | refine wF ?_ ?_ | refine wG ?_ ?_ | refine wH ?_ ?_ | refine wI ?_ ?_ | refine wJ ?_ ?_ | refine wK ?_ ?_ | refine wL ?_ ?_) <;> intro _) | simp (maxSteps := 1000000) (disch := omega) only [go_sem, Nat.reduceAdd, Nat.reduceMul, Nat.reduceSub, Nat.reduceLeDiff, Nat.reduceEqDiff, Nat.reduceBEq, ↓reduceIte, reduceCtorEq, Int.reduceEq, Int.reduceLE, Int.reduceLT, Int.reduceAdd, Int.reduceSub, Int.reduceNeg, Int.reduceToNat, Int.reduceNe, Nat.reducePow, Nat.reduceShiftRight, Nat.reduceMod, mc_pack_reader_term, *])
    refine call_mut (number_m s hl rid w _ _ (Nat.lt_of_lt_of_le hr (Nat.le_add_right _ _)) (upd_out (by omega) hH)) ?_
    rintro H1 m1 r1 ⟨hm1', rfl, g1, k1'⟩ -
    have hm1 : nx + 6 ≤ m1 := hm1'
    have b1 : H1 nx = some ⟨[.sc (.int .i64 0), .sc (.int .i64 0), .sc (.string ⟨#[]⟩), .sc (.slice none 0 0), .sc (.slice none 0 0)], true⟩ := (k1' nx (Nat.lt_add_of_pos_right (by decide)) (by omega)).trans (upd_same _ _ _)
    have k1 : Kept (∀ j, j < nx → j ≠ rid → H1 j = H j) := fun j e1 e2 => (k1' j (Nat.lt_of_lt_of_le e1 (Nat.le_add_right _ _)) e2).trans (upd_ne _ _ (by omega))
    clear hm1' k1' hH
    generalize (numF s).1 = k at *
    generalize (numF s).2 = s1 at *
    repeat' (first | ((with_reducible first | refine wA (by omega) ?_ | refine wB (by omega) ?_ | refine wC (by omega) ?_ | refine wD (by omega) ?_ | refine wE ?_ ?_ | refine wF ?_ ?_ | refine wG ?_ ?_ | refine wH ?_ ?_ | refine wI ?_ ?_ | refine wJ ?_ ?_ | refine wK ?_ ?_ | refine wL ?_ ?_) <;> intro _) | simp (maxSteps := 1000000) (disch := omega) only [go_sem, Nat.reduceAdd, Nat.reduceMul, Nat.reduceSub, Nat.reduceLeDiff, Nat.reduceEqDiff, Nat.reduceBEq, ↓reduceIte, reduceCtorEq, Int.reduceEq, Int.reduceLE, Int.reduceLT, Int.reduceAdd, Int.reduceSub, Int.reduceNeg, Int.reduceToNat, Int.reduceNe, Nat.reducePow, Nat.reduceShiftRight, Nat.reduceMod, *])
    refine call_mut (room_m s1 rid w _ _ (show rid < _ from Nat.lt_of_lt_of_le (show rid < m1 by omega) (Nat.le_add_right _ _)) (upd_out (by omega) (upd_out (by omega) g1))) ?_
    rintro H2 m2 r2 ⟨hm2', rfl, g2, k2'⟩ -
    have hm2 : m1 ≤ m2 := Nat.le_trans (Nat.le_add_right _ _) hm2'
    have b2 : H2 nx = some ⟨[.sc (.int .i64 0), .sc (.int .i64 0), .sc (.string ⟨#[]⟩), .sc (.slice none 0 0), .sc (.slice none 0 0)], true⟩ := (k2' nx (Nat.lt_of_lt_of_le (show nx < m1 by omega) (Nat.le_add_right _ _)) (by omega)).trans (upd_out (by omega) (upd_out (by omega) b1))
    have b3 : H2 (nx + 4) = some ⟨[.sc (.int .i64 k), .sc (.int .i64 0), .sc (.string ⟨#[]⟩), .sc (.slice none 0 0), .sc (.slice none 0 0)], true⟩ := (k2' (nx + 4) (Nat.lt_of_lt_of_le (show nx + 4 < m1 by omega) (Nat.le_add_right _ _)) (by omega)).trans (upd_same _ _ _)
    have k2 : Kept (∀ j, j < nx → j ≠ rid → H2 j = H j) := fun j e1 e2 => (k2' j (Nat.lt_of_lt_of_le (show j < m1 by omega) (Nat.le_add_right _ _)) e2).trans (upd_out (by omega) (upd_out (by omega) (k1 j e1 e2)))
    clear hm2' k2' k1 b1 g1
    have hl2 : (roomF s1).l.length ≤ 2 ^ 40 := hl1
    rw [hbad]
    generalize roomF s1 = s2 at *
    clear hl1
    repeat' (first | ((with_reducible first | refine wA (by omega) ?_ | refine wB (by omega) ?_ | refine wC (by omega) ?_ | refine wD (by omega) ?_ | refine wE ?_ ?_ | refine wF ?_ ?_ | refine wG ?_ ?_ | refine wH ?_ ?_ | refine wI ?_ ?_ | refine wJ ?_ ?_ | refine wK ?_ ?_ | refine wL ?_ ?_) <;> intro _) | simp (maxSteps := 1000000) (disch := omega) only [go_sem, Nat.reduceAdd, Nat.reduceMul, Nat.reduceSub, Nat.reduceLeDiff, Nat.reduceEqDiff, Nat.reduceBEq, ↓reduceIte, reduceCtorEq, Int.reduceEq, Int.reduceLE, Int.reduceLT, Int.reduceAdd, Int.reduceSub, Int.reduceNeg, Int.reduceToNat, Int.reduceNe, Nat.reducePow, Nat.reduceShiftRight, Nat.reduceMod, *])
    refine fin_mut (.agg [.sc (.int .i64 0), .sc (.int .i64 0), .sc (.string ⟨#[]⟩), .sc (.slice none 0 0), .sc (.slice none 0 0)]) (.inr rfl) cE2 ⟨Nat.le_trans (Nat.le_trans (Nat.le_trans (Nat.le_add_right _ _) hm1) hm2) (Nat.le_add_right _ _), ⟨0, tm0_weak 0 0 _ [] [] (.nil 3) (.nil 5)⟩, upd_out (by omega) g2, fun j e1 e2 => upd_out (by omega) (k2 j e1 e2)⟩
  | false =>
    rw [if_neg (by simp)]
    obtain ⟨-, n0, n1, n2, n3⟩ := room_step hs hbad
    have hrdy : Rdy fuel (roomF (numF s).2) := .inr ⟨by omega, by omega, by omega⟩
    clear n0 n1 n2 n3
    have hl1 : (numF s).2.l.length ≤ 2 ^ 40 := Nat.le_trans (numF_len s) hl
    repeat' (first | ((with_reducible first | refine wA (by omega) ?_ | refine wB (by omega) ?_ | refine wC (by omega) ?_ | refine wD (by omega) ?_ | refine wE ?_ ?_ | refine wF ?_ ?_ | refine wG ?_ ?_ | refine wH ?_ ?_ | refine wI ?_ ?_ | refine wJ ?_ ?_ | refine wK ?_ ?_ | refine wL ?_ ?_) <;> intro _) | simp (maxSteps := 1000000) (disch := omega) only [go_sem, Nat.reduceAdd, Nat.reduceMul, Nat.reduceSub, Nat.reduceLeDiff, Nat.reduceEqDiff, Nat.reduceBEq, ↓reduceIte, reduceCtorEq, Int.reduceEq, Int.reduceLE, Int.reduceLT, Int.reduceAdd, Int.reduceSub, Int.reduceNeg, Int.reduceToNat, Int.reduceNe, Nat.reducePow, Nat.reduceShiftRight, Nat.reduceMod, mc_pack_reader_term, *])
    refine call_mut (number_m s hl rid w _ _ (Nat.lt_of_lt_of_le hr (Nat.le_add_right _ _)) (upd_out (by omega) hH)) ?_
    rintro H1 m1 r1 ⟨hm1', rfl, g1, k1'⟩ -
    have hm1 : nx + 6 ≤ m1 := hm1'
    have b1 : H1 nx = some ⟨[.sc (.int .i64 0), .sc (.int .i64 0), .sc (.string ⟨#[]⟩), .sc (.slice none 0 0), .sc (.slice none 0 0)], true⟩ := (k1' nx (Nat.lt_add_of_pos_right (by decide)) (by omega)).trans (upd_same _ _ _)
    have k1 : Kept (∀ j, j < nx → j ≠ rid → H1 j = H j) := fun j e1 e2 => (k1' j (Nat.lt_of_lt_of_le e1 (Nat.le_add_right _ _)) e2).trans (upd_ne _ _ (by omega))
    clear hm1' k1' hH
    generalize (numF s).1 = k at *
    generalize (numF s).2 = s1 at *
    repeat' (first | ((with_reducible first | refine wA (by omega) ?_ | refine wB (by omega) ?_ | refine wC (by omega) ?_ | refine wD (by omega) ?_ | refine wE ?_ ?_ | refine wF ?_ ?_ | refine wG ?_ ?_ | refine wH ?_ ?_ | refine wI ?_ ?_ | refine wJ ?_ ?_ | refine wK ?_ ?_ | refine wL ?_ ?_) <;> intro _) | simp (maxSteps := 1000000) (disch := omega) only [go_sem, Nat.reduceAdd, Nat.reduceMul, Nat.reduceSub, Nat.reduceLeDiff, Nat.reduceEqDiff, Nat.reduceBEq, ↓reduceIte, reduceCtorEq, Int.reduceEq, Int.reduceLE, Int.reduceLT, Int.reduceAdd, Int.reduceSub, Int.reduceNeg, Int.reduceToNat, Int.reduceNe, Nat.reducePow, Nat.reduceShiftRight, Nat.reduceMod, *])
    refine call_mut (room_m s1 rid w _ _ (show rid < _ from Nat.lt_of_lt_of_le (show rid < m1 by omega) (Nat.le_add_right _ _)) (upd_out (by omega) (upd_out (by omega) g1))) ?_
    rintro H2 m2 r2 ⟨hm2', rfl, g2, k2'⟩ -
    have hm2 : m1 ≤ m2 := Nat.le_trans (Nat.le_add_right _ _) hm2'
    have b2 : H2 nx = some ⟨[.sc (.int .i64 0), .sc (.int .i64 0), .sc (.string ⟨#[]⟩), .sc (.slice none 0 0), .sc (.slice none 0 0)], true⟩ := (k2' nx (Nat.lt_of_lt_of_le (show nx < m1 by omega) (Nat.le_add_right _ _)) (by omega)).trans (upd_out (by omega) (upd_out (by omega) b1))
    have b3 : H2 (nx + 4) = some ⟨[.sc (.int .i64 k), .sc (.int .i64 0), .sc (.string ⟨#[]⟩), .sc (.slice none 0 0), .sc (.slice none 0 0)], true⟩ := (k2' (nx + 4) (Nat.lt_of_lt_of_le (show nx + 4 < m1 by omega) (Nat.le_add_right _ _)) (by omega)).trans (upd_same _ _ _)
    have k2 : Kept (∀ j, j < nx → j ≠ rid → H2 j = H j) := fun j e1 e2 => (k2' j (Nat.lt_of_lt_of_le (show j < m1 by omega) (Nat.le_add_right _ _)) e2).trans (upd_out (by omega) (upd_out (by omega) (k1 j e1 e2)))
    clear hm2' k2' k1 b1 g1
    have hl2 : (roomF s1).l.length ≤ 2 ^ 40 := hl1
    rw [hbad]
    generalize roomF s1 = s2 at *
    clear hl1
    obtain rfl | rfl | rfl | rfl | rfl | rfl | rfl | ⟨h1, h2, h3, h4, h5, h6, h7⟩ : k = 1 ∨ k = 2 ∨ k = 3 ∨ k = 4 ∨ k = 5 ∨ k = 6 ∨ k = 7 ∨ (k ≠ 1 ∧ k ≠ 2 ∧ k ≠ 3 ∧ k ≠ 4 ∧ k ≠ 5 ∧ k ≠ 6 ∧ k ≠ 7) := by omega
    · rw [if_pos rfl]
      simp only
      have c2 := b3
      clear b3
      repeat' (first | ((with_reducible first | refine wA (by omega) ?_ | refine wB (by omega) ?_ | refine wC (by omega) ?_ | refine wD (by omega) ?_ | refine wE ?_ ?_ | refine wF ?_ ?_ | refine wG ?_ ?_ | refine wH ?_ ?_ | refine wI ?_ ?_ | refine wJ ?_ ?_ | refine wK ?_ ?_ | refine wL ?_ ?_) <;> intro _) | simp (maxSteps := 1000000) (disch := omega) only [go_sem, Nat.reduceAdd, Nat.reduceMul, Nat.reduceSub, Nat.reduceLeDiff, Nat.reduceEqDiff, Nat.reduceBEq, ↓reduceIte, reduceCtorEq, Int.reduceEq, Int.reduceLE, Int.reduceLT, Int.reduceAdd, Int.reduceSub, Int.reduceNeg, Int.reduceToNat, Int.reduceNe, Nat.reducePow, Nat.reduceShiftRight, Nat.reduceMod, *])
      refine call_mut (number_m s2 hl2 rid w _ _ (Nat.lt_of_lt_of_le (show rid < m2 by omega) (Nat.le_add_right _ _)) (g2)) ?_
      rintro H3 m3 r3 ⟨hm3', rfl, g3, k3'⟩ -
      have hm3 : m2 ≤ m3 := Nat.le_trans (Nat.le_add_right _ _) hm3'
      have b3 : H3 nx = some ⟨[.sc (.int .i64 0), .sc (.int .i64 0), .sc (.string ⟨#[]⟩), .sc (.slice none 0 0), .sc (.slice none 0 0)], true⟩ := (k3' nx (Nat.lt_of_lt_of_le (show nx < m2 by omega) (Nat.le_add_right _ _)) (by omega)).trans (b2)
      have c3 : H3 (nx + 4) = some ⟨[.sc (.int .i64 (1 : Nat)), .sc (.int .i64 0), .sc (.string ⟨#[]⟩), .sc (.slice none 0 0), .sc (.slice none 0 0)], true⟩ := (k3' (nx + 4) (Nat.lt_of_lt_of_le (show nx + 4 < m2 by omega) (Nat.le_add_right _ _)) (by omega)).trans c2
      have k3 : Kept (∀ j, j < nx → j ≠ rid → H3 j = H j) := fun j e1 e2 => (k3' j (Nat.lt_of_lt_of_le (show j < m2 by omega) (Nat.le_add_right _ _)) e2).trans (k2 j e1 e2)
      clear hm3' k3' k2 b2 c2 g2
      repeat' (first | ((with_reducible first | refine wA (by omega) ?_ | refine wB (by omega) ?_ | refine wC (by omega) ?_ | refine wD (by omega) ?_ | refine wE ?_ ?_ | refine wF ?_ ?_ | refine wG ?_ ?_ | refine wH ?_ ?_ | refine wI ?_ ?_ | refine wJ ?_ ?_ | refine wK ?_ ?_ | refine wL ?_ ?_) <;> intro _) | simp (maxSteps := 1000000) (disch := omega) only [go_sem, Nat.reduceAdd, Nat.reduceMul, Nat.reduceSub, Nat.reduceLeDiff, Nat.reduceEqDiff, Nat.reduceBEq, ↓reduceIte, reduceCtorEq, Int.reduceEq, Int.reduceLE, Int.reduceLT, Int.reduceAdd, Int.reduceSub, Int.reduceNeg, Int.reduceToNat, Int.reduceNe, Nat.reducePow, Nat.reduceShiftRight, Nat.reduceMod, *])
      refine fin_mut (.agg [.sc (.int .i64 (1 : Nat)), .sc (.int .i64 ((numF s2).1 : Nat)), .sc (.string ⟨#[]⟩), .sc (.slice none 0 0), .sc (.slice none 0 0)]) (.inr rfl) cE2 ⟨by simp only [Nat.add_assoc]; exact Nat.le_trans (by omega) (Nat.le_add_right _ _), ⟨0, tm0_weak _ _ _ [] [] (.nil 3) (.nil 5)⟩, upd_out (by omega) (upd_out (by omega) g3), fun j e1 e2 => upd_out (by omega) (upd_out (by omega) (k3 j e1 e2))⟩
    · rw [if_neg (by decide), if_pos rfl]
      simp only
      have c2 := b3
      clear b3
      repeat' (first | ((with_reducible first | refine wA (by omega) ?_ | refine wB (by omega) ?_ | refine wC (by omega) ?_ | refine wD (by omega) ?_ | refine wE ?_ ?_ | refine wF ?_ ?_ | refine wG ?_ ?_ | refine wH ?_ ?_ | refine wI ?_ ?_ | refine wJ ?_ ?_ | refine wK ?_ ?_ | refine wL ?_ ?_) <;> intro _) | simp (maxSteps := 1000000) (disch := omega) only [go_sem, Nat.reduceAdd, Nat.reduceMul, Nat.reduceSub, Nat.reduceLeDiff, Nat.reduceEqDiff, Nat.reduceBEq, ↓reduceIte, reduceCtorEq, Int.reduceEq, Int.reduceLE, Int.reduceLT, Int.reduceAdd, Int.reduceSub, Int.reduceNeg, Int.reduceToNat, Int.reduceNe, Nat.reducePow, Nat.reduceShiftRight, Nat.reduceMod, *])
      refine call_mut (levels_m (level_step fuel) (level_shrink fuel) (level_m fuel) 1 (by decide) s2 hrdy hl2 rid w _ _ (Nat.lt_of_lt_of_le (show rid < m2 by omega) (Nat.le_add_right _ _)) (g2)) ?_
      rintro H3 m3 r3 ⟨hm3', rfl, g3, k3'⟩ -
      have hm3 : m2 ≤ m3 := Nat.le_trans (Nat.le_add_right _ _) hm3'
      have b3 : H3 nx = some ⟨[.sc (.int .i64 0), .sc (.int .i64 0), .sc (.string ⟨#[]⟩), .sc (.slice none 0 0), .sc (.slice none 0 0)], true⟩ := (k3' nx (Nat.lt_of_lt_of_le (show nx < m2 by omega) (Nat.le_add_right _ _)) (by omega)).trans (b2)
      have c3 : H3 (nx + 4) = some ⟨[.sc (.int .i64 (2 : Nat)), .sc (.int .i64 0), .sc (.string ⟨#[]⟩), .sc (.slice none 0 0), .sc (.slice none 0 0)], true⟩ := (k3' (nx + 4) (Nat.lt_of_lt_of_le (show nx + 4 < m2 by omega) (Nat.le_add_right _ _)) (by omega)).trans c2
      have k3 : Kept (∀ j, j < nx → j ≠ rid → H3 j = H j) := fun j e1 e2 => (k3' j (Nat.lt_of_lt_of_le (show j < m2 by omega) (Nat.le_add_right _ _)) e2).trans (k2 j e1 e2)
      clear hm3' k3' k2 b2 c2 g2
      repeat' (first | ((with_reducible first | refine wA (by omega) ?_ | refine wB (by omega) ?_ | refine wC (by omega) ?_ | refine wD (by omega) ?_ | refine wE ?_ ?_ | refine wF ?_ ?_ | refine wG ?_ ?_ | refine wH ?_ ?_ | refine wI ?_ ?_ | refine wJ ?_ ?_ | refine wK ?_ ?_ | refine wL ?_ ?_) <;> intro _) | simp (maxSteps := 1000000) (disch := omega) only [go_sem, Nat.reduceAdd, Nat.reduceMul, Nat.reduceSub, Nat.reduceLeDiff, Nat.reduceEqDiff, Nat.reduceBEq, ↓reduceIte, reduceCtorEq, Int.reduceEq, Int.reduceLE, Int.reduceLT, Int.reduceAdd, Int.reduceSub, Int.reduceNeg, Int.reduceToNat, Int.reduceNe, Nat.reducePow, Nat.reduceShiftRight, Nat.reduceMod, *])
      refine fin_mut (.agg [.sc (.int .i64 (2 : Nat)), .sc (.int .i64 0), .sc (.string ⟨#[]⟩), .sl 3 ((repF (levelF fuel) 1 s2).1.map Lv.pv), .sc (.slice none 0 0)]) (.inr rfl) cE2 ⟨by simp only [Nat.add_assoc]; exact Nat.le_trans (by omega) (Nat.le_add_right _ _), ⟨0, tm0_weak _ _ _ _ [] (.refl _) (.nil 5)⟩, upd_out (by omega) (upd_out (by omega) g3), fun j e1 e2 => upd_out (by omega) (upd_out (by omega) (k3 j e1 e2))⟩
    · rw [if_neg (by decide), if_neg (by decide), if_pos rfl]
      simp only
      have c2 := b3
      clear b3
      have n1 : Step s2 (nameF s2).2 := .name hrdy.top
      have hrdy3 := n1.rdy hrdy
      have n2 : Step (nameF s2).2 (numF (nameF s2).2).2 := .num hrdy3.top
      have hrdy4 := n2.rdy hrdy3
      have hl3 : (nameF s2).2.l.length ≤ 2 ^ 40 := Nat.le_trans (nameF_len s2) hl2
      have hl4 : (numF (nameF s2).2).2.l.length ≤ 2 ^ 40 := Nat.le_trans (numF_len _) hl3
      clear n1 n2
      repeat' (first | ((with_reducible first | refine wA (by omega) ?_ | refine wB (by omega) ?_ | refine wC (by omega) ?_ | refine wD (by omega) ?_ | refine wE ?_ ?_ | refine wF ?_ ?_ | refine wG ?_ ?_ | refine wH ?_ ?_ | refine wI ?_ ?_ | refine wJ ?_ ?_ | refine wK ?_ ?_ | refine wL ?_ ?_) <;> intro _) | simp (maxSteps := 1000000) (disch := omega) only [go_sem, Nat.reduceAdd, Nat.reduceMul, Nat.reduceSub, Nat.reduceLeDiff, Nat.reduceEqDiff, Nat.reduceBEq, ↓reduceIte, reduceCtorEq, Int.reduceEq, Int.reduceLE, Int.reduceLT, Int.reduceAdd, Int.reduceSub, Int.reduceNeg, Int.reduceToNat, Int.reduceNe, Nat.reducePow, Nat.reduceShiftRight, Nat.reduceMod, *])
      refine call_mut (name_m s2 hl2 rid w _ _ (Nat.lt_of_lt_of_le (show rid < m2 by omega) (Nat.le_add_right _ _)) (g2)) ?_
      rintro H3 m3 r3 ⟨hm3', rfl, g3, k3'⟩ -
      have hm3 : m2 ≤ m3 := Nat.le_trans (Nat.le_add_right _ _) hm3'
      have b3 : H3 nx = some ⟨[.sc (.int .i64 0), .sc (.int .i64 0), .sc (.string ⟨#[]⟩), .sc (.slice none 0 0), .sc (.slice none 0 0)], true⟩ := (k3' nx (Nat.lt_of_lt_of_le (show nx < m2 by omega) (Nat.le_add_right _ _)) (by omega)).trans (b2)
      have c3 : H3 (nx + 4) = some ⟨[.sc (.int .i64 (3 : Nat)), .sc (.int .i64 0), .sc (.string ⟨#[]⟩), .sc (.slice none 0 0), .sc (.slice none 0 0)], true⟩ := (k3' (nx + 4) (Nat.lt_of_lt_of_le (show nx + 4 < m2 by omega) (Nat.le_add_right _ _)) (by omega)).trans c2
      have k3 : Kept (∀ j, j < nx → j ≠ rid → H3 j = H j) := fun j e1 e2 => (k3' j (Nat.lt_of_lt_of_le (show j < m2 by omega) (Nat.le_add_right _ _)) e2).trans (k2 j e1 e2)
      clear hm3' k3' k2 b2 c2 g2
      repeat' (first | ((with_reducible first | refine wA (by omega) ?_ | refine wB (by omega) ?_ | refine wC (by omega) ?_ | refine wD (by omega) ?_ | refine wE ?_ ?_ | refine wF ?_ ?_ | refine wG ?_ ?_ | refine wH ?_ ?_ | refine wI ?_ ?_ | refine wJ ?_ ?_ | refine wK ?_ ?_ | refine wL ?_ ?_) <;> intro _) | simp (maxSteps := 1000000) (disch := omega) only [go_sem, Nat.reduceAdd, Nat.reduceMul, Nat.reduceSub, Nat.reduceLeDiff, Nat.reduceEqDiff, Nat.reduceBEq, ↓reduceIte, reduceCtorEq, Int.reduceEq, Int.reduceLE, Int.reduceLT, Int.reduceAdd, Int.reduceSub, Int.reduceNeg, Int.reduceToNat, Int.reduceNe, Nat.reducePow, Nat.reduceShiftRight, Nat.reduceMod, *])
      refine call_mut (number_m (nameF s2).2 hl3 rid w _ _ (Nat.lt_of_lt_of_le (show rid < m3 by omega) (Nat.le_add_right _ _)) (upd_out (by omega) (g3))) ?_
      rintro H4 m4 r4 ⟨hm4', rfl, g4, k4'⟩ -
      have hm4 : m3 ≤ m4 := Nat.le_trans (Nat.le_add_right _ _) hm4'
      have b4 : H4 nx = some ⟨[.sc (.int .i64 0), .sc (.int .i64 0), .sc (.string ⟨#[]⟩), .sc (.slice none 0 0), .sc (.slice none 0 0)], true⟩ := (k4' nx (Nat.lt_of_lt_of_le (show nx < m3 by omega) (Nat.le_add_right _ _)) (by omega)).trans (upd_out (by omega) (b3))
      have c4 : H4 (nx + 4) = some ⟨[.sc (.int .i64 (3 : Nat)), .sc (.int .i64 0), .sc (.string (nameF s2).1), .sc (.slice none 0 0), .sc (.slice none 0 0)], true⟩ := (k4' (nx + 4) (Nat.lt_of_lt_of_le (show nx + 4 < m3 by omega) (Nat.le_add_right _ _)) (by omega)).trans (upd_same _ _ _)
      have k4 : Kept (∀ j, j < nx → j ≠ rid → H4 j = H j) := fun j e1 e2 => (k4' j (Nat.lt_of_lt_of_le (show j < m3 by omega) (Nat.le_add_right _ _)) e2).trans (upd_out (by omega) (k3 j e1 e2))
      clear hm4' k4' k3 b3 c3 g3
      have hmin : min (((numF (nameF s2).2).1 : Nat) : Int) 5 = ((min (numF (nameF s2).2).1 5 : Nat) : Int) := by omega
      generalize (numF (nameF s2).2).1 = c at *
      generalize (numF (nameF s2).2).2 = s4 at *
      generalize (nameF s2).1 = nm at *
      repeat' (first | ((with_reducible first | refine wA (by omega) ?_ | refine wB (by omega) ?_ | refine wC (by omega) ?_ | refine wD (by omega) ?_ | refine wE ?_ ?_ | refine wF ?_ ?_ | refine wG ?_ ?_ | refine wH ?_ ?_ | refine wI ?_ ?_ | refine wJ ?_ ?_ | refine wK ?_ ?_ | refine wL ?_ ?_) <;> intro _) | simp (maxSteps := 1000000) (disch := omega) only [go_sem, Nat.reduceAdd, Nat.reduceMul, Nat.reduceSub, Nat.reduceLeDiff, Nat.reduceEqDiff, Nat.reduceBEq, ↓reduceIte, reduceCtorEq, Int.reduceEq, Int.reduceLE, Int.reduceLT, Int.reduceAdd, Int.reduceSub, Int.reduceNeg, Int.reduceToNat, Int.reduceNe, Nat.reducePow, Nat.reduceShiftRight, Nat.reduceMod, *])
      refine call_mut (levels_m (level_step fuel) (level_shrink fuel) (level_m fuel) (min c 5) (by omega) s4 hrdy4 hl4 rid w _ _ (Nat.lt_of_lt_of_le (show rid < m4 by omega) (Nat.le_refl _)) g4) ?_
      rintro H5 m5 r5 ⟨hm5', rfl, g5, k5'⟩ -
      have hm5 : m4 ≤ m5 := hm5'
      have b5 : H5 nx = some ⟨[.sc (.int .i64 0), .sc (.int .i64 0), .sc (.string ⟨#[]⟩), .sc (.slice none 0 0), .sc (.slice none 0 0)], true⟩ := (k5' nx (Nat.lt_of_lt_of_le (show nx < m4 by omega) (Nat.le_refl _)) (by omega)).trans (b4)
      have c5 : H5 (nx + 4) = some ⟨[.sc (.int .i64 (3 : Nat)), .sc (.int .i64 0), .sc (.string nm), .sc (.slice none 0 0), .sc (.slice none 0 0)], true⟩ := (k5' (nx + 4) (Nat.lt_of_lt_of_le (show nx + 4 < m4 by omega) (Nat.le_refl _)) (by omega)).trans c4
      have k5 : Kept (∀ j, j < nx → j ≠ rid → H5 j = H j) := fun j e1 e2 => (k5' j (Nat.lt_of_lt_of_le (show j < m4 by omega) (Nat.le_refl _)) e2).trans (k4 j e1 e2)
      clear hm5' k5' k4 b4 c4 g4
      repeat' (first | ((with_reducible first | refine wA (by omega) ?_ | refine wB (by omega) ?_ | refine wC (by omega) ?_ | refine wD (by omega) ?_ | refine wE ?_ ?_ | refine wF ?_ ?_ | refine wG ?_ ?_ | refine wH ?_ ?_ | refine wI ?_ ?_ | refine wJ ?_ ?_ | refine wK ?_ ?_ | refine wL ?_ ?_) <;> intro _) | simp (maxSteps := 1000000) (disch := omega) only [go_sem, Nat.reduceAdd, Nat.reduceMul, Nat.reduceSub, Nat.reduceLeDiff, Nat.reduceEqDiff, Nat.reduceBEq, ↓reduceIte, reduceCtorEq, Int.reduceEq, Int.reduceLE, Int.reduceLT, Int.reduceAdd, Int.reduceSub, Int.reduceNeg, Int.reduceToNat, Int.reduceNe, Nat.reducePow, Nat.reduceShiftRight, Nat.reduceMod, *])
      refine fin_mut (.agg [.sc (.int .i64 (3 : Nat)), .sc (.int .i64 0), .sc (.string nm), .sl 3 ((repF (levelF fuel) (min c 5) s4).1.map Lv.pv), .sc (.slice none 0 0)]) (.inr rfl) cE2 ⟨by simp only [Nat.add_assoc]; exact Nat.le_trans (by omega) (Nat.le_add_right _ _), ⟨0, tm0_weak _ _ _ _ [] (.refl _) (.nil 5)⟩, upd_out (by omega) (upd_out (by omega) g5), fun j e1 e2 => upd_out (by omega) (upd_out (by omega) (k5 j e1 e2))⟩
    · rw [if_neg (by decide), if_neg (by decide), if_neg (by decide), if_pos (.inl rfl)]
      simp only
      have c2 := b3
      clear b3
      repeat' (first | ((with_reducible first | refine wA (by omega) ?_ | refine wB (by omega) ?_ | refine wC (by omega) ?_ | refine wD (by omega) ?_ | refine wE ?_ ?_ | refine wF ?_ ?_ | refine wG ?_ ?_ | refine wH ?_ ?_ | refine wI ?_ ?_ | refine wJ ?_ ?_ | refine wK ?_ ?_ | refine wL ?_ ?_) <;> intro _) | simp (maxSteps := 1000000) (disch := omega) only [go_sem, Nat.reduceAdd, Nat.reduceMul, Nat.reduceSub, Nat.reduceLeDiff, Nat.reduceEqDiff, Nat.reduceBEq, ↓reduceIte, reduceCtorEq, Int.reduceEq, Int.reduceLE, Int.reduceLT, Int.reduceAdd, Int.reduceSub, Int.reduceNeg, Int.reduceToNat, Int.reduceNe, Nat.reducePow, Nat.reduceShiftRight, Nat.reduceMod, *])
      refine call_mut (terms_m (term_step fuel) (term_shrink fuel) ih 2 (by decide) s2 hrdy hl2 rid w _ _ (Nat.lt_of_lt_of_le (show rid < m2 by omega) (Nat.le_add_right _ _)) (g2)) ?_
      rintro H3 m3 r3 ⟨hm3', rfl, g3, k3'⟩ -
      have hm3 : m2 ≤ m3 := Nat.le_trans (Nat.le_add_right _ _) hm3'
      have b3 : H3 nx = some ⟨[.sc (.int .i64 0), .sc (.int .i64 0), .sc (.string ⟨#[]⟩), .sc (.slice none 0 0), .sc (.slice none 0 0)], true⟩ := (k3' nx (Nat.lt_of_lt_of_le (show nx < m2 by omega) (Nat.le_add_right _ _)) (by omega)).trans (b2)
      have c3 : H3 (nx + 4) = some ⟨[.sc (.int .i64 (4 : Nat)), .sc (.int .i64 0), .sc (.string ⟨#[]⟩), .sc (.slice none 0 0), .sc (.slice none 0 0)], true⟩ := (k3' (nx + 4) (Nat.lt_of_lt_of_le (show nx + 4 < m2 by omega) (Nat.le_add_right _ _)) (by omega)).trans c2
      have k3 : Kept (∀ j, j < nx → j ≠ rid → H3 j = H j) := fun j e1 e2 => (k3' j (Nat.lt_of_lt_of_le (show j < m2 by omega) (Nat.le_add_right _ _)) e2).trans (k2 j e1 e2)
      clear hm3' k3' k2 b2 c2 g2
      repeat' (first | ((with_reducible first | refine wA (by omega) ?_ | refine wB (by omega) ?_ | refine wC (by omega) ?_ | refine wD (by omega) ?_ | refine wE ?_ ?_ | refine wF ?_ ?_ | refine wG ?_ ?_ | refine wH ?_ ?_ | refine wI ?_ ?_ | refine wJ ?_ ?_ | refine wK ?_ ?_ | refine wL ?_ ?_) <;> intro _) | simp (maxSteps := 1000000) (disch := omega) only [go_sem, Nat.reduceAdd, Nat.reduceMul, Nat.reduceSub, Nat.reduceLeDiff, Nat.reduceEqDiff, Nat.reduceBEq, ↓reduceIte, reduceCtorEq, Int.reduceEq, Int.reduceLE, Int.reduceLT, Int.reduceAdd, Int.reduceSub, Int.reduceNeg, Int.reduceToNat, Int.reduceNe, Nat.reducePow, Nat.reduceShiftRight, Nat.reduceMod, *])
      refine fin_mut (.agg [.sc (.int .i64 (4 : Nat)), .sc (.int .i64 0), .sc (.string ⟨#[]⟩), .sc (.slice none 0 0), .sl 5 ((repF (termF fuel) 2 s2).1.map Tm.pv)]) (.inr rfl) cE2 ⟨by simp only [Nat.add_assoc]; exact Nat.le_trans (by omega) (Nat.le_add_right _ _), ⟨0, tm0_weak _ _ _ [] _ (.nil 3) (.refl _)⟩, upd_out (by omega) (upd_out (by omega) g3), fun j e1 e2 => upd_out (by omega) (upd_out (by omega) (k3 j e1 e2))⟩
    · rw [if_neg (by decide), if_neg (by decide), if_neg (by decide), if_pos (.inr (.inl rfl))]
      simp only
      have c2 := b3
      clear b3
      repeat' (first | ((with_reducible first | refine wA (by omega) ?_ | refine wB (by omega) ?_ | refine wC (by omega) ?_ | refine wD (by omega) ?_ | refine wE ?_ ?_ | refine wF ?_ ?_ | refine wG ?_ ?_ | refine wH ?_ ?_ | refine wI ?_ ?_ | refine wJ ?_ ?_ | refine wK ?_ ?_ | refine wL ?_ ?_) <;> intro _) | simp (maxSteps := 1000000) (disch := omega) only [go_sem, Nat.reduceAdd, Nat.reduceMul, Nat.reduceSub, Nat.reduceLeDiff, Nat.reduceEqDiff, Nat.reduceBEq, ↓reduceIte, reduceCtorEq, Int.reduceEq, Int.reduceLE, Int.reduceLT, Int.reduceAdd, Int.reduceSub, Int.reduceNeg, Int.reduceToNat, Int.reduceNe, Nat.reducePow, Nat.reduceShiftRight, Nat.reduceMod, *])
      refine call_mut (terms_m (term_step fuel) (term_shrink fuel) ih 2 (by decide) s2 hrdy hl2 rid w _ _ (Nat.lt_of_lt_of_le (show rid < m2 by omega) (Nat.le_add_right _ _)) (g2)) ?_
      rintro H3 m3 r3 ⟨hm3', rfl, g3, k3'⟩ -
      have hm3 : m2 ≤ m3 := Nat.le_trans (Nat.le_add_right _ _) hm3'
      have b3 : H3 nx = some ⟨[.sc (.int .i64 0), .sc (.int .i64 0), .sc (.string ⟨#[]⟩), .sc (.slice none 0 0), .sc (.slice none 0 0)], true⟩ := (k3' nx (Nat.lt_of_lt_of_le (show nx < m2 by omega) (Nat.le_add_right _ _)) (by omega)).trans (b2)
      have c3 : H3 (nx + 4) = some ⟨[.sc (.int .i64 (5 : Nat)), .sc (.int .i64 0), .sc (.string ⟨#[]⟩), .sc (.slice none 0 0), .sc (.slice none 0 0)], true⟩ := (k3' (nx + 4) (Nat.lt_of_lt_of_le (show nx + 4 < m2 by omega) (Nat.le_add_right _ _)) (by omega)).trans c2
      have k3 : Kept (∀ j, j < nx → j ≠ rid → H3 j = H j) := fun j e1 e2 => (k3' j (Nat.lt_of_lt_of_le (show j < m2 by omega) (Nat.le_add_right _ _)) e2).trans (k2 j e1 e2)
      clear hm3' k3' k2 b2 c2 g2
      repeat' (first | ((with_reducible first | refine wA (by omega) ?_ | refine wB (by omega) ?_ | refine wC (by omega) ?_ | refine wD (by omega) ?_ | refine wE ?_ ?_ | refine wF ?_ ?_ | refine wG ?_ ?_ | refine wH ?_ ?_ | refine wI ?_ ?_ | refine wJ ?_ ?_ | refine wK ?_ ?_ | refine wL ?_ ?_) <;> intro _) | simp (maxSteps := 1000000) (disch := omega) only [go_sem, Nat.reduceAdd, Nat.reduceMul, Nat.reduceSub, Nat.reduceLeDiff, Nat.reduceEqDiff, Nat.reduceBEq, ↓reduceIte, reduceCtorEq, Int.reduceEq, Int.reduceLE, Int.reduceLT, Int.reduceAdd, Int.reduceSub, Int.reduceNeg, Int.reduceToNat, Int.reduceNe, Nat.reducePow, Nat.reduceShiftRight, Nat.reduceMod, *])
      refine fin_mut (.agg [.sc (.int .i64 (5 : Nat)), .sc (.int .i64 0), .sc (.string ⟨#[]⟩), .sc (.slice none 0 0), .sl 5 ((repF (termF fuel) 2 s2).1.map Tm.pv)]) (.inr rfl) cE2 ⟨by simp only [Nat.add_assoc]; exact Nat.le_trans (by omega) (Nat.le_add_right _ _), ⟨0, tm0_weak _ _ _ [] _ (.nil 3) (.refl _)⟩, upd_out (by omega) (upd_out (by omega) g3), fun j e1 e2 => upd_out (by omega) (upd_out (by omega) (k3 j e1 e2))⟩
    · rw [if_neg (by decide), if_neg (by decide), if_neg (by decide), if_pos (.inr (.inr rfl))]
      simp only
      have c2 := b3
      clear b3
      repeat' (first | ((with_reducible first | refine wA (by omega) ?_ | refine wB (by omega) ?_ | refine wC (by omega) ?_ | refine wD (by omega) ?_ | refine wE ?_ ?_ | refine wF ?_ ?_ | refine wG ?_ ?_ | refine wH ?_ ?_ | refine wI ?_ ?_ | refine wJ ?_ ?_ | refine wK ?_ ?_ | refine wL ?_ ?_) <;> intro _) | simp (maxSteps := 1000000) (disch := omega) only [go_sem, Nat.reduceAdd, Nat.reduceMul, Nat.reduceSub, Nat.reduceLeDiff, Nat.reduceEqDiff, Nat.reduceBEq, ↓reduceIte, reduceCtorEq, Int.reduceEq, Int.reduceLE, Int.reduceLT, Int.reduceAdd, Int.reduceSub, Int.reduceNeg, Int.reduceToNat, Int.reduceNe, Nat.reducePow, Nat.reduceShiftRight, Nat.reduceMod, *])
      refine call_mut (terms_m (term_step fuel) (term_shrink fuel) ih 2 (by decide) s2 hrdy hl2 rid w _ _ (Nat.lt_of_lt_of_le (show rid < m2 by omega) (Nat.le_add_right _ _)) (g2)) ?_
      rintro H3 m3 r3 ⟨hm3', rfl, g3, k3'⟩ -
      have hm3 : m2 ≤ m3 := Nat.le_trans (Nat.le_add_right _ _) hm3'
      have b3 : H3 nx = some ⟨[.sc (.int .i64 0), .sc (.int .i64 0), .sc (.string ⟨#[]⟩), .sc (.slice none 0 0), .sc (.slice none 0 0)], true⟩ := (k3' nx (Nat.lt_of_lt_of_le (show nx < m2 by omega) (Nat.le_add_right _ _)) (by omega)).trans (b2)
      have c3 : H3 (nx + 4) = some ⟨[.sc (.int .i64 (6 : Nat)), .sc (.int .i64 0), .sc (.string ⟨#[]⟩), .sc (.slice none 0 0), .sc (.slice none 0 0)], true⟩ := (k3' (nx + 4) (Nat.lt_of_lt_of_le (show nx + 4 < m2 by omega) (Nat.le_add_right _ _)) (by omega)).trans c2
      have k3 : Kept (∀ j, j < nx → j ≠ rid → H3 j = H j) := fun j e1 e2 => (k3' j (Nat.lt_of_lt_of_le (show j < m2 by omega) (Nat.le_add_right _ _)) e2).trans (k2 j e1 e2)
      clear hm3' k3' k2 b2 c2 g2
      repeat' (first | ((with_reducible first | refine wA (by omega) ?_ | refine wB (by omega) ?_ | refine wC (by omega) ?_ | refine wD (by omega) ?_ | refine wE ?_ ?_ | refine wF ?_ ?_ | refine wG ?_ ?_ | refine wH ?_ ?_ | refine wI ?_ ?_ | refine wJ ?_ ?_ | refine wK ?_ ?_ | refine wL ?_ ?_) <;> intro _) | simp (maxSteps := 1000000) (disch := omega) only [go_sem, Nat.reduceAdd, Nat.reduceMul, Nat.reduceSub, Nat.reduceLeDiff, Nat.reduceEqDiff, Nat.reduceBEq, ↓reduceIte, reduceCtorEq, Int.reduceEq, Int.reduceLE, Int.reduceLT, Int.reduceAdd, Int.reduceSub, Int.reduceNeg, Int.reduceToNat, Int.reduceNe, Nat.reducePow, Nat.reduceShiftRight, Nat.reduceMod, *])
      refine fin_mut (.agg [.sc (.int .i64 (6 : Nat)), .sc (.int .i64 0), .sc (.string ⟨#[]⟩), .sc (.slice none 0 0), .sl 5 ((repF (termF fuel) 2 s2).1.map Tm.pv)]) (.inr rfl) cE2 ⟨by simp only [Nat.add_assoc]; exact Nat.le_trans (by omega) (Nat.le_add_right _ _), ⟨0, tm0_weak _ _ _ [] _ (.nil 3) (.refl _)⟩, upd_out (by omega) (upd_out (by omega) g3), fun j e1 e2 => upd_out (by omega) (upd_out (by omega) (k3 j e1 e2))⟩
    · rw [if_neg (by decide), if_neg (by decide), if_neg (by decide), if_neg (by decide), if_pos rfl]
      simp only
      have c2 := b3
      clear b3
      repeat' (first | ((with_reducible first | refine wA (by omega) ?_ | refine wB (by omega) ?_ | refine wC (by omega) ?_ | refine wD (by omega) ?_ | refine wE ?_ ?_ | refine wF ?_ ?_ | refine wG ?_ ?_ | refine wH ?_ ?_ | refine wI ?_ ?_ | refine wJ ?_ ?_ | refine wK ?_ ?_ | refine wL ?_ ?_) <;> intro _) | simp (maxSteps := 1000000) (disch := omega) only [go_sem, Nat.reduceAdd, Nat.reduceMul, Nat.reduceSub, Nat.reduceLeDiff, Nat.reduceEqDiff, Nat.reduceBEq, ↓reduceIte, reduceCtorEq, Int.reduceEq, Int.reduceLE, Int.reduceLT, Int.reduceAdd, Int.reduceSub, Int.reduceNeg, Int.reduceToNat, Int.reduceNe, Nat.reducePow, Nat.reduceShiftRight, Nat.reduceMod, *])
      refine call_mut (terms_m (term_step fuel) (term_shrink fuel) ih 3 (by decide) s2 hrdy hl2 rid w _ _ (Nat.lt_of_lt_of_le (show rid < m2 by omega) (Nat.le_add_right _ _)) (g2)) ?_
      rintro H3 m3 r3 ⟨hm3', rfl, g3, k3'⟩ -
      have hm3 : m2 ≤ m3 := Nat.le_trans (Nat.le_add_right _ _) hm3'
      have b3 : H3 nx = some ⟨[.sc (.int .i64 0), .sc (.int .i64 0), .sc (.string ⟨#[]⟩), .sc (.slice none 0 0), .sc (.slice none 0 0)], true⟩ := (k3' nx (Nat.lt_of_lt_of_le (show nx < m2 by omega) (Nat.le_add_right _ _)) (by omega)).trans (b2)
      have c3 : H3 (nx + 4) = some ⟨[.sc (.int .i64 (7 : Nat)), .sc (.int .i64 0), .sc (.string ⟨#[]⟩), .sc (.slice none 0 0), .sc (.slice none 0 0)], true⟩ := (k3' (nx + 4) (Nat.lt_of_lt_of_le (show nx + 4 < m2 by omega) (Nat.le_add_right _ _)) (by omega)).trans c2
      have k3 : Kept (∀ j, j < nx → j ≠ rid → H3 j = H j) := fun j e1 e2 => (k3' j (Nat.lt_of_lt_of_le (show j < m2 by omega) (Nat.le_add_right _ _)) e2).trans (k2 j e1 e2)
      clear hm3' k3' k2 b2 c2 g2
      repeat' (first | ((with_reducible first | refine wA (by omega) ?_ | refine wB (by omega) ?_ | refine wC (by omega) ?_ | refine wD (by omega) ?_ | refine wE ?_ ?_ | refine wF ?_ ?_ | refine wG ?_ ?_ | refine wH ?_ ?_ | refine wI ?_ ?_ | refine wJ ?_ ?_ | refine wK ?_ ?_ | refine wL ?_ ?_) <;> intro _) | simp (maxSteps := 1000000) (disch := omega) only [go_sem, Nat.reduceAdd, Nat.reduceMul, Nat.reduceSub, Nat.reduceLeDiff, Nat.reduceEqDiff, Nat.reduceBEq, ↓reduceIte, reduceCtorEq, Int.reduceEq, Int.reduceLE, Int.reduceLT, Int.reduceAdd, Int.reduceSub, Int.reduceNeg, Int.reduceToNat, Int.reduceNe, Nat.reducePow, Nat.reduceShiftRight, Nat.reduceMod, *])
      refine fin_mut (.agg [.sc (.int .i64 (7 : Nat)), .sc (.int .i64 0), .sc (.string ⟨#[]⟩), .sc (.slice none 0 0), .sl 5 ((repF (termF fuel) 3 s2).1.map Tm.pv)]) (.inr rfl) cE2 ⟨by simp only [Nat.add_assoc]; exact Nat.le_trans (by omega) (Nat.le_add_right _ _), ⟨0, tm0_weak _ _ _ [] _ (.nil 3) (.refl _)⟩, upd_out (by omega) (upd_out (by omega) g3), fun j e1 e2 => upd_out (by omega) (upd_out (by omega) (k3 j e1 e2))⟩
    · rw [if_neg h1, if_neg h2, if_neg h3, if_neg (by omega), if_neg h7]
      simp only
      obtain ⟨l2, no2, ba2⟩ := s2
      simp only [rdC] at g2
      repeat' (first | ((with_reducible first | refine wA (by omega) ?_ | refine wB (by omega) ?_ | refine wC (by omega) ?_ | refine wD (by omega) ?_ | refine wE ?_ ?_ | refine wF ?_ ?_ | refine wG ?_ ?_ | refine wH ?_ ?_ | refine wI ?_ ?_ | refine wJ ?_ ?_ | refine wK ?_ ?_ | refine wL ?_ ?_) <;> intro _) | simp (maxSteps := 1000000) (disch := omega) only [go_sem, Nat.reduceAdd, Nat.reduceMul, Nat.reduceSub, Nat.reduceLeDiff, Nat.reduceEqDiff, Nat.reduceBEq, ↓reduceIte, reduceCtorEq, Int.reduceEq, Int.reduceLE, Int.reduceLT, Int.reduceAdd, Int.reduceSub, Int.reduceNeg, Int.reduceToNat, Int.reduceNe, Nat.reducePow, Nat.reduceShiftRight, Nat.reduceMod, *])
      refine fin_mut (.agg [.sc (.int .i64 (k : Nat)), .sc (.int .i64 0), .sc (.string ⟨#[]⟩), .sc (.slice none 0 0), .sc (.slice none 0 0)]) (.inr rfl) cE2 ⟨by simp only [Nat.add_assoc]; exact Nat.le_trans (by omega) (Nat.le_add_right _ _), ⟨0, tm0_weak _ _ _ [] [] (.nil 3) (.nil 5)⟩, ?_, fun j e1 e2 => ?_⟩
      · simp [upd, rdC, show rid ≠ nx by omega]
      · simp only [upd, e2, show j ≠ nx by omega, if_false]; exact k2 j e1 e2
end
section
set_option maxRecDepth 20000
attribute [local go_sem] pv_len pv_take tm_len tm_take pv_one tm_one id_ne id_ne' id_ne2
mutual
def Tm.vis (np : Int) : Int → Tm → Nat
  | k, .mk kind n s ls args => 1 + (if ((kind = 4 ∨ kind = 5 ∨ kind = 6) ∧ hasB n s ls args 0 0 2 = true) ∨ (kind = 7 ∧ hasB n s ls args 0 0 3 = true) then visA np k kind args.length 0 args else 0)
def visA (np : Int) : Int → Int → Nat → Nat → List Tm → Nat
  | _, _, _, _, [] => 0
  | k, kind, len, i, x :: r => x.vis np (k + deepB kind len i) + (if x.formed np (k + deepB kind len i) = true then visA np k kind len (i + 1) r else 0)
end
theorem vis_pos (np k : Int) (t : Tm) : 0 < t.vis np k := by
  cases t
  simp only [Tm.vis]
  omega
set_option maxHeartbeats 16000000 in
theorem formedV_p (np : Int) : ∀ (fuel : Nat) (t : Tm) (k : Int), t.vis np k ≤ fuel → 0 ≤ k → k + t.vis np k ≤ 2 ^ 60 → PPure Try.prog F.term_formed [.ptr t.pv, .sc (.int .i64 np), .sc (.int .i64 k)] (.sc (.bool (t.formed np k))) := by
  intro fuel
  induction fuel with
  | zero => intro t k h; have := vis_pos np k t; omega
  | succ fuel ih =>
    have hparts : ∀ (kind n : Int) (s : ByteArray) (ls : List Lv) (args : List Tm) (k : Int), visA np k kind args.length 0 args ≤ fuel → 0 ≤ k → k + visA np k kind args.length 0 args + 1 ≤ 2 ^ 60 →
        PPure Try.prog F.term_parts [.ptr (Tm.mk kind n s ls args).pv, .sc (.int .i64 np), .sc (.int .i64 k)] (.sc (.bool (formedA np k kind args.length 0 args))) := by
      intro kind n s ls args k hsz h0 h1
      have hih := Kept.mk ih
      clear ih
      refine pure_by is_term_parts (by simp) rfl fun hb nx => ?_
      have hb0 : args.length ≤ 9223372036854775807 := by simp [Tm.pv, bndL, PV.bnd] at hb; exact hb.2.1
      clear hb
      repeat' (first | ((with_reducible first | refine wA (by omega) ?_ | refine wB (by omega) ?_ | refine wC (by omega) ?_ | refine wD (by omega) ?_ | refine wE ?_ ?_ | refine wF ?_ ?_ | refine wG ?_ ?_ | refine wH ?_ ?_ | refine wI ?_ ?_ | refine wJ ?_ ?_ | refine wK ?_ ?_ | refine wL ?_ ?_) <;> intro _) | simp (maxSteps := 1000000) (disch := omega) only [go_sem, Nat.reduceAdd, Nat.reduceMul, Nat.reduceSub, Nat.reduceLeDiff, Nat.reduceEqDiff, Nat.reduceBEq, ↓reduceIte, reduceCtorEq, Int.reduceEq, Int.reduceLE, Int.reduceLT, Int.reduceAdd, Int.reduceSub, Int.reduceNeg, Int.reduceToNat, Int.reduceNe, Nat.reducePow, Nat.reduceShiftRight, Nat.reduceMod, mc_term_parts, Tm.pv, *])
      refine c_loopW 2147475648 (by kernel_rfl) (fun j f H m => ∃ i : Nat, j = args.length - i ∧ i ≤ args.length ∧ f 13 = .sc (.int .i64 i) ∧ Kept (formedA np k kind args.length 0 args = formedA np k kind args.length i (args.drop i)) ∧ visA np k kind args.length i (args.drop i) ≤ visA np k kind args.length 0 args) _ ⟨0, rfl, cE1, cE1, Kept.mk (by rw [List.drop_zero]), by rw [List.drop_zero]; exact Nat.le_refl _⟩ ?_
      rintro _ f H m ⟨i, rfl, hi, e13, hs, hv⟩
      by_cases hlt : i < args.length
      · have eg : args[i]? = some args[i] := List.getElem?_eq_getElem hlt
        have hd := deep_bd kind args.length i
        have hst : Kept (formedA np k kind args.length i (args.drop i) = (args[i].formed np (k + deepB kind args.length i) && formedA np k kind args.length (i + 1) (args.drop (i + 1)))) := Kept.mk (by rw [List.drop_eq_getElem_cons hlt]; rfl)
        have hvs : visA np k kind args.length i (args.drop i) = args[i].vis np (k + deepB kind args.length i) + (if args[i].formed np (k + deepB kind args.length i) = true then visA np k kind args.length (i + 1) (args.drop (i + 1)) else 0) := by rw [List.drop_eq_getElem_cons hlt]; rfl
        have hc1 := deeper_p (.mk kind n s ls args) i
        have hc2 := hc1 kind n s ls args rfl
        simp only [Tm.pv] at hc2
        have hc3 := hih.out args[i] (k + deepB kind args.length i) (by omega) (by omega) (by omega)
        clear hc1
        cases hf : args[i].formed np (k + deepB kind args.length i) with
        | false =>
          have e : formedA np k kind args.length 0 args = false := by rw [hs.out, hst.out, hf]; rfl
          rw [e]
          rw [hf] at hc3
          clear hs hst hvs hv hf e
          repeat' (first | ((with_reducible first | refine wA (by omega) ?_ | refine wB (by omega) ?_ | refine wC (by omega) ?_ | refine wD (by omega) ?_ | refine wE ?_ ?_ | refine wF ?_ ?_ | refine wG ?_ ?_ | refine wH ?_ ?_ | refine wI ?_ ?_ | refine wJ ?_ ?_ | refine wK ?_ ?_ | refine wL ?_ ?_) <;> intro _) | (((with_reducible refine call_id ?_); (first | (refine call_pure (hc2) ?_) | (refine call_pure (hc3) ?_)))) | simp (maxSteps := 1000000) (disch := omega) only [go_sem, Nat.reduceAdd, Nat.reduceMul, Nat.reduceSub, Nat.reduceLeDiff, Nat.reduceEqDiff, Nat.reduceBEq, ↓reduceIte, reduceCtorEq, Int.reduceEq, Int.reduceLE, Int.reduceLT, Int.reduceAdd, Int.reduceSub, Int.reduceNeg, Int.reduceToNat, Int.reduceNe, Nat.reducePow, Nat.reduceShiftRight, Nat.reduceMod, Tm.pv, *])
          all_goals (exact fin_tmp (.inr rfl) cE3)
        | true =>
          have hs2 : Kept (formedA np k kind args.length 0 args = formedA np k kind args.length (i + 1) (args.drop (i + 1))) := Kept.mk (by rw [hs.out, hst.out, hf]; rfl)
          rw [hf, if_pos rfl] at hvs
          rw [hf] at hc3
          have hv2 : visA np k kind args.length (i + 1) (args.drop (i + 1)) ≤ visA np k kind args.length 0 args := by omega
          clear hs hst hvs hf
          repeat' (first | ((with_reducible first | refine wA (by omega) ?_ | refine wB (by omega) ?_ | refine wC (by omega) ?_ | refine wD (by omega) ?_ | refine wE ?_ ?_ | refine wF ?_ ?_ | refine wG ?_ ?_ | refine wH ?_ ?_ | refine wI ?_ ?_ | refine wJ ?_ ?_ | refine wK ?_ ?_ | refine wL ?_ ?_) <;> intro _) | (((with_reducible refine call_id ?_); (first | (refine call_pure (hc2) ?_) | (refine call_pure (hc3) ?_)))) | simp (maxSteps := 1000000) (disch := omega) only [go_sem, Nat.reduceAdd, Nat.reduceMul, Nat.reduceSub, Nat.reduceLeDiff, Nat.reduceEqDiff, Nat.reduceBEq, ↓reduceIte, reduceCtorEq, Int.reduceEq, Int.reduceLE, Int.reduceLT, Int.reduceAdd, Int.reduceSub, Int.reduceNeg, Int.reduceToNat, Int.reduceNe, Nat.reducePow, Nat.reduceShiftRight, Nat.reduceMod, Tm.pv, *])
          exact Nx.mk (args.length - (i + 1)) cE1 ⟨i + 1, rfl, cE1, by simp [upd], hs2, hv2⟩
      · obtain rfl : i = args.length := by omega
        have h2 := hs.out
        rw [List.drop_length, formedA] at h2
        rw [h2]
        clear hs h2
        repeat' (first | ((with_reducible first | refine wA (by omega) ?_ | refine wB (by omega) ?_ | refine wC (by omega) ?_ | refine wD (by omega) ?_ | refine wE ?_ ?_ | refine wF ?_ ?_ | refine wG ?_ ?_ | refine wH ?_ ?_ | refine wI ?_ ?_ | refine wJ ?_ ?_ | refine wK ?_ ?_ | refine wL ?_ ?_) <;> intro _) | simp (maxSteps := 1000000) (disch := omega) only [go_sem, Nat.reduceAdd, Nat.reduceMul, Nat.reduceSub, Nat.reduceLeDiff, Nat.reduceEqDiff, Nat.reduceBEq, ↓reduceIte, reduceCtorEq, Int.reduceEq, Int.reduceLE, Int.reduceLT, Int.reduceAdd, Int.reduceSub, Int.reduceNeg, Int.reduceToNat, Int.reduceNe, Nat.reducePow, Nat.reduceShiftRight, Nat.reduceMod, Tm.pv, *])
        all_goals (exact fin_tmp (.inr rfl) cE3)
    intro t k hsz h0 h1
    cases t with
    | mk kind n s ls args =>
    simp only [Tm.vis] at hsz h1
    have c1 := has_p kind n s ls args
    have c2 := constant_p kind n s ls args np
    have c3 : ((kind = 4 ∨ kind = 5 ∨ kind = 6) ∧ hasB n s ls args 0 0 2 = true) ∨ (kind = 7 ∧ hasB n s ls args 0 0 3 = true) → PPure Try.prog F.term_parts [.ptr (Tm.mk kind n s ls args).pv, .sc (.int .i64 np), .sc (.int .i64 k)] (.sc (.bool (formedA np k kind args.length 0 args))) := fun h => by
      rw [if_pos h] at hsz h1
      exact hparts kind n s ls args k (by omega) h0 (by omega)
    simp only [Tm.pv] at c1 c2 c3
    clear ih hparts hsz
    refine pure_by is_term_formed (by simp) rfl fun hb nx => ?_
    clear hb
    by_cases k1 : kind = 1
    · subst k1
      clear c3
      repeat' (first | ((with_reducible first | refine wA (by omega) ?_ | refine wB (by omega) ?_ | refine wC (by omega) ?_ | refine wD (by omega) ?_ | refine wE ?_ ?_ | refine wF ?_ ?_ | refine wG ?_ ?_ | refine wH ?_ ?_ | refine wI ?_ ?_ | refine wJ ?_ ?_ | refine wK ?_ ?_ | refine wL ?_ ?_) <;> intro _) | (((with_reducible refine call_id ?_); (first | (refine call_pure (c1 n 0 0) ?_)))) | simp (maxSteps := 1000000) (disch := omega) only [go_sem, Nat.reduceAdd, Nat.reduceMul, Nat.reduceSub, Nat.reduceLeDiff, Nat.reduceEqDiff, Nat.reduceBEq, ↓reduceIte, reduceCtorEq, Int.reduceEq, Int.reduceLE, Int.reduceLT, Int.reduceAdd, Int.reduceSub, Int.reduceNeg, Int.reduceToNat, Int.reduceNe, Nat.reducePow, Nat.reduceShiftRight, Nat.reduceMod, mc_term_formed, Tm.pv, *])
      all_goals (refine fin_tmp (.inr rfl) ?_; simp [upd, Tm.formed, headR, *]; try omega)
    by_cases k2 : kind = 2
    · subst k2
      clear c3
      by_cases h2 : hasB n s ls args 0 1 0 = true
      · have hl : ls.length = 1 := by
          simp only [hasB, Bool.and_eq_true, decide_eq_true_eq] at h2
          omega
        match ls, hl with
        | [l], _ =>
          repeat' (first | ((with_reducible first | refine wA (by omega) ?_ | refine wB (by omega) ?_ | refine wC (by omega) ?_ | refine wD (by omega) ?_ | refine wE ?_ ?_ | refine wF ?_ ?_ | refine wG ?_ ?_ | refine wH ?_ ?_ | refine wI ?_ ?_ | refine wJ ?_ ?_ | refine wK ?_ ?_ | refine wL ?_ ?_) <;> intro _) | (((with_reducible refine call_id ?_); (first | (refine call_pure (c1 0 1 0) ?_) | (refine call_pure (Right_p l np) ?_)))) | simp (maxSteps := 1000000) (disch := omega) only [go_sem, Nat.reduceAdd, Nat.reduceMul, Nat.reduceSub, Nat.reduceLeDiff, Nat.reduceEqDiff, Nat.reduceBEq, ↓reduceIte, reduceCtorEq, Int.reduceEq, Int.reduceLE, Int.reduceLT, Int.reduceAdd, Int.reduceSub, Int.reduceNeg, Int.reduceToNat, Int.reduceNe, Nat.reducePow, Nat.reduceShiftRight, Nat.reduceMod, mc_term_formed, Tm.pv, *])
          all_goals (refine fin_tmp (.inr rfl) ?_; simp [upd, Tm.formed, headR, *]; try omega)
      · repeat' (first | ((with_reducible first | refine wA (by omega) ?_ | refine wB (by omega) ?_ | refine wC (by omega) ?_ | refine wD (by omega) ?_ | refine wE ?_ ?_ | refine wF ?_ ?_ | refine wG ?_ ?_ | refine wH ?_ ?_ | refine wI ?_ ?_ | refine wJ ?_ ?_ | refine wK ?_ ?_ | refine wL ?_ ?_) <;> intro _) | (((with_reducible refine call_id ?_); (first | (refine call_pure (c1 0 1 0) ?_)))) | simp (maxSteps := 1000000) (disch := omega) only [go_sem, Nat.reduceAdd, Nat.reduceMul, Nat.reduceSub, Nat.reduceLeDiff, Nat.reduceEqDiff, Nat.reduceBEq, ↓reduceIte, reduceCtorEq, Int.reduceEq, Int.reduceLE, Int.reduceLT, Int.reduceAdd, Int.reduceSub, Int.reduceNeg, Int.reduceToNat, Int.reduceNe, Nat.reducePow, Nat.reduceShiftRight, Nat.reduceMod, mc_term_formed, Tm.pv, *])
        all_goals (refine fin_tmp (.inr rfl) ?_; simp [upd, Tm.formed, headR, *]; try omega)
    by_cases k3 : kind = 3
    · subst k3
      clear c3
      repeat' (first | ((with_reducible first | refine wA (by omega) ?_ | refine wB (by omega) ?_ | refine wC (by omega) ?_ | refine wD (by omega) ?_ | refine wE ?_ ?_ | refine wF ?_ ?_ | refine wG ?_ ?_ | refine wH ?_ ?_ | refine wI ?_ ?_ | refine wJ ?_ ?_ | refine wK ?_ ?_ | refine wL ?_ ?_) <;> intro _) | (((with_reducible refine call_id ?_); (first | (refine call_pure (c2) ?_)))) | simp (maxSteps := 1000000) (disch := omega) only [go_sem, Nat.reduceAdd, Nat.reduceMul, Nat.reduceSub, Nat.reduceLeDiff, Nat.reduceEqDiff, Nat.reduceBEq, ↓reduceIte, reduceCtorEq, Int.reduceEq, Int.reduceLE, Int.reduceLT, Int.reduceAdd, Int.reduceSub, Int.reduceNeg, Int.reduceToNat, Int.reduceNe, Nat.reducePow, Nat.reduceShiftRight, Nat.reduceMod, mc_term_formed, Tm.pv, *])
      all_goals (refine fin_tmp (.inr rfl) ?_; simp [upd, Tm.formed, headR, *]; try omega)
    by_cases k456 : kind = 4 ∨ kind = 5 ∨ kind = 6
    · by_cases h2 : hasB n s ls args 0 0 2 = true
      · have c4 := c3 (.inl ⟨k456, h2⟩)
        have c5 := c1 0 0 2
        rw [h2] at c5
        clear c3 c1 c2
        rcases k456 with rfl | rfl | rfl
        all_goals
          repeat' (first | ((with_reducible first | refine wA (by omega) ?_ | refine wB (by omega) ?_ | refine wC (by omega) ?_ | refine wD (by omega) ?_ | refine wE ?_ ?_ | refine wF ?_ ?_ | refine wG ?_ ?_ | refine wH ?_ ?_ | refine wI ?_ ?_ | refine wJ ?_ ?_ | refine wK ?_ ?_ | refine wL ?_ ?_) <;> intro _) | (((with_reducible refine call_id ?_); (first | (refine call_pure (c5) ?_) | (refine call_pure (c4) ?_)))) | simp (maxSteps := 1000000) (disch := omega) only [go_sem, Nat.reduceAdd, Nat.reduceMul, Nat.reduceSub, Nat.reduceLeDiff, Nat.reduceEqDiff, Nat.reduceBEq, ↓reduceIte, reduceCtorEq, Int.reduceEq, Int.reduceLE, Int.reduceLT, Int.reduceAdd, Int.reduceSub, Int.reduceNeg, Int.reduceToNat, Int.reduceNe, Nat.reducePow, Nat.reduceShiftRight, Nat.reduceMod, mc_term_formed, Tm.pv, *])
          all_goals (refine fin_tmp (.inr rfl) ?_; simp [upd, Tm.formed, headR, *]; try omega)
      · have c5 := c1 0 0 2
        rw [Bool.not_eq_true] at h2
        rw [h2] at c5
        clear c3 c1 c2
        rcases k456 with rfl | rfl | rfl
        all_goals
          repeat' (first | ((with_reducible first | refine wA (by omega) ?_ | refine wB (by omega) ?_ | refine wC (by omega) ?_ | refine wD (by omega) ?_ | refine wE ?_ ?_ | refine wF ?_ ?_ | refine wG ?_ ?_ | refine wH ?_ ?_ | refine wI ?_ ?_ | refine wJ ?_ ?_ | refine wK ?_ ?_ | refine wL ?_ ?_) <;> intro _) | (((with_reducible refine call_id ?_); (first | (refine call_pure (c5) ?_)))) | simp (maxSteps := 1000000) (disch := omega) only [go_sem, Nat.reduceAdd, Nat.reduceMul, Nat.reduceSub, Nat.reduceLeDiff, Nat.reduceEqDiff, Nat.reduceBEq, ↓reduceIte, reduceCtorEq, Int.reduceEq, Int.reduceLE, Int.reduceLT, Int.reduceAdd, Int.reduceSub, Int.reduceNeg, Int.reduceToNat, Int.reduceNe, Nat.reducePow, Nat.reduceShiftRight, Nat.reduceMod, mc_term_formed, Tm.pv, *])
          all_goals (refine fin_tmp (.inr rfl) ?_; simp [upd, Tm.formed, headR, *]; try omega)
    have k4 : kind ≠ 4 := fun h => k456 (.inl h)
    have k5 : kind ≠ 5 := fun h => k456 (.inr (.inl h))
    have k6 : kind ≠ 6 := fun h => k456 (.inr (.inr h))
    by_cases k7 : kind = 7
    · subst k7
      by_cases h2 : hasB n s ls args 0 0 3 = true
      · have c4 := c3 (.inr ⟨rfl, h2⟩)
        have c5 := c1 0 0 3
        rw [h2] at c5
        clear c3 c1 c2
        repeat' (first | ((with_reducible first | refine wA (by omega) ?_ | refine wB (by omega) ?_ | refine wC (by omega) ?_ | refine wD (by omega) ?_ | refine wE ?_ ?_ | refine wF ?_ ?_ | refine wG ?_ ?_ | refine wH ?_ ?_ | refine wI ?_ ?_ | refine wJ ?_ ?_ | refine wK ?_ ?_ | refine wL ?_ ?_) <;> intro _) | (((with_reducible refine call_id ?_); (first | (refine call_pure (c5) ?_) | (refine call_pure (c4) ?_)))) | simp (maxSteps := 1000000) (disch := omega) only [go_sem, Nat.reduceAdd, Nat.reduceMul, Nat.reduceSub, Nat.reduceLeDiff, Nat.reduceEqDiff, Nat.reduceBEq, ↓reduceIte, reduceCtorEq, Int.reduceEq, Int.reduceLE, Int.reduceLT, Int.reduceAdd, Int.reduceSub, Int.reduceNeg, Int.reduceToNat, Int.reduceNe, Nat.reducePow, Nat.reduceShiftRight, Nat.reduceMod, mc_term_formed, Tm.pv, *])
        all_goals (refine fin_tmp (.inr rfl) ?_; simp [upd, Tm.formed, headR, *]; try omega)
      · have c5 := c1 0 0 3
        rw [Bool.not_eq_true] at h2
        rw [h2] at c5
        clear c3 c1 c2
        repeat' (first | ((with_reducible first | refine wA (by omega) ?_ | refine wB (by omega) ?_ | refine wC (by omega) ?_ | refine wD (by omega) ?_ | refine wE ?_ ?_ | refine wF ?_ ?_ | refine wG ?_ ?_ | refine wH ?_ ?_ | refine wI ?_ ?_ | refine wJ ?_ ?_ | refine wK ?_ ?_ | refine wL ?_ ?_) <;> intro _) | (((with_reducible refine call_id ?_); (first | (refine call_pure (c5) ?_)))) | simp (maxSteps := 1000000) (disch := omega) only [go_sem, Nat.reduceAdd, Nat.reduceMul, Nat.reduceSub, Nat.reduceLeDiff, Nat.reduceEqDiff, Nat.reduceBEq, ↓reduceIte, reduceCtorEq, Int.reduceEq, Int.reduceLE, Int.reduceLT, Int.reduceAdd, Int.reduceSub, Int.reduceNeg, Int.reduceToNat, Int.reduceNe, Nat.reducePow, Nat.reduceShiftRight, Nat.reduceMod, mc_term_formed, Tm.pv, *])
        all_goals (refine fin_tmp (.inr rfl) ?_; simp [upd, Tm.formed, headR, *]; try omega)
    clear c1 c2 c3
    repeat' (first | ((with_reducible first | refine wA (by omega) ?_ | refine wB (by omega) ?_ | refine wC (by omega) ?_ | refine wD (by omega) ?_ | refine wE ?_ ?_ | refine wF ?_ ?_ | refine wG ?_ ?_ | refine wH ?_ ?_ | refine wI ?_ ?_ | refine wJ ?_ ?_ | refine wK ?_ ?_ | refine wL ?_ ?_) <;> intro _) | simp (maxSteps := 1000000) (disch := omega) only [go_sem, Nat.reduceAdd, Nat.reduceMul, Nat.reduceSub, Nat.reduceLeDiff, Nat.reduceEqDiff, Nat.reduceBEq, ↓reduceIte, reduceCtorEq, Int.reduceEq, Int.reduceLE, Int.reduceLT, Int.reduceAdd, Int.reduceSub, Int.reduceNeg, Int.reduceToNat, Int.reduceNe, Nat.reducePow, Nat.reduceShiftRight, Nat.reduceMod, mc_term_formed, Tm.pv, *])
    all_goals (refine fin_tmp (.inr rfl) ?_; simp [upd, Tm.formed, headR, *]; try omega)
end
section
set_option maxRecDepth 20000
attribute [local go_sem] pv_len pv_take tm_len tm_take pv_one tm_one id_ne id_ne' id_ne2
def Tm.nlv : Tm → Nat
  | .mk _ _ _ ls _ => ls.length
theorem nlv_of_pv {a b : Tm} (h : nodePV a = nodePV b) : a.nlv = b.nlv := by
  cases a; cases b
  simp only [nodePV, Tm.pv, PV.ptr.injEq, List.cons.injEq, PV.sl.injEq, true_and, and_true] at h
  simp only [Tm.nlv]
  rw [pvL_inj _ _ h.2.2.2.1]
def HasBad (us : List Tm) : Prop := ∃ p u, p ≤ 2000 ∧ us[p]? = some u ∧ 2 ^ 40 < u.nlv
theorem bad_prefix {us vs : List Tm} (h : us.map nodePV <+: vs.map nodePV) (hb : HasBad us) : HasBad vs := by
  obtain ⟨p, u, hp, hu, hn⟩ := hb
  obtain ⟨z, hz⟩ := h
  have h1 : (vs.map nodePV)[p]? = some (nodePV u) := by
    rw [← hz, List.getElem?_append_left (by rw [List.length_map]; exact (List.getElem?_eq_some_iff.1 hu).1), List.getElem?_map, hu]
    rfl
  rw [List.getElem?_map] at h1
  cases hv : vs[p]? with
  | none => rw [hv] at h1; cases h1
  | some v =>
    rw [hv] at h1
    simp only [Option.map_some, Option.some.injEq] at h1
    exact ⟨p, v, hp, hv, by rw [nlv_of_pv h1]; exact hn⟩
theorem bad_app {us vs : List Tm} (hb : HasBad us) : HasBad (us ++ vs) := by
  obtain ⟨p, u, hp, hu, hn⟩ := hb
  exact ⟨p, u, hp, by rw [List.getElem?_append_left (List.getElem?_eq_some_iff.1 hu).1]; exact hu, hn⟩
theorem bad_last {us : List Tm} {u : Tm} (h : us.length ≤ 2000) (hn : 2 ^ 40 < u.nlv) : HasBad (us ++ [u]) := ⟨us.length, u, h, by simp, hn⟩
theorem len_wts : ∀ us : List Tm, us.length ≤ wts us
  | [] => by simp [wts]
  | .mk k n s ls args :: r => by
    have := len_wts r
    simp only [wts, List.map_cons, List.sum_cons, List.length_cons, Tm.wt] at *
    omega
theorem minsL_len : ∀ ls : List Lv, minsL ls ≤ 2001 * ls.length
  | [] => by simp [minsL]
  | x :: r => by
    have := minsL_len r
    simp only [minsL, List.map_cons, List.sum_cons, List.length_cons] at *
    omega
mutual
theorem bnd_pre : ∀ t : Tm, bndL t.pv → ∀ u ∈ t.pre, u.nlv ≤ 9223372036854775807
  | .mk k n s ls args, h, u, hu => by
    simp only [Tm.pv, bndL, PV.bnd, List.length_map] at h
    simp only [Tm.pre, List.mem_cons] at hu
    rcases hu with rfl | hu
    · exact h.2.2.2.1.1
    · exact bnd_preL args h.2.2.2.2.1.2 u hu
theorem bnd_preL : ∀ ts : List Tm, bndLL (ts.map Tm.pv) → ∀ u ∈ preL ts, u.nlv ≤ 9223372036854775807
  | [], _, u, hu => by cases hu
  | x :: r, h, u, hu => by
    simp only [List.map_cons, bndLL] at h
    simp only [preL, List.mem_append] at hu
    rcases hu with hu | hu
    · exact bnd_pre x h.1 u hu
    · exact bnd_preL r h.2 u hu
end
set_option maxHeartbeats 8000000 in
theorem NodesG_m (t : Tm) (H : Nat → Option PObj) (nx : Nat) : PMut Try.prog F.term_Nodes [.agg t.pv] H nx (fun H' nx' r => ∃ v : Int, r = .sc (.int .i64 v) ∧ (v = (min t.nodes 2001 : Nat) ∨ HasBad t.pre)) := by
  refine mut_byR is_term_Nodes (by simp) fun hb => ?_
  have hbd := bnd_pre t (by simp only [bndL, PV.bnd] at hb; exact hb.1)
  clear hb
  repeat' (first | ((with_reducible first | refine wA (by omega) ?_ | refine wB (by omega) ?_ | refine wC (by omega) ?_ | refine wD (by omega) ?_ | refine wE ?_ ?_ | refine wF ?_ ?_ | refine wG ?_ ?_ | refine wH ?_ ?_ | refine wI ?_ ?_ | refine wJ ?_ ?_ | refine wK ?_ ?_ | refine wL ?_ ?_) <;> intro _) | (((with_reducible refine call_id ?_); (first | (refine call_pure (all_p t) ?_)))) | simp (maxSteps := 1000000) (disch := omega) only [go_sem, Nat.reduceAdd, Nat.reduceMul, Nat.reduceSub, Nat.reduceLeDiff, Nat.reduceEqDiff, Nat.reduceBEq, ↓reduceIte, reduceCtorEq, Int.reduceEq, Int.reduceLE, Int.reduceLT, Int.reduceAdd, Int.reduceSub, Int.reduceNeg, Int.reduceToNat, Int.reduceNe, Nat.reducePow, Nat.reduceShiftRight, Nat.reduceMod, mc_term_Nodes, *])
  refine c_rng (all_seq t) (by simp [ev, upd]) (fun pre H' m => ∃ (us : List Tm) (v : Int), pre = us.map nodePV ∧ H' (nx + 1) = some ⟨[.sc (.int .i64 0)], true⟩ ∧ H' (nx + 2) = some ⟨[.sc (.int .i64 v)], true⟩ ∧ ((wts us ≤ 2000 ∧ v = wts us) ∨ HasBad us))
    ⟨[], 0, rfl, noIt_keep (by simp [upd]) rfl, noIt_keep (by simp [upd]) rfl, .inl (by simp [wts])⟩ ?round ?done
  case round =>
    rintro pre x H' m hx hlen ⟨us, v, rfl, h1, h2, hor⟩ hnx
    obtain ⟨u, hu, rfl⟩ := List.mem_map.1 hx
    have hub := hbd u hu
    have hus : (us.map nodePV ++ [nodePV u]) = (us ++ [u]).map nodePV := by simp
    rw [hus]
    have hwu : wts (us ++ [u]) = wts us + u.wt := by simp [wts]
    clear hx hlen hu hus hbd
    by_cases hgood : (wts us ≤ 2000 ∧ v = wts us) ∧ u.nlv ≤ 2 ^ 40
    · obtain ⟨⟨hw, rfl⟩, hl40⟩ := hgood
      clear hor hub
      cases u with
      | mk k n s ls args =>
      simp only [Tm.nlv] at hl40
      have hmn := minsL_len ls
      simp only [Tm.wt] at hwu
      simp only [nodePV]
      repeat' (first | ((with_reducible first | refine wA (by omega) ?_ | refine wB (by omega) ?_ | refine wC (by omega) ?_ | refine wD (by omega) ?_ | refine wE ?_ ?_ | refine wF ?_ ?_ | refine wG ?_ ?_ | refine wH ?_ ?_ | refine wI ?_ ?_ | refine wJ ?_ ?_ | refine wK ?_ ?_ | refine wL ?_ ?_) <;> intro _) | simp (maxSteps := 1000000) (disch := omega) only [go_sem, Nat.reduceAdd, Nat.reduceMul, Nat.reduceSub, Nat.reduceLeDiff, Nat.reduceEqDiff, Nat.reduceBEq, ↓reduceIte, reduceCtorEq, Int.reduceEq, Int.reduceLE, Int.reduceLT, Int.reduceAdd, Int.reduceSub, Int.reduceNeg, Int.reduceToNat, Int.reduceNe, Nat.reducePow, Nat.reduceShiftRight, Nat.reduceMod, Tm.pv, h1, h2, *])
      refine c_loopW 268402720 (by kernel_rfl) (fun j f H2 m2 => ∃ i : Nat, j = ls.length - i ∧ i ≤ ls.length ∧ f 15 = .sc (.int .i64 i) ∧ H2 (nx + 1) = some ⟨[.sc (.int .i64 0)], true⟩ ∧ H2 (nx + 2) = some ⟨[.sc (.int .i64 ((wts us : Nat) + 1 + (minsL (ls.take i) : Nat)))], true⟩) _ ⟨0, rfl, cE1, cE1, by simp [upd, h1], by simp [upd, minsL]⟩ ?_
      rintro _ f H2 m2 ⟨i, rfl, hi, e15, g1, g2⟩
      have hmi : minsL (ls.take i) ≤ 2001 * i := Nat.le_trans (minsL_len _) (Nat.mul_le_mul_left _ (by rw [List.length_take]; omega))
      by_cases hlt : i < ls.length
      · have eg : ls[i]? = some ls[i] := List.getElem?_eq_getElem hlt
        have hst := minsL_take ls i hlt
        clear hwu hmn
        repeat' (first | ((with_reducible first | refine wA (by omega) ?_ | refine wB (by omega) ?_ | refine wC (by omega) ?_ | refine wD (by omega) ?_ | refine wE ?_ ?_ | refine wF ?_ ?_ | refine wG ?_ ?_ | refine wH ?_ ?_ | refine wI ?_ ?_ | refine wJ ?_ ?_ | refine wK ?_ ?_ | refine wL ?_ ?_) <;> intro _) | (((with_reducible refine call_id ?_); (first | (refine call_pure (tlNodes_p 2001 ls[i] 2001 (.inr (by omega)) (by omega) (by omega)) ?_)))) | simp (maxSteps := 1000000) (disch := omega) only [go_sem, Nat.reduceAdd, Nat.reduceMul, Nat.reduceSub, Nat.reduceLeDiff, Nat.reduceEqDiff, Nat.reduceBEq, ↓reduceIte, reduceCtorEq, Int.reduceEq, Int.reduceLE, Int.reduceLT, Int.reduceAdd, Int.reduceSub, Int.reduceNeg, Int.reduceToNat, Int.reduceNe, Nat.reducePow, Nat.reduceShiftRight, Nat.reduceMod, Tm.pv, *])
        refine Nx.mk (ls.length - (i + 1)) cE1 ⟨i + 1, rfl, cE1, cE1, by simp [upd, g1], ?_⟩
        simp only [upd, if_true, Option.some.injEq, PObj.mk.injEq, and_true, List.cons.injEq, PV.sc.injEq, Value.int.injEq]
        refine ⟨trivial, ?_⟩
        rw [hst]
        omega
      · obtain rfl : i = ls.length := by omega
        rw [List.take_length] at g2 hmi
        clear hlt hi
        by_cases hgt : 2000 < wts us + 1 + minsL ls
        · repeat' (first | ((with_reducible first | refine wA (by omega) ?_ | refine wB (by omega) ?_ | refine wC (by omega) ?_ | refine wD (by omega) ?_ | refine wE ?_ ?_ | refine wF ?_ ?_ | refine wG ?_ ?_ | refine wH ?_ ?_ | refine wI ?_ ?_ | refine wJ ?_ ?_ | refine wK ?_ ?_ | refine wL ?_ ?_) <;> intro _) | simp (maxSteps := 1000000) (disch := omega) only [go_sem, Nat.reduceAdd, Nat.reduceMul, Nat.reduceSub, Nat.reduceLeDiff, Nat.reduceEqDiff, Nat.reduceBEq, ↓reduceIte, reduceCtorEq, Int.reduceEq, Int.reduceLE, Int.reduceLT, Int.reduceAdd, Int.reduceSub, Int.reduceNeg, Int.reduceToNat, Int.reduceNe, Nat.reducePow, Nat.reduceShiftRight, Nat.reduceMod, *])
          refine rq_ret fun hp => ?_
          have hle := wts_prefix hp
          have he := wts_le t.pre
          rw [own_pre] at he
          have hmin : min t.nodes 2001 = 2001 := by unfold minsL at hgt; omega
          have hq := noIt_keep (H := upd H2 (nx + 1) (some ⟨[.sc (.int .i64 2001)], true⟩)) (id := nx + 1) (upd_same _ _ _) rfl
          rw [hmin]
          generalize noIt (upd H2 (nx + 1) (some ⟨[.sc (.int .i64 2001)], true⟩)) = H3 at hq ⊢
          clear hwu hmn hgt hp hle he hmin
          simp (maxSteps := 1000000) (disch := omega) only [go_sem, Nat.reduceAdd, Nat.reduceMul, Nat.reduceSub, Nat.reduceLeDiff, Nat.reduceEqDiff, Nat.reduceBEq, ↓reduceIte, reduceCtorEq, Int.reduceEq, Int.reduceLE, Int.reduceLT, Int.reduceAdd, Int.reduceSub, Int.reduceNeg, Int.reduceToNat, Int.reduceNe, Nat.reducePow, Nat.reduceShiftRight, Nat.reduceMod, hq]
          exact fin_mut (.sc (.int .i64 2001)) (.inr rfl) (by (simp (disch := omega) only [go_sem, Nat.reduceMul, Nat.reduceSub, Nat.reduceShiftRight, Nat.reduceMod, Nat.reduceEqDiff, Nat.reduceAdd, ↓reduceIte, Nat.reduceLeDiff, hq]); all_goals rfl) ⟨2001, rfl, .inl rfl⟩
        · repeat' (first | ((with_reducible first | refine wA (by omega) ?_ | refine wB (by omega) ?_ | refine wC (by omega) ?_ | refine wD (by omega) ?_ | refine wE ?_ ?_ | refine wF ?_ ?_ | refine wG ?_ ?_ | refine wH ?_ ?_ | refine wI ?_ ?_ | refine wJ ?_ ?_ | refine wK ?_ ?_ | refine wL ?_ ?_) <;> intro _) | simp (maxSteps := 1000000) (disch := omega) only [go_sem, Nat.reduceAdd, Nat.reduceMul, Nat.reduceSub, Nat.reduceLeDiff, Nat.reduceEqDiff, Nat.reduceBEq, ↓reduceIte, reduceCtorEq, Int.reduceEq, Int.reduceLE, Int.reduceLT, Int.reduceAdd, Int.reduceSub, Int.reduceNeg, Int.reduceToNat, Int.reduceNe, Nat.reducePow, Nat.reduceShiftRight, Nat.reduceMod, *])
          refine rq_normal ⟨us ++ [.mk k n s ls args], _, rfl, noIt_keep g1 rfl, noIt_keep g2 rfl, .inl ⟨?_, ?_⟩⟩
          · rw [hwu]
            unfold minsL at hgt
            omega
          · rw [hwu]
            unfold minsL
            omega
    · have hbad : HasBad (us ++ [u]) := by
        rcases hor with h | h
        · exact bad_last (Nat.le_trans (len_wts us) h.1) (Nat.lt_of_not_le fun h2 => hgood ⟨h, h2⟩)
        · exact bad_app h
      clear hor hgood hwu
      cases u with
      | mk k n s ls args =>
      simp only [Tm.nlv] at hub
      simp only [nodePV]
      repeat' (first | ((with_reducible first | refine wA (by omega) ?_ | refine wB (by omega) ?_ | refine wC (by omega) ?_ | refine wD (by omega) ?_ | refine wE ?_ ?_ | refine wF ?_ ?_ | refine wG ?_ ?_ | refine wH ?_ ?_ | refine wI ?_ ?_ | refine wJ ?_ ?_ | refine wK ?_ ?_ | refine wL ?_ ?_) <;> intro _) | simp (maxSteps := 1000000) (disch := omega) only [go_sem, Nat.reduceAdd, Nat.reduceMul, Nat.reduceSub, Nat.reduceLeDiff, Nat.reduceEqDiff, Nat.reduceBEq, ↓reduceIte, reduceCtorEq, Int.reduceEq, Int.reduceLE, Int.reduceLT, Int.reduceAdd, Int.reduceSub, Int.reduceNeg, Int.reduceToNat, Int.reduceNe, Nat.reducePow, Nat.reduceShiftRight, Nat.reduceMod, Tm.pv, h1, h2, *])
      refine c_loopW 268402720 (by kernel_rfl) (fun j f H2 m2 => ∃ (i : Nat) (w : Int), j = ls.length - i ∧ i ≤ ls.length ∧ f 15 = .sc (.int .i64 i) ∧ H2 (nx + 1) = some ⟨[.sc (.int .i64 0)], true⟩ ∧ H2 (nx + 2) = some ⟨[.sc (.int .i64 w)], true⟩) _ ⟨0, IntKind.i64.wrap (v + 1), rfl, cE1, cE1, by simp [upd, h1], by simp [upd]⟩ ?_
      rintro _ f H2 m2 ⟨i, w, rfl, hi, e15, g1, g2⟩
      by_cases hlt : i < ls.length
      · have eg : ls[i]? = some ls[i] := List.getElem?_eq_getElem hlt
        repeat' (first | ((with_reducible first | refine wA (by omega) ?_ | refine wB (by omega) ?_ | refine wC (by omega) ?_ | refine wD (by omega) ?_ | refine wE ?_ ?_ | refine wF ?_ ?_ | refine wG ?_ ?_ | refine wH ?_ ?_ | refine wI ?_ ?_ | refine wJ ?_ ?_ | refine wK ?_ ?_ | refine wL ?_ ?_) <;> intro _) | (((with_reducible refine call_id ?_); (first | (refine call_pure (tlNodes_p 2001 ls[i] 2001 (.inr (by omega)) (by omega) (by omega)) ?_)))) | simp (maxSteps := 1000000) (disch := omega) only [go_sem, Nat.reduceAdd, Nat.reduceMul, Nat.reduceSub, Nat.reduceLeDiff, Nat.reduceEqDiff, Nat.reduceBEq, ↓reduceIte, reduceCtorEq, Int.reduceEq, Int.reduceLE, Int.reduceLT, Int.reduceAdd, Int.reduceSub, Int.reduceNeg, Int.reduceToNat, Int.reduceNe, Nat.reducePow, Nat.reduceShiftRight, Nat.reduceMod, Tm.pv, *])
        exact Nx.mk (ls.length - (i + 1)) cE1 ⟨i + 1, IntKind.i64.wrap (w + (min ls[i].nodes 2001 : Nat)), rfl, cE1, cE1, by simp [upd, g1], by simp [upd]⟩
      · obtain rfl : i = ls.length := by omega
        clear hlt hi
        by_cases hgt : 2000 < w
        · repeat' (first | ((with_reducible first | refine wA (by omega) ?_ | refine wB (by omega) ?_ | refine wC (by omega) ?_ | refine wD (by omega) ?_ | refine wE ?_ ?_ | refine wF ?_ ?_ | refine wG ?_ ?_ | refine wH ?_ ?_ | refine wI ?_ ?_ | refine wJ ?_ ?_ | refine wK ?_ ?_ | refine wL ?_ ?_) <;> intro _) | simp (maxSteps := 1000000) (disch := omega) only [go_sem, Nat.reduceAdd, Nat.reduceMul, Nat.reduceSub, Nat.reduceLeDiff, Nat.reduceEqDiff, Nat.reduceBEq, ↓reduceIte, reduceCtorEq, Int.reduceEq, Int.reduceLE, Int.reduceLT, Int.reduceAdd, Int.reduceSub, Int.reduceNeg, Int.reduceToNat, Int.reduceNe, Nat.reducePow, Nat.reduceShiftRight, Nat.reduceMod, *])
          refine rq_ret fun hp => ?_
          have hbad2 := bad_prefix hp hbad
          have hq := noIt_keep (H := upd H2 (nx + 1) (some ⟨[.sc (.int .i64 2001)], true⟩)) (id := nx + 1) (upd_same _ _ _) rfl
          generalize noIt (upd H2 (nx + 1) (some ⟨[.sc (.int .i64 2001)], true⟩)) = H3 at hq ⊢
          clear hgt hp hbad
          simp (maxSteps := 1000000) (disch := omega) only [go_sem, Nat.reduceAdd, Nat.reduceMul, Nat.reduceSub, Nat.reduceLeDiff, Nat.reduceEqDiff, Nat.reduceBEq, ↓reduceIte, reduceCtorEq, Int.reduceEq, Int.reduceLE, Int.reduceLT, Int.reduceAdd, Int.reduceSub, Int.reduceNeg, Int.reduceToNat, Int.reduceNe, Nat.reducePow, Nat.reduceShiftRight, Nat.reduceMod, hq]
          exact fin_mut (.sc (.int .i64 2001)) (.inr rfl) (by (simp (disch := omega) only [go_sem, Nat.reduceMul, Nat.reduceSub, Nat.reduceShiftRight, Nat.reduceMod, Nat.reduceEqDiff, Nat.reduceAdd, ↓reduceIte, Nat.reduceLeDiff, hq]); all_goals rfl) ⟨2001, rfl, .inr hbad2⟩
        · repeat' (first | ((with_reducible first | refine wA (by omega) ?_ | refine wB (by omega) ?_ | refine wC (by omega) ?_ | refine wD (by omega) ?_ | refine wE ?_ ?_ | refine wF ?_ ?_ | refine wG ?_ ?_ | refine wH ?_ ?_ | refine wI ?_ ?_ | refine wJ ?_ ?_ | refine wK ?_ ?_ | refine wL ?_ ?_) <;> intro _) | simp (maxSteps := 1000000) (disch := omega) only [go_sem, Nat.reduceAdd, Nat.reduceMul, Nat.reduceSub, Nat.reduceLeDiff, Nat.reduceEqDiff, Nat.reduceBEq, ↓reduceIte, reduceCtorEq, Int.reduceEq, Int.reduceLE, Int.reduceLT, Int.reduceAdd, Int.reduceSub, Int.reduceNeg, Int.reduceToNat, Int.reduceNe, Nat.reducePow, Nat.reduceShiftRight, Nat.reduceMod, *])
          exact rq_normal ⟨us ++ [.mk k n s ls args], w, rfl, noIt_keep g1 rfl, noIt_keep g2 rfl, .inr hbad⟩
  case done =>
    rintro H' m ⟨us, v, hus, h1, h2, hor⟩ hnx
    have hor2 : v = (min t.nodes 2001 : Nat) ∨ HasBad t.pre := by
      rcases hor with ⟨hw, hv⟩ | hor
      · rw [← wts_of_pv hus] at hw hv
        have he := wts_eq t.pre hw
        rw [own_pre] at he
        exact .inl (by omega)
      · exact .inr (bad_prefix (by rw [hus]; exact ⟨[], by simp⟩) hor)
    clear hor hus hbd
    repeat' (first | ((with_reducible first | refine wA (by omega) ?_ | refine wB (by omega) ?_ | refine wC (by omega) ?_ | refine wD (by omega) ?_ | refine wE ?_ ?_ | refine wF ?_ ?_ | refine wG ?_ ?_ | refine wH ?_ ?_ | refine wI ?_ ?_ | refine wJ ?_ ?_ | refine wK ?_ ?_ | refine wL ?_ ?_) <;> intro _) | simp (maxSteps := 1000000) (disch := omega) only [go_sem, Nat.reduceAdd, Nat.reduceMul, Nat.reduceSub, Nat.reduceLeDiff, Nat.reduceEqDiff, Nat.reduceBEq, ↓reduceIte, reduceCtorEq, Int.reduceEq, Int.reduceLE, Int.reduceLT, Int.reduceAdd, Int.reduceSub, Int.reduceNeg, Int.reduceToNat, Int.reduceNe, Nat.reducePow, Nat.reduceShiftRight, Nat.reduceMod, h1, h2, *])
    exact fin_mut (.sc (.int .i64 v)) (.inr rfl) (by (simp (disch := omega) only [go_sem, Nat.reduceMul, Nat.reduceSub, Nat.reduceShiftRight, Nat.reduceMod, Nat.reduceEqDiff, Nat.reduceAdd, ↓reduceIte, Nat.reduceLeDiff, h1, h2]); all_goals rfl) ⟨v, rfl, hor2⟩
theorem bad_no_formed {np k kind n : Int} {s : ByteArray} {ls : List Lv} {args : List Tm} (h : 4 < ls.length) : (Tm.mk kind n s ls args).formed np k = false ∧ (Tm.mk kind n s ls args).vis np k = 1 := by
  have h0 : ∀ a c, hasB n s ls args a 0 c = false := fun a c => by
    have : ls ≠ [] := fun e => by rw [e] at h; simp at h
    simp [hasB, this]
  have h1 : hasB n s ls args 0 1 0 = false := by
    have : ¬ ((ls.length : Int) = 1) := by omega
    simp [hasB, this]
  have h2 : constB n s ls args np = false := by
    have : ¬ ls.length ≤ 4 := by omega
    simp [constB, this]
  simp [Tm.formed, Tm.vis, h0, h1, h2]
mutual
theorem vis_pre (np : Int) : ∀ (t : Tm) (k : Int), t.vis np k ≤ t.pre.length
  | .mk kind n s ls args, k => by
    have := vis_preA np args k kind args.length 0
    simp only [Tm.vis, Tm.pre, List.length_cons]
    split <;> omega
theorem vis_preA (np : Int) : ∀ (ts : List Tm) (k kind : Int) (len i : Nat), visA np k kind len i ts ≤ (preL ts).length
  | [], _, _, _, _ => by simp [visA]
  | x :: r, k, kind, len, i => by
    have h1 := vis_pre np x (k + deepB kind len i)
    have h2 := vis_preA np r k kind len (i + 1)
    simp only [visA, preL, List.length_append]
    split <;> omega
end
mutual
theorem bad_vis (np : Int) : ∀ (t : Tm) (k : Int) (p : Nat) (u : Tm), t.pre[p]? = some u → 4 < u.nlv → t.formed np k = false ∧ t.vis np k ≤ p + 1
  | .mk kind n s ls args, k, 0, u, h, hb => by
    simp only [Tm.pre, List.getElem?_cons_zero, Option.some.injEq] at h
    subst h
    have := bad_no_formed (np := np) (k := k) (kind := kind) (n := n) (s := s) (args := args) hb
    exact ⟨this.1, by omega⟩
  | .mk kind n s ls args, k, p + 1, u, h, hb => by
    simp only [Tm.pre, List.getElem?_cons_succ] at h
    have h2 := bad_visA np args k kind args.length 0 p u h hb
    have h3 : 0 < args.length := by
      cases args with
      | nil => simp [preL] at h
      | cons => simp
    have h4 : ¬ ((args.length : Int) = 0) := by omega
    have h5 : ¬ (args.length = 0) := by omega
    constructor
    · simp [Tm.formed, hasB, constB, h4, h5, h2.1]
    · simp only [Tm.vis]
      split <;> omega
theorem bad_visA (np : Int) : ∀ (ts : List Tm) (k kind : Int) (len i p : Nat) (u : Tm), (preL ts)[p]? = some u → 4 < u.nlv → formedA np k kind len i ts = false ∧ visA np k kind len i ts ≤ p + 1
  | [], _, _, _, _, p, u, h, _ => by simp [preL] at h
  | x :: r, k, kind, len, i, p, u, h, hb => by
    simp only [preL] at h
    by_cases hp : p < x.pre.length
    · rw [List.getElem?_append_left hp] at h
      have h1 := bad_vis np x (k + deepB kind len i) p u h hb
      simp only [formedA, visA, h1.1, Bool.false_and]
      exact ⟨trivial, by simp only [Bool.false_eq_true, if_false]; omega⟩
    · rw [List.getElem?_append_right (by omega)] at h
      have h1 := bad_visA np r k kind len (i + 1) (p - x.pre.length) u h hb
      have h2 := vis_pre np x (k + deepB kind len i)
      simp only [formedA, visA, h1.1, Bool.and_false]
      refine ⟨trivial, ?_⟩
      split <;> omega
end
mutual
theorem pre_nodes : ∀ t : Tm, t.pre.length ≤ t.nodes
  | .mk k n s ls args => by
    have := pre_nodesA args
    simp only [Tm.pre, List.length_cons, Tm.nodes]
    omega
theorem pre_nodesA : ∀ ts : List Tm, (preL ts).length ≤ nodesT ts
  | [] => by simp [preL, nodesT]
  | x :: r => by
    have := pre_nodes x
    have := pre_nodesA r
    simp only [preL, List.length_append, nodesT]
    omega
end
set_option maxHeartbeats 4000000 in
theorem tRightG_p (t : Tm) (np bound : Int) : PPure Try.prog F.term_Right [.agg t.pv, .sc (.int .i64 np), .sc (.int .i64 bound)] (.sc (.bool (t.right np bound))) := by
  refine PMut.pure (Q := fun _ _ _ r => r = .sc (.bool (t.right np bound))) rfl (fun nx => ?_) fun nx H' nx' r0 h => ?_
  rotate_left
  · rw [h]
    exact ⟨0, .refl _⟩
  refine mut_by is_term_Right (by simp) fun hb => ?_
  clear hb
  by_cases hpre : 0 ≤ np ∧ np ≤ 4 ∧ 0 ≤ bound
  · obtain ⟨p1, p2, p3⟩ := hpre
    repeat' (first | ((with_reducible first | refine wA (by omega) ?_ | refine wB (by omega) ?_ | refine wC (by omega) ?_ | refine wD (by omega) ?_ | refine wE ?_ ?_ | refine wF ?_ ?_ | refine wG ?_ ?_ | refine wH ?_ ?_ | refine wI ?_ ?_ | refine wJ ?_ ?_ | refine wK ?_ ?_ | refine wL ?_ ?_) <;> intro _) | simp (maxSteps := 1000000) (disch := omega) only [go_sem, Nat.reduceAdd, Nat.reduceMul, Nat.reduceSub, Nat.reduceLeDiff, Nat.reduceEqDiff, Nat.reduceBEq, ↓reduceIte, reduceCtorEq, Int.reduceEq, Int.reduceLE, Int.reduceLT, Int.reduceAdd, Int.reduceSub, Int.reduceNeg, Int.reduceToNat, Int.reduceNe, Nat.reducePow, Nat.reduceShiftRight, Nat.reduceMod, mc_term_Right, *])
    refine call_mut (NodesG_m t _ _) ?_
    rintro H' nx' r ⟨v, rfl, hv⟩ -
    by_cases hv2 : v ≤ 2000
    · have hk : t.vis np (min bound 1125899906842624) ≤ 2001 ∧ (t.nodes ≤ 2000 ∨ t.formed np (min bound 1125899906842624) = false) := by
        rcases hv with rfl | ⟨p, u, hp, hu, hn⟩
        · have h1 := vis_pre np t (min bound 1125899906842624)
          have h2 := pre_nodes t
          exact ⟨by omega, .inl (by omega)⟩
        · have h1 := bad_vis np t (min bound 1125899906842624) p u hu (by omega)
          exact ⟨by omega, .inr h1.1⟩
      have c2 := formedV_p np 2001 t (min bound 1125899906842624) hk.1 (by omega) (by omega)
      have e : t.right np bound = t.formed np (min bound 1125899906842624) := by
        unfold Tm.right
        rcases hk.2 with h | h
        · simp [h, p1, p2, p3]
        · simp [h]
      rw [e]
      clear hk hv e
      repeat' (first | ((with_reducible first | refine wA (by omega) ?_ | refine wB (by omega) ?_ | refine wC (by omega) ?_ | refine wD (by omega) ?_ | refine wE ?_ ?_ | refine wF ?_ ?_ | refine wG ?_ ?_ | refine wH ?_ ?_ | refine wI ?_ ?_ | refine wJ ?_ ?_ | refine wK ?_ ?_ | refine wL ?_ ?_) <;> intro _) | (((with_reducible refine call_id ?_); (first | (refine call_pure (c2) ?_)))) | simp (maxSteps := 1000000) (disch := omega) only [go_sem, Nat.reduceAdd, Nat.reduceMul, Nat.reduceSub, Nat.reduceLeDiff, Nat.reduceEqDiff, Nat.reduceBEq, ↓reduceIte, reduceCtorEq, Int.reduceEq, Int.reduceLE, Int.reduceLT, Int.reduceAdd, Int.reduceSub, Int.reduceNeg, Int.reduceToNat, Int.reduceNe, Nat.reducePow, Nat.reduceShiftRight, Nat.reduceMod, *])
      all_goals exact fin_mut (.sc (.bool (t.formed np (min bound 1125899906842624)))) (.inr rfl) cE2 rfl
    · have e : t.right np bound = false := by
        rcases hv with rfl | ⟨p, u, hp, hu, hn⟩
        · have : ¬ t.nodes ≤ 2000 := by omega
          simp [Tm.right, this]
        · simp [Tm.right, (bad_vis np t (min bound 1125899906842624) p u hu (by omega)).1]
      rw [e]
      clear hv e
      repeat' (first | ((with_reducible first | refine wA (by omega) ?_ | refine wB (by omega) ?_ | refine wC (by omega) ?_ | refine wD (by omega) ?_ | refine wE ?_ ?_ | refine wF ?_ ?_ | refine wG ?_ ?_ | refine wH ?_ ?_ | refine wI ?_ ?_ | refine wJ ?_ ?_ | refine wK ?_ ?_ | refine wL ?_ ?_) <;> intro _) | simp (maxSteps := 1000000) (disch := omega) only [go_sem, Nat.reduceAdd, Nat.reduceMul, Nat.reduceSub, Nat.reduceLeDiff, Nat.reduceEqDiff, Nat.reduceBEq, ↓reduceIte, reduceCtorEq, Int.reduceEq, Int.reduceLE, Int.reduceLT, Int.reduceAdd, Int.reduceSub, Int.reduceNeg, Int.reduceToNat, Int.reduceNe, Nat.reducePow, Nat.reduceShiftRight, Nat.reduceMod, *])
      all_goals exact fin_mut (.sc (.bool false)) (.inr rfl) cE2 rfl
  · have e : t.right np bound = false := by
      unfold Tm.right
      by_cases h1 : 0 ≤ np
      · by_cases h2 : np ≤ 4
        · have : ¬ 0 ≤ bound := fun h => hpre ⟨h1, h2, h⟩
          simp [this]
        · simp [h2]
      · simp [h1]
    rw [e]
    clear e
    have h9 : np < 0 ∨ (0 ≤ np ∧ 4 < np) ∨ (0 ≤ np ∧ np ≤ 4 ∧ bound < 0) := by omega
    clear hpre
    rcases h9 with h | ⟨h, h2⟩ | ⟨h, h2, h3⟩
    all_goals
      repeat' (first | ((with_reducible first | refine wA (by omega) ?_ | refine wB (by omega) ?_ | refine wC (by omega) ?_ | refine wD (by omega) ?_ | refine wE ?_ ?_ | refine wF ?_ ?_ | refine wG ?_ ?_ | refine wH ?_ ?_ | refine wI ?_ ?_ | refine wJ ?_ ?_ | refine wK ?_ ?_ | refine wL ?_ ?_) <;> intro _) | simp (maxSteps := 1000000) (disch := omega) only [go_sem, Nat.reduceAdd, Nat.reduceMul, Nat.reduceSub, Nat.reduceLeDiff, Nat.reduceEqDiff, Nat.reduceBEq, ↓reduceIte, reduceCtorEq, Int.reduceEq, Int.reduceLE, Int.reduceLT, Int.reduceAdd, Int.reduceSub, Int.reduceNeg, Int.reduceToNat, Int.reduceNe, Nat.reducePow, Nat.reduceShiftRight, Nat.reduceMod, mc_term_Right, *])
      all_goals exact fin_mut (.sc (.bool false)) (.inr rfl) cE2 rfl
end
section
set_option maxRecDepth 20000
attribute [local go_sem] pv_len pv_take id_ne id_ne' id_ne2 List.append_assoc
def txt (s : ByteArray) : List PV := [.sc (.string s)]
end
section
set_option maxRecDepth 20000
attribute [local go_sem] pv_len pv_take Nat.add_assoc tm_len tm_take pv_one tm_one id_ne id_ne' id_ne2 List.append_assoc tm_take_app tm_drop_app
structure Ent where
  kind : Int
  params : Int
  name : ByteArray
  typ : Tm
  val : Tm
  height : Int
  family : ByteArray
  fixed : Int
  index : Int
  fields : Int
  ctors : List ByteArray
def Ent.pv (e : Ent) : List PV := .sc (.int .i64 e.kind) :: .sc (.int .i64 e.params) :: .sc (.string e.name) :: (e.typ.pv ++ (e.val.pv ++ [.sc (.int .i64 e.height), .sc (.string e.family), .sc (.int .i64 e.fixed), .sc (.int .i64 e.index), .sc (.int .i64 e.fields), .sl 1 (e.ctors.map txt)]))
theorem ent_len (e : Ent) : e.pv.length = 19 := by simp [Ent.pv, tm_len]
attribute [local go_sem] ent_len
theorem ent_take (e : Ent) : e.pv.take 19 = e.pv := List.take_of_length_le (by rw [ent_len]; omega)
attribute [local go_sem] ent_take
theorem ent_one (e : Ent) : e.pv.all PV.one = true := by simp [Ent.pv, tm_one, PV.one]
attribute [local go_sem] ent_one
theorem tm_d6 (t : Tm) (r : List PV) : (t.pv ++ r).drop 6 = r.drop 1 := by rw [show 6 = 5 + 1 by rfl, ← List.drop_drop, List.drop_left' (tm_len t)]
attribute [local go_sem] tm_d6
theorem tm_d7 (t : Tm) (r : List PV) : (t.pv ++ r).drop 7 = r.drop 2 := by rw [show 7 = 5 + 2 by rfl, ← List.drop_drop, List.drop_left' (tm_len t)]
attribute [local go_sem] tm_d7
theorem tm_d8 (t : Tm) (r : List PV) : (t.pv ++ r).drop 8 = r.drop 3 := by rw [show 8 = 5 + 3 by rfl, ← List.drop_drop, List.drop_left' (tm_len t)]
attribute [local go_sem] tm_d8
theorem tm_d9 (t : Tm) (r : List PV) : (t.pv ++ r).drop 9 = r.drop 4 := by rw [show 9 = 5 + 4 by rfl, ← List.drop_drop, List.drop_left' (tm_len t)]
attribute [local go_sem] tm_d9
theorem tm_d10 (t : Tm) (r : List PV) : (t.pv ++ r).drop 10 = r.drop 5 := by rw [show 10 = 5 + 5 by rfl, ← List.drop_drop, List.drop_left' (tm_len t)]
attribute [local go_sem] tm_d10
theorem tm_d11 (t : Tm) (r : List PV) : (t.pv ++ r).drop 11 = r.drop 6 := by rw [show 11 = 5 + 6 by rfl, ← List.drop_drop, List.drop_left' (tm_len t)]
theorem tm_d12 (t : Tm) (r : List PV) : (t.pv ++ r).drop 12 = r.drop 7 := by rw [show 12 = 5 + 7 by rfl, ← List.drop_drop, List.drop_left' (tm_len t)]
theorem tm_d13 (t : Tm) (r : List PV) : (t.pv ++ r).drop 13 = r.drop 8 := by rw [show 13 = 5 + 8 by rfl, ← List.drop_drop, List.drop_left' (tm_len t)]
theorem tm_d14 (t : Tm) (r : List PV) : (t.pv ++ r).drop 14 = r.drop 9 := by rw [show 14 = 5 + 9 by rfl, ← List.drop_drop, List.drop_left' (tm_len t)]
theorem tm_d15 (t : Tm) (r : List PV) : (t.pv ++ r).drop 15 = r.drop 10 := by rw [show 15 = 5 + 10 by rfl, ← List.drop_drop, List.drop_left' (tm_len t)]
mutual
theorem dlv_false : ∀ l : Lv, l.pvB false = l.pv
  | .mk k n args => by simp only [Lv.pvB, Lv.pv, slB, dlvs_false args]; rfl
theorem dlvs_false : ∀ ls : List Lv, ls.map (Lv.pvB false) = ls.map Lv.pv
  | [] => rfl
  | x :: r => by rw [List.map_cons, List.map_cons, dlv_false x, dlvs_false r]
end
mutual
theorem dtv_false : ∀ t : Tm, t.pvB false = t.pv
  | .mk k n s ls args => by simp only [Tm.pvB, Tm.pv, slB, dlvs_false ls, dtvs_false args]; rfl
theorem dtvs_false : ∀ ts : List Tm, ts.map (Tm.pvB false) = ts.map Tm.pv
  | [] => rfl
  | x :: r => by rw [List.map_cons, List.map_cons, dtv_false x, dtvs_false r]
end
def noTm : Tm := .mk 0 0 emp [] []
def noughtB (t : Tm) : Bool := t.same noTm
def valueB (e : Ent) : Bool := if e.kind = 2 ∨ e.kind = 3 ∨ e.kind = 4 then e.val.right e.params 0 else if e.kind = 6 then noughtB e.val || e.val.right (min (e.params + 1) 4) 0 else noughtB e.val
def heightB (e : Ent) : Bool := if e.kind = 2 then decide (1 ≤ e.height) && decide (e.height ≤ 1048576) else decide (e.height = 0)
end
section
set_option maxRecDepth 20000
attribute [local go_sem] pv_len pv_take Nat.add_assoc tm_len tm_take pv_one tm_one id_ne id_ne' id_ne2 List.append_assoc tm_take_app tm_drop_app tm_d6 tm_d7 tm_d8 tm_d9 tm_d10 tm_d11 tm_d12 tm_d13 tm_d14 tm_d15 ent_len ent_take ent_one
def spanB (n most : Int) : Bool := decide (0 ≤ n) && decide (n ≤ most)
def most1 (kind : Int) : Int := if kind = 6 ∨ kind = 7 then 32 else if kind = 5 then 16 else 0
def most2 (kind : Int) : Int := if kind = 6 ∨ kind = 7 then 32 else 0
def familyB (e : Ent) : Bool := (spanB e.fixed (most1 e.kind) && (spanB e.index (most2 e.kind) && spanB e.fields (most2 e.kind))) && (if e.kind = 6 ∨ e.kind = 7 then nameB e.family else noS e.family)
def ctorsB (e : Ent) : Bool := if e.kind = 5 ∨ e.kind = 7 then decide (e.ctors.length ≤ 8) && e.ctors.all nameB else decide (e.ctors.length = 0)
def Ent.right (e : Ent) : Bool := decide (1 ≤ e.kind) && (decide (e.kind ≤ 7) && (nameB e.name && (decide (0 ≤ e.params) && (decide (e.params ≤ 4) && (e.typ.right e.params 0 && (valueB e && (heightB e && (familyB e && ctorsB e))))))))
end
section
set_option maxRecDepth 20000
attribute [local go_sem] pv_len pv_take Nat.add_assoc tm_len tm_take pv_one tm_one id_ne id_ne' id_ne2 List.append_assoc tm_take_app tm_drop_app tm_d6 tm_d7 tm_d8 tm_d9 tm_d10 tm_d11 tm_d12 tm_d13 tm_d14 tm_d15 ent_len ent_take ent_one
structure Ctr where
  name : ByteArray
  typ : Tm
def Ctr.pv (c : Ctr) : List PV := .sc (.string c.name) :: c.typ.pv
theorem ctr_len (c : Ctr) : c.pv.length = 6 := by simp [Ctr.pv, tm_len]
structure Dcl where
  kind : Int
  params : Int
  name : ByteArray
  typ : Tm
  val : Tm
  fixed : Int
  ctors : List Ctr
def Dcl.pv (d : Dcl) : List PV := .sc (.int .i64 d.kind) :: .sc (.int .i64 d.params) :: .sc (.string d.name) :: (d.typ.pv ++ (d.val.pv ++ [.sc (.int .i64 d.fixed), .sl 6 (d.ctors.map Ctr.pv)]))
theorem dcl_len (d : Dcl) : d.pv.length = 15 := by simp [Dcl.pv, tm_len]
theorem dcl_take (d : Dcl) : d.pv.take 15 = d.pv := List.take_of_length_le (by rw [dcl_len]; omega)
theorem noValue_p (d : Dcl) : PPure Try.prog F.pack_noValue [.ptr d.pv] (.sc (.bool (noughtB d.val))) := by
  obtain ⟨kind, params, name, typ, val, fixed, ctors⟩ := d
  refine pure_by is_pack_noValue (by simp) rfl fun hb nx => ?_
  clear hb
  have c1 : PPure Try.prog F.term_Same [.agg val.pv, .agg [.sc (.int .i64 0), .sc (.int .i64 0), .sc (.string ⟨#[]⟩), .sc (.slice none 0 0), .sc (.slice none 0 0)]] (.sc (.bool (noughtB val))) := by
    have h := tSame_p val noTm false true rfl
    refine h.weak ⟨.of_eq (by rw [dtv_false]), ?_, trivial⟩ (.refl _)
    simp only [noTm, Tm.pvB, List.map_nil]
    exact Weak.agg ⟨.refl _, .refl _, .refl _, .nilB true 3, .nilB true 5, trivial⟩
  repeat' (first | ((with_reducible first | refine wA (by omega) ?_ | refine wB (by omega) ?_ | refine wC (by omega) ?_ | refine wD (by omega) ?_ | refine wE ?_ ?_ | refine wF ?_ ?_ | refine wG ?_ ?_ | refine wH ?_ ?_ | refine wI ?_ ?_ | refine wJ ?_ ?_ | refine wK ?_ ?_ | refine wL ?_ ?_) <;> intro _) | (((with_reducible refine call_id ?_); (first | (refine call_pure (c1) ?_)))) | simp (maxSteps := 1000000) (disch := omega) only [go_sem, Nat.reduceAdd, Nat.reduceMul, Nat.reduceSub, Nat.reduceLeDiff, Nat.reduceEqDiff, Nat.reduceBEq, ↓reduceIte, reduceCtorEq, Int.reduceEq, Int.reduceLE, Int.reduceLT, Int.reduceAdd, Int.reduceSub, Int.reduceNeg, Int.reduceToNat, Int.reduceNe, Nat.reducePow, Nat.reduceShiftRight, Nat.reduceMod, mc_pack_noValue, Dcl.pv, *])
  all_goals (exact fin_tmp (.inr rfl) cE3)
def noFamB (d : Dcl) : Bool := decide (d.fixed = 0) && decide (d.ctors.length = 0)
theorem noFamily_p (d : Dcl) : PPure Try.prog F.pack_noFamily [.ptr d.pv] (.sc (.bool (noFamB d))) := by
  obtain ⟨kind, params, name, typ, val, fixed, ctors⟩ := d
  refine pure_by is_pack_noFamily (by simp) rfl fun hb nx => ?_
  clear hb
  simp only [noFamB]
  repeat' (first | ((with_reducible first | refine wA (by omega) ?_ | refine wB (by omega) ?_ | refine wC (by omega) ?_ | refine wD (by omega) ?_ | refine wE ?_ ?_ | refine wF ?_ ?_ | refine wG ?_ ?_ | refine wH ?_ ?_ | refine wI ?_ ?_ | refine wJ ?_ ?_ | refine wK ?_ ?_ | refine wL ?_ ?_) <;> intro _) | simp (maxSteps := 1000000) (disch := omega) only [go_sem, Nat.reduceAdd, Nat.reduceMul, Nat.reduceSub, Nat.reduceLeDiff, Nat.reduceEqDiff, Nat.reduceBEq, ↓reduceIte, reduceCtorEq, Int.reduceEq, Int.reduceLE, Int.reduceLT, Int.reduceAdd, Int.reduceSub, Int.reduceNeg, Int.reduceToNat, Int.reduceNe, Nat.reducePow, Nat.reduceShiftRight, Nat.reduceMod, mc_pack_noFamily, Dcl.pv, *])
  all_goals (refine fin_tmp (.inr rfl) ?_; simp [upd, *] <;> (intros; omega))
def ctrB (params : Int) (c : Ctr) : Bool := nameB c.name && c.typ.right params 0
def famB (d : Dcl) : Bool := spanB d.fixed 16 && (decide (d.ctors.length ≤ 8) && d.ctors.all (ctrB d.params))
set_option maxHeartbeats 4000000 in
theorem pfamily_p (d : Dcl) : PPure Try.prog F.pack_family [.ptr d.pv] (.sc (.bool (famB d))) := by
  obtain ⟨kind, params, name, typ, val, fixed, ctors⟩ := d
  refine pure_by is_pack_family (by simp) rfl fun hb nx => ?_
  clear hb
  simp only [famB, spanB]
  by_cases h : 0 ≤ fixed ∧ fixed ≤ 16 ∧ ctors.length ≤ 8
  · obtain ⟨h0, h1, h2⟩ := h
    rw [decide_eq_true h0, decide_eq_true h1, decide_eq_true h2]
    simp only [Bool.true_and]
    repeat' (first | ((with_reducible first | refine wA (by omega) ?_ | refine wB (by omega) ?_ | refine wC (by omega) ?_ | refine wD (by omega) ?_ | refine wE ?_ ?_ | refine wF ?_ ?_ | refine wG ?_ ?_ | refine wH ?_ ?_ | refine wI ?_ ?_ | refine wJ ?_ ?_ | refine wK ?_ ?_ | refine wL ?_ ?_) <;> intro _) | simp (maxSteps := 1000000) (disch := omega) only [go_sem, Nat.reduceAdd, Nat.reduceMul, Nat.reduceSub, Nat.reduceLeDiff, Nat.reduceEqDiff, Nat.reduceBEq, ↓reduceIte, reduceCtorEq, Int.reduceEq, Int.reduceLE, Int.reduceLT, Int.reduceAdd, Int.reduceSub, Int.reduceNeg, Int.reduceToNat, Int.reduceNe, Nat.reducePow, Nat.reduceShiftRight, Nat.reduceMod, mc_pack_family, Dcl.pv, *])
    refine c_loopW 576460751766552588 (by kernel_rfl) (fun j f H m => ∃ i : Nat, j = ctors.length - i ∧ i ≤ ctors.length ∧ f 29 = .sc (.int .i64 i) ∧ Kept ((ctors.take i).all (ctrB params) = true)) _ ⟨0, rfl, Nat.zero_le _, cE1, Kept.mk rfl⟩ ?_
    rintro _ f H m ⟨i, rfl, hi, e29, hs⟩
    by_cases hlt : i < ctors.length
    · have eg : ctors[i]? = some ctors[i] := List.getElem?_eq_getElem hlt
      have c1 := name_Right_p ctors[i].name
      have c2 := tRightG_p ctors[i].typ params 0
      cases hc : ctrB params ctors[i] with
      | false =>
        have e : ctors.all (ctrB params) = false := by
          rw [Bool.eq_false_iff]
          intro h
          have := List.all_eq_true.1 h _ (List.getElem_mem hlt)
          rw [hc] at this
          cases this
        rw [e]
        clear e hs
        cases hn : nameB ctors[i].name with
        | false =>
          rw [hn] at c1
          clear hn hc c2
          repeat' (first | ((with_reducible first | refine wA (by omega) ?_ | refine wB (by omega) ?_ | refine wC (by omega) ?_ | refine wD (by omega) ?_ | refine wE ?_ ?_ | refine wF ?_ ?_ | refine wG ?_ ?_ | refine wH ?_ ?_ | refine wI ?_ ?_ | refine wJ ?_ ?_ | refine wK ?_ ?_ | refine wL ?_ ?_) <;> intro _) | (((with_reducible refine call_id ?_); (first | (refine call_pure (c1) ?_)))) | simp (maxSteps := 1000000) (disch := omega) only [go_sem, Nat.reduceAdd, Nat.reduceMul, Nat.reduceSub, Nat.reduceLeDiff, Nat.reduceEqDiff, Nat.reduceBEq, ↓reduceIte, reduceCtorEq, Int.reduceEq, Int.reduceLE, Int.reduceLT, Int.reduceAdd, Int.reduceSub, Int.reduceNeg, Int.reduceToNat, Int.reduceNe, Nat.reducePow, Nat.reduceShiftRight, Nat.reduceMod, Ctr.pv, *])
          all_goals (exact fin_tmp (.inr rfl) cE3)
        | true =>
          have hr : ctors[i].typ.right params 0 = false := by simpa [ctrB, hn] using hc
          rw [hn] at c1
          rw [hr] at c2
          clear hn hc hr
          repeat' (first | ((with_reducible first | refine wA (by omega) ?_ | refine wB (by omega) ?_ | refine wC (by omega) ?_ | refine wD (by omega) ?_ | refine wE ?_ ?_ | refine wF ?_ ?_ | refine wG ?_ ?_ | refine wH ?_ ?_ | refine wI ?_ ?_ | refine wJ ?_ ?_ | refine wK ?_ ?_ | refine wL ?_ ?_) <;> intro _) | (((with_reducible refine call_id ?_); (first | (refine call_pure (c1) ?_) | (refine call_pure (c2) ?_)))) | simp (maxSteps := 1000000) (disch := omega) only [go_sem, Nat.reduceAdd, Nat.reduceMul, Nat.reduceSub, Nat.reduceLeDiff, Nat.reduceEqDiff, Nat.reduceBEq, ↓reduceIte, reduceCtorEq, Int.reduceEq, Int.reduceLE, Int.reduceLT, Int.reduceAdd, Int.reduceSub, Int.reduceNeg, Int.reduceToNat, Int.reduceNe, Nat.reducePow, Nat.reduceShiftRight, Nat.reduceMod, Ctr.pv, *])
          all_goals (exact fin_tmp (.inr rfl) cE3)
      | true =>
        have h3 : nameB ctors[i].name = true ∧ ctors[i].typ.right params 0 = true := by simpa [ctrB] using hc
        rw [h3.1] at c1
        rw [h3.2] at c2
        have hs2 : Kept ((ctors.take (i + 1)).all (ctrB params) = true) := Kept.mk (by rw [List.take_succ_eq_append_getElem hlt, List.all_append, hs.out, List.all_cons, hc]; rfl)
        clear h3 hc hs
        repeat' (first | ((with_reducible first | refine wA (by omega) ?_ | refine wB (by omega) ?_ | refine wC (by omega) ?_ | refine wD (by omega) ?_ | refine wE ?_ ?_ | refine wF ?_ ?_ | refine wG ?_ ?_ | refine wH ?_ ?_ | refine wI ?_ ?_ | refine wJ ?_ ?_ | refine wK ?_ ?_ | refine wL ?_ ?_) <;> intro _) | (((with_reducible refine call_id ?_); (first | (refine call_pure (c1) ?_) | (refine call_pure (c2) ?_)))) | simp (maxSteps := 1000000) (disch := omega) only [go_sem, Nat.reduceAdd, Nat.reduceMul, Nat.reduceSub, Nat.reduceLeDiff, Nat.reduceEqDiff, Nat.reduceBEq, ↓reduceIte, reduceCtorEq, Int.reduceEq, Int.reduceLE, Int.reduceLT, Int.reduceAdd, Int.reduceSub, Int.reduceNeg, Int.reduceToNat, Int.reduceNe, Nat.reducePow, Nat.reduceShiftRight, Nat.reduceMod, Ctr.pv, *])
        exact Nx.mk (ctors.length - (i + 1)) cE1 ⟨i + 1, rfl, cE1, by simp [upd], hs2⟩
    · obtain rfl : i = ctors.length := by omega
      have h3 := hs.out
      rw [List.take_length] at h3
      rw [h3]
      clear hs h3
      repeat' (first | ((with_reducible first | refine wA (by omega) ?_ | refine wB (by omega) ?_ | refine wC (by omega) ?_ | refine wD (by omega) ?_ | refine wE ?_ ?_ | refine wF ?_ ?_ | refine wG ?_ ?_ | refine wH ?_ ?_ | refine wI ?_ ?_ | refine wJ ?_ ?_ | refine wK ?_ ?_ | refine wL ?_ ?_) <;> intro _) | simp (maxSteps := 1000000) (disch := omega) only [go_sem, Nat.reduceAdd, Nat.reduceMul, Nat.reduceSub, Nat.reduceLeDiff, Nat.reduceEqDiff, Nat.reduceBEq, ↓reduceIte, reduceCtorEq, Int.reduceEq, Int.reduceLE, Int.reduceLT, Int.reduceAdd, Int.reduceSub, Int.reduceNeg, Int.reduceToNat, Int.reduceNe, Nat.reducePow, Nat.reduceShiftRight, Nat.reduceMod, *])
      all_goals (exact fin_tmp (.inr rfl) cE3)
  · have e : (decide (0 ≤ fixed) && decide (fixed ≤ 16) && (decide (ctors.length ≤ 8) && ctors.all (ctrB params))) = false := by
      rw [Bool.eq_false_iff]
      intro h2
      simp only [Bool.and_eq_true, decide_eq_true_eq] at h2
      exact h ⟨h2.1.1, h2.1.2, h2.2.1⟩
    rw [e]
    clear e
    have h9 : fixed < 0 ∨ (0 ≤ fixed ∧ 16 < fixed) ∨ (0 ≤ fixed ∧ fixed ≤ 16 ∧ 8 < ctors.length) := by omega
    clear h
    rcases h9 with h | ⟨h, h2⟩ | ⟨h, h2, h3⟩
    all_goals
      repeat' (first | ((with_reducible first | refine wA (by omega) ?_ | refine wB (by omega) ?_ | refine wC (by omega) ?_ | refine wD (by omega) ?_ | refine wE ?_ ?_ | refine wF ?_ ?_ | refine wG ?_ ?_ | refine wH ?_ ?_ | refine wI ?_ ?_ | refine wJ ?_ ?_ | refine wK ?_ ?_ | refine wL ?_ ?_) <;> intro _) | simp (maxSteps := 1000000) (disch := omega) only [go_sem, Nat.reduceAdd, Nat.reduceMul, Nat.reduceSub, Nat.reduceLeDiff, Nat.reduceEqDiff, Nat.reduceBEq, ↓reduceIte, reduceCtorEq, Int.reduceEq, Int.reduceLE, Int.reduceLT, Int.reduceAdd, Int.reduceSub, Int.reduceNeg, Int.reduceToNat, Int.reduceNe, Nat.reducePow, Nat.reduceShiftRight, Nat.reduceMod, mc_pack_family, Dcl.pv, *])
      all_goals (exact fin_tmp (.inr rfl) cE3)
def Dcl.formed (d : Dcl) : Bool := decide (0 ≤ d.params) && (decide (d.params ≤ 4) && (nameB d.name && (d.typ.right d.params 0 && (if d.kind = 1 then noughtB d.val && noFamB d else if d.kind = 2 ∨ d.kind = 3 ∨ d.kind = 4 then d.val.right d.params 0 && noFamB d else if d.kind = 5 then noughtB d.val && famB d else false))))
set_option maxHeartbeats 16000000 in
theorem formed11_p (d : Dcl) : PPure Try.prog F.pack_Formed [.agg d.pv] (.sc (.bool d.formed)) := by
  refine pure_by is_pack_Formed (by simp) rfl fun hb nx => ?_
  clear hb
  have c1 := name_Right_p d.name
  have c2 := tRightG_p d.typ d.params 0
  have c3 := noValue_p d
  have c4 := noFamily_p d
  have c5 := pfamily_p d
  have c6 := tRightG_p d.val d.params 0
  simp only [Dcl.formed]
  generalize noughtB d.val = b3 at c3
  generalize noFamB d = b4 at c4
  generalize famB d = b5 at c5
  obtain ⟨kind, params, name, typ, val, fixed, ctors⟩ := d
  simp only [Dcl.pv] at c1 c2 c3 c4 c5 c6 ⊢
  generalize nameB name = b1 at c1
  generalize typ.right params 0 = b2 at c2
  generalize val.right params 0 = b6 at c6
  by_cases hp : 0 ≤ params ∧ params ≤ 4
  rotate_left
  · have h9 : params < 0 ∨ (0 ≤ params ∧ 4 < params) := by omega
    clear hp c2 c3 c4 c5 c6
    rcases h9 with h | ⟨h, h2⟩
    all_goals
      cases b1
      all_goals
        repeat' (first | ((with_reducible first | refine wA (by omega) ?_ | refine wB (by omega) ?_ | refine wC (by omega) ?_ | refine wD (by omega) ?_ | refine wE ?_ ?_ | refine wF ?_ ?_ | refine wG ?_ ?_ | refine wH ?_ ?_ | refine wI ?_ ?_ | refine wJ ?_ ?_ | refine wK ?_ ?_ | refine wL ?_ ?_) <;> intro _) | (((with_reducible refine call_id ?_); (first | (refine call_pure (c1) ?_)))) | simp (maxSteps := 1000000) (disch := omega) only [go_sem, Nat.reduceAdd, Nat.reduceMul, Nat.reduceSub, Nat.reduceLeDiff, Nat.reduceEqDiff, Nat.reduceBEq, ↓reduceIte, reduceCtorEq, Int.reduceEq, Int.reduceLE, Int.reduceLT, Int.reduceAdd, Int.reduceSub, Int.reduceNeg, Int.reduceToNat, Int.reduceNe, Nat.reducePow, Nat.reduceShiftRight, Nat.reduceMod, mc_pack_Formed, *])
        all_goals (refine fin_tmp (.inr rfl) ?_; simp [upd, *] <;> (intros; omega))
  obtain ⟨h0, h4⟩ := hp
  cases b1 with
  | false =>
    repeat' (first | ((with_reducible first | refine wA (by omega) ?_ | refine wB (by omega) ?_ | refine wC (by omega) ?_ | refine wD (by omega) ?_ | refine wE ?_ ?_ | refine wF ?_ ?_ | refine wG ?_ ?_ | refine wH ?_ ?_ | refine wI ?_ ?_ | refine wJ ?_ ?_ | refine wK ?_ ?_ | refine wL ?_ ?_) <;> intro _) | (((with_reducible refine call_id ?_); (first | (refine call_pure (c1) ?_)))) | simp (maxSteps := 1000000) (disch := omega) only [go_sem, Nat.reduceAdd, Nat.reduceMul, Nat.reduceSub, Nat.reduceLeDiff, Nat.reduceEqDiff, Nat.reduceBEq, ↓reduceIte, reduceCtorEq, Int.reduceEq, Int.reduceLE, Int.reduceLT, Int.reduceAdd, Int.reduceSub, Int.reduceNeg, Int.reduceToNat, Int.reduceNe, Nat.reducePow, Nat.reduceShiftRight, Nat.reduceMod, mc_pack_Formed, *])
    all_goals (refine fin_tmp (.inr rfl) ?_; simp [upd, *] <;> (intros; omega))
  | true =>
  cases b2 with
  | false =>
    repeat' (first | ((with_reducible first | refine wA (by omega) ?_ | refine wB (by omega) ?_ | refine wC (by omega) ?_ | refine wD (by omega) ?_ | refine wE ?_ ?_ | refine wF ?_ ?_ | refine wG ?_ ?_ | refine wH ?_ ?_ | refine wI ?_ ?_ | refine wJ ?_ ?_ | refine wK ?_ ?_ | refine wL ?_ ?_) <;> intro _) | (((with_reducible refine call_id ?_); (first | (refine call_pure (c1) ?_) | (refine call_pure (c2) ?_)))) | simp (maxSteps := 1000000) (disch := omega) only [go_sem, Nat.reduceAdd, Nat.reduceMul, Nat.reduceSub, Nat.reduceLeDiff, Nat.reduceEqDiff, Nat.reduceBEq, ↓reduceIte, reduceCtorEq, Int.reduceEq, Int.reduceLE, Int.reduceLT, Int.reduceAdd, Int.reduceSub, Int.reduceNeg, Int.reduceToNat, Int.reduceNe, Nat.reducePow, Nat.reduceShiftRight, Nat.reduceMod, mc_pack_Formed, *])
    all_goals (refine fin_tmp (.inr rfl) ?_; simp [upd, *] <;> (intros; omega))
  | true =>
  have hk : kind = 1 ∨ (kind = 2 ∨ kind = 3 ∨ kind = 4) ∨ kind = 5 ∨ (kind ≠ 1 ∧ kind ≠ 2 ∧ kind ≠ 3 ∧ kind ≠ 4 ∧ kind ≠ 5) := by omega
  rcases hk with rfl | (rfl | rfl | rfl) | rfl | ⟨k1, k2, k3, k4, k5⟩
  · cases b3
    all_goals
      repeat' (first | ((with_reducible first | refine wA (by omega) ?_ | refine wB (by omega) ?_ | refine wC (by omega) ?_ | refine wD (by omega) ?_ | refine wE ?_ ?_ | refine wF ?_ ?_ | refine wG ?_ ?_ | refine wH ?_ ?_ | refine wI ?_ ?_ | refine wJ ?_ ?_ | refine wK ?_ ?_ | refine wL ?_ ?_) <;> intro _) | (((with_reducible refine call_id ?_); (first | (refine call_pure (c1) ?_) | (refine call_pure (c2) ?_) | (refine call_pure (c3) ?_) | (refine call_pure (c4) ?_)))) | simp (maxSteps := 1000000) (disch := omega) only [go_sem, Nat.reduceAdd, Nat.reduceMul, Nat.reduceSub, Nat.reduceLeDiff, Nat.reduceEqDiff, Nat.reduceBEq, ↓reduceIte, reduceCtorEq, Int.reduceEq, Int.reduceLE, Int.reduceLT, Int.reduceAdd, Int.reduceSub, Int.reduceNeg, Int.reduceToNat, Int.reduceNe, Nat.reducePow, Nat.reduceShiftRight, Nat.reduceMod, mc_pack_Formed, *])
      all_goals (refine fin_tmp (.inr rfl) ?_; simp [upd, *] <;> (intros; omega))
  · cases b6
    all_goals
      repeat' (first | ((with_reducible first | refine wA (by omega) ?_ | refine wB (by omega) ?_ | refine wC (by omega) ?_ | refine wD (by omega) ?_ | refine wE ?_ ?_ | refine wF ?_ ?_ | refine wG ?_ ?_ | refine wH ?_ ?_ | refine wI ?_ ?_ | refine wJ ?_ ?_ | refine wK ?_ ?_ | refine wL ?_ ?_) <;> intro _) | (((with_reducible refine call_id ?_); (first | (refine call_pure (c1) ?_) | (refine call_pure (c2) ?_) | (refine call_pure (c6) ?_) | (refine call_pure (c4) ?_)))) | simp (maxSteps := 1000000) (disch := omega) only [go_sem, Nat.reduceAdd, Nat.reduceMul, Nat.reduceSub, Nat.reduceLeDiff, Nat.reduceEqDiff, Nat.reduceBEq, ↓reduceIte, reduceCtorEq, Int.reduceEq, Int.reduceLE, Int.reduceLT, Int.reduceAdd, Int.reduceSub, Int.reduceNeg, Int.reduceToNat, Int.reduceNe, Nat.reducePow, Nat.reduceShiftRight, Nat.reduceMod, mc_pack_Formed, *])
      all_goals (refine fin_tmp (.inr rfl) ?_; simp [upd, *] <;> (intros; omega))
  · cases b6
    all_goals
      repeat' (first | ((with_reducible first | refine wA (by omega) ?_ | refine wB (by omega) ?_ | refine wC (by omega) ?_ | refine wD (by omega) ?_ | refine wE ?_ ?_ | refine wF ?_ ?_ | refine wG ?_ ?_ | refine wH ?_ ?_ | refine wI ?_ ?_ | refine wJ ?_ ?_ | refine wK ?_ ?_ | refine wL ?_ ?_) <;> intro _) | (((with_reducible refine call_id ?_); (first | (refine call_pure (c1) ?_) | (refine call_pure (c2) ?_) | (refine call_pure (c6) ?_) | (refine call_pure (c4) ?_)))) | simp (maxSteps := 1000000) (disch := omega) only [go_sem, Nat.reduceAdd, Nat.reduceMul, Nat.reduceSub, Nat.reduceLeDiff, Nat.reduceEqDiff, Nat.reduceBEq, ↓reduceIte, reduceCtorEq, Int.reduceEq, Int.reduceLE, Int.reduceLT, Int.reduceAdd, Int.reduceSub, Int.reduceNeg, Int.reduceToNat, Int.reduceNe, Nat.reducePow, Nat.reduceShiftRight, Nat.reduceMod, mc_pack_Formed, *])
      all_goals (refine fin_tmp (.inr rfl) ?_; simp [upd, *] <;> (intros; omega))
  · cases b6
    all_goals
      repeat' (first | ((with_reducible first | refine wA (by omega) ?_ | refine wB (by omega) ?_ | refine wC (by omega) ?_ | refine wD (by omega) ?_ | refine wE ?_ ?_ | refine wF ?_ ?_ | refine wG ?_ ?_ | refine wH ?_ ?_ | refine wI ?_ ?_ | refine wJ ?_ ?_ | refine wK ?_ ?_ | refine wL ?_ ?_) <;> intro _) | (((with_reducible refine call_id ?_); (first | (refine call_pure (c1) ?_) | (refine call_pure (c2) ?_) | (refine call_pure (c6) ?_) | (refine call_pure (c4) ?_)))) | simp (maxSteps := 1000000) (disch := omega) only [go_sem, Nat.reduceAdd, Nat.reduceMul, Nat.reduceSub, Nat.reduceLeDiff, Nat.reduceEqDiff, Nat.reduceBEq, ↓reduceIte, reduceCtorEq, Int.reduceEq, Int.reduceLE, Int.reduceLT, Int.reduceAdd, Int.reduceSub, Int.reduceNeg, Int.reduceToNat, Int.reduceNe, Nat.reducePow, Nat.reduceShiftRight, Nat.reduceMod, mc_pack_Formed, *])
      all_goals (refine fin_tmp (.inr rfl) ?_; simp [upd, *] <;> (intros; omega))
  · cases b3
    all_goals
      repeat' (first | ((with_reducible first | refine wA (by omega) ?_ | refine wB (by omega) ?_ | refine wC (by omega) ?_ | refine wD (by omega) ?_ | refine wE ?_ ?_ | refine wF ?_ ?_ | refine wG ?_ ?_ | refine wH ?_ ?_ | refine wI ?_ ?_ | refine wJ ?_ ?_ | refine wK ?_ ?_ | refine wL ?_ ?_) <;> intro _) | (((with_reducible refine call_id ?_); (first | (refine call_pure (c1) ?_) | (refine call_pure (c2) ?_) | (refine call_pure (c3) ?_) | (refine call_pure (c5) ?_)))) | simp (maxSteps := 1000000) (disch := omega) only [go_sem, Nat.reduceAdd, Nat.reduceMul, Nat.reduceSub, Nat.reduceLeDiff, Nat.reduceEqDiff, Nat.reduceBEq, ↓reduceIte, reduceCtorEq, Int.reduceEq, Int.reduceLE, Int.reduceLT, Int.reduceAdd, Int.reduceSub, Int.reduceNeg, Int.reduceToNat, Int.reduceNe, Nat.reducePow, Nat.reduceShiftRight, Nat.reduceMod, mc_pack_Formed, *])
      all_goals (refine fin_tmp (.inr rfl) ?_; simp [upd, *] <;> (intros; omega))
  · repeat' (first | ((with_reducible first | refine wA (by omega) ?_ | refine wB (by omega) ?_ | refine wC (by omega) ?_ | refine wD (by omega) ?_ | refine wE ?_ ?_ | refine wF ?_ ?_ | refine wG ?_ ?_ | refine wH ?_ ?_ | refine wI ?_ ?_ | refine wJ ?_ ?_ | refine wK ?_ ?_ | refine wL ?_ ?_) <;> intro _) | (((with_reducible refine call_id ?_); (first | (refine call_pure (c1) ?_) | (refine call_pure (c2) ?_)))) | simp (maxSteps := 1000000) (disch := omega) only [go_sem, Nat.reduceAdd, Nat.reduceMul, Nat.reduceSub, Nat.reduceLeDiff, Nat.reduceEqDiff, Nat.reduceBEq, ↓reduceIte, reduceCtorEq, Int.reduceEq, Int.reduceLE, Int.reduceLT, Int.reduceAdd, Int.reduceSub, Int.reduceNeg, Int.reduceToNat, Int.reduceNe, Nat.reducePow, Nat.reduceShiftRight, Nat.reduceMod, mc_pack_Formed, *])
    all_goals (refine fin_tmp (.inr rfl) ?_; simp [upd, *] <;> (intros; omega))
end
section
set_option maxRecDepth 20000
attribute [local go_sem] Nat.add_assoc id_ne id_ne' id_ne2 List.append_assoc tm_len tm_take tm_one tm_take_app tm_drop_app tm_d6 tm_d7 tm_d8 tm_d9 tm_d10 tm_d11 tm_d12 tm_d13 tm_d14 tm_d15 o_callmF List.all_append
theorem o_ldoR {P : Program} {b : Bool} {id : Nat} {d : Option Nat} {K : St → Prop} {s : St} {x : Operand} {k sz : Nat} {ag : Bool} : opG P b id ⟨d, .ldo x [k] sz ag, none⟩ K s = valP (if apartP (ev s x) (s.s k) = true then (loadP s (ev s x) sz).bind fun cs => if ag then some (.agg cs) else if sz = 1 then cs.head? else none else none) d K s := by
  rw [o_ldo]
  simp only [List.all_cons, List.all_nil, Bool.and_true]
attribute [local go_sem] o_ldoR
theorem apartR {i j a b : Nat} : apartP (.optr i a) (.optr j b) = decide (i ≠ j) := rfl
attribute [local go_sem] apartR
theorem call_rdF {f : FuncId} {rid : Nat} {w : Bool} {s' : RS} {x : PV} {d : Option Nat} {K : St → Prop} {st : St} (h : PMut Try.prog f [.optr rid 0] st.H st.nx (RdQ st.H st.nx rid w s' x))
    (hk : ∀ H' nx' r, RdQ st.H st.nx rid w s' x H' nx' r → st.nx ≤ nx' → K (put { st with H := H', nx := nx' } d r)) : callE Try.prog f [.optr rid 0] (some (.optr rid 0)) d K st :=
  call_mutF h ⟨upd st.H rid (some ⟨rdC s', w⟩), st.nx, x, ⟨Nat.le_refl _, rfl, upd_same _ _ _, fun j _ h2 => upd_ne _ _ h2⟩, Nat.le_refl _, fun j _ hno => upd_ne _ _ fun e => hno (by subst e; exact .inl ⟨0, rfl⟩)⟩
    (fun H' nx' r hq j hj hno => hq.2.2.2 j hj fun e => hno (by subst e; exact .inl ⟨0, rfl⟩)) hk
def wholeF (s : RS) : Tm × RS := termF 2001 ⟨s.l, 0, s.bad⟩
theorem whole_rdy (s : RS) : Rdy 2001 ⟨s.l, 0, s.bad⟩ := .inr ⟨Int.le_refl _, by show (0 : Int) ≤ 2000; omega, by show (2001 : Int) ≤ 2001 + 0; omega⟩
theorem whole_shrink (s : RS) : (wholeF s).2.l.length ≤ s.l.length := term_shrink 2001 _
set_option maxHeartbeats 8000000 in
theorem whole_m (s : RS) (hl : s.l.length ≤ 2 ^ 40) (rid : Nat) (w : Bool) (H : Nat → Option PObj) (nx : Nat) (hr : rid < nx) (hH : H rid = some ⟨rdC s, w⟩) :
    PMut Try.prog F.pack_reader_whole [.optr rid 0] H nx (RdQ H nx rid w (wholeF s).2 (.agg (wholeF s).1.pv)) := by
  obtain ⟨l, nodes, bad⟩ := s
  have hrd := whole_rdy ⟨l, nodes, bad⟩
  refine mut_by is_pack_reader_whole (by simp) fun hb => ?_
  clear hb
  simp only [rdC] at hH
  unfold wholeF
  have hlen := tm_len (termF 2001 ⟨l, 0, bad⟩).1
  repeat' (first | ((with_reducible first | refine wA (by omega) ?_ | refine wB (by omega) ?_ | refine wC (by omega) ?_ | refine wD (by omega) ?_ | refine wE ?_ ?_ | refine wF ?_ ?_ | refine wG ?_ ?_ | refine wH ?_ ?_ | refine wI ?_ ?_ | refine wJ ?_ ?_ | refine wK ?_ ?_ | refine wL ?_ ?_) <;> intro _) | simp (maxSteps := 1000000) (disch := omega) only [go_sem, Nat.reduceAdd, Nat.reduceMul, Nat.reduceSub, Nat.reduceLeDiff, Nat.reduceEqDiff, Nat.reduceBEq, ↓reduceIte, reduceCtorEq, Int.reduceEq, Int.reduceLE, Int.reduceLT, Int.reduceAdd, Int.reduceSub, Int.reduceNeg, Int.reduceToNat, Int.reduceNe, Nat.reducePow, Nat.reduceShiftRight, Nat.reduceMod, mc_pack_reader_whole, *])
  refine call_mut (term_m 2001 ⟨l, 0, bad⟩ hrd hl rid w _ _ (Nat.lt_of_lt_of_le hr (Nat.le_add_right _ _)) (by simp [upd, rdC])) ?_
  rintro H1 m1 r1 ⟨hm1', rfl, g1, k1'⟩ -
  have hm1 : nx + 8 ≤ m1 := hm1'
  have b1 : H1 nx = some ⟨[.sc (.int .i64 0), .sc (.int .i64 0), .sc (.string ⟨#[]⟩), .sc (.slice none 0 0), .sc (.slice none 0 0)], true⟩ := (k1' nx (Nat.lt_add_of_pos_right (by decide)) (by omega)).trans (by simp [upd, show nx ≠ rid by omega])
  have k1 : Kept (∀ j, j < nx → j ≠ rid → H1 j = H j) := fun j e1 e2 => (k1' j (Nat.lt_of_lt_of_le e1 (Nat.le_add_right _ _)) e2).trans (by simp [upd, e2, show j ≠ nx by omega])
  clear hm1' k1' hH
  generalize (termF 2001 ⟨l, 0, bad⟩).1 = t at *
  repeat' (first | ((with_reducible first | refine wA (by omega) ?_ | refine wB (by omega) ?_ | refine wC (by omega) ?_ | refine wD (by omega) ?_ | refine wE ?_ ?_ | refine wF ?_ ?_ | refine wG ?_ ?_ | refine wH ?_ ?_ | refine wI ?_ ?_ | refine wJ ?_ ?_ | refine wK ?_ ?_ | refine wL ?_ ?_) <;> intro _) | simp (maxSteps := 1000000) (disch := omega) only [go_sem, Nat.reduceAdd, Nat.reduceMul, Nat.reduceSub, Nat.reduceLeDiff, Nat.reduceEqDiff, Nat.reduceBEq, ↓reduceIte, reduceCtorEq, Int.reduceEq, Int.reduceLE, Int.reduceLT, Int.reduceAdd, Int.reduceSub, Int.reduceNeg, Int.reduceToNat, Int.reduceNe, Nat.reducePow, Nat.reduceShiftRight, Nat.reduceMod, *])
  refine fin_mut (.agg t.pv) (.inr rfl) cE2 ⟨Nat.le_trans (show nx ≤ m1 by omega) (Nat.le_refl _), rfl, upd_out (by omega) g1, fun j e1 e2 => upd_out (by omega) (k1 j e1 e2)⟩
end
section
set_option maxRecDepth 20000
attribute [local go_sem] Nat.add_assoc id_ne id_ne' id_ne2 List.append_assoc tm_len tm_take tm_one tm_take_app tm_drop_app tm_d6 tm_d7 tm_d8 tm_d9 tm_d10 tm_d11 tm_d12 tm_d13 tm_d14 tm_d15 o_callmF o_ldoR apartR List.all_append
def ctorF (s : RS) : Ctr × RS := (⟨(nameF s).1, (wholeF (nameF s).2).1⟩, (wholeF (nameF s).2).2)
def declF (s : RS) : Dcl × RS :=
  if (numF s).1 = 2 ∨ (numF s).1 = 3 ∨ (numF s).1 = 4 then
    (⟨(numF s).1, (numF (nameF (numF s).2).2).1, (nameF (numF s).2).1, (wholeF (numF (nameF (numF s).2).2).2).1, (wholeF (wholeF (numF (nameF (numF s).2).2).2).2).1, 0, []⟩, (wholeF (wholeF (numF (nameF (numF s).2).2).2).2).2)
  else if (numF s).1 = 5 then
    (⟨(numF s).1, (numF (nameF (numF s).2).2).1, (nameF (numF s).2).1, (wholeF (numF (nameF (numF s).2).2).2).1, .mk 0 0 noStr [] [], (numF (wholeF (numF (nameF (numF s).2).2).2).2).1,
        (repF ctorF (min (numF (numF (wholeF (numF (nameF (numF s).2).2).2).2).2).1 9) (numF (numF (wholeF (numF (nameF (numF s).2).2).2).2).2).2).1⟩,
      (repF ctorF (min (numF (numF (wholeF (numF (nameF (numF s).2).2).2).2).2).1 9) (numF (numF (wholeF (numF (nameF (numF s).2).2).2).2).2).2).2)
  else (⟨(numF s).1, (numF (nameF (numF s).2).2).1, (nameF (numF s).2).1, (wholeF (numF (nameF (numF s).2).2).2).1, .mk 0 0 noStr [] [], 0, []⟩, (wholeF (numF (nameF (numF s).2).2).2).2)
theorem ctor_shrink (s : RS) : (ctorF s).2.l.length ≤ s.l.length := Nat.le_trans (whole_shrink _) (nameF_len s)
theorem tm_y7 (t : Tm) (r : List PV) : (t.pv ++ r).take 7 = t.pv ++ r.take 2 := by rw [List.take_append, tm_len, List.take_of_length_le (by rw [tm_len]; omega)]
attribute [local go_sem] tm_y7
theorem tm_y6 (t : Tm) (r : List PV) : (t.pv ++ r).take 6 = t.pv ++ r.take 1 := by rw [List.take_append, tm_len, List.take_of_length_le (by rw [tm_len]; omega)]
attribute [local go_sem] tm_y6
theorem tm_y12 (t : Tm) (r : List PV) : (t.pv ++ r).take 12 = t.pv ++ r.take 7 := by rw [List.take_append, tm_len, List.take_of_length_le (by rw [tm_len]; omega)]
attribute [local go_sem] tm_y12
theorem tm_y11 (t : Tm) (r : List PV) : (t.pv ++ r).take 11 = t.pv ++ r.take 6 := by rw [List.take_append, tm_len, List.take_of_length_le (by rw [tm_len]; omega)]
attribute [local go_sem] tm_y11
theorem tm_y10 (t : Tm) (r : List PV) : (t.pv ++ r).take 10 = t.pv ++ r.take 5 := by rw [List.take_append, tm_len, List.take_of_length_le (by rw [tm_len]; omega)]
attribute [local go_sem] tm_y10
theorem dcl_tell (G : Nat → Bool) (H : Nat → Option PObj) {k p : Int} {nm : ByteArray} {ty val : Tm} {v : List PV} {fx : Int} {a : PV} {ctors : List Ctr} (hv : immL v = true) (hw : WeakL v val.pv) (ha : Weak (frgF G 1 H a) (.sl 6 (ctors.map Ctr.pv))) :
    Weak (frgF G 2 H (.agg (.sc (.int .i64 k) :: .sc (.int .i64 p) :: .sc (.string nm) :: (ty.pv ++ (v ++ [.sc (.int .i64 fx), a]))))) (.agg (Dcl.mk k p nm ty val fx ctors).pv) := by
  have e : frgF G 2 H (.agg (.sc (.int .i64 k) :: .sc (.int .i64 p) :: .sc (.string nm) :: (ty.pv ++ (v ++ [.sc (.int .i64 fx), a])))) = .agg (.sc (.int .i64 k) :: .sc (.int .i64 p) :: .sc (.string nm) :: (ty.pv ++ (v ++ [.sc (.int .i64 fx), frgF G 1 H a]))) := by
    simp only [frgF, List.map_cons, List.map_append, List.map_nil, frgF_immL G H 1 ty.pv (tm_imm ty), frgF_immL G H 1 v hv]
  rw [e]
  simp only [Dcl.pv]
  exact Weak.agg ⟨.refl _, .refl _, .refl _, WeakL.append (WeakL.refl _) (WeakL.append hw ⟨.refl _, ha, trivial⟩)⟩
theorem z5_imm : immL ([.sc (.int .i64 0), .sc (.int .i64 0), .sc (.string ⟨#[]⟩), .sc (.slice none 0 0), .sc (.slice none 0 0)] : List PV) = true := rfl
theorem z5_weak : WeakL [.sc (.int .i64 0), .sc (.int .i64 0), .sc (.string ⟨#[]⟩), .sc (.slice none 0 0), .sc (.slice none 0 0)] (Tm.mk 0 0 noStr [] []).pv := by
  simp only [Tm.pv]
  exact ⟨.refl _, .refl _, .refl _, .nil 3, .nil 5, trivial⟩
theorem frg_nil6 (G : Nat → Bool) (H : Nat → Option PObj) : Weak (frgF G 1 H (.sc (.slice none 0 0))) (.sl 6 (([] : List Ctr).map Ctr.pv)) := .nil 6
theorem ctr_lenZ (c : Ctr) : c.pv.length = 6 := ctr_len c
attribute [local go_sem] ctr_lenZ
set_option maxHeartbeats 32000000 in
theorem decl_m (s : RS) (hl : s.l.length ≤ 2 ^ 40) (rid : Nat) (w : Bool) (H : Nat → Option PObj) (nx : Nat) (hr : rid < nx) (hH : H rid = some ⟨rdC s, w⟩) :
    PMut Try.prog F.pack_reader_decl [.optr rid 0] H nx (RdQ H nx rid w (declF s).2 (.agg (declF s).1.pv)) := by
  refine rd_tell is_pack_reader_decl.enters hr ?_
  refine mut_by is_pack_reader_decl (by simp) fun hb => ?_
  clear hb
  unfold declF
  have hl1 : (numF s).2.l.length ≤ 2 ^ 40 := Nat.le_trans (numF_len s) hl
  have hl2 : (nameF (numF s).2).2.l.length ≤ 2 ^ 40 := Nat.le_trans (nameF_len _) hl1
  have hl3 : (numF (nameF (numF s).2).2).2.l.length ≤ 2 ^ 40 := Nat.le_trans (numF_len _) hl2
  have hl4 : (wholeF (numF (nameF (numF s).2).2).2).2.l.length ≤ 2 ^ 40 := Nat.le_trans (whole_shrink _) hl3
  repeat' (first | ((with_reducible first | refine wA (by omega) ?_ | refine wB (by omega) ?_ | refine wC (by omega) ?_ | refine wD (by omega) ?_ | refine wE ?_ ?_ | refine wF ?_ ?_ | refine wG ?_ ?_ | refine wH ?_ ?_ | refine wI ?_ ?_ | refine wJ ?_ ?_ | refine wK ?_ ?_ | refine wL ?_ ?_) <;> intro _) | simp (maxSteps := 1000000) (disch := omega) only [go_sem, Nat.reduceAdd, Nat.reduceMul, Nat.reduceSub, Nat.reduceLeDiff, Nat.reduceEqDiff, Nat.reduceBEq, ↓reduceIte, reduceCtorEq, Int.reduceEq, Int.reduceLE, Int.reduceLT, Int.reduceAdd, Int.reduceSub, Int.reduceNeg, Int.reduceToNat, Int.reduceNe, Nat.reducePow, Nat.reduceShiftRight, Nat.reduceMod, mc_pack_reader_decl, *])
  refine call_mut (number_m s hl rid w _ _ (Nat.lt_of_lt_of_le hr (Nat.le_add_right _ _)) (upd_out (by omega) hH)) ?_
  rintro H1 m1 r1 ⟨hm1', rfl, g1, k1'⟩ -
  have hm1 : nx + 12 ≤ m1 := hm1'
  have b1 : H1 nx = some ⟨[.sc (.int .i64 0), .sc (.int .i64 0), .sc (.string ⟨#[]⟩), .sc (.int .i64 0), .sc (.int .i64 0), .sc (.string ⟨#[]⟩), .sc (.slice none 0 0), .sc (.slice none 0 0), .sc (.int .i64 0), .sc (.int .i64 0), .sc (.string ⟨#[]⟩), .sc (.slice none 0 0), .sc (.slice none 0 0), .sc (.int .i64 0), .sc (.slice none 0 0)], true⟩ := (k1' nx (Nat.lt_add_of_pos_right (by decide)) (by omega)).trans (upd_same _ _ _)
  have k1 : Kept (∀ j, j < nx → j ≠ rid → H1 j = H j) := fun j e1 e2 => (k1' j (Nat.lt_of_lt_of_le e1 (Nat.le_add_right _ _)) e2).trans (upd_ne _ _ (by omega))
  clear hm1' k1' hH
  generalize (numF s).1 = k at *
  generalize (numF s).2 = s1 at *
  repeat' (first | ((with_reducible first | refine wA (by omega) ?_ | refine wB (by omega) ?_ | refine wC (by omega) ?_ | refine wD (by omega) ?_ | refine wE ?_ ?_ | refine wF ?_ ?_ | refine wG ?_ ?_ | refine wH ?_ ?_ | refine wI ?_ ?_ | refine wJ ?_ ?_ | refine wK ?_ ?_ | refine wL ?_ ?_) <;> intro _) | simp (maxSteps := 1000000) (disch := omega) only [go_sem, Nat.reduceAdd, Nat.reduceMul, Nat.reduceSub, Nat.reduceLeDiff, Nat.reduceEqDiff, Nat.reduceBEq, ↓reduceIte, reduceCtorEq, Int.reduceEq, Int.reduceLE, Int.reduceLT, Int.reduceAdd, Int.reduceSub, Int.reduceNeg, Int.reduceToNat, Int.reduceNe, Nat.reducePow, Nat.reduceShiftRight, Nat.reduceMod, *])
  refine call_mut (name_m s1 hl1 rid w _ _ (show rid < m1 by omega) g1) ?_
  rintro H2 m2 r2 ⟨hm2', rfl, g2, k2'⟩ -
  have hm2 : m1 ≤ m2 := Nat.le_trans (Nat.le_refl _) hm2'
  have b2 : H2 nx = some ⟨[.sc (.int .i64 0), .sc (.int .i64 0), .sc (.string ⟨#[]⟩), .sc (.int .i64 0), .sc (.int .i64 0), .sc (.string ⟨#[]⟩), .sc (.slice none 0 0), .sc (.slice none 0 0), .sc (.int .i64 0), .sc (.int .i64 0), .sc (.string ⟨#[]⟩), .sc (.slice none 0 0), .sc (.slice none 0 0), .sc (.int .i64 0), .sc (.slice none 0 0)], true⟩ := (k2' nx (Nat.lt_of_lt_of_le (show nx < m1 by omega) (Nat.le_refl _)) (by omega)).trans (b1)
  have k2 : Kept (∀ j, j < nx → j ≠ rid → H2 j = H j) := fun j e1 e2 => (k2' j (Nat.lt_of_lt_of_le (show j < m1 by omega) (Nat.le_refl _)) e2).trans (k1 j e1 e2)
  clear hm2' k2' k1 b1 g1
  generalize (nameF s1).1 = nm at *
  generalize (nameF s1).2 = s2 at *
  repeat' (first | ((with_reducible first | refine wA (by omega) ?_ | refine wB (by omega) ?_ | refine wC (by omega) ?_ | refine wD (by omega) ?_ | refine wE ?_ ?_ | refine wF ?_ ?_ | refine wG ?_ ?_ | refine wH ?_ ?_ | refine wI ?_ ?_ | refine wJ ?_ ?_ | refine wK ?_ ?_ | refine wL ?_ ?_) <;> intro _) | simp (maxSteps := 1000000) (disch := omega) only [go_sem, Nat.reduceAdd, Nat.reduceMul, Nat.reduceSub, Nat.reduceLeDiff, Nat.reduceEqDiff, Nat.reduceBEq, ↓reduceIte, reduceCtorEq, Int.reduceEq, Int.reduceLE, Int.reduceLT, Int.reduceAdd, Int.reduceSub, Int.reduceNeg, Int.reduceToNat, Int.reduceNe, Nat.reducePow, Nat.reduceShiftRight, Nat.reduceMod, *])
  refine call_mut (number_m s2 hl2 rid w _ _ (show rid < m2 by omega) g2) ?_
  rintro H3 m3 r3 ⟨hm3', rfl, g3, k3'⟩ -
  have hm3 : m2 ≤ m3 := Nat.le_trans (Nat.le_refl _) hm3'
  have b3 : H3 nx = some ⟨[.sc (.int .i64 0), .sc (.int .i64 0), .sc (.string ⟨#[]⟩), .sc (.int .i64 0), .sc (.int .i64 0), .sc (.string ⟨#[]⟩), .sc (.slice none 0 0), .sc (.slice none 0 0), .sc (.int .i64 0), .sc (.int .i64 0), .sc (.string ⟨#[]⟩), .sc (.slice none 0 0), .sc (.slice none 0 0), .sc (.int .i64 0), .sc (.slice none 0 0)], true⟩ := (k3' nx (Nat.lt_of_lt_of_le (show nx < m2 by omega) (Nat.le_refl _)) (by omega)).trans (b2)
  have k3 : Kept (∀ j, j < nx → j ≠ rid → H3 j = H j) := fun j e1 e2 => (k3' j (Nat.lt_of_lt_of_le (show j < m2 by omega) (Nat.le_refl _)) e2).trans (k2 j e1 e2)
  clear hm3' k3' k2 b2 g2
  generalize (numF s2).1 = p at *
  generalize (numF s2).2 = s3 at *
  repeat' (first | ((with_reducible first | refine wA (by omega) ?_ | refine wB (by omega) ?_ | refine wC (by omega) ?_ | refine wD (by omega) ?_ | refine wE ?_ ?_ | refine wF ?_ ?_ | refine wG ?_ ?_ | refine wH ?_ ?_ | refine wI ?_ ?_ | refine wJ ?_ ?_ | refine wK ?_ ?_ | refine wL ?_ ?_) <;> intro _) | simp (maxSteps := 1000000) (disch := omega) only [go_sem, Nat.reduceAdd, Nat.reduceMul, Nat.reduceSub, Nat.reduceLeDiff, Nat.reduceEqDiff, Nat.reduceBEq, ↓reduceIte, reduceCtorEq, Int.reduceEq, Int.reduceLE, Int.reduceLT, Int.reduceAdd, Int.reduceSub, Int.reduceNeg, Int.reduceToNat, Int.reduceNe, Nat.reducePow, Nat.reduceShiftRight, Nat.reduceMod, *])
  refine call_mut (whole_m s3 hl3 rid w _ _ (show rid < m3 by omega) g3) ?_
  rintro H4 m4 r4 ⟨hm4', rfl, g4, k4'⟩ -
  have hm4 : m3 ≤ m4 := Nat.le_trans (Nat.le_refl _) hm4'
  have b4 : H4 nx = some ⟨[.sc (.int .i64 0), .sc (.int .i64 0), .sc (.string ⟨#[]⟩), .sc (.int .i64 0), .sc (.int .i64 0), .sc (.string ⟨#[]⟩), .sc (.slice none 0 0), .sc (.slice none 0 0), .sc (.int .i64 0), .sc (.int .i64 0), .sc (.string ⟨#[]⟩), .sc (.slice none 0 0), .sc (.slice none 0 0), .sc (.int .i64 0), .sc (.slice none 0 0)], true⟩ := (k4' nx (Nat.lt_of_lt_of_le (show nx < m3 by omega) (Nat.le_refl _)) (by omega)).trans (b3)
  have k4 : Kept (∀ j, j < nx → j ≠ rid → H4 j = H j) := fun j e1 e2 => (k4' j (Nat.lt_of_lt_of_le (show j < m3 by omega) (Nat.le_refl _)) e2).trans (k3 j e1 e2)
  clear hm4' k4' k3 b3 g3
  generalize (wholeF s3).1 = ty at *
  generalize (wholeF s3).2 = s4 at *
  clear hl1 hl2 hl3
  have hty := tm_len ty
  obtain h | rfl | h : (k = 2 ∨ k = 3 ∨ k = 4) ∨ k = 5 ∨ (k ≠ 2 ∧ k ≠ 3 ∧ k ≠ 4 ∧ k ≠ 5) := by omega
  · rw [if_pos h]
    simp only
    obtain rfl | rfl | rfl := h
    · repeat' (first | ((with_reducible first | refine wA (by omega) ?_ | refine wB (by omega) ?_ | refine wC (by omega) ?_ | refine wD (by omega) ?_ | refine wE ?_ ?_ | refine wF ?_ ?_ | refine wG ?_ ?_ | refine wH ?_ ?_ | refine wI ?_ ?_ | refine wJ ?_ ?_ | refine wK ?_ ?_ | refine wL ?_ ?_) <;> intro _) | simp (maxSteps := 1000000) (disch := omega) only [go_sem, Nat.reduceAdd, Nat.reduceMul, Nat.reduceSub, Nat.reduceLeDiff, Nat.reduceEqDiff, Nat.reduceBEq, ↓reduceIte, reduceCtorEq, Int.reduceEq, Int.reduceLE, Int.reduceLT, Int.reduceAdd, Int.reduceSub, Int.reduceNeg, Int.reduceToNat, Int.reduceNe, Nat.reducePow, Nat.reduceShiftRight, Nat.reduceMod, *])
      refine call_mut (whole_m s4 hl4 rid w _ _ (Nat.lt_of_lt_of_le (show rid < m4 by omega) (by simp only [Nat.add_assoc]; exact Nat.le_add_right _ _)) (upd_out (by omega) (upd_out (by omega) g4))) ?_
      rintro H5 m5 r5 ⟨hm5', rfl, g5, k5'⟩ -
      have hm5 : m4 ≤ m5 := Nat.le_trans (by simp only [Nat.add_assoc]; exact Nat.le_add_right _ _) hm5'
      have b5 : H5 nx = some ⟨[.sc (.int .i64 0), .sc (.int .i64 0), .sc (.string ⟨#[]⟩), .sc (.int .i64 0), .sc (.int .i64 0), .sc (.string ⟨#[]⟩), .sc (.slice none 0 0), .sc (.slice none 0 0), .sc (.int .i64 0), .sc (.int .i64 0), .sc (.string ⟨#[]⟩), .sc (.slice none 0 0), .sc (.slice none 0 0), .sc (.int .i64 0), .sc (.slice none 0 0)], true⟩ := (k5' nx (Nat.lt_of_lt_of_le (show nx < m4 by omega) (by simp only [Nat.add_assoc]; exact Nat.le_add_right _ _)) (by omega)).trans (upd_out (by omega) (upd_out (by omega) (b4)))
      have c5 : H5 (nx + 10) = some ⟨.sc (.int .i64 (2 : Nat)) :: .sc (.int .i64 (p : Nat)) :: .sc (.string nm) :: (ty.pv ++ [.sc (.int .i64 0), .sc (.int .i64 0), .sc (.string ⟨#[]⟩), .sc (.slice none 0 0), .sc (.slice none 0 0), .sc (.int .i64 0), .sc (.slice none 0 0)]), true⟩ := (k5' (nx + 10) (Nat.lt_of_lt_of_le (show nx + 10 < m4 by omega) (by simp only [Nat.add_assoc]; exact Nat.le_add_right _ _)) (by omega)).trans (upd_same _ _ _)
      have k5 : Kept (∀ j, j < nx → j ≠ rid → H5 j = H j) := fun j e1 e2 => (k5' j (Nat.lt_of_lt_of_le (show j < m4 by omega) (by simp only [Nat.add_assoc]; exact Nat.le_add_right _ _)) e2).trans (upd_out (by omega) (upd_out (by omega) (k4 j e1 e2)))
      clear hm5' k5' k4 b4 g4
      have hv := tm_len (wholeF s4).1
      have hvi := tm_imm (wholeF s4).1
      generalize (wholeF s4).1 = v at *
      repeat' (first | ((with_reducible first | refine wA (by omega) ?_ | refine wB (by omega) ?_ | refine wC (by omega) ?_ | refine wD (by omega) ?_ | refine wE ?_ ?_ | refine wF ?_ ?_ | refine wG ?_ ?_ | refine wH ?_ ?_ | refine wI ?_ ?_ | refine wJ ?_ ?_ | refine wK ?_ ?_ | refine wL ?_ ?_) <;> intro _) | simp (maxSteps := 1000000) (disch := omega) only [go_sem, Nat.reduceAdd, Nat.reduceMul, Nat.reduceSub, Nat.reduceLeDiff, Nat.reduceEqDiff, Nat.reduceBEq, ↓reduceIte, reduceCtorEq, Int.reduceEq, Int.reduceLE, Int.reduceLT, Int.reduceAdd, Int.reduceSub, Int.reduceNeg, Int.reduceToNat, Int.reduceNe, Nat.reducePow, Nat.reduceShiftRight, Nat.reduceMod, *])
      refine fin_mut (.agg (.sc (.int .i64 (2 : Nat)) :: .sc (.int .i64 (p : Nat)) :: .sc (.string nm) :: (ty.pv ++ (v.pv ++ [.sc (.int .i64 0), .sc (.slice none 0 0)])))) (.inr rfl) cE2 ⟨by simp only [Nat.add_assoc]; exact Nat.le_trans (by omega) (Nat.le_add_right _ _), ⟨2, dcl_tell _ _ hvi (WeakL.refl _) (frg_nil6 _ _)⟩, upd_out (by omega) (upd_out (by omega) g5), fun j e1 e2 => upd_out (by omega) (upd_out (by omega) (k5 j e1 e2))⟩
    · repeat' (first | ((with_reducible first | refine wA (by omega) ?_ | refine wB (by omega) ?_ | refine wC (by omega) ?_ | refine wD (by omega) ?_ | refine wE ?_ ?_ | refine wF ?_ ?_ | refine wG ?_ ?_ | refine wH ?_ ?_ | refine wI ?_ ?_ | refine wJ ?_ ?_ | refine wK ?_ ?_ | refine wL ?_ ?_) <;> intro _) | simp (maxSteps := 1000000) (disch := omega) only [go_sem, Nat.reduceAdd, Nat.reduceMul, Nat.reduceSub, Nat.reduceLeDiff, Nat.reduceEqDiff, Nat.reduceBEq, ↓reduceIte, reduceCtorEq, Int.reduceEq, Int.reduceLE, Int.reduceLT, Int.reduceAdd, Int.reduceSub, Int.reduceNeg, Int.reduceToNat, Int.reduceNe, Nat.reducePow, Nat.reduceShiftRight, Nat.reduceMod, *])
      refine call_mut (whole_m s4 hl4 rid w _ _ (Nat.lt_of_lt_of_le (show rid < m4 by omega) (by simp only [Nat.add_assoc]; exact Nat.le_add_right _ _)) (upd_out (by omega) (upd_out (by omega) g4))) ?_
      rintro H5 m5 r5 ⟨hm5', rfl, g5, k5'⟩ -
      have hm5 : m4 ≤ m5 := Nat.le_trans (by simp only [Nat.add_assoc]; exact Nat.le_add_right _ _) hm5'
      have b5 : H5 nx = some ⟨[.sc (.int .i64 0), .sc (.int .i64 0), .sc (.string ⟨#[]⟩), .sc (.int .i64 0), .sc (.int .i64 0), .sc (.string ⟨#[]⟩), .sc (.slice none 0 0), .sc (.slice none 0 0), .sc (.int .i64 0), .sc (.int .i64 0), .sc (.string ⟨#[]⟩), .sc (.slice none 0 0), .sc (.slice none 0 0), .sc (.int .i64 0), .sc (.slice none 0 0)], true⟩ := (k5' nx (Nat.lt_of_lt_of_le (show nx < m4 by omega) (by simp only [Nat.add_assoc]; exact Nat.le_add_right _ _)) (by omega)).trans (upd_out (by omega) (upd_out (by omega) (b4)))
      have c5 : H5 (nx + 10) = some ⟨.sc (.int .i64 (3 : Nat)) :: .sc (.int .i64 (p : Nat)) :: .sc (.string nm) :: (ty.pv ++ [.sc (.int .i64 0), .sc (.int .i64 0), .sc (.string ⟨#[]⟩), .sc (.slice none 0 0), .sc (.slice none 0 0), .sc (.int .i64 0), .sc (.slice none 0 0)]), true⟩ := (k5' (nx + 10) (Nat.lt_of_lt_of_le (show nx + 10 < m4 by omega) (by simp only [Nat.add_assoc]; exact Nat.le_add_right _ _)) (by omega)).trans (upd_same _ _ _)
      have k5 : Kept (∀ j, j < nx → j ≠ rid → H5 j = H j) := fun j e1 e2 => (k5' j (Nat.lt_of_lt_of_le (show j < m4 by omega) (by simp only [Nat.add_assoc]; exact Nat.le_add_right _ _)) e2).trans (upd_out (by omega) (upd_out (by omega) (k4 j e1 e2)))
      clear hm5' k5' k4 b4 g4
      have hv := tm_len (wholeF s4).1
      have hvi := tm_imm (wholeF s4).1
      generalize (wholeF s4).1 = v at *
      repeat' (first | ((with_reducible first | refine wA (by omega) ?_ | refine wB (by omega) ?_ | refine wC (by omega) ?_ | refine wD (by omega) ?_ | refine wE ?_ ?_ | refine wF ?_ ?_ | refine wG ?_ ?_ | refine wH ?_ ?_ | refine wI ?_ ?_ | refine wJ ?_ ?_ | refine wK ?_ ?_ | refine wL ?_ ?_) <;> intro _) | simp (maxSteps := 1000000) (disch := omega) only [go_sem, Nat.reduceAdd, Nat.reduceMul, Nat.reduceSub, Nat.reduceLeDiff, Nat.reduceEqDiff, Nat.reduceBEq, ↓reduceIte, reduceCtorEq, Int.reduceEq, Int.reduceLE, Int.reduceLT, Int.reduceAdd, Int.reduceSub, Int.reduceNeg, Int.reduceToNat, Int.reduceNe, Nat.reducePow, Nat.reduceShiftRight, Nat.reduceMod, *])
      refine fin_mut (.agg (.sc (.int .i64 (3 : Nat)) :: .sc (.int .i64 (p : Nat)) :: .sc (.string nm) :: (ty.pv ++ (v.pv ++ [.sc (.int .i64 0), .sc (.slice none 0 0)])))) (.inr rfl) cE2 ⟨by simp only [Nat.add_assoc]; exact Nat.le_trans (by omega) (Nat.le_add_right _ _), ⟨2, dcl_tell _ _ hvi (WeakL.refl _) (frg_nil6 _ _)⟩, upd_out (by omega) (upd_out (by omega) g5), fun j e1 e2 => upd_out (by omega) (upd_out (by omega) (k5 j e1 e2))⟩
    · repeat' (first | ((with_reducible first | refine wA (by omega) ?_ | refine wB (by omega) ?_ | refine wC (by omega) ?_ | refine wD (by omega) ?_ | refine wE ?_ ?_ | refine wF ?_ ?_ | refine wG ?_ ?_ | refine wH ?_ ?_ | refine wI ?_ ?_ | refine wJ ?_ ?_ | refine wK ?_ ?_ | refine wL ?_ ?_) <;> intro _) | simp (maxSteps := 1000000) (disch := omega) only [go_sem, Nat.reduceAdd, Nat.reduceMul, Nat.reduceSub, Nat.reduceLeDiff, Nat.reduceEqDiff, Nat.reduceBEq, ↓reduceIte, reduceCtorEq, Int.reduceEq, Int.reduceLE, Int.reduceLT, Int.reduceAdd, Int.reduceSub, Int.reduceNeg, Int.reduceToNat, Int.reduceNe, Nat.reducePow, Nat.reduceShiftRight, Nat.reduceMod, *])
      refine call_mut (whole_m s4 hl4 rid w _ _ (Nat.lt_of_lt_of_le (show rid < m4 by omega) (by simp only [Nat.add_assoc]; exact Nat.le_add_right _ _)) (upd_out (by omega) (upd_out (by omega) g4))) ?_
      rintro H5 m5 r5 ⟨hm5', rfl, g5, k5'⟩ -
      have hm5 : m4 ≤ m5 := Nat.le_trans (by simp only [Nat.add_assoc]; exact Nat.le_add_right _ _) hm5'
      have b5 : H5 nx = some ⟨[.sc (.int .i64 0), .sc (.int .i64 0), .sc (.string ⟨#[]⟩), .sc (.int .i64 0), .sc (.int .i64 0), .sc (.string ⟨#[]⟩), .sc (.slice none 0 0), .sc (.slice none 0 0), .sc (.int .i64 0), .sc (.int .i64 0), .sc (.string ⟨#[]⟩), .sc (.slice none 0 0), .sc (.slice none 0 0), .sc (.int .i64 0), .sc (.slice none 0 0)], true⟩ := (k5' nx (Nat.lt_of_lt_of_le (show nx < m4 by omega) (by simp only [Nat.add_assoc]; exact Nat.le_add_right _ _)) (by omega)).trans (upd_out (by omega) (upd_out (by omega) (b4)))
      have c5 : H5 (nx + 10) = some ⟨.sc (.int .i64 (4 : Nat)) :: .sc (.int .i64 (p : Nat)) :: .sc (.string nm) :: (ty.pv ++ [.sc (.int .i64 0), .sc (.int .i64 0), .sc (.string ⟨#[]⟩), .sc (.slice none 0 0), .sc (.slice none 0 0), .sc (.int .i64 0), .sc (.slice none 0 0)]), true⟩ := (k5' (nx + 10) (Nat.lt_of_lt_of_le (show nx + 10 < m4 by omega) (by simp only [Nat.add_assoc]; exact Nat.le_add_right _ _)) (by omega)).trans (upd_same _ _ _)
      have k5 : Kept (∀ j, j < nx → j ≠ rid → H5 j = H j) := fun j e1 e2 => (k5' j (Nat.lt_of_lt_of_le (show j < m4 by omega) (by simp only [Nat.add_assoc]; exact Nat.le_add_right _ _)) e2).trans (upd_out (by omega) (upd_out (by omega) (k4 j e1 e2)))
      clear hm5' k5' k4 b4 g4
      have hv := tm_len (wholeF s4).1
      have hvi := tm_imm (wholeF s4).1
      generalize (wholeF s4).1 = v at *
      repeat' (first | ((with_reducible first | refine wA (by omega) ?_ | refine wB (by omega) ?_ | refine wC (by omega) ?_ | refine wD (by omega) ?_ | refine wE ?_ ?_ | refine wF ?_ ?_ | refine wG ?_ ?_ | refine wH ?_ ?_ | refine wI ?_ ?_ | refine wJ ?_ ?_ | refine wK ?_ ?_ | refine wL ?_ ?_) <;> intro _) | simp (maxSteps := 1000000) (disch := omega) only [go_sem, Nat.reduceAdd, Nat.reduceMul, Nat.reduceSub, Nat.reduceLeDiff, Nat.reduceEqDiff, Nat.reduceBEq, ↓reduceIte, reduceCtorEq, Int.reduceEq, Int.reduceLE, Int.reduceLT, Int.reduceAdd, Int.reduceSub, Int.reduceNeg, Int.reduceToNat, Int.reduceNe, Nat.reducePow, Nat.reduceShiftRight, Nat.reduceMod, *])
      refine fin_mut (.agg (.sc (.int .i64 (4 : Nat)) :: .sc (.int .i64 (p : Nat)) :: .sc (.string nm) :: (ty.pv ++ (v.pv ++ [.sc (.int .i64 0), .sc (.slice none 0 0)])))) (.inr rfl) cE2 ⟨by simp only [Nat.add_assoc]; exact Nat.le_trans (by omega) (Nat.le_add_right _ _), ⟨2, dcl_tell _ _ hvi (WeakL.refl _) (frg_nil6 _ _)⟩, upd_out (by omega) (upd_out (by omega) g5), fun j e1 e2 => upd_out (by omega) (upd_out (by omega) (k5 j e1 e2))⟩
  · rw [if_neg (by decide), if_pos rfl]
    simp only
    have hl5 : (numF s4).2.l.length ≤ 2 ^ 40 := Nat.le_trans (numF_len _) hl4
    have hl6 : (numF (numF s4).2).2.l.length ≤ 2 ^ 40 := Nat.le_trans (numF_len _) hl5
    repeat' (first | ((with_reducible first | refine wA (by omega) ?_ | refine wB (by omega) ?_ | refine wC (by omega) ?_ | refine wD (by omega) ?_ | refine wE ?_ ?_ | refine wF ?_ ?_ | refine wG ?_ ?_ | refine wH ?_ ?_ | refine wI ?_ ?_ | refine wJ ?_ ?_ | refine wK ?_ ?_ | refine wL ?_ ?_) <;> intro _) | simp (maxSteps := 1000000) (disch := omega) only [go_sem, Nat.reduceAdd, Nat.reduceMul, Nat.reduceSub, Nat.reduceLeDiff, Nat.reduceEqDiff, Nat.reduceBEq, ↓reduceIte, reduceCtorEq, Int.reduceEq, Int.reduceLE, Int.reduceLT, Int.reduceAdd, Int.reduceSub, Int.reduceNeg, Int.reduceToNat, Int.reduceNe, Nat.reducePow, Nat.reduceShiftRight, Nat.reduceMod, *])
    refine call_mut (number_m s4 hl4 rid w _ _ (Nat.lt_of_lt_of_le (show rid < m4 by omega) (by simp only [Nat.add_assoc]; exact Nat.le_add_right _ _)) (upd_out (by omega) (upd_out (by omega) g4))) ?_
    rintro H5 m5 r5 ⟨hm5', rfl, g5, k5'⟩ -
    have hm5 : m4 ≤ m5 := Nat.le_trans (by simp only [Nat.add_assoc]; exact Nat.le_add_right _ _) hm5'
    have b5 : H5 nx = some ⟨[.sc (.int .i64 0), .sc (.int .i64 0), .sc (.string ⟨#[]⟩), .sc (.int .i64 0), .sc (.int .i64 0), .sc (.string ⟨#[]⟩), .sc (.slice none 0 0), .sc (.slice none 0 0), .sc (.int .i64 0), .sc (.int .i64 0), .sc (.string ⟨#[]⟩), .sc (.slice none 0 0), .sc (.slice none 0 0), .sc (.int .i64 0), .sc (.slice none 0 0)], true⟩ := (k5' nx (Nat.lt_of_lt_of_le (show nx < m4 by omega) (by simp only [Nat.add_assoc]; exact Nat.le_add_right _ _)) (by omega)).trans (upd_out (by omega) (upd_out (by omega) (b4)))
    have c5 : H5 (nx + 10) = some ⟨.sc (.int .i64 (5 : Nat)) :: .sc (.int .i64 (p : Nat)) :: .sc (.string nm) :: (ty.pv ++ [.sc (.int .i64 0), .sc (.int .i64 0), .sc (.string ⟨#[]⟩), .sc (.slice none 0 0), .sc (.slice none 0 0), .sc (.int .i64 0), .sc (.slice none 0 0)]), true⟩ := (k5' (nx + 10) (Nat.lt_of_lt_of_le (show nx + 10 < m4 by omega) (by simp only [Nat.add_assoc]; exact Nat.le_add_right _ _)) (by omega)).trans (upd_same _ _ _)
    have k5 : Kept (∀ j, j < nx → j ≠ rid → H5 j = H j) := fun j e1 e2 => (k5' j (Nat.lt_of_lt_of_le (show j < m4 by omega) (by simp only [Nat.add_assoc]; exact Nat.le_add_right _ _)) e2).trans (upd_out (by omega) (upd_out (by omega) (k4 j e1 e2)))
    clear hm5' k5' k4 b4 g4
    generalize (numF s4).1 = fx at *
    generalize (numF s4).2 = s5 at *
    repeat' (first | ((with_reducible first | refine wA (by omega) ?_ | refine wB (by omega) ?_ | refine wC (by omega) ?_ | refine wD (by omega) ?_ | refine wE ?_ ?_ | refine wF ?_ ?_ | refine wG ?_ ?_ | refine wH ?_ ?_ | refine wI ?_ ?_ | refine wJ ?_ ?_ | refine wK ?_ ?_ | refine wL ?_ ?_) <;> intro _) | simp (maxSteps := 1000000) (disch := omega) only [go_sem, Nat.reduceAdd, Nat.reduceMul, Nat.reduceSub, Nat.reduceLeDiff, Nat.reduceEqDiff, Nat.reduceBEq, ↓reduceIte, reduceCtorEq, Int.reduceEq, Int.reduceLE, Int.reduceLT, Int.reduceAdd, Int.reduceSub, Int.reduceNeg, Int.reduceToNat, Int.reduceNe, Nat.reducePow, Nat.reduceShiftRight, Nat.reduceMod, *])
    refine call_mut (number_m s5 hl5 rid w _ _ (Nat.lt_of_lt_of_le (show rid < m5 by omega) (by simp only [Nat.add_assoc]; exact Nat.le_add_right _ _)) (upd_out (by omega) g5)) ?_
    rintro H6 m6 r6 ⟨hm6', rfl, g6, k6'⟩ -
    have hm6 : m5 ≤ m6 := Nat.le_trans (by simp only [Nat.add_assoc]; exact Nat.le_add_right _ _) hm6'
    have b6 : H6 nx = some ⟨[.sc (.int .i64 0), .sc (.int .i64 0), .sc (.string ⟨#[]⟩), .sc (.int .i64 0), .sc (.int .i64 0), .sc (.string ⟨#[]⟩), .sc (.slice none 0 0), .sc (.slice none 0 0), .sc (.int .i64 0), .sc (.int .i64 0), .sc (.string ⟨#[]⟩), .sc (.slice none 0 0), .sc (.slice none 0 0), .sc (.int .i64 0), .sc (.slice none 0 0)], true⟩ := (k6' nx (Nat.lt_of_lt_of_le (show nx < m5 by omega) (by simp only [Nat.add_assoc]; exact Nat.le_add_right _ _)) (by omega)).trans (upd_out (by omega) (b5))
    have c6 : H6 (nx + 10) = some ⟨.sc (.int .i64 (5 : Nat)) :: .sc (.int .i64 (p : Nat)) :: .sc (.string nm) :: (ty.pv ++ [.sc (.int .i64 0), .sc (.int .i64 0), .sc (.string ⟨#[]⟩), .sc (.slice none 0 0), .sc (.slice none 0 0), .sc (.int .i64 (fx : Nat)), .sc (.slice none 0 0)]), true⟩ := (k6' (nx + 10) (Nat.lt_of_lt_of_le (show nx + 10 < m5 by omega) (by simp only [Nat.add_assoc]; exact Nat.le_add_right _ _)) (by omega)).trans (upd_same _ _ _)
    have k6 : Kept (∀ j, j < nx → j ≠ rid → H6 j = H j) := fun j e1 e2 => (k6' j (Nat.lt_of_lt_of_le (show j < m5 by omega) (by simp only [Nat.add_assoc]; exact Nat.le_add_right _ _)) e2).trans (upd_out (by omega) (k5 j e1 e2))
    clear hm6' k6' k5 b5 g5
    have hmin : min (((numF s5).1 : Nat) : Int) 9 = ((min (numF s5).1 9 : Nat) : Int) := by omega
    have hcn : min (numF s5).1 9 ≤ 9 := Nat.min_le_right _ _
    generalize (numF s5).1 = c at *
    generalize (numF s5).2 = s6 at *
    generalize min c 9 = cn at *
    clear hl5 hl4 c5
    repeat' (first | ((with_reducible first | refine wA (by omega) ?_ | refine wB (by omega) ?_ | refine wC (by omega) ?_ | refine wD (by omega) ?_ | refine wE ?_ ?_ | refine wF ?_ ?_ | refine wG ?_ ?_ | refine wH ?_ ?_ | refine wI ?_ ?_ | refine wJ ?_ ?_ | refine wK ?_ ?_ | refine wL ?_ ?_) <;> intro _) | simp (maxSteps := 1000000) (disch := omega) only [go_sem, Nat.reduceAdd, Nat.reduceMul, Nat.reduceSub, Nat.reduceLeDiff, Nat.reduceEqDiff, Nat.reduceBEq, ↓reduceIte, reduceCtorEq, Int.reduceEq, Int.reduceLE, Int.reduceLT, Int.reduceAdd, Int.reduceSub, Int.reduceNeg, Int.reduceToNat, Int.reduceNe, Nat.reducePow, Nat.reduceShiftRight, Nat.reduceMod, *])
    refine c_loopW 8795019280384 (by kernel_rfl) (fun j f H7 m => ∃ i : Nat, j = cn - i ∧ i ≤ cn ∧ f 30 = .sc (.int .i64 i) ∧ nx + 12 ≤ m ∧ H7 nx = some ⟨[.sc (.int .i64 0), .sc (.int .i64 0), .sc (.string ⟨#[]⟩), .sc (.int .i64 0), .sc (.int .i64 0), .sc (.string ⟨#[]⟩), .sc (.slice none 0 0), .sc (.slice none 0 0), .sc (.int .i64 0), .sc (.int .i64 0), .sc (.string ⟨#[]⟩), .sc (.slice none 0 0), .sc (.slice none 0 0), .sc (.int .i64 0), .sc (.slice none 0 0)], true⟩ ∧ (∃ a, H7 (nx + 10) = some ⟨.sc (.int .i64 (5 : Nat)) :: .sc (.int .i64 (p : Nat)) :: .sc (.string nm) :: (ty.pv ++ [.sc (.int .i64 0), .sc (.int .i64 0), .sc (.string ⟨#[]⟩), .sc (.slice none 0 0), .sc (.slice none 0 0), .sc (.int .i64 (fx : Nat)), a]), true⟩ ∧ Kept (LRow Ctr.pv 6 H7 (nx + 11) m a (repF ctorF i s6).1)) ∧ H7 rid = some ⟨rdC (repF ctorF i s6).2, w⟩ ∧ Kept (∀ j, j < nx → j ≠ rid → H7 j = H j)) _ ⟨0, rfl, Nat.zero_le _, cE1, ?mm, b6, ⟨_, c6, Kept.mk (.inl ⟨rfl, rfl⟩)⟩, g6, k6⟩ ?_
    case mm => exact (show nx + 12 ≤ m6 by omega)
    rintro _ f H7 m ⟨i, rfl, hi, e30, hm, b7, ⟨a, c7, hrow⟩, g7, k7⟩
    clear c6 b6 g6 k6
    by_cases hlt : i < cn
    · have hll := rep_shrink ctor_shrink i s6
      have hl7 : (repF ctorF i s6).2.l.length ≤ 2 ^ 40 := by omega
      have hl8 : (nameF (repF ctorF i s6).2).2.l.length ≤ 2 ^ 40 := Nat.le_trans (nameF_len _) hl7
      clear hll
      have hdec : decide (¬ nx + 10 = rid) = true := decide_eq_true (by omega)
      repeat' (first | ((with_reducible first | refine wA (by omega) ?_ | refine wB (by omega) ?_ | refine wC (by omega) ?_ | refine wD (by omega) ?_ | refine wE ?_ ?_ | refine wF ?_ ?_ | refine wG ?_ ?_ | refine wH ?_ ?_ | refine wI ?_ ?_ | refine wJ ?_ ?_ | refine wK ?_ ?_ | refine wL ?_ ?_) <;> intro _) | simp (maxSteps := 1000000) (disch := omega) only [go_sem, Nat.reduceAdd, Nat.reduceMul, Nat.reduceSub, Nat.reduceLeDiff, Nat.reduceEqDiff, Nat.reduceBEq, ↓reduceIte, reduceCtorEq, Int.reduceEq, Int.reduceLE, Int.reduceLT, Int.reduceAdd, Int.reduceSub, Int.reduceNeg, Int.reduceToNat, Int.reduceNe, Nat.reducePow, Nat.reduceShiftRight, Nat.reduceMod, *])
      refine call_rdF (name_m (repF ctorF i s6).2 hl7 rid w _ _ (Nat.lt_of_lt_of_le (show rid < m by omega) (by simp only [Nat.add_assoc]; exact Nat.le_add_right _ _)) g7) ?_
      rintro H8 m8 r8 ⟨hm8', rfl, g8, k8'⟩ -
      have hm8 : m + 12 ≤ m8 := hm8'
      have b8 : H8 nx = some ⟨[.sc (.int .i64 0), .sc (.int .i64 0), .sc (.string ⟨#[]⟩), .sc (.int .i64 0), .sc (.int .i64 0), .sc (.string ⟨#[]⟩), .sc (.slice none 0 0), .sc (.slice none 0 0), .sc (.int .i64 0), .sc (.int .i64 0), .sc (.string ⟨#[]⟩), .sc (.slice none 0 0), .sc (.slice none 0 0), .sc (.int .i64 0), .sc (.slice none 0 0)], true⟩ := (k8' nx (Nat.lt_of_lt_of_le (show nx < m by omega) (by simp only [Nat.add_assoc]; exact Nat.le_add_right _ _)) (by omega)).trans b7
      have c8 : H8 (nx + 10) = some ⟨.sc (.int .i64 (5 : Nat)) :: .sc (.int .i64 (p : Nat)) :: .sc (.string nm) :: (ty.pv ++ [.sc (.int .i64 0), .sc (.int .i64 0), .sc (.string ⟨#[]⟩), .sc (.slice none 0 0), .sc (.slice none 0 0), .sc (.int .i64 (fx : Nat)), a]), true⟩ := (k8' (nx + 10) (Nat.lt_of_lt_of_le (show nx + 10 < m by omega) (by simp only [Nat.add_assoc]; exact Nat.le_add_right _ _)) (by omega)).trans c7
      have hrow8 := Kept.mk (hrow.out.weak (H' := H8) (Nat.le_refl m) fun j e1 e2 => k8' j (Nat.lt_of_lt_of_le e2 (by simp only [Nat.add_assoc]; exact Nat.le_add_right _ _)) (by omega))
      have k8 : Kept (∀ j, j < nx → j ≠ rid → H8 j = H j) := fun j e1 e2 => (k8' j (Nat.lt_of_lt_of_le (show j < m by omega) (by simp only [Nat.add_assoc]; exact Nat.le_add_right _ _)) e2).trans (k7 j e1 e2)
      clear hm8' k8' k7 b7 g7 c7 hrow
      repeat' (first | ((with_reducible first | refine wA (by omega) ?_ | refine wB (by omega) ?_ | refine wC (by omega) ?_ | refine wD (by omega) ?_ | refine wE ?_ ?_ | refine wF ?_ ?_ | refine wG ?_ ?_ | refine wH ?_ ?_ | refine wI ?_ ?_ | refine wJ ?_ ?_ | refine wK ?_ ?_ | refine wL ?_ ?_) <;> intro _) | simp (maxSteps := 1000000) (disch := omega) only [go_sem, Nat.reduceAdd, Nat.reduceMul, Nat.reduceSub, Nat.reduceLeDiff, Nat.reduceEqDiff, Nat.reduceBEq, ↓reduceIte, reduceCtorEq, Int.reduceEq, Int.reduceLE, Int.reduceLT, Int.reduceAdd, Int.reduceSub, Int.reduceNeg, Int.reduceToNat, Int.reduceNe, Nat.reducePow, Nat.reduceShiftRight, Nat.reduceMod, *])
      refine call_rdF (whole_m (nameF (repF ctorF i s6).2).2 hl8 rid w _ _ (show rid < m8 by omega) g8) ?_
      rintro H9 m9 r9 ⟨hm9, rfl, g9, k9'⟩ -
      have hm9 : m8 ≤ m9 := hm9
      have b9 : H9 nx = some ⟨[.sc (.int .i64 0), .sc (.int .i64 0), .sc (.string ⟨#[]⟩), .sc (.int .i64 0), .sc (.int .i64 0), .sc (.string ⟨#[]⟩), .sc (.slice none 0 0), .sc (.slice none 0 0), .sc (.int .i64 0), .sc (.int .i64 0), .sc (.string ⟨#[]⟩), .sc (.slice none 0 0), .sc (.slice none 0 0), .sc (.int .i64 0), .sc (.slice none 0 0)], true⟩ := (k9' nx (show nx < m8 by omega) (by omega)).trans b8
      have c9 : H9 (nx + 10) = some ⟨.sc (.int .i64 (5 : Nat)) :: .sc (.int .i64 (p : Nat)) :: .sc (.string nm) :: (ty.pv ++ [.sc (.int .i64 0), .sc (.int .i64 0), .sc (.string ⟨#[]⟩), .sc (.slice none 0 0), .sc (.slice none 0 0), .sc (.int .i64 (fx : Nat)), a]), true⟩ := (k9' (nx + 10) (show nx + 10 < m8 by omega) (by omega)).trans c8
      have hrow9 := hrow8.out.weak (H' := H9) (Nat.le_refl m) fun j e1 e2 => k9' j (show j < m8 by omega) (by omega)
      have k9 : Kept (∀ j, j < nx → j ≠ rid → H9 j = H j) := fun j e1 e2 => (k9' j (show j < m8 by omega) e2).trans (k8 j e1 e2)
      clear k9' k8 b8 g8 c8 hrow8
      have hlen := repF_len ctorF i s6
      have hE1 : (repF ctorF (i + 1) s6).1 = (repF ctorF i s6).1 ++ [⟨(nameF (repF ctorF i s6).2).1, (wholeF (nameF (repF ctorF i s6).2).2).1⟩] := rfl
      have hE2 : (repF ctorF (i + 1) s6).2 = (wholeF (nameF (repF ctorF i s6).2).2).2 := rfl
      rw [← hE2] at g9
      generalize (wholeF (nameF (repF ctorF i s6).2).2).1 = ct at *
      generalize (nameF (repF ctorF i s6).2).1 = cm at *
      clear hl7 hl8
      have hct := tm_len ct
      obtain ⟨h0, rfl⟩ | ⟨id, w', h1, h2, rfl, h4⟩ := hrow9
      · have hi0 : i = 0 := by rw [← hlen, h0]; rfl
        subst hi0
        repeat' (first | ((with_reducible first | refine wA (by omega) ?_ | refine wB (by omega) ?_ | refine wC (by omega) ?_ | refine wD (by omega) ?_ | refine wE ?_ ?_ | refine wF ?_ ?_ | refine wG ?_ ?_ | refine wH ?_ ?_ | refine wI ?_ ?_ | refine wJ ?_ ?_ | refine wK ?_ ?_ | refine wL ?_ ?_) <;> intro _) | simp (maxSteps := 1000000) (disch := omega) only [go_sem, Nat.reduceAdd, Nat.reduceMul, Nat.reduceSub, Nat.reduceLeDiff, Nat.reduceEqDiff, Nat.reduceBEq, ↓reduceIte, reduceCtorEq, Int.reduceEq, Int.reduceLE, Int.reduceLT, Int.reduceAdd, Int.reduceSub, Int.reduceNeg, Int.reduceToNat, Int.reduceNe, Nat.reducePow, Nat.reduceShiftRight, Nat.reduceMod, *])
        refine Nx.mk (cn - 1) cE1 ⟨1, rfl, cE1, cE1, ?mm, ?bb, ⟨.osl (m + 9) 0 1 6, ?cc, ?rr⟩, ?gg, ?kk⟩
        case mm => omega
        case bb => exact upd_out (by omega) (upd_out (by omega) b9)
        case cc => rw [upd_same]
        case rr =>
          refine Kept.mk (.inr ⟨m + 9, false, by omega, by omega, ?_, ?_⟩)
          · rw [hE1, h0]; rfl
          · rw [upd_ne _ _ (show m + 9 ≠ nx + 10 by omega), upd_same]
            simp [hE1, h0, Ctr.pv]
        case gg => exact upd_out (by omega) (upd_out (by omega) g9)
        case kk => exact Kept.mk fun j e1 e2 => upd_out (by omega) (upd_out (by omega) (k9 j e1 e2))
      · have hfl : ((repF ctorF i s6).1.flatMap Ctr.pv).length = i * 6 := by rw [flat_lenG _ 6 ctr_len, hlen]
        have hz : (i + 1) * 96 ≤ 140737488355328 ∧ i ≤ 4611686018427387903 := by omega
        rw [hlen] at c9 ⊢
        repeat' (first | ((with_reducible first | refine wA (by omega) ?_ | refine wB (by omega) ?_ | refine wC (by omega) ?_ | refine wD (by omega) ?_ | refine wE ?_ ?_ | refine wF ?_ ?_ | refine wG ?_ ?_ | refine wH ?_ ?_ | refine wI ?_ ?_ | refine wJ ?_ ?_ | refine wK ?_ ?_ | refine wL ?_ ?_) <;> intro _) | simp (maxSteps := 1000000) (disch := omega) only [go_sem, Nat.reduceAdd, Nat.reduceMul, Nat.reduceSub, Nat.reduceLeDiff, Nat.reduceEqDiff, Nat.reduceBEq, ↓reduceIte, reduceCtorEq, Int.reduceEq, Int.reduceLE, Int.reduceLT, Int.reduceAdd, Int.reduceSub, Int.reduceNeg, Int.reduceToNat, Int.reduceNe, Nat.reducePow, Nat.reduceShiftRight, Nat.reduceMod, *])
        refine Nx.mk (cn - (i + 1)) cE1 ⟨i + 1, rfl, cE1, cE1, ?mm, ?bb, ⟨.osl (m + 9) 0 (i + 1) 6, ?cc, ?rr⟩, ?gg, ?kk⟩
        case mm => omega
        case bb => exact upd_out (by omega) (upd_out (by omega) (upd_out (by omega) b9))
        case cc => rw [upd_same]
        case rr =>
          refine Kept.mk (.inr ⟨m + 9, false, by omega, by omega, ?_, ?_⟩)
          · rw [hE1, List.length_append, hlen]; rfl
          · rw [upd_ne _ _ (show m + 9 ≠ nx + 10 by omega), upd_same]
            simp [hE1, Ctr.pv]
        case gg => exact upd_out (by omega) (upd_out (by omega) (upd_out (by omega) g9))
        case kk => exact Kept.mk fun j e1 e2 => upd_out (by omega) (upd_out (by omega) (upd_out (by omega) (k9 j e1 e2)))
    · obtain rfl : i = cn := by omega
      have hfrg := (hrow.out.weak (H' := upd H7 nx none) (Nat.le_refl m) fun j e1 e2 => upd_ne _ _ (show j ≠ nx by omega)).frg ctr_len (fun j => decide (nx ≤ j)) fun j hj => by simpa using (show nx ≤ j by omega)
      obtain ⟨h0, rfl⟩ | ⟨id, w', h1, h2, rfl, h4⟩ := hrow.out
      · rw [h0] at hfrg
        clear hrow
        repeat' (first | ((with_reducible first | refine wA (by omega) ?_ | refine wB (by omega) ?_ | refine wC (by omega) ?_ | refine wD (by omega) ?_ | refine wE ?_ ?_ | refine wF ?_ ?_ | refine wG ?_ ?_ | refine wH ?_ ?_ | refine wI ?_ ?_ | refine wJ ?_ ?_ | refine wK ?_ ?_ | refine wL ?_ ?_) <;> intro _) | simp (maxSteps := 1000000) (disch := omega) only [go_sem, Nat.reduceAdd, Nat.reduceMul, Nat.reduceSub, Nat.reduceLeDiff, Nat.reduceEqDiff, Nat.reduceBEq, ↓reduceIte, reduceCtorEq, Int.reduceEq, Int.reduceLE, Int.reduceLT, Int.reduceAdd, Int.reduceSub, Int.reduceNeg, Int.reduceToNat, Int.reduceNe, Nat.reducePow, Nat.reduceShiftRight, Nat.reduceMod, *])
        refine fin_mut (.agg (.sc (.int .i64 (5 : Nat)) :: .sc (.int .i64 (p : Nat)) :: .sc (.string nm) :: (ty.pv ++ ([.sc (.int .i64 0), .sc (.int .i64 0), .sc (.string ⟨#[]⟩), .sc (.slice none 0 0), .sc (.slice none 0 0)] ++ [.sc (.int .i64 (fx : Nat)), .sc (.slice none 0 0)])))) (.inr rfl) cE2 ⟨by simp only [Nat.add_assoc]; exact Nat.le_trans (by omega) (Nat.le_add_right _ _), ⟨2, dcl_tell _ _ z5_imm z5_weak hfrg⟩, upd_out (by omega) g7, fun j e1 e2 => upd_out (by omega) (k7 j e1 e2)⟩
      · clear hrow
        generalize hlz : (repF ctorF i s6).1.length = lz at *
        repeat' (first | ((with_reducible first | refine wA (by omega) ?_ | refine wB (by omega) ?_ | refine wC (by omega) ?_ | refine wD (by omega) ?_ | refine wE ?_ ?_ | refine wF ?_ ?_ | refine wG ?_ ?_ | refine wH ?_ ?_ | refine wI ?_ ?_ | refine wJ ?_ ?_ | refine wK ?_ ?_ | refine wL ?_ ?_) <;> intro _) | simp (maxSteps := 1000000) (disch := omega) only [go_sem, Nat.reduceAdd, Nat.reduceMul, Nat.reduceSub, Nat.reduceLeDiff, Nat.reduceEqDiff, Nat.reduceBEq, ↓reduceIte, reduceCtorEq, Int.reduceEq, Int.reduceLE, Int.reduceLT, Int.reduceAdd, Int.reduceSub, Int.reduceNeg, Int.reduceToNat, Int.reduceNe, Nat.reducePow, Nat.reduceShiftRight, Nat.reduceMod, *])
        refine fin_mut (.agg (.sc (.int .i64 (5 : Nat)) :: .sc (.int .i64 (p : Nat)) :: .sc (.string nm) :: (ty.pv ++ ([.sc (.int .i64 0), .sc (.int .i64 0), .sc (.string ⟨#[]⟩), .sc (.slice none 0 0), .sc (.slice none 0 0)] ++ [.sc (.int .i64 (fx : Nat)), .osl id 0 lz 6])))) (.inr rfl) cE2 ⟨by simp only [Nat.add_assoc]; exact Nat.le_trans (by omega) (Nat.le_add_right _ _), ⟨2, dcl_tell _ _ z5_imm z5_weak hfrg⟩, upd_out (by omega) g7, fun j e1 e2 => upd_out (by omega) (k7 j e1 e2)⟩
  · rw [if_neg (by omega), if_neg h.2.2.2]
    simp only
    obtain ⟨h1, h2, h3, h5⟩ := h
    repeat' (first | ((with_reducible first | refine wA (by omega) ?_ | refine wB (by omega) ?_ | refine wC (by omega) ?_ | refine wD (by omega) ?_ | refine wE ?_ ?_ | refine wF ?_ ?_ | refine wG ?_ ?_ | refine wH ?_ ?_ | refine wI ?_ ?_ | refine wJ ?_ ?_ | refine wK ?_ ?_ | refine wL ?_ ?_) <;> intro _) | simp (maxSteps := 1000000) (disch := omega) only [go_sem, Nat.reduceAdd, Nat.reduceMul, Nat.reduceSub, Nat.reduceLeDiff, Nat.reduceEqDiff, Nat.reduceBEq, ↓reduceIte, reduceCtorEq, Int.reduceEq, Int.reduceLE, Int.reduceLT, Int.reduceAdd, Int.reduceSub, Int.reduceNeg, Int.reduceToNat, Int.reduceNe, Nat.reducePow, Nat.reduceShiftRight, Nat.reduceMod, *])
    refine fin_mut (.agg (.sc (.int .i64 (k : Nat)) :: .sc (.int .i64 (p : Nat)) :: .sc (.string nm) :: (ty.pv ++ ([.sc (.int .i64 0), .sc (.int .i64 0), .sc (.string ⟨#[]⟩), .sc (.slice none 0 0), .sc (.slice none 0 0)] ++ [.sc (.int .i64 0), .sc (.slice none 0 0)])))) (.inr rfl) cE2 ⟨by simp only [Nat.add_assoc]; exact Nat.le_trans (by omega) (Nat.le_add_right _ _), ⟨2, dcl_tell _ _ z5_imm z5_weak (frg_nil6 _ _)⟩, upd_out (by omega) (upd_out (by omega) (upd_out (by omega) g4)), fun j e1 e2 => upd_out (by omega) (upd_out (by omega) (upd_out (by omega) (k4 j e1 e2)))⟩
end
section
set_option maxRecDepth 20000
attribute [local go_sem] Nat.add_assoc id_ne id_ne' id_ne2 List.append_assoc bC_len bC_one
theorem rowB_flat (l : List UInt8) : (l.map fun c => [PV.sc (.int .u8 c.toNat)]).flatten = bC l := by
  induction l with
  | nil => rfl
  | cons x r ih => simp only [List.map_cons, List.flatten_cons, List.cons_append, List.nil_append, bC] at ih ⊢; rw [ih]
attribute [local go_sem] rowB_flat
def tb (s : ByteArray) : List UInt8 := s.data.toList
theorem strC (s : ByteArray) : strCells s = bC (tb s) := rfl
attribute [local go_sem] strC
theorem strC_len (s : ByteArray) : (tb s).length = s.size := Array.length_toList
attribute [local go_sem] strC_len
theorem strC_one (l : List UInt8) : (bC l).all PV.one = true := bC_one l
attribute [local go_sem] strC_one
set_option maxHeartbeats 4000000 in
theorem put_m (xs : List Nat) (hx : ∀ n ∈ xs, n ≤ 2 ^ 40) (h0 : xs ≠ []) (hl : xs.length ≤ 2 ^ 30) (l : List UInt8) (hl2 : l.length ≤ 2 ^ 40) (a : PV) (lo : Nat) (H : Nat → Option PObj) (nx : Nat) (ha : BRow H lo nx a l) :
    PMut Try.prog F.pack_put [a, intsPV xs] H nx (fun H' nx' r => nx ≤ nx' ∧ BRow H' nx nx' r (l ++ encs xs) ∧ ∀ j, j < nx → ¬ leadB a j → H' j = H j) := by
  refine mut_by is_pack_put (by simp) fun hb => ?_
  clear hb
  have c1 := Nums_p xs hx h0 hl
  have hel := encs_len xs hx
  have hne := encs_pos xs h0
  have hpos : 0 < (encs xs).length := List.length_pos_iff.2 hne
  obtain ⟨rfl, rfl⟩ | ⟨id, w, g1, g2, rfl, g3⟩ := ha
  · have b1 : (encs xs).length ≤ 140737488355328 := by omega
    have b2 : (encs xs).length ≤ 4611686018427387904 := by omega
    repeat' (first | ((with_reducible first | refine wA (by omega) ?_ | refine wB (by omega) ?_ | refine wC (by omega) ?_ | refine wD (by omega) ?_ | refine wE ?_ ?_ | refine wF ?_ ?_ | refine wG ?_ ?_ | refine wH ?_ ?_ | refine wI ?_ ?_ | refine wJ ?_ ?_ | refine wK ?_ ?_ | refine wL ?_ ?_) <;> intro _) | (((with_reducible refine call_id ?_); (first | (refine call_pure (c1) ?_)))) | simp (maxSteps := 1000000) (disch := omega) only [go_sem, Nat.reduceAdd, Nat.reduceMul, Nat.reduceSub, Nat.reduceLeDiff, Nat.reduceEqDiff, Nat.reduceBEq, ↓reduceIte, reduceCtorEq, Int.reduceEq, Int.reduceLE, Int.reduceLT, Int.reduceAdd, Int.reduceSub, Int.reduceNeg, Int.reduceToNat, Int.reduceNe, Nat.reducePow, Nat.reduceShiftRight, Nat.reduceMod, mc_pack_put, rowB, *])
    refine fin_mut (.osl (nx + 10) 0 (encs xs).length 1) (.inr rfl) rfl (show _ ≤ nx + 12 ∧ BRow (upd _ _ _) _ (nx + 12) _ _ ∧ ∀ j, _ → _ → upd _ _ _ j = _ from ?_)
    refine ⟨by omega, .inr ⟨nx + 10, false, by omega, by omega, rfl, by simp [upd]⟩, fun j g1 g2 => ?_⟩
    rw [upd_ne _ _ (show j ≠ nx + 10 by omega)]
  · have b1 : l.length + (encs xs).length ≤ 140737488355328 := by omega
    have b2 : l.length + (encs xs).length ≤ 4611686018427387904 := by omega
    repeat' (first | ((with_reducible first | refine wA (by omega) ?_ | refine wB (by omega) ?_ | refine wC (by omega) ?_ | refine wD (by omega) ?_ | refine wE ?_ ?_ | refine wF ?_ ?_ | refine wG ?_ ?_ | refine wH ?_ ?_ | refine wI ?_ ?_ | refine wJ ?_ ?_ | refine wK ?_ ?_ | refine wL ?_ ?_) <;> intro _) | (((with_reducible refine call_id ?_); (first | (refine call_pure (c1) ?_)))) | simp (maxSteps := 1000000) (disch := omega) only [go_sem, Nat.reduceAdd, Nat.reduceMul, Nat.reduceSub, Nat.reduceLeDiff, Nat.reduceEqDiff, Nat.reduceBEq, ↓reduceIte, reduceCtorEq, Int.reduceEq, Int.reduceLE, Int.reduceLT, Int.reduceAdd, Int.reduceSub, Int.reduceNeg, Int.reduceToNat, Int.reduceNe, Nat.reducePow, Nat.reduceShiftRight, Nat.reduceMod, mc_pack_put, rowB, *])
    refine fin_mut (.osl (nx + 10) 0 (l.length + (encs xs).length) 1) (.inr rfl) rfl (show _ ≤ nx + 12 ∧ BRow (upd _ _ _) _ (nx + 12) _ _ ∧ ∀ j, _ → _ → upd _ _ _ j = _ from ?_)
    refine ⟨by omega, .inr ⟨nx + 10, false, by omega, by omega, by simp, by simp [upd, bC_append]⟩, fun j g1 g2 => ?_⟩
    rw [upd_ne _ _ (show j ≠ nx + 10 by omega), upd_ne _ _ (show j ≠ id from g2)]
def encT (ss : List ByteArray) : List UInt8 := ss.flatMap fun s => Plain.enc s.size ++ tb s
def textsPV (ss : List ByteArray) : PV := .sl 1 (ss.map fun s => [.sc (.string s)])
theorem encT_snoc (ss : List ByteArray) (i : Nat) (h : i < ss.length) : encT (ss.take (i + 1)) = encT (ss.take i) ++ (Plain.enc ss[i].size ++ tb ss[i]) := by
  unfold encT
  rw [List.take_succ_eq_append_getElem h, List.flatMap_append]
  simp
theorem encT_take (ss : List ByteArray) (i : Nat) : (encT (ss.take i)).length ≤ (encT ss).length := by
  conv => rhs; rw [← List.take_append_drop i ss]
  unfold encT
  rw [List.flatMap_append, List.length_append]
  exact Nat.le_add_right _ _
set_option maxHeartbeats 4000000 in
theorem Texts_p (ss : List ByteArray) (h0 : ss ≠ []) (hl3 : ss.length ≤ 2 ^ 30) (hl : (encT ss).length ≤ 2 ^ 40) : PPure Try.prog F.wire_Texts [textsPV ss] (rowB (encT ss)) := by
  refine pure_by is_wire_Texts (by simp) (rowB_imm _) fun hb nx => ?_
  clear hb
  have hpos : 0 < ss.length := List.length_pos_iff.2 h0
  repeat' (first | ((with_reducible first | refine wA (by omega) ?_ | refine wB (by omega) ?_ | refine wC (by omega) ?_ | refine wD (by omega) ?_ | refine wE ?_ ?_ | refine wF ?_ ?_ | refine wG ?_ ?_ | refine wH ?_ ?_ | refine wI ?_ ?_ | refine wJ ?_ ?_ | refine wK ?_ ?_ | refine wL ?_ ?_) <;> intro _) | simp (maxSteps := 1000000) (disch := omega) only [go_sem, Nat.reduceAdd, Nat.reduceMul, Nat.reduceSub, Nat.reduceLeDiff, Nat.reduceEqDiff, Nat.reduceBEq, ↓reduceIte, reduceCtorEq, Int.reduceEq, Int.reduceLE, Int.reduceLT, Int.reduceAdd, Int.reduceSub, Int.reduceNeg, Int.reduceToNat, Int.reduceNe, Nat.reducePow, Nat.reduceShiftRight, Nat.reduceMod, mc_wire_Texts, textsPV, *])
  refine c_loopW 524072 (by kernel_rfl) (fun j f H m => ∃ i : Nat, j = ss.length - i ∧ i ≤ ss.length ∧ f 8 = .sc (.int .i64 i) ∧ Kept (BRow H 0 m (f 3) (encT (ss.take i)))) _ ⟨0, rfl, Nat.zero_le _, cE1, ?rr⟩ ?_
  case rr => refine Kept.mk (.inl ⟨rfl, cE1⟩)
  rintro _ f H m ⟨i, rfl, hi, e8, hr⟩
  by_cases hlt : i < ss.length
  · have eg : ss[i]? = some ss[i] := List.getElem?_eq_getElem hlt
    repeat' (first | ((with_reducible first | refine wA (by omega) ?_ | refine wB (by omega) ?_ | refine wC (by omega) ?_ | refine wD (by omega) ?_ | refine wE ?_ ?_ | refine wF ?_ ?_ | refine wG ?_ ?_ | refine wH ?_ ?_ | refine wI ?_ ?_ | refine wJ ?_ ?_ | refine wK ?_ ?_ | refine wL ?_ ?_) <;> intro _) | simp (maxSteps := 1000000) (disch := omega) only [go_sem, Nat.reduceAdd, Nat.reduceMul, Nat.reduceSub, Nat.reduceLeDiff, Nat.reduceEqDiff, Nat.reduceBEq, ↓reduceIte, reduceCtorEq, Int.reduceEq, Int.reduceLE, Int.reduceLT, Int.reduceAdd, Int.reduceSub, Int.reduceNeg, Int.reduceToNat, Int.reduceNe, Nat.reducePow, Nat.reduceShiftRight, Nat.reduceMod, *])
    have hl1 := encT_take ss (i + 1)
    have hl0 := encT_take ss i
    have hs := encT_snoc ss i hlt
    have hlen := congrArg List.length hs
    simp only [List.length_append, strC_len] at hlen
    have hep := Plain.enc_length_pos ss[i].size
    refine call_mut (putNum_m ss[i].size (by omega) (encT (ss.take i)) (by omega) (f 3) 0 _ _ (BRow.weak hr (Nat.zero_le _) (Nat.le_add_right _ _))) ?_
    rintro H' nx' r' ⟨hn0, hr2, hk2⟩ -
    have hn : m + 11 ≤ nx' := hn0
    clear hn0
    obtain ⟨g0, -⟩ | ⟨id, w, g1, g2, rfl, g3⟩ := hr2
    · have := congrArg List.length g0
      simp only [List.length_append, List.length_nil] at this
      omega
    · have b1 : (encT (ss.take i)).length + ((Plain.enc ss[i].size).length + ss[i].size) ≤ 140737488355328 := by omega
      have b2 : (encT (ss.take i)).length + ((Plain.enc ss[i].size).length + ss[i].size) ≤ 4611686018427387904 := by omega
      have hsz := strC_len ss[i]
      clear hr hk2 hl1 hl0 hlen g1
      repeat' (first | ((with_reducible first | refine wA (by omega) ?_ | refine wB (by omega) ?_ | refine wC (by omega) ?_ | refine wD (by omega) ?_ | refine wE ?_ ?_ | refine wF ?_ ?_ | refine wG ?_ ?_ | refine wH ?_ ?_ | refine wI ?_ ?_ | refine wJ ?_ ?_ | refine wK ?_ ?_ | refine wL ?_ ?_) <;> intro _) | simp (maxSteps := 1000000) (disch := omega) only [go_sem, Nat.reduceAdd, Nat.reduceMul, Nat.reduceSub, Nat.reduceLeDiff, Nat.reduceEqDiff, Nat.reduceBEq, ↓reduceIte, reduceCtorEq, Int.reduceEq, Int.reduceLE, Int.reduceLT, Int.reduceAdd, Int.reduceSub, Int.reduceNeg, Int.reduceToNat, Int.reduceNe, Nat.reducePow, Nat.reduceShiftRight, Nat.reduceMod, *])
      refine Nx.mk (ss.length - (i + 1)) (by omega) ⟨i + 1, rfl, cE1, cE1, ?_⟩
      refine Kept.mk (.inr ⟨m + 9, false, Nat.zero_le _, by omega, ?_, ?_⟩)
      · simp only [upd_get, Nat.reduceEqDiff, ↓reduceIte]
        rw [hs]; simp only [List.length_append, hsz]
      · rw [hs]; simp [upd, bC_append]
  · obtain rfl : i = ss.length := by omega
    have hne : encT ss ≠ [] := fun e => by
      cases ss with
      | nil => exact h0 rfl
      | cons x r =>
        have h1 := congrArg List.length e
        have h2 := Plain.enc_length_pos x.size
        simp only [encT, List.flatMap_cons, List.length_append, List.length_nil] at h1
        omega
    rw [List.take_length] at hr
    obtain ⟨g0, e0⟩ | ⟨id, w, g1, g2, e0, g3⟩ := hr
    · exact absurd g0 hne
    · repeat' (first | ((with_reducible first | refine wA (by omega) ?_ | refine wB (by omega) ?_ | refine wC (by omega) ?_ | refine wD (by omega) ?_ | refine wE ?_ ?_ | refine wF ?_ ?_ | refine wG ?_ ?_ | refine wH ?_ ?_ | refine wI ?_ ?_ | refine wJ ?_ ?_ | refine wK ?_ ?_ | refine wL ?_ ?_) <;> intro _) | simp (maxSteps := 1000000) (disch := omega) only [go_sem, Nat.reduceAdd, Nat.reduceMul, Nat.reduceSub, Nat.reduceLeDiff, Nat.reduceEqDiff, Nat.reduceBEq, ↓reduceIte, reduceCtorEq, Int.reduceEq, Int.reduceLE, Int.reduceLT, Int.reduceAdd, Int.reduceSub, Int.reduceNeg, Int.reduceToNat, Int.reduceNe, Nat.reducePow, Nat.reduceShiftRight, Nat.reduceMod, *])
      refine fin_ret (r0 := .osl id 0 (encT ss).length 1) 1 cE2 ?_
      exact .of_eq (pk_frz g3)
end
section
set_option maxRecDepth 20000
attribute [local go_sem] Nat.add_assoc id_ne id_ne' id_ne2 List.append_assoc bC_len bC_one pv_take
mutual
def Lv.enc : Lv → List UInt8
  | .mk k n args => Plain.enc k.toNat ++ ((if k = 1 ∨ k = 2 then Plain.enc n.toNat else []) ++ encLs args)
def encLs : List Lv → List UInt8
  | [] => []
  | x :: r => x.enc ++ encLs r
end
theorem encs_one (n : Nat) : encs [n] = Plain.enc n := by simp [encs]
theorem encLs_snoc : ∀ (ls : List Lv) (i : Nat) (h : i < ls.length), encLs (ls.take (i + 1)) = encLs (ls.take i) ++ ls[i].enc
  | x :: r, 0, h => by simp [encLs]
  | x :: r, i + 1, h => by
    have := encLs_snoc r i (by simpa using h)
    simp only [List.take_succ_cons, encLs, List.getElem_cons_succ, this, List.append_assoc]
theorem pk_num {np : Int} (hnp : np ≤ 4) {k n : Int} {args : List Lv} (h : (Lv.mk k n args).formed np = true) : (1 ≤ k ∧ k ≤ 5) ∧ (0 ≤ n ∧ n ≤ 100) ∧ formedL np args = true ∧ (k = 1 ∨ k = 2 → args = []) := by
  unfold Lv.formed at h
  split at h
  · simp only [Bool.and_eq_true, decide_eq_true_eq] at h
    obtain ⟨h1, h2, h3⟩ := h
    obtain rfl := List.eq_nil_of_length_eq_zero h3
    exact ⟨by omega, by omega, rfl, fun _ => rfl⟩
  · split at h
    · simp only [Bool.and_eq_true, decide_eq_true_eq] at h
      obtain ⟨h1, h2, h3⟩ := h
      obtain rfl := List.eq_nil_of_length_eq_zero h3
      exact ⟨by omega, by omega, rfl, fun _ => rfl⟩
    · split at h
      · simp only [Bool.and_eq_true, decide_eq_true_eq] at h
        exact ⟨by omega, by omega, h.2.2, fun _ => by omega⟩
      · split at h
        · simp only [Bool.and_eq_true, decide_eq_true_eq] at h
          exact ⟨by omega, by omega, h.2.2, fun _ => by omega⟩
        · cases h
theorem formedL_mem {np : Int} : ∀ (ls : List Lv) (i : Nat) (h : i < ls.length), formedL np ls = true → ls[i].formed np = true
  | x :: r, 0, h, hf => by simp only [formedL, Bool.and_eq_true] at hf; exact hf.1
  | x :: r, i + 1, h, hf => by simp only [formedL, Bool.and_eq_true] at hf; exact formedL_mem r i (by simpa using h) hf.2
mutual
theorem Lv.enc_len {np : Int} (hnp : np ≤ 4) : ∀ l : Lv, l.formed np = true → l.enc.length ≤ 12 * l.nodes
  | .mk k n args, h => by
    obtain ⟨h1, h2, h3, h4⟩ := pk_num hnp h
    have a1 := enc_len6 k.toNat (by omega)
    have a2 := enc_len6 n.toNat (by omega)
    have a3 := encLs_len hnp args h3
    simp only [Lv.enc, Lv.nodes, List.length_append]
    split
    · omega
    · simp only [List.length_nil]; omega
theorem encLs_len {np : Int} (hnp : np ≤ 4) : ∀ ls : List Lv, formedL np ls = true → (encLs ls).length ≤ 12 * nodesL ls
  | [], _ => Nat.le_refl _
  | x :: r, h => by
    simp only [formedL, Bool.and_eq_true] at h
    have a1 := Lv.enc_len hnp x h.1
    have a2 := encLs_len hnp r h.2
    simp only [encLs, nodesL, List.length_append]
    omega
end
theorem BRow.lead {H : Nat → Option PObj} {lo m : Nat} {a : PV} {l : List UInt8} (h : BRow H lo m a l) {j : Nat} (hj : j < lo) : ¬ leadB a j := by
  obtain ⟨_, rfl⟩ | ⟨id, w, g1, g2, rfl, g4⟩ := h
  · exact fun h => h
  · intro e
    have : j = id := e
    omega
set_option maxHeartbeats 8000000 in
theorem putLevel_m {np : Int} (hnp : np ≤ 4) : ∀ (fuel : Nat) (l : Lv), l.nodes ≤ fuel → l.formed np = true → ∀ (b : List UInt8), b.length + 12 * l.nodes ≤ 2 ^ 40 → ∀ (a : PV) (lo : Nat) (H : Nat → Option PObj) (nx : Nat), BRow H lo nx a b →
    PMut Try.prog F.pack_putLevel [a, .ptr l.pv] H nx (fun H' nx' r => nx ≤ nx' ∧ BRow H' nx nx' r (b ++ l.enc) ∧ ∀ j, j < nx → ¬ leadB a j → H' j = H j) := by
  intro fuel
  induction fuel with
  | zero => intro l h; have := nodes_pos l; omega
  | succ fuel ih =>
  intro l hn hf b hb a lo H nx ha
  cases l with
  | mk k n args =>
  obtain ⟨hk, hn1, hfa, hnil⟩ := pk_num hnp hf
  clear hf
  simp only [Lv.nodes] at hn hb
  refine mut_by is_pack_putLevel (by simp) fun hbn => ?_
  have hb0 : args.length ≤ 9223372036854775807 := by simp [Lv.pv, bndL, PV.bnd] at hbn; exact hbn.2.1
  clear hbn
  obtain ⟨k, rfl⟩ : ∃ k' : Nat, k = k' := ⟨k.toNat, by omega⟩
  obtain ⟨n, rfl⟩ : ∃ n' : Nat, n = n' := ⟨n.toNat, by omega⟩
  repeat' (first | ((with_reducible first | refine wA (by omega) ?_ | refine wB (by omega) ?_ | refine wC (by omega) ?_ | refine wD (by omega) ?_ | refine wE ?_ ?_ | refine wF ?_ ?_ | refine wG ?_ ?_ | refine wH ?_ ?_ | refine wI ?_ ?_ | refine wJ ?_ ?_ | refine wK ?_ ?_ | refine wL ?_ ?_) <;> intro _) | simp (maxSteps := 1000000) (disch := omega) only [go_sem, Nat.reduceAdd, Nat.reduceMul, Nat.reduceSub, Nat.reduceLeDiff, Nat.reduceEqDiff, Nat.reduceBEq, ↓reduceIte, reduceCtorEq, Int.reduceEq, Int.reduceLE, Int.reduceLT, Int.reduceAdd, Int.reduceSub, Int.reduceNeg, Int.reduceToNat, Int.reduceNe, Nat.reducePow, Nat.reduceShiftRight, Nat.reduceMod, mc_pack_putLevel, Lv.pv, *])
  refine call_mut (put_m [k] (by simp; omega) (by simp) (by simp) b (by omega) a lo H _ (BRow.weak ha (Nat.le_refl _) (Nat.le_add_right _ _))) ?_
  rintro H1 m1 r1 ⟨hm0, hr0, hk0⟩ -
  have hm1 : nx + 9 ≤ m1 := hm0
  have hr1 : Kept (BRow H1 (nx + 9) m1 r1 (b ++ Plain.enc k)) := by rw [← encs_one]; exact hr0
  have hk1 : Kept (∀ j, j < nx → ¬ leadB a j → H1 j = H j) := fun j g1 g2 => hk0 j (Nat.lt_of_lt_of_le g1 (Nat.le_add_right _ _)) g2
  clear hm0 hr0 hk0 ha
  have hek := enc_len6 k (by omega)
  have hen := enc_len6 n (by omega)
  obtain rfl | rfl | ⟨h1, h2⟩ : k = 1 ∨ k = 2 ∨ (k ≠ 1 ∧ k ≠ 2) := by omega
  · obtain rfl := hnil (.inl rfl)
    repeat' (first | ((with_reducible first | refine wA (by omega) ?_ | refine wB (by omega) ?_ | refine wC (by omega) ?_ | refine wD (by omega) ?_ | refine wE ?_ ?_ | refine wF ?_ ?_ | refine wG ?_ ?_ | refine wH ?_ ?_ | refine wI ?_ ?_ | refine wJ ?_ ?_ | refine wK ?_ ?_ | refine wL ?_ ?_) <;> intro _) | simp (maxSteps := 1000000) (disch := omega) only [go_sem, Nat.reduceAdd, Nat.reduceMul, Nat.reduceSub, Nat.reduceLeDiff, Nat.reduceEqDiff, Nat.reduceBEq, ↓reduceIte, reduceCtorEq, Int.reduceEq, Int.reduceLE, Int.reduceLT, Int.reduceAdd, Int.reduceSub, Int.reduceNeg, Int.reduceToNat, Int.reduceNe, Nat.reducePow, Nat.reduceShiftRight, Nat.reduceMod, *])
    refine call_mut (put_m [n] (by simp; omega) (by simp) (by simp) (b ++ Plain.enc 1) (by simp only [List.length_append]; omega) r1 (nx + 9) H1 _ (BRow.weak hr1 (Nat.le_refl _) (Nat.le_add_right _ _))) ?_
    rintro H2 m2 r2 ⟨hm0, hr0, hk0⟩ -
    have hm2 : m1 + 20 ≤ m2 := hm0
    have hr2 : Kept (BRow H2 nx m2 r2 ((b ++ Plain.enc 1) ++ Plain.enc n)) := by rw [← encs_one n]; exact BRow.weak hr0 (by show nx ≤ m1 + 20; omega) (Nat.le_refl _)
    have hk2 : Kept (∀ j, j < nx → ¬ leadB a j → H2 j = H j) := fun j g1 g2 => by
      rw [hk0 j (show j < m1 + 20 by omega) (BRow.lead hr1 (by omega))]; exact hk1 j g1 g2
    clear hm0 hr0 hk0 hr1 hk1
    repeat' (first | ((with_reducible first | refine wA (by omega) ?_ | refine wB (by omega) ?_ | refine wC (by omega) ?_ | refine wD (by omega) ?_ | refine wE ?_ ?_ | refine wF ?_ ?_ | refine wG ?_ ?_ | refine wH ?_ ?_ | refine wI ?_ ?_ | refine wJ ?_ ?_ | refine wK ?_ ?_ | refine wL ?_ ?_) <;> intro _) | simp (maxSteps := 1000000) (disch := omega) only [go_sem, Nat.reduceAdd, Nat.reduceMul, Nat.reduceSub, Nat.reduceLeDiff, Nat.reduceEqDiff, Nat.reduceBEq, ↓reduceIte, reduceCtorEq, Int.reduceEq, Int.reduceLE, Int.reduceLT, Int.reduceAdd, Int.reduceSub, Int.reduceNeg, Int.reduceToNat, Int.reduceNe, Nat.reducePow, Nat.reduceShiftRight, Nat.reduceMod, *])
    refine c_rounds 1 ?_
    repeat' (first | ((with_reducible first | refine wA (by omega) ?_ | refine wB (by omega) ?_ | refine wC (by omega) ?_ | refine wD (by omega) ?_ | refine wE ?_ ?_ | refine wF ?_ ?_ | refine wG ?_ ?_ | refine wH ?_ ?_ | refine wI ?_ ?_ | refine wJ ?_ ?_ | refine wK ?_ ?_ | refine wL ?_ ?_) <;> intro _) | simp (maxSteps := 1000000) (disch := omega) only [go_sem, Nat.reduceAdd, Nat.reduceMul, Nat.reduceSub, Nat.reduceLeDiff, Nat.reduceEqDiff, Nat.reduceBEq, ↓reduceIte, reduceCtorEq, Int.reduceEq, Int.reduceLE, Int.reduceLT, Int.reduceAdd, Int.reduceSub, Int.reduceNeg, Int.reduceToNat, Int.reduceNe, Nat.reducePow, Nat.reduceShiftRight, Nat.reduceMod, rounds_next, *])
    refine fin_mut r2 (.inr rfl) rfl ⟨?g1, ?g2, hk2⟩
    case g1 => show nx ≤ m2 + _; omega
    case g2 => simp only [Lv.enc, encLs, Int.toNat_natCast]; simpa using BRow.weak hr2 (Nat.le_refl _) (Nat.le_add_right _ _)
  · obtain rfl := hnil (.inr rfl)
    repeat' (first | ((with_reducible first | refine wA (by omega) ?_ | refine wB (by omega) ?_ | refine wC (by omega) ?_ | refine wD (by omega) ?_ | refine wE ?_ ?_ | refine wF ?_ ?_ | refine wG ?_ ?_ | refine wH ?_ ?_ | refine wI ?_ ?_ | refine wJ ?_ ?_ | refine wK ?_ ?_ | refine wL ?_ ?_) <;> intro _) | simp (maxSteps := 1000000) (disch := omega) only [go_sem, Nat.reduceAdd, Nat.reduceMul, Nat.reduceSub, Nat.reduceLeDiff, Nat.reduceEqDiff, Nat.reduceBEq, ↓reduceIte, reduceCtorEq, Int.reduceEq, Int.reduceLE, Int.reduceLT, Int.reduceAdd, Int.reduceSub, Int.reduceNeg, Int.reduceToNat, Int.reduceNe, Nat.reducePow, Nat.reduceShiftRight, Nat.reduceMod, *])
    refine call_mut (put_m [n] (by simp; omega) (by simp) (by simp) (b ++ Plain.enc 2) (by simp only [List.length_append]; omega) r1 (nx + 9) H1 _ (BRow.weak hr1 (Nat.le_refl _) (Nat.le_add_right _ _))) ?_
    rintro H2 m2 r2 ⟨hm0, hr0, hk0⟩ -
    have hm2 : m1 + 20 ≤ m2 := hm0
    have hr2 : Kept (BRow H2 nx m2 r2 ((b ++ Plain.enc 2) ++ Plain.enc n)) := by rw [← encs_one n]; exact BRow.weak hr0 (by show nx ≤ m1 + 20; omega) (Nat.le_refl _)
    have hk2 : Kept (∀ j, j < nx → ¬ leadB a j → H2 j = H j) := fun j g1 g2 => by
      rw [hk0 j (show j < m1 + 20 by omega) (BRow.lead hr1 (by omega))]; exact hk1 j g1 g2
    clear hm0 hr0 hk0 hr1 hk1
    repeat' (first | ((with_reducible first | refine wA (by omega) ?_ | refine wB (by omega) ?_ | refine wC (by omega) ?_ | refine wD (by omega) ?_ | refine wE ?_ ?_ | refine wF ?_ ?_ | refine wG ?_ ?_ | refine wH ?_ ?_ | refine wI ?_ ?_ | refine wJ ?_ ?_ | refine wK ?_ ?_ | refine wL ?_ ?_) <;> intro _) | simp (maxSteps := 1000000) (disch := omega) only [go_sem, Nat.reduceAdd, Nat.reduceMul, Nat.reduceSub, Nat.reduceLeDiff, Nat.reduceEqDiff, Nat.reduceBEq, ↓reduceIte, reduceCtorEq, Int.reduceEq, Int.reduceLE, Int.reduceLT, Int.reduceAdd, Int.reduceSub, Int.reduceNeg, Int.reduceToNat, Int.reduceNe, Nat.reducePow, Nat.reduceShiftRight, Nat.reduceMod, *])
    refine c_rounds 1 ?_
    repeat' (first | ((with_reducible first | refine wA (by omega) ?_ | refine wB (by omega) ?_ | refine wC (by omega) ?_ | refine wD (by omega) ?_ | refine wE ?_ ?_ | refine wF ?_ ?_ | refine wG ?_ ?_ | refine wH ?_ ?_ | refine wI ?_ ?_ | refine wJ ?_ ?_ | refine wK ?_ ?_ | refine wL ?_ ?_) <;> intro _) | simp (maxSteps := 1000000) (disch := omega) only [go_sem, Nat.reduceAdd, Nat.reduceMul, Nat.reduceSub, Nat.reduceLeDiff, Nat.reduceEqDiff, Nat.reduceBEq, ↓reduceIte, reduceCtorEq, Int.reduceEq, Int.reduceLE, Int.reduceLT, Int.reduceAdd, Int.reduceSub, Int.reduceNeg, Int.reduceToNat, Int.reduceNe, Nat.reducePow, Nat.reduceShiftRight, Nat.reduceMod, rounds_next, *])
    refine fin_mut r2 (.inr rfl) rfl ⟨?g1, ?g2, hk2⟩
    case g1 => show nx ≤ m2 + _; omega
    case g2 => simp only [Lv.enc, encLs, Int.toNat_natCast]; simpa using BRow.weak hr2 (Nat.le_refl _) (Nat.le_add_right _ _)
  · repeat' (first | ((with_reducible first | refine wA (by omega) ?_ | refine wB (by omega) ?_ | refine wC (by omega) ?_ | refine wD (by omega) ?_ | refine wE ?_ ?_ | refine wF ?_ ?_ | refine wG ?_ ?_ | refine wH ?_ ?_ | refine wI ?_ ?_ | refine wJ ?_ ?_ | refine wK ?_ ?_ | refine wL ?_ ?_) <;> intro _) | simp (maxSteps := 1000000) (disch := omega) only [go_sem, Nat.reduceAdd, Nat.reduceMul, Nat.reduceSub, Nat.reduceLeDiff, Nat.reduceEqDiff, Nat.reduceBEq, ↓reduceIte, reduceCtorEq, Int.reduceEq, Int.reduceLE, Int.reduceLT, Int.reduceAdd, Int.reduceSub, Int.reduceNeg, Int.reduceToNat, Int.reduceNe, Nat.reducePow, Nat.reduceShiftRight, Nat.reduceMod, *])
    refine c_loopW 562812514467873 (by kernel_rfl) (fun j f H2 m => ∃ i : Nat, j = args.length - i ∧ i ≤ args.length ∧ f 37 = .sc (.int .i64 i) ∧ nx ≤ m ∧ Kept (BRow H2 nx m (f 0) (b ++ Plain.enc k ++ encLs (args.take i))) ∧ Kept (∀ j, j < nx → ¬ leadB a j → H2 j = H j)) _ ⟨0, rfl, Nat.zero_le _, cE1, ?mm, ?rr, hk1⟩ ?_
    case mm => show nx ≤ m1 + 18; omega
    case rr =>
      refine Kept.mk ?_
      simp only [upd_get, Nat.reduceEqDiff, ↓reduceIte, List.take_zero, encLs, List.append_nil]
      exact BRow.weak hr1 (show nx ≤ nx + 9 by omega) (show m1 ≤ m1 + 18 by omega)
    rintro _ f H2 m ⟨i, rfl, hi, e37, hm, hr, hkk⟩
    by_cases hlt : i < args.length
    · have eg : args[i]? = some args[i] := List.getElem?_eq_getElem hlt
      have hnm := nodesL_mem args i hlt
      repeat' (first | ((with_reducible first | refine wA (by omega) ?_ | refine wB (by omega) ?_ | refine wC (by omega) ?_ | refine wD (by omega) ?_ | refine wE ?_ ?_ | refine wF ?_ ?_ | refine wG ?_ ?_ | refine wH ?_ ?_ | refine wI ?_ ?_ | refine wJ ?_ ?_ | refine wK ?_ ?_ | refine wL ?_ ?_) <;> intro _) | simp (maxSteps := 1000000) (disch := omega) only [go_sem, Nat.reduceAdd, Nat.reduceMul, Nat.reduceSub, Nat.reduceLeDiff, Nat.reduceEqDiff, Nat.reduceBEq, ↓reduceIte, reduceCtorEq, Int.reduceEq, Int.reduceLE, Int.reduceLT, Int.reduceAdd, Int.reduceSub, Int.reduceNeg, Int.reduceToNat, Int.reduceNe, Nat.reducePow, Nat.reduceShiftRight, Nat.reduceMod, *])
      have a1 := encLs_len hnp (args.take i) (formedL_all np args i hfa)
      have a2 := nodesL_take_succ args i hlt
      have a3 := nodesL_take_le args (i + 1)
      refine call_mut (ih args[i] (by omega) (formedL_mem args i hlt hfa) (b ++ Plain.enc k ++ encLs (args.take i)) (by simp only [List.length_append]; omega) (f 0) nx H2 _ (BRow.weak hr (Nat.le_refl _) (Nat.le_add_right _ _))) ?_
      rintro H3 m3 r3 ⟨hm0, hr0, hk0⟩ -
      have hm3 : m ≤ m3 := Nat.le_trans (Nat.le_add_right _ _) hm0
      have hr3 : Kept (BRow H3 nx m3 r3 (b ++ Plain.enc k ++ encLs (args.take (i + 1)))) := by
        rw [encLs_snoc args i hlt, ← List.append_assoc]
        exact BRow.weak hr0 (Nat.le_trans hm (Nat.le_add_right _ _)) (Nat.le_refl _)
      have hk3 : Kept (∀ j, j < nx → ¬ leadB a j → H3 j = H j) := fun j g1 g2 => by
        rw [hk0 j (Nat.lt_of_lt_of_le g1 (Nat.le_trans hm (Nat.le_add_right _ _))) (BRow.lead hr g1)]; exact hkk j g1 g2
      clear hm0 hr0 hk0 hr hkk a1 a2 a3
      repeat' (first | ((with_reducible first | refine wA (by omega) ?_ | refine wB (by omega) ?_ | refine wC (by omega) ?_ | refine wD (by omega) ?_ | refine wE ?_ ?_ | refine wF ?_ ?_ | refine wG ?_ ?_ | refine wH ?_ ?_ | refine wI ?_ ?_ | refine wJ ?_ ?_ | refine wK ?_ ?_ | refine wL ?_ ?_) <;> intro _) | simp (maxSteps := 1000000) (disch := omega) only [go_sem, Nat.reduceAdd, Nat.reduceMul, Nat.reduceSub, Nat.reduceLeDiff, Nat.reduceEqDiff, Nat.reduceBEq, ↓reduceIte, reduceCtorEq, Int.reduceEq, Int.reduceLE, Int.reduceLT, Int.reduceAdd, Int.reduceSub, Int.reduceNeg, Int.reduceToNat, Int.reduceNe, Nat.reducePow, Nat.reduceShiftRight, Nat.reduceMod, *])
      refine Nx.mk (args.length - (i + 1)) (by omega) ⟨i + 1, rfl, cE1, cE1, ?mm, ?rr, hk3⟩
      case mm => exact Nat.le_trans hm (Nat.le_trans hm3 (Nat.le_add_right _ _))
      case rr =>
        refine Kept.mk ?_
        simp only [upd_get, Nat.reduceEqDiff, ↓reduceIte]
        simp only [List.append_assoc] at hr3 ⊢
        exact BRow.weak hr3 (Nat.le_refl _) (Nat.le_add_right _ _)
    · obtain rfl : i = args.length := by omega
      rw [List.take_length] at hr
      repeat' (first | ((with_reducible first | refine wA (by omega) ?_ | refine wB (by omega) ?_ | refine wC (by omega) ?_ | refine wD (by omega) ?_ | refine wE ?_ ?_ | refine wF ?_ ?_ | refine wG ?_ ?_ | refine wH ?_ ?_ | refine wI ?_ ?_ | refine wJ ?_ ?_ | refine wK ?_ ?_ | refine wL ?_ ?_) <;> intro _) | simp (maxSteps := 1000000) (disch := omega) only [go_sem, Nat.reduceAdd, Nat.reduceMul, Nat.reduceSub, Nat.reduceLeDiff, Nat.reduceEqDiff, Nat.reduceBEq, ↓reduceIte, reduceCtorEq, Int.reduceEq, Int.reduceLE, Int.reduceLT, Int.reduceAdd, Int.reduceSub, Int.reduceNeg, Int.reduceToNat, Int.reduceNe, Nat.reducePow, Nat.reduceShiftRight, Nat.reduceMod, *])
      refine fin_mut (f 0) (.inr rfl) rfl ⟨Nat.le_trans hm (Nat.le_add_right _ _), ?g2, hkk⟩
      case g2 =>
        simp only [Lv.enc, Int.toNat_natCast]
        rw [if_neg (by omega), List.nil_append, ← List.append_assoc]
        exact BRow.weak hr (Nat.le_refl _) (Nat.le_add_right _ _)
end
end Go.Proofs.Ytnelciclibknpaa
