/- Laid together: DirtyPure, CyclePure, ReachPure. -/
import Derived.Test.YthdcapkchjamoaaDoorM6
import Derived.Test.YthdcapkchjamoaaDoorSweepPure
/- The gate shut and opened with nobody about, without memory. -/
namespace Go.Proofs.YthdcapkchjamoaaDoor
open Go Go.RowKit
set_option maxRecDepth 100000

theorem sp_in {C : Cf} (hC : CfOK C) {m : Nat} (hm : (m : Int) < C.b) : inP C.a C.b C.c C.d m = 5 + m ∧ 5 + m < C.n := by
  have hr := hC.right
  have hp := hr.prod
  have hs := hC.size
  rw [inP_in hr m (by omega) hm]
  unfold Right at hr
  exact ⟨rfl, by omega⟩
/-- Behind n steps from the line 10 on, all ins idle: fl: how many flips there were. -/
def DtSt (C : Cf) (f0 f : Nat → Int) (n : Nat) (fl : Int) (x : Co) : Prop :=
  ((n : Int) < C.b ∧ x.l = 10 ∧ x.m = n ∧ f = f0 ∧ fl = 0) ∨ ((n : Int) = C.b ∧ x.l = 11 ∧ x.m = 0 ∧ f = f0 ∧ fl = 0) ∨
  (∃ i : Nat, (n : Int) = C.b + 1 + i ∧ (i : Int) < C.b ∧ x.l = 12 ∧ x.m = i ∧ f = upd f0 1 1 ∧ fl = 0) ∨ ((n : Int) = 2 * C.b + 1 ∧ x.l = 13 ∧ f = upd f0 1 1 ∧ fl = 0) ∨
  ((n : Int) = 2 * C.b + 2 ∧ f = upd f0 1 1 ∧ ((x.l = 14 ∧ f0 2 = 0 ∧ fl = 1) ∨ (x.l = 15 ∧ f0 2 ≠ 0 ∧ fl = 0))) ∨
  ((n : Int) = 2 * C.b + 3 ∧ f = upd f0 1 0 ∧ ((x.l = 20 ∧ x.c = 0 ∧ f0 2 = 0 ∧ fl = 1) ∨ (x.l = 3 ∧ f0 2 ≠ 0 ∧ fl = 0)))
theorem DtSt.go {C : Cf} (hC : CfOK C) {s : Dy} {f0 : Nat → Int} (hid : ∀ m : Nat, (m : Int) < C.b → f0 (5 + m) % 4 = 0) {n : Nat} {fl : Int} {x : Co} (h : DtSt C f0 s.f n fl x) (hn : (n : Int) < 2 * C.b + 3) :
    ∃ s' x' b, shutS C s x = (s', x', b, true) ∧ DtSt C f0 s'.f (n + 1) (fl + if b then 1 else 0) x' := by
  have h4 := hC.a4
  have h5 := hC.four
  obtain ⟨xl, xj, xc, xm, xa, xp, xfd, xtl, xcy⟩ := x
  have hlk : ∀ i, (s.act C 1 i 0 0).f = s.f := fun i => words_load _ _ _
  have hld : ∀ m : Nat, (m : Int) < C.b → s.f (5 + m) = f0 (5 + m) → ldP C s (inP C.a C.b C.c C.d m) = f0 (5 + m) := fun m hm e => by
    obtain ⟨e1, e2⟩ := sp_in hC hm
    unfold ldP
    rw [e1, z5_in _ (by omega) (by omega), show (5 + (m : Int)).toNat = 5 + m by omega]; exact e
  have hst : ∀ z, (s.act C 2 1 z 0).f = upd s.f 1 z := fun z => words_store C.n s.f 1 z (by omega)
  rcases h with ⟨hnb, a, b, c, d⟩ | ⟨hnb, a, b, c, d⟩ | ⟨i, hnb, hi, a, b, c, d⟩ | ⟨hnb, a, c, d⟩ | ⟨hnb, c, d⟩ | ⟨hnb, _⟩
  · dsimp only at a b; subst a; subst b
    have el := hld n hnb (by rw [c])
    have h0 := hid n hnb
    refine ⟨s.act C 1 (inP C.a C.b C.c C.d n) 0 0, nextMut C ⟨10, xj, xc, n, 0, xp, xfd, xtl, xcy⟩ 10 11, false, by simp [shutS, el, h0], ?_⟩
    rw [hlk]
    unfold nextMut
    dsimp only
    by_cases e : (n : Int) + 1 < C.b
    · rw [if_pos e]; exact .inl ⟨by omega, rfl, by simp, c, by simp [d]⟩
    · rw [if_neg e]; exact .inr (.inl ⟨by omega, rfl, rfl, c, by simp [d]⟩)
  · dsimp only at a b; subst a; subst b
    refine ⟨s.act C 2 1 1 0, ⟨12, xj, xc, 0, xa, xp, xfd, xtl, xcy⟩, false, by simp [shutS], .inr (.inr (.inl ⟨0, by omega, by omega, rfl, rfl, by rw [hst, c], by simp [d]⟩))⟩
  · dsimp only at a b; subst a; subst b
    have e1 : s.f (5 + i) = f0 (5 + i) := by rw [c]; unfold upd; rw [if_neg (by omega)]
    have el := hld i hi e1
    have h0 := hid i hi
    refine ⟨s.act C 1 (inP C.a C.b C.c C.d i) 0 0, nextMut C ⟨12, xj, xc, i, xa, xp, xfd, xtl, xcy⟩ 12 13, false, by simp [shutS, el, h0], ?_⟩
    rw [hlk]
    unfold nextMut
    dsimp only
    by_cases e : (i : Int) + 1 < C.b
    · rw [if_pos e]; exact .inr (.inr (.inl ⟨i + 1, by omega, by omega, rfl, by simp, c, by simp [d]⟩))
    · rw [if_neg e]; exact .inr (.inr (.inr (.inl ⟨by omega, rfl, c, by simp [d]⟩)))
  · dsimp only at a; subst a
    have el : ldP C s 2 = f0 2 := by
      unfold ldP; rw [z5_in _ (by omega) (by omega), c]; rfl
    by_cases hz : f0 2 = 0
    · refine ⟨s.act C 1 2 0 0, ⟨14, xj, xc, xm, xa, xp, xfd, xtl, xcy⟩, true, by simp [shutS, el, hz], .inr (.inr (.inr (.inr (.inl ⟨by omega, by rw [hlk, c], .inl ⟨rfl, hz, by simp [d]⟩⟩))))⟩
    · refine ⟨s.act C 1 2 0 0, ⟨15, xj, xc, xm, xa, xp, xfd, xtl, xcy⟩, false, by simp [shutS, el, hz], .inr (.inr (.inr (.inr (.inl ⟨by omega, by rw [hlk, c], .inr ⟨rfl, hz, by simp [d]⟩⟩))))⟩
  · have e2 : upd (upd f0 1 1) 1 0 = upd f0 1 0 := by
      funext k; unfold upd; by_cases e : k = 1
      · rw [if_pos e, if_pos e]
      · rw [if_neg e, if_neg e, if_neg e]
    rcases d with ⟨a, b, d⟩ | ⟨a, b, d⟩
    · dsimp only at a; subst a
      exact ⟨s.act C 2 1 0 0, ⟨20, xj, 0, xm, xa, xp, xfd, xtl, xcy⟩, false, by simp [shutS], .inr (.inr (.inr (.inr (.inr ⟨by omega, by rw [hst, c, e2], .inl ⟨rfl, rfl, b, by simp [d]⟩⟩))))⟩
    · dsimp only at a; subst a
      exact ⟨s.act C 2 1 0 0, ⟨3, xj, xc, xm, xa, xp, xfd, xtl, xcy⟩, false, by simp [shutS], .inr (.inr (.inr (.inr (.inr ⟨by omega, by rw [hst, c, e2], .inr ⟨rfl, b, by simp [d]⟩⟩))))⟩
  · omega
end Go.Proofs.YthdcapkchjamoaaDoor
/- A cycle of the collector with nobody else about, without memory. -/
namespace Go.Proofs.YthdcapkchjamoaaDoor
open Go Go.RowKit
set_option maxRecDepth 100000

/-- The cells that are reached from words, by cars and cdrs. -/
inductive Rch (C : Cf) (f : Nat → Int) (S : Int → Prop) : Nat → Prop
  | base {i : Nat} : S (2 * (i : Int) + 1) → (i : Int) < C.a → Rch C f S i
  | car {i j : Nat} : Rch C f S i → f (carI C i) = 2 * (j : Int) + 1 → (j : Int) < C.a → Rch C f S j
  | cdr {i j : Nat} : Rch C f S i → f (cdrI C i) = 2 * (j : Int) + 1 → (j : Int) < C.a → Rch C f S j
theorem Rch.lt {C : Cf} {f : Nat → Int} {S : Int → Prop} {i : Nat} (h : Rch C f S i) : (i : Int) < C.a := by
  cases h with
  | base _ h => exact h
  | car _ _ h => exact h
  | cdr _ _ h => exact h
theorem Rch.mono {C : Cf} {f : Nat → Int} {S T : Int → Prop} (hST : ∀ w, S w → T w) {i : Nat} (h : Rch C f S i) : Rch C f T i := by
  induction h with
  | base h1 h2 => exact .base (hST _ h1) h2
  | car _ h1 h2 ih => exact .car ih h1 h2
  | cdr _ h1 h2 ih => exact .cdr ih h1 h2
/-- The roots' words; these and the grey cells. -/
def RootS (C : Cf) (f : Nat → Int) (w : Int) : Prop := ∃ j, 0 ≤ j ∧ j < rootsN C ∧ rootW C f j = w
def KeptS (C : Cf) (f : Nat → Int) (w : Int) : Prop := RootS C f w ∨ ∃ i : Nat, (i : Int) < C.a ∧ f (colI C i) = 1 ∧ w = 2 * (i : Int) + 1
/-- What a word's colour place is: that of the cell, if the word is one of the map. -/
theorem colP_of {C : Cf} (hC : CfOK C) {i : Nat} (hi : (i : Int) < C.a) : (colP C (2 * (i : Int) + 1)).toNat = colI C i ∧ 0 ≤ colP C (2 * (i : Int) + 1) := by
  have h4 := hC.a4
  have e : colP C (2 * (i : Int) + 1) = partP C.a C.b C.c C.d 2 i := by
    unfold colP
    rw [show (2 * (i : Int) + 1).toNat = 2 * i + 1 by omega]
    exact field_cell (by omega) 2 (by omega)
  rw [e]
  exact ⟨rfl, by have := (colI_sp hC hi).1; omega⟩
theorem colP_word {C : Cf} (hC : CfOK C) {w : Int} (h : 0 ≤ colP C w) (_ : 0 ≤ w) : ∃ i : Nat, (i : Int) < C.a ∧ w = 2 * (i : Int) + 1 ∧ (colP C w).toNat = colI C i := by
  obtain ⟨_, _, h3, h4, h5⟩ := colP_spot hC h
  refine ⟨w.toNat / 2, h4, ?_, by rw [h5]; rfl⟩
  unfold isC at h3
  omega
/-- All cells of a free list are reached from it. -/
theorem chain_reached {C : Cf} (hC : CfOK C) {f : Nat → Int} {S : Int → Prop} : ∀ {w : Int} {L : List Nat}, (∀ i : Nat, w = 2 * (i : Int) + 1 → (i : Int) < C.a → Rch C f S i) → ChainL (nxF C.b C.c C.d f) C.a.toNat w L → ∀ i ∈ L, Rch C f S i
  | _, [], _, _, i, hi => by cases hi
  | w, j :: l, hw, h, i, hi => by
    have hj : Rch C f S j := hw j h.1 (by have := h.2.1; omega)
    rcases List.mem_cons.1 hi with e | e
    · subst e; exact hj
    · refine chain_reached hC (fun k hk hka => ?_) h.2.2 i e
      rw [nxF_cdr hC f hj.lt] at hk
      exact .cdr hj hk hka
/-- Where marking is over: nothing is grey, what is kept is black, and nothing else; the free list's words, roots, cars and cdrs are as they were. -/
structure Marked (C : Cf) (f0 f : Nat → Int) : Prop where
  near : ∀ k : Nat, (spotF C.b C.c C.d k).1 ≠ 6 → k ≠ 2 → f k = f0 k
  col : ∀ i : Nat, (i : Int) < C.a → (f (colI C i) = 0 ∨ f (colI C i) = 2) ∧ (f (colI C i) = 2 ↔ Rch C f0 (KeptS C f0) i)
/-- What a cycle begins with: a free list, and no black cell; all ins idle. -/
structure CyOK (C : Cf) (f0 : Nat → Int) (L0 : List Nat) (t : Nat) : Prop where
  ok : CfOK C
  u : ∀ j, U64 (f0 j)
  chain : ChainL (nxF C.b C.c C.d f0) C.a.toNat (f0 0) L0
  last : L0.getLast? = some t
  cols : ∀ i : Nat, (i : Int) < C.a → f0 (colI C i) = 0 ∨ f0 (colI C i) = 1
  idle : ∀ m : Nat, (m : Int) < C.b → f0 (5 + m) = 0
/-- Nonwhite cells are kept ones. -/
def KeptI (C : Cf) (f0 f : Nat → Int) : Prop := ∀ i : Nat, (i : Int) < C.a → f (colI C i) ≠ 0 → Rch C f0 (KeptS C f0) i
theorem RtNear.other {C : Cf} (hC : CfOK C) {f0 f : Nat → Int} (h : RtNear C f0 f) {k : Nat} (hk : (spotF C.b C.c C.d k).1 ≠ 6) : f k = f0 k := by
  rcases h k with e | ⟨_, _, i, _, _, e⟩
  · exact e
  · exfalso
    apply hk
    have e1 := (colP_spot hC (w := rootW C f0 i) (by omega)).2.1
    rw [show ((colP C (rootW C f0 i)).toNat : Int) = (k : Int) by omega] at e1
    exact e1
/-- Behind the roots: what is nonwhite is kept. -/
theorem RtNear.kept {C : Cf} {f0 f : Nat → Int} {L0 : List Nat} {t : Nat} (hO : CyOK C f0 L0 t) (h : RtNear C f0 f) : KeptI C f0 f := by
  have hC := hO.ok
  intro i hi hne
  rcases h (colI C i) with e | ⟨e1, _, j, j0, j1, e⟩
  · rw [e] at hne
    rcases hO.cols i hi with e2 | e2
    · exact absurd e2 hne
    · exact .base (.inr ⟨i, hi, e2, rfl⟩) hi
  · have hw := hO.u (rootP C.a C.b C.c C.d j).toNat
    obtain ⟨i', hi', e2, e3⟩ := colP_word hC (w := rootW C f0 j) (by omega) hw.1
    have : i = i' := colI_inj hC hi hi' (by omega)
    subst this
    exact .base (.inl ⟨j, j0, j1, e2⟩) hi
/-- A pass's step: what is nonwhite is kept. -/
theorem PsSt.kept {C : Cf} {f0 f1 : Nat → Int} {L0 : List Nat} {t : Nat} (hO : CyOK C f0 L0 t) (h1 : ∀ k : Nat, (spotF C.b C.c C.d k).1 ≠ 6 → f1 k = f0 k) {s : Dy} {n P : Nat} {L : List Nat} {x : Co} (h : PsSt C f1 s.f n P L x) (hK : KeptI C f0 s.f) (hl : x.l ≠ 10) : KeptI C f0 (passS C s x).1.f := by
  have hC := hO.ok
  have hcas : ∀ v, (∀ i : Nat, (i : Int) < C.a → v = 2 * (i : Int) + 1 → Rch C f0 (KeptS C f0) i) → 0 ≤ v → KeptI C f0 (wordsQ C.n s.f 3 (colP C v) 0 1) := by
    intro v hv hv0 i hi hne
    rw [cas_col] at hne
    by_cases ho : okD C.n 3 (colP C v) ∧ s.f (colP C v).toNat = 0
    · rw [if_pos ho] at hne
      unfold upd at hne
      by_cases e : colI C i = (colP C v).toNat
      · have hk := ho.1
        unfold okD at hk
        obtain ⟨i', hi', e2, e3⟩ := colP_word hC (w := v) hk.2.2.1 hv0
        have : i = i' := colI_inj hC hi hi' (by omega)
        subst this
        exact hv i hi e2
      · rw [if_neg e] at hne; exact hK i hi hne
    · rw [if_neg ho] at hne; exact hK i hi hne
  have hl1 : ∀ p, (s.act C 1 p 0 0).f = s.f := fun p => words_load _ _ _
  rcases h.line with ⟨e, _⟩ | ⟨g1, g2, g3, c0, c1, _, _, _, _, _, i5, i6, i8, _, _⟩ | ⟨e, _⟩
  · have hw : (s.act C 2 2 0 0).f = upd s.f 2 0 := words_store C.n s.f 2 0 (by have := hC.four; omega)
    have : (passS C s x).1 = s.act C 2 2 0 0 := by unfold passS; rw [if_pos e]
    rw [this, hw]
    intro i hi hne
    have hd : colI C i ≠ 2 := fun e2 => by
      have := (colI_sp hC hi).2.2
      rw [e2, sp_once _ _ _ (by omega)] at this
      have := congrArg (·.1) this
      simp at this
    unfold upd at hne
    rw [if_neg hd] at hne
    exact hK i hi hne
  · obtain ⟨c, hc⟩ : ∃ c : Nat, x.c = c := ⟨x.c.toNat, by omega⟩
    have hgrey : 5 ≤ x.l → Rch C f0 (KeptS C f0) c := fun q => hK c (by omega) (by have := i5 q; rw [hc, Int.toNat_natCast] at this; rw [this]; decide)
    rcases (by omega : x.l = 4 ∨ x.l = 5 ∨ x.l = 6 ∨ x.l = 7 ∨ x.l = 8 ∨ x.l = 9) with e | e | e | e | e | e
    · have : (passS C s x).1 = s.act C 1 (partP C.a C.b C.c C.d 2 x.c) 0 0 := by unfold passS; rw [if_neg (by omega), if_pos e]
      rw [this, hl1]; exact hK
    · have : (passS C s x).1 = s.act C 1 (partP C.a C.b C.c C.d 0 x.c) 0 0 := by unfold passS; rw [if_neg (by omega), if_neg (by omega), if_pos e]
      rw [this, hl1]; exact hK
    · have : (passS C s x).1 = s.act C 3 (fieldP C.a C.b C.c C.d x.a.toNat 2) 0 1 := by unfold passS; rw [if_neg (by omega), if_neg (by omega), if_neg (by omega), if_pos e]
      rw [this]
      have ea := i6 e
      rw [hc, Int.toNat_natCast, h1 _ (by rw [(carI_sp hC (i := c) (by omega)).2.2]; simp)] at ea
      refine hcas x.a (fun i hi ei => ?_) (by rw [ea]; exact (hO.u _).1)
      exact .car (hgrey (by omega)) (by rw [← ea]; exact ei) hi
    · have : (passS C s x).1 = s.act C 1 (partP C.a C.b C.c C.d 1 x.c) 0 0 := by unfold passS; rw [if_neg (by omega), if_neg (by omega), if_neg (by omega), if_neg (by omega), if_pos e]
      rw [this, hl1]; exact hK
    · have : (passS C s x).1 = s.act C 3 (fieldP C.a C.b C.c C.d x.a.toNat 2) 0 1 := by unfold passS; rw [if_neg (by omega), if_neg (by omega), if_neg (by omega), if_neg (by omega), if_neg (by omega), if_pos e]
      rw [this]
      have ea := i8 e
      rw [hc, Int.toNat_natCast, h1 _ (by rw [(cdrI_sp hC (i := c) (by omega)).2.2]; simp)] at ea
      refine hcas x.a (fun i hi ei => ?_) (by rw [ea]; exact (hO.u _).1)
      exact .cdr (hgrey (by omega)) (by rw [← ea]; exact ei) hi
    · have hcol := colI_sp hC (i := c) (by omega)
      have : (passS C s x).1 = s.act C 2 (partP C.a C.b C.c C.d 2 x.c) 2 0 := by unfold passS; rw [if_neg (by omega), if_neg (by omega), if_neg (by omega), if_neg (by omega), if_neg (by omega), if_neg (by omega), if_pos e]
      rw [this]
      have hw : (s.act C 2 (partP C.a C.b C.c C.d 2 x.c) 2 0).f = upd s.f (colI C c) 2 := by
        rw [hc]; exact words_store C.n s.f _ 2 (by omega)
      rw [hw]
      intro i hi hne
      by_cases e2 : i = c
      · subst e2; exact hgrey (by omega)
      · unfold upd at hne
        rw [if_neg (fun q => e2 (colI_inj hC hi (by omega) q))] at hne
        exact hK i hi hne
  · exact absurd e hl
/-- Behind the passes marking is over. -/
theorem marked_of {C : Cf} {f0 f1 f : Nat → Int} {L0 : List Nat} {t : Nat} (hO : CyOK C f0 L0 t) (hr : RtNear C f0 f1) (hd : ∀ i, 0 ≤ i → i < rootsN C → 0 ≤ colP C (rootW C f0 i) → f1 (colP C (rootW C f0 i)).toNat ≠ 0)
    {n P : Nat} {L : List Nat} {x : Co} (h : PsSt C f1 f n P L x) (hK : KeptI C f0 f) (hl : x.l = 10) : Marked C f0 f ∧ f 2 = 0 := by
  have hC := hO.ok
  obtain ⟨h2, hng⟩ : f 2 = 0 ∧ ∀ i : Nat, (i : Int) < C.a → f (colI C i) ≠ 1 := by
    rcases h.line with ⟨e, _⟩ | ⟨_, e, _⟩ | ⟨_, _, a, _, b⟩
    · omega
    · omega
    · exact ⟨a, b⟩
  have hoth : ∀ k : Nat, (spotF C.b C.c C.d k).1 ≠ 6 → f1 k = f0 k := fun k hk => hr.other hC hk
  have hcol1 : ∀ i : Nat, (i : Int) < C.a → f1 (colI C i) = 0 ∨ f1 (colI C i) = 1 := fun i hi => by
    rcases hr (colI C i) with e | ⟨_, e, _⟩
    · rw [e]; exact hO.cols i hi
    · exact .inr e
  have h02 : ∀ i : Nat, (i : Int) < C.a → f (colI C i) = 0 ∨ f (colI C i) = 2 := fun i hi => by
    rcases h.cols i hi with e | ⟨_, e⟩ | ⟨_, e, _⟩
    · rcases hcol1 i hi with e2 | e2
      · exact .inl (e.trans e2)
      · exact absurd (e.trans e2) (hng i hi)
    · exact absurd e (hng i hi)
    · exact .inr e
  have up : ∀ i : Nat, (i : Int) < C.a → f1 (colI C i) ≠ 0 → f (colI C i) = 2 := fun i hi hne => by
    rcases h02 i hi with e | e
    · exfalso
      rcases h.cols i hi with e1 | ⟨e1, _⟩ | ⟨_, e1, _⟩
      · exact hne (by rw [← e1]; exact e)
      · exact hne e1
      · rw [e] at e1; exact absurd e1 (by decide)
    · exact e
  have hinL : ∀ i : Nat, (i : Int) < C.a → f (colI C i) = 2 → i ∈ L := fun i hi e => by
    rcases h.cols i hi with e1 | ⟨_, e1⟩ | ⟨_, _, e1⟩
    · rcases hcol1 i hi with e2 | e2
      · rw [e1, e2] at e; exact absurd e (by decide)
      · rw [e1, e2] at e; exact absurd e (by decide)
    · rw [e1] at e; exact absurd e (by decide)
    · exact e1
  have tgt : ∀ w (j : Nat), ToCol C f w → w = 2 * (j : Int) + 1 → (j : Int) < C.a → f (colI C j) = 2 := fun w j hw e hj => by
    subst e
    obtain ⟨e1, e2⟩ := colP_of hC hj
    have := hw e2
    rw [e1] at this
    rcases h02 j hj with e3 | e3
    · exact absurd e3 this
    · exact e3
  refine ⟨⟨fun k h6 hk2 => (h.near k h6 hk2).trans (hoth k h6), fun i hi => ⟨h02 i hi, fun e => hK i hi (by rw [e]; decide), fun hR => ?_⟩⟩, h2⟩
  clear hi
  induction hR with
  | @base i hS hi =>
    rcases hS with ⟨j, j0, j1, ej⟩ | ⟨i', hi', e1, e2⟩
    · obtain ⟨e1, e2⟩ := colP_of hC hi
      have := hd j j0 j1 (by rw [ej]; exact e2)
      rw [ej, e1] at this
      exact up i hi this
    · have : i = i' := by omega
      subst this
      refine up i hi (fun e0 => ?_)
      rcases hr (colI C i) with e3 | ⟨e3, _⟩
      · rw [e3, e1] at e0; exact absurd e0 (by decide)
      · rw [e1] at e3; exact absurd e3 (by decide)
  | @car i j hR e hj ih =>
    have hm := hinL i hR.lt ih
    refine tgt _ j (h.edges i hm).1 ?_ hj
    rw [hoth _ (by rw [(carI_sp hC hR.lt).2.2]; simp)]; exact e
  | @cdr i j hR e hj ih =>
    have hm := hinL i hR.lt ih
    refine tgt _ j (h.edges i hm).2 ?_ hj
    rw [hoth _ (by rw [(cdrI_sp hC hR.lt).2.2]; simp)]; exact e
end Go.Proofs.YthdcapkchjamoaaDoor
/- Going through what is reached, depth first, as the document does: a row of words of which the last is taken, without memory. -/
namespace Go.Proofs.YthdcapkchjamoaaDoor
open Go Go.RowKit
set_option maxRecDepth 100000

/-- o: the cells that were come to; left: the words that are still to be looked at. -/
structure DfSt (C : Cf) (f : Nat → Int) (S : Int → Prop) (o : Nat → Bool) (left : List Int) : Prop where
  sound : ∀ i, o i = true → Rch C f S i
  src : ∀ w ∈ left, ∀ i : Nat, w = 2 * (i : Int) + 1 → (i : Int) < C.a → Rch C f S i
  base : ∀ i : Nat, S (2 * (i : Int) + 1) → (i : Int) < C.a → o i = true ∨ 2 * (i : Int) + 1 ∈ left
  car : ∀ i, o i = true → ∀ j : Nat, f (carI C i) = 2 * (j : Int) + 1 → (j : Int) < C.a → o j = true ∨ 2 * (j : Int) + 1 ∈ left
  cdr : ∀ i, o i = true → ∀ j : Nat, f (cdrI C i) = 2 * (j : Int) + 1 → (j : Int) < C.a → o j = true ∨ 2 * (j : Int) + 1 ∈ left
/-- A cell more. -/
def setO (o : Nat → Bool) (i : Nat) : Nat → Bool := fun j => if j = i then true else o j
theorem setO_at (o : Nat → Bool) (i : Nat) : setO o i i = true := by unfold setO; rw [if_pos rfl]
theorem setO_of {o : Nat → Bool} (i : Nat) {j : Nat} (h : o j = true) : setO o i j = true := by unfold setO; split; rfl; exact h
theorem setO_ne (o : Nat → Bool) {i j : Nat} (h : j ≠ i) : setO o i j = o j := by unfold setO; rw [if_neg h]
theorem DfSt.first {C : Cf} {f : Nat → Int} {S : Int → Prop} {l : List Int} (h : ∀ w, S w ↔ w ∈ l) : DfSt C f S (fun _ => false) l :=
  ⟨fun _ h => (by cases h), fun w hw i e hi => .base (by rw [← e]; exact (h w).2 hw) hi, fun i hS _ => .inr ((h _).1 hS), fun _ h => (by cases h), fun _ h => (by cases h)⟩
/-- A word that is no cell of the map. -/
theorem DfSt.skip {C : Cf} {f : Nat → Int} {S : Int → Prop} {o : Nat → Bool} {l : List Int} {w : Int} (h : DfSt C f S o (l ++ [w])) (hw : ¬ (w % 2 = 1 ∧ w / 2 < C.a)) : DfSt C f S o l := by
  have out : ∀ j : Nat, (j : Int) < C.a → o j = true ∨ 2 * (j : Int) + 1 ∈ l ++ [w] → o j = true ∨ 2 * (j : Int) + 1 ∈ l := fun j hj q => by
    rcases q with q | q
    · exact .inl q
    · rcases List.mem_append.1 q with q | q
      · exact .inr q
      · have e : 2 * (j : Int) + 1 = w := by simpa using q
        exact absurd ⟨by omega, by omega⟩ hw
  exact ⟨h.sound, fun v hv => h.src v (List.mem_append.2 (.inl hv)), fun i hS hi => out i hi (h.base i hS hi), fun i hi j e hj => out j hj (h.car i hi j e hj), fun i hi j e hj => out j hj (h.cdr i hi j e hj)⟩
/-- A cell that was come to. -/
theorem DfSt.again {C : Cf} {f : Nat → Int} {S : Int → Prop} {o : Nat → Bool} {l : List Int} {i : Nat} (h : DfSt C f S o (l ++ [2 * (i : Int) + 1])) (hi : o i = true) : DfSt C f S o l := by
  have out : ∀ j : Nat, o j = true ∨ 2 * (j : Int) + 1 ∈ l ++ [2 * (i : Int) + 1] → o j = true ∨ 2 * (j : Int) + 1 ∈ l := fun j q => by
    rcases q with q | q
    · exact .inl q
    · rcases List.mem_append.1 q with q | q
      · exact .inr q
      · have e : j = i := by have : 2 * (j : Int) + 1 = 2 * (i : Int) + 1 := (by simpa using q); omega
        rw [e]; exact .inl hi
  exact ⟨h.sound, fun v hv => h.src v (List.mem_append.2 (.inl hv)), fun i hS hi => out i (h.base i hS hi), fun i hi j e hj => out j (h.car i hi j e hj), fun i hi j e hj => out j (h.cdr i hi j e hj)⟩
/-- A cell that wasn't. -/
theorem DfSt.mark {C : Cf} {f : Nat → Int} {S : Int → Prop} {o : Nat → Bool} {l : List Int} {i : Nat} (h : DfSt C f S o (l ++ [2 * (i : Int) + 1])) (hi : (i : Int) < C.a) : DfSt C f S (setO o i) (l ++ [f (carI C i), f (cdrI C i)]) := by
  have hR : Rch C f S i := h.src _ (List.mem_append.2 (.inr (List.mem_singleton.2 rfl))) i rfl hi
  have out : ∀ j : Nat, o j = true ∨ 2 * (j : Int) + 1 ∈ l ++ [2 * (i : Int) + 1] → setO o i j = true ∨ 2 * (j : Int) + 1 ∈ l ++ [f (carI C i), f (cdrI C i)] := fun j q => by
    rcases q with q | q
    · exact .inl (setO_of i q)
    · rcases List.mem_append.1 q with q | q
      · exact .inr (List.mem_append.2 (.inl q))
      · have e : j = i := by have : 2 * (j : Int) + 1 = 2 * (i : Int) + 1 := (by simpa using q); omega
        rw [e]; exact .inl (setO_at o i)
  refine ⟨fun j hj => ?_, fun v hv j e hj => ?_, fun j hS hj => out j (h.base j hS hj), fun k hk j e hj => ?_, fun k hk j e hj => ?_⟩
  · by_cases e : j = i
    · rw [e]; exact hR
    · rw [setO_ne o e] at hj; exact h.sound j hj
  · rcases List.mem_append.1 hv with hv | hv
    · exact h.src v (List.mem_append.2 (.inl hv)) j e hj
    · have q : v = f (carI C i) ∨ v = f (cdrI C i) := by simpa using hv
      rcases q with q | q
      · exact .car hR (by rw [← q]; exact e) hj
      · exact .cdr hR (by rw [← q]; exact e) hj
  · by_cases e2 : k = i
    · subst e2; right; rw [← e]; simp
    · rw [setO_ne o e2] at hk; exact out j (h.car k hk j e hj)
  · by_cases e2 : k = i
    · subst e2; right; rw [← e]; simp
    · rw [setO_ne o e2] at hk; exact out j (h.cdr k hk j e hj)
/-- Nothing is left. -/
theorem DfSt.done {C : Cf} {f : Nat → Int} {S : Int → Prop} {o : Nat → Bool} (h : DfSt C f S o []) (i : Nat) : o i = true ↔ Rch C f S i := by
  refine ⟨h.sound i, fun hR => ?_⟩
  have no : ∀ j : Nat, o j = true ∨ 2 * (j : Int) + 1 ∈ ([] : List Int) → o j = true := fun j q => by
    rcases q with q | q
    · exact q
    · cases q
  induction hR with
  | base hS hi => exact no _ (h.base _ hS hi)
  | car _ e hj ih => exact no _ (h.car _ ih _ e hj)
  | cdr _ e hj ih => exact no _ (h.cdr _ ih _ e hj)
/-- How much there is to do at most: it becomes less with each word. -/
def dfM (a : Nat) (o : Nat → Bool) (n : Nat) : Nat := 2 * (List.range a).countP (fun i => !o i) + n
theorem countP_set {o : Nat → Bool} {i : Nat} (ho : o i = false) : ∀ {l : List Nat}, l.Nodup → i ∈ l → l.countP (fun j => !setO o i j) + 1 = l.countP (fun j => !o j)
  | [], _, h => by cases h
  | k :: l, hd, h => by
    obtain ⟨hk, hl⟩ := List.nodup_cons.1 hd
    by_cases e : k = i
    · subst e
      have same : l.countP (fun j => !setO o k j) = l.countP (fun j => !o j) := by
        apply List.countP_congr
        intro j hj
        rw [setO_ne o (fun q => hk (by rw [← q]; exact hj))]
      rw [List.countP_cons_of_neg (by rw [setO_at]; decide), List.countP_cons_of_pos (by rw [ho]; rfl), same]
    · have hm : i ∈ l := by
        rcases List.mem_cons.1 h with q | q
        · exact absurd q.symm e
        · exact q
      have ih := countP_set ho hl hm
      rw [List.countP_cons, List.countP_cons, setO_ne o e]
      omega
theorem dfM_mark {a : Nat} {o : Nat → Bool} {i : Nat} (hi : i < a) (ho : o i = false) (n : Nat) : dfM a (setO o i) (n + 2) = dfM a o n := by
  have := countP_set ho List.nodup_range (List.mem_range.2 hi)
  unfold dfM
  omega
theorem dfM_first (a n : Nat) : dfM a (fun _ => false) n = 2 * a + n := by
  unfold dfM
  have : (List.range a).countP (fun _ => !false) = a := by
    exact (List.countP_eq_length.2 (fun _ _ => rfl)).trans List.length_range
  rw [this]
theorem dfM_len (a : Nat) (o : Nat → Bool) (n : Nat) : n ≤ dfM a o n := by unfold dfM; omega
end Go.Proofs.YthdcapkchjamoaaDoor
