/- The roots gone through, without memory. -/
import Derived.Test.YtganbjgkobmdkaaDoorM2
namespace Go.Proofs.YtganbjgkobmdkaaDoor
open Go Go.RowKit
set_option maxRecDepth 100000

theorem rootsN_pos {C : Cf} (hC : CfOK C) : 1 ≤ rootsN C ∧ rootsN C ≤ 5000 := by
  have hp := hC.right.prod
  have hr := hC.right
  unfold Right at hr
  unfold rootsN
  omega
/-- Where a root lies: no colour. -/
theorem sp_root {C : Cf} (hC : CfOK C) {j : Int} (h0 : 0 ≤ j) (h1 : j < rootsN C) : 0 ≤ rootP C.a C.b C.c C.d j ∧ rootP C.a C.b C.c C.d j < C.n ∧ (spotF C.b C.c C.d ((rootP C.a C.b C.c C.d j).toNat : Int)).1 < 4 ∧ (spotF C.b C.c C.d ((rootP C.a C.b C.c C.d j).toNat : Int)).1 ≠ 1 ∧ (rootP C.a C.b C.c C.d j).toNat ≠ 2 := by
  have hr := hC.right
  have hp := hr.prod
  have hs := hC.size
  have hq := hr
  unfold Right at hq
  unfold rootsN at h1
  have e : rootP C.a C.b C.c C.d j = if j = 0 then 0 else 4 + C.b + j := by unfold rootP; rw [if_pos ⟨⟨h0, h1⟩, hr⟩]
  by_cases hj : j = 0
  · rw [e, if_pos hj]
    refine ⟨by omega, by omega, ?_, ?_, by decide⟩
    · rw [show ((Int.toNat 0 : Nat) : Int) = ((0 : Nat) : Int) from rfl, sp_once _ _ _ (by omega)]; simp
    · rw [show ((Int.toNat 0 : Nat) : Int) = ((0 : Nat) : Int) from rfl, sp_once _ _ _ (by omega)]; simp
  · rw [e, if_neg hj]
    have ht : ((4 + C.b + j).toNat : Int) = 4 + C.b + j := by omega
    refine ⟨by omega, by omega, ?_, ?_, by omega⟩
    · rw [ht]
      by_cases hg : j ≤ C.d
      · rw [spot_glob (by omega) (by omega) (by omega)]; simp
      · unfold spotF; rw [if_neg (by omega), if_neg (by omega), if_neg (by omega), if_pos (by omega)]; simp
    · rw [ht]
      by_cases hg : j ≤ C.d
      · rw [spot_glob (by omega) (by omega) (by omega)]; simp
      · unfold spotF; rw [if_neg (by omega), if_neg (by omega), if_neg (by omega), if_pos (by omega)]; simp
/-- The colour's place of a word: a cell's of the map, or none. -/
def colP (C : Cf) (w : Int) : Int := fieldP C.a C.b C.c C.d w.toNat 2
theorem colP_spot {C : Cf} (hC : CfOK C) {w : Int} (h : 0 ≤ colP C w) : colP C w < C.n ∧ (spotF C.b C.c C.d ((colP C w).toNat : Int)).1 = 6 ∧ isC w.toNat ∧ ((w.toNat / 2 : Nat) : Int) < C.a ∧ colP C w = partP C.a C.b C.c C.d 2 ((w.toNat / 2 : Nat) : Int) := by
  unfold colP fieldP at *
  by_cases hc : isC w.toNat ∧ (0 : Int) ≤ 2 ∧ (2 : Int) ≤ 2
  · rw [if_pos hc] at h ⊢
    by_cases hi : ((w.toNat / 2 : Nat) : Int) < C.a
    · obtain ⟨e1, e2, e3⟩ := sp_part hC (k := 2) (i := ((w.toNat / 2 : Nat) : Int)) (by omega) hi (by omega) (by omega)
      exact ⟨e3, by rw [e1]; rfl, hc.1, hi, rfl⟩
    · have e : partP C.a C.b C.c C.d 2 ((w.toNat / 2 : Nat) : Int) = -1 := by unfold partP; rw [if_neg (fun h => hi h.1.2)]
      rw [e] at h; omega
  · rw [if_neg hc] at h; omega
/-- A cas of a colour from White to Grey. -/
theorem cas_col {C : Cf} (f : Nat → Int) (w : Int) : wordsQ C.n f 3 (colP C w) 0 1 = if okD C.n 3 (colP C w) ∧ f (colP C w).toNat = 0 then upd f (colP C w).toNat 1 else f := by
  unfold wordsQ
  by_cases ho : okD C.n 3 (colP C w)
  · rw [if_pos ho]
    show (if f _ = 0 then upd f _ 1 else f) = _
    by_cases h0 : f (colP C w).toNat = 0
    · rw [if_pos h0, if_pos ⟨ho, h0⟩]
    · rw [if_neg h0, if_neg (fun h => h0 h.2)]
  · rw [if_neg ho, if_neg (fun h => ho h.1)]
/-- A root's word at first. -/
def rootW (C : Cf) (f : Nat → Int) (i : Int) : Int := f (rootP C.a C.b C.c C.d i).toNat
/-- Nothing but root's cells' colours may have turned, from White to Grey. -/
def RtNear (C : Cf) (f0 f : Nat → Int) : Prop := ∀ k : Nat, f k = f0 k ∨ (f0 k = 0 ∧ f k = 1 ∧ ∃ i, 0 ≤ i ∧ i < rootsN C ∧ (k : Int) = colP C (rootW C f0 i))
theorem RtNear.root {C : Cf} (hC : CfOK C) {f0 f : Nat → Int} (h : RtNear C f0 f) {j : Int} (h0 : 0 ≤ j) (h1 : j < rootsN C) : rootW C f j = rootW C f0 j := by
  rcases h (rootP C.a C.b C.c C.d j).toNat with e | ⟨_, _, i, _, _, e⟩
  · exact e
  · have e1 := (sp_root hC h0 h1).2.2.1
    have e2 := (colP_spot hC (w := rootW C f0 i) (by omega)).2.1
    have e3 : ((colP C (rootW C f0 i)).toNat : Int) = ((rootP C.a C.b C.c C.d j).toNat : Int) := by omega
    rw [e3] at e2
    omega
/-- How many steps the first k roots take. -/
def stepsN (C : Cf) (f0 : Nat → Int) : Nat → Nat
  | 0 => 0
  | k + 1 => stepsN C f0 k + (if isC (rootW C f0 k).toNat then 2 else 1)
theorem stepsN_le (C : Cf) (f0 : Nat → Int) : ∀ k, stepsN C f0 k ≤ 2 * k ∧ k ≤ stepsN C f0 k
  | 0 => ⟨Nat.le_refl _, Nat.le_refl _⟩
  | k + 1 => by
    have := stepsN_le C f0 k
    show stepsN C f0 k + _ ≤ _ ∧ _ ≤ stepsN C f0 k + _
    by_cases h : isC (rootW C f0 k).toNat
    · rw [if_pos h]; omega
    · rw [if_neg h]; omega
theorem stepsN_mono (C : Cf) (f0 : Nat → Int) {j k : Nat} (h : j ≤ k) : stepsN C f0 j + (k - j) ≤ stepsN C f0 k := by
  induction k with
  | zero => have : j = 0 := by omega
            subst this; simp
  | succ k ih =>
    by_cases e : j = k + 1
    · subst e; simp
    · have := ih (by omega)
      have h2 : stepsN C f0 k + 1 ≤ stepsN C f0 (k + 1) := by
        show _ ≤ stepsN C f0 k + _
        split <;> omega
      omega
/-- How far going through the roots is, behind n steps. -/
structure RtSt (C : Cf) (f0 f : Nat → Int) (n : Nat) (x : Co) : Prop where
  near : RtNear C f0 f
  line : (x.l = 1 ∧ 0 ≤ x.j ∧ x.j < rootsN C ∧ n = stepsN C f0 x.j.toNat) ∨ (x.l = 2 ∧ 0 ≤ x.j ∧ x.j < rootsN C ∧ n = stepsN C f0 x.j.toNat + 1 ∧ x.p = rootW C f0 x.j ∧ isC x.p.toNat) ∨ (x.l = 3 ∧ x.j = rootsN C ∧ n = stepsN C f0 x.j.toNat)
  done : ∀ i, 0 ≤ i → i < x.j → 0 ≤ colP C (rootW C f0 i) → f (colP C (rootW C f0 i)).toNat ≠ 0
theorem RtSt.first (C : Cf) (hC : CfOK C) (f0 : Nat → Int) (x : Co) (hl : x.l = 1) (hj : x.j = 0) : RtSt C f0 f0 0 x :=
  ⟨fun _ => .inl rfl, .inl ⟨hl, by omega, by have := rootsN_pos hC; omega, by rw [hj]; rfl⟩, fun i h0 h1 => by omega⟩
theorem RtSt.go {C : Cf} (hC : CfOK C) {s : Dy} {f0 : Nat → Int} {n : Nat} {x : Co} (h : RtSt C f0 s.f n x) (hl : x.l = 1 ∨ x.l = 2) :
    ∃ s' x', rootS C s x = (s', x', true) ∧ RtSt C f0 s'.f (n + 1) x' ∧ n < stepsN C f0 (rootsN C).toNat := by
  rcases h.line with ⟨e, j0, j1, hn⟩ | ⟨e, j0, j1, hn, hp, hc⟩ | ⟨e, _⟩
  · have hroot := h.near.root hC j0 j1
    obtain ⟨r0, r1, _⟩ := sp_root hC j0 j1
    have hld : ldP C s (rootP C.a C.b C.c C.d x.j) = rootW C f0 x.j := by
      unfold ldP; rw [z5_in _ (by omega) ⟨r0, r1⟩]; exact hroot
    have hm := stepsN_mono C f0 (j := x.j.toNat) (k := (rootsN C).toNat) (by omega)
    have hsz : n < stepsN C f0 (rootsN C).toNat := by omega
    have hw : (s.act C 1 (rootP C.a C.b C.c C.d x.j) 0 0).f = s.f := words_load _ _ _
    by_cases hc : isC (rootW C f0 x.j).toNat
    · refine ⟨s.act C 1 (rootP C.a C.b C.c C.d x.j) 0 0, { x with p := rootW C f0 x.j, l := 2 }, ?_, ⟨?_, .inr (.inl ⟨rfl, j0, j1, by rw [hn], rfl, hc⟩), ?_⟩, hsz⟩
      · unfold rootS; rw [if_pos e, hld, if_pos hc]
      · rw [hw]; exact h.near
      · rw [hw]; exact h.done
    · refine ⟨s.act C 1 (rootP C.a C.b C.c C.d x.j) 0 0, nextRoot C x, ?_, ⟨?_, ?_, ?_⟩, hsz⟩
      · unfold rootS; rw [if_pos e, hld, if_neg hc]
      · rw [hw]; exact h.near
      · have hs : n + 1 = stepsN C f0 (x.j + 1).toNat := by
          rw [show (x.j + 1).toNat = x.j.toNat + 1 by omega]
          show n + 1 = stepsN C f0 x.j.toNat + (if isC (rootW C f0 (x.j.toNat : Nat)).toNat then 2 else 1)
          rw [show ((x.j.toNat : Nat) : Int) = x.j by omega, if_neg hc, hn]
        unfold nextRoot
        by_cases hj : x.j + 1 < rootsN C
        · rw [if_pos hj]; exact .inl ⟨rfl, by show 0 ≤ x.j + 1; omega, hj, hs⟩
        · rw [if_neg hj]; exact .inr (.inr ⟨rfl, by show x.j + 1 = _; omega, hs⟩)
      · intro i i0 i1 hcol
        rw [hw]
        have i1 : i < x.j + 1 := i1
        by_cases hi : i = x.j
        · subst hi; exact absurd (colP_spot hC hcol).2.2.1 hc
        · exact h.done i i0 (by omega) hcol
  · have hm := stepsN_mono C f0 (j := x.j.toNat + 1) (k := (rootsN C).toNat) (by omega)
    have hs : n + 1 = stepsN C f0 (x.j + 1).toNat := by
      rw [show (x.j + 1).toNat = x.j.toNat + 1 by omega]
      show n + 1 = stepsN C f0 x.j.toNat + (if isC (rootW C f0 (x.j.toNat : Nat)).toNat then 2 else 1)
      rw [show ((x.j.toNat : Nat) : Int) = x.j by omega, ← hp, if_pos hc, hn]
    have hsz : n < stepsN C f0 (rootsN C).toNat := by
      rw [show (x.j + 1).toNat = x.j.toNat + 1 by omega] at hs
      omega
    have hw : (s.act C 3 (fieldP C.a C.b C.c C.d x.p.toNat 2) 0 1).f = if okD C.n 3 (colP C x.p) ∧ s.f (colP C x.p).toNat = 0 then upd s.f (colP C x.p).toNat 1 else s.f := cas_col s.f x.p
    refine ⟨s.act C 3 (fieldP C.a C.b C.c C.d x.p.toNat 2) 0 1, nextRoot C x, ?_, ⟨?_, ?_, ?_⟩, hsz⟩
    · unfold rootS; rw [if_neg (by omega), if_pos e]
    · rw [hw]
      by_cases hk : okD C.n 3 (colP C x.p) ∧ s.f (colP C x.p).toNat = 0
      · rw [if_pos hk]
        intro k
        by_cases hkk : k = (colP C x.p).toNat
        · have ho := hk.1
          unfold okD at ho
          refine .inr ⟨?_, by unfold upd; rw [if_pos hkk], x.j, j0, j1, by rw [← hp]; omega⟩
          rcases h.near k with e1 | ⟨e1, _⟩
          · rw [← e1, hkk]; exact hk.2
          · exact e1
        · rcases h.near k with e1 | e1
          · exact .inl (by unfold upd; rw [if_neg hkk]; exact e1)
          · exact .inr ⟨e1.1, by unfold upd; rw [if_neg hkk]; exact e1.2.1, e1.2.2⟩
      · rw [if_neg hk]; exact h.near
    · unfold nextRoot
      by_cases hj : x.j + 1 < rootsN C
      · rw [if_pos hj]; exact .inl ⟨rfl, by show 0 ≤ x.j + 1; omega, hj, hs⟩
      · rw [if_neg hj]; exact .inr (.inr ⟨rfl, by show x.j + 1 = _; omega, hs⟩)
    · intro i i0 i1 hcol
      have i1 : i < x.j + 1 := i1
      rw [hw]
      by_cases hk : okD C.n 3 (colP C x.p) ∧ s.f (colP C x.p).toNat = 0
      · rw [if_pos hk]
        unfold upd
        by_cases hkk : (colP C (rootW C f0 i)).toNat = (colP C x.p).toNat
        · rw [if_pos hkk]; decide
        · rw [if_neg hkk]
          by_cases hi : i = x.j
          · subst hi; rw [← hp] at hkk; exact absurd rfl hkk
          · exact h.done i i0 (by omega) hcol
      · rw [if_neg hk]
        by_cases hi : i = x.j
        · subst hi
          rw [← hp] at hcol ⊢
          intro h0
          exact hk ⟨⟨by omega, by omega, hcol, (colP_spot hC hcol).1⟩, h0⟩
        · exact h.done i i0 (by omega) hcol
  · omega
/-- Gone through once more, nothing turns. -/
theorem RtNear.quiet {C : Cf} {f1 f : Nat → Int} (h : RtNear C f1 f) (hd : ∀ i, 0 ≤ i → i < rootsN C → 0 ≤ colP C (rootW C f1 i) → f1 (colP C (rootW C f1 i)).toNat ≠ 0) : f = f1 := by
  funext k
  rcases h k with e | ⟨e1, _, i, i0, i1, e⟩
  · exact e
  · exfalso
    refine hd i i0 i1 (by omega) ?_
    rw [← e, Int.toNat_natCast]; exact e1
end Go.Proofs.YtganbjgkobmdkaaDoor
