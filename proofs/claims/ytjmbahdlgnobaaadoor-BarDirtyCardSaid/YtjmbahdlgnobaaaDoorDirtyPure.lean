/- The gate shut and opened with nobody about, without memory. -/
import Derived.Test.YtjmbahdlgnobaaaDoorM2
namespace Go.Proofs.YtjmbahdlgnobaaaDoor
open Go Go.RowKit
set_option maxRecDepth 100000

theorem sp_in {C : Cf} (hC : CfOK C) {m : Nat} (hm : (m : Int) < C.b) : inP C.a C.b C.c C.d m = 5 + m ∧ 5 + m < C.n := by
  have hr := hC.right
  have hp := hr.prod
  have hs := hC.size
  rw [inP_in hr m (by omega) hm]
  unfold Right at hr
  exact ⟨rfl, by omega⟩
/-- Behind n steps from the line 10 on, all ins idle: fl: how many flips there were. -/
def DtSt (C : Cf) (f0 f : Nat → Int) (n : Nat) (fl : Int) (x : Co) : Prop :=
  ((n : Int) < C.b ∧ x.l = 10 ∧ x.m = n ∧ f = f0 ∧ fl = 0) ∨ ((n : Int) = C.b ∧ x.l = 11 ∧ x.m = 0 ∧ f = f0 ∧ fl = 0) ∨
  (∃ i : Nat, (n : Int) = C.b + 1 + i ∧ (i : Int) < C.b ∧ x.l = 12 ∧ x.m = i ∧ f = upd f0 1 1 ∧ fl = 0) ∨ ((n : Int) = 2 * C.b + 1 ∧ x.l = 13 ∧ f = upd f0 1 1 ∧ fl = 0) ∨
  ((n : Int) = 2 * C.b + 2 ∧ f = upd f0 1 1 ∧ ((x.l = 14 ∧ f0 2 = 0 ∧ fl = 1) ∨ (x.l = 15 ∧ f0 2 ≠ 0 ∧ fl = 0))) ∨
  ((n : Int) = 2 * C.b + 3 ∧ f = upd f0 1 0 ∧ ((x.l = 20 ∧ x.c = 0 ∧ f0 2 = 0 ∧ fl = 1) ∨ (x.l = 3 ∧ f0 2 ≠ 0 ∧ fl = 0)))
theorem DtSt.go {C : Cf} (hC : CfOK C) {s : Dy} {f0 : Nat → Int} (hid : ∀ m : Nat, (m : Int) < C.b → f0 (5 + m) % 4 = 0) {n : Nat} {fl : Int} {x : Co} (h : DtSt C f0 s.f n fl x) (hn : (n : Int) < 2 * C.b + 3) :
    ∃ s' x' b, shutS C s x = (s', x', b, true) ∧ DtSt C f0 s'.f (n + 1) (fl + if b then 1 else 0) x' := by
  have h4 := hC.a4
  have h5 := hC.four
  obtain ⟨xl, xj, xc, xm, xa, xp, xfd, xtl, xcy⟩ := x
  have hlk : ∀ i, (s.act C 1 i 0 0).f = s.f := fun i => words_load _ _ _
  have hld : ∀ m : Nat, (m : Int) < C.b → s.f (5 + m) = f0 (5 + m) → ldP C s (inP C.a C.b C.c C.d m) = f0 (5 + m) := fun m hm e => by
    obtain ⟨e1, e2⟩ := sp_in hC hm
    unfold ldP
    rw [e1, z5_in _ (by omega) (by omega), show (5 + (m : Int)).toNat = 5 + m by omega]; exact e
  have hst : ∀ z, (s.act C 2 1 z 0).f = upd s.f 1 z := fun z => words_store C.n s.f 1 z (by omega)
  rcases h with ⟨hnb, a, b, c, d⟩ | ⟨hnb, a, b, c, d⟩ | ⟨i, hnb, hi, a, b, c, d⟩ | ⟨hnb, a, c, d⟩ | ⟨hnb, c, d⟩ | ⟨hnb, _⟩
  · dsimp only at a b; subst a; subst b
    have el := hld n hnb (by rw [c])
    have h0 := hid n hnb
    refine ⟨s.act C 1 (inP C.a C.b C.c C.d n) 0 0, nextMut C ⟨10, xj, xc, n, 0, xp, xfd, xtl, xcy⟩ 10 11, false, by simp [shutS, el, h0], ?_⟩
    rw [hlk]
    unfold nextMut
    dsimp only
    by_cases e : (n : Int) + 1 < C.b
    · rw [if_pos e]; exact .inl ⟨by omega, rfl, by simp, c, by simp [d]⟩
    · rw [if_neg e]; exact .inr (.inl ⟨by omega, rfl, rfl, c, by simp [d]⟩)
  · dsimp only at a b; subst a; subst b
    refine ⟨s.act C 2 1 1 0, ⟨12, xj, xc, 0, xa, xp, xfd, xtl, xcy⟩, false, by simp [shutS], .inr (.inr (.inl ⟨0, by omega, by omega, rfl, rfl, by rw [hst, c], by simp [d]⟩))⟩
  · dsimp only at a b; subst a; subst b
    have e1 : s.f (5 + i) = f0 (5 + i) := by rw [c]; unfold upd; rw [if_neg (by omega)]
    have el := hld i hi e1
    have h0 := hid i hi
    refine ⟨s.act C 1 (inP C.a C.b C.c C.d i) 0 0, nextMut C ⟨12, xj, xc, i, xa, xp, xfd, xtl, xcy⟩ 12 13, false, by simp [shutS, el, h0], ?_⟩
    rw [hlk]
    unfold nextMut
    dsimp only
    by_cases e : (i : Int) + 1 < C.b
    · rw [if_pos e]; exact .inr (.inr (.inl ⟨i + 1, by omega, by omega, rfl, by simp, c, by simp [d]⟩))
    · rw [if_neg e]; exact .inr (.inr (.inr (.inl ⟨by omega, rfl, c, by simp [d]⟩)))
  · dsimp only at a; subst a
    have el : ldP C s 2 = f0 2 := by
      unfold ldP; rw [z5_in _ (by omega) (by omega), c]; rfl
    by_cases hz : f0 2 = 0
    · refine ⟨s.act C 1 2 0 0, ⟨14, xj, xc, xm, xa, xp, xfd, xtl, xcy⟩, true, by simp [shutS, el, hz], .inr (.inr (.inr (.inr (.inl ⟨by omega, by rw [hlk, c], .inl ⟨rfl, hz, by simp [d]⟩⟩))))⟩
    · refine ⟨s.act C 1 2 0 0, ⟨15, xj, xc, xm, xa, xp, xfd, xtl, xcy⟩, false, by simp [shutS, el, hz], .inr (.inr (.inr (.inr (.inl ⟨by omega, by rw [hlk, c], .inr ⟨rfl, hz, by simp [d]⟩⟩))))⟩
  · have e2 : upd (upd f0 1 1) 1 0 = upd f0 1 0 := by
      funext k; unfold upd; by_cases e : k = 1
      · rw [if_pos e, if_pos e]
      · rw [if_neg e, if_neg e, if_neg e]
    rcases d with ⟨a, b, d⟩ | ⟨a, b, d⟩
    · dsimp only at a; subst a
      exact ⟨s.act C 2 1 0 0, ⟨20, xj, 0, xm, xa, xp, xfd, xtl, xcy⟩, false, by simp [shutS], .inr (.inr (.inr (.inr (.inr ⟨by omega, by rw [hst, c, e2], .inl ⟨rfl, rfl, b, by simp [d]⟩⟩))))⟩
    · dsimp only at a; subst a
      exact ⟨s.act C 2 1 0 0, ⟨3, xj, xc, xm, xa, xp, xfd, xtl, xcy⟩, false, by simp [shutS], .inr (.inr (.inr (.inr (.inr ⟨by omega, by rw [hst, c, e2], .inr ⟨rfl, b, by simp [d]⟩⟩))))⟩
  · omega
end Go.Proofs.YtjmbahdlgnobaaaDoor
