/- A step of the document's layer 10 from every line; a step of both as one function. -/
import Derived.Test.YtbpooljohjkbjaaGreatDoorM4
import Derived.Test.YtbpooljohjkbjaaGreatDoorBarStep
namespace Go.Proofs.YtbpooljohjkbjaaGreatDoor
open Go Go.RowKit
set_option maxRecDepth 100000
attribute [local go_sem ↓] Go.wp_at_zero Go.wp_at_succ
def barS (C : Cf) (s : Dy) (m : Mu) : Dy × Mu × Bool :=
  if m.l = 80 then (s.act C 3 (fieldP C.a C.b C.c C.d m.p.toNat 2) 0 1, (if casB C.n s.f (fieldP C.a C.b C.c C.d m.p.toNat 2) 0 then { m with l := 81, p := 0 } else { m with l := m.bk, p := 0, bk := 0 }), true)
  else if m.l = 81 then (s.act C 2 2 1 0, { m with l := m.bk, p := 0, bk := 0 }, true)
  else (s, m, false)
theorem barS_U {C : Cf} {s : Dy} (h : s.U) (m : Mu) : (barS C s m).1.U := by
  unfold barS
  by_cases e : m.l = 80
  · rw [if_pos e]; exact h.act C 3 _ u64_zero (by unfold U64; omega)
  · rw [if_neg e]
    by_cases e2 : m.l = 81
    · rw [if_pos e2]; exact h.act C 2 2 (by unfold U64; omega) u64_zero
    · rw [if_neg e2]; exact h
theorem bar_c {w : World} {H A G : Nat} {C : Cf} {s : Dy} (hH : HAt w H A G C s) (hu : s.U) (hS : SpansAt w) (m : Mu) (hp : U64 m.p) :
    Calls Tryz.prog 110 #[.pointer (some ⟨H, 0, none⟩), m.v] w (HP w H A G C (barS C s m).1 (.tuple #[(barS C s m).2.1.v, .bool (barS C s m).2.2])) := by
  obtain ⟨l, q1, q2, q3, q4, m1, m2, m3, m4, m5, p, bk, rt⟩ := m
  unfold barS
  dsimp only at hp ⊢
  by_cases e : l = 80
  · subst e
    obtain ⟨v, rfl, hv⟩ : ∃ v : Nat, p = v ∧ v < 18446744073709551616 := by obtain ⟨h1, h2⟩ := hp; exact ⟨p.toNat, by omega, by omega⟩
    have := Step_shade hH hu hS v hv bk q1 q2 q3 q4 m1 m2 m3 m4 m5 rt
    simp only [Int.toNat_natCast, if_true]
    by_cases hc : casB C.n s.f (fieldP C.a C.b C.c C.d v 2) 0 = true
    · rw [if_pos hc, if_pos hc] at this; rw [if_pos hc]; exact this
    · rw [if_neg hc, if_neg hc] at this; rw [if_neg hc]; exact this
  · rw [if_neg e]
    by_cases e2 : l = 81
    · subst e2; rw [if_pos rfl]; exact Step_soil hH hu p bk q1 q2 q3 q4 m1 m2 m3 m4 m5 rt
    · rw [if_neg e2]; exact Step_other hH l p bk q1 q2 q3 q4 m1 m2 m3 m4 m5 rt e e2
end Go.Proofs.YtbpooljohjkbjaaGreatDoor
