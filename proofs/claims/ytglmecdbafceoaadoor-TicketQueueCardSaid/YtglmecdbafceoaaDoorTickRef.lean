/- A step of both as one function. -/
import Derived.Test.YtglmecdbafceoaaDoorTickRef0
namespace Go.Proofs.YtglmecdbafceoaaDoor
open Go Go.RowKit
set_option maxRecDepth 100000
attribute [local go_sem ↓] Go.wp_at_zero Go.wp_at_succ

/-- A step of layer 11. -/
def tickS (C : Cf) (s : Dy) (m : Mu) : Dy × Mu × Bool :=
  if m.l = 32 then (s.act C 4 3 1 0, { m with l := 33, m5 := z5 C.n 4 3 (s.f 3) }, true)
  else if m.l = 33 then (s.act C 1 4 0 0, (if z5 C.n 1 4 (s.f 4) = m.m5 then { m with l := 34 } else m), true)
  else if m.l = 37 then (s.act C 4 4 1 0, { m with l := 38 }, true)
  else if m.l = 41 then (s.act C 4 4 1 0, { m with l := 90 }, true)
  else (s, m, false)
theorem tickS_U {C : Cf} {s : Dy} (h : s.U) (m : Mu) : (tickS C s m).1.U := by
  unfold tickS
  have h1 : U64 1 := by unfold U64; omega
  split
  · exact h.act C 4 3 h1 u64_zero
  · split
    · exact h.act C 1 4 u64_zero u64_zero
    · split
      · exact h.act C 4 4 h1 u64_zero
      · split
        · exact h.act C 4 4 h1 u64_zero
        · exact h
theorem tick_c {w : World} {H A G : Nat} {C : Cf} {s : Dy} (hH : HAt w H A G C s) (hu : s.U) (m : Mu) :
    Calls Tryd.prog 10 #[.pointer (some ⟨H, 0, none⟩), m.v] w (HP w H A G C (tickS C s m).1 (.tuple #[(tickS C s m).2.1.v, .bool (tickS C s m).2.2])) := by
  obtain ⟨l, q1, q2, q3, q4, m1, m2, m3, m4, m5, p, bk, rt⟩ := m
  unfold tickS
  dsimp only
  by_cases e : l = 32
  · subst e; rw [if_pos rfl]; exact tStep_draw hH hu p bk q1 q2 q3 q4 m1 m2 m3 m4 m5 rt
  · rw [if_neg e]
    by_cases e2 : l = 33
    · subst e2; rw [if_pos rfl]
      by_cases hw : z5 C.n 1 4 (s.f 4) = m5
      · rw [if_pos hw]; exact tStep_won hH hu p bk q1 q2 q3 q4 m1 m2 m3 m4 m5 rt hw
      · rw [if_neg hw]; exact tStep_wait hH hu p bk q1 q2 q3 q4 m1 m2 m3 m4 m5 rt hw
    · rw [if_neg e2]
      by_cases e3 : l = 37
      · subst e3; rw [if_pos rfl]; exact tStep_give hH hu p bk q1 q2 q3 q4 m1 m2 m3 m4 m5 rt
      · rw [if_neg e3]
        by_cases e4 : l = 41
        · subst e4; rw [if_pos rfl]; exact tStep_up hH hu p bk q1 q2 q3 q4 m1 m2 m3 m4 m5 rt
        · rw [if_neg e4]; exact tStep_other hH l p bk q1 q2 q3 q4 m1 m2 m3 m4 m5 rt e e2 e3 e4
theorem rtick_c {w : World} {X : Nat} {va : Option Addr} {cap N : Nat} {C : Cf} {s : Dy} (hH : RAt w X va cap N C s) (hL : ∀ R, va = some ⟨R, 0, none⟩ → R < w.heap.size) (m : Mu) :
    Calls Tryd.prog 11 #[.pointer (some ⟨X, 0, none⟩), m.v] w (RP w X va cap N C (tickS C s m).1 (.tuple #[(tickS C s m).2.1.v, .bool (tickS C s m).2.2])) := by
  obtain ⟨l, q1, q2, q3, q4, m1, m2, m3, m4, m5, p, bk, rt⟩ := m
  unfold tickS
  dsimp only
  by_cases e : l = 32
  · subst e; rw [if_pos rfl]; exact rStep_draw hH hL p bk q1 q2 q3 q4 m1 m2 m3 m4 m5 rt
  · rw [if_neg e]
    by_cases e2 : l = 33
    · subst e2; rw [if_pos rfl]
      by_cases hw : z5 C.n 1 4 (s.f 4) = m5
      · rw [if_pos hw]; exact rStep_won hH hL p bk q1 q2 q3 q4 m1 m2 m3 m4 m5 rt hw
      · rw [if_neg hw]; exact rStep_wait hH hL p bk q1 q2 q3 q4 m1 m2 m3 m4 m5 rt hw
    · rw [if_neg e2]
      by_cases e3 : l = 37
      · subst e3; rw [if_pos rfl]; exact rStep_give hH hL p bk q1 q2 q3 q4 m1 m2 m3 m4 m5 rt
      · rw [if_neg e3]
        by_cases e4 : l = 41
        · subst e4; rw [if_pos rfl]; exact rStep_up hH hL p bk q1 q2 q3 q4 m1 m2 m3 m4 m5 rt
        · rw [if_neg e4]; exact rStep_other hH l p bk q1 q2 q3 q4 m1 m2 m3 m4 m5 rt e e2 e3 e4
end Go.Proofs.YtglmecdbafceoaaDoor
