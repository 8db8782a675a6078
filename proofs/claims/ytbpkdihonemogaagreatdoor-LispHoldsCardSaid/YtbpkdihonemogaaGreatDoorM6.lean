/- Laid together: TickRef0, TickRef, GateCalls. -/
import Derived.Test.YtbpkdihonemogaaGreatDoorTickStep
import Derived.Test.YtbpkdihonemogaaGreatDoorM5
/- A step of the document's layer 11 from every line. -/
namespace Go.Proofs.YtbpkdihonemogaaGreatDoor
open Go Go.RowKit
set_option maxRecDepth 100000
attribute [local go_sem ↓] Go.wp_at_zero Go.wp_at_succ

end Go.Proofs.YtbpkdihonemogaaGreatDoor
/- A step of both as one function. -/
namespace Go.Proofs.YtbpkdihonemogaaGreatDoor
open Go Go.RowKit
set_option maxRecDepth 100000
attribute [local go_sem ↓] Go.wp_at_zero Go.wp_at_succ

/-- A step of layer 11. -/
def tickS (C : Cf) (s : Dy) (m : Mu) : Dy × Mu × Bool :=
  if m.l = 32 then (s.act C 4 3 1 0, { m with l := 33, m5 := z5 C.n 4 3 (s.f 3) }, true)
  else if m.l = 33 then (s.act C 1 4 0 0, (if z5 C.n 1 4 (s.f 4) = m.m5 then { m with l := 34 } else m), true)
  else if m.l = 37 then (s.act C 4 4 1 0, { m with l := 38 }, true)
  else if m.l = 41 then (s.act C 4 4 1 0, { m with l := 90 }, true)
  else (s, m, false)
theorem tickS_U {C : Cf} {s : Dy} (h : s.U) (m : Mu) : (tickS C s m).1.U := by
  unfold tickS
  have h1 : U64 1 := by unfold U64; omega
  split
  · exact h.act C 4 3 h1 u64_zero
  · split
    · exact h.act C 1 4 u64_zero u64_zero
    · split
      · exact h.act C 4 4 h1 u64_zero
      · split
        · exact h.act C 4 4 h1 u64_zero
        · exact h
theorem tick_c {w : World} {H A G : Nat} {C : Cf} {s : Dy} (hH : HAt w H A G C s) (hu : s.U) (m : Mu) :
    Calls Tryz.prog 69 #[.pointer (some ⟨H, 0, none⟩), m.v] w (HP w H A G C (tickS C s m).1 (.tuple #[(tickS C s m).2.1.v, .bool (tickS C s m).2.2])) := by
  obtain ⟨l, q1, q2, q3, q4, m1, m2, m3, m4, m5, p, bk, rt⟩ := m
  unfold tickS
  dsimp only
  by_cases e : l = 32
  · subst e; rw [if_pos rfl]; exact tStep_draw hH hu p bk q1 q2 q3 q4 m1 m2 m3 m4 m5 rt
  · rw [if_neg e]
    by_cases e2 : l = 33
    · subst e2; rw [if_pos rfl]
      by_cases hw : z5 C.n 1 4 (s.f 4) = m5
      · rw [if_pos hw]; exact tStep_won hH hu p bk q1 q2 q3 q4 m1 m2 m3 m4 m5 rt hw
      · rw [if_neg hw]; exact tStep_wait hH hu p bk q1 q2 q3 q4 m1 m2 m3 m4 m5 rt hw
    · rw [if_neg e2]
      by_cases e3 : l = 37
      · subst e3; rw [if_pos rfl]; exact tStep_give hH hu p bk q1 q2 q3 q4 m1 m2 m3 m4 m5 rt
      · rw [if_neg e3]
        by_cases e4 : l = 41
        · subst e4; rw [if_pos rfl]; exact tStep_up hH hu p bk q1 q2 q3 q4 m1 m2 m3 m4 m5 rt
        · rw [if_neg e4]; exact tStep_other hH l p bk q1 q2 q3 q4 m1 m2 m3 m4 m5 rt e e2 e3 e4
end Go.Proofs.YtbpkdihonemogaaGreatDoor
/- Package gate's calls but for Step: look, Inside, Begin, Says. -/
namespace Go.Proofs.YtbpkdihonemogaaGreatDoor
open Go Go.RowKit
set_option maxRecDepth 100000
attribute [local go_sem ↓] Go.wp_at_zero Go.wp_at_succ

theorem look_c {w : World} {H A G : Nat} {C : Cf} {s : Dy} (hH : HAt w H A G C s) (hu : s.U) (p q : Int) :
    Calls Tryz.prog 90 #[.pointer (some ⟨H, 0, none⟩), .int .i64 p, .int .i64 q] w (HP w H A G C (s.act C 1 1 0 0) (.int .i64 (if z5 C.n 1 1 (s.f 1) = 0 then p else q))) := by
  have HD : Hid (Calls Tryz.prog 92 #[.pointer (some ⟨H, 0, none⟩), .int .i64 1] w (HP w H A G C (s.act C 1 1 0 0) (.int .u64 (z5 C.n 1 1 (s.f 1))))) := Lib.hid (hLoad_c (w := w) hH hu 1)
  generalize (s.act C 1 1 0 0) = s' at *
  generalize (z5 C.n 1 1 (s.f 1)) = T at *
  clear hH hu
  by_cases h : T = 0
  · subst h
    rw [if_pos rfl]
    go_enter Tryz.func90, Tryz.ntmps90
    go_wp2_with fail
    refine HD.out.mono ?_
    rintro e V2 ⟨rfl, hF, hs⟩
    have HF := Lib.hid hF; have HQ := Lib.hid hs
    clear hF hs HD
    go_wp2_with fail
    go_ret
    exact ⟨rfl, HF.out, HQ.out⟩
  · rw [if_neg h]
    have h0 : (T == 0) = false := by simpa using h
    go_enter Tryz.func90, Tryz.ntmps90
    go_wp2_with fail
    refine HD.out.mono ?_
    rintro e V2 ⟨rfl, hF, hs⟩
    have HF := Lib.hid hF; have HQ := Lib.hid hs
    clear hF hs HD
    go_wp2_with fail
    go_ret
    exact ⟨rfl, HF.out, HQ.out⟩
/-- Is a mutator at this line inside? -/
def insB (l : Int) : Bool := l == 3 || decide (5 < l)
theorem gBegin_c (q1 q2 q3 q4 : Int) (w : World) :
    Calls Tryz.prog 19 #[.agg #[.int .i64 q1, .int .i64 q2, .int .i64 q3, .int .i64 q4]] w fun e w' => e = .returned (mutV 1 0 0 q1 q2 q3 q4 0 0 0 0 0 0) ∧ Below w.heap.size w w' := by
  go_enter Tryz.func19, Tryz.ntmps19
  go_wp2_with fail
  refine bodyPost_ret (v := (mutV 1 0 0 q1 q2 q3 q4 0 0 0 0 0 0)) (by simp [results, Tryz.f19, go_sem]) rfl ?_
  refine ⟨rfl, ?_⟩
  exact below_on (below_new _ _) _
end Go.Proofs.YtbpkdihonemogaaGreatDoor
