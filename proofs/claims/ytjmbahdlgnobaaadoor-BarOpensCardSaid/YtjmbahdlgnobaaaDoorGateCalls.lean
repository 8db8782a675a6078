/- Package gate's calls but for Step: look, Inside, Begin, Says. -/
import Derived.Test.YtjmbahdlgnobaaaDoorM2
import Derived.Test.YtjmbahdlgnobaaaDoorGateMap
namespace Go.Proofs.YtjmbahdlgnobaaaDoor
open Go Go.RowKit
set_option maxRecDepth 100000
attribute [local go_sem ↓] Go.wp_at_zero Go.wp_at_succ

theorem look_c {w : World} {H A G : Nat} {C : Cf} {s : Dy} (hH : HAt w H A G C s) (hu : s.U) (p q : Int) :
    Calls Tryd.prog 38 #[.pointer (some ⟨H, 0, none⟩), .int .i64 p, .int .i64 q] w (HP w H A G C (s.act C 1 1 0 0) (.int .i64 (if z5 C.n 1 1 (s.f 1) = 0 then p else q))) := by
  have HD : Hid (Calls Tryd.prog 25 #[.pointer (some ⟨H, 0, none⟩), .int .i64 1] w (HP w H A G C (s.act C 1 1 0 0) (.int .u64 (z5 C.n 1 1 (s.f 1))))) := Lib.hid (hLoad_c (w := w) hH hu 1)
  generalize (s.act C 1 1 0 0) = s' at *
  generalize (z5 C.n 1 1 (s.f 1)) = T at *
  clear hH hu
  by_cases h : T = 0
  · subst h
    rw [if_pos rfl]
    go_enter Tryd.func38, Tryd.ntmps38
    go_wp2_with fail
    refine HD.out.mono ?_
    rintro e V2 ⟨rfl, hF, hs⟩
    have HF := Lib.hid hF; have HQ := Lib.hid hs
    clear hF hs HD
    go_wp2_with fail
    go_ret
    exact ⟨rfl, HF.out, HQ.out⟩
  · rw [if_neg h]
    have h0 : (T == 0) = false := by simpa using h
    go_enter Tryd.func38, Tryd.ntmps38
    go_wp2_with fail
    refine HD.out.mono ?_
    rintro e V2 ⟨rfl, hF, hs⟩
    have HF := Lib.hid hF; have HQ := Lib.hid hs
    clear hF hs HD
    go_wp2_with fail
    go_ret
    exact ⟨rfl, HF.out, HQ.out⟩
/-- Is a mutator at this line inside? -/
def insB (l : Int) : Bool := l == 3 || decide (5 < l)
theorem gBegin_c (q1 q2 q3 q4 : Int) (w : World) :
    Calls Tryd.prog 15 #[.agg #[.int .i64 q1, .int .i64 q2, .int .i64 q3, .int .i64 q4]] w fun e w' => e = .returned (mutV 1 0 0 q1 q2 q3 q4 0 0 0 0 0 0) ∧ Below w.heap.size w w' := by
  go_enter Tryd.func15, Tryd.ntmps15
  go_wp2_with fail
  refine bodyPost_ret (v := (mutV 1 0 0 q1 q2 q3 q4 0 0 0 0 0 0)) (by simp [results, Tryd.f15, go_sem]) rfl ?_
  refine ⟨rfl, ?_⟩
  exact below_on (below_new _ _) _
end Go.Proofs.YtjmbahdlgnobaaaDoor
