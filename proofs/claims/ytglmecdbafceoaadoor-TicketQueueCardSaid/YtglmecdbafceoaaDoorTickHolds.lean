/- Package ticket's Wants and Holds, and the document's Holds, of every mutator. -/
import Derived.Test.YtglmecdbafceoaaDoorMut
namespace Go.Proofs.YtglmecdbafceoaaDoor
open Go Go.RowKit
set_option maxRecDepth 100000
attribute [local go_sem ↓] Go.wp_at_zero Go.wp_at_succ

/-- Does a mutator hold the lock? -/
def holdB (l bk : Int) : Bool := decide (34 ≤ l) && decide (l ≤ 37) || l == 41 || (decide (80 ≤ l) && decide (l ≤ 81) && bk == 37)
theorem Wants_c (l p bk q1 q2 q3 q4 m1 m2 m3 m4 m5 rt : Int) (w : World) :
    Calls Tryd.prog 6 #[(mutV l p bk q1 q2 q3 q4 m1 m2 m3 m4 m5 rt)] w fun e w' => e = .returned (.bool (l == 33)) ∧ Below w.heap.size w w' := by
  go_enter Tryd.func6, Tryd.ntmps6
  go_wp2_with fail
  go_ret
  exact ⟨rfl, below_new _ _⟩
theorem Holds_c (l p bk q1 q2 q3 q4 m1 m2 m3 m4 m5 rt : Int) (w : World) :
    Calls Tryd.prog 7 #[(mutV l p bk q1 q2 q3 q4 m1 m2 m3 m4 m5 rt)] w fun e w' => e = .returned (.bool (holdB l bk)) ∧ Below w.heap.size w w' := by
  unfold holdB
  by_cases e1 : l = 34
  · subst e1
    go_enter Tryd.func7, Tryd.ntmps7
    go_wp2_with fail
    go_ret
    exact ⟨rfl, below_new _ _⟩
  by_cases e2 : l = 35
  · subst e2
    go_enter Tryd.func7, Tryd.ntmps7
    go_wp2_with fail
    go_ret
    exact ⟨rfl, below_new _ _⟩
  by_cases e3 : l = 36
  · subst e3
    go_enter Tryd.func7, Tryd.ntmps7
    go_wp2_with fail
    go_ret
    exact ⟨rfl, below_new _ _⟩
  by_cases e4 : l = 37
  · subst e4
    go_enter Tryd.func7, Tryd.ntmps7
    go_wp2_with fail
    go_ret
    exact ⟨rfl, below_new _ _⟩
  by_cases e5 : l = 41
  · subst e5
    go_enter Tryd.func7, Tryd.ntmps7
    go_wp2_with fail
    go_ret
    exact ⟨rfl, below_new _ _⟩
  have h0 : (decide (34 ≤ l) && decide (l ≤ 37)) = false := by
    simp only [Bool.and_eq_false_iff, decide_eq_false_iff_not]; omega
  have g1 : (l == 34) = false := by simpa using e1
  have g2 : (l == 35) = false := by simpa using e2
  have g3 : (l == 36) = false := by simpa using e3
  have g4 : (l == 37) = false := by simpa using e4
  have g5 : (l == 41) = false := by simpa using e5
  rw [h0, g5]
  by_cases e6 : l = 80
  · subst e6
    have HB0 := Lib.hid (below_new w (.cells #[.int .i64 80, .int .i64 q1, .int .i64 q2, .int .i64 q3, .int .i64 q4, .int .u64 m1, .int .u64 m2, .int .u64 m3, .int .u64 m4, .int .u64 m5, .int .u64 p, .int .i64 bk, .int .i64 rt] 30))
    go_enter Tryd.func7, Tryd.ntmps7
    go_wp2_with fail
    go_ret
    refine ⟨by simp, HB0.out⟩
  by_cases e7 : l = 81
  · subst e7
    have HB0 := Lib.hid (below_new w (.cells #[.int .i64 81, .int .i64 q1, .int .i64 q2, .int .i64 q3, .int .i64 q4, .int .u64 m1, .int .u64 m2, .int .u64 m3, .int .u64 m4, .int .u64 m5, .int .u64 p, .int .i64 bk, .int .i64 rt] 30))
    go_enter Tryd.func7, Tryd.ntmps7
    go_wp2_with fail
    go_ret
    refine ⟨by simp, HB0.out⟩
  have h8 : (decide (80 ≤ l) && decide (l ≤ 81)) = false := by
    simp only [Bool.and_eq_false_iff, decide_eq_false_iff_not]; omega
  rw [h8]
  have g6 : (l == 80) = false := by simpa using e6
  have g7 : (l == 81) = false := by simpa using e7
  go_enter Tryd.func7, Tryd.ntmps7
  go_wp2_with fail
  go_ret
  exact ⟨rfl, below_new _ _⟩
theorem rHolds_c (l p bk q1 q2 q3 q4 m1 m2 m3 m4 m5 rt : Int) (w : World) :
    Calls Tryd.prog 8 #[(mutV l p bk q1 q2 q3 q4 m1 m2 m3 m4 m5 rt)] w fun e w' => e = .returned (.bool (holdB l bk)) ∧ Below w.heap.size w w' := by
  unfold holdB
  have HB0 := Lib.hid (below_new w (.cells #[.int .i64 l, .int .i64 q1, .int .i64 q2, .int .i64 q3, .int .i64 q4, .int .u64 m1, .int .u64 m2, .int .u64 m3, .int .u64 m4, .int .u64 m5, .int .u64 p, .int .i64 bk, .int .i64 rt] 30))
  by_cases h1 : 34 ≤ l
  · by_cases h2 : l ≤ 37
    · have g1 : decide (34 ≤ l) = true := decide_eq_true h1
      have g2 : decide (l ≤ 37) = true := decide_eq_true h2
      rw [g1, g2]
      go_enter Tryd.func8, Tryd.ntmps8
      go_wp2_with fail
      go_ret
      exact ⟨rfl, HB0.out⟩
    · have g1 : decide (34 ≤ l) = true := decide_eq_true h1
      have g2 : decide (l ≤ 37) = false := decide_eq_false h2
      rw [g1, g2]
      by_cases h3 : l = 41
      · subst h3
        go_enter Tryd.func8, Tryd.ntmps8
        go_wp2_with fail
        go_ret
        exact ⟨rfl, HB0.out⟩
      · have g3 : (l == 41) = false := by simpa using h3
        rw [g3]
        by_cases h4 : 80 ≤ l
        · have g4 : decide (80 ≤ l) = true := decide_eq_true h4
          rw [g4]
          by_cases h5 : l ≤ 81
          · have g5 : decide (l ≤ 81) = true := decide_eq_true h5
            rw [g5]
            go_enter Tryd.func8, Tryd.ntmps8
            go_wp2_with fail
            go_ret
            exact ⟨by simp, HB0.out⟩
          · have g5 : decide (l ≤ 81) = false := decide_eq_false h5
            rw [g5]
            go_enter Tryd.func8, Tryd.ntmps8
            go_wp2_with fail
            go_ret
            exact ⟨by simp, HB0.out⟩
        · have g4 : decide (80 ≤ l) = false := decide_eq_false h4
          rw [g4]
          go_enter Tryd.func8, Tryd.ntmps8
          go_wp2_with fail
          go_ret
          exact ⟨by simp, HB0.out⟩
  · have g1 : decide (34 ≤ l) = false := decide_eq_false h1
    have g3 : (l == 41) = false := by simp; omega
    have g4 : decide (80 ≤ l) = false := decide_eq_false (by omega)
    rw [g1, g3, g4]
    go_enter Tryd.func8, Tryd.ntmps8
    go_wp2_with fail
    go_ret
    exact ⟨by simp, HB0.out⟩
end Go.Proofs.YtglmecdbafceoaaDoor
