/- The grey cells, without memory. -/
import Derived.Test.YtipkkmmehjdmpaaDoorPassPure
namespace Go.Proofs.YtipkkmmehjdmpaaDoor
open Go Go.RowKit
set_option maxRecDepth 100000
attribute [local go_sem ↓] Go.wp_at_zero Go.wp_at_succ

/-- The grey cells below k. -/
def greysL (C : Cf) (f : Nat → Int) (k : Nat) : List Nat := (List.range k).filter fun i => decide (f (colI C i) = 1)
theorem greysL_yes {C : Cf} {f : Nat → Int} {k : Nat} (h : f (colI C k) = 1) : greysL C f (k + 1) = greysL C f k ++ [k] := by
  unfold greysL; rw [List.range_succ, List.filter_append]; simp [h]
theorem greysL_no {C : Cf} {f : Nat → Int} {k : Nat} (h : ¬ f (colI C k) = 1) : greysL C f (k + 1) = greysL C f k := by
  unfold greysL; rw [List.range_succ, List.filter_append]; simp [h]
theorem greysL_len (C : Cf) (f : Nat → Int) (k : Nat) : (greysL C f k).length ≤ k := by
  unfold greysL; exact Nat.le_trans (List.length_filter_le _ _) (by simp)
theorem greysL_none {C : Cf} {f : Nat → Int} {k : Nat} (h : ∀ i : Nat, i < k → f (colI C i) ≠ 1) : greysL C f k = [] := by
  unfold greysL; rw [List.filter_eq_nil_iff]; intro i hi; simp at hi; simpa using h i hi
theorem greysL_nil {C : Cf} {f : Nat → Int} {k : Nat} (h : greysL C f k = []) : ∀ i : Nat, i < k → f (colI C i) ≠ 1 := by
  unfold greysL at h; rw [List.filter_eq_nil_iff] at h; intro i hi; simpa using h i (by simpa using hi)
open Classical in
/-- The grey cells of these words. -/
noncomputable def greysR (C : Cf) (f : Nat → Int) : List Nat := if CfOK C then greysL C f C.a.toNat else []
end Go.Proofs.YtipkkmmehjdmpaaDoor
