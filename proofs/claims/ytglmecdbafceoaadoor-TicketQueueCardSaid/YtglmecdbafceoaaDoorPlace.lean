/- Package place's small calls, for every configuration (right or not) and every number: where a row of words begins, the place of a number in a row, In, Glob, Reg, Car, Cdr, Colour, Root, Size and New. -/
import Derived.Test.YtglmecdbafceoaaDoorRounds
import Derived.Deep.RegionHeld3
import Derived.Deep.DrawnRows
namespace Go.Proofs.YtglmecdbafceoaaDoor
open Go Go.RowKit
set_option maxRecDepth 100000
attribute [local go_sem ↓] Go.wp_at_zero Go.wp_at_succ

instance (a b c d : Int) : Decidable (Right a b c d) := by unfold Right; infer_instance
/-- Where the rows begin, round the word. -/
def fGlob (b : Int) : Int := IntKind.i64.wrap (5 + b)
def fReg (b d : Int) : Int := IntKind.i64.wrap (fGlob b + d)
def fCell (b c d : Int) : Int := IntKind.i64.wrap (fReg b d + IntKind.i64.wrap (b * c))
theorem fGlob_right {a b c d : Int} (h : Right a b c d) : fGlob b = 5 + b := by unfold Right at h; exact IntWalk.i64_in _ (by omega)
theorem fReg_right {a b c d : Int} (h : Right a b c d) : fReg b d = 5 + b + d := by unfold fReg; rw [fGlob_right h]; unfold Right at h; exact IntWalk.i64_in _ (by omega)
theorem fCell_right {a b c d : Int} (h : Right a b c d) : fCell b c d = 5 + b + d + b * c := by
  have hp := h.prod
  unfold fCell; rw [fReg_right h, IntWalk.i64_in (b * c) (by omega)]; unfold Right at h; exact IntWalk.i64_in _ (by omega)
/-- The place of a number in a row. -/
def plc (a b c d first i count : Int) : Int := if (0 ≤ i ∧ i < count) ∧ Right a b c d then IntKind.i64.wrap (first + i) else -1

end Go.Proofs.YtglmecdbafceoaaDoor
