/- The document's answers for configurations: Right, Roots, Words and Text, for every configuration. -/
import Derived.Test.YtpieobegcaeopaaDoorRounds
import Derived.Deep.RegionHeld3
import Derived.Deep.DrawnRows
namespace Go.Proofs.YtpieobegcaeopaaDoor
open Go Go.RowKit
set_option maxRecDepth 100000
attribute [local go_sem ↓] Go.wp_at_zero Go.wp_at_succ

def RightPost (w : World) (a b c d : Int) (e : Ending) (w' : World) : Prop := ∃ r : Bool, e = .returned (.bool r) ∧ (Right a b c d ∧ r = true ∨ ¬ Right a b c d ∧ r = false) ∧ Below w.heap.size w w'
theorem mul_step (k : Nat) (c : Int) : ((k + 1 : Nat) : Int) * c = (k : Int) * c + c := by rw [Int.natCast_add, Int.add_mul]; simp
end Go.Proofs.YtpieobegcaeopaaDoor
