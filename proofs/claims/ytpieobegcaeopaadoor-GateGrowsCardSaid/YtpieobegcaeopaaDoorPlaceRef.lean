/- The document's answers for places: At and Root, and the law's own at, for every configuration and every number. -/
import Derived.Test.YtpieobegcaeopaaDoorPlaceAt
import Derived.Test.YtpieobegcaeopaaDoorCfgRef
namespace Go.Proofs.YtpieobegcaeopaaDoor
open Go Go.RowKit
set_option maxRecDepth 100000
attribute [local go_sem ↓] Go.wp_at_zero Go.wp_at_succ

/-- A spot lies in block B. -/
abbrev TriAt (w : World) (B : Nat) (x y z : Int) : Prop := w.cell? ⟨B, 0, none⟩ = some (.int .i64 x) ∧ w.cell? ⟨B, 1, none⟩ = some (.int .i64 y) ∧ w.cell? ⟨B, 2, none⟩ = some (.int .i64 z)
theorem TriAt.new (w : World) (x y z : Int) (t : TypeId) : TriAt (w.alloc (.cells #[.int .i64 x, .int .i64 y, .int .i64 z] t)) w.heap.size x y z := by
  unfold TriAt
  refine ⟨?_, ?_, ?_⟩ <;> (rw [World.cell?_alloc_new]; rfl)
theorem TriAt.below {w w' : World} {B : Nat} {x y z : Int} (h : TriAt w B x y z) (hb : Below w.heap.size w w') : TriAt w' B x y z := by
  have hl := lt_of_cell h.1
  exact ⟨(hb.cell (p := ⟨B, 0, none⟩) hl).trans h.1, (hb.cell (p := ⟨B, 1, none⟩) hl).trans h.2.1, (hb.cell (p := ⟨B, 2, none⟩) hl).trans h.2.2⟩
end Go.Proofs.YtpieobegcaeopaaDoor
