/- Package config's Roots, Words, OpRounds and CycleRounds, for every configuration: of a right one as the document counts them, of any other 0. -/
import Derived.Test.YthlpmkjhiifibaaDoorCfg
import Derived.Deep.RegionHeld3
import Derived.Deep.DrawnRows
namespace Go.Proofs.YthlpmkjhiifibaaDoor
open Go Go.RowKit
set_option maxRecDepth 100000
attribute [local go_sem ↓] Go.wp_at_zero Go.wp_at_succ

theorem Right.prod {a b c d : Int} (h : Right a b c d) : 1 ≤ b * c ∧ b * c ≤ 4032 := by
  obtain ⟨_, _, h1, h2, h3, h4, _, _⟩ := h
  have l : 1 * 1 ≤ b * c := Int.mul_le_mul h1 h3 (by omega) (by omega)
  have u : b * c ≤ 63 * 64 := Int.mul_le_mul h2 h4 (by omega) (by omega)
  omega
/-- The configuration lies in block B. -/
abbrev BoxAt (w : World) (B : Nat) (a b c d : Int) : Prop := w.cell? ⟨B, 0, none⟩ = some (.int .i64 a) ∧ w.cell? ⟨B, 1, none⟩ = some (.int .i64 b) ∧ w.cell? ⟨B, 2, none⟩ = some (.int .i64 c) ∧ w.cell? ⟨B, 3, none⟩ = some (.int .i64 d)
theorem BoxAt.new (w : World) (a b c d : Int) (t : TypeId) : BoxAt (w.alloc (.cells #[.int .i64 a, .int .i64 b, .int .i64 c, .int .i64 d] t)) w.heap.size a b c d := by
  unfold BoxAt
  refine ⟨?_, ?_, ?_, ?_⟩ <;> (rw [World.cell?_alloc_new]; rfl)
theorem BoxAt.below {w w' : World} {B : Nat} {a b c d : Int} (h : BoxAt w B a b c d) (hb : Below w.heap.size w w') : BoxAt w' B a b c d := by
  have hl := lt_of_cell h.1
  exact ⟨(hb.cell (p := ⟨B, 0, none⟩) hl).trans h.1, (hb.cell (p := ⟨B, 1, none⟩) hl).trans h.2.1, (hb.cell (p := ⟨B, 2, none⟩) hl).trans h.2.2.1, (hb.cell (p := ⟨B, 3, none⟩) hl).trans h.2.2.2⟩

end Go.Proofs.YthlpmkjhiifibaaDoor
