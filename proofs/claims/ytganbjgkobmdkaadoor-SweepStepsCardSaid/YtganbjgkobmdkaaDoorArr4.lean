/- Four numbers in one block: the cells, a store into one or into all four, what is left alone. -/
import Derived.Test.YtganbjgkobmdkaaDoorCfg
namespace Go.Proofs.YtganbjgkobmdkaaDoor
open Go Go.RowKit
set_option maxRecDepth 100000
/-- Four numbers lie in block B. -/
def Arr4 (w : World) (B : Nat) (t : TypeId) (x0 x1 x2 x3 : Int) : Prop := w.heap[B]? = some (.cells #[.int .i64 x0, .int .i64 x1, .int .i64 x2, .int .i64 x3] t (0, 0))
theorem Arr4.cells {w : World} {B : Nat} {t : TypeId} {x0 x1 x2 x3 : Int} (h : Arr4 w B t x0 x1 x2 x3) :
    w.cell? ⟨B, 0, none⟩ = some (.int .i64 x0) ∧ w.cell? ⟨B, 1, none⟩ = some (.int .i64 x1) ∧ w.cell? ⟨B, 2, none⟩ = some (.int .i64 x2) ∧ w.cell? ⟨B, 3, none⟩ = some (.int .i64 x3) ∧ (∀ j, w.frozen? ⟨B, j, none⟩ = false) := by
  unfold Arr4 at h
  refine ⟨by simp [World.cell?, h], by simp [World.cell?, h], by simp [World.cell?, h], by simp [World.cell?, h], fun j => by simp [World.frozen?, h]⟩
theorem Arr4.lt {w : World} {B : Nat} {t : TypeId} {x0 x1 x2 x3 : Int} (h : Arr4 w B t x0 x1 x2 x3) : B < w.heap.size := lt_of_cell h.cells.1
theorem Arr4.set {w : World} {B : Nat} {t : TypeId} {x0 x1 x2 x3 : Int} (h : Arr4 w B t x0 x1 x2 x3) (y : Int) :
    Arr4 (w.setCell ⟨B, 0, none⟩ (.int .i64 y)) B t y x1 x2 x3 ∧ Arr4 (w.setCell ⟨B, 1, none⟩ (.int .i64 y)) B t x0 y x2 x3 ∧ Arr4 (w.setCell ⟨B, 2, none⟩ (.int .i64 y)) B t x0 x1 y x3 ∧ Arr4 (w.setCell ⟨B, 3, none⟩ (.int .i64 y)) B t x0 x1 x2 y := by
  unfold Arr4 at *
  refine ⟨?_, ?_, ?_, ?_⟩ <;> simp [World.setCell, Array.getElem?_modify, h]
theorem Arr4.other {w w' : World} {B : Nat} {t : TypeId} {x0 x1 x2 x3 : Int} (h : Arr4 w B t x0 x1 x2 x3) (e : w'.heap[B]? = w.heap[B]?) : Arr4 w' B t x0 x1 x2 x3 := e.trans h
theorem Arr4.set4 {w : World} {B : Nat} {t : TypeId} {x0 x1 x2 x3 : Int} (h : Arr4 w B t x0 x1 x2 x3) (y0 y1 y2 y3 : Int) :
    Arr4 ((((w.setCell ⟨B, 0, none⟩ (.int .i64 y0)).setCell ⟨B, 1, none⟩ (.int .i64 y1)).setCell ⟨B, 2, none⟩ (.int .i64 y2)).setCell ⟨B, 3, none⟩ (.int .i64 y3)) B t y0 y1 y2 y3 :=
  ((((h.set y0).1.set y1).2.1.set y2).2.2.1.set y3).2.2.2
theorem below_set4 {w w' : World} {B : Nat} (h : Below B w w') (y0 y1 y2 y3 : Value) :
    Below B w ((((w'.setCell ⟨B, 0, none⟩ y0).setCell ⟨B, 1, none⟩ y1).setCell ⟨B, 2, none⟩ y2).setCell ⟨B, 3, none⟩ y3) :=
  (((h.setCell (p := ⟨B, 0, none⟩) (Nat.le_refl _) y0).setCell (p := ⟨B, 1, none⟩) (Nat.le_refl _) y1).setCell (p := ⟨B, 2, none⟩) (Nat.le_refl _) y2).setCell (p := ⟨B, 3, none⟩) (Nat.le_refl _) y3
theorem Arr4.new (w : World) (t : TypeId) (x0 x1 x2 x3 : Int) : Arr4 (w.alloc (.cells #[.int .i64 x0, .int .i64 x1, .int .i64 x2, .int .i64 x3] t)) w.heap.size t x0 x1 x2 x3 := by
  unfold Arr4 World.alloc; exact Array.getElem?_push_size
theorem Arr4.below {w w' : World} {B : Nat} {t : TypeId} {x0 x1 x2 x3 : Int} (h : Arr4 w B t x0 x1 x2 x3) (hb : Below w.heap.size w w') : Arr4 w' B t x0 x1 x2 x3 := h.other (hb.block _ h.lt)
theorem below_far4 {w w' : World} {B C : Nat} (h : Below B w w') (hC : B ≤ C) (y0 y1 y2 y3 : Value) :
    Below B w ((((w'.setCell ⟨C, 0, none⟩ y0).setCell ⟨C, 1, none⟩ y1).setCell ⟨C, 2, none⟩ y2).setCell ⟨C, 3, none⟩ y3) :=
  (((h.setCell hC _).setCell hC _).setCell hC _).setCell hC _
end Go.Proofs.YtganbjgkobmdkaaDoor
