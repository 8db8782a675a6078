/- Package ideal's New: a store of its own, all nil; or the error. -/
import Derived.Test.YthlpmkjhiifibaaDoorIdealCopy
namespace Go.Proofs.YthlpmkjhiifibaaDoor
open Go Go.RowKit
set_option maxRecDepth 100000
attribute [local go_sem ↓] Go.wp_at_zero Go.wp_at_succ

/-- A store with nothing in it. -/
def st0 : St := ⟨fun _ _ _ => 0, 0⟩
theorem StoreAt.zero {w : World} {X R L b c d : Nat} (hr : Right 2 b c d)
    (box : w.heap[X]? = some (.cells #[.int .i64 2, .int .i64 b, .int .i64 c, .int .i64 d, .slice (some ⟨R, 0, none⟩) (b * c) (b * c), .slice (some ⟨L, 0, none⟩) d d, .slice none 0 0] 52 (0, 0)))
    (regs : RowN w R 41 (b * c) (fun _ => 0)) (globs : RowN w L 41 d (fun _ => 0)) (xR : X ≠ R) (xL : X ≠ L) (rL : R ≠ L) : StoreAt w X R L (.slice none 0 0) b c d st0 :=
  ⟨box, regs, globs, World.ownsRow_nil _ _ _ _, xR, xL, rL, by simp [Value.ownBlock], by simp [Value.ownBlock], by simp [Value.ownBlock], Inv.new b c d, hr, Nat.zero_le _⟩
/-- What New answers. -/
def NewPost (w : World) (b c d : Nat) (e : Ending) (w' : World) : Prop :=
  ∃ X R L : Nat, e = .returned (.tuple #[.pointer (some ⟨X, 0, none⟩), .int .i64 0]) ∧ StoreAt w' X R L (.slice none 0 0) b c d st0 ∧ w.heap.size ≤ X ∧ w.heap.size ≤ R ∧ w.heap.size ≤ L ∧ Below w.heap.size w w'
theorem NewPost.drew {w : World} {b c d : Nat} {e : Ending} {w' : World} (h : NewPost w b c d e w') : NewPost w b c d e w'.drew := by
  obtain ⟨X, R, L, h1, h2, h3, h4, h5, h6⟩ := h
  exact ⟨X, R, L, h1, h2.drew, h3, h4, h5, h6.drew⟩
theorem New_no (b c d : Int) (hr : ¬ Right 2 b c d) (w : World) (hS : SpansAt w) :
    Calls Tryd.prog 9 #[.int .i64 b, .int .i64 c, .int .i64 d] w fun e w' => e = .returned (.tuple #[.pointer none, .int .i64 2]) ∧ Below w.heap.size w w' := by
  have HB := Lib.hid (below_new w (.cells #[.int .i64 2, .int .i64 b, .int .i64 c, .int .i64 d] 25))
  have HC := Lib.hid (check_wrong 2 b c d hr _ (hS.below HB.out))
  clear hr hS
  go_enter Tryd.func9, Tryd.ntmps9
  go_wp2_with fail
  refine HC.out.mono ?_
  rintro e W ⟨rfl, hW⟩
  have HB1 := Lib.hid (belowOn HB.out hW)
  clear HC HB hW
  go_wp2_with fail
  go_ret2
  exact ⟨rfl, HB1.out⟩
set_option maxHeartbeats 1600000 in
theorem New_yes (b c d : Nat) (hr : Right 2 b c d) (w : World) (hS : SpansAt w) :
    Calls Tryd.prog 9 #[.int .i64 b, .int .i64 c, .int .i64 d] w (NewPost w b c d) := by
  have HB := Lib.hid (below_new w (.cells #[.int .i64 2, .int .i64 b, .int .i64 c, .int .i64 d] 25))
  have HC := Lib.hid (check_right 2 b c d hr _ (hS.below HB.out))
  have HX := Lib.hid (BoxAt.new w 2 b c d 25)
  have HR := Lib.hid hr
  have hp : b * c ≤ 4032 := by
    have := hr.prod
    rw [← Int.natCast_mul] at this; omega
  have hd : d ≤ 64 := by unfold Right at hr; omega
  have hw1 : IntKind.i64.wrap ((b : Int) * (c : Int)) = ((b * c : Nat) : Int) := by rw [← Int.natCast_mul]; exact IntWalk.i64_in _ (by omega)
  have hmk1 := make_words (b * c) (by omega)
  rw [Int.natCast_mul] at hmk1
  have hmk2 := make_words d (by omega)
  clear hr hS
  have HE : Hid (∀ (W : World), Below w.heap.size w W → NewPost w b c d (.returned (.tuple #[.pointer (some ⟨W.heap.size + 1 + 1, 0, none⟩), .int .i64 0])) (((W.alloc (.cells (madeCells #[.int .u64 0] (b * c)) 41)).alloc (.cells (madeCells #[.int .u64 0] d) 41)).alloc (.cells #[.int .i64 2, .int .i64 b, .int .i64 c, .int .i64 d, .slice (some ⟨W.heap.size, 0, none⟩) (b * c) (b * c), .slice (some ⟨W.heap.size + 1, 0, none⟩) d d, .slice none 0 0] 52))) := Lib.hid (fun W hW => by
    have hs := hW.size
    refine ⟨W.heap.size + 1 + 1, W.heap.size, W.heap.size + 1, rfl, ?_, by omega, by omega, by omega, below_on (below_on (below_on hW _) _) _⟩
    refine StoreAt.zero HR.out ?_ ?_ ?_ (by omega) (by omega) (by omega)
    · have := newBlock ((W.alloc (.cells (madeCells #[.int .u64 0] (b * c)) 41)).alloc (.cells (madeCells #[.int .u64 0] d) 41)) (.cells #[.int .i64 2, .int .i64 b, .int .i64 c, .int .i64 d, .slice (some ⟨W.heap.size, 0, none⟩) (b * c) (b * c), .slice (some ⟨W.heap.size + 1, 0, none⟩) d d, .slice none 0 0] 52)
      simpa using this
    · exact ((RowN.made W (b * c) _).other (Below.heap_alloc _ _ _ (by simp))).other (Below.heap_alloc _ _ _ (by simp; omega))
    · have := RowN.made (W.alloc (.cells (madeCells #[.int .u64 0] (b * c)) 41)) d 41
      rw [show (W.alloc (.cells (madeCells #[.int .u64 0] (b * c)) 41)).heap.size = W.heap.size + 1 by simp] at this
      exact this.other (Below.heap_alloc _ _ _ (by simp)))
  have HE2 : Hid (∀ (W : World), Below w.heap.size w W → NewPost w b c d (.returned (.tuple #[.pointer (some ⟨W.heap.size + 1 + 1, 0, none⟩), .int .i64 0])) (((W.alloc (.cells (madeCells #[.int .u64 0] d) 41)).alloc (.cells (madeCells #[.int .u64 0] (b * c)) 41)).alloc (.cells #[.int .i64 2, .int .i64 b, .int .i64 c, .int .i64 d, .slice (some ⟨W.heap.size + 1, 0, none⟩) (b * c) (b * c), .slice (some ⟨W.heap.size, 0, none⟩) d d, .slice none 0 0] 52))) := Lib.hid (fun W hW => by
    have hs := hW.size
    refine ⟨W.heap.size + 1 + 1, W.heap.size + 1, W.heap.size, rfl, ?_, by omega, by omega, by omega, below_on (below_on (below_on hW _) _) _⟩
    refine StoreAt.zero HR.out ?_ ?_ ?_ (by omega) (by omega) (by omega)
    · have := newBlock ((W.alloc (.cells (madeCells #[.int .u64 0] d) 41)).alloc (.cells (madeCells #[.int .u64 0] (b * c)) 41)) (.cells #[.int .i64 2, .int .i64 b, .int .i64 c, .int .i64 d, .slice (some ⟨W.heap.size + 1, 0, none⟩) (b * c) (b * c), .slice (some ⟨W.heap.size, 0, none⟩) d d, .slice none 0 0] 52)
      simpa using this
    · have := RowN.made (W.alloc (.cells (madeCells #[.int .u64 0] d) 41)) (b * c) 41
      rw [show (W.alloc (.cells (madeCells #[.int .u64 0] d) 41)).heap.size = W.heap.size + 1 by simp] at this
      exact this.other (Below.heap_alloc _ _ _ (by simp))
    · exact ((RowN.made W d _).other (Below.heap_alloc _ _ _ (by simp))).other (Below.heap_alloc _ _ _ (by simp; omega)))
  go_enter Tryd.func9, Tryd.ntmps9
  go_wp2_with fail
  refine HC.out.mono ?_
  rintro e W ⟨rfl, hW⟩
  have HB1 := Lib.hid (belowOn HB.out hW)
  obtain ⟨x0, x1, x2, x3⟩ := HX.out.below hW
  have hlt : w.heap.size < W.heap.size := lt_of_cell x0
  have hne : w.heap.size ≠ W.heap.size := by omega
  have hne1 : w.heap.size ≠ W.heap.size + 1 := by omega
  clear HC HB hW HX HR
  go_wp2_with fail
  go_region
  all_goals go_wp2
  all_goals go_ret2
  all_goals first | exact (HE.out W HB1.out).drew | exact (HE2.out W HB1.out).drew
end Go.Proofs.YthlpmkjhiifibaaDoor
