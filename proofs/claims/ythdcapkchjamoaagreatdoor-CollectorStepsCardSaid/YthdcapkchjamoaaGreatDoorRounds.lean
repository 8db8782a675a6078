/- Package config's Roots, Words, OpRounds and CycleRounds, for every configuration: of a right one as the document counts them, of any other 0. -/
import Derived.Test.YthdcapkchjamoaaGreatDoorM1
import Derived.Deep.RegionHeld3
import Derived.Deep.DrawnRows
namespace Go.Proofs.YthdcapkchjamoaaGreatDoor
open Go Go.RowKit
set_option maxRecDepth 100000
attribute [local go_sem ↓] Go.wp_at_zero Go.wp_at_succ

theorem Right.prod {a b c d : Int} (h : Right a b c d) : 1 ≤ b * c ∧ b * c ≤ 4032 := by
  obtain ⟨_, _, h1, h2, h3, h4, _, _⟩ := h
  have l : 1 * 1 ≤ b * c := Int.mul_le_mul h1 h3 (by omega) (by omega)
  have u : b * c ≤ 63 * 64 := Int.mul_le_mul h2 h4 (by omega) (by omega)
  omega
theorem sum2_c (x y : Int) (hx : 0 ≤ x ∧ x ≤ 100000) (hy : 0 ≤ y ∧ y ≤ 100000) (B cap : Nat) (w : World) (h0 : w.cell? ⟨B, 0, none⟩ = some (.int .i64 x)) (h1 : w.cell? ⟨B, 1, none⟩ = some (.int .i64 y)) :
    Calls Tryz.prog 90 #[.slice (some ⟨B, 0, none⟩) 2 cap] w fun e w' => e = .returned (.int .i64 (x + y)) ∧ w = w' := by
  have h := sum_c [x, y] (by simp) (by simp; omega) B cap w (fun j hj => by
    obtain rfl | rfl : j = 0 ∨ j = 1 := by simp at hj; omega
    · exact h0
    · exact h1)
  rwa [show ([x, y] : List Int).sum = x + y by simp] at h
theorem sum3_c (x y z : Int) (hx : 0 ≤ x ∧ x ≤ 100000) (hy : 0 ≤ y ∧ y ≤ 100000) (hz : 0 ≤ z ∧ z ≤ 100000) (B cap : Nat) (w : World) (h0 : w.cell? ⟨B, 0, none⟩ = some (.int .i64 x)) (h1 : w.cell? ⟨B, 1, none⟩ = some (.int .i64 y)) (h2 : w.cell? ⟨B, 2, none⟩ = some (.int .i64 z)) :
    Calls Tryz.prog 90 #[.slice (some ⟨B, 0, none⟩) 3 cap] w fun e w' => e = .returned (.int .i64 (x + y + z)) ∧ w = w' := by
  have h := sum_c [x, y, z] (by simp) (by simp; omega) B cap w (fun j hj => by
    obtain rfl | rfl | rfl : j = 0 ∨ j = 1 ∨ j = 2 := by simp at hj; omega
    · exact h0
    · exact h1
    · exact h2)
  rwa [show ([x, y, z] : List Int).sum = x + y + z by simp; omega] at h
theorem sum4_c (x y z u : Int) (hx : 0 ≤ x ∧ x ≤ 100000) (hy : 0 ≤ y ∧ y ≤ 100000) (hz : 0 ≤ z ∧ z ≤ 100000) (hu : 0 ≤ u ∧ u ≤ 100000) (B cap : Nat) (w : World) (h0 : w.cell? ⟨B, 0, none⟩ = some (.int .i64 x)) (h1 : w.cell? ⟨B, 1, none⟩ = some (.int .i64 y)) (h2 : w.cell? ⟨B, 2, none⟩ = some (.int .i64 z)) (h3 : w.cell? ⟨B, 3, none⟩ = some (.int .i64 u)) :
    Calls Tryz.prog 90 #[.slice (some ⟨B, 0, none⟩) 4 cap] w fun e w' => e = .returned (.int .i64 (x + y + z + u)) ∧ w = w' := by
  have h := sum_c [x, y, z, u] (by simp) (by simp; omega) B cap w (fun j hj => by
    obtain rfl | rfl | rfl | rfl : j = 0 ∨ j = 1 ∨ j = 2 ∨ j = 3 := by simp at hj; omega
    · exact h0
    · exact h1
    · exact h2
    · exact h3)
  rwa [show ([x, y, z, u] : List Int).sum = x + y + z + u by simp; omega] at h
/-- The configuration lies in block B. -/
abbrev BoxAt (w : World) (B : Nat) (a b c d : Int) : Prop := w.cell? ⟨B, 0, none⟩ = some (.int .i64 a) ∧ w.cell? ⟨B, 1, none⟩ = some (.int .i64 b) ∧ w.cell? ⟨B, 2, none⟩ = some (.int .i64 c) ∧ w.cell? ⟨B, 3, none⟩ = some (.int .i64 d)
theorem BoxAt.new (w : World) (a b c d : Int) (t : TypeId) : BoxAt (w.alloc (.cells #[.int .i64 a, .int .i64 b, .int .i64 c, .int .i64 d] t)) w.heap.size a b c d := by
  unfold BoxAt
  refine ⟨?_, ?_, ?_, ?_⟩ <;> (rw [World.cell?_alloc_new]; rfl)
theorem BoxAt.below {w w' : World} {B : Nat} {a b c d : Int} (h : BoxAt w B a b c d) (hb : Below w.heap.size w w') : BoxAt w' B a b c d := by
  have hl := lt_of_cell h.1
  exact ⟨(hb.cell (p := ⟨B, 0, none⟩) hl).trans h.1, (hb.cell (p := ⟨B, 1, none⟩) hl).trans h.2.1, (hb.cell (p := ⟨B, 2, none⟩) hl).trans h.2.2.1, (hb.cell (p := ⟨B, 3, none⟩) hl).trans h.2.2.2⟩

theorem roots_right (a b c d : Int) (hr : Right a b c d) (w : World) (hS : SpansAt w) :
    Calls Tryz.prog 75 #[.agg #[.int .i64 a, .int .i64 b, .int .i64 c, .int .i64 d]] w fun e w' => e = .returned (.int .i64 (1 + d + b * c)) ∧ Below w.heap.size w w' := by
  have hb := below_new w (.cells #[.int .i64 a, .int .i64 b, .int .i64 c, .int .i64 d] 23)
  have HC := Lib.hid (check_right a b c d hr _ (hS.below hb))
  have HX := Lib.hid (BoxAt.new w a b c d 23)
  have HB := Lib.hid hb
  have hp := hr.prod
  have hp1 : 1 ≤ b * c := hp.1
  have hp2 : b * c ≤ 4032 := hp.2
  have hd1 : 0 ≤ d := hr.2.2.2.2.2.2.1
  have hd2 : d ≤ 64 := hr.2.2.2.2.2.2.2
  clear hS hb hp hr
  go_enter Tryz.func75, Tryz.ntmps75
  go_wp2_with fail
  refine HC.out.mono ?_
  rintro e W ⟨rfl, hW⟩
  have HB1 := Lib.hid (belowOn HB.out hW)
  obtain ⟨x0, x1, x2, x3⟩ := HX.out.below hW
  clear HX HB HC hW
  go_wp2_with fail
  refine (sum3_c 1 d (b * c) (by omega) (by omega) (by omega) _ _ _ (World.cell?_alloc_new ..) (World.cell?_alloc_new ..) (World.cell?_alloc_new ..)).mono ?_
  rintro e w' ⟨rfl, rfl⟩
  go_wp2_with fail
  go_ret
  exact ⟨rfl, below_on HB1.out _⟩
theorem roots_wrong (a b c d : Int) (hr : ¬ Right a b c d) (w : World) (hS : SpansAt w) :
    Calls Tryz.prog 75 #[.agg #[.int .i64 a, .int .i64 b, .int .i64 c, .int .i64 d]] w fun e w' => e = .returned (.int .i64 0) ∧ Below w.heap.size w w' := by
  have hb := below_new w (.cells #[.int .i64 a, .int .i64 b, .int .i64 c, .int .i64 d] 23)
  have HC := Lib.hid (check_wrong a b c d hr _ (hS.below hb))
  have HB := Lib.hid hb
  clear hS hb hr
  go_enter Tryz.func75, Tryz.ntmps75
  go_wp2_with fail
  refine HC.out.mono ?_
  rintro e W ⟨rfl, hW⟩
  have HB1 := Lib.hid (belowOn HB.out hW)
  clear HB HC hW
  go_wp2_with fail
  go_ret
  exact ⟨rfl, HB1.out⟩
theorem words_wrong (a b c d : Int) (hr : ¬ Right a b c d) (w : World) (hS : SpansAt w) :
    Calls Tryz.prog 67 #[.agg #[.int .i64 a, .int .i64 b, .int .i64 c, .int .i64 d]] w fun e w' => e = .returned (.int .i64 0) ∧ Below w.heap.size w w' := by
  have hb := below_new w (.cells #[.int .i64 a, .int .i64 b, .int .i64 c, .int .i64 d] 23)
  have HC := Lib.hid (check_wrong a b c d hr _ (hS.below hb))
  have HB := Lib.hid hb
  clear hS hb hr
  go_enter Tryz.func67, Tryz.ntmps67
  go_wp2_with fail
  refine HC.out.mono ?_
  rintro e W ⟨rfl, hW⟩
  have HB1 := Lib.hid (belowOn HB.out hW)
  clear HB HC hW
  go_wp2_with fail
  go_ret
  exact ⟨rfl, HB1.out⟩
set_option maxHeartbeats 3200000 in
theorem words_right (a b c d : Int) (hr : Right a b c d) (w : World) (hS : SpansAt w) :
    Calls Tryz.prog 67 #[.agg #[.int .i64 a, .int .i64 b, .int .i64 c, .int .i64 d]] w fun e w' => e = .returned (.int .i64 (4 + b + (1 + d + b * c) + 3 * a)) ∧ Below w.heap.size w w' := by
  have hb := below_new w (.cells #[.int .i64 a, .int .i64 b, .int .i64 c, .int .i64 d] 23)
  have HC := Lib.hid (check_right a b c d hr _ (hS.below hb))
  have HX := Lib.hid (BoxAt.new w a b c d 23)
  have HR := Lib.hid (roots_right a b c d hr)
  have HB := Lib.hid hb
  have hp1 : 1 ≤ b * c := hr.prod.1
  have hp2 : b * c ≤ 4032 := hr.prod.2
  obtain ⟨ha1, ha2, hb1, hb2, hc1, hc2, hd1, hd2⟩ := hr
  have HS := Lib.hid (hS.below hb)
  clear hS hb
  go_enter Tryz.func67, Tryz.ntmps67
  go_wp2_with fail
  refine HC.out.mono ?_
  rintro e W ⟨rfl, hW⟩
  have HB1 := Lib.hid (belowOn HB.out hW)
  have HS1 := Lib.hid (HS.out.below hW)
  obtain ⟨x0, x1, x2, x3⟩ := HX.out.below hW
  clear HX HB HC HS hW
  have hw : IntKind.i64.wrap (3 * a) = 3 * a := IntWalk.i64_in _ (by omega)
  go_wp2_with fail
  go_region_held3 (fun w' => w'.cell? ⟨w.heap.size, 0, none⟩ = some (.int .i64 a) ∧ w'.cell? ⟨w.heap.size, 1, none⟩ = some (.int .i64 b) ∧ w'.cell? ⟨w.heap.size, 2, none⟩ = some (.int .i64 c) ∧ w'.cell? ⟨w.heap.size, 3, none⟩ = some (.int .i64 d)) (first | assumption | go_keep)
    (first
      | (go_at_call 75; refine (HR.out _ ?_).mono ?_; exact HS1.out; rintro e w' ⟨rfl, hW⟩; have hX := BoxAt.below (a := a) (b := b) (c := c) (d := d) (B := w.heap.size) (by assumption) hW)
      | (go_at_call 90; refine (sum4_c 4 b (1 + d + b * c) (3 * a) ?_ ?_ ?_ ?_ _ _ _ (World.cell?_alloc_new ..) (World.cell?_alloc_new ..) (World.cell?_alloc_new ..) (World.cell?_alloc_new ..)).mono ?_; omega; omega; omega; omega; rintro e w' ⟨rfl, rfl⟩))
  all_goals go_wp2_with fail
  all_goals go_ret
  exact ⟨rfl, below_on (belowOn HB1.out.drew hW) _⟩
end Go.Proofs.YthdcapkchjamoaaGreatDoor
