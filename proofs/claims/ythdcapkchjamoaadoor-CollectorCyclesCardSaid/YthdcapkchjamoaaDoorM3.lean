/- Laid together: Place, Arr4. -/
import Derived.Test.YthdcapkchjamoaaDoorRounds
import Derived.Deep.RegionHeld3
import Derived.Deep.DrawnRows
import Derived.Test.YthdcapkchjamoaaDoorM1
/- Package place's small calls, for every configuration (right or not) and every number: where a row of words begins, the place of a number in a row, In, Glob, Reg, Car, Cdr, Colour, Root, Size and New. -/
namespace Go.Proofs.YthdcapkchjamoaaDoor
open Go Go.RowKit
set_option maxRecDepth 100000
attribute [local go_sem ↓] Go.wp_at_zero Go.wp_at_succ

instance (a b c d : Int) : Decidable (Right a b c d) := by unfold Right; infer_instance
/-- Where the rows begin, round the word. -/
def fGlob (b : Int) : Int := IntKind.i64.wrap (5 + b)
def fReg (b d : Int) : Int := IntKind.i64.wrap (fGlob b + d)
def fCell (b c d : Int) : Int := IntKind.i64.wrap (fReg b d + IntKind.i64.wrap (b * c))
theorem fGlob_right {a b c d : Int} (h : Right a b c d) : fGlob b = 5 + b := by unfold Right at h; exact IntWalk.i64_in _ (by omega)
theorem fReg_right {a b c d : Int} (h : Right a b c d) : fReg b d = 5 + b + d := by unfold fReg; rw [fGlob_right h]; unfold Right at h; exact IntWalk.i64_in _ (by omega)
theorem fCell_right {a b c d : Int} (h : Right a b c d) : fCell b c d = 5 + b + d + b * c := by
  have hp := h.prod
  unfold fCell; rw [fReg_right h, IntWalk.i64_in (b * c) (by omega)]; unfold Right at h; exact IntWalk.i64_in _ (by omega)
/-- The place of a number in a row. -/
def plc (a b c d first i count : Int) : Int := if (0 ≤ i ∧ i < count) ∧ Right a b c d then IntKind.i64.wrap (first + i) else -1

theorem within_yes (i n : Int) (h0 : 0 ≤ i) (h1 : i < n) (w : World) :
    Calls Tryd.prog 42 #[.int .i64 i, .int .i64 n] w fun e w' => e = .returned (.bool true) ∧ w = w' := by
  go_enter Tryd.func42, Tryd.ntmps42
  go_wp2
  go_ret
  exact ⟨rfl, rfl⟩
theorem within_no (i n : Int) (h : ¬ (0 ≤ i ∧ i < n)) (w : World) :
    Calls Tryd.prog 42 #[.int .i64 i, .int .i64 n] w fun e w' => e = .returned (.bool false) ∧ w = w' := by
  by_cases h0 : 0 ≤ i
  · have h1 : ¬ i < n := fun h1 => h ⟨h0, h1⟩
    clear h
    go_enter Tryd.func42, Tryd.ntmps42
    go_wp2
    go_ret
    exact ⟨rfl, rfl⟩
  · clear h
    go_enter Tryd.func42, Tryd.ntmps42
    go_wp2
    go_ret
    exact ⟨rfl, rfl⟩
theorem firstIn_c (a b c d : Int) (w : World) :
    Calls Tryd.prog 80 #[.agg #[.int .i64 a, .int .i64 b, .int .i64 c, .int .i64 d]] w fun e w' => e = .returned (.int .i64 5) ∧ Below w.heap.size w w' := by
  go_enter Tryd.func80, Tryd.ntmps80
  go_wp2
  go_ret
  exact ⟨rfl, below_new _ _⟩
theorem place_c (a b c d first i n : Int) (w : World) (hS : SpansAt w) :
    Calls Tryd.prog 43 #[.agg #[.int .i64 a, .int .i64 b, .int .i64 c, .int .i64 d], .int .i64 first, .int .i64 i, .int .i64 n] w fun e w' => e = .returned (.int .i64 (plc a b c d first i n)) ∧ Below w.heap.size w w' := by
  have hb := below_new w (.cells #[.int .i64 a, .int .i64 b, .int .i64 c, .int .i64 d] 47)
  have HX := Lib.hid (BoxAt.new w a b c d 47)
  have HS := Lib.hid (hS.below hb)
  have HB := Lib.hid hb
  clear hS hb
  by_cases h : 0 ≤ i ∧ i < n
  · have HW := Lib.hid (within_yes i n h.1 h.2)
    by_cases hr : Right a b c d
    · have HE : Hid (plc a b c d first i n = IntKind.i64.wrap (first + i)) := Lib.hid (by unfold plc; rw [if_pos ⟨h, hr⟩])
      have HC := Lib.hid (check_right a b c d hr)
      generalize plc a b c d first i n = r at HE
      clear h hr
      go_enter Tryd.func43, Tryd.ntmps43
      go_wp2_with fail
      refine (HW.out _).mono ?_
      rintro e w' ⟨rfl, rfl⟩
      obtain ⟨x0, x1, x2, x3⟩ := HX.out
      go_wp2_with fail
      refine (HC.out _ HS.out).mono ?_
      rintro e W ⟨rfl, hW⟩
      have HB1 := Lib.hid (belowOn HB.out hW)
      clear hW
      go_wp2_with fail
      go_ret
      exact ⟨by rw [HE.out, IntWalk.i64_left]; rfl, HB1.out⟩
    · have HE : Hid (plc a b c d first i n = -1) := Lib.hid (by unfold plc; rw [if_neg (fun h => hr h.2)])
      have HC := Lib.hid (check_wrong a b c d hr)
      generalize plc a b c d first i n = r at HE
      clear h hr
      go_enter Tryd.func43, Tryd.ntmps43
      go_wp2_with fail
      refine (HW.out _).mono ?_
      rintro e w' ⟨rfl, rfl⟩
      obtain ⟨x0, x1, x2, x3⟩ := HX.out
      go_wp2_with fail
      refine (HC.out _ HS.out).mono ?_
      rintro e W ⟨rfl, hW⟩
      have HB1 := Lib.hid (belowOn HB.out hW)
      clear hW
      go_wp2_with fail
      go_ret
      exact ⟨by rw [HE.out]; rfl, HB1.out⟩
  · have HW := Lib.hid (within_no i n h)
    have HE : Hid (plc a b c d first i n = -1) := Lib.hid (by unfold plc; rw [if_neg (fun h' => h h'.1)])
    generalize plc a b c d first i n = r at HE
    clear h
    go_enter Tryd.func43, Tryd.ntmps43
    go_wp2_with fail
    refine (HW.out _).mono ?_
    rintro e w' ⟨rfl, rfl⟩
    go_wp2_with fail
    go_ret
    exact ⟨by rw [HE.out]; rfl, HB.out⟩
theorem firstGlob_c (a b c d : Int) (w : World) :
    Calls Tryd.prog 69 #[.agg #[.int .i64 a, .int .i64 b, .int .i64 c, .int .i64 d]] w fun e w' => e = .returned (.int .i64 (fGlob b)) ∧ Below w.heap.size w w' := by
  have hb := below_new w (.cells #[.int .i64 a, .int .i64 b, .int .i64 c, .int .i64 d] 47)
  have HX := Lib.hid (BoxAt.new w a b c d 47)
  have HF := Lib.hid (firstIn_c a b c d)
  have hQ : Below w.heap.size w (w.alloc (.cells #[.int .i64 a, .int .i64 b, .int .i64 c, .int .i64 d] 47)).drew := hb.drew
  clear hb
  obtain ⟨x0, x1, x2, x3⟩ := HX.out
  go_enter Tryd.func69, Tryd.ntmps69
  go_wp2_with fail
  go_region_held3 (fun w' => w'.cell? ⟨w.heap.size, 0, none⟩ = some (.int .i64 a) ∧ w'.cell? ⟨w.heap.size, 1, none⟩ = some (.int .i64 b) ∧ w'.cell? ⟨w.heap.size, 2, none⟩ = some (.int .i64 c) ∧ w'.cell? ⟨w.heap.size, 3, none⟩ = some (.int .i64 d)) (first | assumption | go_keep)
    (first | (go_at_call 80; refine (HF.out _).mono ?_; rintro e v ⟨rfl, hV⟩; have hX := BoxAt.below (a := a) (b := b) (c := c) (d := d) (B := w.heap.size) (by assumption) hV; have hQ := belowOn (w := w) (by assumption) hV; clear hV))
  all_goals go_wp2_with fail
  all_goals go_ret
  all_goals exact ⟨rfl, by assumption⟩
theorem firstReg_c (a b c d : Int) (w : World) :
    Calls Tryd.prog 64 #[.agg #[.int .i64 a, .int .i64 b, .int .i64 c, .int .i64 d]] w fun e w' => e = .returned (.int .i64 (fReg b d)) ∧ Below w.heap.size w w' := by
  have hb := below_new w (.cells #[.int .i64 a, .int .i64 b, .int .i64 c, .int .i64 d] 47)
  have HX := Lib.hid (BoxAt.new w a b c d 47)
  have HF := Lib.hid (firstGlob_c a b c d)
  have hQ : Below w.heap.size w (w.alloc (.cells #[.int .i64 a, .int .i64 b, .int .i64 c, .int .i64 d] 47)).drew := hb.drew
  clear hb
  obtain ⟨x0, x1, x2, x3⟩ := HX.out
  go_enter Tryd.func64, Tryd.ntmps64
  go_wp2_with fail
  go_region_held3 (fun w' => w'.cell? ⟨w.heap.size, 0, none⟩ = some (.int .i64 a) ∧ w'.cell? ⟨w.heap.size, 1, none⟩ = some (.int .i64 b) ∧ w'.cell? ⟨w.heap.size, 2, none⟩ = some (.int .i64 c) ∧ w'.cell? ⟨w.heap.size, 3, none⟩ = some (.int .i64 d)) (first | assumption | go_keep)
    (first | (go_at_call 69; refine (HF.out _).mono ?_; rintro e v ⟨rfl, hV⟩; have hX := BoxAt.below (a := a) (b := b) (c := c) (d := d) (B := w.heap.size) (by assumption) hV; have hQ := belowOn (w := w) (by assumption) hV; clear hV))
  all_goals go_wp2_with fail
  all_goals go_ret
  all_goals exact ⟨rfl, by assumption⟩
theorem firstCell_c (a b c d : Int) (w : World) :
    Calls Tryd.prog 44 #[.agg #[.int .i64 a, .int .i64 b, .int .i64 c, .int .i64 d]] w fun e w' => e = .returned (.int .i64 (fCell b c d)) ∧ Below w.heap.size w w' := by
  have hb := below_new w (.cells #[.int .i64 a, .int .i64 b, .int .i64 c, .int .i64 d] 47)
  have HX := Lib.hid (BoxAt.new w a b c d 47)
  have HF := Lib.hid (firstReg_c a b c d)
  have hQ : Below w.heap.size w (w.alloc (.cells #[.int .i64 a, .int .i64 b, .int .i64 c, .int .i64 d] 47)).drew := hb.drew
  clear hb
  obtain ⟨x0, x1, x2, x3⟩ := HX.out
  go_enter Tryd.func44, Tryd.ntmps44
  go_wp2_with fail
  go_region_held3 (fun w' => w'.cell? ⟨w.heap.size, 0, none⟩ = some (.int .i64 a) ∧ w'.cell? ⟨w.heap.size, 1, none⟩ = some (.int .i64 b) ∧ w'.cell? ⟨w.heap.size, 2, none⟩ = some (.int .i64 c) ∧ w'.cell? ⟨w.heap.size, 3, none⟩ = some (.int .i64 d)) (first | assumption | go_keep)
    (first | (go_at_call 64; refine (HF.out _).mono ?_; rintro e v ⟨rfl, hV⟩; have hX := BoxAt.below (a := a) (b := b) (c := c) (d := d) (B := w.heap.size) (by assumption) hV; have hQ := belowOn (w := w) (by assumption) hV; clear hV))
  all_goals go_wp2_with fail
  all_goals go_ret
  all_goals exact ⟨rfl, by assumption⟩
theorem firstGlob_right (a b c d : Int) (hr : Right a b c d) (w : World) :
    Calls Tryd.prog 69 #[.agg #[.int .i64 a, .int .i64 b, .int .i64 c, .int .i64 d]] w fun e w' => e = .returned (.int .i64 (5 + b)) ∧ Below w.heap.size w w' := by
  have h := firstGlob_c a b c d w; rwa [fGlob_right hr] at h
theorem firstReg_right (a b c d : Int) (hr : Right a b c d) (w : World) :
    Calls Tryd.prog 64 #[.agg #[.int .i64 a, .int .i64 b, .int .i64 c, .int .i64 d]] w fun e w' => e = .returned (.int .i64 (5 + b + d)) ∧ Below w.heap.size w w' := by
  have h := firstReg_c a b c d w; rwa [fReg_right hr] at h
theorem firstCell_right (a b c d : Int) (hr : Right a b c d) (w : World) :
    Calls Tryd.prog 44 #[.agg #[.int .i64 a, .int .i64 b, .int .i64 c, .int .i64 d]] w fun e w' => e = .returned (.int .i64 (5 + b + d + b * c)) ∧ Below w.heap.size w w' := by
  have h := firstCell_c a b c d w; rwa [fCell_right hr] at h
end Go.Proofs.YthdcapkchjamoaaDoor
/- Four numbers in one block: the cells, a store into one or into all four, what is left alone. -/
namespace Go.Proofs.YthdcapkchjamoaaDoor
open Go Go.RowKit
set_option maxRecDepth 100000
/-- Four numbers lie in block B. -/
def Arr4 (w : World) (B : Nat) (t : TypeId) (x0 x1 x2 x3 : Int) : Prop := w.heap[B]? = some (.cells #[.int .i64 x0, .int .i64 x1, .int .i64 x2, .int .i64 x3] t (0, 0))
theorem Arr4.cells {w : World} {B : Nat} {t : TypeId} {x0 x1 x2 x3 : Int} (h : Arr4 w B t x0 x1 x2 x3) :
    w.cell? ⟨B, 0, none⟩ = some (.int .i64 x0) ∧ w.cell? ⟨B, 1, none⟩ = some (.int .i64 x1) ∧ w.cell? ⟨B, 2, none⟩ = some (.int .i64 x2) ∧ w.cell? ⟨B, 3, none⟩ = some (.int .i64 x3) ∧ (∀ j, w.frozen? ⟨B, j, none⟩ = false) := by
  unfold Arr4 at h
  refine ⟨by simp [World.cell?, h], by simp [World.cell?, h], by simp [World.cell?, h], by simp [World.cell?, h], fun j => by simp [World.frozen?, h]⟩
theorem Arr4.lt {w : World} {B : Nat} {t : TypeId} {x0 x1 x2 x3 : Int} (h : Arr4 w B t x0 x1 x2 x3) : B < w.heap.size := lt_of_cell h.cells.1
theorem Arr4.set {w : World} {B : Nat} {t : TypeId} {x0 x1 x2 x3 : Int} (h : Arr4 w B t x0 x1 x2 x3) (y : Int) :
    Arr4 (w.setCell ⟨B, 0, none⟩ (.int .i64 y)) B t y x1 x2 x3 ∧ Arr4 (w.setCell ⟨B, 1, none⟩ (.int .i64 y)) B t x0 y x2 x3 ∧ Arr4 (w.setCell ⟨B, 2, none⟩ (.int .i64 y)) B t x0 x1 y x3 ∧ Arr4 (w.setCell ⟨B, 3, none⟩ (.int .i64 y)) B t x0 x1 x2 y := by
  unfold Arr4 at *
  refine ⟨?_, ?_, ?_, ?_⟩ <;> simp [World.setCell, Array.getElem?_modify, h]
theorem Arr4.other {w w' : World} {B : Nat} {t : TypeId} {x0 x1 x2 x3 : Int} (h : Arr4 w B t x0 x1 x2 x3) (e : w'.heap[B]? = w.heap[B]?) : Arr4 w' B t x0 x1 x2 x3 := e.trans h
theorem Arr4.set4 {w : World} {B : Nat} {t : TypeId} {x0 x1 x2 x3 : Int} (h : Arr4 w B t x0 x1 x2 x3) (y0 y1 y2 y3 : Int) :
    Arr4 ((((w.setCell ⟨B, 0, none⟩ (.int .i64 y0)).setCell ⟨B, 1, none⟩ (.int .i64 y1)).setCell ⟨B, 2, none⟩ (.int .i64 y2)).setCell ⟨B, 3, none⟩ (.int .i64 y3)) B t y0 y1 y2 y3 :=
  ((((h.set y0).1.set y1).2.1.set y2).2.2.1.set y3).2.2.2
theorem below_set4 {w w' : World} {B : Nat} (h : Below B w w') (y0 y1 y2 y3 : Value) :
    Below B w ((((w'.setCell ⟨B, 0, none⟩ y0).setCell ⟨B, 1, none⟩ y1).setCell ⟨B, 2, none⟩ y2).setCell ⟨B, 3, none⟩ y3) :=
  (((h.setCell (p := ⟨B, 0, none⟩) (Nat.le_refl _) y0).setCell (p := ⟨B, 1, none⟩) (Nat.le_refl _) y1).setCell (p := ⟨B, 2, none⟩) (Nat.le_refl _) y2).setCell (p := ⟨B, 3, none⟩) (Nat.le_refl _) y3
theorem Arr4.new (w : World) (t : TypeId) (x0 x1 x2 x3 : Int) : Arr4 (w.alloc (.cells #[.int .i64 x0, .int .i64 x1, .int .i64 x2, .int .i64 x3] t)) w.heap.size t x0 x1 x2 x3 := by
  unfold Arr4 World.alloc; exact Array.getElem?_push_size
theorem Arr4.below {w w' : World} {B : Nat} {t : TypeId} {x0 x1 x2 x3 : Int} (h : Arr4 w B t x0 x1 x2 x3) (hb : Below w.heap.size w w') : Arr4 w' B t x0 x1 x2 x3 := h.other (hb.block _ h.lt)
theorem below_far4 {w w' : World} {B C : Nat} (h : Below B w w') (hC : B ≤ C) (y0 y1 y2 y3 : Value) :
    Below B w ((((w'.setCell ⟨C, 0, none⟩ y0).setCell ⟨C, 1, none⟩ y1).setCell ⟨C, 2, none⟩ y2).setCell ⟨C, 3, none⟩ y3) :=
  (((h.setCell hC _).setCell hC _).setCell hC _).setCell hC _
end Go.Proofs.YthdcapkchjamoaaDoor
