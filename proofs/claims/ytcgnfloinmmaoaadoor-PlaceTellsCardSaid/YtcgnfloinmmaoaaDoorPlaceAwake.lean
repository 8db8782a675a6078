/- The law's awake (the document's example) answers true in whatever memory in which the table of spans reads as its text lays it. -/
import Derived.Test.YtcgnfloinmmaoaaDoorPlaceRef
namespace Go.Proofs.YtcgnfloinmmaoaaDoor
open Go Go.RowKit
set_option maxRecDepth 100000
attribute [local go_sem ↓] Go.wp_at_zero Go.wp_at_succ

/-- Two configurations lie in blocks B and C. -/
abbrev Two (w : World) (B C : Nat) (a b c d a' b' c' d' : Int) : Prop := w.cell? ⟨B, 0, none⟩ = some (.int .i64 a) ∧ w.cell? ⟨B, 1, none⟩ = some (.int .i64 b) ∧ w.cell? ⟨B, 2, none⟩ = some (.int .i64 c) ∧ w.cell? ⟨B, 3, none⟩ = some (.int .i64 d) ∧
  w.cell? ⟨C, 0, none⟩ = some (.int .i64 a') ∧ w.cell? ⟨C, 1, none⟩ = some (.int .i64 b') ∧ w.cell? ⟨C, 2, none⟩ = some (.int .i64 c') ∧ w.cell? ⟨C, 3, none⟩ = some (.int .i64 d')
theorem Two.below {w w' : World} {B C : Nat} {a b c d a' b' c' d' : Int} (h : Two w B C a b c d a' b' c' d') (hb : Below w.heap.size w w') : Two w' B C a b c d a' b' c' d' := by
  obtain ⟨h0, h1, h2, h3, g0, g1, g2, g3⟩ := h
  obtain ⟨x0, x1, x2, x3⟩ := BoxAt.below (B := B) ⟨h0, h1, h2, h3⟩ hb
  obtain ⟨y0, y1, y2, y3⟩ := BoxAt.below (B := C) ⟨g0, g1, g2, g3⟩ hb
  exact ⟨x0, x1, x2, x3, y0, y1, y2, y3⟩
set_option maxHeartbeats 1600000 in
theorem awakeP_c (w : World) (hS : SpansAt w) :
    Calls Tryd.prog 7 #[] w fun e w' => e = .returned (.bool true) ∧ Below w.heap.size w w' := by
  have HN := Lib.hid (New_right 2 1 1 0 (by decide) w hS)
  have HS := Lib.hid hS
  have h1 := In_c 2 1 1 0 0; have h2 := Reg_c 2 1 1 0 0 0; have h3 := Car_c 2 1 1 0 0; have h4 := Colour_c 2 1 1 0 1
  rw [show inP 2 1 1 0 0 = 5 by decide] at h1
  rw [show regP 2 1 1 0 0 0 = 6 by decide] at h2
  rw [show partP 2 1 1 0 0 0 = 7 by decide] at h3
  rw [show partP 2 1 1 0 2 1 = 12 by decide] at h4
  have H1 := Lib.hid h1; have H2 := Lib.hid h2; have H3 := Lib.hid h3; have H4 := Lib.hid h4
  clear hS h1 h2 h3 h4
  go_enter Tryd.func7, Tryd.ntmps7
  go_wp2_with fail
  refine HN.out.mono ?_
  rintro e W ⟨rfl, hW⟩
  have HB0 := Lib.hid (below_on hW (.cells #[.int .i64 2, .int .i64 1, .int .i64 1, .int .i64 0] 26))
  have HZ0 := Lib.hid (BoxAt.new W 2 1 1 0 26)
  obtain ⟨z0, z1, z2, z3⟩ := HZ0.out
  clear hW HN
  go_wp2_with fail
  refine (H1.out _ (HS.out.below HB0.out)).mono ?_
  rintro e W1 ⟨rfl, hW⟩
  have HB1 := Lib.hid (belowOn HB0.out hW)
  have HZ1 := Lib.hid (HZ0.out.below hW)
  clear z0 z1 z2 z3
  obtain ⟨z0, z1, z2, z3⟩ := HZ1.out
  clear hW HB0 HZ0 H1
  go_wp2_with fail
  refine (H2.out _ (HS.out.below HB1.out)).mono ?_
  rintro e W2 ⟨rfl, hW⟩
  have HB2 := Lib.hid (belowOn HB1.out hW)
  have HZ2 := Lib.hid (HZ1.out.below hW)
  clear z0 z1 z2 z3
  obtain ⟨z0, z1, z2, z3⟩ := HZ2.out
  clear hW HB1 HZ1 H2
  go_wp2_with fail
  refine (H3.out _ (HS.out.below HB2.out)).mono ?_
  rintro e W3 ⟨rfl, hW⟩
  have HB3 := Lib.hid (belowOn HB2.out hW)
  have HZ3 := Lib.hid (HZ2.out.below hW)
  clear z0 z1 z2 z3
  obtain ⟨z0, z1, z2, z3⟩ := HZ3.out
  clear hW HB2 HZ2 H3
  go_wp2_with fail
  refine (H4.out _ (HS.out.below HB3.out)).mono ?_
  rintro e W4 ⟨rfl, hW⟩
  have HB4 := Lib.hid (belowOn HB3.out hW)
  have HZ4 := Lib.hid (HZ3.out.below hW)
  clear z0 z1 z2 z3
  obtain ⟨z0, z1, z2, z3⟩ := HZ4.out
  clear hW HB3 HZ3 H4
  go_wp2_with fail
  go_ret
  exact ⟨rfl, HB4.out⟩
end Go.Proofs.YtcgnfloinmmaoaaDoor
