/- ConfigGrows answers true for every configuration and every choice (the law of P3.1 and P3.2), in whatever memory in which the listed variables read as their texts lay them. -/
import Derived.Test.YtiifeocfphojaaaDoorCfgReads
import Derived.Deep.RegionHeld3
import Derived.Deep.DrawnRows
namespace Go.Proofs.YtiifeocfphojaaaDoor
open Go Go.RowKit
set_option maxRecDepth 100000
attribute [local go_sem ↓] Go.wp_at_zero Go.wp_at_succ

theorem mul_grows {p q p' q' : Int} (h1 : 0 < p) (h2 : p ≤ p') (h3 : 0 ≤ q) (h4 : q < q') : p * q < p' * q' := by
  have e1 : p * q < p * q' := Int.mul_lt_mul_of_pos_left h4 h1
  have e2 : p * q' ≤ p' * q' := Int.mul_le_mul_of_nonneg_right h2 (by omega)
  omega
set_option maxHeartbeats 3200000 in
theorem grows_wrong (a b c d : Int) (hr : ¬ Right a b c d) (n : Nat) (w : World) (hL : Laid w) :
    Calls Tryd.prog 5 #[.agg #[.int .i64 a, .int .i64 b, .int .i64 c, .int .i64 d], .int .u8 n] w fun e w' => e = .returned (.bool true) ∧ Below w.heap.size w w' := by
  have hb := below_new w (.cells #[.int .i64 a, .int .i64 b, .int .i64 c, .int .i64 d] 23)
  have HA := Lib.hid (awake_c _ (hL.below hb))
  have HC := Lib.hid (check_wrong a b c d hr)
  have H1 := Lib.hid (words_wrong a b c d hr)
  have H2 := Lib.hid (opRounds_wrong a b c d hr)
  have H3 := Lib.hid (cycleRounds_wrong a b c d hr)
  have HX := Lib.hid (BoxAt.new w a b c d 23)
  have HB := Lib.hid hb
  have HL := Lib.hid hL
  clear hb hL hr
  go_enter Tryd.func5, Tryd.ntmps5
  go_wp2_with fail
  refine HA.out.mono ?_
  rintro e W ⟨rfl, hW⟩
  have HB1 := Lib.hid (belowOn HB.out hW)
  have HX1 := Lib.hid (HX.out.below hW)
  obtain ⟨x0, x1, x2, x3⟩ := HX1.out
  clear HA HB HX hW
  go_wp2_with fail
  refine (HC.out _ (HL.out.below HB1.out).spans).mono ?_
  rintro e W1 ⟨rfl, hW⟩
  have HB2 := Lib.hid (belowOn HB1.out hW)
  have HX2 := Lib.hid (HX1.out.below hW)
  have HS2 := Lib.hid (HL.out.below HB2.out).spans
  clear x0 x1 x2 x3
  obtain ⟨x0, x1, x2, x3⟩ := HX2.out
  clear HC HB1 HX1 hW
  go_wp2_with fail
  go_region_held3 (fun w' => w'.cell? ⟨w.heap.size, 0, none⟩ = some (.int .i64 a) ∧ w'.cell? ⟨w.heap.size, 1, none⟩ = some (.int .i64 b) ∧ w'.cell? ⟨w.heap.size, 2, none⟩ = some (.int .i64 c) ∧ w'.cell? ⟨w.heap.size, 3, none⟩ = some (.int .i64 d)) (first | assumption | go_keep)
    (first
      | (go_at_call 13; refine (H1.out _ ?_).mono ?_; exact HS2.out.below (Below.refl _ _).drew; rintro e w1 ⟨rfl, hW1⟩; have hX := BoxAt.below (a := a) (b := b) (c := c) (d := d) (B := w.heap.size) (by assumption) hW1; have HS3 := SpansAt.below (SpansAt.below HS2.out (Below.refl _ _).drew) hW1)
      | (go_at_call 15; refine (H2.out _ ?_).mono ?_; exact HS3; rintro e w2 ⟨rfl, hW2⟩; have hX := BoxAt.below (a := a) (b := b) (c := c) (d := d) (B := w.heap.size) (by assumption) hW2; have HS4 := HS3.below hW2)
      | (go_at_call 16; refine (H3.out _ ?_).mono ?_; exact HS4; rintro e w3 ⟨rfl, hW3⟩; have hX := BoxAt.below (a := a) (b := b) (c := c) (d := d) (B := w.heap.size) (by assumption) hW3))
  all_goals go_wp2_with fail
  all_goals go_ret
  all_goals exact ⟨rfl, belowOn (belowOn (belowOn HB2.out.drew hW1) hW2) hW3⟩
/-- Two configurations lie in blocks B and C. -/
abbrev Two (w : World) (B C : Nat) (a b c d a' b' c' d' : Int) : Prop := w.cell? ⟨B, 0, none⟩ = some (.int .i64 a) ∧ w.cell? ⟨B, 1, none⟩ = some (.int .i64 b) ∧ w.cell? ⟨B, 2, none⟩ = some (.int .i64 c) ∧ w.cell? ⟨B, 3, none⟩ = some (.int .i64 d) ∧
  w.cell? ⟨C, 0, none⟩ = some (.int .i64 a') ∧ w.cell? ⟨C, 1, none⟩ = some (.int .i64 b') ∧ w.cell? ⟨C, 2, none⟩ = some (.int .i64 c') ∧ w.cell? ⟨C, 3, none⟩ = some (.int .i64 d')
theorem Two.below {w w' : World} {B C : Nat} {a b c d a' b' c' d' : Int} (h : Two w B C a b c d a' b' c' d') (hb : Below w.heap.size w w') : Two w' B C a b c d a' b' c' d' := by
  obtain ⟨h0, h1, h2, h3, g0, g1, g2, g3⟩ := h
  obtain ⟨x0, x1, x2, x3⟩ := BoxAt.below (B := B) ⟨h0, h1, h2, h3⟩ hb
  obtain ⟨y0, y1, y2, y3⟩ := BoxAt.below (B := C) ⟨g0, g1, g2, g3⟩ hb
  exact ⟨x0, x1, x2, x3, y0, y1, y2, y3⟩
set_option maxHeartbeats 12800000 in
theorem grows_0 (a b c d : Int) (hr : Right a b c d) (n : Nat) (hn : n % 4 = 0) (hn8 : n < 256) (w : World) (hL : Laid w) :
    Calls Tryd.prog 5 #[.agg #[.int .i64 a, .int .i64 b, .int .i64 c, .int .i64 d], .int .u8 n] w fun e w' => e = .returned (.bool true) ∧ Below w.heap.size w w' := by
  have hb := below_new w (.cells #[.int .i64 a, .int .i64 b, .int .i64 c, .int .i64 d] 23)
  have HA := Lib.hid (awake_c _ (hL.below hb))
  have HC := Lib.hid (check_right a b c d hr)
  have HX := Lib.hid (BoxAt.new w a b c d 23)
  have HB := Lib.hid hb
  have HL := Lib.hid hL
  have HR := Lib.hid hr
  obtain ⟨ha1, ha2, hb1, hb2, hc1, hc2, hd1, hd2⟩ := hr
  have hi0 : ((n : Int) % 4 == 0) = true := by rw [beq_iff_eq]; omega
  clear hb hL
  go_enter Tryd.func5, Tryd.ntmps5
  go_wp2_with fail
  refine HA.out.mono ?_
  rintro e W ⟨rfl, hW⟩
  have HB1 := Lib.hid (belowOn HB.out hW)
  have HX1 := Lib.hid (HX.out.below hW)
  obtain ⟨x0, x1, x2, x3⟩ := HX1.out
  clear HA HB HX hW
  go_wp2_with fail
  refine (HC.out _ (HL.out.below HB1.out).spans).mono ?_
  rintro e W1 ⟨rfl, hW⟩
  have HB2 := Lib.hid (belowOn HB1.out hW)
  have HX2 := Lib.hid (HX1.out.below hW)
  clear x0 x1 x2 x3
  obtain ⟨x0, x1, x2, x3⟩ := HX2.out
  clear HC HB1 HX1 hW
  go_wp2_with fail
  have HB3 := Lib.hid (below_on HB2.out (.cells #[.int .i64 (a + 1), .int .i64 b, .int .i64 c, .int .i64 d] 23))
  have HX3 := Lib.hid (HX2.out.below (below_new W1 (.cells #[.int .i64 (a + 1), .int .i64 b, .int .i64 c, .int .i64 d] 23)))
  have HY3 := Lib.hid (BoxAt.new W1 (a + 1) b c d 23)
  by_cases hr' : Right (a + 1) b c d
  · refine (check_right (a + 1) b c d hr' _ (HL.out.below HB3.out).spans).mono ?_
    rintro e W2 ⟨rfl, hW⟩
    have HB4 := Lib.hid (belowOn HB3.out hW)
    have HS3 := Lib.hid (HL.out.below HB4.out).spans
    clear x0 x1 x2 x3
    obtain ⟨x0, x1, x2, x3⟩ := HX3.out.below hW
    obtain ⟨y0, y1, y2, y3⟩ := HY3.out.below hW
    have HWd := Lib.hid (words_right (a + 1) b c d hr'); have HWc := Lib.hid (words_right a b c d HR.out)
    have HCd := Lib.hid (cycleRounds_right (a + 1) b c d hr'); have HCc := Lib.hid (cycleRounds_right a b c d HR.out)
    have HRd := Lib.hid (roots_right (a + 1) b c d hr'); have HRc := Lib.hid (roots_right a b c d HR.out)
    have HOc := Lib.hid (opRounds_right a b c d HR.out)
    have hp := HR.out.prod
    have hq : True := trivial
    have h1 : 4 + b + (1 + d + b * c) + 3 * a < 4 + b + (1 + d + b * c) + 3 * (a + 1) := by omega
    have h2 : 32 * (a + b + 1) * (a + (1 + d + b * c) + 32 * b) < 32 * ((a + 1) + b + 1) * ((a + 1) + (1 + d + b * c) + 32 * b) := mul_grows (by omega) (by omega) (by omega) (by omega)
    have h3 : 1 + d + b * c ≤ 1 + d + b * c := by omega
    have HOd := Lib.hid (opRounds_right (a + 1) b c d hr')
    generalize (128 * (b + 1) : Int) = Oc at HOc HOd
    generalize 4 + b + (1 + d + b * c) + 3 * (a + 1) = Wd at HWd h1
    generalize 4 + b + (1 + d + b * c) + 3 * a = Wc at HWc h1
    generalize 32 * ((a + 1) + b + 1) * ((a + 1) + (1 + d + b * c) + 32 * b) = Cd at HCd h2
    generalize 32 * (a + b + 1) * (a + (1 + d + b * c) + 32 * b) = Cc at HCc h2
    clear h3
    generalize 1 + d + b * c = Rd at HRd HRc
    have k1 : decide (Wc < Wd) = true := decide_eq_true h1
    have k2 : decide (Cc < Cd) = true := decide_eq_true h2
    clear hq hp HX2 HX3 HY3 HB2 HB3 hr' hW
    go_wp2_with fail
    go_region_held3 (fun w' => w'.cell? ⟨w.heap.size, 0, none⟩ = some (.int .i64 a) ∧ w'.cell? ⟨w.heap.size, 1, none⟩ = some (.int .i64 b) ∧ w'.cell? ⟨w.heap.size, 2, none⟩ = some (.int .i64 c) ∧ w'.cell? ⟨w.heap.size, 3, none⟩ = some (.int .i64 d) ∧ w'.cell? ⟨W1.heap.size, 0, none⟩ = some (.int .i64 (a + 1)) ∧ w'.cell? ⟨W1.heap.size, 1, none⟩ = some (.int .i64 b) ∧ w'.cell? ⟨W1.heap.size, 2, none⟩ = some (.int .i64 c) ∧ w'.cell? ⟨W1.heap.size, 3, none⟩ = some (.int .i64 d)) (first | assumption | go_keep)
      (first
      | (go_at_call_of 13 (Value.int IntKind.i64 a); refine (HWc.out _ ?_).mono ?_; exact hS1; rintro e v1 ⟨rfl, hV1⟩; have hZ := Two.below (B := w.heap.size) (C := W1.heap.size) (a := a) (b := b) (c := c) (d := d) (a' := (a + 1)) (b' := b) (c' := c) (d' := d) (by assumption) hV1; have hS2 := SpansAt.below hS1 hV1)
      | (go_at_call 13; refine (HWd.out _ ?_).mono ?_; exact HS3.out.below (Below.refl _ _).drew; rintro e v0 ⟨rfl, hV0⟩; have hZ := Two.below (B := w.heap.size) (C := W1.heap.size) (a := a) (b := b) (c := c) (d := d) (a' := (a + 1)) (b' := b) (c' := c) (d' := d) (by assumption) hV0; have hS1 := SpansAt.below (SpansAt.below HS3.out (Below.refl _ _).drew) hV0)
      | (go_at_call_of 16 (Value.int IntKind.i64 a); refine (HCc.out _ ?_).mono ?_; exact hS3; rintro e v3 ⟨rfl, hV3⟩; have hZ := Two.below (B := w.heap.size) (C := W1.heap.size) (a := a) (b := b) (c := c) (d := d) (a' := (a + 1)) (b' := b) (c' := c) (d' := d) (by assumption) hV3; have hS4 := SpansAt.below hS3 hV3)
      | (go_at_call 16; refine (HCd.out _ ?_).mono ?_; exact hS2; rintro e v2 ⟨rfl, hV2⟩; have hZ := Two.below (B := w.heap.size) (C := W1.heap.size) (a := a) (b := b) (c := c) (d := d) (a' := (a + 1)) (b' := b) (c' := c) (d' := d) (by assumption) hV2; have hS3 := SpansAt.below hS2 hV2)
      | (go_at_call_of 15 (Value.int IntKind.i64 a); refine (HOc.out _ ?_).mono ?_; exact hS5; rintro e v5 ⟨rfl, hV5⟩; have hZ := Two.below (B := w.heap.size) (C := W1.heap.size) (a := a) (b := b) (c := c) (d := d) (a' := (a + 1)) (b' := b) (c' := c) (d' := d) (by assumption) hV5; have hS6 := SpansAt.below hS5 hV5)
      | (go_at_call 15; refine (HOd.out _ ?_).mono ?_; exact hS4; rintro e v4 ⟨rfl, hV4⟩; have hZ := Two.below (B := w.heap.size) (C := W1.heap.size) (a := a) (b := b) (c := c) (d := d) (a' := (a + 1)) (b' := b) (c' := c) (d' := d) (by assumption) hV4; have hS5 := SpansAt.below hS4 hV4)
      | (go_at_call_of 12 (Value.int IntKind.i64 a); refine (HRc.out _ ?_).mono ?_; exact hS7; rintro e v7 ⟨rfl, hV7⟩; have hZ := Two.below (B := w.heap.size) (C := W1.heap.size) (a := a) (b := b) (c := c) (d := d) (a' := (a + 1)) (b' := b) (c' := c) (d' := d) (by assumption) hV7; have hS8 := SpansAt.below hS7 hV7)
      | (go_at_call 12; refine (HRd.out _ ?_).mono ?_; exact hS6; rintro e v6 ⟨rfl, hV6⟩; have hZ := Two.below (B := w.heap.size) (C := W1.heap.size) (a := a) (b := b) (c := c) (d := d) (a' := (a + 1)) (b' := b) (c' := c) (d' := d) (by assumption) hV6; have hS7 := SpansAt.below hS6 hV6))
    all_goals go_wp2_with fail
    all_goals go_ret
    all_goals exact ⟨rfl, belowOn (belowOn (belowOn (belowOn (belowOn (belowOn (belowOn (belowOn HB4.out.drew hV0) hV1) hV2) hV3) hV4) hV5) hV6) hV7⟩
  · refine (check_wrong (a + 1) b c d hr' _ (HL.out.below HB3.out).spans).mono ?_
    rintro e W2 ⟨rfl, hW⟩
    have HB4 := Lib.hid (belowOn HB3.out hW)
    clear x0 x1 x2 x3 HX2 HX3 HY3 HB2 HB3 hW hr'
    go_wp2_with fail
    go_ret
    exact ⟨rfl, HB4.out⟩
set_option maxHeartbeats 12800000 in
theorem grows_1 (a b c d : Int) (hr : Right a b c d) (n : Nat) (hn : n % 4 = 1) (hn8 : n < 256) (w : World) (hL : Laid w) :
    Calls Tryd.prog 5 #[.agg #[.int .i64 a, .int .i64 b, .int .i64 c, .int .i64 d], .int .u8 n] w fun e w' => e = .returned (.bool true) ∧ Below w.heap.size w w' := by
  have hb := below_new w (.cells #[.int .i64 a, .int .i64 b, .int .i64 c, .int .i64 d] 23)
  have HA := Lib.hid (awake_c _ (hL.below hb))
  have HC := Lib.hid (check_right a b c d hr)
  have HX := Lib.hid (BoxAt.new w a b c d 23)
  have HB := Lib.hid hb
  have HL := Lib.hid hL
  have HR := Lib.hid hr
  obtain ⟨ha1, ha2, hb1, hb2, hc1, hc2, hd1, hd2⟩ := hr
  have hi0 : ((n : Int) % 4 == 0) = false := by rw [beq_eq_false_iff_ne]; omega
  have hi1 : ((n : Int) % 4 == 1) = true := by rw [beq_iff_eq]; omega
  clear hb hL
  go_enter Tryd.func5, Tryd.ntmps5
  go_wp2_with fail
  refine HA.out.mono ?_
  rintro e W ⟨rfl, hW⟩
  have HB1 := Lib.hid (belowOn HB.out hW)
  have HX1 := Lib.hid (HX.out.below hW)
  obtain ⟨x0, x1, x2, x3⟩ := HX1.out
  clear HA HB HX hW
  go_wp2_with fail
  refine (HC.out _ (HL.out.below HB1.out).spans).mono ?_
  rintro e W1 ⟨rfl, hW⟩
  have HB2 := Lib.hid (belowOn HB1.out hW)
  have HX2 := Lib.hid (HX1.out.below hW)
  clear x0 x1 x2 x3
  obtain ⟨x0, x1, x2, x3⟩ := HX2.out
  clear HC HB1 HX1 hW
  go_wp2_with fail
  have HB3 := Lib.hid (below_on HB2.out (.cells #[.int .i64 a, .int .i64 (b + 1), .int .i64 c, .int .i64 d] 23))
  have HX3 := Lib.hid (HX2.out.below (below_new W1 (.cells #[.int .i64 a, .int .i64 (b + 1), .int .i64 c, .int .i64 d] 23)))
  have HY3 := Lib.hid (BoxAt.new W1 a (b + 1) c d 23)
  by_cases hr' : Right a (b + 1) c d
  · refine (check_right a (b + 1) c d hr' _ (HL.out.below HB3.out).spans).mono ?_
    rintro e W2 ⟨rfl, hW⟩
    have HB4 := Lib.hid (belowOn HB3.out hW)
    have HS3 := Lib.hid (HL.out.below HB4.out).spans
    clear x0 x1 x2 x3
    obtain ⟨x0, x1, x2, x3⟩ := HX3.out.below hW
    obtain ⟨y0, y1, y2, y3⟩ := HY3.out.below hW
    have HWd := Lib.hid (words_right a (b + 1) c d hr'); have HWc := Lib.hid (words_right a b c d HR.out)
    have HCd := Lib.hid (cycleRounds_right a (b + 1) c d hr'); have HCc := Lib.hid (cycleRounds_right a b c d HR.out)
    have HRd := Lib.hid (roots_right a (b + 1) c d hr'); have HRc := Lib.hid (roots_right a b c d HR.out)
    have HOc := Lib.hid (opRounds_right a b c d HR.out)
    have hp := HR.out.prod
    have hq : (b + 1) * c = b * c + c := by rw [Int.add_mul]; omega
    have h1 : 4 + b + (1 + d + b * c) + 3 * a < 4 + (b + 1) + (1 + d + (b + 1) * c) + 3 * a := by omega
    have h2 : 32 * (a + b + 1) * (a + (1 + d + b * c) + 32 * b) < 32 * (a + (b + 1) + 1) * (a + (1 + d + (b + 1) * c) + 32 * (b + 1)) := mul_grows (by omega) (by omega) (by omega) (by omega)
    have h3 : 1 + d + b * c ≤ 1 + d + (b + 1) * c := by omega
    have HOd := Lib.hid (opRounds_right a (b + 1) c d hr')
    have hO : ((128 * (b + 1 + 1) : Int) == 128 * (b + 1)) = false := by rw [beq_eq_false_iff_ne]; omega
    have hbb : ((b + 1 : Int) == b) = false := by rw [beq_eq_false_iff_ne]; omega
    generalize (128 * (b + 1 + 1) : Int) = Od at HOd hO
    generalize (128 * (b + 1) : Int) = Oc at HOc hO
    generalize 4 + (b + 1) + (1 + d + (b + 1) * c) + 3 * a = Wd at HWd h1
    generalize 4 + b + (1 + d + b * c) + 3 * a = Wc at HWc h1
    generalize 32 * (a + (b + 1) + 1) * (a + (1 + d + (b + 1) * c) + 32 * (b + 1)) = Cd at HCd h2
    generalize 32 * (a + b + 1) * (a + (1 + d + b * c) + 32 * b) = Cc at HCc h2
    generalize 1 + d + (b + 1) * c = Rd at HRd h3
    generalize 1 + d + b * c = Rc at HRc h3
    have k1 : decide (Wc < Wd) = true := decide_eq_true h1
    have k2 : decide (Cc < Cd) = true := decide_eq_true h2
    have k3 : decide (Rc ≤ Rd) = true := decide_eq_true h3
    clear hq hp HX2 HX3 HY3 HB2 HB3 hr' hW
    go_wp2_with fail
    go_region_held3 (fun w' => w'.cell? ⟨w.heap.size, 0, none⟩ = some (.int .i64 a) ∧ w'.cell? ⟨w.heap.size, 1, none⟩ = some (.int .i64 b) ∧ w'.cell? ⟨w.heap.size, 2, none⟩ = some (.int .i64 c) ∧ w'.cell? ⟨w.heap.size, 3, none⟩ = some (.int .i64 d) ∧ w'.cell? ⟨W1.heap.size, 0, none⟩ = some (.int .i64 a) ∧ w'.cell? ⟨W1.heap.size, 1, none⟩ = some (.int .i64 (b + 1)) ∧ w'.cell? ⟨W1.heap.size, 2, none⟩ = some (.int .i64 c) ∧ w'.cell? ⟨W1.heap.size, 3, none⟩ = some (.int .i64 d)) (first | assumption | go_keep)
      (first
      | (go_at_call_of 13 (Value.int IntKind.i64 b); refine (HWc.out _ ?_).mono ?_; exact hS1; rintro e v1 ⟨rfl, hV1⟩; have hZ := Two.below (B := w.heap.size) (C := W1.heap.size) (a := a) (b := b) (c := c) (d := d) (a' := a) (b' := (b + 1)) (c' := c) (d' := d) (by assumption) hV1; have hS2 := SpansAt.below hS1 hV1)
      | (go_at_call 13; refine (HWd.out _ ?_).mono ?_; exact HS3.out.below (Below.refl _ _).drew; rintro e v0 ⟨rfl, hV0⟩; have hZ := Two.below (B := w.heap.size) (C := W1.heap.size) (a := a) (b := b) (c := c) (d := d) (a' := a) (b' := (b + 1)) (c' := c) (d' := d) (by assumption) hV0; have hS1 := SpansAt.below (SpansAt.below HS3.out (Below.refl _ _).drew) hV0)
      | (go_at_call_of 16 (Value.int IntKind.i64 b); refine (HCc.out _ ?_).mono ?_; exact hS3; rintro e v3 ⟨rfl, hV3⟩; have hZ := Two.below (B := w.heap.size) (C := W1.heap.size) (a := a) (b := b) (c := c) (d := d) (a' := a) (b' := (b + 1)) (c' := c) (d' := d) (by assumption) hV3; have hS4 := SpansAt.below hS3 hV3)
      | (go_at_call 16; refine (HCd.out _ ?_).mono ?_; exact hS2; rintro e v2 ⟨rfl, hV2⟩; have hZ := Two.below (B := w.heap.size) (C := W1.heap.size) (a := a) (b := b) (c := c) (d := d) (a' := a) (b' := (b + 1)) (c' := c) (d' := d) (by assumption) hV2; have hS3 := SpansAt.below hS2 hV2)
      | (go_at_call_of 15 (Value.int IntKind.i64 b); refine (HOc.out _ ?_).mono ?_; exact hS5; rintro e v5 ⟨rfl, hV5⟩; have hZ := Two.below (B := w.heap.size) (C := W1.heap.size) (a := a) (b := b) (c := c) (d := d) (a' := a) (b' := (b + 1)) (c' := c) (d' := d) (by assumption) hV5; have hS6 := SpansAt.below hS5 hV5)
      | (go_at_call 15; refine (HOd.out _ ?_).mono ?_; exact hS4; rintro e v4 ⟨rfl, hV4⟩; have hZ := Two.below (B := w.heap.size) (C := W1.heap.size) (a := a) (b := b) (c := c) (d := d) (a' := a) (b' := (b + 1)) (c' := c) (d' := d) (by assumption) hV4; have hS5 := SpansAt.below hS4 hV4)
      | (go_at_call_of 12 (Value.int IntKind.i64 b); refine (HRc.out _ ?_).mono ?_; exact hS7; rintro e v7 ⟨rfl, hV7⟩; have hZ := Two.below (B := w.heap.size) (C := W1.heap.size) (a := a) (b := b) (c := c) (d := d) (a' := a) (b' := (b + 1)) (c' := c) (d' := d) (by assumption) hV7; have hS8 := SpansAt.below hS7 hV7)
      | (go_at_call 12; refine (HRd.out _ ?_).mono ?_; exact hS6; rintro e v6 ⟨rfl, hV6⟩; have hZ := Two.below (B := w.heap.size) (C := W1.heap.size) (a := a) (b := b) (c := c) (d := d) (a' := a) (b' := (b + 1)) (c' := c) (d' := d) (by assumption) hV6; have hS7 := SpansAt.below hS6 hV6))
    all_goals go_wp2_with fail
    all_goals go_ret
    all_goals exact ⟨rfl, belowOn (belowOn (belowOn (belowOn (belowOn (belowOn (belowOn (belowOn HB4.out.drew hV0) hV1) hV2) hV3) hV4) hV5) hV6) hV7⟩
  · refine (check_wrong a (b + 1) c d hr' _ (HL.out.below HB3.out).spans).mono ?_
    rintro e W2 ⟨rfl, hW⟩
    have HB4 := Lib.hid (belowOn HB3.out hW)
    clear x0 x1 x2 x3 HX2 HX3 HY3 HB2 HB3 hW hr'
    go_wp2_with fail
    go_ret
    exact ⟨rfl, HB4.out⟩
set_option maxHeartbeats 12800000 in
theorem grows_2 (a b c d : Int) (hr : Right a b c d) (n : Nat) (hn : n % 4 = 2) (hn8 : n < 256) (w : World) (hL : Laid w) :
    Calls Tryd.prog 5 #[.agg #[.int .i64 a, .int .i64 b, .int .i64 c, .int .i64 d], .int .u8 n] w fun e w' => e = .returned (.bool true) ∧ Below w.heap.size w w' := by
  have hb := below_new w (.cells #[.int .i64 a, .int .i64 b, .int .i64 c, .int .i64 d] 23)
  have HA := Lib.hid (awake_c _ (hL.below hb))
  have HC := Lib.hid (check_right a b c d hr)
  have HX := Lib.hid (BoxAt.new w a b c d 23)
  have HB := Lib.hid hb
  have HL := Lib.hid hL
  have HR := Lib.hid hr
  obtain ⟨ha1, ha2, hb1, hb2, hc1, hc2, hd1, hd2⟩ := hr
  have hi0 : ((n : Int) % 4 == 0) = false := by rw [beq_eq_false_iff_ne]; omega
  have hi1 : ((n : Int) % 4 == 1) = false := by rw [beq_eq_false_iff_ne]; omega
  have hi2 : ((n : Int) % 4 == 2) = true := by rw [beq_iff_eq]; omega
  clear hb hL
  go_enter Tryd.func5, Tryd.ntmps5
  go_wp2_with fail
  refine HA.out.mono ?_
  rintro e W ⟨rfl, hW⟩
  have HB1 := Lib.hid (belowOn HB.out hW)
  have HX1 := Lib.hid (HX.out.below hW)
  obtain ⟨x0, x1, x2, x3⟩ := HX1.out
  clear HA HB HX hW
  go_wp2_with fail
  refine (HC.out _ (HL.out.below HB1.out).spans).mono ?_
  rintro e W1 ⟨rfl, hW⟩
  have HB2 := Lib.hid (belowOn HB1.out hW)
  have HX2 := Lib.hid (HX1.out.below hW)
  clear x0 x1 x2 x3
  obtain ⟨x0, x1, x2, x3⟩ := HX2.out
  clear HC HB1 HX1 hW
  go_wp2_with fail
  have HB3 := Lib.hid (below_on HB2.out (.cells #[.int .i64 a, .int .i64 b, .int .i64 (c + 1), .int .i64 d] 23))
  have HX3 := Lib.hid (HX2.out.below (below_new W1 (.cells #[.int .i64 a, .int .i64 b, .int .i64 (c + 1), .int .i64 d] 23)))
  have HY3 := Lib.hid (BoxAt.new W1 a b (c + 1) d 23)
  by_cases hr' : Right a b (c + 1) d
  · refine (check_right a b (c + 1) d hr' _ (HL.out.below HB3.out).spans).mono ?_
    rintro e W2 ⟨rfl, hW⟩
    have HB4 := Lib.hid (belowOn HB3.out hW)
    have HS3 := Lib.hid (HL.out.below HB4.out).spans
    clear x0 x1 x2 x3
    obtain ⟨x0, x1, x2, x3⟩ := HX3.out.below hW
    obtain ⟨y0, y1, y2, y3⟩ := HY3.out.below hW
    have HWd := Lib.hid (words_right a b (c + 1) d hr'); have HWc := Lib.hid (words_right a b c d HR.out)
    have HCd := Lib.hid (cycleRounds_right a b (c + 1) d hr'); have HCc := Lib.hid (cycleRounds_right a b c d HR.out)
    have HRd := Lib.hid (roots_right a b (c + 1) d hr'); have HRc := Lib.hid (roots_right a b c d HR.out)
    have HOc := Lib.hid (opRounds_right a b c d HR.out)
    have hp := HR.out.prod
    have hq : b * (c + 1) = b * c + b := by rw [Int.mul_add]; omega
    have h1 : 4 + b + (1 + d + b * c) + 3 * a < 4 + b + (1 + d + b * (c + 1)) + 3 * a := by omega
    have h2 : 32 * (a + b + 1) * (a + (1 + d + b * c) + 32 * b) < 32 * (a + b + 1) * (a + (1 + d + b * (c + 1)) + 32 * b) := mul_grows (by omega) (by omega) (by omega) (by omega)
    have h3 : 1 + d + b * c ≤ 1 + d + b * (c + 1) := by omega
    have HOd := Lib.hid (opRounds_right a b (c + 1) d hr')
    generalize (128 * (b + 1) : Int) = Oc at HOc HOd
    generalize 4 + b + (1 + d + b * (c + 1)) + 3 * a = Wd at HWd h1
    generalize 4 + b + (1 + d + b * c) + 3 * a = Wc at HWc h1
    generalize 32 * (a + b + 1) * (a + (1 + d + b * (c + 1)) + 32 * b) = Cd at HCd h2
    generalize 32 * (a + b + 1) * (a + (1 + d + b * c) + 32 * b) = Cc at HCc h2
    generalize 1 + d + b * (c + 1) = Rd at HRd h3
    generalize 1 + d + b * c = Rc at HRc h3
    have k1 : decide (Wc < Wd) = true := decide_eq_true h1
    have k2 : decide (Cc < Cd) = true := decide_eq_true h2
    have k3 : decide (Rc ≤ Rd) = true := decide_eq_true h3
    clear hq hp HX2 HX3 HY3 HB2 HB3 hr' hW
    go_wp2_with fail
    go_region_held3 (fun w' => w'.cell? ⟨w.heap.size, 0, none⟩ = some (.int .i64 a) ∧ w'.cell? ⟨w.heap.size, 1, none⟩ = some (.int .i64 b) ∧ w'.cell? ⟨w.heap.size, 2, none⟩ = some (.int .i64 c) ∧ w'.cell? ⟨w.heap.size, 3, none⟩ = some (.int .i64 d) ∧ w'.cell? ⟨W1.heap.size, 0, none⟩ = some (.int .i64 a) ∧ w'.cell? ⟨W1.heap.size, 1, none⟩ = some (.int .i64 b) ∧ w'.cell? ⟨W1.heap.size, 2, none⟩ = some (.int .i64 (c + 1)) ∧ w'.cell? ⟨W1.heap.size, 3, none⟩ = some (.int .i64 d)) (first | assumption | go_keep)
      (first
      | (go_at_call_of 13 (Value.int IntKind.i64 c); refine (HWc.out _ ?_).mono ?_; exact hS1; rintro e v1 ⟨rfl, hV1⟩; have hZ := Two.below (B := w.heap.size) (C := W1.heap.size) (a := a) (b := b) (c := c) (d := d) (a' := a) (b' := b) (c' := (c + 1)) (d' := d) (by assumption) hV1; have hS2 := SpansAt.below hS1 hV1)
      | (go_at_call 13; refine (HWd.out _ ?_).mono ?_; exact HS3.out.below (Below.refl _ _).drew; rintro e v0 ⟨rfl, hV0⟩; have hZ := Two.below (B := w.heap.size) (C := W1.heap.size) (a := a) (b := b) (c := c) (d := d) (a' := a) (b' := b) (c' := (c + 1)) (d' := d) (by assumption) hV0; have hS1 := SpansAt.below (SpansAt.below HS3.out (Below.refl _ _).drew) hV0)
      | (go_at_call_of 16 (Value.int IntKind.i64 c); refine (HCc.out _ ?_).mono ?_; exact hS3; rintro e v3 ⟨rfl, hV3⟩; have hZ := Two.below (B := w.heap.size) (C := W1.heap.size) (a := a) (b := b) (c := c) (d := d) (a' := a) (b' := b) (c' := (c + 1)) (d' := d) (by assumption) hV3; have hS4 := SpansAt.below hS3 hV3)
      | (go_at_call 16; refine (HCd.out _ ?_).mono ?_; exact hS2; rintro e v2 ⟨rfl, hV2⟩; have hZ := Two.below (B := w.heap.size) (C := W1.heap.size) (a := a) (b := b) (c := c) (d := d) (a' := a) (b' := b) (c' := (c + 1)) (d' := d) (by assumption) hV2; have hS3 := SpansAt.below hS2 hV2)
      | (go_at_call_of 15 (Value.int IntKind.i64 c); refine (HOc.out _ ?_).mono ?_; exact hS5; rintro e v5 ⟨rfl, hV5⟩; have hZ := Two.below (B := w.heap.size) (C := W1.heap.size) (a := a) (b := b) (c := c) (d := d) (a' := a) (b' := b) (c' := (c + 1)) (d' := d) (by assumption) hV5; have hS6 := SpansAt.below hS5 hV5)
      | (go_at_call 15; refine (HOd.out _ ?_).mono ?_; exact hS4; rintro e v4 ⟨rfl, hV4⟩; have hZ := Two.below (B := w.heap.size) (C := W1.heap.size) (a := a) (b := b) (c := c) (d := d) (a' := a) (b' := b) (c' := (c + 1)) (d' := d) (by assumption) hV4; have hS5 := SpansAt.below hS4 hV4)
      | (go_at_call_of 12 (Value.int IntKind.i64 c); refine (HRc.out _ ?_).mono ?_; exact hS7; rintro e v7 ⟨rfl, hV7⟩; have hZ := Two.below (B := w.heap.size) (C := W1.heap.size) (a := a) (b := b) (c := c) (d := d) (a' := a) (b' := b) (c' := (c + 1)) (d' := d) (by assumption) hV7; have hS8 := SpansAt.below hS7 hV7)
      | (go_at_call 12; refine (HRd.out _ ?_).mono ?_; exact hS6; rintro e v6 ⟨rfl, hV6⟩; have hZ := Two.below (B := w.heap.size) (C := W1.heap.size) (a := a) (b := b) (c := c) (d := d) (a' := a) (b' := b) (c' := (c + 1)) (d' := d) (by assumption) hV6; have hS7 := SpansAt.below hS6 hV6))
    all_goals go_wp2_with fail
    all_goals go_ret
    all_goals exact ⟨rfl, belowOn (belowOn (belowOn (belowOn (belowOn (belowOn (belowOn (belowOn HB4.out.drew hV0) hV1) hV2) hV3) hV4) hV5) hV6) hV7⟩
  · refine (check_wrong a b (c + 1) d hr' _ (HL.out.below HB3.out).spans).mono ?_
    rintro e W2 ⟨rfl, hW⟩
    have HB4 := Lib.hid (belowOn HB3.out hW)
    clear x0 x1 x2 x3 HX2 HX3 HY3 HB2 HB3 hW hr'
    go_wp2_with fail
    go_ret
    exact ⟨rfl, HB4.out⟩
set_option maxHeartbeats 12800000 in
theorem grows_3 (a b c d : Int) (hr : Right a b c d) (n : Nat) (hn : n % 4 = 3) (hn8 : n < 256) (w : World) (hL : Laid w) :
    Calls Tryd.prog 5 #[.agg #[.int .i64 a, .int .i64 b, .int .i64 c, .int .i64 d], .int .u8 n] w fun e w' => e = .returned (.bool true) ∧ Below w.heap.size w w' := by
  have hb := below_new w (.cells #[.int .i64 a, .int .i64 b, .int .i64 c, .int .i64 d] 23)
  have HA := Lib.hid (awake_c _ (hL.below hb))
  have HC := Lib.hid (check_right a b c d hr)
  have HX := Lib.hid (BoxAt.new w a b c d 23)
  have HB := Lib.hid hb
  have HL := Lib.hid hL
  have HR := Lib.hid hr
  obtain ⟨ha1, ha2, hb1, hb2, hc1, hc2, hd1, hd2⟩ := hr
  have hi0 : ((n : Int) % 4 == 0) = false := by rw [beq_eq_false_iff_ne]; omega
  have hi1 : ((n : Int) % 4 == 1) = false := by rw [beq_eq_false_iff_ne]; omega
  have hi2 : ((n : Int) % 4 == 2) = false := by rw [beq_eq_false_iff_ne]; omega
  clear hb hL
  go_enter Tryd.func5, Tryd.ntmps5
  go_wp2_with fail
  refine HA.out.mono ?_
  rintro e W ⟨rfl, hW⟩
  have HB1 := Lib.hid (belowOn HB.out hW)
  have HX1 := Lib.hid (HX.out.below hW)
  obtain ⟨x0, x1, x2, x3⟩ := HX1.out
  clear HA HB HX hW
  go_wp2_with fail
  refine (HC.out _ (HL.out.below HB1.out).spans).mono ?_
  rintro e W1 ⟨rfl, hW⟩
  have HB2 := Lib.hid (belowOn HB1.out hW)
  have HX2 := Lib.hid (HX1.out.below hW)
  clear x0 x1 x2 x3
  obtain ⟨x0, x1, x2, x3⟩ := HX2.out
  clear HC HB1 HX1 hW
  go_wp2_with fail
  have HB3 := Lib.hid (below_on HB2.out (.cells #[.int .i64 a, .int .i64 b, .int .i64 c, .int .i64 (d + 1)] 23))
  have HX3 := Lib.hid (HX2.out.below (below_new W1 (.cells #[.int .i64 a, .int .i64 b, .int .i64 c, .int .i64 (d + 1)] 23)))
  have HY3 := Lib.hid (BoxAt.new W1 a b c (d + 1) 23)
  by_cases hr' : Right a b c (d + 1)
  · refine (check_right a b c (d + 1) hr' _ (HL.out.below HB3.out).spans).mono ?_
    rintro e W2 ⟨rfl, hW⟩
    have HB4 := Lib.hid (belowOn HB3.out hW)
    have HS3 := Lib.hid (HL.out.below HB4.out).spans
    clear x0 x1 x2 x3
    obtain ⟨x0, x1, x2, x3⟩ := HX3.out.below hW
    obtain ⟨y0, y1, y2, y3⟩ := HY3.out.below hW
    have HWd := Lib.hid (words_right a b c (d + 1) hr'); have HWc := Lib.hid (words_right a b c d HR.out)
    have HCd := Lib.hid (cycleRounds_right a b c (d + 1) hr'); have HCc := Lib.hid (cycleRounds_right a b c d HR.out)
    have HRd := Lib.hid (roots_right a b c (d + 1) hr'); have HRc := Lib.hid (roots_right a b c d HR.out)
    have HOc := Lib.hid (opRounds_right a b c d HR.out)
    have hp := HR.out.prod
    have hq : True := trivial
    have h1 : 4 + b + (1 + d + b * c) + 3 * a < 4 + b + (1 + (d + 1) + b * c) + 3 * a := by omega
    have h2 : 32 * (a + b + 1) * (a + (1 + d + b * c) + 32 * b) < 32 * (a + b + 1) * (a + (1 + (d + 1) + b * c) + 32 * b) := mul_grows (by omega) (by omega) (by omega) (by omega)
    have h3 : 1 + d + b * c ≤ 1 + (d + 1) + b * c := by omega
    have HOd := Lib.hid (opRounds_right a b c (d + 1) hr')
    generalize (128 * (b + 1) : Int) = Oc at HOc HOd
    generalize 4 + b + (1 + (d + 1) + b * c) + 3 * a = Wd at HWd h1
    generalize 4 + b + (1 + d + b * c) + 3 * a = Wc at HWc h1
    generalize 32 * (a + b + 1) * (a + (1 + (d + 1) + b * c) + 32 * b) = Cd at HCd h2
    generalize 32 * (a + b + 1) * (a + (1 + d + b * c) + 32 * b) = Cc at HCc h2
    generalize 1 + (d + 1) + b * c = Rd at HRd h3
    generalize 1 + d + b * c = Rc at HRc h3
    have k1 : decide (Wc < Wd) = true := decide_eq_true h1
    have k2 : decide (Cc < Cd) = true := decide_eq_true h2
    have k3 : decide (Rc ≤ Rd) = true := decide_eq_true h3
    clear hq hp HX2 HX3 HY3 HB2 HB3 hr' hW
    go_wp2_with fail
    go_region_held3 (fun w' => w'.cell? ⟨w.heap.size, 0, none⟩ = some (.int .i64 a) ∧ w'.cell? ⟨w.heap.size, 1, none⟩ = some (.int .i64 b) ∧ w'.cell? ⟨w.heap.size, 2, none⟩ = some (.int .i64 c) ∧ w'.cell? ⟨w.heap.size, 3, none⟩ = some (.int .i64 d) ∧ w'.cell? ⟨W1.heap.size, 0, none⟩ = some (.int .i64 a) ∧ w'.cell? ⟨W1.heap.size, 1, none⟩ = some (.int .i64 b) ∧ w'.cell? ⟨W1.heap.size, 2, none⟩ = some (.int .i64 c) ∧ w'.cell? ⟨W1.heap.size, 3, none⟩ = some (.int .i64 (d + 1))) (first | assumption | go_keep)
      (first
      | (go_at_call_of 13 (Value.int IntKind.i64 d); refine (HWc.out _ ?_).mono ?_; exact hS1; rintro e v1 ⟨rfl, hV1⟩; have hZ := Two.below (B := w.heap.size) (C := W1.heap.size) (a := a) (b := b) (c := c) (d := d) (a' := a) (b' := b) (c' := c) (d' := (d + 1)) (by assumption) hV1; have hS2 := SpansAt.below hS1 hV1)
      | (go_at_call 13; refine (HWd.out _ ?_).mono ?_; exact HS3.out.below (Below.refl _ _).drew; rintro e v0 ⟨rfl, hV0⟩; have hZ := Two.below (B := w.heap.size) (C := W1.heap.size) (a := a) (b := b) (c := c) (d := d) (a' := a) (b' := b) (c' := c) (d' := (d + 1)) (by assumption) hV0; have hS1 := SpansAt.below (SpansAt.below HS3.out (Below.refl _ _).drew) hV0)
      | (go_at_call_of 16 (Value.int IntKind.i64 d); refine (HCc.out _ ?_).mono ?_; exact hS3; rintro e v3 ⟨rfl, hV3⟩; have hZ := Two.below (B := w.heap.size) (C := W1.heap.size) (a := a) (b := b) (c := c) (d := d) (a' := a) (b' := b) (c' := c) (d' := (d + 1)) (by assumption) hV3; have hS4 := SpansAt.below hS3 hV3)
      | (go_at_call 16; refine (HCd.out _ ?_).mono ?_; exact hS2; rintro e v2 ⟨rfl, hV2⟩; have hZ := Two.below (B := w.heap.size) (C := W1.heap.size) (a := a) (b := b) (c := c) (d := d) (a' := a) (b' := b) (c' := c) (d' := (d + 1)) (by assumption) hV2; have hS3 := SpansAt.below hS2 hV2)
      | (go_at_call_of 15 (Value.int IntKind.i64 d); refine (HOc.out _ ?_).mono ?_; exact hS5; rintro e v5 ⟨rfl, hV5⟩; have hZ := Two.below (B := w.heap.size) (C := W1.heap.size) (a := a) (b := b) (c := c) (d := d) (a' := a) (b' := b) (c' := c) (d' := (d + 1)) (by assumption) hV5; have hS6 := SpansAt.below hS5 hV5)
      | (go_at_call 15; refine (HOd.out _ ?_).mono ?_; exact hS4; rintro e v4 ⟨rfl, hV4⟩; have hZ := Two.below (B := w.heap.size) (C := W1.heap.size) (a := a) (b := b) (c := c) (d := d) (a' := a) (b' := b) (c' := c) (d' := (d + 1)) (by assumption) hV4; have hS5 := SpansAt.below hS4 hV4)
      | (go_at_call_of 12 (Value.int IntKind.i64 d); refine (HRc.out _ ?_).mono ?_; exact hS7; rintro e v7 ⟨rfl, hV7⟩; have hZ := Two.below (B := w.heap.size) (C := W1.heap.size) (a := a) (b := b) (c := c) (d := d) (a' := a) (b' := b) (c' := c) (d' := (d + 1)) (by assumption) hV7; have hS8 := SpansAt.below hS7 hV7)
      | (go_at_call 12; refine (HRd.out _ ?_).mono ?_; exact hS6; rintro e v6 ⟨rfl, hV6⟩; have hZ := Two.below (B := w.heap.size) (C := W1.heap.size) (a := a) (b := b) (c := c) (d := d) (a' := a) (b' := b) (c' := c) (d' := (d + 1)) (by assumption) hV6; have hS7 := SpansAt.below hS6 hV6))
    all_goals go_wp2_with fail
    all_goals go_ret
    all_goals exact ⟨rfl, belowOn (belowOn (belowOn (belowOn (belowOn (belowOn (belowOn (belowOn HB4.out.drew hV0) hV1) hV2) hV3) hV4) hV5) hV6) hV7⟩
  · refine (check_wrong a b c (d + 1) hr' _ (HL.out.below HB3.out).spans).mono ?_
    rintro e W2 ⟨rfl, hW⟩
    have HB4 := Lib.hid (belowOn HB3.out hW)
    clear x0 x1 x2 x3 HX2 HX3 HY3 HB2 HB3 hW hr'
    go_wp2_with fail
    go_ret
    exact ⟨rfl, HB4.out⟩
end Go.Proofs.YtiifeocfphojaaaDoor
