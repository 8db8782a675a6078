/- The law PlaceRoots answers true for every configuration, in whatever memory in which the table of spans reads as its text lays it. -/
import Derived.Test.YtcgnfloinmmaoaaDoorPlaceAwake
import Derived.Test.YtcgnfloinmmaoaaDoorPlaceIn
import Derived.Deep.RegionWith
namespace Go.Proofs.YtcgnfloinmmaoaaDoor
open Go Go.RowKit
set_option maxRecDepth 100000
attribute [local go_sem ↓] Go.wp_at_zero Go.wp_at_succ

theorem root_glob {a b c d : Int} (hr : Right a b c d) (g : Int) (h0 : 0 ≤ g) (h1 : g < d) : rootP a b c d (g + 1) = globP a b c d g := by
  have hp := hr.prod
  rw [rootP_in hr _ (by omega) (by omega), globP_in hr g h0 h1]; omega
theorem root_reg {a b c d : Int} (hr : Right a b c d) (i r : Int) (h0 : 0 ≤ i) (h1 : i < b) (h2 : 0 ≤ r) (h3 : r < c) : rootP a b c d (1 + d + i * c + r) = regP a b c d i r ∧ (1 < 1 + d + i * c + r → rootP a b c d (1 + d + i * c + r - 1) = regP a b c d i r - 1) ∧ 0 ≤ regP a b c d i r ∧ regP a b c d i r ≤ 20000 := by
  have hp := hr.prod
  have hm := prod_lt hr h0 h1 h2 h3
  have hr' := hr
  unfold Right at hr'
  rw [regP_in hr i r h0 h1 h2 h3, rootP_in hr _ (by omega) (by omega)]
  refine ⟨by omega, fun h => ?_, by omega, by omega⟩
  rw [rootP_in hr _ (by omega) (by omega)]; omega
theorem root_zero {a b c d : Int} (hr : Right a b c d) : rootP a b c d 0 = 0 := by
  have hp := hr.prod
  have hr' := hr
  unfold Right at hr'
  unfold rootP; rw [if_pos ⟨by omega, hr⟩, if_pos rfl]
theorem root_less (a b c d : Int) : rootP a b c d (-1) = -1 := by unfold rootP; rw [if_neg (fun h => by omega)]
theorem root_more (a b c d : Int) : rootP a b c d (1 + d + b * c) = -1 := by unfold rootP; rw [if_neg (fun h => by omega)]
/-- What stays while the law goes on: the two configurations, and all that was there. -/
structure RBox (w wr : World) (M : Nat) (a b c d : Int) : Prop where
  old : Below w.heap.size w wr
  box : BoxAt wr w.heap.size a b c d
  map : BoxAt wr M a b c d
theorem RBox.two {w wr : World} {M : Nat} {a b c d : Int} (h : RBox w wr M a b c d) : Two wr w.heap.size M a b c d a b c d := ⟨h.box.1, h.box.2.1, h.box.2.2.1, h.box.2.2.2, h.map.1, h.map.2.1, h.map.2.2.1, h.map.2.2.2⟩
theorem RBox.of {w wr : World} {M : Nat} {a b c d : Int} (h : Below w.heap.size w wr) (t : Two wr w.heap.size M a b c d a b c d) : RBox w wr M a b c d := ⟨h, ⟨t.1, t.2.1, t.2.2.1, t.2.2.2.1⟩, t.2.2.2.2⟩
theorem RBox.below {w wr wq : World} {M : Nat} {a b c d : Int} (h : RBox w wr M a b c d) (hb : Below wr.heap.size wr wq) : RBox w wq M a b c d := ⟨belowOn h.old hb, h.box.below hb, h.map.below hb⟩
theorem placeRoots_wrong (a b c d : Int) (hr : ¬ Right a b c d) (w : World) (hS : SpansAt w) :
    Calls Tryd.prog 6 #[.agg #[.int .i64 a, .int .i64 b, .int .i64 c, .int .i64 d]] w fun e w' => e = .returned (.bool true) ∧ Below w.heap.size w w' := by
  have hb := below_new w (.cells #[.int .i64 a, .int .i64 b, .int .i64 c, .int .i64 d] 23)
  have HX0 := Lib.hid (BoxAt.new w a b c d 23)
  have HA := Lib.hid (awakeP_c _ (hS.below hb))
  have HN := Lib.hid (New_wrong a b c d hr)
  have HS := Lib.hid hS
  have HB0 := Lib.hid hb
  clear hS hb
  go_enter Tryd.func6, Tryd.ntmps6
  go_wp2_with fail
  refine HA.out.mono ?_
  rintro e W1 ⟨rfl, hW⟩
  have HB1 := Lib.hid (belowOn HB0.out hW)
  have HX1 := Lib.hid (HX0.out.below hW)
  obtain ⟨x0, x1, x2, x3⟩ := HX1.out
  clear HA HB0 HX0 hW
  go_wp2_with fail
  refine (HN.out _ (HS.out.below HB1.out)).mono ?_
  rintro e W2 ⟨rfl, hW⟩
  have hB2 := belowOn HB1.out hW
  have hX2 := HX1.out.below hW
  have HB3 := Lib.hid (below_on hB2 (.cells #[.int .i64 0, .int .i64 0, .int .i64 0, .int .i64 0] 26))
  have HX3 := Lib.hid (hX2.below (below_new W2 (.cells #[.int .i64 0, .int .i64 0, .int .i64 0, .int .i64 0] 26)))
  have HM3 := Lib.hid (BoxAt.new W2 0 0 0 0 26)
  clear x0 x1 x2 x3
  obtain ⟨x0, x1, x2, x3⟩ := HX3.out
  obtain ⟨m0, m1, m2, m3⟩ := HM3.out
  clear hW hB2 hX2 HX1 HB1 HN
  clear hr
  go_wp2_with fail
  go_ret
  exact ⟨rfl, HB3.out⟩
theorem placeRoots_big (a b c d : Int) (hr : Right a b c d) (hbig : 30 < a) (w : World) (hS : SpansAt w) :
    Calls Tryd.prog 6 #[.agg #[.int .i64 a, .int .i64 b, .int .i64 c, .int .i64 d]] w fun e w' => e = .returned (.bool true) ∧ Below w.heap.size w w' := by
  have hb := below_new w (.cells #[.int .i64 a, .int .i64 b, .int .i64 c, .int .i64 d] 23)
  have HX0 := Lib.hid (BoxAt.new w a b c d 23)
  have HA := Lib.hid (awakeP_c _ (hS.below hb))
  have HN := Lib.hid (New_right a b c d hr)
  have HS := Lib.hid hS
  have HB0 := Lib.hid hb
  clear hS hb
  go_enter Tryd.func6, Tryd.ntmps6
  go_wp2_with fail
  refine HA.out.mono ?_
  rintro e W1 ⟨rfl, hW⟩
  have HB1 := Lib.hid (belowOn HB0.out hW)
  have HX1 := Lib.hid (HX0.out.below hW)
  obtain ⟨x0, x1, x2, x3⟩ := HX1.out
  clear HA HB0 HX0 hW
  go_wp2_with fail
  refine (HN.out _ (HS.out.below HB1.out)).mono ?_
  rintro e W2 ⟨rfl, hW⟩
  have hB2 := belowOn HB1.out hW
  have hX2 := HX1.out.below hW
  have HB3 := Lib.hid (below_on hB2 (.cells #[.int .i64 a, .int .i64 b, .int .i64 c, .int .i64 d] 26))
  have HX3 := Lib.hid (hX2.below (below_new W2 (.cells #[.int .i64 a, .int .i64 b, .int .i64 c, .int .i64 d] 26)))
  have HM3 := Lib.hid (BoxAt.new W2 a b c d 26)
  clear x0 x1 x2 x3
  obtain ⟨x0, x1, x2, x3⟩ := HX3.out
  obtain ⟨m0, m1, m2, m3⟩ := HM3.out
  clear hW hB2 hX2 HX1 HB1 HN
  clear hr
  go_wp2_with fail
  go_ret
  exact ⟨rfl, HB3.out⟩
set_option maxHeartbeats 6400000 in
theorem placeRoots_right (a b c d : Int) (hr : Right a b c d) (hsm : ¬ 30 < a) (w : World) (hS : SpansAt w) :
    Calls Tryd.prog 6 #[.agg #[.int .i64 a, .int .i64 b, .int .i64 c, .int .i64 d]] w fun e w' => e = .returned (.bool true) ∧ Below w.heap.size w w' := by
  have k0 := Root_c a b c d 0; have k1 := Root_c a b c d (-1)
  rw [root_zero hr] at k0
  rw [root_less a b c d] at k1
  have K0 := Lib.hid k0; have K1 := Lib.hid k1
  have HR := Lib.hid hr
  clear k0 k1
  have hb := below_new w (.cells #[.int .i64 a, .int .i64 b, .int .i64 c, .int .i64 d] 23)
  have HX0 := Lib.hid (BoxAt.new w a b c d 23)
  have HA := Lib.hid (awakeP_c _ (hS.below hb))
  have HN := Lib.hid (New_right a b c d hr)
  have HS := Lib.hid hS
  have HB0 := Lib.hid hb
  clear hS hb
  go_enter Tryd.func6, Tryd.ntmps6
  go_wp2_with fail
  refine HA.out.mono ?_
  rintro e W1 ⟨rfl, hW⟩
  have HB1 := Lib.hid (belowOn HB0.out hW)
  have HX1 := Lib.hid (HX0.out.below hW)
  obtain ⟨x0, x1, x2, x3⟩ := HX1.out
  clear HA HB0 HX0 hW
  go_wp2_with fail
  refine (HN.out _ (HS.out.below HB1.out)).mono ?_
  rintro e W2 ⟨rfl, hW⟩
  have hB2 := belowOn HB1.out hW
  have hX2 := HX1.out.below hW
  have HB3 := Lib.hid (below_on hB2 (.cells #[.int .i64 a, .int .i64 b, .int .i64 c, .int .i64 d] 26))
  have HX3 := Lib.hid (hX2.below (below_new W2 (.cells #[.int .i64 a, .int .i64 b, .int .i64 c, .int .i64 d] 26)))
  have HM3 := Lib.hid (BoxAt.new W2 a b c d 26)
  clear x0 x1 x2 x3
  obtain ⟨x0, x1, x2, x3⟩ := HX3.out
  obtain ⟨m0, m1, m2, m3⟩ := HM3.out
  clear hW hB2 hX2 HX1 HB1 HN
  obtain ⟨ha1, ha2, hb1, hb2, hc1, hc2, hd1, hd2⟩ := hr
  go_wp2_with fail
  refine (K0.out _ (HS.out.below HB3.out)).mono ?_
  rintro e W4 ⟨rfl, hW⟩
  have HRB4 : Hid (RBox w W4 W2.heap.size a b c d) := Lib.hid (RBox.below ⟨HB3.out, HX3.out, HM3.out⟩ hW)
  clear x0 x1 x2 x3 m0 m1 m2 m3 hW HX3 HM3 HB3 K0
  obtain ⟨x0, x1, x2, x3, m0, m1, m2, m3⟩ := HRB4.out.two
  go_wp2_with fail
  refine (K1.out _ (HS.out.below HRB4.out.old)).mono ?_
  rintro e W5 ⟨rfl, hW⟩
  have HRB5 : Hid (RBox w W5 W2.heap.size a b c d) := Lib.hid (HRB4.out.below hW)
  clear x0 x1 x2 x3 m0 m1 m2 m3 hW HRB4 K1
  go_wp2_with fail
  go_loopw [5, 6] (fun vj vg wr => ∃ g j : Nat, vg = .int .i64 g ∧ vj = .int .i64 j ∧ (g : Int) ≤ d ∧ j ≤ 100 ∧ Hid (j = g + 1) ∧ Hid (RBox w wr W2.heap.size a b c d)) (fun _ vg _ => d.toNat - (intOf vg).toNat)
  case atStart => exact ⟨0, 1, rfl, rfl, by omega, by omega, Lib.hid rfl, HRB5⟩
  case round =>
    clear HRB5
    obtain ⟨g, j, rfl, rfl, hg, hj, HJ, HB⟩ := hrel
    obtain ⟨x0, x1, x2, x3, m0, m1, m2, m3⟩ := HB.out.two
    by_cases hlt : (g : Int) < d
    · have hK := Root_c a b c d (g + 1)
      rw [root_glob HR.out g (by omega) hlt] at hK
      rw [show ((g : Int) + 1) = (j : Int) by have := HJ.out; omega] at hK
      have K0 := Lib.hid hK; have K1 := Lib.hid (Glob_c a b c d g)
      generalize globP a b c d g = R at K0 K1
      have hQ : Below w.heap.size w wr.drew := HB.out.old.drew
      clear hK
      go_wp2_with fail
      go_region_held3 (fun w' => w'.cell? ⟨w.heap.size, 0, none⟩ = some (.int .i64 a) ∧ w'.cell? ⟨w.heap.size, 1, none⟩ = some (.int .i64 b) ∧ w'.cell? ⟨w.heap.size, 2, none⟩ = some (.int .i64 c) ∧ w'.cell? ⟨w.heap.size, 3, none⟩ = some (.int .i64 d) ∧ w'.cell? ⟨W2.heap.size, 0, none⟩ = some (.int .i64 a) ∧ w'.cell? ⟨W2.heap.size, 1, none⟩ = some (.int .i64 b) ∧ w'.cell? ⟨W2.heap.size, 2, none⟩ = some (.int .i64 c) ∧ w'.cell? ⟨W2.heap.size, 3, none⟩ = some (.int .i64 d)) (first | assumption | go_keep)
        (first
          | (go_at_call 17; (with_reducible refine (K0.out _ ?_).mono ?_); exact HS.out.below (by assumption); rintro e v ⟨rfl, hV⟩; have hX := Two.below (a := a) (b := b) (c := c) (d := d) (a' := a) (b' := b) (c' := c) (d' := d) (B := w.heap.size) (C := W2.heap.size) (by assumption) hV; have hQ := belowOn (w := w) (by assumption) hV; clear hV)
          | (go_at_call 12; (with_reducible refine (K1.out _ ?_).mono ?_); exact HS.out.below (by assumption); rintro e v ⟨rfl, hV⟩; have hX := Two.below (a := a) (b := b) (c := c) (d := d) (a' := a) (b' := b) (c' := c) (d' := d) (B := w.heap.size) (C := W2.heap.size) (by assumption) hV; have hQ := belowOn (w := w) (by assumption) hV; clear hV))
      all_goals
        have HB' : Hid (RBox w v W2.heap.size a b c d) := Lib.hid (RBox.of (by assumption) (by assumption))
        have HJ' : Hid (j + 1 = g + 1 + 1) := Lib.hid (by have := HJ.out; omega)
        clear hX hQ HB HJ
        go_wp2_with fail
        go_roundw
        case rel => exact ⟨g + 1, j + 1, by go_num, by go_num, by omega, by have := HJ'.out; omega, HJ', HB'⟩
        case measure => simp [intOf]; omega
    · go_wp2_with fail
      have HJ0 : Hid ((j : Int) = 1 + d) := Lib.hid (by have := HJ.out; omega)
      clear HJ
      go_loopw [5, 7] (fun vj vi wr => ∃ i j : Nat, vi = .int .i64 i ∧ vj = .int .i64 j ∧ (i : Int) ≤ b ∧ j ≤ 5000 ∧ Hid ((j : Int) = 1 + d + i * c) ∧ Hid (RBox w wr W2.heap.size a b c d)) (fun _ vi _ => b.toNat - (intOf vi).toNat)
      case atStart => exact ⟨0, j, rfl, rfl, by omega, by omega, Lib.hid (by rw [HJ0.out]; simp), HB⟩
      case round =>
        clear HB HJ0
        clear x0 x1 x2 x3 m0 m1 m2 m3 hj
        rename_i jold _ _
        obtain ⟨i, j, rfl, rfl, hi, hj, HJ, HB⟩ := hrel
        obtain ⟨x0, x1, x2, x3, m0, m1, m2, m3⟩ := HB.out.two
        by_cases hil : (i : Int) < b
        · go_wp2_with fail
          go_loopw [5, 8] (fun vj vr wr => ∃ r j : Nat, vr = .int .i64 r ∧ vj = .int .i64 j ∧ (r : Int) ≤ c ∧ j ≤ 5000 ∧ Hid ((j : Int) = 1 + d + i * c + r) ∧ Hid (RBox w wr W2.heap.size a b c d)) (fun _ vr _ => c.toNat - (intOf vr).toNat)
          case atStart => exact ⟨0, j, rfl, rfl, by omega, hj, Lib.hid (by rw [HJ.out]; simp), HB⟩
          case round =>
            clear HB HJ
            clear x0 x1 x2 x3 m0 m1 m2 m3 hj
            obtain ⟨r, j, rfl, rfl, hrc, hj, HJ, HB⟩ := hrel
            obtain ⟨x0, x1, x2, x3, m0, m1, m2, m3⟩ := HB.out.two
            by_cases hlt : (r : Int) < c
            · obtain ⟨e1, e2, e3, e4⟩ := root_reg HR.out i r (by omega) hil (by omega) hlt
              rw [← HJ.out] at e1 e2
              have hJ' : ((j + 1 : Nat) : Int) = 1 + d + (i : Int) * c + ((r + 1 : Nat) : Int) := by have := HJ.out; omega
              have HJ' := Lib.hid hJ'
              have hj2 : j + 1 ≤ 5000 := by
                have h1 := prod_lt HR.out (by omega : (0 : Int) ≤ i) hil (by omega : (0 : Int) ≤ r) hlt
                have h2 := HR.out.prod
                omega
              have hK := Root_c a b c d j
              rw [e1] at hK
              have K0 := Lib.hid hK; have K1 := Lib.hid (Reg_c a b c d i r)
              generalize regP a b c d i r = R at K0 K1 e2 e3 e4
              have hQ : Below w.heap.size w wr.drew := HB.out.old.drew
              clear hK hJ' e1
              by_cases h1 : 1 < (j : Int)
              · have hK := Root_c a b c d (j - 1)
                rw [e2 h1] at hK
                have K2 := Lib.hid hK
                have hw1 : IntKind.i64.wrap ((j : Int) - 1) = (j : Int) - 1 := IntWalk.i64_in _ (by omega)
                have hw2 : IntKind.i64.wrap (R - 1 + 1) = R := by rw [IntWalk.i64_in _ (by omega)]; omega
                have hw3 : IntKind.i64.wrap R = R := IntWalk.i64_in _ (by omega)
                have hd : decide ((1 : Int) < (j : Int)) = true := decide_eq_true h1
                clear hK e2 HB HJ
                go_wp2_with fail
                go_region_held3 (fun w' => w'.cell? ⟨w.heap.size, 0, none⟩ = some (.int .i64 a) ∧ w'.cell? ⟨w.heap.size, 1, none⟩ = some (.int .i64 b) ∧ w'.cell? ⟨w.heap.size, 2, none⟩ = some (.int .i64 c) ∧ w'.cell? ⟨w.heap.size, 3, none⟩ = some (.int .i64 d) ∧ w'.cell? ⟨W2.heap.size, 0, none⟩ = some (.int .i64 a) ∧ w'.cell? ⟨W2.heap.size, 1, none⟩ = some (.int .i64 b) ∧ w'.cell? ⟨W2.heap.size, 2, none⟩ = some (.int .i64 c) ∧ w'.cell? ⟨W2.heap.size, 3, none⟩ = some (.int .i64 d)) (first | assumption | go_keep)
                  (first
                    | (go_at_call 17; (with_reducible refine (K0.out _ ?_).mono ?_); exact HS.out.below (by assumption); rintro e v ⟨rfl, hV⟩; have hX := Two.below (a := a) (b := b) (c := c) (d := d) (a' := a) (b' := b) (c' := c) (d' := d) (B := w.heap.size) (C := W2.heap.size) (by assumption) hV; have hQ := belowOn (w := w) (by assumption) hV; clear hV)
                    | (go_at_call 17; (with_reducible refine (K2.out _ ?_).mono ?_); exact HS.out.below (by assumption); rintro e v ⟨rfl, hV⟩; have hX := Two.below (a := a) (b := b) (c := c) (d := d) (a' := a) (b' := b) (c' := c) (d' := d) (B := w.heap.size) (C := W2.heap.size) (by assumption) hV; have hQ := belowOn (w := w) (by assumption) hV; clear hV)
                    | (go_at_call 13; (with_reducible refine (K1.out _ ?_).mono ?_); exact HS.out.below (by assumption); rintro e v ⟨rfl, hV⟩; have hX := Two.below (a := a) (b := b) (c := c) (d := d) (a' := a) (b' := b) (c' := c) (d' := d) (B := w.heap.size) (C := W2.heap.size) (by assumption) hV; have hQ := belowOn (w := w) (by assumption) hV; clear hV))
                all_goals
                  have HB' : Hid (RBox w v W2.heap.size a b c d) := Lib.hid (RBox.of (by assumption) (by assumption))
                  clear hX hQ
                  go_wp2_with fail
                  clear hw1 hw2 hw3 hd
                  go_roundw
                  case rel => exact ⟨r + 1, j + 1, by go_num, by go_num, by omega, hj2, HJ', HB'⟩
                  case measure => simp [intOf]; omega
              · have hj1 : j = 1 := by
                  have h2 := prod_lt HR.out (by omega : (0 : Int) ≤ i) hil (by omega : (0 : Int) ≤ r) hlt
                  have h3 := HJ.out
                  omega
                have k0 := K0.out
                rw [show ((j : Nat) : Int) = 1 by omega] at k0
                have K2 := Lib.hid k0
                subst hj1
                clear e2 HB HJ k0 K0 h1
                go_wp2_with fail
                refine wp_region_held_drew (S := (fun w' => w'.cell? ⟨w.heap.size, 0, none⟩ = some (.int .i64 a) ∧ w'.cell? ⟨w.heap.size, 1, none⟩ = some (.int .i64 b) ∧ w'.cell? ⟨w.heap.size, 2, none⟩ = some (.int .i64 c) ∧ w'.cell? ⟨w.heap.size, 3, none⟩ = some (.int .i64 d) ∧ w'.cell? ⟨W2.heap.size, 0, none⟩ = some (.int .i64 a) ∧ w'.cell? ⟨W2.heap.size, 1, none⟩ = some (.int .i64 b) ∧ w'.cell? ⟨W2.heap.size, 2, none⟩ = some (.int .i64 c) ∧ w'.cell? ⟨W2.heap.size, 3, none⟩ = some (.int .i64 d))) (by kernel_rfl) ?_ (fun hHeld => ?_)
                · exact ⟨x0, x1, x2, x3, m0, m1, m2, m3⟩
                refine wpAnyH_take (i := 0) (oi := { dst := some 58, op := Op.load 26 (Operand.tmp 3), type := 26, pos := "law.go:113", after := #[], guard := none }) (v := ?vq0) rfl (by kernel_rfl) (by kernel_rfl) (by kernel_rfl) (fun _ _ _ h => h) (Or.inl ⟨by rfl, ?hyq0⟩) hHeld ?_
                case hyq0 => (intro w hSw; (try dsimp only at hSw); go_simp; (try with_reducible rfl))
                try simp only [Act.put, List.setIfInBounds_toArray, List.set_cons_zero, List.set_cons_succ]
                refine wpAnyH_take (i := 1) (oi := { dst := some 59, op := Op.move (Operand.tmp 5), type := 3, pos := "law.go:113", after := #[], guard := none }) (v := ?vq1) rfl (by kernel_rfl) (by kernel_rfl) (by kernel_rfl) (fun _ _ _ h => h) (Or.inl ⟨by rfl, ?hyq1⟩) hHeld ?_
                case hyq1 => (intro w hSw; (try dsimp only at hSw); go_simp; (try with_reducible rfl))
                try simp only [Act.put, List.setIfInBounds_toArray, List.set_cons_zero, List.set_cons_succ]
                refine wpAnyH_take (i := 3) (oi := { dst := some 61, op := Op.load 26 (Operand.tmp 3), type := 26, pos := "law.go:113", after := #[], guard := none }) (v := ?vq3) rfl (by kernel_rfl) (by kernel_rfl) (by kernel_rfl) (fun _ _ _ h => h) (Or.inl ⟨by rfl, ?hyq3⟩) hHeld ?_
                case hyq3 => (intro w hSw; (try dsimp only at hSw); go_simp; (try with_reducible rfl))
                try simp only [Act.put, List.setIfInBounds_toArray, List.set_cons_zero, List.set_cons_succ]
                refine wpAnyH_take (i := 4) (oi := { dst := some 62, op := Op.move (Operand.tmp 7), type := 3, pos := "law.go:113", after := #[], guard := none }) (v := ?vq4) rfl (by kernel_rfl) (by kernel_rfl) (by kernel_rfl) (fun _ _ _ h => h) (Or.inl ⟨by rfl, ?hyq4⟩) hHeld ?_
                case hyq4 => (intro w hSw; (try dsimp only at hSw); go_simp; (try with_reducible rfl))
                try simp only [Act.put, List.setIfInBounds_toArray, List.set_cons_zero, List.set_cons_succ]
                refine wpAnyH_take (i := 5) (oi := { dst := some 63, op := Op.move (Operand.tmp 8), type := 3, pos := "law.go:113", after := #[], guard := none }) (v := ?vq5) rfl (by kernel_rfl) (by kernel_rfl) (by kernel_rfl) (fun _ _ _ h => h) (Or.inl ⟨by rfl, ?hyq5⟩) hHeld ?_
                case hyq5 => (intro w hSw; (try dsimp only at hSw); go_simp; (try with_reducible rfl))
                try simp only [Act.put, List.setIfInBounds_toArray, List.set_cons_zero, List.set_cons_succ]
                refine wpAnyH_ready (rs := [2]) (by kernel_rfl) (by simp) ?_
                refine AllReadyH.cons (o := { dst := some 60, op := Op.call { callee := Callee.value (Operand.func 17), args := #[Operand.tmp 58, Operand.tmp 59], argTypes := #[26, 3] }, type := 3, pos := "law.go:113", after := #[{ on := 0, ground := Ground.data }, { on := 1, ground := Ground.data }], guard := none }) rfl (fun K hK => ?_) AllReadyH.nil
                go_simp
                refine (K2.out _ (HS.out.below hQ)).mono ?_
                rintro e v1 ⟨rfl, hV⟩
                have hX1 : Two v1 w.heap.size W2.heap.size a b c d a b c d := Two.below hHeld hV
                have hQ1 := belowOn (w := w) hQ hV
                clear hV hHeld
                try go_wp2_with fail
                refine hK.out _ _ ?_ (fun hHeld => ?_)
                · exact hX1
                clear hK K
                try simp only [Act.put, List.setIfInBounds_toArray, List.set_cons_zero, List.set_cons_succ]
                refine wpAnyH_ready (rs := [6]) (by kernel_rfl) (by simp) ?_
                refine AllReadyH.cons (o := { dst := some 64, op := Op.call { callee := Callee.value (Operand.func 13), args := #[Operand.tmp 61, Operand.tmp 62, Operand.tmp 63], argTypes := #[26, 3, 3] }, type := 3, pos := "law.go:113", after := #[{ on := 3, ground := Ground.data }, { on := 4, ground := Ground.data }, { on := 5, ground := Ground.data }, { on := 2, ground := Ground.chain }], guard := none }) rfl (fun K hK => ?_) AllReadyH.nil
                go_simp
                refine (K1.out _ (HS.out.below hQ1)).mono ?_
                rintro e v2 ⟨rfl, hV⟩
                have hX2 : Two v2 w.heap.size W2.heap.size a b c d a b c d := Two.below hHeld hV
                have hQ2 := belowOn (w := w) hQ1 hV
                clear hV hHeld
                try go_wp2_with fail
                refine hK.out _ _ ?_ (fun hHeld => ?_)
                · exact hX2
                clear hK K
                try simp only [Act.put, List.setIfInBounds_toArray, List.set_cons_zero, List.set_cons_succ]
                refine wpAnyH_take (i := 7) (oi := { dst := some 65, op := Op.binOp BinOp.neq 3 (Operand.tmp 60) (Operand.tmp 64) 3, type := 4, pos := "law.go:113", after := #[{ on := 2, ground := Ground.data }, { on := 6, ground := Ground.data }], guard := none }) (v := ?vq7) rfl (by kernel_rfl) (by kernel_rfl) (by kernel_rfl) (fun _ _ _ h => h) (Or.inl ⟨by rfl, ?hyq7⟩) hHeld ?_
                case hyq7 => (intro w hSw; (try dsimp only at hSw); go_simp; (try with_reducible rfl))
                try simp only [Act.put, List.setIfInBounds_toArray, List.set_cons_zero, List.set_cons_succ]
                refine wpAnyH_take (i := 8) (oi := { dst := some 66, op := Op.move (Operand.tmp 65), type := 4, pos := "law.go:113", after := #[{ on := 7, ground := Ground.data }, { on := 6, ground := Ground.chain }], guard := none }) (v := ?vq8) rfl (by kernel_rfl) (by kernel_rfl) (by kernel_rfl) (fun _ _ _ h => h) (Or.inl ⟨by rfl, ?hyq8⟩) hHeld ?_
                case hyq8 => (intro w hSw; (try dsimp only at hSw); go_simp; (try with_reducible rfl))
                try simp only [Act.put, List.setIfInBounds_toArray, List.set_cons_zero, List.set_cons_succ]
                refine wpAnyH_take (i := 9) (oi := { dst := some 67, op := Op.move (Operand.tmp 5), type := 3, pos := "law.go:113", after := #[{ on := 8, ground := Ground.guard }], guard := some (8, false) }) (v := ?vq9) rfl (by kernel_rfl) (by kernel_rfl) (by kernel_rfl) (fun _ _ _ h => h) (Or.inl ⟨by rfl, ?hyq9⟩) hHeld ?_
                case hyq9 => (intro w hSw; (try dsimp only at hSw); go_simp; (try with_reducible rfl))
                try simp only [Act.put, List.setIfInBounds_toArray, List.set_cons_zero, List.set_cons_succ]
                refine wpAnyH_take (i := 10) (oi := { dst := some 68, op := Op.binOp BinOp.gtr 3 (Operand.tmp 67) (Operand.const (Value.int IntKind.i64 1)) 3, type := 4, pos := "law.go:113", after := #[{ on := 9, ground := Ground.data }, { on := 8, ground := Ground.guard }], guard := some (8, false) }) (v := ?vq10) rfl (by kernel_rfl) (by kernel_rfl) (by kernel_rfl) (fun _ _ _ h => h) (Or.inl ⟨by rfl, ?hyq10⟩) hHeld ?_
                case hyq10 => (intro w hSw; (try dsimp only at hSw); go_simp; (try with_reducible rfl))
                try simp only [Act.put, List.setIfInBounds_toArray, List.set_cons_zero, List.set_cons_succ]
                refine wpAnyH_take (i := 11) (oi := { dst := some 69, op := Op.move (Operand.tmp 68), type := 4, pos := "law.go:113", after := #[{ on := 10, ground := Ground.data }, { on := 8, ground := Ground.chain }, { on := 8, ground := Ground.guard }], guard := some (8, false) }) (v := ?vq11) rfl (by kernel_rfl) (by kernel_rfl) (by kernel_rfl) (fun _ _ _ h => h) (Or.inl ⟨by rfl, ?hyq11⟩) hHeld ?_
                case hyq11 => (intro w hSw; (try dsimp only at hSw); go_simp; (try with_reducible rfl))
                try simp only [Act.put, List.setIfInBounds_toArray, List.set_cons_zero, List.set_cons_succ]
                refine wpAnyH_take (i := 12) (oi := { dst := some 70, op := Op.load 26 (Operand.tmp 3), type := 26, pos := "law.go:113", after := #[{ on := 11, ground := Ground.guard }], guard := some (11, true) }) (v := undef) rfl (by kernel_rfl) (by kernel_rfl) (by kernel_rfl) (fun _ _ _ h => h) (Or.inr ⟨by rfl, rfl⟩) hHeld ?_
                try simp only [Act.put, List.setIfInBounds_toArray, List.set_cons_zero, List.set_cons_succ]
                refine wpAnyH_take (i := 13) (oi := { dst := some 71, op := Op.move (Operand.tmp 5), type := 3, pos := "law.go:113", after := #[{ on := 11, ground := Ground.guard }], guard := some (11, true) }) (v := undef) rfl (by kernel_rfl) (by kernel_rfl) (by kernel_rfl) (fun _ _ _ h => h) (Or.inr ⟨by rfl, rfl⟩) hHeld ?_
                try simp only [Act.put, List.setIfInBounds_toArray, List.set_cons_zero, List.set_cons_succ]
                refine wpAnyH_take (i := 14) (oi := { dst := some 72, op := Op.call { callee := Callee.value (Operand.func 17), args := #[Operand.tmp 70, Operand.tmp 71], argTypes := #[26, 3] }, type := 3, pos := "law.go:113", after := #[{ on := 12, ground := Ground.data }, { on := 13, ground := Ground.data }, { on := 11, ground := Ground.chain }, { on := 11, ground := Ground.guard }], guard := some (11, true) }) (v := undef) rfl (by kernel_rfl) (by kernel_rfl) (by kernel_rfl) (fun _ _ _ h => h) (Or.inr ⟨by rfl, rfl⟩) hHeld ?_
                try simp only [Act.put, List.setIfInBounds_toArray, List.set_cons_zero, List.set_cons_succ]
                refine wpAnyH_take (i := 15) (oi := { dst := some 73, op := Op.load 26 (Operand.tmp 3), type := 26, pos := "law.go:113", after := #[{ on := 11, ground := Ground.guard }], guard := some (11, true) }) (v := undef) rfl (by kernel_rfl) (by kernel_rfl) (by kernel_rfl) (fun _ _ _ h => h) (Or.inr ⟨by rfl, rfl⟩) hHeld ?_
                try simp only [Act.put, List.setIfInBounds_toArray, List.set_cons_zero, List.set_cons_succ]
                refine wpAnyH_take (i := 16) (oi := { dst := some 74, op := Op.move (Operand.tmp 5), type := 3, pos := "law.go:113", after := #[{ on := 11, ground := Ground.guard }], guard := some (11, true) }) (v := undef) rfl (by kernel_rfl) (by kernel_rfl) (by kernel_rfl) (fun _ _ _ h => h) (Or.inr ⟨by rfl, rfl⟩) hHeld ?_
                try simp only [Act.put, List.setIfInBounds_toArray, List.set_cons_zero, List.set_cons_succ]
                refine wpAnyH_take (i := 17) (oi := { dst := some 75, op := Op.binOp BinOp.sub 3 (Operand.tmp 74) (Operand.const (Value.int IntKind.i64 1)) 3, type := 3, pos := "law.go:113", after := #[{ on := 16, ground := Ground.data }, { on := 11, ground := Ground.guard }], guard := some (11, true) }) (v := undef) rfl (by kernel_rfl) (by kernel_rfl) (by kernel_rfl) (fun _ _ _ h => h) (Or.inr ⟨by rfl, rfl⟩) hHeld ?_
                try simp only [Act.put, List.setIfInBounds_toArray, List.set_cons_zero, List.set_cons_succ]
                refine wpAnyH_take (i := 18) (oi := { dst := some 76, op := Op.call { callee := Callee.value (Operand.func 17), args := #[Operand.tmp 73, Operand.tmp 75], argTypes := #[26, 3] }, type := 3, pos := "law.go:113", after := #[{ on := 15, ground := Ground.data }, { on := 17, ground := Ground.data }, { on := 14, ground := Ground.chain }, { on := 11, ground := Ground.guard }], guard := some (11, true) }) (v := undef) rfl (by kernel_rfl) (by kernel_rfl) (by kernel_rfl) (fun _ _ _ h => h) (Or.inr ⟨by rfl, rfl⟩) hHeld ?_
                try simp only [Act.put, List.setIfInBounds_toArray, List.set_cons_zero, List.set_cons_succ]
                refine wpAnyH_take (i := 19) (oi := { dst := some 77, op := Op.binOp BinOp.add 3 (Operand.tmp 76) (Operand.const (Value.int IntKind.i64 1)) 3, type := 3, pos := "law.go:113", after := #[{ on := 18, ground := Ground.data }, { on := 11, ground := Ground.guard }], guard := some (11, true) }) (v := undef) rfl (by kernel_rfl) (by kernel_rfl) (by kernel_rfl) (fun _ _ _ h => h) (Or.inr ⟨by rfl, rfl⟩) hHeld ?_
                try simp only [Act.put, List.setIfInBounds_toArray, List.set_cons_zero, List.set_cons_succ]
                refine wpAnyH_take (i := 20) (oi := { dst := some 78, op := Op.binOp BinOp.neq 3 (Operand.tmp 72) (Operand.tmp 77) 3, type := 4, pos := "law.go:113", after := #[{ on := 14, ground := Ground.data }, { on := 19, ground := Ground.data }, { on := 11, ground := Ground.guard }], guard := some (11, true) }) (v := undef) rfl (by kernel_rfl) (by kernel_rfl) (by kernel_rfl) (fun _ _ _ h => h) (Or.inr ⟨by rfl, rfl⟩) hHeld ?_
                try simp only [Act.put, List.setIfInBounds_toArray, List.set_cons_zero, List.set_cons_succ]
                refine wpAnyH_take (i := 21) (oi := { dst := some 79, op := Op.pick (Operand.tmp 69) (Operand.tmp 78) (Operand.const (Value.bool false)), type := 4, pos := "law.go:113", after := #[{ on := 11, ground := Ground.data }, { on := 20, ground := Ground.data }, { on := 8, ground := Ground.guard }], guard := some (8, false) }) (v := ?vq21) rfl (by kernel_rfl) (by kernel_rfl) (by kernel_rfl) (fun _ _ _ h => h) (Or.inl ⟨by rfl, ?hyq21⟩) hHeld ?_
                case hyq21 => (intro w hSw; (try dsimp only at hSw); go_simp; (try with_reducible rfl))
                try simp only [Act.put, List.setIfInBounds_toArray, List.set_cons_zero, List.set_cons_succ]
                refine wpAnyH_take (i := 22) (oi := { dst := some 80, op := Op.pick (Operand.tmp 66) (Operand.const (Value.bool true)) (Operand.tmp 79), type := 4, pos := "law.go:113", after := #[{ on := 8, ground := Ground.data }, { on := 21, ground := Ground.data }], guard := none }) (v := ?vq22) rfl (by kernel_rfl) (by kernel_rfl) (by kernel_rfl) (fun _ _ _ h => h) (Or.inl ⟨by rfl, ?hyq22⟩) hHeld ?_
                case hyq22 => (intro w hSw; (try dsimp only at hSw); go_simp; (try with_reducible rfl))
                try simp only [Act.put, List.setIfInBounds_toArray, List.set_cons_zero, List.set_cons_succ]
                refine wpAnyH_done (by kernel_rfl) ?_ _
                have HB' : Hid (RBox w v2 W2.heap.size a b c d) := Lib.hid (RBox.of hQ2 hX2)
                clear hX1 hX2 hQ hQ1 hQ2 hHeld
                go_wp2_with fail
                go_roundw
                case rel => exact ⟨r + 1, 2, by go_num, by first | rfl | go_num, by omega, by omega, HJ', HB'⟩
                case measure => simp [intOf]; omega
            · have HJ' : Hid ((j : Int) = 1 + d + ((i + 1 : Nat) : Int) * c) := Lib.hid (by rw [mul_step, HJ.out]; omega)
              clear HJ
              go_wp2_with fail
              go_roundw
              case rel => exact ⟨i + 1, j, by go_num, rfl, by omega, hj, HJ', HB⟩
              case measure => simp [intOf]; omega
        · have hib : (i : Int) = b := by omega
          have hk := Root_c a b c d (1 + d + b * c)
          rw [root_more a b c d] at hk
          have hk2 := refRoots_right a b c d HR.out
          have hjb : 1 + d + b * c = (j : Int) := by rw [HJ.out, hib]
          rw [hjb] at hk hk2
          have K0 := Lib.hid hk; have K1 := Lib.hid hk2
          clear hk hk2 hib hjb HJ
          go_wp2_with fail
          refine (K0.out _ (HS.out.below HB.out.old)).mono ?_
          rintro e W6 ⟨rfl, hW⟩
          have HB6 := Lib.hid (HB.out.below hW)
          clear x0 x1 x2 x3 m0 m1 m2 m3 hW HB K0
          obtain ⟨x0, x1, x2, x3, m0, m1, m2, m3⟩ := HB6.out.two
          go_wp2_with fail
          refine (K1.out _).mono ?_
          rintro e W7 ⟨rfl, hW⟩
          have HB7 := Lib.hid (HB6.out.below hW).old
          clear hW HB6 K1
          go_wp2_with fail
          go_ret
          exact ⟨rfl, HB7.out⟩
theorem placeRoots_c (a b c d : Int) (w : World) (hS : SpansAt w) :
    Calls Tryd.prog 6 #[.agg #[.int .i64 a, .int .i64 b, .int .i64 c, .int .i64 d]] w fun e w' => e = .returned (.bool true) ∧ Below w.heap.size w w' := by
  by_cases hr : Right a b c d
  · by_cases hbig : 30 < a
    · exact placeRoots_big a b c d hr hbig w hS
    · exact placeRoots_right a b c d hr hbig w hS
  · exact placeRoots_wrong a b c d hr w hS
end Go.Proofs.YtcgnfloinmmaoaaDoor
