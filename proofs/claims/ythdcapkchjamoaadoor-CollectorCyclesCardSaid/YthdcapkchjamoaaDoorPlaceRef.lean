/- The document's answers for places: At and Root, and the law's own at, for every configuration and every number. -/
import Derived.Test.YthdcapkchjamoaaDoorPlaceAt
import Derived.Test.YthdcapkchjamoaaDoorM4
namespace Go.Proofs.YthdcapkchjamoaaDoor
open Go Go.RowKit
set_option maxRecDepth 100000
attribute [local go_sem ↓] Go.wp_at_zero Go.wp_at_succ

/-- A spot lies in block B. -/
abbrev TriAt (w : World) (B : Nat) (x y z : Int) : Prop := w.cell? ⟨B, 0, none⟩ = some (.int .i64 x) ∧ w.cell? ⟨B, 1, none⟩ = some (.int .i64 y) ∧ w.cell? ⟨B, 2, none⟩ = some (.int .i64 z)
theorem TriAt.new (w : World) (x y z : Int) (t : TypeId) : TriAt (w.alloc (.cells #[.int .i64 x, .int .i64 y, .int .i64 z] t)) w.heap.size x y z := by
  unfold TriAt
  refine ⟨?_, ?_, ?_⟩ <;> (rw [World.cell?_alloc_new]; rfl)
theorem TriAt.below {w w' : World} {B : Nat} {x y z : Int} (h : TriAt w B x y z) (hb : Below w.heap.size w w') : TriAt w' B x y z := by
  have hl := lt_of_cell h.1
  exact ⟨(hb.cell (p := ⟨B, 0, none⟩) hl).trans h.1, (hb.cell (p := ⟨B, 1, none⟩) hl).trans h.2.1, (hb.cell (p := ⟨B, 2, none⟩) hl).trans h.2.2⟩
theorem refAt_wrong (k a b c d i r : Int) (hr : ¬ Right a b c d) (w : World) :
    Calls Tryd.prog 22 #[.agg #[.int .i64 a, .int .i64 b, .int .i64 c, .int .i64 d], .agg #[.int .i64 k, .int .i64 i, .int .i64 r]] w fun e w' => e = .returned (.int .i64 (-1)) ∧ Below w.heap.size w w' := by
  have hb := below_on (below_new w (.cells #[.int .i64 a, .int .i64 b, .int .i64 c, .int .i64 d] 23)) (.cells #[.int .i64 k, .int .i64 i, .int .i64 r] 66)
  have HX := Lib.hid ((BoxAt.new w a b c d 23).below (below_new _ (.cells #[.int .i64 k, .int .i64 i, .int .i64 r] 66)))
  have HY := Lib.hid (TriAt.new (w.alloc (.cells #[.int .i64 a, .int .i64 b, .int .i64 c, .int .i64 d] 23)) k i r 66)
  rw [show (w.alloc (.cells #[.int .i64 a, .int .i64 b, .int .i64 c, .int .i64 d] 23)).heap.size = w.heap.size + 1 by simp] at HY
  have HC := Lib.hid (refRight_wrong a b c d hr)
  have HB := Lib.hid hb
  clear hb
  clear hr
  obtain ⟨x0, x1, x2, x3⟩ := HX.out
  go_enter Tryd.func22, Tryd.ntmps22
  go_wp2_with fail
  refine (HC.out _).mono ?_
  rintro e W ⟨rfl, hW⟩
  have HB1 := Lib.hid (belowOn HB.out hW)
  clear x0 x1 x2 x3
  obtain ⟨x0, x1, x2, x3⟩ := HX.out.below hW
  obtain ⟨y0, y1, y2⟩ := HY.out.below hW
  clear hW HX HY HC HB
  go_wp2_with fail
  go_ret
  exact ⟨rfl, HB1.out⟩
set_option maxHeartbeats 1600000 in
theorem refAt_in (a b c d i : Int) (hr : Right a b c d) (w : World) :
    Calls Tryd.prog 22 #[.agg #[.int .i64 a, .int .i64 b, .int .i64 c, .int .i64 d], .agg #[.int .i64 1, .int .i64 i, .int .i64 0]] w fun e w' => e = .returned (.int .i64 (inP a b c d i)) ∧ Below w.heap.size w w' := by
  have hb := below_on (below_new w (.cells #[.int .i64 a, .int .i64 b, .int .i64 c, .int .i64 d] 23)) (.cells #[.int .i64 1, .int .i64 i, .int .i64 0] 66)
  have HX := Lib.hid ((BoxAt.new w a b c d 23).below (below_new _ (.cells #[.int .i64 1, .int .i64 i, .int .i64 0] 66)))
  have HY := Lib.hid (TriAt.new (w.alloc (.cells #[.int .i64 a, .int .i64 b, .int .i64 c, .int .i64 d] 23)) 1 i 0 66)
  rw [show (w.alloc (.cells #[.int .i64 a, .int .i64 b, .int .i64 c, .int .i64 d] 23)).heap.size = w.heap.size + 1 by simp] at HY
  have HC := Lib.hid (refRight_right a b c d hr)
  have HB := Lib.hid hb
  clear hb
  have hp1 : 1 ≤ b * c := hr.prod.1
  have hp2 : b * c ≤ 4032 := hr.prod.2
  by_cases h0 : i < 0
  · have HE : Hid (inP a b c d i = -1) := Lib.hid (by unfold inP; rw [if_neg (fun h => by omega)])
    generalize inP a b c d i = R at HE
    obtain ⟨ha1, ha2, hb1, hb2, hc1, hc2, hd1, hd2⟩ := hr
    have hr : True := trivial
    clear hr
    obtain ⟨x0, x1, x2, x3⟩ := HX.out
    go_enter Tryd.func22, Tryd.ntmps22
    go_wp2_with fail
    refine (HC.out _).mono ?_
    rintro e W ⟨rfl, hW⟩
    have HB1 := Lib.hid (belowOn HB.out hW)
    clear x0 x1 x2 x3
    obtain ⟨x0, x1, x2, x3⟩ := HX.out.below hW
    obtain ⟨y0, y1, y2⟩ := HY.out.below hW
    clear hW HX HY HC HB
    go_wp2_with fail
    go_ret
    exact ⟨by rw [HE.out]; rfl, HB1.out⟩
  by_cases h2 : i < b
  rotate_left
  · have HE : Hid (inP a b c d i = -1) := Lib.hid (by unfold inP; rw [if_neg (fun h => by omega)])
    generalize inP a b c d i = R at HE
    obtain ⟨ha1, ha2, hb1, hb2, hc1, hc2, hd1, hd2⟩ := hr
    have hr : True := trivial
    clear hr
    obtain ⟨x0, x1, x2, x3⟩ := HX.out
    go_enter Tryd.func22, Tryd.ntmps22
    go_wp2_with fail
    refine (HC.out _).mono ?_
    rintro e W ⟨rfl, hW⟩
    have HB1 := Lib.hid (belowOn HB.out hW)
    clear x0 x1 x2 x3
    obtain ⟨x0, x1, x2, x3⟩ := HX.out.below hW
    obtain ⟨y0, y1, y2⟩ := HY.out.below hW
    clear hW HX HY HC HB
    go_wp2_with fail
    go_ret
    exact ⟨by rw [HE.out]; rfl, HB1.out⟩
  have HE : Hid (inP a b c d i = 5 + i) := Lib.hid (by unfold inP; rw [if_pos ⟨by omega, hr⟩])
  generalize inP a b c d i = R at HE
  obtain ⟨ha1, ha2, hb1, hb2, hc1, hc2, hd1, hd2⟩ := hr
  have hr : True := trivial
  clear hr
  obtain ⟨x0, x1, x2, x3⟩ := HX.out
  go_enter Tryd.func22, Tryd.ntmps22
  go_wp2_with fail
  refine (HC.out _).mono ?_
  rintro e W ⟨rfl, hW⟩
  have HB1 := Lib.hid (belowOn HB.out hW)
  clear x0 x1 x2 x3
  obtain ⟨x0, x1, x2, x3⟩ := HX.out.below hW
  obtain ⟨y0, y1, y2⟩ := HY.out.below hW
  clear hW HX HY HC HB
  go_wp2_with fail
  go_ret
  exact ⟨by rw [HE.out]; rfl, HB1.out⟩
set_option maxHeartbeats 1600000 in
theorem refAt_glob (a b c d i : Int) (hr : Right a b c d) (w : World) :
    Calls Tryd.prog 22 #[.agg #[.int .i64 a, .int .i64 b, .int .i64 c, .int .i64 d], .agg #[.int .i64 2, .int .i64 i, .int .i64 0]] w fun e w' => e = .returned (.int .i64 (globP a b c d i)) ∧ Below w.heap.size w w' := by
  have hb := below_on (below_new w (.cells #[.int .i64 a, .int .i64 b, .int .i64 c, .int .i64 d] 23)) (.cells #[.int .i64 2, .int .i64 i, .int .i64 0] 66)
  have HX := Lib.hid ((BoxAt.new w a b c d 23).below (below_new _ (.cells #[.int .i64 2, .int .i64 i, .int .i64 0] 66)))
  have HY := Lib.hid (TriAt.new (w.alloc (.cells #[.int .i64 a, .int .i64 b, .int .i64 c, .int .i64 d] 23)) 2 i 0 66)
  rw [show (w.alloc (.cells #[.int .i64 a, .int .i64 b, .int .i64 c, .int .i64 d] 23)).heap.size = w.heap.size + 1 by simp] at HY
  have HC := Lib.hid (refRight_right a b c d hr)
  have HB := Lib.hid hb
  clear hb
  have hp1 : 1 ≤ b * c := hr.prod.1
  have hp2 : b * c ≤ 4032 := hr.prod.2
  by_cases h0 : i < 0
  · have HE : Hid (globP a b c d i = -1) := Lib.hid (by unfold globP; rw [if_neg (fun h => by omega)])
    generalize globP a b c d i = R at HE
    obtain ⟨ha1, ha2, hb1, hb2, hc1, hc2, hd1, hd2⟩ := hr
    have hr : True := trivial
    clear hr
    obtain ⟨x0, x1, x2, x3⟩ := HX.out
    go_enter Tryd.func22, Tryd.ntmps22
    go_wp2_with fail
    refine (HC.out _).mono ?_
    rintro e W ⟨rfl, hW⟩
    have HB1 := Lib.hid (belowOn HB.out hW)
    clear x0 x1 x2 x3
    obtain ⟨x0, x1, x2, x3⟩ := HX.out.below hW
    obtain ⟨y0, y1, y2⟩ := HY.out.below hW
    clear hW HX HY HC HB
    go_wp2_with fail
    go_ret
    exact ⟨by rw [HE.out]; rfl, HB1.out⟩
  by_cases h2 : i < d
  rotate_left
  · have HE : Hid (globP a b c d i = -1) := Lib.hid (by unfold globP; rw [if_neg (fun h => by omega)])
    generalize globP a b c d i = R at HE
    obtain ⟨ha1, ha2, hb1, hb2, hc1, hc2, hd1, hd2⟩ := hr
    have hr : True := trivial
    clear hr
    obtain ⟨x0, x1, x2, x3⟩ := HX.out
    go_enter Tryd.func22, Tryd.ntmps22
    go_wp2_with fail
    refine (HC.out _).mono ?_
    rintro e W ⟨rfl, hW⟩
    have HB1 := Lib.hid (belowOn HB.out hW)
    clear x0 x1 x2 x3
    obtain ⟨x0, x1, x2, x3⟩ := HX.out.below hW
    obtain ⟨y0, y1, y2⟩ := HY.out.below hW
    clear hW HX HY HC HB
    go_wp2_with fail
    go_ret
    exact ⟨by rw [HE.out]; rfl, HB1.out⟩
  have HE : Hid (globP a b c d i = 5 + b + i) := Lib.hid (by unfold globP; rw [if_pos ⟨by omega, hr⟩])
  generalize globP a b c d i = R at HE
  obtain ⟨ha1, ha2, hb1, hb2, hc1, hc2, hd1, hd2⟩ := hr
  have hr : True := trivial
  clear hr
  obtain ⟨x0, x1, x2, x3⟩ := HX.out
  go_enter Tryd.func22, Tryd.ntmps22
  go_wp2_with fail
  refine (HC.out _).mono ?_
  rintro e W ⟨rfl, hW⟩
  have HB1 := Lib.hid (belowOn HB.out hW)
  clear x0 x1 x2 x3
  obtain ⟨x0, x1, x2, x3⟩ := HX.out.below hW
  obtain ⟨y0, y1, y2⟩ := HY.out.below hW
  clear hW HX HY HC HB
  go_wp2_with fail
  go_ret
  exact ⟨by rw [HE.out]; rfl, HB1.out⟩
set_option maxHeartbeats 1600000 in
theorem refAt_reg (a b c d i r : Int) (hr : Right a b c d) (w : World) :
    Calls Tryd.prog 22 #[.agg #[.int .i64 a, .int .i64 b, .int .i64 c, .int .i64 d], .agg #[.int .i64 3, .int .i64 i, .int .i64 r]] w fun e w' => e = .returned (.int .i64 (regP a b c d i r)) ∧ Below w.heap.size w w' := by
  have hb := below_on (below_new w (.cells #[.int .i64 a, .int .i64 b, .int .i64 c, .int .i64 d] 23)) (.cells #[.int .i64 3, .int .i64 i, .int .i64 r] 66)
  have HX := Lib.hid ((BoxAt.new w a b c d 23).below (below_new _ (.cells #[.int .i64 3, .int .i64 i, .int .i64 r] 66)))
  have HY := Lib.hid (TriAt.new (w.alloc (.cells #[.int .i64 a, .int .i64 b, .int .i64 c, .int .i64 d] 23)) 3 i r 66)
  rw [show (w.alloc (.cells #[.int .i64 a, .int .i64 b, .int .i64 c, .int .i64 d] 23)).heap.size = w.heap.size + 1 by simp] at HY
  have HC := Lib.hid (refRight_right a b c d hr)
  have HB := Lib.hid hb
  clear hb
  have hp1 : 1 ≤ b * c := hr.prod.1
  have hp2 : b * c ≤ 4032 := hr.prod.2
  by_cases h0 : i < 0
  · have HE : Hid (regP a b c d i r = -1) := Lib.hid (by unfold regP; rw [if_neg (fun h => by omega)])
    generalize regP a b c d i r = R at HE
    obtain ⟨ha1, ha2, hb1, hb2, hc1, hc2, hd1, hd2⟩ := hr
    have hr : True := trivial
    clear hr
    obtain ⟨x0, x1, x2, x3⟩ := HX.out
    go_enter Tryd.func22, Tryd.ntmps22
    go_wp2_with fail
    refine (HC.out _).mono ?_
    rintro e W ⟨rfl, hW⟩
    have HB1 := Lib.hid (belowOn HB.out hW)
    clear x0 x1 x2 x3
    obtain ⟨x0, x1, x2, x3⟩ := HX.out.below hW
    obtain ⟨y0, y1, y2⟩ := HY.out.below hW
    clear hW HX HY HC HB
    go_wp2_with fail
    go_ret
    exact ⟨by rw [HE.out]; rfl, HB1.out⟩
  by_cases h1 : r < 0
  · have HE : Hid (regP a b c d i r = -1) := Lib.hid (by unfold regP; rw [if_neg (fun h => by omega)])
    generalize regP a b c d i r = R at HE
    obtain ⟨ha1, ha2, hb1, hb2, hc1, hc2, hd1, hd2⟩ := hr
    have hr : True := trivial
    clear hr
    obtain ⟨x0, x1, x2, x3⟩ := HX.out
    go_enter Tryd.func22, Tryd.ntmps22
    go_wp2_with fail
    refine (HC.out _).mono ?_
    rintro e W ⟨rfl, hW⟩
    have HB1 := Lib.hid (belowOn HB.out hW)
    clear x0 x1 x2 x3
    obtain ⟨x0, x1, x2, x3⟩ := HX.out.below hW
    obtain ⟨y0, y1, y2⟩ := HY.out.below hW
    clear hW HX HY HC HB
    go_wp2_with fail
    go_ret
    exact ⟨by rw [HE.out]; rfl, HB1.out⟩
  by_cases h2 : i < b
  rotate_left
  · have HE : Hid (regP a b c d i r = -1) := Lib.hid (by unfold regP; rw [if_neg (fun h => by omega)])
    generalize regP a b c d i r = R at HE
    obtain ⟨ha1, ha2, hb1, hb2, hc1, hc2, hd1, hd2⟩ := hr
    have hr : True := trivial
    clear hr
    obtain ⟨x0, x1, x2, x3⟩ := HX.out
    go_enter Tryd.func22, Tryd.ntmps22
    go_wp2_with fail
    refine (HC.out _).mono ?_
    rintro e W ⟨rfl, hW⟩
    have HB1 := Lib.hid (belowOn HB.out hW)
    clear x0 x1 x2 x3
    obtain ⟨x0, x1, x2, x3⟩ := HX.out.below hW
    obtain ⟨y0, y1, y2⟩ := HY.out.below hW
    clear hW HX HY HC HB
    go_wp2_with fail
    go_ret
    exact ⟨by rw [HE.out]; rfl, HB1.out⟩
  by_cases h3 : r < c
  rotate_left
  · have HE : Hid (regP a b c d i r = -1) := Lib.hid (by unfold regP; rw [if_neg (fun h => by omega)])
    generalize regP a b c d i r = R at HE
    obtain ⟨ha1, ha2, hb1, hb2, hc1, hc2, hd1, hd2⟩ := hr
    have hr : True := trivial
    clear hr
    obtain ⟨x0, x1, x2, x3⟩ := HX.out
    go_enter Tryd.func22, Tryd.ntmps22
    go_wp2_with fail
    refine (HC.out _).mono ?_
    rintro e W ⟨rfl, hW⟩
    have HB1 := Lib.hid (belowOn HB.out hW)
    clear x0 x1 x2 x3
    obtain ⟨x0, x1, x2, x3⟩ := HX.out.below hW
    obtain ⟨y0, y1, y2⟩ := HY.out.below hW
    clear hW HX HY HC HB
    go_wp2_with fail
    go_ret
    exact ⟨by rw [HE.out]; rfl, HB1.out⟩
  have HE : Hid (regP a b c d i r = 5 + b + d + i * c + r) := Lib.hid (by unfold regP; rw [if_pos ⟨by omega, hr⟩])
  generalize regP a b c d i r = R at HE
  have hm := prod_lt hr (by omega : 0 ≤ i) h2 (by omega : 0 ≤ r) h3
  have hm1 : 0 ≤ i * c := hm.1
  have hm2 : i * c ≤ 4032 := by omega
  clear hm
  obtain ⟨ha1, ha2, hb1, hb2, hc1, hc2, hd1, hd2⟩ := hr
  have hr : True := trivial
  clear hr
  obtain ⟨x0, x1, x2, x3⟩ := HX.out
  go_enter Tryd.func22, Tryd.ntmps22
  go_wp2_with fail
  refine (HC.out _).mono ?_
  rintro e W ⟨rfl, hW⟩
  have HB1 := Lib.hid (belowOn HB.out hW)
  clear x0 x1 x2 x3
  obtain ⟨x0, x1, x2, x3⟩ := HX.out.below hW
  obtain ⟨y0, y1, y2⟩ := HY.out.below hW
  clear hW HX HY HC HB
  go_wp2_with fail
  go_ret
  exact ⟨by rw [HE.out]; rfl, HB1.out⟩
set_option maxHeartbeats 1600000 in
theorem refAt_car (a b c d i : Int) (hr : Right a b c d) (w : World) :
    Calls Tryd.prog 22 #[.agg #[.int .i64 a, .int .i64 b, .int .i64 c, .int .i64 d], .agg #[.int .i64 4, .int .i64 i, .int .i64 0]] w fun e w' => e = .returned (.int .i64 (partP a b c d 0 i)) ∧ Below w.heap.size w w' := by
  have hb := below_on (below_new w (.cells #[.int .i64 a, .int .i64 b, .int .i64 c, .int .i64 d] 23)) (.cells #[.int .i64 4, .int .i64 i, .int .i64 0] 66)
  have HX := Lib.hid ((BoxAt.new w a b c d 23).below (below_new _ (.cells #[.int .i64 4, .int .i64 i, .int .i64 0] 66)))
  have HY := Lib.hid (TriAt.new (w.alloc (.cells #[.int .i64 a, .int .i64 b, .int .i64 c, .int .i64 d] 23)) 4 i 0 66)
  rw [show (w.alloc (.cells #[.int .i64 a, .int .i64 b, .int .i64 c, .int .i64 d] 23)).heap.size = w.heap.size + 1 by simp] at HY
  have HC := Lib.hid (refRight_right a b c d hr)
  have HB := Lib.hid hb
  clear hb
  have hp1 : 1 ≤ b * c := hr.prod.1
  have hp2 : b * c ≤ 4032 := hr.prod.2
  by_cases h0 : i < 0
  · have HE : Hid (partP a b c d 0 i = -1) := Lib.hid (by unfold partP; rw [if_neg (fun h => by omega)])
    generalize partP a b c d 0 i = R at HE
    obtain ⟨ha1, ha2, hb1, hb2, hc1, hc2, hd1, hd2⟩ := hr
    have hr : True := trivial
    clear hr
    obtain ⟨x0, x1, x2, x3⟩ := HX.out
    go_enter Tryd.func22, Tryd.ntmps22
    go_wp2_with fail
    refine (HC.out _).mono ?_
    rintro e W ⟨rfl, hW⟩
    have HB1 := Lib.hid (belowOn HB.out hW)
    clear x0 x1 x2 x3
    obtain ⟨x0, x1, x2, x3⟩ := HX.out.below hW
    obtain ⟨y0, y1, y2⟩ := HY.out.below hW
    clear hW HX HY HC HB
    go_wp2_with fail
    go_ret
    exact ⟨by rw [HE.out]; rfl, HB1.out⟩
  by_cases h2 : i < a
  rotate_left
  · have HE : Hid (partP a b c d 0 i = -1) := Lib.hid (by unfold partP; rw [if_neg (fun h => by omega)])
    generalize partP a b c d 0 i = R at HE
    obtain ⟨ha1, ha2, hb1, hb2, hc1, hc2, hd1, hd2⟩ := hr
    have hr : True := trivial
    clear hr
    obtain ⟨x0, x1, x2, x3⟩ := HX.out
    go_enter Tryd.func22, Tryd.ntmps22
    go_wp2_with fail
    refine (HC.out _).mono ?_
    rintro e W ⟨rfl, hW⟩
    have HB1 := Lib.hid (belowOn HB.out hW)
    clear x0 x1 x2 x3
    obtain ⟨x0, x1, x2, x3⟩ := HX.out.below hW
    obtain ⟨y0, y1, y2⟩ := HY.out.below hW
    clear hW HX HY HC HB
    go_wp2_with fail
    go_ret
    exact ⟨by rw [HE.out]; rfl, HB1.out⟩
  have HE : Hid (partP a b c d 0 i = 5 + b + d + b * c + 3 * i) := Lib.hid (by unfold partP; rw [if_pos ⟨by omega, hr⟩]; omega)
  generalize partP a b c d 0 i = R at HE
  obtain ⟨ha1, ha2, hb1, hb2, hc1, hc2, hd1, hd2⟩ := hr
  have hr : True := trivial
  clear hr
  obtain ⟨x0, x1, x2, x3⟩ := HX.out
  go_enter Tryd.func22, Tryd.ntmps22
  go_wp2_with fail
  refine (HC.out _).mono ?_
  rintro e W ⟨rfl, hW⟩
  have HB1 := Lib.hid (belowOn HB.out hW)
  clear x0 x1 x2 x3
  obtain ⟨x0, x1, x2, x3⟩ := HX.out.below hW
  obtain ⟨y0, y1, y2⟩ := HY.out.below hW
  clear hW HX HY HC HB
  go_wp2_with fail
  go_ret
  exact ⟨by rw [HE.out]; rfl, HB1.out⟩
set_option maxHeartbeats 1600000 in
theorem refAt_cdr (a b c d i : Int) (hr : Right a b c d) (w : World) :
    Calls Tryd.prog 22 #[.agg #[.int .i64 a, .int .i64 b, .int .i64 c, .int .i64 d], .agg #[.int .i64 5, .int .i64 i, .int .i64 0]] w fun e w' => e = .returned (.int .i64 (partP a b c d 1 i)) ∧ Below w.heap.size w w' := by
  have hb := below_on (below_new w (.cells #[.int .i64 a, .int .i64 b, .int .i64 c, .int .i64 d] 23)) (.cells #[.int .i64 5, .int .i64 i, .int .i64 0] 66)
  have HX := Lib.hid ((BoxAt.new w a b c d 23).below (below_new _ (.cells #[.int .i64 5, .int .i64 i, .int .i64 0] 66)))
  have HY := Lib.hid (TriAt.new (w.alloc (.cells #[.int .i64 a, .int .i64 b, .int .i64 c, .int .i64 d] 23)) 5 i 0 66)
  rw [show (w.alloc (.cells #[.int .i64 a, .int .i64 b, .int .i64 c, .int .i64 d] 23)).heap.size = w.heap.size + 1 by simp] at HY
  have HC := Lib.hid (refRight_right a b c d hr)
  have HB := Lib.hid hb
  clear hb
  have hp1 : 1 ≤ b * c := hr.prod.1
  have hp2 : b * c ≤ 4032 := hr.prod.2
  by_cases h0 : i < 0
  · have HE : Hid (partP a b c d 1 i = -1) := Lib.hid (by unfold partP; rw [if_neg (fun h => by omega)])
    generalize partP a b c d 1 i = R at HE
    obtain ⟨ha1, ha2, hb1, hb2, hc1, hc2, hd1, hd2⟩ := hr
    have hr : True := trivial
    clear hr
    obtain ⟨x0, x1, x2, x3⟩ := HX.out
    go_enter Tryd.func22, Tryd.ntmps22
    go_wp2_with fail
    refine (HC.out _).mono ?_
    rintro e W ⟨rfl, hW⟩
    have HB1 := Lib.hid (belowOn HB.out hW)
    clear x0 x1 x2 x3
    obtain ⟨x0, x1, x2, x3⟩ := HX.out.below hW
    obtain ⟨y0, y1, y2⟩ := HY.out.below hW
    clear hW HX HY HC HB
    go_wp2_with fail
    go_ret
    exact ⟨by rw [HE.out]; rfl, HB1.out⟩
  by_cases h2 : i < a
  rotate_left
  · have HE : Hid (partP a b c d 1 i = -1) := Lib.hid (by unfold partP; rw [if_neg (fun h => by omega)])
    generalize partP a b c d 1 i = R at HE
    obtain ⟨ha1, ha2, hb1, hb2, hc1, hc2, hd1, hd2⟩ := hr
    have hr : True := trivial
    clear hr
    obtain ⟨x0, x1, x2, x3⟩ := HX.out
    go_enter Tryd.func22, Tryd.ntmps22
    go_wp2_with fail
    refine (HC.out _).mono ?_
    rintro e W ⟨rfl, hW⟩
    have HB1 := Lib.hid (belowOn HB.out hW)
    clear x0 x1 x2 x3
    obtain ⟨x0, x1, x2, x3⟩ := HX.out.below hW
    obtain ⟨y0, y1, y2⟩ := HY.out.below hW
    clear hW HX HY HC HB
    go_wp2_with fail
    go_ret
    exact ⟨by rw [HE.out]; rfl, HB1.out⟩
  have HE : Hid (partP a b c d 1 i = 5 + b + d + b * c + 3 * i + 5 - 4) := Lib.hid (by unfold partP; rw [if_pos ⟨by omega, hr⟩]; omega)
  generalize partP a b c d 1 i = R at HE
  obtain ⟨ha1, ha2, hb1, hb2, hc1, hc2, hd1, hd2⟩ := hr
  have hr : True := trivial
  clear hr
  obtain ⟨x0, x1, x2, x3⟩ := HX.out
  go_enter Tryd.func22, Tryd.ntmps22
  go_wp2_with fail
  refine (HC.out _).mono ?_
  rintro e W ⟨rfl, hW⟩
  have HB1 := Lib.hid (belowOn HB.out hW)
  clear x0 x1 x2 x3
  obtain ⟨x0, x1, x2, x3⟩ := HX.out.below hW
  obtain ⟨y0, y1, y2⟩ := HY.out.below hW
  clear hW HX HY HC HB
  go_wp2_with fail
  go_ret
  exact ⟨by rw [HE.out]; rfl, HB1.out⟩
set_option maxHeartbeats 1600000 in
theorem refAt_colour (a b c d i : Int) (hr : Right a b c d) (w : World) :
    Calls Tryd.prog 22 #[.agg #[.int .i64 a, .int .i64 b, .int .i64 c, .int .i64 d], .agg #[.int .i64 6, .int .i64 i, .int .i64 0]] w fun e w' => e = .returned (.int .i64 (partP a b c d 2 i)) ∧ Below w.heap.size w w' := by
  have hb := below_on (below_new w (.cells #[.int .i64 a, .int .i64 b, .int .i64 c, .int .i64 d] 23)) (.cells #[.int .i64 6, .int .i64 i, .int .i64 0] 66)
  have HX := Lib.hid ((BoxAt.new w a b c d 23).below (below_new _ (.cells #[.int .i64 6, .int .i64 i, .int .i64 0] 66)))
  have HY := Lib.hid (TriAt.new (w.alloc (.cells #[.int .i64 a, .int .i64 b, .int .i64 c, .int .i64 d] 23)) 6 i 0 66)
  rw [show (w.alloc (.cells #[.int .i64 a, .int .i64 b, .int .i64 c, .int .i64 d] 23)).heap.size = w.heap.size + 1 by simp] at HY
  have HC := Lib.hid (refRight_right a b c d hr)
  have HB := Lib.hid hb
  clear hb
  have hp1 : 1 ≤ b * c := hr.prod.1
  have hp2 : b * c ≤ 4032 := hr.prod.2
  by_cases h0 : i < 0
  · have HE : Hid (partP a b c d 2 i = -1) := Lib.hid (by unfold partP; rw [if_neg (fun h => by omega)])
    generalize partP a b c d 2 i = R at HE
    obtain ⟨ha1, ha2, hb1, hb2, hc1, hc2, hd1, hd2⟩ := hr
    have hr : True := trivial
    clear hr
    obtain ⟨x0, x1, x2, x3⟩ := HX.out
    go_enter Tryd.func22, Tryd.ntmps22
    go_wp2_with fail
    refine (HC.out _).mono ?_
    rintro e W ⟨rfl, hW⟩
    have HB1 := Lib.hid (belowOn HB.out hW)
    clear x0 x1 x2 x3
    obtain ⟨x0, x1, x2, x3⟩ := HX.out.below hW
    obtain ⟨y0, y1, y2⟩ := HY.out.below hW
    clear hW HX HY HC HB
    go_wp2_with fail
    go_ret
    exact ⟨by rw [HE.out]; rfl, HB1.out⟩
  by_cases h2 : i < a
  rotate_left
  · have HE : Hid (partP a b c d 2 i = -1) := Lib.hid (by unfold partP; rw [if_neg (fun h => by omega)])
    generalize partP a b c d 2 i = R at HE
    obtain ⟨ha1, ha2, hb1, hb2, hc1, hc2, hd1, hd2⟩ := hr
    have hr : True := trivial
    clear hr
    obtain ⟨x0, x1, x2, x3⟩ := HX.out
    go_enter Tryd.func22, Tryd.ntmps22
    go_wp2_with fail
    refine (HC.out _).mono ?_
    rintro e W ⟨rfl, hW⟩
    have HB1 := Lib.hid (belowOn HB.out hW)
    clear x0 x1 x2 x3
    obtain ⟨x0, x1, x2, x3⟩ := HX.out.below hW
    obtain ⟨y0, y1, y2⟩ := HY.out.below hW
    clear hW HX HY HC HB
    go_wp2_with fail
    go_ret
    exact ⟨by rw [HE.out]; rfl, HB1.out⟩
  have HE : Hid (partP a b c d 2 i = 5 + b + d + b * c + 3 * i + 6 - 4) := Lib.hid (by unfold partP; rw [if_pos ⟨by omega, hr⟩]; omega)
  generalize partP a b c d 2 i = R at HE
  obtain ⟨ha1, ha2, hb1, hb2, hc1, hc2, hd1, hd2⟩ := hr
  have hr : True := trivial
  clear hr
  obtain ⟨x0, x1, x2, x3⟩ := HX.out
  go_enter Tryd.func22, Tryd.ntmps22
  go_wp2_with fail
  refine (HC.out _).mono ?_
  rintro e W ⟨rfl, hW⟩
  have HB1 := Lib.hid (belowOn HB.out hW)
  clear x0 x1 x2 x3
  obtain ⟨x0, x1, x2, x3⟩ := HX.out.below hW
  obtain ⟨y0, y1, y2⟩ := HY.out.below hW
  clear hW HX HY HC HB
  go_wp2_with fail
  go_ret
  exact ⟨by rw [HE.out]; rfl, HB1.out⟩
end Go.Proofs.YthdcapkchjamoaaDoor
