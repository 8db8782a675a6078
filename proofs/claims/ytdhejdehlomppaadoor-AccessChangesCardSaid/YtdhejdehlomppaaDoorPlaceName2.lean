/- Package place's Name: for every right configuration the name of every place, as the document says it of what lies there; of any other place, and of a configuration that isn't right, the empty text. -/
import Derived.Test.YtdhejdehlomppaaDoorPlaceName
namespace Go.Proofs.YtdhejdehlomppaaDoor
open Go Go.RowKit
set_option maxRecDepth 100000
attribute [local go_sem ↓] Go.wp_at_zero Go.wp_at_succ

theorem sizeP_right {a b c d : Int} (hr : Right a b c d) : sizeP a b c d = 5 + b + d + b * c + 3 * a := by unfold sizeP; rw [if_pos hr]; omega
theorem name1_c (what : List UInt8) (hw : what.length ≤ 20) (x : Int) (h0 : 0 ≤ x) (h1 : x ≤ 4096) (B : Nat) (w : World) (hL : Laid4 w) (hr : w.cell? ⟨B, 0, none⟩ = some (.int .i64 x)) :
    Calls Tryd.prog 27 #[.string ⟨what.toArray⟩, .slice (some ⟨B, 0, none⟩) 1 1] w fun e w' => e = .returned (.string ⟨(nm what [x]).toArray⟩) ∧ Below w.heap.size w w' :=
  name_c what hw [x] (by simp) (by simpa using ⟨h0, h1⟩) B 1 w hL (fun j hj => by obtain rfl : j = 0 := by simpa using hj
                                                                                  exact hr)
theorem name2_c (what : List UInt8) (hw : what.length ≤ 20) (x y : Int) (h0 : 0 ≤ x) (h1 : x ≤ 4096) (h2 : 0 ≤ y) (h3 : y ≤ 4096) (B : Nat) (w : World) (hL : Laid4 w) (hr : w.cell? ⟨B, 0, none⟩ = some (.int .i64 x)) (hr1 : w.cell? ⟨B, 1, none⟩ = some (.int .i64 y)) :
    Calls Tryd.prog 27 #[.string ⟨what.toArray⟩, .slice (some ⟨B, 0, none⟩) 2 2] w fun e w' => e = .returned (.string ⟨(nm what [x, y]).toArray⟩) ∧ Below w.heap.size w w' :=
  name_c what hw [x, y] (by simp) (by simp; omega) B 2 w hL (fun j hj => by
    obtain rfl | rfl : j = 0 ∨ j = 1 := by simp at hj; omega
    · exact hr
    · exact hr1)
theorem Name_none (a b c d n : Int) (h : ¬ (0 ≤ n ∧ n < sizeP a b c d)) (w : World) (hL : Laid4 w) :
    Calls Tryd.prog 16 #[.agg #[.int .i64 a, .int .i64 b, .int .i64 c, .int .i64 d], .int .i64 n] w fun e w' => e = .returned (.string ⟨#[]⟩) ∧ Below w.heap.size w w' := by
  have HX0 := Lib.hid (BoxAt.new w a b c d 27)
  have HB0 := Lib.hid (below_new w (.cells #[.int .i64 a, .int .i64 b, .int .i64 c, .int .i64 d] 27))
  have HL := Lib.hid hL
  clear hL
  have HZ := Lib.hid (Size_c a b c d)
  have HI := Lib.hid (within_no n (sizeP a b c d) h)
  generalize sizeP a b c d = z at *
  clear h
  obtain ⟨x0, x1, x2, x3⟩ := HX0.out
  go_enter Tryd.func16, Tryd.ntmps16
  go_wp2_with fail
  refine (HZ.out _ (HL.out.below HB0.out).spans).mono ?_
  rintro e W1 ⟨rfl, hW⟩
  have HB1 := Lib.hid (belowOn HB0.out hW)
  clear hW x0 x1 x2 x3
  go_wp2_with fail
  refine (HI.out _).mono ?_
  rintro e w' ⟨rfl, rfl⟩
  go_wp2_with fail
  go_ret
  exact ⟨rfl, HB1.out⟩
set_option maxHeartbeats 1600000 in
theorem Name_once (a b c d n : Int) (hr : Right a b c d) (h : 0 ≤ n ∧ n < sizeP a b c d) (h5 : n < 5) (w : World) (hL : Laid4 w) :
    Calls Tryd.prog 16 #[.agg #[.int .i64 a, .int .i64 b, .int .i64 c, .int .i64 d], .int .i64 n] w fun e w' => e = .returned (.string ⟨(nameOf (spotF b c d n)).toArray⟩) ∧ Below w.heap.size w w' := by
  have HX0 := Lib.hid (BoxAt.new w a b c d 27)
  have HB0 := Lib.hid (below_new w (.cells #[.int .i64 a, .int .i64 b, .int .i64 c, .int .i64 d] 27))
  have HL := Lib.hid hL
  clear hL
  have HZ := Lib.hid (Size_c a b c d)
  have HI := Lib.hid (within_yes n (sizeP a b c d) h.1 h.2)
  have HF0 := Lib.hid (firstIn_c a b c d)
  have HF1 := Lib.hid (firstGlob_right a b c d hr)
  have HF2 := Lib.hid (firstReg_right a b c d hr)
  have HF3 := Lib.hid (firstCell_right a b c d hr)
  have hp1 : 1 ≤ b * c := hr.prod.1
  have hp2 : b * c ≤ 4032 := hr.prod.2
  rw [sizeP_right hr] at HZ HI h
  obtain ⟨h0, hs⟩ := h
  obtain ⟨ha1, ha2, hb1, hb2, hc1, hc2, hd1, hd2⟩ := hr
  have HE : Hid (nameOf (spotF b c d n) = onceN n) := Lib.hid (by unfold spotF; rw [if_pos h5]; rfl)
  generalize nameOf (spotF b c d n) = R at HE
  have HO : Hid (∀ W, Below w.heap.size w W → OnceAt W) := Lib.hid (fun W h => (HL.out.below h).once)
  obtain rfl | rfl | rfl | rfl | rfl : n = 0 ∨ n = 1 ∨ n = 2 ∨ n = 3 ∨ n = 4 := by omega
  all_goals
    clear h0 hs h5
    obtain ⟨x0, x1, x2, x3⟩ := HX0.out
    go_enter Tryd.func16, Tryd.ntmps16
    go_wp2_with fail
    refine (HZ.out _ (HL.out.below HB0.out).spans).mono ?_
    rintro e W1 ⟨rfl, hW⟩
    have HB1 := Lib.hid (belowOn HB0.out hW)
    have HX1 := Lib.hid (HX0.out.below hW)
    clear x0 x1 x2 x3
    obtain ⟨x0, x1, x2, x3⟩ := HX1.out
    clear hW HB0 HX0
    go_wp2_with fail
    refine (HI.out _).mono ?_
    rintro e w' ⟨rfl, rfl⟩
    go_wp2_with fail
    refine (HF0.out _).mono ?_
    rintro e W2 ⟨rfl, hW⟩
    have HB2 := Lib.hid (belowOn HB1.out hW)
    have HX2 := Lib.hid (HX1.out.below hW)
    clear x0 x1 x2 x3
    obtain ⟨x0, x1, x2, x3⟩ := HX2.out
    clear hW HB1 HX1
    obtain ⟨o0, o1, o2, o3, o4⟩ := HO.out _ HB2.out
    go_wp2_with fail
    go_ret
    exact ⟨by rw [HE.out]; rfl, HB2.out⟩
set_option maxHeartbeats 1600000 in
theorem Name_in (a b c d n : Int) (hr : Right a b c d) (h : 0 ≤ n ∧ n < sizeP a b c d) (h5 : ¬ n < 5) (h6 : n < 5 + b) (w : World) (hL : Laid4 w) :
    Calls Tryd.prog 16 #[.agg #[.int .i64 a, .int .i64 b, .int .i64 c, .int .i64 d], .int .i64 n] w fun e w' => e = .returned (.string ⟨(nameOf (spotF b c d n)).toArray⟩) ∧ Below w.heap.size w w' := by
  have HX0 := Lib.hid (BoxAt.new w a b c d 27)
  have HB0 := Lib.hid (below_new w (.cells #[.int .i64 a, .int .i64 b, .int .i64 c, .int .i64 d] 27))
  have HL := Lib.hid hL
  clear hL
  have HZ := Lib.hid (Size_c a b c d)
  have HI := Lib.hid (within_yes n (sizeP a b c d) h.1 h.2)
  have HF0 := Lib.hid (firstIn_c a b c d)
  have HF1 := Lib.hid (firstGlob_right a b c d hr)
  have HF2 := Lib.hid (firstReg_right a b c d hr)
  have HF3 := Lib.hid (firstCell_right a b c d hr)
  have hp1 : 1 ≤ b * c := hr.prod.1
  have hp2 : b * c ≤ 4032 := hr.prod.2
  rw [sizeP_right hr] at HZ HI h
  obtain ⟨h0, hs⟩ := h
  obtain ⟨ha1, ha2, hb1, hb2, hc1, hc2, hd1, hd2⟩ := hr
  have HE : Hid (nameOf (spotF b c d n) = nm [105, 110] [n - 5]) := Lib.hid (by unfold spotF; rw [if_neg h5, if_pos h6]; rfl)
  generalize nameOf (spotF b c d n) = R at HE
  have HN := Lib.hid (name1_c [105, 110] (by decide) (n - 5) (by omega) (by omega))
  obtain ⟨x0, x1, x2, x3⟩ := HX0.out
  go_enter Tryd.func16, Tryd.ntmps16
  go_wp2_with fail
  refine (HZ.out _ (HL.out.below HB0.out).spans).mono ?_
  rintro e W1 ⟨rfl, hW⟩
  have HB1 := Lib.hid (belowOn HB0.out hW)
  have HX1 := Lib.hid (HX0.out.below hW)
  clear x0 x1 x2 x3
  obtain ⟨x0, x1, x2, x3⟩ := HX1.out
  clear hW HB0 HX0
  go_wp2_with fail
  refine (HI.out _).mono ?_
  rintro e w' ⟨rfl, rfl⟩
  go_wp2_with fail
  refine (HF0.out _).mono ?_
  rintro e W2 ⟨rfl, hW⟩
  have HB2 := Lib.hid (belowOn HB1.out hW)
  have HX2 := Lib.hid (HX1.out.below hW)
  clear x0 x1 x2 x3
  obtain ⟨x0, x1, x2, x3⟩ := HX2.out
  clear hW HB1 HX1
  go_wp2_with fail
  refine (HF1.out _).mono ?_
  rintro e W3 ⟨rfl, hW⟩
  have HB3 := Lib.hid (belowOn HB2.out hW)
  have HX3 := Lib.hid (HX2.out.below hW)
  clear x0 x1 x2 x3
  obtain ⟨x0, x1, x2, x3⟩ := HX3.out
  clear hW HB2 HX2
  go_wp2_with fail
  refine (HF0.out _).mono ?_
  rintro e W4 ⟨rfl, hW⟩
  have HB4 := Lib.hid (belowOn HB3.out hW)
  have HX4 := Lib.hid (HX3.out.below hW)
  clear x0 x1 x2 x3
  obtain ⟨x0, x1, x2, x3⟩ := HX4.out
  clear hW HB3 HX3
  go_wp2_with fail
  have hlen : W4.heap.size < (W4.alloc (.cells #[.int .i64 (n - 5)] 3)).heap.size := by simp
  refine (HN.out _ _ ((HL.out.below HB4.out).below (below_new _ _)) (by rw [World.cell?_alloc_new]; rfl)).mono ?_
  rintro e V ⟨rfl, hW⟩
  have HB' := Lib.hid (belowOn (below_on HB4.out (.cells #[.int .i64 (n - 5)] 3)) hW)
  clear hW hlen
  go_wp2_with fail
  go_ret
  exact ⟨by rw [HE.out]; rfl, HB'.out⟩
set_option maxHeartbeats 1600000 in
theorem Name_glob (a b c d n : Int) (hr : Right a b c d) (h : 0 ≤ n ∧ n < sizeP a b c d) (h5 : ¬ n < 5) (h6 : ¬ n < 5 + b) (h7 : n < 5 + b + d) (w : World) (hL : Laid4 w) :
    Calls Tryd.prog 16 #[.agg #[.int .i64 a, .int .i64 b, .int .i64 c, .int .i64 d], .int .i64 n] w fun e w' => e = .returned (.string ⟨(nameOf (spotF b c d n)).toArray⟩) ∧ Below w.heap.size w w' := by
  have HX0 := Lib.hid (BoxAt.new w a b c d 27)
  have HB0 := Lib.hid (below_new w (.cells #[.int .i64 a, .int .i64 b, .int .i64 c, .int .i64 d] 27))
  have HL := Lib.hid hL
  clear hL
  have HZ := Lib.hid (Size_c a b c d)
  have HI := Lib.hid (within_yes n (sizeP a b c d) h.1 h.2)
  have HF0 := Lib.hid (firstIn_c a b c d)
  have HF1 := Lib.hid (firstGlob_right a b c d hr)
  have HF2 := Lib.hid (firstReg_right a b c d hr)
  have HF3 := Lib.hid (firstCell_right a b c d hr)
  have hp1 : 1 ≤ b * c := hr.prod.1
  have hp2 : b * c ≤ 4032 := hr.prod.2
  rw [sizeP_right hr] at HZ HI h
  obtain ⟨h0, hs⟩ := h
  obtain ⟨ha1, ha2, hb1, hb2, hc1, hc2, hd1, hd2⟩ := hr
  have HE : Hid (nameOf (spotF b c d n) = nm [103, 108, 111, 98] [n - (5 + b)]) := Lib.hid (by unfold spotF; rw [if_neg h5, if_neg h6, if_pos h7]; rfl)
  generalize nameOf (spotF b c d n) = R at HE
  have HN := Lib.hid (name1_c [103, 108, 111, 98] (by decide) (n - (5 + b)) (by omega) (by omega))
  obtain ⟨x0, x1, x2, x3⟩ := HX0.out
  go_enter Tryd.func16, Tryd.ntmps16
  go_wp2_with fail
  refine (HZ.out _ (HL.out.below HB0.out).spans).mono ?_
  rintro e W1 ⟨rfl, hW⟩
  have HB1 := Lib.hid (belowOn HB0.out hW)
  have HX1 := Lib.hid (HX0.out.below hW)
  clear x0 x1 x2 x3
  obtain ⟨x0, x1, x2, x3⟩ := HX1.out
  clear hW HB0 HX0
  go_wp2_with fail
  refine (HI.out _).mono ?_
  rintro e w' ⟨rfl, rfl⟩
  go_wp2_with fail
  refine (HF0.out _).mono ?_
  rintro e W2 ⟨rfl, hW⟩
  have HB2 := Lib.hid (belowOn HB1.out hW)
  have HX2 := Lib.hid (HX1.out.below hW)
  clear x0 x1 x2 x3
  obtain ⟨x0, x1, x2, x3⟩ := HX2.out
  clear hW HB1 HX1
  go_wp2_with fail
  refine (HF1.out _).mono ?_
  rintro e W3 ⟨rfl, hW⟩
  have HB3 := Lib.hid (belowOn HB2.out hW)
  have HX3 := Lib.hid (HX2.out.below hW)
  clear x0 x1 x2 x3
  obtain ⟨x0, x1, x2, x3⟩ := HX3.out
  clear hW HB2 HX2
  go_wp2_with fail
  refine (HF2.out _).mono ?_
  rintro e W4 ⟨rfl, hW⟩
  have HB4 := Lib.hid (belowOn HB3.out hW)
  have HX4 := Lib.hid (HX3.out.below hW)
  clear x0 x1 x2 x3
  obtain ⟨x0, x1, x2, x3⟩ := HX4.out
  clear hW HB3 HX3
  go_wp2_with fail
  refine (HF1.out _).mono ?_
  rintro e W5 ⟨rfl, hW⟩
  have HB5 := Lib.hid (belowOn HB4.out hW)
  have HX5 := Lib.hid (HX4.out.below hW)
  clear x0 x1 x2 x3
  obtain ⟨x0, x1, x2, x3⟩ := HX5.out
  clear hW HB4 HX4
  go_wp2_with fail
  have hlen : W5.heap.size < (W5.alloc (.cells #[.int .i64 (n - (5 + b))] 3)).heap.size := by simp
  refine (HN.out _ _ ((HL.out.below HB5.out).below (below_new _ _)) (by rw [World.cell?_alloc_new]; rfl)).mono ?_
  rintro e V ⟨rfl, hW⟩
  have HB' := Lib.hid (belowOn (below_on HB5.out (.cells #[.int .i64 (n - (5 + b))] 3)) hW)
  clear hW hlen
  go_wp2_with fail
  go_ret
  exact ⟨by rw [HE.out]; rfl, HB'.out⟩
set_option maxHeartbeats 3200000 in
theorem Name_reg (a b c d n : Int) (hr : Right a b c d) (h : 0 ≤ n ∧ n < sizeP a b c d) (h5 : ¬ n < 5) (h6 : ¬ n < 5 + b) (h7 : ¬ n < 5 + b + d) (h8 : n < 5 + b + d + b * c) (w : World) (hL : Laid4 w) :
    Calls Tryd.prog 16 #[.agg #[.int .i64 a, .int .i64 b, .int .i64 c, .int .i64 d], .int .i64 n] w fun e w' => e = .returned (.string ⟨(nameOf (spotF b c d n)).toArray⟩) ∧ Below w.heap.size w w' := by
  have HX0 := Lib.hid (BoxAt.new w a b c d 27)
  have HB0 := Lib.hid (below_new w (.cells #[.int .i64 a, .int .i64 b, .int .i64 c, .int .i64 d] 27))
  have HL := Lib.hid hL
  clear hL
  have HZ := Lib.hid (Size_c a b c d)
  have HI := Lib.hid (within_yes n (sizeP a b c d) h.1 h.2)
  have HF0 := Lib.hid (firstIn_c a b c d)
  have HF1 := Lib.hid (firstGlob_right a b c d hr)
  have HF2 := Lib.hid (firstReg_right a b c d hr)
  have HF3 := Lib.hid (firstCell_right a b c d hr)
  have hp1 : 1 ≤ b * c := hr.prod.1
  have hp2 : b * c ≤ 4032 := hr.prod.2
  rw [sizeP_right hr] at HZ HI h
  obtain ⟨h0, hs⟩ := h
  obtain ⟨ha1, ha2, hb1, hb2, hc1, hc2, hd1, hd2⟩ := hr
  have HE : Hid (nameOf (spotF b c d n) = nm [114, 101, 103] [(n - (5 + b + d)) / c, (n - (5 + b + d)) % c]) := Lib.hid (by unfold spotF; rw [if_neg h5, if_neg h6, if_neg h7, if_pos h8]; rfl)
  generalize nameOf (spotF b c d n) = R at HE
  have hq1 : 0 ≤ (n - (5 + b + d)) / c := Int.ediv_nonneg (by omega) (by omega)
  have hq2 : (n - (5 + b + d)) / c < b := Int.ediv_lt_of_lt_mul (by omega) (by omega)
  have hm1 : 0 ≤ (n - (5 + b + d)) % c := Int.emod_nonneg _ (by omega)
  have hm2 : (n - (5 + b + d)) % c < c := Int.emod_lt_of_pos _ (by omega)
  have HN := Lib.hid (name2_c [114, 101, 103] (by decide) ((n - (5 + b + d)) / c) ((n - (5 + b + d)) % c) hq1 (by omega) hm1 (by omega))
  have hw1 : IntKind.i64.wrap ((n - (5 + b + d)) / c) = (n - (5 + b + d)) / c := IntWalk.i64_in _ (by omega)
  clear hq1 hq2 hm1 hm2
  have hcz : ¬ c = 0 := by omega
  have ht1 : (n - (5 + b + d)).tdiv c = (n - (5 + b + d)) / c := Int.tdiv_eq_ediv_of_nonneg (by omega)
  have ht2 : (n - (5 + b + d)).tmod c = (n - (5 + b + d)) % c := Int.tmod_eq_emod_of_nonneg (by omega)
  obtain ⟨x0, x1, x2, x3⟩ := HX0.out
  go_enter Tryd.func16, Tryd.ntmps16
  go_wp2_with fail
  refine (HZ.out _ (HL.out.below HB0.out).spans).mono ?_
  rintro e W1 ⟨rfl, hW⟩
  have HB1 := Lib.hid (belowOn HB0.out hW)
  have HX1 := Lib.hid (HX0.out.below hW)
  clear x0 x1 x2 x3
  obtain ⟨x0, x1, x2, x3⟩ := HX1.out
  clear hW HB0 HX0
  go_wp2_with fail
  refine (HI.out _).mono ?_
  rintro e w' ⟨rfl, rfl⟩
  go_wp2_with fail
  refine (HF0.out _).mono ?_
  rintro e W2 ⟨rfl, hW⟩
  have HB2 := Lib.hid (belowOn HB1.out hW)
  have HX2 := Lib.hid (HX1.out.below hW)
  clear x0 x1 x2 x3
  obtain ⟨x0, x1, x2, x3⟩ := HX2.out
  clear hW HB1 HX1
  go_wp2_with fail
  refine (HF1.out _).mono ?_
  rintro e W3 ⟨rfl, hW⟩
  have HB3 := Lib.hid (belowOn HB2.out hW)
  have HX3 := Lib.hid (HX2.out.below hW)
  clear x0 x1 x2 x3
  obtain ⟨x0, x1, x2, x3⟩ := HX3.out
  clear hW HB2 HX2
  go_wp2_with fail
  refine (HF2.out _).mono ?_
  rintro e W4 ⟨rfl, hW⟩
  have HB4 := Lib.hid (belowOn HB3.out hW)
  have HX4 := Lib.hid (HX3.out.below hW)
  clear x0 x1 x2 x3
  obtain ⟨x0, x1, x2, x3⟩ := HX4.out
  clear hW HB3 HX3
  go_wp2_with fail
  refine (HF3.out _).mono ?_
  rintro e W5 ⟨rfl, hW⟩
  have HB5 := Lib.hid (belowOn HB4.out hW)
  have HX5 := Lib.hid (HX4.out.below hW)
  clear x0 x1 x2 x3
  obtain ⟨x0, x1, x2, x3⟩ := HX5.out
  clear hW HB4 HX4
  go_wp2_with fail
  refine (HF2.out _).mono ?_
  rintro e W6 ⟨rfl, hW⟩
  have HB6 := Lib.hid (belowOn HB5.out hW)
  have HX6 := Lib.hid (HX5.out.below hW)
  clear x0 x1 x2 x3
  obtain ⟨x0, x1, x2, x3⟩ := HX6.out
  clear hW HB5 HX5
  go_wp2_with fail
  go_region_held3 (fun w' => w'.cell? ⟨w.heap.size, 0, none⟩ = some (.int .i64 a) ∧ w'.cell? ⟨w.heap.size, 1, none⟩ = some (.int .i64 b) ∧ w'.cell? ⟨w.heap.size, 2, none⟩ = some (.int .i64 c) ∧ w'.cell? ⟨w.heap.size, 3, none⟩ = some (.int .i64 d)) (first | assumption | go_keep)
    (first
      | (go_at_call 27; refine (HN.out _ _ ?_ ?_ ?_).mono ?_; exact (HL.out.below HB6.out).below (below_new _ _).drew; exact World.cell?_alloc_new ..; exact World.cell?_alloc_new ..; rintro e v ⟨rfl, hV⟩; have hX := BoxAt.below (a := a) (b := b) (c := c) (d := d) (B := w.heap.size) (by assumption) hV; have hQ' := belowOn (below_on HB6.out _).drew hV; clear hV))
  all_goals
    clear ht1 ht2 hw1
    go_wp2_with fail
    go_ret
    exact ⟨by rw [HE.out]; rfl, hQ'⟩
set_option maxHeartbeats 1600000 in
theorem Name_car (a b c d n : Int) (hr : Right a b c d) (h : 0 ≤ n ∧ n < sizeP a b c d) (h8 : 5 + b + d + b * c ≤ n) (hq : (n - (5 + b + d + b * c)) % 3 = 0) (w : World) (hL : Laid4 w) :
    Calls Tryd.prog 16 #[.agg #[.int .i64 a, .int .i64 b, .int .i64 c, .int .i64 d], .int .i64 n] w fun e w' => e = .returned (.string ⟨(nameOf (spotF b c d n)).toArray⟩) ∧ Below w.heap.size w w' := by
  have HX0 := Lib.hid (BoxAt.new w a b c d 27)
  have HB0 := Lib.hid (below_new w (.cells #[.int .i64 a, .int .i64 b, .int .i64 c, .int .i64 d] 27))
  have HL := Lib.hid hL
  clear hL
  have HZ := Lib.hid (Size_c a b c d)
  have HI := Lib.hid (within_yes n (sizeP a b c d) h.1 h.2)
  have HF0 := Lib.hid (firstIn_c a b c d)
  have HF1 := Lib.hid (firstGlob_right a b c d hr)
  have HF2 := Lib.hid (firstReg_right a b c d hr)
  have HF3 := Lib.hid (firstCell_right a b c d hr)
  have hp1 : 1 ≤ b * c := hr.prod.1
  have hp2 : b * c ≤ 4032 := hr.prod.2
  rw [sizeP_right hr] at HZ HI h
  obtain ⟨h0, hs⟩ := h
  obtain ⟨ha1, ha2, hb1, hb2, hc1, hc2, hd1, hd2⟩ := hr
  have HE : Hid (nameOf (spotF b c d n) = nm [99, 97, 114] [(n - (5 + b + d + b * c)) / 3]) := Lib.hid (by unfold spotF; rw [if_neg (by omega), if_neg (by omega), if_neg (by omega), if_neg (by omega), hq]; rfl)
  generalize nameOf (spotF b c d n) = R at HE
  have HN := Lib.hid (name1_c [99, 97, 114] (by decide) ((n - (5 + b + d + b * c)) / 3) (by omega) (by omega))
  have HO : Hid (∀ W, Below w.heap.size w W → PartAt W) := Lib.hid (fun W h => (HL.out.below h).part)
  obtain ⟨x0, x1, x2, x3⟩ := HX0.out
  go_enter Tryd.func16, Tryd.ntmps16
  go_wp2_with fail
  refine (HZ.out _ (HL.out.below HB0.out).spans).mono ?_
  rintro e W1 ⟨rfl, hW⟩
  have HB1 := Lib.hid (belowOn HB0.out hW)
  have HX1 := Lib.hid (HX0.out.below hW)
  clear x0 x1 x2 x3
  obtain ⟨x0, x1, x2, x3⟩ := HX1.out
  clear hW HB0 HX0
  go_wp2_with fail
  refine (HI.out _).mono ?_
  rintro e w' ⟨rfl, rfl⟩
  go_wp2_with fail
  refine (HF0.out _).mono ?_
  rintro e W2 ⟨rfl, hW⟩
  have HB2 := Lib.hid (belowOn HB1.out hW)
  have HX2 := Lib.hid (HX1.out.below hW)
  clear x0 x1 x2 x3
  obtain ⟨x0, x1, x2, x3⟩ := HX2.out
  clear hW HB1 HX1
  go_wp2_with fail
  refine (HF1.out _).mono ?_
  rintro e W3 ⟨rfl, hW⟩
  have HB3 := Lib.hid (belowOn HB2.out hW)
  have HX3 := Lib.hid (HX2.out.below hW)
  clear x0 x1 x2 x3
  obtain ⟨x0, x1, x2, x3⟩ := HX3.out
  clear hW HB2 HX2
  go_wp2_with fail
  refine (HF2.out _).mono ?_
  rintro e W4 ⟨rfl, hW⟩
  have HB4 := Lib.hid (belowOn HB3.out hW)
  have HX4 := Lib.hid (HX3.out.below hW)
  clear x0 x1 x2 x3
  obtain ⟨x0, x1, x2, x3⟩ := HX4.out
  clear hW HB3 HX3
  go_wp2_with fail
  refine (HF3.out _).mono ?_
  rintro e W5 ⟨rfl, hW⟩
  have HB5 := Lib.hid (belowOn HB4.out hW)
  have HX5 := Lib.hid (HX4.out.below hW)
  clear x0 x1 x2 x3
  obtain ⟨x0, x1, x2, x3⟩ := HX5.out
  clear hW HB4 HX4
  go_wp2_with fail
  refine (HF3.out _).mono ?_
  rintro e W6 ⟨rfl, hW⟩
  have HB6 := Lib.hid (belowOn HB5.out hW)
  have HX6 := Lib.hid (HX5.out.below hW)
  clear x0 x1 x2 x3
  obtain ⟨x0, x1, x2, x3⟩ := HX6.out
  clear hW HB5 HX5
  obtain ⟨o0, o1, o2⟩ := HO.out _ HB6.out
  go_wp2_with fail
  refine (HN.out _ _ ((HL.out.below HB6.out).below (below_new _ _)) (by rw [World.cell?_alloc_new]; rfl)).mono ?_
  rintro e V ⟨rfl, hW⟩
  have HB' := Lib.hid (belowOn (below_on HB6.out (.cells #[.int .i64 ((n - (5 + b + d + b * c)) / 3)] 3)) hW)
  clear hW
  go_wp2_with fail
  go_ret
  exact ⟨by rw [HE.out]; rfl, HB'.out⟩
set_option maxHeartbeats 1600000 in
theorem Name_cdr (a b c d n : Int) (hr : Right a b c d) (h : 0 ≤ n ∧ n < sizeP a b c d) (h8 : 5 + b + d + b * c ≤ n) (hq : (n - (5 + b + d + b * c)) % 3 = 1) (w : World) (hL : Laid4 w) :
    Calls Tryd.prog 16 #[.agg #[.int .i64 a, .int .i64 b, .int .i64 c, .int .i64 d], .int .i64 n] w fun e w' => e = .returned (.string ⟨(nameOf (spotF b c d n)).toArray⟩) ∧ Below w.heap.size w w' := by
  have HX0 := Lib.hid (BoxAt.new w a b c d 27)
  have HB0 := Lib.hid (below_new w (.cells #[.int .i64 a, .int .i64 b, .int .i64 c, .int .i64 d] 27))
  have HL := Lib.hid hL
  clear hL
  have HZ := Lib.hid (Size_c a b c d)
  have HI := Lib.hid (within_yes n (sizeP a b c d) h.1 h.2)
  have HF0 := Lib.hid (firstIn_c a b c d)
  have HF1 := Lib.hid (firstGlob_right a b c d hr)
  have HF2 := Lib.hid (firstReg_right a b c d hr)
  have HF3 := Lib.hid (firstCell_right a b c d hr)
  have hp1 : 1 ≤ b * c := hr.prod.1
  have hp2 : b * c ≤ 4032 := hr.prod.2
  rw [sizeP_right hr] at HZ HI h
  obtain ⟨h0, hs⟩ := h
  obtain ⟨ha1, ha2, hb1, hb2, hc1, hc2, hd1, hd2⟩ := hr
  have HE : Hid (nameOf (spotF b c d n) = nm [99, 100, 114] [(n - (5 + b + d + b * c)) / 3]) := Lib.hid (by unfold spotF; rw [if_neg (by omega), if_neg (by omega), if_neg (by omega), if_neg (by omega), hq]; rfl)
  generalize nameOf (spotF b c d n) = R at HE
  have HN := Lib.hid (name1_c [99, 100, 114] (by decide) ((n - (5 + b + d + b * c)) / 3) (by omega) (by omega))
  have HO : Hid (∀ W, Below w.heap.size w W → PartAt W) := Lib.hid (fun W h => (HL.out.below h).part)
  obtain ⟨x0, x1, x2, x3⟩ := HX0.out
  go_enter Tryd.func16, Tryd.ntmps16
  go_wp2_with fail
  refine (HZ.out _ (HL.out.below HB0.out).spans).mono ?_
  rintro e W1 ⟨rfl, hW⟩
  have HB1 := Lib.hid (belowOn HB0.out hW)
  have HX1 := Lib.hid (HX0.out.below hW)
  clear x0 x1 x2 x3
  obtain ⟨x0, x1, x2, x3⟩ := HX1.out
  clear hW HB0 HX0
  go_wp2_with fail
  refine (HI.out _).mono ?_
  rintro e w' ⟨rfl, rfl⟩
  go_wp2_with fail
  refine (HF0.out _).mono ?_
  rintro e W2 ⟨rfl, hW⟩
  have HB2 := Lib.hid (belowOn HB1.out hW)
  have HX2 := Lib.hid (HX1.out.below hW)
  clear x0 x1 x2 x3
  obtain ⟨x0, x1, x2, x3⟩ := HX2.out
  clear hW HB1 HX1
  go_wp2_with fail
  refine (HF1.out _).mono ?_
  rintro e W3 ⟨rfl, hW⟩
  have HB3 := Lib.hid (belowOn HB2.out hW)
  have HX3 := Lib.hid (HX2.out.below hW)
  clear x0 x1 x2 x3
  obtain ⟨x0, x1, x2, x3⟩ := HX3.out
  clear hW HB2 HX2
  go_wp2_with fail
  refine (HF2.out _).mono ?_
  rintro e W4 ⟨rfl, hW⟩
  have HB4 := Lib.hid (belowOn HB3.out hW)
  have HX4 := Lib.hid (HX3.out.below hW)
  clear x0 x1 x2 x3
  obtain ⟨x0, x1, x2, x3⟩ := HX4.out
  clear hW HB3 HX3
  go_wp2_with fail
  refine (HF3.out _).mono ?_
  rintro e W5 ⟨rfl, hW⟩
  have HB5 := Lib.hid (belowOn HB4.out hW)
  have HX5 := Lib.hid (HX4.out.below hW)
  clear x0 x1 x2 x3
  obtain ⟨x0, x1, x2, x3⟩ := HX5.out
  clear hW HB4 HX4
  go_wp2_with fail
  refine (HF3.out _).mono ?_
  rintro e W6 ⟨rfl, hW⟩
  have HB6 := Lib.hid (belowOn HB5.out hW)
  have HX6 := Lib.hid (HX5.out.below hW)
  clear x0 x1 x2 x3
  obtain ⟨x0, x1, x2, x3⟩ := HX6.out
  clear hW HB5 HX5
  obtain ⟨o0, o1, o2⟩ := HO.out _ HB6.out
  go_wp2_with fail
  refine (HN.out _ _ ((HL.out.below HB6.out).below (below_new _ _)) (by rw [World.cell?_alloc_new]; rfl)).mono ?_
  rintro e V ⟨rfl, hW⟩
  have HB' := Lib.hid (belowOn (below_on HB6.out (.cells #[.int .i64 ((n - (5 + b + d + b * c)) / 3)] 3)) hW)
  clear hW
  go_wp2_with fail
  go_ret
  exact ⟨by rw [HE.out]; rfl, HB'.out⟩
set_option maxHeartbeats 1600000 in
theorem Name_colour (a b c d n : Int) (hr : Right a b c d) (h : 0 ≤ n ∧ n < sizeP a b c d) (h8 : 5 + b + d + b * c ≤ n) (hq : (n - (5 + b + d + b * c)) % 3 = 2) (w : World) (hL : Laid4 w) :
    Calls Tryd.prog 16 #[.agg #[.int .i64 a, .int .i64 b, .int .i64 c, .int .i64 d], .int .i64 n] w fun e w' => e = .returned (.string ⟨(nameOf (spotF b c d n)).toArray⟩) ∧ Below w.heap.size w w' := by
  have HX0 := Lib.hid (BoxAt.new w a b c d 27)
  have HB0 := Lib.hid (below_new w (.cells #[.int .i64 a, .int .i64 b, .int .i64 c, .int .i64 d] 27))
  have HL := Lib.hid hL
  clear hL
  have HZ := Lib.hid (Size_c a b c d)
  have HI := Lib.hid (within_yes n (sizeP a b c d) h.1 h.2)
  have HF0 := Lib.hid (firstIn_c a b c d)
  have HF1 := Lib.hid (firstGlob_right a b c d hr)
  have HF2 := Lib.hid (firstReg_right a b c d hr)
  have HF3 := Lib.hid (firstCell_right a b c d hr)
  have hp1 : 1 ≤ b * c := hr.prod.1
  have hp2 : b * c ≤ 4032 := hr.prod.2
  rw [sizeP_right hr] at HZ HI h
  obtain ⟨h0, hs⟩ := h
  obtain ⟨ha1, ha2, hb1, hb2, hc1, hc2, hd1, hd2⟩ := hr
  have HE : Hid (nameOf (spotF b c d n) = nm [99, 111, 108, 111, 117, 114] [(n - (5 + b + d + b * c)) / 3]) := Lib.hid (by unfold spotF; rw [if_neg (by omega), if_neg (by omega), if_neg (by omega), if_neg (by omega), hq]; rfl)
  generalize nameOf (spotF b c d n) = R at HE
  have HN := Lib.hid (name1_c [99, 111, 108, 111, 117, 114] (by decide) ((n - (5 + b + d + b * c)) / 3) (by omega) (by omega))
  have HO : Hid (∀ W, Below w.heap.size w W → PartAt W) := Lib.hid (fun W h => (HL.out.below h).part)
  obtain ⟨x0, x1, x2, x3⟩ := HX0.out
  go_enter Tryd.func16, Tryd.ntmps16
  go_wp2_with fail
  refine (HZ.out _ (HL.out.below HB0.out).spans).mono ?_
  rintro e W1 ⟨rfl, hW⟩
  have HB1 := Lib.hid (belowOn HB0.out hW)
  have HX1 := Lib.hid (HX0.out.below hW)
  clear x0 x1 x2 x3
  obtain ⟨x0, x1, x2, x3⟩ := HX1.out
  clear hW HB0 HX0
  go_wp2_with fail
  refine (HI.out _).mono ?_
  rintro e w' ⟨rfl, rfl⟩
  go_wp2_with fail
  refine (HF0.out _).mono ?_
  rintro e W2 ⟨rfl, hW⟩
  have HB2 := Lib.hid (belowOn HB1.out hW)
  have HX2 := Lib.hid (HX1.out.below hW)
  clear x0 x1 x2 x3
  obtain ⟨x0, x1, x2, x3⟩ := HX2.out
  clear hW HB1 HX1
  go_wp2_with fail
  refine (HF1.out _).mono ?_
  rintro e W3 ⟨rfl, hW⟩
  have HB3 := Lib.hid (belowOn HB2.out hW)
  have HX3 := Lib.hid (HX2.out.below hW)
  clear x0 x1 x2 x3
  obtain ⟨x0, x1, x2, x3⟩ := HX3.out
  clear hW HB2 HX2
  go_wp2_with fail
  refine (HF2.out _).mono ?_
  rintro e W4 ⟨rfl, hW⟩
  have HB4 := Lib.hid (belowOn HB3.out hW)
  have HX4 := Lib.hid (HX3.out.below hW)
  clear x0 x1 x2 x3
  obtain ⟨x0, x1, x2, x3⟩ := HX4.out
  clear hW HB3 HX3
  go_wp2_with fail
  refine (HF3.out _).mono ?_
  rintro e W5 ⟨rfl, hW⟩
  have HB5 := Lib.hid (belowOn HB4.out hW)
  have HX5 := Lib.hid (HX4.out.below hW)
  clear x0 x1 x2 x3
  obtain ⟨x0, x1, x2, x3⟩ := HX5.out
  clear hW HB4 HX4
  go_wp2_with fail
  refine (HF3.out _).mono ?_
  rintro e W6 ⟨rfl, hW⟩
  have HB6 := Lib.hid (belowOn HB5.out hW)
  have HX6 := Lib.hid (HX5.out.below hW)
  clear x0 x1 x2 x3
  obtain ⟨x0, x1, x2, x3⟩ := HX6.out
  clear hW HB5 HX5
  obtain ⟨o0, o1, o2⟩ := HO.out _ HB6.out
  go_wp2_with fail
  refine (HN.out _ _ ((HL.out.below HB6.out).below (below_new _ _)) (by rw [World.cell?_alloc_new]; rfl)).mono ?_
  rintro e V ⟨rfl, hW⟩
  have HB' := Lib.hid (belowOn (below_on HB6.out (.cells #[.int .i64 ((n - (5 + b + d + b * c)) / 3)] 3)) hW)
  clear hW
  go_wp2_with fail
  go_ret
  exact ⟨by rw [HE.out]; rfl, HB'.out⟩
end Go.Proofs.YtdhejdehlomppaaDoor
