/- Package place's In, Glob, Reg, Car, Cdr, Colour, Root, Size and New, for every configuration (right or not) and every number. -/
import Derived.Test.YtbpooljohjkbjaaGreatDoorM1
import Derived.Test.YtbpooljohjkbjaaGreatDoorM2
namespace Go.Proofs.YtbpooljohjkbjaaGreatDoor
open Go Go.RowKit
set_option maxRecDepth 100000
attribute [local go_sem ↓] Go.wp_at_zero Go.wp_at_succ
def inP (a b c d i : Int) : Int := if (0 ≤ i ∧ i < b) ∧ Right a b c d then 5 + i else -1
def globP (a b c d i : Int) : Int := if (0 ≤ i ∧ i < d) ∧ Right a b c d then 5 + b + i else -1
def regP (a b c d i r : Int) : Int := if ((0 ≤ i ∧ i < b) ∧ 0 ≤ r ∧ r < c) ∧ Right a b c d then 5 + b + d + i * c + r else -1
def partP (a b c d k i : Int) : Int := if (0 ≤ i ∧ i < a) ∧ Right a b c d then 5 + b + d + b * c + 3 * i + k else -1
def rootP (a b c d j : Int) : Int := if (0 ≤ j ∧ j < 1 + d + b * c) ∧ Right a b c d then (if j = 0 then 0 else 4 + b + j) else -1
def sizeP (a b c d : Int) : Int := if Right a b c d then 4 + b + (1 + d + b * c) + 3 * a else 0
theorem plc_in (a b c d i : Int) : plc a b c d 5 i b = inP a b c d i := by
  unfold plc inP
  by_cases h : (0 ≤ i ∧ i < b) ∧ Right a b c d
  · rw [if_pos h, if_pos h]; have h2 := h.2; unfold Right at h2; exact IntWalk.i64_in _ (by omega)
  · rw [if_neg h, if_neg h]
theorem plc_glob (a b c d i : Int) : plc a b c d (fGlob b) i d = globP a b c d i := by
  unfold plc globP
  by_cases h : (0 ≤ i ∧ i < d) ∧ Right a b c d
  · rw [if_pos h, if_pos h, fGlob_right h.2]; have h2 := h.2; unfold Right at h2; exact IntWalk.i64_in _ (by omega)
  · rw [if_neg h, if_neg h]
theorem prod_lt {a b c d i r : Int} (hr : Right a b c d) (h0 : 0 ≤ i) (h1 : i < b) (_ : 0 ≤ r) (h3 : r < c) : 0 ≤ i * c ∧ i * c + r < b * c := by
  unfold Right at hr
  have e : (i + 1) * c ≤ b * c := Int.mul_le_mul_of_nonneg_right (by omega) (by omega)
  have e2 : (i + 1) * c = i * c + c := by rw [Int.add_mul]; omega
  have e3 : 0 ≤ i * c := Int.mul_nonneg h0 (by omega)
  omega
theorem plc_wrong {a b c d first i n : Int} (hr : ¬ Right a b c d) : plc a b c d first i n = -1 := by unfold plc; rw [if_neg (fun h => hr h.2)]
theorem plc_reg (a b c d i r : Int) (h : 0 ≤ i ∧ i < b) : plc a b c d (IntKind.i64.wrap (fReg b d + IntKind.i64.wrap (i * c))) r c = regP a b c d i r := by
  by_cases hr : Right a b c d
  · unfold plc regP
    by_cases h2 : 0 ≤ r ∧ r < c
    · rw [if_pos ⟨h2, hr⟩, if_pos ⟨⟨h, h2⟩, hr⟩, fReg_right hr]
      have hp := prod_lt hr h.1 h.2 h2.1 h2.2
      have hq := hr.prod
      have hr' := hr
      unfold Right at hr'
      rw [IntWalk.i64_in (i * c) (by omega), IntWalk.i64_in (5 + b + d + i * c) (by omega), IntWalk.i64_in _ (by omega)]
    · rw [if_neg (fun h => h2 h.1), if_neg (fun h => h2 h.1.2)]
  · rw [plc_wrong hr]; unfold regP; rw [if_neg (fun h => hr h.2)]
theorem plc_part (a b c d k i : Int) (hk : 0 ≤ k ∧ k < 3) (h : 0 ≤ i ∧ i < a) : plc a b c d (IntKind.i64.wrap (fCell b c d + IntKind.i64.wrap (i * 3))) k 3 = partP a b c d k i := by
  by_cases hr : Right a b c d
  · unfold plc partP
    rw [if_pos ⟨hk, hr⟩, if_pos ⟨h, hr⟩, fCell_right hr]
    have hq := hr.prod
    have hr' := hr
    unfold Right at hr'
    rw [IntWalk.i64_in (i * 3) (by omega), IntWalk.i64_in (5 + b + d + b * c + i * 3) (by omega), IntWalk.i64_in _ (by omega)]
    omega
  · rw [plc_wrong hr]; unfold partP; rw [if_neg (fun h => hr h.2)]
theorem plc_root0 (a b c d : Int) : plc a b c d 0 0 1 = rootP a b c d 0 := by
  by_cases hr : Right a b c d
  · have hq := hr.prod
    have hr' := hr
    unfold Right at hr'
    unfold plc rootP
    rw [if_pos ⟨by omega, hr⟩, if_pos ⟨by omega, hr⟩, if_pos rfl]; rfl
  · rw [plc_wrong hr]; unfold rootP; rw [if_neg (fun h => hr h.2)]
theorem plc_root (a b c d j : Int) (hr : Right a b c d) (hj : j ≠ 0) : plc a b c d (IntKind.i64.wrap (fGlob b - 1)) j (1 + d + b * c) = rootP a b c d j := by
  unfold plc rootP
  have hq := hr.prod
  have hr' := hr
  unfold Right at hr'
  by_cases h : 0 ≤ j ∧ j < 1 + d + b * c
  · rw [if_pos ⟨h, hr⟩, if_pos ⟨h, hr⟩, if_neg hj, fGlob_right hr, IntWalk.i64_in (5 + b - 1) (by omega), IntWalk.i64_in _ (by omega)]; omega
  · rw [if_neg (fun h' => h h'.1), if_neg (fun h' => h h'.1)]
theorem In_c (a b c d i : Int) (w : World) (hS : SpansAt w) :
    Calls Tryz.prog 138 #[.agg #[.int .i64 a, .int .i64 b, .int .i64 c, .int .i64 d], .int .i64 i] w fun e w' => e = .returned (.int .i64 (inP a b c d i)) ∧ Below w.heap.size w w' := by
  have hb := below_new w (.cells #[.int .i64 a, .int .i64 b, .int .i64 c, .int .i64 d] 88)
  have HX := Lib.hid (BoxAt.new w a b c d 88)
  have HS := Lib.hid hS
  have hQ : Below w.heap.size w (w.alloc (.cells #[.int .i64 a, .int .i64 b, .int .i64 c, .int .i64 d] 88)).drew := hb.drew
  have HF := Lib.hid (firstIn_c a b c d)
  have HP := Lib.hid (place_c a b c d 5 i b)
  have HE := Lib.hid (plc_in a b c d i)
  clear hb hS
  obtain ⟨x0, x1, x2, x3⟩ := HX.out
  generalize inP a b c d i = R at HE
  go_enter Tryz.func138, Tryz.ntmps138
  go_wp2_with fail
  go_region_held3 (fun w' => w'.cell? ⟨w.heap.size, 0, none⟩ = some (.int .i64 a) ∧ w'.cell? ⟨w.heap.size, 1, none⟩ = some (.int .i64 b) ∧ w'.cell? ⟨w.heap.size, 2, none⟩ = some (.int .i64 c) ∧ w'.cell? ⟨w.heap.size, 3, none⟩ = some (.int .i64 d)) (first | assumption | go_keep)
    (first
      | (go_at_call 177; refine (HF.out _).mono ?_; rintro e v ⟨rfl, hV⟩; have hX := BoxAt.below (a := a) (b := b) (c := c) (d := d) (B := w.heap.size) (by assumption) hV; have hQ := belowOn (w := w) (by assumption) hV; clear hV)
      | (go_at_call 120; refine (HP.out _ ?_).mono ?_; exact HS.out.below (by assumption); rintro e v ⟨rfl, hV⟩; have hX := BoxAt.below (a := a) (b := b) (c := c) (d := d) (B := w.heap.size) (by assumption) hV; have hQ := belowOn (w := w) (by assumption) hV; clear hV))
  all_goals go_wp2_with fail
  all_goals go_ret
  all_goals exact ⟨by rw [← HE.out]; rfl, by assumption⟩
theorem Glob_c (a b c d i : Int) (w : World) (hS : SpansAt w) :
    Calls Tryz.prog 187 #[.agg #[.int .i64 a, .int .i64 b, .int .i64 c, .int .i64 d], .int .i64 i] w fun e w' => e = .returned (.int .i64 (globP a b c d i)) ∧ Below w.heap.size w w' := by
  have hb := below_new w (.cells #[.int .i64 a, .int .i64 b, .int .i64 c, .int .i64 d] 88)
  have HX := Lib.hid (BoxAt.new w a b c d 88)
  have HS := Lib.hid hS
  have hQ : Below w.heap.size w (w.alloc (.cells #[.int .i64 a, .int .i64 b, .int .i64 c, .int .i64 d] 88)).drew := hb.drew
  have HF := Lib.hid (firstGlob_c a b c d)
  have HP := Lib.hid (place_c a b c d (fGlob b) i d)
  have HE := Lib.hid (plc_glob a b c d i)
  clear hb hS
  obtain ⟨x0, x1, x2, x3⟩ := HX.out
  generalize globP a b c d i = R at HE
  go_enter Tryz.func187, Tryz.ntmps187
  go_wp2_with fail
  go_region_held3 (fun w' => w'.cell? ⟨w.heap.size, 0, none⟩ = some (.int .i64 a) ∧ w'.cell? ⟨w.heap.size, 1, none⟩ = some (.int .i64 b) ∧ w'.cell? ⟨w.heap.size, 2, none⟩ = some (.int .i64 c) ∧ w'.cell? ⟨w.heap.size, 3, none⟩ = some (.int .i64 d)) (first | assumption | go_keep)
    (first
      | (go_at_call 169; refine (HF.out _).mono ?_; rintro e v ⟨rfl, hV⟩; have hX := BoxAt.below (a := a) (b := b) (c := c) (d := d) (B := w.heap.size) (by assumption) hV; have hQ := belowOn (w := w) (by assumption) hV; clear hV)
      | (go_at_call 120; refine (HP.out _ ?_).mono ?_; exact HS.out.below (by assumption); rintro e v ⟨rfl, hV⟩; have hX := BoxAt.below (a := a) (b := b) (c := c) (d := d) (B := w.heap.size) (by assumption) hV; have hQ := belowOn (w := w) (by assumption) hV; clear hV))
  all_goals go_wp2_with fail
  all_goals go_ret
  all_goals exact ⟨by rw [← HE.out]; rfl, by assumption⟩
theorem Reg_c (a b c d i r : Int) (w : World) (hS : SpansAt w) :
    Calls Tryz.prog 191 #[.agg #[.int .i64 a, .int .i64 b, .int .i64 c, .int .i64 d], .int .i64 i, .int .i64 r] w fun e w' => e = .returned (.int .i64 (regP a b c d i r)) ∧ Below w.heap.size w w' := by
  have hb := below_new w (.cells #[.int .i64 a, .int .i64 b, .int .i64 c, .int .i64 d] 88)
  have HX := Lib.hid (BoxAt.new w a b c d 88)
  have HS := Lib.hid hS
  have hQ : Below w.heap.size w (w.alloc (.cells #[.int .i64 a, .int .i64 b, .int .i64 c, .int .i64 d] 88)).drew := hb.drew
  by_cases h : 0 ≤ i ∧ i < b
  · have HI := Lib.hid (within_yes i b h.1 h.2)
    have HF := Lib.hid (firstReg_c a b c d)
    have HP := Lib.hid (place_c a b c d (IntKind.i64.wrap (fReg b d + IntKind.i64.wrap (i * c))) r c)
    have HE := Lib.hid (plc_reg a b c d i r h)
    clear hb hS h
    obtain ⟨x0, x1, x2, x3⟩ := HX.out
    generalize regP a b c d i r = R at HE
    generalize hG : fReg b d = G at *
    go_enter Tryz.func191, Tryz.ntmps191
    go_wp2_with fail
    refine (HI.out _).mono ?_
    rintro e w' ⟨rfl, rfl⟩
    go_wp2_with fail
    go_region_held3 (fun w' => w'.cell? ⟨w.heap.size, 0, none⟩ = some (.int .i64 a) ∧ w'.cell? ⟨w.heap.size, 1, none⟩ = some (.int .i64 b) ∧ w'.cell? ⟨w.heap.size, 2, none⟩ = some (.int .i64 c) ∧ w'.cell? ⟨w.heap.size, 3, none⟩ = some (.int .i64 d)) (first | assumption | go_keep)
      (first
        | (go_at_call 167; refine (HF.out _).mono ?_; rintro e v ⟨rfl, hV⟩; have hX := BoxAt.below (a := a) (b := b) (c := c) (d := d) (B := w.heap.size) (by assumption) hV; have hQ := belowOn (w := w) (by assumption) hV; clear hV)
        | (go_at_call 120; refine (HP.out _ ?_).mono ?_; exact HS.out.below (by assumption); rintro e v ⟨rfl, hV⟩; have hX := BoxAt.below (a := a) (b := b) (c := c) (d := d) (B := w.heap.size) (by assumption) hV; have hQ := belowOn (w := w) (by assumption) hV; clear hV))
    all_goals go_wp2_with fail
    all_goals go_ret
    all_goals exact ⟨by rw [← HE.out]; rfl, by assumption⟩
  · have HI := Lib.hid (within_no i b h)
    have HE : Hid (regP a b c d i r = -1) := Lib.hid (by unfold regP; rw [if_neg (fun h' => h h'.1.1)])
    have HB := Lib.hid hb
    clear hb hS h hQ
    obtain ⟨x0, x1, x2, x3⟩ := HX.out
    generalize regP a b c d i r = R at HE
    go_enter Tryz.func191, Tryz.ntmps191
    go_wp2_with fail
    refine (HI.out _).mono ?_
    rintro e w' ⟨rfl, rfl⟩
    go_wp2_with fail
    go_ret
    exact ⟨by rw [HE.out]; rfl, HB.out⟩
theorem part_c (a b c d i k : Int) (hk : 0 ≤ k ∧ k < 3) (w : World) (hS : SpansAt w) :
    Calls Tryz.prog 102 #[.agg #[.int .i64 a, .int .i64 b, .int .i64 c, .int .i64 d], .int .i64 i, .int .i64 k] w fun e w' => e = .returned (.int .i64 (partP a b c d k i)) ∧ Below w.heap.size w w' := by
  have hb := below_new w (.cells #[.int .i64 a, .int .i64 b, .int .i64 c, .int .i64 d] 88)
  have HX := Lib.hid (BoxAt.new w a b c d 88)
  have HS := Lib.hid hS
  have hQ : Below w.heap.size w (w.alloc (.cells #[.int .i64 a, .int .i64 b, .int .i64 c, .int .i64 d] 88)).drew := hb.drew
  by_cases h : 0 ≤ i ∧ i < a
  · have HI := Lib.hid (within_yes i a h.1 h.2)
    have HF := Lib.hid (firstCell_c a b c d)
    have HP := Lib.hid (place_c a b c d (IntKind.i64.wrap (fCell b c d + IntKind.i64.wrap (i * 3))) k 3)
    have HE := Lib.hid (plc_part a b c d k i hk h)
    clear hb hS h hk
    obtain ⟨x0, x1, x2, x3⟩ := HX.out
    generalize partP a b c d k i = R at HE
    generalize hG : fCell b c d = G at *
    go_enter Tryz.func102, Tryz.ntmps102
    go_wp2_with fail
    refine (HI.out _).mono ?_
    rintro e w' ⟨rfl, rfl⟩
    go_wp2_with fail
    go_region_held3 (fun w' => w'.cell? ⟨w.heap.size, 0, none⟩ = some (.int .i64 a) ∧ w'.cell? ⟨w.heap.size, 1, none⟩ = some (.int .i64 b) ∧ w'.cell? ⟨w.heap.size, 2, none⟩ = some (.int .i64 c) ∧ w'.cell? ⟨w.heap.size, 3, none⟩ = some (.int .i64 d)) (first | assumption | go_keep)
      (first
        | (go_at_call 121; refine (HF.out _).mono ?_; rintro e v ⟨rfl, hV⟩; have hX := BoxAt.below (a := a) (b := b) (c := c) (d := d) (B := w.heap.size) (by assumption) hV; have hQ := belowOn (w := w) (by assumption) hV; clear hV)
        | (go_at_call 120; refine (HP.out _ ?_).mono ?_; exact HS.out.below (by assumption); rintro e v ⟨rfl, hV⟩; have hX := BoxAt.below (a := a) (b := b) (c := c) (d := d) (B := w.heap.size) (by assumption) hV; have hQ := belowOn (w := w) (by assumption) hV; clear hV))
    all_goals go_wp2_with fail
    all_goals go_ret
    all_goals exact ⟨by rw [← HE.out]; rfl, by assumption⟩
  · have HI := Lib.hid (within_no i a h)
    have HE : Hid (partP a b c d k i = -1) := Lib.hid (by unfold partP; rw [if_neg (fun h' => h h'.1)])
    have HB := Lib.hid hb
    clear hb hS h hQ hk
    obtain ⟨x0, x1, x2, x3⟩ := HX.out
    generalize partP a b c d k i = R at HE
    go_enter Tryz.func102, Tryz.ntmps102
    go_wp2_with fail
    refine (HI.out _).mono ?_
    rintro e w' ⟨rfl, rfl⟩
    go_wp2_with fail
    go_ret
    exact ⟨by rw [HE.out]; rfl, HB.out⟩
theorem Car_c (a b c d i : Int) (w : World) (hS : SpansAt w) :
    Calls Tryz.prog 131 #[.agg #[.int .i64 a, .int .i64 b, .int .i64 c, .int .i64 d], .int .i64 i] w fun e w' => e = .returned (.int .i64 (partP a b c d 0 i)) ∧ Below w.heap.size w w' := by
  have hb := below_new w (.cells #[.int .i64 a, .int .i64 b, .int .i64 c, .int .i64 d] 88)
  have HX := Lib.hid (BoxAt.new w a b c d 88)
  have HP := Lib.hid (part_c a b c d i 0 (by omega) _ (hS.below hb))
  have HB := Lib.hid hb
  clear hS hb
  obtain ⟨x0, x1, x2, x3⟩ := HX.out
  generalize partP a b c d 0 i = R at HP
  go_enter Tryz.func131, Tryz.ntmps131
  go_wp2_with fail
  refine HP.out.mono ?_
  rintro e W ⟨rfl, hW⟩
  have HB1 := Lib.hid (belowOn HB.out hW)
  clear hW
  go_wp2_with fail
  go_ret
  exact ⟨rfl, HB1.out⟩
theorem Cdr_c (a b c d i : Int) (w : World) (hS : SpansAt w) :
    Calls Tryz.prog 77 #[.agg #[.int .i64 a, .int .i64 b, .int .i64 c, .int .i64 d], .int .i64 i] w fun e w' => e = .returned (.int .i64 (partP a b c d 1 i)) ∧ Below w.heap.size w w' := by
  have hb := below_new w (.cells #[.int .i64 a, .int .i64 b, .int .i64 c, .int .i64 d] 88)
  have HX := Lib.hid (BoxAt.new w a b c d 88)
  have HP := Lib.hid (part_c a b c d i 1 (by omega) _ (hS.below hb))
  have HB := Lib.hid hb
  clear hS hb
  obtain ⟨x0, x1, x2, x3⟩ := HX.out
  generalize partP a b c d 1 i = R at HP
  go_enter Tryz.func77, Tryz.ntmps77
  go_wp2_with fail
  refine HP.out.mono ?_
  rintro e W ⟨rfl, hW⟩
  have HB1 := Lib.hid (belowOn HB.out hW)
  clear hW
  go_wp2_with fail
  go_ret
  exact ⟨rfl, HB1.out⟩
theorem Colour_c (a b c d i : Int) (w : World) (hS : SpansAt w) :
    Calls Tryz.prog 132 #[.agg #[.int .i64 a, .int .i64 b, .int .i64 c, .int .i64 d], .int .i64 i] w fun e w' => e = .returned (.int .i64 (partP a b c d 2 i)) ∧ Below w.heap.size w w' := by
  have hb := below_new w (.cells #[.int .i64 a, .int .i64 b, .int .i64 c, .int .i64 d] 88)
  have HX := Lib.hid (BoxAt.new w a b c d 88)
  have HP := Lib.hid (part_c a b c d i 2 (by omega) _ (hS.below hb))
  have HB := Lib.hid hb
  clear hS hb
  obtain ⟨x0, x1, x2, x3⟩ := HX.out
  generalize partP a b c d 2 i = R at HP
  go_enter Tryz.func132, Tryz.ntmps132
  go_wp2_with fail
  refine HP.out.mono ?_
  rintro e W ⟨rfl, hW⟩
  have HB1 := Lib.hid (belowOn HB.out hW)
  clear hW
  go_wp2_with fail
  go_ret
  exact ⟨rfl, HB1.out⟩
theorem Size_c (a b c d : Int) (w : World) (hS : SpansAt w) :
    Calls Tryz.prog 74 #[.agg #[.int .i64 a, .int .i64 b, .int .i64 c, .int .i64 d]] w fun e w' => e = .returned (.int .i64 (sizeP a b c d)) ∧ Below w.heap.size w w' := by
  have hb := below_new w (.cells #[.int .i64 a, .int .i64 b, .int .i64 c, .int .i64 d] 88)
  have HX := Lib.hid (BoxAt.new w a b c d 88)
  have HP : Hid (Calls Tryz.prog 99 #[.agg #[.int .i64 a, .int .i64 b, .int .i64 c, .int .i64 d]] (w.alloc (.cells #[.int .i64 a, .int .i64 b, .int .i64 c, .int .i64 d] 88)) fun e w' => e = .returned (.int .i64 (sizeP a b c d)) ∧ Below (w.alloc (.cells #[.int .i64 a, .int .i64 b, .int .i64 c, .int .i64 d] 88)).heap.size (w.alloc (.cells #[.int .i64 a, .int .i64 b, .int .i64 c, .int .i64 d] 88)) w') := by
    by_cases hr : Right a b c d
    · have h := words_right a b c d hr _ (hS.below hb)
      unfold sizeP; rw [if_pos hr]; exact Lib.hid h
    · have h := words_wrong a b c d hr _ (hS.below hb)
      unfold sizeP; rw [if_neg hr]; exact Lib.hid h
  have HB := Lib.hid hb
  clear hS hb
  obtain ⟨x0, x1, x2, x3⟩ := HX.out
  generalize sizeP a b c d = R at HP
  go_enter Tryz.func74, Tryz.ntmps74
  go_wp2_with fail
  refine HP.out.mono ?_
  rintro e W ⟨rfl, hW⟩
  have HB1 := Lib.hid (belowOn HB.out hW)
  clear hW
  go_wp2_with fail
  go_ret
  exact ⟨rfl, HB1.out⟩
theorem Root_c (a b c d j : Int) (w : World) (hS : SpansAt w) :
    Calls Tryz.prog 124 #[.agg #[.int .i64 a, .int .i64 b, .int .i64 c, .int .i64 d], .int .i64 j] w fun e w' => e = .returned (.int .i64 (rootP a b c d j)) ∧ Below w.heap.size w w' := by
  have hb := below_new w (.cells #[.int .i64 a, .int .i64 b, .int .i64 c, .int .i64 d] 88)
  have HX := Lib.hid (BoxAt.new w a b c d 88)
  have HS := Lib.hid hS
  have hQ : Below w.heap.size w (w.alloc (.cells #[.int .i64 a, .int .i64 b, .int .i64 c, .int .i64 d] 88)).drew := hb.drew
  by_cases hj : j = 0
  · subst hj
    have HP := Lib.hid (place_c a b c d 0 0 1 _ (hS.below hb))
    have HE := Lib.hid (plc_root0 a b c d)
    have HB := Lib.hid hb
    clear hb hS hQ
    obtain ⟨x0, x1, x2, x3⟩ := HX.out
    generalize rootP a b c d 0 = R at HE
    go_enter Tryz.func124, Tryz.ntmps124
    go_wp2_with fail
    refine HP.out.mono ?_
    rintro e W ⟨rfl, hW⟩
    have HB1 := Lib.hid (belowOn HB.out hW)
    clear hW
    go_wp2_with fail
    go_ret
    exact ⟨by rw [← HE.out]; rfl, HB1.out⟩
  · have hj0 : (j == 0) = false := by simpa using hj
    by_cases hr : Right a b c d
    · have HF := Lib.hid (firstGlob_c a b c d)
      have HR := Lib.hid (roots_right a b c d hr)
      have HP := Lib.hid (place_c a b c d (IntKind.i64.wrap (fGlob b - 1)) j (1 + d + b * c))
      have HE := Lib.hid (plc_root a b c d j hr hj)
      clear hb hS hr hj
      obtain ⟨x0, x1, x2, x3⟩ := HX.out
      generalize rootP a b c d j = R at HE
      generalize fGlob b = G at *
      generalize 1 + d + b * c = N at *
      go_enter Tryz.func124, Tryz.ntmps124
      go_wp2_with fail
      go_region_held3 (fun w' => w'.cell? ⟨w.heap.size, 0, none⟩ = some (.int .i64 a) ∧ w'.cell? ⟨w.heap.size, 1, none⟩ = some (.int .i64 b) ∧ w'.cell? ⟨w.heap.size, 2, none⟩ = some (.int .i64 c) ∧ w'.cell? ⟨w.heap.size, 3, none⟩ = some (.int .i64 d)) (first | assumption | go_keep)
        (first
          | (go_at_call 169; refine (HF.out _).mono ?_; rintro e v ⟨rfl, hV⟩; have hX := BoxAt.below (a := a) (b := b) (c := c) (d := d) (B := w.heap.size) (by assumption) hV; have hQ := belowOn (w := w) (by assumption) hV; clear hV)
          | (go_at_call 117; refine (HR.out _ ?_).mono ?_; exact HS.out.below (by assumption); rintro e v ⟨rfl, hV⟩; have hX := BoxAt.below (a := a) (b := b) (c := c) (d := d) (B := w.heap.size) (by assumption) hV; have hQ := belowOn (w := w) (by assumption) hV; clear hV)
          | (go_at_call 120; refine (HP.out _ ?_).mono ?_; exact HS.out.below (by assumption); rintro e v ⟨rfl, hV⟩; have hX := BoxAt.below (a := a) (b := b) (c := c) (d := d) (B := w.heap.size) (by assumption) hV; have hQ := belowOn (w := w) (by assumption) hV; clear hV))
      all_goals go_wp2_with fail
      all_goals go_ret
      all_goals exact ⟨by rw [← HE.out]; rfl, by assumption⟩
    · have HF := Lib.hid (firstGlob_c a b c d)
      have HR := Lib.hid (roots_wrong a b c d hr)
      have HP := Lib.hid (place_c a b c d (IntKind.i64.wrap (fGlob b - 1)) j 0)
      have HE : Hid (plc a b c d (IntKind.i64.wrap (fGlob b - 1)) j 0 = rootP a b c d j) := Lib.hid (by rw [plc_wrong hr]; unfold rootP; rw [if_neg (fun h => hr h.2)])
      clear hb hS hr hj
      obtain ⟨x0, x1, x2, x3⟩ := HX.out
      generalize rootP a b c d j = R at HE
      generalize fGlob b = G at *
      go_enter Tryz.func124, Tryz.ntmps124
      go_wp2_with fail
      go_region_held3 (fun w' => w'.cell? ⟨w.heap.size, 0, none⟩ = some (.int .i64 a) ∧ w'.cell? ⟨w.heap.size, 1, none⟩ = some (.int .i64 b) ∧ w'.cell? ⟨w.heap.size, 2, none⟩ = some (.int .i64 c) ∧ w'.cell? ⟨w.heap.size, 3, none⟩ = some (.int .i64 d)) (first | assumption | go_keep)
        (first
          | (go_at_call 169; refine (HF.out _).mono ?_; rintro e v ⟨rfl, hV⟩; have hX := BoxAt.below (a := a) (b := b) (c := c) (d := d) (B := w.heap.size) (by assumption) hV; have hQ := belowOn (w := w) (by assumption) hV; clear hV)
          | (go_at_call 117; refine (HR.out _ ?_).mono ?_; exact HS.out.below (by assumption); rintro e v ⟨rfl, hV⟩; have hX := BoxAt.below (a := a) (b := b) (c := c) (d := d) (B := w.heap.size) (by assumption) hV; have hQ := belowOn (w := w) (by assumption) hV; clear hV)
          | (go_at_call 120; refine (HP.out _ ?_).mono ?_; exact HS.out.below (by assumption); rintro e v ⟨rfl, hV⟩; have hX := BoxAt.below (a := a) (b := b) (c := c) (d := d) (B := w.heap.size) (by assumption) hV; have hQ := belowOn (w := w) (by assumption) hV; clear hV))
      all_goals go_wp2_with fail
      all_goals go_ret
      all_goals exact ⟨by rw [← HE.out]; rfl, by assumption⟩
theorem New_right (a b c d : Int) (hr : Right a b c d) (w : World) (hS : SpansAt w) :
    Calls Tryz.prog 73 #[.agg #[.int .i64 a, .int .i64 b, .int .i64 c, .int .i64 d]] w fun e w' => e = .returned (.tuple #[.agg #[.int .i64 a, .int .i64 b, .int .i64 c, .int .i64 d], .int .i64 0]) ∧ Below w.heap.size w w' := by
  have hb := below_on (below_new w (.cells #[.int .i64 a, .int .i64 b, .int .i64 c, .int .i64 d] 23)) (.cells #[.int .i64 0, .int .i64 0, .int .i64 0, .int .i64 0] 88)
  have HX := Lib.hid ((BoxAt.new w a b c d 23).below (below_new _ (.cells #[.int .i64 0, .int .i64 0, .int .i64 0, .int .i64 0] 88)))
  have HY := Lib.hid (Arr4.new (w.alloc (.cells #[.int .i64 a, .int .i64 b, .int .i64 c, .int .i64 d] 23)) 88 0 0 0 0)
  rw [show (w.alloc (.cells #[.int .i64 a, .int .i64 b, .int .i64 c, .int .i64 d] 23)).heap.size = w.heap.size + 1 by simp] at HY
  have HC := Lib.hid (check_right a b c d hr _ (hS.below hb))
  have HB := Lib.hid hb
  clear hS hb hr
  obtain ⟨x0, x1, x2, x3⟩ := HX.out
  go_enter Tryz.func73, Tryz.ntmps73
  go_wp2_with fail
  refine HC.out.mono ?_
  rintro e W ⟨rfl, hW⟩
  have HB1 := Lib.hid (belowOn HB.out hW)
  have HY1 := Lib.hid (HY.out.below hW)
  clear x0 x1 x2 x3
  obtain ⟨x0, x1, x2, x3⟩ := HX.out.below hW
  obtain ⟨r0, r1, r2, r3, rf⟩ := HY1.out.cells
  obtain ⟨s0, s1, s2, s3, _⟩ := (HY1.out.set4 a b c d).cells
  clear hW HX HY HC HB
  go_wp2_with fail
  refine bodyPost_ret (v := .tuple #[.agg #[.int .i64 a, .int .i64 b, .int .i64 c, .int .i64 d], .int .i64 0]) (by simp [results, Tryz.f73, go_sem, s0, s1, s2, s3]) rfl ?_
  exact ⟨rfl, below_far4 HB1.out (by omega) _ _ _ _⟩
theorem New_wrong (a b c d : Int) (hr : ¬ Right a b c d) (w : World) (hS : SpansAt w) :
    Calls Tryz.prog 73 #[.agg #[.int .i64 a, .int .i64 b, .int .i64 c, .int .i64 d]] w fun e w' => e = .returned (.tuple #[.agg #[.int .i64 0, .int .i64 0, .int .i64 0, .int .i64 0], .int .i64 2]) ∧ Below w.heap.size w w' := by
  have hb := below_on (below_new w (.cells #[.int .i64 a, .int .i64 b, .int .i64 c, .int .i64 d] 23)) (.cells #[.int .i64 0, .int .i64 0, .int .i64 0, .int .i64 0] 88)
  have HX := Lib.hid ((BoxAt.new w a b c d 23).below (below_new _ (.cells #[.int .i64 0, .int .i64 0, .int .i64 0, .int .i64 0] 88)))
  have HY := Lib.hid (Arr4.new (w.alloc (.cells #[.int .i64 a, .int .i64 b, .int .i64 c, .int .i64 d] 23)) 88 0 0 0 0)
  rw [show (w.alloc (.cells #[.int .i64 a, .int .i64 b, .int .i64 c, .int .i64 d] 23)).heap.size = w.heap.size + 1 by simp] at HY
  have HC := Lib.hid (check_wrong a b c d hr _ (hS.below hb))
  have HB := Lib.hid hb
  clear hS hb hr
  obtain ⟨x0, x1, x2, x3⟩ := HX.out
  go_enter Tryz.func73, Tryz.ntmps73
  go_wp2_with fail
  refine HC.out.mono ?_
  rintro e W ⟨rfl, hW⟩
  have HB1 := Lib.hid (belowOn HB.out hW)
  have HY1 := Lib.hid (HY.out.below hW)
  clear x0 x1 x2 x3
  obtain ⟨r0, r1, r2, r3, rf⟩ := HY1.out.cells
  obtain ⟨s0, s1, s2, s3, _⟩ := (HY1.out.set4 0 0 0 0).cells
  clear hW HX HY HC HB
  go_wp2_with fail
  refine bodyPost_ret (v := .tuple #[.agg #[.int .i64 0, .int .i64 0, .int .i64 0, .int .i64 0], .int .i64 2]) (by simp [results, Tryz.f73, go_sem, s0, s1, s2, s3]) rfl ?_
  exact ⟨rfl, below_far4 HB1.out (by omega) _ _ _ _⟩
end Go.Proofs.YtbpooljohjkbjaaGreatDoor
