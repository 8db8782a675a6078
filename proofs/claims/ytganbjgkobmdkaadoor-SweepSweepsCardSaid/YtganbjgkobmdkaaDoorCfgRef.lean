/- The document's answers for configurations: Right, Roots, Words and Text, for every configuration. -/
import Derived.Test.YtganbjgkobmdkaaDoorRounds
import Derived.Deep.RegionHeld3
import Derived.Deep.DrawnRows
namespace Go.Proofs.YtganbjgkobmdkaaDoor
open Go Go.RowKit
set_option maxRecDepth 100000
attribute [local go_sem ↓] Go.wp_at_zero Go.wp_at_succ

def RightPost (w : World) (a b c d : Int) (e : Ending) (w' : World) : Prop := ∃ r : Bool, e = .returned (.bool r) ∧ (Right a b c d ∧ r = true ∨ ¬ Right a b c d ∧ r = false) ∧ Below w.heap.size w w'
set_option maxHeartbeats 3200000 in
theorem refRight_any (a b c d : Int) (w : World) :
    Calls Tryd.prog 21 #[.agg #[.int .i64 a, .int .i64 b, .int .i64 c, .int .i64 d]] w (RightPost w a b c d) := by
  have HB := Lib.hid (below_new w (.cells #[.int .i64 a, .int .i64 b, .int .i64 c, .int .i64 d] 23))
  by_cases h1 : 1 < a
  rotate_left
  · have HN : Hid (¬ Right a b c d) := Lib.hid (fun h => by unfold Right at h; omega)
    go_enter Tryd.func21, Tryd.ntmps21
    go_wp2
    go_ret
    exact ⟨false, rfl, .inr ⟨HN.out, rfl⟩, HB.out⟩
  by_cases h2 : a < 4097
  rotate_left
  · have HN : Hid (¬ Right a b c d) := Lib.hid (fun h => by unfold Right at h; omega)
    go_enter Tryd.func21, Tryd.ntmps21
    go_wp2
    go_ret
    exact ⟨false, rfl, .inr ⟨HN.out, rfl⟩, HB.out⟩
  by_cases h3 : 0 < b
  rotate_left
  · have HN : Hid (¬ Right a b c d) := Lib.hid (fun h => by unfold Right at h; omega)
    go_enter Tryd.func21, Tryd.ntmps21
    go_wp2
    go_ret
    exact ⟨false, rfl, .inr ⟨HN.out, rfl⟩, HB.out⟩
  by_cases h4 : b < 64
  rotate_left
  · have HN : Hid (¬ Right a b c d) := Lib.hid (fun h => by unfold Right at h; omega)
    go_enter Tryd.func21, Tryd.ntmps21
    go_wp2
    go_ret
    exact ⟨false, rfl, .inr ⟨HN.out, rfl⟩, HB.out⟩
  by_cases h5 : 0 < c
  rotate_left
  · have HN : Hid (¬ Right a b c d) := Lib.hid (fun h => by unfold Right at h; omega)
    go_enter Tryd.func21, Tryd.ntmps21
    go_wp2
    go_ret
    exact ⟨false, rfl, .inr ⟨HN.out, rfl⟩, HB.out⟩
  by_cases h6 : c < 65
  rotate_left
  · have HN : Hid (¬ Right a b c d) := Lib.hid (fun h => by unfold Right at h; omega)
    go_enter Tryd.func21, Tryd.ntmps21
    go_wp2
    go_ret
    exact ⟨false, rfl, .inr ⟨HN.out, rfl⟩, HB.out⟩
  by_cases h7 : -1 < d
  rotate_left
  · have HN : Hid (¬ Right a b c d) := Lib.hid (fun h => by unfold Right at h; omega)
    go_enter Tryd.func21, Tryd.ntmps21
    go_wp2
    go_ret
    exact ⟨false, rfl, .inr ⟨HN.out, rfl⟩, HB.out⟩
  by_cases h8 : d < 65
  rotate_left
  · have HN : Hid (¬ Right a b c d) := Lib.hid (fun h => by unfold Right at h; omega)
    go_enter Tryd.func21, Tryd.ntmps21
    go_wp2
    go_ret
    exact ⟨false, rfl, .inr ⟨HN.out, rfl⟩, HB.out⟩
  have HN : Hid (Right a b c d) := Lib.hid (by unfold Right; omega)
  go_enter Tryd.func21, Tryd.ntmps21
  go_wp2
  go_ret
  exact ⟨true, rfl, .inl ⟨HN.out, rfl⟩, HB.out⟩
theorem refRight_right (a b c d : Int) (hr : Right a b c d) (w : World) :
    Calls Tryd.prog 21 #[.agg #[.int .i64 a, .int .i64 b, .int .i64 c, .int .i64 d]] w fun e w' => e = .returned (.bool true) ∧ Below w.heap.size w w' :=
  (refRight_any a b c d w).mono fun e w' ⟨r, he, hx, hb⟩ => by
    rcases hx with ⟨_, rfl⟩ | ⟨hn, _⟩
    · exact ⟨he, hb⟩
    · exact absurd hr hn
theorem refRight_wrong (a b c d : Int) (hr : ¬ Right a b c d) (w : World) :
    Calls Tryd.prog 21 #[.agg #[.int .i64 a, .int .i64 b, .int .i64 c, .int .i64 d]] w fun e w' => e = .returned (.bool false) ∧ Below w.heap.size w w' :=
  (refRight_any a b c d w).mono fun e w' ⟨r, he, hx, hb⟩ => by
    rcases hx with ⟨hn, _⟩ | ⟨_, rfl⟩
    · exact absurd hn hr
    · exact ⟨he, hb⟩
theorem refRoots_wrong (a b c d : Int) (hr : ¬ Right a b c d) (w : World) :
    Calls Tryd.prog 40 #[.agg #[.int .i64 a, .int .i64 b, .int .i64 c, .int .i64 d]] w fun e w' => e = .returned (.int .i64 0) ∧ Below w.heap.size w w' := by
  have HC := Lib.hid (refRight_wrong a b c d hr)
  have HB := Lib.hid (below_new w (.cells #[.int .i64 a, .int .i64 b, .int .i64 c, .int .i64 d] 23))
  clear hr
  go_enter Tryd.func40, Tryd.ntmps40
  go_wp2_with fail
  refine (HC.out _).mono ?_
  rintro e W ⟨rfl, hW⟩
  have HB1 := Lib.hid (belowOn HB.out hW)
  clear HB HC hW
  go_wp2_with fail
  go_ret
  exact ⟨rfl, HB1.out⟩
theorem refWords_wrong (a b c d : Int) (hr : ¬ Right a b c d) (w : World) :
    Calls Tryd.prog 22 #[.agg #[.int .i64 a, .int .i64 b, .int .i64 c, .int .i64 d]] w fun e w' => e = .returned (.int .i64 0) ∧ Below w.heap.size w w' := by
  have HC := Lib.hid (refRight_wrong a b c d hr)
  have HB := Lib.hid (below_new w (.cells #[.int .i64 a, .int .i64 b, .int .i64 c, .int .i64 d] 23))
  clear hr
  go_enter Tryd.func22, Tryd.ntmps22
  go_wp2_with fail
  refine (HC.out _).mono ?_
  rintro e W ⟨rfl, hW⟩
  have HB1 := Lib.hid (belowOn HB.out hW)
  clear HB HC hW
  go_wp2_with fail
  go_ret
  exact ⟨rfl, HB1.out⟩
theorem mul_step (k : Nat) (c : Int) : ((k + 1 : Nat) : Int) * c = (k : Int) * c + c := by rw [Int.natCast_add, Int.add_mul]; simp
set_option maxHeartbeats 3200000 in
theorem refRoots_right (a b c d : Int) (hr : Right a b c d) (w : World) :
    Calls Tryd.prog 40 #[.agg #[.int .i64 a, .int .i64 b, .int .i64 c, .int .i64 d]] w fun e w' => e = .returned (.int .i64 (1 + d + b * c)) ∧ Below w.heap.size w w' := by
  have HC := Lib.hid (refRight_right a b c d hr)
  have HX := Lib.hid (BoxAt.new w a b c d 23)
  have HB := Lib.hid (below_new w (.cells #[.int .i64 a, .int .i64 b, .int .i64 c, .int .i64 d] 23))
  obtain ⟨ha1, ha2, hb1, hb2, hc1, hc2, hd1, hd2⟩ := hr
  go_enter Tryd.func40, Tryd.ntmps40
  go_wp2_with fail
  refine (HC.out _).mono ?_
  rintro e W ⟨rfl, hW⟩
  have HB1 := Lib.hid (belowOn HB.out hW)
  obtain ⟨x0, x1, x2, x3⟩ := HX.out.below hW
  clear HX HB HC hW
  go_wp2_with fail
  go_loop [3, 4] (fun vn vi => ∃ (k : Nat) (n : Int), vi = .int .i64 k ∧ (k : Int) ≤ b ∧ vn = .int .i64 n ∧ 0 ≤ n ∧ n ≤ 5000 ∧ Hid (n = 1 + d + k * c)) (fun _ vi => b.toNat - (intOf vi).toNat)
  case atStart => exact ⟨0, 1 + d, rfl, by omega, rfl, by omega, by omega, Lib.hid (by simp)⟩
  case round =>
    obtain ⟨k, n, rfl, hk, rfl, h0, h1, HN⟩ := hrel
    by_cases hlt : (k : Int) < b
    · have HE : Hid (n + c = 1 + d + ((k + 1 : Nat) : Int) * c) := Lib.hid (by rw [mul_step, HN.out]; omega)
      have hle : n + c ≤ 5000 := by
        rw [HE.out]
        have u : ((k + 1 : Nat) : Int) * c ≤ 63 * 64 := Int.mul_le_mul (by omega) hc2 (by omega) (by omega)
        omega
      clear HN
      go_wp2
      go_round
      case rel => exact ⟨k + 1, n + c, by go_num, by omega, by go_num, by omega, by omega, HE⟩
      case measure => simp [intOf]; omega
    · obtain rfl : b = (k : Int) := by omega
      have HE : Hid (n = 1 + d + (k : Int) * c) := HN
      clear HN
      go_wp2
      go_ret
      refine ⟨?_, HB1.out⟩
      rw [← HE.out]; rfl
set_option maxHeartbeats 3200000 in
theorem refWords_right (a b c d : Int) (hr : Right a b c d) (w : World) :
    Calls Tryd.prog 22 #[.agg #[.int .i64 a, .int .i64 b, .int .i64 c, .int .i64 d]] w fun e w' => e = .returned (.int .i64 (4 + b + (1 + d + b * c) + a + a + a)) ∧ Below w.heap.size w w' := by
  have HC := Lib.hid (refRight_right a b c d hr)
  have HR := Lib.hid (refRoots_right a b c d hr)
  have HX := Lib.hid (BoxAt.new w a b c d 23)
  have HB := Lib.hid (below_new w (.cells #[.int .i64 a, .int .i64 b, .int .i64 c, .int .i64 d] 23))
  have hp1 : 1 ≤ b * c := hr.prod.1
  have hp2 : b * c ≤ 4032 := hr.prod.2
  obtain ⟨ha1, ha2, hb1, hb2, hc1, hc2, hd1, hd2⟩ := hr
  have hw1 : IntKind.i64.wrap (4 + b) = 4 + b := IntWalk.i64_in _ (by omega)
  have hw2 : IntKind.i64.wrap (4 + b + (1 + d + b * c)) = 4 + b + (1 + d + b * c) := IntWalk.i64_in _ (by omega)
  have hw3 : IntKind.i64.wrap (4 + b + (1 + d + b * c) + a) = 4 + b + (1 + d + b * c) + a := IntWalk.i64_in _ (by omega)
  have hw4 : IntKind.i64.wrap (4 + b + (1 + d + b * c) + a + a) = 4 + b + (1 + d + b * c) + a + a := IntWalk.i64_in _ (by omega)
  have hw5 : IntKind.i64.wrap (4 + b + (1 + d + b * c) + a + a + a) = 4 + b + (1 + d + b * c) + a + a + a := IntWalk.i64_in _ (by omega)
  go_enter Tryd.func22, Tryd.ntmps22
  go_wp2_with fail
  refine (HC.out _).mono ?_
  rintro e W ⟨rfl, hW⟩
  have HB1 := Lib.hid (belowOn HB.out hW)
  obtain ⟨x0, x1, x2, x3⟩ := HX.out.below hW
  clear HX HB HC hW
  go_wp2_with fail
  go_region_held3 (fun w' => w'.cell? ⟨w.heap.size, 0, none⟩ = some (.int .i64 a) ∧ w'.cell? ⟨w.heap.size, 1, none⟩ = some (.int .i64 b) ∧ w'.cell? ⟨w.heap.size, 2, none⟩ = some (.int .i64 c) ∧ w'.cell? ⟨w.heap.size, 3, none⟩ = some (.int .i64 d)) (first | assumption | go_keep)
    (first
      | (go_at_call 40; refine (HR.out _).mono ?_; rintro e w' ⟨rfl, hW⟩; have hX := BoxAt.below (a := a) (b := b) (c := c) (d := d) (B := w.heap.size) (by assumption) hW))
  all_goals go_wp2_with fail
  all_goals go_ret
  all_goals exact ⟨rfl, belowOn HB1.out.drew hW⟩
end Go.Proofs.YtganbjgkobmdkaaDoor
