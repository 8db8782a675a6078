/- Contracts of the small functions of package word and of the document's answers for layer 1 (numbers alone), for every 64-bit word. -/
import Derived.Test.YthdcapkchjamoaaDoorProg
import Derived.WalkKit
import Derived.WalkSmall
import Derived.IntWalk
import Derived.Lib.Hide
namespace Go.Proofs.YthdcapkchjamoaaDoor
open Go
set_option maxRecDepth 100000

theorem retInt {k : IntKind} {a b : Int} (h : a = b) : Ending.returned (.int k a) = .returned (.int k b) := by rw [h]
theorem retBool {a b : Bool} (h : a = b) : Ending.returned (.bool a) = .returned (.bool b) := by rw [h]
theorem and_one (n : Nat) (h : n < 18446744073709551616) : bits BinOp.and IntKind.u64 (n : Int) 1 = ((n % 2 : Nat) : Int) := by
  rw [and_one_u64 _ (by omega) (by omega)]; omega
theorem or_one (n : Nat) (h : n < 9223372036854775808) : bits BinOp.or IntKind.u64 ((n : Int) * 2) 1 = ((2 * n + 1 : Nat) : Int) := by
  have h1 := bits_or_u64_nat (n * 2) 1 (by omega) (by omega)
  rw [show ((n * 2 : Nat) : Int) = (n : Int) * 2 by omega] at h1
  refine h1.trans ?_
  have h2 : n * 2 ||| 1 = 2 * n + 1 := by
    have h3 := Nat.two_pow_add_eq_or_of_lt (i := 1) (b := 1) (by decide) n
    rw [Nat.mul_comm n 2]; exact h3.symm
  rw [h2]

theorem isOdd_c (n : Nat) (h : n < 18446744073709551616) (w : World) :
    Calls Tryd.prog 70 #[.int .u64 n] w fun e w' => e = .returned (.bool (n % 2 == 1)) ∧ w = w' := by
  go_enter Tryd.func70, Tryd.ntmps70
  go_wp2
  go_ret
  refine ⟨retBool ?_, rfl⟩
  rw [and_one n h, Bool.eq_iff_iff]; simp; omega
theorem half_c (n : Nat) (_ : n < 18446744073709551616) (w : World) :
    Calls Tryd.prog 71 #[.int .u64 n] w fun e w' => e = .returned (.int .u64 (n / 2 : Nat)) ∧ w = w' := by
  go_enter Tryd.func71, Tryd.ntmps71
  go_wp2
  go_ret
  exact ⟨rfl, rfl⟩
theorem odd_c (n : Nat) (h : n < 9223372036854775808) (w : World) :
    Calls Tryd.prog 63 #[.int .u64 n] w fun e w' => e = .returned (.int .u64 (2 * n + 1 : Nat)) ∧ w = w' := by
  go_enter Tryd.func63, Tryd.ntmps63
  go_wp2
  go_ret
  refine ⟨retInt ?_, rfl⟩
  exact or_one n h
/- IsAtom -/
/- IsCell -/
theorem isCell_even (n : Nat) (h : n < 18446744073709551616) (hp : n % 2 = 0) (w : World) :
    Calls Tryd.prog 51 #[.int .u64 n] w fun e w' => e = .returned (.tuple #[.int .i64 0, .bool false]) ∧ w = w' := by
  have hb : (n % 2 == 1) = false := by simp; omega
  clear hp
  go_enter Tryd.func51, Tryd.ntmps51
  go_wp2_with (first
    | (go_at_call 70; refine (isOdd_c _ h _).mono ?_; rintro e w' ⟨rfl, rfl⟩)
    | (go_at_call 71; refine (half_c _ h _).mono ?_; rintro e w' ⟨rfl, rfl⟩))
  go_ret2
  exact ⟨rfl, rfl⟩
theorem isCell_cell (n : Nat) (h : n < 8192) (hp : n % 2 = 1) (w : World) :
    Calls Tryd.prog 51 #[.int .u64 n] w fun e w' => e = .returned (.tuple #[.int .i64 (n / 2 : Nat), .bool true]) ∧ w = w' := by
  have hb : (n % 2 == 1) = true := by simp; omega
  have hx : ¬ 4096 ≤ n / 2 := by omega
  clear hp
  go_enter Tryd.func51, Tryd.ntmps51
  go_wp2_with (first
    | (go_at_call 70; refine (isOdd_c _ (by omega) _).mono ?_; rintro e w' ⟨rfl, rfl⟩)
    | (go_at_call 71; refine (half_c _ (by omega) _).mono ?_; rintro e w' ⟨rfl, rfl⟩))
  go_ret2
  exact ⟨rfl, rfl⟩
theorem isCell_other (n : Nat) (h : n < 18446744073709551616) (h8 : 8192 ≤ n) (hp : n % 2 = 1) (w : World) :
    Calls Tryd.prog 51 #[.int .u64 n] w fun e w' => e = .returned (.tuple #[.int .i64 0, .bool false]) ∧ w = w' := by
  have hb : (n % 2 == 1) = true := by simp; omega
  have hx : 4096 ≤ n / 2 := by omega
  clear hp
  go_enter Tryd.func51, Tryd.ntmps51
  go_wp2_with (first
    | (go_at_call 70; refine (isOdd_c _ (by omega) _).mono ?_; rintro e w' ⟨rfl, rfl⟩)
    | (go_at_call 71; refine (half_c _ (by omega) _).mono ?_; rintro e w' ⟨rfl, rfl⟩))
  go_ret2
  exact ⟨rfl, rfl⟩
/- Atom, Cell -/
theorem cell_pos (k : Nat) (h : k < 4096) (w : World) :
    Calls Tryd.prog 39 #[.int .i64 k] w fun e w' => e = .returned (.int .u64 (2 * k + 1 : Nat)) ∧ w = w' := by
  go_enter Tryd.func39, Tryd.ntmps39
  go_wp2_with (first
    | (go_at_call 63; refine (odd_c _ (by omega) _).mono ?_; rintro e w' ⟨rfl, rfl⟩))
  go_ret
  exact ⟨rfl, rfl⟩
theorem cell_neg (k : Int) (h : k < 0 ∨ 4096 ≤ k) (w : World) :
    Calls Tryd.prog 39 #[.int .i64 k] w fun e w' => e = .returned (.int .u64 0) ∧ w = w' := by
  rcases h with h | h
  · go_enter Tryd.func39, Tryd.ntmps39
    go_wp2
    go_ret
    exact ⟨rfl, rfl⟩
  · have h0 : ¬ k < 0 := by omega
    go_enter Tryd.func39, Tryd.ntmps39
    go_wp2
    go_ret
    exact ⟨rfl, rfl⟩
/- number -/
/- the document's answers -/
theorem refIsCell_cell (n : Nat) (h : n < 8192) (hp : n % 2 = 1) (w : World) :
    Calls Tryd.prog 21 #[.int .u64 n] w fun e w' => e = .returned (.int .i64 (n / 2 : Nat)) ∧ w = w' := by
  go_enter Tryd.func21, Tryd.ntmps21
  go_wp2
  go_ret
  exact ⟨rfl, rfl⟩
theorem refIsCell_even (n : Nat) (h : n < 18446744073709551616) (hp : n % 2 = 0) (w : World) :
    Calls Tryd.prog 21 #[.int .u64 n] w fun e w' => e = .returned (.int .i64 (-1)) ∧ w = w' := by
  go_enter Tryd.func21, Tryd.ntmps21
  go_wp2
  go_ret
  exact ⟨rfl, rfl⟩
theorem refIsCell_other (n : Nat) (h : n < 18446744073709551616) (h8 : 8192 ≤ n) (hp : n % 2 = 1) (w : World) :
    Calls Tryd.prog 21 #[.int .u64 n] w fun e w' => e = .returned (.int .i64 (-1)) ∧ w = w' := by
  have h9 : ¬ n < 8192 := by omega
  go_enter Tryd.func21, Tryd.ntmps21
  go_wp2
  go_ret
  exact ⟨rfl, rfl⟩
end Go.Proofs.YthdcapkchjamoaaDoor
