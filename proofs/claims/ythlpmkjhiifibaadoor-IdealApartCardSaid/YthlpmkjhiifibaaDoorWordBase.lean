/- Contracts of the small functions of package word and of the document's answers for layer 1 (numbers alone), for every 64-bit word. -/
import Derived.Test.YthlpmkjhiifibaaDoorProg
import Derived.WalkKit
import Derived.WalkSmall
import Derived.IntWalk
import Derived.Lib.Hide
namespace Go.Proofs.YthlpmkjhiifibaaDoor
open Go
set_option maxRecDepth 100000

theorem retInt {k : IntKind} {a b : Int} (h : a = b) : Ending.returned (.int k a) = .returned (.int k b) := by rw [h]
theorem retBool {a b : Bool} (h : a = b) : Ending.returned (.bool a) = .returned (.bool b) := by rw [h]
theorem and_one (n : Nat) (h : n < 18446744073709551616) : bits BinOp.and IntKind.u64 (n : Int) 1 = ((n % 2 : Nat) : Int) := by
  rw [and_one_u64 _ (by omega) (by omega)]; omega
theorem or_one (n : Nat) (h : n < 9223372036854775808) : bits BinOp.or IntKind.u64 ((n : Int) * 2) 1 = ((2 * n + 1 : Nat) : Int) := by
  have h1 := bits_or_u64_nat (n * 2) 1 (by omega) (by omega)
  rw [show ((n * 2 : Nat) : Int) = (n : Int) * 2 by omega] at h1
  refine h1.trans ?_
  have h2 : n * 2 ||| 1 = 2 * n + 1 := by
    have h3 := Nat.two_pow_add_eq_or_of_lt (i := 1) (b := 1) (by decide) n
    rw [Nat.mul_comm n 2]; exact h3.symm
  rw [h2]

theorem isOdd_c (n : Nat) (h : n < 18446744073709551616) (w : World) :
    Calls Tryd.prog 48 #[.int .u64 n] w fun e w' => e = .returned (.bool (n % 2 == 1)) ∧ w = w' := by
  go_enter Tryd.func48, Tryd.ntmps48
  go_wp2
  go_ret
  refine ⟨retBool ?_, rfl⟩
  rw [and_one n h, Bool.eq_iff_iff]; simp; omega
theorem half_c (n : Nat) (_ : n < 18446744073709551616) (w : World) :
    Calls Tryd.prog 49 #[.int .u64 n] w fun e w' => e = .returned (.int .u64 (n / 2 : Nat)) ∧ w = w' := by
  go_enter Tryd.func49, Tryd.ntmps49
  go_wp2
  go_ret
  exact ⟨rfl, rfl⟩
/- IsAtom -/
theorem isAtom_even (n : Nat) (h : n < 18446744073709551616) (hp : n % 2 = 0) (w : World) :
    Calls Tryd.prog 30 #[.int .u64 n] w fun e w' => e = .returned (.tuple #[.int .i64 (n / 2 : Nat), .bool true]) ∧ w = w' := by
  have hb : (n % 2 == 1) = false := by simp; omega
  have hx : n / 2 < 9223372036854775808 := by omega
  clear hp
  go_enter Tryd.func30, Tryd.ntmps30
  go_wp2_with (first
    | (go_at_call 48; refine (isOdd_c _ h _).mono ?_; rintro e w' ⟨rfl, rfl⟩)
    | (go_at_call 49; refine (half_c _ h _).mono ?_; rintro e w' ⟨rfl, rfl⟩))
  go_ret2
  exact ⟨rfl, rfl⟩
theorem isAtom_odd (n : Nat) (h : n < 18446744073709551616) (hp : n % 2 = 1) (w : World) :
    Calls Tryd.prog 30 #[.int .u64 n] w fun e w' => e = .returned (.tuple #[.int .i64 0, .bool false]) ∧ w = w' := by
  have hb : (n % 2 == 1) = true := by simp; omega
  clear hp
  go_enter Tryd.func30, Tryd.ntmps30
  go_wp2_with (first
    | (go_at_call 48; refine (isOdd_c _ h _).mono ?_; rintro e w' ⟨rfl, rfl⟩))
  go_ret2
  exact ⟨rfl, rfl⟩
/- IsCell -/
/- Atom, Cell -/
theorem atom_pos (k : Nat) (h : k < 9223372036854775808) (w : World) :
    Calls Tryd.prog 50 #[.int .i64 k] w fun e w' => e = .returned (.int .u64 (2 * k : Nat)) ∧ w = w' := by
  go_enter Tryd.func50, Tryd.ntmps50
  go_wp2
  go_ret
  refine ⟨retInt ?_, rfl⟩
  omega
theorem atom_neg (k : Int) (h : k < 0) (w : World) :
    Calls Tryd.prog 50 #[.int .i64 k] w fun e w' => e = .returned (.int .u64 0) ∧ w = w' := by
  go_enter Tryd.func50, Tryd.ntmps50
  go_wp2
  go_ret
  exact ⟨rfl, rfl⟩
/- number -/
/- the document's answers -/
end Go.Proofs.YthlpmkjhiifibaaDoor
