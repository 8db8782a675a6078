/- Contracts of the small functions of package word and of the document's answers for layer 1 (numbers alone), for every 64-bit word. -/
import Derived.Test.YtjmbahdlgnobaaaDoorProg
import Derived.WalkKit
import Derived.WalkSmall
import Derived.IntWalk
import Derived.Lib.Hide
namespace Go.Proofs.YtjmbahdlgnobaaaDoor
open Go
set_option maxRecDepth 100000

theorem retInt {k : IntKind} {a b : Int} (h : a = b) : Ending.returned (.int k a) = .returned (.int k b) := by rw [h]
theorem retBool {a b : Bool} (h : a = b) : Ending.returned (.bool a) = .returned (.bool b) := by rw [h]
theorem and_one (n : Nat) (h : n < 18446744073709551616) : bits BinOp.and IntKind.u64 (n : Int) 1 = ((n % 2 : Nat) : Int) := by
  rw [and_one_u64 _ (by omega) (by omega)]; omega
theorem or_one (n : Nat) (h : n < 9223372036854775808) : bits BinOp.or IntKind.u64 ((n : Int) * 2) 1 = ((2 * n + 1 : Nat) : Int) := by
  have h1 := bits_or_u64_nat (n * 2) 1 (by omega) (by omega)
  rw [show ((n * 2 : Nat) : Int) = (n : Int) * 2 by omega] at h1
  refine h1.trans ?_
  have h2 : n * 2 ||| 1 = 2 * n + 1 := by
    have h3 := Nat.two_pow_add_eq_or_of_lt (i := 1) (b := 1) (by decide) n
    rw [Nat.mul_comm n 2]; exact h3.symm
  rw [h2]

theorem odd_c (n : Nat) (h : n < 9223372036854775808) (w : World) :
    Calls Tryd.prog 62 #[.int .u64 n] w fun e w' => e = .returned (.int .u64 (2 * n + 1 : Nat)) ∧ w = w' := by
  go_enter Tryd.func62, Tryd.ntmps62
  go_wp2
  go_ret
  refine ⟨retInt ?_, rfl⟩
  exact or_one n h
/- IsAtom -/
/- IsCell -/
/- Atom, Cell -/
theorem cell_pos (k : Nat) (h : k < 4096) (w : World) :
    Calls Tryd.prog 51 #[.int .i64 k] w fun e w' => e = .returned (.int .u64 (2 * k + 1 : Nat)) ∧ w = w' := by
  go_enter Tryd.func51, Tryd.ntmps51
  go_wp2_with (first
    | (go_at_call 62; refine (odd_c _ (by omega) _).mono ?_; rintro e w' ⟨rfl, rfl⟩))
  go_ret
  exact ⟨rfl, rfl⟩
theorem cell_neg (k : Int) (h : k < 0 ∨ 4096 ≤ k) (w : World) :
    Calls Tryd.prog 51 #[.int .i64 k] w fun e w' => e = .returned (.int .u64 0) ∧ w = w' := by
  rcases h with h | h
  · go_enter Tryd.func51, Tryd.ntmps51
    go_wp2
    go_ret
    exact ⟨rfl, rfl⟩
  · have h0 : ¬ k < 0 := by omega
    go_enter Tryd.func51, Tryd.ntmps51
    go_wp2
    go_ret
    exact ⟨rfl, rfl⟩
/- number -/
/- the document's answers -/
end Go.Proofs.YtjmbahdlgnobaaaDoor
