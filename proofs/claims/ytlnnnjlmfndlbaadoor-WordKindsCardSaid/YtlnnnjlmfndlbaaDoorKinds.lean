/- WordKinds answers true for every word and every number (the law of P1.1 on kinds), whatever memory holds. -/
import Derived.Test.YtlnnnjlmfndlbaaDoorFmt
namespace Go.Proofs.YtlnnnjlmfndlbaaDoor
open Go Go.RowKit Go.Lib
set_option maxRecDepth 100000

/- both sides of each comparison, under one name each -/
def NumIs (f : FuncId) (n : Nat) (x : Int) : Prop := ∀ w, Calls Tryd.prog f #[.int .u64 n] w fun e w' => e = .returned (.int .i64 x) ∧ w = w'
def PairIs (f : FuncId) (n : Nat) (x : Int) (b : Bool) : Prop := ∀ w, Calls Tryd.prog f #[.int .u64 n] w fun e w' => e = .returned (.tuple #[.int .i64 x, .bool b]) ∧ w = w'
def WordIs (f : FuncId) (k : Int) (x : Int) : Prop := ∀ w, Calls Tryd.prog f #[.int .i64 k] w fun e w' => e = .returned (.int .u64 x) ∧ w = w'
def CountIs (x : Int) (b : Bool) (y : Int) : Prop := ∀ w, Calls Tryd.prog 9 #[.int .i64 x, .bool b] w fun e w' => e = .returned (.int .i64 y) ∧ w = w'
theorem atoms (n : Nat) (h : n < 18446744073709551616) : ∃ x b y, PairIs 10 n x b ∧ CountIs x b y ∧ NumIs 11 n y := by
  by_cases hp : n % 2 = 0
  · exact ⟨_, _, _, isAtom_even n h hp, number_ok _, refIsAtom_even n h hp⟩
  · exact ⟨_, _, _, isAtom_odd n h (by omega), number_no, refIsAtom_odd n h (by omega)⟩
theorem cells (n : Nat) (h : n < 18446744073709551616) : ∃ x b y, PairIs 12 n x b ∧ CountIs x b y ∧ NumIs 13 n y := by
  by_cases hp : n % 2 = 0
  · exact ⟨_, _, _, isCell_even n h hp, number_no, refIsCell_even n h hp⟩
  · by_cases h8 : n < 8192
    · exact ⟨_, _, _, isCell_cell n h8 (by omega), number_ok _, refIsCell_cell n h8 (by omega)⟩
    · exact ⟨_, _, _, isCell_other n h (by omega) (by omega), number_no, refIsCell_other n h (by omega) (by omega)⟩
theorem atomWords (k : Int) (h : k < 9223372036854775808) : ∃ x, WordIs 14 k x ∧ WordIs 15 k x := by
  by_cases hk : k < 0
  · exact ⟨_, atom_neg k hk, refAtom_neg k hk⟩
  · obtain ⟨m, rfl⟩ : ∃ m : Nat, k = m := ⟨k.toNat, by omega⟩
    exact ⟨_, atom_pos m (by omega), refAtom_pos m (by omega)⟩
theorem cellWords (k : Int) : ∃ x, WordIs 16 k x ∧ WordIs 17 k x := by
  by_cases hk : k < 0 ∨ 4096 ≤ k
  · exact ⟨_, cell_neg k hk, refCell_neg k hk⟩
  · obtain ⟨m, rfl⟩ : ∃ m : Nat, k = m := ⟨k.toNat, by omega⟩
    exact ⟨_, cell_pos m (by omega), refCell_pos m (by omega)⟩
theorem kinds_c (n : Nat) (h : n < 18446744073709551616) (k : Int) (hk : k < 9223372036854775808) (w : World) :
    Calls Tryd.prog 3 #[.int .u64 n, .int .i64 k] w fun e w' => e = .returned (.bool true) ∧ w = w' := by
  obtain ⟨x1, b1, y1, H1, H2, H3⟩ := atoms n h
  obtain ⟨x2, b2, y2, H4, H5, H6⟩ := cells n h
  obtain ⟨x3, H7, H8⟩ := atomWords k hk
  obtain ⟨x4, H9, H10⟩ := cellWords k
  go_enter Tryd.func3, Tryd.ntmps3
  go_wp2_with fail
  refine (awake_c _).mono ?_
  rintro e w' ⟨rfl, rfl⟩
  go_wp2_with fail
  refine (H1 _).mono ?_
  rintro e w' ⟨rfl, rfl⟩
  go_wp2_with fail
  refine (H2 _).mono ?_
  rintro e w' ⟨rfl, rfl⟩
  go_wp2_with fail
  refine (H3 _).mono ?_
  rintro e w' ⟨rfl, rfl⟩
  go_wp2_with fail
  refine (H4 _).mono ?_
  rintro e w' ⟨rfl, rfl⟩
  go_wp2_with fail
  refine (H5 _).mono ?_
  rintro e w' ⟨rfl, rfl⟩
  go_wp2_with fail
  refine (H6 _).mono ?_
  rintro e w' ⟨rfl, rfl⟩
  go_wp2_with fail
  refine (H7 _).mono ?_
  rintro e w' ⟨rfl, rfl⟩
  go_wp2_with fail
  refine (H8 _).mono ?_
  rintro e w' ⟨rfl, rfl⟩
  go_wp2_with fail
  refine (H9 _).mono ?_
  rintro e w' ⟨rfl, rfl⟩
  go_wp2_with fail
  refine (H10 _).mono ?_
  rintro e w' ⟨rfl, rfl⟩
  go_wp2_with fail
  go_ret
  exact ⟨rfl, rfl⟩
end Go.Proofs.YtlnnnjlmfndlbaaDoor
