/- WordTotal answers true for every word (the law of P1.1 without the document's answer), in whatever memory in which the library's table of powers of ten lies as its text lays it. -/
import Derived.Test.YtlnnnjlmfndlbaaDoorFmt
namespace Go.Proofs.YtlnnnjlmfndlbaaDoor
open Go Go.RowKit Go.Lib
set_option maxRecDepth 100000

theorem total_even (n : Nat) (h : n < 18446744073709551616) (hp : n % 2 = 0) (w : World) :
    Calls Tryd.prog 7 #[.int .u64 n] w fun e w' => e = .returned (.bool true) ∧ w = w' := by
  have H1 := Lib.hid (isAtom_even n h hp)
  have H2 := Lib.hid (isCell_even n h hp)
  have H3 := Lib.hid (atom_pos (n / 2) (by omega))
  have hb : ((2 * (n / 2 : Nat) : Nat) : Int) = n := by omega
  have HB := Lib.hid hb; clear hb
  have h0 : (0 : Int) ≤ (n / 2 : Nat) := by omega
  clear hp
  generalize n / 2 = m at *
  go_enter Tryd.func7, Tryd.ntmps7
  go_wp2_with fail
  refine (awake_c _).mono ?_
  rintro e w' ⟨rfl, rfl⟩
  go_wp2_with fail
  refine (H1.out _).mono ?_
  rintro e w' ⟨rfl, rfl⟩
  go_wp2_with fail
  refine (H2.out _).mono ?_
  rintro e w' ⟨rfl, rfl⟩
  go_wp2_with fail
  refine (H3.out _).mono ?_
  rintro e w' ⟨rfl, rfl⟩
  rw [HB.out]
  go_wp2_with fail
  go_ret
  exact ⟨rfl, rfl⟩
theorem total_cell (n : Nat) (h : n < 8192) (hp : n % 2 = 1) (w : World) :
    Calls Tryd.prog 7 #[.int .u64 n] w fun e w' => e = .returned (.bool true) ∧ w = w' := by
  have H1 := Lib.hid (isAtom_odd n (by omega) hp)
  have H2 := Lib.hid (isCell_cell n h hp)
  have H3 := Lib.hid (cell_pos (n / 2) (by omega))
  have hb : ((2 * (n / 2 : Nat) + 1 : Nat) : Int) = n := by omega
  have HB := Lib.hid hb; clear hb
  have h1 : n / 2 < 4096 := by omega
  clear hp
  generalize n / 2 = m at *
  go_enter Tryd.func7, Tryd.ntmps7
  go_wp2_with fail
  refine (awake_c _).mono ?_
  rintro e w' ⟨rfl, rfl⟩
  go_wp2_with fail
  refine (H1.out _).mono ?_
  rintro e w' ⟨rfl, rfl⟩
  go_wp2_with fail
  refine (H2.out _).mono ?_
  rintro e w' ⟨rfl, rfl⟩
  go_wp2_with fail
  refine (H3.out _).mono ?_
  rintro e w' ⟨rfl, rfl⟩
  rw [HB.out]
  go_wp2_with fail
  go_ret
  exact ⟨rfl, rfl⟩
theorem textB_other (n : Nat) (h8 : 8192 ≤ n) (hp : n % 2 = 1) : ∃ c l, textB n = 63 :: c :: l := by
  unfold textB markB
  rw [if_neg (by omega), if_neg (by omega)]
  have hl := Lib.nDigits_pos (n / 2)
  rw [← Lib.decDigits_length] at hl
  cases hd : Lib.decDigits (n / 2) with
  | nil => rw [hd] at hl; simp at hl
  | cons c l => exact ⟨c, l, rfl⟩
theorem total_other (n : Nat) (h : n < 18446744073709551616) (h8 : 8192 ≤ n) (hp : n % 2 = 1) (w : World) (htab : Lib.TabIs Tryd.prog w "internal/strconv.uint64pow10" .u64 Lib.pow10Tab) :
    Calls Tryd.prog 7 #[.int .u64 n] w fun e w' => e = .returned (.bool true) ∧ Below w.heap.size w w' := by
  have H1 := Lib.hid (isAtom_odd n (by omega) hp)
  have H2 := Lib.hid (isCell_other n h h8 hp)
  obtain ⟨c, l, hl⟩ := textB_other n h8 hp
  have hsh := textB_short n h
  have ht := text_c n h w htab
  rw [hl] at ht
  have hlen : l.length ≤ 19 := by
    have := congrArg List.length hl
    unfold textB at this
    rw [List.length_append] at this
    simp only [List.length_cons] at this
    omega
  have H3 := Lib.hid ht
  have hq : ((n : Int) % 2 == 1) = true := by simp; omega
  clear hp hl hsh ht
  go_enter Tryd.func7, Tryd.ntmps7
  go_wp2_with fail
  refine (awake_c _).mono ?_
  rintro e w' ⟨rfl, rfl⟩
  go_wp2_with fail
  refine (H1.out _).mono ?_
  rintro e w' ⟨rfl, rfl⟩
  go_wp2_with fail
  refine (H2.out _).mono ?_
  rintro e w' ⟨rfl, rfl⟩
  go_wp2_with fail
  refine H3.out.mono ?_
  rintro e w' ⟨rfl, hw⟩
  go_wp2_with fail
  go_ret
  exact ⟨rfl, hw⟩
theorem total_c (n : Nat) (h : n < 18446744073709551616) (w : World) (htab : Lib.TabIs Tryd.prog w "internal/strconv.uint64pow10" .u64 Lib.pow10Tab) :
    Calls Tryd.prog 7 #[.int .u64 n] w fun e w' => e = .returned (.bool true) ∧ Below w.heap.size w w' := by
  by_cases hp : n % 2 = 0
  · exact (total_even n h hp w).mono fun e w' ⟨he, hw⟩ => ⟨he, hw ▸ Below.refl _ _⟩
  · by_cases h8 : n < 8192
    · exact (total_cell n h8 (by omega) w).mono fun e w' ⟨he, hw⟩ => ⟨he, hw ▸ Below.refl _ _⟩
    · exact total_other n h (by omega) (by omega) w htab
end Go.Proofs.YtlnnnjlmfndlbaaDoor
