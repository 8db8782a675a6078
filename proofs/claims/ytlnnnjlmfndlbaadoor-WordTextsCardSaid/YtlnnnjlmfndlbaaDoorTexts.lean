/- WordTexts answers true for every two words: the law of P1.2 and P1.4 on texts. -/
import Derived.Test.YtlnnnjlmfndlbaaDoorRefText
namespace Go.Proofs.YtlnnnjlmfndlbaaDoor
open Go Go.RowKit
set_option maxRecDepth 100000

theorem texts_c (n m : Nat) (h : n < 18446744073709551616) (hm : m < 18446744073709551616) (w : World) (hP : Pow w) :
    Calls Tryd.prog 4 #[.int .u64 n, .int .u64 m] w fun e w' => e = .returned (.bool true) ∧ Below w.heap.size w w' := by
  have HP := Lib.hid hP; clear hP
  have key : ∃ b : Bool, (textB n == textB m) = b ∧ ((n : Int) == (m : Int)) = b := by
    by_cases e : n = m
    · exact ⟨true, by simp [e], by simp [e]⟩
    · exact ⟨false, by simpa using fun e' => e (textB_inj h hm e'), by simp; omega⟩
  obtain ⟨b, hb1, hb2⟩ := key
  go_enter Tryd.func4, Tryd.ntmps4
  go_wp2_with fail
  refine (awake_c _).mono ?_
  rintro e w' ⟨rfl, rfl⟩
  go_wp2_with fail
  refine (text_c n h _ HP.out).mono ?_
  rintro e W1 ⟨rfl, g1⟩
  have HP1 := Lib.hid (HP.out.below g1)
  go_wp2_with fail
  refine (parse_ok n h _ HP1.out).mono ?_
  rintro e W2 ⟨rfl, g2⟩
  have HP2 := Lib.hid (HP1.out.below g2)
  go_wp2_with fail
  refine (refText_c n h _).mono ?_
  rintro e W3 ⟨rfl, g3⟩
  have HP3 := Lib.hid (HP2.out.below g3)
  go_wp2_with fail
  refine (text_c m hm _ HP3.out).mono ?_
  rintro e W4 ⟨rfl, g4⟩
  go_wp2_with fail
  go_ret
  exact ⟨rfl, ((g1.trans (g2.mono g1.size)).trans (g3.mono (Nat.le_trans g1.size g2.size))).trans (g4.mono (Nat.le_trans (Nat.le_trans g1.size g2.size) g3.size))⟩
end Go.Proofs.YtlnnnjlmfndlbaaDoor
