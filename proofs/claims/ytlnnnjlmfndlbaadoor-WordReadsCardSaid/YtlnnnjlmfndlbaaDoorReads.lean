/- WordReads answers true for every text: the law of P1.2 on reading. -/
import Derived.Test.YtlnnnjlmfndlbaaDoorRefParse
namespace Go.Proofs.YtlnnnjlmfndlbaaDoor
open Go Go.RowKit
set_option maxRecDepth 100000

theorem reads_long (S : ByteArray) (h : 60 < S.size) (hm : S.size ≤ 9223372036854775807) (w : World) :
    Calls Tryd.prog 5 #[.string S] w fun e w' => e = .returned (.bool true) ∧ Below w.heap.size w w' := by
  go_enter Tryd.func5, Tryd.ntmps5
  go_wp2_with fail
  refine (awake_c _).mono ?_
  rintro e w' ⟨rfl, rfl⟩
  go_wp2_with fail
  go_ret
  exact ⟨rfl, Below.refl _ _⟩
/- what both sides tell of a text, under one name -/
def Told (f : FuncId) (S : ByteArray) (X : Nat) (E : Int) (w : World) : Prop := Calls Tryd.prog f #[.string S] w fun e w' => e = .returned (.tuple #[.int .u64 X, .int .i64 E]) ∧ Below w.heap.size w w'
theorem told (S : ByteArray) (h : S.size ≤ 60) : ∃ X E, ∀ w, Pow w → ErrsLie w → Told 19 S X E w ∧ ∀ w', Told 21 S X E w' := by
  by_cases hx : ∃ n, n < 18446744073709551616 ∧ textB n = S.data.toList
  · obtain ⟨n, hn, ht⟩ := hx
    obtain rfl : S = ⟨(textB n).toArray⟩ := by obtain ⟨⟨l⟩⟩ := S; simp at ht; rw [ht]
    exact ⟨n, 0, fun w hP _ => ⟨parse_ok n hn w hP, refParse_ok n hn⟩⟩
  · have hno : ∀ m, m < 18446744073709551616 → textB m ≠ S.data.toList := fun m hm e => hx ⟨m, hm, e⟩
    refine ⟨0, 3, fun w hP hE => ⟨?_, fun w' => refParse_no S h hno w'⟩⟩
    cases hr : readN S.data.toList with
    | none => exact parse_no_none S (by omega) hr w hE
    | some x => exact parse_no_some S (by omega) x hr (hno x (readN_lt hr)) w hP
theorem reads_short (S : ByteArray) (h : S.size ≤ 60) (w : World) (hP : Pow w) (hE : ErrsLie w) :
    Calls Tryd.prog 5 #[.string S] w fun e w' => e = .returned (.bool true) ∧ Below w.heap.size w w' := by
  obtain ⟨X, E, ht⟩ := told S h
  obtain ⟨H1, H2⟩ := ht w hP hE
  have K1 := Lib.hid H1; have K2 := Lib.hid H2
  clear ht hP hE H1 H2
  go_enter Tryd.func5, Tryd.ntmps5
  go_wp2_with fail
  refine (awake_c _).mono ?_
  rintro e w' ⟨rfl, rfl⟩
  go_wp2_with fail
  refine Calls.mono K1.out ?_
  rintro e W1 ⟨rfl, g1⟩
  go_wp2_with fail
  refine Calls.mono (K2.out _) ?_
  rintro e W2 ⟨rfl, g2⟩
  go_wp2_with fail
  go_ret
  exact ⟨rfl, g1.trans (g2.mono g1.size)⟩
theorem reads_c (S : ByteArray) (hm : S.size ≤ 9223372036854775807) (w : World) (hP : Pow w) (hE : ErrsLie w) :
    Calls Tryd.prog 5 #[.string S] w fun e w' => e = .returned (.bool true) ∧ Below w.heap.size w w' := by
  by_cases h : 60 < S.size
  · exact reads_long S h hm w
  · exact reads_short S (by omega) w hP hE
end Go.Proofs.YtlnnnjlmfndlbaaDoor
