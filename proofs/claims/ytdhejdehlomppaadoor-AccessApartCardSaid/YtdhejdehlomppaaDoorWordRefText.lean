/- The document's answers for texts: Text, for every word. -/
import Derived.Test.YtdhejdehlomppaaDoorWordPlain
namespace Go.Proofs.YtdhejdehlomppaaDoor
open Go Go.RowKit
set_option maxRecDepth 100000

theorem refText_c (n : Nat) (h : n < 18446744073709551616) (w : World) :
    Calls Tryd.prog 15 #[.int .u64 n] w fun e w' => e = .returned (.string ⟨(textB n).toArray⟩) ∧ Below w.heap.size w w' := by
  have H := Lib.hid (digits_c (n / 2) (by omega) w)
  have hsh := textB_short n h
  unfold textB markB
  by_cases h1 : n % 2 = 0
  · rw [if_pos h1]
    go_enter Tryd.func15, Tryd.ntmps15
    go_wp2_with fail
    refine H.out.mono ?_
    rintro e W ⟨rfl, hW⟩
    go_wp2_with fail
    go_ret
    exact ⟨rfl, hW⟩
  · rw [if_neg h1]
    by_cases h8 : n < 8192
    · rw [if_pos h8]
      go_enter Tryd.func15, Tryd.ntmps15
      go_wp2_with fail
      refine H.out.mono ?_
      rintro e W ⟨rfl, hW⟩
      go_wp2_with fail
      go_ret
      exact ⟨rfl, hW⟩
    · rw [if_neg h8]
      go_enter Tryd.func15, Tryd.ntmps15
      go_wp2_with fail
      refine H.out.mono ?_
      rintro e W ⟨rfl, hW⟩
      go_wp2_with fail
      go_ret
      exact ⟨rfl, hW⟩
end Go.Proofs.YtdhejdehlomppaaDoor
