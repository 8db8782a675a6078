/- The document's answers for configurations: Right, Roots, Words and Text, for every configuration. -/
import Derived.Test.YthlpmkjhiifibaaDoorRounds
import Derived.Deep.RegionHeld3
import Derived.Deep.DrawnRows
namespace Go.Proofs.YthlpmkjhiifibaaDoor
open Go Go.RowKit
set_option maxRecDepth 100000
attribute [local go_sem ↓] Go.wp_at_zero Go.wp_at_succ

def RightPost (w : World) (a b c d : Int) (e : Ending) (w' : World) : Prop := ∃ r : Bool, e = .returned (.bool r) ∧ (Right a b c d ∧ r = true ∨ ¬ Right a b c d ∧ r = false) ∧ Below w.heap.size w w'
set_option maxHeartbeats 3200000 in
theorem refRight_any (a b c d : Int) (w : World) :
    Calls Tryd.prog 10 #[.agg #[.int .i64 a, .int .i64 b, .int .i64 c, .int .i64 d]] w (RightPost w a b c d) := by
  have HB := Lib.hid (below_new w (.cells #[.int .i64 a, .int .i64 b, .int .i64 c, .int .i64 d] 25))
  by_cases h1 : 1 < a
  rotate_left
  · have HN : Hid (¬ Right a b c d) := Lib.hid (fun h => by unfold Right at h; omega)
    go_enter Tryd.func10, Tryd.ntmps10
    go_wp2
    go_ret
    exact ⟨false, rfl, .inr ⟨HN.out, rfl⟩, HB.out⟩
  by_cases h2 : a < 4097
  rotate_left
  · have HN : Hid (¬ Right a b c d) := Lib.hid (fun h => by unfold Right at h; omega)
    go_enter Tryd.func10, Tryd.ntmps10
    go_wp2
    go_ret
    exact ⟨false, rfl, .inr ⟨HN.out, rfl⟩, HB.out⟩
  by_cases h3 : 0 < b
  rotate_left
  · have HN : Hid (¬ Right a b c d) := Lib.hid (fun h => by unfold Right at h; omega)
    go_enter Tryd.func10, Tryd.ntmps10
    go_wp2
    go_ret
    exact ⟨false, rfl, .inr ⟨HN.out, rfl⟩, HB.out⟩
  by_cases h4 : b < 64
  rotate_left
  · have HN : Hid (¬ Right a b c d) := Lib.hid (fun h => by unfold Right at h; omega)
    go_enter Tryd.func10, Tryd.ntmps10
    go_wp2
    go_ret
    exact ⟨false, rfl, .inr ⟨HN.out, rfl⟩, HB.out⟩
  by_cases h5 : 0 < c
  rotate_left
  · have HN : Hid (¬ Right a b c d) := Lib.hid (fun h => by unfold Right at h; omega)
    go_enter Tryd.func10, Tryd.ntmps10
    go_wp2
    go_ret
    exact ⟨false, rfl, .inr ⟨HN.out, rfl⟩, HB.out⟩
  by_cases h6 : c < 65
  rotate_left
  · have HN : Hid (¬ Right a b c d) := Lib.hid (fun h => by unfold Right at h; omega)
    go_enter Tryd.func10, Tryd.ntmps10
    go_wp2
    go_ret
    exact ⟨false, rfl, .inr ⟨HN.out, rfl⟩, HB.out⟩
  by_cases h7 : -1 < d
  rotate_left
  · have HN : Hid (¬ Right a b c d) := Lib.hid (fun h => by unfold Right at h; omega)
    go_enter Tryd.func10, Tryd.ntmps10
    go_wp2
    go_ret
    exact ⟨false, rfl, .inr ⟨HN.out, rfl⟩, HB.out⟩
  by_cases h8 : d < 65
  rotate_left
  · have HN : Hid (¬ Right a b c d) := Lib.hid (fun h => by unfold Right at h; omega)
    go_enter Tryd.func10, Tryd.ntmps10
    go_wp2
    go_ret
    exact ⟨false, rfl, .inr ⟨HN.out, rfl⟩, HB.out⟩
  have HN : Hid (Right a b c d) := Lib.hid (by unfold Right; omega)
  go_enter Tryd.func10, Tryd.ntmps10
  go_wp2
  go_ret
  exact ⟨true, rfl, .inl ⟨HN.out, rfl⟩, HB.out⟩
theorem refRight_right (a b c d : Int) (hr : Right a b c d) (w : World) :
    Calls Tryd.prog 10 #[.agg #[.int .i64 a, .int .i64 b, .int .i64 c, .int .i64 d]] w fun e w' => e = .returned (.bool true) ∧ Below w.heap.size w w' :=
  (refRight_any a b c d w).mono fun e w' ⟨r, he, hx, hb⟩ => by
    rcases hx with ⟨_, rfl⟩ | ⟨hn, _⟩
    · exact ⟨he, hb⟩
    · exact absurd hr hn
theorem refRight_wrong (a b c d : Int) (hr : ¬ Right a b c d) (w : World) :
    Calls Tryd.prog 10 #[.agg #[.int .i64 a, .int .i64 b, .int .i64 c, .int .i64 d]] w fun e w' => e = .returned (.bool false) ∧ Below w.heap.size w w' :=
  (refRight_any a b c d w).mono fun e w' ⟨r, he, hx, hb⟩ => by
    rcases hx with ⟨hn, _⟩ | ⟨_, rfl⟩
    · exact absurd hn hr
    · exact ⟨he, hb⟩
theorem mul_step (k : Nat) (c : Int) : ((k + 1 : Nat) : Int) * c = (k : Int) * c + c := by rw [Int.natCast_add, Int.add_mul]; simp
end Go.Proofs.YthlpmkjhiifibaaDoor
