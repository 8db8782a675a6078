/- The document's hand: Load, Store, Cas, Add, at every place; Field, of every word and part; the document's Great. -/
import Derived.Test.YtglmecdbafceoaaDoorHandRef
namespace Go.Proofs.YtglmecdbafceoaaDoor
open Go Go.RowKit
set_option maxRecDepth 100000
attribute [local go_sem ↓] Go.wp_at_zero Go.wp_at_succ

theorem rLoad_c {X : Nat} {va : Option Addr} {n cap N : Nat} {f : Nat → Int} {a b c d k0 i0 x0 y0 o0 : Int} {w : World} (hH : RHandAt w X va n cap N f a b c d k0 i0 x0 y0 o0) (hL : ∀ R, va = some ⟨R, 0, none⟩ → R < w.heap.size) (i : Int) :
    Calls Tryd.prog 25 #[.pointer (some ⟨X, 0, none⟩), .int .i64 i] w (RPost w X va n cap N (wordsQ n f 1 i 0 0) a b c d (z5 n 1 i 1) (z5 n 1 i i) (z5 n 1 i 0) (z5 n 1 i 0) (z5 n 1 i (f i.toNat)) (.int .u64 (z5 n 1 i (f i.toNat)))) := by
  have HN := Lib.hid (rDo_c hH hL 1 i 0 0 0)
  generalize wordsQ n f 1 i 0 0 = f' at *
  generalize z5 n 1 i 1 = K1 at *
  generalize z5 n 1 i i = I1 at *
  generalize z5 n 1 i 0 = X1 at *
  generalize z5 n 1 i (f i.toNat) = O1 at *
  clear hH hL
  go_enter Tryd.func25, Tryd.ntmps25
  go_wp2_with fail
  refine HN.out.mono ?_
  rintro e W ⟨rfl, hF, hs⟩
  have HF := Lib.hid hF; have HQ := Lib.hid hs; clear hF hs HN
  go_wp2_with fail
  go_ret
  exact ⟨rfl, HF.out, HQ.out⟩
theorem rAdd_c {X : Nat} {va : Option Addr} {n cap N : Nat} {f : Nat → Int} {a b c d k0 i0 x0 y0 o0 : Int} {w : World} (hH : RHandAt w X va n cap N f a b c d k0 i0 x0 y0 o0) (hL : ∀ R, va = some ⟨R, 0, none⟩ → R < w.heap.size) (i x : Int) :
    Calls Tryd.prog 24 #[.pointer (some ⟨X, 0, none⟩), .int .i64 i, .int .u64 x] w (RPost w X va n cap N (wordsQ n f 4 i x 0) a b c d (z5 n 4 i 4) (z5 n 4 i i) (z5 n 4 i x) (z5 n 4 i 0) (z5 n 4 i (f i.toNat)) (.int .u64 (z5 n 4 i (f i.toNat)))) := by
  have HN := Lib.hid (rDo_c hH hL 4 i x 0 0)
  generalize wordsQ n f 4 i x 0 = f' at *
  generalize z5 n 4 i 4 = K1 at *
  generalize z5 n 4 i i = I1 at *
  generalize z5 n 4 i x = X1 at *
  generalize z5 n 4 i 0 = Y1 at *
  generalize z5 n 4 i (f i.toNat) = O1 at *
  clear hH hL
  go_enter Tryd.func24, Tryd.ntmps24
  go_wp2_with fail
  refine HN.out.mono ?_
  rintro e W ⟨rfl, hF, hs⟩
  have HF := Lib.hid hF; have HQ := Lib.hid hs; clear hF hs HN
  go_wp2_with fail
  go_ret
  exact ⟨rfl, HF.out, HQ.out⟩
/-- More than is looked at. -/
def grt (a b c d : Int) : Prop := 30 < a ∨ 12 < b ∨ 8 < c ∨ 8 < d
theorem great_1 (a b c d : Int) (h1 : 30 < a) (w : World) :
    Calls Tryd.prog 17 #[.agg #[.int .i64 a, .int .i64 b, .int .i64 c, .int .i64 d]] w fun e w' => e = .returned (.bool true) ∧ Below w.heap.size w w' := by
  go_enter Tryd.func17, Tryd.ntmps17
  go_wp2
  go_ret
  exact ⟨rfl, below_new _ _⟩
theorem great_2 (a b c d : Int) (h1 : ¬ 30 < a) (h2 : 12 < b) (w : World) :
    Calls Tryd.prog 17 #[.agg #[.int .i64 a, .int .i64 b, .int .i64 c, .int .i64 d]] w fun e w' => e = .returned (.bool true) ∧ Below w.heap.size w w' := by
  go_enter Tryd.func17, Tryd.ntmps17
  go_wp2
  go_ret
  exact ⟨rfl, below_new _ _⟩
theorem great_3 (a b c d : Int) (h1 : ¬ 30 < a) (h2 : ¬ 12 < b) (h3 : 8 < c) (w : World) :
    Calls Tryd.prog 17 #[.agg #[.int .i64 a, .int .i64 b, .int .i64 c, .int .i64 d]] w fun e w' => e = .returned (.bool true) ∧ Below w.heap.size w w' := by
  go_enter Tryd.func17, Tryd.ntmps17
  go_wp2
  go_ret
  exact ⟨rfl, below_new _ _⟩
theorem great_4 (a b c d : Int) (h1 : ¬ 30 < a) (h2 : ¬ 12 < b) (h3 : ¬ 8 < c) (h4 : 8 < d) (w : World) :
    Calls Tryd.prog 17 #[.agg #[.int .i64 a, .int .i64 b, .int .i64 c, .int .i64 d]] w fun e w' => e = .returned (.bool true) ∧ Below w.heap.size w w' := by
  go_enter Tryd.func17, Tryd.ntmps17
  go_wp2
  go_ret
  exact ⟨rfl, below_new _ _⟩
theorem great_0 (a b c d : Int) (h1 : ¬ 30 < a) (h2 : ¬ 12 < b) (h3 : ¬ 8 < c) (h4 : ¬ 8 < d) (w : World) :
    Calls Tryd.prog 17 #[.agg #[.int .i64 a, .int .i64 b, .int .i64 c, .int .i64 d]] w fun e w' => e = .returned (.bool false) ∧ Below w.heap.size w w' := by
  go_enter Tryd.func17, Tryd.ntmps17
  go_wp2
  go_ret
  exact ⟨rfl, below_new _ _⟩
theorem great_yes (a b c d : Int) (h : grt a b c d) (w : World) :
    Calls Tryd.prog 17 #[.agg #[.int .i64 a, .int .i64 b, .int .i64 c, .int .i64 d]] w fun e w' => e = .returned (.bool true) ∧ Below w.heap.size w w' := by
  unfold grt at h
  by_cases h1 : 30 < a
  · exact great_1 a b c d h1 w
  by_cases h2 : 12 < b
  · exact great_2 a b c d h1 h2 w
  by_cases h3 : 8 < c
  · exact great_3 a b c d h1 h2 h3 w
  exact great_4 a b c d h1 h2 h3 (by omega) w
theorem great_no (a b c d : Int) (h : ¬ grt a b c d) (w : World) :
    Calls Tryd.prog 17 #[.agg #[.int .i64 a, .int .i64 b, .int .i64 c, .int .i64 d]] w fun e w' => e = .returned (.bool false) ∧ Below w.heap.size w w' := by
  unfold grt at h
  exact great_0 a b c d (by omega) (by omega) (by omega) (by omega) w
end Go.Proofs.YtglmecdbafceoaaDoor
