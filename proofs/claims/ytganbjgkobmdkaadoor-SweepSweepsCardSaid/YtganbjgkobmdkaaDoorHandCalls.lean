/- A hand's Load, Store, Cas, Add, Clear and Field, for a hand and for a nil one, at every place, of every word and part. -/
import Derived.Test.YtganbjgkobmdkaaDoorHand
import Derived.Test.YtganbjgkobmdkaaDoorPlaceAt
import Derived.Test.YtganbjgkobmdkaaDoorWordBase
namespace Go.Proofs.YtganbjgkobmdkaaDoor
open Go Go.RowKit
set_option maxRecDepth 100000
attribute [local go_sem ↓] Go.wp_at_zero Go.wp_at_succ

theorem note_nil (k i x y o : Int) (w : World) :
    Calls Tryd.prog 36 #[.pointer none, accV k i x y o] w fun e w' => e = .returned (.tuple #[accV 0 0 0 0 0, .bool false]) ∧ Below w.heap.size w w' := by
  go_enter Tryd.func36, Tryd.ntmps36
  go_wp2_with fail
  refine bodyPost_ret (v := .tuple #[accV 0 0 0 0 0, .bool false]) (by simp [results, Tryd.f36, go_sem]) rfl ?_
  exact ⟨rfl, below_on (below_new _ _) _⟩
theorem hLoad_c {H A G n : Nat} {f : Nat → Int} {a b c d k0 i0 x0 y0 o0 : Int} {w : World} (hH : HandAt w H A G n f a b c d k0 i0 x0 y0 o0) (hu : ∀ j, U64 (f j)) (i : Int) :
    Calls Tryd.prog 44 #[.pointer (some ⟨H, 0, none⟩), .int .i64 i] w (HPost w H A G n (wordsQ n f 1 i 0 0) a b c d (z5 n 1 i 1) (z5 n 1 i i) (z5 n 1 i 0) (z5 n 1 i 0) (z5 n 1 i (f i.toNat)) (.int .u64 (z5 n 1 i (f i.toNat)))) := by
  have HN := Lib.hid (note_c hH hu 1 i 0 0 0)
  generalize wordsQ n f 1 i 0 0 = f' at *
  generalize decide (okD n 1 i) = r at *
  generalize z5 n 1 i 1 = K1 at *
  generalize z5 n 1 i i = I1 at *
  generalize z5 n 1 i 0 = X1 at *
  generalize z5 n 1 i (f i.toNat) = O1 at *
  clear hH hu
  go_enter Tryd.func44, Tryd.ntmps44
  go_wp2_with fail
  refine HN.out.mono ?_
  rintro e W ⟨rfl, hF, hs⟩
  have HF := Lib.hid hF; have HQ := Lib.hid hs; clear hF hs HN
  go_wp2_with fail
  go_ret
  exact ⟨rfl, HF.out.below (below_new _ _), HQ.out.trans (Sav.of (below_new _ _))⟩
theorem hStore_c {H A G n : Nat} {f : Nat → Int} {a b c d k0 i0 x0 y0 o0 : Int} {w : World} (hH : HandAt w H A G n f a b c d k0 i0 x0 y0 o0) (hu : ∀ j, U64 (f j)) (i x : Int) :
    Calls Tryd.prog 16 #[.pointer (some ⟨H, 0, none⟩), .int .i64 i, .int .u64 x] w (HPost w H A G n (wordsQ n f 2 i x 0) a b c d (z5 n 2 i 2) (z5 n 2 i i) (z5 n 2 i x) (z5 n 2 i 0) (z5 n 2 i (f i.toNat)) (.tuple #[])) := by
  have HN := Lib.hid (note_c hH hu 2 i x 0 0)
  generalize wordsQ n f 2 i x 0 = f' at *
  generalize decide (okD n 2 i) = r at *
  generalize z5 n 2 i 2 = K1 at *
  generalize z5 n 2 i i = I1 at *
  generalize z5 n 2 i x = X1 at *
  generalize z5 n 2 i 0 = Y1 at *
  generalize z5 n 2 i (f i.toNat) = O1 at *
  clear hH hu
  go_enter Tryd.func16, Tryd.ntmps16
  go_wp2_with fail
  refine HN.out.mono ?_
  rintro e W ⟨rfl, hF, hs⟩
  have HF := Lib.hid hF; have HQ := Lib.hid hs; clear hF hs HN
  go_wp2_with fail
  go_end0
  exact ⟨rfl, HF.out, HQ.out⟩
/-- What a cas tells. -/
def casB (n : Nat) (f : Nat → Int) (i x : Int) : Bool := decide (okD n 3 i) && (f i.toNat == x)
theorem hLoad_nil (i : Int) (w : World) :
    Calls Tryd.prog 44 #[.pointer none, .int .i64 i] w fun e w' => e = .returned (.int .u64 0) ∧ Below w.heap.size w w' := by
  have HN := Lib.hid (note_nil 1 i 0 0 0 w)
  go_enter Tryd.func44, Tryd.ntmps44
  go_wp2_with fail
  refine HN.out.mono ?_
  rintro e W ⟨rfl, hb⟩
  have HB := Lib.hid hb; clear hb HN
  go_wp2_with fail
  go_ret
  exact ⟨rfl, below_on HB.out _⟩
theorem hStore_nil (i x : Int) (w : World) :
    Calls Tryd.prog 16 #[.pointer none, .int .i64 i, .int .u64 x] w fun e w' => e = .returned (.tuple #[]) ∧ Below w.heap.size w w' := by
  have HN := Lib.hid (note_nil 2 i x 0 0 w)
  go_enter Tryd.func16, Tryd.ntmps16
  go_wp2_with fail
  refine HN.out.mono ?_
  rintro e W ⟨rfl, hb⟩
  have HB := Lib.hid hb; clear hb HN
  go_wp2_with fail
  go_end0
  exact ⟨rfl, HB.out⟩
/-- A word is a cell, of that number. -/
def isC (v : Nat) : Prop := v % 2 = 1 ∧ v < 8192
instance (v : Nat) : Decidable (isC v) := by unfold isC; infer_instance
/-- The place of a part of a cell. -/
def fieldP (a b c d : Int) (v : Nat) (p : Int) : Int := if isC v ∧ 0 ≤ p ∧ p ≤ 2 then partP a b c d p ((v / 2 : Nat) : Int) else -1
end Go.Proofs.YtganbjgkobmdkaaDoor
