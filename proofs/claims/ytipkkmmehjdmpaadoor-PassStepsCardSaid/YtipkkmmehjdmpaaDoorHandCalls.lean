/- A hand's Load, Store, Cas, Add, Clear and Field, for a hand and for a nil one, at every place, of every word and part. -/
import Derived.Test.YtipkkmmehjdmpaaDoorHand
import Derived.Test.YtipkkmmehjdmpaaDoorPlaceAt
import Derived.Test.YtipkkmmehjdmpaaDoorWordBase
namespace Go.Proofs.YtipkkmmehjdmpaaDoor
open Go Go.RowKit
set_option maxRecDepth 100000
attribute [local go_sem ↓] Go.wp_at_zero Go.wp_at_succ

theorem note_nil (k i x y o : Int) (w : World) :
    Calls Tryd.prog 46 #[.pointer none, accV k i x y o] w fun e w' => e = .returned (.tuple #[accV 0 0 0 0 0, .bool false]) ∧ Below w.heap.size w w' := by
  go_enter Tryd.func46, Tryd.ntmps46
  go_wp2_with fail
  refine bodyPost_ret (v := .tuple #[accV 0 0 0 0 0, .bool false]) (by simp [results, Tryd.f46, go_sem]) rfl ?_
  exact ⟨rfl, below_on (below_new _ _) _⟩
theorem hLoad_c {H A G n : Nat} {f : Nat → Int} {a b c d k0 i0 x0 y0 o0 : Int} {w : World} (hH : HandAt w H A G n f a b c d k0 i0 x0 y0 o0) (hu : ∀ j, U64 (f j)) (i : Int) :
    Calls Tryd.prog 34 #[.pointer (some ⟨H, 0, none⟩), .int .i64 i] w (HPost w H A G n (wordsQ n f 1 i 0 0) a b c d (z5 n 1 i 1) (z5 n 1 i i) (z5 n 1 i 0) (z5 n 1 i 0) (z5 n 1 i (f i.toNat)) (.int .u64 (z5 n 1 i (f i.toNat)))) := by
  have HN := Lib.hid (note_c hH hu 1 i 0 0 0)
  generalize wordsQ n f 1 i 0 0 = f' at *
  generalize decide (okD n 1 i) = r at *
  generalize z5 n 1 i 1 = K1 at *
  generalize z5 n 1 i i = I1 at *
  generalize z5 n 1 i 0 = X1 at *
  generalize z5 n 1 i (f i.toNat) = O1 at *
  clear hH hu
  go_enter Tryd.func34, Tryd.ntmps34
  go_wp2_with fail
  refine HN.out.mono ?_
  rintro e W ⟨rfl, hF, hs⟩
  have HF := Lib.hid hF; have HQ := Lib.hid hs; clear hF hs HN
  go_wp2_with fail
  go_ret
  exact ⟨rfl, HF.out.below (below_new _ _), HQ.out.trans (Sav.of (below_new _ _))⟩
theorem hStore_c {H A G n : Nat} {f : Nat → Int} {a b c d k0 i0 x0 y0 o0 : Int} {w : World} (hH : HandAt w H A G n f a b c d k0 i0 x0 y0 o0) (hu : ∀ j, U64 (f j)) (i x : Int) :
    Calls Tryd.prog 23 #[.pointer (some ⟨H, 0, none⟩), .int .i64 i, .int .u64 x] w (HPost w H A G n (wordsQ n f 2 i x 0) a b c d (z5 n 2 i 2) (z5 n 2 i i) (z5 n 2 i x) (z5 n 2 i 0) (z5 n 2 i (f i.toNat)) (.tuple #[])) := by
  have HN := Lib.hid (note_c hH hu 2 i x 0 0)
  generalize wordsQ n f 2 i x 0 = f' at *
  generalize decide (okD n 2 i) = r at *
  generalize z5 n 2 i 2 = K1 at *
  generalize z5 n 2 i i = I1 at *
  generalize z5 n 2 i x = X1 at *
  generalize z5 n 2 i 0 = Y1 at *
  generalize z5 n 2 i (f i.toNat) = O1 at *
  clear hH hu
  go_enter Tryd.func23, Tryd.ntmps23
  go_wp2_with fail
  refine HN.out.mono ?_
  rintro e W ⟨rfl, hF, hs⟩
  have HF := Lib.hid hF; have HQ := Lib.hid hs; clear hF hs HN
  go_wp2_with fail
  go_end0
  exact ⟨rfl, HF.out, HQ.out⟩
/-- What a cas tells. -/
def casB (n : Nat) (f : Nat → Int) (i x : Int) : Bool := decide (okD n 3 i) && (f i.toNat == x)
theorem hCas_c {H A G n : Nat} {f : Nat → Int} {a b c d k0 i0 x0 y0 o0 : Int} {w : World} (hH : HandAt w H A G n f a b c d k0 i0 x0 y0 o0) (hu : ∀ j, U64 (f j)) (i x y : Int) :
    Calls Tryd.prog 32 #[.pointer (some ⟨H, 0, none⟩), .int .i64 i, .int .u64 x, .int .u64 y] w (HPost w H A G n (wordsQ n f 3 i x y) a b c d (z5 n 3 i 3) (z5 n 3 i i) (z5 n 3 i x) (z5 n 3 i y) (z5 n 3 i (f i.toNat)) (.bool (casB n f i x))) := by
  have HN := Lib.hid (note_c hH hu 3 i x y 0)
  by_cases h : okD n 3 i
  · have hz : casB n f i x = (z5 n 3 i (f i.toNat) == x) := by unfold casB z5; rw [decide_eq_true h, if_pos h, Bool.true_and]
    rw [hz]; clear hz
    rw [decide_eq_true h] at HN
    generalize wordsQ n f 3 i x y = f' at *
    generalize z5 n 3 i 3 = K1 at *
    generalize z5 n 3 i i = I1 at *
    generalize z5 n 3 i x = X1 at *
    generalize z5 n 3 i y = Y1 at *
    generalize z5 n 3 i (f i.toNat) = O1 at *
    clear hH hu h
    go_enter Tryd.func32, Tryd.ntmps32
    go_wp2_with fail
    refine HN.out.mono ?_
    rintro e W ⟨rfl, hF, hs⟩
    have HF := Lib.hid hF; have HQ := Lib.hid hs; clear hF hs HN
    go_wp2_with fail
    go_ret
    exact ⟨rfl, HF.out.below (below_new _ _), HQ.out.trans (Sav.of (below_new _ _))⟩
  · have hz : casB n f i x = false := by unfold casB; rw [decide_eq_false h, Bool.false_and]
    rw [hz]; clear hz
    rw [decide_eq_false h] at HN
    generalize wordsQ n f 3 i x y = f' at *
    generalize z5 n 3 i 3 = K1 at *
    generalize z5 n 3 i i = I1 at *
    generalize z5 n 3 i x = X1 at *
    generalize z5 n 3 i y = Y1 at *
    generalize z5 n 3 i (f i.toNat) = O1 at *
    clear hH hu h
    go_enter Tryd.func32, Tryd.ntmps32
    go_wp2_with fail
    refine HN.out.mono ?_
    rintro e W ⟨rfl, hF, hs⟩
    have HF := Lib.hid hF; have HQ := Lib.hid hs; clear hF hs HN
    go_wp2_with fail
    go_ret
    exact ⟨rfl, HF.out.below (below_new _ _), HQ.out.trans (Sav.of (below_new _ _))⟩
theorem hLoad_nil (i : Int) (w : World) :
    Calls Tryd.prog 34 #[.pointer none, .int .i64 i] w fun e w' => e = .returned (.int .u64 0) ∧ Below w.heap.size w w' := by
  have HN := Lib.hid (note_nil 1 i 0 0 0 w)
  go_enter Tryd.func34, Tryd.ntmps34
  go_wp2_with fail
  refine HN.out.mono ?_
  rintro e W ⟨rfl, hb⟩
  have HB := Lib.hid hb; clear hb HN
  go_wp2_with fail
  go_ret
  exact ⟨rfl, below_on HB.out _⟩
theorem hStore_nil (i x : Int) (w : World) :
    Calls Tryd.prog 23 #[.pointer none, .int .i64 i, .int .u64 x] w fun e w' => e = .returned (.tuple #[]) ∧ Below w.heap.size w w' := by
  have HN := Lib.hid (note_nil 2 i x 0 0 w)
  go_enter Tryd.func23, Tryd.ntmps23
  go_wp2_with fail
  refine HN.out.mono ?_
  rintro e W ⟨rfl, hb⟩
  have HB := Lib.hid hb; clear hb HN
  go_wp2_with fail
  go_end0
  exact ⟨rfl, HB.out⟩
theorem hCas_nil (i x y : Int) (w : World) :
    Calls Tryd.prog 32 #[.pointer none, .int .i64 i, .int .u64 x, .int .u64 y] w fun e w' => e = .returned (.bool false) ∧ Below w.heap.size w w' := by
  have HN := Lib.hid (note_nil 3 i x y 0 w)
  go_enter Tryd.func32, Tryd.ntmps32
  go_wp2_with fail
  refine HN.out.mono ?_
  rintro e W ⟨rfl, hb⟩
  have HB := Lib.hid hb; clear hb HN
  go_wp2_with fail
  go_ret
  exact ⟨rfl, below_on HB.out _⟩
/-- A word is a cell, of that number. -/
def isC (v : Nat) : Prop := v % 2 = 1 ∧ v < 8192
instance (v : Nat) : Decidable (isC v) := by unfold isC; infer_instance
theorem isCell_no (v : Nat) (hv : v < 18446744073709551616) (h : ¬ isC v) (w : World) :
    Calls Tryd.prog 52 #[.int .u64 v] w fun e w' => e = .returned (.tuple #[.int .i64 0, .bool false]) ∧ w = w' := by
  unfold isC at h
  by_cases hp : v % 2 = 0
  · exact isCell_even v hv hp w
  · exact isCell_other v hv (by omega) (by omega) w
/-- The place of a part of a cell. -/
def fieldP (a b c d : Int) (v : Nat) (p : Int) : Int := if isC v ∧ 0 ≤ p ∧ p ≤ 2 then partP a b c d p ((v / 2 : Nat) : Int) else -1
theorem hField_nil (v : Nat) (hv : v < 18446744073709551616) (p : Int) (w : World) :
    Calls Tryd.prog 33 #[.pointer none, .int .u64 v, .int .i64 p] w fun e w' => e = .returned (.int .i64 (-1)) ∧ w = w' := by
  by_cases h : isC v
  · have HI := Lib.hid (isCell_cell v h.2 h.1 w)
    clear h
    go_enter Tryd.func33, Tryd.ntmps33
    go_wp2_with fail
    refine HI.out.mono ?_
    rintro e W ⟨rfl, rfl⟩
    go_wp2_with fail
    go_ret
    exact ⟨rfl, rfl⟩
  · have HI := Lib.hid (isCell_no v hv h w)
    clear h
    go_enter Tryd.func33, Tryd.ntmps33
    go_wp2_with fail
    refine HI.out.mono ?_
    rintro e W ⟨rfl, rfl⟩
    go_wp2_with fail
    go_ret
    exact ⟨rfl, rfl⟩
theorem hField_c {H A G n : Nat} {f : Nat → Int} {a b c d k0 i0 x0 y0 o0 : Int} {w : World} (hH : HandAt w H A G n f a b c d k0 i0 x0 y0 o0) (hS : SpansAt w) (v : Nat) (hv : v < 18446744073709551616) (p : Int) :
    Calls Tryd.prog 33 #[.pointer (some ⟨H, 0, none⟩), .int .u64 v, .int .i64 p] w fun e w' => e = .returned (.int .i64 (fieldP a b c d v p)) ∧ Below w.heap.size w w' := by
  obtain ⟨_, ⟨h1, h2, h3, h4⟩, _⟩ := hH.cells
  clear hH
  by_cases h : isC v
  · have HI := Lib.hid (isCell_cell v h.2 h.1 w)
    generalize hm : v / 2 = m at *
    by_cases h0 : p = 0 ∨ p = 1 ∨ p = 2
    · have HE : Hid (fieldP a b c d v p = partP a b c d p (m : Int)) := Lib.hid (by unfold fieldP; rw [if_pos ⟨h, by omega⟩, hm])
      generalize fieldP a b c d v p = R at *
      clear hm h
      rcases h0 with rfl | rfl | rfl
      · have HP := Lib.hid (Car_c a b c d (m : Int) w hS)
        rw [← HE.out] at HP
        clear HE hS
        go_enter Tryd.func33, Tryd.ntmps33
        go_wp2_with fail
        refine HI.out.mono ?_
        rintro e W ⟨rfl, rfl⟩
        go_wp2_with fail
        refine HP.out.mono ?_
        rintro e W ⟨rfl, hW⟩
        have HB := Lib.hid hW; clear hW
        go_wp2_with fail
        go_ret
        exact ⟨rfl, HB.out⟩
      · have HP := Lib.hid (Cdr_c a b c d (m : Int) w hS)
        rw [← HE.out] at HP
        clear HE hS
        go_enter Tryd.func33, Tryd.ntmps33
        go_wp2_with fail
        refine HI.out.mono ?_
        rintro e W ⟨rfl, rfl⟩
        go_wp2_with fail
        refine HP.out.mono ?_
        rintro e W ⟨rfl, hW⟩
        have HB := Lib.hid hW; clear hW
        go_wp2_with fail
        go_ret
        exact ⟨rfl, HB.out⟩
      · have HP := Lib.hid (Colour_c a b c d (m : Int) w hS)
        rw [← HE.out] at HP
        clear HE hS
        go_enter Tryd.func33, Tryd.ntmps33
        go_wp2_with fail
        refine HI.out.mono ?_
        rintro e W ⟨rfl, rfl⟩
        go_wp2_with fail
        refine HP.out.mono ?_
        rintro e W ⟨rfl, hW⟩
        have HB := Lib.hid hW; clear hW
        go_wp2_with fail
        go_ret
        exact ⟨rfl, HB.out⟩
    · have HE : Hid (fieldP a b c d v p = -1) := Lib.hid (by unfold fieldP; rw [if_neg (fun h' => h0 (by omega))])
      have k0 : (p == 0) = false := by rw [beq_eq_false_iff_ne]; omega
      have k1 : (p == 1) = false := by rw [beq_eq_false_iff_ne]; omega
      have k2 : (p == 2) = false := by rw [beq_eq_false_iff_ne]; omega
      generalize fieldP a b c d v p = R at *
      clear hm h hS h0
      go_enter Tryd.func33, Tryd.ntmps33
      go_wp2_with fail
      refine HI.out.mono ?_
      rintro e W ⟨rfl, rfl⟩
      go_wp2_with fail
      go_ret
      exact ⟨by rw [HE.out]; rfl, Below.refl _ _⟩
  · have HI := Lib.hid (isCell_no v hv h w)
    have HE : Hid (fieldP a b c d v p = -1) := Lib.hid (by unfold fieldP; rw [if_neg (fun h' => h h'.1)])
    generalize fieldP a b c d v p = R at *
    clear h hS
    go_enter Tryd.func33, Tryd.ntmps33
    go_wp2_with fail
    refine HI.out.mono ?_
    rintro e W ⟨rfl, rfl⟩
    go_wp2_with fail
    go_ret
    exact ⟨by rw [HE.out]; rfl, Below.refl _ _⟩
end Go.Proofs.YtipkkmmehjdmpaaDoor
