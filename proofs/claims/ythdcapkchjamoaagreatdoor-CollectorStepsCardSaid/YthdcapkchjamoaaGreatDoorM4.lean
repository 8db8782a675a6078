/- Laid together: HandCalls, CfgRef. -/
import Derived.Test.YthdcapkchjamoaaGreatDoorHand
import Derived.Test.YthdcapkchjamoaaGreatDoorPlaceAt
import Derived.Test.YthdcapkchjamoaaGreatDoorWordBase
import Derived.Test.YthdcapkchjamoaaGreatDoorRounds
import Derived.Deep.RegionHeld3
import Derived.Deep.DrawnRows
/- A hand's Load, Store, Cas, Add, Clear and Field, for a hand and for a nil one, at every place, of every word and part. -/
namespace Go.Proofs.YthdcapkchjamoaaGreatDoor
open Go Go.RowKit
set_option maxRecDepth 100000
attribute [local go_sem ↓] Go.wp_at_zero Go.wp_at_succ

theorem note_nil (k i x y o : Int) (w : World) :
    Calls Tryz.prog 26 #[.pointer none, accV k i x y o] w fun e w' => e = .returned (.tuple #[accV 0 0 0 0 0, .bool false]) ∧ Below w.heap.size w w' := by
  go_enter Tryz.func26, Tryz.ntmps26
  go_wp2_with fail
  refine bodyPost_ret (v := .tuple #[accV 0 0 0 0 0, .bool false]) (by simp [results, Tryz.f26, go_sem]) rfl ?_
  exact ⟨rfl, below_on (below_new _ _) _⟩
theorem hLoad_c {H A G n : Nat} {f : Nat → Int} {a b c d k0 i0 x0 y0 o0 : Int} {w : World} (hH : HandAt w H A G n f a b c d k0 i0 x0 y0 o0) (hu : ∀ j, U64 (f j)) (i : Int) :
    Calls Tryz.prog 11 #[.pointer (some ⟨H, 0, none⟩), .int .i64 i] w (HPost w H A G n (wordsQ n f 1 i 0 0) a b c d (z5 n 1 i 1) (z5 n 1 i i) (z5 n 1 i 0) (z5 n 1 i 0) (z5 n 1 i (f i.toNat)) (.int .u64 (z5 n 1 i (f i.toNat)))) := by
  have HN := Lib.hid (note_c hH hu 1 i 0 0 0)
  generalize wordsQ n f 1 i 0 0 = f' at *
  generalize decide (okD n 1 i) = r at *
  generalize z5 n 1 i 1 = K1 at *
  generalize z5 n 1 i i = I1 at *
  generalize z5 n 1 i 0 = X1 at *
  generalize z5 n 1 i (f i.toNat) = O1 at *
  clear hH hu
  go_enter Tryz.func11, Tryz.ntmps11
  go_wp2_with fail
  refine HN.out.mono ?_
  rintro e W ⟨rfl, hF, hs⟩
  have HF := Lib.hid hF; have HQ := Lib.hid hs; clear hF hs HN
  go_wp2_with fail
  go_ret
  exact ⟨rfl, HF.out.below (below_new _ _), HQ.out.trans (Sav.of (below_new _ _))⟩
theorem hStore_c {H A G n : Nat} {f : Nat → Int} {a b c d k0 i0 x0 y0 o0 : Int} {w : World} (hH : HandAt w H A G n f a b c d k0 i0 x0 y0 o0) (hu : ∀ j, U64 (f j)) (i x : Int) :
    Calls Tryz.prog 76 #[.pointer (some ⟨H, 0, none⟩), .int .i64 i, .int .u64 x] w (HPost w H A G n (wordsQ n f 2 i x 0) a b c d (z5 n 2 i 2) (z5 n 2 i i) (z5 n 2 i x) (z5 n 2 i 0) (z5 n 2 i (f i.toNat)) (.tuple #[])) := by
  have HN := Lib.hid (note_c hH hu 2 i x 0 0)
  generalize wordsQ n f 2 i x 0 = f' at *
  generalize decide (okD n 2 i) = r at *
  generalize z5 n 2 i 2 = K1 at *
  generalize z5 n 2 i i = I1 at *
  generalize z5 n 2 i x = X1 at *
  generalize z5 n 2 i 0 = Y1 at *
  generalize z5 n 2 i (f i.toNat) = O1 at *
  clear hH hu
  go_enter Tryz.func76, Tryz.ntmps76
  go_wp2_with fail
  refine HN.out.mono ?_
  rintro e W ⟨rfl, hF, hs⟩
  have HF := Lib.hid hF; have HQ := Lib.hid hs; clear hF hs HN
  go_wp2_with fail
  go_end0
  exact ⟨rfl, HF.out, HQ.out⟩
/-- What a cas tells. -/
def casB (n : Nat) (f : Nat → Int) (i x : Int) : Bool := decide (okD n 3 i) && (f i.toNat == x)
theorem hCas_c {H A G n : Nat} {f : Nat → Int} {a b c d k0 i0 x0 y0 o0 : Int} {w : World} (hH : HandAt w H A G n f a b c d k0 i0 x0 y0 o0) (hu : ∀ j, U64 (f j)) (i x y : Int) :
    Calls Tryz.prog 72 #[.pointer (some ⟨H, 0, none⟩), .int .i64 i, .int .u64 x, .int .u64 y] w (HPost w H A G n (wordsQ n f 3 i x y) a b c d (z5 n 3 i 3) (z5 n 3 i i) (z5 n 3 i x) (z5 n 3 i y) (z5 n 3 i (f i.toNat)) (.bool (casB n f i x))) := by
  have HN := Lib.hid (note_c hH hu 3 i x y 0)
  by_cases h : okD n 3 i
  · have hz : casB n f i x = (z5 n 3 i (f i.toNat) == x) := by unfold casB z5; rw [decide_eq_true h, if_pos h, Bool.true_and]
    rw [hz]; clear hz
    rw [decide_eq_true h] at HN
    generalize wordsQ n f 3 i x y = f' at *
    generalize z5 n 3 i 3 = K1 at *
    generalize z5 n 3 i i = I1 at *
    generalize z5 n 3 i x = X1 at *
    generalize z5 n 3 i y = Y1 at *
    generalize z5 n 3 i (f i.toNat) = O1 at *
    clear hH hu h
    go_enter Tryz.func72, Tryz.ntmps72
    go_wp2_with fail
    refine HN.out.mono ?_
    rintro e W ⟨rfl, hF, hs⟩
    have HF := Lib.hid hF; have HQ := Lib.hid hs; clear hF hs HN
    go_wp2_with fail
    go_ret
    exact ⟨rfl, HF.out.below (below_new _ _), HQ.out.trans (Sav.of (below_new _ _))⟩
  · have hz : casB n f i x = false := by unfold casB; rw [decide_eq_false h, Bool.false_and]
    rw [hz]; clear hz
    rw [decide_eq_false h] at HN
    generalize wordsQ n f 3 i x y = f' at *
    generalize z5 n 3 i 3 = K1 at *
    generalize z5 n 3 i i = I1 at *
    generalize z5 n 3 i x = X1 at *
    generalize z5 n 3 i y = Y1 at *
    generalize z5 n 3 i (f i.toNat) = O1 at *
    clear hH hu h
    go_enter Tryz.func72, Tryz.ntmps72
    go_wp2_with fail
    refine HN.out.mono ?_
    rintro e W ⟨rfl, hF, hs⟩
    have HF := Lib.hid hF; have HQ := Lib.hid hs; clear hF hs HN
    go_wp2_with fail
    go_ret
    exact ⟨rfl, HF.out.below (below_new _ _), HQ.out.trans (Sav.of (below_new _ _))⟩
theorem hClear_c {H A G n : Nat} {f : Nat → Int} {a b c d k0 i0 x0 y0 o0 : Int} {w : World} (hH : HandAt w H A G n f a b c d k0 i0 x0 y0 o0) :
    Calls Tryz.prog 24 #[.pointer (some ⟨H, 0, none⟩)] w (HPost w H A G n f a b c d 0 0 0 0 0 (.tuple #[])) := by
  have HF := Lib.hid hH
  obtain ⟨h0, _, h5, h6, h7, h8, h9, hf⟩ := HF.out.cells
  clear hH
  go_enter Tryz.func24, Tryz.ntmps24
  go_wp2_with fail
  go_end0
  exact ⟨rfl, HF.out.note 0 0 0 0 0, (Sav.of (Below.refl _ _)).putH (.inl (.inl rfl)) _ _ _ _ _⟩
theorem hClear_nil (w : World) : Calls Tryz.prog 24 #[.pointer none] w fun e w' => e = .returned (.tuple #[]) ∧ w = w' := by
  go_enter Tryz.func24, Tryz.ntmps24
  go_wp2_with fail
  go_end0
  exact ⟨rfl, rfl⟩
theorem hLoad_nil (i : Int) (w : World) :
    Calls Tryz.prog 11 #[.pointer none, .int .i64 i] w fun e w' => e = .returned (.int .u64 0) ∧ Below w.heap.size w w' := by
  have HN := Lib.hid (note_nil 1 i 0 0 0 w)
  go_enter Tryz.func11, Tryz.ntmps11
  go_wp2_with fail
  refine HN.out.mono ?_
  rintro e W ⟨rfl, hb⟩
  have HB := Lib.hid hb; clear hb HN
  go_wp2_with fail
  go_ret
  exact ⟨rfl, below_on HB.out _⟩
theorem hStore_nil (i x : Int) (w : World) :
    Calls Tryz.prog 76 #[.pointer none, .int .i64 i, .int .u64 x] w fun e w' => e = .returned (.tuple #[]) ∧ Below w.heap.size w w' := by
  have HN := Lib.hid (note_nil 2 i x 0 0 w)
  go_enter Tryz.func76, Tryz.ntmps76
  go_wp2_with fail
  refine HN.out.mono ?_
  rintro e W ⟨rfl, hb⟩
  have HB := Lib.hid hb; clear hb HN
  go_wp2_with fail
  go_end0
  exact ⟨rfl, HB.out⟩
theorem hCas_nil (i x y : Int) (w : World) :
    Calls Tryz.prog 72 #[.pointer none, .int .i64 i, .int .u64 x, .int .u64 y] w fun e w' => e = .returned (.bool false) ∧ Below w.heap.size w w' := by
  have HN := Lib.hid (note_nil 3 i x y 0 w)
  go_enter Tryz.func72, Tryz.ntmps72
  go_wp2_with fail
  refine HN.out.mono ?_
  rintro e W ⟨rfl, hb⟩
  have HB := Lib.hid hb; clear hb HN
  go_wp2_with fail
  go_ret
  exact ⟨rfl, below_on HB.out _⟩
/-- A word is a cell, of that number. -/
def isC (v : Nat) : Prop := v % 2 = 1 ∧ v < 8192
instance (v : Nat) : Decidable (isC v) := by unfold isC; infer_instance
theorem isCell_no (v : Nat) (hv : v < 18446744073709551616) (h : ¬ isC v) (w : World) :
    Calls Tryz.prog 71 #[.int .u64 v] w fun e w' => e = .returned (.tuple #[.int .i64 0, .bool false]) ∧ w = w' := by
  unfold isC at h
  by_cases hp : v % 2 = 0
  · exact isCell_even v hv hp w
  · exact isCell_other v hv (by omega) (by omega) w
/-- The place of a part of a cell. -/
def fieldP (a b c d : Int) (v : Nat) (p : Int) : Int := if isC v ∧ 0 ≤ p ∧ p ≤ 2 then partP a b c d p ((v / 2 : Nat) : Int) else -1
theorem hField_nil (v : Nat) (hv : v < 18446744073709551616) (p : Int) (w : World) :
    Calls Tryz.prog 73 #[.pointer none, .int .u64 v, .int .i64 p] w fun e w' => e = .returned (.int .i64 (-1)) ∧ w = w' := by
  by_cases h : isC v
  · have HI := Lib.hid (isCell_cell v h.2 h.1 w)
    clear h
    go_enter Tryz.func73, Tryz.ntmps73
    go_wp2_with fail
    refine HI.out.mono ?_
    rintro e W ⟨rfl, rfl⟩
    go_wp2_with fail
    go_ret
    exact ⟨rfl, rfl⟩
  · have HI := Lib.hid (isCell_no v hv h w)
    clear h
    go_enter Tryz.func73, Tryz.ntmps73
    go_wp2_with fail
    refine HI.out.mono ?_
    rintro e W ⟨rfl, rfl⟩
    go_wp2_with fail
    go_ret
    exact ⟨rfl, rfl⟩
theorem hField_c {H A G n : Nat} {f : Nat → Int} {a b c d k0 i0 x0 y0 o0 : Int} {w : World} (hH : HandAt w H A G n f a b c d k0 i0 x0 y0 o0) (hS : SpansAt w) (v : Nat) (hv : v < 18446744073709551616) (p : Int) :
    Calls Tryz.prog 73 #[.pointer (some ⟨H, 0, none⟩), .int .u64 v, .int .i64 p] w fun e w' => e = .returned (.int .i64 (fieldP a b c d v p)) ∧ Below w.heap.size w w' := by
  obtain ⟨_, ⟨h1, h2, h3, h4⟩, _⟩ := hH.cells
  clear hH
  by_cases h : isC v
  · have HI := Lib.hid (isCell_cell v h.2 h.1 w)
    generalize hm : v / 2 = m at *
    by_cases h0 : p = 0 ∨ p = 1 ∨ p = 2
    · have HE : Hid (fieldP a b c d v p = partP a b c d p (m : Int)) := Lib.hid (by unfold fieldP; rw [if_pos ⟨h, by omega⟩, hm])
      generalize fieldP a b c d v p = R at *
      clear hm h
      rcases h0 with rfl | rfl | rfl
      · have HP := Lib.hid (Car_c a b c d (m : Int) w hS)
        rw [← HE.out] at HP
        clear HE hS
        go_enter Tryz.func73, Tryz.ntmps73
        go_wp2_with fail
        refine HI.out.mono ?_
        rintro e W ⟨rfl, rfl⟩
        go_wp2_with fail
        refine HP.out.mono ?_
        rintro e W ⟨rfl, hW⟩
        have HB := Lib.hid hW; clear hW
        go_wp2_with fail
        go_ret
        exact ⟨rfl, HB.out⟩
      · have HP := Lib.hid (Cdr_c a b c d (m : Int) w hS)
        rw [← HE.out] at HP
        clear HE hS
        go_enter Tryz.func73, Tryz.ntmps73
        go_wp2_with fail
        refine HI.out.mono ?_
        rintro e W ⟨rfl, rfl⟩
        go_wp2_with fail
        refine HP.out.mono ?_
        rintro e W ⟨rfl, hW⟩
        have HB := Lib.hid hW; clear hW
        go_wp2_with fail
        go_ret
        exact ⟨rfl, HB.out⟩
      · have HP := Lib.hid (Colour_c a b c d (m : Int) w hS)
        rw [← HE.out] at HP
        clear HE hS
        go_enter Tryz.func73, Tryz.ntmps73
        go_wp2_with fail
        refine HI.out.mono ?_
        rintro e W ⟨rfl, rfl⟩
        go_wp2_with fail
        refine HP.out.mono ?_
        rintro e W ⟨rfl, hW⟩
        have HB := Lib.hid hW; clear hW
        go_wp2_with fail
        go_ret
        exact ⟨rfl, HB.out⟩
    · have HE : Hid (fieldP a b c d v p = -1) := Lib.hid (by unfold fieldP; rw [if_neg (fun h' => h0 (by omega))])
      have k0 : (p == 0) = false := by rw [beq_eq_false_iff_ne]; omega
      have k1 : (p == 1) = false := by rw [beq_eq_false_iff_ne]; omega
      have k2 : (p == 2) = false := by rw [beq_eq_false_iff_ne]; omega
      generalize fieldP a b c d v p = R at *
      clear hm h hS h0
      go_enter Tryz.func73, Tryz.ntmps73
      go_wp2_with fail
      refine HI.out.mono ?_
      rintro e W ⟨rfl, rfl⟩
      go_wp2_with fail
      go_ret
      exact ⟨by rw [HE.out]; rfl, Below.refl _ _⟩
  · have HI := Lib.hid (isCell_no v hv h w)
    have HE : Hid (fieldP a b c d v p = -1) := Lib.hid (by unfold fieldP; rw [if_neg (fun h' => h h'.1)])
    generalize fieldP a b c d v p = R at *
    clear h hS
    go_enter Tryz.func73, Tryz.ntmps73
    go_wp2_with fail
    refine HI.out.mono ?_
    rintro e W ⟨rfl, rfl⟩
    go_wp2_with fail
    go_ret
    exact ⟨by rw [HE.out]; rfl, Below.refl _ _⟩
end Go.Proofs.YthdcapkchjamoaaGreatDoor
/- The document's answers for configurations: Right, Roots, Words and Text, for every configuration. -/
namespace Go.Proofs.YthdcapkchjamoaaGreatDoor
open Go Go.RowKit
set_option maxRecDepth 100000
attribute [local go_sem ↓] Go.wp_at_zero Go.wp_at_succ

def RightPost (w : World) (a b c d : Int) (e : Ending) (w' : World) : Prop := ∃ r : Bool, e = .returned (.bool r) ∧ (Right a b c d ∧ r = true ∨ ¬ Right a b c d ∧ r = false) ∧ Below w.heap.size w w'
set_option maxHeartbeats 3200000 in
theorem refRight_any (a b c d : Int) (w : World) :
    Calls Tryz.prog 20 #[.agg #[.int .i64 a, .int .i64 b, .int .i64 c, .int .i64 d]] w (RightPost w a b c d) := by
  have HB := Lib.hid (below_new w (.cells #[.int .i64 a, .int .i64 b, .int .i64 c, .int .i64 d] 23))
  by_cases h1 : 1 < a
  rotate_left
  · have HN : Hid (¬ Right a b c d) := Lib.hid (fun h => by unfold Right at h; omega)
    go_enter Tryz.func20, Tryz.ntmps20
    go_wp2
    go_ret
    exact ⟨false, rfl, .inr ⟨HN.out, rfl⟩, HB.out⟩
  by_cases h2 : a < 4097
  rotate_left
  · have HN : Hid (¬ Right a b c d) := Lib.hid (fun h => by unfold Right at h; omega)
    go_enter Tryz.func20, Tryz.ntmps20
    go_wp2
    go_ret
    exact ⟨false, rfl, .inr ⟨HN.out, rfl⟩, HB.out⟩
  by_cases h3 : 0 < b
  rotate_left
  · have HN : Hid (¬ Right a b c d) := Lib.hid (fun h => by unfold Right at h; omega)
    go_enter Tryz.func20, Tryz.ntmps20
    go_wp2
    go_ret
    exact ⟨false, rfl, .inr ⟨HN.out, rfl⟩, HB.out⟩
  by_cases h4 : b < 64
  rotate_left
  · have HN : Hid (¬ Right a b c d) := Lib.hid (fun h => by unfold Right at h; omega)
    go_enter Tryz.func20, Tryz.ntmps20
    go_wp2
    go_ret
    exact ⟨false, rfl, .inr ⟨HN.out, rfl⟩, HB.out⟩
  by_cases h5 : 0 < c
  rotate_left
  · have HN : Hid (¬ Right a b c d) := Lib.hid (fun h => by unfold Right at h; omega)
    go_enter Tryz.func20, Tryz.ntmps20
    go_wp2
    go_ret
    exact ⟨false, rfl, .inr ⟨HN.out, rfl⟩, HB.out⟩
  by_cases h6 : c < 65
  rotate_left
  · have HN : Hid (¬ Right a b c d) := Lib.hid (fun h => by unfold Right at h; omega)
    go_enter Tryz.func20, Tryz.ntmps20
    go_wp2
    go_ret
    exact ⟨false, rfl, .inr ⟨HN.out, rfl⟩, HB.out⟩
  by_cases h7 : -1 < d
  rotate_left
  · have HN : Hid (¬ Right a b c d) := Lib.hid (fun h => by unfold Right at h; omega)
    go_enter Tryz.func20, Tryz.ntmps20
    go_wp2
    go_ret
    exact ⟨false, rfl, .inr ⟨HN.out, rfl⟩, HB.out⟩
  by_cases h8 : d < 65
  rotate_left
  · have HN : Hid (¬ Right a b c d) := Lib.hid (fun h => by unfold Right at h; omega)
    go_enter Tryz.func20, Tryz.ntmps20
    go_wp2
    go_ret
    exact ⟨false, rfl, .inr ⟨HN.out, rfl⟩, HB.out⟩
  have HN : Hid (Right a b c d) := Lib.hid (by unfold Right; omega)
  go_enter Tryz.func20, Tryz.ntmps20
  go_wp2
  go_ret
  exact ⟨true, rfl, .inl ⟨HN.out, rfl⟩, HB.out⟩
theorem refRight_right (a b c d : Int) (hr : Right a b c d) (w : World) :
    Calls Tryz.prog 20 #[.agg #[.int .i64 a, .int .i64 b, .int .i64 c, .int .i64 d]] w fun e w' => e = .returned (.bool true) ∧ Below w.heap.size w w' :=
  (refRight_any a b c d w).mono fun e w' ⟨r, he, hx, hb⟩ => by
    rcases hx with ⟨_, rfl⟩ | ⟨hn, _⟩
    · exact ⟨he, hb⟩
    · exact absurd hr hn
theorem refRight_wrong (a b c d : Int) (hr : ¬ Right a b c d) (w : World) :
    Calls Tryz.prog 20 #[.agg #[.int .i64 a, .int .i64 b, .int .i64 c, .int .i64 d]] w fun e w' => e = .returned (.bool false) ∧ Below w.heap.size w w' :=
  (refRight_any a b c d w).mono fun e w' ⟨r, he, hx, hb⟩ => by
    rcases hx with ⟨hn, _⟩ | ⟨_, rfl⟩
    · exact absurd hn hr
    · exact ⟨he, hb⟩
theorem refRoots_wrong (a b c d : Int) (hr : ¬ Right a b c d) (w : World) :
    Calls Tryz.prog 38 #[.agg #[.int .i64 a, .int .i64 b, .int .i64 c, .int .i64 d]] w fun e w' => e = .returned (.int .i64 0) ∧ Below w.heap.size w w' := by
  have HC := Lib.hid (refRight_wrong a b c d hr)
  have HB := Lib.hid (below_new w (.cells #[.int .i64 a, .int .i64 b, .int .i64 c, .int .i64 d] 23))
  clear hr
  go_enter Tryz.func38, Tryz.ntmps38
  go_wp2_with fail
  refine (HC.out _).mono ?_
  rintro e W ⟨rfl, hW⟩
  have HB1 := Lib.hid (belowOn HB.out hW)
  clear HB HC hW
  go_wp2_with fail
  go_ret
  exact ⟨rfl, HB1.out⟩
theorem refWords_wrong (a b c d : Int) (hr : ¬ Right a b c d) (w : World) :
    Calls Tryz.prog 21 #[.agg #[.int .i64 a, .int .i64 b, .int .i64 c, .int .i64 d]] w fun e w' => e = .returned (.int .i64 0) ∧ Below w.heap.size w w' := by
  have HC := Lib.hid (refRight_wrong a b c d hr)
  have HB := Lib.hid (below_new w (.cells #[.int .i64 a, .int .i64 b, .int .i64 c, .int .i64 d] 23))
  clear hr
  go_enter Tryz.func21, Tryz.ntmps21
  go_wp2_with fail
  refine (HC.out _).mono ?_
  rintro e W ⟨rfl, hW⟩
  have HB1 := Lib.hid (belowOn HB.out hW)
  clear HB HC hW
  go_wp2_with fail
  go_ret
  exact ⟨rfl, HB1.out⟩
theorem mul_step (k : Nat) (c : Int) : ((k + 1 : Nat) : Int) * c = (k : Int) * c + c := by rw [Int.natCast_add, Int.add_mul]; simp
set_option maxHeartbeats 3200000 in
theorem refRoots_right (a b c d : Int) (hr : Right a b c d) (w : World) :
    Calls Tryz.prog 38 #[.agg #[.int .i64 a, .int .i64 b, .int .i64 c, .int .i64 d]] w fun e w' => e = .returned (.int .i64 (1 + d + b * c)) ∧ Below w.heap.size w w' := by
  have HC := Lib.hid (refRight_right a b c d hr)
  have HX := Lib.hid (BoxAt.new w a b c d 23)
  have HB := Lib.hid (below_new w (.cells #[.int .i64 a, .int .i64 b, .int .i64 c, .int .i64 d] 23))
  obtain ⟨ha1, ha2, hb1, hb2, hc1, hc2, hd1, hd2⟩ := hr
  go_enter Tryz.func38, Tryz.ntmps38
  go_wp2_with fail
  refine (HC.out _).mono ?_
  rintro e W ⟨rfl, hW⟩
  have HB1 := Lib.hid (belowOn HB.out hW)
  obtain ⟨x0, x1, x2, x3⟩ := HX.out.below hW
  clear HX HB HC hW
  go_wp2_with fail
  go_loop [3, 4] (fun vn vi => ∃ (k : Nat) (n : Int), vi = .int .i64 k ∧ (k : Int) ≤ b ∧ vn = .int .i64 n ∧ 0 ≤ n ∧ n ≤ 5000 ∧ Hid (n = 1 + d + k * c)) (fun _ vi => b.toNat - (intOf vi).toNat)
  case atStart => exact ⟨0, 1 + d, rfl, by omega, rfl, by omega, by omega, Lib.hid (by simp)⟩
  case round =>
    obtain ⟨k, n, rfl, hk, rfl, h0, h1, HN⟩ := hrel
    by_cases hlt : (k : Int) < b
    · have HE : Hid (n + c = 1 + d + ((k + 1 : Nat) : Int) * c) := Lib.hid (by rw [mul_step, HN.out]; omega)
      have hle : n + c ≤ 5000 := by
        rw [HE.out]
        have u : ((k + 1 : Nat) : Int) * c ≤ 63 * 64 := Int.mul_le_mul (by omega) hc2 (by omega) (by omega)
        omega
      clear HN
      go_wp2
      go_round
      case rel => exact ⟨k + 1, n + c, by go_num, by omega, by go_num, by omega, by omega, HE⟩
      case measure => simp [intOf]; omega
    · obtain rfl : b = (k : Int) := by omega
      have HE : Hid (n = 1 + d + (k : Int) * c) := HN
      clear HN
      go_wp2
      go_ret
      refine ⟨?_, HB1.out⟩
      rw [← HE.out]; rfl
set_option maxHeartbeats 3200000 in
theorem refWords_right (a b c d : Int) (hr : Right a b c d) (w : World) :
    Calls Tryz.prog 21 #[.agg #[.int .i64 a, .int .i64 b, .int .i64 c, .int .i64 d]] w fun e w' => e = .returned (.int .i64 (4 + b + (1 + d + b * c) + a + a + a)) ∧ Below w.heap.size w w' := by
  have HC := Lib.hid (refRight_right a b c d hr)
  have HR := Lib.hid (refRoots_right a b c d hr)
  have HX := Lib.hid (BoxAt.new w a b c d 23)
  have HB := Lib.hid (below_new w (.cells #[.int .i64 a, .int .i64 b, .int .i64 c, .int .i64 d] 23))
  have hp1 : 1 ≤ b * c := hr.prod.1
  have hp2 : b * c ≤ 4032 := hr.prod.2
  obtain ⟨ha1, ha2, hb1, hb2, hc1, hc2, hd1, hd2⟩ := hr
  have hw1 : IntKind.i64.wrap (4 + b) = 4 + b := IntWalk.i64_in _ (by omega)
  have hw2 : IntKind.i64.wrap (4 + b + (1 + d + b * c)) = 4 + b + (1 + d + b * c) := IntWalk.i64_in _ (by omega)
  have hw3 : IntKind.i64.wrap (4 + b + (1 + d + b * c) + a) = 4 + b + (1 + d + b * c) + a := IntWalk.i64_in _ (by omega)
  have hw4 : IntKind.i64.wrap (4 + b + (1 + d + b * c) + a + a) = 4 + b + (1 + d + b * c) + a + a := IntWalk.i64_in _ (by omega)
  have hw5 : IntKind.i64.wrap (4 + b + (1 + d + b * c) + a + a + a) = 4 + b + (1 + d + b * c) + a + a + a := IntWalk.i64_in _ (by omega)
  go_enter Tryz.func21, Tryz.ntmps21
  go_wp2_with fail
  refine (HC.out _).mono ?_
  rintro e W ⟨rfl, hW⟩
  have HB1 := Lib.hid (belowOn HB.out hW)
  obtain ⟨x0, x1, x2, x3⟩ := HX.out.below hW
  clear HX HB HC hW
  go_wp2_with fail
  go_region_held3 (fun w' => w'.cell? ⟨w.heap.size, 0, none⟩ = some (.int .i64 a) ∧ w'.cell? ⟨w.heap.size, 1, none⟩ = some (.int .i64 b) ∧ w'.cell? ⟨w.heap.size, 2, none⟩ = some (.int .i64 c) ∧ w'.cell? ⟨w.heap.size, 3, none⟩ = some (.int .i64 d)) (first | assumption | go_keep)
    (first
      | (go_at_call 38; refine (HR.out _).mono ?_; rintro e w' ⟨rfl, hW⟩; have hX := BoxAt.below (a := a) (b := b) (c := c) (d := d) (B := w.heap.size) (by assumption) hW))
  all_goals go_wp2_with fail
  all_goals go_ret
  all_goals exact ⟨rfl, belowOn HB1.out.drew hW⟩
end Go.Proofs.YthdcapkchjamoaaGreatDoor
