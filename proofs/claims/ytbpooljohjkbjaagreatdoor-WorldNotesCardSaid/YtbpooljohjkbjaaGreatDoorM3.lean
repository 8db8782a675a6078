/- Laid together: WordBase, HandCalls, CfgRef, PlaceRef, HandRef, HandRefCalls, PlaceSpot, PlaceAll, PlaceIn, PlaceFirst. -/
import Derived.Test.YtbpooljohjkbjaaGreatDoorProg
import Derived.WalkKit
import Derived.WalkSmall
import Derived.IntWalk
import Derived.Lib.Hide
import Derived.Test.YtbpooljohjkbjaaGreatDoorM2
import Derived.Test.YtbpooljohjkbjaaGreatDoorPlaceAt
import Derived.Test.YtbpooljohjkbjaaGreatDoorM1
import Derived.Deep.RegionHeld3
import Derived.Deep.DrawnRows
import Derived.Deep.AppendLies
import Derived.Laws.OwnMore
import Derived.OwnWalk
import Derived.WalkSpells
import Derived.Deep.OwnRows
import Derived.OneCell
import Derived.RegionTactic
/- Contracts of the small functions of package word and of the document's answers for layer 1 (numbers alone), for every 64-bit word. -/
namespace Go.Proofs.YtbpooljohjkbjaaGreatDoor
open Go
set_option maxRecDepth 100000
theorem retInt {k : IntKind} {a b : Int} (h : a = b) : Ending.returned (.int k a) = .returned (.int k b) := by rw [h]
theorem retBool {a b : Bool} (h : a = b) : Ending.returned (.bool a) = .returned (.bool b) := by rw [h]
theorem and_one (n : Nat) (h : n < 18446744073709551616) : bits BinOp.and IntKind.u64 (n : Int) 1 = ((n % 2 : Nat) : Int) := by
  rw [and_one_u64 _ (by omega) (by omega)]; omega
theorem or_one (n : Nat) (h : n < 9223372036854775808) : bits BinOp.or IntKind.u64 ((n : Int) * 2) 1 = ((2 * n + 1 : Nat) : Int) := by
  have h1 := bits_or_u64_nat (n * 2) 1 (by omega) (by omega)
  rw [show ((n * 2 : Nat) : Int) = (n : Int) * 2 by omega] at h1
  refine h1.trans ?_
  have h2 : n * 2 ||| 1 = 2 * n + 1 := by
    have h3 := Nat.two_pow_add_eq_or_of_lt (i := 1) (b := 1) (by decide) n
    rw [Nat.mul_comm n 2]; exact h3.symm
  rw [h2]
theorem isOdd_c (n : Nat) (h : n < 18446744073709551616) (w : World) :
    Calls Tryz.prog 170 #[.int .u64 n] w fun e w' => e = .returned (.bool (n % 2 == 1)) ∧ w = w' := by
  go_enter Tryz.func170, Tryz.ntmps170
  go_wp2
  go_ret
  refine ⟨retBool ?_, rfl⟩
  rw [and_one n h, Bool.eq_iff_iff]; simp; omega
theorem half_c (n : Nat) (_ : n < 18446744073709551616) (w : World) :
    Calls Tryz.prog 171 #[.int .u64 n] w fun e w' => e = .returned (.int .u64 (n / 2 : Nat)) ∧ w = w' := by
  go_enter Tryz.func171, Tryz.ntmps171
  go_wp2
  go_ret
  exact ⟨rfl, rfl⟩
theorem odd_c (n : Nat) (h : n < 9223372036854775808) (w : World) :
    Calls Tryz.prog 101 #[.int .u64 n] w fun e w' => e = .returned (.int .u64 (2 * n + 1 : Nat)) ∧ w = w' := by
  go_enter Tryz.func101, Tryz.ntmps101
  go_wp2
  go_ret
  refine ⟨retInt ?_, rfl⟩
  exact or_one n h
/- IsAtom -/
/- IsCell -/
theorem isCell_even (n : Nat) (h : n < 18446744073709551616) (hp : n % 2 = 0) (w : World) :
    Calls Tryz.prog 125 #[.int .u64 n] w fun e w' => e = .returned (.tuple #[.int .i64 0, .bool false]) ∧ w = w' := by
  have hb : (n % 2 == 1) = false := by simp; omega
  clear hp
  go_enter Tryz.func125, Tryz.ntmps125
  go_wp2_with (first
    | (go_at_call 170; refine (isOdd_c _ h _).mono ?_; rintro e w' ⟨rfl, rfl⟩)
    | (go_at_call 171; refine (half_c _ h _).mono ?_; rintro e w' ⟨rfl, rfl⟩))
  go_ret2
  exact ⟨rfl, rfl⟩
theorem isCell_cell (n : Nat) (h : n < 8192) (hp : n % 2 = 1) (w : World) :
    Calls Tryz.prog 125 #[.int .u64 n] w fun e w' => e = .returned (.tuple #[.int .i64 (n / 2 : Nat), .bool true]) ∧ w = w' := by
  have hb : (n % 2 == 1) = true := by simp; omega
  have hx : ¬ 4096 ≤ n / 2 := by omega
  clear hp
  go_enter Tryz.func125, Tryz.ntmps125
  go_wp2_with (first
    | (go_at_call 170; refine (isOdd_c _ (by omega) _).mono ?_; rintro e w' ⟨rfl, rfl⟩)
    | (go_at_call 171; refine (half_c _ (by omega) _).mono ?_; rintro e w' ⟨rfl, rfl⟩))
  go_ret2
  exact ⟨rfl, rfl⟩
theorem isCell_other (n : Nat) (h : n < 18446744073709551616) (h8 : 8192 ≤ n) (hp : n % 2 = 1) (w : World) :
    Calls Tryz.prog 125 #[.int .u64 n] w fun e w' => e = .returned (.tuple #[.int .i64 0, .bool false]) ∧ w = w' := by
  have hb : (n % 2 == 1) = true := by simp; omega
  have hx : 4096 ≤ n / 2 := by omega
  clear hp
  go_enter Tryz.func125, Tryz.ntmps125
  go_wp2_with (first
    | (go_at_call 170; refine (isOdd_c _ (by omega) _).mono ?_; rintro e w' ⟨rfl, rfl⟩)
    | (go_at_call 171; refine (half_c _ (by omega) _).mono ?_; rintro e w' ⟨rfl, rfl⟩))
  go_ret2
  exact ⟨rfl, rfl⟩
/- Atom, Cell -/
theorem atom_pos (k : Nat) (h : k < 9223372036854775808) (w : World) :
    Calls Tryz.prog 181 #[.int .i64 k] w fun e w' => e = .returned (.int .u64 (2 * k : Nat)) ∧ w = w' := by
  go_enter Tryz.func181, Tryz.ntmps181
  go_wp2
  go_ret
  refine ⟨retInt ?_, rfl⟩
  omega
theorem atom_neg (k : Int) (h : k < 0) (w : World) :
    Calls Tryz.prog 181 #[.int .i64 k] w fun e w' => e = .returned (.int .u64 0) ∧ w = w' := by
  go_enter Tryz.func181, Tryz.ntmps181
  go_wp2
  go_ret
  exact ⟨rfl, rfl⟩
theorem cell_pos (k : Nat) (h : k < 4096) (w : World) :
    Calls Tryz.prog 76 #[.int .i64 k] w fun e w' => e = .returned (.int .u64 (2 * k + 1 : Nat)) ∧ w = w' := by
  go_enter Tryz.func76, Tryz.ntmps76
  go_wp2_with (first
    | (go_at_call 101; refine (odd_c _ (by omega) _).mono ?_; rintro e w' ⟨rfl, rfl⟩))
  go_ret
  exact ⟨rfl, rfl⟩
theorem cell_neg (k : Int) (h : k < 0 ∨ 4096 ≤ k) (w : World) :
    Calls Tryz.prog 76 #[.int .i64 k] w fun e w' => e = .returned (.int .u64 0) ∧ w = w' := by
  rcases h with h | h
  · go_enter Tryz.func76, Tryz.ntmps76
    go_wp2
    go_ret
    exact ⟨rfl, rfl⟩
  · have h0 : ¬ k < 0 := by omega
    go_enter Tryz.func76, Tryz.ntmps76
    go_wp2
    go_ret
    exact ⟨rfl, rfl⟩
/- number -/
/- the document's answers -/
end Go.Proofs.YtbpooljohjkbjaaGreatDoor
/- A hand's Load, Store, Cas, Add, Clear and Field, for a hand and for a nil one, at every place, of every word and part. -/
namespace Go.Proofs.YtbpooljohjkbjaaGreatDoor
open Go Go.RowKit
set_option maxRecDepth 100000
attribute [local go_sem ↓] Go.wp_at_zero Go.wp_at_succ
theorem hLoad_c {H A G n : Nat} {f : Nat → Int} {a b c d k0 i0 x0 y0 o0 : Int} {w : World} (hH : HandAt w H A G n f a b c d k0 i0 x0 y0 o0) (hu : ∀ j, U64 (f j)) (i : Int) :
    Calls Tryz.prog 123 #[.pointer (some ⟨H, 0, none⟩), .int .i64 i] w (HPost w H A G n (wordsQ n f 1 i 0 0) a b c d (z5 n 1 i 1) (z5 n 1 i i) (z5 n 1 i 0) (z5 n 1 i 0) (z5 n 1 i (f i.toNat)) (.int .u64 (z5 n 1 i (f i.toNat)))) := by
  have HN := Lib.hid (note_c hH hu 1 i 0 0 0)
  generalize wordsQ n f 1 i 0 0 = f' at *
  generalize decide (okD n 1 i) = r at *
  generalize z5 n 1 i 1 = K1 at *
  generalize z5 n 1 i i = I1 at *
  generalize z5 n 1 i 0 = X1 at *
  generalize z5 n 1 i (f i.toNat) = O1 at *
  clear hH hu
  go_enter Tryz.func123, Tryz.ntmps123
  go_wp2_with fail
  refine HN.out.mono ?_
  rintro e W ⟨rfl, hF, hs⟩
  have HF := Lib.hid hF; have HQ := Lib.hid hs; clear hF hs HN
  go_wp2_with fail
  go_ret
  exact ⟨rfl, HF.out.below (below_new _ _), HQ.out.trans (Sav.of (below_new _ _))⟩
theorem hStore_c {H A G n : Nat} {f : Nat → Int} {a b c d k0 i0 x0 y0 o0 : Int} {w : World} (hH : HandAt w H A G n f a b c d k0 i0 x0 y0 o0) (hu : ∀ j, U64 (f j)) (i x : Int) :
    Calls Tryz.prog 129 #[.pointer (some ⟨H, 0, none⟩), .int .i64 i, .int .u64 x] w (HPost w H A G n (wordsQ n f 2 i x 0) a b c d (z5 n 2 i 2) (z5 n 2 i i) (z5 n 2 i x) (z5 n 2 i 0) (z5 n 2 i (f i.toNat)) (.tuple #[])) := by
  have HN := Lib.hid (note_c hH hu 2 i x 0 0)
  generalize wordsQ n f 2 i x 0 = f' at *
  generalize decide (okD n 2 i) = r at *
  generalize z5 n 2 i 2 = K1 at *
  generalize z5 n 2 i i = I1 at *
  generalize z5 n 2 i x = X1 at *
  generalize z5 n 2 i 0 = Y1 at *
  generalize z5 n 2 i (f i.toNat) = O1 at *
  clear hH hu
  go_enter Tryz.func129, Tryz.ntmps129
  go_wp2_with fail
  refine HN.out.mono ?_
  rintro e W ⟨rfl, hF, hs⟩
  have HF := Lib.hid hF; have HQ := Lib.hid hs; clear hF hs HN
  go_wp2_with fail
  go_end0
  exact ⟨rfl, HF.out, HQ.out⟩
theorem hAdd_c {H A G n : Nat} {f : Nat → Int} {a b c d k0 i0 x0 y0 o0 : Int} {w : World} (hH : HandAt w H A G n f a b c d k0 i0 x0 y0 o0) (hu : ∀ j, U64 (f j)) (i x : Int) :
    Calls Tryz.prog 137 #[.pointer (some ⟨H, 0, none⟩), .int .i64 i, .int .u64 x] w (HPost w H A G n (wordsQ n f 4 i x 0) a b c d (z5 n 4 i 4) (z5 n 4 i i) (z5 n 4 i x) (z5 n 4 i 0) (z5 n 4 i (f i.toNat)) (.int .u64 (z5 n 4 i (f i.toNat)))) := by
  have HN := Lib.hid (note_c hH hu 4 i x 0 0)
  generalize wordsQ n f 4 i x 0 = f' at *
  generalize decide (okD n 4 i) = r at *
  generalize z5 n 4 i 4 = K1 at *
  generalize z5 n 4 i i = I1 at *
  generalize z5 n 4 i x = X1 at *
  generalize z5 n 4 i 0 = Y1 at *
  generalize z5 n 4 i (f i.toNat) = O1 at *
  clear hH hu
  go_enter Tryz.func137, Tryz.ntmps137
  go_wp2_with fail
  refine HN.out.mono ?_
  rintro e W ⟨rfl, hF, hs⟩
  have HF := Lib.hid hF; have HQ := Lib.hid hs; clear hF hs HN
  go_wp2_with fail
  go_ret
  exact ⟨rfl, HF.out.below (below_new _ _), HQ.out.trans (Sav.of (below_new _ _))⟩
def casB (n : Nat) (f : Nat → Int) (i x : Int) : Bool := decide (okD n 3 i) && (f i.toNat == x)
theorem hCas_c {H A G n : Nat} {f : Nat → Int} {a b c d k0 i0 x0 y0 o0 : Int} {w : World} (hH : HandAt w H A G n f a b c d k0 i0 x0 y0 o0) (hu : ∀ j, U64 (f j)) (i x y : Int) :
    Calls Tryz.prog 126 #[.pointer (some ⟨H, 0, none⟩), .int .i64 i, .int .u64 x, .int .u64 y] w (HPost w H A G n (wordsQ n f 3 i x y) a b c d (z5 n 3 i 3) (z5 n 3 i i) (z5 n 3 i x) (z5 n 3 i y) (z5 n 3 i (f i.toNat)) (.bool (casB n f i x))) := by
  have HN := Lib.hid (note_c hH hu 3 i x y 0)
  by_cases h : okD n 3 i
  · have hz : casB n f i x = (z5 n 3 i (f i.toNat) == x) := by unfold casB z5; rw [decide_eq_true h, if_pos h, Bool.true_and]
    rw [hz]; clear hz
    rw [decide_eq_true h] at HN
    generalize wordsQ n f 3 i x y = f' at *
    generalize z5 n 3 i 3 = K1 at *
    generalize z5 n 3 i i = I1 at *
    generalize z5 n 3 i x = X1 at *
    generalize z5 n 3 i y = Y1 at *
    generalize z5 n 3 i (f i.toNat) = O1 at *
    clear hH hu h
    go_enter Tryz.func126, Tryz.ntmps126
    go_wp2_with fail
    refine HN.out.mono ?_
    rintro e W ⟨rfl, hF, hs⟩
    have HF := Lib.hid hF; have HQ := Lib.hid hs; clear hF hs HN
    go_wp2_with fail
    go_ret
    exact ⟨rfl, HF.out.below (below_new _ _), HQ.out.trans (Sav.of (below_new _ _))⟩
  · have hz : casB n f i x = false := by unfold casB; rw [decide_eq_false h, Bool.false_and]
    rw [hz]; clear hz
    rw [decide_eq_false h] at HN
    generalize wordsQ n f 3 i x y = f' at *
    generalize z5 n 3 i 3 = K1 at *
    generalize z5 n 3 i i = I1 at *
    generalize z5 n 3 i x = X1 at *
    generalize z5 n 3 i y = Y1 at *
    generalize z5 n 3 i (f i.toNat) = O1 at *
    clear hH hu h
    go_enter Tryz.func126, Tryz.ntmps126
    go_wp2_with fail
    refine HN.out.mono ?_
    rintro e W ⟨rfl, hF, hs⟩
    have HF := Lib.hid hF; have HQ := Lib.hid hs; clear hF hs HN
    go_wp2_with fail
    go_ret
    exact ⟨rfl, HF.out.below (below_new _ _), HQ.out.trans (Sav.of (below_new _ _))⟩
theorem hClear_c {H A G n : Nat} {f : Nat → Int} {a b c d k0 i0 x0 y0 o0 : Int} {w : World} (hH : HandAt w H A G n f a b c d k0 i0 x0 y0 o0) :
    Calls Tryz.prog 78 #[.pointer (some ⟨H, 0, none⟩)] w (HPost w H A G n f a b c d 0 0 0 0 0 (.tuple #[])) := by
  have HF := Lib.hid hH
  obtain ⟨h0, _, h5, h6, h7, h8, h9, hf⟩ := HF.out.cells
  clear hH
  go_enter Tryz.func78, Tryz.ntmps78
  go_wp2_with fail
  go_end0
  exact ⟨rfl, HF.out.note 0 0 0 0 0, (Sav.of (Below.refl _ _)).putH (.inl (.inl rfl)) _ _ _ _ _⟩
def isC (v : Nat) : Prop := v % 2 = 1 ∧ v < 8192
instance (v : Nat) : Decidable (isC v) := by unfold isC; infer_instance
theorem isCell_no (v : Nat) (hv : v < 18446744073709551616) (h : ¬ isC v) (w : World) :
    Calls Tryz.prog 125 #[.int .u64 v] w fun e w' => e = .returned (.tuple #[.int .i64 0, .bool false]) ∧ w = w' := by
  unfold isC at h
  by_cases hp : v % 2 = 0
  · exact isCell_even v hv hp w
  · exact isCell_other v hv (by omega) (by omega) w
def fieldP (a b c d : Int) (v : Nat) (p : Int) : Int := if isC v ∧ 0 ≤ p ∧ p ≤ 2 then partP a b c d p ((v / 2 : Nat) : Int) else -1
theorem hField_c {H A G n : Nat} {f : Nat → Int} {a b c d k0 i0 x0 y0 o0 : Int} {w : World} (hH : HandAt w H A G n f a b c d k0 i0 x0 y0 o0) (hS : SpansAt w) (v : Nat) (hv : v < 18446744073709551616) (p : Int) :
    Calls Tryz.prog 127 #[.pointer (some ⟨H, 0, none⟩), .int .u64 v, .int .i64 p] w fun e w' => e = .returned (.int .i64 (fieldP a b c d v p)) ∧ Below w.heap.size w w' := by
  obtain ⟨_, ⟨h1, h2, h3, h4⟩, _⟩ := hH.cells
  clear hH
  by_cases h : isC v
  · have HI := Lib.hid (isCell_cell v h.2 h.1 w)
    generalize hm : v / 2 = m at *
    by_cases h0 : p = 0 ∨ p = 1 ∨ p = 2
    · have HE : Hid (fieldP a b c d v p = partP a b c d p (m : Int)) := Lib.hid (by unfold fieldP; rw [if_pos ⟨h, by omega⟩, hm])
      generalize fieldP a b c d v p = R at *
      clear hm h
      rcases h0 with rfl | rfl | rfl
      · have HP := Lib.hid (Car_c a b c d (m : Int) w hS)
        rw [← HE.out] at HP
        clear HE hS
        go_enter Tryz.func127, Tryz.ntmps127
        go_wp2_with fail
        refine HI.out.mono ?_
        rintro e W ⟨rfl, rfl⟩
        go_wp2_with fail
        refine HP.out.mono ?_
        rintro e W ⟨rfl, hW⟩
        have HB := Lib.hid hW; clear hW
        go_wp2_with fail
        go_ret
        exact ⟨rfl, HB.out⟩
      · have HP := Lib.hid (Cdr_c a b c d (m : Int) w hS)
        rw [← HE.out] at HP
        clear HE hS
        go_enter Tryz.func127, Tryz.ntmps127
        go_wp2_with fail
        refine HI.out.mono ?_
        rintro e W ⟨rfl, rfl⟩
        go_wp2_with fail
        refine HP.out.mono ?_
        rintro e W ⟨rfl, hW⟩
        have HB := Lib.hid hW; clear hW
        go_wp2_with fail
        go_ret
        exact ⟨rfl, HB.out⟩
      · have HP := Lib.hid (Colour_c a b c d (m : Int) w hS)
        rw [← HE.out] at HP
        clear HE hS
        go_enter Tryz.func127, Tryz.ntmps127
        go_wp2_with fail
        refine HI.out.mono ?_
        rintro e W ⟨rfl, rfl⟩
        go_wp2_with fail
        refine HP.out.mono ?_
        rintro e W ⟨rfl, hW⟩
        have HB := Lib.hid hW; clear hW
        go_wp2_with fail
        go_ret
        exact ⟨rfl, HB.out⟩
    · have HE : Hid (fieldP a b c d v p = -1) := Lib.hid (by unfold fieldP; rw [if_neg (fun h' => h0 (by omega))])
      have k0 : (p == 0) = false := by rw [beq_eq_false_iff_ne]; omega
      have k1 : (p == 1) = false := by rw [beq_eq_false_iff_ne]; omega
      have k2 : (p == 2) = false := by rw [beq_eq_false_iff_ne]; omega
      generalize fieldP a b c d v p = R at *
      clear hm h hS h0
      go_enter Tryz.func127, Tryz.ntmps127
      go_wp2_with fail
      refine HI.out.mono ?_
      rintro e W ⟨rfl, rfl⟩
      go_wp2_with fail
      go_ret
      exact ⟨by rw [HE.out]; rfl, Below.refl _ _⟩
  · have HI := Lib.hid (isCell_no v hv h w)
    have HE : Hid (fieldP a b c d v p = -1) := Lib.hid (by unfold fieldP; rw [if_neg (fun h' => h h'.1)])
    generalize fieldP a b c d v p = R at *
    clear h hS
    go_enter Tryz.func127, Tryz.ntmps127
    go_wp2_with fail
    refine HI.out.mono ?_
    rintro e W ⟨rfl, rfl⟩
    go_wp2_with fail
    go_ret
    exact ⟨by rw [HE.out]; rfl, Below.refl _ _⟩
end Go.Proofs.YtbpooljohjkbjaaGreatDoor
/- The document's answers for configurations: Right, Roots, Words and Text, for every configuration. -/
namespace Go.Proofs.YtbpooljohjkbjaaGreatDoor
open Go Go.RowKit
set_option maxRecDepth 100000
attribute [local go_sem ↓] Go.wp_at_zero Go.wp_at_succ
end Go.Proofs.YtbpooljohjkbjaaGreatDoor
/- The document's answers for places: At and Root, and the law's own at, for every configuration and every number. -/
namespace Go.Proofs.YtbpooljohjkbjaaGreatDoor
open Go Go.RowKit
set_option maxRecDepth 100000
attribute [local go_sem ↓] Go.wp_at_zero Go.wp_at_succ
end Go.Proofs.YtbpooljohjkbjaaGreatDoor
/- The document's hand: Do, Load, Store, Cas, Add, at every place; Field, of every word and part; the document's Great. -/
namespace Go.Proofs.YtbpooljohjkbjaaGreatDoor
open Go Go.RowKit
set_option maxRecDepth 100000
attribute [local go_sem ↓] Go.wp_at_zero Go.wp_at_succ
namespace RHandAt
variable {w w' : World} {X : Nat} {va : Option Addr} {n cap N : Nat} {f f' : Nat → Int} {a b c d k i x y o : Int}
end RHandAt
end Go.Proofs.YtbpooljohjkbjaaGreatDoor
/- The document's hand: Load, Store, Cas, Add, at every place; Field, of every word and part; the document's Great. -/
namespace Go.Proofs.YtbpooljohjkbjaaGreatDoor
open Go Go.RowKit
set_option maxRecDepth 100000
attribute [local go_sem ↓] Go.wp_at_zero Go.wp_at_succ
end Go.Proofs.YtbpooljohjkbjaaGreatDoor
/- What a place is, as the document counts; rows of one's own that lie on. -/
namespace Go.Proofs.YtbpooljohjkbjaaGreatDoor
open Go Go.RowKit
set_option maxRecDepth 100000
def spotF (b c d n : Int) : Int × Int × Int :=
  if n < 5 then (0, n, 0) else if n < 5 + b then (1, n - 5, 0) else if n < 5 + b + d then (2, n - (5 + b), 0)
  else if n < 5 + b + d + b * c then (3, (n - (5 + b + d)) / c, (n - (5 + b + d)) % c) else (4 + (n - (5 + b + d + b * c)) % 3, (n - (5 + b + d + b * c)) / 3, 0)
end Go.Proofs.YtbpooljohjkbjaaGreatDoor
/- The document's list of what lies at each place (All), for every configuration: of a right one what spotF tells of each place, in their order; of any other none. -/
namespace Go.Proofs.YtbpooljohjkbjaaGreatDoor
open Go Go.RowKit
set_option maxRecDepth 100000
theorem spot_once {b c d n : Int} (h : n < 5) : spotF b c d n = (0, n, 0) := by unfold spotF; rw [if_pos h]
theorem spot_cell {a b c d : Int} (hr : Right a b c d) {i k n : Int} (h0 : 0 ≤ i) (h2 : 0 ≤ k) (h3 : k < 3) (hn : n = 5 + b + d + b * c + 3 * i + k) : spotF b c d n = (4 + k, i, 0) := by
  have hp := hr.prod
  unfold Right at hr
  unfold spotF; rw [if_neg (by omega), if_neg (by omega), if_neg (by omega), if_neg (by omega)]
  rw [show (n - (5 + b + d + b * c)) % 3 = k by omega, show (n - (5 + b + d + b * c)) / 3 = i by omega]
end Go.Proofs.YtbpooljohjkbjaaGreatDoor
/- The places of what there is, in a right configuration. -/
namespace Go.Proofs.YtbpooljohjkbjaaGreatDoor
open Go Go.RowKit
theorem partP_in {a b c d : Int} (hr : Right a b c d) (k i : Int) (h0 : 0 ≤ i) (h1 : i < a) : partP a b c d k i = 5 + b + d + b * c + 3 * i + k := by unfold partP; rw [if_pos ⟨⟨h0, h1⟩, hr⟩]
end Go.Proofs.YtbpooljohjkbjaaGreatDoor
/- The words at first, by package place's First and by the document's answer, for every configuration; the document's Same of two rows of the same words. -/
namespace Go.Proofs.YtbpooljohjkbjaaGreatDoor
open Go Go.RowKit
set_option maxRecDepth 100000
attribute [local go_sem ↓] Go.wp_at_zero Go.wp_at_succ
theorem sizeP_right {a b c d : Int} (hr : Right a b c d) : sizeP a b c d = 5 + b + d + b * c + 3 * a := by unfold sizeP; rw [if_pos hr]; omega
def fstV (a b c d : Int) (j : Nat) : Int :=
  if (spotF b c d j).1 = 5 ∧ (spotF b c d j).2.1 + 1 < a then 2 * ((spotF b c d j).2.1 + 1) + 1 else if (spotF b c d j).1 = 0 ∧ (spotF b c d j).2.1 = 0 then 1 else 0
def rowF (a b c d : Int) (k j : Nat) : Int :=
  if (spotF b c d j).1 = 5 ∧ (spotF b c d j).2.1 < k ∧ (spotF b c d j).2.1 + 1 < a then 2 * ((spotF b c d j).2.1 + 1) + 1 else if (spotF b c d j).1 = 0 ∧ (spotF b c d j).2.1 = 0 then 1 else 0
theorem spot_zero (b c d : Int) : spotF b c d ((0 : Nat) : Int) = (0, 0, 0) := spot_once (by omega)
theorem spot_five {a b c d : Int} (hr : Right a b c d) (j : Nat) (h : (spotF b c d j).1 = 5) : (j : Int) = 5 + b + d + b * c + 3 * (spotF b c d j).2.1 + 1 := by
  have hp := hr.prod
  unfold Right at hr
  unfold spotF at *
  split at h
  · simp at h
  · split at h
    · simp at h
    · split at h
      · simp at h
      · split at h
        · simp at h
        · rw [if_neg (by assumption), if_neg (by assumption), if_neg (by assumption), if_neg (by assumption)]
          simp only at h ⊢
          omega
theorem spot_nought {a b c d : Int} (hr : Right a b c d) (j : Nat) (h : (spotF b c d j).1 = 0) : (spotF b c d j).2.1 = j := by
  have hp := hr.prod
  unfold Right at hr
  unfold spotF at *
  split at h
  · rw [if_pos (by assumption)]
  · split at h
    · simp at h
    · split at h
      · simp at h
      · split at h
        · simp at h
        · simp only at h; omega
theorem rowF_zero {a b c d : Int} (hr : Right a b c d) (j : Nat) : rowF a b c d 0 j = if j = 0 then 1 else 0 := by
  unfold rowF
  by_cases h : j = 0
  · subst h; rw [spot_zero, if_neg (by simp), if_pos ⟨rfl, rfl⟩, if_pos rfl]
  · rw [if_neg h, if_neg, if_neg]
    · rintro ⟨h1, h2⟩; have := spot_nought hr j h1; omega
    · rintro ⟨h1, h2, _⟩
      have h3 := spot_five hr j h1
      have : 0 ≤ (spotF b c d j).2.1 := by
        unfold spotF at *
        split at h1
        · simp at h1
        · split at h1
          · simp at h1
          · split at h1
            · simp at h1
            · split at h1
              · simp at h1
              · rw [if_neg (by assumption), if_neg (by assumption), if_neg (by assumption), if_neg (by assumption)]; simp only; omega
      omega
theorem rowF_next {a b c d : Int} (hr : Right a b c d) (k p j : Nat) (hk : (k : Int) + 1 < a) (hp : (p : Int) = 5 + b + d + b * c + 3 * k + 1) : (if j = p then 2 * ((k : Int) + 1) + 1 else rowF a b c d k j) = rowF a b c d (k + 1) j := by
  have hpd := hr.prod
  by_cases h : j = p
  · subst h
    have he : spotF b c d j = (4 + 1, (k : Int), 0) := spot_cell hr (by omega) (by omega) (by omega) hp
    rw [if_pos rfl]; unfold rowF; rw [he, if_pos ⟨rfl, by simp; omega, hk⟩]
  · rw [if_neg h]; unfold rowF
    by_cases h5 : (spotF b c d j).1 = 5
    · have h3 := spot_five hr j h5
      have hne : ¬ (spotF b c d j).2.1 = k := fun e => h (by rw [e] at h3; omega)
      by_cases h6 : (spotF b c d j).2.1 < k ∧ (spotF b c d j).2.1 + 1 < a
      · rw [if_pos ⟨h5, h6⟩, if_pos ⟨h5, by omega, h6.2⟩]
      · have e1 : ¬ ((spotF b c d j).1 = 5 ∧ (spotF b c d j).2.1 < (k : Nat) ∧ (spotF b c d j).2.1 + 1 < a) := fun h => h6 h.2
        have e2 : ¬ ((spotF b c d j).1 = 5 ∧ (spotF b c d j).2.1 < ((k + 1 : Nat) : Int) ∧ (spotF b c d j).2.1 + 1 < a) := fun h => h6 ⟨by have := h.2.1; omega, h.2.2⟩
        rw [if_neg e1, if_neg e2]
    · have e1 : ¬ ((spotF b c d j).1 = 5 ∧ (spotF b c d j).2.1 < (k : Nat) ∧ (spotF b c d j).2.1 + 1 < a) := fun h => h5 h.1
      have e2 : ¬ ((spotF b c d j).1 = 5 ∧ (spotF b c d j).2.1 < ((k + 1 : Nat) : Int) ∧ (spotF b c d j).2.1 + 1 < a) := fun h => h5 h.1
      rw [if_neg e1, if_neg e2]
theorem rowF_last (a b c d : Int) (k j : Nat) (hk : a ≤ (k : Int) + 1) : rowF a b c d k j = fstV a b c d j := by
  unfold rowF fstV
  by_cases h6 : (spotF b c d j).1 = 5 ∧ (spotF b c d j).2.1 + 1 < a
  · rw [if_pos ⟨h6.1, by omega, h6.2⟩, if_pos h6]
  · rw [if_neg (fun h => h6 ⟨h.1, h.2.2⟩), if_neg h6]
theorem rowIs_below {w w' : World} {g : Nat} {t : TypeId} {n : Nat} {f : Nat → Value} (h : w.rowIs g t n f) (hb : Below w.heap.size w w') : w'.rowIs g t n f := h.of_block (hb.block _ h.lt)
theorem BoxAt.setOther {w : World} {B : Nat} {a b c d : Int} (h : BoxAt w B a b c d) {p : Addr} (hp : p.block ≠ B) (v : Value) : BoxAt (w.setCell p v) B a b c d := by
  have k : ∀ j, (w.setCell p v).cell? ⟨B, j, none⟩ = w.cell? ⟨B, j, none⟩ := fun j => World.cell?_setCell_other w p _ v (fun e => hp (by rw [e]))
  exact ⟨(k 0).trans h.1, (k 1).trans h.2.1, (k 2).trans h.2.2.1, (k 3).trans h.2.2.2⟩
structure FBox (w wr : World) (M g n : Nat) (a b c d : Int) (f : Nat → Int) : Prop where
  old : Below w.heap.size w wr
  map : BoxAt wr M a b c d
  row : wr.rowIs g 36 n (fun j => .int .u64 (f j))
theorem FBox.below {w wr wq : World} {M g n : Nat} {a b c d : Int} {f : Nat → Int} (h : FBox w wr M g n a b c d f) (hb : Below wr.heap.size wr wq) : FBox w wq M g n a b c d f := ⟨belowOn h.old hb, h.map.below hb, rowIs_below h.row hb⟩
theorem FBox.set {w wr : World} {M g n : Nat} {a b c d : Int} {f f' : Nat → Int} (h : FBox w wr M g n a b c d f) (hg : w.heap.size ≤ g) (hM : g ≠ M) (p : Nat) (x : Int) (e : ∀ j, (if j = p then x else f j) = f' j) : FBox w (wr.setCell ⟨g, p, none⟩ (.int .u64 x)) M g n a b c d f' :=
  ⟨h.old.setCell hg _, h.map.setOther hM _, (h.row.set p _).congr (fun j _ => by
    by_cases hj : j = p
    · rw [if_pos hj]; have := e j; rw [if_pos hj] at this; rw [← this]
    · rw [if_neg hj]; have := e j; rw [if_neg hj] at this; rw [← this])⟩
theorem FBox.as {w wr : World} {M g n : Nat} {a b c d : Int} {f f' : Nat → Int} (h : FBox w wr M g n a b c d f) (e : ∀ j, j < n → f j = f' j) : FBox w wr M g n a b c d f' := ⟨h.old, h.map, h.row.congr (fun j hj => by rw [e j hj])⟩
def FirstPost (w : World) (a b c d : Int) (e : Ending) (w' : World) : Prop :=
  ∃ (g n : Nat), e = .returned (.slice (some ⟨g, 0, none⟩) n n) ∧ (n : Int) = 5 + b + d + b * c + 3 * a ∧ w'.rowIs g 36 n (fun j => .int .u64 (fstV a b c d j)) ∧ Below w.heap.size w w'
theorem cellI_c (x : Int) (h0 : 0 ≤ x) (h1 : x < 4096) (w : World) :
    Calls Tryz.prog 76 #[.int .i64 x] w fun e w' => e = .returned (.int .u64 (2 * x + 1)) ∧ w = w' := by
  obtain ⟨k, rfl⟩ : ∃ k : Nat, x = k := ⟨x.toNat, by omega⟩
  have h := cell_pos k (by omega) w
  rwa [show ((2 * k + 1 : Nat) : Int) = 2 * (k : Int) + 1 by omega] at h
theorem first_wrong (a b c d : Int) (hr : ¬ Right a b c d) (w : World) (hS : SpansAt w) :
    Calls Tryz.prog 40 #[.agg #[.int .i64 a, .int .i64 b, .int .i64 c, .int .i64 d]] w fun e w' => e = .returned (.slice none 0 0) ∧ Below w.heap.size w w' := by
  have hb := below_new w (.cells #[.int .i64 a, .int .i64 b, .int .i64 c, .int .i64 d] 23)
  have HX := Lib.hid (BoxAt.new w a b c d 23)
  have HN := Lib.hid (New_wrong a b c d hr _ (hS.below hb))
  have HB := Lib.hid hb
  clear hr hS hb
  obtain ⟨x0, x1, x2, x3⟩ := HX.out
  go_enter Tryz.func40, Tryz.ntmps40
  go_wp2_with fail
  refine HN.out.mono ?_
  rintro e W ⟨rfl, hW⟩
  have HB1 := Lib.hid (below_on (belowOn HB.out hW) (.cells #[.int .i64 0, .int .i64 0, .int .i64 0, .int .i64 0] 88))
  clear hW
  go_wp2_with fail
  go_ret
  exact ⟨rfl, HB1.out⟩
set_option maxHeartbeats 6400000 in
theorem first_right (a b c d : Int) (hr : Right a b c d) (w : World) (hS : SpansAt w) :
    Calls Tryz.prog 40 #[.agg #[.int .i64 a, .int .i64 b, .int .i64 c, .int .i64 d]] w (FirstPost w a b c d) := by
  have hb := below_new w (.cells #[.int .i64 a, .int .i64 b, .int .i64 c, .int .i64 d] 23)
  have HX := Lib.hid (BoxAt.new w a b c d 23)
  have HN := Lib.hid (New_right a b c d hr _ (hS.below hb))
  have HB := Lib.hid hb
  have HR := Lib.hid hr; have HS := Lib.hid hS
  have hp1 : 1 ≤ b * c := hr.prod.1
  have hp2 : b * c ≤ 4032 := hr.prod.2
  have hz := Size_c a b c d
  rw [sizeP_right hr] at hz
  obtain ⟨ha1, ha2, hb1, hb2, hc1, hc2, hd1, hd2⟩ := hr
  obtain ⟨n, hn⟩ : ∃ n : Nat, 5 + b + d + b * c + 3 * a = (n : Int) := ⟨(5 + b + d + b * c + 3 * a).toNat, by omega⟩
  rw [hn] at hz
  have HZ := Lib.hid hz
  have hn20 : n ≤ 20000 := by omega
  have hn0 : 0 < n := by omega
  have HNn := Lib.hid hn
  have hmk := make_words n hn20
  have HC0 := Lib.hid (cellI_c 0 (by omega) (by omega))
  clear hS hb hz hn
  obtain ⟨x0, x1, x2, x3⟩ := HX.out
  go_enter Tryz.func40, Tryz.ntmps40
  go_wp2_with fail
  refine HN.out.mono ?_
  rintro e W ⟨rfl, hW⟩
  have HB1 := Lib.hid (below_on (belowOn HB.out hW) (.cells #[.int .i64 a, .int .i64 b, .int .i64 c, .int .i64 d] 88))
  have HM1 := Lib.hid (BoxAt.new W a b c d 88)
  obtain ⟨m0, m1, m2, m3⟩ := HM1.out
  clear hW x0 x1 x2 x3 HN
  go_wp2_with fail
  refine (HZ.out _ (HS.out.below HB1.out)).mono ?_
  rintro e W1 ⟨rfl, hW⟩
  have HF1 : Hid (FBox w (W1.alloc (.cells (madeCells #[.int .u64 0] n) 36)) W.heap.size W1.heap.size n a b c d (fun _ => 0)) :=
    Lib.hid ⟨below_on (belowOn HB1.out hW) _, (HM1.out.below hW).below (below_new _ _), World.rowIs_made W1 (.int .u64 0) n 36⟩
  have hlt1 : W.heap.size < W1.heap.size := by have := hW.size; simp at this; omega
  have hge : w.heap.size ≤ W1.heap.size := by have := (belowOn HB1.out hW).size; omega
  have HK := Lib.hid (HM1.out.below hW)
  clear hW m0 m1 m2 m3 HM1 HB1 HZ
  go_wp2_with fail
  refine (HC0.out _).mono ?_
  rintro e W2 ⟨rfl, rfl⟩
  have hc := HF1.out.row.cell hn0
  have hf := HF1.out.row.frozen 0
  have HF2 : Hid (FBox w ((W1.alloc (.cells (madeCells #[.int .u64 0] n) 36)).setCell ⟨W1.heap.size, 0, none⟩ (.int .u64 1)) W.heap.size W1.heap.size n a b c d (rowF a b c d 0)) :=
    Lib.hid (HF1.out.set hge (by omega) 0 1 (fun j => by rw [rowF_zero HR.out j]))
  rw [World.setCell_alloc_new] at HF2
  obtain ⟨m0, m1, m2, m3⟩ := HK.out
  have hne1 : W.heap.size ≠ W1.heap.size := by omega
  go_wp2_with fail
  clear m0 m1 m2 m3 HK hc hf hmk
  go_loopw [24] (fun vi wr => ∃ k : Nat, vi = .int .i64 k ∧ (k : Int) ≤ a - 1 ∧ Hid (FBox w wr W.heap.size W1.heap.size n a b c d (rowF a b c d k))) (fun vi _ => (a - 1).toNat - (intOf vi).toNat)
  case atStart => exact ⟨0, rfl, by omega, HF2⟩
  case round =>
    clear HF1 HF2
    obtain ⟨k, rfl, hk, HF⟩ := hrel
    by_cases hlt : (k : Int) < a - 1
    · obtain ⟨p, hp⟩ : ∃ p : Nat, 5 + b + d + b * c + 3 * (k : Int) + 1 = (p : Int) := ⟨(5 + b + d + b * c + 3 * (k : Int) + 1).toNat, by omega⟩
      have hc1 := Cdr_c a b c d k
      rw [partP_in HR.out 1 k (by omega) (by omega), hp] at hc1
      have HC := Lib.hid hc1
      have HV := Lib.hid (cellI_c ((k : Int) + 1) (by omega) (by omega))
      have hpn : p < n := by have := HNn.out; omega
      have HP := Lib.hid hp.symm
      obtain ⟨m0, m1, m2, m3⟩ := HF.out.map
      clear hc1 hp
      go_wp2_with fail
      refine (HC.out _ (HS.out.below HF.out.old)).mono ?_
      rintro e V ⟨rfl, hV⟩
      have HG := Lib.hid (HF.out.below hV)
      clear hV HC HF m0 m1 m2 m3
      go_wp2_with fail
      refine (HV.out _).mono ?_
      rintro e V' ⟨rfl, rfl⟩
      have hc := HG.out.row.cell hpn
      have hf := HG.out.row.frozen p
      have HG2 : Hid (FBox w (V.setCell ⟨W1.heap.size, p, none⟩ (.int .u64 (2 * ((k : Int) + 1) + 1))) W.heap.size W1.heap.size n a b c d (rowF a b c d (k + 1))) := Lib.hid (HG.out.set hge (by omega) p _ (fun j => rowF_next HR.out k p j (by omega) HP.out))
      go_wp2_with fail
      clear hc hf HG HP
      go_roundw
      case rel => exact ⟨k + 1, by go_num, by omega, HG2⟩
      case measure => simp [intOf]; omega
    · go_wp2_with fail
      go_ret
      exact ⟨_, n, rfl, by have := HNn.out; omega, (HF.out.as (fun j _ => rowF_last a b c d k j (by omega))).row, HF.out.old⟩
theorem spot_five_pos {a b c d : Int} (hr : Right a b c d) (j : Nat) (h : (spotF b c d j).1 = 5) : 0 ≤ (spotF b c d j).2.1 := by
  have hp := hr.prod
  unfold Right at hr
  unfold spotF at *
  split at h
  · simp at h
  · split at h
    · simp at h
    · split at h
      · simp at h
      · split at h
        · simp at h
        · rw [if_neg (by assumption), if_neg (by assumption), if_neg (by assumption), if_neg (by assumption)]; simp only; omega
section
variable {w wr : World} {g1 cap n G B : Nat} {a b c d : Int} {k : Nat}
end
end Go.Proofs.YtbpooljohjkbjaaGreatDoor
