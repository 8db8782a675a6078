/- A hand and a row of words of one's own; a hand's calls, told apart; HandLast where it answers at once. -/
import Derived.Test.YtoojiaaooccknaaDoorHandFields
import Derived.Test.YtoojiaaooccknaaDoorHandBoth
namespace Go.Proofs.YtoojiaaooccknaaDoor
open Go Go.RowKit
set_option maxRecDepth 100000
attribute [local go_sem ↓] Go.wp_at_zero Go.wp_at_succ

/-- A hand, and a row of words of one's own. -/
structure Lst (w W : World) (H A G R n : Nat) (a b c d : Int) (f : Nat → Int) (k i x y o : Int) (f2 : Nat → Int) : Prop where
  old : Below w.heap.size w W
  hand : HandAt W H A G n f a b c d k i x y o
  row : RowAt W R 37 n f2
  lH : w.heap.size ≤ H
  lG : w.heap.size ≤ G
  lR : w.heap.size ≤ R
  rH : R ≠ H
  rA : R ≠ A
  rG : R ≠ G
namespace Lst
variable {w W V : World} {H A G R n : Nat} {a b c d : Int} {f f' f2 : Nat → Int} {k i x y o k' i' x' y' o' : Int}
theorem below (h : Lst w W H A G R n a b c d f k i x y o f2) (hb : Below W.heap.size W V) : Lst w V H A G R n a b c d f k i x y o f2 :=
  ⟨belowOn h.old hb, h.hand.below hb, h.row.below hb, h.lH, h.lG, h.lR, h.rH, h.rA, h.rG⟩
theorem drew (h : Lst w W H A G R n a b c d f k i x y o f2) : Lst w W.drew H A G R n a b c d f k i x y o f2 :=
  ⟨h.old.drew, h.hand.drew, h.row, h.lH, h.lG, h.lR, h.rH, h.rA, h.rG⟩
theorem act (h : Lst w W H A G R n a b c d f k i x y o f2) (hs : Sav (HG H G) W V) (hH : HandAt V H A G n f' a b c d k' i' x' y' o') : Lst w V H A G R n a b c d f' k' i' x' y' o' f2 := by
  refine ⟨hs.old h.old h.lH h.lG, hH, h.row.other (hs.block R h.row.lt ?_), h.lH, h.lG, h.lR, h.rH, h.rA, h.rG⟩
  rintro (e | e)
  · exact h.rH e
  · exact h.rG e
theorem put (h : Lst w W H A G R n a b c d f k i x y o f2) (j : Nat) (z : Int) : Lst w (W.setCell ⟨R, j, none⟩ (.int .u64 z)) H A G R n a b c d f k i x y o (upd f2 j z) :=
  ⟨h.old.setCell (p := ⟨R, j, none⟩) h.lR _, h.hand.other (Below.heap_setCell _ _ _ _ h.rH.symm) (Below.heap_setCell _ _ _ _ h.rA.symm) (Below.heap_setCell _ _ _ _ h.rG.symm), h.row.set j z, h.lH, h.lG, h.lR, h.rH, h.rA, h.rG⟩
theorem apart (h : Lst w W H A G R n a b c d f k i x y o f2) {B : Nat} (hB : W.heap.size ≤ B) : ¬ HG H G B := by
  rintro (e | e)
  · have := h.hand.lt; omega
  · have := h.hand.ar.row.lt; omega
end Lst
theorem last_load {H A G n : Nat} {f : Nat → Int} {a b c d k0 i0 x0 y0 o0 : Int} {w : World} (hH : HandAt w H A G n f a b c d k0 i0 x0 y0 o0) (hu : ∀ j, U64 (f j)) (j : Nat) (hj : j < n) :
    ∃ v, Calls Tryd.prog 12 #[.pointer (some ⟨H, 0, none⟩), .int .i64 j] w (HPost w H A G n (f) a b c d 1 j 0 0 (f j) v) := by
  have h := hLoad_c hH hu (j : Int)
  have ho : okD n 1 (j : Int) := ⟨by omega, by omega, by omega, by omega⟩
  unfold z5 wordsQ at h
  simp only [if_pos ho, Int.toNat_natCast] at h
  rw [show doF f 1 j 0 0 = f by unfold doF; simp] at h
  exact ⟨_, h⟩
theorem last_store {H A G n : Nat} {f : Nat → Int} {a b c d k0 i0 x0 y0 o0 : Int} {w : World} (hH : HandAt w H A G n f a b c d k0 i0 x0 y0 o0) (hu : ∀ j, U64 (f j)) (j : Nat) (hj : j < n) (x : Int) :
    ∃ v, Calls Tryd.prog 14 #[.pointer (some ⟨H, 0, none⟩), .int .i64 j, .int .u64 x] w (HPost w H A G n (upd f j x) a b c d 2 j x 0 (f j) v) := by
  have h := hStore_c hH hu (j : Int) x
  have ho : okD n 2 (j : Int) := ⟨by omega, by omega, by omega, by omega⟩
  unfold z5 wordsQ at h
  simp only [if_pos ho, Int.toNat_natCast] at h
  rw [show doF f 2 j x 0 = upd f j x by unfold doF; simp] at h
  exact ⟨_, h⟩
theorem last_hit {H A G n : Nat} {f : Nat → Int} {a b c d k0 i0 x0 y0 o0 : Int} {w : World} (hH : HandAt w H A G n f a b c d k0 i0 x0 y0 o0) (hu : ∀ j, U64 (f j)) (j : Nat) (hj : j < n) (x y : Int) (hx : f j = x) :
    ∃ v, Calls Tryd.prog 16 #[.pointer (some ⟨H, 0, none⟩), .int .i64 j, .int .u64 x, .int .u64 y] w (HPost w H A G n (upd f j y) a b c d 3 j x y (f j) v) := by
  have h := hCas_c hH hu (j : Int) x y
  have ho : okD n 3 (j : Int) := ⟨by omega, by omega, by omega, by omega⟩
  unfold z5 wordsQ at h
  simp only [if_pos ho, Int.toNat_natCast] at h
  rw [show doF f 3 j x y = upd f j y by unfold doF; simp [hx]] at h
  exact ⟨_, h⟩
theorem last_miss {H A G n : Nat} {f : Nat → Int} {a b c d k0 i0 x0 y0 o0 : Int} {w : World} (hH : HandAt w H A G n f a b c d k0 i0 x0 y0 o0) (hu : ∀ j, U64 (f j)) (j : Nat) (hj : j < n) (x y : Int) (hx : ¬ f j = x) :
    ∃ v, Calls Tryd.prog 16 #[.pointer (some ⟨H, 0, none⟩), .int .i64 j, .int .u64 x, .int .u64 y] w (HPost w H A G n (f) a b c d 3 j x y (f j) v) := by
  have h := hCas_c hH hu (j : Int) x y
  have ho : okD n 3 (j : Int) := ⟨by omega, by omega, by omega, by omega⟩
  unfold z5 wordsQ at h
  simp only [if_pos ho, Int.toNat_natCast] at h
  rw [show doF f 3 j x y = f by unfold doF; simp [hx]] at h
  exact ⟨_, h⟩
theorem last_add {H A G n : Nat} {f : Nat → Int} {a b c d k0 i0 x0 y0 o0 : Int} {w : World} (hH : HandAt w H A G n f a b c d k0 i0 x0 y0 o0) (hu : ∀ j, U64 (f j)) (j : Nat) (hj : j < n) (x : Int) :
    ∃ v, Calls Tryd.prog 18 #[.pointer (some ⟨H, 0, none⟩), .int .i64 j, .int .u64 x] w (HPost w H A G n (upd f j (sumW (f j) x)) a b c d 4 j x 0 (f j) v) := by
  have h := hAdd_c hH hu (j : Int) x
  have ho : okD n 4 (j : Int) := ⟨by omega, by omega, by omega, by omega⟩
  unfold z5 wordsQ at h
  simp only [if_pos ho, Int.toNat_natCast] at h
  rw [show doF f 4 j x 0 = upd f j (sumW (f j) x) by unfold doF; simp] at h
  exact ⟨_, h⟩
theorem last_no1 {H A G n : Nat} {f : Nat → Int} {a b c d k0 i0 x0 y0 o0 : Int} {w : World} (hH : HandAt w H A G n f a b c d k0 i0 x0 y0 o0) (hu : ∀ j, U64 (f j)) (i : Int) (hi : ¬ (0 ≤ i ∧ i < n)) :
    ∃ v, Calls Tryd.prog 12 #[.pointer (some ⟨H, 0, none⟩), .int .i64 i] w (HPost w H A G n f a b c d 0 0 0 0 0 v) := by
  have h := hLoad_c hH hu i
  have ho : ¬ okD n 1 i := fun h => hi h.2.2
  unfold z5 wordsQ at h
  simp only [if_neg ho] at h
  exact ⟨_, h⟩
theorem last_no2 {H A G n : Nat} {f : Nat → Int} {a b c d k0 i0 x0 y0 o0 : Int} {w : World} (hH : HandAt w H A G n f a b c d k0 i0 x0 y0 o0) (hu : ∀ j, U64 (f j)) (i : Int) (hi : ¬ (0 ≤ i ∧ i < n)) (x : Int) :
    ∃ v, Calls Tryd.prog 14 #[.pointer (some ⟨H, 0, none⟩), .int .i64 i, .int .u64 x] w (HPost w H A G n f a b c d 0 0 0 0 0 v) := by
  have h := hStore_c hH hu i x
  have ho : ¬ okD n 2 i := fun h => hi h.2.2
  unfold z5 wordsQ at h
  simp only [if_neg ho] at h
  exact ⟨_, h⟩
theorem last_no3 {H A G n : Nat} {f : Nat → Int} {a b c d k0 i0 x0 y0 o0 : Int} {w : World} (hH : HandAt w H A G n f a b c d k0 i0 x0 y0 o0) (hu : ∀ j, U64 (f j)) (i : Int) (hi : ¬ (0 ≤ i ∧ i < n)) (x y : Int) :
    ∃ v, Calls Tryd.prog 16 #[.pointer (some ⟨H, 0, none⟩), .int .i64 i, .int .u64 x, .int .u64 y] w (HPost w H A G n f a b c d 0 0 0 0 0 v) := by
  have h := hCas_c hH hu i x y
  have ho : ¬ okD n 3 i := fun h => hi h.2.2
  unfold z5 wordsQ at h
  simp only [if_neg ho] at h
  exact ⟨_, h⟩
theorem last_no4 {H A G n : Nat} {f : Nat → Int} {a b c d k0 i0 x0 y0 o0 : Int} {w : World} (hH : HandAt w H A G n f a b c d k0 i0 x0 y0 o0) (hu : ∀ j, U64 (f j)) (i : Int) (hi : ¬ (0 ≤ i ∧ i < n)) (x : Int) :
    ∃ v, Calls Tryd.prog 18 #[.pointer (some ⟨H, 0, none⟩), .int .i64 i, .int .u64 x] w (HPost w H A G n f a b c d 0 0 0 0 0 v) := by
  have h := hAdd_c hH hu i x
  have ho : ¬ okD n 4 i := fun h => hi h.2.2
  unfold z5 wordsQ at h
  simp only [if_neg ho] at h
  exact ⟨_, h⟩
theorem last_wrong (a b c d : Int) (hr : ¬ Right a b c d) (a2 : Option Addr) (m c2 : Nat) (hM : m ≤ 9223372036854775807) (w : World) (hS : SpansAt w) :
    Calls Tryd.prog 5 #[.agg #[.int .i64 a, .int .i64 b, .int .i64 c, .int .i64 d], .slice a2 m c2] w fun e w' => e = .returned (.bool true) ∧ Below w.heap.size w w' := by
  by_cases hg : grt a b c d
  · have HB0 := Lib.hid (below_new w (.cells #[.int .i64 a, .int .i64 b, .int .i64 c, .int .i64 d] 23))
    have HX0 := Lib.hid (BoxAt.new w a b c d 23)
    have HS := Lib.hid hS
    clear hS
    obtain ⟨x0, x1, x2, x3⟩ := HX0.out
    have HG := Lib.hid (great_yes a b c d hg)
    have HN := Lib.hid (New_no a b c d hr)
    clear hg hr
    go_enter Tryd.func5, Tryd.ntmps5
    go_wp2_with fail
    refine (awake_c _ (HS.out.below HB0.out)).mono ?_
    rintro e W1 ⟨rfl, hW⟩
    have HB1 := Lib.hid (belowOn HB0.out hW)
    have HX1 := Lib.hid (HX0.out.below hW)
    clear hW HB0 HX0 x0 x1 x2 x3
    obtain ⟨x0, x1, x2, x3⟩ := HX1.out
    go_wp2_with fail
    refine (HN.out _ (HS.out.below HB1.out)).mono ?_
    rintro e W2 ⟨rfl, hW⟩
    have HB2 := Lib.hid (belowOn HB1.out hW)
    have HX2 := Lib.hid (HX1.out.below hW)
    clear hW HB1 HX1 x0 x1 x2 x3
    obtain ⟨x0, x1, x2, x3⟩ := HX2.out
    go_wp2_with fail
    refine (HG.out _).mono ?_
    rintro e W3 ⟨rfl, hW⟩
    have HB3 := Lib.hid (belowOn HB2.out hW)
    have HX3 := Lib.hid (HX2.out.below hW)
    clear hW HB2 HX2 x0 x1 x2 x3
    obtain ⟨x0, x1, x2, x3⟩ := HX3.out
    go_wp2_with fail
    go_ret
    exact ⟨rfl, HB3.out⟩
  · by_cases hm : 60 < m
    · have HB0 := Lib.hid (below_new w (.cells #[.int .i64 a, .int .i64 b, .int .i64 c, .int .i64 d] 23))
      have HX0 := Lib.hid (BoxAt.new w a b c d 23)
      have HS := Lib.hid hS
      clear hS
      obtain ⟨x0, x1, x2, x3⟩ := HX0.out
      have HG := Lib.hid (great_no a b c d hg)
      have HN := Lib.hid (New_no a b c d hr)
      clear hg hr
      go_enter Tryd.func5, Tryd.ntmps5
      go_wp2_with fail
      refine (awake_c _ (HS.out.below HB0.out)).mono ?_
      rintro e W1 ⟨rfl, hW⟩
      have HB1 := Lib.hid (belowOn HB0.out hW)
      have HX1 := Lib.hid (HX0.out.below hW)
      clear hW HB0 HX0 x0 x1 x2 x3
      obtain ⟨x0, x1, x2, x3⟩ := HX1.out
      go_wp2_with fail
      refine (HN.out _ (HS.out.below HB1.out)).mono ?_
      rintro e W2 ⟨rfl, hW⟩
      have HB2 := Lib.hid (belowOn HB1.out hW)
      have HX2 := Lib.hid (HX1.out.below hW)
      clear hW HB1 HX1 x0 x1 x2 x3
      obtain ⟨x0, x1, x2, x3⟩ := HX2.out
      go_wp2_with fail
      refine (HG.out _).mono ?_
      rintro e W3 ⟨rfl, hW⟩
      have HB3 := Lib.hid (belowOn HB2.out hW)
      have HX3 := Lib.hid (HX2.out.below hW)
      clear hW HB2 HX2 x0 x1 x2 x3
      obtain ⟨x0, x1, x2, x3⟩ := HX3.out
      go_wp2_with fail
      go_ret
      exact ⟨rfl, HB3.out⟩
    · have HB0 := Lib.hid (below_new w (.cells #[.int .i64 a, .int .i64 b, .int .i64 c, .int .i64 d] 23))
      have HX0 := Lib.hid (BoxAt.new w a b c d 23)
      have HS := Lib.hid hS
      clear hS
      obtain ⟨x0, x1, x2, x3⟩ := HX0.out
      have HG := Lib.hid (great_no a b c d hg)
      have HN := Lib.hid (New_no a b c d hr)
      clear hg hr
      go_enter Tryd.func5, Tryd.ntmps5
      go_wp2_with fail
      refine (awake_c _ (HS.out.below HB0.out)).mono ?_
      rintro e W1 ⟨rfl, hW⟩
      have HB1 := Lib.hid (belowOn HB0.out hW)
      have HX1 := Lib.hid (HX0.out.below hW)
      clear hW HB0 HX0 x0 x1 x2 x3
      obtain ⟨x0, x1, x2, x3⟩ := HX1.out
      go_wp2_with fail
      refine (HN.out _ (HS.out.below HB1.out)).mono ?_
      rintro e W2 ⟨rfl, hW⟩
      have HB2 := Lib.hid (belowOn HB1.out hW)
      have HX2 := Lib.hid (HX1.out.below hW)
      clear hW HB1 HX1 x0 x1 x2 x3
      obtain ⟨x0, x1, x2, x3⟩ := HX2.out
      go_wp2_with fail
      refine (HG.out _).mono ?_
      rintro e W3 ⟨rfl, hW⟩
      have HB3 := Lib.hid (belowOn HB2.out hW)
      have HX3 := Lib.hid (HX2.out.below hW)
      clear hW HB2 HX2 x0 x1 x2 x3
      obtain ⟨x0, x1, x2, x3⟩ := HX3.out
      go_wp2_with fail
      go_ret
      exact ⟨rfl, HB3.out⟩
theorem last_out (a b c d : Int) (hr : Right a b c d) (a2 : Option Addr) (m c2 : Nat) (hM : m ≤ 9223372036854775807) (hm : grt a b c d ∨ 60 < m) (w : World) (hS : SpansAt w) :
    Calls Tryd.prog 5 #[.agg #[.int .i64 a, .int .i64 b, .int .i64 c, .int .i64 d], .slice a2 m c2] w fun e w' => e = .returned (.bool true) ∧ Below w.heap.size w w' := by
  by_cases hg : grt a b c d
  · clear hm
    have HB0 := Lib.hid (below_new w (.cells #[.int .i64 a, .int .i64 b, .int .i64 c, .int .i64 d] 23))
    have HX0 := Lib.hid (BoxAt.new w a b c d 23)
    have HS := Lib.hid hS
    clear hS
    obtain ⟨x0, x1, x2, x3⟩ := HX0.out
    have HG := Lib.hid (great_yes a b c d hg)
    have HN := Lib.hid (New_yes a b c d hr)
    clear hg hr
    go_enter Tryd.func5, Tryd.ntmps5
    go_wp2_with fail
    refine (awake_c _ (HS.out.below HB0.out)).mono ?_
    rintro e W1 ⟨rfl, hW⟩
    have HB1 := Lib.hid (belowOn HB0.out hW)
    have HX1 := Lib.hid (HX0.out.below hW)
    clear hW HB0 HX0 x0 x1 x2 x3
    obtain ⟨x0, x1, x2, x3⟩ := HX1.out
    go_wp2_with fail
    refine (HN.out _ (HS.out.below HB1.out)).mono ?_
    rintro e W2 ⟨n, hn, H, A, G, rfl, hF, hW, l1, l2, l3⟩
    have HB2 := Lib.hid (belowOn HB1.out hW)
    have HX2 := Lib.hid (HX1.out.below hW)
    clear hW HB1 HX1 x0 x1 x2 x3
    obtain ⟨x0, x1, x2, x3⟩ := HX2.out
    go_wp2_with fail
    refine (HG.out _).mono ?_
    rintro e W3 ⟨rfl, hW⟩
    have HB3 := Lib.hid (belowOn HB2.out hW)
    have HX3 := Lib.hid (HX2.out.below hW)
    clear hW HB2 HX2 x0 x1 x2 x3
    obtain ⟨x0, x1, x2, x3⟩ := HX3.out
    go_wp2_with fail
    go_ret
    exact ⟨rfl, HB3.out⟩
  · have hm : 60 < m := hm.resolve_left hg
    have HB0 := Lib.hid (below_new w (.cells #[.int .i64 a, .int .i64 b, .int .i64 c, .int .i64 d] 23))
    have HX0 := Lib.hid (BoxAt.new w a b c d 23)
    have HS := Lib.hid hS
    clear hS
    obtain ⟨x0, x1, x2, x3⟩ := HX0.out
    have HG := Lib.hid (great_no a b c d hg)
    have HN := Lib.hid (New_yes a b c d hr)
    clear hg hr
    go_enter Tryd.func5, Tryd.ntmps5
    go_wp2_with fail
    refine (awake_c _ (HS.out.below HB0.out)).mono ?_
    rintro e W1 ⟨rfl, hW⟩
    have HB1 := Lib.hid (belowOn HB0.out hW)
    have HX1 := Lib.hid (HX0.out.below hW)
    clear hW HB0 HX0 x0 x1 x2 x3
    obtain ⟨x0, x1, x2, x3⟩ := HX1.out
    go_wp2_with fail
    refine (HN.out _ (HS.out.below HB1.out)).mono ?_
    rintro e W2 ⟨n, hn, H, A, G, rfl, hF, hW, l1, l2, l3⟩
    have HB2 := Lib.hid (belowOn HB1.out hW)
    have HX2 := Lib.hid (HX1.out.below hW)
    clear hW HB1 HX1 x0 x1 x2 x3
    obtain ⟨x0, x1, x2, x3⟩ := HX2.out
    go_wp2_with fail
    refine (HG.out _).mono ?_
    rintro e W3 ⟨rfl, hW⟩
    have HB3 := Lib.hid (belowOn HB2.out hW)
    have HX3 := Lib.hid (HX2.out.below hW)
    clear hW HB2 HX2 x0 x1 x2 x3
    obtain ⟨x0, x1, x2, x3⟩ := HX3.out
    go_wp2_with fail
    go_ret
    exact ⟨rfl, HB3.out⟩
end Go.Proofs.YtoojiaaooccknaaDoor
