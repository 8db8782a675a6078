/- Laid together: LispSt, LispMem, LispSet, LispLd. -/
import Derived.Test.YtbpkdihonemogaaGreatDoorM7
import Derived.Test.YtbpkdihonemogaaGreatDoorM4
/- The steps of layer 14's own lines. -/
namespace Go.Proofs.YtbpkdihonemogaaGreatDoor
open Go Go.RowKit
set_option maxRecDepth 100000

theorem st10 (C : Cf) (m : Int) (f : Nat → Int) (q1 q2 q3 q4 m1 m2 m3 m4 m5 p bk rt : Int)  : Stp C m f ⟨10, q1, q2, q3, q4, m1, m2, m3, m4, m5, p, bk, rt⟩ (wordsQ C.n f 2 (regP C.a C.b C.c C.d m q2) (atomW q3) 0) ⟨90, q1, q2, q3, q4, m1, m2, m3, m4, m5, p, bk, 1⟩ true false := by
  intro s hs
  refine ⟨s.clr.act C 2 (regP C.a C.b C.c C.d m q2) (atomW q3) 0, ?_, ?_⟩
  · subst hs
    simp [lispS, isGate, isTick, isPop, isBar, ownS, Dy.clr]
  · show wordsQ C.n s.f 2 _ _ 0 = _; rw [hs]
theorem st11 (C : Cf) (m : Int) (f : Nat → Int) (q1 q2 q3 q4 m1 m2 m3 m4 m5 p bk rt : Int)  : Stp C m f ⟨11, q1, q2, q3, q4, m1, m2, m3, m4, m5, p, bk, rt⟩ f ⟨12, q1, q2, q3, q4, (z5 C.n 1 (regP C.a C.b C.c C.d m q3) (f (regP C.a C.b C.c C.d m q3).toNat)), m2, m3, m4, m5, p, bk, rt⟩ false false := by
  intro s hs
  refine ⟨s.clr.act C 1 (regP C.a C.b C.c C.d m q3) 0 0, ?_, ?_⟩
  · subst hs
    simp [lispS, isGate, isTick, isPop, isBar, ownS, ldP, Dy.clr]
  · show wordsQ C.n s.f 1 _ 0 0 = f; rw [words_load, hs]
theorem st12 (C : Cf) (m : Int) (f : Nat → Int) (q1 q2 q3 q4 m1 m2 m3 m4 m5 p bk rt : Int)  : Stp C m f ⟨12, q1, q2, q3, q4, m1, m2, m3, m4, m5, p, bk, rt⟩ (wordsQ C.n f 2 (regP C.a C.b C.c C.d m q2) m1 0) (begM ⟨12, q1, q2, q3, q4, m1, m2, m3, m4, m5, p, bk, 1⟩ m1 90) true false := by
  intro s hs
  refine ⟨s.clr.act C 2 (regP C.a C.b C.c C.d m q2) m1 0, ?_, ?_⟩
  · subst hs
    simp [lispS, isGate, isTick, isPop, isBar, ownS, Dy.clr, begM]
  · show wordsQ C.n s.f 2 _ _ 0 = _; rw [hs]
theorem st13y (C : Cf) (m : Int) (f : Nat → Int) (q1 q2 q3 q4 m1 m2 m3 m4 m5 p bk rt : Int) (hc : isC (z5 C.n 1 (regP C.a C.b C.c C.d m q3) (f (regP C.a C.b C.c C.d m q3).toNat)).toNat) : Stp C m f ⟨13, q1, q2, q3, q4, m1, m2, m3, m4, m5, p, bk, rt⟩ f ⟨14, q1, q2, q3, q4, (z5 C.n 1 (regP C.a C.b C.c C.d m q3) (f (regP C.a C.b C.c C.d m q3).toNat)), m2, m3, m4, m5, p, bk, rt⟩ false false := by
  intro s hs
  refine ⟨s.clr.act C 1 (regP C.a C.b C.c C.d m q3) 0 0, ?_, ?_⟩
  · subst hs
    simp [lispS, isGate, isTick, isPop, isBar, ownS, ldP, Dy.clr, hc]
  · show wordsQ C.n s.f 1 _ 0 0 = f; rw [words_load, hs]
theorem st13n (C : Cf) (m : Int) (f : Nat → Int) (q1 q2 q3 q4 m1 m2 m3 m4 m5 p bk rt : Int) (hc : ¬ isC (z5 C.n 1 (regP C.a C.b C.c C.d m q3) (f (regP C.a C.b C.c C.d m q3).toNat)).toNat) : Stp C m f ⟨13, q1, q2, q3, q4, m1, m2, m3, m4, m5, p, bk, rt⟩ f ⟨90, q1, q2, q3, q4, (z5 C.n 1 (regP C.a C.b C.c C.d m q3) (f (regP C.a C.b C.c C.d m q3).toNat)), m2, m3, m4, m5, p, bk, 4⟩ true false := by
  intro s hs
  refine ⟨s.clr.act C 1 (regP C.a C.b C.c C.d m q3) 0 0, ?_, ?_⟩
  · subst hs
    simp [lispS, isGate, isTick, isPop, isBar, ownS, ldP, Dy.clr, hc]
  · show wordsQ C.n s.f 1 _ 0 0 = f; rw [words_load, hs]
theorem st14 (C : Cf) (m : Int) (f : Nat → Int) (q1 q2 q3 q4 m1 m2 m3 m4 m5 p bk rt : Int)  : Stp C m f ⟨14, q1, q2, q3, q4, m1, m2, m3, m4, m5, p, bk, rt⟩ f ⟨15, q1, q2, q3, q4, m1, (z5 C.n 1 (fieldP C.a C.b C.c C.d m1.toNat (partK q1)) (f (fieldP C.a C.b C.c C.d m1.toNat (partK q1)).toNat)), m3, m4, m5, p, bk, rt⟩ true false := by
  intro s hs
  refine ⟨s.clr.act C 1 (fieldP C.a C.b C.c C.d m1.toNat (partK q1)) 0 0, ?_, ?_⟩
  · subst hs
    simp [lispS, isGate, isTick, isPop, isBar, ownS, ldP, Dy.clr]
  · show wordsQ C.n s.f 1 _ 0 0 = f; rw [words_load, hs]
theorem st15 (C : Cf) (m : Int) (f : Nat → Int) (q1 q2 q3 q4 m1 m2 m3 m4 m5 p bk rt : Int)  : Stp C m f ⟨15, q1, q2, q3, q4, m1, m2, m3, m4, m5, p, bk, rt⟩ (wordsQ C.n f 2 (regP C.a C.b C.c C.d m q2) m2 0) (begM ⟨15, q1, q2, q3, q4, m1, m2, m3, m4, m5, p, bk, 1⟩ m2 90) false false := by
  intro s hs
  refine ⟨s.clr.act C 2 (regP C.a C.b C.c C.d m q2) m2 0, ?_, ?_⟩
  · subst hs
    simp [lispS, isGate, isTick, isPop, isBar, ownS, Dy.clr, begM]
  · show wordsQ C.n s.f 2 _ _ 0 = _; rw [hs]
theorem st16y (C : Cf) (m : Int) (f : Nat → Int) (q1 q2 q3 q4 m1 m2 m3 m4 m5 p bk rt : Int) (hc : isC (z5 C.n 1 (regP C.a C.b C.c C.d m q2) (f (regP C.a C.b C.c C.d m q2).toNat)).toNat) : Stp C m f ⟨16, q1, q2, q3, q4, m1, m2, m3, m4, m5, p, bk, rt⟩ f ⟨17, q1, q2, q3, q4, (z5 C.n 1 (regP C.a C.b C.c C.d m q2) (f (regP C.a C.b C.c C.d m q2).toNat)), m2, m3, m4, m5, p, bk, rt⟩ false false := by
  intro s hs
  refine ⟨s.clr.act C 1 (regP C.a C.b C.c C.d m q2) 0 0, ?_, ?_⟩
  · subst hs
    simp [lispS, isGate, isTick, isPop, isBar, ownS, ldP, Dy.clr, hc]
  · show wordsQ C.n s.f 1 _ 0 0 = f; rw [words_load, hs]
theorem st16n (C : Cf) (m : Int) (f : Nat → Int) (q1 q2 q3 q4 m1 m2 m3 m4 m5 p bk rt : Int) (hc : ¬ isC (z5 C.n 1 (regP C.a C.b C.c C.d m q2) (f (regP C.a C.b C.c C.d m q2).toNat)).toNat) : Stp C m f ⟨16, q1, q2, q3, q4, m1, m2, m3, m4, m5, p, bk, rt⟩ f ⟨90, q1, q2, q3, q4, (z5 C.n 1 (regP C.a C.b C.c C.d m q2) (f (regP C.a C.b C.c C.d m q2).toNat)), m2, m3, m4, m5, p, bk, 4⟩ true false := by
  intro s hs
  refine ⟨s.clr.act C 1 (regP C.a C.b C.c C.d m q2) 0 0, ?_, ?_⟩
  · subst hs
    simp [lispS, isGate, isTick, isPop, isBar, ownS, ldP, Dy.clr, hc]
  · show wordsQ C.n s.f 1 _ 0 0 = f; rw [words_load, hs]
theorem st17 (C : Cf) (m : Int) (f : Nat → Int) (q1 q2 q3 q4 m1 m2 m3 m4 m5 p bk rt : Int)  : Stp C m f ⟨17, q1, q2, q3, q4, m1, m2, m3, m4, m5, p, bk, rt⟩ f ⟨18, q1, q2, q3, q4, m1, (z5 C.n 1 (regP C.a C.b C.c C.d m q3) (f (regP C.a C.b C.c C.d m q3).toNat)), m3, m4, m5, p, bk, rt⟩ false false := by
  intro s hs
  refine ⟨s.clr.act C 1 (regP C.a C.b C.c C.d m q3) 0 0, ?_, ?_⟩
  · subst hs
    simp [lispS, isGate, isTick, isPop, isBar, ownS, ldP, Dy.clr]
  · show wordsQ C.n s.f 1 _ 0 0 = f; rw [words_load, hs]
theorem st18 (C : Cf) (m : Int) (f : Nat → Int) (q1 q2 q3 q4 m1 m2 m3 m4 m5 p bk rt : Int)  : Stp C m f ⟨18, q1, q2, q3, q4, m1, m2, m3, m4, m5, p, bk, rt⟩ (wordsQ C.n f 2 (fieldP C.a C.b C.c C.d m1.toNat (partK q1)) m2 0) (begM ⟨18, q1, q2, q3, q4, m1, m2, m3, m4, m5, p, bk, 1⟩ m2 90) true false := by
  intro s hs
  refine ⟨s.clr.act C 2 (fieldP C.a C.b C.c C.d m1.toNat (partK q1)) m2 0, ?_, ?_⟩
  · subst hs
    simp [lispS, isGate, isTick, isPop, isBar, ownS, Dy.clr, begM]
  · show wordsQ C.n s.f 2 _ _ 0 = _; rw [hs]
theorem st19 (C : Cf) (m : Int) (f : Nat → Int) (q1 q2 q3 q4 m1 m2 m3 m4 m5 p bk rt : Int)  : Stp C m f ⟨19, q1, q2, q3, q4, m1, m2, m3, m4, m5, p, bk, rt⟩ f ⟨15, q1, q2, q3, q4, m1, (z5 C.n 1 (globP C.a C.b C.c C.d q3) (f (globP C.a C.b C.c C.d q3).toNat)), m3, m4, m5, p, bk, rt⟩ true false := by
  intro s hs
  refine ⟨s.clr.act C 1 (globP C.a C.b C.c C.d q3) 0 0, ?_, ?_⟩
  · subst hs
    simp [lispS, isGate, isTick, isPop, isBar, ownS, ldP, Dy.clr]
  · show wordsQ C.n s.f 1 _ 0 0 = f; rw [words_load, hs]
theorem st20 (C : Cf) (m : Int) (f : Nat → Int) (q1 q2 q3 q4 m1 m2 m3 m4 m5 p bk rt : Int)  : Stp C m f ⟨20, q1, q2, q3, q4, m1, m2, m3, m4, m5, p, bk, rt⟩ f ⟨21, q1, q2, q3, q4, m1, (z5 C.n 1 (regP C.a C.b C.c C.d m q3) (f (regP C.a C.b C.c C.d m q3).toNat)), m3, m4, m5, p, bk, rt⟩ false false := by
  intro s hs
  refine ⟨s.clr.act C 1 (regP C.a C.b C.c C.d m q3) 0 0, ?_, ?_⟩
  · subst hs
    simp [lispS, isGate, isTick, isPop, isBar, ownS, ldP, Dy.clr]
  · show wordsQ C.n s.f 1 _ 0 0 = f; rw [words_load, hs]
theorem st21 (C : Cf) (m : Int) (f : Nat → Int) (q1 q2 q3 q4 m1 m2 m3 m4 m5 p bk rt : Int)  : Stp C m f ⟨21, q1, q2, q3, q4, m1, m2, m3, m4, m5, p, bk, rt⟩ (wordsQ C.n f 2 (globP C.a C.b C.c C.d q2) m2 0) (begM ⟨21, q1, q2, q3, q4, m1, m2, m3, m4, m5, p, bk, 1⟩ m2 90) true false := by
  intro s hs
  refine ⟨s.clr.act C 2 (globP C.a C.b C.c C.d q2) m2 0, ?_, ?_⟩
  · subst hs
    simp [lispS, isGate, isTick, isPop, isBar, ownS, Dy.clr, begM]
  · show wordsQ C.n s.f 2 _ _ 0 = _; rw [hs]
theorem st22 (C : Cf) (m : Int) (f : Nat → Int) (q1 q2 q3 q4 m1 m2 m3 m4 m5 p bk rt : Int)  : Stp C m f ⟨22, q1, q2, q3, q4, m1, m2, m3, m4, m5, p, bk, rt⟩ f ⟨23, q1, q2, q3, q4, (z5 C.n 1 (regP C.a C.b C.c C.d m q2) (f (regP C.a C.b C.c C.d m q2).toNat)), m2, m3, m4, m5, p, bk, rt⟩ false false := by
  intro s hs
  refine ⟨s.clr.act C 1 (regP C.a C.b C.c C.d m q2) 0 0, ?_, ?_⟩
  · subst hs
    simp [lispS, isGate, isTick, isPop, isBar, ownS, ldP, Dy.clr]
  · show wordsQ C.n s.f 1 _ 0 0 = f; rw [words_load, hs]
theorem st23 (C : Cf) (m : Int) (f : Nat → Int) (q1 q2 q3 q4 m1 m2 m3 m4 m5 p bk rt : Int)  : Stp C m f ⟨23, q1, q2, q3, q4, m1, m2, m3, m4, m5, p, bk, rt⟩ f ⟨90, q1, q2, q3, q4, m1, (z5 C.n 1 (regP C.a C.b C.c C.d m q3) (f (regP C.a C.b C.c C.d m q3).toNat)), m3, m4, m5, p, bk, (if m1 = (z5 C.n 1 (regP C.a C.b C.c C.d m q3) (f (regP C.a C.b C.c C.d m q3).toNat)) then 2 else 3)⟩ true false := by
  intro s hs
  refine ⟨s.clr.act C 1 (regP C.a C.b C.c C.d m q3) 0 0, ?_, ?_⟩
  · subst hs
    simp [lispS, isGate, isTick, isPop, isBar, ownS, ldP, Dy.clr]; rfl
  · show wordsQ C.n s.f 1 _ 0 0 = f; rw [words_load, hs]
theorem st24 (C : Cf) (m : Int) (f : Nat → Int) (q1 q2 q3 q4 m1 m2 m3 m4 m5 p bk rt : Int)  : Stp C m f ⟨24, q1, q2, q3, q4, m1, m2, m3, m4, m5, p, bk, rt⟩ f ⟨90, q1, q2, q3, q4, (z5 C.n 1 (regP C.a C.b C.c C.d m q2) (f (regP C.a C.b C.c C.d m q2).toNat)), m2, m3, m4, m5, p, bk, (if isC (z5 C.n 1 (regP C.a C.b C.c C.d m q2) (f (regP C.a C.b C.c C.d m q2).toNat)).toNat then 3 else 2)⟩ true false := by
  intro s hs
  refine ⟨s.clr.act C 1 (regP C.a C.b C.c C.d m q2) 0 0, ?_, ?_⟩
  · subst hs
    simp [lispS, isGate, isTick, isPop, isBar, ownS, ldP, Dy.clr]; rfl
  · show wordsQ C.n s.f 1 _ 0 0 = f; rw [words_load, hs]
theorem st30 (C : Cf) (m : Int) (f : Nat → Int) (q1 q2 q3 q4 m1 m2 m3 m4 m5 p bk rt : Int)  : Stp C m f ⟨30, q1, q2, q3, q4, m1, m2, m3, m4, m5, p, bk, rt⟩ f ⟨31, q1, q2, q3, q4, (z5 C.n 1 (regP C.a C.b C.c C.d m q3) (f (regP C.a C.b C.c C.d m q3).toNat)), m2, m3, m4, m5, p, bk, rt⟩ false false := by
  intro s hs
  refine ⟨s.clr.act C 1 (regP C.a C.b C.c C.d m q3) 0 0, ?_, ?_⟩
  · subst hs
    simp [lispS, isGate, isTick, isPop, isBar, ownS, ldP, Dy.clr]
  · show wordsQ C.n s.f 1 _ 0 0 = f; rw [words_load, hs]
theorem st31 (C : Cf) (m : Int) (f : Nat → Int) (q1 q2 q3 q4 m1 m2 m3 m4 m5 p bk rt : Int)  : Stp C m f ⟨31, q1, q2, q3, q4, m1, m2, m3, m4, m5, p, bk, rt⟩ f ⟨32, q1, q2, q3, q4, m1, (z5 C.n 1 (regP C.a C.b C.c C.d m q4) (f (regP C.a C.b C.c C.d m q4).toNat)), m3, m4, m5, p, bk, rt⟩ false false := by
  intro s hs
  refine ⟨s.clr.act C 1 (regP C.a C.b C.c C.d m q4) 0 0, ?_, ?_⟩
  · subst hs
    simp [lispS, isGate, isTick, isPop, isBar, ownS, ldP, Dy.clr]
  · show wordsQ C.n s.f 1 _ 0 0 = f; rw [words_load, hs]
theorem st38 (C : Cf) (m : Int) (f : Nat → Int) (q1 q2 q3 q4 m1 m2 m3 m4 m5 p bk rt : Int)  : Stp C m f ⟨38, q1, q2, q3, q4, m1, m2, m3, m4, m5, p, bk, rt⟩ (wordsQ C.n f 2 (fieldP C.a C.b C.c C.d m3.toNat 0) m1 0) (begM ⟨38, q1, q2, q3, q4, m1, m2, m3, m4, m5, p, bk, rt⟩ m1 39) false false := by
  intro s hs
  refine ⟨s.clr.act C 2 (fieldP C.a C.b C.c C.d m3.toNat 0) m1 0, ?_, ?_⟩
  · subst hs
    simp [lispS, isGate, isTick, isPop, isBar, ownS, Dy.clr, begM]
  · show wordsQ C.n s.f 2 _ _ 0 = _; rw [hs]
theorem st39 (C : Cf) (m : Int) (f : Nat → Int) (q1 q2 q3 q4 m1 m2 m3 m4 m5 p bk rt : Int)  : Stp C m f ⟨39, q1, q2, q3, q4, m1, m2, m3, m4, m5, p, bk, rt⟩ (wordsQ C.n f 2 (fieldP C.a C.b C.c C.d m3.toNat 1) m2 0) (begM ⟨39, q1, q2, q3, q4, m1, m2, m3, m4, m5, p, bk, rt⟩ m2 40) false false := by
  intro s hs
  refine ⟨s.clr.act C 2 (fieldP C.a C.b C.c C.d m3.toNat 1) m2 0, ?_, ?_⟩
  · subst hs
    simp [lispS, isGate, isTick, isPop, isBar, ownS, Dy.clr, begM]
  · show wordsQ C.n s.f 2 _ _ 0 = _; rw [hs]
theorem st40 (C : Cf) (m : Int) (f : Nat → Int) (q1 q2 q3 q4 m1 m2 m3 m4 m5 p bk rt : Int)  : Stp C m f ⟨40, q1, q2, q3, q4, m1, m2, m3, m4, m5, p, bk, rt⟩ (wordsQ C.n f 2 (regP C.a C.b C.c C.d m q2) m3 0) (begM ⟨40, q1, q2, q3, q4, m1, m2, m3, m4, m5, p, bk, 1⟩ m3 90) false false := by
  intro s hs
  refine ⟨s.clr.act C 2 (regP C.a C.b C.c C.d m q2) m3 0, ?_, ?_⟩
  · subst hs
    simp [lispS, isGate, isTick, isPop, isBar, ownS, Dy.clr, begM]
  · show wordsQ C.n s.f 2 _ _ 0 = _; rw [hs]
end Go.Proofs.YtbpkdihonemogaaGreatDoor
/- Memory beside the ideal store, without memory: what lies at which place, what stores and shading make of it. -/
namespace Go.Proofs.YtbpkdihonemogaaGreatDoor
open Go Go.RowKit
set_option maxRecDepth 100000

/-- Nothing but ins, colours and dirty may have turned. -/
def Near (C : Cf) (f f' : Nat → Int) : Prop := ∀ j : Nat, (spotF C.b C.c C.d j).1 ≠ 1 → (spotF C.b C.c C.d j).1 ≠ 6 → j ≠ 2 → f' j = f j
theorem Near.refl (C : Cf) (f : Nat → Int) : Near C f f := fun _ _ _ _ => rfl
theorem Near.trans {C : Cf} {f g h : Nat → Int} (h1 : Near C f g) (h2 : Near C g h) : Near C f h := fun j a b c => (h2 j a b c).trans (h1 j a b c)
theorem near_in {C : Cf} (hC : CfOK C) (f : Nat → Int) (m x : Int) : Near C f (wordsQ C.n f 4 (inP C.a C.b C.c C.d m) x 0) := by
  intro j h1 _ _
  unfold wordsQ
  by_cases ho : okD C.n 4 (inP C.a C.b C.c C.d m)
  · rw [if_pos ho]
    show upd f _ _ j = f j
    by_cases hm : 0 ≤ m ∧ m < C.b
    · have e := inP_in hC.right m hm.1 hm.2
      unfold upd
      rw [if_neg]
      intro e2
      apply h1
      rw [e2, e]
      have hr := hC.right
      unfold Right at hr
      rw [spot_in (by omega) (by omega)]
    · have e : inP C.a C.b C.c C.d m = -1 := by unfold inP; rw [if_neg (fun h => hm h.1)]
      unfold okD at ho
      omega
  · rw [if_neg ho]
theorem near_cas {C : Cf} (hC : CfOK C) (f : Nat → Int) (v : Nat) : Near C f (wordsQ C.n f 3 (fieldP C.a C.b C.c C.d v 2) 0 1) := by
  intro j _ h6 _
  unfold wordsQ
  by_cases ho : okD C.n 3 (fieldP C.a C.b C.c C.d v 2)
  · rw [if_pos ho]
    show (if f _ = 0 then upd f _ 1 else f) j = f j
    by_cases h0 : f (fieldP C.a C.b C.c C.d v 2).toNat = 0
    · rw [if_pos h0]
      unfold upd
      rw [if_neg]
      intro e2
      apply h6
      unfold fieldP at e2 ho
      by_cases hc : isC v ∧ (0 : Int) ≤ 2 ∧ (2 : Int) ≤ 2
      · rw [if_pos hc] at e2 ho
        by_cases hi : ((v / 2 : Nat) : Int) < C.a
        · rw [e2, (sp_part hC (k := 2) (by omega) hi (by omega) (by omega)).1]; rfl
        · have e : partP C.a C.b C.c C.d 2 ((v / 2 : Nat) : Int) = -1 := by unfold partP; rw [if_neg (fun h => hi h.1.2)]
          rw [e] at ho; unfold okD at ho; omega
      · rw [if_neg hc] at ho; unfold okD at ho; omega
    · rw [if_neg h0]
  · rw [if_neg ho]
theorem near_dirty {C : Cf} (f : Nat → Int) : Near C f (wordsQ C.n f 2 2 1 0) := by
  intro j _ _ h2
  unfold wordsQ
  by_cases ho : okD C.n 2 2
  · rw [if_pos ho]
    show upd f _ _ j = f j
    unfold upd
    rw [if_neg (show ¬ j = Int.toNat 2 from h2)]
  · rw [if_neg ho]
/-- What is behind shading is nearly what was ahead of it. -/
theorem Fin14.shade {C : Cf} (hC : CfOK C) {m : Int} {J : Nat} {l : Int} {f : Nat → Int} {Q : (Nat → Int) → Mu → Prop} (x : Mu) (w : Int) (k : Int) (hk : k ≠ 0) (h : ∀ f', Near C f f' → Fin14 C m J l f' { x with l := k, p := 0, bk := 0 } Q) : Fin14 C m (J + 2) l f (begM x w k) Q := by
  obtain ⟨xl, q1, q2, q3, q4, m1, m2, m3, m4, m5, p, bk, rt⟩ := x
  unfold begM begL begP begB
  generalize w.toNat = v at *
  by_cases hc : isC v
  · rw [if_pos hc, if_pos hc, if_pos hc]
    have hk0 : (k == 0) = false := by simpa using hk
    by_cases hcas : casB C.n f (fieldP C.a C.b C.c C.d v 2) 0 = true
    · have s1 : Stp C m f ⟨80, q1, q2, q3, q4, m1, m2, m3, m4, m5, (v : Int), k, rt⟩ (wordsQ C.n f 3 (fieldP C.a C.b C.c C.d v 2) 0 1) ⟨81, q1, q2, q3, q4, m1, m2, m3, m4, m5, 0, k, rt⟩ false false := by
        intro s hs
        subst hs
        refine ⟨s.clr.act C 3 (fieldP C.a C.b C.c C.d v 2) 0 1, ?_, rfl⟩
        simp [lispS, isGate, isTick, isPop, isBar, barS, Dy.clr, hcas]
      have s2 : Stp C m (wordsQ C.n f 3 (fieldP C.a C.b C.c C.d v 2) 0 1) ⟨81, q1, q2, q3, q4, m1, m2, m3, m4, m5, 0, k, rt⟩ (wordsQ C.n (wordsQ C.n f 3 (fieldP C.a C.b C.c C.d v 2) 0 1) 2 2 1 0) ⟨k, q1, q2, q3, q4, m1, m2, m3, m4, m5, 0, 0, rt⟩ false false := by
        intro s hs
        refine ⟨s.clr.act C 2 2 1 0, ?_, by rw [← hs]; rfl⟩
        simp [lispS, isGate, isTick, isPop, isBar, barS, Dy.clr, hk]
      exact .step s1 (.step s2 (h _ ((near_cas hC f _).trans (near_dirty _))))
    · have s1 : Stp C m f ⟨80, q1, q2, q3, q4, m1, m2, m3, m4, m5, (v : Int), k, rt⟩ (wordsQ C.n f 3 (fieldP C.a C.b C.c C.d v 2) 0 1) ⟨k, q1, q2, q3, q4, m1, m2, m3, m4, m5, 0, 0, rt⟩ false false := by
        intro s hs
        subst hs
        refine ⟨s.clr.act C 3 (fieldP C.a C.b C.c C.d v 2) 0 1, ?_, rfl⟩
        have hcas' : casB C.n s.f (fieldP C.a C.b C.c C.d v 2) 0 = false := by simpa using hcas
        simp [lispS, isGate, isTick, isPop, isBar, barS, Dy.clr, hcas', hk]
      exact (Fin14.step s1 (h _ (near_cas hC f _))).le (by omega)
  · rw [if_neg hc, if_neg hc, if_neg hc]
    exact (h f (Near.refl C f)).le (by omega)
theorem Fin14.leave {C : Cf} (hC : CfOK C) {m : Int} {f : Nat → Int} {Q : (Nat → Int) → Mu → Prop} (q1 q2 q3 q4 m1 m2 m3 m4 m5 p bk rt : Int) (h : ∀ f', Near C f f' → Q f' ⟨0, q1, q2, q3, q4, m1, m2, m3, m4, m5, p, bk, rt⟩) : Fin14 C m 1 0 f ⟨90, q1, q2, q3, q4, m1, m2, m3, m4, m5, p, bk, rt⟩ Q := by
  refine .last (f' := wordsQ C.n f 4 (inP C.a C.b C.c C.d m) 2 0) (x' := ⟨0, q1, q2, q3, q4, m1, m2, m3, m4, m5, p, bk, rt⟩) ?_ (h _ (near_in hC f m 2))
  intro s hs
  refine ⟨s.clr.act C 4 (inP C.a C.b C.c C.d m) 2 0, ?_, by rw [← hs]; rfl⟩
  simp [lispS, isGate, gateS, Dy.clr]
theorem firstL_ne (k : Int) : firstL k ≠ 0 := by unfold firstL; repeat' split
                                                 all_goals omega
theorem Fin14.enter {C : Cf} (hC : CfOK C) {m : Int} {J : Nat} {l : Int} {f : Nat → Int} {Q : (Nat → Int) → Mu → Prop} (hg : f 1 = 0) (q1 q2 q3 q4 : Int) (h : ∀ f', Near C f f' → Fin14 C m J l f' ⟨firstL q1, q1, q2, q3, q4, 0, 0, 0, 0, 0, 0, 0, 0⟩ Q) : Fin14 C m (J + 3) l f ⟨1, q1, q2, q3, q4, 0, 0, 0, 0, 0, 0, 0, 0⟩ Q := by
  have n1 := near_in hC f m 1
  have hz : 1 < C.n := by have := hC.right.prod; have h1 := hC.right; have h2 := hC.size; unfold Right at h1; omega
  generalize hf1 : wordsQ C.n f 4 (inP C.a C.b C.c C.d m) 1 0 = f1 at *
  have hg1 : f1 1 = 0 := by
    rw [n1 1 (by rw [sp_once _ _ _ (by omega)]; decide) (by rw [sp_once _ _ _ (by omega)]; decide) (by decide)]; exact hg
  have s1 : Stp C m f ⟨1, q1, q2, q3, q4, 0, 0, 0, 0, 0, 0, 0, 0⟩ f1 ⟨2, q1, q2, q3, q4, 0, 0, 0, 0, 0, 0, 0, 0⟩ false false := by
    intro s hs
    refine ⟨s.clr.act C 4 (inP C.a C.b C.c C.d m) 1 0, ?_, by rw [← hf1, ← hs]; rfl⟩
    simp [lispS, isGate, gateS, Dy.clr]
  have s2 : Stp C m f1 ⟨2, q1, q2, q3, q4, 0, 0, 0, 0, 0, 0, 0, 0⟩ f1 ⟨3, q1, q2, q3, q4, 0, 0, 0, 0, 0, 0, 0, 0⟩ false false := by
    intro s hs
    refine ⟨s.clr.act C 1 1 0 0, ?_, by show wordsQ C.n s.f 1 _ 0 0 = _; rw [words_load, hs]⟩
    have h0 : z5 C.n 1 1 (s.f 1) = 0 := by rw [z5_in _ (by omega) (by omega), hs]; exact hg1
    simp [lispS, isGate, gateS, Dy.clr, h0]
  have s3 : Stp C m f1 ⟨3, q1, q2, q3, q4, 0, 0, 0, 0, 0, 0, 0, 0⟩ (wordsQ C.n f1 4 (inP C.a C.b C.c C.d m) 1 0) ⟨firstL q1, q1, q2, q3, q4, 0, 0, 0, 0, 0, 0, 0, 0⟩ false false := by
    intro s hs
    refine ⟨s.clr.act C 4 (inP C.a C.b C.c C.d m) 1 0, ?_, by rw [← hs]; rfl⟩
    simp [lispS, isGate, gateS, Dy.clr, firstL_ne]
  exact .step s1 (.step s2 (.step s3 (h _ (n1.trans (near_in hC f1 m 1)))))
end Go.Proofs.YtbpkdihonemogaaGreatDoor
/- Memory that is the ideal store's, and what a store, or shading, makes of it. -/
namespace Go.Proofs.YtbpkdihonemogaaGreatDoor
open Go Go.RowKit
set_option maxRecDepth 100000

/-- Memory is the ideal store's, its cells at the places of their numbers; the free list are the cells from q on. -/
structure LMem (C : Cf) (f : Nat → Int) (σ : St) (q : Nat) : Prop where
  reg : ∀ i r : Int, 0 ≤ i → i < C.b → 0 ≤ r → r < C.c → f (regP C.a C.b C.c C.d i r).toNat = σ.g 0 i r
  glob : ∀ i : Int, 0 ≤ i → i < C.d → f (globP C.a C.b C.c C.d i).toNat = σ.g 1 i 0
  car : ∀ i : Nat, i < σ.n → f (partP C.a C.b C.c C.d 0 i).toNat = σ.g 2 i 0
  cdr : ∀ i : Nat, i < σ.n → f (partP C.a C.b C.c C.d 1 i).toNat = σ.g 3 i 0
  free : f 0 = 2 * (q : Int) + 1
  lt : (q : Int) < C.a
  le : σ.n ≤ q
  next : ∀ i : Nat, q ≤ i → (i : Int) + 1 < C.a → f (partP C.a C.b C.c C.d 1 i).toNat = 2 * ((i : Int) + 1) + 1
  last : ∀ i : Nat, q ≤ i → (i : Int) + 1 = C.a → f (partP C.a C.b C.c C.d 1 i).toNat = 0
  gate : f 1 = 0
theorem LMem.near {C : Cf} (hC : CfOK C) {f f' : Nat → Int} {σ : St} {q : Nat} (h : LMem C f σ q) (hn : Near C f f') : LMem C f' σ q := by
  have hlt := h.lt
  have hle := h.le
  have n2 : ∀ j : Nat, (spotF C.b C.c C.d j).1 ≠ 0 → j ≠ 2 := fun j e e2 => e (by rw [e2, sp_once _ _ _ (by omega)])
  refine ⟨fun i r a b c d => ?_, fun i a b => ?_, fun i a => ?_, fun i a => ?_, ?_, h.lt, h.le, fun i a b => ?_, fun i a b => ?_, ?_⟩
  · have e := (sp_reg hC a b c d).1
    rw [hn _ (by rw [e]; simp) (by rw [e]; simp) (n2 _ (by rw [e]; simp))]; exact h.reg i r a b c d
  · have e := (sp_glob hC a b).1
    rw [hn _ (by rw [e]; simp) (by rw [e]; simp) (n2 _ (by rw [e]; simp))]; exact h.glob i a b
  · have e := (sp_part hC (k := 0) (i := i) (by omega) (by omega) (by omega) (by omega)).1
    rw [hn _ (by rw [e]; simp) (by rw [e]; simp) (n2 _ (by rw [e]; simp))]; exact h.car i a
  · have e := (sp_part hC (k := 1) (i := i) (by omega) (by omega) (by omega) (by omega)).1
    rw [hn _ (by rw [e]; simp) (by rw [e]; simp) (n2 _ (by rw [e]; simp))]; exact h.cdr i a
  · rw [hn 0 (by rw [sp_once _ _ _ (by omega)]; decide) (by rw [sp_once _ _ _ (by omega)]; decide) (by decide)]; exact h.free
  · have e := (sp_part hC (k := 1) (i := i) (by omega) (by omega) (by omega) (by omega)).1
    rw [hn _ (by rw [e]; simp) (by rw [e]; simp) (n2 _ (by rw [e]; simp))]; exact h.next i a b
  · have e := (sp_part hC (k := 1) (i := i) (by omega) (by omega) (by omega) (by omega)).1
    rw [hn _ (by rw [e]; simp) (by rw [e]; simp) (n2 _ (by rw [e]; simp))]; exact h.last i a b
  · rw [hn 1 (by rw [sp_once _ _ _ (by omega)]; decide) (by rw [sp_once _ _ _ (by omega)]; decide) (by decide)]; exact h.gate
theorem Near.lock {C : Cf} {f f' : Nat → Int} (hn : Near C f f') {j : Nat} (h3 : j = 3 ∨ j = 4) : f' j = f j := by
  rcases h3 with rfl | rfl
  · exact hn 3 (by rw [sp_once _ _ _ (by omega)]; decide) (by rw [sp_once _ _ _ (by omega)]; decide) (by decide)
  · exact hn 4 (by rw [sp_once _ _ _ (by omega)]; decide) (by rw [sp_once _ _ _ (by omega)]; decide) (by decide)
theorem LMem.setReg {C : Cf} (hC : CfOK C) {f : Nat → Int} {σ : St} {q : Nat} (h : LMem C f σ q) {i r : Int} (h0 : 0 ≤ i) (h1 : i < C.b) (h2 : 0 ≤ r) (h3 : r < C.c) (w : Nat) : LMem C (upd f (regP C.a C.b C.c C.d i r).toNat (w : Int)) ⟨putG σ.g 0 i r w, σ.n⟩ q := by
  have hlt := h.lt
  have hle := h.le
  have hsp := (sp_reg hC h0 h1 h2 h3).1
  refine ⟨fun i' r' a b c d => ?_, fun i' a b => ?_, fun i' a => ?_, fun i' a => ?_, ?_, h.lt, h.le, fun i' a b => ?_, fun i' a b => ?_, ?_⟩
  · have hsp2 := (sp_reg hC a b c d).1
    by_cases e : i' = i ∧ r' = r
    · obtain ⟨rfl, rfl⟩ := e
      rw [upd_at]
      dsimp only
      rw [putG_same _ 0 i' r' w]
    · rw [upd_spot (b := C.b) (c := C.c) (d := C.d) (by rw [hsp, hsp2]; exact fun e2 => e (by simpa using e2)), h.reg i' r' a b c d]
      dsimp only
      rw [putG_other _ w (fun e2 => e ⟨e2.2.1, e2.2.2⟩)]
  · have hsp2 := (sp_glob hC a b).1
    rw [upd_spot (b := C.b) (c := C.c) (d := C.d) (by rw [hsp, hsp2]; intro e; have := congrArg (·.1) e; simp at this), h.glob i' a b]
    dsimp only
    rw [putG_kind _ w (by decide)]
  · have a : i' < σ.n := a
    have hsp2 := (sp_part hC (k := 0) (i := i') (by omega) (by omega) (by omega) (by omega)).1
    rw [upd_spot (b := C.b) (c := C.c) (d := C.d) (by rw [hsp, hsp2]; intro e; have := congrArg (·.1) e; simp at this), h.car i' a]
    dsimp only
    rw [putG_kind _ w (by decide)]
  · have a : i' < σ.n := a
    have hsp2 := (sp_part hC (k := 1) (i := i') (by omega) (by omega) (by omega) (by omega)).1
    rw [upd_spot (b := C.b) (c := C.c) (d := C.d) (by rw [hsp, hsp2]; intro e; have := congrArg (·.1) e; simp at this), h.cdr i' a]
    dsimp only
    rw [putG_kind _ w (by decide)]
  · rw [upd_spot (b := C.b) (c := C.c) (d := C.d) (by rw [hsp, sp_once _ _ _ (by omega)]; intro e; have := congrArg (·.1) e; simp at this)]; exact h.free
  · have hsp2 := (sp_part hC (k := 1) (i := i') (by omega) (by omega) (by omega) (by omega)).1
    rw [upd_spot (b := C.b) (c := C.c) (d := C.d) (by rw [hsp, hsp2]; intro e; have := congrArg (·.1) e; simp at this)]; exact h.next i' a b
  · have hsp2 := (sp_part hC (k := 1) (i := i') (by omega) (by omega) (by omega) (by omega)).1
    rw [upd_spot (b := C.b) (c := C.c) (d := C.d) (by rw [hsp, hsp2]; intro e; have := congrArg (·.1) e; simp at this)]; exact h.last i' a b
  · rw [upd_spot (b := C.b) (c := C.c) (d := C.d) (by rw [hsp, sp_once _ _ _ (by omega)]; intro e; have := congrArg (·.1) e; simp at this)]; exact h.gate
theorem lock_reg {C : Cf} (hC : CfOK C) (f : Nat → Int) {i r : Int} (h0 : 0 ≤ i) (h1 : i < C.b) (h2 : 0 ≤ r) (h3 : r < C.c) (w : Int) {j : Nat} (hj : j < 5) : upd f (regP C.a C.b C.c C.d i r).toNat w j = f j := by
  have hsp := (sp_reg hC h0 h1 h2 h3).1
  exact upd_spot (b := C.b) (c := C.c) (d := C.d) (by rw [hsp, sp_once _ _ _ hj]; intro e; have := congrArg (·.1) e; simp at this)
theorem LMem.setGlob {C : Cf} (hC : CfOK C) {f : Nat → Int} {σ : St} {q : Nat} (h : LMem C f σ q) {i : Int} (h0 : 0 ≤ i) (h1 : i < C.d) (w : Nat) : LMem C (upd f (globP C.a C.b C.c C.d i).toNat (w : Int)) ⟨putG σ.g 1 i 0 w, σ.n⟩ q := by
  have hlt := h.lt
  have hle := h.le
  have hsp := (sp_glob hC h0 h1).1
  refine ⟨fun i' r' a b c d => ?_, fun i' a b => ?_, fun i' a => ?_, fun i' a => ?_, ?_, h.lt, h.le, fun i' a b => ?_, fun i' a b => ?_, ?_⟩
  · have hsp2 := (sp_reg hC a b c d).1
    rw [upd_spot (b := C.b) (c := C.c) (d := C.d) (by rw [hsp, hsp2]; intro e; have := congrArg (·.1) e; simp at this), h.reg i' r' a b c d]
    dsimp only
    rw [putG_kind _ w (by decide)]
  · have hsp2 := (sp_glob hC a b).1
    by_cases e : i' = i
    · subst e
      rw [upd_at]
      dsimp only
      rw [putG_same _ 1 i' 0 w]
    · rw [upd_spot (b := C.b) (c := C.c) (d := C.d) (by rw [hsp, hsp2]; exact fun e2 => e (by simpa using e2)), h.glob i' a b]
      dsimp only
      rw [putG_other _ w (fun e2 => e e2.2.1)]
  · have a : i' < σ.n := a
    have hsp2 := (sp_part hC (k := 0) (i := i') (by omega) (by omega) (by omega) (by omega)).1
    rw [upd_spot (b := C.b) (c := C.c) (d := C.d) (by rw [hsp, hsp2]; intro e; have := congrArg (·.1) e; simp at this), h.car i' a]
    dsimp only
    rw [putG_kind _ w (by decide)]
  · have a : i' < σ.n := a
    have hsp2 := (sp_part hC (k := 1) (i := i') (by omega) (by omega) (by omega) (by omega)).1
    rw [upd_spot (b := C.b) (c := C.c) (d := C.d) (by rw [hsp, hsp2]; intro e; have := congrArg (·.1) e; simp at this), h.cdr i' a]
    dsimp only
    rw [putG_kind _ w (by decide)]
  · rw [upd_spot (b := C.b) (c := C.c) (d := C.d) (by rw [hsp, sp_once _ _ _ (by omega)]; intro e; have := congrArg (·.1) e; simp at this)]; exact h.free
  · have hsp2 := (sp_part hC (k := 1) (i := i') (by omega) (by omega) (by omega) (by omega)).1
    rw [upd_spot (b := C.b) (c := C.c) (d := C.d) (by rw [hsp, hsp2]; intro e; have := congrArg (·.1) e; simp at this)]; exact h.next i' a b
  · have hsp2 := (sp_part hC (k := 1) (i := i') (by omega) (by omega) (by omega) (by omega)).1
    rw [upd_spot (b := C.b) (c := C.c) (d := C.d) (by rw [hsp, hsp2]; intro e; have := congrArg (·.1) e; simp at this)]; exact h.last i' a b
  · rw [upd_spot (b := C.b) (c := C.c) (d := C.d) (by rw [hsp, sp_once _ _ _ (by omega)]; intro e; have := congrArg (·.1) e; simp at this)]; exact h.gate
theorem lock_glob {C : Cf} (hC : CfOK C) (f : Nat → Int) {i : Int} (h0 : 0 ≤ i) (h1 : i < C.d) (w : Int) {j : Nat} (hj : j < 5) : upd f (globP C.a C.b C.c C.d i).toNat w j = f j := by
  have hsp := (sp_glob hC h0 h1).1
  exact upd_spot (b := C.b) (c := C.c) (d := C.d) (by rw [hsp, sp_once _ _ _ hj]; intro e; have := congrArg (·.1) e; simp at this)
theorem LMem.setCar {C : Cf} (hC : CfOK C) {f : Nat → Int} {σ : St} {q : Nat} (h : LMem C f σ q) {i : Nat} (h0 : i < σ.n) (w : Nat) : LMem C (upd f (partP C.a C.b C.c C.d 0 i).toNat (w : Int)) ⟨putG σ.g 2 i 0 w, σ.n⟩ q := by
  have hlt := h.lt
  have hle := h.le
  have hsp := (sp_part hC (k := 0) (i := i) (by omega) (by omega) (by omega) (by omega)).1
  refine ⟨fun i' r' a b c d => ?_, fun i' a b => ?_, fun i' a => ?_, fun i' a => ?_, ?_, h.lt, h.le, fun i' a b => ?_, fun i' a b => ?_, ?_⟩
  · have hsp2 := (sp_reg hC a b c d).1
    rw [upd_spot (b := C.b) (c := C.c) (d := C.d) (by rw [hsp, hsp2]; intro e; have := congrArg (·.1) e; simp at this), h.reg i' r' a b c d]
    dsimp only
    rw [putG_kind _ w (by decide)]
  · have hsp2 := (sp_glob hC a b).1
    rw [upd_spot (b := C.b) (c := C.c) (d := C.d) (by rw [hsp, hsp2]; intro e; have := congrArg (·.1) e; simp at this), h.glob i' a b]
    dsimp only
    rw [putG_kind _ w (by decide)]
  · have a : i' < σ.n := a
    have hsp2 := (sp_part hC (k := 0) (i := i') (by omega) (by omega) (by omega) (by omega)).1
    by_cases e : i' = i
    · subst e
      rw [upd_at]
      dsimp only
      rw [putG_same _ 2 i' 0 w]
    · rw [upd_spot (b := C.b) (c := C.c) (d := C.d) (by rw [hsp, hsp2]; exact fun e2 => e (by have := congrArg (·.2.1) e2; simp at this; omega)), h.car i' a]
      dsimp only
      rw [putG_other _ w (fun e2 => e (by omega))]
  · have a : i' < σ.n := a
    have hsp2 := (sp_part hC (k := 1) (i := i') (by omega) (by omega) (by omega) (by omega)).1
    rw [upd_spot (b := C.b) (c := C.c) (d := C.d) (by rw [hsp, hsp2]; intro e; have := congrArg (·.1) e; simp at this), h.cdr i' a]
    dsimp only
    rw [putG_kind _ w (by decide)]
  · rw [upd_spot (b := C.b) (c := C.c) (d := C.d) (by rw [hsp, sp_once _ _ _ (by omega)]; intro e; have := congrArg (·.1) e; simp at this)]; exact h.free
  · have hsp2 := (sp_part hC (k := 1) (i := i') (by omega) (by omega) (by omega) (by omega)).1
    rw [upd_spot (b := C.b) (c := C.c) (d := C.d) (by rw [hsp, hsp2]; intro e; have := congrArg (·.1) e; simp at this)]; exact h.next i' a b
  · have hsp2 := (sp_part hC (k := 1) (i := i') (by omega) (by omega) (by omega) (by omega)).1
    rw [upd_spot (b := C.b) (c := C.c) (d := C.d) (by rw [hsp, hsp2]; intro e; have := congrArg (·.1) e; simp at this)]; exact h.last i' a b
  · rw [upd_spot (b := C.b) (c := C.c) (d := C.d) (by rw [hsp, sp_once _ _ _ (by omega)]; intro e; have := congrArg (·.1) e; simp at this)]; exact h.gate
theorem lock_car {C : Cf} (hC : CfOK C) (f : Nat → Int) {i : Nat} (h0 : (i : Int) < C.a) (w : Int) {j : Nat} (hj : j < 5) : upd f (partP C.a C.b C.c C.d 0 i).toNat w j = f j := by
  have hsp := (sp_part hC (k := 0) (i := i) (by omega) (by omega) (by omega) (by omega)).1
  exact upd_spot (b := C.b) (c := C.c) (d := C.d) (by rw [hsp, sp_once _ _ _ hj]; intro e; have := congrArg (·.1) e; simp at this)
theorem LMem.setCdr {C : Cf} (hC : CfOK C) {f : Nat → Int} {σ : St} {q : Nat} (h : LMem C f σ q) {i : Nat} (h0 : i < σ.n) (w : Nat) : LMem C (upd f (partP C.a C.b C.c C.d 1 i).toNat (w : Int)) ⟨putG σ.g 3 i 0 w, σ.n⟩ q := by
  have hlt := h.lt
  have hle := h.le
  have hsp := (sp_part hC (k := 1) (i := i) (by omega) (by omega) (by omega) (by omega)).1
  refine ⟨fun i' r' a b c d => ?_, fun i' a b => ?_, fun i' a => ?_, fun i' a => ?_, ?_, h.lt, h.le, fun i' a b => ?_, fun i' a b => ?_, ?_⟩
  · have hsp2 := (sp_reg hC a b c d).1
    rw [upd_spot (b := C.b) (c := C.c) (d := C.d) (by rw [hsp, hsp2]; intro e; have := congrArg (·.1) e; simp at this), h.reg i' r' a b c d]
    dsimp only
    rw [putG_kind _ w (by decide)]
  · have hsp2 := (sp_glob hC a b).1
    rw [upd_spot (b := C.b) (c := C.c) (d := C.d) (by rw [hsp, hsp2]; intro e; have := congrArg (·.1) e; simp at this), h.glob i' a b]
    dsimp only
    rw [putG_kind _ w (by decide)]
  · have a : i' < σ.n := a
    have hsp2 := (sp_part hC (k := 0) (i := i') (by omega) (by omega) (by omega) (by omega)).1
    rw [upd_spot (b := C.b) (c := C.c) (d := C.d) (by rw [hsp, hsp2]; intro e; have := congrArg (·.1) e; simp at this), h.car i' a]
    dsimp only
    rw [putG_kind _ w (by decide)]
  · have a : i' < σ.n := a
    have hsp2 := (sp_part hC (k := 1) (i := i') (by omega) (by omega) (by omega) (by omega)).1
    by_cases e : i' = i
    · subst e
      rw [upd_at]
      dsimp only
      rw [putG_same _ 3 i' 0 w]
    · rw [upd_spot (b := C.b) (c := C.c) (d := C.d) (by rw [hsp, hsp2]; exact fun e2 => e (by have := congrArg (·.2.1) e2; simp at this; omega)), h.cdr i' a]
      dsimp only
      rw [putG_other _ w (fun e2 => e (by omega))]
  · rw [upd_spot (b := C.b) (c := C.c) (d := C.d) (by rw [hsp, sp_once _ _ _ (by omega)]; intro e; have := congrArg (·.1) e; simp at this)]; exact h.free
  · have hsp2 := (sp_part hC (k := 1) (i := i') (by omega) (by omega) (by omega) (by omega)).1
    rw [upd_spot (b := C.b) (c := C.c) (d := C.d) (by rw [hsp, hsp2]; intro e; have := congrArg (·.2.1) e; simp at this; omega)]; exact h.next i' a b
  · have hsp2 := (sp_part hC (k := 1) (i := i') (by omega) (by omega) (by omega) (by omega)).1
    rw [upd_spot (b := C.b) (c := C.c) (d := C.d) (by rw [hsp, hsp2]; intro e; have := congrArg (·.2.1) e; simp at this; omega)]; exact h.last i' a b
  · rw [upd_spot (b := C.b) (c := C.c) (d := C.d) (by rw [hsp, sp_once _ _ _ (by omega)]; intro e; have := congrArg (·.1) e; simp at this)]; exact h.gate
theorem lock_cdr {C : Cf} (hC : CfOK C) (f : Nat → Int) {i : Nat} (h0 : (i : Int) < C.a) (w : Int) {j : Nat} (hj : j < 5) : upd f (partP C.a C.b C.c C.d 1 i).toNat w j = f j := by
  have hsp := (sp_part hC (k := 1) (i := i) (by omega) (by omega) (by omega) (by omega)).1
  exact upd_spot (b := C.b) (c := C.c) (d := C.d) (by rw [hsp, sp_once _ _ _ hj]; intro e; have := congrArg (·.1) e; simp at this)
end Go.Proofs.YtbpkdihonemogaaGreatDoor
/- Loads and stores beside the ideal store; a fresh cell; the steps of taking it. -/
namespace Go.Proofs.YtbpkdihonemogaaGreatDoor
open Go Go.RowKit
set_option maxRecDepth 100000

theorem ld_reg {C : Cf} (hC : CfOK C) {f : Nat → Int} {σ : St} {q : Nat} (h : LMem C f σ q) {i r : Int} (h0 : 0 ≤ i) (h1 : i < C.b) (h2 : 0 ≤ r) (h3 : r < C.c) : z5 C.n 1 (regP C.a C.b C.c C.d i r) (f (regP C.a C.b C.c C.d i r).toNat) = (σ.g 0 i r : Nat) := by
  obtain ⟨_, p0, p1⟩ := sp_reg hC h0 h1 h2 h3
  rw [z5_in _ (by omega) ⟨p0, p1⟩, h.reg i r h0 h1 h2 h3]
theorem ld_glob {C : Cf} (hC : CfOK C) {f : Nat → Int} {σ : St} {q : Nat} (h : LMem C f σ q) {i : Int} (h0 : 0 ≤ i) (h1 : i < C.d) : z5 C.n 1 (globP C.a C.b C.c C.d i) (f (globP C.a C.b C.c C.d i).toNat) = (σ.g 1 i 0 : Nat) := by
  obtain ⟨_, p0, p1⟩ := sp_glob hC h0 h1
  rw [z5_in _ (by omega) ⟨p0, p1⟩, h.glob i h0 h1]
theorem ld_part {C : Cf} (hC : CfOK C) {f : Nat → Int} {σ : St} {q : Nat} (h : LMem C f σ q) {i : Nat} (h0 : i < σ.n) (k : Int) (hk : k = 0 ∨ k = 1) : z5 C.n 1 (partP C.a C.b C.c C.d k i) (f (partP C.a C.b C.c C.d k i).toNat) = (σ.g (2 + k) i 0 : Nat) := by
  have hlt := h.lt
  have hle := h.le
  rcases hk with rfl | rfl
  · obtain ⟨_, p0, p1⟩ := sp_part hC (k := 0) (i := i) (by omega) (by omega) (by omega) (by omega)
    rw [z5_in _ (by omega) ⟨p0, p1⟩, h.car i h0]; rfl
  · obtain ⟨_, p0, p1⟩ := sp_part hC (k := 1) (i := i) (by omega) (by omega) (by omega) (by omega)
    rw [z5_in _ (by omega) ⟨p0, p1⟩, h.cdr i h0]; rfl
theorem store_reg {C : Cf} (hC : CfOK C) (f : Nat → Int) {i r : Int} (h0 : 0 ≤ i) (h1 : i < C.b) (h2 : 0 ≤ r) (h3 : r < C.c) (w : Int) : wordsQ C.n f 2 (regP C.a C.b C.c C.d i r) w 0 = upd f (regP C.a C.b C.c C.d i r).toNat w := by
  obtain ⟨_, p0, p1⟩ := sp_reg hC h0 h1 h2 h3
  exact words_store _ _ _ _ ⟨p0, p1⟩
theorem store_glob {C : Cf} (hC : CfOK C) (f : Nat → Int) {i : Int} (h0 : 0 ≤ i) (h1 : i < C.d) (w : Int) : wordsQ C.n f 2 (globP C.a C.b C.c C.d i) w 0 = upd f (globP C.a C.b C.c C.d i).toNat w := by
  obtain ⟨_, p0, p1⟩ := sp_glob hC h0 h1
  exact words_store _ _ _ _ ⟨p0, p1⟩
theorem store_part {C : Cf} (hC : CfOK C) (f : Nat → Int) {k : Int} {i : Nat} (hi : (i : Int) < C.a) (hk : k = 0 ∨ k = 1) (w : Int) : wordsQ C.n f 2 (partP C.a C.b C.c C.d k i) w 0 = upd f (partP C.a C.b C.c C.d k i).toNat w := by
  obtain ⟨_, p0, p1⟩ := sp_part hC (k := k) (i := i) (by omega) hi (by omega) (by omega)
  exact words_store _ _ _ _ ⟨p0, p1⟩
/-- A word of the store is a cell just if it is odd. -/
theorem word_isC {C : Cf} (hC : CfOK C) {f : Nat → Int} {σ : St} {q : Nat} (h : LMem C f σ q) (hI : Inv C.b.toNat C.c.toNat C.d.toNat σ) (k i j : Int) : isC (σ.g k i j) ↔ σ.g k i j % 2 = 1 := by
  have h1 := hI.odd k i j
  have h2 := h.lt
  have h3 := h.le
  have h4 := hC.a4
  unfold isC
  constructor
  · exact fun e => e.1
  · intro e
    exact ⟨e, by have := h1 e; omega⟩
/-- next and serve. -/
theorem LMem.once {C : Cf} (hC : CfOK C) {f : Nat → Int} {σ : St} {q : Nat} (h : LMem C f σ q) {j : Nat} (hj : j = 3 ∨ j = 4) (w : Int) : LMem C (upd f j w) σ q := by
  have hlt := h.lt
  have hle := h.le
  have hsp := sp_once C.b C.c C.d (j := j) (by omega)
  refine ⟨fun i r a b c d => ?_, fun i a b => ?_, fun i a => ?_, fun i a => ?_, ?_, h.lt, h.le, fun i a b => ?_, fun i a b => ?_, ?_⟩
  · rw [upd_spot (b := C.b) (c := C.c) (d := C.d) (by rw [hsp, (sp_reg hC a b c d).1]; simp)]; exact h.reg i r a b c d
  · rw [upd_spot (b := C.b) (c := C.c) (d := C.d) (by rw [hsp, (sp_glob hC a b).1]; simp)]; exact h.glob i a b
  · rw [upd_spot (b := C.b) (c := C.c) (d := C.d) (by rw [hsp, (sp_part hC (k := 0) (i := i) (by omega) (by omega) (by omega) (by omega)).1]; simp)]; exact h.car i a
  · rw [upd_spot (b := C.b) (c := C.c) (d := C.d) (by rw [hsp, (sp_part hC (k := 1) (i := i) (by omega) (by omega) (by omega) (by omega)).1]; simp)]; exact h.cdr i a
  · unfold upd; rw [if_neg (by omega)]; exact h.free
  · rw [upd_spot (b := C.b) (c := C.c) (d := C.d) (by rw [hsp, (sp_part hC (k := 1) (i := i) (by omega) (by omega) (by omega) (by omega)).1]; simp)]; exact h.next i a b
  · rw [upd_spot (b := C.b) (c := C.c) (d := C.d) (by rw [hsp, (sp_part hC (k := 1) (i := i) (by omega) (by omega) (by omega) (by omega)).1]; simp)]; exact h.last i a b
  · unfold upd; rw [if_neg (by omega)]; exact h.gate
/-- The first cell of the free list is taken. -/
theorem LMem.take {C : Cf} (hC : CfOK C) {f : Nat → Int} {σ : St} {q : Nat} (h : LMem C f σ q) (hq : (q : Int) + 1 < C.a) : LMem C (upd f 0 (2 * ((q : Int) + 1) + 1)) σ (q + 1) := by
  have hlt := h.lt
  have hle := h.le
  have hsp := sp_once C.b C.c C.d (j := 0) (by omega)
  refine ⟨fun i r a b c d => ?_, fun i a b => ?_, fun i a => ?_, fun i a => ?_, ?_, by omega, by omega, fun i a b => ?_, fun i a b => ?_, ?_⟩
  · rw [upd_spot (b := C.b) (c := C.c) (d := C.d) (by rw [hsp, (sp_reg hC a b c d).1]; simp)]; exact h.reg i r a b c d
  · rw [upd_spot (b := C.b) (c := C.c) (d := C.d) (by rw [hsp, (sp_glob hC a b).1]; simp)]; exact h.glob i a b
  · rw [upd_spot (b := C.b) (c := C.c) (d := C.d) (by rw [hsp, (sp_part hC (k := 0) (i := i) (by omega) (by omega) (by omega) (by omega)).1]; simp)]; exact h.car i a
  · rw [upd_spot (b := C.b) (c := C.c) (d := C.d) (by rw [hsp, (sp_part hC (k := 1) (i := i) (by omega) (by omega) (by omega) (by omega)).1]; simp)]; exact h.cdr i a
  · rw [upd_at]; omega
  · rw [upd_spot (b := C.b) (c := C.c) (d := C.d) (by rw [hsp, (sp_part hC (k := 1) (i := i) (by omega) (by omega) (by omega) (by omega)).1]; simp)]; exact h.next i (by omega) b
  · rw [upd_spot (b := C.b) (c := C.c) (d := C.d) (by rw [hsp, (sp_part hC (k := 1) (i := i) (by omega) (by omega) (by omega) (by omega)).1]; simp)]; exact h.last i (by omega) b
  · unfold upd; rw [if_neg (by omega)]; exact h.gate
/-- A store into a fresh cell. -/
theorem LMem.fresh {C : Cf} (hC : CfOK C) {f : Nat → Int} {σ : St} {q : Nat} (h : LMem C f σ q) {i k : Int} (h0 : (σ.n : Int) ≤ i) (h1 : i < q) (hk : k = 0 ∨ k = 1) (w : Int) : LMem C (upd f (partP C.a C.b C.c C.d k i).toNat w) σ q := by
  have hlt := h.lt
  have hle := h.le
  have hsp := (sp_part hC (k := k) (i := i) (by omega) (by omega) (by omega) (by omega)).1
  refine ⟨fun i' r a b c d => ?_, fun i' a b => ?_, fun i' a => ?_, fun i' a => ?_, ?_, h.lt, h.le, fun i' a b => ?_, fun i' a b => ?_, ?_⟩
  · rw [upd_spot (b := C.b) (c := C.c) (d := C.d) (by rw [hsp, (sp_reg hC a b c d).1]; intro e; have := congrArg (·.1) e; simp at this; omega)]; exact h.reg i' r a b c d
  · rw [upd_spot (b := C.b) (c := C.c) (d := C.d) (by rw [hsp, (sp_glob hC a b).1]; intro e; have := congrArg (·.1) e; simp at this; omega)]; exact h.glob i' a b
  · rw [upd_spot (b := C.b) (c := C.c) (d := C.d) (by rw [hsp, (sp_part hC (k := 0) (i := i') (by omega) (by omega) (by omega) (by omega)).1]; intro e; have := congrArg (·.2.1) e; simp at this; omega)]; exact h.car i' a
  · rw [upd_spot (b := C.b) (c := C.c) (d := C.d) (by rw [hsp, (sp_part hC (k := 1) (i := i') (by omega) (by omega) (by omega) (by omega)).1]; intro e; have := congrArg (·.2.1) e; simp at this; omega)]; exact h.cdr i' a
  · rw [upd_spot (b := C.b) (c := C.c) (d := C.d) (by rw [hsp, sp_once _ _ _ (by omega)]; intro e; have := congrArg (·.1) e; simp at this; omega)]; exact h.free
  · rw [upd_spot (b := C.b) (c := C.c) (d := C.d) (by rw [hsp, (sp_part hC (k := 1) (i := i') (by omega) (by omega) (by omega) (by omega)).1]; intro e; have := congrArg (·.2.1) e; simp at this; omega)]; exact h.next i' a b
  · rw [upd_spot (b := C.b) (c := C.c) (d := C.d) (by rw [hsp, (sp_part hC (k := 1) (i := i') (by omega) (by omega) (by omega) (by omega)).1]; intro e; have := congrArg (·.2.1) e; simp at this; omega)]; exact h.last i' a b
  · rw [upd_spot (b := C.b) (c := C.c) (d := C.d) (by rw [hsp, sp_once _ _ _ (by omega)]; intro e; have := congrArg (·.1) e; simp at this; omega)]; exact h.gate
/-- A fresh cell is a made one. -/
theorem LMem.grow {C : Cf} {f : Nat → Int} {σ : St} (h : LMem C f σ (σ.n + 1)) {A B : Nat} (hA : f (partP C.a C.b C.c C.d 0 σ.n).toNat = A) (hB : f (partP C.a C.b C.c C.d 1 σ.n).toNat = B) : LMem C f ⟨putG (putG σ.g 2 σ.n 0 A) 3 σ.n 0 B, σ.n + 1⟩ (σ.n + 1) := by
  refine ⟨fun i r a b c d => ?_, fun i a b => ?_, fun i a => ?_, fun i a => ?_, h.free, h.lt, Nat.le_refl _, h.next, h.last, h.gate⟩
  · rw [h.reg i r a b c d]; dsimp only; rw [putG_kind _ _ (by decide), putG_kind _ _ (by decide)]
  · rw [h.glob i a b]; dsimp only; rw [putG_kind _ _ (by decide), putG_kind _ _ (by decide)]
  · have a : i < σ.n + 1 := a
    dsimp only
    rw [putG_kind _ _ (by decide)]
    by_cases e : i = σ.n
    · subst e; rw [putG_same]; exact hA
    · rw [putG_other _ _ (fun e2 => e (by omega))]; exact h.car i (by omega)
  · have a : i < σ.n + 1 := a
    dsimp only
    by_cases e : i = σ.n
    · subst e; rw [putG_same]; exact hB
    · rw [putG_other _ _ (fun e2 => e (by omega)), putG_kind _ _ (by decide)]; exact h.cdr i (by omega)
theorem Near.part {C : Cf} (hC : CfOK C) {f f' : Nat → Int} (hn : Near C f f') {i k : Int} (h0 : 0 ≤ i) (h1 : i < C.a) (hk : k = 0 ∨ k = 1) : f' (partP C.a C.b C.c C.d k i).toNat = f (partP C.a C.b C.c C.d k i).toNat := by
  have e := (sp_part hC (k := k) (i := i) h0 h1 (by omega) (by omega)).1
  refine hn _ (by rw [e]; dsimp only; omega) (by rw [e]; dsimp only; omega) (fun e2 => ?_)
  rw [e2, sp_once _ _ _ (by omega)] at e
  have := congrArg (·.1) e
  simp at this
  omega
theorem part_apart {C : Cf} (hC : CfOK C) (f : Nat → Int) {i : Int} (h0 : 0 ≤ i) (h1 : i < C.a) (w : Int) : upd f (partP C.a C.b C.c C.d 1 i).toNat w (partP C.a C.b C.c C.d 0 i).toNat = f (partP C.a C.b C.c C.d 0 i).toNat :=
  upd_spot (b := C.b) (c := C.c) (d := C.d) (by rw [(sp_part hC (k := 0) h0 h1 (by omega) (by omega)).1, (sp_part hC (k := 1) h0 h1 (by omega) (by omega)).1]; simp)
theorem words_add {n : Nat} (f : Nat → Int) (j : Nat) (x : Int) (h : j < n) : wordsQ n f 4 (j : Int) x 0 = upd f j (sumW (f j) x) := by
  unfold wordsQ
  rw [if_pos (show okD n 4 (j : Int) from ⟨by omega, by omega, by omega, by omega⟩)]; rfl
theorem st32 {C : Cf} (hC : CfOK C) (m : Int) (f : Nat → Int) (q1 q2 q3 q4 m1 m2 m3 m4 m5 p bk rt : Int) : Stp C m f ⟨32, q1, q2, q3, q4, m1, m2, m3, m4, m5, p, bk, rt⟩ (upd f 3 (sumW (f 3) 1)) ⟨33, q1, q2, q3, q4, m1, m2, m3, m4, (f 3), p, bk, rt⟩ false false := by
  have h4 := hC.four
  intro s hs
  subst hs
  refine ⟨s.clr.act C 4 3 1 0, ?_, words_add s.f 3 1 (by omega)⟩
  have h0 : z5 C.n 4 3 (s.f 3) = s.f 3 := z5_in _ (by omega) (by omega)
  simp [lispS, isGate, isTick, tickS, Dy.clr, h0]
theorem st33 {C : Cf} (hC : CfOK C) (m : Int) (f : Nat → Int) (q1 q2 q3 q4 m1 m2 m3 m4 m5 p bk rt : Int) (h : f 4 = m5) : Stp C m f ⟨33, q1, q2, q3, q4, m1, m2, m3, m4, m5, p, bk, rt⟩ f ⟨34, q1, q2, q3, q4, m1, m2, m3, m4, m5, p, bk, rt⟩ false false := by
  have h4 := hC.four
  intro s hs
  subst hs
  refine ⟨s.clr.act C 1 4 0 0, ?_, words_load C.n s.f 4⟩
  have h0 : z5 C.n 1 4 (s.f 4) = m5 := (z5_in _ (by omega) (by omega)).trans h
  simp [lispS, isGate, isTick, tickS, Dy.clr, h0]
theorem st37 {C : Cf} (hC : CfOK C) (m : Int) (f : Nat → Int) (q1 q2 q3 q4 m1 m2 m3 m4 m5 p bk rt : Int) : Stp C m f ⟨37, q1, q2, q3, q4, m1, m2, m3, m4, m5, p, bk, rt⟩ (upd f 4 (sumW (f 4) 1)) ⟨38, q1, q2, q3, q4, m1, m2, m3, m4, m5, p, bk, rt⟩ false false := by
  have h4 := hC.four
  intro s hs
  subst hs
  refine ⟨s.clr.act C 4 4 1 0, ?_, words_add s.f 4 1 (by omega)⟩
  simp [lispS, isGate, isTick, tickS, Dy.clr]
theorem st41 {C : Cf} (hC : CfOK C) (m : Int) (f : Nat → Int) (q1 q2 q3 q4 m1 m2 m3 m4 m5 p bk rt : Int) : Stp C m f ⟨41, q1, q2, q3, q4, m1, m2, m3, m4, m5, p, bk, rt⟩ (upd f 4 (sumW (f 4) 1)) ⟨90, q1, q2, q3, q4, m1, m2, m3, m4, m5, p, bk, rt⟩ false false := by
  have h4 := hC.four
  intro s hs
  subst hs
  refine ⟨s.clr.act C 4 4 1 0, ?_, words_add s.f 4 1 (by omega)⟩
  simp [lispS, isGate, isTick, tickS, Dy.clr]
theorem st34 {C : Cf} (hC : CfOK C) (m : Int) (f : Nat → Int) (q1 q2 q3 q4 m1 m2 m3 m4 m5 p bk rt : Int) : Stp C m f ⟨34, q1, q2, q3, q4, m1, m2, m3, m4, m5, p, bk, rt⟩ f ⟨35, q1, q2, q3, q4, m1, m2, (f 0), m4, m5, p, bk, rt⟩ false false := by
  intro s hs
  subst hs
  have h := pop34 C hC.pos s.clr ⟨34, q1, q2, q3, q4, m1, m2, m3, m4, m5, p, bk, rt⟩ rfl
  refine ⟨⟨s.f, 1, 0, 0, 0, s.f 0⟩, ?_, rfl⟩
  simp only [lispS, isGate, isTick, isPop]
  rw [h]
  rfl
theorem st35 {C : Cf} (hC : CfOK C) (m : Int) (f : Nat → Int) (q1 q2 q3 q4 m1 m2 m4 m5 p bk rt : Int) {i : Nat} (hi : (i : Int) < C.a) {u : Nat} (hu : f (cdrP C.b C.c C.d i) = (u : Int)) : Stp C m f ⟨35, q1, q2, q3, q4, m1, m2, (2 * (i : Int) + 1), m4, m5, p, bk, rt⟩ f (if isC u then ⟨36, q1, q2, q3, q4, m1, m2, (2 * (i : Int) + 1), (u : Int), m5, p, bk, rt⟩ else ⟨41, q1, q2, q3, q4, m1, m2, (2 * (i : Int) + 1), (u : Int), m5, p, bk, 5⟩) (!decide (isC u)) false := by
  intro s hs
  subst hs
  have h := pop35 C hC s.clr ⟨35, q1, q2, q3, q4, m1, m2, (2 * (i : Int) + 1), m4, m5, p, bk, rt⟩ rfl hi rfl
  have hu' : nxF C.b C.c C.d s.clr.f i = (u : Int) := hu
  simp only [hu', Int.toNat_natCast] at h
  refine ⟨⟨s.clr.f, 1, cdrP C.b C.c C.d i, 0, 0, (u : Int)⟩, ?_, rfl⟩
  simp only [lispS, isGate, isTick, isPop]
  rw [h]
  rfl
theorem st36 {C : Cf} (hC : CfOK C) (m : Int) (f : Nat → Int) (q1 q2 q3 q4 m1 m2 m3 m5 p bk rt : Int) {u : Nat} (hc : isC u) : Stp C m f ⟨36, q1, q2, q3, q4, m1, m2, m3, (u : Int), m5, p, bk, rt⟩ (upd f 0 (u : Int)) (begM ⟨36, q1, q2, q3, q4, m1, m2, m3, (u : Int), m5, p, bk, rt⟩ (u : Int) 37) true false := by
  intro s hs
  subst hs
  have h := pop36 C hC.pos s.clr ⟨36, q1, q2, q3, q4, m1, m2, m3, (u : Int), m5, p, bk, rt⟩ rfl (by simpa using hc) (by dsimp only; omega)
  refine ⟨⟨upd s.clr.f 0 (u : Int), 2, 0, (u : Int), 0, s.clr.f 0⟩, ?_, rfl⟩
  simp only [lispS, isGate, isTick, isPop]
  rw [h]
  unfold begM begL begP begB
  simp only [Int.toNat_natCast]
  rw [if_pos hc, if_pos hc, if_pos hc]
  rfl
end Go.Proofs.YtbpkdihonemogaaGreatDoor
