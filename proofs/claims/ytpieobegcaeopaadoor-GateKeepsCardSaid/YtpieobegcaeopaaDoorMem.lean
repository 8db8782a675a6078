/- What a hand holds, and how far a mutator is, as one thing each; blocks beside them. -/
import Derived.Test.YtpieobegcaeopaaDoorMut
namespace Go.Proofs.YtpieobegcaeopaaDoor
open Go Go.RowKit
set_option maxRecDepth 100000
attribute [local go_sem ↓] Go.wp_at_zero Go.wp_at_succ

/-- Words that were handed in. -/
def Given (W : World) (a : Option Addr) (n cap : Nat) (f : Nat → Int) : Prop := n ≤ 9223372036854775807 ∧ WordsAt W a n f ∧ (∀ j, U64 (f j)) ∧ (a = none → n = 0 ∧ cap = 0)
theorem upd_u64 {f : Nat → Int} (hf : ∀ j, U64 (f j)) (j : Nat) {z : Int} (hz : U64 z) (i : Nat) : U64 (upd f j z i) := by
  unfold upd
  by_cases e : i = j
  · rw [if_pos e]; exact hz
  · rw [if_neg e]; exact hf i
theorem wordsQ_u64 {n : Nat} {f : Nat → Int} (hf : ∀ j, U64 (f j)) (k i : Int) {x y : Int} (hx : U64 x) (hy : U64 y) (j : Nat) : U64 (wordsQ n f k i x y j) := by
  unfold wordsQ
  by_cases h : okD n k i
  · rw [if_pos h]; unfold doF
    by_cases h2 : k = 2
    · rw [if_pos h2]; exact upd_u64 hf _ hx j
    · rw [if_neg h2]
      by_cases h3 : k = 3
      · rw [if_pos h3]
        by_cases e : f i.toNat = x
        · rw [if_pos e]; exact upd_u64 hf _ hy j
        · rw [if_neg e]; exact hf j
      · rw [if_neg h3]
        by_cases h4 : k = 4
        · rw [if_pos h4]; exact upd_u64 hf _ (sumW_u64 _ _) j
        · rw [if_neg h4]; exact hf j
  · rw [if_neg h]; exact hf j
theorem u64_zero : U64 0 := by unfold U64; omega
/-- The number of words, and the numbers of a map. -/
structure Cf where
  n : Nat
  a : Int
  b : Int
  c : Int
  d : Int
/-- All words, and the access that was noted. -/
structure Dy where
  f : Nat → Int
  k : Int
  i : Int
  x : Int
  y : Int
  o : Int
/-- All words are words. -/
def Dy.U (s : Dy) : Prop := ∀ j, U64 (s.f j)
/-- An access is done, and noted. -/
def Dy.act (C : Cf) (s : Dy) (k i x y : Int) : Dy := ⟨wordsQ C.n s.f k i x y, z5 C.n k i k, z5 C.n k i i, z5 C.n k i x, z5 C.n k i y, z5 C.n k i (s.f i.toNat)⟩
theorem Dy.U.act {s : Dy} (h : s.U) (C : Cf) (k i : Int) {x y : Int} (hx : U64 x) (hy : U64 y) : (s.act C k i x y).U := fun j => wordsQ_u64 h k i hx hy j
/-- A hand with these words. -/
abbrev HAt (w : World) (H A G : Nat) (C : Cf) (s : Dy) : Prop := HandAt w H A G C.n s.f C.a C.b C.c C.d s.k s.i s.x s.y s.o
/-- What a call of a hand, or of the document's, answers. -/
def HP (w : World) (H A G : Nat) (C : Cf) (s : Dy) (v : Value) (e : Ending) (w' : World) : Prop := e = .returned v ∧ HAt w' H A G C s ∧ Sav (HG H G) w w'
/-- How far a mutator is. -/
structure Mu where
  l : Int
  q1 : Int
  q2 : Int
  q3 : Int
  q4 : Int
  m1 : Int
  m2 : Int
  m3 : Int
  m4 : Int
  m5 : Int
  p : Int
  bk : Int
  rt : Int
abbrev Mu.v (m : Mu) : Value := .agg #[.int .i64 m.l, .int .i64 m.q1, .int .i64 m.q2, .int .i64 m.q3, .int .i64 m.q4, .int .u64 m.m1, .int .u64 m.m2, .int .u64 m.m3, .int .u64 m.m4, .int .u64 m.m5, .int .u64 m.p, .int .i64 m.bk, .int .i64 m.rt]
/-- Its words are words. -/
def Mu.U (m : Mu) : Prop := U64 m.m1 ∧ U64 m.m2 ∧ U64 m.m3 ∧ U64 m.m4 ∧ U64 m.m5 ∧ U64 m.p
/-- It lies in block B. -/
abbrev MuAt (w : World) (B : Nat) (m : Mu) : Prop := Mut13 w B m.l m.p m.bk m.q1 m.q2 m.q3 m.q4 m.m1 m.m2 m.m3 m.m4 m.m5 m.rt
theorem Mut13.savH {w V : World} {H G : Nat} {B : Nat} {l p bk q1 q2 q3 q4 m1 m2 m3 m4 m5 rt : Int} (h : Mut13 w B l p bk q1 q2 q3 q4 m1 m2 m3 m4 m5 rt) (hs : Sav (HG H G) w V) (h1 : B ≠ H) (h2 : B ≠ G) : Mut13 V B l p bk q1 q2 q3 q4 m1 m2 m3 m4 m5 rt :=
  h.other (hs.block B h.lt (fun e => e.elim h1 h2))
/-- The cells of a mutator turned: a field. -/
theorem Mut13.setL {w : World} {B : Nat} {l p bk q1 q2 q3 q4 m1 m2 m3 m4 m5 rt : Int} (h : Mut13 w B l p bk q1 q2 q3 q4 m1 m2 m3 m4 m5 rt) (z : Int) : Mut13 (w.setCell ⟨B, 0, none⟩ (.int .i64 z)) B z p bk q1 q2 q3 q4 m1 m2 m3 m4 m5 rt := by
  unfold Mut13 at *; simp [World.setCell, Array.getElem?_modify, h]
theorem Mut13.setP {w : World} {B : Nat} {l p bk q1 q2 q3 q4 m1 m2 m3 m4 m5 rt : Int} (h : Mut13 w B l p bk q1 q2 q3 q4 m1 m2 m3 m4 m5 rt) (z : Int) : Mut13 (w.setCell ⟨B, 10, none⟩ (.int .u64 z)) B l z bk q1 q2 q3 q4 m1 m2 m3 m4 m5 rt := by
  unfold Mut13 at *; simp [World.setCell, Array.getElem?_modify, h]
theorem Mut13.setB {w : World} {B : Nat} {l p bk q1 q2 q3 q4 m1 m2 m3 m4 m5 rt : Int} (h : Mut13 w B l p bk q1 q2 q3 q4 m1 m2 m3 m4 m5 rt) (z : Int) : Mut13 (w.setCell ⟨B, 11, none⟩ (.int .i64 z)) B l p z q1 q2 q3 q4 m1 m2 m3 m4 m5 rt := by
  unfold Mut13 at *; simp [World.setCell, Array.getElem?_modify, h]
theorem Mut13.setOther {w : World} {B : Nat} {l p bk q1 q2 q3 q4 m1 m2 m3 m4 m5 rt : Int} (h : Mut13 w B l p bk q1 q2 q3 q4 m1 m2 m3 m4 m5 rt) {q : Addr} (hq : q.block ≠ B) (v : Value) : Mut13 (w.setCell q v) B l p bk q1 q2 q3 q4 m1 m2 m3 m4 m5 rt :=
  h.other (Below.heap_setCell _ _ _ _ hq.symm)
end Go.Proofs.YtpieobegcaeopaaDoor
