/- What a hand holds, and how far a mutator is, as one thing each; blocks beside them. -/
import Derived.Test.YtipkkmmehjdmpaaDoorMut
import Derived.Test.YtipkkmmehjdmpaaDoorHandBoth
namespace Go.Proofs.YtipkkmmehjdmpaaDoor
open Go Go.RowKit
set_option maxRecDepth 100000
attribute [local go_sem ↓] Go.wp_at_zero Go.wp_at_succ

/-- The number of words, and the numbers of a map. -/
structure Cf where
  n : Nat
  a : Int
  b : Int
  c : Int
  d : Int
/-- All words, and the access that was noted. -/
structure Dy where
  f : Nat → Int
  k : Int
  i : Int
  x : Int
  y : Int
  o : Int
/-- All words are words. -/
def Dy.U (s : Dy) : Prop := ∀ j, U64 (s.f j)
/-- An access is done, and noted. -/
def Dy.act (C : Cf) (s : Dy) (k i x y : Int) : Dy := ⟨wordsQ C.n s.f k i x y, z5 C.n k i k, z5 C.n k i i, z5 C.n k i x, z5 C.n k i y, z5 C.n k i (s.f i.toNat)⟩
theorem Dy.U.act {s : Dy} (h : s.U) (C : Cf) (k i : Int) {x y : Int} (hx : U64 x) (hy : U64 y) : (s.act C k i x y).U := fun j => wordsQ_u64 h k i hx hy j
/-- A hand with these words; the document's hand. -/
abbrev HAt (w : World) (H A G : Nat) (C : Cf) (s : Dy) : Prop := HandAt w H A G C.n s.f C.a C.b C.c C.d s.k s.i s.x s.y s.o
abbrev RAt (w : World) (X : Nat) (va : Option Addr) (cap N : Nat) (C : Cf) (s : Dy) : Prop := RHandAt w X va C.n cap N s.f C.a C.b C.c C.d s.k s.i s.x s.y s.o
/-- What a call of a hand, or of the document's, answers. -/
def HP (w : World) (H A G : Nat) (C : Cf) (s : Dy) (v : Value) (e : Ending) (w' : World) : Prop := e = .returned v ∧ HAt w' H A G C s ∧ Sav (HG H G) w w'
def RP (w : World) (X : Nat) (va : Option Addr) (cap N : Nat) (C : Cf) (s : Dy) (v : Value) (e : Ending) (w' : World) : Prop := e = .returned v ∧ RAt w' X va cap N C s ∧ Sav (RS X va) w w'
/-- How far a mutator is. -/
structure Mu where
  l : Int
  q1 : Int
  q2 : Int
  q3 : Int
  q4 : Int
  m1 : Int
  m2 : Int
  m3 : Int
  m4 : Int
  m5 : Int
  p : Int
  bk : Int
  rt : Int
abbrev Mu.v (m : Mu) : Value := .agg #[.int .i64 m.l, .int .i64 m.q1, .int .i64 m.q2, .int .i64 m.q3, .int .i64 m.q4, .int .u64 m.m1, .int .u64 m.m2, .int .u64 m.m3, .int .u64 m.m4, .int .u64 m.m5, .int .u64 m.p, .int .i64 m.bk, .int .i64 m.rt]
/-- Its words are words. -/
def Mu.U (m : Mu) : Prop := U64 m.m1 ∧ U64 m.m2 ∧ U64 m.m3 ∧ U64 m.m4 ∧ U64 m.m5 ∧ U64 m.p
theorem RHandAt.setOther {w : World} {X : Nat} {va : Option Addr} {n cap N : Nat} {f : Nat → Int} {a b c d k i x y o : Int} (h : RHandAt w X va n cap N f a b c d k i x y o) {p : Addr} (h0 : p.block ≠ X) (h1 : ∀ R, va = some ⟨R, 0, none⟩ → R ≠ p.block) (v : Value) : RHandAt (w.setCell p v) X va n cap N f a b c d k i x y o :=
  h.other (Below.heap_setCell _ _ _ _ h0.symm) (fun R e _ => Below.heap_setCell _ _ _ _ (h1 R e))
end Go.Proofs.YtipkkmmehjdmpaaDoor
