/- Laid together: Mem, Spots, ColPure. -/
import Derived.Test.YtganbjgkobmdkaaDoorMut
import Derived.Test.YtganbjgkobmdkaaDoorHandBoth
import Derived.Test.YtganbjgkobmdkaaDoorM1
/- What a hand holds, and how far a mutator is, as one thing each; blocks beside them. -/
namespace Go.Proofs.YtganbjgkobmdkaaDoor
open Go Go.RowKit
set_option maxRecDepth 100000
attribute [local go_sem ↓] Go.wp_at_zero Go.wp_at_succ

/-- The number of words, and the numbers of a map. -/
structure Cf where
  n : Nat
  a : Int
  b : Int
  c : Int
  d : Int
/-- All words, and the access that was noted. -/
structure Dy where
  f : Nat → Int
  k : Int
  i : Int
  x : Int
  y : Int
  o : Int
/-- All words are words. -/
def Dy.U (s : Dy) : Prop := ∀ j, U64 (s.f j)
/-- An access is done, and noted. -/
def Dy.act (C : Cf) (s : Dy) (k i x y : Int) : Dy := ⟨wordsQ C.n s.f k i x y, z5 C.n k i k, z5 C.n k i i, z5 C.n k i x, z5 C.n k i y, z5 C.n k i (s.f i.toNat)⟩
theorem Dy.U.act {s : Dy} (h : s.U) (C : Cf) (k i : Int) {x y : Int} (hx : U64 x) (hy : U64 y) : (s.act C k i x y).U := fun j => wordsQ_u64 h k i hx hy j
/-- A hand with these words; the document's hand. -/
abbrev HAt (w : World) (H A G : Nat) (C : Cf) (s : Dy) : Prop := HandAt w H A G C.n s.f C.a C.b C.c C.d s.k s.i s.x s.y s.o
abbrev RAt (w : World) (X : Nat) (va : Option Addr) (cap N : Nat) (C : Cf) (s : Dy) : Prop := RHandAt w X va C.n cap N s.f C.a C.b C.c C.d s.k s.i s.x s.y s.o
/-- What a call of a hand, or of the document's, answers. -/
def HP (w : World) (H A G : Nat) (C : Cf) (s : Dy) (v : Value) (e : Ending) (w' : World) : Prop := e = .returned v ∧ HAt w' H A G C s ∧ Sav (HG H G) w w'
def RP (w : World) (X : Nat) (va : Option Addr) (cap N : Nat) (C : Cf) (s : Dy) (v : Value) (e : Ending) (w' : World) : Prop := e = .returned v ∧ RAt w' X va cap N C s ∧ Sav (RS X va) w w'
/-- How far a mutator is. -/
structure Mu where
  l : Int
  q1 : Int
  q2 : Int
  q3 : Int
  q4 : Int
  m1 : Int
  m2 : Int
  m3 : Int
  m4 : Int
  m5 : Int
  p : Int
  bk : Int
  rt : Int
abbrev Mu.v (m : Mu) : Value := .agg #[.int .i64 m.l, .int .i64 m.q1, .int .i64 m.q2, .int .i64 m.q3, .int .i64 m.q4, .int .u64 m.m1, .int .u64 m.m2, .int .u64 m.m3, .int .u64 m.m4, .int .u64 m.m5, .int .u64 m.p, .int .i64 m.bk, .int .i64 m.rt]
/-- Its words are words. -/
def Mu.U (m : Mu) : Prop := U64 m.m1 ∧ U64 m.m2 ∧ U64 m.m3 ∧ U64 m.m4 ∧ U64 m.m5 ∧ U64 m.p
theorem RHandAt.setOther {w : World} {X : Nat} {va : Option Addr} {n cap N : Nat} {f : Nat → Int} {a b c d k i x y o : Int} (h : RHandAt w X va n cap N f a b c d k i x y o) {p : Addr} (h0 : p.block ≠ X) (h1 : ∀ R, va = some ⟨R, 0, none⟩ → R ≠ p.block) (v : Value) : RHandAt (w.setCell p v) X va n cap N f a b c d k i x y o :=
  h.other (Below.heap_setCell _ _ _ _ h0.symm) (fun R e _ => Below.heap_setCell _ _ _ _ (h1 R e))
end Go.Proofs.YtganbjgkobmdkaaDoor
/- Places and what lies there; what an access does to words; a configuration that fits the number of words. -/
namespace Go.Proofs.YtganbjgkobmdkaaDoor
open Go Go.RowKit
set_option maxRecDepth 100000

theorem words_load (n : Nat) (f : Nat → Int) (i : Int) : wordsQ n f 1 i 0 0 = f := by
  unfold wordsQ
  by_cases h : okD n 1 i
  · rw [if_pos h]; rfl
  · rw [if_neg h]
theorem words_store (n : Nat) (f : Nat → Int) (i x : Int) (h : 0 ≤ i ∧ i < n) : wordsQ n f 2 i x 0 = upd f i.toNat x := by
  unfold wordsQ
  rw [if_pos (show okD n 2 i from ⟨by omega, by omega, h.1, h.2⟩)]; rfl
theorem z5_in {n : Nat} {k i : Int} (v : Int) (hk : 1 ≤ k ∧ k ≤ 4) (h : 0 ≤ i ∧ i < n) : z5 n k i v = v := by
  unfold z5
  rw [if_pos (show okD n k i from ⟨hk.1, hk.2, h.1, h.2⟩)]
theorem field_cell {a b c d : Int} {i : Nat} (hi : i < 4096) (p : Int) (hp : 0 ≤ p ∧ p ≤ 2) : fieldP a b c d (2 * i + 1) p = partP a b c d p (i : Int) := by
  unfold fieldP
  rw [if_pos ⟨⟨by omega, by omega⟩, hp⟩, show (2 * i + 1) / 2 = i by omega]
theorem cell_isC {i : Nat} (h : i < 4096) : isC (2 * i + 1) := ⟨by omega, by omega⟩
/-- Where the configuration's numbers fit the number of words. -/
structure CfOK (C : Cf) : Prop where
  right : Right C.a C.b C.c C.d
  size : (C.n : Int) = 5 + C.b + C.d + C.b * C.c + 3 * C.a
theorem CfOK.pos {C : Cf} (h : CfOK C) : 0 < C.n := by have := h.right.prod; have h1 := h.right; have h2 := h.size; unfold Right at h1; omega
theorem CfOK.a4 {C : Cf} (h : CfOK C) : 2 ≤ C.a ∧ C.a ≤ 4096 ∧ 1 ≤ C.b ∧ 1 ≤ C.c ∧ 0 ≤ C.d := by have := h.right; unfold Right at this; omega
theorem CfOK.four {C : Cf} (h : CfOK C) : 4 < C.n := by have := h.right.prod; have h1 := h.right; have h2 := h.size; unfold Right at h1; omega
theorem sp_reg {C : Cf} (h : CfOK C) {i r : Int} (h0 : 0 ≤ i) (h1 : i < C.b) (h2 : 0 ≤ r) (h3 : r < C.c) : spotF C.b C.c C.d ((regP C.a C.b C.c C.d i r).toNat : Int) = (3, i, r) ∧ 0 ≤ regP C.a C.b C.c C.d i r ∧ regP C.a C.b C.c C.d i r < C.n := by
  have hr := h.right
  have hp := prod_lt hr h0 h1 h2 h3
  have hs := h.size
  rw [regP_in hr i r h0 h1 h2 h3]
  have hq := hr
  unfold Right at hq
  exact ⟨spot_reg hr h0 h1 h2 h3 (by omega), by omega, by omega⟩
theorem sp_glob {C : Cf} (h : CfOK C) {i : Int} (h0 : 0 ≤ i) (h1 : i < C.d) : spotF C.b C.c C.d ((globP C.a C.b C.c C.d i).toNat : Int) = (2, i, 0) ∧ 0 ≤ globP C.a C.b C.c C.d i ∧ globP C.a C.b C.c C.d i < C.n := by
  have hr := h.right
  have hp := hr.prod
  have hs := h.size
  rw [globP_in hr i h0 h1]
  unfold Right at hr
  refine ⟨?_, by omega, by omega⟩
  rw [spot_glob (by omega) (by omega) (by omega), show ((5 + C.b + i).toNat : Int) - (5 + C.b) = i by omega]
theorem sp_part {C : Cf} (h : CfOK C) {k i : Int} (h0 : 0 ≤ i) (h1 : i < C.a) (h2 : 0 ≤ k) (h3 : k < 3) : spotF C.b C.c C.d ((partP C.a C.b C.c C.d k i).toNat : Int) = (4 + k, i, 0) ∧ 0 ≤ partP C.a C.b C.c C.d k i ∧ partP C.a C.b C.c C.d k i < C.n := by
  have hr := h.right
  have hp := hr.prod
  have hs := h.size
  rw [partP_in hr k i h0 h1]
  have hq := hr
  unfold Right at hq
  exact ⟨spot_cell hr h0 h2 h3 (by omega), by omega, by omega⟩
theorem sp_once (b c d : Int) {j : Nat} (h : j < 5) : spotF b c d (j : Int) = (0, (j : Int), 0) := spot_once (by omega)
theorem upd_spot {b c d : Int} {f : Nat → Int} {p j : Nat} {w : Int} (h : spotF b c d j ≠ spotF b c d p) : upd f p w j = f j := by
  unfold upd
  rw [if_neg (fun e => h (by rw [e]))]
theorem upd_at (f : Nat → Int) (p : Nat) (w : Int) : upd f p w p = w := by unfold upd; rw [if_pos rfl]
/-- The words, and no access. -/
def Dy.clr (s : Dy) : Dy := ⟨s.f, 0, 0, 0, 0, 0⟩
/-- What is loaded at a place. -/
def ldP (C : Cf) (s : Dy) (P : Int) : Int := z5 C.n 1 P (s.f P.toNat)
end Go.Proofs.YtganbjgkobmdkaaDoor
/- How far the collector is, as one structure; a step of the layers 15 to 19, each as one function, without memory. -/
namespace Go.Proofs.YtganbjgkobmdkaaDoor
open Go Go.RowKit
set_option maxRecDepth 100000

/-- How far the collector is. -/
structure Co where
  l : Int
  j : Int
  c : Int
  m : Int
  a : Int
  p : Int
  fd : Bool
  tl : Int
  cy : Int
/-- Its words are words. -/
def Co.U (x : Co) : Prop := U64 x.a ∧ U64 x.p
/-- How many roots there are. -/
def rootsN (C : Cf) : Int := 1 + C.d + C.b * C.c
/-- The next root. -/
def nextRoot (C : Cf) (x : Co) : Co := { x with p := 0, j := x.j + 1, l := if x.j + 1 < rootsN C then 1 else 3 }
/-- A step of layer 15. -/
def rootS (C : Cf) (s : Dy) (x : Co) : Dy × Co × Bool :=
  if x.l = 1 then (s.act C 1 (rootP C.a C.b C.c C.d x.j) 0 0, (if isC (ldP C s (rootP C.a C.b C.c C.d x.j)).toNat then { x with p := ldP C s (rootP C.a C.b C.c C.d x.j), l := 2 } else nextRoot C x), true)
  else if x.l = 2 then (s.act C 3 (fieldP C.a C.b C.c C.d x.p.toNat 2) 0 1, nextRoot C x, true)
  else (s, x, false)
/-- How many roots were shaded. -/
def scanN (x : Co) : Int := if x.l = 1 ∨ x.l = 2 then x.j else if 2 < x.l ∧ x.l < 17 then -1 else 0
/-- The next cell of a pass. -/
def nextCell (C : Cf) (x : Co) : Co := if x.c + 1 < C.a then { x with c := x.c + 1, l := 4 } else if x.fd then { x with c := x.c + 1, l := 3 } else { x with c := x.c + 1, m := 0, l := 10 }
/-- A step of layer 16. -/
def passS (C : Cf) (s : Dy) (x : Co) : Dy × Co × Bool :=
  if x.l = 3 then (s.act C 2 2 0 0, { x with c := 0, fd := false, l := 4 }, true)
  else if x.l = 4 then (s.act C 1 (partP C.a C.b C.c C.d 2 x.c) 0 0, (if ldP C s (partP C.a C.b C.c C.d 2 x.c) = 1 then { x with l := 5 } else nextCell C x), true)
  else if x.l = 5 then (s.act C 1 (partP C.a C.b C.c C.d 0 x.c) 0 0, { x with a := ldP C s (partP C.a C.b C.c C.d 0 x.c), l := if isC (ldP C s (partP C.a C.b C.c C.d 0 x.c)).toNat then 6 else 7 }, true)
  else if x.l = 6 then (s.act C 3 (fieldP C.a C.b C.c C.d x.a.toNat 2) 0 1, { x with l := 7 }, true)
  else if x.l = 7 then (s.act C 1 (partP C.a C.b C.c C.d 1 x.c) 0 0, { x with a := ldP C s (partP C.a C.b C.c C.d 1 x.c), l := if isC (ldP C s (partP C.a C.b C.c C.d 1 x.c)).toNat then 8 else 9 }, true)
  else if x.l = 8 then (s.act C 3 (fieldP C.a C.b C.c C.d x.a.toNat 2) 0 1, { x with l := 9 }, true)
  else if x.l = 9 then (s.act C 2 (partP C.a C.b C.c C.d 2 x.c) 2 0, nextCell C { x with a := 0, fd := true }, true)
  else (s, x, false)
/-- The next mutator. -/
def nextMut (C : Cf) (x : Co) (n k : Int) : Co := if x.m + 1 < C.b then { x with m := x.m + 1, l := n } else { x with m := 0, l := k }
/-- A step of layer 17: the flip, and whether it is a line of this layer. -/
def shutS (C : Cf) (s : Dy) (x : Co) : Dy × Co × Bool × Bool :=
  if x.l = 10 then (s.act C 1 (inP C.a C.b C.c C.d x.m) 0 0, (if ldP C s (inP C.a C.b C.c C.d x.m) % 4 = 1 ∨ ldP C s (inP C.a C.b C.c C.d x.m) % 4 = 3 then { x with a := ldP C s (inP C.a C.b C.c C.d x.m), l := 16 } else nextMut C { x with a := 0 } 10 11), false, true)
  else if x.l = 16 then (s.act C 1 (inP C.a C.b C.c C.d x.m) 0 0, (if ldP C s (inP C.a C.b C.c C.d x.m) = x.a ∨ ldP C s (inP C.a C.b C.c C.d x.m) % 4 = 3 then { x with a := ldP C s (inP C.a C.b C.c C.d x.m), l := 16 } else nextMut C { x with a := 0 } 10 11), false, true)
  else if x.l = 11 then (s.act C 2 1 1 0, { x with l := 12 }, false, true)
  else if x.l = 12 then (s.act C 1 (inP C.a C.b C.c C.d x.m) 0 0, (if ldP C s (inP C.a C.b C.c C.d x.m) % 4 = 1 ∨ ldP C s (inP C.a C.b C.c C.d x.m) % 4 = 2 then x else nextMut C x 12 13), false, true)
  else if x.l = 13 then (s.act C 1 2 0 0, (if ldP C s 2 = 0 then { x with l := 14 } else { x with l := 15 }), decide (ldP C s 2 = 0), true)
  else if x.l = 14 then (s.act C 2 1 0 0, { x with c := 0, l := 20 }, false, true)
  else if x.l = 15 then (s.act C 2 1 0 0, { x with l := 3 }, false, true)
  else (s, x, false, false)
/-- The next cell of a sweep, and whether the cycle is over. -/
def nextSwept (C : Cf) (x : Co) : Co := if x.c + 1 < C.a then { x with c := x.c + 1, l := 20 } else { x with c := x.c + 1, cy := x.cy + 1, l := 1, j := 0, p := 0 }
def cycN (C : Cf) (x : Co) : Int := if x.c + 1 < C.a then 0 else 3
/-- A cell's word. -/
def cellW (i : Int) : Int := if 0 ≤ i ∧ i < 4096 then 2 * i + 1 else 0
/-- A step of layer 18: what it was, and whether it is a line of this layer. -/
def sweepS (C : Cf) (s : Dy) (x : Co) : Dy × Co × Int × Bool :=
  if x.l = 20 then (s.act C 1 (partP C.a C.b C.c C.d 2 x.c) 0 0, (if ldP C s (partP C.a C.b C.c C.d 2 x.c) = 0 then { x with l := 21 } else if ldP C s (partP C.a C.b C.c C.d 2 x.c) = 2 then { x with l := 24 } else nextSwept C x),
    (if ldP C s (partP C.a C.b C.c C.d 2 x.c) = 0 then 0 else if ldP C s (partP C.a C.b C.c C.d 2 x.c) = 2 then 0 else cycN C x), true)
  else if x.l = 21 then (s.act C 2 (partP C.a C.b C.c C.d 0 x.c) 0 0, { x with l := 22 }, 0, true)
  else if x.l = 22 then (s.act C 2 (partP C.a C.b C.c C.d 1 x.c) 0 0, { x with l := 23 }, 0, true)
  else if x.l = 23 then (s.act C 2 (partP C.a C.b C.c C.d 1 x.tl) (cellW x.c) 0, nextSwept C { x with tl := x.c }, 2 + cycN C x, true)
  else if x.l = 24 then (s.act C 2 (partP C.a C.b C.c C.d 2 x.c) 0 0, nextSwept C x, cycN C x, true)
  else (s, x, 0, false)
/-- A step of layer 19, and what it was. -/
def colS (C : Cf) (s : Dy) (x : Co) : Dy × Co × Int :=
  if x.l = 1 ∨ x.l = 2 then ((rootS C s.clr x).1, (rootS C s.clr x).2.1, 0)
  else if 3 ≤ x.l ∧ x.l ≤ 9 then ((passS C s.clr x).1, (passS C s.clr x).2.1, 0)
  else if 10 ≤ x.l ∧ x.l ≤ 16 then ((shutS C s.clr x).1, (shutS C s.clr x).2.1, if (shutS C s.clr x).2.2.1 then 1 else 0)
  else ((sweepS C s.clr x).1, (sweepS C s.clr x).2.1, (sweepS C s.clr x).2.2.1)
end Go.Proofs.YtganbjgkobmdkaaDoor
