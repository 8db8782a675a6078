/- How far the collector is, as one structure; a step of the layers 15 to 19, each as one function, without memory. -/
import Derived.Test.YtipkkmmehjdmpaaDoorSpots
namespace Go.Proofs.YtipkkmmehjdmpaaDoor
open Go Go.RowKit
set_option maxRecDepth 100000

/-- How far the collector is. -/
structure Co where
  l : Int
  j : Int
  c : Int
  m : Int
  a : Int
  p : Int
  fd : Bool
  tl : Int
  cy : Int
/-- Its words are words. -/
def Co.U (x : Co) : Prop := U64 x.a ∧ U64 x.p
/-- How many roots there are. -/
def rootsN (C : Cf) : Int := 1 + C.d + C.b * C.c
/-- The next root. -/
def nextRoot (C : Cf) (x : Co) : Co := { x with p := 0, j := x.j + 1, l := if x.j + 1 < rootsN C then 1 else 3 }
/-- A step of layer 15. -/
def rootS (C : Cf) (s : Dy) (x : Co) : Dy × Co × Bool :=
  if x.l = 1 then (s.act C 1 (rootP C.a C.b C.c C.d x.j) 0 0, (if isC (ldP C s (rootP C.a C.b C.c C.d x.j)).toNat then { x with p := ldP C s (rootP C.a C.b C.c C.d x.j), l := 2 } else nextRoot C x), true)
  else if x.l = 2 then (s.act C 3 (fieldP C.a C.b C.c C.d x.p.toNat 2) 0 1, nextRoot C x, true)
  else (s, x, false)
/-- How many roots were shaded. -/
def scanN (x : Co) : Int := if x.l = 1 ∨ x.l = 2 then x.j else if 2 < x.l ∧ x.l < 17 then -1 else 0
/-- The next cell of a pass. -/
def nextCell (C : Cf) (x : Co) : Co := if x.c + 1 < C.a then { x with c := x.c + 1, l := 4 } else if x.fd then { x with c := x.c + 1, l := 3 } else { x with c := x.c + 1, m := 0, l := 10 }
/-- A step of layer 16. -/
def passS (C : Cf) (s : Dy) (x : Co) : Dy × Co × Bool :=
  if x.l = 3 then (s.act C 2 2 0 0, { x with c := 0, fd := false, l := 4 }, true)
  else if x.l = 4 then (s.act C 1 (partP C.a C.b C.c C.d 2 x.c) 0 0, (if ldP C s (partP C.a C.b C.c C.d 2 x.c) = 1 then { x with l := 5 } else nextCell C x), true)
  else if x.l = 5 then (s.act C 1 (partP C.a C.b C.c C.d 0 x.c) 0 0, { x with a := ldP C s (partP C.a C.b C.c C.d 0 x.c), l := if isC (ldP C s (partP C.a C.b C.c C.d 0 x.c)).toNat then 6 else 7 }, true)
  else if x.l = 6 then (s.act C 3 (fieldP C.a C.b C.c C.d x.a.toNat 2) 0 1, { x with l := 7 }, true)
  else if x.l = 7 then (s.act C 1 (partP C.a C.b C.c C.d 1 x.c) 0 0, { x with a := ldP C s (partP C.a C.b C.c C.d 1 x.c), l := if isC (ldP C s (partP C.a C.b C.c C.d 1 x.c)).toNat then 8 else 9 }, true)
  else if x.l = 8 then (s.act C 3 (fieldP C.a C.b C.c C.d x.a.toNat 2) 0 1, { x with l := 9 }, true)
  else if x.l = 9 then (s.act C 2 (partP C.a C.b C.c C.d 2 x.c) 2 0, nextCell C { x with a := 0, fd := true }, true)
  else (s, x, false)
/-- The next mutator. -/
def nextMut (C : Cf) (x : Co) (n k : Int) : Co := if x.m + 1 < C.b then { x with m := x.m + 1, l := n } else { x with m := 0, l := k }
/-- A step of layer 17: the flip, and whether it is a line of this layer. -/
def shutS (C : Cf) (s : Dy) (x : Co) : Dy × Co × Bool × Bool :=
  if x.l = 10 then (s.act C 1 (inP C.a C.b C.c C.d x.m) 0 0, (if ldP C s (inP C.a C.b C.c C.d x.m) % 4 = 1 ∨ ldP C s (inP C.a C.b C.c C.d x.m) % 4 = 3 then { x with a := ldP C s (inP C.a C.b C.c C.d x.m), l := 16 } else nextMut C { x with a := 0 } 10 11), false, true)
  else if x.l = 16 then (s.act C 1 (inP C.a C.b C.c C.d x.m) 0 0, (if ldP C s (inP C.a C.b C.c C.d x.m) = x.a ∨ ldP C s (inP C.a C.b C.c C.d x.m) % 4 = 3 then { x with a := ldP C s (inP C.a C.b C.c C.d x.m), l := 16 } else nextMut C { x with a := 0 } 10 11), false, true)
  else if x.l = 11 then (s.act C 2 1 1 0, { x with l := 12 }, false, true)
  else if x.l = 12 then (s.act C 1 (inP C.a C.b C.c C.d x.m) 0 0, (if ldP C s (inP C.a C.b C.c C.d x.m) % 4 = 1 ∨ ldP C s (inP C.a C.b C.c C.d x.m) % 4 = 2 then x else nextMut C x 12 13), false, true)
  else if x.l = 13 then (s.act C 1 2 0 0, (if ldP C s 2 = 0 then { x with l := 14 } else { x with l := 15 }), decide (ldP C s 2 = 0), true)
  else if x.l = 14 then (s.act C 2 1 0 0, { x with c := 0, l := 20 }, false, true)
  else if x.l = 15 then (s.act C 2 1 0 0, { x with l := 3 }, false, true)
  else (s, x, false, false)
/-- The next cell of a sweep, and whether the cycle is over. -/
def nextSwept (C : Cf) (x : Co) : Co := if x.c + 1 < C.a then { x with c := x.c + 1, l := 20 } else { x with c := x.c + 1, cy := x.cy + 1, l := 1, j := 0, p := 0 }
def cycN (C : Cf) (x : Co) : Int := if x.c + 1 < C.a then 0 else 3
/-- A cell's word. -/
def cellW (i : Int) : Int := if 0 ≤ i ∧ i < 4096 then 2 * i + 1 else 0
/-- A step of layer 18: what it was, and whether it is a line of this layer. -/
def sweepS (C : Cf) (s : Dy) (x : Co) : Dy × Co × Int × Bool :=
  if x.l = 20 then (s.act C 1 (partP C.a C.b C.c C.d 2 x.c) 0 0, (if ldP C s (partP C.a C.b C.c C.d 2 x.c) = 0 then { x with l := 21 } else if ldP C s (partP C.a C.b C.c C.d 2 x.c) = 2 then { x with l := 24 } else nextSwept C x),
    (if ldP C s (partP C.a C.b C.c C.d 2 x.c) = 0 then 0 else if ldP C s (partP C.a C.b C.c C.d 2 x.c) = 2 then 0 else cycN C x), true)
  else if x.l = 21 then (s.act C 2 (partP C.a C.b C.c C.d 0 x.c) 0 0, { x with l := 22 }, 0, true)
  else if x.l = 22 then (s.act C 2 (partP C.a C.b C.c C.d 1 x.c) 0 0, { x with l := 23 }, 0, true)
  else if x.l = 23 then (s.act C 2 (partP C.a C.b C.c C.d 1 x.tl) (cellW x.c) 0, nextSwept C { x with tl := x.c }, 2 + cycN C x, true)
  else if x.l = 24 then (s.act C 2 (partP C.a C.b C.c C.d 2 x.c) 0 0, nextSwept C x, cycN C x, true)
  else (s, x, 0, false)
/-- A step of layer 19, and what it was. -/
def colS (C : Cf) (s : Dy) (x : Co) : Dy × Co × Int :=
  if x.l = 1 ∨ x.l = 2 then ((rootS C s.clr x).1, (rootS C s.clr x).2.1, 0)
  else if 3 ≤ x.l ∧ x.l ≤ 9 then ((passS C s.clr x).1, (passS C s.clr x).2.1, 0)
  else if 10 ≤ x.l ∧ x.l ≤ 16 then ((shutS C s.clr x).1, (shutS C s.clr x).2.1, if (shutS C s.clr x).2.2.1 then 1 else 0)
  else ((sweepS C s.clr x).1, (sweepS C s.clr x).2.1, (sweepS C s.clr x).2.2.1)
end Go.Proofs.YtipkkmmehjdmpaaDoor
