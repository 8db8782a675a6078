/- Laid together: PopRefH, PopRefN, PopRefL, PopRefT, PopRef, PopPure, PopReach, PopList, PopTakeP, LispPure, WPick, WMem, WCalls, WTold, WStep0, WStepP, WStepA. -/
import Derived.Test.YtbpooljohjkbjaaGreatDoorPopStep
import Derived.Test.YtbpooljohjkbjaaGreatDoorM3
import Derived.Deep.AppendLies
import Derived.Deep.Onto
import Derived.Deep.LoopGhost
import Derived.WalkMore
import Derived.Test.YtbpooljohjkbjaaGreatDoorM4
import Derived.Test.YtbpooljohjkbjaaGreatDoorBarRef
import Derived.Test.YtbpooljohjkbjaaGreatDoorM5
import Derived.Test.YtbpooljohjkbjaaGreatDoorGateStep
import Derived.Test.YtbpooljohjkbjaaGreatDoorIdealPlain
import Derived.Test.YtbpooljohjkbjaaGreatDoorM1
import Derived.Deep.RegionHeld3
import Derived.Deep.Cut
/- A step of the document's layer 13: line 34, and any other line. -/
namespace Go.Proofs.YtbpooljohjkbjaaGreatDoor
open Go Go.RowKit
set_option maxRecDepth 100000
attribute [local go_sem ↓] Go.wp_at_zero Go.wp_at_succ
end Go.Proofs.YtbpooljohjkbjaaGreatDoor
/- A step of the document's layer 13: line 35, a cell. -/
namespace Go.Proofs.YtbpooljohjkbjaaGreatDoor
open Go Go.RowKit
set_option maxRecDepth 100000
attribute [local go_sem ↓] Go.wp_at_zero Go.wp_at_succ
end Go.Proofs.YtbpooljohjkbjaaGreatDoor
/- A step of the document's layer 13: line 35, no cell. -/
namespace Go.Proofs.YtbpooljohjkbjaaGreatDoor
open Go Go.RowKit
set_option maxRecDepth 100000
attribute [local go_sem ↓] Go.wp_at_zero Go.wp_at_succ
end Go.Proofs.YtbpooljohjkbjaaGreatDoor
/- A step of the document's layer 13: line 36. -/
namespace Go.Proofs.YtbpooljohjkbjaaGreatDoor
open Go Go.RowKit
set_option maxRecDepth 100000
attribute [local go_sem ↓] Go.wp_at_zero Go.wp_at_succ
end Go.Proofs.YtbpooljohjkbjaaGreatDoor
/- A step of both as one function. -/
namespace Go.Proofs.YtbpooljohjkbjaaGreatDoor
open Go Go.RowKit
set_option maxRecDepth 100000
attribute [local go_sem ↓] Go.wp_at_zero Go.wp_at_succ
def popN (C : Cf) (s : Dy) (m : Mu) : Int := z5 C.n 1 (fieldP C.a C.b C.c C.d m.m3.toNat 1) (s.f (fieldP C.a C.b C.c C.d m.m3.toNat 1).toNat)
def popS (C : Cf) (s : Dy) (m : Mu) : Dy × Mu × Bool × Bool :=
  if m.l = 34 then (s.act C 1 0 0 0, { m with l := 35, m3 := z5 C.n 1 0 (s.f 0) }, false, true)
  else if m.l = 35 then (s.act C 1 (fieldP C.a C.b C.c C.d m.m3.toNat 1) 0 0, (if isC (popN C s m).toNat then { m with l := 36, m4 := popN C s m } else { m with l := 41, m4 := popN C s m, rt := 5 }), !decide (isC (popN C s m).toNat), true)
  else if m.l = 36 then (s.act C 2 0 m.m4 0, { m with l := begL m.m4.toNat 37, p := begP m.m4.toNat, bk := begB m.m4.toNat 37 }, true, true)
  else (s, m, false, false)
theorem z5_u64 {n : Nat} {k i x : Int} (h : U64 x) : U64 (z5 n k i x) := by
  unfold z5
  by_cases e : okD n k i
  · rw [if_pos e]; exact h
  · rw [if_neg e]; exact u64_zero
theorem begP_u64 (v : Nat) (hv : v < 18446744073709551616) : U64 (begP v) := by
  unfold begP
  by_cases e : isC v
  · rw [if_pos e]; unfold U64; omega
  · rw [if_neg e]; exact u64_zero
theorem popS_U {C : Cf} {s : Dy} (h : s.U) (m : Mu) (hm : m.U) : (popS C s m).1.U ∧ (popS C s m).2.1.U := by
  have h0 := u64_zero
  unfold popS
  unfold Mu.U at hm
  split
  · exact ⟨h.act C 1 0 h0 h0, hm.1, hm.2.1, z5_u64 (h 0), hm.2.2.2.1, hm.2.2.2.2.1, hm.2.2.2.2.2⟩
  · split
    · refine ⟨h.act C 1 _ h0 h0, ?_⟩
      have hN : U64 (popN C s m) := z5_u64 (h _)
      split
      · exact ⟨hm.1, hm.2.1, hm.2.2.1, hN, hm.2.2.2.2.1, hm.2.2.2.2.2⟩
      · exact ⟨hm.1, hm.2.1, hm.2.2.1, hN, hm.2.2.2.2.1, hm.2.2.2.2.2⟩
    · split
      · refine ⟨h.act C 2 0 hm.2.2.2.1 h0, hm.1, hm.2.1, hm.2.2.1, hm.2.2.2.1, hm.2.2.2.2.1, begP_u64 _ ?_⟩
        obtain ⟨h1, h2⟩ := hm.2.2.2.1; omega
      · exact ⟨h, hm⟩
theorem pop_c {w : World} {H A G : Nat} {C : Cf} {s : Dy} (hH : HAt w H A G C s) (hu : s.U) (hS : SpansAt w) (m : Mu) (hm : m.U) :
    Calls Tryz.prog 111 #[.pointer (some ⟨H, 0, none⟩), m.v] w (HP w H A G C (popS C s m).1 (.tuple #[(popS C s m).2.1.v, .bool (popS C s m).2.2.1, .bool (popS C s m).2.2.2])) := by
  obtain ⟨l, q1, q2, q3, q4, m1, m2, m3, m4, m5, p, bk, rt⟩ := m
  unfold popS popN
  unfold Mu.U at hm
  dsimp only at hm ⊢
  by_cases e : l = 34
  · subst e; rw [if_pos rfl]; exact pStep_head hH hu p bk q1 q2 q3 q4 m1 m2 m3 m4 m5 rt
  · rw [if_neg e]
    by_cases e2 : l = 35
    · subst e2; rw [if_pos rfl]
      obtain ⟨v, rfl, hv⟩ := u64_nat' hm.2.2.1
      simp only [Int.toNat_natCast]
      obtain ⟨u, hT, hu6⟩ := u64_nat' (z5_u64 (n := C.n) (k := 1) (i := fieldP C.a C.b C.c C.d v 1) (hu (fieldP C.a C.b C.c C.d v 1).toNat))
      simp only [hT, Int.toNat_natCast]
      by_cases hc : isC u
      · simp only [hc, decide_true, Bool.not_true]
        exact pStep_next hH hu hS v hv u hu6 hT hc p bk q1 q2 q3 q4 m1 m2 m4 m5 rt
      · simp only [hc, decide_false, Bool.not_false]
        exact pStep_last hH hu hS v hv u hu6 hT hc p bk q1 q2 q3 q4 m1 m2 m4 m5 rt
    · rw [if_neg e2]
      by_cases e3 : l = 36
      · subst e3; rw [if_pos rfl]
        obtain ⟨v, rfl, hv⟩ := u64_nat' hm.2.2.2.1
        simp only [Int.toNat_natCast]
        exact pStep_take hH hu v hv p bk q1 q2 q3 q4 m1 m2 m3 m5 rt
      · rw [if_neg e3]; exact pStep_other hH l p bk q1 q2 q3 q4 m1 m2 m3 m4 m5 rt e e2 e3
end Go.Proofs.YtbpooljohjkbjaaGreatDoor
/- The free list without memory: chains of cells by a function that tells what comes behind each. -/
namespace Go.Proofs.YtbpooljohjkbjaaGreatDoor
open Go Go.RowKit
end Go.Proofs.YtbpooljohjkbjaaGreatDoor
/- How far a list has been gone along: the cells so far, and the word that they lead to. -/
namespace Go.Proofs.YtbpooljohjkbjaaGreatDoor
open Go Go.RowKit
end Go.Proofs.YtbpooljohjkbjaaGreatDoor
/- Package pop's List, of any words: the cells of the free list, or none. -/
namespace Go.Proofs.YtbpooljohjkbjaaGreatDoor
open Go Go.RowKit
set_option maxRecDepth 100000
attribute [local go_sem ↓] Go.wp_at_zero Go.wp_at_succ
theorem infoInt : (Tryz.prog.info? 3).map (fun i => (i.zero, i.size, i.bytes)) = some (some (.int .i64 0), 1, 8) := by kernel_rfl
end Go.Proofs.YtbpooljohjkbjaaGreatDoor
/- Taking a cell off a list, without memory: each line's step, and how it goes from the line 34 to its end. -/
namespace Go.Proofs.YtbpooljohjkbjaaGreatDoor
open Go Go.RowKit
set_option maxRecDepth 100000
abbrev hM (l h n p bk rt : Int) : Mu := ⟨l, 0, 0, 0, 0, 0, 0, h, n, 0, p, bk, rt⟩
end Go.Proofs.YtbpooljohjkbjaaGreatDoor
/- A step of layer 14 as one function; how an operation goes to its end, without memory. -/
namespace Go.Proofs.YtbpooljohjkbjaaGreatDoor
open Go Go.RowKit
set_option maxRecDepth 100000
def atomW (b : Int) : Int := if b < 0 then 0 else 2 * b
def partK (k : Int) : Int := if k = 4 ∨ k = 6 then 0 else 1
def begM (x : Mu) (w k : Int) : Mu := { x with l := begL w.toNat k, p := begP w.toNat, bk := begB w.toNat k }
def ownS (C : Cf) (s : Dy) (m : Int) (x : Mu) : Dy × Mu × Bool × Bool :=
  if x.l = 10 then (s.act C 2 (regP C.a C.b C.c C.d m x.q2) (atomW x.q3) 0, { x with l := 90, rt := 1 }, true, false)
  else if x.l = 11 then (s.act C 1 (regP C.a C.b C.c C.d m x.q3) 0 0, { x with l := 12, m1 := ldP C s (regP C.a C.b C.c C.d m x.q3) }, false, false)
  else if x.l = 12 then (s.act C 2 (regP C.a C.b C.c C.d m x.q2) x.m1 0, begM { x with rt := 1 } x.m1 90, true, false)
  else if x.l = 13 then (s.act C 1 (regP C.a C.b C.c C.d m x.q3) 0 0, (if isC (ldP C s (regP C.a C.b C.c C.d m x.q3)).toNat then { x with l := 14, m1 := ldP C s (regP C.a C.b C.c C.d m x.q3) } else { x with l := 90, m1 := ldP C s (regP C.a C.b C.c C.d m x.q3), rt := 4 }), !decide (isC (ldP C s (regP C.a C.b C.c C.d m x.q3)).toNat), false)
  else if x.l = 14 then (s.act C 1 (fieldP C.a C.b C.c C.d x.m1.toNat (partK x.q1)) 0 0, { x with l := 15, m2 := ldP C s (fieldP C.a C.b C.c C.d x.m1.toNat (partK x.q1)) }, true, false)
  else if x.l = 15 then (s.act C 2 (regP C.a C.b C.c C.d m x.q2) x.m2 0, begM { x with rt := 1 } x.m2 90, false, false)
  else if x.l = 16 then (s.act C 1 (regP C.a C.b C.c C.d m x.q2) 0 0, (if isC (ldP C s (regP C.a C.b C.c C.d m x.q2)).toNat then { x with l := 17, m1 := ldP C s (regP C.a C.b C.c C.d m x.q2) } else { x with l := 90, m1 := ldP C s (regP C.a C.b C.c C.d m x.q2), rt := 4 }), !decide (isC (ldP C s (regP C.a C.b C.c C.d m x.q2)).toNat), false)
  else if x.l = 17 then (s.act C 1 (regP C.a C.b C.c C.d m x.q3) 0 0, { x with l := 18, m2 := ldP C s (regP C.a C.b C.c C.d m x.q3) }, false, false)
  else if x.l = 18 then (s.act C 2 (fieldP C.a C.b C.c C.d x.m1.toNat (partK x.q1)) x.m2 0, begM { x with rt := 1 } x.m2 90, true, false)
  else if x.l = 19 then (s.act C 1 (globP C.a C.b C.c C.d x.q3) 0 0, { x with l := 15, m2 := ldP C s (globP C.a C.b C.c C.d x.q3) }, true, false)
  else if x.l = 20 then (s.act C 1 (regP C.a C.b C.c C.d m x.q3) 0 0, { x with l := 21, m2 := ldP C s (regP C.a C.b C.c C.d m x.q3) }, false, false)
  else if x.l = 21 then (s.act C 2 (globP C.a C.b C.c C.d x.q2) x.m2 0, begM { x with rt := 1 } x.m2 90, true, false)
  else if x.l = 22 then (s.act C 1 (regP C.a C.b C.c C.d m x.q2) 0 0, { x with l := 23, m1 := ldP C s (regP C.a C.b C.c C.d m x.q2) }, false, false)
  else if x.l = 23 then (s.act C 1 (regP C.a C.b C.c C.d m x.q3) 0 0, { x with l := 90, m2 := ldP C s (regP C.a C.b C.c C.d m x.q3), rt := if x.m1 = ldP C s (regP C.a C.b C.c C.d m x.q3) then 2 else 3 }, true, false)
  else if x.l = 24 then (s.act C 1 (regP C.a C.b C.c C.d m x.q2) 0 0, { x with l := 90, m1 := ldP C s (regP C.a C.b C.c C.d m x.q2), rt := if isC (ldP C s (regP C.a C.b C.c C.d m x.q2)).toNat then 3 else 2 }, true, false)
  else if x.l = 30 then (s.act C 1 (regP C.a C.b C.c C.d m x.q3) 0 0, { x with l := 31, m1 := ldP C s (regP C.a C.b C.c C.d m x.q3) }, false, false)
  else if x.l = 31 then (s.act C 1 (regP C.a C.b C.c C.d m x.q4) 0 0, { x with l := 32, m2 := ldP C s (regP C.a C.b C.c C.d m x.q4) }, false, false)
  else if x.l = 38 then (s.act C 2 (fieldP C.a C.b C.c C.d x.m3.toNat 0) x.m1 0, begM x x.m1 39, false, false)
  else if x.l = 39 then (s.act C 2 (fieldP C.a C.b C.c C.d x.m3.toNat 1) x.m2 0, begM x x.m2 40, false, false)
  else if x.l = 40 then (s.act C 2 (regP C.a C.b C.c C.d m x.q2) x.m3 0, begM { x with rt := 1 } x.m3 90, false, false)
  else (s, x, false, false)
def isGate (l : Int) : Bool := l == 1 || l == 2 || l == 3 || l == 4 || l == 5 || l == 6 || l == 90
def isTick (l : Int) : Bool := l == 32 || l == 33 || l == 37 || l == 41
def isPop (l : Int) : Bool := l == 34 || l == 35 || l == 36
def isBar (l : Int) : Bool := l == 80 || l == 81
def lispS (C : Cf) (s : Dy) (m : Int) (x : Mu) : Dy × Mu × Bool × Bool :=
  if isGate x.l = true then ((gateS C s.clr m x).1, (gateS C s.clr m x).2.1, false, (gateS C s.clr m x).2.1.l == 0)
  else if isTick x.l = true then ((tickS C s.clr x).1, (tickS C s.clr x).2.1, false, false)
  else if isPop x.l = true then ((popS C s.clr x).1, (popS C s.clr x).2.1, (popS C s.clr x).2.2.1, false)
  else if isBar x.l = true then ((barS C s.clr x).1, (barS C s.clr x).2.1, false, (barS C s.clr x).2.1.l == 0)
  else ownS C s.clr m x
end Go.Proofs.YtbpooljohjkbjaaGreatDoor
/- A pick of a world as one function, and picks one by one (no memory). -/
namespace Go.Proofs.YtbpooljohjkbjaaGreatDoor
open Go Go.RowKit
set_option maxRecDepth 100000
section
structure Ev where
  ran : Bool
  k : Int
  i : Int
  x : Int
  y : Int
  o : Int
  nts : List Nt
structure Ws where
  f : Nat → Int
  mu : Nat → Mu
  lf : Nat → List Opn
  x : Co
def noEv : Ev := ⟨false, 0, 0, 0, 0, 0, []⟩
def Dy.of (f : Nat → Int) : Dy := ⟨f, 0, 0, 0, 0, 0⟩
def Ev.of (s : Dy) (l : List Nt) : Ev := ⟨true, s.k, s.i, s.x, s.y, s.o, l⟩
def ntOp (p wh : Int) (o : Opn) (n : Int) : Nt := ⟨p, wh, o.k, o.x, o.y, o.z, n⟩
def colNts (C : Cf) (x x' : Co) (wh : Int) : List Nt :=
  (if wh = 1 then [⟨C.b, 4, 0, 0, 0, 0, 0⟩] else []) ++ (if wh = 2 ∨ wh = 5 then [⟨C.b, 5, 0, 0, 0, 0, x.c⟩] else []) ++ (if wh = 3 ∨ wh = 5 then [⟨C.b, 6, 0, 0, 0, 0, x'.cy⟩] else [])
def mutNts (m : Int) (o : Opn) (x' : Mu) (lin done : Bool) : List Nt :=
  (if lin then [ntOp m 2 o (if x'.rt = 5 then 5 else 0)] else []) ++ (if done then [ntOp m 3 o x'.rt] else [])
def Mu.op (x : Mu) : Opn := ⟨x.q1, x.q2, x.q3, x.q4⟩
def Mu.zero : Mu := ⟨0, 0, 0, 0, 0, 0, 0, 0, 0, 0, 0, 0, 0⟩
def Opn.mu (o : Opn) : Mu := ⟨1, o.k, o.x, o.y, o.z, 0, 0, 0, 0, 0, 0, 0, 0⟩
def upn {α : Type} (f : Nat → α) (i : Nat) (v : α) : Nat → α := fun j => if j = i then v else f j
theorem upn_at {α : Type} (f : Nat → α) (i : Nat) (v : α) : upn f i v i = v := if_pos rfl
theorem upn_ne {α : Type} (f : Nat → α) {i j : Nat} (v : α) (h : j ≠ i) : upn f i v j = f j := if_neg h
def goM (C : Cf) (S : Ws) (m : Nat) (x : Mu) (pre : List Nt) : Ws × Ev :=
  let r := lispS C (Dy.of S.f) m x
  (⟨r.1.f, upn S.mu m (if r.2.2.2 then Mu.zero else r.2.1), S.lf, S.x⟩, Ev.of r.1 (pre ++ mutNts m x.op r.2.1 r.2.2.1 r.2.2.2))
def rightO (C : Cf) (o : Opn) : Bool := checkF C.a C.b C.c C.d o.k o.x o.y o.z == 0
def mutPk (C : Cf) (S : Ws) (m : Nat) : Ws × Ev :=
  if (S.mu m).l ≠ 0 then goM C S m (S.mu m) []
  else match S.lf m with
    | [] => (S, noEv)
    | o :: l =>
      if rightO C o then goM C { S with lf := upn S.lf m l } m o.mu [ntOp m 1 o 0]
      else ({ S with lf := upn S.lf m l }, ⟨true, 0, 0, 0, 0, 0, [ntOp m 1 o 0, ntOp m 3 o 6]⟩)
def colPk (C : Cf) (S : Ws) : Ws × Ev :=
  let r := colS C (Dy.of S.f) S.x
  ({ S with f := r.1.f, x := r.2.1 }, Ev.of r.1 (colNts C S.x r.2.1 r.2.2))
def pickS (C : Cf) (S : Ws) (p : Int) : Ws × Ev :=
  if p < 0 ∨ C.b < p then (S, noEv) else if p = C.b then colPk C S else mutPk C S p.toNat
def runS (C : Cf) : Ws → List Int → Ws × List Nt
  | S, [] => (S, [])
  | S, p :: l => ((runS C (pickS C S p).1 l).1, (pickS C S p).2.nts ++ (runS C (pickS C S p).1 l).2)
end
end Go.Proofs.YtbpooljohjkbjaaGreatDoor
/- The program's world in memory: its block, its row of mutators (each with what is left), its hand, its collector. -/
namespace Go.Proofs.YtbpooljohjkbjaaGreatDoor
open Go Go.RowKit
set_option maxRecDepth 100000
attribute [local go_sem ↓] Go.wp_at_zero Go.wp_at_succ
def MtAt (w : World) (R k : Nat) (g : Nat → Mu) (lv : Nat → Value) : Prop := w.rowIs R 79 (14 * k) (fun p => if p % 14 = 13 then lv (p / 14) else mcellM (g (p / 14)) (p % 14))
abbrev pW14 (w : World) (R o : Nat) (m : Mu) : World := (((((((((((((w.setCell ⟨R, o, none⟩ (.int .i64 m.l)).setCell ⟨R, o + 1, none⟩ (.int .i64 m.q1)).setCell ⟨R, o + 2, none⟩ (.int .i64 m.q2)).setCell ⟨R, o + 3, none⟩ (.int .i64 m.q3)).setCell ⟨R, o + 4, none⟩ (.int .i64 m.q4)).setCell ⟨R, o + 5, none⟩ (.int .u64 m.m1)).setCell ⟨R, o + 6, none⟩ (.int .u64 m.m2)).setCell ⟨R, o + 7, none⟩ (.int .u64 m.m3)).setCell ⟨R, o + 8, none⟩ (.int .u64 m.m4)).setCell ⟨R, o + 9, none⟩ (.int .u64 m.m5)).setCell ⟨R, o + 10, none⟩ (.int .u64 m.p)).setCell ⟨R, o + 11, none⟩ (.int .i64 m.bk)).setCell ⟨R, o + 12, none⟩ (.int .i64 m.rt))
theorem heap_pW14 (w : World) (R o : Nat) (m : Mu) {B : Nat} (hB : B ≠ R) : (pW14 w R o m).heap[B]? = w.heap[B]? := (Below.heap_setCell _ _ _ _ hB).trans ((Below.heap_setCell _ _ _ _ hB).trans ((Below.heap_setCell _ _ _ _ hB).trans ((Below.heap_setCell _ _ _ _ hB).trans ((Below.heap_setCell _ _ _ _ hB).trans ((Below.heap_setCell _ _ _ _ hB).trans ((Below.heap_setCell _ _ _ _ hB).trans ((Below.heap_setCell _ _ _ _ hB).trans ((Below.heap_setCell _ _ _ _ hB).trans ((Below.heap_setCell _ _ _ _ hB).trans ((Below.heap_setCell _ _ _ _ hB).trans ((Below.heap_setCell _ _ _ _ hB).trans (Below.heap_setCell _ _ _ _ hB))))))))))))
theorem size_pW14 (w : World) (R o : Nat) (m : Mu) : (pW14 w R o m).heap.size = w.heap.size := by simp [World.setCell]
theorem Sav.pW14 {S : Nat → Prop} {w w' : World} (h : Sav S w w') {R : Nat} (hR : S R ∨ w.heap.size ≤ R) (o : Nat) (m : Mu) : Sav S w (pW14 w' R o m) := (((((((((((((h.set (p := ⟨R, o, none⟩) hR _).set (p := ⟨R, o + 1, none⟩) hR _).set (p := ⟨R, o + 2, none⟩) hR _).set (p := ⟨R, o + 3, none⟩) hR _).set (p := ⟨R, o + 4, none⟩) hR _).set (p := ⟨R, o + 5, none⟩) hR _).set (p := ⟨R, o + 6, none⟩) hR _).set (p := ⟨R, o + 7, none⟩) hR _).set (p := ⟨R, o + 8, none⟩) hR _).set (p := ⟨R, o + 9, none⟩) hR _).set (p := ⟨R, o + 10, none⟩) hR _).set (p := ⟨R, o + 11, none⟩) hR _).set (p := ⟨R, o + 12, none⟩) hR _)
namespace MtAt
variable {w w' : World} {R k : Nat} {g : Nat → Mu} {lv : Nat → Value}
theorem cellAt (h : MtAt w R k g lv) {i : Nat} (hi : i < k) (j : Nat) (hj : j < 13) : w.cell? ⟨R, i * 14 + j, none⟩ = some (mcellM (g i) j) := by
  have := World.rowIs.cell h (i := i * 14 + j) (by omega)
  rw [show (i * 14 + j) / 14 = i by omega, show (i * 14 + j) % 14 = j by omega, if_neg (by omega)] at this
  exact this
theorem cellL (h : MtAt w R k g lv) {i : Nat} (hi : i < k) : w.cell? ⟨R, i * 14 + 13, none⟩ = some (lv i) := by
  have := World.rowIs.cell h (i := i * 14 + 13) (by omega)
  rw [show (i * 14 + 13) / 14 = i by omega, show (i * 14 + 13) % 14 = 13 by omega, if_pos rfl] at this
  exact this
theorem cells (h : MtAt w R k g lv) {i : Nat} (hi : i < k) : w.cell? ⟨R, i * 14, none⟩ = some (.int .i64 (g i).l) ∧ w.cell? ⟨R, i * 14 + 1, none⟩ = some (.int .i64 (g i).q1) ∧ w.cell? ⟨R, i * 14 + 2, none⟩ = some (.int .i64 (g i).q2) ∧ w.cell? ⟨R, i * 14 + 3, none⟩ = some (.int .i64 (g i).q3) ∧ w.cell? ⟨R, i * 14 + 4, none⟩ = some (.int .i64 (g i).q4) ∧ w.cell? ⟨R, i * 14 + 5, none⟩ = some (.int .u64 (g i).m1) ∧ w.cell? ⟨R, i * 14 + 6, none⟩ = some (.int .u64 (g i).m2) ∧ w.cell? ⟨R, i * 14 + 7, none⟩ = some (.int .u64 (g i).m3) ∧ w.cell? ⟨R, i * 14 + 8, none⟩ = some (.int .u64 (g i).m4) ∧ w.cell? ⟨R, i * 14 + 9, none⟩ = some (.int .u64 (g i).m5) ∧ w.cell? ⟨R, i * 14 + 10, none⟩ = some (.int .u64 (g i).p) ∧ w.cell? ⟨R, i * 14 + 11, none⟩ = some (.int .i64 (g i).bk) ∧ w.cell? ⟨R, i * 14 + 12, none⟩ = some (.int .i64 (g i).rt) ∧ w.cell? ⟨R, i * 14 + 13, none⟩ = some (lv i) ∧ (∀ j, w.frozen? ⟨R, j, none⟩ = false) :=
  ⟨h.cellAt hi 0 (by omega), h.cellAt hi 1 (by omega), h.cellAt hi 2 (by omega), h.cellAt hi 3 (by omega), h.cellAt hi 4 (by omega), h.cellAt hi 5 (by omega), h.cellAt hi 6 (by omega), h.cellAt hi 7 (by omega), h.cellAt hi 8 (by omega), h.cellAt hi 9 (by omega), h.cellAt hi 10 (by omega), h.cellAt hi 11 (by omega), h.cellAt hi 12 (by omega), h.cellL hi, fun j => World.rowIs.frozen h j⟩
theorem lt (h : MtAt w R k g lv) : R < w.heap.size := World.rowIs.lt h
theorem other (h : MtAt w R k g lv) (e : w'.heap[R]? = w.heap[R]?) : MtAt w' R k g lv := World.rowIs.of_block h e
theorem put (h : MtAt w R k g lv) (i : Nat) (m : Mu) : MtAt (pW14 w R (i * 14) m) R k (upn g i m) lv := by
  refine World.rowIs.congr (((((((((((((World.rowIs.set h (i * 14) _).set (i * 14 + 1) _).set (i * 14 + 2) _).set (i * 14 + 3) _).set (i * 14 + 4) _).set (i * 14 + 5) _).set (i * 14 + 6) _).set (i * 14 + 7) _).set (i * 14 + 8) _).set (i * 14 + 9) _).set (i * 14 + 10) _).set (i * 14 + 11) _).set (i * 14 + 12) _) (fun p hp => ?_)
  unfold upn
  by_cases e : p / 14 = i
  · rw [if_pos e]
    obtain ⟨r, hr, rfl⟩ : ∃ r, r < 14 ∧ p = i * 14 + r := ⟨p % 14, by omega, by omega⟩
    rw [show (i * 14 + r) % 14 = r by omega]
    rcases (by omega : r = 0 ∨ r = 1 ∨ r = 2 ∨ r = 3 ∨ r = 4 ∨ r = 5 ∨ r = 6 ∨ r = 7 ∨ r = 8 ∨ r = 9 ∨ r = 10 ∨ r = 11 ∨ r = 12 ∨ r = 13) with rfl | rfl | rfl | rfl | rfl | rfl | rfl | rfl | rfl | rfl | rfl | rfl | rfl | rfl
    all_goals simp [mcellM]
  · rw [if_neg e, if_neg (by omega), if_neg (by omega), if_neg (by omega), if_neg (by omega), if_neg (by omega), if_neg (by omega), if_neg (by omega), if_neg (by omega), if_neg (by omega), if_neg (by omega), if_neg (by omega), if_neg (by omega), if_neg (by omega)]
theorem setV (h : MtAt w R k g lv) (i : Nat) (v : Value) : MtAt (w.setCell ⟨R, i * 14 + 13, none⟩ v) R k g (upn lv i v) := by
  refine World.rowIs.congr (World.rowIs.set h (i * 14 + 13) v) (fun p hp => ?_)
  unfold upn
  by_cases e : p = i * 14 + 13
  · rw [if_pos e, if_pos (by omega), if_pos (by omega)]
  · rw [if_neg e]
    by_cases e2 : p % 14 = 13
    · rw [if_pos e2, if_pos e2, if_neg (by omega)]
    · rw [if_neg e2, if_neg e2]
end MtAt
def BkAt (w : World) (B H R n : Nat) (x : Co) : Prop := w.heap[B]? = some (.cells #[.pointer (some ⟨H, 0, none⟩), .slice (some ⟨R, 0, none⟩) n n, .int .i64 x.l, .int .i64 x.j, .int .i64 x.c, .int .i64 x.m, .int .u64 x.a, .int .u64 x.p, .bool x.fd, .int .i64 x.tl, .int .i64 x.cy] 76 (0, 0))
abbrev putC (w : World) (B : Nat) (x : Co) : World := (((((((((w.setCell ⟨B, 2, none⟩ (.int .i64 x.l)).setCell ⟨B, 3, none⟩ (.int .i64 x.j)).setCell ⟨B, 4, none⟩ (.int .i64 x.c)).setCell ⟨B, 5, none⟩ (.int .i64 x.m)).setCell ⟨B, 6, none⟩ (.int .u64 x.a)).setCell ⟨B, 7, none⟩ (.int .u64 x.p)).setCell ⟨B, 8, none⟩ (.bool x.fd)).setCell ⟨B, 9, none⟩ (.int .i64 x.tl)).setCell ⟨B, 10, none⟩ (.int .i64 x.cy))
theorem heap_putC (w : World) (B : Nat) (x : Co) {k : Nat} (hB : k ≠ B) : (putC w B x).heap[k]? = w.heap[k]? := (Below.heap_setCell _ _ _ _ hB).trans ((Below.heap_setCell _ _ _ _ hB).trans ((Below.heap_setCell _ _ _ _ hB).trans ((Below.heap_setCell _ _ _ _ hB).trans ((Below.heap_setCell _ _ _ _ hB).trans ((Below.heap_setCell _ _ _ _ hB).trans ((Below.heap_setCell _ _ _ _ hB).trans ((Below.heap_setCell _ _ _ _ hB).trans (Below.heap_setCell _ _ _ _ hB))))))))
theorem size_putC (w : World) (B : Nat) (x : Co) : (putC w B x).heap.size = w.heap.size := by simp [World.setCell]
theorem Sav.putC {S : Nat → Prop} {w w' : World} (h : Sav S w w') {B : Nat} (hB : S B ∨ w.heap.size ≤ B) (x : Co) : Sav S w (putC w' B x) := (((((((((h.set (p := ⟨B, 2, none⟩) hB _).set (p := ⟨B, 3, none⟩) hB _).set (p := ⟨B, 4, none⟩) hB _).set (p := ⟨B, 5, none⟩) hB _).set (p := ⟨B, 6, none⟩) hB _).set (p := ⟨B, 7, none⟩) hB _).set (p := ⟨B, 8, none⟩) hB _).set (p := ⟨B, 9, none⟩) hB _).set (p := ⟨B, 10, none⟩) hB _)
namespace BkAt
variable {w w' : World} {B H R n : Nat} {x : Co}
theorem cells (h : BkAt w B H R n x) : w.cell? ⟨B, 0, none⟩ = some (.pointer (some ⟨H, 0, none⟩)) ∧ w.cell? ⟨B, 1, none⟩ = some (.slice (some ⟨R, 0, none⟩) n n) ∧ w.cell? ⟨B, 2, none⟩ = some (.int .i64 x.l) ∧ w.cell? ⟨B, 3, none⟩ = some (.int .i64 x.j) ∧ w.cell? ⟨B, 4, none⟩ = some (.int .i64 x.c) ∧ w.cell? ⟨B, 5, none⟩ = some (.int .i64 x.m) ∧ w.cell? ⟨B, 6, none⟩ = some (.int .u64 x.a) ∧ w.cell? ⟨B, 7, none⟩ = some (.int .u64 x.p) ∧ w.cell? ⟨B, 8, none⟩ = some (.bool x.fd) ∧ w.cell? ⟨B, 9, none⟩ = some (.int .i64 x.tl) ∧ w.cell? ⟨B, 10, none⟩ = some (.int .i64 x.cy) ∧ (∀ j, w.frozen? ⟨B, j, none⟩ = false) := by
  unfold BkAt at h
  refine ⟨by simp [World.cell?, h], by simp [World.cell?, h], by simp [World.cell?, h], by simp [World.cell?, h], by simp [World.cell?, h], by simp [World.cell?, h], by simp [World.cell?, h], by simp [World.cell?, h], by simp [World.cell?, h], by simp [World.cell?, h], by simp [World.cell?, h], fun j => by simp [World.frozen?, h]⟩
theorem lt (h : BkAt w B H R n x) : B < w.heap.size := (Array.getElem?_eq_some_iff.1 h).1
theorem other (h : BkAt w B H R n x) (e : w'.heap[B]? = w.heap[B]?) : BkAt w' B H R n x := e.trans h
theorem put (h : BkAt w B H R n x) (y : Co) : BkAt (putC w B y) B H R n y := by
  unfold BkAt at *; simp [World.setCell, Array.getElem?_modify, h]
end BkAt
def Env (w : World) : Prop := SpansAt w ∧ RowsAt w
def GLo (lo : Nat) : Prop := 0 < lo ∧ 1 < lo
theorem Env.lo {w : World} (h : Env w) : GLo w.heap.size := ⟨lt_of_cell h.1.1.1, lt_of_cell (h.2.name 0 (by omega))⟩
theorem Env.other {w w' : World} (h : Env w) (e1 : w'.heap[0]? = w.heap[0]?) (e2 : w'.heap[1]? = w.heap[1]?) : Env w' := by
  have k1 : ∀ j v, w.cell? ⟨0, j, none⟩ = some v → w'.cell? ⟨0, j, none⟩ = some v := fun j v e => (World.cell?_of_block (a := ⟨0, j, none⟩) e1).trans e
  obtain ⟨⟨⟨a1, a2, a3⟩, ⟨b1, b2, b3⟩, ⟨c1, c2, c3⟩, ⟨d1, d2, d3⟩⟩, hr⟩ := h
  exact ⟨⟨⟨k1 _ _ a1, k1 _ _ a2, k1 _ _ a3⟩, ⟨k1 _ _ b1, k1 _ _ b2, k1 _ _ b3⟩, ⟨k1 _ _ c1, k1 _ _ c2, k1 _ _ c3⟩, ⟨k1 _ _ d1, k1 _ _ d2, k1 _ _ d3⟩⟩,
    ⟨fun i hi => (World.cell?_of_block (a := ⟨1, i * 2, none⟩) e2).trans (hr.name i hi), fun i hi => (World.cell?_of_block (a := ⟨1, i * 2 + 1, none⟩) e2).trans (hr.has i hi)⟩⟩
theorem Env.below {w w' : World} (h : Env w) (hb : Below w.heap.size w w') : Env w' := h.other (hb.block _ h.lo.1) (hb.block _ h.lo.2)
def In (lo hi : Nat) : Nat → Prop := fun k => lo ≤ k ∧ k < hi
theorem Env.sav {w w' : World} {lo hi : Nat} (h : Env w) (hl : GLo lo) (hs : Sav (In lo hi) w w') : Env w' :=
  h.other (hs.block _ h.lo.1 (fun e => by have := hl.1; have := e.1; omega)) (hs.block _ h.lo.2 (fun e => by have := hl.2; have := e.1; omega))
def LfSl (w : World) (Q : Nat → Prop) (v : Value) (L : List Opn) : Prop := ∃ a cap, v = .slice a L.length cap ∧ L.length ≤ cap ∧ (L.length = 0 ∨ ∃ b off, a = some ⟨b, off, none⟩ ∧ Q b ∧ ∀ k, (h : k < L.length) → OpAt w b (off + k * 4) L[k])
theorem LfSl.other {w w' : World} {Q : Nat → Prop} {v : Value} {L : List Opn} (h : LfSl w Q v L) (e : ∀ k, Q k → k < w.heap.size → w'.heap[k]? = w.heap[k]?) : LfSl w' Q v L := by
  obtain ⟨a, cap, rfl, hc, h⟩ := h
  refine ⟨a, cap, rfl, hc, h.imp id ?_⟩
  rintro ⟨b, off, rfl, hq, h'⟩
  exact ⟨b, off, rfl, hq, fun k hk => (h' k hk).other (e b hq (h' k hk).lt)⟩
theorem LfSl.cons {w : World} {Q : Nat → Prop} {v : Value} {o : Opn} {l : List Opn} (h : LfSl w Q v (o :: l)) : ∃ b off cap, v = .slice (some ⟨b, off, none⟩) (l.length + 1) cap ∧ l.length + 1 ≤ cap ∧ OpAt w b off o ∧ LfSl w Q (.slice (some ⟨b, off + 4, none⟩) l.length (cap - 1)) l ∧ (cap = 1 → LfSl w Q (.slice (some ⟨b, off, none⟩) l.length 0) l) := by
  obtain ⟨a, cap, rfl, hc, h⟩ := h
  obtain ⟨b, off, rfl, hq, h'⟩ := h.resolve_left (by simp)
  rw [List.length_cons] at hc
  have h0 := h' 0 (by simp)
  rw [Nat.zero_mul, Nat.add_zero] at h0
  refine ⟨b, off, cap, rfl, hc, h0, ⟨_, _, rfl, by omega, ?_⟩, fun e => ⟨_, _, rfl, by omega, .inl (by omega)⟩⟩
  refine .inr ⟨b, off + 4, rfl, hq, fun k hk => ?_⟩
  have := h' (k + 1) (by simp; omega)
  rw [show off + (k + 1) * 4 = off + 4 + k * 4 by omega] at this
  exact this
structure WoK where
  H : Nat
  A : Nat
  G : Nat
  R : Nat
  B : Nat
  n : Nat
  lo : Nat
  hi : Nat
def WoK.ops (q : WoK) (b : Nat) : Prop := q.lo ≤ b ∧ b < q.hi ∧ b ≠ q.H ∧ b ≠ q.A ∧ b ≠ q.G ∧ b ≠ q.R ∧ b ≠ q.B
structure WoN (q : WoK) : Prop where
  h : In q.lo q.hi q.H
  a : In q.lo q.hi q.A
  g : In q.lo q.hi q.G
  r : In q.lo q.hi q.R
  b : In q.lo q.hi q.B
  rh : q.R ≠ q.H
  ra : q.R ≠ q.A
  rg : q.R ≠ q.G
  rb : q.R ≠ q.B
  bh : q.B ≠ q.H
  ba : q.B ≠ q.A
  bg : q.B ≠ q.G
structure WoAt (w : World) (q : WoK) (C : Cf) (S : Ws) : Prop where
  env : Env w
  glo : GLo q.lo
  hi : q.hi ≤ w.heap.size
  ne : WoN q
  nb : (q.n : Int) = C.b
  right : Right C.a C.b C.c C.d
  n0 : 0 < C.n
  hand : ∃ k i x y o, HAt w q.H q.A q.G C ⟨S.f, k, i, x, y, o⟩
  bk : BkAt w q.B q.H q.R q.n S.x
  mt : ∃ lv, MtAt w q.R q.n S.mu lv ∧ ∀ i, i < q.n → LfSl w q.ops (lv i) (S.lf i)
namespace WoAt
variable {w w' : World} {q : WoK} {C : Cf} {S : Ws}
theorem nA (h : WoAt w q C S) : q.A ≠ q.H ∧ q.G ≠ q.H ∧ q.A ≠ q.G := by
  obtain ⟨_, _, _, _, _, hh⟩ := h.hand
  exact ⟨hh.nA.symm, hh.nG.symm, hh.ar.ne⟩
theorem out (h : WoAt w q C S) (he : Env w') (hz : w.heap.size ≤ w'.heap.size) (hb : ∀ k, q.lo ≤ k → k < q.hi → w'.heap[k]? = w.heap[k]?) : WoAt w' q C S := by
  have n := h.ne
  obtain ⟨k, i, x, y, o, hh⟩ := h.hand
  obtain ⟨lv, hm, hl⟩ := h.mt
  exact ⟨he, h.glo, Nat.le_trans h.hi hz, n, h.nb, h.right, h.n0, ⟨k, i, x, y, o, hh.other (hb _ n.h.1 n.h.2) (hb _ n.a.1 n.a.2) (hb _ n.g.1 n.g.2)⟩, h.bk.other (hb _ n.b.1 n.b.2),
    lv, hm.other (hb _ n.r.1 n.r.2), fun i hi => (hl i hi).other (fun k hq _ => hb k hq.1 hq.2.1)⟩
theorem below (h : WoAt w q C S) (hb : Below w.heap.size w w') : WoAt w' q C S :=
  h.out (h.env.below hb) hb.size (fun k _ h2 => hb.block k (Nat.lt_of_lt_of_le h2 h.hi))
theorem drew (h : WoAt w q C S) : WoAt w.drew q C S := h.below (Below.refl _ _).drew
theorem hands (h : WoAt w q C S) (hs : Sav (HG q.H q.G) w w') : Sav (In q.lo q.hi) w w' := hs.mono (fun _ e => e.elim (fun e => e ▸ h.ne.h) (fun e => e ▸ h.ne.g))
theorem act (h : WoAt w q C S) {s : Dy} (hh : HAt w' q.H q.A q.G C s) (hs : Sav (HG q.H q.G) w w') : WoAt w' q C { S with f := s.f } := by
  have n := h.ne; have na := h.nA
  have hb : ∀ k, k < q.hi → k ≠ q.H → k ≠ q.G → w'.heap[k]? = w.heap[k]? := fun k h1 h2 h3 => hs.block k (Nat.lt_of_lt_of_le h1 h.hi) (fun e => e.elim h2 h3)
  obtain ⟨lv, hm, hl⟩ := h.mt
  exact ⟨h.env.sav h.glo (h.hands hs), h.glo, Nat.le_trans h.hi hs.size, n, h.nb, h.right, h.n0, ⟨s.k, s.i, s.x, s.y, s.o, hh⟩, h.bk.other (hb _ n.b.2 n.bh n.bg),
    lv, hm.other (hb _ n.r.2 n.rh n.rg), fun i hi => (hl i hi).other (fun k hq _ => hb k hq.2.1 hq.2.2.1 hq.2.2.2.2.1)⟩
theorem row (h : WoAt w q C S) {mu : Nat → Mu} {lf : Nat → List Opn} (hb : ∀ k, k ≠ q.R → w'.heap[k]? = w.heap[k]?) (hz : w.heap.size ≤ w'.heap.size) (hm : ∃ lv, MtAt w' q.R q.n mu lv ∧ ∀ i, i < q.n → LfSl w' q.ops (lv i) (lf i)) : WoAt w' q C { S with mu := mu, lf := lf } := by
  have n := h.ne
  obtain ⟨k, i, x, y, o, hh⟩ := h.hand
  exact ⟨h.env.other (hb _ (fun e => by have := h.glo.1; have := n.r.1; omega)) (hb _ (fun e => by have := h.glo.2; have := n.r.1; omega)), h.glo, Nat.le_trans h.hi hz, n, h.nb, h.right, h.n0,
    ⟨k, i, x, y, o, hh.other (hb _ n.rh.symm) (hb _ n.ra.symm) (hb _ n.rg.symm)⟩, h.bk.other (hb _ n.rb.symm), hm⟩
theorem putM (h : WoAt w q C S) (i : Nat) (m : Mu) : WoAt (pW14 w q.R (i * 14) m) q C { S with mu := upn S.mu i m } := by
  obtain ⟨lv, hm, hl⟩ := h.mt
  exact h.row (fun k hk => heap_pW14 w q.R _ m hk) (by rw [size_pW14]; exact Nat.le_refl _) ⟨lv, hm.put i m, fun i hi => (hl i hi).other (fun k hq _ => heap_pW14 w q.R _ m hq.2.2.2.2.2.1)⟩
theorem setL (h : WoAt w q C S) (i : Nat) {v : Value} {l : List Opn} (hv : LfSl w q.ops v l) : WoAt (w.setCell ⟨q.R, i * 14 + 13, none⟩ v) q C { S with lf := upn S.lf i l } := by
  obtain ⟨lv, hm, hl⟩ := h.mt
  refine h.row (fun k hk => Below.heap_setCell _ _ _ _ hk) (by simp [World.setCell]) ⟨_, hm.setV i v, fun j hj => ?_⟩
  have ho : ∀ {v' : Value} {L : List Opn}, LfSl w q.ops v' L → LfSl (w.setCell ⟨q.R, i * 14 + 13, none⟩ v) q.ops v' L := fun h => h.other (fun k hq _ => Below.heap_setCell _ _ _ _ hq.2.2.2.2.2.1)
  unfold upn
  by_cases e : j = i
  · rw [if_pos e, if_pos e]; exact ho hv
  · rw [if_neg e, if_neg e]; exact ho (hl j hj)
theorem putC (h : WoAt w q C S) (x : Co) : WoAt (putC w q.B x) q C { S with x := x } := by
  have n := h.ne
  have hb : ∀ k, k ≠ q.B → (Go.Proofs.YtbpooljohjkbjaaGreatDoor.putC w q.B x).heap[k]? = w.heap[k]? := fun k hk => heap_putC w q.B x hk
  obtain ⟨k, i, a, y, o, hh⟩ := h.hand
  obtain ⟨lv, hm, hl⟩ := h.mt
  exact ⟨h.env.other (hb _ (fun e => by have := h.glo.1; have := n.b.1; omega)) (hb _ (fun e => by have := h.glo.2; have := n.b.1; omega)), h.glo, by rw [size_putC]; exact h.hi, n, h.nb, h.right, h.n0,
    ⟨k, i, a, y, o, hh.other (hb _ n.bh.symm) (hb _ n.ba.symm) (hb _ n.bg.symm)⟩, h.bk.put x, lv, hm.other (hb _ n.rb), fun i hi => (hl i hi).other (fun k hq _ => hb k hq.2.2.2.2.2.2)⟩
end WoAt
def EvV (base : Nat) (w' : World) (v : Value) (e : Ev) : Prop := ∃ nv, v = .agg #[.bool e.ran, .int .i64 e.k, .int .i64 e.i, .int .u64 e.x, .int .u64 e.y, .int .u64 e.o, nv] ∧ NtsSl w' nv e.nts ∧ ∀ k, nv.ownBlock = some k → base ≤ k
end Go.Proofs.YtbpooljohjkbjaaGreatDoor
/- The small functions of package world. -/
namespace Go.Proofs.YtbpooljohjkbjaaGreatDoor
open Go Go.RowKit
set_option maxRecDepth 100000
attribute [local go_sem ↓] Go.wp_at_zero Go.wp_at_succ
def toldN (b : Int) (x : Co) (wh : Int) : List Nt :=
  if wh = 1 then [⟨b, 4, 0, 0, 0, 0, 0⟩] else if wh = 2 then [⟨b, 5, 0, 0, 0, 0, x.tl⟩] else if wh = 3 then [⟨b, 6, 0, 0, 0, 0, x.cy⟩] else if wh = 5 then [⟨b, 5, 0, 0, 0, 0, x.tl⟩, ⟨b, 6, 0, 0, 0, 0, x.cy⟩] else []
section
variable {w : World} {q : WoK} {C : Cf} {S : Ws}
theorem wNone_c (h : WoAt w q C S) : Calls Tryz.prog 29 #[.pointer (some ⟨q.B, 0, none⟩)] w fun e w' => e = .returned (.bool false) ∧ w = w' := by
  obtain ⟨b0, b1, b2, b3, b4, b5, b6, b7, b8, b9, b10, bf⟩ := h.bk.cells
  clear h
  go_enter Tryz.func29, Tryz.ntmps29
  go_wp2_with fail
  go_ret
  exact ⟨rfl, rfl⟩
theorem wCol_c (h : WoAt w q C S) : Calls Tryz.prog 30 #[.pointer (some ⟨q.B, 0, none⟩)] w fun e w' => e = .returned (.int .i64 C.b) ∧ w = w' := by
  obtain ⟨b0, b1, b2, b3, b4, b5, b6, b7, b8, b9, b10, bf⟩ := h.bk.cells
  rw [← h.nb]
  clear h
  go_enter Tryz.func30, Tryz.ntmps30
  go_wp2_with fail
  go_ret
  exact ⟨rfl, rfl⟩
theorem wHas_c (h : WoAt w q C S) (m : Int) : Calls Tryz.prog 33 #[.pointer (some ⟨q.B, 0, none⟩), .int .i64 m] w fun e w' => e = .returned (.bool (decide (0 ≤ m ∧ m < C.b))) ∧ w = w' := by
  have HN := Lib.hid (wNone_c h)
  obtain ⟨b0, b1, b2, b3, b4, b5, b6, b7, b8, b9, b10, bf⟩ := h.bk.cells
  rw [← h.nb]
  clear h
  by_cases h0 : 0 ≤ m
  · have d0 : decide ((0 : Int) ≤ m) = true := decide_eq_true h0
    by_cases h1 : m < (q.n : Int)
    · have d1 : decide (m < (q.n : Int)) = true := decide_eq_true h1
      have d2 : decide (0 ≤ m ∧ m < (q.n : Int)) = true := decide_eq_true ⟨h0, h1⟩
      rw [d2]
      clear h0 h1 d2
      go_enter Tryz.func33, Tryz.ntmps33
      go_wp2_with fail
      refine HN.out.mono ?_
      rintro e V ⟨rfl, rfl⟩
      go_wp2_with fail
      go_ret
      exact ⟨rfl, rfl⟩
    · have d1 : decide (m < (q.n : Int)) = false := decide_eq_false h1
      have d2 : decide (0 ≤ m ∧ m < (q.n : Int)) = false := decide_eq_false (fun e => h1 e.2)
      rw [d2]
      clear h0 h1 d2
      go_enter Tryz.func33, Tryz.ntmps33
      go_wp2_with fail
      refine HN.out.mono ?_
      rintro e V ⟨rfl, rfl⟩
      go_wp2_with fail
      go_ret
      exact ⟨rfl, rfl⟩
  · have d0 : decide ((0 : Int) ≤ m) = false := decide_eq_false h0
    have d2 : decide (0 ≤ m ∧ m < (q.n : Int)) = false := decide_eq_false (fun e => h0 e.1)
    rw [d2]
    clear h0 d2
    go_enter Tryz.func33, Tryz.ntmps33
    go_wp2_with fail
    refine HN.out.mono ?_
    rintro e V ⟨rfl, rfl⟩
    go_wp2_with fail
    go_ret
    exact ⟨rfl, rfl⟩
theorem wBusy_yes (h : WoAt w q C S) {m : Nat} (hm : (m : Int) < C.b) : Calls Tryz.prog 15 #[.pointer (some ⟨q.B, 0, none⟩), .int .i64 (m : Int)] w fun e w' => e = .returned (.bool (!((S.mu m).l == 0))) ∧ w = w' := by
  have HN := Lib.hid (wHas_c h m)
  have hk : (m : Int) < (q.n : Int) := by rw [h.nb]; exact hm
  have hk0 : (0 : Int) ≤ (m : Int) := by omega
  rw [show decide (0 ≤ (m : Int) ∧ (m : Int) < C.b) = true from decide_eq_true ⟨hk0, hm⟩] at HN
  obtain ⟨b0, b1, b2, b3, b4, b5, b6, b7, b8, b9, b10, bf⟩ := h.bk.cells
  obtain ⟨lv, hmt, _⟩ := h.mt
  obtain ⟨c0, _⟩ := hmt.cells (i := m) (by omega)
  clear h hmt hm
  go_enter Tryz.func15, Tryz.ntmps15
  go_wp2_with fail
  refine HN.out.mono ?_
  rintro e V ⟨rfl, rfl⟩
  go_wp2_with fail
  go_ret
  exact ⟨rfl, rfl⟩
theorem wBusy_no (h : WoAt w q C S) {m : Int} (hm : ¬ (0 ≤ m ∧ m < C.b)) : Calls Tryz.prog 15 #[.pointer (some ⟨q.B, 0, none⟩), .int .i64 m] w fun e w' => e = .returned (.bool false) ∧ w = w' := by
  have HN := Lib.hid (wHas_c h m)
  rw [show decide (0 ≤ m ∧ m < C.b) = false from decide_eq_false hm] at HN
  clear h hm
  go_enter Tryz.func15, Tryz.ntmps15
  go_wp2_with fail
  refine HN.out.mono ?_
  rintro e V ⟨rfl, rfl⟩
  go_wp2_with fail
  go_ret
  exact ⟨rfl, rfl⟩
end
theorem wFull_c (x : Mu) (w : World) : Calls Tryz.prog 47 #[x.v] w fun e w' => e = .returned (.int .i64 (if x.rt = 5 then 5 else 0)) ∧ Below w.heap.size w w' := by
  have HX := Lib.hid (Mut13.new w x.l x.p x.bk x.q1 x.q2 x.q3 x.q4 x.m1 x.m2 x.m3 x.m4 x.m5 x.rt)
  have HB := Lib.hid (below_new w (.cells #[.int .i64 x.l, .int .i64 x.q1, .int .i64 x.q2, .int .i64 x.q3, .int .i64 x.q4, .int .u64 x.m1, .int .u64 x.m2, .int .u64 x.m3, .int .u64 x.m4, .int .u64 x.m5, .int .u64 x.p, .int .i64 x.bk, .int .i64 x.rt] 60))
  obtain ⟨a0, a1, a2, a3, a4, a5, a6, a7, a8, a9, a10, a11, a12, af⟩ := HX.out.cells
  by_cases h5 : x.rt = 5
  · have g5 : (x.rt == 5) = true := by simpa using h5
    rw [if_pos h5]
    clear h5
    go_enter Tryz.func47, Tryz.ntmps47
    go_wp2_with fail
    go_ret
    exact ⟨rfl, HB.out⟩
  · have g5 : (x.rt == 5) = false := by simpa using h5
    rw [if_neg h5]
    clear h5
    go_enter Tryz.func47, Tryz.ntmps47
    go_wp2_with fail
    go_ret
    exact ⟨rfl, HB.out⟩
end Go.Proofs.YtbpooljohjkbjaaGreatDoor
/- What the collector's step tells. -/
namespace Go.Proofs.YtbpooljohjkbjaaGreatDoor
open Go Go.RowKit
set_option maxRecDepth 100000
attribute [local go_sem ↓] Go.wp_at_zero Go.wp_at_succ
theorem nt_new (W : World) (n : Nt) : NtAt (W.alloc (.cells #[.int .i64 n.p, .int .i64 n.wh, .int .i64 n.k, .int .i64 n.x, .int .i64 n.y, .int .i64 n.z, .int .i64 n.n] 68)) W.heap.size 0 n := by
  have hb := newBlock W (.cells #[.int .i64 n.p, .int .i64 n.wh, .int .i64 n.k, .int .i64 n.x, .int .i64 n.y, .int .i64 n.z, .int .i64 n.n] 68)
  generalize W.alloc (.cells #[.int .i64 n.p, .int .i64 n.wh, .int .i64 n.k, .int .i64 n.x, .int .i64 n.y, .int .i64 n.z, .int .i64 n.n] 68) = V at *
  generalize W.heap.size = B at *
  exact ⟨by simp [World.cell?, hb], by simp [World.cell?, hb], by simp [World.cell?, hb], by simp [World.cell?, hb], by simp [World.cell?, hb], by simp [World.cell?, hb], by simp [World.cell?, hb]⟩
theorem nts_one (W : World) (n : Nt) : NtsSl (W.alloc (.cells #[.int .i64 n.p, .int .i64 n.wh, .int .i64 n.k, .int .i64 n.x, .int .i64 n.y, .int .i64 n.z, .int .i64 n.n] 68)) (.slice (some ⟨W.heap.size, 0, none⟩) 1 1) [n] := by
  refine ⟨_, 1, rfl, .inr ⟨W.heap.size, 0, rfl, fun k hk => ?_⟩⟩
  obtain rfl : k = 0 := by simp at hk; omega
  exact nt_new W n
theorem nts_two (W : World) (n m : Nt) : NtsSl (W.alloc (.cells #[.int .i64 n.p, .int .i64 n.wh, .int .i64 n.k, .int .i64 n.x, .int .i64 n.y, .int .i64 n.z, .int .i64 n.n, .int .i64 m.p, .int .i64 m.wh, .int .i64 m.k, .int .i64 m.x, .int .i64 m.y, .int .i64 m.z, .int .i64 m.n] 68)) (.slice (some ⟨W.heap.size, 0, none⟩) 2 2) [n, m] := by
  have hb := newBlock W (.cells #[.int .i64 n.p, .int .i64 n.wh, .int .i64 n.k, .int .i64 n.x, .int .i64 n.y, .int .i64 n.z, .int .i64 n.n, .int .i64 m.p, .int .i64 m.wh, .int .i64 m.k, .int .i64 m.x, .int .i64 m.y, .int .i64 m.z, .int .i64 m.n] 68)
  generalize W.alloc (.cells #[.int .i64 n.p, .int .i64 n.wh, .int .i64 n.k, .int .i64 n.x, .int .i64 n.y, .int .i64 n.z, .int .i64 n.n, .int .i64 m.p, .int .i64 m.wh, .int .i64 m.k, .int .i64 m.x, .int .i64 m.y, .int .i64 m.z, .int .i64 m.n] 68) = V at *
  generalize W.heap.size = B at *
  refine ⟨_, 2, rfl, .inr ⟨B, 0, rfl, fun k hk => ?_⟩⟩
  rcases (by simp at hk; omega : k = 0 ∨ k = 1) with rfl | rfl
  · exact ⟨by simp [World.cell?, hb], by simp [World.cell?, hb], by simp [World.cell?, hb], by simp [World.cell?, hb], by simp [World.cell?, hb], by simp [World.cell?, hb], by simp [World.cell?, hb]⟩
  · exact ⟨by simp [World.cell?, hb], by simp [World.cell?, hb], by simp [World.cell?, hb], by simp [World.cell?, hb], by simp [World.cell?, hb], by simp [World.cell?, hb], by simp [World.cell?, hb]⟩
theorem nts_none (W : World) : NtsSl W (.slice none 0 0) [] := ⟨none, 0, rfl, .inl rfl⟩
set_option maxHeartbeats 3200000 in
theorem told_c {w : World} {q : WoK} {C : Cf} {S : Ws} (h : WoAt w q C S) {wh : Int} (hw : wh = 0 ∨ wh = 1 ∨ wh = 2 ∨ wh = 3 ∨ wh = 5) :
    Calls Tryz.prog 45 #[.pointer (some ⟨q.B, 0, none⟩), .int .i64 wh] w fun e w' => ∃ nv, e = .returned nv ∧ NtsSl w' nv (toldN C.b S.x wh) ∧ (∀ k, nv.ownBlock = some k → w.heap.size ≤ k) ∧ Below w.heap.size w w' := by
  have HC : Hid (∀ W, WoAt W q C S → Calls Tryz.prog 30 #[.pointer (some ⟨q.B, 0, none⟩)] W fun e w' => e = .returned (.int .i64 C.b) ∧ W = w') := Lib.hid (fun W h => wCol_c h)
  have HW := Lib.hid h
  have HB := Lib.hid (below_new w (.cells #[.int .i64 C.b, .int .i64 4, .int .i64 0, .int .i64 0, .int .i64 0, .int .i64 0, .int .i64 0] 68))
  have HN := Lib.hid (nt_new w ⟨C.b, 4, 0, 0, 0, 0, 0⟩)
  clear h
  go_enter Tryz.func45, Tryz.ntmps45
  go_wp2_with fail
  refine (HC.out _ HW.out).mono ?_
  rintro e V ⟨rfl, rfl⟩
  go_upto_region 2 with fail
  have HW2 := Lib.hid (HW.out.below HB.out)
  generalize w.alloc (.cells #[.int .i64 C.b, .int .i64 4, .int .i64 0, .int .i64 0, .int .i64 0, .int .i64 0, .int .i64 0] 68) = W1 at *
  have HW9 := HW2.out.drew
  obtain ⟨b0, b1, b2, b3, b4, b5, b6, b7, b8, b9, b10, bf⟩ := HW2.out.bk.cells
  have nB : q.B ≠ W1.heap.size := by have := HW2.out.bk.lt; omega
  go_region_held3 (fun w' => w'.cell? ⟨q.B, 9, none⟩ = some (.int .i64 S.x.tl)) (first | assumption | go_keep)
    (first | (go_at_call 30; refine (HC.out _ ?_).mono ?_; (first | assumption | exact HW9 | exact HW9.below (below_new _ _)); rintro e V ⟨rfl, rfl⟩))
  all_goals
    have HW3 := Lib.hid (HW2.out.below (below_new W1 (.cells #[.int .i64 C.b, .int .i64 5, .int .i64 0, .int .i64 0, .int .i64 0, .int .i64 0, .int .i64 S.x.tl] 68))).drew
    have HM0 := Lib.hid ((nt_new W1 ⟨C.b, 5, 0, 0, 0, 0, S.x.tl⟩).other (V := (W1.alloc (.cells #[.int .i64 C.b, .int .i64 5, .int .i64 0, .int .i64 0, .int .i64 0, .int .i64 0, .int .i64 S.x.tl] 68)).drew) rfl)
    have HN2 := Lib.hid (HN.out.other (V := (W1.alloc (.cells #[.int .i64 C.b, .int .i64 5, .int .i64 0, .int .i64 0, .int .i64 0, .int .i64 0, .int .i64 S.x.tl] 68)).drew) ((below_new W1 (.cells #[.int .i64 C.b, .int .i64 5, .int .i64 0, .int .i64 0, .int .i64 0, .int .i64 0, .int .i64 S.x.tl] 68)).drew.block _ (lt_of_cell HN.out.1)))
    have HB2 := Lib.hid (HB.out.trans ((below_new W1 (.cells #[.int .i64 C.b, .int .i64 5, .int .i64 0, .int .i64 0, .int .i64 0, .int .i64 0, .int .i64 S.x.tl] 68)).drew.mono HB.out.size))
    clear b0 b1 b2 b3 b4 b5 b6 b7 b8 b9 b10 bf nB HW9 HW2 HN HB
    rename_i hHd
    clear hHd
    generalize (W1.alloc (.cells #[.int .i64 C.b, .int .i64 5, .int .i64 0, .int .i64 0, .int .i64 0, .int .i64 0, .int .i64 S.x.tl] 68)).drew = W2 at *
    generalize W1.heap.size = K1 at *
    have HW2 := HW3
    have HW9 := HW3.out.drew
    obtain ⟨b0, b1, b2, b3, b4, b5, b6, b7, b8, b9, b10, bf⟩ := HW3.out.bk.cells
    have nB : q.B ≠ W2.heap.size := by have := HW3.out.bk.lt; omega
    go_upto_region 3 with fail
    go_region_held3 (fun w' => w'.cell? ⟨q.B, 10, none⟩ = some (.int .i64 S.x.cy)) (first | assumption | go_keep)
      (first | (go_at_call 30; refine (HC.out _ ?_).mono ?_; (first | assumption | exact HW9 | exact HW9.below (below_new _ _)); rintro e V ⟨rfl, rfl⟩))
  all_goals
    rename_i hHd
    clear hHd
    have HM := Lib.hid ((HM0.out.other (V := (W2.alloc (.cells #[.int .i64 C.b, .int .i64 6, .int .i64 0, .int .i64 0, .int .i64 0, .int .i64 0, .int .i64 S.x.cy] 68)).drew) ((below_new W2 (.cells #[.int .i64 C.b, .int .i64 6, .int .i64 0, .int .i64 0, .int .i64 0, .int .i64 0, .int .i64 S.x.cy] 68)).drew.block _ (lt_of_cell HM0.out.1))))
    have HN3 := Lib.hid ((HN2.out.other (V := (W2.alloc (.cells #[.int .i64 C.b, .int .i64 6, .int .i64 0, .int .i64 0, .int .i64 0, .int .i64 0, .int .i64 S.x.cy] 68)).drew) ((below_new W2 (.cells #[.int .i64 C.b, .int .i64 6, .int .i64 0, .int .i64 0, .int .i64 0, .int .i64 0, .int .i64 S.x.cy] 68)).drew.block _ (lt_of_cell HN2.out.1))))
    have HO := Lib.hid ((nt_new W2 ⟨C.b, 6, 0, 0, 0, 0, S.x.cy⟩).other (V := (W2.alloc (.cells #[.int .i64 C.b, .int .i64 6, .int .i64 0, .int .i64 0, .int .i64 0, .int .i64 0, .int .i64 S.x.cy] 68)).drew) rfl)
    have HB3 := Lib.hid (HB2.out.trans ((below_new W2 (.cells #[.int .i64 C.b, .int .i64 6, .int .i64 0, .int .i64 0, .int .i64 0, .int .i64 0, .int .i64 S.x.cy] 68)).drew.mono HB2.out.size))
    clear b0 b1 b2 b3 b4 b5 b6 b7 b8 b9 b10 bf nB HW9 HW2 HW3 HN2 HM0 HB2
    generalize (W2.alloc (.cells #[.int .i64 C.b, .int .i64 6, .int .i64 0, .int .i64 0, .int .i64 0, .int .i64 0, .int .i64 S.x.cy] 68)).drew = W3 at *
    generalize W2.heap.size = K2 at *
    have hz := HB3.out.size
    generalize hK0 : w.heap.size = K0 at *
    obtain ⟨n0, n1, n2, n3, n4, n5, n6⟩ := HN3.out
    obtain ⟨m0, m1, m2, m3, m4, m5, m6⟩ := HM.out
    obtain ⟨o0, o1, o2, o3, o4, o5, o6⟩ := HO.out
    dsimp only at n0 n1 n2 n3 n4 n5 n6 m0 m1 m2 m3 m4 m5 m6 o0 o1 o2 o3 o4 o5 o6
    rcases hw with rfl | rfl | rfl | rfl | rfl
    · go_wp2_with fail
      go_ret
      exact ⟨.slice none 0 0, rfl, nts_none _, (fun k e => by cases e), by rw [hK0]; exact HB3.out⟩
    · go_wp2_with fail
      go_ret
      exact ⟨.slice (some ⟨W3.heap.size, 0, none⟩) 1 1, rfl, nts_one W3 ⟨C.b, 4, 0, 0, 0, 0, 0⟩, fun k e => by cases e; show w.heap.size ≤ _; rw [hK0]; exact hz, by rw [hK0]; exact HB3.out.trans ((below_new _ _).mono hz)⟩
    · go_wp2_with fail
      go_ret
      exact ⟨.slice (some ⟨W3.heap.size, 0, none⟩) 1 1, rfl, nts_one W3 ⟨C.b, 5, 0, 0, 0, 0, S.x.tl⟩, fun k e => by cases e; show w.heap.size ≤ _; rw [hK0]; exact hz, by rw [hK0]; exact HB3.out.trans ((below_new _ _).mono hz)⟩
    · go_wp2_with fail
      go_ret
      exact ⟨.slice (some ⟨W3.heap.size, 0, none⟩) 1 1, rfl, nts_one W3 ⟨C.b, 6, 0, 0, 0, 0, S.x.cy⟩, fun k e => by cases e; show w.heap.size ≤ _; rw [hK0]; exact hz, by rw [hK0]; exact HB3.out.trans ((below_new _ _).mono hz)⟩
    · go_wp2_with fail
      go_ret
      exact ⟨.slice (some ⟨W3.heap.size, 0, none⟩) 2 2, rfl, nts_two W3 ⟨C.b, 5, 0, 0, 0, 0, S.x.tl⟩ ⟨C.b, 6, 0, 0, 0, 0, S.x.cy⟩, fun k e => by cases e; show w.heap.size ≤ _; rw [hK0]; exact hz, by rw [hK0]; exact HB3.out.trans ((below_new _ _).mono hz)⟩
end Go.Proofs.YtbpooljohjkbjaaGreatDoor
/- What a step of a world carries. -/
namespace Go.Proofs.YtbpooljohjkbjaaGreatDoor
open Go Go.RowKit
set_option maxRecDepth 100000
attribute [local go_sem ↓] Go.wp_at_zero Go.wp_at_succ
def EvAt (w : World) (E : Nat) (r : Bool) (k i x y o : Int) (nv : Value) : Prop := w.heap[E]? = some (.cells #[.bool r, .int .i64 k, .int .i64 i, .int .u64 x, .int .u64 y, .int .u64 o, nv] 41 (0, 0))
abbrev putE (w : World) (E : Nat) (r : Bool) (k i x y o : Int) (nv : Value) : World := (((((((w.setCell ⟨E, 0, none⟩ (.bool r)).setCell ⟨E, 1, none⟩ (.int .i64 k)).setCell ⟨E, 2, none⟩ (.int .i64 i)).setCell ⟨E, 3, none⟩ (.int .u64 x)).setCell ⟨E, 4, none⟩ (.int .u64 y)).setCell ⟨E, 5, none⟩ (.int .u64 o)).setCell ⟨E, 6, none⟩ (nv))
theorem heap_putE (w : World) (E : Nat) (r : Bool) (k i x y o : Int) (nv : Value) {B : Nat} (hB : B ≠ E) : (putE w E r k i x y o nv).heap[B]? = w.heap[B]? := (Below.heap_setCell _ _ _ _ hB).trans ((Below.heap_setCell _ _ _ _ hB).trans ((Below.heap_setCell _ _ _ _ hB).trans ((Below.heap_setCell _ _ _ _ hB).trans ((Below.heap_setCell _ _ _ _ hB).trans ((Below.heap_setCell _ _ _ _ hB).trans (Below.heap_setCell _ _ _ _ hB))))))
theorem size_putE (w : World) (E : Nat) (r : Bool) (k i x y o : Int) (nv : Value) : (putE w E r k i x y o nv).heap.size = w.heap.size := by simp [World.setCell]
theorem Sav.putE {S : Nat → Prop} {w w' : World} (h : Sav S w w') {E : Nat} (hE : S E ∨ w.heap.size ≤ E) (r : Bool) (k i x y o : Int) (nv : Value) : Sav S w (putE w' E r k i x y o nv) := (((((((h.set (p := ⟨E, 0, none⟩) hE _).set (p := ⟨E, 1, none⟩) hE _).set (p := ⟨E, 2, none⟩) hE _).set (p := ⟨E, 3, none⟩) hE _).set (p := ⟨E, 4, none⟩) hE _).set (p := ⟨E, 5, none⟩) hE _).set (p := ⟨E, 6, none⟩) hE _)
namespace EvAt
variable {w w' : World} {E : Nat} {r : Bool} {k i x y o : Int} {nv : Value}
theorem cells (h : EvAt w E r k i x y o nv) : w.cell? ⟨E, 0, none⟩ = some (.bool r) ∧ w.cell? ⟨E, 1, none⟩ = some (.int .i64 k) ∧ w.cell? ⟨E, 2, none⟩ = some (.int .i64 i) ∧ w.cell? ⟨E, 3, none⟩ = some (.int .u64 x) ∧ w.cell? ⟨E, 4, none⟩ = some (.int .u64 y) ∧ w.cell? ⟨E, 5, none⟩ = some (.int .u64 o) ∧ w.cell? ⟨E, 6, none⟩ = some (nv) ∧ (∀ j, w.frozen? ⟨E, j, none⟩ = false) := by
  unfold EvAt at h
  exact ⟨by simp [World.cell?, h], by simp [World.cell?, h], by simp [World.cell?, h], by simp [World.cell?, h], by simp [World.cell?, h], by simp [World.cell?, h], by simp [World.cell?, h], fun j => by simp [World.frozen?, h]⟩
theorem lt (h : EvAt w E r k i x y o nv) : E < w.heap.size := (Array.getElem?_eq_some_iff.1 h).1
theorem other (h : EvAt w E r k i x y o nv) (e : w'.heap[E]? = w.heap[E]?) : EvAt w' E r k i x y o nv := e.trans h
theorem put (h : EvAt w E r k i x y o nv) (r' : Bool) (k' i' x' y' o' : Int) (nv' : Value) : EvAt (putE w E r' k' i' x' y' o' nv') E r' k' i' x' y' o' nv' := by
  unfold EvAt at *; simp [World.setCell, Array.getElem?_modify, h]
theorem new (w : World) : EvAt (w.alloc (.cells #[.bool false, .int .i64 0, .int .i64 0, .int .u64 0, .int .u64 0, .int .u64 0, .slice none 0 0] 41)) w.heap.size false 0 0 0 0 0 (.slice none 0 0) := newBlock _ _
end EvAt
def ntC (n : Nt) : List Value := [.int .i64 n.p, .int .i64 n.wh, .int .i64 n.k, .int .i64 n.x, .int .i64 n.y, .int .i64 n.z, .int .i64 n.n]
def ntsV : List Nt → List Value
  | [] => []
  | n :: L => ntC n ++ ntsV L
theorem ntsV_append (L M : List Nt) : ntsV (L ++ M) = ntsV L ++ ntsV M := by
  induction L with
  | nil => rfl
  | cons n L ih => show ntC n ++ ntsV (L ++ M) = (ntC n ++ ntsV L) ++ ntsV M; rw [ih, List.append_assoc]
theorem ntsV_length (L : List Nt) : (ntsV L).length = L.length * 7 := by
  induction L with
  | nil => rfl
  | cons n L ih => show (ntC n ++ ntsV L).length = _; rw [List.length_append, ih, List.length_cons]; show 7 + _ = _; omega
theorem ntsV_get (L : List Nt) : ∀ k (hk : k < L.length) j, j < 7 → (ntsV L)[k * 7 + j]? = (ntC L[k])[j]? := by
  induction L with
  | nil => intro k hk; simp at hk
  | cons n L ih =>
    intro k hk j hj
    show (ntC n ++ ntsV L)[k * 7 + j]? = _
    cases k with
    | zero => rw [List.getElem?_append_left (by show _ < 7; omega), Nat.zero_mul, Nat.zero_add]; rfl
    | succ k =>
      rw [List.getElem?_append_right (by show 7 ≤ _; omega)]
      have := ih k (by simp at hk; omega) j hj
      rw [show (k + 1) * 7 + j - (ntC n).length = k * 7 + j by show _ - 7 = _; omega]
      exact this
theorem ntsV_one (L : List Nt) : ∀ u ∈ ntsV L, u.oneCell' = true := by
  induction L with
  | nil => intro u hu; simp [ntsV] at hu
  | cons n L ih =>
    intro u hu
    rcases List.mem_append.1 (show u ∈ ntC n ++ ntsV L from hu) with h | h
    · simp only [ntC, List.mem_cons, List.mem_nil_iff, or_false] at h
      rcases h with rfl | rfl | rfl | rfl | rfl | rfl | rfl <;> rfl
    · exact ih u h
abbrev NtR (w : World) (base : Nat) (nv : Value) (L : List Nt) : Prop := w.ownsRow base 68 7 nv L.length (ntsV L)
theorem NtR.nts {w : World} {base : Nat} {nv : Value} {L : List Nt} (h : NtR w base nv L) : NtsSl w nv L ∧ ∀ k, nv.ownBlock = some k → base ≤ k := by
  refine ⟨?_, fun k e => (World.ownsRow.lt h k e).1⟩
  have h' := h
  obtain ⟨_, ⟨rfl, hn⟩ | ⟨g, cap, cur, rfl, hb, hg, _⟩⟩ := h
  · exact ⟨none, 0, by rw [hn], .inl hn⟩
  · refine ⟨some ⟨g, 0, none⟩, cap, rfl, .inr ⟨g, 0, rfl, fun k hk => ?_⟩⟩
    have key : ∀ j u, j < 7 → (ntC L[k])[j]? = some u → w.cell? ⟨g, 0 + k * 7 + j, none⟩ = some u := fun j u hj hu => by
      have := World.ownsRow.cells h' rfl (k * 7 + j) u ((ntsV_get L k hk j hj).trans hu)
      rw [Addr.add_lit, Nat.zero_add] at this
      rw [Nat.zero_add]; exact this
    exact ⟨key 0 _ (by omega) rfl, key 1 _ (by omega) rfl, key 2 _ (by omega) rfl, key 3 _ (by omega) rfl, key 4 _ (by omega) rfl, key 5 _ (by omega) rfl, key 6 _ (by omega) rfl⟩
theorem NtR.block {w w' : World} {base : Nat} {nv : Value} {L : List Nt} (h : NtR w base nv L) (hb : ∀ k, nv.ownBlock = some k → w'.heap[k]? = w.heap[k]?) : NtR w' base nv L := by
  refine ⟨h.1, ?_⟩
  rcases h.2 with hn | ⟨g, cap, cur, rfl, hb', hgg, rest⟩
  · exact .inl hn
  · exact .inr ⟨g, cap, cur, rfl, hb', (hb g rfl).trans hgg, rest⟩
def Ib (q : WoK) (base : Nat) : Nat → Prop := fun k => In q.lo q.hi k ∨ base ≤ k
structure St0 (w W : World) (q : WoK) (C : Cf) (S : Ws) (s : Dy) (E base : Nat) (nv : Value) (L : List Nt) : Prop where
  wo : WoAt W q C S
  ha : HAt W q.H q.A q.G C s
  ev : EvAt W E false 0 0 0 0 0 (.slice none 0 0)
  row : NtR W base nv L
  sav : Sav (Ib q base) w W
  hb : q.hi ≤ base
  bE : base ≤ E
  rE : ∀ k, nv.ownBlock = some k → k ≠ E
structure StW (w W : World) (q : WoK) (C : Cf) (S : Ws) (s : Dy) (E base : Nat) (nv : Value) (L : List Nt) (K : Nat) (y : Mu) : Prop where
  st : St0 w W q C S s E base nv L
  mu : MuAt W K y
  bK : base ≤ K
  EK : K ≠ E
  rK : ∀ k, nv.ownBlock = some k → k ≠ K
namespace St0
variable {w W V : World} {q : WoK} {C : Cf} {S : Ws} {s s' : Dy} {E base : Nat} {nv : Value} {L : List Nt}
theorem below (h : St0 w W q C S s E base nv L) (hb : Below W.heap.size W V) : St0 w V q C S s E base nv L :=
  ⟨h.wo.below hb, h.ha.below hb, h.ev.other (hb.block _ h.ev.lt), h.row.block (fun k e => hb.block _ (h.row.lt k e).2), h.sav.trans (Sav.of hb), h.hb, h.bE, h.rE⟩
theorem drew (h : St0 w W q C S s E base nv L) : St0 w W.drew q C S s E base nv L := h.below (Below.refl _ _).drew
theorem start (h : WoAt w q C S) (hn : NtR w base nv L) (h1 : q.hi ≤ base) (h2 : base ≤ w.heap.size) : ∃ s : Dy, s.f = S.f ∧ St0 w (w.alloc (.cells #[.bool false, .int .i64 0, .int .i64 0, .int .u64 0, .int .u64 0, .int .u64 0, .slice none 0 0] 41)) q C S s w.heap.size base nv L := by
  obtain ⟨k, i, x, y, o, hh⟩ := h.hand
  have hb := below_new w (.cells #[.bool false, .int .i64 0, .int .i64 0, .int .u64 0, .int .u64 0, .int .u64 0, .slice none 0 0] 41)
  exact ⟨⟨S.f, k, i, x, y, o⟩, rfl, h.below hb, hh.below hb, EvAt.new w, hn.block (fun k e => hb.block _ (hn.lt k e).2), Sav.of hb, h1, h2, fun k e => by have := (hn.lt k e).2; omega⟩
theorem step (h : St0 w W q C S s E base nv L) {u : Value} {e : Ending} (hp : HP W q.H q.A q.G C s' u e V) : e = .returned u ∧ St0 w V q C { S with f := s'.f } s' E base nv L := by
  obtain ⟨rfl, hh, hs⟩ := hp
  have n := h.wo.ne
  have hb := h.hb; have bE := h.bE
  have key : ∀ k, q.hi ≤ k → k < W.heap.size → V.heap[k]? = W.heap[k]? := fun k h1 h2 => hs.block k h2 (fun e => e.elim (fun e => by have := n.h.2; omega) (fun e => by have := n.g.2; omega))
  exact ⟨rfl, h.wo.act hh hs, hh, h.ev.other (key _ (by omega) h.ev.lt), h.row.block (fun k e => key _ (by have := (h.row.lt k e).1; omega) (h.row.lt k e).2), h.sav.trans ((h.wo.hands hs).mono (fun _ e => .inl e)), hb, bE, h.rE⟩
theorem new (h : St0 w W q C S s E base nv L) (y : Mu) : StW w (W.alloc (.cells #[.int .i64 y.l, .int .i64 y.q1, .int .i64 y.q2, .int .i64 y.q3, .int .i64 y.q4, .int .u64 y.m1, .int .u64 y.m2, .int .u64 y.m3, .int .u64 y.m4, .int .u64 y.m5, .int .u64 y.p, .int .i64 y.bk, .int .i64 y.rt] 60)) q C S s E base nv L W.heap.size y :=
  ⟨h.below (below_new W _), Mut13.new W y.l y.p y.bk y.q1 y.q2 y.q3 y.q4 y.m1 y.m2 y.m3 y.m4 y.m5 y.rt, by have := h.bE; have := h.ev.lt; omega, by have := h.ev.lt; omega, fun k e => by have := (h.row.lt k e).2; omega⟩
theorem app (h : St0 w W q C S s E base nv L) {g cap : Nat} {n : Nt} (hg : W.grownBy V nv.ownBlock) (hown : V.ownsRow base 68 7 (.slice (some ⟨g, 0, none⟩) (L.length + 1) cap) (L.length + 1) (ntsV L ++ ntC n)) (hat : nv.ownBlock = some g ∨ W.heap.size ≤ g) : St0 w V q C S s E base (.slice (some ⟨g, 0, none⟩) (L.length + 1) cap) (L ++ [n]) := by
  have hb := h.hb; have bE := h.bE
  have hl := h.ev.lt
  have key : ∀ k, k < base → V.heap[k]? = W.heap[k]? := fun k hk => hg.block k (by omega) (fun e => by have := (h.row.lt k e.symm).1; omega)
  have hB : Below base W V := (Below.refl _ W).grown hg (by omega) (fun k e => (h.row.lt k e).1)
  refine ⟨h.wo.out (h.wo.env.other (key _ (by have := h.wo.glo.1; have := h.wo.ne.h.1; have := h.wo.ne.h.2; omega)) (key _ (by have := h.wo.glo.2; have := h.wo.ne.h.1; have := h.wo.ne.h.2; omega))) hg.size (fun k _ h2 => key k (by omega)), h.ha.other (key _ (by have := h.wo.ne.h.2; omega)) (key _ (by have := h.wo.ne.a.2; omega)) (key _ (by have := h.wo.ne.g.2; omega)),
    h.ev.other (hg.block _ hl (fun e => h.rE _ e.symm rfl)), ?_, h.sav.trans ⟨hB.os, hB.tape, hB.output, hB.size, fun k _ hn => key k (by
      rcases Nat.lt_or_ge k base with h1 | h1
      · exact h1
      · exact absurd (.inr h1) hn)⟩, hb, bE, fun k e => ?_⟩
  · show V.ownsRow base 68 7 _ (L ++ [n]).length (ntsV (L ++ [n]))
    rw [ntsV_append, List.length_append]
    show V.ownsRow base 68 7 _ (L.length + 1) (ntsV L ++ (ntC n ++ []))
    rw [List.append_nil]; exact hown
  · obtain rfl : g = k := by simpa [Value.ownBlock] using e
    rcases hat with e | e
    · exact h.rE _ e
    · omega
theorem putM (h : St0 w W q C S s E base nv L) (i : Nat) (m : Mu) : St0 w (pW14 W q.R (i * 14) m) q C { S with mu := upn S.mu i m } s E base nv L := by
  have n := h.wo.ne; have hb := h.hb; have bE := h.bE
  have key : ∀ k, k ≠ q.R → (pW14 W q.R (i * 14) m).heap[k]? = W.heap[k]? := fun k hk => heap_pW14 W q.R _ m hk
  have hr := n.r.2
  exact ⟨h.wo.putM i m, h.ha.other (key _ n.rh.symm) (key _ n.ra.symm) (key _ n.rg.symm), h.ev.other (key _ (by omega)), h.row.block (fun k e => key _ (by have := (h.row.lt k e).1; omega)), h.sav.pW14 (.inl (.inl n.r)) _ _, hb, bE, h.rE⟩
theorem fin (h : St0 w W q C S s E base nv L) (r : Bool) (k i x y o : Int) :
    EvAt (putE W E r k i x y o nv) E r k i x y o nv ∧ EvV base (putE W E r k i x y o nv) (.agg #[.bool r, .int .i64 k, .int .i64 i, .int .u64 x, .int .u64 y, .int .u64 o, nv]) ⟨r, k, i, x, y, o, L⟩ ∧ WoAt (putE W E r k i x y o nv) q C S ∧ Sav (Ib q base) w (putE W E r k i x y o nv) := by
  have hb := h.hb; have bE := h.bE
  have key : ∀ j, j ≠ E → (putE W E r k i x y o nv).heap[j]? = W.heap[j]? := fun j hj => heap_putE W E r k i x y o nv hj
  have hr : NtR (putE W E r k i x y o nv) base nv L := h.row.block (fun k e => key _ (h.rE k e))
  have hh := h.wo.ne.h
  exact ⟨h.ev.put r k i x y o nv, ⟨nv, rfl, hr.nts.1, hr.nts.2⟩, h.wo.out (h.wo.env.other (key _ (by have := h.wo.glo.1; have := hh.1; have := hh.2; omega)) (key _ (by have := h.wo.glo.2; have := hh.1; have := hh.2; omega))) (by rw [size_putE]; exact Nat.le_refl _) (fun j _ h2 => key j (by omega)), h.sav.putE (.inl (.inr bE)) r k i x y o nv⟩
end St0
namespace StW
variable {w W V : World} {q : WoK} {C : Cf} {S : Ws} {s s' : Dy} {E base : Nat} {nv : Value} {L : List Nt} {K : Nat} {y : Mu}
theorem below (h : StW w W q C S s E base nv L K y) (hb : Below W.heap.size W V) : StW w V q C S s E base nv L K y :=
  ⟨h.st.below hb, h.mu.below hb, h.bK, h.EK, h.rK⟩
theorem drew (h : StW w W q C S s E base nv L K y) : StW w W.drew q C S s E base nv L K y := h.below (Below.refl _ _).drew
theorem step (h : StW w W q C S s E base nv L K y) {u : Value} {e : Ending} (hp : HP W q.H q.A q.G C s' u e V) : e = .returned u ∧ StW w V q C { S with f := s'.f } s' E base nv L K y := by
  obtain ⟨he, hs⟩ := h.st.step hp
  have n := h.st.wo.ne; have := h.st.hb; have := h.bK
  exact ⟨he, hs, h.mu.savH hp.2.2 (fun e => by have := n.h.2; omega) (fun e => by have := n.g.2; omega), h.bK, h.EK, h.rK⟩
theorem putK (h : StW w W q C S s E base nv L K y) (x : Mu) : StW w (put13 W K x.l x.p x.bk x.q1 x.q2 x.q3 x.q4 x.m1 x.m2 x.m3 x.m4 x.m5 x.rt) q C S s E base nv L K x := by
  have h0 := h.st; have n := h0.wo.ne; have hb := h0.hb; have bE := h0.bE; have bK := h.bK
  have key : ∀ k, k ≠ K → (put13 W K x.l x.p x.bk x.q1 x.q2 x.q3 x.q4 x.m1 x.m2 x.m3 x.m4 x.m5 x.rt).heap[k]? = W.heap[k]? := fun k hk => heap_put13 _ _ _ _ _ _ _ _ _ _ _ _ _ _ _ hk
  have hh := n.h
  refine ⟨⟨h0.wo.out (h0.wo.env.other (key _ (by have := h0.wo.glo.1; have := hh.1; have := hh.2; omega)) (key _ (by have := h0.wo.glo.2; have := hh.1; have := hh.2; omega))) (by simp [World.setCell]) (fun k _ h2 => key k (by omega)), h0.ha.other (key _ (by have := n.h.2; omega)) (key _ (by have := n.a.2; omega)) (key _ (by have := n.g.2; omega)), h0.ev.other (key _ h.EK.symm), h0.row.block (fun k e => key _ (h.rK k e)), h0.sav.put13 (.inl (.inr bK)) _ _ _ _ _ _ _ _ _ _ _ _ _, hb, bE, h0.rE⟩, h.mu.put .., bK, h.EK, h.rK⟩
theorem app (h : StW w W q C S s E base nv L K y) {g cap : Nat} {n : Nt} (hg : W.grownBy V nv.ownBlock) (hown : V.ownsRow base 68 7 (.slice (some ⟨g, 0, none⟩) (L.length + 1) cap) (L.length + 1) (ntsV L ++ ntC n)) (hat : nv.ownBlock = some g ∨ W.heap.size ≤ g) : StW w V q C S s E base (.slice (some ⟨g, 0, none⟩) (L.length + 1) cap) (L ++ [n]) K y := by
  refine ⟨h.st.app hg hown hat, h.mu.other (hg.block _ h.mu.lt (fun e => h.rK _ e.symm rfl)), h.bK, h.EK, fun k e => ?_⟩
  obtain rfl : g = k := by simpa [Value.ownBlock] using e
  rcases hat with e | e
  · exact h.rK _ e
  · have := h.mu.lt; omega
end StW
theorem WoAt.stS {w : World} {q : WoK} {C : Cf} {S : Ws} (h : WoAt w q C S) {m : Nat} (hm : m < q.n) {x : Mu} (hx : S.mu m = x) : w.cell? ⟨q.B, 0, none⟩ = some (.pointer (some ⟨q.H, 0, none⟩)) ∧ w.cell? ⟨q.R, m * 14, none⟩ = some (.int .i64 x.l) ∧ w.cell? ⟨q.R, m * 14 + 1, none⟩ = some (.int .i64 x.q1) ∧ w.cell? ⟨q.R, m * 14 + 2, none⟩ = some (.int .i64 x.q2) ∧ w.cell? ⟨q.R, m * 14 + 3, none⟩ = some (.int .i64 x.q3) ∧ w.cell? ⟨q.R, m * 14 + 4, none⟩ = some (.int .i64 x.q4) ∧ w.cell? ⟨q.R, m * 14 + 5, none⟩ = some (.int .u64 x.m1) ∧ w.cell? ⟨q.R, m * 14 + 6, none⟩ = some (.int .u64 x.m2) ∧ w.cell? ⟨q.R, m * 14 + 7, none⟩ = some (.int .u64 x.m3) ∧ w.cell? ⟨q.R, m * 14 + 8, none⟩ = some (.int .u64 x.m4) ∧ w.cell? ⟨q.R, m * 14 + 9, none⟩ = some (.int .u64 x.m5) ∧ w.cell? ⟨q.R, m * 14 + 10, none⟩ = some (.int .u64 x.p) ∧ w.cell? ⟨q.R, m * 14 + 11, none⟩ = some (.int .i64 x.bk) ∧ w.cell? ⟨q.R, m * 14 + 12, none⟩ = some (.int .i64 x.rt) := by
  obtain ⟨lv, hmt, _⟩ := h.mt
  obtain ⟨c0, c1, c2, c3, c4, c5, c6, c7, c8, c9, c10, c11, c12, _⟩ := hmt.cells hm
  rw [hx] at c0 c1 c2 c3 c4 c5 c6 c7 c8 c9 c10 c11 c12
  exact ⟨h.bk.cells.1, c0, c1, c2, c3, c4, c5, c6, c7, c8, c9, c10, c11, c12⟩
end Go.Proofs.YtbpooljohjkbjaaGreatDoor
/- What a mutator's step of the world carries, once more. -/
namespace Go.Proofs.YtbpooljohjkbjaaGreatDoor
open Go Go.RowKit
set_option maxRecDepth 100000
attribute [local go_sem ↓] Go.wp_at_zero Go.wp_at_succ
theorem nt_news (V : World) (n : Nt) : ∀ j u, (ntC n)[j]? = some u → (V.alloc (.cells #[.int .i64 n.p, .int .i64 n.wh, .int .i64 n.k, .int .i64 n.x, .int .i64 n.y, .int .i64 n.z, .int .i64 n.n] 68)).cell? ((⟨V.heap.size, 0, none⟩ : Addr).add j) = some u :=
  World.news_of_block (cs := #[.int .i64 n.p, .int .i64 n.wh, .int .i64 n.k, .int .i64 n.x, .int .i64 n.y, .int .i64 n.z, .int .i64 n.n]) (t := 68) (fr := (0, 0)) (heap_alloc_new V _)
theorem infoNote : (Tryz.prog.info? 68).map (fun i => (i.zero, i.size, i.bytes)) = some (some (.agg #[.int .i64 0, .int .i64 0, .int .i64 0, .int .i64 0, .int .i64 0, .int .i64 0, .int .i64 0]), 7, 56) := by kernel_rfl
theorem St0.base_le {w W : World} {q : WoK} {C : Cf} {S : Ws} {s : Dy} {E base : Nat} {nv : Value} {L : List Nt} (h : St0 w W q C S s E base nv L) : base ≤ W.heap.size := by have := h.ev.lt; have := h.bE; omega
namespace StW
variable {w W V : World} {q : WoK} {C : Cf} {S : Ws} {s s' : Dy} {E base : Nat} {nv : Value} {L : List Nt} {K : Nat} {y : Mu}
theorem base_le (h : StW w W q C S s E base nv L K y) : base ≤ W.heap.size := h.st.base_le
theorem fro (h : StW w W q C S s E base nv L K y) : ∀ j, W.frozen? ⟨K, j, none⟩ = false := by
  obtain ⟨_, _, _, _, _, _, _, _, _, _, _, _, _, hf⟩ := h.mu.cells
  exact hf
theorem froR (h : StW w W q C S s E base nv L K y) : ∀ j, W.frozen? ⟨q.R, j, none⟩ = false := by
  obtain ⟨lv, hm, _⟩ := h.st.wo.mt
  exact fun j => World.rowIs.frozen hm j
theorem see (h : StW w W q C S s E base nv L K y) {m : Nat} (hm : m < q.n) {x : Mu} (hx : S.mu m = x) : W.cell? ⟨q.R, m * 14 + 1, none⟩ = some (.int .i64 x.q1) ∧ W.cell? ⟨q.R, m * 14 + 2, none⟩ = some (.int .i64 x.q2) ∧ W.cell? ⟨q.R, m * 14 + 3, none⟩ = some (.int .i64 x.q3) ∧ W.cell? ⟨q.R, m * 14 + 4, none⟩ = some (.int .i64 x.q4) ∧ W.cell? ⟨K, 0, none⟩ = some (.int .i64 y.l) ∧ W.cell? ⟨K, 1, none⟩ = some (.int .i64 y.q1) ∧ W.cell? ⟨K, 2, none⟩ = some (.int .i64 y.q2) ∧ W.cell? ⟨K, 3, none⟩ = some (.int .i64 y.q3) ∧ W.cell? ⟨K, 4, none⟩ = some (.int .i64 y.q4) ∧ W.cell? ⟨K, 5, none⟩ = some (.int .u64 y.m1) ∧ W.cell? ⟨K, 6, none⟩ = some (.int .u64 y.m2) ∧ W.cell? ⟨K, 7, none⟩ = some (.int .u64 y.m3) ∧ W.cell? ⟨K, 8, none⟩ = some (.int .u64 y.m4) ∧ W.cell? ⟨K, 9, none⟩ = some (.int .u64 y.m5) ∧ W.cell? ⟨K, 10, none⟩ = some (.int .u64 y.p) ∧ W.cell? ⟨K, 11, none⟩ = some (.int .i64 y.bk) ∧ W.cell? ⟨K, 12, none⟩ = some (.int .i64 y.rt) := by
  obtain ⟨_, _, c1, c2, c3, c4, _⟩ := h.st.wo.stS hm hx
  obtain ⟨k0, k1, k2, k3, k4, k5, k6, k7, k8, k9, k10, k11, k12, _⟩ := h.mu.cells
  exact ⟨c1, c2, c3, c4, k0, k1, k2, k3, k4, k5, k6, k7, k8, k9, k10, k11, k12⟩
end StW
end Go.Proofs.YtbpooljohjkbjaaGreatDoor
/- A mutator's step of the world. -/
namespace Go.Proofs.YtbpooljohjkbjaaGreatDoor
open Go Go.RowKit
set_option maxRecDepth 100000
attribute [local go_sem ↓] Go.wp_at_zero Go.wp_at_succ
set_option maxHeartbeats 12800000 in
theorem st_ff {w : World} {q : WoK} {C : Cf} {S : Ws} (h : WoAt w q C S) {m : Nat} (hm : m < q.n) {x : Mu} (hx : S.mu m = x) {an : Option Addr} {ln cn : Nat} {L : List Nt} {base : Nat} (hn : NtR w base (.slice an ln cn) L) (hL : L.length ≤ 1) (h1 : q.hi ≤ base) (h2 : base ≤ w.heap.size) {s' : Dy} {yl yq1 yq2 yq3 yq4 ym1 ym2 ym3 ym4 ym5 yp ybk yrt : Int}
    (hst : ∀ W s, HAt W q.H q.A q.G C s → SpansAt W → s.f = S.f → Calls Tryz.prog 46 #[.pointer (some ⟨q.H, 0, none⟩), .int .i64 (m : Int), x.v] W (HP W q.H q.A q.G C s' (.tuple #[.agg #[.int .i64 yl, .int .i64 yq1, .int .i64 yq2, .int .i64 yq3, .int .i64 yq4, .int .u64 ym1, .int .u64 ym2, .int .u64 ym3, .int .u64 ym4, .int .u64 ym5, .int .u64 yp, .int .i64 ybk, .int .i64 yrt], .bool false, .bool false]))) :
    Calls Tryz.prog 32 #[.pointer (some ⟨q.B, 0, none⟩), .int .i64 (m : Int), .slice an ln cn] w fun e w' => ∃ v, e = .returned v ∧ EvV base w' v (Ev.of s' (L ++ mutNts m x.op ⟨yl, yq1, yq2, yq3, yq4, ym1, ym2, ym3, ym4, ym5, yp, ybk, yrt⟩ false false)) ∧ WoAt w' q C ⟨s'.f, upn S.mu m (if false then Mu.zero else ⟨yl, yq1, yq2, yq3, yq4, ym1, ym2, ym3, ym4, ym5, yp, ybk, yrt⟩), S.lf, S.x⟩ ∧ Sav (Ib q base) w w' := by
  obtain ⟨s, hs, h0⟩ := St0.start h hn h1 h2
  obtain ⟨i7, hi7, hz0, hz1, hz2⟩ := info_parts infoNote
  have HL : Hid (∀ W, St0 w W q C S s w.heap.size base (.slice an ln cn) L → Calls Tryz.prog 46 #[.pointer (some ⟨q.H, 0, none⟩), .int .i64 (m : Int), .agg #[.int .i64 x.l, .int .i64 x.q1, .int .i64 x.q2, .int .i64 x.q3, .int .i64 x.q4, .int .u64 x.m1, .int .u64 x.m2, .int .u64 x.m3, .int .u64 x.m4, .int .u64 x.m5, .int .u64 x.p, .int .i64 x.bk, .int .i64 x.rt]] W (HP W q.H q.A q.G C s' (.tuple #[.agg #[.int .i64 yl, .int .i64 yq1, .int .i64 yq2, .int .i64 yq3, .int .i64 yq4, .int .u64 ym1, .int .u64 ym2, .int .u64 ym3, .int .u64 ym4, .int .u64 ym5, .int .u64 yp, .int .i64 ybk, .int .i64 yrt], .bool false, .bool false]))) := Lib.hid (fun W h => hst W s h.ha h.wo.env.1 hs)
  have HSn := Lib.hid h0
  have HS0 := Lib.hid h0.drew
  have hm0 : (0 : Int) ≤ (m : Int) := by omega
  have hmn : (m : Int) < (q.n : Int) := by omega
  obtain ⟨b0, b1, _⟩ := h0.wo.bk.cells
  clear h hn hst h0 hs
  go_enter Tryz.func32, Tryz.ntmps32
  go_upto_region 2 with fail
  generalize w.alloc (.cells #[.bool false, .int .i64 0, .int .i64 0, .int .u64 0, .int .u64 0, .int .u64 0, .slice none 0 0] 41) = w1 at *
  clear b0 b1
  obtain ⟨s0, s1, s2, s3, s4, s5, s6, s7, s8, s9, s10, s11, s12, s13⟩ := HS0.out.wo.stS hm hx
  refine wp_region_held_drew (S := (fun w' => w'.cell? ⟨q.B, 0, none⟩ = some (.pointer (some ⟨q.H, 0, none⟩)) ∧ w'.cell? ⟨q.R, m * 14, none⟩ = some (.int .i64 x.l) ∧ w'.cell? ⟨q.R, m * 14 + 1, none⟩ = some (.int .i64 x.q1) ∧ w'.cell? ⟨q.R, m * 14 + 2, none⟩ = some (.int .i64 x.q2) ∧ w'.cell? ⟨q.R, m * 14 + 3, none⟩ = some (.int .i64 x.q3) ∧ w'.cell? ⟨q.R, m * 14 + 4, none⟩ = some (.int .i64 x.q4) ∧ w'.cell? ⟨q.R, m * 14 + 5, none⟩ = some (.int .u64 x.m1) ∧ w'.cell? ⟨q.R, m * 14 + 6, none⟩ = some (.int .u64 x.m2) ∧ w'.cell? ⟨q.R, m * 14 + 7, none⟩ = some (.int .u64 x.m3) ∧ w'.cell? ⟨q.R, m * 14 + 8, none⟩ = some (.int .u64 x.m4) ∧ w'.cell? ⟨q.R, m * 14 + 9, none⟩ = some (.int .u64 x.m5) ∧ w'.cell? ⟨q.R, m * 14 + 10, none⟩ = some (.int .u64 x.p) ∧ w'.cell? ⟨q.R, m * 14 + 11, none⟩ = some (.int .i64 x.bk) ∧ w'.cell? ⟨q.R, m * 14 + 12, none⟩ = some (.int .i64 x.rt))) (by kernel_rfl) ?_ (fun hHeld => ?_)
  · exact ⟨s0, s1, s2, s3, s4, s5, s6, s7, s8, s9, s10, s11, s12, s13⟩
  refine tk 0 rfl hHeld ?_
  refine tk 1 rfl hHeld ?_
  refine tk 2 rfl hHeld ?_
  refine tk 3 rfl hHeld ?_
  refine tk 4 rfl hHeld ?_
  refine tk 5 rfl hHeld ?_
  refine tk 6 rfl hHeld ?_
  refine tk 7 rfl hHeld ?_
  refine tk 8 rfl hHeld ?_
  refine wpAnyH_ready (rs := [9, 14]) (by kernel_rfl) (by simp) ?_
  refine AllReadyH.cons (o := _) rfl (fun K hK => ?zz) ?_
  case' zz =>
    go_simp
    refine (HL.out _ HS0.out).mono ?_
    rintro e V hp
    obtain ⟨rfl, hS⟩ := HS0.out.step hp
    have HS1 := Lib.hid hS
    clear hp hS HL HS0 hHeld s0 s1 s2 s3 s4 s5 s6 s7 s8 s9 s10 s11 s12 s13
    obtain ⟨s0, s1, s2, s3, s4, s5, s6, s7, s8, s9, s10, s11, s12, s13⟩ := HS1.out.wo.stS hm hx
    refine hK.out _ _ ?_ (fun hHeld => ?_)
    · exact ⟨s0, s1, s2, s3, s4, s5, s6, s7, s8, s9, s10, s11, s12, s13⟩
    clear hK K
    try simp only [Act.put, List.setIfInBounds_toArray, List.set_cons_zero, List.set_cons_succ]
    refine tk 10 rfl hHeld ?_
    refine tk 11 rfl hHeld ?_
    refine tk 12 rfl hHeld ?_
    refine tk 13 rfl hHeld ?_
    refine wpAnyH_ready (rs := [14]) (by kernel_rfl) (by simp) ?_
    refine AllReadyH.cons (o := _) rfl (fun K hK => ?_) AllReadyH.nil
    go_simp
    have HT1 := Lib.hid (HS1.out.new ⟨0, 0, 0, 0, 0, 0, 0, 0, 0, 0, 0, 0, 0⟩)
    clear HS1 hHeld s0 s1 s2 s3 s4 s5 s6 s7 s8 s9 s10 s11 s12 s13
    generalize V.alloc (.cells #[.int .i64 0, .int .i64 0, .int .i64 0, .int .i64 0, .int .i64 0, .int .u64 0, .int .u64 0, .int .u64 0, .int .u64 0, .int .u64 0, .int .u64 0, .int .i64 0, .int .i64 0] 60) = V2 at *
    generalize V.heap.size = Kb at *
    obtain ⟨k0, k1, k2, k3, k4, k5, k6, k7, k8, k9, k10, k11, k12, kf⟩ := HT1.out.mu.cells
    obtain ⟨s0, s1, s2, s3, s4, s5, s6, s7, s8, s9, s10, s11, s12, s13⟩ := HT1.out.st.wo.stS hm hx
    refine hK.out _ _ ?_ (fun hHeld => ?_)
    · exact ⟨s0, s1, s2, s3, s4, s5, s6, s7, s8, s9, s10, s11, s12, s13⟩
    clear hK K
    try simp only [Act.put, List.setIfInBounds_toArray, List.set_cons_zero, List.set_cons_succ]
    refine wpAnyH_ready (rs := [15]) (by kernel_rfl) (by simp) ?_
    refine AllReadyH.cons (o := _) rfl (fun K hK => ?_) AllReadyH.nil
    go_simp
    have HT0' := HT1.out.putK ⟨yl, yq1, yq2, yq3, yq4, ym1, ym2, ym3, ym4, ym5, yp, ybk, yrt⟩
    dsimp only [put13] at HT0'
    have HT := Lib.hid HT0'
    clear HT0'
    clear HT1 hHeld k0 k1 k2 k3 k4 k5 k6 k7 k8 k9 k10 k11 k12 kf s0 s1 s2 s3 s4 s5 s6 s7 s8 s9 s10 s11 s12 s13
    generalize (((((((((((((V2.setCell ⟨Kb, 0, none⟩ (.int .i64 yl)).setCell ⟨Kb, 1, none⟩ (.int .i64 yq1)).setCell ⟨Kb, 2, none⟩ (.int .i64 yq2)).setCell ⟨Kb, 3, none⟩ (.int .i64 yq3)).setCell ⟨Kb, 4, none⟩ (.int .i64 yq4)).setCell ⟨Kb, 5, none⟩ (.int .u64 ym1)).setCell ⟨Kb, 6, none⟩ (.int .u64 ym2)).setCell ⟨Kb, 7, none⟩ (.int .u64 ym3)).setCell ⟨Kb, 8, none⟩ (.int .u64 ym4)).setCell ⟨Kb, 9, none⟩ (.int .u64 ym5)).setCell ⟨Kb, 10, none⟩ (.int .u64 yp)).setCell ⟨Kb, 11, none⟩ (.int .i64 ybk)).setCell ⟨Kb, 12, none⟩ (.int .i64 yrt)) = W3 at *
    obtain ⟨s0, s1, s2, s3, s4, s5, s6, s7, s8, s9, s10, s11, s12, s13⟩ := HT.out.st.wo.stS hm hx
    refine hK.out _ _ ?_ (fun hHeld => ?_)
    · exact ⟨s0, s1, s2, s3, s4, s5, s6, s7, s8, s9, s10, s11, s12, s13⟩
    clear hK K
    try simp only [Act.put, List.setIfInBounds_toArray, List.set_cons_zero, List.set_cons_succ]
    refine tk 16 rfl hHeld ?_
    refine tk 17 rfl hHeld ?_
    refine wpAnyH_done (by kernel_rfl) ?_ _
  rotate_left
  refine AllReadyH.cons (o := _) rfl (fun K hK => ?_) AllReadyH.nil
  go_simp
  have HT0 := Lib.hid (HSn.out.new ⟨0, 0, 0, 0, 0, 0, 0, 0, 0, 0, 0, 0, 0⟩).drew
  clear HS0 hHeld HSn s0 s1 s2 s3 s4 s5 s6 s7 s8 s9 s10 s11 s12 s13
  generalize (w1.alloc (.cells #[.int .i64 0, .int .i64 0, .int .i64 0, .int .i64 0, .int .i64 0, .int .u64 0, .int .u64 0, .int .u64 0, .int .u64 0, .int .u64 0, .int .u64 0, .int .i64 0, .int .i64 0] 60)).drew = w2 at *
  generalize w1.heap.size = Kb at *
  obtain ⟨s0, s1, s2, s3, s4, s5, s6, s7, s8, s9, s10, s11, s12, s13⟩ := HT0.out.st.wo.stS hm hx
  refine hK.out _ _ ?_ (fun hHeld => ?_)
  · exact ⟨s0, s1, s2, s3, s4, s5, s6, s7, s8, s9, s10, s11, s12, s13⟩
  clear hK K
  try simp only [Act.put, List.setIfInBounds_toArray, List.set_cons_zero, List.set_cons_succ]
  refine wpAnyH_ready (rs := [9]) (by kernel_rfl) (by simp) ?_
  refine AllReadyH.cons (o := _) rfl (fun K hK => ?_) AllReadyH.nil
  go_simp
  refine (HL.out _ HT0.out.st).mono ?_
  rintro e V hp
  obtain ⟨rfl, hS⟩ := HT0.out.step hp
  have HT1 := Lib.hid hS
  clear hp hS HL HT0 hHeld s0 s1 s2 s3 s4 s5 s6 s7 s8 s9 s10 s11 s12 s13
  obtain ⟨k0, k1, k2, k3, k4, k5, k6, k7, k8, k9, k10, k11, k12, kf⟩ := HT1.out.mu.cells
  obtain ⟨s0, s1, s2, s3, s4, s5, s6, s7, s8, s9, s10, s11, s12, s13⟩ := HT1.out.st.wo.stS hm hx
  refine hK.out _ _ ?_ (fun hHeld => ?_)
  · exact ⟨s0, s1, s2, s3, s4, s5, s6, s7, s8, s9, s10, s11, s12, s13⟩
  clear hK K
  try simp only [Act.put, List.setIfInBounds_toArray, List.set_cons_zero, List.set_cons_succ]
  refine tk 10 rfl hHeld ?_
  refine tk 11 rfl hHeld ?_
  refine tk 12 rfl hHeld ?_
  refine tk 13 rfl hHeld ?_
  refine wpAnyH_ready (rs := [15]) (by kernel_rfl) (by simp) ?_
  refine AllReadyH.cons (o := _) rfl (fun K hK => ?_) AllReadyH.nil
  go_simp
  have HT0' := HT1.out.putK ⟨yl, yq1, yq2, yq3, yq4, ym1, ym2, ym3, ym4, ym5, yp, ybk, yrt⟩
  dsimp only [put13] at HT0'
  have HT := Lib.hid HT0'
  clear HT0'
  clear HT1 hHeld k0 k1 k2 k3 k4 k5 k6 k7 k8 k9 k10 k11 k12 kf s0 s1 s2 s3 s4 s5 s6 s7 s8 s9 s10 s11 s12 s13
  generalize (((((((((((((V.setCell ⟨Kb, 0, none⟩ (.int .i64 yl)).setCell ⟨Kb, 1, none⟩ (.int .i64 yq1)).setCell ⟨Kb, 2, none⟩ (.int .i64 yq2)).setCell ⟨Kb, 3, none⟩ (.int .i64 yq3)).setCell ⟨Kb, 4, none⟩ (.int .i64 yq4)).setCell ⟨Kb, 5, none⟩ (.int .u64 ym1)).setCell ⟨Kb, 6, none⟩ (.int .u64 ym2)).setCell ⟨Kb, 7, none⟩ (.int .u64 ym3)).setCell ⟨Kb, 8, none⟩ (.int .u64 ym4)).setCell ⟨Kb, 9, none⟩ (.int .u64 ym5)).setCell ⟨Kb, 10, none⟩ (.int .u64 yp)).setCell ⟨Kb, 11, none⟩ (.int .i64 ybk)).setCell ⟨Kb, 12, none⟩ (.int .i64 yrt)) = W3 at *
  obtain ⟨s0, s1, s2, s3, s4, s5, s6, s7, s8, s9, s10, s11, s12, s13⟩ := HT.out.st.wo.stS hm hx
  refine hK.out _ _ ?_ (fun hHeld => ?_)
  · exact ⟨s0, s1, s2, s3, s4, s5, s6, s7, s8, s9, s10, s11, s12, s13⟩
  clear hK K
  try simp only [Act.put, List.setIfInBounds_toArray, List.set_cons_zero, List.set_cons_succ]
  refine tk 16 rfl hHeld ?_
  refine tk 17 rfl hHeld ?_
  refine wpAnyH_done (by kernel_rfl) ?_ _
  all_goals
    clear hHeld s0 s1 s2 s3 s4 s5 s6 s7 s8 s9 s10 s11 s12 s13
    try clear HSn
    have yn := HT.out.EK
    obtain ⟨s0, s1, s2, s3, s4, s5, s6, s7, s8, s9, s10, s11, s12, s13⟩ := HT.out.st.wo.stS hm hx
    clear s0
    obtain ⟨_, _, _, _, k0, k1, k2, k3, k4, k5, k6, k7, k8, k9, k10, k11, k12⟩ := HT.out.see hm hx
    dsimp only at k0 k1 k2 k3 k4 k5 k6 k7 k8 k9 k10 k11 k12
    have bf := HT.out.fro
    have rf := HT.out.froR
    go_upto_region 9 with fail
    have HM' := HT.out.st.putM m ⟨yl, yq1, yq2, yq3, yq4, ym1, ym2, ym3, ym4, ym5, yp, ybk, yrt⟩
    dsimp only [pW14] at HM'
    have HM := Lib.hid HM'
    clear HM'
    clear s1 s2 s3 s4 s5 s6 s7 s8 s9 s10 s11 s12 s13 k0 k1 k2 k3 k4 k5 k6 k7 k8 k9 k10 k11 k12 bf rf HT
    generalize (((((((((((((W3.setCell ⟨q.R, m * 14, none⟩ (.int .i64 yl)).setCell ⟨q.R, m * 14 + 1, none⟩ (.int .i64 yq1)).setCell ⟨q.R, m * 14 + 2, none⟩ (.int .i64 yq2)).setCell ⟨q.R, m * 14 + 3, none⟩ (.int .i64 yq3)).setCell ⟨q.R, m * 14 + 4, none⟩ (.int .i64 yq4)).setCell ⟨q.R, m * 14 + 5, none⟩ (.int .u64 ym1)).setCell ⟨q.R, m * 14 + 6, none⟩ (.int .u64 ym2)).setCell ⟨q.R, m * 14 + 7, none⟩ (.int .u64 ym3)).setCell ⟨q.R, m * 14 + 8, none⟩ (.int .u64 ym4)).setCell ⟨q.R, m * 14 + 9, none⟩ (.int .u64 ym5)).setCell ⟨q.R, m * 14 + 10, none⟩ (.int .u64 yp)).setCell ⟨q.R, m * 14 + 11, none⟩ (.int .i64 ybk)).setCell ⟨q.R, m * 14 + 12, none⟩ (.int .i64 yrt)) = W8 at *
    obtain ⟨b0, _⟩ := HM.out.wo.bk.cells
    obtain ⟨_, _, a5, a6, a7, a8, a9, _⟩ := HM.out.ha.cells
    obtain ⟨v0, v1, v2, v3, v4, v5, v6, ef⟩ := HM.out.ev.cells
    have HFN' := HM.out.fin true s'.k s'.i s'.x s'.y s'.o
    dsimp only [putE] at HFN'
    have HFN := Lib.hid HFN'
    clear HFN' HM
    go_wp2_with fail
    obtain ⟨e0, e1, e2, e3, e4, e5, e6, _⟩ := HFN.out.1.cells
    refine bodyPost_ret (v := .agg #[.bool true, .int .i64 s'.k, .int .i64 s'.i, .int .u64 s'.x, .int .u64 s'.y, .int .u64 s'.o, (.slice an ln cn)]) (by simp [results, Tryz.f32, go_sem, e0, e1, e2, e3, e4, e5, e6]) rfl ?_
    exact ⟨_, rfl, by rw [show L ++ mutNts (m : Int) x.op ⟨yl, yq1, yq2, yq3, yq4, ym1, ym2, ym3, ym4, ym5, yp, ybk, yrt⟩ false false = L from List.append_nil L]; exact HFN.out.2.1, HFN.out.2.2.1, HFN.out.2.2.2⟩
end Go.Proofs.YtbpooljohjkbjaaGreatDoor
