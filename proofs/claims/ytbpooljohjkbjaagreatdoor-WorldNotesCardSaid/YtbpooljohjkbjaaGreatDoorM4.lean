/- Laid together: Mut, HandBoth, Mem, OpBase, RangeL, OpSeq, OpRegs, OpCheck, OpRef, WFrame, MuRow, Spots, ColPure, Two, ColMem, WNotes. -/
import Derived.Test.YtbpooljohjkbjaaGreatDoorM3
import Derived.Test.YtbpooljohjkbjaaGreatDoorHandNew
import Derived.Test.YtbpooljohjkbjaaGreatDoorM2
import Derived.RangeFuncNested
import Derived.RangeFuncBound
import Derived.RangeFuncLeaves
import Derived.RangeFuncCalls
import Derived.Shelf.Abstract
import Derived.Shelf.RegionOpen
import Derived.WalkKit
import Derived.OwnWalkIn
import Derived.TacticsInMore
import Derived.LoopNIn
import Derived.LoopIn
import Derived.Lib.OthersKept
import Derived.RangeFuncKeeps
import Derived.Test.YtbpooljohjkbjaaGreatDoorM1
import Derived.Stop.LaidErr
import Derived.Carry
import Derived.JoinedOf
import Derived.SizedLaws
import Derived.Deep.RegionHeld3
/- How far a mutator is, as a value and as cells, beside a hand and the document's. -/
namespace Go.Proofs.YtbpooljohjkbjaaGreatDoor
open Go Go.RowKit
set_option maxRecDepth 100000
attribute [local go_sem ↓] Go.wp_at_zero Go.wp_at_succ
abbrev mutV (l p bk q1 q2 q3 q4 m1 m2 m3 m4 m5 rt : Int) : Value := .agg #[.int .i64 l, .int .i64 q1, .int .i64 q2, .int .i64 q3, .int .i64 q4, .int .u64 m1, .int .u64 m2, .int .u64 m3, .int .u64 m4, .int .u64 m5, .int .u64 p, .int .i64 bk, .int .i64 rt]
def Mut13 (w : World) (B : Nat) (l p bk q1 q2 q3 q4 m1 m2 m3 m4 m5 rt : Int) : Prop := w.heap[B]? = some (.cells #[.int .i64 l, .int .i64 q1, .int .i64 q2, .int .i64 q3, .int .i64 q4, .int .u64 m1, .int .u64 m2, .int .u64 m3, .int .u64 m4, .int .u64 m5, .int .u64 p, .int .i64 bk, .int .i64 rt] 60 (0, 0))
abbrev put13 (w : World) (B : Nat) (l p bk q1 q2 q3 q4 m1 m2 m3 m4 m5 rt : Int) : World := (((((((((((((w.setCell ⟨B, 0, none⟩ (.int .i64 l)).setCell ⟨B, 1, none⟩ (.int .i64 q1)).setCell ⟨B, 2, none⟩ (.int .i64 q2)).setCell ⟨B, 3, none⟩ (.int .i64 q3)).setCell ⟨B, 4, none⟩ (.int .i64 q4)).setCell ⟨B, 5, none⟩ (.int .u64 m1)).setCell ⟨B, 6, none⟩ (.int .u64 m2)).setCell ⟨B, 7, none⟩ (.int .u64 m3)).setCell ⟨B, 8, none⟩ (.int .u64 m4)).setCell ⟨B, 9, none⟩ (.int .u64 m5)).setCell ⟨B, 10, none⟩ (.int .u64 p)).setCell ⟨B, 11, none⟩ (.int .i64 bk)).setCell ⟨B, 12, none⟩ (.int .i64 rt))
namespace Mut13
variable {w w' : World} {B : Nat} {l p bk q1 q2 q3 q4 m1 m2 m3 m4 m5 rt : Int}
theorem cells (h : Mut13 w B l p bk q1 q2 q3 q4 m1 m2 m3 m4 m5 rt) : w.cell? ⟨B, 0, none⟩ = some (.int .i64 l) ∧ w.cell? ⟨B, 1, none⟩ = some (.int .i64 q1) ∧ w.cell? ⟨B, 2, none⟩ = some (.int .i64 q2) ∧ w.cell? ⟨B, 3, none⟩ = some (.int .i64 q3) ∧ w.cell? ⟨B, 4, none⟩ = some (.int .i64 q4) ∧ w.cell? ⟨B, 5, none⟩ = some (.int .u64 m1) ∧ w.cell? ⟨B, 6, none⟩ = some (.int .u64 m2) ∧ w.cell? ⟨B, 7, none⟩ = some (.int .u64 m3) ∧ w.cell? ⟨B, 8, none⟩ = some (.int .u64 m4) ∧ w.cell? ⟨B, 9, none⟩ = some (.int .u64 m5) ∧ w.cell? ⟨B, 10, none⟩ = some (.int .u64 p) ∧ w.cell? ⟨B, 11, none⟩ = some (.int .i64 bk) ∧ w.cell? ⟨B, 12, none⟩ = some (.int .i64 rt) ∧ (∀ j, w.frozen? ⟨B, j, none⟩ = false) := by
  unfold Mut13 at h
  refine ⟨by simp [World.cell?, h], by simp [World.cell?, h], by simp [World.cell?, h], by simp [World.cell?, h], by simp [World.cell?, h], by simp [World.cell?, h], by simp [World.cell?, h], by simp [World.cell?, h], by simp [World.cell?, h], by simp [World.cell?, h], by simp [World.cell?, h], by simp [World.cell?, h], by simp [World.cell?, h], fun j => by simp [World.frozen?, h]⟩
theorem lt (h : Mut13 w B l p bk q1 q2 q3 q4 m1 m2 m3 m4 m5 rt) : B < w.heap.size := (Array.getElem?_eq_some_iff.1 h).1
theorem other (h : Mut13 w B l p bk q1 q2 q3 q4 m1 m2 m3 m4 m5 rt) (e : w'.heap[B]? = w.heap[B]?) : Mut13 w' B l p bk q1 q2 q3 q4 m1 m2 m3 m4 m5 rt := e.trans h
theorem below (h : Mut13 w B l p bk q1 q2 q3 q4 m1 m2 m3 m4 m5 rt) (hb : Below w.heap.size w w') : Mut13 w' B l p bk q1 q2 q3 q4 m1 m2 m3 m4 m5 rt := h.other (hb.block _ h.lt)
theorem new (w : World) (l p bk q1 q2 q3 q4 m1 m2 m3 m4 m5 rt : Int) : Mut13 (w.alloc (.cells #[.int .i64 l, .int .i64 q1, .int .i64 q2, .int .i64 q3, .int .i64 q4, .int .u64 m1, .int .u64 m2, .int .u64 m3, .int .u64 m4, .int .u64 m5, .int .u64 p, .int .i64 bk, .int .i64 rt] 60)) w.heap.size l p bk q1 q2 q3 q4 m1 m2 m3 m4 m5 rt := newBlock _ _
theorem put (h : Mut13 w B l p bk q1 q2 q3 q4 m1 m2 m3 m4 m5 rt) (l' p' bk' q1' q2' q3' q4' m1' m2' m3' m4' m5' rt' : Int) : Mut13 (put13 w B l' p' bk' q1' q2' q3' q4' m1' m2' m3' m4' m5' rt') B l' p' bk' q1' q2' q3' q4' m1' m2' m3' m4' m5' rt' := by
  unfold Mut13 at *; simp [World.setCell, Array.getElem?_modify, h]
end Mut13
theorem heap_put13 (w : World) (H : Nat) (l p bk q1 q2 q3 q4 m1 m2 m3 m4 m5 rt : Int) {B : Nat} (hB : B ≠ H) : (put13 w H l p bk q1 q2 q3 q4 m1 m2 m3 m4 m5 rt).heap[B]? = w.heap[B]? :=
  (Below.heap_setCell _ _ _ _ hB).trans ((Below.heap_setCell _ _ _ _ hB).trans ((Below.heap_setCell _ _ _ _ hB).trans ((Below.heap_setCell _ _ _ _ hB).trans ((Below.heap_setCell _ _ _ _ hB).trans ((Below.heap_setCell _ _ _ _ hB).trans ((Below.heap_setCell _ _ _ _ hB).trans ((Below.heap_setCell _ _ _ _ hB).trans ((Below.heap_setCell _ _ _ _ hB).trans ((Below.heap_setCell _ _ _ _ hB).trans ((Below.heap_setCell _ _ _ _ hB).trans ((Below.heap_setCell _ _ _ _ hB).trans (Below.heap_setCell _ _ _ _ hB))))))))))))
theorem Sav.put13 {S : Nat → Prop} {w w' : World} (h : Sav S w w') {C : Nat} (hC : S C ∨ w.heap.size ≤ C) (l p bk q1 q2 q3 q4 m1 m2 m3 m4 m5 rt : Int) : Sav S w (put13 w' C l p bk q1 q2 q3 q4 m1 m2 m3 m4 m5 rt) :=
  ((((((((((((h.set (p := ⟨C, 0, none⟩) hC _).set (p := ⟨C, 1, none⟩) hC _).set (p := ⟨C, 2, none⟩) hC _).set (p := ⟨C, 3, none⟩) hC _).set (p := ⟨C, 4, none⟩) hC _).set (p := ⟨C, 5, none⟩) hC _).set (p := ⟨C, 6, none⟩) hC _).set (p := ⟨C, 7, none⟩) hC _).set (p := ⟨C, 8, none⟩) hC _).set (p := ⟨C, 9, none⟩) hC _).set (p := ⟨C, 10, none⟩) hC _).set (p := ⟨C, 11, none⟩) hC _).set (p := ⟨C, 12, none⟩) hC _
theorem HandAt.put13 {w : World} {H A G n : Nat} {f : Nat → Int} {a b c d k i x y o : Int} (h : HandAt w H A G n f a b c d k i x y o) {C : Nat} (h0 : C ≠ H) (h1 : C ≠ A) (h2 : C ≠ G) (l p bk q1 q2 q3 q4 m1 m2 m3 m4 m5 rt : Int) : HandAt (put13 w C l p bk q1 q2 q3 q4 m1 m2 m3 m4 m5 rt) H A G n f a b c d k i x y o :=
  h.other (heap_put13 _ _ _ _ _ _ _ _ _ _ _ _ _ _ _ h0.symm) (heap_put13 _ _ _ _ _ _ _ _ _ _ _ _ _ _ _ h1.symm) (heap_put13 _ _ _ _ _ _ _ _ _ _ _ _ _ _ _ h2.symm)
theorem HandAt.setOther {w : World} {H A G n : Nat} {f : Nat → Int} {a b c d k i x y o : Int} (h : HandAt w H A G n f a b c d k i x y o) {p : Addr} (h0 : p.block ≠ H) (h1 : p.block ≠ A) (h2 : p.block ≠ G) (v : Value) : HandAt (w.setCell p v) H A G n f a b c d k i x y o :=
  h.other (Below.heap_setCell _ _ _ _ h0.symm) (Below.heap_setCell _ _ _ _ h1.symm) (Below.heap_setCell _ _ _ _ h2.symm)
def StPost (w : World) (H A G n : Nat) (f' : Nat → Int) (a b c d k i x y o : Int) (v : Value) (e : Ending) (w' : World) : Prop :=
  e = .returned v ∧ HandAt w' H A G n f' a b c d k i x y o ∧ Sav (HG H G) w w'
theorem fst_u64 {a b c d : Int} (hr : Right a b c d) (j : Nat) : U64 (fstV a b c d j) := by
  unfold fstV
  by_cases h : (spotF b c d j).1 = 5 ∧ (spotF b c d j).2.1 + 1 < a
  · rw [if_pos h]
    have h0 := spot_five_pos hr j h.1
    have h1 := h.2
    unfold Right at hr
    unfold U64
    omega
  · rw [if_neg h]
    by_cases h2 : (spotF b c d j).1 = 0 ∧ (spotF b c d j).2.1 = 0
    · rw [if_pos h2]; unfold U64; omega
    · rw [if_neg h2]; unfold U64; omega
end Go.Proofs.YtbpooljohjkbjaaGreatDoor
/- A hand and the document's hand side by side: what is done to the one leaves the other alone; each call of both. Acts, as they are handed in. -/
namespace Go.Proofs.YtbpooljohjkbjaaGreatDoor
open Go Go.RowKit
set_option maxRecDepth 100000
theorem upd_u64 {f : Nat → Int} (hf : ∀ j, U64 (f j)) (j : Nat) {z : Int} (hz : U64 z) (i : Nat) : U64 (upd f j z i) := by
  unfold upd
  by_cases e : i = j
  · rw [if_pos e]; exact hz
  · rw [if_neg e]; exact hf i
theorem wordsQ_u64 {n : Nat} {f : Nat → Int} (hf : ∀ j, U64 (f j)) (k i : Int) {x y : Int} (hx : U64 x) (hy : U64 y) (j : Nat) : U64 (wordsQ n f k i x y j) := by
  unfold wordsQ
  by_cases h : okD n k i
  · rw [if_pos h]; unfold doF
    by_cases h2 : k = 2
    · rw [if_pos h2]; exact upd_u64 hf _ hx j
    · rw [if_neg h2]
      by_cases h3 : k = 3
      · rw [if_pos h3]
        by_cases e : f i.toNat = x
        · rw [if_pos e]; exact upd_u64 hf _ hy j
        · rw [if_neg e]; exact hf j
      · rw [if_neg h3]
        by_cases h4 : k = 4
        · rw [if_pos h4]; exact upd_u64 hf _ (sumW_u64 _ _) j
        · rw [if_neg h4]; exact hf j
  · rw [if_neg h]; exact hf j
theorem u64_zero : U64 0 := by unfold U64; omega
namespace Both
variable {w W V : World} {H A G X : Nat} {va : Option Addr} {n cap N : Nat} {a b c d : Int} {f f' f2 : Nat → Int} {k i x y o k2 i2 x2 y2 o2 k' i' x' y' o' : Int}
end Both
end Go.Proofs.YtbpooljohjkbjaaGreatDoor
/- What a hand holds, and how far a mutator is, as one thing each; blocks beside them. -/
namespace Go.Proofs.YtbpooljohjkbjaaGreatDoor
open Go Go.RowKit
set_option maxRecDepth 100000
attribute [local go_sem ↓] Go.wp_at_zero Go.wp_at_succ
structure Cf where
  n : Nat
  a : Int
  b : Int
  c : Int
  d : Int
structure Dy where
  f : Nat → Int
  k : Int
  i : Int
  x : Int
  y : Int
  o : Int
def Dy.U (s : Dy) : Prop := ∀ j, U64 (s.f j)
def Dy.act (C : Cf) (s : Dy) (k i x y : Int) : Dy := ⟨wordsQ C.n s.f k i x y, z5 C.n k i k, z5 C.n k i i, z5 C.n k i x, z5 C.n k i y, z5 C.n k i (s.f i.toNat)⟩
theorem Dy.U.act {s : Dy} (h : s.U) (C : Cf) (k i : Int) {x y : Int} (hx : U64 x) (hy : U64 y) : (s.act C k i x y).U := fun j => wordsQ_u64 h k i hx hy j
abbrev HAt (w : World) (H A G : Nat) (C : Cf) (s : Dy) : Prop := HandAt w H A G C.n s.f C.a C.b C.c C.d s.k s.i s.x s.y s.o
def HP (w : World) (H A G : Nat) (C : Cf) (s : Dy) (v : Value) (e : Ending) (w' : World) : Prop := e = .returned v ∧ HAt w' H A G C s ∧ Sav (HG H G) w w'
structure Mu where
  l : Int
  q1 : Int
  q2 : Int
  q3 : Int
  q4 : Int
  m1 : Int
  m2 : Int
  m3 : Int
  m4 : Int
  m5 : Int
  p : Int
  bk : Int
  rt : Int
abbrev Mu.v (m : Mu) : Value := .agg #[.int .i64 m.l, .int .i64 m.q1, .int .i64 m.q2, .int .i64 m.q3, .int .i64 m.q4, .int .u64 m.m1, .int .u64 m.m2, .int .u64 m.m3, .int .u64 m.m4, .int .u64 m.m5, .int .u64 m.p, .int .i64 m.bk, .int .i64 m.rt]
def Mu.U (m : Mu) : Prop := U64 m.m1 ∧ U64 m.m2 ∧ U64 m.m3 ∧ U64 m.m4 ∧ U64 m.m5 ∧ U64 m.p
abbrev MuAt (w : World) (B : Nat) (m : Mu) : Prop := Mut13 w B m.l m.p m.bk m.q1 m.q2 m.q3 m.q4 m.m1 m.m2 m.m3 m.m4 m.m5 m.rt
theorem Mut13.savH {w V : World} {H G : Nat} {B : Nat} {l p bk q1 q2 q3 q4 m1 m2 m3 m4 m5 rt : Int} (h : Mut13 w B l p bk q1 q2 q3 q4 m1 m2 m3 m4 m5 rt) (hs : Sav (HG H G) w V) (h1 : B ≠ H) (h2 : B ≠ G) : Mut13 V B l p bk q1 q2 q3 q4 m1 m2 m3 m4 m5 rt :=
  h.other (hs.block B h.lt (fun e => e.elim h1 h2))
theorem Mut13.setL {w : World} {B : Nat} {l p bk q1 q2 q3 q4 m1 m2 m3 m4 m5 rt : Int} (h : Mut13 w B l p bk q1 q2 q3 q4 m1 m2 m3 m4 m5 rt) (z : Int) : Mut13 (w.setCell ⟨B, 0, none⟩ (.int .i64 z)) B z p bk q1 q2 q3 q4 m1 m2 m3 m4 m5 rt := by
  unfold Mut13 at *; simp [World.setCell, Array.getElem?_modify, h]
theorem Mut13.setOther {w : World} {B : Nat} {l p bk q1 q2 q3 q4 m1 m2 m3 m4 m5 rt : Int} (h : Mut13 w B l p bk q1 q2 q3 q4 m1 m2 m3 m4 m5 rt) {q : Addr} (hq : q.block ≠ B) (v : Value) : Mut13 (w.setCell q v) B l p bk q1 q2 q3 q4 m1 m2 m3 m4 m5 rt :=
  h.other (Below.heap_setCell _ _ _ _ hq.symm)
end Go.Proofs.YtbpooljohjkbjaaGreatDoor
/- Package op's isKind, Name, Ret and last, and the document's Name, Ret, Part and Number: for every kind, result and number. -/
namespace Go.Proofs.YtbpooljohjkbjaaGreatDoor
open Go Go.RowKit
set_option maxRecDepth 100000
def nmL : Nat → List UInt8
  | 1 => [115, 101, 116]
  | 2 => [109, 111, 118, 101]
  | 3 => [99, 111, 110, 115]
  | 4 => [99, 97, 114]
  | 5 => [99, 100, 114]
  | 6 => [114, 112, 108, 97, 99, 97]
  | 7 => [114, 112, 108, 97, 99, 100]
  | 8 => [103, 101, 116]
  | 9 => [112, 117, 116]
  | 10 => [101, 113]
  | 11 => [97, 116, 111, 109]
  | _ => []
def hsL : Nat → List UInt8
  | 1 => [114, 107]
  | 2 => [114, 114]
  | 3 => [114, 114, 114]
  | 4 => [114, 114]
  | 5 => [114, 114]
  | 6 => [114, 114]
  | 7 => [114, 114]
  | 8 => [114, 103]
  | 9 => [103, 114]
  | 10 => [114, 114]
  | 11 => [114]
  | _ => []
def okK (k : Int) : Prop := 1 ≤ k ∧ k ≤ 11
theorem okK.nat {k : Int} (h : okK k) : ∃ m : Nat, k = m ∧ 1 ≤ m ∧ m ≤ 11 := ⟨k.toNat, by unfold okK at h; omega, by unfold okK at h; omega, by unfold okK at h; omega⟩
structure RowsAt (w : World) : Prop where
  name : ∀ m, m < 12 → w.cell? ⟨1, m * 2, none⟩ = some (.string ⟨(nmL m).toArray⟩)
  has : ∀ m, m < 12 → w.cell? ⟨1, m * 2 + 1, none⟩ = some (.string ⟨(hsL m).toArray⟩)
theorem RowsAt.below {w w' : World} (h : RowsAt w) (hb : Below w.heap.size w w') : RowsAt w' :=
  ⟨fun m hm => (hb.cell (p := ⟨_, _, none⟩) (lt_of_cell (h.name m hm))).trans (h.name m hm), fun m hm => (hb.cell (p := ⟨_, _, none⟩) (lt_of_cell (h.has m hm))).trans (h.has m hm)⟩
theorem isKind_yes (m : Nat) (h1 : 1 ≤ m) (h2 : m ≤ 11) (w : World) : Calls Tryz.prog 82 #[.int .i64 (m : Int)] w fun e w' => e = .returned (.bool true) ∧ w = w' := by
  have hd : decide ((m : Int) < 12) = true := decide_eq_true (by omega)
  go_enter Tryz.func82, Tryz.ntmps82
  go_wp2
  go_ret
  exact ⟨rfl, rfl⟩
theorem isKind_no (k : Int) (h : ¬ okK k) (w : World) : Calls Tryz.prog 82 #[.int .i64 k] w fun e w' => e = .returned (.bool false) ∧ w = w' := by
  by_cases h0 : 0 < k
  · have h1 : ¬ k < 12 := by unfold okK at h; omega
    have hd : decide (k < 12) = false := decide_eq_false h1
    clear h
    go_enter Tryz.func82, Tryz.ntmps82
    go_wp2
    go_ret
    exact ⟨rfl, rfl⟩
  · clear h
    go_enter Tryz.func82, Tryz.ntmps82
    go_wp2
    go_ret
    exact ⟨rfl, rfl⟩
def numF (a b c : Int) : Nat → Int
  | 0 => a
  | 1 => b
  | _ => c
def lastF (c d x : Int) : Int := if x = 114 then c - 1 else if x = 103 then d - 1 else 9223372036854775807
theorem last_c (a b c d x : Int) (hr : Right a b c d) (w : World) :
    Calls Tryz.prog 84 #[.agg #[.int .i64 a, .int .i64 b, .int .i64 c, .int .i64 d], .int .i32 x] w fun e w' => e = .returned (.int .i64 (lastF c d x)) ∧ Below w.heap.size w w' := by
  have HB := Lib.hid (below_new w (.cells #[.int .i64 a, .int .i64 b, .int .i64 c, .int .i64 d] 23))
  have hc : 1 ≤ c ∧ c ≤ 64 := by unfold Right at hr; omega
  have hd : 0 ≤ d ∧ d ≤ 64 := by unfold Right at hr; omega
  obtain ⟨hc1, hc2⟩ := hc
  obtain ⟨hd1, hd2⟩ := hd
  clear hr
  have w1 : IntKind.i64.wrap (c - 1) = c - 1 := IntWalk.i64_in _ (by omega)
  have w2 : IntKind.i64.wrap (d - 1) = d - 1 := IntWalk.i64_in _ (by omega)
  by_cases h1 : x = 114
  · have HE : Hid (lastF c d x = c - 1) := Lib.hid (if_pos h1)
    go_enter Tryz.func84, Tryz.ntmps84
    go_wp2
    go_ret
    rw [HE.out]
    exact ⟨rfl, HB.out⟩
  · by_cases h2 : x = 103
    · have HE : Hid (lastF c d x = d - 1) := Lib.hid ((if_neg h1).trans (if_pos h2))
      go_enter Tryz.func84, Tryz.ntmps84
      go_wp2
      go_ret
      rw [HE.out]
      exact ⟨rfl, HB.out⟩
    · have HE : Hid (lastF c d x = 9223372036854775807) := Lib.hid ((if_neg h1).trans (if_neg h2))
      go_enter Tryz.func84, Tryz.ntmps84
      go_wp2
      go_ret
      rw [HE.out]
      exact ⟨rfl, HB.out⟩
end Go.Proofs.YtbpooljohjkbjaaGreatDoor
/- A law for a range over a function whose iterator may itself range over another one, and tells the members of a given list: the caller's invariant abides whatever the iterator lays and turns behind the heap's end, and each round tells that it left alone what lies there. -/
namespace Go.Proofs.YtbpooljohjkbjaaGreatDoor
open Go Go.RowKit
variable {F : Fence} {n : Nat} {P : Program}
def KeepsTop (e : TypeId) (B : Nat) (W W' : World) : Prop := W.heap.size ≤ W'.heap.size ∧ ∀ (k : Nat) (o : Obj), B ≤ k → (∀ c fz, o ≠ .cells c e fz) → W.heap[k]? = some o → W'.heap[k]? = some o
theorem KeepsTop.trans {e : TypeId} {B : Nat} {X Y Z : World} (h : KeepsTop e B X Y) (k : KeepsTop e B Y Z) : KeepsTop e B X Z := ⟨Nat.le_trans h.1 k.1, fun i o hB ho hi => k.2 i o hB ho (h.2 i o hB ho hi)⟩
theorem KeepsTop.up {e : TypeId} {B B' : Nat} {W W' : World} (h : KeepsTop e B W W') (hb : B ≤ B') : KeepsTop e B' W W' := ⟨h.1, fun k o hk => h.2 k o (Nat.le_trans hb hk)⟩
theorem KeepsTop.of_grownBy {e : TypeId} {B : Nat} {W W' : World} {row : Option Nat} (hg : W.grownBy W' row) (hrow : ∀ j, row = some j → j < B) : KeepsTop e B W W' :=
  ⟨hg.size, fun k _ hB _ hk => (hg.block k (Array.getElem?_eq_some_iff.1 hk).1 (fun e => by have := hrow k e.symm; omega)).trans hk⟩
theorem KeepsTop.putObj {e : TypeId} {B : Nat} {W : World} {l : Nat} (o : Obj) (h : l < B) : KeepsTop e B W (W.putObj l o) :=
  KeepsTop.of_grownBy (grownBy_putObj' W l o) (fun j e => by cases e; exact h)
theorem KeepsTop.of_below {e : TypeId} {B : Nat} {W W' : World} (h : Below W.heap.size W W') : KeepsTop e B W W' :=
  ⟨h.size, fun k _ _ _ hk => (h.block k (Array.getElem?_eq_some_iff.1 hk).1).trans hk⟩
theorem KeepsTop.cells {e : TypeId} {B : Nat} {W W' : World} (h : KeepsTop e B W W') {b : Nat} {cs : Array Value} {t : TypeId} {fz : Nat × Nat} (hb : B ≤ b) (ht : t ≠ e) (hc : W.heap[b]? = some (.cells cs t fz)) : W'.heap[b]? = some (.cells cs t fz) :=
  h.2 b _ hb (fun c fz' he => by cases he; exact ht rfl) hc
def SeqL {α : Type} (e₀ : TypeId) (F : Fence) (n : Nat) (P : Program) (g : Nat) (lb : Array Value) (encs : α → Array Value) (zs : List α) (w : World) : Prop :=
  ∀ (l : Nat) (J Jx : List α → World → Prop) (W : World), Below w.heap.size w W → OwnFrom W.heap.size J → OwnFrom W.heap.size Jx →
    (∀ pre x W1, J pre W1 → pre ++ [x] <+: zs → YieldAt F (n - 1) P l (encs x) W1 fun e W' =>
      (e = .returned (.bool true) ∧ J (pre ++ [x]) W' ∧ KeepsTop e₀ W.heap.size W1 W') ∨ (e = .returned (.bool false) ∧ Jx (pre ++ [x]) W' ∧ KeepsTop e₀ W.heap.size W1 W')) →
    J [] W →
    CallsIn F n P g (#[.func (.yield l) #[] #[]] ++ lb) W fun e W' => (∃ v, e = .returned v) ∧ (J zs W' ∨ (∃ pre, pre <+: zs ∧ Jx pre W'))
def postL {α : Type} (e₀ : TypeId) (B : Nat) (I : List α → World → Prop) (Ix : Code → List α → World → Prop) (xs : List α) (W : World) : Exit → Act → World → Prop
  | .normal, _, W' => KeepsTop e₀ B W W' ∧ I xs W'
  | .ret, _, W' => KeepsTop e₀ B W W' ∧ Ix .ret xs W'
  | .exit id, _, W' => KeepsTop e₀ B W W' ∧ Ix (.exit id) xs W'
  | .goto t, _, W' => KeepsTop e₀ B W W' ∧ Ix (.goto t) xs W'
  | .panic _, _, _ => False
  | .outgrown, _, _ => False
set_option maxHeartbeats 1000000 in
theorem wpIn_rangeL {α : Type} {e₀ : TypeId} {g : Operand} {ps : Array Tmp} {assign body : Code} {Q : Exit → Act → World → Prop} {a : Act} {w : World}
    (hro : F.round = none) (h1 : 1 ≤ n) {gf : Nat} {lb : Array Value} (hg : a.eval g = .func (.func gf) #[] lb) (hFg : F.fn gf) (eg : ∀ args w, (callFunc gf args).run P w = .ok (.enter gf args) w)
    {encs : α → Array Value} {zs : List α} {w0 : World} (hseq : SeqL e₀ F (n - 1) P gf lb encs zs w0)
    (hb0 : Below w0.heap.size w0 w) (hps : ∀ x, (encs x).size = ps.size)
    (I : List α → World → Prop) (Ix : Code → List α → World → Prop) (hI : OwnFrom w.heap.size I) (hIx : ∀ c, OwnFrom w.heap.size (Ix c)) (h0 : I [] w) (a₁ : α → Act)
    (hassign : ∀ (l : Nat) (x : α) (W : World) (K : Act → World → Prop), K (a₁ x) W →
      assign.wpIn (F.inRound l) (n - 1 - 1) P (Exit.then K (fun _ _ _ => False)) { tmps := (ps.zip (encs x)).foldl (fun t (p, v) => t.setIfInBounds p v) a.tmps, defers := [] } W)
    (hbody : ∀ (l : Nat) (pre : List α) (x : α) (W : World), I pre W → pre ++ [x] <+: zs → body.wpIn (F.inRound l) (n - 1 - 1) P (postL e₀ w.heap.size I Ix (pre ++ [x]) W) (a₁ x) W)
    (hdone : ∀ (D : Nat) (W : World), w.heap.size ≤ D → I zs W → W.heap[D]? = some (.deferred (some [])) → Q .normal { a with defers := { target := .collected D, args := #[] } :: a.defers } W)
    (hstop : ∀ (D : Nat) (c : Code) (pre : List α) (W : World), w.heap.size ≤ D → pre <+: zs → Ix c pre W → W.heap[D]? = some (.deferred (some [])) → c.wpIn F n P Q { a with defers := { target := .collected D, args := #[] } :: a.defers } W) :
    (Code.rangeFunc g ps assign body).wpIn F n P Q a w := by
  refine wpIn_rangeFunc ?_
  intro fn hfn
  rw [hro]
  obtain ⟨rec, hrec⟩ : ∃ rec : LoopState → Option Code → Loop, rec = fun st pe => { state := st, pending := pe, fn, tmps := a.tmps, params := ps, assign, body, defers := w.heap.size } := ⟨_, rfl⟩
  obtain ⟨W1, hW1⟩ : ∃ W1, (w.alloc (.deferred (some []))).alloc (.loop (rec .ready none)) = W1 := ⟨_, rfl⟩
  have hz1 : W1.heap.size = w.heap.size + 2 := by rw [← hW1]; simp
  have hL1 : W1.heap[w.heap.size + 1]? = some (.loop (rec .ready none)) := by
    rw [← hW1]; have := World.alloc_heap_new (w.alloc (.deferred (some []))) (.loop (rec .ready none)); rwa [World.size_alloc] at this
  have hK1 : W1.heap[w.heap.size]? = some (.deferred (some [])) := by
    rw [← hW1]; exact (Below.heap_alloc _ _ _ (by simp)).trans (World.alloc_heap_new w _)
  have hI1 : I [] W1 := by rw [← hW1]; exact hI.alloc _ (hI.alloc _ h0)
  have hb1 : Below w0.heap.size w0 W1 := by
    rw [← hW1]; exact hb0.trans ((((Below.refl _ w).alloc (Nat.le_refl _) _).alloc (by simp) _).mono hb0.size)
  have old : ∀ {A B : World} {row : Option Nat} {k : Nat} {o : Obj}, A.grownBy B row → (∀ r, row = some r → W1.heap.size ≤ r ∧ ∃ o : Obj, A.heap[r]? = some o ∧ o.isCells = false) → k ≤ w.heap.size + 1 → A.heap[k]? = some o → B.heap[k]? = some o := fun hg' hr hk ho =>
    (hg'.block _ (Array.getElem?_eq_some_iff.1 ho).1 (fun e => by have := (hr _ e.symm).1; omega)).trans ho
  have low : ∀ {A : World} {row : Option Nat}, (∀ r, row = some r → W1.heap.size ≤ r ∧ ∃ o : Obj, A.heap[r]? = some o ∧ o.isCells = false) → (∀ r, row = some r → w.heap.size ≤ r ∧ ∃ o : Obj, A.heap[r]? = some o ∧ o.isCells = false) :=
    fun hr r e => ⟨by have := (hr r e).1; omega, (hr r e).2⟩
  refine ⟨w.heap.size + 1, [{ target := .collected w.heap.size, args := #[] }], W1, { target := .fn (.func gf) lb, args := #[.func (.yield (w.heap.size + 1)) #[] #[]] }, W1, gf,
    #[.func (.yield (w.heap.size + 1)) #[] #[]] ++ lb, W1, ?_, ?_, ?_, ?_, fun _ => h1, ?_⟩
  · rw [← hW1, hrec]; exact run_enterLoop_outer _ _ _ _ _
  · simp only [resolve, hg]
    simp [go_sem]
  · intro f' hf'; simp [Target.leads] at hf'; subst hf'; exact hFg
  · simp [invoke, go_sem, eg]
  · refine (hseq (w.heap.size + 1)
      (fun pre W => I pre W ∧ W.heap[w.heap.size + 1]? = some (.loop (rec .ready none)) ∧ W.heap[w.heap.size]? = some (.deferred (some [])))
      (fun pre W => ∃ c, Ix c pre W ∧ W.heap[w.heap.size + 1]? = some (.loop (rec .done (some c))) ∧ W.heap[w.heap.size]? = some (.deferred (some [])))
      W1 hb1
      (fun s A B row hs hg' hr => ⟨hI s A B row hs.1 hg' (low hr), old hg' hr (Nat.le_refl _) hs.2.1, old hg' hr (by omega) hs.2.2⟩)
      (fun s A B row hs hg' hr => by
        obtain ⟨c, hc, hl, hk⟩ := hs
        exact ⟨c, hIx c s A B row hc hg' (low hr), old hg' hr (Nat.le_refl _) hl, old hg' hr (by omega) hk⟩)
      ?_ ⟨hI1, hL1, hK1⟩).mono ?_
    · rintro pre x W ⟨hi, hl, hk⟩ hlen
      have hlt : w.heap.size + 1 < W.heap.size := (Array.getElem?_eq_some_iff.1 hl).1
      have hy := run_yield (P := P) (args := encs x) hl (by rw [hrec]; exact hps x)
      rw [hrec] at hy
      refine ⟨fn, _, assign, body, hy, roundIn_of_wpIn hfn (hassign _ x W _ ⟨_, run_beginRound hl (by rw [hrec]), ?_⟩)⟩
      have hl2 : (W.putObj (w.heap.size + 1) (.loop { rec .ready none with state := .busy })).heap[w.heap.size + 1]? = some (.loop { rec .ready none with state := .busy }) := World.putObj_heap_same hlt
      have hk2 : (W.putObj (w.heap.size + 1) (.loop { rec .ready none with state := .busy })).heap[w.heap.size]? = some (.deferred (some [])) := (World.putObj_heap_other (by omega)).trans hk
      have hf2 : KeepsTop e₀ W1.heap.size W (W.putObj (w.heap.size + 1) (.loop { rec .ready none with state := .busy })) := KeepsTop.putObj _ (by omega)
      refine wpIn_mono (hbody _ pre x _ (hI.putObj _ hi (by omega) hl rfl) hlen) ?_
      have fin : ∀ (jump : Option Code) (W3 : World), KeepsTop e₀ w.heap.size (W.putObj (w.heap.size + 1) (.loop { rec .ready none with state := .busy })) W3 →
          (Instr.endRound (w.heap.size + 1) jump).run P W3 = .ok (.bool jump.isNone) (W3.putObj (w.heap.size + 1) (.loop (rec (if jump.isNone then .ready else .done) jump))) ∧
          W3.heap[w.heap.size + 1]? = some (.loop { rec .ready none with state := .busy }) ∧
          (W3.putObj (w.heap.size + 1) (.loop (rec (if jump.isNone then .ready else .done) jump))).heap[w.heap.size + 1]? = some (.loop (rec (if jump.isNone then .ready else .done) jump)) ∧
          (W3.putObj (w.heap.size + 1) (.loop (rec (if jump.isNone then .ready else .done) jump))).heap[w.heap.size]? = some (.deferred (some [])) ∧
          KeepsTop e₀ W1.heap.size W (W3.putObj (w.heap.size + 1) (.loop (rec (if jump.isNone then .ready else .done) jump))) := fun jump W3 hk3 => by
        have hl3 := hk3.2 _ _ (by omega) (fun _ _ h => by cases h) hl2
        have := run_endRound (P := P) jump hl3
        rw [hrec] at this ⊢
        exact ⟨this, by rw [hrec] at hl3; exact hl3, World.putObj_heap_same (Array.getElem?_eq_some_iff.1 hl3).1, (World.putObj_heap_other (by omega)).trans (hk3.2 _ _ (Nat.le_refl _) (fun _ _ h => by cases h) hk2),
          (hf2.trans (hk3.up (by omega))).trans (KeepsTop.putObj _ (by omega))⟩
      rintro e a3 W3 hp
      cases e with
      | normal =>
        obtain ⟨hk3, hi3⟩ := hp
        obtain ⟨hr, hl3, hl4, hk4, hq4⟩ := fin none W3 hk3
        exact ⟨_, _, hr, .inl ⟨rfl, ⟨hI.putObj _ hi3 (by omega) hl3 rfl, hl4, hk4⟩, hq4⟩⟩
      | ret =>
        obtain ⟨hk3, hi3⟩ := hp
        obtain ⟨hr, hl3, hl4, hk4, hq4⟩ := fin (some .ret) W3 hk3
        exact ⟨_, _, hr, .inr ⟨rfl, ⟨.ret, (hIx _).putObj _ hi3 (by omega) hl3 rfl, hl4, hk4⟩, hq4⟩⟩
      | exit id =>
        obtain ⟨hk3, hi3⟩ := hp
        obtain ⟨hr, hl3, hl4, hk4, hq4⟩ := fin (some (.exit id)) W3 hk3
        exact ⟨_, _, hr, .inr ⟨rfl, ⟨.exit id, (hIx _).putObj _ hi3 (by omega) hl3 rfl, hl4, hk4⟩, hq4⟩⟩
      | goto t =>
        obtain ⟨hk3, hi3⟩ := hp
        obtain ⟨hr, hl3, hl4, hk4, hq4⟩ := fin (some (.goto t)) W3 hk3
        exact ⟨_, _, hr, .inr ⟨rfl, ⟨.goto t, (hIx _).putObj _ hi3 (by omega) hl3 rfl, hl4, hk4⟩, hq4⟩⟩
      | panic ch => exact hp.elim
      | outgrown => exact hp.elim
    · rintro e W2 ⟨⟨v, rfl⟩, (⟨hi, hl, hk⟩ | ⟨pre, hSp, c, hi, hl, hk⟩)⟩
      · exact ⟨none, _, by have := run_endLoop (P := P) hl (by rw [hrec]; simp); rw [hrec] at this; exact this, hdone _ _ (Nat.le_refl _) (hI.putObj _ hi (by omega) hl rfl) ((World.putObj_heap_other (by omega)).trans hk)⟩
      · exact ⟨some c, _, by have := run_endLoop (P := P) hl (by rw [hrec]; simp); rw [hrec] at this; exact this, hstop _ c pre _ (Nat.le_refl _) hSp ((hIx c).putObj _ hi (by omega) hl rfl) ((World.putObj_heap_other (by omega)).trans hk)⟩
end Go.Proofs.YtbpooljohjkbjaaGreatDoor
/- Package op's iterators: numbers, which tells the numbers that an operation has, each with what it is, and Regs, which tells its registers. -/
namespace Go.Proofs.YtbpooljohjkbjaaGreatDoor
open Go Go.RowKit Go.Shelf
attribute [local go_sem] Oper.semAt_some
set_option maxRecDepth 100000
def numsH (h : List UInt8) (a b c : Int) : List (Int × Int) := (List.range h.length).map fun i => (((h.getD i 0).toNat : Int), numF a b c i)
def nums (k a b c : Int) : List (Int × Int) := numsH (hsL k.toNat) a b c
theorem no_nat {k : Int} (h : ¬ okK k) : k.toNat = 0 ∨ 12 ≤ k.toNat := by unfold okK at h; omega
theorem hsL_out {m : Nat} (h : m = 0 ∨ 12 ≤ m) : hsL m = [] := by
  unfold hsL
  split <;> first | rfl | omega
theorem nums_no {k : Int} (h : ¬ okK k) (a b c : Int) : nums k a b c = [] := by
  unfold nums; rw [hsL_out (no_nat h)]; rfl
theorem hsL_short (m : Nat) : (hsL m).length ≤ 3 := by
  unfold hsL
  split <;> decide
theorem hsL_ascii (m : Nat) : ∀ x ∈ hsL m, x.toNat < 128 := by
  unfold hsL
  split <;> decide
theorem numsH_take (h : List UInt8) (a b c : Int) {p : Nat} (hp : p < h.length) : (numsH h a b c).take (p + 1) = (numsH h a b c).take p ++ [(((h.getD p 0).toNat : Int), numF a b c p)] := by
  have hl : p < (numsH h a b c).length := by simpa [numsH] using hp
  rw [List.take_succ_eq_append_getElem hl]
  simp [numsH]
theorem numsH_length (h : List UInt8) (a b c : Int) : (numsH h a b c).length = h.length := by simp [numsH]
def enc2 (x : Int × Int) : Array Value := #[Value.int .i32 x.1, Value.int .i64 x.2]
theorem opNumbers_c (k a b c : Int) (w : World) : Calls Tryz.prog 83 #[.agg #[.int .i64 k, .int .i64 a, .int .i64 b, .int .i64 c]] w fun e w' =>
    e = .returned (.func (.func 114) #[] #[.pointer (some ⟨w.heap.size, 0, none⟩)]) ∧ w' = w.alloc (.cells #[.int .i64 k, .int .i64 a, .int .i64 b, .int .i64 c] 58) := by
  go_enter Tryz.func83, Tryz.ntmps83
  go_wp2
  go_ret
  exact ⟨rfl, rfl⟩
theorem seq33_no (n l B : Nat) (k a b c : Int) (hk : ¬ okK k) (J : List (Int × Int) → World → Prop) (W : World) (hX : Arr4 W B 58 k a b c) (h0 : J [] W) :
    CallsIn Fence.wide n Tryz.prog 114 #[.func (.yield l) #[] #[], .pointer (some ⟨B, 0, none⟩)] W fun e W' => (∃ v, e = .returned v) ∧ J [] W' := by
  have HK := Lib.hid (isKind_no k hk)
  obtain ⟨x0, x1, x2, x3, xf⟩ := hX.cells
  clear hk hX
  refine callsIn_of_wp Tryz.func114 rfl trivial ?_ rfl
  simp only [Tryz.ntmps114, List.size_toArray, List.length_cons, List.length_nil, Nat.reduceAdd, Nat.reduceSub, Array.replicate_succ, Array.replicate_zero, List.push_toArray, List.append_toArray, List.nil_append, List.cons_append]
  gi_wp2_with fail
  refine ⟨trivial, fun h => (by cases h), ?_⟩
  refine (callsIn_wide.2 (HK.out _)).mono ?_
  rintro e w' ⟨rfl, rfl⟩
  gi_wp2
  refine bodyPost_ret (results_none rfl _ _ _) rfl ?_
  exact ⟨⟨_, rfl⟩, h0⟩
structure Mine (A : Nat) (h : ByteArray) (a b c : Int) (p : Nat) (W : World) : Prop where
  arr : W.heap[A]? = some (.cells #[.int .i64 a, .int .i64 b, .int .i64 c] 180 (0, 0))
  at_ : W.heap[A + 1]? = some (.stringIter h p)
theorem Mine.all {A : Nat} {h : ByteArray} {a b c : Int} {p : Nat} {W : World} (hM : Mine A h a b c p W) (i : Nat) (hi : i < 3) : W.cell? ⟨A, i, none⟩ = some (.int .i64 (numF a b c i)) := by
  have := hM.arr
  obtain rfl | rfl | rfl : i = 0 ∨ i = 1 ∨ i = 2 := by omega
  all_goals simp [World.cell?, this, numF]
set_option maxHeartbeats 4000000 in
theorem seq33_yes (e₀ : TypeId) (he : 180 ≠ e₀) (n l B m : Nat) (h1 : 1 ≤ m) (h2 : m ≤ 11) (a b c : Int) (J Jx : List (Int × Int) → World → Prop) (W : World) (hX : Arr4 W B 58 m a b c) (hR : RowsAt W) (hJ : OwnFrom W.heap.size J)
    (hY : ∀ pre x W1, J pre W1 → pre ++ [x] <+: numsH (hsL m) a b c → YieldAt Fence.wide (n - 1) Tryz.prog l (enc2 x) W1 fun e W' =>
      (e = .returned (.bool true) ∧ J (pre ++ [x]) W' ∧ KeepsTop e₀ W.heap.size W1 W') ∨ (e = .returned (.bool false) ∧ Jx (pre ++ [x]) W' ∧ KeepsTop e₀ W.heap.size W1 W'))
    (h0 : J [] W) :
    CallsIn Fence.wide n Tryz.prog 114 #[.func (.yield l) #[] #[], .pointer (some ⟨B, 0, none⟩)] W fun e W' => (∃ v, e = .returned v) ∧
      (J (numsH (hsL m) a b c) W' ∨ ∃ pre, pre <+: numsH (hsL m) a b c ∧ Jx pre W') := by
  have HK := Lib.hid (isKind_yes m h1 h2)
  obtain ⟨x0, x1, x2, x3, xf⟩ := hX.cells
  have hc := hR.has m (by omega)
  have hlt : B < W.heap.size := hX.lt
  have hgl : 1 < W.heap.size := lt_of_cell hc
  have hlen := hsL_short m
  have HA := Lib.hid (hsL_ascii m)
  clear hX hR
  generalize hsL m = hs at *
  have HF : Hid ((numsH hs a b c).take hs.length = numsH hs a b c) := Lib.hid (List.take_of_length_le (by rw [numsH_length]; exact Nat.le_refl _))
  have HT : Hid (∀ p, p < hs.length → (numsH hs a b c).take (p + 1) = (numsH hs a b c).take p ++ [(((hs.getD p 0).toNat : Int), numF a b c p)]) := Lib.hid (fun p hp => numsH_take hs a b c hp)
  have HP : Hid (∀ p, (numsH hs a b c).take p <+: numsH hs a b c) := Lib.hid (fun p => List.take_prefix _ _)
  generalize numsH hs a b c = zs at *
  have HO := Lib.hid hJ
  have HY := Lib.hid hY
  clear hJ hY
  have h0' := Lib.hid h0; clear h0
  refine callsIn_of_wp Tryz.func114 rfl trivial ?_ rfl
  simp only [Tryz.ntmps114, List.size_toArray, List.length_cons, List.length_nil, Nat.reduceAdd, Nat.reduceSub, Array.replicate_succ, Array.replicate_zero, List.push_toArray, List.append_toArray, List.nil_append, List.cons_append]
  gi_wp2_with fail
  refine ⟨trivial, fun h => (by cases h), ?_⟩
  refine (callsIn_wide.2 (HK.out _)).mono ?_
  rintro e w' ⟨rfl, rfl⟩
  clear HK
  gi_wp2
  gi_loopw [23] (fun _ wr => ∃ p : Nat, p ≤ hs.length ∧ Hid (J (zs.take p) wr) ∧ Hid (Mine W.heap.size ⟨hs.toArray⟩ a b c p wr)) (fun _ wr => hs.length - wr.iterPos (W.heap.size + 1))
  case atStart =>
    refine ⟨0, Nat.zero_le _, Lib.hid ?_, Lib.hid ⟨?_, ?_⟩⟩
    · rw [List.take_zero]
      exact HO.out.alloc _ (HO.out.alloc _ h0'.out)
    · exact (Below.heap_alloc _ _ _ (by simp)).trans (World.alloc_heap_new W _)
    · have := World.alloc_heap_new (W.alloc (.cells #[.int .i64 a, .int .i64 b, .int .i64 c] 180)) (.stringIter ⟨hs.toArray⟩ 0)
      rw [World.size_alloc] at this
      exact this
  case round =>
    obtain ⟨p, hp, HJs, HM⟩ := hrel
    have hit := HM.out.at_
    have hmu : wr.iterPos (W.heap.size + 1) = p := by simp [World.iterPos, hit]
    by_cases hlt2 : p < hs.length
    · have hsz : p < (⟨hs.toArray⟩ : ByteArray).size := by simpa [ByteArray.size] using hlt2
      have hget : (⟨hs.toArray⟩ : ByteArray)[p]'hsz = hs.getD p 0 := by
        show hs.toArray[p]'_ = _
        simp [List.getD, hlt2]
      have hasc : ((⟨hs.toArray⟩ : ByteArray)[p]'hsz).toNat < 128 := by
        rw [hget]; exact HA.out _ (by simp [List.getD, hlt2])
      have hnx := fun ty => Lib.run_next_ascii_at (P := Tryz.prog) wr (W.heap.size + 1) ⟨hs.toArray⟩ p ty hit hsz hasc
      rw [hget] at hnx
      have hnum := HM.out.all p (by omega)
      have hlt3 : W.heap.size + 1 < wr.heap.size := (Array.getElem?_eq_some_iff.1 hit).1
      have HM2 : Hid (Mine W.heap.size ⟨hs.toArray⟩ a b c (p + 1) (wr.iterAt (W.heap.size + 1) ⟨hs.toArray⟩ (p + 1))) := Lib.hid ⟨(Lib.iterAt_other wr _ _ _ _ (by simp)).trans HM.out.arr, Lib.iterAt_heap wr _ _ _ _ hit⟩
      have hnum2 := HM2.out.all p (by omega)
      have HJ2 : Hid (J (zs.take p) (wr.iterAt (W.heap.size + 1) ⟨hs.toArray⟩ (p + 1))) := Lib.hid (HO.out.putObj _ HJs.out (by omega) hit rfl)
      have hpre : zs.take p ++ [(((hs.getD p 0).toNat : Int), numF a b c p)] <+: zs := by rw [← HT.out p hlt2]; exact HP.out _
      obtain ⟨fn, tmps, assign, body, hy, hR⟩ := HY.out _ _ _ HJ2.out hpre
      have HE := Lib.hid (HT.out p hlt2)
      have HPR := Lib.hid hpre
      simp only [enc2] at hy
      generalize numF a b c p = v at *
      generalize (((hs.getD p 0).toNat : Nat) : Int) = u at *
      clear hget hasc hpre HT HY HJ2 HJs HM
      generalize hW2 : wr.iterAt (W.heap.size + 1) ⟨hs.toArray⟩ (p + 1) = W2 at *
      gi_wp2
      refine ⟨fun h => (by cases h), ?_⟩
      refine hR.mono ?_
      rintro e W3 (⟨rfl, hJ3, hk3⟩ | ⟨rfl, hJx3, hk3⟩)
      · have HM3 : Hid (Mine W.heap.size ⟨hs.toArray⟩ a b c (p + 1) W3) := Lib.hid ⟨hk3.cells (Nat.le_refl _) he HM2.out.arr, hk3.2 _ _ (by omega) (fun _ _ h => by cases h) HM2.out.at_⟩
        have hmu3 : W3.iterPos (W.heap.size + 1) = p + 1 := by simp [World.iterPos, HM3.out.at_]
        have HJ3 := Lib.hid hJ3
        clear hJ3 hk3
        gi_wp2
        go_roundw
        case rel => exact ⟨p + 1, by omega, by rw [HE.out]; exact HJ3, HM3⟩
        case measure => rw [hmu3, hmu]; omega
      · have HJ3 := Lib.hid hJx3
        clear hJx3 hk3
        gi_wp2
        refine bodyPost_ret (results_none rfl _ _ _) rfl ?_
        exact ⟨⟨_, rfl⟩, .inr ⟨_, HPR.out, HJ3.out⟩⟩
    · obtain rfl : p = hs.length := by omega
      have hnx := fun ty => Lib.run_next_end_at (P := Tryz.prog) wr (W.heap.size + 1) ⟨hs.toArray⟩ hs.length ty hit (by simp [ByteArray.size])
      have HJF : Hid (J zs wr) := by have := HJs.out; rw [HF.out] at this; exact Lib.hid this
      clear HJs HM HT HY
      gi_wp2
      go_end0
      exact ⟨⟨_, rfl⟩, .inl HJF.out⟩
theorem numbers_seq (e₀ : TypeId) (he : 180 ≠ e₀) (n B : Nat) (k a b c : Int) (w : World) (hX : Arr4 w B 58 k a b c) (hR : RowsAt w) :
    SeqL e₀ Fence.wide n Tryz.prog 114 #[.pointer (some ⟨B, 0, none⟩)] enc2 (nums k a b c) w := fun l J Jx W hW hJ _ hY h0 => by
  have hX' := hX.other (hW.block _ hX.lt)
  by_cases hk : okK k
  · obtain ⟨m, rfl, h1, h2⟩ := hk.nat
    have hE : nums (m : Int) a b c = numsH (hsL m) a b c := rfl
    rw [hE] at hY ⊢
    exact seq33_yes e₀ he n l B m h1 h2 a b c J Jx W hX' (hR.below hW) hJ hY h0
  · rw [nums_no hk]
    exact (seq33_no n l B k a b c hk J W hX' h0).mono fun e W' ⟨he, hj⟩ => ⟨he, .inl hj⟩
end Go.Proofs.YtbpooljohjkbjaaGreatDoor
/- Package op's Regs: the registers of any operation, told one behind the other. -/
namespace Go.Proofs.YtbpooljohjkbjaaGreatDoor
open Go Go.RowKit Go.Shelf
attribute [local go_sem] Oper.semAt_some
set_option maxRecDepth 100000
end Go.Proofs.YtbpooljohjkbjaaGreatDoor
/- Package op's Check, for every configuration and every operation: whether it is right, or which fault it has. -/
namespace Go.Proofs.YtbpooljohjkbjaaGreatDoor
open Go Go.RowKit Go.Shelf
attribute [local go_sem] Oper.semAt_some
set_option maxRecDepth 100000
instance instRightOp (a b c d : Int) : Decidable (Right a b c d) := by unfold Right; exact inferInstance
instance (k : Int) : Decidable (okK k) := by unfold okK; exact inferInstance
def okP (c d : Int) (x : Int × Int) : Prop := 0 ≤ x.2 ∧ x.2 ≤ lastF c d x.1
instance (c d : Int) (x : Int × Int) : Decidable (okP c d x) := by unfold okP; exact inferInstance
def checkF (a b c d k x y z : Int) : Int := if Right a b c d then (if okK k then (if ∀ p ∈ nums k x y z, okP c d p then 0 else 2) else 4) else 1
theorem Arr4.own {A A' : World} {row : Option Nat} {B : Nat} {t : TypeId} {x0 x1 x2 x3 : Int} (h : Arr4 A B t x0 x1 x2 x3) (hg : A.grownBy A' row) (hr : ∀ r, row = some r → ∃ o : Obj, A.heap[r]? = some o ∧ o.isCells = false) : Arr4 A' B t x0 x1 x2 x3 :=
  (hg.block B h.lt (fun e => by
    obtain ⟨o, ho, hc⟩ := hr B e.symm
    unfold Arr4 at h
    rw [h] at ho; cases ho; cases hc)).trans h
structure ChkAt (w W : World) (a b c d k x y z v : Int) : Prop where
  cfg : Arr4 W w.heap.size 23 a b c d
  op : Arr4 W (w.heap.size + 1) 58 k x y z
  res : W.cell? ⟨w.heap.size + 2, 0, none⟩ = some (.int .i64 v)
  free : W.frozen? ⟨w.heap.size + 2, 0, none⟩ = false
  old : Below w.heap.size w W
theorem ChkAt.on {w W W' : World} {a b c d k x y z v : Int} (h : ChkAt w W a b c d k x y z v) (hb : Below W.heap.size W W') : ChkAt w W' a b c d k x y z v :=
  ⟨h.cfg.below hb, h.op.below hb, (hb.cell (p := ⟨_, 0, none⟩) (lt_of_cell h.res)).trans h.res, (hb.frozen (p := ⟨_, 0, none⟩) (lt_of_cell h.res)).trans h.free, belowOn h.old hb⟩
theorem ChkAt.own {w A A' : World} {row : Option Nat} {a b c d k x y z v : Int} (h : ChkAt w A a b c d k x y z v) (hg : A.grownBy A' row) (hr : ∀ r, row = some r → w.heap.size ≤ r ∧ ∃ o : Obj, A.heap[r]? = some o ∧ o.isCells = false) : ChkAt w A' a b c d k x y z v :=
  have hr' : ∀ r, row = some r → ∃ o : Obj, A.heap[r]? = some o ∧ o.isCells = false := fun r e => (hr r e).2
  ⟨h.cfg.own hg hr', h.op.own hg hr', cell_kept h.res hg hr', (frozen_kept h.res hg hr').trans h.free, h.old.grown hg h.old.size (fun k e => (hr k e).1)⟩
theorem ChkAt.set {w W : World} {a b c d k x y z v : Int} (h : ChkAt w W a b c d k x y z v) (u : Int) : ChkAt w (W.setCell ⟨w.heap.size + 2, 0, none⟩ (.int .i64 u)) a b c d k x y z u :=
  ⟨h.cfg.other (Below.heap_setCell W _ _ _ (by simp)), h.op.other (Below.heap_setCell W _ _ _ (by simp)), World.cell?_setCell_same' W _ _ (by rw [h.res]; rfl), by rw [World.frozen?_setCell]; exact h.free, h.old.setCell (p := ⟨w.heap.size + 2, 0, none⟩) (by simp) _⟩
def chk0 (w : World) (a b c d k x y z : Int) : World := ((w.alloc (.cells #[.int .i64 a, .int .i64 b, .int .i64 c, .int .i64 d] 23)).alloc (.cells #[.int .i64 k, .int .i64 x, .int .i64 y, .int .i64 z] 58)).alloc (.cells #[.int .i64 0] 29)
theorem ChkAt.new (w : World) (a b c d k x y z : Int) : ChkAt w (chk0 w a b c d k x y z) a b c d k x y z 0 := by
  unfold chk0
  refine ⟨?_, ?_, ?_, ?_, below_on (below_on (below_new w _) _) _⟩
  · exact ((Arr4.new w _ a b c d).below (below_new _ _)).below (below_new _ _)
  · have := (Arr4.new (w.alloc (.cells #[.int .i64 a, .int .i64 b, .int .i64 c, .int .i64 d] 23)) 58 k x y z).below (below_new _ (.cells #[.int .i64 0] 29))
    rw [show (w.alloc (.cells #[.int .i64 a, .int .i64 b, .int .i64 c, .int .i64 d] 23)).heap.size = w.heap.size + 1 by simp] at this
    exact this
  · have := World.cell?_alloc_new ((w.alloc (.cells #[.int .i64 a, .int .i64 b, .int .i64 c, .int .i64 d] 23)).alloc (.cells #[.int .i64 k, .int .i64 x, .int .i64 y, .int .i64 z] 58)) #[.int .i64 0] 29 0
    simpa using this
  · have := World.frozen?_alloc_new ((w.alloc (.cells #[.int .i64 a, .int .i64 b, .int .i64 c, .int .i64 d] 23)).alloc (.cells #[.int .i64 k, .int .i64 x, .int .i64 y, .int .i64 z] 58)) #[.int .i64 0] 29 0
    simpa using this
theorem check_notRight (a b c d k x y z : Int) (hr : ¬ Right a b c d) (w : World) (hS : SpansAt w) :
    Calls Tryz.prog 48 #[.agg #[.int .i64 a, .int .i64 b, .int .i64 c, .int .i64 d], .agg #[.int .i64 k, .int .i64 x, .int .i64 y, .int .i64 z]] w fun e w' => e = .returned (.int .i64 1) ∧ Below w.heap.size w w' := by
  have H0 := Lib.hid (ChkAt.new w a b c d k x y z)
  have HC := Lib.hid (check_wrong a b c d hr _ (hS.below H0.out.old))
  unfold chk0 at H0 HC
  clear hr hS
  go_enter Tryz.func48, Tryz.ntmps48
  go_wp2_with fail
  refine HC.out.mono ?_
  rintro e W ⟨rfl, hW⟩
  have H1 := Lib.hid (H0.out.on hW)
  have hc := H1.out.res; have hf := H1.out.free
  clear H0 HC hW
  go_wp2_with fail
  have hc5 := (H1.out.set 1).res
  refine bodyPost_ret (v := .int .i64 1) (by simp [results, Tryz.f48, go_sem, hc5]) rfl ?_
  exact ⟨rfl, (H1.out.set 1).old⟩
theorem check_notKind (a b c d k x y z : Int) (hr : Right a b c d) (hk : ¬ okK k) (w : World) (hS : SpansAt w) :
    Calls Tryz.prog 48 #[.agg #[.int .i64 a, .int .i64 b, .int .i64 c, .int .i64 d], .agg #[.int .i64 k, .int .i64 x, .int .i64 y, .int .i64 z]] w fun e w' => e = .returned (.int .i64 4) ∧ Below w.heap.size w w' := by
  have H0 := Lib.hid (ChkAt.new w a b c d k x y z)
  have HC := Lib.hid (check_right a b c d hr _ (hS.below H0.out.old))
  have HK := Lib.hid (isKind_no k hk)
  unfold chk0 at H0 HC
  clear hr hS hk
  go_enter Tryz.func48, Tryz.ntmps48
  go_wp2_with fail
  refine HC.out.mono ?_
  rintro e W ⟨rfl, hW⟩
  have H1 := Lib.hid (H0.out.on hW)
  obtain ⟨o0, _, _, _, _⟩ := H1.out.op.cells
  clear H0 HC hW
  go_wp2_with fail
  refine (HK.out _).mono ?_
  rintro e W2 ⟨rfl, rfl⟩
  have hc := H1.out.res; have hf := H1.out.free
  clear HK
  go_wp2_with fail
  have hc5 := (H1.out.set 4).res
  refine bodyPost_ret (v := .int .i64 4) (by simp [results, Tryz.f48, go_sem, hc5]) rfl ?_
  exact ⟨rfl, (H1.out.set 4).old⟩
set_option maxHeartbeats 4000000 in
theorem check_kind (a b c d : Int) (m : Nat) (h1 : 1 ≤ m) (h2 : m ≤ 11) (x y z : Int) (hr : Right a b c d) (w : World) (hS : SpansAt w) (hR : RowsAt w) :
    Calls Tryz.prog 48 #[.agg #[.int .i64 a, .int .i64 b, .int .i64 c, .int .i64 d], .agg #[.int .i64 (m : Int), .int .i64 x, .int .i64 y, .int .i64 z]] w fun e w' => e = .returned (.int .i64 (if ∀ p ∈ nums m x y z, okP c d p then 0 else 2)) ∧ Below w.heap.size w w' := by
  have HV0 : Hid ((∀ p ∈ nums m x y z, okP c d p) → (if ∀ p ∈ nums m x y z, okP c d p then 0 else 2 : Int) = 0) := Lib.hid (fun h => if_pos h)
  have HV2 : Hid ((¬ ∀ p ∈ nums m x y z, okP c d p) → (if ∀ p ∈ nums m x y z, okP c d p then 0 else 2 : Int) = 2) := Lib.hid (fun h => if_neg h)
  generalize (if ∀ p ∈ nums m x y z, okP c d p then 0 else 2 : Int) = V at *
  have H0 := Lib.hid (ChkAt.new w a b c d m x y z)
  have HC := Lib.hid (check_right a b c d hr _ (hS.below H0.out.old))
  have HK := Lib.hid (isKind_yes m h1 h2)
  have HR := Lib.hid hR
  have HL := Lib.hid (fun v => last_c a b c d v hr)
  unfold chk0 at H0 HC
  clear hr hS hR h1 h2
  refine (callsIn_wide (n := 20)).1 ?_
  refine callsIn_of_wp_marks Tryz.func48 rfl trivial ?_ rfl
  simp only [Tryz.ntmps48, List.size_toArray, List.length_cons, List.length_nil, Nat.reduceAdd, Nat.reduceSub, Array.replicate_succ, Array.replicate_zero, List.push_toArray, List.append_toArray, List.nil_append, List.cons_append]
  gi_wp2_with fail
  refine ⟨trivial, ?_⟩
  refine (callsIn_wide.2 HC.out).mono ?_
  rintro e W ⟨rfl, hW⟩
  have H1 := Lib.hid (H0.out.on hW)
  obtain ⟨o0, o1, o2, o3, _⟩ := H1.out.op.cells
  clear H0 HC hW
  gi_wp2_with fail
  refine ⟨trivial, ?_⟩
  refine (callsIn_wide.2 (HK.out _)).mono ?_
  rintro e W2 ⟨rfl, rfl⟩
  clear HK
  gi_wp2_with fail
  refine ⟨trivial, ?_⟩
  refine (callsIn_wide.2 (opNumbers_c m x y z _)).mono ?_
  rintro e W2 ⟨rfl, hW2⟩
  have hb2 : Below W.heap.size W W2 := by rw [hW2]; exact below_new _ _
  have hX2 : Arr4 W2 W.heap.size 58 m x y z := by rw [hW2]; exact Arr4.new _ _ _ _ _ _
  have H2 := Lib.hid (H1.out.on hb2)
  have HS := Lib.hid (numbers_seq 9 (by decide) (20 - 1) _ m x y z _ hX2 (HR.out.below H2.out.old))
  have hz2 : w.heap.size + 2 < W2.heap.size := lt_of_cell H2.out.res
  clear hb2 hX2 H1 o0 o1 o2 o3 hW2
  gi_wp2
  refine wpIn_rangeL rfl (by decide) (gf := 114) (lb := #[.pointer (some ⟨W.heap.size, 0, none⟩)]) rfl trivial (enters_of Tryz.func114 (by kernel_rfl) rfl)
    HS.out (Below.refl _ _) (fun _ => rfl)
    (fun pre W' => (∀ p ∈ pre, okP c d p) ∧ ChkAt w W' a b c d m x y z 0)
    (fun cc pre W' => (cc = .ret ∧ ¬ ∀ p ∈ pre, okP c d p) ∧ ChkAt w W' a b c d m x y z 2)
    (OwnFrom.and (ownFrom_pure _ _) (fun s A B row hs hg hrr => hs.own hg (fun r e => ⟨by have := (hrr r e).1; omega, (hrr r e).2⟩)))
    (fun cc => OwnFrom.and (ownFrom_pure _ _) (fun s A B row hs hg hrr => hs.own hg (fun r e => ⟨by have := (hrr r e).1; omega, (hrr r e).2⟩)))
    ⟨by simp, H2.out⟩
    (fun q => { tmps := #[.agg #[.int .i64 a, .int .i64 b, .int .i64 c, .int .i64 d], .agg #[.int .i64 (m : Int), .int .i64 x, .int .i64 y, .int .i64 z], .pointer (some ⟨w.heap.size, 0, none⟩), .pointer (some ⟨w.heap.size + 1, 0, none⟩), .pointer (some ⟨w.heap.size + 1 + 1, 0, none⟩), .int .i32 q.1, .int .i64 q.2,
      .agg #[.int .i64 a, .int .i64 b, .int .i64 c, .int .i64 d], .int .i64 0, .bool false, .pointer (some ⟨w.heap.size + 1, 0, none⟩), .int .i64 (m : Int), .bool true, .bool false, .agg #[.int .i64 (m : Int), .int .i64 x, .int .i64 y, .int .i64 z], .func (.func 114) #[] #[.pointer (some ⟨W.heap.size, 0, none⟩)],
      .int .i32 q.1, .int .i64 q.2, undef, undef, undef, undef, undef, undef, undef, undef, undef], defers := [] }) ?assign ?body ?done ?stop
  case assign =>
    intro l' q W' K hK
    simp only [enc2]
    gi_wp2
    exact hK
  case body =>
    rintro l' pre ⟨u, v⟩ W' ⟨hok, hC⟩ hpre
    have HC := Lib.hid hC
    clear hC hpre HS
    by_cases hv : v < 0
    · have HN : Hid (¬ ∀ p ∈ pre ++ [(u, v)], okP c d p) := Lib.hid (fun h => by have := (h (u, v) (by simp)).1; simp only at this; omega)
      have hc := HC.out.res; have hf := HC.out.free
      clear hok
      gi_wp2
      refine ⟨trivial, ?_⟩
      gi_wp2
      exact ⟨KeepsTop.of_grownBy (grownBy_setCell' W' _ _) (fun j e => by cases e; omega), ⟨rfl, HN.out⟩, HC.out.set 2⟩
    · have hv' : 0 ≤ v := by omega
      obtain ⟨c0, c1, c2, c3, _⟩ := HC.out.cfg.cells
      have HO := Lib.hid hok
      clear hok
      gi_wp2_with fail
      refine ⟨trivial, ?_⟩
      refine (CallsIn.inRound l' (callsIn_wide.2 (HL.out u _))).mono ?_
      rintro e W3 ⟨rfl, hW3⟩
      have HC3 := Lib.hid (HC.out.on hW3)
      have HT3 : Hid (KeepsTop 9 W2.heap.size W' W3) := Lib.hid (KeepsTop.of_below hW3)
      have hc := HC3.out.res; have hf := HC3.out.free
      clear HC hW3 c0 c1 c2 c3 HL
      by_cases hle : lastF c d u < v
      · have HN : Hid (¬ ∀ p ∈ pre ++ [(u, v)], okP c d p) := Lib.hid (fun h => by have := (h (u, v) (by simp)).2; simp only at this; omega)
        generalize lastF c d u = lu at *
        gi_wp2
        exact ⟨HT3.out.trans (KeepsTop.of_grownBy (grownBy_setCell' W3 _ _) (fun j e => by cases e; omega)), ⟨rfl, HN.out⟩, HC3.out.set 2⟩
      · have HN : Hid (∀ p ∈ pre ++ [(u, v)], okP c d p) := Lib.hid (fun p hp => by
          rcases List.mem_append.1 hp with hp | hp
          · exact HO.out p hp
          · obtain rfl : p = (u, v) := by simpa using hp
            exact ⟨hv', by simp only; omega⟩)
        generalize lastF c d u = lu at *
        gi_wp2
        exact ⟨HT3.out, HN.out, HC3.out⟩
  case done =>
    rintro D W' hD ⟨hok, hC⟩ hK
    have HC := Lib.hid hC; have HO := Lib.hid hok
    have hc := HC.out.res; have hf := HC.out.free
    clear hC hok HS
    gi_wp2
    have hK' := (KeepsOthers.setCell W' ⟨w.heap.size + 2, 0, none⟩ (.int .i64 0)).same D _ hK rfl
    refine ⟨by simp, .inl ⟨_, _, rfl, run_takeDeferred hK', ?_⟩⟩
    have hC5 := (HC.out.set 0).own (grownBy_putObj' _ D (.deferred none)) (fun r e => by cases e; exact ⟨by omega, _, hK', rfl⟩)
    have hc5 := hC5.res
    refine ⟨.int .i64 0, ?_, by rw [HV0.out HO.out], hC5.old⟩
    simp [results, Tryz.f48, go_sem, hc5]
  case stop =>
    rintro D cc pre W' hD hpre ⟨⟨rfl, hnot⟩, hC⟩ hK
    have HC := Lib.hid hC
    have HN : Hid (¬ ∀ p ∈ nums m x y z, okP c d p) := Lib.hid (fun h => hnot (fun p hp => h p (hpre.subset hp)))
    clear hC hnot hpre HS
    gi_wp2
    refine ⟨by simp, .inl ⟨_, _, rfl, run_takeDeferred hK, ?_⟩⟩
    have hC5 := HC.out.own (grownBy_putObj' _ D (.deferred none)) (fun r e => by cases e; exact ⟨by omega, _, hK, rfl⟩)
    have hc5 := hC5.res
    refine ⟨.int .i64 2, ?_, by rw [HV2.out HN.out], hC5.old⟩
    simp [results, Tryz.f48, go_sem, hc5]
theorem opCheck_c (a b c d k x y z : Int) (w : World) (hS : SpansAt w) (hR : RowsAt w) :
    Calls Tryz.prog 48 #[.agg #[.int .i64 a, .int .i64 b, .int .i64 c, .int .i64 d], .agg #[.int .i64 k, .int .i64 x, .int .i64 y, .int .i64 z]] w fun e w' => e = .returned (.int .i64 (checkF a b c d k x y z)) ∧ Below w.heap.size w w' := by
  unfold checkF
  by_cases hr : Right a b c d
  · rw [if_pos hr]
    by_cases hk : okK k
    · rw [if_pos hk]
      obtain ⟨m, rfl, h1, h2⟩ := hk.nat
      exact check_kind a b c d m h1 h2 x y z hr w hS hR
    · rw [if_neg hk]
      exact check_notKind a b c d k x y z hr hk w hS
  · rw [if_neg hr]
    exact check_notRight a b c d k x y z hr w hS
end Go.Proofs.YtbpooljohjkbjaaGreatDoor
/- The document's Check of an operation, for every operation. -/
namespace Go.Proofs.YtbpooljohjkbjaaGreatDoor
open Go Go.RowKit
set_option maxRecDepth 100000
attribute [local go_sem ↓] Go.wp_at_zero Go.wp_at_succ
def inI (x : Int) : Prop := -9223372036854775808 ≤ x ∧ x ≤ 9223372036854775807
end Go.Proofs.YtbpooljohjkbjaaGreatDoor
/- What the listed variables hold, for the cards of stage 20; programs and picks that were read, as arguments. -/
namespace Go.Proofs.YtbpooljohjkbjaaGreatDoor
open Go Go.ChangeShapes Go.WideShapes Go.ChangeAt Go.WideMaps Go.WideElems Go.RowKit
set_option maxRecDepth 100000
abbrev listed : List (String × DataW Unit) := Rows.worldPicksRow.laid
section
variable {H : Type} {enc : TypeId × Value → H} {P : Program}
theorem pair_cells {w : World} {bs : Nat} {sp : Nat → Bool} {held : Bool} {fuel : Nat} {t ts : TypeId} {f0 f1 : Field} {cs : List Value} {z u : List UInt8} {x : DataW H × List MemPlace}
    (ht : P.underlying t = some (.struct #[f0, f1])) (e0 : f0.type = ts ∧ f0.offset = 0) (e1 : f1.type = ts ∧ f1.offset = 1) (hs : P.underlying ts = some .string)
    (cS : P.cellsOf ts = 1) (h : DataW.trod enc P w bs sp held fuel t cs = some x) (hx : x.1 = .agg [.lit (.string z), .lit (.string u)]) :
    cs[0]? = some (.string ⟨z.toArray⟩) ∧ cs[1]? = some (.string ⟨u.toArray⟩) := by
  obtain ⟨xs, n, _, rfl, _, hl, hf⟩ := DataW.trod_struct ht h
  have g0 := hf 0 f0 rfl
  have g1 := hf 1 f1 rfl
  simp only [e0.1, e0.2, e1.1, e1.2, cS] at g0 g1
  simp only [DataW.agg.injEq] at hx
  match xs, hx with
  | [y0, y1], hx =>
    simp only [List.map_cons, List.map_nil, List.cons.injEq, and_true] at hx
    obtain ⟨h0, h1⟩ := hx
    obtain ⟨s, c0, d0, _⟩ := DataW.trod_string hs (g0.trans rfl)
    obtain ⟨p, c1, d1, _⟩ := DataW.trod_string hs (g1.trans rfl)
    rw [d0] at h0; rw [d1] at h1
    simp only [DataW.lit.injEq, Lit.string.injEq] at h0 h1
    have k0 := congrArg (·[0]?) c0
    have k1 := congrArg (·[0]?) c1
    simp at k0 k1
    exact ⟨by rw [k0, ← h0], by rw [k1, ← h1]⟩
end
theorem gRows : Tryz.prog.globalNamed "mudlark/op.rows" = some 1 := by kernel_rfl
theorem gRowsType : (Tryz.prog.globals[1]?).map (·.type) = some 183 := by kernel_rfl
theorem cellsRow : Tryz.prog.cellsOf 182 = 2 := by kernel_rfl
theorem rows_list {H : Type} : (Rows.laid_mudlark_op_rows : DataW H) = .agg ((List.range 12).map fun i => .agg [.lit (.string (nmL i)), .lit (.string (hsL i))]) := rfl
theorem rowsAt_of {W : World} {rest : List (String × DataW Unit)} (h : laidMet Tryz.prog (("mudlark/op.rows", Rows.laid_mudlark_op_rows) :: rest) W) : RowsAt W := by
  obtain ⟨ps, ⟨g', t', cs, fuel, p, q, hg', ht', hvar, hd, _, _⟩, _⟩ := h
  obtain rfl := Option.some.inj (gRows.symm.trans hg')
  obtain rfl := Option.some.inj (gRowsType.symm.trans ht')
  obtain ⟨xs, m, _, ex, _, hl, hel⟩ := DataW.trod_array Tryz.underlying183 hd
  rw [rows_list] at ex
  have e3 : xs.map (·.1) = _ := (DataW.agg.inj (Prod.mk.inj ex).1).symm
  have hc := fun i => World.var?_cell gRows hvar i
  have key : ∀ i, i < 12 → cs[i * 2]? = some (.string ⟨(nmL i).toArray⟩) ∧ cs[i * 2 + 1]? = some (.string ⟨(hsL i).toArray⟩) := fun i hi => by
    have ei := congrArg (fun l => l[i]?) e3
    simp only [List.getElem?_map, List.getElem?_range hi, Option.map_some] at ei
    obtain ⟨y, hy, hy1⟩ := Option.map_eq_some_iff.1 ei
    have r := pair_cells Tryz.underlying182 ⟨rfl, rfl⟩ ⟨rfl, rfl⟩ Tryz.underlying9 cellsString ((hel i (by omega)).trans hy) hy1
    simp only [cellsRow, List.getElem?_take, List.getElem?_drop] at r
    simpa using r
  exact ⟨fun i hi => (hc (i * 2)).trans (key i hi).1, fun i hi => (hc (i * 2 + 1)).trans (key i hi).2⟩
theorem laidOut : laidOutB Tryz.prog = true := by kernel_rfl
theorem inI_of {n : Int} (h : (Lit.int .i64 n).wf = true) : inI n := by
  have hb := bounds_i64 h
  unfold inI; omega
theorem cellsOp : Tryz.prog.cellsOf 58 = 4 := by kernel_rfl
theorem laid_of {W : World} (h : laidMetH Tryz.prog Rows.worldPicksRow.laid W) : SpansAt W ∧ RowsAt W := by
  rw [MakeChecks.laidMetH_plain _ _ _ (by kernel_rfl)] at h
  have h1 : laidMet Tryz.prog (("mudlark/config.spans", Rows.laid_mudlark_config_spans) :: ("mudlark/op.rows", Rows.laid_mudlark_op_rows) :: []) W := h
  exact ⟨spansAt h1, rowsAt_of h1.tail⟩
theorem op_cells {H : Type} {enc : TypeId × Value → H} {P : Program} {w : World} {bs : Nat} {sp : Nat → Bool} {held : Bool} {fuel : Nat} {t ti : TypeId} {f0 f1 f2 f3 : Field} {cs : List Value} {z : DataW H × List MemPlace}
    (ht : P.underlying t = some (.struct #[f0, f1, f2, f3])) (e0 : f0.type = ti ∧ f0.offset = 0) (e1 : f1.type = ti ∧ f1.offset = 1) (e2 : f2.type = ti ∧ f2.offset = 2) (e3 : f3.type = ti ∧ f3.offset = 3)
    (hi : P.underlying ti = some (.int .i64)) (cI : P.cellsOf ti = 1) (h : DataW.trod enc P w bs sp held fuel t cs = some z) :
    ∃ a b c d : Int, cs[0]? = some (.int .i64 a) ∧ cs[1]? = some (.int .i64 b) ∧ cs[2]? = some (.int .i64 c) ∧ cs[3]? = some (.int .i64 d) ∧ inI a ∧ inI b ∧ inI c ∧ inI d := by
  obtain ⟨xs, n, _, _, _, hl, hf⟩ := DataW.trod_struct ht h
  have g0 := hf 0 f0 rfl
  have g1 := hf 1 f1 rfl
  have g2 := hf 2 f2 rfl
  have g3 := hf 3 f3 rfl
  simp only [e0.1, e0.2, e1.1, e1.2, e2.1, e2.2, e3.1, e3.2, cI] at g0 g1 g2 g3
  have hl' : xs.length = 4 := hl
  match xs, hl' with
  | [y0, y1, y2, y3], _ =>
    obtain ⟨a, c0, _, w0⟩ := DataW.trod_int hi (g0.trans rfl)
    obtain ⟨b, c1, _, w1⟩ := DataW.trod_int hi (g1.trans rfl)
    obtain ⟨c, c2, _, w2⟩ := DataW.trod_int hi (g2.trans rfl)
    obtain ⟨d, c3, _, w3⟩ := DataW.trod_int hi (g3.trans rfl)
    have k0 := congrArg (·[0]?) c0
    have k1 := congrArg (·[0]?) c1
    have k2 := congrArg (·[0]?) c2
    have k3 := congrArg (·[0]?) c3
    simp [List.getElem?_drop] at k0 k1 k2 k3
    exact ⟨a, b, c, d, k0, k1, k2, k3, inI_of w0, inI_of w1, inI_of w2, inI_of w3⟩
theorem add_0 (a : Addr) : a.add 0 = a := by cases a with | mk b o s => cases s <;> simp [Addr.add]
def Opn.BI (o : Opn) : Prop := inI o.k ∧ inI o.x ∧ inI o.y ∧ inI o.z
theorem cellsOps : Tryz.prog.cellsOf 65 = 1 := by kernel_rfl
theorem list_of {α : Type} {n : Nat} {Q : Nat → α → Prop} (h : ∀ k, k < n → ∃ q, Q k q) : ∃ L : List α, L.length = n ∧ ∀ k, (hk : k < L.length) → Q k L[k] := by
  induction n with
  | zero => exact ⟨[], rfl, fun k hk => absurd hk (by simp)⟩
  | succ n ih =>
    obtain ⟨L, hl, hL⟩ := ih (fun k hk => h k (by omega))
    obtain ⟨q, hq⟩ := h n (by omega)
    refine ⟨L ++ [q], by simp [hl], fun k hk => ?_⟩
    simp only [List.length_append, List.length_cons, List.length_nil] at hk
    by_cases e : k < L.length
    · rw [List.getElem_append_left e]; exact hL k e
    · obtain rfl : k = n := by omega
      rw [List.getElem_append_right (by omega)]
      simp [hl, hq]
theorem ops_cells {H : Type} {enc : TypeId × Value → H} {W : World} {bs : Nat} {sp : Nat → Bool} {held : Bool} {fuel : Nat} {cs : List Value} {z : DataW H × List MemPlace}
    (h : DataW.trod enc Tryz.prog W bs sp held fuel 65 cs = some z) : ∃ v L, cs = [v] ∧ OpsSl W v L ∧ (∀ o ∈ L, o.BI) ∧ L.length ≤ maxLen ∧ (L.length = 0 ∨ ∃ els sps, z.1 = .slice els sps ∧ L.length ≤ els.length) := by
  rcases DataW.trod_slice Tryz.underlying65 h with ⟨hcs, _⟩ | ⟨x, l, c, elems, rest, n, _, hcs, hzz, _, hl, hm, hlen, hel, _⟩
  · exact ⟨_, [], hcs, ⟨none, 0, rfl, .inl rfl⟩, fun o ho => absurd ho (by simp), by simp, .inl rfl⟩
  · have key : ∀ j, j < l → ∃ o : Opn, (∀ z v, z < 4 → ([.int .i64 o.k, .int .i64 o.x, .int .i64 o.y, .int .i64 o.z] : List Value)[z]? = some v → W.cell? ((x.add (j * 4)).add z) = some v) ∧ o.BI := fun j hj => by
      have he := hel j hj
      rw [List.getElem?_eq_getElem (by omega)] at he
      obtain ⟨cs, hcs, ht⟩ := Option.bind_eq_some_iff.1 he
      rw [cellsOp] at hcs
      obtain ⟨_, _, hc⟩ := World.cells?_some hcs
      obtain ⟨q1, q2, q3, q4, k1, k2, k3, k4, i1, i2, i3, i4⟩ := op_cells Tryz.underlying58 ⟨rfl, rfl⟩ ⟨rfl, rfl⟩ ⟨rfl, rfl⟩ ⟨rfl, rfl⟩ Tryz.underlying3 cellsInt ht
      refine ⟨⟨q1, q2, q3, q4⟩, fun z v hz hv => (hc z hz).trans ?_, i1, i2, i3, i4⟩
      match z, hv with
      | 0, hv => rw [k1, ← hv]; rfl
      | 1, hv => rw [k2, ← hv]; rfl
      | 2, hv => rw [k3, ← hv]; rfl
      | 3, hv => rw [k4, ← hv]; rfl
    obtain ⟨L, rfl, hL⟩ := list_of key
    refine ⟨_, L, hcs, ⟨some x, c, rfl, ?_⟩, fun o ho => ?_, by omega, .inr ⟨_, _, by rw [hzz], by simp [hlen]⟩⟩
    · by_cases h0 : L.length = 0
      · exact .inl h0
      · obtain ⟨b, off, spot⟩ := x
        have hspot : spot = none := by
          have := World.cell?_spot ((hL 0 (by omega)).1 0 _ (by omega) rfl)
          simpa [Addr.add] using this
        subst hspot
        refine .inr ⟨b, off, rfl, fun j hj => ?_⟩
        have hc : ∀ z v, z < 4 → ([.int .i64 L[j].k, .int .i64 L[j].x, .int .i64 L[j].y, .int .i64 L[j].z] : List Value)[z]? = some v → W.cell? ⟨b, off + j * 4 + z, none⟩ = some v := fun z v hz hv => by
          have := (hL j hj).1 z v hz hv
          rw [Addr.add_lit, Addr.add_lit] at this
          exact this
        exact ⟨hc 0 _ (by omega) rfl, hc 1 _ (by omega) rfl, hc 2 _ (by omega) rfl, hc 3 _ (by omega) rfl⟩
    · obtain ⟨j, hj, rfl⟩ := List.getElem_of_mem ho
      exact (hL j hj).2
theorem weights_all {H : Type} {P : Program} {e : TypeId} : ∀ (l : List (DataW H)) (d : DataW H), d ∈ l → ∀ n ∈ d.weights P e, n ∈ DataW.weightsAll P e l := by
  intro l
  induction l with
  | nil => intro d hd; cases hd
  | cons x l ih =>
    intro d hd n hn
    unfold DataW.weightsAll
    rcases List.mem_cons.1 hd with rfl | h
    · exact List.mem_append_left _ hn
    · exact List.mem_append_right _ (ih d h n hn)
theorem bytesOp : Tryz.prog.bytesOf 58 = 32 := by kernel_rfl
theorem opss_of {H : Type} {enc : TypeId × Value → H} {W : World} {base b0 : Nat} {r : Reach} {v : Value} {d : DataW H} {p : List MemPlace}
    (hval : Value.okWide Tryz.prog W r b0 24 v) (h : DataW.Trod enc Tryz.prog W base (fun _ => true) true 24 v d p) (hw : ∀ n ∈ d.weights Tryz.prog 24, n ≤ reachBytes) : ∃ P, PrsSl W v P ∧ (∀ L ∈ P, ∀ o ∈ L, o.BI) ∧ (∀ L ∈ P, L.length * 32 ≤ reachBytes) ∧ P.length ≤ maxLen := by
  obtain ⟨a0, len0, cap0, rfl⟩ := okWide_slice Tryz.underlying24 hval
  obtain ⟨fuel, hf⟩ := h
  rcases DataW.trod_slice Tryz.underlying24 hf with ⟨hcs, _⟩ | ⟨x, l, c, elems, rest, n, _, hcs, hxx, _, hl, hm, hlen, hel, _⟩
  · simp [Value.cells] at hcs
    obtain ⟨rfl, rfl, rfl⟩ := hcs
    exact ⟨[], ⟨none, 0, rfl, .inl rfl⟩, fun L hL => absurd hL (by simp), fun L hL => absurd hL (by simp), by simp⟩
  · simp [Value.cells] at hcs
    obtain ⟨rfl, rfl, rfl⟩ := hcs
    have key : ∀ j, j < len0 → ∃ L : List Opn, (∃ u, W.cell? (x.add j) = some u ∧ OpsSl W u L) ∧ (∀ o ∈ L, o.BI) ∧ L.length * 32 ≤ reachBytes := fun j hj => by
      have he := hel j hj
      rw [List.getElem?_eq_getElem (by omega)] at he
      obtain ⟨cs, hcs, ht⟩ := Option.bind_eq_some_iff.1 he
      rw [cellsOps] at hcs
      obtain ⟨_, _, hc⟩ := World.cells?_some hcs
      obtain ⟨u, L, rfl, hs, hB, hm, hz⟩ := ops_cells ht
      have hLb : L.length * 32 ≤ reachBytes := by
        rcases hz with h0 | ⟨els, sps, hz, hle⟩
        · rw [h0]; simp
        · obtain rfl := (Prod.mk.inj hxx).1
          have h1 : elems[j].1 ∈ elems.map (·.1) := List.mem_map.2 ⟨_, List.getElem_mem _, rfl⟩
          have h2 : (els.length + sps.length) * Tryz.prog.bytesOf 58 ∈ (elems[j].1).weights Tryz.prog 65 := by rw [hz]; simp [DataW.weights, Tryz.underlying65]
          have h3 := hw _ (by simp only [DataW.weights, Tryz.underlying24]; exact List.mem_cons_of_mem _ (List.mem_append_left _ (weights_all _ _ h1 _ h2)))
          rw [bytesOp] at h3
          exact Nat.le_trans (Nat.mul_le_mul_right 32 (by omega)) h3
      refine ⟨L, ⟨u, ?_, hs⟩, hB, hLb⟩
      have := hc 0 (by omega)
      rw [add_0] at this
      simpa using this
    obtain ⟨P, rfl, hP⟩ := list_of key
    refine ⟨P, ⟨some x, cap0, rfl, ?_⟩, fun L hL => ?_, fun L hL => ?_, by omega⟩
    · by_cases h0 : P.length = 0
      · exact .inl h0
      · obtain ⟨b, off, spot⟩ := x
        have hspot : spot = none := by
          obtain ⟨u, hu, _⟩ := (hP 0 (by omega)).1
          have := World.cell?_spot hu
          simpa [Addr.add] using this
        subst hspot
        refine .inr ⟨b, off, rfl, fun j hj => ?_⟩
        obtain ⟨u, hu, hs⟩ := (hP j hj).1
        rw [Addr.add_lit] at hu
        exact ⟨u, hu, hs⟩
    · obtain ⟨j, hj, rfl⟩ := List.getElem_of_mem hL
      exact (hP j hj).2.1
    · obtain ⟨j, hj, rfl⟩ := List.getElem_of_mem hL
      exact (hP j hj).2.2
theorem ints_of {H : Type} {enc : TypeId × Value → H} {W : World} {base b0 : Nat} {r : Reach} {v : Value} {d : DataW H} {p : List MemPlace}
    (hval : Value.okWide Tryz.prog W r b0 25 v) (h : DataW.Trod enc Tryz.prog W base (fun _ => true) true 25 v d p) : ∃ L, IntsSl W v L ∧ (∀ x ∈ L, inI x) ∧ L.length ≤ maxLen := by
  obtain ⟨a0, len0, cap0, rfl⟩ := okWide_slice Tryz.underlying25 hval
  obtain ⟨fuel, hf⟩ := h
  rcases DataW.trod_slice Tryz.underlying25 hf with ⟨hcs, _⟩ | ⟨x, l, c, elems, rest, n, _, hcs, _, _, hl, hm, hlen, hel, _⟩
  · simp [Value.cells] at hcs
    obtain ⟨rfl, rfl, rfl⟩ := hcs
    exact ⟨[], ⟨none, 0, rfl, .inl rfl⟩, fun L hL => absurd hL (by simp), by simp⟩
  · simp [Value.cells] at hcs
    obtain ⟨rfl, rfl, rfl⟩ := hcs
    have key : ∀ j, j < len0 → ∃ q : Int, W.cell? (x.add j) = some (.int .i64 q) ∧ inI q := fun j hj => by
      have he := hel j hj
      rw [List.getElem?_eq_getElem (by omega)] at he
      obtain ⟨cs, hcs, ht⟩ := Option.bind_eq_some_iff.1 he
      rw [cellsInt] at hcs
      obtain ⟨_, _, hc⟩ := World.cells?_some hcs
      obtain ⟨q, rfl, _, wq⟩ := DataW.trod_int Tryz.underlying3 ht
      refine ⟨q, ?_, inI_of wq⟩
      have := hc 0 (by omega)
      rw [add_0] at this
      simpa using this
    obtain ⟨L, rfl, hL⟩ := list_of key
    refine ⟨L, ⟨some x, cap0, rfl, ?_⟩, fun q hq => ?_, by omega⟩
    · by_cases h0 : L.length = 0
      · exact .inl h0
      · obtain ⟨b, off, spot⟩ := x
        have hspot : spot = none := by
          have := World.cell?_spot (hL 0 (by omega)).1
          simpa [Addr.add] using this
        subst hspot
        refine .inr ⟨b, off, rfl, fun j hj => ?_⟩
        have hu := (hL j hj).1
        rw [Addr.add_lit] at hu
        exact hu
    · obtain ⟨j, hj, rfl⟩ := List.getElem_of_mem hq
      exact (hL j hj).2
section
variable {H : Type} {enc : TypeId × Value → H} {P : Program}
theorem wrap_sized {C : Checked} {os : Os} {f : FuncId} {fn : Func} {s : ChangeSpec} {apart fresh handsOn again : Bool} {L : List (String × DataW Unit)}
    (own : ownKnob C.prog.godebug = none) (started : os.Started) (noInit : C.prog.inits.idxOf? f = none) (hfn : C.prog.funcs[f]? = some fn)
    (witness : ∃ (w : World) (tape : Tape) (i : Input), w.os = os ∧ (w.forCall tape i).Shaped C.prog ∧ i.vars = [] ∧ Input.okWide C.prog (w.forCall tape i) .any w.heap.size f i ∧
      ((s.pre enc C.prog fn [] apart (w.forCall tape i).memory i.args ∧ laidMetH C.prog L (w.forCall tape i).memory) ∧ sizedMet enc C.prog fn (OpenSpec.ofChange s) apart (w.forCall tape i).memory i.args) ∧ Assume.holds {} C.prog (lone (Frame.enter C.prog f i.args .normal) [] (w.forCall tape i)))
    (walk : ∀ (W : World) (base : Nat) (args : Array Value) (ds gs : List (DataW H)) (before : List MemPlace), (∀ (j : Nat) t v, fn.params[j]? = some t → args[j]? = some v → Value.okWide C.prog W .any base t v) →
      DataW.Whole enc C.prog fn.params.toList s.vars apart W args.toList ds gs before → laidMetH C.prog L W → W.ShapedOpen C.prog → (DataW.weightsEach C.prog (fn.params.toList ++ (OpenSpec.ofChange s).bare.plain.varTypes C.prog) (ds ++ gs)).all (· ≤ reachBytes) = true →
      Calls C.prog f args W fun e W' => ∃ v, e = .returned v ∧ s.post enc C.prog fn apart fresh handsOn again W args v W') :
    ReturnsInHanded {} C os f .any (fun w args => (s.pre enc C.prog fn [] apart w args ∧ laidMetH C.prog L w) ∧ sizedMet enc C.prog fn (OpenSpec.ofChange s) apart w args) (s.post enc C.prog fn apart fresh handsOn again) := by
  refine returnsInHanded_of_calls own started noInit witness ?_
  intro w tape i _ hsh _ hok hpre _
  obtain ⟨_, _, _, fn', hfn', _, _, _, _, hval⟩ := hok
  obtain rfl : fn' = fn := Option.some.inj (hfn'.symm.trans hfn)
  obtain ⟨⟨_, hx⟩, _, ds, gs, before, hw, hz⟩ := hpre
  refine (walk (w.forCall tape i) w.heap.size i.args ds gs before hval (DataW.Whole.of_heap (w' := w.forCall tape i) (by rfl) hw) (hx.of_heap (by rfl)) hsh hz).mono fun e W' ⟨v, he, hp⟩ => ?_
  subst he
  exact ChangeSpec.post_blind hp
end
end Go.Proofs.YtbpooljohjkbjaaGreatDoor
/- A row of mutators: its cells, one that is laid into it, one that is made. -/
namespace Go.Proofs.YtbpooljohjkbjaaGreatDoor
open Go Go.RowKit
set_option maxRecDepth 100000
attribute [local go_sem ↓] Go.wp_at_zero Go.wp_at_succ
def mcellM (m : Mu) : Nat → Value
  | 0 => .int .i64 m.l
  | 1 => .int .i64 m.q1
  | 2 => .int .i64 m.q2
  | 3 => .int .i64 m.q3
  | 4 => .int .i64 m.q4
  | 5 => .int .u64 m.m1
  | 6 => .int .u64 m.m2
  | 7 => .int .u64 m.m3
  | 8 => .int .u64 m.m4
  | 9 => .int .u64 m.m5
  | 10 => .int .u64 m.p
  | 11 => .int .i64 m.bk
  | 12 => .int .i64 m.rt
  | _ => .int .i64 0
abbrev putM (w : World) (R o : Nat) (m : Mu) : World := ((((((((((((w.setCell ⟨R, o, none⟩ (.int .i64 m.l)).setCell ⟨R, o + 1, none⟩ (.int .i64 m.q1)).setCell ⟨R, o + 2, none⟩ (.int .i64 m.q2)).setCell ⟨R, o + 3, none⟩ (.int .i64 m.q3)).setCell ⟨R, o + 4, none⟩ (.int .i64 m.q4)).setCell ⟨R, o + 5, none⟩ (.int .u64 m.m1)).setCell ⟨R, o + 6, none⟩ (.int .u64 m.m2)).setCell ⟨R, o + 7, none⟩ (.int .u64 m.m3)).setCell ⟨R, o + 8, none⟩ (.int .u64 m.m4)).setCell ⟨R, o + 9, none⟩ (.int .u64 m.m5)).setCell ⟨R, o + 10, none⟩ (.int .u64 m.p)).setCell ⟨R, o + 11, none⟩ (.int .i64 m.bk)).setCell ⟨R, o + 12, none⟩ (.int .i64 m.rt)
namespace MusAt
variable {w w' : World} {R k : Nat} {g : Nat → Mu}
end MusAt
end Go.Proofs.YtbpooljohjkbjaaGreatDoor
/- Places and what lies there; what an access does to words; a configuration that fits the number of words. -/
namespace Go.Proofs.YtbpooljohjkbjaaGreatDoor
open Go Go.RowKit
set_option maxRecDepth 100000
def Dy.clr (s : Dy) : Dy := ⟨s.f, 0, 0, 0, 0, 0⟩
def ldP (C : Cf) (s : Dy) (P : Int) : Int := z5 C.n 1 P (s.f P.toNat)
end Go.Proofs.YtbpooljohjkbjaaGreatDoor
/- How far the collector is, as one structure; a step of the layers 15 to 19, each as one function, without memory. -/
namespace Go.Proofs.YtbpooljohjkbjaaGreatDoor
open Go Go.RowKit
set_option maxRecDepth 100000
structure Co where
  l : Int
  j : Int
  c : Int
  m : Int
  a : Int
  p : Int
  fd : Bool
  tl : Int
  cy : Int
def Co.U (x : Co) : Prop := U64 x.a ∧ U64 x.p
def rootsN (C : Cf) : Int := 1 + C.d + C.b * C.c
def nextRoot (C : Cf) (x : Co) : Co := { x with p := 0, j := x.j + 1, l := if x.j + 1 < rootsN C then 1 else 3 }
def rootS (C : Cf) (s : Dy) (x : Co) : Dy × Co × Bool :=
  if x.l = 1 then (s.act C 1 (rootP C.a C.b C.c C.d x.j) 0 0, (if isC (ldP C s (rootP C.a C.b C.c C.d x.j)).toNat then { x with p := ldP C s (rootP C.a C.b C.c C.d x.j), l := 2 } else nextRoot C x), true)
  else if x.l = 2 then (s.act C 3 (fieldP C.a C.b C.c C.d x.p.toNat 2) 0 1, nextRoot C x, true)
  else (s, x, false)
def nextCell (C : Cf) (x : Co) : Co := if x.c + 1 < C.a then { x with c := x.c + 1, l := 4 } else if x.fd then { x with c := x.c + 1, l := 3 } else { x with c := x.c + 1, m := 0, l := 10 }
def passS (C : Cf) (s : Dy) (x : Co) : Dy × Co × Bool :=
  if x.l = 3 then (s.act C 2 2 0 0, { x with c := 0, fd := false, l := 4 }, true)
  else if x.l = 4 then (s.act C 1 (partP C.a C.b C.c C.d 2 x.c) 0 0, (if ldP C s (partP C.a C.b C.c C.d 2 x.c) = 1 then { x with l := 5 } else nextCell C x), true)
  else if x.l = 5 then (s.act C 1 (partP C.a C.b C.c C.d 0 x.c) 0 0, { x with a := ldP C s (partP C.a C.b C.c C.d 0 x.c), l := if isC (ldP C s (partP C.a C.b C.c C.d 0 x.c)).toNat then 6 else 7 }, true)
  else if x.l = 6 then (s.act C 3 (fieldP C.a C.b C.c C.d x.a.toNat 2) 0 1, { x with l := 7 }, true)
  else if x.l = 7 then (s.act C 1 (partP C.a C.b C.c C.d 1 x.c) 0 0, { x with a := ldP C s (partP C.a C.b C.c C.d 1 x.c), l := if isC (ldP C s (partP C.a C.b C.c C.d 1 x.c)).toNat then 8 else 9 }, true)
  else if x.l = 8 then (s.act C 3 (fieldP C.a C.b C.c C.d x.a.toNat 2) 0 1, { x with l := 9 }, true)
  else if x.l = 9 then (s.act C 2 (partP C.a C.b C.c C.d 2 x.c) 2 0, nextCell C { x with a := 0, fd := true }, true)
  else (s, x, false)
def nextMut (C : Cf) (x : Co) (n k : Int) : Co := if x.m + 1 < C.b then { x with m := x.m + 1, l := n } else { x with m := 0, l := k }
def shutS (C : Cf) (s : Dy) (x : Co) : Dy × Co × Bool × Bool :=
  if x.l = 10 then (s.act C 1 (inP C.a C.b C.c C.d x.m) 0 0, (if ldP C s (inP C.a C.b C.c C.d x.m) % 4 = 1 ∨ ldP C s (inP C.a C.b C.c C.d x.m) % 4 = 3 then { x with a := ldP C s (inP C.a C.b C.c C.d x.m), l := 16 } else nextMut C { x with a := 0 } 10 11), false, true)
  else if x.l = 16 then (s.act C 1 (inP C.a C.b C.c C.d x.m) 0 0, (if ldP C s (inP C.a C.b C.c C.d x.m) = x.a ∨ ldP C s (inP C.a C.b C.c C.d x.m) % 4 = 3 then { x with a := ldP C s (inP C.a C.b C.c C.d x.m), l := 16 } else nextMut C { x with a := 0 } 10 11), false, true)
  else if x.l = 11 then (s.act C 2 1 1 0, { x with l := 12 }, false, true)
  else if x.l = 12 then (s.act C 1 (inP C.a C.b C.c C.d x.m) 0 0, (if ldP C s (inP C.a C.b C.c C.d x.m) % 4 = 1 ∨ ldP C s (inP C.a C.b C.c C.d x.m) % 4 = 2 then x else nextMut C x 12 13), false, true)
  else if x.l = 13 then (s.act C 1 2 0 0, (if ldP C s 2 = 0 then { x with l := 14 } else { x with l := 15 }), decide (ldP C s 2 = 0), true)
  else if x.l = 14 then (s.act C 2 1 0 0, { x with c := 0, l := 20 }, false, true)
  else if x.l = 15 then (s.act C 2 1 0 0, { x with l := 3 }, false, true)
  else (s, x, false, false)
def nextSwept (C : Cf) (x : Co) : Co := if x.c + 1 < C.a then { x with c := x.c + 1, l := 20 } else { x with c := x.c + 1, cy := x.cy + 1, l := 1, j := 0, p := 0 }
def cycN (C : Cf) (x : Co) : Int := if x.c + 1 < C.a then 0 else 3
def cellW (i : Int) : Int := if 0 ≤ i ∧ i < 4096 then 2 * i + 1 else 0
def sweepS (C : Cf) (s : Dy) (x : Co) : Dy × Co × Int × Bool :=
  if x.l = 20 then (s.act C 1 (partP C.a C.b C.c C.d 2 x.c) 0 0, (if ldP C s (partP C.a C.b C.c C.d 2 x.c) = 0 then { x with l := 21 } else if ldP C s (partP C.a C.b C.c C.d 2 x.c) = 2 then { x with l := 24 } else nextSwept C x),
    (if ldP C s (partP C.a C.b C.c C.d 2 x.c) = 0 then 0 else if ldP C s (partP C.a C.b C.c C.d 2 x.c) = 2 then 0 else cycN C x), true)
  else if x.l = 21 then (s.act C 2 (partP C.a C.b C.c C.d 0 x.c) 0 0, { x with l := 22 }, 0, true)
  else if x.l = 22 then (s.act C 2 (partP C.a C.b C.c C.d 1 x.c) 0 0, { x with l := 23 }, 0, true)
  else if x.l = 23 then (s.act C 2 (partP C.a C.b C.c C.d 1 x.tl) (cellW x.c) 0, nextSwept C { x with tl := x.c }, 2 + cycN C x, true)
  else if x.l = 24 then (s.act C 2 (partP C.a C.b C.c C.d 2 x.c) 0 0, nextSwept C x, cycN C x, true)
  else (s, x, 0, false)
def colS (C : Cf) (s : Dy) (x : Co) : Dy × Co × Int :=
  if x.l = 1 ∨ x.l = 2 then ((rootS C s.clr x).1, (rootS C s.clr x).2.1, 0)
  else if 3 ≤ x.l ∧ x.l ≤ 9 then ((passS C s.clr x).1, (passS C s.clr x).2.1, 0)
  else if 10 ≤ x.l ∧ x.l ≤ 16 then ((shutS C s.clr x).1, (shutS C s.clr x).2.1, if (shutS C s.clr x).2.2.1 then 1 else 0)
  else ((sweepS C s.clr x).1, (sweepS C s.clr x).2.1, (sweepS C s.clr x).2.2.1)
end Go.Proofs.YtbpooljohjkbjaaGreatDoor
/- Two hands on the same words, as the laws of layers 10 and behind make them (Both), and whether both did the same (Alike). -/
namespace Go.Proofs.YtbpooljohjkbjaaGreatDoor
open Go Go.RowKit
set_option maxRecDepth 100000
attribute [local go_sem ↓] Go.wp_at_zero Go.wp_at_succ
namespace Two
end Two
end Go.Proofs.YtbpooljohjkbjaaGreatDoor
/- How far the collector is, as a value and as cells, beside a hand and the document's. -/
namespace Go.Proofs.YtbpooljohjkbjaaGreatDoor
open Go Go.RowKit
set_option maxRecDepth 100000
attribute [local go_sem ↓] Go.wp_at_zero Go.wp_at_succ
abbrev colV (l j c m a p : Int) (fd : Bool) (tl cy : Int) : Value := .agg #[.int .i64 l, .int .i64 j, .int .i64 c, .int .i64 m, .int .u64 a, .int .u64 p, .bool fd, .int .i64 tl, .int .i64 cy]
abbrev Co.v (x : Co) : Value := colV x.l x.j x.c x.m x.a x.p x.fd x.tl x.cy
def Col9 (w : World) (B : Nat) (l j c m a p : Int) (fd : Bool) (tl cy : Int) : Prop := w.heap[B]? = some (.cells #[.int .i64 l, .int .i64 j, .int .i64 c, .int .i64 m, .int .u64 a, .int .u64 p, .bool fd, .int .i64 tl, .int .i64 cy] 49 (0, 0))
abbrev CoAt (w : World) (B : Nat) (x : Co) : Prop := Col9 w B x.l x.j x.c x.m x.a x.p x.fd x.tl x.cy
abbrev put9 (w : World) (B : Nat) (l j c m a p : Int) (fd : Bool) (tl cy : Int) : World := (((((((((w.setCell ⟨B, 0, none⟩ (.int .i64 l)).setCell ⟨B, 1, none⟩ (.int .i64 j)).setCell ⟨B, 2, none⟩ (.int .i64 c)).setCell ⟨B, 3, none⟩ (.int .i64 m)).setCell ⟨B, 4, none⟩ (.int .u64 a)).setCell ⟨B, 5, none⟩ (.int .u64 p)).setCell ⟨B, 6, none⟩ (.bool fd)).setCell ⟨B, 7, none⟩ (.int .i64 tl)).setCell ⟨B, 8, none⟩ (.int .i64 cy))
namespace Col9
variable {w w' : World} {B : Nat} {l j c m a p : Int} {fd : Bool} {tl cy : Int}
theorem cells (h : Col9 w B l j c m a p fd tl cy) : w.cell? ⟨B, 0, none⟩ = some (.int .i64 l) ∧ w.cell? ⟨B, 1, none⟩ = some (.int .i64 j) ∧ w.cell? ⟨B, 2, none⟩ = some (.int .i64 c) ∧ w.cell? ⟨B, 3, none⟩ = some (.int .i64 m) ∧ w.cell? ⟨B, 4, none⟩ = some (.int .u64 a) ∧ w.cell? ⟨B, 5, none⟩ = some (.int .u64 p) ∧ w.cell? ⟨B, 6, none⟩ = some (.bool fd) ∧ w.cell? ⟨B, 7, none⟩ = some (.int .i64 tl) ∧ w.cell? ⟨B, 8, none⟩ = some (.int .i64 cy) ∧ (∀ j, w.frozen? ⟨B, j, none⟩ = false) := by
  unfold Col9 at h
  refine ⟨by simp [World.cell?, h], by simp [World.cell?, h], by simp [World.cell?, h], by simp [World.cell?, h], by simp [World.cell?, h], by simp [World.cell?, h], by simp [World.cell?, h], by simp [World.cell?, h], by simp [World.cell?, h], fun j => by simp [World.frozen?, h]⟩
theorem lt (h : Col9 w B l j c m a p fd tl cy) : B < w.heap.size := (Array.getElem?_eq_some_iff.1 h).1
theorem other (h : Col9 w B l j c m a p fd tl cy) (e : w'.heap[B]? = w.heap[B]?) : Col9 w' B l j c m a p fd tl cy := e.trans h
theorem below (h : Col9 w B l j c m a p fd tl cy) (hb : Below w.heap.size w w') : Col9 w' B l j c m a p fd tl cy := h.other (hb.block _ h.lt)
theorem new (w : World) (l j c m a p : Int) (fd : Bool) (tl cy : Int) : Col9 (w.alloc (.cells #[.int .i64 l, .int .i64 j, .int .i64 c, .int .i64 m, .int .u64 a, .int .u64 p, .bool fd, .int .i64 tl, .int .i64 cy] 49)) w.heap.size l j c m a p fd tl cy := newBlock _ _
theorem put (h : Col9 w B l j c m a p fd tl cy) (l' j' c' m' a' p' : Int) (fd' : Bool) (tl' cy' : Int) : Col9 (put9 w B l' j' c' m' a' p' fd' tl' cy') B l' j' c' m' a' p' fd' tl' cy' := by
  unfold Col9 at *; simp [World.setCell, Array.getElem?_modify, h]
theorem savH {V : World} {H G : Nat} (h : Col9 w B l j c m a p fd tl cy) (hs : Sav (HG H G) w V) (h1 : B ≠ H) (h2 : B ≠ G) : Col9 V B l j c m a p fd tl cy :=
  h.other (hs.block B h.lt (fun e => e.elim h1 h2))
theorem setOther (h : Col9 w B l j c m a p fd tl cy) {q : Addr} (hq : q.block ≠ B) (v : Value) : Col9 (w.setCell q v) B l j c m a p fd tl cy :=
  h.other (Below.heap_setCell _ _ _ _ hq.symm)
theorem setL (h : Col9 w B l j c m a p fd tl cy) (z : Int) : Col9 (w.setCell ⟨B, 0, none⟩ (.int .i64 z)) B z j c m a p fd tl cy := by
  unfold Col9 at *; simp [World.setCell, Array.getElem?_modify, h]
theorem setC (h : Col9 w B l j c m a p fd tl cy) (z : Int) : Col9 (w.setCell ⟨B, 2, none⟩ (.int .i64 z)) B l j z m a p fd tl cy := by
  unfold Col9 at *; simp [World.setCell, Array.getElem?_modify, h]
theorem setM (h : Col9 w B l j c m a p fd tl cy) (z : Int) : Col9 (w.setCell ⟨B, 3, none⟩ (.int .i64 z)) B l j c z a p fd tl cy := by
  unfold Col9 at *; simp [World.setCell, Array.getElem?_modify, h]
theorem setA (h : Col9 w B l j c m a p fd tl cy) (z : Int) : Col9 (w.setCell ⟨B, 4, none⟩ (.int .u64 z)) B l j c m z p fd tl cy := by
  unfold Col9 at *; simp [World.setCell, Array.getElem?_modify, h]
theorem setP (h : Col9 w B l j c m a p fd tl cy) (z : Int) : Col9 (w.setCell ⟨B, 5, none⟩ (.int .u64 z)) B l j c m a z fd tl cy := by
  unfold Col9 at *; simp [World.setCell, Array.getElem?_modify, h]
theorem setFD (h : Col9 w B l j c m a p fd tl cy) (z : Bool) : Col9 (w.setCell ⟨B, 6, none⟩ (.bool z)) B l j c m a p z tl cy := by
  unfold Col9 at *; simp [World.setCell, Array.getElem?_modify, h]
theorem setTL (h : Col9 w B l j c m a p fd tl cy) (z : Int) : Col9 (w.setCell ⟨B, 7, none⟩ (.int .i64 z)) B l j c m a p fd z cy := by
  unfold Col9 at *; simp [World.setCell, Array.getElem?_modify, h]
end Col9
theorem heap_put9 (w : World) (H : Nat) (l j c m a p : Int) (fd : Bool) (tl cy : Int) {B : Nat} (hB : B ≠ H) : (put9 w H l j c m a p fd tl cy).heap[B]? = w.heap[B]? :=
  (Below.heap_setCell _ _ _ _ hB).trans ((Below.heap_setCell _ _ _ _ hB).trans ((Below.heap_setCell _ _ _ _ hB).trans ((Below.heap_setCell _ _ _ _ hB).trans ((Below.heap_setCell _ _ _ _ hB).trans ((Below.heap_setCell _ _ _ _ hB).trans ((Below.heap_setCell _ _ _ _ hB).trans ((Below.heap_setCell _ _ _ _ hB).trans (Below.heap_setCell _ _ _ _ hB))))))))
theorem Sav.put9 {S : Nat → Prop} {w w' : World} (h : Sav S w w') {C : Nat} (hC : S C ∨ w.heap.size ≤ C) (l j c m a p : Int) (fd : Bool) (tl cy : Int) : Sav S w (put9 w' C l j c m a p fd tl cy) :=
  (((((((((h.set (p := ⟨C, 0, none⟩) hC _).set (p := ⟨C, 1, none⟩) hC _).set (p := ⟨C, 2, none⟩) hC _).set (p := ⟨C, 3, none⟩) hC _).set (p := ⟨C, 4, none⟩) hC _).set (p := ⟨C, 5, none⟩) hC _).set (p := ⟨C, 6, none⟩) hC _).set (p := ⟨C, 7, none⟩) hC _).set (p := ⟨C, 8, none⟩) hC _)
theorem HandAt.put9 {w : World} {H A G n : Nat} {f : Nat → Int} {a b c d k i x y o : Int} (h : HandAt w H A G n f a b c d k i x y o) {C : Nat} (h0 : C ≠ H) (h1 : C ≠ A) (h2 : C ≠ G) (l' j' c' m' a' p' : Int) (fd' : Bool) (tl' cy' : Int) : HandAt (put9 w C l' j' c' m' a' p' fd' tl' cy') H A G n f a b c d k i x y o :=
  h.other (heap_put9 _ _ _ _ _ _ _ _ _ _ _ h0.symm) (heap_put9 _ _ _ _ _ _ _ _ _ _ _ h1.symm) (heap_put9 _ _ _ _ _ _ _ _ _ _ _ h2.symm)
theorem spans_sav {w w' : World} {H A G : Nat} {C : Cf} {s : Dy} (hn : 0 < C.n) (hS : SpansAt w) (hH : HAt w H A G C s) (hs : Sav (HG H G) w w') : SpansAt w' := by
  have hl := lt_of_cell hS.1.1
  have nH : 0 ≠ H := by
    intro e
    have h1 := hS.1.1
    have h2 := hH.cells.1
    rw [← e, h1] at h2
    cases h2
  have nG : 0 ≠ G := by
    intro e
    have h1 := hS.1.1
    have h2 := hH.ar.row.cell hn
    rw [← e, h1] at h2
    cases h2
  have key : ∀ j v, w.cell? ⟨0, j, none⟩ = some v → w'.cell? ⟨0, j, none⟩ = some v := fun j v e => by
    have hb := hs.block _ hl (fun e => e.elim nH nG)
    rw [← e]
    unfold World.cell?
    rw [hb]
  obtain ⟨⟨a1, a2, a3⟩, ⟨b1, b2, b3⟩, ⟨c1, c2, c3⟩, ⟨d1, d2, d3⟩⟩ := hS
  exact ⟨⟨key _ _ a1, key _ _ a2, key _ _ a3⟩, ⟨key _ _ b1, key _ _ b2, key _ _ b3⟩, ⟨key _ _ c1, key _ _ c2, key _ _ c3⟩, ⟨key _ _ d1, key _ _ d2, key _ _ d3⟩⟩
end Go.Proofs.YtbpooljohjkbjaaGreatDoor
/- Notes as slices; the document's Notes of two that are the same. -/
namespace Go.Proofs.YtbpooljohjkbjaaGreatDoor
open Go Go.RowKit
set_option maxRecDepth 100000
attribute [local go_sem ↓] Go.wp_at_zero Go.wp_at_succ
structure Nt where
  p : Int
  wh : Int
  k : Int
  x : Int
  y : Int
  z : Int
  n : Int
deriving DecidableEq
def NtAt (W : World) (b off : Nat) (q : Nt) : Prop := W.cell? ⟨b, off, none⟩ = some (.int .i64 q.p) ∧ W.cell? ⟨b, off + 1, none⟩ = some (.int .i64 q.wh) ∧ W.cell? ⟨b, off + 2, none⟩ = some (.int .i64 q.k) ∧ W.cell? ⟨b, off + 3, none⟩ = some (.int .i64 q.x) ∧ W.cell? ⟨b, off + 4, none⟩ = some (.int .i64 q.y) ∧ W.cell? ⟨b, off + 5, none⟩ = some (.int .i64 q.z) ∧ W.cell? ⟨b, off + 6, none⟩ = some (.int .i64 q.n)
theorem NtAt.other {W V : World} {b off : Nat} {q : Nt} (h : NtAt W b off q) (e : V.heap[b]? = W.heap[b]?) : NtAt V b off q := by
  obtain ⟨h0, h1, h2, h3, h4, h5, h6⟩ := h
  exact ⟨(World.cell?_of_block (a := ⟨b, off, none⟩) e).trans h0, (World.cell?_of_block (a := ⟨b, off + 1, none⟩) e).trans h1, (World.cell?_of_block (a := ⟨b, off + 2, none⟩) e).trans h2, (World.cell?_of_block (a := ⟨b, off + 3, none⟩) e).trans h3, (World.cell?_of_block (a := ⟨b, off + 4, none⟩) e).trans h4, (World.cell?_of_block (a := ⟨b, off + 5, none⟩) e).trans h5, (World.cell?_of_block (a := ⟨b, off + 6, none⟩) e).trans h6⟩
def NtsSl (W : World) (v : Value) (L : List Nt) : Prop := ∃ a cap, v = .slice a L.length cap ∧ (L.length = 0 ∨ ∃ b off, a = some ⟨b, off, none⟩ ∧ ∀ k, (h : k < L.length) → NtAt W b (off + k * 7) L[k])
end Go.Proofs.YtbpooljohjkbjaaGreatDoor
