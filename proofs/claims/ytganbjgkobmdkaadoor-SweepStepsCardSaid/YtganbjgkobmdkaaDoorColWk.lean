/- A law's collector beside a hand; what is there behind its steps, beside the words that were handed in. -/
import Derived.Test.YtganbjgkobmdkaaDoorColF
import Derived.Test.YtganbjgkobmdkaaDoorRootsPure
import Derived.Test.YtganbjgkobmdkaaDoorPlaceRef
import Derived.Test.YtganbjgkobmdkaaDoorTwo
namespace Go.Proofs.YtganbjgkobmdkaaDoor
open Go Go.RowKit
set_option maxRecDepth 100000
attribute [local go_sem ↓] Go.wp_at_zero Go.wp_at_succ

/-- The law's collector in block B, beside the hand; W0: the world ahead of the hand. -/
structure CkW (w W : World) (H A G B : Nat) (C : Cf) (s : Dy) (x : Co) : Prop where
  old : Below w.heap.size w W
  hand : HAt W H A G C s
  col : CoAt W B x
  lo : w.heap.size ≤ H ∧ w.heap.size ≤ G ∧ w.heap.size ≤ B
  ne : B ≠ H ∧ B ≠ A ∧ B ≠ G
namespace CkW
variable {w W V : World} {H A G B : Nat} {C : Cf} {s s' : Dy} {x : Co}
theorem below (h : CkW w W H A G B C s x) (hb : Below W.heap.size W V) : CkW w V H A G B C s x := ⟨belowOn h.old hb, h.hand.below hb, h.col.below hb, h.lo, h.ne⟩
theorem drew (h : CkW w W H A G B C s x) : CkW w W.drew H A G B C s x := ⟨h.old.drew, h.hand.drew, h.col.other rfl, h.lo, h.ne⟩
theorem step (h : CkW w W H A G B C s x) {v : Value} {e : Ending} (hp : HP W H A G C s' v e V) : e = .returned v ∧ CkW w V H A G B C s' x :=
  ⟨hp.1, hp.2.2.old h.old h.lo.1 h.lo.2.1, hp.2.1, h.col.savH hp.2.2 h.ne.1 h.ne.2.2, h.lo, h.ne⟩
theorem cells9 (h : CkW w W H A G B C s x) : W.cell? ⟨B, 0, none⟩ = some (.int .i64 x.l) ∧ W.cell? ⟨B, 1, none⟩ = some (.int .i64 x.j) ∧ W.cell? ⟨B, 2, none⟩ = some (.int .i64 x.c) ∧ W.cell? ⟨B, 3, none⟩ = some (.int .i64 x.m) ∧ W.cell? ⟨B, 4, none⟩ = some (.int .u64 x.a) ∧ W.cell? ⟨B, 5, none⟩ = some (.int .u64 x.p) ∧ W.cell? ⟨B, 6, none⟩ = some (.bool x.fd) ∧ W.cell? ⟨B, 7, none⟩ = some (.int .i64 x.tl) ∧ W.cell? ⟨B, 8, none⟩ = some (.int .i64 x.cy) ∧ (∀ j, W.frozen? ⟨B, j, none⟩ = false) := h.col.cells
theorem put (h : CkW w W H A G B C s x) (y : Co) : CkW w (put9 W B y.l y.j y.c y.m y.a y.p y.fd y.tl y.cy) H A G B C s y :=
  ⟨((Sav.of (S := fun _ => False) h.old).put9 (.inr h.lo.2.2) _ _ _ _ _ _ _ _ _).below (Nat.le_refl _) (fun _ _ e => e), h.hand.put9 h.ne.1 h.ne.2.1 h.ne.2.2 _ _ _ _ _ _ _ _ _, h.col.put _ _ _ _ _ _ _ _ _, h.lo, h.ne⟩
theorem setOther (h : CkW w W H A G B C s x) {p : Addr} (n1 : p.block ≠ H) (n2 : p.block ≠ A) (n3 : p.block ≠ G) (n4 : p.block ≠ B) (lo : w.heap.size ≤ p.block) (v : Value) : CkW w (W.setCell p v) H A G B C s x :=
  ⟨h.old.setCell (p := p) lo v, h.hand.setOther n1 n2 n3 v, h.col.setOther n4 v, h.lo, h.ne⟩
theorem first (hb : Below w.heap.size w W) (hH : HAt W H A G C s) (l1 : w.heap.size ≤ H) (l2 : w.heap.size ≤ G) (x : Co) : CkW w (W.alloc (.cells #[.int .i64 x.l, .int .i64 x.j, .int .i64 x.c, .int .i64 x.m, .int .u64 x.a, .int .u64 x.p, .bool x.fd, .int .i64 x.tl, .int .i64 x.cy] 28)) H A G W.heap.size C s x :=
  ⟨below_on hb _, hH.below (below_new _ _), Col9.new _ _ _ _ _ _ _ _ _ _, ⟨l1, l2, hb.size⟩, ⟨by have := hH.lt; omega, by have := hH.ar.lt; omega, by have := hH.ar.row.lt; omega⟩⟩
end CkW
/-- What is there then beside the words that were handed in, in a row of the law's own. -/
structure RnB (w W : World) (Z X : Nat) (C : Cf) (v0 : Option Addr) (f g : Nat → Int) : Prop where
  old : Below w.heap.size w W
  now : RowAt W Z 26 C.n g
  was : WordsAt W v0 C.n f
  box : BoxAt W X C.a C.b C.c C.d
namespace RnB
variable {w W V : World} {Z X : Nat} {C : Cf} {v0 : Option Addr} {f g : Nat → Int}
theorem below (h : RnB w W Z X C v0 f g) (hb : Below W.heap.size W V) : RnB w V Z X C v0 f g := ⟨belowOn h.old hb, h.now.below hb, h.was.below hb, h.box.below hb⟩
theorem drew (h : RnB w W Z X C v0 f g) : RnB w W.drew Z X C v0 f g := ⟨h.old.drew, h.now, h.was, h.box⟩
end RnB
/-- The place of a root's cell's colour, as the laws look for it. -/
theorem colP_at (C : Cf) (u : Nat) : partP C.a C.b C.c C.d 2 (cellR u) = colP C (u : Int) := by
  unfold colP fieldP cellR
  by_cases h : isC u
  · rw [if_pos h]; simp only [Int.toNat_natCast]; rw [if_pos ⟨h, by omega, by omega⟩]
  · rw [if_neg h]; simp only [Int.toNat_natCast]; rw [if_neg (fun e => h e.1)]
    unfold partP; rw [if_neg (by omega)]
/-- A place of a colour, among all words. -/
theorem col_rem {C : Cf} (hC : CfOK C) {w : Int} {k : Nat} (h : (k : Int) = colP C w) : 5 + C.b + C.d + C.b * C.c ≤ (k : Int) ∧ ((k : Int) - (5 + C.b + C.d + C.b * C.c)) % 3 = 2 ∧ k < C.n := by
  have h0 : 0 ≤ colP C w := by omega
  obtain ⟨e1, e2, e3, e4, e5⟩ := colP_spot hC h0
  have hp : partP C.a C.b C.c C.d 2 ((w.toNat / 2 : Nat) : Int) = 5 + C.b + C.d + C.b * C.c + 3 * ((w.toNat / 2 : Nat) : Int) + 2 := by unfold partP; rw [if_pos ⟨⟨by omega, e4⟩, hC.right⟩]
  have h9 : (k : Int) = 5 + C.b + C.d + C.b * C.c + 3 * ((w.toNat / 2 : Nat) : Int) + 2 := by rw [h, e5, hp]
  clear hp e5 e4 e3 e2
  omega
end Go.Proofs.YtganbjgkobmdkaaDoor
