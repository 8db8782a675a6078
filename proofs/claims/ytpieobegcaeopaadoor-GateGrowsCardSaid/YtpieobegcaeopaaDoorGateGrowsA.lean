/- GateGrows: what lies where. -/
import Derived.Test.YtpieobegcaeopaaDoorGateGrowsP
namespace Go.Proofs.YtpieobegcaeopaaDoor
open Go Go.RowKit
set_option maxRecDepth 100000
attribute [local go_sem ↓] Go.wp_at_zero Go.wp_at_succ

/-- Within the loop: the hand, and how far the mutator is. -/
structure GwAt (w W : World) (H A G X : Nat) (l : Int) (s : Dy) : Prop where
  old : Below w.heap.size w W
  lH : w.heap.size ≤ H
  lG : w.heap.size ≤ G
  lX : w.heap.size ≤ X
  d : X ≠ H ∧ X ≠ A ∧ X ≠ G
  hand : HAt W H A G C13 s
  x : MuAt W X (mL l)
theorem GwAt.drew {w W : World} {H A G X : Nat} {l : Int} {s : Dy} (h : GwAt w W H A G X l s) : GwAt w W.drew H A G X l s := ⟨h.old.drew, h.lH, h.lG, h.lX, h.d, h.hand.drew, h.x⟩
theorem GwAt.below {w W V : World} {H A G X : Nat} {l : Int} {s : Dy} (h : GwAt w W H A G X l s) (hb : Below W.heap.size W V) : GwAt w V H A G X l s := ⟨belowOn h.old hb, h.lH, h.lG, h.lX, h.d, h.hand.below hb, h.x.below hb⟩
theorem GwAt.act {w W V : World} {H A G X : Nat} {l : Int} {s s' : Dy} (h : GwAt w W H A G X l s) (hH : HAt V H A G C13 s') (hs : Sav (HG H G) W V) : GwAt w V H A G X l s' := ⟨hs.old h.old h.lH h.lG, h.lH, h.lG, h.lX, h.d, hH, h.x.savH hs h.d.1 h.d.2.2⟩
theorem GwAt.put {w W : World} {H A G X : Nat} {l : Int} {s : Dy} (h : GwAt w W H A G X l s) (l' : Int) : GwAt w (put13 W X l' 0 0 11 0 0 0 0 0 0 0 0 0) H A G X l' s :=
  ⟨(Sav.put13 (S := fun j => j = X) (Sav.of h.old) (.inl rfl) _ _ _ _ _ _ _ _ _ _ _ _ _).below (Nat.le_refl _) (fun j hj e => by have := h.lX; omega), h.lH, h.lG, h.lX, h.d, h.hand.put13 h.d.1 h.d.2.1 h.d.2.2 _ _ _ _ _ _ _ _ _ _ _ _ _, h.x.put _ _ _ _ _ _ _ _ _ _ _ _ _⟩
theorem GwAt.setL {w W : World} {H A G X : Nat} {l : Int} {s : Dy} (h : GwAt w W H A G X l s) (l' : Int) : GwAt w (W.setCell ⟨X, 0, none⟩ (.int .i64 l')) H A G X l' s :=
  ⟨h.old.setCell (p := ⟨X, 0, none⟩) h.lX _, h.lH, h.lG, h.lX, h.d, h.hand.setOther (p := ⟨X, 0, none⟩) h.d.1 h.d.2.1 h.d.2.2 _, h.x.setL l'⟩
theorem GwAt.first {w W : World} {H A G : Nat} {s : Dy} (hb : Below w.heap.size w W) (h1 : w.heap.size ≤ H) (h2 : w.heap.size ≤ G) (hH : HAt W H A G C13 s) : GwAt w (W.alloc (.cells #[.int .i64 1, .int .i64 11, .int .i64 0, .int .i64 0, .int .i64 0, .int .u64 0, .int .u64 0, .int .u64 0, .int .u64 0, .int .u64 0, .int .u64 0, .int .i64 0, .int .i64 0] 37)) H A G W.heap.size 1 s := by
  have i1 := hH.lt; have i2 := hH.ar.lt; have i3 := hH.ar.row.lt
  exact ⟨belowOn hb (below_new W _), h1, h2, hb.size, by omega, hH.below (below_new W _), Mut13.new W 1 0 0 11 0 0 0 0 0 0 0 0 0⟩
end Go.Proofs.YtpieobegcaeopaaDoor
