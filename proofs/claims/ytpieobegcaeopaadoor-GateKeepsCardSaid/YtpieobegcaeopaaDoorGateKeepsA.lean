/- GateKeeps: what lies where. -/
import Derived.Test.YtpieobegcaeopaaDoorGateKeepsP
import Derived.Test.YtpieobegcaeopaaDoorMuRow
namespace Go.Proofs.YtpieobegcaeopaaDoor
open Go Go.RowKit
set_option maxRecDepth 100000
attribute [local go_sem ↓] Go.wp_at_zero Go.wp_at_succ

/-- Behind any picks: the hand, and the row of mutators. -/
structure KpAt (w W : World) (H A G R k : Nat) (ln kd : Nat → Int) (s : Dy) : Prop where
  old : Below w.heap.size w W
  lH : w.heap.size ≤ H
  lG : w.heap.size ≤ G
  lR : w.heap.size ≤ R
  d : R ≠ H ∧ R ≠ A ∧ R ≠ G
  hand : HAt W H A G (CK k) s
  row : MusAt W R k (fun i => mS (ln i) (kd i))
namespace KpAt
variable {w W V : World} {H A G R k : Nat} {ln kd : Nat → Int} {s s' : Dy}
theorem drew (h : KpAt w W H A G R k ln kd s) : KpAt w W.drew H A G R k ln kd s := ⟨h.old.drew, h.lH, h.lG, h.lR, h.d, h.hand.drew, h.row⟩
theorem below (h : KpAt w W H A G R k ln kd s) (hb : Below W.heap.size W V) : KpAt w V H A G R k ln kd s := ⟨belowOn h.old hb, h.lH, h.lG, h.lR, h.d, h.hand.below hb, h.row.below hb⟩
theorem act (h : KpAt w W H A G R k ln kd s) (hH : HAt V H A G (CK k) s') (hs : Sav (HG H G) W V) : KpAt w V H A G R k ln kd s' :=
  ⟨hs.old h.old h.lH h.lG, h.lH, h.lG, h.lR, h.d, hH, h.row.other (hs.block R h.row.lt (fun e => e.elim h.d.1 h.d.2.2))⟩
theorem other (h : KpAt w W H A G R k ln kd s) (S : Nat → Prop) (hs : Sav S W V) (h1 : ¬ S H) (h2 : ¬ S A) (h3 : ¬ S G) (h4 : ¬ S R) (h5 : ∀ j, S j → w.heap.size ≤ j) : KpAt w V H A G R k ln kd s :=
  ⟨h.old.trans (hs.below h.old.size (fun j hj e => by have := h5 j e; omega)), h.lH, h.lG, h.lR, h.d, h.hand.other (hs.block H h.hand.lt h1) (hs.block A h.hand.ar.lt h2) (hs.block G h.hand.ar.row.lt h3), h.row.other (hs.block R h.row.lt h4)⟩
theorem put (h : KpAt w W H A G R k ln kd s) (m : Nat) (l q : Int) : KpAt w (putM W R (m * 13) (mS l q)) H A G R k (upd ln m l) (upd kd m q) s := by
  refine ⟨(Sav.putM (S := fun j => j = R) (Sav.of h.old) (.inl rfl) _ _).below (Nat.le_refl _) (fun j hj e => by have := h.lR; omega), h.lH, h.lG, h.lR, h.d, h.hand.other (heap_putM _ _ _ _ h.d.1.symm) (heap_putM _ _ _ _ h.d.2.1.symm) (heap_putM _ _ _ _ h.d.2.2.symm), (h.row.put m (mS l q)).congr (fun i _ => ?_)⟩
  unfold updM upd
  by_cases e : i = m
  · rw [if_pos e, if_pos e, if_pos e]
  · rw [if_neg e, if_neg e, if_neg e]
theorem first {f : Nat → Int} (hb : Below w.heap.size w W) (h1 : w.heap.size ≤ H) (h2 : w.heap.size ≤ G) (hH : HAt W H A G (CK k) ⟨f, 0, 0, 0, 0, 0⟩) : KpAt w (W.alloc (.cells (madeCells zM (k * 13)) 37)) H A G W.heap.size k (fun _ => 0) (fun _ => 0) ⟨f, 0, 0, 0, 0, 0⟩ := by
  have i1 := hH.lt; have i2 := hH.ar.lt; have i3 := hH.ar.row.lt
  exact ⟨belowOn hb (below_new W _), h1, h2, hb.size, by omega, hH.below (below_new W _), mus_made W k⟩
end KpAt
theorem mu_putM {W : World} {Y R : Nat} {m : Mu} (h : MuAt W Y m) (d : Y ≠ R) (o : Nat) (m' : Mu) : MuAt (putM W R o m').drew Y m := by
  have h1 : MuAt (putM W R o m') Y m := Mut13.other h (heap_putM W R o m' d)
  generalize putM W R o m' = V at *
  exact h1
end Go.Proofs.YtpieobegcaeopaaDoor
