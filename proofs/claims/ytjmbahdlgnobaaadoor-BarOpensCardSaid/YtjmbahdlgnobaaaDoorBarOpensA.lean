/- BarOpens: what lies where. -/
import Derived.Test.YtjmbahdlgnobaaaDoorBarKeepsA
import Derived.Test.YtjmbahdlgnobaaaDoorOpensPure
namespace Go.Proofs.YtjmbahdlgnobaaaDoor
open Go Go.RowKit
set_option maxRecDepth 100000
attribute [local go_sem ↓] Go.wp_at_zero Go.wp_at_succ

/-- The blocks of the law's own. -/
structure BoB where
  H : Nat
  A : Nat
  G : Nat
  R : Nat
  S : Nat
  B : Nat
def BoB.is (b : BoB) (j : Nat) : Prop := j = b.H ∨ j = b.A ∨ j = b.G ∨ j = b.R ∨ j = b.S ∨ j = b.B
structure BoB.ok (b : BoB) (z : Nat) : Prop where
  lH : z ≤ b.H
  lG : z ≤ b.G
  lR : z ≤ b.R
  lS : z ≤ b.S
  lB : z ≤ b.B
  dR : b.R ≠ b.H ∧ b.R ≠ b.A ∧ b.R ≠ b.G ∧ b.R ≠ b.S ∧ b.R ≠ b.B
  dS : b.S ≠ b.H ∧ b.S ≠ b.A ∧ b.S ≠ b.G ∧ b.S ≠ b.B
  dB : b.B ≠ b.H ∧ b.B ≠ b.A ∧ b.B ≠ b.G
/-- Behind any picks: the hand, the row of mutators, how often each got in, the collector. -/
structure BoW (w W : World) (b : BoB) (k : Nat) (ln kd g : Nat → Int) (s : Dy) (x : Co) : Prop where
  old : Below w.heap.size w W
  ok : b.ok w.heap.size
  hand : HAt W b.H b.A b.G (CK k) s
  row : MusAt W b.R k (fun i => mS (ln i) (kd i))
  got : IRow W b.S k g
  col : CoAt W b.B x
namespace BoW
variable {w W V : World} {b : BoB} {k : Nat} {ln kd g : Nat → Int} {s s' : Dy} {x : Co}
theorem lt (h : BoW w W b k ln kd g s x) {j : Nat} (hj : b.is j) : j < W.heap.size := by
  rcases hj with rfl | rfl | rfl | rfl | rfl | rfl
  · exact h.hand.lt
  · exact h.hand.ar.lt
  · exact h.hand.ar.row.lt
  · exact h.row.lt
  · exact h.got.lt
  · exact h.col.lt
theorem keep (h : BoW w W b k ln kd g s x) (ho : Below w.heap.size w V) (e : ∀ j, b.is j → V.heap[j]? = W.heap[j]?) : BoW w V b k ln kd g s x :=
  ⟨ho, h.ok, h.hand.other (e _ (.inl rfl)) (e _ (.inr (.inl rfl))) (e _ (.inr (.inr (.inl rfl)))), h.row.other (e _ (.inr (.inr (.inr (.inl rfl))))), h.got.other (e _ (.inr (.inr (.inr (.inr (.inl rfl)))))), h.col.other (e _ (.inr (.inr (.inr (.inr (.inr rfl))))))⟩
theorem below (h : BoW w W b k ln kd g s x) (hb : Below W.heap.size W V) : BoW w V b k ln kd g s x := h.keep (belowOn h.old hb) (fun j hj => hb.block j (h.lt hj))
theorem other (h : BoW w W b k ln kd g s x) (S : Nat → Prop) (hs : Sav S W V) (h1 : ∀ j, b.is j → ¬ S j) (h2 : ∀ j, S j → w.heap.size ≤ j) : BoW w V b k ln kd g s x :=
  h.keep (h.old.trans (hs.below h.old.size (fun j hj e => by have := h2 j e; omega))) (fun j hj => hs.block j (h.lt hj) (h1 j hj))
theorem act (h : BoW w W b k ln kd g s x) {v : Value} {e : Ending} (hp : HP W b.H b.A b.G (CK k) s' v e V) : e = .returned v ∧ BoW w V b k ln kd g s' x := by
  have o := h.ok
  have hne : ∀ j, j ≠ b.H → j ≠ b.G → j < W.heap.size → V.heap[j]? = W.heap[j]? := fun j h1 h2 h3 => hp.2.2.block j h3 (fun e => e.elim h1 h2)
  exact ⟨hp.1, hp.2.2.old h.old o.lH o.lG, o, hp.2.1, h.row.other (hne _ o.dR.1 o.dR.2.2.1 h.row.lt), h.got.other (hne _ o.dS.1 o.dS.2.2.1 h.got.lt), h.col.other (hne _ o.dB.1 o.dB.2.2 h.col.lt)⟩
theorem setX (h : BoW w W b k ln kd g s x) (y : Co) {V : World} (ho : Below w.heap.size w V) (e : ∀ j, j ≠ b.B → V.heap[j]? = W.heap[j]?) (hc : CoAt V b.B y) : BoW w V b k ln kd g s y := by
  have o := h.ok
  exact ⟨ho, o, h.hand.other (e _ o.dB.1.symm) (e _ o.dB.2.1.symm) (e _ o.dB.2.2.symm), h.row.other (e _ o.dR.2.2.2.2), h.got.other (e _ o.dS.2.2.2), hc⟩
theorem putX (h : BoW w W b k ln kd g s x) (y : Co) : BoW w (put9 W b.B y.l y.j y.c y.m y.a y.p y.fd y.tl y.cy) b k ln kd g s y :=
  h.setX y (((Sav.of (S := fun _ => False) h.old).put9 (.inr h.ok.lB) _ _ _ _ _ _ _ _ _).below (Nat.le_refl _) (fun _ _ e => e)) (fun _ hj => heap_put9 _ _ _ _ _ _ _ _ _ _ _ hj) (h.col.put _ _ _ _ _ _ _ _ _)
theorem anew (h : BoW w W b k ln kd g s x) : BoW w ((W.setCell ⟨b.B, 0, none⟩ (.int .i64 10)).setCell ⟨b.B, 3, none⟩ (.int .i64 0)) b k ln kd g s { x with l := 10, m := 0 } :=
  h.setX { x with l := 10, m := 0 } ((h.old.setCell (p := ⟨b.B, 0, none⟩) h.ok.lB _).setCell (p := ⟨b.B, 3, none⟩) h.ok.lB _) (fun _ hj => (Below.heap_setCell _ _ _ _ hj).trans (Below.heap_setCell _ _ _ _ hj)) ((h.col.setL 10).setM 0)
theorem setGot (h : BoW w W b k ln kd g s x) (i : Nat) (z : Int) : BoW w (W.setCell ⟨b.S, i, none⟩ (.int .i64 z)) b k ln kd (upd g i z) s x := by
  have o := h.ok
  have e : ∀ j, j ≠ b.S → (W.setCell ⟨b.S, i, none⟩ (.int .i64 z)).heap[j]? = W.heap[j]? := fun j hj => Below.heap_setCell _ _ _ _ hj
  exact ⟨h.old.setCell (p := ⟨b.S, i, none⟩) o.lS _, o, h.hand.other (e _ o.dS.1.symm) (e _ o.dS.2.1.symm) (e _ o.dS.2.2.1.symm), h.row.other (e _ o.dR.2.2.2.1), h.got.set i z, h.col.other (e _ o.dS.2.2.2.symm)⟩
theorem putM (h : BoW w W b k ln kd g s x) (m : Nat) (l q : Int) : BoW w (putM W b.R (m * 13) (mS l q)) b k (upd ln m l) (upd kd m q) g s x := by
  have o := h.ok
  have e : ∀ j, j ≠ b.R → (Proofs.YtjmbahdlgnobaaaDoor.putM W b.R (m * 13) (mS l q)).heap[j]? = W.heap[j]? := fun j hj => heap_putM _ _ _ _ hj
  refine ⟨(Sav.putM (S := fun j => j = b.R) (Sav.of h.old) (.inl rfl) _ _).below (Nat.le_refl _) (fun j hj e => by have := o.lR; omega), o, h.hand.other (e _ o.dR.1.symm) (e _ o.dR.2.1.symm) (e _ o.dR.2.2.1.symm), (h.row.put m (mS l q)).congr (fun i _ => ?_), h.got.other (e _ o.dR.2.2.2.1.symm), h.col.other (e _ o.dR.2.2.2.2.symm)⟩
  unfold updM upd
  by_cases e : i = m
  · rw [if_pos e, if_pos e, if_pos e]
  · rw [if_neg e, if_neg e, if_neg e]
theorem apart (h : BoW w W b k ln kd g s x) {j : Nat} (hj : W.heap.size ≤ j) : ¬ b.is j ∧ w.heap.size ≤ j := ⟨fun e => by have := h.lt e; omega, by have := h.old.size; omega⟩
theorem first {H A G : Nat} {f : Nat → Int} (hb : Below w.heap.size w W) (h1 : w.heap.size ≤ H) (h2 : w.heap.size ≤ G) (hH : HAt W H A G (CK k) ⟨f, 0, 0, 0, 0, 0⟩) (x : Co) :
    BoW w (((W.alloc (.cells (madeCells zM (k * 13)) 49)).alloc (.cells (madeCells #[.int .i64 0] k) 3)).alloc (.cells #[.int .i64 x.l, .int .i64 x.j, .int .i64 x.c, .int .i64 x.m, .int .u64 x.a, .int .u64 x.p, .bool x.fd, .int .i64 x.tl, .int .i64 x.cy] 28)) ⟨H, A, G, W.heap.size, W.heap.size + 1, W.heap.size + 2⟩ k (fun _ => 0) (fun _ => 0) (fun _ => 0) ⟨f, 0, 0, 0, 0, 0⟩ x := by
  have h := BkW.first (k := k) hb h1 h2 hH x
  have i1 := hH.lt; have i2 := hH.ar.lt; have i3 := hH.ar.row.lt; have i4 := hb.size
  have b1 := below_new W (.cells (madeCells zM (k * 13)) 49)
  have m1 := mus_made W k
  generalize hW1 : W.alloc (.cells (madeCells zM (k * 13)) 49) = W1 at *
  have s1 : W1.heap.size = W.heap.size + 1 := by rw [← hW1]; simp
  have b2 := below_new W1 (.cells (madeCells #[.int .i64 0] k) 3)
  have m2 := IRow.made W1 k
  generalize hW2 : W1.alloc (.cells (madeCells #[.int .i64 0] k) 3) = W2 at *
  have s2 : W2.heap.size = W.heap.size + 2 := by rw [← hW2]; simp [s1]
  have b3 := below_new W2 (.cells #[.int .i64 x.l, .int .i64 x.j, .int .i64 x.c, .int .i64 x.m, .int .u64 x.a, .int .u64 x.p, .bool x.fd, .int .i64 x.tl, .int .i64 x.cy] 28)
  have m3 : CoAt (W2.alloc (.cells #[.int .i64 x.l, .int .i64 x.j, .int .i64 x.c, .int .i64 x.m, .int .u64 x.a, .int .u64 x.p, .bool x.fd, .int .i64 x.tl, .int .i64 x.cy] 28)) W2.heap.size x := Col9.new _ _ _ _ _ _ _ _ _ _
  generalize hW3 : W2.alloc (.cells #[.int .i64 x.l, .int .i64 x.j, .int .i64 x.c, .int .i64 x.m, .int .u64 x.a, .int .u64 x.p, .bool x.fd, .int .i64 x.tl, .int .i64 x.cy] 28) = W3 at *
  clear h hW1 hW2 hW3
  rw [s1] at m2; rw [s2] at m3
  have c13 : Below W1.heap.size W1 W3 := belowOn b2 b3
  have c03 : Below W.heap.size W W3 := belowOn b1 c13
  refine ⟨belowOn hb c03, ⟨h1, h2, i4, by show _ ≤ _ + 1; omega, by show _ ≤ _ + 2; omega, ?_, ?_, ?_⟩, hH.below c03, m1.other (c13.block _ (by rw [s1]; show W.heap.size < _; omega)), m2.other (b3.block _ (by rw [s2]; show W.heap.size + 1 < _; omega)), m3⟩
  · show W.heap.size ≠ H ∧ W.heap.size ≠ A ∧ W.heap.size ≠ G ∧ W.heap.size ≠ W.heap.size + 1 ∧ W.heap.size ≠ W.heap.size + 2; omega
  · show W.heap.size + 1 ≠ H ∧ W.heap.size + 1 ≠ A ∧ W.heap.size + 1 ≠ G ∧ W.heap.size + 1 ≠ W.heap.size + 2; omega
  · show W.heap.size + 2 ≠ H ∧ W.heap.size + 2 ≠ A ∧ W.heap.size + 2 ≠ G; omega
end BoW
theorem boMut_len (S : BoS) (m : Nat) : (boMut S m).got.length = S.got.length := by
  unfold boMut
  repeat' split
  all_goals first | rfl | exact boInc_len _ _ _
theorem boCol_got (k : Nat) (S : BoS) : (boCol k S).got = S.got := by
  unfold boCol
  split
  · exact (boCol0_le k _).2
  · exact (boCol0_le k S).2
theorem boPick_len (k r q : Nat) (S : BoS) (i : Nat) : (boPick k r q S i).got.length = S.got.length := by
  unfold boPick
  split
  · rw [boCol_got]
  · exact boMut_len _ _
theorem boPicks_len (k r q : Nat) (S : BoS) : ∀ i, (boPicks k r q S i).got.length = S.got.length
  | 0 => rfl
  | i+1 => (boPick_len k r q _ i).trans (boPicks_len k r q S i)
theorem boRuns_len (k r : Nat) : ∀ q, (boRuns k r q).got.length = k
  | 0 => boZeros_len k
  | q+1 => (boPicks_len k r q _ _).trans (boRuns_len k r q)
theorem boMut_n (S : BoS) (m : Nat) : (boMut S m).n = S.n := by
  unfold boMut
  repeat' split
  all_goals rfl
end Go.Proofs.YtjmbahdlgnobaaaDoor
