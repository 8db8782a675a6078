/- BarKeeps: what lies where. -/
import Derived.Test.YtjmbahdlgnobaaaDoorGateKeepsP
import Derived.Test.YtjmbahdlgnobaaaDoorMuRow
import Derived.Test.YtjmbahdlgnobaaaDoorColMem
import Derived.Test.YtjmbahdlgnobaaaDoorGateCalls
import Derived.Test.YtjmbahdlgnobaaaDoorM2
namespace Go.Proofs.YtjmbahdlgnobaaaDoor
open Go Go.RowKit
set_option maxRecDepth 100000
attribute [local go_sem ↓] Go.wp_at_zero Go.wp_at_succ

theorem Inside_c (l p bk q1 q2 q3 q4 m1 m2 m3 m4 m5 rt : Int) (w : World) :
    Calls Tryd.prog 17 #[(mutV l p bk q1 q2 q3 q4 m1 m2 m3 m4 m5 rt)] w fun e w' => e = .returned (.bool (insB l)) ∧ Below w.heap.size w w' := by
  unfold insB
  by_cases h : l = 3
  · subst h
    go_enter Tryd.func17, Tryd.ntmps17
    go_wp2_with fail
    go_ret
    exact ⟨rfl, below_new _ _⟩
  · have h0 : (l == 3) = false := by simpa using h
    by_cases h5 : 5 < l
    · have e : ((l == 3) || decide (5 < l)) = true := by simp [h5]
      rw [e]
      go_enter Tryd.func17, Tryd.ntmps17
      go_wp2_with fail
      go_ret
      exact ⟨rfl, below_new _ _⟩
    · have e : ((l == 3) || decide (5 < l)) = false := by simp [h0, h5]
      rw [e]
      go_enter Tryd.func17, Tryd.ntmps17
      go_wp2_with fail
      go_ret
      exact ⟨rfl, below_new _ _⟩
/-- A row of numbers in a block. -/
def IRow (w : World) (B n : Nat) (g : Nat → Int) : Prop := w.rowIs B 3 n (fun p => .int .i64 (g p))
namespace IRow
variable {w w' : World} {B n : Nat} {g : Nat → Int}
theorem cell (h : IRow w B n g) {i : Nat} (hi : i < n) : w.cell? ⟨B, i, none⟩ = some (.int .i64 (g i)) := World.rowIs.cell h hi
theorem frozen (h : IRow w B n g) (i : Nat) : w.frozen? ⟨B, i, none⟩ = false := World.rowIs.frozen h i
theorem lt (h : IRow w B n g) : B < w.heap.size := World.rowIs.lt h
theorem other (h : IRow w B n g) (e : w'.heap[B]? = w.heap[B]?) : IRow w' B n g := World.rowIs.of_block h e
theorem set (h : IRow w B n g) (i : Nat) (z : Int) : IRow (w.setCell ⟨B, i, none⟩ (.int .i64 z)) B n (upd g i z) :=
  World.rowIs.congr (World.rowIs.set h i (.int .i64 z)) (fun p _ => by unfold upd; split <;> rfl)
theorem made (w : World) (n : Nat) : IRow (w.alloc (.cells (madeCells #[.int .i64 0] n) 3)) w.heap.size n (fun _ => 0) := World.rowIs_made w (.int .i64 0) n 3
end IRow
theorem upd_zero (i : Nat) : upd (fun _ => (0 : Int)) i 0 = fun _ => 0 := by funext j; unfold upd; split <;> rfl
theorem infoInt7 : (Tryd.prog.info? 3).map (fun i => (i.zero, i.size, i.bytes)) = some (some (.int .i64 0), 1, 8) := by kernel_rfl
theorem make_ints7 (n : Nat) (hn : n ≤ 1000) (w : World) : (Instr.makeSlice 45 (.int .i64 (n : Int)) (.int .i64 (n : Int))).run Tryd.prog w = .ok (.slice (some ⟨w.heap.size, 0, none⟩) n n) (w.alloc (.cells (madeCells #[.int .i64 0] n) 3)) :=
  run_make_row' 45 3 (.int .i64 0) 8 Tryd.underlying45 infoInt7 rfl .i64 .i64 n (by omega) (by omega) w
/-- The blocks of the law's own. -/
structure BkB where
  H : Nat
  A : Nat
  G : Nat
  R : Nat
  S : Nat
  B : Nat
  T : Nat
/-- Is it one of these? -/
def BkB.is (b : BkB) (j : Nat) : Prop := j = b.H ∨ j = b.A ∨ j = b.G ∨ j = b.R ∨ j = b.S ∨ j = b.B ∨ j = b.T
structure BkB.ok (b : BkB) (z : Nat) : Prop where
  lH : z ≤ b.H
  lG : z ≤ b.G
  lR : z ≤ b.R
  lS : z ≤ b.S
  lB : z ≤ b.B
  lT : z ≤ b.T
  dR : b.R ≠ b.H ∧ b.R ≠ b.A ∧ b.R ≠ b.G ∧ b.R ≠ b.S ∧ b.R ≠ b.B ∧ b.R ≠ b.T
  dS : b.S ≠ b.H ∧ b.S ≠ b.A ∧ b.S ≠ b.G ∧ b.S ≠ b.B ∧ b.S ≠ b.T
  dB : b.B ≠ b.H ∧ b.B ≠ b.A ∧ b.B ≠ b.G ∧ b.B ≠ b.T
  dT : b.T ≠ b.H ∧ b.T ≠ b.A ∧ b.T ≠ b.G
/-- Behind any picks: the hand, the row of mutators, how long each rests, the collector, how often each waited. -/
structure BkW (w W : World) (b : BkB) (k : Nat) (ln kd rs : Nat → Int) (s : Dy) (x : Co) : Prop where
  old : Below w.heap.size w W
  ok : b.ok w.heap.size
  hand : HAt W b.H b.A b.G (CK k) s
  row : MusAt W b.R k (fun i => mS (ln i) (kd i))
  rest : IRow W b.S k rs
  col : CoAt W b.B x
  waits : IRow W b.T k (fun _ => 0)
namespace BkW
variable {w W V : World} {b : BkB} {k : Nat} {ln kd rs : Nat → Int} {s s' : Dy} {x : Co}
theorem lt (h : BkW w W b k ln kd rs s x) {j : Nat} (hj : b.is j) : j < W.heap.size := by
  rcases hj with rfl | rfl | rfl | rfl | rfl | rfl | rfl
  · exact h.hand.lt
  · exact h.hand.ar.lt
  · exact h.hand.ar.row.lt
  · exact h.row.lt
  · exact h.rest.lt
  · exact h.col.lt
  · exact h.waits.lt
/-- All of these lie as they lay. -/
theorem keep (h : BkW w W b k ln kd rs s x) (ho : Below w.heap.size w V) (e : ∀ j, b.is j → V.heap[j]? = W.heap[j]?) : BkW w V b k ln kd rs s x :=
  ⟨ho, h.ok, h.hand.other (e _ (.inl rfl)) (e _ (.inr (.inl rfl))) (e _ (.inr (.inr (.inl rfl)))), h.row.other (e _ (.inr (.inr (.inr (.inl rfl))))), h.rest.other (e _ (.inr (.inr (.inr (.inr (.inl rfl)))))), h.col.other (e _ (.inr (.inr (.inr (.inr (.inr (.inl rfl))))))), h.waits.other (e _ (.inr (.inr (.inr (.inr (.inr (.inr rfl))))))) ⟩
theorem below (h : BkW w W b k ln kd rs s x) (hb : Below W.heap.size W V) : BkW w V b k ln kd rs s x := h.keep (belowOn h.old hb) (fun j hj => hb.block j (h.lt hj))
theorem drew (h : BkW w W b k ln kd rs s x) : BkW w W.drew b k ln kd rs s x := h.keep h.old.drew (fun _ _ => rfl)
/-- A cell of a block of none of these is laid. -/
theorem setOther (h : BkW w W b k ln kd rs s x) {p : Addr} (hp : ¬ b.is p.block) (lo : w.heap.size ≤ p.block) (v : Value) : BkW w (W.setCell p v) b k ln kd rs s x :=
  h.keep (h.old.setCell (p := p) lo v) (fun _ hj => Below.heap_setCell _ _ _ _ (fun e => hp (e ▸ hj)))
theorem other (h : BkW w W b k ln kd rs s x) (S : Nat → Prop) (hs : Sav S W V) (h1 : ∀ j, b.is j → ¬ S j) (h2 : ∀ j, S j → w.heap.size ≤ j) : BkW w V b k ln kd rs s x :=
  h.keep (h.old.trans (hs.below h.old.size (fun j hj e => by have := h2 j e; omega))) (fun j hj => hs.block j (h.lt hj) (h1 j hj))
theorem act (h : BkW w W b k ln kd rs s x) {v : Value} {e : Ending} (hp : HP W b.H b.A b.G (CK k) s' v e V) : e = .returned v ∧ BkW w V b k ln kd rs s' x := by
  have o := h.ok
  have hne : ∀ j, j ≠ b.H → j ≠ b.G → j < W.heap.size → V.heap[j]? = W.heap[j]? := fun j h1 h2 h3 => hp.2.2.block j h3 (fun e => e.elim h1 h2)
  exact ⟨hp.1, hp.2.2.old h.old o.lH o.lG, o, hp.2.1, h.row.other (hne _ o.dR.1 o.dR.2.2.1 h.row.lt), h.rest.other (hne _ o.dS.1 o.dS.2.2.1 h.rest.lt), h.col.other (hne _ o.dB.1 o.dB.2.2.1 h.col.lt), h.waits.other (hne _ o.dT.1 o.dT.2.2 h.waits.lt)⟩
/-- The collector is another one. -/
theorem putX (h : BkW w W b k ln kd rs s x) (y : Co) : BkW w (put9 W b.B y.l y.j y.c y.m y.a y.p y.fd y.tl y.cy) b k ln kd rs s y := by
  have o := h.ok
  have e : ∀ j, j ≠ b.B → (put9 W b.B y.l y.j y.c y.m y.a y.p y.fd y.tl y.cy).heap[j]? = W.heap[j]? := fun j hj => heap_put9 _ _ _ _ _ _ _ _ _ _ _ hj
  exact ⟨((Sav.of (S := fun _ => False) h.old).put9 (.inr o.lB) _ _ _ _ _ _ _ _ _).below (Nat.le_refl _) (fun _ _ e => e), o, h.hand.other (e _ o.dB.1.symm) (e _ o.dB.2.1.symm) (e _ o.dB.2.2.1.symm), h.row.other (e _ o.dR.2.2.2.2.1), h.rest.other (e _ o.dS.2.2.2.1), h.col.put _ _ _ _ _ _ _ _ _, h.waits.other (e _ o.dB.2.2.2.symm)⟩
theorem setX (h : BkW w W b k ln kd rs s x) (y : Co) {p : Addr} (hp : p.block = b.B) (v : Value) (hc : CoAt (W.setCell p v) b.B y) : BkW w (W.setCell p v) b k ln kd rs s y := by
  have o := h.ok
  have e : ∀ j, j ≠ b.B → (W.setCell p v).heap[j]? = W.heap[j]? := fun j hj => Below.heap_setCell _ _ _ _ (by rw [hp]; exact hj)
  exact ⟨h.old.setCell (p := p) (by rw [hp]; exact o.lB) v, o, h.hand.other (e _ o.dB.1.symm) (e _ o.dB.2.1.symm) (e _ o.dB.2.2.1.symm), h.row.other (e _ o.dR.2.2.2.2.1), h.rest.other (e _ o.dS.2.2.2.1), hc, h.waits.other (e _ o.dB.2.2.2.symm)⟩
/-- The collector begins anew. -/
theorem anew (h : BkW w W b k ln kd rs s x) : BkW w ((W.setCell ⟨b.B, 0, none⟩ (.int .i64 10)).setCell ⟨b.B, 3, none⟩ (.int .i64 0)) b k ln kd rs s { x with l := 10, m := 0 } :=
  (h.setX { x with l := 10 } (p := ⟨b.B, 0, none⟩) rfl _ (h.col.setL 10)).setX { x with l := 10, m := 0 } (p := ⟨b.B, 3, none⟩) rfl _ ((h.col.setL 10).setM 0)
/-- One rests. -/
theorem setRest (h : BkW w W b k ln kd rs s x) (i : Nat) (z : Int) : BkW w (W.setCell ⟨b.S, i, none⟩ (.int .i64 z)) b k ln kd (upd rs i z) s x := by
  have o := h.ok
  have e : ∀ j, j ≠ b.S → (W.setCell ⟨b.S, i, none⟩ (.int .i64 z)).heap[j]? = W.heap[j]? := fun j hj => Below.heap_setCell _ _ _ _ hj
  exact ⟨h.old.setCell (p := ⟨b.S, i, none⟩) o.lS _, o, h.hand.other (e _ o.dS.1.symm) (e _ o.dS.2.1.symm) (e _ o.dS.2.2.1.symm), h.row.other (e _ o.dR.2.2.2.1), h.rest.set i z, h.col.other (e _ o.dS.2.2.2.1.symm), h.waits.other (e _ o.dS.2.2.2.2.symm)⟩
/-- One waits no more. -/
theorem setWait (h : BkW w W b k ln kd rs s x) (i : Nat) : BkW w (W.setCell ⟨b.T, i, none⟩ (.int .i64 0)) b k ln kd rs s x := by
  have o := h.ok
  have e : ∀ j, j ≠ b.T → (W.setCell ⟨b.T, i, none⟩ (.int .i64 0)).heap[j]? = W.heap[j]? := fun j hj => Below.heap_setCell _ _ _ _ hj
  exact ⟨h.old.setCell (p := ⟨b.T, i, none⟩) o.lT _, o, h.hand.other (e _ o.dT.1.symm) (e _ o.dT.2.1.symm) (e _ o.dT.2.2.symm), h.row.other (e _ o.dR.2.2.2.2.2), h.rest.other (e _ o.dS.2.2.2.2), h.col.other (e _ o.dB.2.2.2), by have := h.waits.set i 0; rw [upd_zero] at this; exact this⟩
/-- A mutator is another one. -/
theorem putM (h : BkW w W b k ln kd rs s x) (m : Nat) (l q : Int) : BkW w (putM W b.R (m * 13) (mS l q)) b k (upd ln m l) (upd kd m q) rs s x := by
  have o := h.ok
  have e : ∀ j, j ≠ b.R → (Proofs.YtjmbahdlgnobaaaDoor.putM W b.R (m * 13) (mS l q)).heap[j]? = W.heap[j]? := fun j hj => heap_putM _ _ _ _ hj
  refine ⟨(Sav.putM (S := fun j => j = b.R) (Sav.of h.old) (.inl rfl) _ _).below (Nat.le_refl _) (fun j hj e => by have := o.lR; omega), o, h.hand.other (e _ o.dR.1.symm) (e _ o.dR.2.1.symm) (e _ o.dR.2.2.1.symm), (h.row.put m (mS l q)).congr (fun i _ => ?_), h.rest.other (e _ o.dR.2.2.2.1.symm), h.col.other (e _ o.dR.2.2.2.2.1.symm), h.waits.other (e _ o.dR.2.2.2.2.2.symm)⟩
  unfold updM upd
  by_cases e : i = m
  · rw [if_pos e, if_pos e, if_pos e]
  · rw [if_neg e, if_neg e, if_neg e]
theorem cells9 (h : BkW w W b k ln kd rs s x) : W.cell? ⟨b.B, 0, none⟩ = some (.int .i64 x.l) ∧ W.cell? ⟨b.B, 1, none⟩ = some (.int .i64 x.j) ∧ W.cell? ⟨b.B, 2, none⟩ = some (.int .i64 x.c) ∧ W.cell? ⟨b.B, 3, none⟩ = some (.int .i64 x.m) ∧ W.cell? ⟨b.B, 4, none⟩ = some (.int .u64 x.a) ∧ W.cell? ⟨b.B, 5, none⟩ = some (.int .u64 x.p) ∧ W.cell? ⟨b.B, 6, none⟩ = some (.bool x.fd) ∧ W.cell? ⟨b.B, 7, none⟩ = some (.int .i64 x.tl) ∧ W.cell? ⟨b.B, 8, none⟩ = some (.int .i64 x.cy) ∧ (∀ j, W.frozen? ⟨b.B, j, none⟩ = false) := h.col.cells
end BkW
/-- A block that is none of these, beyond all that lay there. -/
theorem BkW.apart {w W : World} {b : BkB} {k : Nat} {ln kd rs : Nat → Int} {s : Dy} {x : Co} (h : BkW w W b k ln kd rs s x) {j : Nat} (hj : W.heap.size ≤ j) : ¬ b.is j ∧ w.heap.size ≤ j := ⟨fun e => by have := h.lt e; omega, by have := h.old.size; omega⟩
/-- As it is at first. -/
theorem BkW.first {w W : World} {H A G k : Nat} {f : Nat → Int} (hb : Below w.heap.size w W) (h1 : w.heap.size ≤ H) (h2 : w.heap.size ≤ G) (hH : HAt W H A G (CK k) ⟨f, 0, 0, 0, 0, 0⟩) (x : Co) :
    BkW w ((((W.alloc (.cells (madeCells zM (k * 13)) 49)).alloc (.cells (madeCells #[.int .i64 0] k) 3)).alloc (.cells #[.int .i64 x.l, .int .i64 x.j, .int .i64 x.c, .int .i64 x.m, .int .u64 x.a, .int .u64 x.p, .bool x.fd, .int .i64 x.tl, .int .i64 x.cy] 28)).alloc (.cells (madeCells #[.int .i64 0] k) 3)) ⟨H, A, G, W.heap.size, W.heap.size + 1, W.heap.size + 2, W.heap.size + 3⟩ k (fun _ => 0) (fun _ => 0) (fun _ => 0) ⟨f, 0, 0, 0, 0, 0⟩ x := by
  have i1 := hH.lt; have i2 := hH.ar.lt; have i3 := hH.ar.row.lt; have i4 := hb.size
  have b1 := below_new W (.cells (madeCells zM (k * 13)) 49)
  have m1 := mus_made W k
  generalize hW1 : W.alloc (.cells (madeCells zM (k * 13)) 49) = W1 at *
  have s1 : W1.heap.size = W.heap.size + 1 := by rw [← hW1]; simp
  have b2 := below_new W1 (.cells (madeCells #[.int .i64 0] k) 3)
  have m2 := IRow.made W1 k
  generalize hW2 : W1.alloc (.cells (madeCells #[.int .i64 0] k) 3) = W2 at *
  have s2 : W2.heap.size = W.heap.size + 2 := by rw [← hW2]; simp [s1]
  have b3 := below_new W2 (.cells #[.int .i64 x.l, .int .i64 x.j, .int .i64 x.c, .int .i64 x.m, .int .u64 x.a, .int .u64 x.p, .bool x.fd, .int .i64 x.tl, .int .i64 x.cy] 28)
  have m3 : CoAt (W2.alloc (.cells #[.int .i64 x.l, .int .i64 x.j, .int .i64 x.c, .int .i64 x.m, .int .u64 x.a, .int .u64 x.p, .bool x.fd, .int .i64 x.tl, .int .i64 x.cy] 28)) W2.heap.size x := Col9.new _ _ _ _ _ _ _ _ _ _
  generalize hW3 : W2.alloc (.cells #[.int .i64 x.l, .int .i64 x.j, .int .i64 x.c, .int .i64 x.m, .int .u64 x.a, .int .u64 x.p, .bool x.fd, .int .i64 x.tl, .int .i64 x.cy] 28) = W3 at *
  have s3 : W3.heap.size = W.heap.size + 3 := by rw [← hW3]; simp [s2]
  have b4 := below_new W3 (.cells (madeCells #[.int .i64 0] k) 3)
  have m4 := IRow.made W3 k
  generalize hW4 : W3.alloc (.cells (madeCells #[.int .i64 0] k) 3) = W4 at *
  clear hW1 hW2 hW3 hW4
  rw [s1] at m2; rw [s2] at m3; rw [s3] at m4
  have c24 : Below W2.heap.size W2 W4 := belowOn b3 b4
  have c14 : Below W1.heap.size W1 W4 := belowOn b2 c24
  have c04 : Below W.heap.size W W4 := belowOn b1 c14
  refine ⟨belowOn hb c04, ⟨h1, h2, i4, by show _ ≤ _ + 1; omega, by show _ ≤ _ + 2; omega, by show _ ≤ _ + 3; omega, ?_, ?_, ?_, ?_⟩, hH.below c04, m1.other (c14.block _ (by rw [s1]; show W.heap.size < _; omega)), m2.other (c24.block _ (by rw [s2]; show W.heap.size + 1 < _; omega)), m3.below b4, m4⟩
  · show W.heap.size ≠ H ∧ W.heap.size ≠ A ∧ W.heap.size ≠ G ∧ W.heap.size ≠ W.heap.size + 1 ∧ W.heap.size ≠ W.heap.size + 2 ∧ W.heap.size ≠ W.heap.size + 3; omega
  · show W.heap.size + 1 ≠ H ∧ W.heap.size + 1 ≠ A ∧ W.heap.size + 1 ≠ G ∧ W.heap.size + 1 ≠ W.heap.size + 2 ∧ W.heap.size + 1 ≠ W.heap.size + 3; omega
  · show W.heap.size + 2 ≠ H ∧ W.heap.size + 2 ≠ A ∧ W.heap.size + 2 ≠ G ∧ W.heap.size + 2 ≠ W.heap.size + 3; omega
  · show W.heap.size + 3 ≠ H ∧ W.heap.size + 3 ≠ A ∧ W.heap.size + 3 ≠ G; omega
end Go.Proofs.YtjmbahdlgnobaaaDoor
