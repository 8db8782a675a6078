/- Laid together: PassRefN, PassRefA, PassRefB, PassRef, PassDo, BarCk. -/
import Derived.Test.YtbpooljohjkbjaaGreatDoorM9
import Derived.Test.YtbpooljohjkbjaaGreatDoorM3
import Derived.Test.YtbpooljohjkbjaaGreatDoorM4
import Derived.Test.YtbpooljohjkbjaaGreatDoorM10
import Derived.Test.YtbpooljohjkbjaaGreatDoorPassDoL
import Derived.Test.YtbpooljohjkbjaaGreatDoorPassDoB
/- The document's places and next cell, of layer 16. -/
namespace Go.Proofs.YtbpooljohjkbjaaGreatDoor
open Go Go.RowKit
set_option maxRecDepth 100000
attribute [local go_sem ↓] Go.wp_at_zero Go.wp_at_succ
end Go.Proofs.YtbpooljohjkbjaaGreatDoor
/- A step of the document's layer 16: lines 3, 4 and 9, and any other line. -/
namespace Go.Proofs.YtbpooljohjkbjaaGreatDoor
open Go Go.RowKit
set_option maxRecDepth 100000
attribute [local go_sem ↓] Go.wp_at_zero Go.wp_at_succ
end Go.Proofs.YtbpooljohjkbjaaGreatDoor
/- A step of the document's layer 16: lines 5 to 8. -/
namespace Go.Proofs.YtbpooljohjkbjaaGreatDoor
open Go Go.RowKit
set_option maxRecDepth 100000
attribute [local go_sem ↓] Go.wp_at_zero Go.wp_at_succ
end Go.Proofs.YtbpooljohjkbjaaGreatDoor
/- A step of the document's layer 16 as one function. -/
namespace Go.Proofs.YtbpooljohjkbjaaGreatDoor
open Go Go.RowKit
set_option maxRecDepth 100000
attribute [local go_sem ↓] Go.wp_at_zero Go.wp_at_succ
theorem nextCell_U (C : Cf) (x : Co) (hx : x.U) : (nextCell C x).U := by
  unfold nextCell
  split
  · exact hx
  · split <;> exact hx
theorem passS_U {C : Cf} {s : Dy} (h : s.U) (x : Co) (hx : x.U) : (passS C s x).1.U ∧ (passS C s x).2.1.U := by
  have h0 := u64_zero
  have h1 : U64 1 := by unfold U64; omega
  have h2 : U64 2 := by unfold U64; omega
  unfold passS
  split
  · exact ⟨h.act C 2 _ h0 h0, hx⟩
  split
  · refine ⟨h.act C 1 _ h0 h0, ?_⟩
    show Co.U (if _ then _ else _)
    split
    · exact hx
    · exact nextCell_U C x hx
  split
  · exact ⟨h.act C 1 _ h0 h0, z5_u64c (h _), hx.2⟩
  split
  · exact ⟨h.act C 3 _ h0 h1, hx⟩
  split
  · exact ⟨h.act C 1 _ h0 h0, z5_u64c (h _), hx.2⟩
  split
  · exact ⟨h.act C 3 _ h0 h1, hx⟩
  split
  · exact ⟨h.act C 2 _ h2 h0, nextCell_U C _ ⟨h0, hx.2⟩⟩
  · exact ⟨h, hx⟩
end Go.Proofs.YtbpooljohjkbjaaGreatDoor
/- A step of package pass is passS, for all lines. -/
namespace Go.Proofs.YtbpooljohjkbjaaGreatDoor
open Go Go.RowKit
set_option maxRecDepth 100000
attribute [local go_sem ↓] Go.wp_at_zero Go.wp_at_succ
theorem pass_c {w : World} {H A G : Nat} {C : Cf} {s : Dy} (hH : HAt w H A G C s) (hu : s.U) (hS : SpansAt w) (hr : Right C.a C.b C.c C.d) (hn : 0 < C.n) (x : Co) (hx : x.U) (hc : -1000000000000 ≤ x.c ∧ x.c ≤ 1000000000000) :
    Calls Tryz.prog 105 #[.pointer (some ⟨H, 0, none⟩), x.v] w (HP w H A G C (passS C s x).1 (.tuple #[(passS C s x).2.1.v, .bool (passS C s x).2.2])) := by
  obtain ⟨l, j, c, m, xa, p, fd, tl, cy⟩ := x
  obtain ⟨ha, _⟩ := hx
  dsimp only at hc ha
  obtain ⟨v, rfl, hv⟩ := u64_natc' ha
  unfold passS ldP
  dsimp only
  by_cases e3 : l = 3
  · subst e3; rw [if_pos rfl]
    exact pStep_3 hH hu hS hr hn j c m (v : Int) p fd tl cy
  rw [if_neg e3]
  by_cases e4 : l = 4
  · subst e4; rw [if_pos rfl]
    obtain ⟨u, hT, hu6⟩ := u64_natc' (z5_u64c (n := C.n) (k := 1) (i := (partP C.a C.b C.c C.d 2 c)) (hu (partP C.a C.b C.c C.d 2 c).toNat))
    simp only [hT]
    by_cases h1 : u = 1
    · simp only [show (u : Int) = 1 by omega, if_true]; exact pStep_4_grey hH hu hS hr hn j c m (v : Int) p fd tl cy u hT h1
    · simp only [if_neg (show ¬ (u : Int) = 1 by omega)]; exact pStep_4_next hH hu hS hr hn j c m (v : Int) p fd tl cy hc u hT h1
  rw [if_neg e4]
  by_cases e5 : l = 5
  · subst e5; rw [if_pos rfl]
    obtain ⟨u, hT, hu6⟩ := u64_natc' (z5_u64c (n := C.n) (k := 1) (i := (partP C.a C.b C.c C.d 0 c)) (hu (partP C.a C.b C.c C.d 0 c).toNat))
    simp only [hT, Int.toNat_natCast]
    by_cases hcl : isC u
    · simp only [if_pos hcl]; exact pStep_5_cell hH hu hS hr hn j c m (v : Int) p fd tl cy u hu6 hT hcl
    · simp only [if_neg hcl]; exact pStep_5_no hH hu hS hr hn j c m (v : Int) p fd tl cy u hu6 hT hcl
  rw [if_neg e5]
  by_cases e6 : l = 6
  · subst e6; rw [if_pos rfl]
    simp only [Int.toNat_natCast]
    exact pStep_6 hH hu hS hr hn j c m p fd tl cy v hv
  rw [if_neg e6]
  by_cases e7 : l = 7
  · subst e7; rw [if_pos rfl]
    obtain ⟨u, hT, hu6⟩ := u64_natc' (z5_u64c (n := C.n) (k := 1) (i := (partP C.a C.b C.c C.d 1 c)) (hu (partP C.a C.b C.c C.d 1 c).toNat))
    simp only [hT, Int.toNat_natCast]
    by_cases hcl : isC u
    · simp only [if_pos hcl]; exact pStep_7_cell hH hu hS hr hn j c m (v : Int) p fd tl cy u hu6 hT hcl
    · simp only [if_neg hcl]; exact pStep_7_no hH hu hS hr hn j c m (v : Int) p fd tl cy u hu6 hT hcl
  rw [if_neg e7]
  by_cases e8 : l = 8
  · subst e8; rw [if_pos rfl]
    simp only [Int.toNat_natCast]
    exact pStep_8 hH hu hS hr hn j c m p fd tl cy v hv
  rw [if_neg e8]
  by_cases e9 : l = 9
  · subst e9; rw [if_pos rfl]
    exact pStep_9 hH hu hS hr hn j c m (v : Int) p fd tl cy hc
  rw [if_neg e9]
  exact psStep_other hH hu hS hr hn l j c m (v : Int) p fd tl cy e3 e4 e5 e6 e7 e8 e9
end Go.Proofs.YtbpooljohjkbjaaGreatDoor
/- A call of the program's Step: the hand's box, how far the collector is, the answer. -/
namespace Go.Proofs.YtbpooljohjkbjaaGreatDoor
open Go Go.RowKit
set_option maxRecDepth 100000
attribute [local go_sem ↓] Go.wp_at_zero Go.wp_at_succ
structure ColK (w W : World) (K X Y H A G : Nat) (C : Cf) (s : Dy) (x : Co) : Prop where
  box : W.heap[K]? = some (.cells #[.pointer (some ⟨H, 0, none⟩)] 70 (0, 0))
  col : CoAt W X x
  res : Col9 W Y 0 0 0 0 0 0 false 0 0
  hand : HAt W H A G C s
  sav : Sav (HG H G) w W
  lK : w.heap.size ≤ K
  lX : w.heap.size ≤ X
  lY : w.heap.size ≤ Y
  kx : K ≠ X
  xy : X ≠ Y
  lH : H < w.heap.size
  lA : A < w.heap.size
  lG : G < w.heap.size
namespace ColK
variable {w W V : World} {K X Y H A G : Nat} {C : Cf} {s s' : Dy} {x : Co}
theorem cells (h : ColK w W K X Y H A G C s x) : W.cell? ⟨X, 0, none⟩ = some (.int .i64 x.l) ∧ W.cell? ⟨X, 1, none⟩ = some (.int .i64 x.j) ∧ W.cell? ⟨X, 2, none⟩ = some (.int .i64 x.c) ∧ W.cell? ⟨X, 3, none⟩ = some (.int .i64 x.m) ∧ W.cell? ⟨X, 4, none⟩ = some (.int .u64 x.a) ∧ W.cell? ⟨X, 5, none⟩ = some (.int .u64 x.p) ∧ W.cell? ⟨X, 6, none⟩ = some (.bool x.fd) ∧ W.cell? ⟨X, 7, none⟩ = some (.int .i64 x.tl) ∧ W.cell? ⟨X, 8, none⟩ = some (.int .i64 x.cy) ∧ (∀ j, W.frozen? ⟨X, j, none⟩ = false) := h.col.cells
theorem cellsY (h : ColK w W K X Y H A G C s x) : W.cell? ⟨Y, 0, none⟩ = some (.int .i64 0) ∧ W.cell? ⟨Y, 1, none⟩ = some (.int .i64 0) ∧ W.cell? ⟨Y, 2, none⟩ = some (.int .i64 0) ∧ W.cell? ⟨Y, 3, none⟩ = some (.int .i64 0) ∧ W.cell? ⟨Y, 4, none⟩ = some (.int .u64 0) ∧ W.cell? ⟨Y, 5, none⟩ = some (.int .u64 0) ∧ W.cell? ⟨Y, 6, none⟩ = some (.bool false) ∧ W.cell? ⟨Y, 7, none⟩ = some (.int .i64 0) ∧ W.cell? ⟨Y, 8, none⟩ = some (.int .i64 0) ∧ (∀ j, W.frozen? ⟨Y, j, none⟩ = false) := h.res.cells
theorem cellK (h : ColK w W K X Y H A G C s x) : W.cell? ⟨K, 0, none⟩ = some (.pointer (some ⟨H, 0, none⟩)) := by
  have := h.box; simp [World.cell?, this]
theorem lt (h : ColK w W K X Y H A G C s x) : K < W.heap.size := (Array.getElem?_eq_some_iff.1 h.box).1
theorem keep (h : ColK w W K X Y H A G C s x) (hs : Sav (HG H G) W V) (hF : HAt V H A G C s') : ColK w V K X Y H A G C s' x :=
  have a1 := h.lH; have a2 := h.lG; have b1 := h.lK; have b2 := h.lX; have b3 := h.lY
  ⟨(hs.block K h.lt (fun e => e.elim (by omega) (by omega))).trans h.box, h.col.savH hs (by omega) (by omega), h.res.savH hs (by omega) (by omega), hF, h.sav.trans hs, b1, b2, b3, h.kx, h.xy, a1, h.lA, a2⟩
theorem drew (h : ColK w W K X Y H A G C s x) : ColK w W.drew K X Y H A G C s x := h.keep (Sav.of (Below.refl _ _).drew) h.hand.drew
theorem handed (h : ColK w W K X Y H A G C s x) (hF : HAt V H A G C s') (hs : Sav (HG H G) W V) : ColK w V K X Y H A G C s' x := h.keep hs hF
theorem putX (h : ColK w W K X Y H A G C s x) {y : Co} (hs : Sav (fun j => j = X) W V) (hc : CoAt V X y) : ColK w V K X Y H A G C s y :=
  have a1 := h.lH; have a2 := h.lG; have a3 := h.lA; have b2 := h.lX
  ⟨(hs.block K h.lt h.kx).trans h.box, hc, h.res.other (hs.block Y h.res.lt (fun e => h.xy e.symm)), h.hand.other (hs.block H h.hand.lt (by show H ≠ X; omega)) (hs.block A h.hand.ar.lt (by show A ≠ X; omega)) (hs.block G h.hand.ar.row.lt (by show G ≠ X; omega)),
    ⟨hs.os.trans h.sav.os, hs.tape.trans h.sav.tape, hs.output.trans h.sav.output, Nat.le_trans h.sav.size hs.size, fun j hj hn => (hs.block j (Nat.lt_of_lt_of_le hj h.sav.size) (by show j ≠ X; omega)).trans (h.sav.block j hj hn)⟩, h.lK, h.lX, h.lY, h.kx, h.xy, h.lH, h.lA, h.lG⟩
theorem setX (h : ColK w W K X Y H A G C s x) {y : Co} {p : Addr} (hp : p.block = X) {v : Value} (hc : CoAt (W.setCell p v) X y) : ColK w (W.setCell p v) K X Y H A G C s y :=
  h.putX (Sav.set (Sav.of (Below.refl _ _)) (.inl hp) v) hc
theorem setL (h : ColK w W K X Y H A G C s x) (z : Int) : ColK w (W.setCell ⟨X, 0, none⟩ (.int .i64 z)) K X Y H A G C s { x with l := z } := h.setX (p := ⟨X, 0, none⟩) rfl (h.col.setL z)
theorem setC (h : ColK w W K X Y H A G C s x) (z : Int) : ColK w (W.setCell ⟨X, 2, none⟩ (.int .i64 z)) K X Y H A G C s { x with c := z } := h.setX (p := ⟨X, 2, none⟩) rfl (h.col.setC z)
theorem setM (h : ColK w W K X Y H A G C s x) (z : Int) : ColK w (W.setCell ⟨X, 3, none⟩ (.int .i64 z)) K X Y H A G C s { x with m := z } := h.setX (p := ⟨X, 3, none⟩) rfl (h.col.setM z)
theorem setA (h : ColK w W K X Y H A G C s x) (z : Int) : ColK w (W.setCell ⟨X, 4, none⟩ (.int .u64 z)) K X Y H A G C s { x with a := z } := h.setX (p := ⟨X, 4, none⟩) rfl (h.col.setA z)
theorem fin (h : ColK w W K X Y H A G C s x) (y : Co) : HAt (put9 W Y y.l y.j y.c y.m y.a y.p y.fd y.tl y.cy) H A G C s ∧ Sav (HG H G) w (put9 W Y y.l y.j y.c y.m y.a y.p y.fd y.tl y.cy) :=
  ⟨h.hand.put9 (C := Y) (by have := h.lH; have := h.lY; omega) (by have := h.lA; have := h.lY; omega) (by have := h.lG; have := h.lY; omega) _ _ _ _ _ _ _ _ _, h.sav.put9 (C := Y) (.inr h.lY) _ _ _ _ _ _ _ _ _⟩
theorem last (h : ColK w W K X Y H A G C s x) (y : Co) : CoAt (put9 W Y y.l y.j y.c y.m y.a y.p y.fd y.tl y.cy) Y y := h.res.put _ _ _ _ _ _ _ _ _
theorem start (hH : HAt w H A G C s) (x : Co) : ColK w (((w.alloc (.cells #[.pointer (some ⟨H, 0, none⟩)] 70)).alloc (.cells #[.int .i64 x.l, .int .i64 x.j, .int .i64 x.c, .int .i64 x.m, .int .u64 x.a, .int .u64 x.p, .bool x.fd, .int .i64 x.tl, .int .i64 x.cy] 49)).alloc (.cells #[.int .i64 0, .int .i64 0, .int .i64 0, .int .i64 0, .int .u64 0, .int .u64 0, .bool false, .int .i64 0, .int .i64 0] 49)) w.heap.size (w.heap.size + 1) (w.heap.size + 1 + 1) H A G C s x := by
  have b1 := below_new w (.cells #[.pointer (some ⟨H, 0, none⟩)] 70)
  have n1 : (w.alloc (.cells #[.pointer (some ⟨H, 0, none⟩)] 70)).heap[w.heap.size]? = some (.cells #[.pointer (some ⟨H, 0, none⟩)] 70 (0, 0)) := newBlock _ _
  have z1 : (w.alloc (.cells #[.pointer (some ⟨H, 0, none⟩)] 70)).heap.size = w.heap.size + 1 := by simp
  generalize w.alloc (.cells #[.pointer (some ⟨H, 0, none⟩)] 70) = w1 at *
  have b2 := below_new w1 (.cells #[.int .i64 x.l, .int .i64 x.j, .int .i64 x.c, .int .i64 x.m, .int .u64 x.a, .int .u64 x.p, .bool x.fd, .int .i64 x.tl, .int .i64 x.cy] 49)
  have n2 : CoAt (w1.alloc (.cells #[.int .i64 x.l, .int .i64 x.j, .int .i64 x.c, .int .i64 x.m, .int .u64 x.a, .int .u64 x.p, .bool x.fd, .int .i64 x.tl, .int .i64 x.cy] 49)) w1.heap.size x := Col9.new _ _ _ _ _ _ _ _ _ _
  have z2 : (w1.alloc (.cells #[.int .i64 x.l, .int .i64 x.j, .int .i64 x.c, .int .i64 x.m, .int .u64 x.a, .int .u64 x.p, .bool x.fd, .int .i64 x.tl, .int .i64 x.cy] 49)).heap.size = w1.heap.size + 1 := by simp
  generalize w1.alloc (.cells #[.int .i64 x.l, .int .i64 x.j, .int .i64 x.c, .int .i64 x.m, .int .u64 x.a, .int .u64 x.p, .bool x.fd, .int .i64 x.tl, .int .i64 x.cy] 49) = w2 at *
  have b3 := below_new w2 (.cells #[.int .i64 0, .int .i64 0, .int .i64 0, .int .i64 0, .int .u64 0, .int .u64 0, .bool false, .int .i64 0, .int .i64 0] 49)
  have n3 : Col9 (w2.alloc (.cells #[.int .i64 0, .int .i64 0, .int .i64 0, .int .i64 0, .int .u64 0, .int .u64 0, .bool false, .int .i64 0, .int .i64 0] 49)) w2.heap.size 0 0 0 0 0 0 false 0 0 := Col9.new _ _ _ _ _ _ _ _ _ _
  generalize w2.alloc (.cells #[.int .i64 0, .int .i64 0, .int .i64 0, .int .i64 0, .int .u64 0, .int .u64 0, .bool false, .int .i64 0, .int .i64 0] 49) = w3 at *
  rw [z2] at n3; rw [z1] at n2 n3
  have hb := belowOn b1 (belowOn b2 b3)
  exact ⟨((belowOn b2 b3).block _ (by omega)).trans n1, n2.below b3, n3, hH.below hb, Sav.of hb, Nat.le_refl _, by omega, by omega, by omega, by omega, hH.lt, hH.ar.lt, hH.ar.row.lt⟩
end ColK
end Go.Proofs.YtbpooljohjkbjaaGreatDoor
