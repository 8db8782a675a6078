/- How far the collector is in a call's own box, beside a hand and the document's; what IsCell tells of any word. -/
import Derived.Test.YthdcapkchjamoaaDoorColMem
namespace Go.Proofs.YthdcapkchjamoaaDoor
open Go Go.RowKit
set_option maxRecDepth 100000
attribute [local go_sem ↓] Go.wp_at_zero Go.wp_at_succ

/-- A call that has how far the collector is in a box (the first block of its own), its answer in the next one, beside a hand. -/
structure ColF (w W : World) (H A G : Nat) (C : Cf) (s : Dy) (x : Co) : Prop where
  col : CoAt W w.heap.size x
  res : Col9 W (w.heap.size + 1) 0 0 0 0 0 0 false 0 0
  hand : HAt W H A G C s
  sav : Sav (HG H G) w W
  lH : H < w.heap.size
  lA : A < w.heap.size
  lG : G < w.heap.size
namespace ColF
variable {w W V : World} {H A G : Nat} {C : Cf} {s s' : Dy} {x : Co}
theorem cells (h : ColF w W H A G C s x) : W.cell? ⟨w.heap.size, 0, none⟩ = some (.int .i64 x.l) ∧ W.cell? ⟨w.heap.size, 1, none⟩ = some (.int .i64 x.j) ∧ W.cell? ⟨w.heap.size, 2, none⟩ = some (.int .i64 x.c) ∧ W.cell? ⟨w.heap.size, 3, none⟩ = some (.int .i64 x.m) ∧ W.cell? ⟨w.heap.size, 4, none⟩ = some (.int .u64 x.a) ∧ W.cell? ⟨w.heap.size, 5, none⟩ = some (.int .u64 x.p) ∧ W.cell? ⟨w.heap.size, 6, none⟩ = some (.bool x.fd) ∧ W.cell? ⟨w.heap.size, 7, none⟩ = some (.int .i64 x.tl) ∧ W.cell? ⟨w.heap.size, 8, none⟩ = some (.int .i64 x.cy) ∧ (∀ j, W.frozen? ⟨w.heap.size, j, none⟩ = false) := h.col.cells
theorem cellsY (h : ColF w W H A G C s x) : W.cell? ⟨w.heap.size + 1, 0, none⟩ = some (.int .i64 0) ∧ W.cell? ⟨w.heap.size + 1, 1, none⟩ = some (.int .i64 0) ∧ W.cell? ⟨w.heap.size + 1, 2, none⟩ = some (.int .i64 0) ∧ W.cell? ⟨w.heap.size + 1, 3, none⟩ = some (.int .i64 0) ∧ W.cell? ⟨w.heap.size + 1, 4, none⟩ = some (.int .u64 0) ∧ W.cell? ⟨w.heap.size + 1, 5, none⟩ = some (.int .u64 0) ∧ W.cell? ⟨w.heap.size + 1, 6, none⟩ = some (.bool false) ∧ W.cell? ⟨w.heap.size + 1, 7, none⟩ = some (.int .i64 0) ∧ W.cell? ⟨w.heap.size + 1, 8, none⟩ = some (.int .i64 0) ∧ (∀ j, W.frozen? ⟨w.heap.size + 1, j, none⟩ = false) := h.res.cells
theorem size (h : ColF w W H A G C s x) : w.heap.size + 1 < W.heap.size := h.res.lt
theorem below (h : ColF w W H A G C s x) (hb : Below W.heap.size W V) : ColF w V H A G C s x := ⟨h.col.below hb, h.res.below hb, h.hand.below hb, h.sav.trans (Sav.of hb), h.lH, h.lA, h.lG⟩
theorem drew (h : ColF w W H A G C s x) : ColF w W.drew H A G C s x := ⟨h.col.other rfl, h.res.other rfl, h.hand.drew, h.sav.trans (Sav.of (Below.refl _ _).drew), h.lH, h.lA, h.lG⟩
theorem handed (h : ColF w W H A G C s x) (hF : HAt V H A G C s') (hs : Sav (HG H G) W V) : ColF w V H A G C s' x :=
  ⟨h.col.savH hs (by have := h.lH; omega) (by have := h.lG; omega), h.res.savH hs (by have := h.lH; omega) (by have := h.lG; omega), hF, h.sav.trans hs, h.lH, h.lA, h.lG⟩
theorem setL (h : ColF w W H A G C s x) (z : Int) : ColF w (W.setCell ⟨w.heap.size, 0, none⟩ (.int .i64 z)) H A G C s { x with l := z } :=
  ⟨h.col.setL z, h.res.setOther (q := ⟨w.heap.size, 0, none⟩) (by show w.heap.size ≠ w.heap.size + 1; omega) _, h.hand.setOther (p := ⟨w.heap.size, 0, none⟩) (by have := h.lH; show w.heap.size ≠ H; omega) (by have := h.lA; show w.heap.size ≠ A; omega) (by have := h.lG; show w.heap.size ≠ G; omega) _, h.sav.set (p := ⟨w.heap.size, 0, none⟩) (.inr (Nat.le_refl _)) _, h.lH, h.lA, h.lG⟩
theorem setJ (h : ColF w W H A G C s x) (z : Int) : ColF w (W.setCell ⟨w.heap.size, 1, none⟩ (.int .i64 z)) H A G C s { x with j := z } :=
  ⟨h.col.setJ z, h.res.setOther (q := ⟨w.heap.size, 1, none⟩) (by show w.heap.size ≠ w.heap.size + 1; omega) _, h.hand.setOther (p := ⟨w.heap.size, 1, none⟩) (by have := h.lH; show w.heap.size ≠ H; omega) (by have := h.lA; show w.heap.size ≠ A; omega) (by have := h.lG; show w.heap.size ≠ G; omega) _, h.sav.set (p := ⟨w.heap.size, 1, none⟩) (.inr (Nat.le_refl _)) _, h.lH, h.lA, h.lG⟩
theorem setC (h : ColF w W H A G C s x) (z : Int) : ColF w (W.setCell ⟨w.heap.size, 2, none⟩ (.int .i64 z)) H A G C s { x with c := z } :=
  ⟨h.col.setC z, h.res.setOther (q := ⟨w.heap.size, 2, none⟩) (by show w.heap.size ≠ w.heap.size + 1; omega) _, h.hand.setOther (p := ⟨w.heap.size, 2, none⟩) (by have := h.lH; show w.heap.size ≠ H; omega) (by have := h.lA; show w.heap.size ≠ A; omega) (by have := h.lG; show w.heap.size ≠ G; omega) _, h.sav.set (p := ⟨w.heap.size, 2, none⟩) (.inr (Nat.le_refl _)) _, h.lH, h.lA, h.lG⟩
theorem setM (h : ColF w W H A G C s x) (z : Int) : ColF w (W.setCell ⟨w.heap.size, 3, none⟩ (.int .i64 z)) H A G C s { x with m := z } :=
  ⟨h.col.setM z, h.res.setOther (q := ⟨w.heap.size, 3, none⟩) (by show w.heap.size ≠ w.heap.size + 1; omega) _, h.hand.setOther (p := ⟨w.heap.size, 3, none⟩) (by have := h.lH; show w.heap.size ≠ H; omega) (by have := h.lA; show w.heap.size ≠ A; omega) (by have := h.lG; show w.heap.size ≠ G; omega) _, h.sav.set (p := ⟨w.heap.size, 3, none⟩) (.inr (Nat.le_refl _)) _, h.lH, h.lA, h.lG⟩
theorem setA (h : ColF w W H A G C s x) (z : Int) : ColF w (W.setCell ⟨w.heap.size, 4, none⟩ (.int .u64 z)) H A G C s { x with a := z } :=
  ⟨h.col.setA z, h.res.setOther (q := ⟨w.heap.size, 4, none⟩) (by show w.heap.size ≠ w.heap.size + 1; omega) _, h.hand.setOther (p := ⟨w.heap.size, 4, none⟩) (by have := h.lH; show w.heap.size ≠ H; omega) (by have := h.lA; show w.heap.size ≠ A; omega) (by have := h.lG; show w.heap.size ≠ G; omega) _, h.sav.set (p := ⟨w.heap.size, 4, none⟩) (.inr (Nat.le_refl _)) _, h.lH, h.lA, h.lG⟩
theorem setP (h : ColF w W H A G C s x) (z : Int) : ColF w (W.setCell ⟨w.heap.size, 5, none⟩ (.int .u64 z)) H A G C s { x with p := z } :=
  ⟨h.col.setP z, h.res.setOther (q := ⟨w.heap.size, 5, none⟩) (by show w.heap.size ≠ w.heap.size + 1; omega) _, h.hand.setOther (p := ⟨w.heap.size, 5, none⟩) (by have := h.lH; show w.heap.size ≠ H; omega) (by have := h.lA; show w.heap.size ≠ A; omega) (by have := h.lG; show w.heap.size ≠ G; omega) _, h.sav.set (p := ⟨w.heap.size, 5, none⟩) (.inr (Nat.le_refl _)) _, h.lH, h.lA, h.lG⟩
theorem setFD (h : ColF w W H A G C s x) (z : Bool) : ColF w (W.setCell ⟨w.heap.size, 6, none⟩ (.bool z)) H A G C s { x with fd := z } :=
  ⟨h.col.setFD z, h.res.setOther (q := ⟨w.heap.size, 6, none⟩) (by show w.heap.size ≠ w.heap.size + 1; omega) _, h.hand.setOther (p := ⟨w.heap.size, 6, none⟩) (by have := h.lH; show w.heap.size ≠ H; omega) (by have := h.lA; show w.heap.size ≠ A; omega) (by have := h.lG; show w.heap.size ≠ G; omega) _, h.sav.set (p := ⟨w.heap.size, 6, none⟩) (.inr (Nat.le_refl _)) _, h.lH, h.lA, h.lG⟩
theorem setTL (h : ColF w W H A G C s x) (z : Int) : ColF w (W.setCell ⟨w.heap.size, 7, none⟩ (.int .i64 z)) H A G C s { x with tl := z } :=
  ⟨h.col.setTL z, h.res.setOther (q := ⟨w.heap.size, 7, none⟩) (by show w.heap.size ≠ w.heap.size + 1; omega) _, h.hand.setOther (p := ⟨w.heap.size, 7, none⟩) (by have := h.lH; show w.heap.size ≠ H; omega) (by have := h.lA; show w.heap.size ≠ A; omega) (by have := h.lG; show w.heap.size ≠ G; omega) _, h.sav.set (p := ⟨w.heap.size, 7, none⟩) (.inr (Nat.le_refl _)) _, h.lH, h.lA, h.lG⟩
theorem setCY (h : ColF w W H A G C s x) (z : Int) : ColF w (W.setCell ⟨w.heap.size, 8, none⟩ (.int .i64 z)) H A G C s { x with cy := z } :=
  ⟨h.col.setCY z, h.res.setOther (q := ⟨w.heap.size, 8, none⟩) (by show w.heap.size ≠ w.heap.size + 1; omega) _, h.hand.setOther (p := ⟨w.heap.size, 8, none⟩) (by have := h.lH; show w.heap.size ≠ H; omega) (by have := h.lA; show w.heap.size ≠ A; omega) (by have := h.lG; show w.heap.size ≠ G; omega) _, h.sav.set (p := ⟨w.heap.size, 8, none⟩) (.inr (Nat.le_refl _)) _, h.lH, h.lA, h.lG⟩
theorem put (h : ColF w W H A G C s x) (y : Co) : ColF w (put9 W w.heap.size y.l y.j y.c y.m y.a y.p y.fd y.tl y.cy) H A G C s y :=
  ⟨h.col.put _ _ _ _ _ _ _ _ _, h.res.other (heap_put9 _ _ _ _ _ _ _ _ _ _ _ (by omega)), h.hand.put9 (C := w.heap.size) (by have := h.lH; omega) (by have := h.lA; omega) (by have := h.lG; omega) _ _ _ _ _ _ _ _ _, h.sav.put9 (C := w.heap.size) (.inr (Nat.le_refl _)) _ _ _ _ _ _ _ _ _, h.lH, h.lA, h.lG⟩
/-- The answer is laid down. -/
theorem fin (h : ColF w W H A G C s x) (y : Co) : HAt (put9 W (w.heap.size + 1) y.l y.j y.c y.m y.a y.p y.fd y.tl y.cy) H A G C s ∧ Sav (HG H G) w (put9 W (w.heap.size + 1) y.l y.j y.c y.m y.a y.p y.fd y.tl y.cy) :=
  ⟨h.hand.put9 (C := w.heap.size + 1) (by have := h.lH; omega) (by have := h.lA; omega) (by have := h.lG; omega) _ _ _ _ _ _ _ _ _, h.sav.put9 (C := w.heap.size + 1) (.inr (by omega)) _ _ _ _ _ _ _ _ _⟩
theorem last (h : ColF w W H A G C s x) (y : Co) : CoAt (put9 W (w.heap.size + 1) y.l y.j y.c y.m y.a y.p y.fd y.tl y.cy) (w.heap.size + 1) y := h.res.put _ _ _ _ _ _ _ _ _
theorem start (hH : HAt w H A G C s) (x : Co) : ColF w ((w.alloc (.cells #[.int .i64 x.l, .int .i64 x.j, .int .i64 x.c, .int .i64 x.m, .int .u64 x.a, .int .u64 x.p, .bool x.fd, .int .i64 x.tl, .int .i64 x.cy] 37)).alloc (.cells #[.int .i64 0, .int .i64 0, .int .i64 0, .int .i64 0, .int .u64 0, .int .u64 0, .bool false, .int .i64 0, .int .i64 0] 37)) H A G C s x :=
  have hb := below_on (below_new w (.cells #[.int .i64 x.l, .int .i64 x.j, .int .i64 x.c, .int .i64 x.m, .int .u64 x.a, .int .u64 x.p, .bool x.fd, .int .i64 x.tl, .int .i64 x.cy] 37)) (.cells #[.int .i64 0, .int .i64 0, .int .i64 0, .int .i64 0, .int .u64 0, .int .u64 0, .bool false, .int .i64 0, .int .i64 0] 37)
  ⟨(Col9.new w x.l x.j x.c x.m x.a x.p x.fd x.tl x.cy).below (below_new _ _), by have := Col9.new (w.alloc (.cells #[.int .i64 x.l, .int .i64 x.j, .int .i64 x.c, .int .i64 x.m, .int .u64 x.a, .int .u64 x.p, .bool x.fd, .int .i64 x.tl, .int .i64 x.cy] 37)) 0 0 0 0 0 0 false 0 0; simpa using this, hH.below hb, Sav.of hb, hH.lt, hH.ar.lt, hH.ar.row.lt⟩
end ColF
/-- A call that has how far the collector is in a box (the first block of its own), its answer in the next one, beside a document's hand. -/
structure ColR (w W : World) (X : Nat) (va : Option Addr) (cap N : Nat) (C : Cf) (s : Dy) (x : Co) : Prop where
  col : CoAt W w.heap.size x
  res : Col9 W (w.heap.size + 1) 0 0 0 0 0 0 false 0 0
  hand : RAt W X va cap N C s
  sav : Sav (RS X va) w W
  lX : X < w.heap.size
  lR : ∀ R, va = some ⟨R, 0, none⟩ → R < w.heap.size
namespace ColR
variable {w W V : World} {X : Nat} {va : Option Addr} {cap N : Nat} {C : Cf} {s s' : Dy} {x : Co}
theorem cells (h : ColR w W X va cap N C s x) : W.cell? ⟨w.heap.size, 0, none⟩ = some (.int .i64 x.l) ∧ W.cell? ⟨w.heap.size, 1, none⟩ = some (.int .i64 x.j) ∧ W.cell? ⟨w.heap.size, 2, none⟩ = some (.int .i64 x.c) ∧ W.cell? ⟨w.heap.size, 3, none⟩ = some (.int .i64 x.m) ∧ W.cell? ⟨w.heap.size, 4, none⟩ = some (.int .u64 x.a) ∧ W.cell? ⟨w.heap.size, 5, none⟩ = some (.int .u64 x.p) ∧ W.cell? ⟨w.heap.size, 6, none⟩ = some (.bool x.fd) ∧ W.cell? ⟨w.heap.size, 7, none⟩ = some (.int .i64 x.tl) ∧ W.cell? ⟨w.heap.size, 8, none⟩ = some (.int .i64 x.cy) ∧ (∀ j, W.frozen? ⟨w.heap.size, j, none⟩ = false) := h.col.cells
theorem cellsY (h : ColR w W X va cap N C s x) : W.cell? ⟨w.heap.size + 1, 0, none⟩ = some (.int .i64 0) ∧ W.cell? ⟨w.heap.size + 1, 1, none⟩ = some (.int .i64 0) ∧ W.cell? ⟨w.heap.size + 1, 2, none⟩ = some (.int .i64 0) ∧ W.cell? ⟨w.heap.size + 1, 3, none⟩ = some (.int .i64 0) ∧ W.cell? ⟨w.heap.size + 1, 4, none⟩ = some (.int .u64 0) ∧ W.cell? ⟨w.heap.size + 1, 5, none⟩ = some (.int .u64 0) ∧ W.cell? ⟨w.heap.size + 1, 6, none⟩ = some (.bool false) ∧ W.cell? ⟨w.heap.size + 1, 7, none⟩ = some (.int .i64 0) ∧ W.cell? ⟨w.heap.size + 1, 8, none⟩ = some (.int .i64 0) ∧ (∀ j, W.frozen? ⟨w.heap.size + 1, j, none⟩ = false) := h.res.cells
theorem size (h : ColR w W X va cap N C s x) : w.heap.size + 1 < W.heap.size := h.res.lt
theorem below (h : ColR w W X va cap N C s x) (hb : Below W.heap.size W V) : ColR w V X va cap N C s x := ⟨h.col.below hb, h.res.below hb, h.hand.below hb, h.sav.trans (Sav.of hb), h.lX, h.lR⟩
theorem drew (h : ColR w W X va cap N C s x) : ColR w W.drew X va cap N C s x := ⟨h.col.other rfl, h.res.other rfl, h.hand.drew, h.sav.trans (Sav.of (Below.refl _ _).drew), h.lX, h.lR⟩
theorem ltR (h : ColR w W X va cap N C s x) : ∀ R, va = some ⟨R, 0, none⟩ → R < W.heap.size := fun R e => by have := h.lR R e; have := h.size; omega
theorem handed (h : ColR w W X va cap N C s x) (hF : RAt V X va cap N C s') (hs : Sav (RS X va) W V) : ColR w V X va cap N C s' x :=
  ⟨h.col.savR hs (by have := h.lX; omega) (fun R e => by have := h.lR R e; omega), h.res.savR hs (by have := h.lX; omega) (fun R e => by have := h.lR R e; omega), hF, h.sav.trans hs, h.lX, h.lR⟩
theorem setL (h : ColR w W X va cap N C s x) (z : Int) : ColR w (W.setCell ⟨w.heap.size, 0, none⟩ (.int .i64 z)) X va cap N C s { x with l := z } :=
  ⟨h.col.setL z, h.res.setOther (q := ⟨w.heap.size, 0, none⟩) (by show w.heap.size ≠ w.heap.size + 1; omega) _, h.hand.setOther (p := ⟨w.heap.size, 0, none⟩) (by have := h.lX; show w.heap.size ≠ X; omega) (fun R e => by have := h.lR R e; show R ≠ w.heap.size; omega) _, h.sav.set (p := ⟨w.heap.size, 0, none⟩) (.inr (Nat.le_refl _)) _, h.lX, h.lR⟩
theorem setJ (h : ColR w W X va cap N C s x) (z : Int) : ColR w (W.setCell ⟨w.heap.size, 1, none⟩ (.int .i64 z)) X va cap N C s { x with j := z } :=
  ⟨h.col.setJ z, h.res.setOther (q := ⟨w.heap.size, 1, none⟩) (by show w.heap.size ≠ w.heap.size + 1; omega) _, h.hand.setOther (p := ⟨w.heap.size, 1, none⟩) (by have := h.lX; show w.heap.size ≠ X; omega) (fun R e => by have := h.lR R e; show R ≠ w.heap.size; omega) _, h.sav.set (p := ⟨w.heap.size, 1, none⟩) (.inr (Nat.le_refl _)) _, h.lX, h.lR⟩
theorem setC (h : ColR w W X va cap N C s x) (z : Int) : ColR w (W.setCell ⟨w.heap.size, 2, none⟩ (.int .i64 z)) X va cap N C s { x with c := z } :=
  ⟨h.col.setC z, h.res.setOther (q := ⟨w.heap.size, 2, none⟩) (by show w.heap.size ≠ w.heap.size + 1; omega) _, h.hand.setOther (p := ⟨w.heap.size, 2, none⟩) (by have := h.lX; show w.heap.size ≠ X; omega) (fun R e => by have := h.lR R e; show R ≠ w.heap.size; omega) _, h.sav.set (p := ⟨w.heap.size, 2, none⟩) (.inr (Nat.le_refl _)) _, h.lX, h.lR⟩
theorem setM (h : ColR w W X va cap N C s x) (z : Int) : ColR w (W.setCell ⟨w.heap.size, 3, none⟩ (.int .i64 z)) X va cap N C s { x with m := z } :=
  ⟨h.col.setM z, h.res.setOther (q := ⟨w.heap.size, 3, none⟩) (by show w.heap.size ≠ w.heap.size + 1; omega) _, h.hand.setOther (p := ⟨w.heap.size, 3, none⟩) (by have := h.lX; show w.heap.size ≠ X; omega) (fun R e => by have := h.lR R e; show R ≠ w.heap.size; omega) _, h.sav.set (p := ⟨w.heap.size, 3, none⟩) (.inr (Nat.le_refl _)) _, h.lX, h.lR⟩
theorem setA (h : ColR w W X va cap N C s x) (z : Int) : ColR w (W.setCell ⟨w.heap.size, 4, none⟩ (.int .u64 z)) X va cap N C s { x with a := z } :=
  ⟨h.col.setA z, h.res.setOther (q := ⟨w.heap.size, 4, none⟩) (by show w.heap.size ≠ w.heap.size + 1; omega) _, h.hand.setOther (p := ⟨w.heap.size, 4, none⟩) (by have := h.lX; show w.heap.size ≠ X; omega) (fun R e => by have := h.lR R e; show R ≠ w.heap.size; omega) _, h.sav.set (p := ⟨w.heap.size, 4, none⟩) (.inr (Nat.le_refl _)) _, h.lX, h.lR⟩
theorem setP (h : ColR w W X va cap N C s x) (z : Int) : ColR w (W.setCell ⟨w.heap.size, 5, none⟩ (.int .u64 z)) X va cap N C s { x with p := z } :=
  ⟨h.col.setP z, h.res.setOther (q := ⟨w.heap.size, 5, none⟩) (by show w.heap.size ≠ w.heap.size + 1; omega) _, h.hand.setOther (p := ⟨w.heap.size, 5, none⟩) (by have := h.lX; show w.heap.size ≠ X; omega) (fun R e => by have := h.lR R e; show R ≠ w.heap.size; omega) _, h.sav.set (p := ⟨w.heap.size, 5, none⟩) (.inr (Nat.le_refl _)) _, h.lX, h.lR⟩
theorem setFD (h : ColR w W X va cap N C s x) (z : Bool) : ColR w (W.setCell ⟨w.heap.size, 6, none⟩ (.bool z)) X va cap N C s { x with fd := z } :=
  ⟨h.col.setFD z, h.res.setOther (q := ⟨w.heap.size, 6, none⟩) (by show w.heap.size ≠ w.heap.size + 1; omega) _, h.hand.setOther (p := ⟨w.heap.size, 6, none⟩) (by have := h.lX; show w.heap.size ≠ X; omega) (fun R e => by have := h.lR R e; show R ≠ w.heap.size; omega) _, h.sav.set (p := ⟨w.heap.size, 6, none⟩) (.inr (Nat.le_refl _)) _, h.lX, h.lR⟩
theorem setTL (h : ColR w W X va cap N C s x) (z : Int) : ColR w (W.setCell ⟨w.heap.size, 7, none⟩ (.int .i64 z)) X va cap N C s { x with tl := z } :=
  ⟨h.col.setTL z, h.res.setOther (q := ⟨w.heap.size, 7, none⟩) (by show w.heap.size ≠ w.heap.size + 1; omega) _, h.hand.setOther (p := ⟨w.heap.size, 7, none⟩) (by have := h.lX; show w.heap.size ≠ X; omega) (fun R e => by have := h.lR R e; show R ≠ w.heap.size; omega) _, h.sav.set (p := ⟨w.heap.size, 7, none⟩) (.inr (Nat.le_refl _)) _, h.lX, h.lR⟩
theorem setCY (h : ColR w W X va cap N C s x) (z : Int) : ColR w (W.setCell ⟨w.heap.size, 8, none⟩ (.int .i64 z)) X va cap N C s { x with cy := z } :=
  ⟨h.col.setCY z, h.res.setOther (q := ⟨w.heap.size, 8, none⟩) (by show w.heap.size ≠ w.heap.size + 1; omega) _, h.hand.setOther (p := ⟨w.heap.size, 8, none⟩) (by have := h.lX; show w.heap.size ≠ X; omega) (fun R e => by have := h.lR R e; show R ≠ w.heap.size; omega) _, h.sav.set (p := ⟨w.heap.size, 8, none⟩) (.inr (Nat.le_refl _)) _, h.lX, h.lR⟩
theorem put (h : ColR w W X va cap N C s x) (y : Co) : ColR w (put9 W w.heap.size y.l y.j y.c y.m y.a y.p y.fd y.tl y.cy) X va cap N C s y :=
  ⟨h.col.put _ _ _ _ _ _ _ _ _, h.res.other (heap_put9 _ _ _ _ _ _ _ _ _ _ _ (by omega)), h.hand.put9 (B := w.heap.size) (by have := h.lX; omega) (fun R e => by have := h.lR R e; omega) _ _ _ _ _ _ _ _ _, h.sav.put9 (C := w.heap.size) (.inr (Nat.le_refl _)) _ _ _ _ _ _ _ _ _, h.lX, h.lR⟩
/-- The answer is laid down. -/
theorem fin (h : ColR w W X va cap N C s x) (y : Co) : RAt (put9 W (w.heap.size + 1) y.l y.j y.c y.m y.a y.p y.fd y.tl y.cy) X va cap N C s ∧ Sav (RS X va) w (put9 W (w.heap.size + 1) y.l y.j y.c y.m y.a y.p y.fd y.tl y.cy) :=
  ⟨h.hand.put9 (B := w.heap.size + 1) (by have := h.lX; omega) (fun R e => by have := h.lR R e; omega) _ _ _ _ _ _ _ _ _, h.sav.put9 (C := w.heap.size + 1) (.inr (by omega)) _ _ _ _ _ _ _ _ _⟩
theorem last (h : ColR w W X va cap N C s x) (y : Co) : CoAt (put9 W (w.heap.size + 1) y.l y.j y.c y.m y.a y.p y.fd y.tl y.cy) (w.heap.size + 1) y := h.res.put _ _ _ _ _ _ _ _ _
theorem start (hH : RAt w X va cap N C s) (hL : ∀ R, va = some ⟨R, 0, none⟩ → R < w.heap.size) (x : Co) : ColR w ((w.alloc (.cells #[.int .i64 x.l, .int .i64 x.j, .int .i64 x.c, .int .i64 x.m, .int .u64 x.a, .int .u64 x.p, .bool x.fd, .int .i64 x.tl, .int .i64 x.cy] 37)).alloc (.cells #[.int .i64 0, .int .i64 0, .int .i64 0, .int .i64 0, .int .u64 0, .int .u64 0, .bool false, .int .i64 0, .int .i64 0] 37)) X va cap N C s x :=
  have hb := below_on (below_new w (.cells #[.int .i64 x.l, .int .i64 x.j, .int .i64 x.c, .int .i64 x.m, .int .u64 x.a, .int .u64 x.p, .bool x.fd, .int .i64 x.tl, .int .i64 x.cy] 37)) (.cells #[.int .i64 0, .int .i64 0, .int .i64 0, .int .i64 0, .int .u64 0, .int .u64 0, .bool false, .int .i64 0, .int .i64 0] 37)
  ⟨(Col9.new w x.l x.j x.c x.m x.a x.p x.fd x.tl x.cy).below (below_new _ _), by have := Col9.new (w.alloc (.cells #[.int .i64 x.l, .int .i64 x.j, .int .i64 x.c, .int .i64 x.m, .int .u64 x.a, .int .u64 x.p, .bool x.fd, .int .i64 x.tl, .int .i64 x.cy] 37)) 0 0 0 0 0 0 false 0 0; simpa using this, hH.below hb, Sav.of hb, hH.lt, hL⟩
end ColR
theorem u64_nat' {x : Int} (h : U64 x) : ∃ v : Nat, x = v ∧ v < 18446744073709551616 := by obtain ⟨h1, h2⟩ := h; exact ⟨x.toNat, by omega, by omega⟩
theorem z5_u64 {n : Nat} {k i x : Int} (h : U64 x) : U64 (z5 n k i x) := by
  unfold z5
  by_cases e : okD n k i
  · rw [if_pos e]; exact h
  · rw [if_neg e]; exact u64_zero
/-- What word.IsCell tells. -/
def cellK (v : Nat) : Int := if isC v then ((v / 2 : Nat) : Int) else 0
theorem isCell_c (v : Nat) (hv : v < 18446744073709551616) (w : World) :
    Calls Tryd.prog 51 #[.int .u64 (v : Int)] w fun e w' => e = .returned (.tuple #[.int .i64 (cellK v), .bool (decide (isC v))]) ∧ w = w' := by
  unfold cellK
  by_cases h : isC v
  · rw [if_pos h, decide_eq_true h]; exact isCell_cell v h.2 h.1 w
  · rw [if_neg h, decide_eq_false h]; exact isCell_no v hv h w
/-- What the document's IsCell tells. -/
def cellR (v : Nat) : Int := if isC v then ((v / 2 : Nat) : Int) else -1
theorem refIsCell_c (v : Nat) (hv : v < 18446744073709551616) (w : World) :
    Calls Tryd.prog 21 #[.int .u64 (v : Int)] w fun e w' => e = .returned (.int .i64 (cellR v)) ∧ w = w' := by
  unfold cellR
  by_cases h : isC v
  · rw [if_pos h]; exact refIsCell_cell v h.2 h.1 w
  · rw [if_neg h]; exact refIsCell_no v hv h w
end Go.Proofs.YthdcapkchjamoaaDoor
