/- A step of package sweep, out of what do does. -/
import Derived.Test.YtbpooljohjkbjaaGreatDoorM1
import Derived.Test.YtbpooljohjkbjaaGreatDoorM9
import Derived.Deep.CutRange
namespace Go.Proofs.YtbpooljohjkbjaaGreatDoor
open Go Go.RowKit
set_option maxRecDepth 100000
attribute [local go_sem ↓] Go.wp_at_zero Go.wp_at_succ
structure ColG (w W : World) (H A G : Nat) (C : Cf) (s : Dy) (x y : Co) : Prop where
  col : CoAt W w.heap.size x
  res : CoAt W (w.heap.size + 1) y
  hand : HAt W H A G C s
  sav : Sav (HG H G) w W
  lH : H < w.heap.size
  lA : A < w.heap.size
  lG : G < w.heap.size
namespace ColG
variable {w W V : World} {H A G : Nat} {C : Cf} {s s' : Dy} {x y : Co}
theorem start (h : ColF w W H A G C s x) : ColG w W H A G C s x ⟨0, 0, 0, 0, 0, 0, false, 0, 0⟩ := ⟨h.col, h.res, h.hand, h.sav, h.lH, h.lA, h.lG⟩
theorem cells (h : ColG w W H A G C s x y) : W.cell? ⟨w.heap.size, 0, none⟩ = some (.int .i64 x.l) ∧ W.cell? ⟨w.heap.size, 1, none⟩ = some (.int .i64 x.j) ∧ W.cell? ⟨w.heap.size, 2, none⟩ = some (.int .i64 x.c) ∧ W.cell? ⟨w.heap.size, 3, none⟩ = some (.int .i64 x.m) ∧ W.cell? ⟨w.heap.size, 4, none⟩ = some (.int .u64 x.a) ∧ W.cell? ⟨w.heap.size, 5, none⟩ = some (.int .u64 x.p) ∧ W.cell? ⟨w.heap.size, 6, none⟩ = some (.bool x.fd) ∧ W.cell? ⟨w.heap.size, 7, none⟩ = some (.int .i64 x.tl) ∧ W.cell? ⟨w.heap.size, 8, none⟩ = some (.int .i64 x.cy) ∧ (∀ j, W.frozen? ⟨w.heap.size, j, none⟩ = false) := h.col.cells
theorem cellsY (h : ColG w W H A G C s x y) : W.cell? ⟨w.heap.size + 1, 0, none⟩ = some (.int .i64 y.l) ∧ W.cell? ⟨w.heap.size + 1, 1, none⟩ = some (.int .i64 y.j) ∧ W.cell? ⟨w.heap.size + 1, 2, none⟩ = some (.int .i64 y.c) ∧ W.cell? ⟨w.heap.size + 1, 3, none⟩ = some (.int .i64 y.m) ∧ W.cell? ⟨w.heap.size + 1, 4, none⟩ = some (.int .u64 y.a) ∧ W.cell? ⟨w.heap.size + 1, 5, none⟩ = some (.int .u64 y.p) ∧ W.cell? ⟨w.heap.size + 1, 6, none⟩ = some (.bool y.fd) ∧ W.cell? ⟨w.heap.size + 1, 7, none⟩ = some (.int .i64 y.tl) ∧ W.cell? ⟨w.heap.size + 1, 8, none⟩ = some (.int .i64 y.cy) ∧ (∀ j, W.frozen? ⟨w.heap.size + 1, j, none⟩ = false) := h.res.cells
theorem below (h : ColG w W H A G C s x y) (hb : Below W.heap.size W V) : ColG w V H A G C s x y := ⟨h.col.below hb, h.res.below hb, h.hand.below hb, h.sav.trans (Sav.of hb), h.lH, h.lA, h.lG⟩
theorem drew (h : ColG w W H A G C s x y) : ColG w W.drew H A G C s x y := ⟨h.col.other rfl, h.res.other rfl, h.hand.drew, h.sav.trans (Sav.of (Below.refl _ _).drew), h.lH, h.lA, h.lG⟩
theorem handed (h : ColG w W H A G C s x y) (hF : HAt V H A G C s') (hs : Sav (HG H G) W V) : ColG w V H A G C s' x y :=
  ⟨h.col.savH hs (by have := h.lH; omega) (by have := h.lG; omega), h.res.savH hs (by have := h.lH; omega) (by have := h.lG; omega), hF, h.sav.trans hs, h.lH, h.lA, h.lG⟩
theorem putY (h : ColG w W H A G C s x y) (z : Co) : ColG w (put9 W (w.heap.size + 1) z.l z.j z.c z.m z.a z.p z.fd z.tl z.cy) H A G C s x z :=
  ⟨h.col.other (heap_put9 _ _ _ _ _ _ _ _ _ _ _ (by omega)), h.res.put _ _ _ _ _ _ _ _ _, h.hand.put9 (C := w.heap.size + 1) (by have := h.lH; omega) (by have := h.lA; omega) (by have := h.lG; omega) _ _ _ _ _ _ _ _ _, h.sav.put9 (C := w.heap.size + 1) (.inr (by omega)) _ _ _ _ _ _ _ _ _, h.lH, h.lA, h.lG⟩
end ColG
set_option maxHeartbeats 3200000 in
theorem sw_alone {w : World} {H A G : Nat} {C : Cf} {s s' : Dy} (hH : HAt w H A G C s) (hS : SpansAt w) (hn : 0 < C.n) (l j c m a p : Int) (fd : Bool) (tl cy : Int) (hdo : ∀ W, HAt W H A G C s → SpansAt W → Calls Tryz.prog 135 #[.pointer (some ⟨H, 0, none⟩), (colV l j c m a p fd tl cy)] W (HP W H A G C s' (.tuple #[(colV l j c m a p fd tl cy), .int .i64 0]))) :
    Calls Tryz.prog 107 #[.pointer (some ⟨H, 0, none⟩), (colV l j c m a p fd tl cy)] w (HP w H A G C s' (.tuple #[(colV l j c m a p fd tl cy), .int .i64 0, .bool false])) := by
  have HG0 := Lib.hid (ColG.start (ColF.start hH ⟨l, j, c, m, a, p, fd, tl, cy⟩))
  have HDo := Lib.hid hdo
  have HSP : Hid (∀ W s1 x1 y1, ColG w W H A G C s1 x1 y1 → SpansAt W) := Lib.hid (fun W s1 x1 y1 h => spans_sav hn hS hH h.sav)
  clear hH hS hn hdo
  obtain ⟨a0, a1, a2, a3, a4, a5, a6, a7, a8, af⟩ := HG0.out.cells
  dsimp only at a0 a1 a2 a3 a4 a5 a6 a7 a8
  go_enter Tryz.func107, Tryz.ntmps107
  go_wp2_with fail
  refine (HDo.out _ HG0.out.hand (HSP.out _ _ _ _ HG0.out)).mono ?_
  rintro e V1 ⟨rfl, hF, hs⟩
  have HG1 := Lib.hid (HG0.out.handed hF hs)
  clear hF hs HDo HG0 a0 a1 a2 a3 a4 a5 a6 a7 a8 af
  obtain ⟨c0, c1, c2, c3, c4, c5, c6, c7, c8, cf⟩ := HG1.out.cellsY
  dsimp only at c0 c1 c2 c3 c4 c5 c6 c7 c8
  go_upto_region 5 with fail
  clear c0 c1 c2 c3 c4 c5 c6 c7 c8 cf
  have HG2 : Hid (ColG w (((((((((V1.setCell ⟨w.heap.size + 1, 0, none⟩ (.int .i64 l)).setCell ⟨w.heap.size + 1, 1, none⟩ (.int .i64 j)).setCell ⟨w.heap.size + 1, 2, none⟩ (.int .i64 c)).setCell ⟨w.heap.size + 1, 3, none⟩ (.int .i64 m)).setCell ⟨w.heap.size + 1, 4, none⟩ (.int .u64 a)).setCell ⟨w.heap.size + 1, 5, none⟩ (.int .u64 p)).setCell ⟨w.heap.size + 1, 6, none⟩ (.bool fd)).setCell ⟨w.heap.size + 1, 7, none⟩ (.int .i64 tl)).setCell ⟨w.heap.size + 1, 8, none⟩ (.int .i64 cy)) H A G C s' ⟨l, j, c, m, a, p, fd, tl, cy⟩ ⟨l, j, c, m, a, p, fd, tl, cy⟩) := Lib.hid (HG1.out.putY ⟨l, j, c, m, a, p, fd, tl, cy⟩)
  clear HG1
  generalize ((((((((V1.setCell ⟨w.heap.size + 1, 0, none⟩ (.int .i64 l)).setCell ⟨w.heap.size + 1, 1, none⟩ (.int .i64 j)).setCell ⟨w.heap.size + 1, 2, none⟩ (.int .i64 c)).setCell ⟨w.heap.size + 1, 3, none⟩ (.int .i64 m)).setCell ⟨w.heap.size + 1, 4, none⟩ (.int .u64 a)).setCell ⟨w.heap.size + 1, 5, none⟩ (.int .u64 p)).setCell ⟨w.heap.size + 1, 6, none⟩ (.bool fd)).setCell ⟨w.heap.size + 1, 7, none⟩ (.int .i64 tl)).setCell ⟨w.heap.size + 1, 8, none⟩ (.int .i64 cy) = W2 at *
  obtain ⟨c0, c1, c2, c3, c4, c5, c6, c7, c8, cf⟩ := HG2.out.cellsY
  dsimp only at c0 c1 c2 c3 c4 c5 c6 c7 c8
  obtain ⟨a0, a1, a2, a3, a4, a5, a6, a7, a8, af⟩ := HG2.out.cells
  dsimp only at a0 a1 a2 a3 a4 a5 a6 a7 a8
  have HGe := Lib.hid (HG2.out.putY ⟨l, j, c, m, a, p, fd, tl, cy⟩)
  obtain ⟨s0, s1, s2, s3, s4, s5, s6, s7, s8, sf⟩ := HGe.out.cellsY
  dsimp only at s0 s1 s2 s3 s4 s5 s6 s7 s8
  go_wp2_with fail
  refine bodyPost_ret (v := .tuple #[(colV l j c m a p fd tl cy), .int .i64 0, .bool false]) (by simp [results, Tryz.f107, go_sem, s0, s1, s2, s3, s4, s5, s6, s7, s8]) rfl ?_
  exact ⟨rfl, HGe.out.hand, HGe.out.sav⟩
set_option maxHeartbeats 3200000 in
theorem sw_hand {w : World} {H A G : Nat} {C : Cf} {s s' : Dy} (hH : HAt w H A G C s) (hS : SpansAt w) (hn : 0 < C.n) (l j c m a p : Int) (fd : Bool) (tl cy : Int) (l' j' c' m' a' p' : Int) (fd' : Bool) (tl' cy' : Int) (hdo : ∀ W, HAt W H A G C s → SpansAt W → Calls Tryz.prog 135 #[.pointer (some ⟨H, 0, none⟩), (colV l j c m a p fd tl cy)] W (HP W H A G C s' (.tuple #[(colV l' j' c' m' a' p' fd' tl' cy'), .int .i64 1]))) :
    Calls Tryz.prog 107 #[.pointer (some ⟨H, 0, none⟩), (colV l j c m a p fd tl cy)] w (HP w H A G C s' (.tuple #[(colV l' j' c' m' a' p' fd' tl' cy'), .int .i64 0, .bool true])) := by
  have HG0 := Lib.hid (ColG.start (ColF.start hH ⟨l, j, c, m, a, p, fd, tl, cy⟩))
  have HDo := Lib.hid hdo
  have HSP : Hid (∀ W s1 x1 y1, ColG w W H A G C s1 x1 y1 → SpansAt W) := Lib.hid (fun W s1 x1 y1 h => spans_sav hn hS hH h.sav)
  clear hH hS hn hdo
  obtain ⟨a0, a1, a2, a3, a4, a5, a6, a7, a8, af⟩ := HG0.out.cells
  dsimp only at a0 a1 a2 a3 a4 a5 a6 a7 a8
  go_enter Tryz.func107, Tryz.ntmps107
  go_wp2_with fail
  refine (HDo.out _ HG0.out.hand (HSP.out _ _ _ _ HG0.out)).mono ?_
  rintro e V1 ⟨rfl, hF, hs⟩
  have HG1 := Lib.hid (HG0.out.handed hF hs)
  clear hF hs HDo HG0 a0 a1 a2 a3 a4 a5 a6 a7 a8 af
  obtain ⟨c0, c1, c2, c3, c4, c5, c6, c7, c8, cf⟩ := HG1.out.cellsY
  dsimp only at c0 c1 c2 c3 c4 c5 c6 c7 c8
  go_upto_region 5 with fail
  clear c0 c1 c2 c3 c4 c5 c6 c7 c8 cf
  have HG2 : Hid (ColG w (((((((((V1.setCell ⟨w.heap.size + 1, 0, none⟩ (.int .i64 l')).setCell ⟨w.heap.size + 1, 1, none⟩ (.int .i64 j')).setCell ⟨w.heap.size + 1, 2, none⟩ (.int .i64 c')).setCell ⟨w.heap.size + 1, 3, none⟩ (.int .i64 m')).setCell ⟨w.heap.size + 1, 4, none⟩ (.int .u64 a')).setCell ⟨w.heap.size + 1, 5, none⟩ (.int .u64 p')).setCell ⟨w.heap.size + 1, 6, none⟩ (.bool fd')).setCell ⟨w.heap.size + 1, 7, none⟩ (.int .i64 tl')).setCell ⟨w.heap.size + 1, 8, none⟩ (.int .i64 cy')) H A G C s' ⟨l, j, c, m, a, p, fd, tl, cy⟩ ⟨l', j', c', m', a', p', fd', tl', cy'⟩) := Lib.hid (HG1.out.putY ⟨l', j', c', m', a', p', fd', tl', cy'⟩)
  clear HG1
  generalize ((((((((V1.setCell ⟨w.heap.size + 1, 0, none⟩ (.int .i64 l')).setCell ⟨w.heap.size + 1, 1, none⟩ (.int .i64 j')).setCell ⟨w.heap.size + 1, 2, none⟩ (.int .i64 c')).setCell ⟨w.heap.size + 1, 3, none⟩ (.int .i64 m')).setCell ⟨w.heap.size + 1, 4, none⟩ (.int .u64 a')).setCell ⟨w.heap.size + 1, 5, none⟩ (.int .u64 p')).setCell ⟨w.heap.size + 1, 6, none⟩ (.bool fd')).setCell ⟨w.heap.size + 1, 7, none⟩ (.int .i64 tl')).setCell ⟨w.heap.size + 1, 8, none⟩ (.int .i64 cy') = W2 at *
  obtain ⟨c0, c1, c2, c3, c4, c5, c6, c7, c8, cf⟩ := HG2.out.cellsY
  dsimp only at c0 c1 c2 c3 c4 c5 c6 c7 c8
  have HGe := Lib.hid (HG2.out.putY ⟨l', j', c', m', a', p', fd', tl', cy'⟩)
  obtain ⟨s0, s1, s2, s3, s4, s5, s6, s7, s8, sf⟩ := HGe.out.cellsY
  dsimp only at s0 s1 s2 s3 s4 s5 s6 s7 s8
  go_wp2_with fail
  refine bodyPost_ret (v := .tuple #[(colV l' j' c' m' a' p' fd' tl' cy'), .int .i64 0, .bool true]) (by simp [results, Tryz.f107, go_sem, s0, s1, s2, s3, s4, s5, s6, s7, s8]) rfl ?_
  exact ⟨rfl, HGe.out.hand, HGe.out.sav⟩
set_option maxHeartbeats 3200000 in
theorem sw_fin_more {w : World} {H A G : Nat} {C : Cf} {s s' : Dy} (hH : HAt w H A G C s) (hS : SpansAt w) (hn : 0 < C.n) (hr : Right C.a C.b C.c C.d) (l j c m a p : Int) (fd : Bool) (tl cy : Int) (l' j' c' m' a' p' : Int) (fd' : Bool) (tl' cy' : Int) (hdo : ∀ W, HAt W H A G C s → SpansAt W → Calls Tryz.prog 135 #[.pointer (some ⟨H, 0, none⟩), (colV l j c m a p fd tl cy)] W (HP W H A G C s' (.tuple #[(colV l' j' c' m' a' p' fd' tl' cy'), .int .i64 2]))) (hc : -1000000000000 ≤ c' ∧ c' ≤ 1000000000000) (hy : -1000000000000 ≤ cy' ∧ cy' ≤ 1000000000000) (hm : c' + 1 < C.a) :
    Calls Tryz.prog 107 #[.pointer (some ⟨H, 0, none⟩), (colV l j c m a p fd tl cy)] w (HP w H A G C s' (.tuple #[(nextSwept C ⟨l', j', c', m', a', p', fd', tl', cy'⟩).v, .int .i64 0, .bool true])) := by
  have HG0 := Lib.hid (ColG.start (ColF.start hH ⟨l, j, c, m, a, p, fd, tl, cy⟩))
  have HDo := Lib.hid hdo
  have HSP : Hid (∀ W s1 x1 y1, ColG w W H A G C s1 x1 y1 → SpansAt W) := Lib.hid (fun W s1 x1 y1 h => spans_sav hn hS hH h.sav)
  obtain ⟨y, hyy⟩ : ∃ y, nextSwept C ⟨l', j', c', m', a', p', fd', tl', cy'⟩ = y := ⟨_, rfl⟩
  have HGo : Hid (∀ W, Calls Tryz.prog 136 #[(colV l' j' c' m' a' p' fd' tl' cy'), .int .i64 C.a] W fun e w' => e = .returned (.tuple #[y.v, .bool false]) ∧ Below W.heap.size W w') := Lib.hid (fun W => by have := sgo_c C hr l' j' c' m' a' p' fd' tl' cy' hc hy W; rw [decide_eq_false (fun q => q hm), hyy] at this; exact this)
  rw [hyy]
  clear hyy hc hy hm hr
  clear hH hS hn hdo
  obtain ⟨a0, a1, a2, a3, a4, a5, a6, a7, a8, af⟩ := HG0.out.cells
  dsimp only at a0 a1 a2 a3 a4 a5 a6 a7 a8
  go_enter Tryz.func107, Tryz.ntmps107
  go_wp2_with fail
  refine (HDo.out _ HG0.out.hand (HSP.out _ _ _ _ HG0.out)).mono ?_
  rintro e V1 ⟨rfl, hF, hs⟩
  have HG1 := Lib.hid (HG0.out.handed hF hs)
  clear hF hs HDo HG0 a0 a1 a2 a3 a4 a5 a6 a7 a8 af
  obtain ⟨c0, c1, c2, c3, c4, c5, c6, c7, c8, cf⟩ := HG1.out.cellsY
  dsimp only at c0 c1 c2 c3 c4 c5 c6 c7 c8
  go_upto_region 5 with fail
  clear c0 c1 c2 c3 c4 c5 c6 c7 c8 cf
  have HG2 : Hid (ColG w (((((((((V1.setCell ⟨w.heap.size + 1, 0, none⟩ (.int .i64 l')).setCell ⟨w.heap.size + 1, 1, none⟩ (.int .i64 j')).setCell ⟨w.heap.size + 1, 2, none⟩ (.int .i64 c')).setCell ⟨w.heap.size + 1, 3, none⟩ (.int .i64 m')).setCell ⟨w.heap.size + 1, 4, none⟩ (.int .u64 a')).setCell ⟨w.heap.size + 1, 5, none⟩ (.int .u64 p')).setCell ⟨w.heap.size + 1, 6, none⟩ (.bool fd')).setCell ⟨w.heap.size + 1, 7, none⟩ (.int .i64 tl')).setCell ⟨w.heap.size + 1, 8, none⟩ (.int .i64 cy')) H A G C s' ⟨l, j, c, m, a, p, fd, tl, cy⟩ ⟨l', j', c', m', a', p', fd', tl', cy'⟩) := Lib.hid (HG1.out.putY ⟨l', j', c', m', a', p', fd', tl', cy'⟩)
  clear HG1
  generalize ((((((((V1.setCell ⟨w.heap.size + 1, 0, none⟩ (.int .i64 l')).setCell ⟨w.heap.size + 1, 1, none⟩ (.int .i64 j')).setCell ⟨w.heap.size + 1, 2, none⟩ (.int .i64 c')).setCell ⟨w.heap.size + 1, 3, none⟩ (.int .i64 m')).setCell ⟨w.heap.size + 1, 4, none⟩ (.int .u64 a')).setCell ⟨w.heap.size + 1, 5, none⟩ (.int .u64 p')).setCell ⟨w.heap.size + 1, 6, none⟩ (.bool fd')).setCell ⟨w.heap.size + 1, 7, none⟩ (.int .i64 tl')).setCell ⟨w.heap.size + 1, 8, none⟩ (.int .i64 cy') = W2 at *
  obtain ⟨c0, c1, c2, c3, c4, c5, c6, c7, c8, cf⟩ := HG2.out.cellsY
  dsimp only at c0 c1 c2 c3 c4 c5 c6 c7 c8
  obtain ⟨_, ⟨h1, _, _, _⟩, _⟩ := HG2.out.hand.cells
  go_wp2_with fail
  refine wp_region_held_drew (S := (fun w' => w'.cell? ⟨H, 1, none⟩ = some (.int .i64 C.a))) (by kernel_rfl) ?_ (fun hHeld => ?_)
  · exact h1
  refine tk 1 rfl hHeld ?_
  refine tk 2 rfl hHeld ?_
  refine tk 3 rfl hHeld ?_
  refine tk 4 rfl hHeld ?_
  refine tk 5 rfl hHeld ?_
  refine tk 6 rfl hHeld ?_
  refine wpAnyH_ready (rs := [0]) (by kernel_rfl) (by simp) ?_
  refine AllReadyH.cons (o := _) rfl (fun K hK => ?_) AllReadyH.nil
  go_simp
  skip
  refine hK.out _ _ ?_ (fun hHeld => ?_)
  · exact h1
  clear hK K
  try simp only [Act.put, List.setIfInBounds_toArray, List.set_cons_zero, List.set_cons_succ]
  refine wpAnyH_ready (rs := [7]) (by kernel_rfl) (by simp) ?_
  refine AllReadyH.cons (o := _) rfl (fun K hK => ?_) AllReadyH.nil
  go_simp
  have HG3 := Lib.hid HG2.out.drew
  clear HG2
  refine (HGo.out _).mono ?_
  rintro e V3 ⟨rfl, hb⟩
  have HG4 := Lib.hid (HG3.out.below hb)
  clear hHeld hb HG3 HGo h1 c0 c1 c2 c3 c4 c5 c6 c7 c8 cf
  obtain ⟨c0, c1, c2, c3, c4, c5, c6, c7, c8, cf⟩ := HG4.out.cellsY
  dsimp only at c0 c1 c2 c3 c4 c5 c6 c7 c8
  obtain ⟨_, ⟨h1, _, _, _⟩, _⟩ := HG4.out.hand.cells
  refine hK.out _ _ ?_ (fun hHeld => ?_)
  · exact h1
  clear hK K
  try simp only [Act.put, List.setIfInBounds_toArray, List.set_cons_zero, List.set_cons_succ]
  refine tk 8 rfl hHeld ?_
  refine tk 9 rfl hHeld ?_
  refine tk 10 rfl hHeld ?_
  refine wpAnyH_ready (rs := [11]) (by kernel_rfl) (by simp) ?_
  refine AllReadyH.cons (o := _) rfl (fun K hK => ?_) AllReadyH.nil
  go_simp
  have HG5 : Hid (ColG w (((((((((V3.setCell ⟨w.heap.size + 1, 0, none⟩ (.int .i64 y.l)).setCell ⟨w.heap.size + 1, 1, none⟩ (.int .i64 y.j)).setCell ⟨w.heap.size + 1, 2, none⟩ (.int .i64 y.c)).setCell ⟨w.heap.size + 1, 3, none⟩ (.int .i64 y.m)).setCell ⟨w.heap.size + 1, 4, none⟩ (.int .u64 y.a)).setCell ⟨w.heap.size + 1, 5, none⟩ (.int .u64 y.p)).setCell ⟨w.heap.size + 1, 6, none⟩ (.bool y.fd)).setCell ⟨w.heap.size + 1, 7, none⟩ (.int .i64 y.tl)).setCell ⟨w.heap.size + 1, 8, none⟩ (.int .i64 y.cy)) H A G C s' ⟨l, j, c, m, a, p, fd, tl, cy⟩ y) := Lib.hid (HG4.out.putY y)
  clear hHeld HG4 h1 c0 c1 c2 c3 c4 c5 c6 c7 c8 cf
  obtain ⟨_, ⟨h1, _, _, _⟩, _⟩ := HG5.out.hand.cells
  refine hK.out _ _ ?_ (fun hHeld => ?_)
  · exact h1
  clear hK K
  try simp only [Act.put, List.setIfInBounds_toArray, List.set_cons_zero, List.set_cons_succ]
  refine tk 12 rfl hHeld ?_
  refine wpAnyH_done (by kernel_rfl) ?_ _
  clear hHeld h1
  generalize ((((((((V3.setCell ⟨w.heap.size + 1, 0, none⟩ (.int .i64 y.l)).setCell ⟨w.heap.size + 1, 1, none⟩ (.int .i64 y.j)).setCell ⟨w.heap.size + 1, 2, none⟩ (.int .i64 y.c)).setCell ⟨w.heap.size + 1, 3, none⟩ (.int .i64 y.m)).setCell ⟨w.heap.size + 1, 4, none⟩ (.int .u64 y.a)).setCell ⟨w.heap.size + 1, 5, none⟩ (.int .u64 y.p)).setCell ⟨w.heap.size + 1, 6, none⟩ (.bool y.fd)).setCell ⟨w.heap.size + 1, 7, none⟩ (.int .i64 y.tl)).setCell ⟨w.heap.size + 1, 8, none⟩ (.int .i64 y.cy) = W5 at *
  obtain ⟨c0, c1, c2, c3, c4, c5, c6, c7, c8, cf⟩ := HG5.out.cellsY
  have HGe := Lib.hid (HG5.out.putY ⟨y.l, y.j, y.c, y.m, y.a, y.p, y.fd, y.tl, y.cy⟩)
  obtain ⟨s0, s1, s2, s3, s4, s5, s6, s7, s8, sf⟩ := HGe.out.cellsY
  dsimp only at s0 s1 s2 s3 s4 s5 s6 s7 s8
  go_wp2_with fail
  refine bodyPost_ret (v := .tuple #[(colV y.l y.j y.c y.m y.a y.p y.fd y.tl y.cy), .int .i64 0, .bool true]) (by simp [results, Tryz.f107, go_sem, s0, s1, s2, s3, s4, s5, s6, s7, s8]) rfl ?_
  exact ⟨rfl, HGe.out.hand, HGe.out.sav⟩
set_option maxHeartbeats 3200000 in
theorem sw_fin_over {w : World} {H A G : Nat} {C : Cf} {s s' : Dy} (hH : HAt w H A G C s) (hS : SpansAt w) (hn : 0 < C.n) (hr : Right C.a C.b C.c C.d) (l j c m a p : Int) (fd : Bool) (tl cy : Int) (l' j' c' m' a' p' : Int) (fd' : Bool) (tl' cy' : Int) (hdo : ∀ W, HAt W H A G C s → SpansAt W → Calls Tryz.prog 135 #[.pointer (some ⟨H, 0, none⟩), (colV l j c m a p fd tl cy)] W (HP W H A G C s' (.tuple #[(colV l' j' c' m' a' p' fd' tl' cy'), .int .i64 2]))) (hc : -1000000000000 ≤ c' ∧ c' ≤ 1000000000000) (hy : -1000000000000 ≤ cy' ∧ cy' ≤ 1000000000000) (hm : ¬ c' + 1 < C.a) :
    Calls Tryz.prog 107 #[.pointer (some ⟨H, 0, none⟩), (colV l j c m a p fd tl cy)] w (HP w H A G C s' (.tuple #[(nextSwept C ⟨l', j', c', m', a', p', fd', tl', cy'⟩).v, .int .i64 3, .bool true])) := by
  have HG0 := Lib.hid (ColG.start (ColF.start hH ⟨l, j, c, m, a, p, fd, tl, cy⟩))
  have HDo := Lib.hid hdo
  have HSP : Hid (∀ W s1 x1 y1, ColG w W H A G C s1 x1 y1 → SpansAt W) := Lib.hid (fun W s1 x1 y1 h => spans_sav hn hS hH h.sav)
  obtain ⟨y, hyy⟩ : ∃ y, nextSwept C ⟨l', j', c', m', a', p', fd', tl', cy'⟩ = y := ⟨_, rfl⟩
  have HGo : Hid (∀ W, Calls Tryz.prog 136 #[(colV l' j' c' m' a' p' fd' tl' cy'), .int .i64 C.a] W fun e w' => e = .returned (.tuple #[y.v, .bool true]) ∧ Below W.heap.size W w') := Lib.hid (fun W => by have := sgo_c C hr l' j' c' m' a' p' fd' tl' cy' hc hy W; rw [decide_eq_true hm, hyy] at this; exact this)
  rw [hyy]
  clear hyy hc hy hm hr
  clear hH hS hn hdo
  obtain ⟨a0, a1, a2, a3, a4, a5, a6, a7, a8, af⟩ := HG0.out.cells
  dsimp only at a0 a1 a2 a3 a4 a5 a6 a7 a8
  go_enter Tryz.func107, Tryz.ntmps107
  go_wp2_with fail
  refine (HDo.out _ HG0.out.hand (HSP.out _ _ _ _ HG0.out)).mono ?_
  rintro e V1 ⟨rfl, hF, hs⟩
  have HG1 := Lib.hid (HG0.out.handed hF hs)
  clear hF hs HDo HG0 a0 a1 a2 a3 a4 a5 a6 a7 a8 af
  obtain ⟨c0, c1, c2, c3, c4, c5, c6, c7, c8, cf⟩ := HG1.out.cellsY
  dsimp only at c0 c1 c2 c3 c4 c5 c6 c7 c8
  go_upto_region 5 with fail
  clear c0 c1 c2 c3 c4 c5 c6 c7 c8 cf
  have HG2 : Hid (ColG w (((((((((V1.setCell ⟨w.heap.size + 1, 0, none⟩ (.int .i64 l')).setCell ⟨w.heap.size + 1, 1, none⟩ (.int .i64 j')).setCell ⟨w.heap.size + 1, 2, none⟩ (.int .i64 c')).setCell ⟨w.heap.size + 1, 3, none⟩ (.int .i64 m')).setCell ⟨w.heap.size + 1, 4, none⟩ (.int .u64 a')).setCell ⟨w.heap.size + 1, 5, none⟩ (.int .u64 p')).setCell ⟨w.heap.size + 1, 6, none⟩ (.bool fd')).setCell ⟨w.heap.size + 1, 7, none⟩ (.int .i64 tl')).setCell ⟨w.heap.size + 1, 8, none⟩ (.int .i64 cy')) H A G C s' ⟨l, j, c, m, a, p, fd, tl, cy⟩ ⟨l', j', c', m', a', p', fd', tl', cy'⟩) := Lib.hid (HG1.out.putY ⟨l', j', c', m', a', p', fd', tl', cy'⟩)
  clear HG1
  generalize ((((((((V1.setCell ⟨w.heap.size + 1, 0, none⟩ (.int .i64 l')).setCell ⟨w.heap.size + 1, 1, none⟩ (.int .i64 j')).setCell ⟨w.heap.size + 1, 2, none⟩ (.int .i64 c')).setCell ⟨w.heap.size + 1, 3, none⟩ (.int .i64 m')).setCell ⟨w.heap.size + 1, 4, none⟩ (.int .u64 a')).setCell ⟨w.heap.size + 1, 5, none⟩ (.int .u64 p')).setCell ⟨w.heap.size + 1, 6, none⟩ (.bool fd')).setCell ⟨w.heap.size + 1, 7, none⟩ (.int .i64 tl')).setCell ⟨w.heap.size + 1, 8, none⟩ (.int .i64 cy') = W2 at *
  obtain ⟨c0, c1, c2, c3, c4, c5, c6, c7, c8, cf⟩ := HG2.out.cellsY
  dsimp only at c0 c1 c2 c3 c4 c5 c6 c7 c8
  obtain ⟨_, ⟨h1, _, _, _⟩, _⟩ := HG2.out.hand.cells
  go_wp2_with fail
  refine wp_region_held_drew (S := (fun w' => w'.cell? ⟨H, 1, none⟩ = some (.int .i64 C.a))) (by kernel_rfl) ?_ (fun hHeld => ?_)
  · exact h1
  refine tk 1 rfl hHeld ?_
  refine tk 2 rfl hHeld ?_
  refine tk 3 rfl hHeld ?_
  refine tk 4 rfl hHeld ?_
  refine tk 5 rfl hHeld ?_
  refine tk 6 rfl hHeld ?_
  refine wpAnyH_ready (rs := [0]) (by kernel_rfl) (by simp) ?_
  refine AllReadyH.cons (o := _) rfl (fun K hK => ?_) AllReadyH.nil
  go_simp
  skip
  refine hK.out _ _ ?_ (fun hHeld => ?_)
  · exact h1
  clear hK K
  try simp only [Act.put, List.setIfInBounds_toArray, List.set_cons_zero, List.set_cons_succ]
  refine wpAnyH_ready (rs := [7]) (by kernel_rfl) (by simp) ?_
  refine AllReadyH.cons (o := _) rfl (fun K hK => ?_) AllReadyH.nil
  go_simp
  have HG3 := Lib.hid HG2.out.drew
  clear HG2
  refine (HGo.out _).mono ?_
  rintro e V3 ⟨rfl, hb⟩
  have HG4 := Lib.hid (HG3.out.below hb)
  clear hHeld hb HG3 HGo h1 c0 c1 c2 c3 c4 c5 c6 c7 c8 cf
  obtain ⟨c0, c1, c2, c3, c4, c5, c6, c7, c8, cf⟩ := HG4.out.cellsY
  dsimp only at c0 c1 c2 c3 c4 c5 c6 c7 c8
  obtain ⟨_, ⟨h1, _, _, _⟩, _⟩ := HG4.out.hand.cells
  refine hK.out _ _ ?_ (fun hHeld => ?_)
  · exact h1
  clear hK K
  try simp only [Act.put, List.setIfInBounds_toArray, List.set_cons_zero, List.set_cons_succ]
  refine tk 8 rfl hHeld ?_
  refine tk 9 rfl hHeld ?_
  refine tk 10 rfl hHeld ?_
  refine wpAnyH_ready (rs := [11]) (by kernel_rfl) (by simp) ?_
  refine AllReadyH.cons (o := _) rfl (fun K hK => ?_) AllReadyH.nil
  go_simp
  have HG5 : Hid (ColG w (((((((((V3.setCell ⟨w.heap.size + 1, 0, none⟩ (.int .i64 y.l)).setCell ⟨w.heap.size + 1, 1, none⟩ (.int .i64 y.j)).setCell ⟨w.heap.size + 1, 2, none⟩ (.int .i64 y.c)).setCell ⟨w.heap.size + 1, 3, none⟩ (.int .i64 y.m)).setCell ⟨w.heap.size + 1, 4, none⟩ (.int .u64 y.a)).setCell ⟨w.heap.size + 1, 5, none⟩ (.int .u64 y.p)).setCell ⟨w.heap.size + 1, 6, none⟩ (.bool y.fd)).setCell ⟨w.heap.size + 1, 7, none⟩ (.int .i64 y.tl)).setCell ⟨w.heap.size + 1, 8, none⟩ (.int .i64 y.cy)) H A G C s' ⟨l, j, c, m, a, p, fd, tl, cy⟩ y) := Lib.hid (HG4.out.putY y)
  clear hHeld HG4 h1 c0 c1 c2 c3 c4 c5 c6 c7 c8 cf
  obtain ⟨_, ⟨h1, _, _, _⟩, _⟩ := HG5.out.hand.cells
  refine hK.out _ _ ?_ (fun hHeld => ?_)
  · exact h1
  clear hK K
  try simp only [Act.put, List.setIfInBounds_toArray, List.set_cons_zero, List.set_cons_succ]
  refine tk 12 rfl hHeld ?_
  refine wpAnyH_done (by kernel_rfl) ?_ _
  clear hHeld h1
  generalize ((((((((V3.setCell ⟨w.heap.size + 1, 0, none⟩ (.int .i64 y.l)).setCell ⟨w.heap.size + 1, 1, none⟩ (.int .i64 y.j)).setCell ⟨w.heap.size + 1, 2, none⟩ (.int .i64 y.c)).setCell ⟨w.heap.size + 1, 3, none⟩ (.int .i64 y.m)).setCell ⟨w.heap.size + 1, 4, none⟩ (.int .u64 y.a)).setCell ⟨w.heap.size + 1, 5, none⟩ (.int .u64 y.p)).setCell ⟨w.heap.size + 1, 6, none⟩ (.bool y.fd)).setCell ⟨w.heap.size + 1, 7, none⟩ (.int .i64 y.tl)).setCell ⟨w.heap.size + 1, 8, none⟩ (.int .i64 y.cy) = W5 at *
  obtain ⟨c0, c1, c2, c3, c4, c5, c6, c7, c8, cf⟩ := HG5.out.cellsY
  have HGe := Lib.hid (HG5.out.putY ⟨y.l, y.j, y.c, y.m, y.a, y.p, y.fd, y.tl, y.cy⟩)
  obtain ⟨s0, s1, s2, s3, s4, s5, s6, s7, s8, sf⟩ := HGe.out.cellsY
  dsimp only at s0 s1 s2 s3 s4 s5 s6 s7 s8
  go_wp2_with fail
  refine bodyPost_ret (v := .tuple #[(colV y.l y.j y.c y.m y.a y.p y.fd y.tl y.cy), .int .i64 3, .bool true]) (by simp [results, Tryz.f107, go_sem, s0, s1, s2, s3, s4, s5, s6, s7, s8]) rfl ?_
  exact ⟨rfl, HGe.out.hand, HGe.out.sav⟩
set_option maxHeartbeats 3200000 in
theorem sw_app_more {w : World} {H A G : Nat} {C : Cf} {s s' : Dy} (hH : HAt w H A G C s) (hS : SpansAt w) (hn : 0 < C.n) (hr : Right C.a C.b C.c C.d) (l j c m a p : Int) (fd : Bool) (tl cy : Int) (l' j' c' m' a' p' : Int) (fd' : Bool) (tl' cy' : Int) (hdo : ∀ W, HAt W H A G C s → SpansAt W → Calls Tryz.prog 135 #[.pointer (some ⟨H, 0, none⟩), (colV l j c m a p fd tl cy)] W (HP W H A G C s' (.tuple #[(colV l' j' c' m' a' p' fd' tl' cy'), .int .i64 3]))) (hc : -1000000000000 ≤ c' ∧ c' ≤ 1000000000000) (hy : -1000000000000 ≤ cy' ∧ cy' ≤ 1000000000000) (hm : c' + 1 < C.a) :
    Calls Tryz.prog 107 #[.pointer (some ⟨H, 0, none⟩), (colV l j c m a p fd tl cy)] w (HP w H A G C s' (.tuple #[(nextSwept C ⟨l', j', c', m', a', p', fd', tl', cy'⟩).v, .int .i64 2, .bool true])) := by
  have HG0 := Lib.hid (ColG.start (ColF.start hH ⟨l, j, c, m, a, p, fd, tl, cy⟩))
  have HDo := Lib.hid hdo
  have HSP : Hid (∀ W s1 x1 y1, ColG w W H A G C s1 x1 y1 → SpansAt W) := Lib.hid (fun W s1 x1 y1 h => spans_sav hn hS hH h.sav)
  obtain ⟨y, hyy⟩ : ∃ y, nextSwept C ⟨l', j', c', m', a', p', fd', tl', cy'⟩ = y := ⟨_, rfl⟩
  have HGo : Hid (∀ W, Calls Tryz.prog 136 #[(colV l' j' c' m' a' p' fd' tl' cy'), .int .i64 C.a] W fun e w' => e = .returned (.tuple #[y.v, .bool false]) ∧ Below W.heap.size W w') := Lib.hid (fun W => by have := sgo_c C hr l' j' c' m' a' p' fd' tl' cy' hc hy W; rw [decide_eq_false (fun q => q hm), hyy] at this; exact this)
  rw [hyy]
  clear hyy hc hy hm hr
  clear hH hS hn hdo
  obtain ⟨a0, a1, a2, a3, a4, a5, a6, a7, a8, af⟩ := HG0.out.cells
  dsimp only at a0 a1 a2 a3 a4 a5 a6 a7 a8
  go_enter Tryz.func107, Tryz.ntmps107
  go_wp2_with fail
  refine (HDo.out _ HG0.out.hand (HSP.out _ _ _ _ HG0.out)).mono ?_
  rintro e V1 ⟨rfl, hF, hs⟩
  have HG1 := Lib.hid (HG0.out.handed hF hs)
  clear hF hs HDo HG0 a0 a1 a2 a3 a4 a5 a6 a7 a8 af
  obtain ⟨c0, c1, c2, c3, c4, c5, c6, c7, c8, cf⟩ := HG1.out.cellsY
  dsimp only at c0 c1 c2 c3 c4 c5 c6 c7 c8
  go_upto_region 5 with fail
  clear c0 c1 c2 c3 c4 c5 c6 c7 c8 cf
  have HG2 : Hid (ColG w (((((((((V1.setCell ⟨w.heap.size + 1, 0, none⟩ (.int .i64 l')).setCell ⟨w.heap.size + 1, 1, none⟩ (.int .i64 j')).setCell ⟨w.heap.size + 1, 2, none⟩ (.int .i64 c')).setCell ⟨w.heap.size + 1, 3, none⟩ (.int .i64 m')).setCell ⟨w.heap.size + 1, 4, none⟩ (.int .u64 a')).setCell ⟨w.heap.size + 1, 5, none⟩ (.int .u64 p')).setCell ⟨w.heap.size + 1, 6, none⟩ (.bool fd')).setCell ⟨w.heap.size + 1, 7, none⟩ (.int .i64 tl')).setCell ⟨w.heap.size + 1, 8, none⟩ (.int .i64 cy')) H A G C s' ⟨l, j, c, m, a, p, fd, tl, cy⟩ ⟨l', j', c', m', a', p', fd', tl', cy'⟩) := Lib.hid (HG1.out.putY ⟨l', j', c', m', a', p', fd', tl', cy'⟩)
  clear HG1
  generalize ((((((((V1.setCell ⟨w.heap.size + 1, 0, none⟩ (.int .i64 l')).setCell ⟨w.heap.size + 1, 1, none⟩ (.int .i64 j')).setCell ⟨w.heap.size + 1, 2, none⟩ (.int .i64 c')).setCell ⟨w.heap.size + 1, 3, none⟩ (.int .i64 m')).setCell ⟨w.heap.size + 1, 4, none⟩ (.int .u64 a')).setCell ⟨w.heap.size + 1, 5, none⟩ (.int .u64 p')).setCell ⟨w.heap.size + 1, 6, none⟩ (.bool fd')).setCell ⟨w.heap.size + 1, 7, none⟩ (.int .i64 tl')).setCell ⟨w.heap.size + 1, 8, none⟩ (.int .i64 cy') = W2 at *
  obtain ⟨c0, c1, c2, c3, c4, c5, c6, c7, c8, cf⟩ := HG2.out.cellsY
  dsimp only at c0 c1 c2 c3 c4 c5 c6 c7 c8
  obtain ⟨_, ⟨h1, _, _, _⟩, _⟩ := HG2.out.hand.cells
  go_wp2_with fail
  refine wp_region_held_drew (S := (fun w' => w'.cell? ⟨H, 1, none⟩ = some (.int .i64 C.a))) (by kernel_rfl) ?_ (fun hHeld => ?_)
  · exact h1
  refine tk 1 rfl hHeld ?_
  refine tk 2 rfl hHeld ?_
  refine tk 3 rfl hHeld ?_
  refine tk 4 rfl hHeld ?_
  refine tk 5 rfl hHeld ?_
  refine tk 6 rfl hHeld ?_
  refine wpAnyH_ready (rs := [0]) (by kernel_rfl) (by simp) ?_
  refine AllReadyH.cons (o := _) rfl (fun K hK => ?_) AllReadyH.nil
  go_simp
  skip
  refine hK.out _ _ ?_ (fun hHeld => ?_)
  · exact h1
  clear hK K
  try simp only [Act.put, List.setIfInBounds_toArray, List.set_cons_zero, List.set_cons_succ]
  refine wpAnyH_ready (rs := [7]) (by kernel_rfl) (by simp) ?_
  refine AllReadyH.cons (o := _) rfl (fun K hK => ?_) AllReadyH.nil
  go_simp
  have HG3 := Lib.hid HG2.out.drew
  clear HG2
  refine (HGo.out _).mono ?_
  rintro e V3 ⟨rfl, hb⟩
  have HG4 := Lib.hid (HG3.out.below hb)
  clear hHeld hb HG3 HGo h1 c0 c1 c2 c3 c4 c5 c6 c7 c8 cf
  obtain ⟨c0, c1, c2, c3, c4, c5, c6, c7, c8, cf⟩ := HG4.out.cellsY
  dsimp only at c0 c1 c2 c3 c4 c5 c6 c7 c8
  obtain ⟨_, ⟨h1, _, _, _⟩, _⟩ := HG4.out.hand.cells
  refine hK.out _ _ ?_ (fun hHeld => ?_)
  · exact h1
  clear hK K
  try simp only [Act.put, List.setIfInBounds_toArray, List.set_cons_zero, List.set_cons_succ]
  refine tk 8 rfl hHeld ?_
  refine tk 9 rfl hHeld ?_
  refine tk 10 rfl hHeld ?_
  refine wpAnyH_ready (rs := [11]) (by kernel_rfl) (by simp) ?_
  refine AllReadyH.cons (o := _) rfl (fun K hK => ?_) AllReadyH.nil
  go_simp
  have HG5 : Hid (ColG w (((((((((V3.setCell ⟨w.heap.size + 1, 0, none⟩ (.int .i64 y.l)).setCell ⟨w.heap.size + 1, 1, none⟩ (.int .i64 y.j)).setCell ⟨w.heap.size + 1, 2, none⟩ (.int .i64 y.c)).setCell ⟨w.heap.size + 1, 3, none⟩ (.int .i64 y.m)).setCell ⟨w.heap.size + 1, 4, none⟩ (.int .u64 y.a)).setCell ⟨w.heap.size + 1, 5, none⟩ (.int .u64 y.p)).setCell ⟨w.heap.size + 1, 6, none⟩ (.bool y.fd)).setCell ⟨w.heap.size + 1, 7, none⟩ (.int .i64 y.tl)).setCell ⟨w.heap.size + 1, 8, none⟩ (.int .i64 y.cy)) H A G C s' ⟨l, j, c, m, a, p, fd, tl, cy⟩ y) := Lib.hid (HG4.out.putY y)
  clear hHeld HG4 h1 c0 c1 c2 c3 c4 c5 c6 c7 c8 cf
  obtain ⟨_, ⟨h1, _, _, _⟩, _⟩ := HG5.out.hand.cells
  refine hK.out _ _ ?_ (fun hHeld => ?_)
  · exact h1
  clear hK K
  try simp only [Act.put, List.setIfInBounds_toArray, List.set_cons_zero, List.set_cons_succ]
  refine tk 12 rfl hHeld ?_
  refine wpAnyH_done (by kernel_rfl) ?_ _
  clear hHeld h1
  generalize ((((((((V3.setCell ⟨w.heap.size + 1, 0, none⟩ (.int .i64 y.l)).setCell ⟨w.heap.size + 1, 1, none⟩ (.int .i64 y.j)).setCell ⟨w.heap.size + 1, 2, none⟩ (.int .i64 y.c)).setCell ⟨w.heap.size + 1, 3, none⟩ (.int .i64 y.m)).setCell ⟨w.heap.size + 1, 4, none⟩ (.int .u64 y.a)).setCell ⟨w.heap.size + 1, 5, none⟩ (.int .u64 y.p)).setCell ⟨w.heap.size + 1, 6, none⟩ (.bool y.fd)).setCell ⟨w.heap.size + 1, 7, none⟩ (.int .i64 y.tl)).setCell ⟨w.heap.size + 1, 8, none⟩ (.int .i64 y.cy) = W5 at *
  obtain ⟨c0, c1, c2, c3, c4, c5, c6, c7, c8, cf⟩ := HG5.out.cellsY
  have HGe := Lib.hid (HG5.out.putY ⟨y.l, y.j, y.c, y.m, y.a, y.p, y.fd, y.tl, y.cy⟩)
  obtain ⟨s0, s1, s2, s3, s4, s5, s6, s7, s8, sf⟩ := HGe.out.cellsY
  dsimp only at s0 s1 s2 s3 s4 s5 s6 s7 s8
  go_wp2_with fail
  refine bodyPost_ret (v := .tuple #[(colV y.l y.j y.c y.m y.a y.p y.fd y.tl y.cy), .int .i64 2, .bool true]) (by simp [results, Tryz.f107, go_sem, s0, s1, s2, s3, s4, s5, s6, s7, s8]) rfl ?_
  exact ⟨rfl, HGe.out.hand, HGe.out.sav⟩
set_option maxHeartbeats 3200000 in
theorem sw_app_over {w : World} {H A G : Nat} {C : Cf} {s s' : Dy} (hH : HAt w H A G C s) (hS : SpansAt w) (hn : 0 < C.n) (hr : Right C.a C.b C.c C.d) (l j c m a p : Int) (fd : Bool) (tl cy : Int) (l' j' c' m' a' p' : Int) (fd' : Bool) (tl' cy' : Int) (hdo : ∀ W, HAt W H A G C s → SpansAt W → Calls Tryz.prog 135 #[.pointer (some ⟨H, 0, none⟩), (colV l j c m a p fd tl cy)] W (HP W H A G C s' (.tuple #[(colV l' j' c' m' a' p' fd' tl' cy'), .int .i64 3]))) (hc : -1000000000000 ≤ c' ∧ c' ≤ 1000000000000) (hy : -1000000000000 ≤ cy' ∧ cy' ≤ 1000000000000) (hm : ¬ c' + 1 < C.a) :
    Calls Tryz.prog 107 #[.pointer (some ⟨H, 0, none⟩), (colV l j c m a p fd tl cy)] w (HP w H A G C s' (.tuple #[(nextSwept C ⟨l', j', c', m', a', p', fd', tl', cy'⟩).v, .int .i64 5, .bool true])) := by
  have HG0 := Lib.hid (ColG.start (ColF.start hH ⟨l, j, c, m, a, p, fd, tl, cy⟩))
  have HDo := Lib.hid hdo
  have HSP : Hid (∀ W s1 x1 y1, ColG w W H A G C s1 x1 y1 → SpansAt W) := Lib.hid (fun W s1 x1 y1 h => spans_sav hn hS hH h.sav)
  obtain ⟨y, hyy⟩ : ∃ y, nextSwept C ⟨l', j', c', m', a', p', fd', tl', cy'⟩ = y := ⟨_, rfl⟩
  have HGo : Hid (∀ W, Calls Tryz.prog 136 #[(colV l' j' c' m' a' p' fd' tl' cy'), .int .i64 C.a] W fun e w' => e = .returned (.tuple #[y.v, .bool true]) ∧ Below W.heap.size W w') := Lib.hid (fun W => by have := sgo_c C hr l' j' c' m' a' p' fd' tl' cy' hc hy W; rw [decide_eq_true hm, hyy] at this; exact this)
  rw [hyy]
  clear hyy hc hy hm hr
  clear hH hS hn hdo
  obtain ⟨a0, a1, a2, a3, a4, a5, a6, a7, a8, af⟩ := HG0.out.cells
  dsimp only at a0 a1 a2 a3 a4 a5 a6 a7 a8
  go_enter Tryz.func107, Tryz.ntmps107
  go_wp2_with fail
  refine (HDo.out _ HG0.out.hand (HSP.out _ _ _ _ HG0.out)).mono ?_
  rintro e V1 ⟨rfl, hF, hs⟩
  have HG1 := Lib.hid (HG0.out.handed hF hs)
  clear hF hs HDo HG0 a0 a1 a2 a3 a4 a5 a6 a7 a8 af
  obtain ⟨c0, c1, c2, c3, c4, c5, c6, c7, c8, cf⟩ := HG1.out.cellsY
  dsimp only at c0 c1 c2 c3 c4 c5 c6 c7 c8
  go_upto_region 5 with fail
  clear c0 c1 c2 c3 c4 c5 c6 c7 c8 cf
  have HG2 : Hid (ColG w (((((((((V1.setCell ⟨w.heap.size + 1, 0, none⟩ (.int .i64 l')).setCell ⟨w.heap.size + 1, 1, none⟩ (.int .i64 j')).setCell ⟨w.heap.size + 1, 2, none⟩ (.int .i64 c')).setCell ⟨w.heap.size + 1, 3, none⟩ (.int .i64 m')).setCell ⟨w.heap.size + 1, 4, none⟩ (.int .u64 a')).setCell ⟨w.heap.size + 1, 5, none⟩ (.int .u64 p')).setCell ⟨w.heap.size + 1, 6, none⟩ (.bool fd')).setCell ⟨w.heap.size + 1, 7, none⟩ (.int .i64 tl')).setCell ⟨w.heap.size + 1, 8, none⟩ (.int .i64 cy')) H A G C s' ⟨l, j, c, m, a, p, fd, tl, cy⟩ ⟨l', j', c', m', a', p', fd', tl', cy'⟩) := Lib.hid (HG1.out.putY ⟨l', j', c', m', a', p', fd', tl', cy'⟩)
  clear HG1
  generalize ((((((((V1.setCell ⟨w.heap.size + 1, 0, none⟩ (.int .i64 l')).setCell ⟨w.heap.size + 1, 1, none⟩ (.int .i64 j')).setCell ⟨w.heap.size + 1, 2, none⟩ (.int .i64 c')).setCell ⟨w.heap.size + 1, 3, none⟩ (.int .i64 m')).setCell ⟨w.heap.size + 1, 4, none⟩ (.int .u64 a')).setCell ⟨w.heap.size + 1, 5, none⟩ (.int .u64 p')).setCell ⟨w.heap.size + 1, 6, none⟩ (.bool fd')).setCell ⟨w.heap.size + 1, 7, none⟩ (.int .i64 tl')).setCell ⟨w.heap.size + 1, 8, none⟩ (.int .i64 cy') = W2 at *
  obtain ⟨c0, c1, c2, c3, c4, c5, c6, c7, c8, cf⟩ := HG2.out.cellsY
  dsimp only at c0 c1 c2 c3 c4 c5 c6 c7 c8
  obtain ⟨_, ⟨h1, _, _, _⟩, _⟩ := HG2.out.hand.cells
  go_wp2_with fail
  refine wp_region_held_drew (S := (fun w' => w'.cell? ⟨H, 1, none⟩ = some (.int .i64 C.a))) (by kernel_rfl) ?_ (fun hHeld => ?_)
  · exact h1
  refine tk 1 rfl hHeld ?_
  refine tk 2 rfl hHeld ?_
  refine tk 3 rfl hHeld ?_
  refine tk 4 rfl hHeld ?_
  refine tk 5 rfl hHeld ?_
  refine tk 6 rfl hHeld ?_
  refine wpAnyH_ready (rs := [0]) (by kernel_rfl) (by simp) ?_
  refine AllReadyH.cons (o := _) rfl (fun K hK => ?_) AllReadyH.nil
  go_simp
  skip
  refine hK.out _ _ ?_ (fun hHeld => ?_)
  · exact h1
  clear hK K
  try simp only [Act.put, List.setIfInBounds_toArray, List.set_cons_zero, List.set_cons_succ]
  refine wpAnyH_ready (rs := [7]) (by kernel_rfl) (by simp) ?_
  refine AllReadyH.cons (o := _) rfl (fun K hK => ?_) AllReadyH.nil
  go_simp
  have HG3 := Lib.hid HG2.out.drew
  clear HG2
  refine (HGo.out _).mono ?_
  rintro e V3 ⟨rfl, hb⟩
  have HG4 := Lib.hid (HG3.out.below hb)
  clear hHeld hb HG3 HGo h1 c0 c1 c2 c3 c4 c5 c6 c7 c8 cf
  obtain ⟨c0, c1, c2, c3, c4, c5, c6, c7, c8, cf⟩ := HG4.out.cellsY
  dsimp only at c0 c1 c2 c3 c4 c5 c6 c7 c8
  obtain ⟨_, ⟨h1, _, _, _⟩, _⟩ := HG4.out.hand.cells
  refine hK.out _ _ ?_ (fun hHeld => ?_)
  · exact h1
  clear hK K
  try simp only [Act.put, List.setIfInBounds_toArray, List.set_cons_zero, List.set_cons_succ]
  refine tk 8 rfl hHeld ?_
  refine tk 9 rfl hHeld ?_
  refine tk 10 rfl hHeld ?_
  refine wpAnyH_ready (rs := [11]) (by kernel_rfl) (by simp) ?_
  refine AllReadyH.cons (o := _) rfl (fun K hK => ?_) AllReadyH.nil
  go_simp
  have HG5 : Hid (ColG w (((((((((V3.setCell ⟨w.heap.size + 1, 0, none⟩ (.int .i64 y.l)).setCell ⟨w.heap.size + 1, 1, none⟩ (.int .i64 y.j)).setCell ⟨w.heap.size + 1, 2, none⟩ (.int .i64 y.c)).setCell ⟨w.heap.size + 1, 3, none⟩ (.int .i64 y.m)).setCell ⟨w.heap.size + 1, 4, none⟩ (.int .u64 y.a)).setCell ⟨w.heap.size + 1, 5, none⟩ (.int .u64 y.p)).setCell ⟨w.heap.size + 1, 6, none⟩ (.bool y.fd)).setCell ⟨w.heap.size + 1, 7, none⟩ (.int .i64 y.tl)).setCell ⟨w.heap.size + 1, 8, none⟩ (.int .i64 y.cy)) H A G C s' ⟨l, j, c, m, a, p, fd, tl, cy⟩ y) := Lib.hid (HG4.out.putY y)
  clear hHeld HG4 h1 c0 c1 c2 c3 c4 c5 c6 c7 c8 cf
  obtain ⟨_, ⟨h1, _, _, _⟩, _⟩ := HG5.out.hand.cells
  refine hK.out _ _ ?_ (fun hHeld => ?_)
  · exact h1
  clear hK K
  try simp only [Act.put, List.setIfInBounds_toArray, List.set_cons_zero, List.set_cons_succ]
  refine tk 12 rfl hHeld ?_
  refine wpAnyH_done (by kernel_rfl) ?_ _
  clear hHeld h1
  generalize ((((((((V3.setCell ⟨w.heap.size + 1, 0, none⟩ (.int .i64 y.l)).setCell ⟨w.heap.size + 1, 1, none⟩ (.int .i64 y.j)).setCell ⟨w.heap.size + 1, 2, none⟩ (.int .i64 y.c)).setCell ⟨w.heap.size + 1, 3, none⟩ (.int .i64 y.m)).setCell ⟨w.heap.size + 1, 4, none⟩ (.int .u64 y.a)).setCell ⟨w.heap.size + 1, 5, none⟩ (.int .u64 y.p)).setCell ⟨w.heap.size + 1, 6, none⟩ (.bool y.fd)).setCell ⟨w.heap.size + 1, 7, none⟩ (.int .i64 y.tl)).setCell ⟨w.heap.size + 1, 8, none⟩ (.int .i64 y.cy) = W5 at *
  obtain ⟨c0, c1, c2, c3, c4, c5, c6, c7, c8, cf⟩ := HG5.out.cellsY
  have HGe := Lib.hid (HG5.out.putY ⟨y.l, y.j, y.c, y.m, y.a, y.p, y.fd, y.tl, y.cy⟩)
  obtain ⟨s0, s1, s2, s3, s4, s5, s6, s7, s8, sf⟩ := HGe.out.cellsY
  dsimp only at s0 s1 s2 s3 s4 s5 s6 s7 s8
  go_wp2_with fail
  refine bodyPost_ret (v := .tuple #[(colV y.l y.j y.c y.m y.a y.p y.fd y.tl y.cy), .int .i64 5, .bool true]) (by simp [results, Tryz.f107, go_sem, s0, s1, s2, s3, s4, s5, s6, s7, s8]) rfl ?_
  exact ⟨rfl, HGe.out.hand, HGe.out.sav⟩
end Go.Proofs.YtbpooljohjkbjaaGreatDoor
