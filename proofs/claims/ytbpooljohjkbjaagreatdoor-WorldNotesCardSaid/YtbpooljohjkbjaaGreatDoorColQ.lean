/- The list of functions that do the lines; the functions in it. -/
import Derived.Test.YtbpooljohjkbjaaGreatDoorM9
import Derived.Test.YtbpooljohjkbjaaGreatDoorSweepDoB
namespace Go.Proofs.YtbpooljohjkbjaaGreatDoor
open Go Go.RowKit
set_option maxRecDepth 100000
attribute [local go_sem ↓] Go.wp_at_zero Go.wp_at_succ
structure LayAt (W : World) (Q : Nat) : Prop where
  q0 : W.heap[Q]? = some (.cells #[(.func (.func 104) #[] #[])] 163 (0, 0))
  q1 : W.heap[Q + 1]? = some (.cells #[(.func (.func 105) #[] #[])] 163 (0, 0))
  q2 : W.heap[Q + 1 + 1]? = some (.cells #[(.func (.func 122) #[] #[.pointer (some ⟨Q, 0, none⟩)]), (.func (.func 122) #[] #[.pointer (some ⟨(Q + 1), 0, none⟩)]), (.func (.func 106) #[] #[]), (.func (.func 107) #[] #[])] 137 (0, 0))
namespace LayAt
variable {W V : World} {Q : Nat} {S : Nat → Prop}
theorem lt (h : LayAt W Q) : Q + 1 + 1 < W.heap.size := (Array.getElem?_eq_some_iff.1 h.q2).1
theorem keep (h : LayAt W Q) (hs : Sav S W V) (h0 : ¬ S Q) (h1 : ¬ S (Q + 1)) (h2 : ¬ S (Q + 1 + 1)) : LayAt V Q :=
  have := h.lt
  ⟨(hs.block Q (by omega) h0).trans h.q0, (hs.block (Q + 1) (by omega) h1).trans h.q1, (hs.block (Q + 1 + 1) (by omega) h2).trans h.q2⟩
theorem below (h : LayAt W Q) (hb : Below W.heap.size W V) : LayAt V Q := h.keep (S := fun _ => False) (Sav.of hb) id id id
theorem new (w : World) : LayAt (((w.alloc (.cells #[(.func (.func 104) #[] #[])] 163)).alloc (.cells #[(.func (.func 105) #[] #[])] 163)).alloc (.cells #[(.func (.func 122) #[] #[.pointer (some ⟨w.heap.size, 0, none⟩)]), (.func (.func 122) #[] #[.pointer (some ⟨(w.heap.size + 1), 0, none⟩)]), (.func (.func 106) #[] #[]), (.func (.func 107) #[] #[])] 137)) w.heap.size := by
  have z1 : (w.alloc (.cells #[(.func (.func 104) #[] #[])] 163)).heap.size = w.heap.size + 1 := by simp
  have z2 : ((w.alloc (.cells #[(.func (.func 104) #[] #[])] 163)).alloc (.cells #[(.func (.func 105) #[] #[])] 163)).heap.size = w.heap.size + 1 + 1 := by simp
  have n0 : (w.alloc (.cells #[(.func (.func 104) #[] #[])] 163)).heap[w.heap.size]? = some (.cells #[(.func (.func 104) #[] #[])] 163 (0, 0)) := newBlock _ _
  have n1 := newBlock (w.alloc (.cells #[(.func (.func 104) #[] #[])] 163)) (.cells #[(.func (.func 105) #[] #[])] 163)
  have n2 := newBlock ((w.alloc (.cells #[(.func (.func 104) #[] #[])] 163)).alloc (.cells #[(.func (.func 105) #[] #[])] 163)) (.cells #[(.func (.func 122) #[] #[.pointer (some ⟨w.heap.size, 0, none⟩)]), (.func (.func 122) #[] #[.pointer (some ⟨(w.heap.size + 1), 0, none⟩)]), (.func (.func 106) #[] #[]), (.func (.func 107) #[] #[])] 137)
  rw [z1] at n1; rw [z2] at n2
  have b1 := below_new (w.alloc (.cells #[(.func (.func 104) #[] #[])] 163)) (.cells #[(.func (.func 105) #[] #[])] 163)
  have b2 := below_new ((w.alloc (.cells #[(.func (.func 104) #[] #[])] 163)).alloc (.cells #[(.func (.func 105) #[] #[])] 163)) (.cells #[(.func (.func 122) #[] #[.pointer (some ⟨w.heap.size, 0, none⟩)]), (.func (.func 122) #[] #[.pointer (some ⟨(w.heap.size + 1), 0, none⟩)]), (.func (.func 106) #[] #[]), (.func (.func 107) #[] #[])] 137)
  rw [z1] at b1; rw [z2] at b2
  exact ⟨(b2.block _ (by omega)).trans ((b1.block _ (by omega)).trans n0), (b2.block _ (by omega)).trans n1, n2⟩
end LayAt
theorem quiet_c (n : Nat) (w : World) :
    Calls Tryz.prog 103 #[.func (.func n) #[] #[]] w fun e w' => e = .returned (.func (.func 122) #[] #[.pointer (some ⟨w.heap.size, 0, none⟩)]) ∧ w' = w.alloc (.cells #[.func (.func n) #[] #[]] 163) := by
  have hmf : ∀ (fn : Fn) (first cap : Array Value) (w : World), (Instr.makeFunc fn first cap).run Tryz.prog w = .ok (.func fn first cap) w := fun _ _ _ _ => rfl
  go_enter Tryz.func103, Tryz.ntmps103
  go_wp2_with fail
  go_ret
  exact ⟨rfl, rfl⟩
theorem layers_c (w : World) :
    Calls Tryz.prog 79 #[] w fun e w' => e = .returned (.slice (some ⟨w.heap.size + 1 + 1, 0, none⟩) 4 4) ∧ Below w.heap.size w w' ∧ LayAt w' w.heap.size := by
  have HQ := Lib.hid (fun n W => quiet_c n W)
  have HL := Lib.hid (LayAt.new w)
  have HB := Lib.hid (below_on (below_on (below_new w (.cells #[(.func (.func 104) #[] #[])] 163)) (.cells #[(.func (.func 105) #[] #[])] 163)) (.cells #[(.func (.func 122) #[] #[.pointer (some ⟨w.heap.size, 0, none⟩)]), (.func (.func 122) #[] #[.pointer (some ⟨(w.heap.size + 1), 0, none⟩)]), (.func (.func 106) #[] #[]), (.func (.func 107) #[] #[])] 137))
  go_enter Tryz.func79, Tryz.ntmps79
  go_wp2_with fail
  refine (HQ.out _ _).mono ?_
  rintro e W2 ⟨rfl, rfl⟩
  go_wp2_with fail
  refine (HQ.out _ _).mono ?_
  rintro e W2 ⟨rfl, rfl⟩
  go_wp2_with fail
  go_ret
  exact ⟨rfl, HB.out, HL.out⟩
set_option maxHeartbeats 3200000 in
theorem quiet1r_c {w : World} {H A G : Nat} {C : Cf} {s s' : Dy} (hH : HAt w H A G C s) (hS : SpansAt w) (hn : 0 < C.n) {Q : Nat} (hq : w.heap[Q]? = some (.cells #[.func (.func 104) #[] #[]] 163 (0, 0))) (l j c m a p : Int) (fd : Bool) (tl cy : Int) (l' j' c' m' a' p' : Int) (fd' : Bool) (tl' cy' : Int) (ok : Bool) (hdo : ∀ W, HAt W H A G C s → SpansAt W → Calls Tryz.prog 104 #[.pointer (some ⟨H, 0, none⟩), (colV l j c m a p fd tl cy)] W (HP W H A G C s' (.tuple #[(colV l' j' c' m' a' p' fd' tl' cy'), .bool ok]))) :
    Calls Tryz.prog 122 #[.pointer (some ⟨H, 0, none⟩), (colV l j c m a p fd tl cy), .pointer (some ⟨Q, 0, none⟩)] w (HP w H A G C s' (.tuple #[(colV l' j' c' m' a' p' fd' tl' cy'), .int .i64 0, .bool ok])) := by
  have HG0 := Lib.hid (ColG.start (ColF.start hH ⟨l, j, c, m, a, p, fd, tl, cy⟩))
  have HDo := Lib.hid hdo
  have HSP : Hid (∀ W s1 x1 y1, ColG w W H A G C s1 x1 y1 → SpansAt W) := Lib.hid (fun W s1 x1 y1 h => spans_sav hn hS hH h.sav)
  have hq2 : ((w.alloc (.cells #[.int .i64 l, .int .i64 j, .int .i64 c, .int .i64 m, .int .u64 a, .int .u64 p, .bool fd, .int .i64 tl, .int .i64 cy] 49)).alloc (.cells #[.int .i64 0, .int .i64 0, .int .i64 0, .int .i64 0, .int .u64 0, .int .u64 0, .bool false, .int .i64 0, .int .i64 0] 49)).cell? ⟨Q, 0, none⟩ = some (.func (.func 104) #[] #[]) := by
    have h := ((below_on (below_new w (.cells #[.int .i64 l, .int .i64 j, .int .i64 c, .int .i64 m, .int .u64 a, .int .u64 p, .bool fd, .int .i64 tl, .int .i64 cy] 49)) (.cells #[.int .i64 0, .int .i64 0, .int .i64 0, .int .i64 0, .int .u64 0, .int .u64 0, .bool false, .int .i64 0, .int .i64 0] 49)).block Q (Array.getElem?_eq_some_iff.1 hq).1).trans hq
    simp [World.cell?, h]
  clear hH hS hn hdo hq
  obtain ⟨a0, a1, a2, a3, a4, a5, a6, a7, a8, af⟩ := HG0.out.cells
  dsimp only at a0 a1 a2 a3 a4 a5 a6 a7 a8
  go_enter Tryz.func122, Tryz.ntmps122
  go_wp2_with fail
  refine (HDo.out _ HG0.out.hand (HSP.out _ _ _ _ HG0.out)).mono ?_
  rintro e V1 ⟨rfl, hF, hs⟩
  have HG1 := Lib.hid (HG0.out.handed hF hs)
  clear hF hs HDo HG0 hq2 a0 a1 a2 a3 a4 a5 a6 a7 a8 af
  obtain ⟨c0, c1, c2, c3, c4, c5, c6, c7, c8, cf⟩ := HG1.out.cellsY
  dsimp only at c0 c1 c2 c3 c4 c5 c6 c7 c8
  go_upto_region 2 with fail
  clear c0 c1 c2 c3 c4 c5 c6 c7 c8 cf
  have HG2 : Hid (ColG w (((((((((V1.setCell ⟨w.heap.size + 1, 0, none⟩ (.int .i64 l')).setCell ⟨w.heap.size + 1, 1, none⟩ (.int .i64 j')).setCell ⟨w.heap.size + 1, 2, none⟩ (.int .i64 c')).setCell ⟨w.heap.size + 1, 3, none⟩ (.int .i64 m')).setCell ⟨w.heap.size + 1, 4, none⟩ (.int .u64 a')).setCell ⟨w.heap.size + 1, 5, none⟩ (.int .u64 p')).setCell ⟨w.heap.size + 1, 6, none⟩ (.bool fd')).setCell ⟨w.heap.size + 1, 7, none⟩ (.int .i64 tl')).setCell ⟨w.heap.size + 1, 8, none⟩ (.int .i64 cy')) H A G C s' ⟨l, j, c, m, a, p, fd, tl, cy⟩ ⟨l', j', c', m', a', p', fd', tl', cy'⟩) := Lib.hid (HG1.out.putY ⟨l', j', c', m', a', p', fd', tl', cy'⟩)
  clear HG1
  generalize (((((((((V1.setCell ⟨w.heap.size + 1, 0, none⟩ (.int .i64 l')).setCell ⟨w.heap.size + 1, 1, none⟩ (.int .i64 j')).setCell ⟨w.heap.size + 1, 2, none⟩ (.int .i64 c')).setCell ⟨w.heap.size + 1, 3, none⟩ (.int .i64 m')).setCell ⟨w.heap.size + 1, 4, none⟩ (.int .u64 a')).setCell ⟨w.heap.size + 1, 5, none⟩ (.int .u64 p')).setCell ⟨w.heap.size + 1, 6, none⟩ (.bool fd')).setCell ⟨w.heap.size + 1, 7, none⟩ (.int .i64 tl')).setCell ⟨w.heap.size + 1, 8, none⟩ (.int .i64 cy')) = W2 at *
  obtain ⟨c0, c1, c2, c3, c4, c5, c6, c7, c8, cf⟩ := HG2.out.cellsY
  dsimp only at c0 c1 c2 c3 c4 c5 c6 c7 c8
  have HGe := Lib.hid (HG2.out.putY ⟨l', j', c', m', a', p', fd', tl', cy'⟩)
  obtain ⟨s0, s1, s2, s3, s4, s5, s6, s7, s8, sf⟩ := HGe.out.cellsY
  dsimp only at s0 s1 s2 s3 s4 s5 s6 s7 s8
  go_wp2_with fail
  refine bodyPost_ret (v := .tuple #[(colV l' j' c' m' a' p' fd' tl' cy'), .int .i64 0, .bool ok]) (by simp [results, Tryz.f122, go_sem, s0, s1, s2, s3, s4, s5, s6, s7, s8]) rfl ?_
  exact ⟨rfl, HGe.out.hand, HGe.out.sav⟩
set_option maxHeartbeats 3200000 in
theorem quiet1p_c {w : World} {H A G : Nat} {C : Cf} {s s' : Dy} (hH : HAt w H A G C s) (hS : SpansAt w) (hn : 0 < C.n) {Q : Nat} (hq : w.heap[Q]? = some (.cells #[.func (.func 105) #[] #[]] 163 (0, 0))) (l j c m a p : Int) (fd : Bool) (tl cy : Int) (l' j' c' m' a' p' : Int) (fd' : Bool) (tl' cy' : Int) (ok : Bool) (hdo : ∀ W, HAt W H A G C s → SpansAt W → Calls Tryz.prog 105 #[.pointer (some ⟨H, 0, none⟩), (colV l j c m a p fd tl cy)] W (HP W H A G C s' (.tuple #[(colV l' j' c' m' a' p' fd' tl' cy'), .bool ok]))) :
    Calls Tryz.prog 122 #[.pointer (some ⟨H, 0, none⟩), (colV l j c m a p fd tl cy), .pointer (some ⟨Q, 0, none⟩)] w (HP w H A G C s' (.tuple #[(colV l' j' c' m' a' p' fd' tl' cy'), .int .i64 0, .bool ok])) := by
  have HG0 := Lib.hid (ColG.start (ColF.start hH ⟨l, j, c, m, a, p, fd, tl, cy⟩))
  have HDo := Lib.hid hdo
  have HSP : Hid (∀ W s1 x1 y1, ColG w W H A G C s1 x1 y1 → SpansAt W) := Lib.hid (fun W s1 x1 y1 h => spans_sav hn hS hH h.sav)
  have hq2 : ((w.alloc (.cells #[.int .i64 l, .int .i64 j, .int .i64 c, .int .i64 m, .int .u64 a, .int .u64 p, .bool fd, .int .i64 tl, .int .i64 cy] 49)).alloc (.cells #[.int .i64 0, .int .i64 0, .int .i64 0, .int .i64 0, .int .u64 0, .int .u64 0, .bool false, .int .i64 0, .int .i64 0] 49)).cell? ⟨Q, 0, none⟩ = some (.func (.func 105) #[] #[]) := by
    have h := ((below_on (below_new w (.cells #[.int .i64 l, .int .i64 j, .int .i64 c, .int .i64 m, .int .u64 a, .int .u64 p, .bool fd, .int .i64 tl, .int .i64 cy] 49)) (.cells #[.int .i64 0, .int .i64 0, .int .i64 0, .int .i64 0, .int .u64 0, .int .u64 0, .bool false, .int .i64 0, .int .i64 0] 49)).block Q (Array.getElem?_eq_some_iff.1 hq).1).trans hq
    simp [World.cell?, h]
  clear hH hS hn hdo hq
  obtain ⟨a0, a1, a2, a3, a4, a5, a6, a7, a8, af⟩ := HG0.out.cells
  dsimp only at a0 a1 a2 a3 a4 a5 a6 a7 a8
  go_enter Tryz.func122, Tryz.ntmps122
  go_wp2_with fail
  refine (HDo.out _ HG0.out.hand (HSP.out _ _ _ _ HG0.out)).mono ?_
  rintro e V1 ⟨rfl, hF, hs⟩
  have HG1 := Lib.hid (HG0.out.handed hF hs)
  clear hF hs HDo HG0 hq2 a0 a1 a2 a3 a4 a5 a6 a7 a8 af
  obtain ⟨c0, c1, c2, c3, c4, c5, c6, c7, c8, cf⟩ := HG1.out.cellsY
  dsimp only at c0 c1 c2 c3 c4 c5 c6 c7 c8
  go_upto_region 2 with fail
  clear c0 c1 c2 c3 c4 c5 c6 c7 c8 cf
  have HG2 : Hid (ColG w (((((((((V1.setCell ⟨w.heap.size + 1, 0, none⟩ (.int .i64 l')).setCell ⟨w.heap.size + 1, 1, none⟩ (.int .i64 j')).setCell ⟨w.heap.size + 1, 2, none⟩ (.int .i64 c')).setCell ⟨w.heap.size + 1, 3, none⟩ (.int .i64 m')).setCell ⟨w.heap.size + 1, 4, none⟩ (.int .u64 a')).setCell ⟨w.heap.size + 1, 5, none⟩ (.int .u64 p')).setCell ⟨w.heap.size + 1, 6, none⟩ (.bool fd')).setCell ⟨w.heap.size + 1, 7, none⟩ (.int .i64 tl')).setCell ⟨w.heap.size + 1, 8, none⟩ (.int .i64 cy')) H A G C s' ⟨l, j, c, m, a, p, fd, tl, cy⟩ ⟨l', j', c', m', a', p', fd', tl', cy'⟩) := Lib.hid (HG1.out.putY ⟨l', j', c', m', a', p', fd', tl', cy'⟩)
  clear HG1
  generalize (((((((((V1.setCell ⟨w.heap.size + 1, 0, none⟩ (.int .i64 l')).setCell ⟨w.heap.size + 1, 1, none⟩ (.int .i64 j')).setCell ⟨w.heap.size + 1, 2, none⟩ (.int .i64 c')).setCell ⟨w.heap.size + 1, 3, none⟩ (.int .i64 m')).setCell ⟨w.heap.size + 1, 4, none⟩ (.int .u64 a')).setCell ⟨w.heap.size + 1, 5, none⟩ (.int .u64 p')).setCell ⟨w.heap.size + 1, 6, none⟩ (.bool fd')).setCell ⟨w.heap.size + 1, 7, none⟩ (.int .i64 tl')).setCell ⟨w.heap.size + 1, 8, none⟩ (.int .i64 cy')) = W2 at *
  obtain ⟨c0, c1, c2, c3, c4, c5, c6, c7, c8, cf⟩ := HG2.out.cellsY
  dsimp only at c0 c1 c2 c3 c4 c5 c6 c7 c8
  have HGe := Lib.hid (HG2.out.putY ⟨l', j', c', m', a', p', fd', tl', cy'⟩)
  obtain ⟨s0, s1, s2, s3, s4, s5, s6, s7, s8, sf⟩ := HGe.out.cellsY
  dsimp only at s0 s1 s2 s3 s4 s5 s6 s7 s8
  go_wp2_with fail
  refine bodyPost_ret (v := .tuple #[(colV l' j' c' m' a' p' fd' tl' cy'), .int .i64 0, .bool ok]) (by simp [results, Tryz.f122, go_sem, s0, s1, s2, s3, s4, s5, s6, s7, s8]) rfl ?_
  exact ⟨rfl, HGe.out.hand, HGe.out.sav⟩
set_option maxHeartbeats 3200000 in
theorem barY_c {w : World} {H A G : Nat} {C : Cf} {s s' : Dy} (hH : HAt w H A G C s) (hS : SpansAt w) (hn : 0 < C.n) (l j c m a p : Int) (fd : Bool) (tl cy : Int) (l' j' c' m' a' p' : Int) (fd' : Bool) (tl' cy' : Int) (ok : Bool) (hdo : ∀ W, HAt W H A G C s → SpansAt W → Calls Tryz.prog 134 #[.pointer (some ⟨H, 0, none⟩), (colV l j c m a p fd tl cy)] W (HP W H A G C s' (.tuple #[(colV l' j' c' m' a' p' fd' tl' cy'), .bool true, .bool ok]))) :
    Calls Tryz.prog 106 #[.pointer (some ⟨H, 0, none⟩), (colV l j c m a p fd tl cy)] w (HP w H A G C s' (.tuple #[(colV l' j' c' m' a' p' fd' tl' cy'), .int .i64 1, .bool ok])) := by
  have HG0 := Lib.hid (ColG.start (ColF.start hH ⟨l, j, c, m, a, p, fd, tl, cy⟩))
  have HDo := Lib.hid hdo
  have HSP : Hid (∀ W s1 x1 y1, ColG w W H A G C s1 x1 y1 → SpansAt W) := Lib.hid (fun W s1 x1 y1 h => spans_sav hn hS hH h.sav)
  clear hH hS hn hdo
  obtain ⟨a0, a1, a2, a3, a4, a5, a6, a7, a8, af⟩ := HG0.out.cells
  dsimp only at a0 a1 a2 a3 a4 a5 a6 a7 a8
  go_enter Tryz.func106, Tryz.ntmps106
  go_wp2_with fail
  refine (HDo.out _ HG0.out.hand (HSP.out _ _ _ _ HG0.out)).mono ?_
  rintro e V1 ⟨rfl, hF, hs⟩
  have HG1 := Lib.hid (HG0.out.handed hF hs)
  clear hF hs HDo HG0 a0 a1 a2 a3 a4 a5 a6 a7 a8 af
  obtain ⟨c0, c1, c2, c3, c4, c5, c6, c7, c8, cf⟩ := HG1.out.cellsY
  dsimp only at c0 c1 c2 c3 c4 c5 c6 c7 c8
  go_upto_region 2 with fail
  clear c0 c1 c2 c3 c4 c5 c6 c7 c8 cf
  have HG2 : Hid (ColG w (((((((((V1.setCell ⟨w.heap.size + 1, 0, none⟩ (.int .i64 l')).setCell ⟨w.heap.size + 1, 1, none⟩ (.int .i64 j')).setCell ⟨w.heap.size + 1, 2, none⟩ (.int .i64 c')).setCell ⟨w.heap.size + 1, 3, none⟩ (.int .i64 m')).setCell ⟨w.heap.size + 1, 4, none⟩ (.int .u64 a')).setCell ⟨w.heap.size + 1, 5, none⟩ (.int .u64 p')).setCell ⟨w.heap.size + 1, 6, none⟩ (.bool fd')).setCell ⟨w.heap.size + 1, 7, none⟩ (.int .i64 tl')).setCell ⟨w.heap.size + 1, 8, none⟩ (.int .i64 cy')) H A G C s' ⟨l, j, c, m, a, p, fd, tl, cy⟩ ⟨l', j', c', m', a', p', fd', tl', cy'⟩) := Lib.hid (HG1.out.putY ⟨l', j', c', m', a', p', fd', tl', cy'⟩)
  clear HG1
  generalize (((((((((V1.setCell ⟨w.heap.size + 1, 0, none⟩ (.int .i64 l')).setCell ⟨w.heap.size + 1, 1, none⟩ (.int .i64 j')).setCell ⟨w.heap.size + 1, 2, none⟩ (.int .i64 c')).setCell ⟨w.heap.size + 1, 3, none⟩ (.int .i64 m')).setCell ⟨w.heap.size + 1, 4, none⟩ (.int .u64 a')).setCell ⟨w.heap.size + 1, 5, none⟩ (.int .u64 p')).setCell ⟨w.heap.size + 1, 6, none⟩ (.bool fd')).setCell ⟨w.heap.size + 1, 7, none⟩ (.int .i64 tl')).setCell ⟨w.heap.size + 1, 8, none⟩ (.int .i64 cy')) = W2 at *
  obtain ⟨c0, c1, c2, c3, c4, c5, c6, c7, c8, cf⟩ := HG2.out.cellsY
  dsimp only at c0 c1 c2 c3 c4 c5 c6 c7 c8
  have HGe := Lib.hid (HG2.out.putY ⟨l', j', c', m', a', p', fd', tl', cy'⟩)
  obtain ⟨s0, s1, s2, s3, s4, s5, s6, s7, s8, sf⟩ := HGe.out.cellsY
  dsimp only at s0 s1 s2 s3 s4 s5 s6 s7 s8
  go_wp2_with fail
  refine bodyPost_ret (v := .tuple #[(colV l' j' c' m' a' p' fd' tl' cy'), .int .i64 1, .bool ok]) (by simp [results, Tryz.f106, go_sem, s0, s1, s2, s3, s4, s5, s6, s7, s8]) rfl ?_
  exact ⟨rfl, HGe.out.hand, HGe.out.sav⟩
set_option maxHeartbeats 3200000 in
theorem barN_c {w : World} {H A G : Nat} {C : Cf} {s s' : Dy} (hH : HAt w H A G C s) (hS : SpansAt w) (hn : 0 < C.n) (l j c m a p : Int) (fd : Bool) (tl cy : Int) (l' j' c' m' a' p' : Int) (fd' : Bool) (tl' cy' : Int) (ok : Bool) (hdo : ∀ W, HAt W H A G C s → SpansAt W → Calls Tryz.prog 134 #[.pointer (some ⟨H, 0, none⟩), (colV l j c m a p fd tl cy)] W (HP W H A G C s' (.tuple #[(colV l' j' c' m' a' p' fd' tl' cy'), .bool false, .bool ok]))) :
    Calls Tryz.prog 106 #[.pointer (some ⟨H, 0, none⟩), (colV l j c m a p fd tl cy)] w (HP w H A G C s' (.tuple #[(colV l' j' c' m' a' p' fd' tl' cy'), .int .i64 0, .bool ok])) := by
  have HG0 := Lib.hid (ColG.start (ColF.start hH ⟨l, j, c, m, a, p, fd, tl, cy⟩))
  have HDo := Lib.hid hdo
  have HSP : Hid (∀ W s1 x1 y1, ColG w W H A G C s1 x1 y1 → SpansAt W) := Lib.hid (fun W s1 x1 y1 h => spans_sav hn hS hH h.sav)
  clear hH hS hn hdo
  obtain ⟨a0, a1, a2, a3, a4, a5, a6, a7, a8, af⟩ := HG0.out.cells
  dsimp only at a0 a1 a2 a3 a4 a5 a6 a7 a8
  go_enter Tryz.func106, Tryz.ntmps106
  go_wp2_with fail
  refine (HDo.out _ HG0.out.hand (HSP.out _ _ _ _ HG0.out)).mono ?_
  rintro e V1 ⟨rfl, hF, hs⟩
  have HG1 := Lib.hid (HG0.out.handed hF hs)
  clear hF hs HDo HG0 a0 a1 a2 a3 a4 a5 a6 a7 a8 af
  obtain ⟨c0, c1, c2, c3, c4, c5, c6, c7, c8, cf⟩ := HG1.out.cellsY
  dsimp only at c0 c1 c2 c3 c4 c5 c6 c7 c8
  go_upto_region 2 with fail
  clear c0 c1 c2 c3 c4 c5 c6 c7 c8 cf
  have HG2 : Hid (ColG w (((((((((V1.setCell ⟨w.heap.size + 1, 0, none⟩ (.int .i64 l')).setCell ⟨w.heap.size + 1, 1, none⟩ (.int .i64 j')).setCell ⟨w.heap.size + 1, 2, none⟩ (.int .i64 c')).setCell ⟨w.heap.size + 1, 3, none⟩ (.int .i64 m')).setCell ⟨w.heap.size + 1, 4, none⟩ (.int .u64 a')).setCell ⟨w.heap.size + 1, 5, none⟩ (.int .u64 p')).setCell ⟨w.heap.size + 1, 6, none⟩ (.bool fd')).setCell ⟨w.heap.size + 1, 7, none⟩ (.int .i64 tl')).setCell ⟨w.heap.size + 1, 8, none⟩ (.int .i64 cy')) H A G C s' ⟨l, j, c, m, a, p, fd, tl, cy⟩ ⟨l', j', c', m', a', p', fd', tl', cy'⟩) := Lib.hid (HG1.out.putY ⟨l', j', c', m', a', p', fd', tl', cy'⟩)
  clear HG1
  generalize (((((((((V1.setCell ⟨w.heap.size + 1, 0, none⟩ (.int .i64 l')).setCell ⟨w.heap.size + 1, 1, none⟩ (.int .i64 j')).setCell ⟨w.heap.size + 1, 2, none⟩ (.int .i64 c')).setCell ⟨w.heap.size + 1, 3, none⟩ (.int .i64 m')).setCell ⟨w.heap.size + 1, 4, none⟩ (.int .u64 a')).setCell ⟨w.heap.size + 1, 5, none⟩ (.int .u64 p')).setCell ⟨w.heap.size + 1, 6, none⟩ (.bool fd')).setCell ⟨w.heap.size + 1, 7, none⟩ (.int .i64 tl')).setCell ⟨w.heap.size + 1, 8, none⟩ (.int .i64 cy')) = W2 at *
  obtain ⟨c0, c1, c2, c3, c4, c5, c6, c7, c8, cf⟩ := HG2.out.cellsY
  dsimp only at c0 c1 c2 c3 c4 c5 c6 c7 c8
  have HGe := Lib.hid (HG2.out.putY ⟨l', j', c', m', a', p', fd', tl', cy'⟩)
  obtain ⟨s0, s1, s2, s3, s4, s5, s6, s7, s8, sf⟩ := HGe.out.cellsY
  dsimp only at s0 s1 s2 s3 s4 s5 s6 s7 s8
  go_wp2_with fail
  refine bodyPost_ret (v := .tuple #[(colV l' j' c' m' a' p' fd' tl' cy'), .int .i64 0, .bool ok]) (by simp [results, Tryz.f106, go_sem, s0, s1, s2, s3, s4, s5, s6, s7, s8]) rfl ?_
  exact ⟨rfl, HGe.out.hand, HGe.out.sav⟩
namespace ColN
variable {w W V : World} {x y : Co}
end ColN
end Go.Proofs.YtbpooljohjkbjaaGreatDoor
