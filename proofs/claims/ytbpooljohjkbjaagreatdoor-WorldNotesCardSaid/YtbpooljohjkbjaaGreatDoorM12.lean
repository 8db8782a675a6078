/- Laid together: BarDoB, BarRefA, BarRefB, BarRef17, BarDo17. -/
import Derived.Test.YtbpooljohjkbjaaGreatDoorBarIn
import Derived.Deep.CutRange
import Derived.Test.YtbpooljohjkbjaaGreatDoorM9
import Derived.Test.YtbpooljohjkbjaaGreatDoorM3
import Derived.Test.YtbpooljohjkbjaaGreatDoorM4
import Derived.Test.YtbpooljohjkbjaaGreatDoorBarDoA
/- The program's layer 17: the gate, dirty, any other line, a nil hand. -/
namespace Go.Proofs.YtbpooljohjkbjaaGreatDoor
open Go Go.RowKit
set_option maxRecDepth 100000
attribute [local go_sem ↓] Go.wp_at_zero Go.wp_at_succ
set_option maxHeartbeats 3200000 in
theorem pb11 {w : World} {H A G : Nat} {C : Cf} {s : Dy} (hH : HAt w H A G C s) (hu : s.U) (_ : SpansAt w) (_ : Right C.a C.b C.c C.d) (_ : 0 < C.n) (j c m a p : Int) (fd : Bool) (tl cy : Int)  :
    Calls Tryz.prog 134 #[.pointer (some ⟨H, 0, none⟩), (colV 11 j c m a p fd tl cy)] w (HP w H A G C (s.act C 2 1 1 0) (.tuple #[(colV 12 j c m a p fd tl cy), .bool false, .bool true])) := by
  have HC0 := Lib.hid (ColK.start hH ⟨11, j, c, m, a, p, fd, tl, cy⟩)
  have HD : Hid (∀ W, HAt W H A G C s → Calls Tryz.prog 129 #[.pointer (some ⟨H, 0, none⟩), .int .i64 1, .int .u64 1] W (HP W H A G C (s.act C 2 1 1 0) (.tuple #[]))) := Lib.hid (fun W hW => hStore_c (w := W) hW hu 1 1)
  generalize (s.act C 2 1 1 0) = s' at *
  have hmf : ∀ (fn : Fn) (first cap : Array Value) (w : World), (Instr.makeFunc fn first cap).run Tryz.prog w = .ok (.func fn first cap) w := fun _ _ _ _ => rfl
  clear hH hu
  go_enter Tryz.func134, Tryz.ntmps134
  go_upto_region 1 with fail
  generalize (((w.alloc (.cells #[.pointer (some ⟨H, 0, none⟩)] 70)).alloc (.cells #[.int .i64 11, .int .i64 j, .int .i64 c, .int .i64 m, .int .u64 a, .int .u64 p, .bool fd, .int .i64 tl, .int .i64 cy] 49)).alloc (.cells #[.int .i64 0, .int .i64 0, .int .i64 0, .int .i64 0, .int .u64 0, .int .u64 0, .bool false, .int .i64 0, .int .i64 0] 49)) = V0 at *
  generalize w.heap.size + 1 + 1 = Y at *
  generalize w.heap.size + 1 = X at *
  generalize w.heap.size = K at *
  obtain ⟨a0, a1, a2, a3, a4, a5, a6, a7, a8, af⟩ := HC0.out.cells
  dsimp only at a0 a1 a2 a3 a4 a5 a6 a7 a8
  have k0 := HC0.out.cellK
  go_wp2_with fail
  refine (HD.out _ HC0.out.hand).mono ?_
  rintro e V1 ⟨rfl, hF, hs⟩
  have HC1 := Lib.hid (HC0.out.handed hF hs)
  clear HC0 hF hs a0 a1 a2 a3 a4 a5 a6 a7 a8 af k0
  clear HD
  have HCe := Lib.hid (HC1.out.setL 12)
  obtain ⟨b0, b1, b2, b3, b4, b5, b6, b7, b8, bf⟩ := HC1.out.cells
  dsimp only at b0 b1 b2 b3 b4 b5 b6 b7 b8
  obtain ⟨d0, d1, d2, d3, d4, d5, d6, d7, d8, df⟩ := HCe.out.cells
  dsimp only at d0 d1 d2 d3 d4 d5 d6 d7 d8
  obtain ⟨c0, c1, c2, c3, c4, c5, c6, c7, c8, cf⟩ := HCe.out.cellsY
  obtain ⟨s0, s1, s2, s3, s4, s5, s6, s7, s8, sf⟩ := (HCe.out.last ⟨12, j, c, m, a, p, fd, tl, cy⟩).cells
  dsimp only at s0 s1 s2 s3 s4 s5 s6 s7 s8
  have xy := HCe.out.xy
  clear HC1
  go_wp2_with fail
  refine bodyPost_ret (v := .tuple #[(colV 12 j c m a p fd tl cy), .bool false, .bool true]) (by simp [results, Tryz.f134, go_sem, s0, s1, s2, s3, s4, s5, s6, s7, s8]) rfl ?_
  exact ⟨rfl, HCe.out.fin ⟨12, j, c, m, a, p, fd, tl, cy⟩⟩
set_option maxHeartbeats 3200000 in
theorem pb14 {w : World} {H A G : Nat} {C : Cf} {s : Dy} (hH : HAt w H A G C s) (hu : s.U) (_ : SpansAt w) (_ : Right C.a C.b C.c C.d) (_ : 0 < C.n) (j c m a p : Int) (fd : Bool) (tl cy : Int)  :
    Calls Tryz.prog 134 #[.pointer (some ⟨H, 0, none⟩), (colV 14 j c m a p fd tl cy)] w (HP w H A G C (s.act C 2 1 0 0) (.tuple #[(colV 20 j 0 m a p fd tl cy), .bool false, .bool true])) := by
  have HC0 := Lib.hid (ColK.start hH ⟨14, j, c, m, a, p, fd, tl, cy⟩)
  have HD : Hid (∀ W, HAt W H A G C s → Calls Tryz.prog 129 #[.pointer (some ⟨H, 0, none⟩), .int .i64 1, .int .u64 0] W (HP W H A G C (s.act C 2 1 0 0) (.tuple #[]))) := Lib.hid (fun W hW => hStore_c (w := W) hW hu 1 0)
  generalize (s.act C 2 1 0 0) = s' at *
  have hmf : ∀ (fn : Fn) (first cap : Array Value) (w : World), (Instr.makeFunc fn first cap).run Tryz.prog w = .ok (.func fn first cap) w := fun _ _ _ _ => rfl
  clear hH hu
  go_enter Tryz.func134, Tryz.ntmps134
  go_upto_region 1 with fail
  generalize (((w.alloc (.cells #[.pointer (some ⟨H, 0, none⟩)] 70)).alloc (.cells #[.int .i64 14, .int .i64 j, .int .i64 c, .int .i64 m, .int .u64 a, .int .u64 p, .bool fd, .int .i64 tl, .int .i64 cy] 49)).alloc (.cells #[.int .i64 0, .int .i64 0, .int .i64 0, .int .i64 0, .int .u64 0, .int .u64 0, .bool false, .int .i64 0, .int .i64 0] 49)) = V0 at *
  generalize w.heap.size + 1 + 1 = Y at *
  generalize w.heap.size + 1 = X at *
  generalize w.heap.size = K at *
  obtain ⟨a0, a1, a2, a3, a4, a5, a6, a7, a8, af⟩ := HC0.out.cells
  dsimp only at a0 a1 a2 a3 a4 a5 a6 a7 a8
  have k0 := HC0.out.cellK
  go_wp2_with fail
  refine (HD.out _ HC0.out.hand).mono ?_
  rintro e V1 ⟨rfl, hF, hs⟩
  have HC1 := Lib.hid (HC0.out.handed hF hs)
  clear HC0 hF hs a0 a1 a2 a3 a4 a5 a6 a7 a8 af k0
  clear HD
  have HCe := Lib.hid ((HC1.out.setL 20).setC 0)
  obtain ⟨b0, b1, b2, b3, b4, b5, b6, b7, b8, bf⟩ := HC1.out.cells
  dsimp only at b0 b1 b2 b3 b4 b5 b6 b7 b8
  obtain ⟨d0, d1, d2, d3, d4, d5, d6, d7, d8, df⟩ := HCe.out.cells
  dsimp only at d0 d1 d2 d3 d4 d5 d6 d7 d8
  obtain ⟨c0, c1, c2, c3, c4, c5, c6, c7, c8, cf⟩ := HCe.out.cellsY
  obtain ⟨s0, s1, s2, s3, s4, s5, s6, s7, s8, sf⟩ := (HCe.out.last ⟨20, j, 0, m, a, p, fd, tl, cy⟩).cells
  dsimp only at s0 s1 s2 s3 s4 s5 s6 s7 s8
  have xy := HCe.out.xy
  clear HC1
  go_wp2_with fail
  refine bodyPost_ret (v := .tuple #[(colV 20 j 0 m a p fd tl cy), .bool false, .bool true]) (by simp [results, Tryz.f134, go_sem, s0, s1, s2, s3, s4, s5, s6, s7, s8]) rfl ?_
  exact ⟨rfl, HCe.out.fin ⟨20, j, 0, m, a, p, fd, tl, cy⟩⟩
set_option maxHeartbeats 3200000 in
theorem pb15 {w : World} {H A G : Nat} {C : Cf} {s : Dy} (hH : HAt w H A G C s) (hu : s.U) (_ : SpansAt w) (_ : Right C.a C.b C.c C.d) (_ : 0 < C.n) (j c m a p : Int) (fd : Bool) (tl cy : Int)  :
    Calls Tryz.prog 134 #[.pointer (some ⟨H, 0, none⟩), (colV 15 j c m a p fd tl cy)] w (HP w H A G C (s.act C 2 1 0 0) (.tuple #[(colV 3 j c m a p fd tl cy), .bool false, .bool true])) := by
  have HC0 := Lib.hid (ColK.start hH ⟨15, j, c, m, a, p, fd, tl, cy⟩)
  have HD : Hid (∀ W, HAt W H A G C s → Calls Tryz.prog 129 #[.pointer (some ⟨H, 0, none⟩), .int .i64 1, .int .u64 0] W (HP W H A G C (s.act C 2 1 0 0) (.tuple #[]))) := Lib.hid (fun W hW => hStore_c (w := W) hW hu 1 0)
  generalize (s.act C 2 1 0 0) = s' at *
  have hmf : ∀ (fn : Fn) (first cap : Array Value) (w : World), (Instr.makeFunc fn first cap).run Tryz.prog w = .ok (.func fn first cap) w := fun _ _ _ _ => rfl
  clear hH hu
  go_enter Tryz.func134, Tryz.ntmps134
  go_upto_region 1 with fail
  generalize (((w.alloc (.cells #[.pointer (some ⟨H, 0, none⟩)] 70)).alloc (.cells #[.int .i64 15, .int .i64 j, .int .i64 c, .int .i64 m, .int .u64 a, .int .u64 p, .bool fd, .int .i64 tl, .int .i64 cy] 49)).alloc (.cells #[.int .i64 0, .int .i64 0, .int .i64 0, .int .i64 0, .int .u64 0, .int .u64 0, .bool false, .int .i64 0, .int .i64 0] 49)) = V0 at *
  generalize w.heap.size + 1 + 1 = Y at *
  generalize w.heap.size + 1 = X at *
  generalize w.heap.size = K at *
  obtain ⟨a0, a1, a2, a3, a4, a5, a6, a7, a8, af⟩ := HC0.out.cells
  dsimp only at a0 a1 a2 a3 a4 a5 a6 a7 a8
  have k0 := HC0.out.cellK
  go_wp2_with fail
  refine (HD.out _ HC0.out.hand).mono ?_
  rintro e V1 ⟨rfl, hF, hs⟩
  have HC1 := Lib.hid (HC0.out.handed hF hs)
  clear HC0 hF hs a0 a1 a2 a3 a4 a5 a6 a7 a8 af k0
  clear HD
  have HCe := Lib.hid (HC1.out.setL 3)
  obtain ⟨b0, b1, b2, b3, b4, b5, b6, b7, b8, bf⟩ := HC1.out.cells
  dsimp only at b0 b1 b2 b3 b4 b5 b6 b7 b8
  obtain ⟨d0, d1, d2, d3, d4, d5, d6, d7, d8, df⟩ := HCe.out.cells
  dsimp only at d0 d1 d2 d3 d4 d5 d6 d7 d8
  obtain ⟨c0, c1, c2, c3, c4, c5, c6, c7, c8, cf⟩ := HCe.out.cellsY
  obtain ⟨s0, s1, s2, s3, s4, s5, s6, s7, s8, sf⟩ := (HCe.out.last ⟨3, j, c, m, a, p, fd, tl, cy⟩).cells
  dsimp only at s0 s1 s2 s3 s4 s5 s6 s7 s8
  have xy := HCe.out.xy
  clear HC1
  go_wp2_with fail
  refine bodyPost_ret (v := .tuple #[(colV 3 j c m a p fd tl cy), .bool false, .bool true]) (by simp [results, Tryz.f134, go_sem, s0, s1, s2, s3, s4, s5, s6, s7, s8]) rfl ?_
  exact ⟨rfl, HCe.out.fin ⟨3, j, c, m, a, p, fd, tl, cy⟩⟩
set_option maxHeartbeats 3200000 in
theorem pb13_flip {w : World} {H A G : Nat} {C : Cf} {s : Dy} (hH : HAt w H A G C s) (hu : s.U) (_ : SpansAt w) (_ : Right C.a C.b C.c C.d) (_ : 0 < C.n) (j c m a p : Int) (fd : Bool) (tl cy : Int) (u : Nat) (hT : z5 C.n 1 2 (s.f (2 : Int).toNat) = (u : Int)) (hs : u = 0) :
    Calls Tryz.prog 134 #[.pointer (some ⟨H, 0, none⟩), (colV 13 j c m a p fd tl cy)] w (HP w H A G C (s.act C 1 2 0 0) (.tuple #[(colV 14 j c m a p fd tl cy), .bool true, .bool true])) := by
  have HC0 := Lib.hid (ColK.start hH ⟨13, j, c, m, a, p, fd, tl, cy⟩)
  have HD : Hid (∀ W, HAt W H A G C s → Calls Tryz.prog 123 #[.pointer (some ⟨H, 0, none⟩), .int .i64 (2 : Int)] W (HP W H A G C (s.act C 1 (2 : Int) 0 0) (.int .u64 (z5 C.n 1 (2 : Int) (s.f ((2 : Int)).toNat))))) := Lib.hid (fun W hW => hLoad_c (w := W) hW hu (2 : Int))
  generalize (s.act C 1 2 0 0) = s' at *
  rw [hT] at HD
  subst hs
  have hmf : ∀ (fn : Fn) (first cap : Array Value) (w : World), (Instr.makeFunc fn first cap).run Tryz.prog w = .ok (.func fn first cap) w := fun _ _ _ _ => rfl
  clear hH hu hT
  go_enter Tryz.func134, Tryz.ntmps134
  go_upto_region 1 with fail
  generalize (((w.alloc (.cells #[.pointer (some ⟨H, 0, none⟩)] 70)).alloc (.cells #[.int .i64 13, .int .i64 j, .int .i64 c, .int .i64 m, .int .u64 a, .int .u64 p, .bool fd, .int .i64 tl, .int .i64 cy] 49)).alloc (.cells #[.int .i64 0, .int .i64 0, .int .i64 0, .int .i64 0, .int .u64 0, .int .u64 0, .bool false, .int .i64 0, .int .i64 0] 49)) = V0 at *
  generalize w.heap.size + 1 + 1 = Y at *
  generalize w.heap.size + 1 = X at *
  generalize w.heap.size = K at *
  obtain ⟨a0, a1, a2, a3, a4, a5, a6, a7, a8, af⟩ := HC0.out.cells
  dsimp only at a0 a1 a2 a3 a4 a5 a6 a7 a8
  have k0 := HC0.out.cellK
  have hkx := HC0.out.kx
  have HC1 := Lib.hid (HC0.out.setL 15)
  clear HC0
  go_wp2_with fail
  clear a0 a1 a2 a3 a4 a5 a6 a7 a8 af k0
  obtain ⟨a0, a1, a2, a3, a4, a5, a6, a7, a8, af⟩ := HC1.out.cells
  dsimp only at a0 a1 a2 a3 a4 a5 a6 a7 a8
  have k0 := HC1.out.cellK
  refine (HD.out _ HC1.out.hand).mono ?_
  rintro e V1 ⟨rfl, hF, hs⟩
  have HC2 := Lib.hid (HC1.out.handed hF hs)
  clear HC1 hF hs a0 a1 a2 a3 a4 a5 a6 a7 a8 af k0
  clear HD
  have HCe := Lib.hid (HC2.out.setL 14)
  obtain ⟨b0, b1, b2, b3, b4, b5, b6, b7, b8, bf⟩ := HC2.out.cells
  dsimp only at b0 b1 b2 b3 b4 b5 b6 b7 b8
  obtain ⟨d0, d1, d2, d3, d4, d5, d6, d7, d8, df⟩ := HCe.out.cells
  dsimp only at d0 d1 d2 d3 d4 d5 d6 d7 d8
  obtain ⟨c0, c1, c2, c3, c4, c5, c6, c7, c8, cf⟩ := HCe.out.cellsY
  obtain ⟨s0, s1, s2, s3, s4, s5, s6, s7, s8, sf⟩ := (HCe.out.last ⟨14, j, c, m, a, p, fd, tl, cy⟩).cells
  dsimp only at s0 s1 s2 s3 s4 s5 s6 s7 s8
  have xy := HCe.out.xy
  clear HC2
  go_wp2_with fail
  refine bodyPost_ret (v := .tuple #[(colV 14 j c m a p fd tl cy), .bool true, .bool true]) (by simp [results, Tryz.f134, go_sem, s0, s1, s2, s3, s4, s5, s6, s7, s8]) rfl ?_
  exact ⟨rfl, HCe.out.fin ⟨14, j, c, m, a, p, fd, tl, cy⟩⟩
set_option maxHeartbeats 3200000 in
theorem pb13_again {w : World} {H A G : Nat} {C : Cf} {s : Dy} (hH : HAt w H A G C s) (hu : s.U) (_ : SpansAt w) (_ : Right C.a C.b C.c C.d) (_ : 0 < C.n) (j c m a p : Int) (fd : Bool) (tl cy : Int) (u : Nat) (hT : z5 C.n 1 2 (s.f (2 : Int).toNat) = (u : Int)) (hs : ¬ u = 0) :
    Calls Tryz.prog 134 #[.pointer (some ⟨H, 0, none⟩), (colV 13 j c m a p fd tl cy)] w (HP w H A G C (s.act C 1 2 0 0) (.tuple #[(colV 15 j c m a p fd tl cy), .bool false, .bool true])) := by
  have HC0 := Lib.hid (ColK.start hH ⟨13, j, c, m, a, p, fd, tl, cy⟩)
  have HD : Hid (∀ W, HAt W H A G C s → Calls Tryz.prog 123 #[.pointer (some ⟨H, 0, none⟩), .int .i64 (2 : Int)] W (HP W H A G C (s.act C 1 (2 : Int) 0 0) (.int .u64 (z5 C.n 1 (2 : Int) (s.f ((2 : Int)).toNat))))) := Lib.hid (fun W hW => hLoad_c (w := W) hW hu (2 : Int))
  generalize (s.act C 1 2 0 0) = s' at *
  rw [hT] at HD
  have hq : ((u : Int) == 0) = false := by simp; omega
  have hmf : ∀ (fn : Fn) (first cap : Array Value) (w : World), (Instr.makeFunc fn first cap).run Tryz.prog w = .ok (.func fn first cap) w := fun _ _ _ _ => rfl
  clear hH hu hT hs
  go_enter Tryz.func134, Tryz.ntmps134
  go_upto_region 1 with fail
  generalize (((w.alloc (.cells #[.pointer (some ⟨H, 0, none⟩)] 70)).alloc (.cells #[.int .i64 13, .int .i64 j, .int .i64 c, .int .i64 m, .int .u64 a, .int .u64 p, .bool fd, .int .i64 tl, .int .i64 cy] 49)).alloc (.cells #[.int .i64 0, .int .i64 0, .int .i64 0, .int .i64 0, .int .u64 0, .int .u64 0, .bool false, .int .i64 0, .int .i64 0] 49)) = V0 at *
  generalize w.heap.size + 1 + 1 = Y at *
  generalize w.heap.size + 1 = X at *
  generalize w.heap.size = K at *
  obtain ⟨a0, a1, a2, a3, a4, a5, a6, a7, a8, af⟩ := HC0.out.cells
  dsimp only at a0 a1 a2 a3 a4 a5 a6 a7 a8
  have k0 := HC0.out.cellK
  have hkx := HC0.out.kx
  have HC1 := Lib.hid (HC0.out.setL 15)
  clear HC0
  go_wp2_with fail
  clear a0 a1 a2 a3 a4 a5 a6 a7 a8 af k0
  obtain ⟨a0, a1, a2, a3, a4, a5, a6, a7, a8, af⟩ := HC1.out.cells
  dsimp only at a0 a1 a2 a3 a4 a5 a6 a7 a8
  have k0 := HC1.out.cellK
  refine (HD.out _ HC1.out.hand).mono ?_
  rintro e V1 ⟨rfl, hF, hs⟩
  have HC2 := Lib.hid (HC1.out.handed hF hs)
  clear HC1 hF hs a0 a1 a2 a3 a4 a5 a6 a7 a8 af k0
  clear HD
  have HCe := Lib.hid HC2.out
  obtain ⟨d0, d1, d2, d3, d4, d5, d6, d7, d8, df⟩ := HCe.out.cells
  dsimp only at d0 d1 d2 d3 d4 d5 d6 d7 d8
  obtain ⟨c0, c1, c2, c3, c4, c5, c6, c7, c8, cf⟩ := HCe.out.cellsY
  obtain ⟨s0, s1, s2, s3, s4, s5, s6, s7, s8, sf⟩ := (HCe.out.last ⟨15, j, c, m, a, p, fd, tl, cy⟩).cells
  dsimp only at s0 s1 s2 s3 s4 s5 s6 s7 s8
  have xy := HCe.out.xy
  clear HC2
  go_wp2_with fail
  refine bodyPost_ret (v := .tuple #[(colV 15 j c m a p fd tl cy), .bool false, .bool true]) (by simp [results, Tryz.f134, go_sem, s0, s1, s2, s3, s4, s5, s6, s7, s8]) rfl ?_
  exact ⟨rfl, HCe.out.fin ⟨15, j, c, m, a, p, fd, tl, cy⟩⟩
set_option maxHeartbeats 3200000 in
theorem pb_other {w : World} {H A G : Nat} {C : Cf} {s : Dy} (hH : HAt w H A G C s) (_ : s.U) (_ : SpansAt w) (_ : Right C.a C.b C.c C.d) (_ : 0 < C.n) (l j c m a p : Int) (fd : Bool) (tl cy : Int) (g10 : ¬ l = 10) (g11 : ¬ l = 11) (g12 : ¬ l = 12) (g13 : ¬ l = 13) (g14 : ¬ l = 14) (g15 : ¬ l = 15) (g16 : ¬ l = 16) :
    Calls Tryz.prog 134 #[.pointer (some ⟨H, 0, none⟩), (colV l j c m a p fd tl cy)] w (HP w H A G C s (.tuple #[(colV l j c m a p fd tl cy), .bool false, .bool false])) := by
  have HC0 := Lib.hid (ColK.start hH ⟨l, j, c, m, a, p, fd, tl, cy⟩)
  have e10 : (l == 10) = false := by simpa using g10
  have e11 : (l == 11) = false := by simpa using g11
  have e12 : (l == 12) = false := by simpa using g12
  have e13 : (l == 13) = false := by simpa using g13
  have e14 : (l == 14) = false := by simpa using g14
  have e15 : (l == 15) = false := by simpa using g15
  have e16 : (l == 16) = false := by simpa using g16
  have hmf : ∀ (fn : Fn) (first cap : Array Value) (w : World), (Instr.makeFunc fn first cap).run Tryz.prog w = .ok (.func fn first cap) w := fun _ _ _ _ => rfl
  clear hH g10 g11 g12 g13 g14 g15 g16
  go_enter Tryz.func134, Tryz.ntmps134
  go_upto_region 1 with fail
  generalize (((w.alloc (.cells #[.pointer (some ⟨H, 0, none⟩)] 70)).alloc (.cells #[.int .i64 l, .int .i64 j, .int .i64 c, .int .i64 m, .int .u64 a, .int .u64 p, .bool fd, .int .i64 tl, .int .i64 cy] 49)).alloc (.cells #[.int .i64 0, .int .i64 0, .int .i64 0, .int .i64 0, .int .u64 0, .int .u64 0, .bool false, .int .i64 0, .int .i64 0] 49)) = V0 at *
  generalize w.heap.size + 1 + 1 = Y at *
  generalize w.heap.size + 1 = X at *
  generalize w.heap.size = K at *
  obtain ⟨a0, a1, a2, a3, a4, a5, a6, a7, a8, af⟩ := HC0.out.cells
  dsimp only at a0 a1 a2 a3 a4 a5 a6 a7 a8
  have k0 := HC0.out.cellK
  clear a0 a1 a2 a3 a4 a5 a6 a7 a8 af
  have HCe := Lib.hid HC0.out
  obtain ⟨d0, d1, d2, d3, d4, d5, d6, d7, d8, df⟩ := HCe.out.cells
  dsimp only at d0 d1 d2 d3 d4 d5 d6 d7 d8
  obtain ⟨c0, c1, c2, c3, c4, c5, c6, c7, c8, cf⟩ := HCe.out.cellsY
  obtain ⟨s0, s1, s2, s3, s4, s5, s6, s7, s8, sf⟩ := (HCe.out.last ⟨l, j, c, m, a, p, fd, tl, cy⟩).cells
  dsimp only at s0 s1 s2 s3 s4 s5 s6 s7 s8
  have xy := HCe.out.xy
  clear HC0
  go_wp2_with fail
  refine bodyPost_ret (v := .tuple #[(colV l j c m a p fd tl cy), .bool false, .bool false]) (by simp [results, Tryz.f134, go_sem, s0, s1, s2, s3, s4, s5, s6, s7, s8]) rfl ?_
  exact ⟨rfl, HCe.out.fin ⟨l, j, c, m, a, p, fd, tl, cy⟩⟩
end Go.Proofs.YtbpooljohjkbjaaGreatDoor
/- The document's layer 17: looks at an in. -/
namespace Go.Proofs.YtbpooljohjkbjaaGreatDoor
open Go Go.RowKit
set_option maxRecDepth 100000
attribute [local go_sem ↓] Go.wp_at_zero Go.wp_at_succ
end Go.Proofs.YtbpooljohjkbjaaGreatDoor
/- The document's layer 17: the gate, dirty, and any other line. -/
namespace Go.Proofs.YtbpooljohjkbjaaGreatDoor
open Go Go.RowKit
set_option maxRecDepth 100000
attribute [local go_sem ↓] Go.wp_at_zero Go.wp_at_succ
end Go.Proofs.YtbpooljohjkbjaaGreatDoor
/- A step of the document's layer 17 as one function. -/
namespace Go.Proofs.YtbpooljohjkbjaaGreatDoor
open Go Go.RowKit
set_option maxRecDepth 100000
attribute [local go_sem ↓] Go.wp_at_zero Go.wp_at_succ
theorem nextMut_U (C : Cf) (x : Co) (hx : x.U) (n k : Int) : (nextMut C x n k).U := by
  unfold nextMut
  split <;> exact hx
theorem shutS_U {C : Cf} {s : Dy} (h : s.U) (x : Co) (hx : x.U) : (shutS C s x).1.U ∧ (shutS C s x).2.1.U := by
  have h0 := u64_zero
  have h1 : U64 1 := by unfold U64; omega
  have hl : U64 (ldP C s (inP C.a C.b C.c C.d x.m)) := z5_u64c (h _)
  unfold shutS
  split
  · refine ⟨h.act C 1 _ h0 h0, ?_⟩
    show Co.U (if _ then _ else _)
    split
    · exact ⟨hl, hx.2⟩
    · exact nextMut_U C { x with a := 0 } ⟨h0, hx.2⟩ _ _
  split
  · refine ⟨h.act C 1 _ h0 h0, ?_⟩
    show Co.U (if _ then _ else _)
    split
    · exact ⟨hl, hx.2⟩
    · exact nextMut_U C { x with a := 0 } ⟨h0, hx.2⟩ _ _
  split
  · exact ⟨h.act C 2 _ h1 h0, hx⟩
  split
  · refine ⟨h.act C 1 _ h0 h0, ?_⟩
    show Co.U (if _ then _ else _)
    split
    · exact hx
    · exact nextMut_U C _ hx _ _
  split
  · refine ⟨h.act C 1 _ h0 h0, ?_⟩
    show Co.U (if _ then _ else _)
    split <;> exact hx
  split
  · exact ⟨h.act C 2 _ h0 h0, hx⟩
  split
  · exact ⟨h.act C 2 _ h0 h0, hx⟩
  · exact ⟨h, hx⟩
end Go.Proofs.YtbpooljohjkbjaaGreatDoor
/- A step of the program's layer 17 as one function; Shut. -/
namespace Go.Proofs.YtbpooljohjkbjaaGreatDoor
open Go Go.RowKit
set_option maxRecDepth 100000
attribute [local go_sem ↓] Go.wp_at_zero Go.wp_at_succ
theorem bar17_c {w : World} {H A G : Nat} {C : Cf} {s : Dy} (hH : HAt w H A G C s) (hu : s.U) (hS : SpansAt w) (hr : Right C.a C.b C.c C.d) (hn : 0 < C.n) (x : Co) (hx : x.U) (hm : -1000000000000 ≤ x.m ∧ x.m ≤ 1000000000000) :
    Calls Tryz.prog 134 #[.pointer (some ⟨H, 0, none⟩), x.v] w (HP w H A G C (shutS C s x).1 (.tuple #[(shutS C s x).2.1.v, .bool (shutS C s x).2.2.1, .bool (shutS C s x).2.2.2])) := by
  obtain ⟨l, j, c, m, xa, p, fd, tl, cy⟩ := x
  obtain ⟨ha, _⟩ := hx
  dsimp only at hm ha
  obtain ⟨v, rfl, hv⟩ := u64_natc' ha
  unfold shutS ldP
  dsimp only
  by_cases e10 : l = 10
  · subst e10; rw [if_pos rfl]
    obtain ⟨u, hT, hu6⟩ := u64_natc' (z5_u64c (n := C.n) (k := 1) (i := (inP C.a C.b C.c C.d m)) (hu (inP C.a C.b C.c C.d m).toNat))
    simp only [hT]
    by_cases hs : u % 4 = 1 ∨ u % 4 = 3
    · simp only [show ((u : Int) % 4 = 1 ∨ (u : Int) % 4 = 3) by omega, if_true]; exact pb10_wait hH hu hS hr hn j c m (v : Int) p fd tl cy hm u hu6 hT hs
    · simp only [if_neg (show ¬ ((u : Int) % 4 = 1 ∨ (u : Int) % 4 = 3) by omega)]; exact pb10_next hH hu hS hr hn j c m (v : Int) p fd tl cy hm u hu6 hT hs
  rw [if_neg e10]
  by_cases e16 : l = 16
  · subst e16; rw [if_pos rfl]
    obtain ⟨u, hT, hu6⟩ := u64_natc' (z5_u64c (n := C.n) (k := 1) (i := (inP C.a C.b C.c C.d m)) (hu (inP C.a C.b C.c C.d m).toNat))
    simp only [hT]
    by_cases hq : u = v
    · subst hq; simp only [true_or, if_true]
      exact pb16_same hH hu hS hr hn j c m p fd tl cy hm u hv u hu6 hT rfl
    have hq2 : ¬ (u : Int) = (v : Int) := by omega
    by_cases hs : u % 4 = 3
    · simp only [hq2, show (u : Int) % 4 = 3 by omega, or_true, if_true]
      exact pb16_wait hH hu hS hr hn j c m p fd tl cy hm v hv u hu6 hT hq hs
    · simp only [hq2, show ¬ (u : Int) % 4 = 3 by omega, or_self, if_false]
      exact pb16_next hH hu hS hr hn j c m p fd tl cy hm v hv u hu6 hT hq hs
  rw [if_neg e16]
  by_cases e11 : l = 11
  · subst e11; rw [if_pos rfl]
    exact pb11 hH hu hS hr hn j c m (v : Int) p fd tl cy
  rw [if_neg e11]
  by_cases e12 : l = 12
  · subst e12; rw [if_pos rfl]
    obtain ⟨u, hT, hu6⟩ := u64_natc' (z5_u64c (n := C.n) (k := 1) (i := (inP C.a C.b C.c C.d m)) (hu (inP C.a C.b C.c C.d m).toNat))
    simp only [hT]
    by_cases hs : u % 4 = 0 ∨ u % 4 = 3
    · simp only [if_neg (show ¬ ((u : Int) % 4 = 1 ∨ (u : Int) % 4 = 2) by omega)]; exact pb12_next hH hu hS hr hn j c m (v : Int) p fd tl cy hm u hu6 hT hs
    · simp only [show ((u : Int) % 4 = 1 ∨ (u : Int) % 4 = 2) by omega, if_true]; exact pb12_stay hH hu hS hr hn j c m (v : Int) p fd tl cy hm u hu6 hT hs
  rw [if_neg e12]
  by_cases e13 : l = 13
  · subst e13; rw [if_pos rfl]
    obtain ⟨u, hT, hu6⟩ := u64_natc' (z5_u64c (n := C.n) (k := 1) (i := 2) (hu (2 : Int).toNat))
    simp only [hT]
    by_cases h0 : u = 0
    · subst h0; exact pb13_flip hH hu hS hr hn j c m (v : Int) p fd tl cy 0 hT rfl
    · have h1 : ¬ (u : Int) = 0 := by omega
      simp only [if_neg h1, decide_eq_false h1]; exact pb13_again hH hu hS hr hn j c m (v : Int) p fd tl cy u hT h0
  rw [if_neg e13]
  by_cases e14 : l = 14
  · subst e14; rw [if_pos rfl]
    exact pb14 hH hu hS hr hn j c m (v : Int) p fd tl cy
  rw [if_neg e14]
  by_cases e15 : l = 15
  · subst e15; rw [if_pos rfl]
    exact pb15 hH hu hS hr hn j c m (v : Int) p fd tl cy
  rw [if_neg e15]
  exact pb_other hH hu hS hr hn l j c m (v : Int) p fd tl cy e10 e11 e12 e13 e14 e15 e16
end Go.Proofs.YtbpooljohjkbjaaGreatDoor
