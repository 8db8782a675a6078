/- The program's layer 17: the gate, dirty, any other line, a nil hand. -/
import Derived.Test.YthdcapkchjamoaaDoorBarIn
import Derived.Deep.CutRange
namespace Go.Proofs.YthdcapkchjamoaaDoor
open Go Go.RowKit
set_option maxRecDepth 100000
attribute [local go_sem ↓] Go.wp_at_zero Go.wp_at_succ

set_option maxHeartbeats 3200000 in
theorem pb11 {w : World} {H A G : Nat} {C : Cf} {s : Dy} (hH : HAt w H A G C s) (hu : s.U) (_ : SpansAt w) (_ : Right C.a C.b C.c C.d) (_ : 0 < C.n) (j c m a p : Int) (fd : Bool) (tl cy : Int)  :
    Calls Tryd.prog 60 #[.pointer (some ⟨H, 0, none⟩), (colV 11 j c m a p fd tl cy)] w (HP w H A G C (s.act C 2 1 1 0) (.tuple #[(colV 12 j c m a p fd tl cy), .bool false, .bool true])) := by
  have HC0 := Lib.hid (ColK.start hH ⟨11, j, c, m, a, p, fd, tl, cy⟩)
  have HD : Hid (∀ W, HAt W H A G C s → Calls Tryd.prog 56 #[.pointer (some ⟨H, 0, none⟩), .int .i64 1, .int .u64 1] W (HP W H A G C (s.act C 2 1 1 0) (.tuple #[]))) := Lib.hid (fun W hW => hStore_c (w := W) hW hu 1 1)
  generalize (s.act C 2 1 1 0) = s' at *
  have hmf : ∀ (fn : Fn) (first cap : Array Value) (w : World), (Instr.makeFunc fn first cap).run Tryd.prog w = .ok (.func fn first cap) w := fun _ _ _ _ => rfl
  clear hH hu
  go_enter Tryd.func60, Tryd.ntmps60
  go_upto_region 1 with fail
  generalize (((w.alloc (.cells #[.pointer (some ⟨H, 0, none⟩)] 26)).alloc (.cells #[.int .i64 11, .int .i64 j, .int .i64 c, .int .i64 m, .int .u64 a, .int .u64 p, .bool fd, .int .i64 tl, .int .i64 cy] 37)).alloc (.cells #[.int .i64 0, .int .i64 0, .int .i64 0, .int .i64 0, .int .u64 0, .int .u64 0, .bool false, .int .i64 0, .int .i64 0] 37)) = V0 at *
  generalize w.heap.size + 1 + 1 = Y at *
  generalize w.heap.size + 1 = X at *
  generalize w.heap.size = K at *
  obtain ⟨a0, a1, a2, a3, a4, a5, a6, a7, a8, af⟩ := HC0.out.cells
  dsimp only at a0 a1 a2 a3 a4 a5 a6 a7 a8
  have k0 := HC0.out.cellK
  go_wp2_with fail
  refine (HD.out _ HC0.out.hand).mono ?_
  rintro e V1 ⟨rfl, hF, hs⟩
  have HC1 := Lib.hid (HC0.out.handed hF hs)
  clear HC0 hF hs a0 a1 a2 a3 a4 a5 a6 a7 a8 af k0
  clear HD
  have HCe := Lib.hid (HC1.out.setL 12)
  obtain ⟨b0, b1, b2, b3, b4, b5, b6, b7, b8, bf⟩ := HC1.out.cells
  dsimp only at b0 b1 b2 b3 b4 b5 b6 b7 b8
  obtain ⟨d0, d1, d2, d3, d4, d5, d6, d7, d8, df⟩ := HCe.out.cells
  dsimp only at d0 d1 d2 d3 d4 d5 d6 d7 d8
  obtain ⟨c0, c1, c2, c3, c4, c5, c6, c7, c8, cf⟩ := HCe.out.cellsY
  obtain ⟨s0, s1, s2, s3, s4, s5, s6, s7, s8, sf⟩ := (HCe.out.last ⟨12, j, c, m, a, p, fd, tl, cy⟩).cells
  dsimp only at s0 s1 s2 s3 s4 s5 s6 s7 s8
  have xy := HCe.out.xy
  clear HC1
  go_wp2_with fail
  refine bodyPost_ret (v := .tuple #[(colV 12 j c m a p fd tl cy), .bool false, .bool true]) (by simp [results, Tryd.f60, go_sem, s0, s1, s2, s3, s4, s5, s6, s7, s8]) rfl ?_
  exact ⟨rfl, HCe.out.fin ⟨12, j, c, m, a, p, fd, tl, cy⟩⟩
set_option maxHeartbeats 3200000 in
theorem pb14 {w : World} {H A G : Nat} {C : Cf} {s : Dy} (hH : HAt w H A G C s) (hu : s.U) (_ : SpansAt w) (_ : Right C.a C.b C.c C.d) (_ : 0 < C.n) (j c m a p : Int) (fd : Bool) (tl cy : Int)  :
    Calls Tryd.prog 60 #[.pointer (some ⟨H, 0, none⟩), (colV 14 j c m a p fd tl cy)] w (HP w H A G C (s.act C 2 1 0 0) (.tuple #[(colV 20 j 0 m a p fd tl cy), .bool false, .bool true])) := by
  have HC0 := Lib.hid (ColK.start hH ⟨14, j, c, m, a, p, fd, tl, cy⟩)
  have HD : Hid (∀ W, HAt W H A G C s → Calls Tryd.prog 56 #[.pointer (some ⟨H, 0, none⟩), .int .i64 1, .int .u64 0] W (HP W H A G C (s.act C 2 1 0 0) (.tuple #[]))) := Lib.hid (fun W hW => hStore_c (w := W) hW hu 1 0)
  generalize (s.act C 2 1 0 0) = s' at *
  have hmf : ∀ (fn : Fn) (first cap : Array Value) (w : World), (Instr.makeFunc fn first cap).run Tryd.prog w = .ok (.func fn first cap) w := fun _ _ _ _ => rfl
  clear hH hu
  go_enter Tryd.func60, Tryd.ntmps60
  go_upto_region 1 with fail
  generalize (((w.alloc (.cells #[.pointer (some ⟨H, 0, none⟩)] 26)).alloc (.cells #[.int .i64 14, .int .i64 j, .int .i64 c, .int .i64 m, .int .u64 a, .int .u64 p, .bool fd, .int .i64 tl, .int .i64 cy] 37)).alloc (.cells #[.int .i64 0, .int .i64 0, .int .i64 0, .int .i64 0, .int .u64 0, .int .u64 0, .bool false, .int .i64 0, .int .i64 0] 37)) = V0 at *
  generalize w.heap.size + 1 + 1 = Y at *
  generalize w.heap.size + 1 = X at *
  generalize w.heap.size = K at *
  obtain ⟨a0, a1, a2, a3, a4, a5, a6, a7, a8, af⟩ := HC0.out.cells
  dsimp only at a0 a1 a2 a3 a4 a5 a6 a7 a8
  have k0 := HC0.out.cellK
  go_wp2_with fail
  refine (HD.out _ HC0.out.hand).mono ?_
  rintro e V1 ⟨rfl, hF, hs⟩
  have HC1 := Lib.hid (HC0.out.handed hF hs)
  clear HC0 hF hs a0 a1 a2 a3 a4 a5 a6 a7 a8 af k0
  clear HD
  have HCe := Lib.hid ((HC1.out.setL 20).setC 0)
  obtain ⟨b0, b1, b2, b3, b4, b5, b6, b7, b8, bf⟩ := HC1.out.cells
  dsimp only at b0 b1 b2 b3 b4 b5 b6 b7 b8
  obtain ⟨d0, d1, d2, d3, d4, d5, d6, d7, d8, df⟩ := HCe.out.cells
  dsimp only at d0 d1 d2 d3 d4 d5 d6 d7 d8
  obtain ⟨c0, c1, c2, c3, c4, c5, c6, c7, c8, cf⟩ := HCe.out.cellsY
  obtain ⟨s0, s1, s2, s3, s4, s5, s6, s7, s8, sf⟩ := (HCe.out.last ⟨20, j, 0, m, a, p, fd, tl, cy⟩).cells
  dsimp only at s0 s1 s2 s3 s4 s5 s6 s7 s8
  have xy := HCe.out.xy
  clear HC1
  go_wp2_with fail
  refine bodyPost_ret (v := .tuple #[(colV 20 j 0 m a p fd tl cy), .bool false, .bool true]) (by simp [results, Tryd.f60, go_sem, s0, s1, s2, s3, s4, s5, s6, s7, s8]) rfl ?_
  exact ⟨rfl, HCe.out.fin ⟨20, j, 0, m, a, p, fd, tl, cy⟩⟩
set_option maxHeartbeats 3200000 in
theorem pb15 {w : World} {H A G : Nat} {C : Cf} {s : Dy} (hH : HAt w H A G C s) (hu : s.U) (_ : SpansAt w) (_ : Right C.a C.b C.c C.d) (_ : 0 < C.n) (j c m a p : Int) (fd : Bool) (tl cy : Int)  :
    Calls Tryd.prog 60 #[.pointer (some ⟨H, 0, none⟩), (colV 15 j c m a p fd tl cy)] w (HP w H A G C (s.act C 2 1 0 0) (.tuple #[(colV 3 j c m a p fd tl cy), .bool false, .bool true])) := by
  have HC0 := Lib.hid (ColK.start hH ⟨15, j, c, m, a, p, fd, tl, cy⟩)
  have HD : Hid (∀ W, HAt W H A G C s → Calls Tryd.prog 56 #[.pointer (some ⟨H, 0, none⟩), .int .i64 1, .int .u64 0] W (HP W H A G C (s.act C 2 1 0 0) (.tuple #[]))) := Lib.hid (fun W hW => hStore_c (w := W) hW hu 1 0)
  generalize (s.act C 2 1 0 0) = s' at *
  have hmf : ∀ (fn : Fn) (first cap : Array Value) (w : World), (Instr.makeFunc fn first cap).run Tryd.prog w = .ok (.func fn first cap) w := fun _ _ _ _ => rfl
  clear hH hu
  go_enter Tryd.func60, Tryd.ntmps60
  go_upto_region 1 with fail
  generalize (((w.alloc (.cells #[.pointer (some ⟨H, 0, none⟩)] 26)).alloc (.cells #[.int .i64 15, .int .i64 j, .int .i64 c, .int .i64 m, .int .u64 a, .int .u64 p, .bool fd, .int .i64 tl, .int .i64 cy] 37)).alloc (.cells #[.int .i64 0, .int .i64 0, .int .i64 0, .int .i64 0, .int .u64 0, .int .u64 0, .bool false, .int .i64 0, .int .i64 0] 37)) = V0 at *
  generalize w.heap.size + 1 + 1 = Y at *
  generalize w.heap.size + 1 = X at *
  generalize w.heap.size = K at *
  obtain ⟨a0, a1, a2, a3, a4, a5, a6, a7, a8, af⟩ := HC0.out.cells
  dsimp only at a0 a1 a2 a3 a4 a5 a6 a7 a8
  have k0 := HC0.out.cellK
  go_wp2_with fail
  refine (HD.out _ HC0.out.hand).mono ?_
  rintro e V1 ⟨rfl, hF, hs⟩
  have HC1 := Lib.hid (HC0.out.handed hF hs)
  clear HC0 hF hs a0 a1 a2 a3 a4 a5 a6 a7 a8 af k0
  clear HD
  have HCe := Lib.hid (HC1.out.setL 3)
  obtain ⟨b0, b1, b2, b3, b4, b5, b6, b7, b8, bf⟩ := HC1.out.cells
  dsimp only at b0 b1 b2 b3 b4 b5 b6 b7 b8
  obtain ⟨d0, d1, d2, d3, d4, d5, d6, d7, d8, df⟩ := HCe.out.cells
  dsimp only at d0 d1 d2 d3 d4 d5 d6 d7 d8
  obtain ⟨c0, c1, c2, c3, c4, c5, c6, c7, c8, cf⟩ := HCe.out.cellsY
  obtain ⟨s0, s1, s2, s3, s4, s5, s6, s7, s8, sf⟩ := (HCe.out.last ⟨3, j, c, m, a, p, fd, tl, cy⟩).cells
  dsimp only at s0 s1 s2 s3 s4 s5 s6 s7 s8
  have xy := HCe.out.xy
  clear HC1
  go_wp2_with fail
  refine bodyPost_ret (v := .tuple #[(colV 3 j c m a p fd tl cy), .bool false, .bool true]) (by simp [results, Tryd.f60, go_sem, s0, s1, s2, s3, s4, s5, s6, s7, s8]) rfl ?_
  exact ⟨rfl, HCe.out.fin ⟨3, j, c, m, a, p, fd, tl, cy⟩⟩
set_option maxHeartbeats 3200000 in
theorem pb13_flip {w : World} {H A G : Nat} {C : Cf} {s : Dy} (hH : HAt w H A G C s) (hu : s.U) (_ : SpansAt w) (_ : Right C.a C.b C.c C.d) (_ : 0 < C.n) (j c m a p : Int) (fd : Bool) (tl cy : Int) (u : Nat) (hT : z5 C.n 1 2 (s.f (2 : Int).toNat) = (u : Int)) (hs : u = 0) :
    Calls Tryd.prog 60 #[.pointer (some ⟨H, 0, none⟩), (colV 13 j c m a p fd tl cy)] w (HP w H A G C (s.act C 1 2 0 0) (.tuple #[(colV 14 j c m a p fd tl cy), .bool true, .bool true])) := by
  have HC0 := Lib.hid (ColK.start hH ⟨13, j, c, m, a, p, fd, tl, cy⟩)
  have HD : Hid (∀ W, HAt W H A G C s → Calls Tryd.prog 49 #[.pointer (some ⟨H, 0, none⟩), .int .i64 (2 : Int)] W (HP W H A G C (s.act C 1 (2 : Int) 0 0) (.int .u64 (z5 C.n 1 (2 : Int) (s.f ((2 : Int)).toNat))))) := Lib.hid (fun W hW => hLoad_c (w := W) hW hu (2 : Int))
  generalize (s.act C 1 2 0 0) = s' at *
  rw [hT] at HD
  subst hs
  have hmf : ∀ (fn : Fn) (first cap : Array Value) (w : World), (Instr.makeFunc fn first cap).run Tryd.prog w = .ok (.func fn first cap) w := fun _ _ _ _ => rfl
  clear hH hu hT
  go_enter Tryd.func60, Tryd.ntmps60
  go_upto_region 1 with fail
  generalize (((w.alloc (.cells #[.pointer (some ⟨H, 0, none⟩)] 26)).alloc (.cells #[.int .i64 13, .int .i64 j, .int .i64 c, .int .i64 m, .int .u64 a, .int .u64 p, .bool fd, .int .i64 tl, .int .i64 cy] 37)).alloc (.cells #[.int .i64 0, .int .i64 0, .int .i64 0, .int .i64 0, .int .u64 0, .int .u64 0, .bool false, .int .i64 0, .int .i64 0] 37)) = V0 at *
  generalize w.heap.size + 1 + 1 = Y at *
  generalize w.heap.size + 1 = X at *
  generalize w.heap.size = K at *
  obtain ⟨a0, a1, a2, a3, a4, a5, a6, a7, a8, af⟩ := HC0.out.cells
  dsimp only at a0 a1 a2 a3 a4 a5 a6 a7 a8
  have k0 := HC0.out.cellK
  have hkx := HC0.out.kx
  have HC1 := Lib.hid (HC0.out.setL 15)
  clear HC0
  go_wp2_with fail
  clear a0 a1 a2 a3 a4 a5 a6 a7 a8 af k0
  obtain ⟨a0, a1, a2, a3, a4, a5, a6, a7, a8, af⟩ := HC1.out.cells
  dsimp only at a0 a1 a2 a3 a4 a5 a6 a7 a8
  have k0 := HC1.out.cellK
  refine (HD.out _ HC1.out.hand).mono ?_
  rintro e V1 ⟨rfl, hF, hs⟩
  have HC2 := Lib.hid (HC1.out.handed hF hs)
  clear HC1 hF hs a0 a1 a2 a3 a4 a5 a6 a7 a8 af k0
  clear HD
  have HCe := Lib.hid (HC2.out.setL 14)
  obtain ⟨b0, b1, b2, b3, b4, b5, b6, b7, b8, bf⟩ := HC2.out.cells
  dsimp only at b0 b1 b2 b3 b4 b5 b6 b7 b8
  obtain ⟨d0, d1, d2, d3, d4, d5, d6, d7, d8, df⟩ := HCe.out.cells
  dsimp only at d0 d1 d2 d3 d4 d5 d6 d7 d8
  obtain ⟨c0, c1, c2, c3, c4, c5, c6, c7, c8, cf⟩ := HCe.out.cellsY
  obtain ⟨s0, s1, s2, s3, s4, s5, s6, s7, s8, sf⟩ := (HCe.out.last ⟨14, j, c, m, a, p, fd, tl, cy⟩).cells
  dsimp only at s0 s1 s2 s3 s4 s5 s6 s7 s8
  have xy := HCe.out.xy
  clear HC2
  go_wp2_with fail
  refine bodyPost_ret (v := .tuple #[(colV 14 j c m a p fd tl cy), .bool true, .bool true]) (by simp [results, Tryd.f60, go_sem, s0, s1, s2, s3, s4, s5, s6, s7, s8]) rfl ?_
  exact ⟨rfl, HCe.out.fin ⟨14, j, c, m, a, p, fd, tl, cy⟩⟩
set_option maxHeartbeats 3200000 in
theorem pb13_again {w : World} {H A G : Nat} {C : Cf} {s : Dy} (hH : HAt w H A G C s) (hu : s.U) (_ : SpansAt w) (_ : Right C.a C.b C.c C.d) (_ : 0 < C.n) (j c m a p : Int) (fd : Bool) (tl cy : Int) (u : Nat) (hT : z5 C.n 1 2 (s.f (2 : Int).toNat) = (u : Int)) (hs : ¬ u = 0) :
    Calls Tryd.prog 60 #[.pointer (some ⟨H, 0, none⟩), (colV 13 j c m a p fd tl cy)] w (HP w H A G C (s.act C 1 2 0 0) (.tuple #[(colV 15 j c m a p fd tl cy), .bool false, .bool true])) := by
  have HC0 := Lib.hid (ColK.start hH ⟨13, j, c, m, a, p, fd, tl, cy⟩)
  have HD : Hid (∀ W, HAt W H A G C s → Calls Tryd.prog 49 #[.pointer (some ⟨H, 0, none⟩), .int .i64 (2 : Int)] W (HP W H A G C (s.act C 1 (2 : Int) 0 0) (.int .u64 (z5 C.n 1 (2 : Int) (s.f ((2 : Int)).toNat))))) := Lib.hid (fun W hW => hLoad_c (w := W) hW hu (2 : Int))
  generalize (s.act C 1 2 0 0) = s' at *
  rw [hT] at HD
  have hq : ((u : Int) == 0) = false := by simp; omega
  have hmf : ∀ (fn : Fn) (first cap : Array Value) (w : World), (Instr.makeFunc fn first cap).run Tryd.prog w = .ok (.func fn first cap) w := fun _ _ _ _ => rfl
  clear hH hu hT hs
  go_enter Tryd.func60, Tryd.ntmps60
  go_upto_region 1 with fail
  generalize (((w.alloc (.cells #[.pointer (some ⟨H, 0, none⟩)] 26)).alloc (.cells #[.int .i64 13, .int .i64 j, .int .i64 c, .int .i64 m, .int .u64 a, .int .u64 p, .bool fd, .int .i64 tl, .int .i64 cy] 37)).alloc (.cells #[.int .i64 0, .int .i64 0, .int .i64 0, .int .i64 0, .int .u64 0, .int .u64 0, .bool false, .int .i64 0, .int .i64 0] 37)) = V0 at *
  generalize w.heap.size + 1 + 1 = Y at *
  generalize w.heap.size + 1 = X at *
  generalize w.heap.size = K at *
  obtain ⟨a0, a1, a2, a3, a4, a5, a6, a7, a8, af⟩ := HC0.out.cells
  dsimp only at a0 a1 a2 a3 a4 a5 a6 a7 a8
  have k0 := HC0.out.cellK
  have hkx := HC0.out.kx
  have HC1 := Lib.hid (HC0.out.setL 15)
  clear HC0
  go_wp2_with fail
  clear a0 a1 a2 a3 a4 a5 a6 a7 a8 af k0
  obtain ⟨a0, a1, a2, a3, a4, a5, a6, a7, a8, af⟩ := HC1.out.cells
  dsimp only at a0 a1 a2 a3 a4 a5 a6 a7 a8
  have k0 := HC1.out.cellK
  refine (HD.out _ HC1.out.hand).mono ?_
  rintro e V1 ⟨rfl, hF, hs⟩
  have HC2 := Lib.hid (HC1.out.handed hF hs)
  clear HC1 hF hs a0 a1 a2 a3 a4 a5 a6 a7 a8 af k0
  clear HD
  have HCe := Lib.hid HC2.out
  obtain ⟨d0, d1, d2, d3, d4, d5, d6, d7, d8, df⟩ := HCe.out.cells
  dsimp only at d0 d1 d2 d3 d4 d5 d6 d7 d8
  obtain ⟨c0, c1, c2, c3, c4, c5, c6, c7, c8, cf⟩ := HCe.out.cellsY
  obtain ⟨s0, s1, s2, s3, s4, s5, s6, s7, s8, sf⟩ := (HCe.out.last ⟨15, j, c, m, a, p, fd, tl, cy⟩).cells
  dsimp only at s0 s1 s2 s3 s4 s5 s6 s7 s8
  have xy := HCe.out.xy
  clear HC2
  go_wp2_with fail
  refine bodyPost_ret (v := .tuple #[(colV 15 j c m a p fd tl cy), .bool false, .bool true]) (by simp [results, Tryd.f60, go_sem, s0, s1, s2, s3, s4, s5, s6, s7, s8]) rfl ?_
  exact ⟨rfl, HCe.out.fin ⟨15, j, c, m, a, p, fd, tl, cy⟩⟩
set_option maxHeartbeats 3200000 in
theorem pb_other {w : World} {H A G : Nat} {C : Cf} {s : Dy} (hH : HAt w H A G C s) (_ : s.U) (_ : SpansAt w) (_ : Right C.a C.b C.c C.d) (_ : 0 < C.n) (l j c m a p : Int) (fd : Bool) (tl cy : Int) (g10 : ¬ l = 10) (g11 : ¬ l = 11) (g12 : ¬ l = 12) (g13 : ¬ l = 13) (g14 : ¬ l = 14) (g15 : ¬ l = 15) (g16 : ¬ l = 16) :
    Calls Tryd.prog 60 #[.pointer (some ⟨H, 0, none⟩), (colV l j c m a p fd tl cy)] w (HP w H A G C s (.tuple #[(colV l j c m a p fd tl cy), .bool false, .bool false])) := by
  have HC0 := Lib.hid (ColK.start hH ⟨l, j, c, m, a, p, fd, tl, cy⟩)
  have e10 : (l == 10) = false := by simpa using g10
  have e11 : (l == 11) = false := by simpa using g11
  have e12 : (l == 12) = false := by simpa using g12
  have e13 : (l == 13) = false := by simpa using g13
  have e14 : (l == 14) = false := by simpa using g14
  have e15 : (l == 15) = false := by simpa using g15
  have e16 : (l == 16) = false := by simpa using g16
  have hmf : ∀ (fn : Fn) (first cap : Array Value) (w : World), (Instr.makeFunc fn first cap).run Tryd.prog w = .ok (.func fn first cap) w := fun _ _ _ _ => rfl
  clear hH g10 g11 g12 g13 g14 g15 g16
  go_enter Tryd.func60, Tryd.ntmps60
  go_upto_region 1 with fail
  generalize (((w.alloc (.cells #[.pointer (some ⟨H, 0, none⟩)] 26)).alloc (.cells #[.int .i64 l, .int .i64 j, .int .i64 c, .int .i64 m, .int .u64 a, .int .u64 p, .bool fd, .int .i64 tl, .int .i64 cy] 37)).alloc (.cells #[.int .i64 0, .int .i64 0, .int .i64 0, .int .i64 0, .int .u64 0, .int .u64 0, .bool false, .int .i64 0, .int .i64 0] 37)) = V0 at *
  generalize w.heap.size + 1 + 1 = Y at *
  generalize w.heap.size + 1 = X at *
  generalize w.heap.size = K at *
  obtain ⟨a0, a1, a2, a3, a4, a5, a6, a7, a8, af⟩ := HC0.out.cells
  dsimp only at a0 a1 a2 a3 a4 a5 a6 a7 a8
  have k0 := HC0.out.cellK
  clear a0 a1 a2 a3 a4 a5 a6 a7 a8 af
  have HCe := Lib.hid HC0.out
  obtain ⟨d0, d1, d2, d3, d4, d5, d6, d7, d8, df⟩ := HCe.out.cells
  dsimp only at d0 d1 d2 d3 d4 d5 d6 d7 d8
  obtain ⟨c0, c1, c2, c3, c4, c5, c6, c7, c8, cf⟩ := HCe.out.cellsY
  obtain ⟨s0, s1, s2, s3, s4, s5, s6, s7, s8, sf⟩ := (HCe.out.last ⟨l, j, c, m, a, p, fd, tl, cy⟩).cells
  dsimp only at s0 s1 s2 s3 s4 s5 s6 s7 s8
  have xy := HCe.out.xy
  clear HC0
  go_wp2_with fail
  refine bodyPost_ret (v := .tuple #[(colV l j c m a p fd tl cy), .bool false, .bool false]) (by simp [results, Tryd.f60, go_sem, s0, s1, s2, s3, s4, s5, s6, s7, s8]) rfl ?_
  exact ⟨rfl, HCe.out.fin ⟨l, j, c, m, a, p, fd, tl, cy⟩⟩
theorem bStep17_nil (l j c m a p : Int) (fd : Bool) (tl cy : Int) (w : World) :
    Calls Tryd.prog 60 #[.pointer none, (colV l j c m a p fd tl cy)] w fun e w' => e = .returned (.tuple #[(colV l j c m a p fd tl cy), .bool false, .bool false]) ∧ Below w.heap.size w w' := by
  go_enter Tryd.func60, Tryd.ntmps60
  go_wp2_with fail
  refine bodyPost_ret (v := .tuple #[(colV l j c m a p fd tl cy), .bool false, .bool false]) (by simp [results, Tryd.f60, go_sem]) rfl ?_
  exact ⟨rfl, below_on (below_on (below_new _ _) _) _⟩
end Go.Proofs.YthdcapkchjamoaaDoor
