/- A step of package pass: lines 3, 6, 8, any other line, and no hand. -/
import Derived.Test.YtipkkmmehjdmpaaDoorPassNext
namespace Go.Proofs.YtipkkmmehjdmpaaDoor
open Go Go.RowKit
set_option maxRecDepth 100000
attribute [local go_sem ↓] Go.wp_at_zero Go.wp_at_succ

set_option maxHeartbeats 3200000 in
theorem pStep_3 {w : World} {H A G : Nat} {C : Cf} {s : Dy} (hH : HAt w H A G C s) (hu : s.U) (_ : SpansAt w) (_ : Right C.a C.b C.c C.d) (_ : 0 < C.n) (j c m a p : Int) (fd : Bool) (tl cy : Int) :
    Calls Tryd.prog 10 #[.pointer (some ⟨H, 0, none⟩), (colV 3 j c m a p fd tl cy)] w (HP w H A G C (s.act C 2 2 0 0) (.tuple #[(colV 4 j 0 m a p false tl cy), .bool true])) := by
  have HC0 := Lib.hid (ColF.start hH ⟨3, j, c, m, a, p, fd, tl, cy⟩)
  have HD : Hid (∀ W, HAt W H A G C s → Calls Tryd.prog 23 #[.pointer (some ⟨H, 0, none⟩), .int .i64 2, .int .u64 0] W (HP W H A G C (s.act C 2 2 0 0) (.tuple #[]))) := Lib.hid (fun W hW => hStore_c (w := W) hW hu 2 0)
  generalize (s.act C 2 2 0 0) = s' at *
  clear hH hu
  obtain ⟨a0, a1, a2, a3, a4, a5, a6, a7, a8, af⟩ := HC0.out.cells
  dsimp only at a0 a1 a2 a3 a4 a5 a6 a7 a8
  go_enter Tryd.func10, Tryd.ntmps10
  go_wp2_with fail
  refine (HD.out _ HC0.out.hand).mono ?_
  rintro e V1 ⟨rfl, hF, hs⟩
  have HC1 := Lib.hid (HC0.out.handed hF hs)
  clear HC0 hF hs
  clear HD a0 a1 a2 a3 a4 a5 a6 a7 a8 af
  obtain ⟨a0, a1, a2, a3, a4, a5, a6, a7, a8, af⟩ := HC1.out.cells
  dsimp only at a0 a1 a2 a3 a4 a5 a6 a7 a8
  clear a0 a1 a2 a3 a4 a5 a6 a7 a8 af
  have HCe := Lib.hid (((HC1.out.setL 4).setC 0).setFD false)
  obtain ⟨b0, b1, b2, b3, b4, b5, b6, b7, b8, bf⟩ := HC1.out.cells
  dsimp only at b0 b1 b2 b3 b4 b5 b6 b7 b8
  obtain ⟨d0, d1, d2, d3, d4, d5, d6, d7, d8, df⟩ := HCe.out.cells
  dsimp only at d0 d1 d2 d3 d4 d5 d6 d7 d8
  obtain ⟨c0, c1, c2, c3, c4, c5, c6, c7, c8, cf⟩ := HCe.out.cellsY
  obtain ⟨s0, s1, s2, s3, s4, s5, s6, s7, s8, sf⟩ := (HCe.out.last ⟨4, j, 0, m, a, p, false, tl, cy⟩).cells
  dsimp only at s0 s1 s2 s3 s4 s5 s6 s7 s8
  clear HC1 
  go_wp2_with fail
  refine bodyPost_ret (v := .tuple #[(colV 4 j 0 m a p false tl cy), .bool true]) (by simp [results, Tryd.f10, go_sem, s0, s1, s2, s3, s4, s5, s6, s7, s8]) rfl ?_
  exact ⟨rfl, HCe.out.fin ⟨4, j, 0, m, a, p, false, tl, cy⟩⟩
set_option maxHeartbeats 3200000 in
theorem pStep_6 {w : World} {H A G : Nat} {C : Cf} {s : Dy} (hH : HAt w H A G C s) (hu : s.U) (hS : SpansAt w) (_ : Right C.a C.b C.c C.d) (hn : 0 < C.n) (j c m p : Int) (fd : Bool) (tl cy : Int) (v : Nat) (hv : v < 18446744073709551616) :
    Calls Tryd.prog 10 #[.pointer (some ⟨H, 0, none⟩), (colV 6 j c m (v : Int) p fd tl cy)] w (HP w H A G C (s.act C 3 (fieldP C.a C.b C.c C.d v 2) 0 1) (.tuple #[(colV 7 j c m (v : Int) p fd tl cy), .bool true])) := by
  have HC0 := Lib.hid (ColF.start hH ⟨6, j, c, m, (v : Int), p, fd, tl, cy⟩)
  have HSP : Hid (∀ W s' x', ColF w W H A G C s' x' → SpansAt W) := Lib.hid (fun W s' x' h => spans_sav hn hS hH h.sav)
  have HFd : Hid (∀ W, HAt W H A G C s → SpansAt W → Calls Tryd.prog 33 #[.pointer (some ⟨H, 0, none⟩), .int .u64 (v : Int), .int .i64 2] W fun e w' => e = .returned (.int .i64 (fieldP C.a C.b C.c C.d v 2)) ∧ Below W.heap.size W w') := Lib.hid (fun W hW hs => hField_c (w := W) hW hs v hv 2)
  have HD : Hid (∀ W, HAt W H A G C s → Calls Tryd.prog 32 #[.pointer (some ⟨H, 0, none⟩), .int .i64 (fieldP C.a C.b C.c C.d v 2), .int .u64 0, .int .u64 1] W (HP W H A G C (s.act C 3 (fieldP C.a C.b C.c C.d v 2) 0 1) (.bool (casB C.n s.f (fieldP C.a C.b C.c C.d v 2) 0)))) := Lib.hid (fun W hW => hCas_c (w := W) hW hu (fieldP C.a C.b C.c C.d v 2) 0 1)
  generalize (s.act C 3 (fieldP C.a C.b C.c C.d v 2) 0 1) = s' at *
  generalize (casB C.n s.f (fieldP C.a C.b C.c C.d v 2) 0) = b2 at *
  generalize (fieldP C.a C.b C.c C.d v 2) = P at *
  clear hH hu hS hv hn
  obtain ⟨a0, a1, a2, a3, a4, a5, a6, a7, a8, af⟩ := HC0.out.cells
  dsimp only at a0 a1 a2 a3 a4 a5 a6 a7 a8
  go_enter Tryd.func10, Tryd.ntmps10
  go_wp2_with fail
  refine (HFd.out _ HC0.out.hand (HSP.out _ _ _ HC0.out)).mono ?_
  rintro e V1 ⟨rfl, hb⟩
  have HC1 := Lib.hid (HC0.out.below hb)
  clear HC0
  clear hb
  clear HFd a0 a1 a2 a3 a4 a5 a6 a7 a8 af
  obtain ⟨a0, a1, a2, a3, a4, a5, a6, a7, a8, af⟩ := HC1.out.cells
  dsimp only at a0 a1 a2 a3 a4 a5 a6 a7 a8
  go_wp2_with fail
  refine (HD.out _ HC1.out.hand).mono ?_
  rintro e V2 ⟨rfl, hF, hs⟩
  have HC2 := Lib.hid (HC1.out.handed hF hs)
  clear HC1 hF hs
  clear HD a0 a1 a2 a3 a4 a5 a6 a7 a8 af
  obtain ⟨a0, a1, a2, a3, a4, a5, a6, a7, a8, af⟩ := HC2.out.cells
  dsimp only at a0 a1 a2 a3 a4 a5 a6 a7 a8
  clear a0 a1 a2 a3 a4 a5 a6 a7 a8 af
  have HCe := Lib.hid (HC2.out.setL 7)
  obtain ⟨b0, b1, b2, b3, b4, b5, b6, b7, b8, bf⟩ := HC2.out.cells
  dsimp only at b0 b1 b2 b3 b4 b5 b6 b7 b8
  obtain ⟨d0, d1, d2, d3, d4, d5, d6, d7, d8, df⟩ := HCe.out.cells
  dsimp only at d0 d1 d2 d3 d4 d5 d6 d7 d8
  obtain ⟨c0, c1, c2, c3, c4, c5, c6, c7, c8, cf⟩ := HCe.out.cellsY
  obtain ⟨s0, s1, s2, s3, s4, s5, s6, s7, s8, sf⟩ := (HCe.out.last ⟨7, j, c, m, (v : Int), p, fd, tl, cy⟩).cells
  dsimp only at s0 s1 s2 s3 s4 s5 s6 s7 s8
  clear HC2 
  go_wp2_with fail
  refine bodyPost_ret (v := .tuple #[(colV 7 j c m (v : Int) p fd tl cy), .bool true]) (by simp [results, Tryd.f10, go_sem, s0, s1, s2, s3, s4, s5, s6, s7, s8]) rfl ?_
  exact ⟨rfl, HCe.out.fin ⟨7, j, c, m, (v : Int), p, fd, tl, cy⟩⟩
set_option maxHeartbeats 3200000 in
theorem pStep_8 {w : World} {H A G : Nat} {C : Cf} {s : Dy} (hH : HAt w H A G C s) (hu : s.U) (hS : SpansAt w) (_ : Right C.a C.b C.c C.d) (hn : 0 < C.n) (j c m p : Int) (fd : Bool) (tl cy : Int) (v : Nat) (hv : v < 18446744073709551616) :
    Calls Tryd.prog 10 #[.pointer (some ⟨H, 0, none⟩), (colV 8 j c m (v : Int) p fd tl cy)] w (HP w H A G C (s.act C 3 (fieldP C.a C.b C.c C.d v 2) 0 1) (.tuple #[(colV 9 j c m (v : Int) p fd tl cy), .bool true])) := by
  have HC0 := Lib.hid (ColF.start hH ⟨8, j, c, m, (v : Int), p, fd, tl, cy⟩)
  have HSP : Hid (∀ W s' x', ColF w W H A G C s' x' → SpansAt W) := Lib.hid (fun W s' x' h => spans_sav hn hS hH h.sav)
  have HFd : Hid (∀ W, HAt W H A G C s → SpansAt W → Calls Tryd.prog 33 #[.pointer (some ⟨H, 0, none⟩), .int .u64 (v : Int), .int .i64 2] W fun e w' => e = .returned (.int .i64 (fieldP C.a C.b C.c C.d v 2)) ∧ Below W.heap.size W w') := Lib.hid (fun W hW hs => hField_c (w := W) hW hs v hv 2)
  have HD : Hid (∀ W, HAt W H A G C s → Calls Tryd.prog 32 #[.pointer (some ⟨H, 0, none⟩), .int .i64 (fieldP C.a C.b C.c C.d v 2), .int .u64 0, .int .u64 1] W (HP W H A G C (s.act C 3 (fieldP C.a C.b C.c C.d v 2) 0 1) (.bool (casB C.n s.f (fieldP C.a C.b C.c C.d v 2) 0)))) := Lib.hid (fun W hW => hCas_c (w := W) hW hu (fieldP C.a C.b C.c C.d v 2) 0 1)
  generalize (s.act C 3 (fieldP C.a C.b C.c C.d v 2) 0 1) = s' at *
  generalize (casB C.n s.f (fieldP C.a C.b C.c C.d v 2) 0) = b2 at *
  generalize (fieldP C.a C.b C.c C.d v 2) = P at *
  clear hH hu hS hv hn
  obtain ⟨a0, a1, a2, a3, a4, a5, a6, a7, a8, af⟩ := HC0.out.cells
  dsimp only at a0 a1 a2 a3 a4 a5 a6 a7 a8
  go_enter Tryd.func10, Tryd.ntmps10
  go_wp2_with fail
  refine (HFd.out _ HC0.out.hand (HSP.out _ _ _ HC0.out)).mono ?_
  rintro e V1 ⟨rfl, hb⟩
  have HC1 := Lib.hid (HC0.out.below hb)
  clear HC0
  clear hb
  clear HFd a0 a1 a2 a3 a4 a5 a6 a7 a8 af
  obtain ⟨a0, a1, a2, a3, a4, a5, a6, a7, a8, af⟩ := HC1.out.cells
  dsimp only at a0 a1 a2 a3 a4 a5 a6 a7 a8
  go_wp2_with fail
  refine (HD.out _ HC1.out.hand).mono ?_
  rintro e V2 ⟨rfl, hF, hs⟩
  have HC2 := Lib.hid (HC1.out.handed hF hs)
  clear HC1 hF hs
  clear HD a0 a1 a2 a3 a4 a5 a6 a7 a8 af
  obtain ⟨a0, a1, a2, a3, a4, a5, a6, a7, a8, af⟩ := HC2.out.cells
  dsimp only at a0 a1 a2 a3 a4 a5 a6 a7 a8
  clear a0 a1 a2 a3 a4 a5 a6 a7 a8 af
  have HCe := Lib.hid (HC2.out.setL 9)
  obtain ⟨b0, b1, b2, b3, b4, b5, b6, b7, b8, bf⟩ := HC2.out.cells
  dsimp only at b0 b1 b2 b3 b4 b5 b6 b7 b8
  obtain ⟨d0, d1, d2, d3, d4, d5, d6, d7, d8, df⟩ := HCe.out.cells
  dsimp only at d0 d1 d2 d3 d4 d5 d6 d7 d8
  obtain ⟨c0, c1, c2, c3, c4, c5, c6, c7, c8, cf⟩ := HCe.out.cellsY
  obtain ⟨s0, s1, s2, s3, s4, s5, s6, s7, s8, sf⟩ := (HCe.out.last ⟨9, j, c, m, (v : Int), p, fd, tl, cy⟩).cells
  dsimp only at s0 s1 s2 s3 s4 s5 s6 s7 s8
  clear HC2 
  go_wp2_with fail
  refine bodyPost_ret (v := .tuple #[(colV 9 j c m (v : Int) p fd tl cy), .bool true]) (by simp [results, Tryd.f10, go_sem, s0, s1, s2, s3, s4, s5, s6, s7, s8]) rfl ?_
  exact ⟨rfl, HCe.out.fin ⟨9, j, c, m, (v : Int), p, fd, tl, cy⟩⟩
set_option maxHeartbeats 3200000 in
theorem pStep_other {w : World} {H A G : Nat} {C : Cf} {s : Dy} (hH : HAt w H A G C s) (_ : s.U) (_ : SpansAt w) (_ : Right C.a C.b C.c C.d) (_ : 0 < C.n) (l j c m a p : Int) (fd : Bool) (tl cy : Int) (g3 : ¬ l = 3) (g4 : ¬ l = 4) (g5 : ¬ l = 5) (g6 : ¬ l = 6) (g7 : ¬ l = 7) (g8 : ¬ l = 8) (g9 : ¬ l = 9) :
    Calls Tryd.prog 10 #[.pointer (some ⟨H, 0, none⟩), (colV l j c m a p fd tl cy)] w (HP w H A G C s (.tuple #[(colV l j c m a p fd tl cy), .bool false])) := by
  have HF := Lib.hid hH
  have e3 : (l == 3) = false := by simpa using g3
  have e4 : (l == 4) = false := by simpa using g4
  have e5 : (l == 5) = false := by simpa using g5
  have e6 : (l == 6) = false := by simpa using g6
  have e7 : (l == 7) = false := by simpa using g7
  have e8 : (l == 8) = false := by simpa using g8
  have e9 : (l == 9) = false := by simpa using g9
  clear hH g3 g4 g5 g6 g7 g8 g9
  go_enter Tryd.func10, Tryd.ntmps10
  go_wp2_with fail
  refine bodyPost_ret (v := .tuple #[(colV l j c m a p fd tl cy), .bool false]) (by simp [results, Tryd.f10, go_sem]) rfl ?_
  refine ⟨rfl, HF.out.below (below_on (below_new _ _) _), Sav.of (below_on (below_new _ _) _)⟩
theorem pStep_nil (l j c m a p : Int) (fd : Bool) (tl cy : Int) (w : World) :
    Calls Tryd.prog 10 #[.pointer none, (colV l j c m a p fd tl cy)] w fun e w' => e = .returned (.tuple #[(colV l j c m a p fd tl cy), .bool false]) ∧ Below w.heap.size w w' := by
  go_enter Tryd.func10, Tryd.ntmps10
  go_wp2_with fail
  refine bodyPost_ret (v := .tuple #[(colV l j c m a p fd tl cy), .bool false]) (by simp [results, Tryd.f10, go_sem]) rfl ?_
  exact ⟨rfl, below_on (below_new _ _) _⟩
end Go.Proofs.YtipkkmmehjdmpaaDoor
