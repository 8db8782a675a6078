/- The document's layer 17: the gate, dirty, and any other line. -/
import Derived.Test.YtjmbahdlgnobaaaDoorColF
import Derived.Test.YtjmbahdlgnobaaaDoorPlaceRef
import Derived.Deep.CutRange
namespace Go.Proofs.YtjmbahdlgnobaaaDoor
open Go Go.RowKit
set_option maxRecDepth 100000
attribute [local go_sem ↓] Go.wp_at_zero Go.wp_at_succ

set_option maxHeartbeats 3200000 in
theorem rb11 {w : World} {X : Nat} {va : Option Addr} {cap N : Nat} {C : Cf} {s : Dy} (hH : RAt w X va cap N C s) (hL : ∀ R, va = some ⟨R, 0, none⟩ → R < w.heap.size) (_ : Right C.a C.b C.c C.d)  (j c m a p : Int) (fd : Bool) (tl cy : Int) :
    Calls Tryd.prog 12 #[.pointer (some ⟨X, 0, none⟩), (colV 11 j c m a p fd tl cy)] w (RP w X va cap N C (s.act C 2 1 1 0) (.tuple #[(colV 12 j c m a p fd tl cy), .bool false, .bool true])) := by
  have HC0 := Lib.hid (ColR.start hH hL ⟨11, j, c, m, a, p, fd, tl, cy⟩)
  have HD : Hid (∀ W, RAt W X va cap N C s → (∀ R, va = some ⟨R, 0, none⟩ → R < W.heap.size) → Calls Tryd.prog 34 #[.pointer (some ⟨X, 0, none⟩), .int .i64 1, .int .u64 1] W (RP W X va cap N C (s.act C 2 1 1 0) (.tuple #[]))) := Lib.hid (fun W hW hl => rStore_c (w := W) hW hl 1 1)
  generalize (s.act C 2 1 1 0) = s' at *
  clear hH hL
  obtain ⟨a0, a1, a2, a3, a4, a5, a6, a7, a8, af⟩ := HC0.out.cells
  dsimp only at a0 a1 a2 a3 a4 a5 a6 a7 a8
  go_enter Tryd.func12, Tryd.ntmps12
  go_wp2_with fail
  refine (HD.out _ HC0.out.hand HC0.out.ltR).mono ?_
  rintro e V1 ⟨rfl, hF, hs⟩
  have HC1 := Lib.hid (HC0.out.handed hF hs)
  clear HC0 hF hs
  clear HD a0 a1 a2 a3 a4 a5 a6 a7 a8 af
  obtain ⟨a0, a1, a2, a3, a4, a5, a6, a7, a8, af⟩ := HC1.out.cells
  dsimp only at a0 a1 a2 a3 a4 a5 a6 a7 a8
  have HCe := Lib.hid (HC1.out.setL 12)
  obtain ⟨b0, b1, b2, b3, b4, b5, b6, b7, b8, bf⟩ := HC1.out.cells
  dsimp only at b0 b1 b2 b3 b4 b5 b6 b7 b8
  obtain ⟨d0, d1, d2, d3, d4, d5, d6, d7, d8, df⟩ := HCe.out.cells
  dsimp only at d0 d1 d2 d3 d4 d5 d6 d7 d8
  obtain ⟨c0, c1, c2, c3, c4, c5, c6, c7, c8, cf⟩ := HCe.out.cellsY
  obtain ⟨s0, s1, s2, s3, s4, s5, s6, s7, s8, sf⟩ := (HCe.out.last ⟨12, j, c, m, a, p, fd, tl, cy⟩).cells
  dsimp only at s0 s1 s2 s3 s4 s5 s6 s7 s8
  clear HC1 a0 a1 a2 a3 a4 a5 a6 a7 a8 af
  go_wp2_with fail
  refine bodyPost_ret (v := .tuple #[(colV 12 j c m a p fd tl cy), .bool false, .bool true]) (by simp [results, Tryd.f12, go_sem, s0, s1, s2, s3, s4, s5, s6, s7, s8]) rfl ?_
  exact ⟨rfl, HCe.out.fin ⟨12, j, c, m, a, p, fd, tl, cy⟩⟩
set_option maxHeartbeats 3200000 in
theorem rb14 {w : World} {X : Nat} {va : Option Addr} {cap N : Nat} {C : Cf} {s : Dy} (hH : RAt w X va cap N C s) (hL : ∀ R, va = some ⟨R, 0, none⟩ → R < w.heap.size) (_ : Right C.a C.b C.c C.d)  (j c m a p : Int) (fd : Bool) (tl cy : Int) :
    Calls Tryd.prog 12 #[.pointer (some ⟨X, 0, none⟩), (colV 14 j c m a p fd tl cy)] w (RP w X va cap N C (s.act C 2 1 0 0) (.tuple #[(colV 20 j 0 m a p fd tl cy), .bool false, .bool true])) := by
  have HC0 := Lib.hid (ColR.start hH hL ⟨14, j, c, m, a, p, fd, tl, cy⟩)
  have HD : Hid (∀ W, RAt W X va cap N C s → (∀ R, va = some ⟨R, 0, none⟩ → R < W.heap.size) → Calls Tryd.prog 34 #[.pointer (some ⟨X, 0, none⟩), .int .i64 1, .int .u64 0] W (RP W X va cap N C (s.act C 2 1 0 0) (.tuple #[]))) := Lib.hid (fun W hW hl => rStore_c (w := W) hW hl 1 0)
  generalize (s.act C 2 1 0 0) = s' at *
  clear hH hL
  obtain ⟨a0, a1, a2, a3, a4, a5, a6, a7, a8, af⟩ := HC0.out.cells
  dsimp only at a0 a1 a2 a3 a4 a5 a6 a7 a8
  go_enter Tryd.func12, Tryd.ntmps12
  go_wp2_with fail
  refine (HD.out _ HC0.out.hand HC0.out.ltR).mono ?_
  rintro e V1 ⟨rfl, hF, hs⟩
  have HC1 := Lib.hid (HC0.out.handed hF hs)
  clear HC0 hF hs
  clear HD a0 a1 a2 a3 a4 a5 a6 a7 a8 af
  obtain ⟨a0, a1, a2, a3, a4, a5, a6, a7, a8, af⟩ := HC1.out.cells
  dsimp only at a0 a1 a2 a3 a4 a5 a6 a7 a8
  have HCe := Lib.hid ((HC1.out.setC 0).setL 20)
  obtain ⟨b0, b1, b2, b3, b4, b5, b6, b7, b8, bf⟩ := HC1.out.cells
  dsimp only at b0 b1 b2 b3 b4 b5 b6 b7 b8
  obtain ⟨d0, d1, d2, d3, d4, d5, d6, d7, d8, df⟩ := HCe.out.cells
  dsimp only at d0 d1 d2 d3 d4 d5 d6 d7 d8
  obtain ⟨c0, c1, c2, c3, c4, c5, c6, c7, c8, cf⟩ := HCe.out.cellsY
  obtain ⟨s0, s1, s2, s3, s4, s5, s6, s7, s8, sf⟩ := (HCe.out.last ⟨20, j, 0, m, a, p, fd, tl, cy⟩).cells
  dsimp only at s0 s1 s2 s3 s4 s5 s6 s7 s8
  clear HC1 a0 a1 a2 a3 a4 a5 a6 a7 a8 af
  go_wp2_with fail
  refine bodyPost_ret (v := .tuple #[(colV 20 j 0 m a p fd tl cy), .bool false, .bool true]) (by simp [results, Tryd.f12, go_sem, s0, s1, s2, s3, s4, s5, s6, s7, s8]) rfl ?_
  exact ⟨rfl, HCe.out.fin ⟨20, j, 0, m, a, p, fd, tl, cy⟩⟩
set_option maxHeartbeats 3200000 in
theorem rb15 {w : World} {X : Nat} {va : Option Addr} {cap N : Nat} {C : Cf} {s : Dy} (hH : RAt w X va cap N C s) (hL : ∀ R, va = some ⟨R, 0, none⟩ → R < w.heap.size) (_ : Right C.a C.b C.c C.d)  (j c m a p : Int) (fd : Bool) (tl cy : Int) :
    Calls Tryd.prog 12 #[.pointer (some ⟨X, 0, none⟩), (colV 15 j c m a p fd tl cy)] w (RP w X va cap N C (s.act C 2 1 0 0) (.tuple #[(colV 3 j c m a p fd tl cy), .bool false, .bool true])) := by
  have HC0 := Lib.hid (ColR.start hH hL ⟨15, j, c, m, a, p, fd, tl, cy⟩)
  have HD : Hid (∀ W, RAt W X va cap N C s → (∀ R, va = some ⟨R, 0, none⟩ → R < W.heap.size) → Calls Tryd.prog 34 #[.pointer (some ⟨X, 0, none⟩), .int .i64 1, .int .u64 0] W (RP W X va cap N C (s.act C 2 1 0 0) (.tuple #[]))) := Lib.hid (fun W hW hl => rStore_c (w := W) hW hl 1 0)
  generalize (s.act C 2 1 0 0) = s' at *
  clear hH hL
  obtain ⟨a0, a1, a2, a3, a4, a5, a6, a7, a8, af⟩ := HC0.out.cells
  dsimp only at a0 a1 a2 a3 a4 a5 a6 a7 a8
  go_enter Tryd.func12, Tryd.ntmps12
  go_wp2_with fail
  refine (HD.out _ HC0.out.hand HC0.out.ltR).mono ?_
  rintro e V1 ⟨rfl, hF, hs⟩
  have HC1 := Lib.hid (HC0.out.handed hF hs)
  clear HC0 hF hs
  clear HD a0 a1 a2 a3 a4 a5 a6 a7 a8 af
  obtain ⟨a0, a1, a2, a3, a4, a5, a6, a7, a8, af⟩ := HC1.out.cells
  dsimp only at a0 a1 a2 a3 a4 a5 a6 a7 a8
  have HCe := Lib.hid (HC1.out.setL 3)
  obtain ⟨b0, b1, b2, b3, b4, b5, b6, b7, b8, bf⟩ := HC1.out.cells
  dsimp only at b0 b1 b2 b3 b4 b5 b6 b7 b8
  obtain ⟨d0, d1, d2, d3, d4, d5, d6, d7, d8, df⟩ := HCe.out.cells
  dsimp only at d0 d1 d2 d3 d4 d5 d6 d7 d8
  obtain ⟨c0, c1, c2, c3, c4, c5, c6, c7, c8, cf⟩ := HCe.out.cellsY
  obtain ⟨s0, s1, s2, s3, s4, s5, s6, s7, s8, sf⟩ := (HCe.out.last ⟨3, j, c, m, a, p, fd, tl, cy⟩).cells
  dsimp only at s0 s1 s2 s3 s4 s5 s6 s7 s8
  clear HC1 a0 a1 a2 a3 a4 a5 a6 a7 a8 af
  go_wp2_with fail
  refine bodyPost_ret (v := .tuple #[(colV 3 j c m a p fd tl cy), .bool false, .bool true]) (by simp [results, Tryd.f12, go_sem, s0, s1, s2, s3, s4, s5, s6, s7, s8]) rfl ?_
  exact ⟨rfl, HCe.out.fin ⟨3, j, c, m, a, p, fd, tl, cy⟩⟩
set_option maxHeartbeats 3200000 in
theorem rb13_flip {w : World} {X : Nat} {va : Option Addr} {cap N : Nat} {C : Cf} {s : Dy} (hH : RAt w X va cap N C s) (hL : ∀ R, va = some ⟨R, 0, none⟩ → R < w.heap.size) (_ : Right C.a C.b C.c C.d)  (j c m a p : Int) (fd : Bool) (tl cy : Int) (u : Nat) (hT : z5 C.n 1 2 (s.f (2 : Int).toNat) = (u : Int)) (hs : u = 0) :
    Calls Tryd.prog 12 #[.pointer (some ⟨X, 0, none⟩), (colV 13 j c m a p fd tl cy)] w (RP w X va cap N C (s.act C 1 2 0 0) (.tuple #[(colV 14 j c m a p fd tl cy), .bool true, .bool true])) := by
  have HC0 := Lib.hid (ColR.start hH hL ⟨13, j, c, m, a, p, fd, tl, cy⟩)
  have HD : Hid (∀ W, RAt W X va cap N C s → (∀ R, va = some ⟨R, 0, none⟩ → R < W.heap.size) → Calls Tryd.prog 32 #[.pointer (some ⟨X, 0, none⟩), .int .i64 (2 : Int)] W (RP W X va cap N C (s.act C 1 (2 : Int) 0 0) (.int .u64 (z5 C.n 1 (2 : Int) (s.f ((2 : Int)).toNat))))) := Lib.hid (fun W hW hl => rLoad_c (w := W) hW hl (2 : Int))
  generalize (s.act C 1 2 0 0) = s' at *
  rw [hT] at HD
  subst hs
  clear hH hL hT
  obtain ⟨a0, a1, a2, a3, a4, a5, a6, a7, a8, af⟩ := HC0.out.cells
  dsimp only at a0 a1 a2 a3 a4 a5 a6 a7 a8
  go_enter Tryd.func12, Tryd.ntmps12
  go_wp2_with fail
  refine (HD.out _ HC0.out.hand HC0.out.ltR).mono ?_
  rintro e V1 ⟨rfl, hF, hs⟩
  have HC1 := Lib.hid (HC0.out.handed hF hs)
  clear HC0 hF hs
  clear HD a0 a1 a2 a3 a4 a5 a6 a7 a8 af
  obtain ⟨a0, a1, a2, a3, a4, a5, a6, a7, a8, af⟩ := HC1.out.cells
  dsimp only at a0 a1 a2 a3 a4 a5 a6 a7 a8
  have HCe := Lib.hid (HC1.out.setL 14)
  obtain ⟨b0, b1, b2, b3, b4, b5, b6, b7, b8, bf⟩ := HC1.out.cells
  dsimp only at b0 b1 b2 b3 b4 b5 b6 b7 b8
  obtain ⟨d0, d1, d2, d3, d4, d5, d6, d7, d8, df⟩ := HCe.out.cells
  dsimp only at d0 d1 d2 d3 d4 d5 d6 d7 d8
  obtain ⟨c0, c1, c2, c3, c4, c5, c6, c7, c8, cf⟩ := HCe.out.cellsY
  obtain ⟨s0, s1, s2, s3, s4, s5, s6, s7, s8, sf⟩ := (HCe.out.last ⟨14, j, c, m, a, p, fd, tl, cy⟩).cells
  dsimp only at s0 s1 s2 s3 s4 s5 s6 s7 s8
  clear HC1 a0 a1 a2 a3 a4 a5 a6 a7 a8 af
  go_wp2_with fail
  refine bodyPost_ret (v := .tuple #[(colV 14 j c m a p fd tl cy), .bool true, .bool true]) (by simp [results, Tryd.f12, go_sem, s0, s1, s2, s3, s4, s5, s6, s7, s8]) rfl ?_
  exact ⟨rfl, HCe.out.fin ⟨14, j, c, m, a, p, fd, tl, cy⟩⟩
set_option maxHeartbeats 3200000 in
theorem rb13_again {w : World} {X : Nat} {va : Option Addr} {cap N : Nat} {C : Cf} {s : Dy} (hH : RAt w X va cap N C s) (hL : ∀ R, va = some ⟨R, 0, none⟩ → R < w.heap.size) (_ : Right C.a C.b C.c C.d)  (j c m a p : Int) (fd : Bool) (tl cy : Int) (u : Nat) (hT : z5 C.n 1 2 (s.f (2 : Int).toNat) = (u : Int)) (hs : ¬ u = 0) :
    Calls Tryd.prog 12 #[.pointer (some ⟨X, 0, none⟩), (colV 13 j c m a p fd tl cy)] w (RP w X va cap N C (s.act C 1 2 0 0) (.tuple #[(colV 15 j c m a p fd tl cy), .bool false, .bool true])) := by
  have HC0 := Lib.hid (ColR.start hH hL ⟨13, j, c, m, a, p, fd, tl, cy⟩)
  have HD : Hid (∀ W, RAt W X va cap N C s → (∀ R, va = some ⟨R, 0, none⟩ → R < W.heap.size) → Calls Tryd.prog 32 #[.pointer (some ⟨X, 0, none⟩), .int .i64 (2 : Int)] W (RP W X va cap N C (s.act C 1 (2 : Int) 0 0) (.int .u64 (z5 C.n 1 (2 : Int) (s.f ((2 : Int)).toNat))))) := Lib.hid (fun W hW hl => rLoad_c (w := W) hW hl (2 : Int))
  generalize (s.act C 1 2 0 0) = s' at *
  rw [hT] at HD
  have hq : ((u : Int) == 0) = false := by simp; omega
  clear hs
  clear hH hL hT
  obtain ⟨a0, a1, a2, a3, a4, a5, a6, a7, a8, af⟩ := HC0.out.cells
  dsimp only at a0 a1 a2 a3 a4 a5 a6 a7 a8
  go_enter Tryd.func12, Tryd.ntmps12
  go_wp2_with fail
  refine (HD.out _ HC0.out.hand HC0.out.ltR).mono ?_
  rintro e V1 ⟨rfl, hF, hs⟩
  have HC1 := Lib.hid (HC0.out.handed hF hs)
  clear HC0 hF hs
  clear HD a0 a1 a2 a3 a4 a5 a6 a7 a8 af
  obtain ⟨a0, a1, a2, a3, a4, a5, a6, a7, a8, af⟩ := HC1.out.cells
  dsimp only at a0 a1 a2 a3 a4 a5 a6 a7 a8
  have HCe := Lib.hid (HC1.out.setL 15)
  obtain ⟨b0, b1, b2, b3, b4, b5, b6, b7, b8, bf⟩ := HC1.out.cells
  dsimp only at b0 b1 b2 b3 b4 b5 b6 b7 b8
  obtain ⟨d0, d1, d2, d3, d4, d5, d6, d7, d8, df⟩ := HCe.out.cells
  dsimp only at d0 d1 d2 d3 d4 d5 d6 d7 d8
  obtain ⟨c0, c1, c2, c3, c4, c5, c6, c7, c8, cf⟩ := HCe.out.cellsY
  obtain ⟨s0, s1, s2, s3, s4, s5, s6, s7, s8, sf⟩ := (HCe.out.last ⟨15, j, c, m, a, p, fd, tl, cy⟩).cells
  dsimp only at s0 s1 s2 s3 s4 s5 s6 s7 s8
  clear HC1 a0 a1 a2 a3 a4 a5 a6 a7 a8 af
  go_wp2_with fail
  refine bodyPost_ret (v := .tuple #[(colV 15 j c m a p fd tl cy), .bool false, .bool true]) (by simp [results, Tryd.f12, go_sem, s0, s1, s2, s3, s4, s5, s6, s7, s8]) rfl ?_
  exact ⟨rfl, HCe.out.fin ⟨15, j, c, m, a, p, fd, tl, cy⟩⟩
set_option maxHeartbeats 3200000 in
theorem rb_other {w : World} {X : Nat} {va : Option Addr} {cap N : Nat} {C : Cf} {s : Dy} (hH : RAt w X va cap N C s) (_ : ∀ R, va = some ⟨R, 0, none⟩ → R < w.heap.size) (_ : Right C.a C.b C.c C.d)  (l j c m a p : Int) (fd : Bool) (tl cy : Int) (g10 : ¬ l = 10) (g11 : ¬ l = 11) (g12 : ¬ l = 12) (g13 : ¬ l = 13) (g14 : ¬ l = 14) (g15 : ¬ l = 15) (g16 : ¬ l = 16) :
    Calls Tryd.prog 12 #[.pointer (some ⟨X, 0, none⟩), (colV l j c m a p fd tl cy)] w (RP w X va cap N C s (.tuple #[(colV l j c m a p fd tl cy), .bool false, .bool false])) := by
  have HF := Lib.hid hH
  have e10 : (l == 10) = false := by simpa using g10
  have e11 : (l == 11) = false := by simpa using g11
  have e12 : (l == 12) = false := by simpa using g12
  have e13 : (l == 13) = false := by simpa using g13
  have e14 : (l == 14) = false := by simpa using g14
  have e15 : (l == 15) = false := by simpa using g15
  have e16 : (l == 16) = false := by simpa using g16
  clear hH g10 g11 g12 g13 g14 g15 g16
  go_enter Tryd.func12, Tryd.ntmps12
  go_wp2_with fail
  refine bodyPost_ret (v := .tuple #[(colV l j c m a p fd tl cy), .bool false, .bool false]) (by simp [results, Tryd.f12, go_sem]) rfl ?_
  refine ⟨rfl, HF.out.below (below_on (below_new _ _) _), Sav.of (below_on (below_new _ _) _)⟩
end Go.Proofs.YtjmbahdlgnobaaaDoor
