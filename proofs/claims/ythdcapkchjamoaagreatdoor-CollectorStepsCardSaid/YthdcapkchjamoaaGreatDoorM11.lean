/- Laid together: BarRefB, BarRef17, BarDo17. -/
import Derived.Test.YthdcapkchjamoaaGreatDoorColF
import Derived.Test.YthdcapkchjamoaaGreatDoorPlaceRef
import Derived.Deep.CutRange
import Derived.Test.YthdcapkchjamoaaGreatDoorBarRefA
import Derived.Test.YthdcapkchjamoaaGreatDoorM6
import Derived.Test.YthdcapkchjamoaaGreatDoorBarDoA
import Derived.Test.YthdcapkchjamoaaGreatDoorBarDoB
/- The document's layer 17: the gate, dirty, and any other line. -/
namespace Go.Proofs.YthdcapkchjamoaaGreatDoor
open Go Go.RowKit
set_option maxRecDepth 100000
attribute [local go_sem ↓] Go.wp_at_zero Go.wp_at_succ

set_option maxHeartbeats 3200000 in
theorem rb11 {w : World} {X : Nat} {va : Option Addr} {cap N : Nat} {C : Cf} {s : Dy} (hH : RAt w X va cap N C s) (hL : ∀ R, va = some ⟨R, 0, none⟩ → R < w.heap.size) (_ : Right C.a C.b C.c C.d)  (j c m a p : Int) (fd : Bool) (tl cy : Int) :
    Calls Tryz.prog 29 #[.pointer (some ⟨X, 0, none⟩), (colV 11 j c m a p fd tl cy)] w (RP w X va cap N C (s.act C 2 1 1 0) (.tuple #[(colV 12 j c m a p fd tl cy), .bool false, .bool true])) := by
  have HC0 := Lib.hid (ColR.start hH hL ⟨11, j, c, m, a, p, fd, tl, cy⟩)
  have HD : Hid (∀ W, RAt W X va cap N C s → (∀ R, va = some ⟨R, 0, none⟩ → R < W.heap.size) → Calls Tryz.prog 53 #[.pointer (some ⟨X, 0, none⟩), .int .i64 1, .int .u64 1] W (RP W X va cap N C (s.act C 2 1 1 0) (.tuple #[]))) := Lib.hid (fun W hW hl => rStore_c (w := W) hW hl 1 1)
  generalize (s.act C 2 1 1 0) = s' at *
  clear hH hL
  obtain ⟨a0, a1, a2, a3, a4, a5, a6, a7, a8, af⟩ := HC0.out.cells
  dsimp only at a0 a1 a2 a3 a4 a5 a6 a7 a8
  go_enter Tryz.func29, Tryz.ntmps29
  go_wp2_with fail
  refine (HD.out _ HC0.out.hand HC0.out.ltR).mono ?_
  rintro e V1 ⟨rfl, hF, hs⟩
  have HC1 := Lib.hid (HC0.out.handed hF hs)
  clear HC0 hF hs
  clear HD a0 a1 a2 a3 a4 a5 a6 a7 a8 af
  obtain ⟨a0, a1, a2, a3, a4, a5, a6, a7, a8, af⟩ := HC1.out.cells
  dsimp only at a0 a1 a2 a3 a4 a5 a6 a7 a8
  have HCe := Lib.hid (HC1.out.setL 12)
  obtain ⟨b0, b1, b2, b3, b4, b5, b6, b7, b8, bf⟩ := HC1.out.cells
  dsimp only at b0 b1 b2 b3 b4 b5 b6 b7 b8
  obtain ⟨d0, d1, d2, d3, d4, d5, d6, d7, d8, df⟩ := HCe.out.cells
  dsimp only at d0 d1 d2 d3 d4 d5 d6 d7 d8
  obtain ⟨c0, c1, c2, c3, c4, c5, c6, c7, c8, cf⟩ := HCe.out.cellsY
  obtain ⟨s0, s1, s2, s3, s4, s5, s6, s7, s8, sf⟩ := (HCe.out.last ⟨12, j, c, m, a, p, fd, tl, cy⟩).cells
  dsimp only at s0 s1 s2 s3 s4 s5 s6 s7 s8
  clear HC1 a0 a1 a2 a3 a4 a5 a6 a7 a8 af
  go_wp2_with fail
  refine bodyPost_ret (v := .tuple #[(colV 12 j c m a p fd tl cy), .bool false, .bool true]) (by simp [results, Tryz.f29, go_sem, s0, s1, s2, s3, s4, s5, s6, s7, s8]) rfl ?_
  exact ⟨rfl, HCe.out.fin ⟨12, j, c, m, a, p, fd, tl, cy⟩⟩
set_option maxHeartbeats 3200000 in
theorem rb14 {w : World} {X : Nat} {va : Option Addr} {cap N : Nat} {C : Cf} {s : Dy} (hH : RAt w X va cap N C s) (hL : ∀ R, va = some ⟨R, 0, none⟩ → R < w.heap.size) (_ : Right C.a C.b C.c C.d)  (j c m a p : Int) (fd : Bool) (tl cy : Int) :
    Calls Tryz.prog 29 #[.pointer (some ⟨X, 0, none⟩), (colV 14 j c m a p fd tl cy)] w (RP w X va cap N C (s.act C 2 1 0 0) (.tuple #[(colV 20 j 0 m a p fd tl cy), .bool false, .bool true])) := by
  have HC0 := Lib.hid (ColR.start hH hL ⟨14, j, c, m, a, p, fd, tl, cy⟩)
  have HD : Hid (∀ W, RAt W X va cap N C s → (∀ R, va = some ⟨R, 0, none⟩ → R < W.heap.size) → Calls Tryz.prog 53 #[.pointer (some ⟨X, 0, none⟩), .int .i64 1, .int .u64 0] W (RP W X va cap N C (s.act C 2 1 0 0) (.tuple #[]))) := Lib.hid (fun W hW hl => rStore_c (w := W) hW hl 1 0)
  generalize (s.act C 2 1 0 0) = s' at *
  clear hH hL
  obtain ⟨a0, a1, a2, a3, a4, a5, a6, a7, a8, af⟩ := HC0.out.cells
  dsimp only at a0 a1 a2 a3 a4 a5 a6 a7 a8
  go_enter Tryz.func29, Tryz.ntmps29
  go_wp2_with fail
  refine (HD.out _ HC0.out.hand HC0.out.ltR).mono ?_
  rintro e V1 ⟨rfl, hF, hs⟩
  have HC1 := Lib.hid (HC0.out.handed hF hs)
  clear HC0 hF hs
  clear HD a0 a1 a2 a3 a4 a5 a6 a7 a8 af
  obtain ⟨a0, a1, a2, a3, a4, a5, a6, a7, a8, af⟩ := HC1.out.cells
  dsimp only at a0 a1 a2 a3 a4 a5 a6 a7 a8
  have HCe := Lib.hid ((HC1.out.setC 0).setL 20)
  obtain ⟨b0, b1, b2, b3, b4, b5, b6, b7, b8, bf⟩ := HC1.out.cells
  dsimp only at b0 b1 b2 b3 b4 b5 b6 b7 b8
  obtain ⟨d0, d1, d2, d3, d4, d5, d6, d7, d8, df⟩ := HCe.out.cells
  dsimp only at d0 d1 d2 d3 d4 d5 d6 d7 d8
  obtain ⟨c0, c1, c2, c3, c4, c5, c6, c7, c8, cf⟩ := HCe.out.cellsY
  obtain ⟨s0, s1, s2, s3, s4, s5, s6, s7, s8, sf⟩ := (HCe.out.last ⟨20, j, 0, m, a, p, fd, tl, cy⟩).cells
  dsimp only at s0 s1 s2 s3 s4 s5 s6 s7 s8
  clear HC1 a0 a1 a2 a3 a4 a5 a6 a7 a8 af
  go_wp2_with fail
  refine bodyPost_ret (v := .tuple #[(colV 20 j 0 m a p fd tl cy), .bool false, .bool true]) (by simp [results, Tryz.f29, go_sem, s0, s1, s2, s3, s4, s5, s6, s7, s8]) rfl ?_
  exact ⟨rfl, HCe.out.fin ⟨20, j, 0, m, a, p, fd, tl, cy⟩⟩
set_option maxHeartbeats 3200000 in
theorem rb15 {w : World} {X : Nat} {va : Option Addr} {cap N : Nat} {C : Cf} {s : Dy} (hH : RAt w X va cap N C s) (hL : ∀ R, va = some ⟨R, 0, none⟩ → R < w.heap.size) (_ : Right C.a C.b C.c C.d)  (j c m a p : Int) (fd : Bool) (tl cy : Int) :
    Calls Tryz.prog 29 #[.pointer (some ⟨X, 0, none⟩), (colV 15 j c m a p fd tl cy)] w (RP w X va cap N C (s.act C 2 1 0 0) (.tuple #[(colV 3 j c m a p fd tl cy), .bool false, .bool true])) := by
  have HC0 := Lib.hid (ColR.start hH hL ⟨15, j, c, m, a, p, fd, tl, cy⟩)
  have HD : Hid (∀ W, RAt W X va cap N C s → (∀ R, va = some ⟨R, 0, none⟩ → R < W.heap.size) → Calls Tryz.prog 53 #[.pointer (some ⟨X, 0, none⟩), .int .i64 1, .int .u64 0] W (RP W X va cap N C (s.act C 2 1 0 0) (.tuple #[]))) := Lib.hid (fun W hW hl => rStore_c (w := W) hW hl 1 0)
  generalize (s.act C 2 1 0 0) = s' at *
  clear hH hL
  obtain ⟨a0, a1, a2, a3, a4, a5, a6, a7, a8, af⟩ := HC0.out.cells
  dsimp only at a0 a1 a2 a3 a4 a5 a6 a7 a8
  go_enter Tryz.func29, Tryz.ntmps29
  go_wp2_with fail
  refine (HD.out _ HC0.out.hand HC0.out.ltR).mono ?_
  rintro e V1 ⟨rfl, hF, hs⟩
  have HC1 := Lib.hid (HC0.out.handed hF hs)
  clear HC0 hF hs
  clear HD a0 a1 a2 a3 a4 a5 a6 a7 a8 af
  obtain ⟨a0, a1, a2, a3, a4, a5, a6, a7, a8, af⟩ := HC1.out.cells
  dsimp only at a0 a1 a2 a3 a4 a5 a6 a7 a8
  have HCe := Lib.hid (HC1.out.setL 3)
  obtain ⟨b0, b1, b2, b3, b4, b5, b6, b7, b8, bf⟩ := HC1.out.cells
  dsimp only at b0 b1 b2 b3 b4 b5 b6 b7 b8
  obtain ⟨d0, d1, d2, d3, d4, d5, d6, d7, d8, df⟩ := HCe.out.cells
  dsimp only at d0 d1 d2 d3 d4 d5 d6 d7 d8
  obtain ⟨c0, c1, c2, c3, c4, c5, c6, c7, c8, cf⟩ := HCe.out.cellsY
  obtain ⟨s0, s1, s2, s3, s4, s5, s6, s7, s8, sf⟩ := (HCe.out.last ⟨3, j, c, m, a, p, fd, tl, cy⟩).cells
  dsimp only at s0 s1 s2 s3 s4 s5 s6 s7 s8
  clear HC1 a0 a1 a2 a3 a4 a5 a6 a7 a8 af
  go_wp2_with fail
  refine bodyPost_ret (v := .tuple #[(colV 3 j c m a p fd tl cy), .bool false, .bool true]) (by simp [results, Tryz.f29, go_sem, s0, s1, s2, s3, s4, s5, s6, s7, s8]) rfl ?_
  exact ⟨rfl, HCe.out.fin ⟨3, j, c, m, a, p, fd, tl, cy⟩⟩
set_option maxHeartbeats 3200000 in
theorem rb13_flip {w : World} {X : Nat} {va : Option Addr} {cap N : Nat} {C : Cf} {s : Dy} (hH : RAt w X va cap N C s) (hL : ∀ R, va = some ⟨R, 0, none⟩ → R < w.heap.size) (_ : Right C.a C.b C.c C.d)  (j c m a p : Int) (fd : Bool) (tl cy : Int) (u : Nat) (hT : z5 C.n 1 2 (s.f (2 : Int).toNat) = (u : Int)) (hs : u = 0) :
    Calls Tryz.prog 29 #[.pointer (some ⟨X, 0, none⟩), (colV 13 j c m a p fd tl cy)] w (RP w X va cap N C (s.act C 1 2 0 0) (.tuple #[(colV 14 j c m a p fd tl cy), .bool true, .bool true])) := by
  have HC0 := Lib.hid (ColR.start hH hL ⟨13, j, c, m, a, p, fd, tl, cy⟩)
  have HD : Hid (∀ W, RAt W X va cap N C s → (∀ R, va = some ⟨R, 0, none⟩ → R < W.heap.size) → Calls Tryz.prog 48 #[.pointer (some ⟨X, 0, none⟩), .int .i64 (2 : Int)] W (RP W X va cap N C (s.act C 1 (2 : Int) 0 0) (.int .u64 (z5 C.n 1 (2 : Int) (s.f ((2 : Int)).toNat))))) := Lib.hid (fun W hW hl => rLoad_c (w := W) hW hl (2 : Int))
  generalize (s.act C 1 2 0 0) = s' at *
  rw [hT] at HD
  subst hs
  clear hH hL hT
  obtain ⟨a0, a1, a2, a3, a4, a5, a6, a7, a8, af⟩ := HC0.out.cells
  dsimp only at a0 a1 a2 a3 a4 a5 a6 a7 a8
  go_enter Tryz.func29, Tryz.ntmps29
  go_wp2_with fail
  refine (HD.out _ HC0.out.hand HC0.out.ltR).mono ?_
  rintro e V1 ⟨rfl, hF, hs⟩
  have HC1 := Lib.hid (HC0.out.handed hF hs)
  clear HC0 hF hs
  clear HD a0 a1 a2 a3 a4 a5 a6 a7 a8 af
  obtain ⟨a0, a1, a2, a3, a4, a5, a6, a7, a8, af⟩ := HC1.out.cells
  dsimp only at a0 a1 a2 a3 a4 a5 a6 a7 a8
  have HCe := Lib.hid (HC1.out.setL 14)
  obtain ⟨b0, b1, b2, b3, b4, b5, b6, b7, b8, bf⟩ := HC1.out.cells
  dsimp only at b0 b1 b2 b3 b4 b5 b6 b7 b8
  obtain ⟨d0, d1, d2, d3, d4, d5, d6, d7, d8, df⟩ := HCe.out.cells
  dsimp only at d0 d1 d2 d3 d4 d5 d6 d7 d8
  obtain ⟨c0, c1, c2, c3, c4, c5, c6, c7, c8, cf⟩ := HCe.out.cellsY
  obtain ⟨s0, s1, s2, s3, s4, s5, s6, s7, s8, sf⟩ := (HCe.out.last ⟨14, j, c, m, a, p, fd, tl, cy⟩).cells
  dsimp only at s0 s1 s2 s3 s4 s5 s6 s7 s8
  clear HC1 a0 a1 a2 a3 a4 a5 a6 a7 a8 af
  go_wp2_with fail
  refine bodyPost_ret (v := .tuple #[(colV 14 j c m a p fd tl cy), .bool true, .bool true]) (by simp [results, Tryz.f29, go_sem, s0, s1, s2, s3, s4, s5, s6, s7, s8]) rfl ?_
  exact ⟨rfl, HCe.out.fin ⟨14, j, c, m, a, p, fd, tl, cy⟩⟩
set_option maxHeartbeats 3200000 in
theorem rb13_again {w : World} {X : Nat} {va : Option Addr} {cap N : Nat} {C : Cf} {s : Dy} (hH : RAt w X va cap N C s) (hL : ∀ R, va = some ⟨R, 0, none⟩ → R < w.heap.size) (_ : Right C.a C.b C.c C.d)  (j c m a p : Int) (fd : Bool) (tl cy : Int) (u : Nat) (hT : z5 C.n 1 2 (s.f (2 : Int).toNat) = (u : Int)) (hs : ¬ u = 0) :
    Calls Tryz.prog 29 #[.pointer (some ⟨X, 0, none⟩), (colV 13 j c m a p fd tl cy)] w (RP w X va cap N C (s.act C 1 2 0 0) (.tuple #[(colV 15 j c m a p fd tl cy), .bool false, .bool true])) := by
  have HC0 := Lib.hid (ColR.start hH hL ⟨13, j, c, m, a, p, fd, tl, cy⟩)
  have HD : Hid (∀ W, RAt W X va cap N C s → (∀ R, va = some ⟨R, 0, none⟩ → R < W.heap.size) → Calls Tryz.prog 48 #[.pointer (some ⟨X, 0, none⟩), .int .i64 (2 : Int)] W (RP W X va cap N C (s.act C 1 (2 : Int) 0 0) (.int .u64 (z5 C.n 1 (2 : Int) (s.f ((2 : Int)).toNat))))) := Lib.hid (fun W hW hl => rLoad_c (w := W) hW hl (2 : Int))
  generalize (s.act C 1 2 0 0) = s' at *
  rw [hT] at HD
  have hq : ((u : Int) == 0) = false := by simp; omega
  clear hs
  clear hH hL hT
  obtain ⟨a0, a1, a2, a3, a4, a5, a6, a7, a8, af⟩ := HC0.out.cells
  dsimp only at a0 a1 a2 a3 a4 a5 a6 a7 a8
  go_enter Tryz.func29, Tryz.ntmps29
  go_wp2_with fail
  refine (HD.out _ HC0.out.hand HC0.out.ltR).mono ?_
  rintro e V1 ⟨rfl, hF, hs⟩
  have HC1 := Lib.hid (HC0.out.handed hF hs)
  clear HC0 hF hs
  clear HD a0 a1 a2 a3 a4 a5 a6 a7 a8 af
  obtain ⟨a0, a1, a2, a3, a4, a5, a6, a7, a8, af⟩ := HC1.out.cells
  dsimp only at a0 a1 a2 a3 a4 a5 a6 a7 a8
  have HCe := Lib.hid (HC1.out.setL 15)
  obtain ⟨b0, b1, b2, b3, b4, b5, b6, b7, b8, bf⟩ := HC1.out.cells
  dsimp only at b0 b1 b2 b3 b4 b5 b6 b7 b8
  obtain ⟨d0, d1, d2, d3, d4, d5, d6, d7, d8, df⟩ := HCe.out.cells
  dsimp only at d0 d1 d2 d3 d4 d5 d6 d7 d8
  obtain ⟨c0, c1, c2, c3, c4, c5, c6, c7, c8, cf⟩ := HCe.out.cellsY
  obtain ⟨s0, s1, s2, s3, s4, s5, s6, s7, s8, sf⟩ := (HCe.out.last ⟨15, j, c, m, a, p, fd, tl, cy⟩).cells
  dsimp only at s0 s1 s2 s3 s4 s5 s6 s7 s8
  clear HC1 a0 a1 a2 a3 a4 a5 a6 a7 a8 af
  go_wp2_with fail
  refine bodyPost_ret (v := .tuple #[(colV 15 j c m a p fd tl cy), .bool false, .bool true]) (by simp [results, Tryz.f29, go_sem, s0, s1, s2, s3, s4, s5, s6, s7, s8]) rfl ?_
  exact ⟨rfl, HCe.out.fin ⟨15, j, c, m, a, p, fd, tl, cy⟩⟩
set_option maxHeartbeats 3200000 in
theorem rb_other {w : World} {X : Nat} {va : Option Addr} {cap N : Nat} {C : Cf} {s : Dy} (hH : RAt w X va cap N C s) (_ : ∀ R, va = some ⟨R, 0, none⟩ → R < w.heap.size) (_ : Right C.a C.b C.c C.d)  (l j c m a p : Int) (fd : Bool) (tl cy : Int) (g10 : ¬ l = 10) (g11 : ¬ l = 11) (g12 : ¬ l = 12) (g13 : ¬ l = 13) (g14 : ¬ l = 14) (g15 : ¬ l = 15) (g16 : ¬ l = 16) :
    Calls Tryz.prog 29 #[.pointer (some ⟨X, 0, none⟩), (colV l j c m a p fd tl cy)] w (RP w X va cap N C s (.tuple #[(colV l j c m a p fd tl cy), .bool false, .bool false])) := by
  have HF := Lib.hid hH
  have e10 : (l == 10) = false := by simpa using g10
  have e11 : (l == 11) = false := by simpa using g11
  have e12 : (l == 12) = false := by simpa using g12
  have e13 : (l == 13) = false := by simpa using g13
  have e14 : (l == 14) = false := by simpa using g14
  have e15 : (l == 15) = false := by simpa using g15
  have e16 : (l == 16) = false := by simpa using g16
  clear hH g10 g11 g12 g13 g14 g15 g16
  go_enter Tryz.func29, Tryz.ntmps29
  go_wp2_with fail
  refine bodyPost_ret (v := .tuple #[(colV l j c m a p fd tl cy), .bool false, .bool false]) (by simp [results, Tryz.f29, go_sem]) rfl ?_
  refine ⟨rfl, HF.out.below (below_on (below_new _ _) _), Sav.of (below_on (below_new _ _) _)⟩
end Go.Proofs.YthdcapkchjamoaaGreatDoor
/- A step of the document's layer 17 as one function. -/
namespace Go.Proofs.YthdcapkchjamoaaGreatDoor
open Go Go.RowKit
set_option maxRecDepth 100000
attribute [local go_sem ↓] Go.wp_at_zero Go.wp_at_succ

theorem nextMut_U (C : Cf) (x : Co) (hx : x.U) (n k : Int) : (nextMut C x n k).U := by
  unfold nextMut
  split <;> exact hx
theorem shutS_U {C : Cf} {s : Dy} (h : s.U) (x : Co) (hx : x.U) : (shutS C s x).1.U ∧ (shutS C s x).2.1.U := by
  have h0 := u64_zero
  have h1 : U64 1 := by unfold U64; omega
  have hl : U64 (ldP C s (inP C.a C.b C.c C.d x.m)) := z5_u64 (h _)
  unfold shutS
  split
  · refine ⟨h.act C 1 _ h0 h0, ?_⟩
    show Co.U (if _ then _ else _)
    split
    · exact ⟨hl, hx.2⟩
    · exact nextMut_U C { x with a := 0 } ⟨h0, hx.2⟩ _ _
  split
  · refine ⟨h.act C 1 _ h0 h0, ?_⟩
    show Co.U (if _ then _ else _)
    split
    · exact ⟨hl, hx.2⟩
    · exact nextMut_U C { x with a := 0 } ⟨h0, hx.2⟩ _ _
  split
  · exact ⟨h.act C 2 _ h1 h0, hx⟩
  split
  · refine ⟨h.act C 1 _ h0 h0, ?_⟩
    show Co.U (if _ then _ else _)
    split
    · exact hx
    · exact nextMut_U C _ hx _ _
  split
  · refine ⟨h.act C 1 _ h0 h0, ?_⟩
    show Co.U (if _ then _ else _)
    split <;> exact hx
  split
  · exact ⟨h.act C 2 _ h0 h0, hx⟩
  split
  · exact ⟨h.act C 2 _ h0 h0, hx⟩
  · exact ⟨h, hx⟩
theorem nextMut_m {C : Cf} {x : Co} (h : -1000000 ≤ x.m ∧ x.m ≤ 1000000) (hb : C.b ≤ 100) (n k : Int) : -1000000 ≤ (nextMut C x n k).m ∧ (nextMut C x n k).m ≤ 1000000 := by
  unfold nextMut
  split <;> (dsimp only; omega)
theorem shutS_m {C : Cf} {s : Dy} {x : Co} (h : -1000000 ≤ x.m ∧ x.m ≤ 1000000) (hb : C.b ≤ 100) : -1000000 ≤ (shutS C s x).2.1.m ∧ (shutS C s x).2.1.m ≤ 1000000 := by
  have hz : ∀ n k, -1000000 ≤ (nextMut C { x with a := 0 } n k).m ∧ (nextMut C { x with a := 0 } n k).m ≤ 1000000 := fun n k => nextMut_m (x := { x with a := 0 }) h hb n k
  have hx : ∀ n k, -1000000 ≤ (nextMut C x n k).m ∧ (nextMut C x n k).m ≤ 1000000 := fun n k => nextMut_m h hb n k
  unfold shutS
  repeat' split
  all_goals first | exact h | exact hz _ _ | exact hx _ _
theorem rbar17_c {w : World} {X : Nat} {va : Option Addr} {cap N : Nat} {C : Cf} {s : Dy} (hH : RAt w X va cap N C s) (hL : ∀ R, va = some ⟨R, 0, none⟩ → R < w.heap.size) (hr : Right C.a C.b C.c C.d) (hu : s.U) (x : Co) (hx : x.U) (hm : -1000000000000 ≤ x.m ∧ x.m ≤ 1000000000000) :
    Calls Tryz.prog 29 #[.pointer (some ⟨X, 0, none⟩), x.v] w (RP w X va cap N C (shutS C s x).1 (.tuple #[(shutS C s x).2.1.v, .bool (shutS C s x).2.2.1, .bool (shutS C s x).2.2.2])) := by
  obtain ⟨l, j, c, m, xa, p, fd, tl, cy⟩ := x
  obtain ⟨ha, _⟩ := hx
  dsimp only at hm ha
  obtain ⟨v, rfl, hv⟩ := u64_nat' ha
  unfold shutS ldP
  dsimp only
  by_cases e10 : l = 10
  · subst e10; rw [if_pos rfl]
    obtain ⟨u, hT, hu6⟩ := u64_nat' (z5_u64 (n := C.n) (k := 1) (i := (inP C.a C.b C.c C.d m)) (hu (inP C.a C.b C.c C.d m).toNat))
    simp only [hT]
    by_cases hs : (u : Int) % 4 = 1 ∨ (u : Int) % 4 = 3
    · simp only [if_pos hs]
      rcases hs with hs | hs
      · exact rb10_w1 hH hL hr j c m (v : Int) p fd tl cy u hu6 hT (by omega)
      · exact rb10_w3 hH hL hr j c m (v : Int) p fd tl cy u hu6 hT (by omega)
    simp only [if_neg hs]
    unfold nextMut
    by_cases hb : m + 1 < C.b
    · simp only [if_pos hb]; exact rb10_more hH hL hr j c m (v : Int) p fd tl cy hm u hu6 hT (by omega) hb
    · simp only [if_neg hb]; exact rb10_over hH hL hr j c m (v : Int) p fd tl cy hm u hu6 hT (by omega) hb
  rw [if_neg e10]
  by_cases e16 : l = 16
  · subst e16; rw [if_pos rfl]
    obtain ⟨u, hT, hu6⟩ := u64_nat' (z5_u64 (n := C.n) (k := 1) (i := (inP C.a C.b C.c C.d m)) (hu (inP C.a C.b C.c C.d m).toNat))
    simp only [hT]
    by_cases hq : u = v
    · subst hq; simp only [true_or, if_true]
      exact rb16_same hH hL hr j c m p fd tl cy u hv u hu6 hT rfl
    have hq2 : ¬ (u : Int) = (v : Int) := by omega
    by_cases hs : u % 4 = 3
    · simp only [hq2, show (u : Int) % 4 = 3 by omega, or_true, if_true]
      exact rb16_wait hH hL hr j c m p fd tl cy v hv u hu6 hT hs hq
    simp only [hq2, show ¬ (u : Int) % 4 = 3 by omega, or_self, if_false]
    unfold nextMut
    by_cases hb : m + 1 < C.b
    · simp only [if_pos hb]; exact rb16_more hH hL hr j c m p fd tl cy hm v hv u hu6 hT hs hq hb
    · simp only [if_neg hb]; exact rb16_over hH hL hr j c m p fd tl cy hm v hv u hu6 hT hs hq hb
  rw [if_neg e16]
  by_cases e11 : l = 11
  · subst e11; rw [if_pos rfl]
    exact rb11 hH hL hr j c m (v : Int) p fd tl cy
  rw [if_neg e11]
  by_cases e12 : l = 12
  · subst e12; rw [if_pos rfl]
    obtain ⟨u, hT, hu6⟩ := u64_nat' (z5_u64 (n := C.n) (k := 1) (i := (inP C.a C.b C.c C.d m)) (hu (inP C.a C.b C.c C.d m).toNat))
    simp only [hT]
    by_cases hs : (u : Int) % 4 = 1 ∨ (u : Int) % 4 = 2
    · simp only [if_pos hs]
      rcases hs with hs | hs
      · exact rb12_s1 hH hL hr j c m (v : Int) p fd tl cy u hu6 hT (by omega)
      · exact rb12_s2 hH hL hr j c m (v : Int) p fd tl cy u hu6 hT (by omega)
    simp only [if_neg hs]
    unfold nextMut
    by_cases hb : m + 1 < C.b
    · simp only [if_pos hb]; exact rb12_more hH hL hr j c m (v : Int) p fd tl cy hm u hu6 hT (by omega) hb
    · simp only [if_neg hb]; exact rb12_over hH hL hr j c m (v : Int) p fd tl cy hm u hu6 hT (by omega) hb
  rw [if_neg e12]
  by_cases e13 : l = 13
  · subst e13; rw [if_pos rfl]
    obtain ⟨u, hT, hu6⟩ := u64_nat' (z5_u64 (n := C.n) (k := 1) (i := 2) (hu (2 : Int).toNat))
    simp only [hT]
    by_cases h0 : u = 0
    · subst h0; exact rb13_flip hH hL hr j c m (v : Int) p fd tl cy 0 hT rfl
    · have h1 : ¬ (u : Int) = 0 := by omega
      simp only [if_neg h1, decide_eq_false h1]; exact rb13_again hH hL hr j c m (v : Int) p fd tl cy u hT h0
  rw [if_neg e13]
  by_cases e14 : l = 14
  · subst e14; rw [if_pos rfl]
    exact rb14 hH hL hr j c m (v : Int) p fd tl cy
  rw [if_neg e14]
  by_cases e15 : l = 15
  · subst e15; rw [if_pos rfl]
    exact rb15 hH hL hr j c m (v : Int) p fd tl cy
  rw [if_neg e15]
  exact rb_other hH hL hr l j c m (v : Int) p fd tl cy e10 e11 e12 e13 e14 e15 e16
end Go.Proofs.YthdcapkchjamoaaGreatDoor
/- A step of the program's layer 17 as one function; Shut. -/
namespace Go.Proofs.YthdcapkchjamoaaGreatDoor
open Go Go.RowKit
set_option maxRecDepth 100000
attribute [local go_sem ↓] Go.wp_at_zero Go.wp_at_succ

theorem bar17_c {w : World} {H A G : Nat} {C : Cf} {s : Dy} (hH : HAt w H A G C s) (hu : s.U) (hS : SpansAt w) (hr : Right C.a C.b C.c C.d) (hn : 0 < C.n) (x : Co) (hx : x.U) (hm : -1000000000000 ≤ x.m ∧ x.m ≤ 1000000000000) :
    Calls Tryz.prog 80 #[.pointer (some ⟨H, 0, none⟩), x.v] w (HP w H A G C (shutS C s x).1 (.tuple #[(shutS C s x).2.1.v, .bool (shutS C s x).2.2.1, .bool (shutS C s x).2.2.2])) := by
  obtain ⟨l, j, c, m, xa, p, fd, tl, cy⟩ := x
  obtain ⟨ha, _⟩ := hx
  dsimp only at hm ha
  obtain ⟨v, rfl, hv⟩ := u64_nat' ha
  unfold shutS ldP
  dsimp only
  by_cases e10 : l = 10
  · subst e10; rw [if_pos rfl]
    obtain ⟨u, hT, hu6⟩ := u64_nat' (z5_u64 (n := C.n) (k := 1) (i := (inP C.a C.b C.c C.d m)) (hu (inP C.a C.b C.c C.d m).toNat))
    simp only [hT]
    by_cases hs : u % 4 = 1 ∨ u % 4 = 3
    · simp only [show ((u : Int) % 4 = 1 ∨ (u : Int) % 4 = 3) by omega, if_true]; exact pb10_wait hH hu hS hr hn j c m (v : Int) p fd tl cy hm u hu6 hT hs
    · simp only [if_neg (show ¬ ((u : Int) % 4 = 1 ∨ (u : Int) % 4 = 3) by omega)]; exact pb10_next hH hu hS hr hn j c m (v : Int) p fd tl cy hm u hu6 hT hs
  rw [if_neg e10]
  by_cases e16 : l = 16
  · subst e16; rw [if_pos rfl]
    obtain ⟨u, hT, hu6⟩ := u64_nat' (z5_u64 (n := C.n) (k := 1) (i := (inP C.a C.b C.c C.d m)) (hu (inP C.a C.b C.c C.d m).toNat))
    simp only [hT]
    by_cases hq : u = v
    · subst hq; simp only [true_or, if_true]
      exact pb16_same hH hu hS hr hn j c m p fd tl cy hm u hv u hu6 hT rfl
    have hq2 : ¬ (u : Int) = (v : Int) := by omega
    by_cases hs : u % 4 = 3
    · simp only [hq2, show (u : Int) % 4 = 3 by omega, or_true, if_true]
      exact pb16_wait hH hu hS hr hn j c m p fd tl cy hm v hv u hu6 hT hq hs
    · simp only [hq2, show ¬ (u : Int) % 4 = 3 by omega, or_self, if_false]
      exact pb16_next hH hu hS hr hn j c m p fd tl cy hm v hv u hu6 hT hq hs
  rw [if_neg e16]
  by_cases e11 : l = 11
  · subst e11; rw [if_pos rfl]
    exact pb11 hH hu hS hr hn j c m (v : Int) p fd tl cy
  rw [if_neg e11]
  by_cases e12 : l = 12
  · subst e12; rw [if_pos rfl]
    obtain ⟨u, hT, hu6⟩ := u64_nat' (z5_u64 (n := C.n) (k := 1) (i := (inP C.a C.b C.c C.d m)) (hu (inP C.a C.b C.c C.d m).toNat))
    simp only [hT]
    by_cases hs : u % 4 = 0 ∨ u % 4 = 3
    · simp only [if_neg (show ¬ ((u : Int) % 4 = 1 ∨ (u : Int) % 4 = 2) by omega)]; exact pb12_next hH hu hS hr hn j c m (v : Int) p fd tl cy hm u hu6 hT hs
    · simp only [show ((u : Int) % 4 = 1 ∨ (u : Int) % 4 = 2) by omega, if_true]; exact pb12_stay hH hu hS hr hn j c m (v : Int) p fd tl cy hm u hu6 hT hs
  rw [if_neg e12]
  by_cases e13 : l = 13
  · subst e13; rw [if_pos rfl]
    obtain ⟨u, hT, hu6⟩ := u64_nat' (z5_u64 (n := C.n) (k := 1) (i := 2) (hu (2 : Int).toNat))
    simp only [hT]
    by_cases h0 : u = 0
    · subst h0; exact pb13_flip hH hu hS hr hn j c m (v : Int) p fd tl cy 0 hT rfl
    · have h1 : ¬ (u : Int) = 0 := by omega
      simp only [if_neg h1, decide_eq_false h1]; exact pb13_again hH hu hS hr hn j c m (v : Int) p fd tl cy u hT h0
  rw [if_neg e13]
  by_cases e14 : l = 14
  · subst e14; rw [if_pos rfl]
    exact pb14 hH hu hS hr hn j c m (v : Int) p fd tl cy
  rw [if_neg e14]
  by_cases e15 : l = 15
  · subst e15; rw [if_pos rfl]
    exact pb15 hH hu hS hr hn j c m (v : Int) p fd tl cy
  rw [if_neg e15]
  exact pb_other hH hu hS hr hn l j c m (v : Int) p fd tl cy e10 e11 e12 e13 e14 e15 e16
end Go.Proofs.YthdcapkchjamoaaGreatDoor
