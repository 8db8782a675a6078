/- A step of the document's layer 16: lines 5 to 8. -/
import Derived.Test.YthdcapkchjamoaaGreatDoorPassRefN
namespace Go.Proofs.YthdcapkchjamoaaGreatDoor
open Go Go.RowKit
set_option maxRecDepth 100000
attribute [local go_sem ↓] Go.wp_at_zero Go.wp_at_succ

set_option maxHeartbeats 3200000 in
theorem rpStep_5_cell {w : World} {X : Nat} {va : Option Addr} {cap N : Nat} {C : Cf} {s : Dy} (hH : RAt w X va cap N C s) (hL : ∀ R, va = some ⟨R, 0, none⟩ → R < w.heap.size) (hr : Right C.a C.b C.c C.d) (j c m a p : Int) (fd : Bool) (tl cy : Int) (u : Nat) (_ : u < 18446744073709551616) (hT : z5 C.n 1 (partP C.a C.b C.c C.d 0 c) (s.f (partP C.a C.b C.c C.d 0 c).toNat) = (u : Int)) (hc : isC u) :
    Calls Tryz.prog 28 #[.pointer (some ⟨X, 0, none⟩), (colV 5 j c m a p fd tl cy)] w (RP w X va cap N C (s.act C 1 (partP C.a C.b C.c C.d 0 c) 0 0) (.tuple #[(colV 6 j c m (u : Int) p fd tl cy), .bool true])) := by
  have HC0 := Lib.hid (ColR.start hH hL ⟨5, j, c, m, a, p, fd, tl, cy⟩)
  have HA : Hid (∀ W, RAt W X va cap N C s → Calls Tryz.prog 54 #[.pointer (some ⟨X, 0, none⟩), .int .i64 4, .int .i64 c] W fun e w' => e = .returned (.int .i64 (partP C.a C.b C.c C.d 0 c)) ∧ Below W.heap.size W w') := Lib.hid (fun W hW => rat_0 (w := W) hW hr c)
  have HD : Hid (∀ W, RAt W X va cap N C s → (∀ R, va = some ⟨R, 0, none⟩ → R < W.heap.size) → Calls Tryz.prog 48 #[.pointer (some ⟨X, 0, none⟩), .int .i64 (partP C.a C.b C.c C.d 0 c)] W (RP W X va cap N C (s.act C 1 (partP C.a C.b C.c C.d 0 c) 0 0) (.int .u64 (z5 C.n 1 (partP C.a C.b C.c C.d 0 c) (s.f ((partP C.a C.b C.c C.d 0 c)).toNat))))) := Lib.hid (fun W hW hl => rLoad_c (w := W) hW hl (partP C.a C.b C.c C.d 0 c))
  have hk0 : (0 : Int) ≤ ((u / 2 : Nat) : Int) := by omega
  have HI : Hid (∀ W, Calls Tryz.prog 50 #[.int .u64 (u : Int)] W fun e w' => e = .returned (.int .i64 ((u / 2 : Nat) : Int)) ∧ W = w') := Lib.hid (fun W => refIsCell_cell u hc.2 hc.1 W)
  generalize u / 2 = k at *
  generalize (s.act C 1 (partP C.a C.b C.c C.d 0 c) 0 0) = s' at *
  generalize (z5 C.n 1 (partP C.a C.b C.c C.d 0 c) (s.f ((partP C.a C.b C.c C.d 0 c)).toNat)) = T at *
  generalize (partP C.a C.b C.c C.d 0 c) = P at *
  subst hT
  clear hH hL hr hc
  obtain ⟨a0, a1, a2, a3, a4, a5, a6, a7, a8, af⟩ := HC0.out.cells
  dsimp only at a0 a1 a2 a3 a4 a5 a6 a7 a8
  go_enter Tryz.func28, Tryz.ntmps28
  go_wp2_with fail
  refine (HA.out _ HC0.out.hand).mono ?_
  rintro e V1 ⟨rfl, hb⟩
  have HC1 := Lib.hid (HC0.out.below hb)
  clear HC0
  clear hb
  clear HA a0 a1 a2 a3 a4 a5 a6 a7 a8 af
  obtain ⟨a0, a1, a2, a3, a4, a5, a6, a7, a8, af⟩ := HC1.out.cells
  dsimp only at a0 a1 a2 a3 a4 a5 a6 a7 a8
  go_wp2_with fail
  refine (HD.out _ HC1.out.hand HC1.out.ltR).mono ?_
  rintro e V2 ⟨rfl, hF, hs⟩
  have HC2 := Lib.hid (HC1.out.handed hF hs)
  clear HC1 hF hs
  clear HD a0 a1 a2 a3 a4 a5 a6 a7 a8 af
  obtain ⟨a0, a1, a2, a3, a4, a5, a6, a7, a8, af⟩ := HC2.out.cells
  dsimp only at a0 a1 a2 a3 a4 a5 a6 a7 a8
  go_wp2_with fail
  have HC3 := Lib.hid ((HC2.out.setA (u : Int)).setL 7)
  clear HC2 a0 a1 a2 a3 a4 a5 a6 a7 a8 af
  obtain ⟨a0, a1, a2, a3, a4, a5, a6, a7, a8, af⟩ := HC3.out.cells
  dsimp only at a0 a1 a2 a3 a4 a5 a6 a7 a8
  refine (HI.out _).mono ?_
  rintro e V3 ⟨rfl, rfl⟩
  clear HI a0 a1 a2 a3 a4 a5 a6 a7 a8 af
  have HCe := Lib.hid (HC3.out.setL 6)
  obtain ⟨b0, b1, b2, b3, b4, b5, b6, b7, b8, bf⟩ := HC3.out.cells
  dsimp only at b0 b1 b2 b3 b4 b5 b6 b7 b8
  obtain ⟨d0, d1, d2, d3, d4, d5, d6, d7, d8, df⟩ := HCe.out.cells
  dsimp only at d0 d1 d2 d3 d4 d5 d6 d7 d8
  obtain ⟨c0, c1, c2, c3, c4, c5, c6, c7, c8, cf⟩ := HCe.out.cellsY
  obtain ⟨s0, s1, s2, s3, s4, s5, s6, s7, s8, sf⟩ := (HCe.out.last ⟨6, j, c, m, (u : Int), p, fd, tl, cy⟩).cells
  dsimp only at s0 s1 s2 s3 s4 s5 s6 s7 s8
  clear HC3 
  go_wp2_with fail
  refine bodyPost_ret (v := .tuple #[(colV 6 j c m (u : Int) p fd tl cy), .bool true]) (by simp [results, Tryz.f28, go_sem, s0, s1, s2, s3, s4, s5, s6, s7, s8]) rfl ?_
  exact ⟨rfl, HCe.out.fin ⟨6, j, c, m, (u : Int), p, fd, tl, cy⟩⟩
set_option maxHeartbeats 3200000 in
theorem rpStep_5_no {w : World} {X : Nat} {va : Option Addr} {cap N : Nat} {C : Cf} {s : Dy} (hH : RAt w X va cap N C s) (hL : ∀ R, va = some ⟨R, 0, none⟩ → R < w.heap.size) (hr : Right C.a C.b C.c C.d) (j c m a p : Int) (fd : Bool) (tl cy : Int) (u : Nat) (hu6 : u < 18446744073709551616) (hT : z5 C.n 1 (partP C.a C.b C.c C.d 0 c) (s.f (partP C.a C.b C.c C.d 0 c).toNat) = (u : Int)) (hc : ¬ isC u) :
    Calls Tryz.prog 28 #[.pointer (some ⟨X, 0, none⟩), (colV 5 j c m a p fd tl cy)] w (RP w X va cap N C (s.act C 1 (partP C.a C.b C.c C.d 0 c) 0 0) (.tuple #[(colV 7 j c m (u : Int) p fd tl cy), .bool true])) := by
  have HC0 := Lib.hid (ColR.start hH hL ⟨5, j, c, m, a, p, fd, tl, cy⟩)
  have HA : Hid (∀ W, RAt W X va cap N C s → Calls Tryz.prog 54 #[.pointer (some ⟨X, 0, none⟩), .int .i64 4, .int .i64 c] W fun e w' => e = .returned (.int .i64 (partP C.a C.b C.c C.d 0 c)) ∧ Below W.heap.size W w') := Lib.hid (fun W hW => rat_0 (w := W) hW hr c)
  have HD : Hid (∀ W, RAt W X va cap N C s → (∀ R, va = some ⟨R, 0, none⟩ → R < W.heap.size) → Calls Tryz.prog 48 #[.pointer (some ⟨X, 0, none⟩), .int .i64 (partP C.a C.b C.c C.d 0 c)] W (RP W X va cap N C (s.act C 1 (partP C.a C.b C.c C.d 0 c) 0 0) (.int .u64 (z5 C.n 1 (partP C.a C.b C.c C.d 0 c) (s.f ((partP C.a C.b C.c C.d 0 c)).toNat))))) := Lib.hid (fun W hW hl => rLoad_c (w := W) hW hl (partP C.a C.b C.c C.d 0 c))
  have HI : Hid (∀ W, Calls Tryz.prog 50 #[.int .u64 (u : Int)] W fun e w' => e = .returned (.int .i64 (-1)) ∧ W = w') := Lib.hid (fun W => refIsCell_no u hu6 hc W)
  generalize (s.act C 1 (partP C.a C.b C.c C.d 0 c) 0 0) = s' at *
  generalize (z5 C.n 1 (partP C.a C.b C.c C.d 0 c) (s.f ((partP C.a C.b C.c C.d 0 c)).toNat)) = T at *
  generalize (partP C.a C.b C.c C.d 0 c) = P at *
  subst hT
  clear hH hL hr hc hu6
  obtain ⟨a0, a1, a2, a3, a4, a5, a6, a7, a8, af⟩ := HC0.out.cells
  dsimp only at a0 a1 a2 a3 a4 a5 a6 a7 a8
  go_enter Tryz.func28, Tryz.ntmps28
  go_wp2_with fail
  refine (HA.out _ HC0.out.hand).mono ?_
  rintro e V1 ⟨rfl, hb⟩
  have HC1 := Lib.hid (HC0.out.below hb)
  clear HC0
  clear hb
  clear HA a0 a1 a2 a3 a4 a5 a6 a7 a8 af
  obtain ⟨a0, a1, a2, a3, a4, a5, a6, a7, a8, af⟩ := HC1.out.cells
  dsimp only at a0 a1 a2 a3 a4 a5 a6 a7 a8
  go_wp2_with fail
  refine (HD.out _ HC1.out.hand HC1.out.ltR).mono ?_
  rintro e V2 ⟨rfl, hF, hs⟩
  have HC2 := Lib.hid (HC1.out.handed hF hs)
  clear HC1 hF hs
  clear HD a0 a1 a2 a3 a4 a5 a6 a7 a8 af
  obtain ⟨a0, a1, a2, a3, a4, a5, a6, a7, a8, af⟩ := HC2.out.cells
  dsimp only at a0 a1 a2 a3 a4 a5 a6 a7 a8
  go_wp2_with fail
  have HC3 := Lib.hid ((HC2.out.setA (u : Int)).setL 7)
  clear HC2 a0 a1 a2 a3 a4 a5 a6 a7 a8 af
  obtain ⟨a0, a1, a2, a3, a4, a5, a6, a7, a8, af⟩ := HC3.out.cells
  dsimp only at a0 a1 a2 a3 a4 a5 a6 a7 a8
  refine (HI.out _).mono ?_
  rintro e V3 ⟨rfl, rfl⟩
  clear HI a0 a1 a2 a3 a4 a5 a6 a7 a8 af
  have HCe := Lib.hid HC3.out
  obtain ⟨d0, d1, d2, d3, d4, d5, d6, d7, d8, df⟩ := HCe.out.cells
  dsimp only at d0 d1 d2 d3 d4 d5 d6 d7 d8
  obtain ⟨c0, c1, c2, c3, c4, c5, c6, c7, c8, cf⟩ := HCe.out.cellsY
  obtain ⟨s0, s1, s2, s3, s4, s5, s6, s7, s8, sf⟩ := (HCe.out.last ⟨7, j, c, m, (u : Int), p, fd, tl, cy⟩).cells
  dsimp only at s0 s1 s2 s3 s4 s5 s6 s7 s8
  clear HC3 
  go_wp2_with fail
  refine bodyPost_ret (v := .tuple #[(colV 7 j c m (u : Int) p fd tl cy), .bool true]) (by simp [results, Tryz.f28, go_sem, s0, s1, s2, s3, s4, s5, s6, s7, s8]) rfl ?_
  exact ⟨rfl, HCe.out.fin ⟨7, j, c, m, (u : Int), p, fd, tl, cy⟩⟩
set_option maxHeartbeats 3200000 in
theorem rpStep_7_cell {w : World} {X : Nat} {va : Option Addr} {cap N : Nat} {C : Cf} {s : Dy} (hH : RAt w X va cap N C s) (hL : ∀ R, va = some ⟨R, 0, none⟩ → R < w.heap.size) (hr : Right C.a C.b C.c C.d) (j c m a p : Int) (fd : Bool) (tl cy : Int) (u : Nat) (_ : u < 18446744073709551616) (hT : z5 C.n 1 (partP C.a C.b C.c C.d 1 c) (s.f (partP C.a C.b C.c C.d 1 c).toNat) = (u : Int)) (hc : isC u) :
    Calls Tryz.prog 28 #[.pointer (some ⟨X, 0, none⟩), (colV 7 j c m a p fd tl cy)] w (RP w X va cap N C (s.act C 1 (partP C.a C.b C.c C.d 1 c) 0 0) (.tuple #[(colV 8 j c m (u : Int) p fd tl cy), .bool true])) := by
  have HC0 := Lib.hid (ColR.start hH hL ⟨7, j, c, m, a, p, fd, tl, cy⟩)
  have HA : Hid (∀ W, RAt W X va cap N C s → Calls Tryz.prog 54 #[.pointer (some ⟨X, 0, none⟩), .int .i64 5, .int .i64 c] W fun e w' => e = .returned (.int .i64 (partP C.a C.b C.c C.d 1 c)) ∧ Below W.heap.size W w') := Lib.hid (fun W hW => rat_1 (w := W) hW hr c)
  have HD : Hid (∀ W, RAt W X va cap N C s → (∀ R, va = some ⟨R, 0, none⟩ → R < W.heap.size) → Calls Tryz.prog 48 #[.pointer (some ⟨X, 0, none⟩), .int .i64 (partP C.a C.b C.c C.d 1 c)] W (RP W X va cap N C (s.act C 1 (partP C.a C.b C.c C.d 1 c) 0 0) (.int .u64 (z5 C.n 1 (partP C.a C.b C.c C.d 1 c) (s.f ((partP C.a C.b C.c C.d 1 c)).toNat))))) := Lib.hid (fun W hW hl => rLoad_c (w := W) hW hl (partP C.a C.b C.c C.d 1 c))
  have hk0 : (0 : Int) ≤ ((u / 2 : Nat) : Int) := by omega
  have HI : Hid (∀ W, Calls Tryz.prog 50 #[.int .u64 (u : Int)] W fun e w' => e = .returned (.int .i64 ((u / 2 : Nat) : Int)) ∧ W = w') := Lib.hid (fun W => refIsCell_cell u hc.2 hc.1 W)
  generalize u / 2 = k at *
  generalize (s.act C 1 (partP C.a C.b C.c C.d 1 c) 0 0) = s' at *
  generalize (z5 C.n 1 (partP C.a C.b C.c C.d 1 c) (s.f ((partP C.a C.b C.c C.d 1 c)).toNat)) = T at *
  generalize (partP C.a C.b C.c C.d 1 c) = P at *
  subst hT
  clear hH hL hr hc
  obtain ⟨a0, a1, a2, a3, a4, a5, a6, a7, a8, af⟩ := HC0.out.cells
  dsimp only at a0 a1 a2 a3 a4 a5 a6 a7 a8
  go_enter Tryz.func28, Tryz.ntmps28
  go_wp2_with fail
  refine (HA.out _ HC0.out.hand).mono ?_
  rintro e V1 ⟨rfl, hb⟩
  have HC1 := Lib.hid (HC0.out.below hb)
  clear HC0
  clear hb
  clear HA a0 a1 a2 a3 a4 a5 a6 a7 a8 af
  obtain ⟨a0, a1, a2, a3, a4, a5, a6, a7, a8, af⟩ := HC1.out.cells
  dsimp only at a0 a1 a2 a3 a4 a5 a6 a7 a8
  go_wp2_with fail
  refine (HD.out _ HC1.out.hand HC1.out.ltR).mono ?_
  rintro e V2 ⟨rfl, hF, hs⟩
  have HC2 := Lib.hid (HC1.out.handed hF hs)
  clear HC1 hF hs
  clear HD a0 a1 a2 a3 a4 a5 a6 a7 a8 af
  obtain ⟨a0, a1, a2, a3, a4, a5, a6, a7, a8, af⟩ := HC2.out.cells
  dsimp only at a0 a1 a2 a3 a4 a5 a6 a7 a8
  go_wp2_with fail
  have HC3 := Lib.hid ((HC2.out.setA (u : Int)).setL 9)
  clear HC2 a0 a1 a2 a3 a4 a5 a6 a7 a8 af
  obtain ⟨a0, a1, a2, a3, a4, a5, a6, a7, a8, af⟩ := HC3.out.cells
  dsimp only at a0 a1 a2 a3 a4 a5 a6 a7 a8
  refine (HI.out _).mono ?_
  rintro e V3 ⟨rfl, rfl⟩
  clear HI a0 a1 a2 a3 a4 a5 a6 a7 a8 af
  have HCe := Lib.hid (HC3.out.setL 8)
  obtain ⟨b0, b1, b2, b3, b4, b5, b6, b7, b8, bf⟩ := HC3.out.cells
  dsimp only at b0 b1 b2 b3 b4 b5 b6 b7 b8
  obtain ⟨d0, d1, d2, d3, d4, d5, d6, d7, d8, df⟩ := HCe.out.cells
  dsimp only at d0 d1 d2 d3 d4 d5 d6 d7 d8
  obtain ⟨c0, c1, c2, c3, c4, c5, c6, c7, c8, cf⟩ := HCe.out.cellsY
  obtain ⟨s0, s1, s2, s3, s4, s5, s6, s7, s8, sf⟩ := (HCe.out.last ⟨8, j, c, m, (u : Int), p, fd, tl, cy⟩).cells
  dsimp only at s0 s1 s2 s3 s4 s5 s6 s7 s8
  clear HC3 
  go_wp2_with fail
  refine bodyPost_ret (v := .tuple #[(colV 8 j c m (u : Int) p fd tl cy), .bool true]) (by simp [results, Tryz.f28, go_sem, s0, s1, s2, s3, s4, s5, s6, s7, s8]) rfl ?_
  exact ⟨rfl, HCe.out.fin ⟨8, j, c, m, (u : Int), p, fd, tl, cy⟩⟩
set_option maxHeartbeats 3200000 in
theorem rpStep_7_no {w : World} {X : Nat} {va : Option Addr} {cap N : Nat} {C : Cf} {s : Dy} (hH : RAt w X va cap N C s) (hL : ∀ R, va = some ⟨R, 0, none⟩ → R < w.heap.size) (hr : Right C.a C.b C.c C.d) (j c m a p : Int) (fd : Bool) (tl cy : Int) (u : Nat) (hu6 : u < 18446744073709551616) (hT : z5 C.n 1 (partP C.a C.b C.c C.d 1 c) (s.f (partP C.a C.b C.c C.d 1 c).toNat) = (u : Int)) (hc : ¬ isC u) :
    Calls Tryz.prog 28 #[.pointer (some ⟨X, 0, none⟩), (colV 7 j c m a p fd tl cy)] w (RP w X va cap N C (s.act C 1 (partP C.a C.b C.c C.d 1 c) 0 0) (.tuple #[(colV 9 j c m (u : Int) p fd tl cy), .bool true])) := by
  have HC0 := Lib.hid (ColR.start hH hL ⟨7, j, c, m, a, p, fd, tl, cy⟩)
  have HA : Hid (∀ W, RAt W X va cap N C s → Calls Tryz.prog 54 #[.pointer (some ⟨X, 0, none⟩), .int .i64 5, .int .i64 c] W fun e w' => e = .returned (.int .i64 (partP C.a C.b C.c C.d 1 c)) ∧ Below W.heap.size W w') := Lib.hid (fun W hW => rat_1 (w := W) hW hr c)
  have HD : Hid (∀ W, RAt W X va cap N C s → (∀ R, va = some ⟨R, 0, none⟩ → R < W.heap.size) → Calls Tryz.prog 48 #[.pointer (some ⟨X, 0, none⟩), .int .i64 (partP C.a C.b C.c C.d 1 c)] W (RP W X va cap N C (s.act C 1 (partP C.a C.b C.c C.d 1 c) 0 0) (.int .u64 (z5 C.n 1 (partP C.a C.b C.c C.d 1 c) (s.f ((partP C.a C.b C.c C.d 1 c)).toNat))))) := Lib.hid (fun W hW hl => rLoad_c (w := W) hW hl (partP C.a C.b C.c C.d 1 c))
  have HI : Hid (∀ W, Calls Tryz.prog 50 #[.int .u64 (u : Int)] W fun e w' => e = .returned (.int .i64 (-1)) ∧ W = w') := Lib.hid (fun W => refIsCell_no u hu6 hc W)
  generalize (s.act C 1 (partP C.a C.b C.c C.d 1 c) 0 0) = s' at *
  generalize (z5 C.n 1 (partP C.a C.b C.c C.d 1 c) (s.f ((partP C.a C.b C.c C.d 1 c)).toNat)) = T at *
  generalize (partP C.a C.b C.c C.d 1 c) = P at *
  subst hT
  clear hH hL hr hc hu6
  obtain ⟨a0, a1, a2, a3, a4, a5, a6, a7, a8, af⟩ := HC0.out.cells
  dsimp only at a0 a1 a2 a3 a4 a5 a6 a7 a8
  go_enter Tryz.func28, Tryz.ntmps28
  go_wp2_with fail
  refine (HA.out _ HC0.out.hand).mono ?_
  rintro e V1 ⟨rfl, hb⟩
  have HC1 := Lib.hid (HC0.out.below hb)
  clear HC0
  clear hb
  clear HA a0 a1 a2 a3 a4 a5 a6 a7 a8 af
  obtain ⟨a0, a1, a2, a3, a4, a5, a6, a7, a8, af⟩ := HC1.out.cells
  dsimp only at a0 a1 a2 a3 a4 a5 a6 a7 a8
  go_wp2_with fail
  refine (HD.out _ HC1.out.hand HC1.out.ltR).mono ?_
  rintro e V2 ⟨rfl, hF, hs⟩
  have HC2 := Lib.hid (HC1.out.handed hF hs)
  clear HC1 hF hs
  clear HD a0 a1 a2 a3 a4 a5 a6 a7 a8 af
  obtain ⟨a0, a1, a2, a3, a4, a5, a6, a7, a8, af⟩ := HC2.out.cells
  dsimp only at a0 a1 a2 a3 a4 a5 a6 a7 a8
  go_wp2_with fail
  have HC3 := Lib.hid ((HC2.out.setA (u : Int)).setL 9)
  clear HC2 a0 a1 a2 a3 a4 a5 a6 a7 a8 af
  obtain ⟨a0, a1, a2, a3, a4, a5, a6, a7, a8, af⟩ := HC3.out.cells
  dsimp only at a0 a1 a2 a3 a4 a5 a6 a7 a8
  refine (HI.out _).mono ?_
  rintro e V3 ⟨rfl, rfl⟩
  clear HI a0 a1 a2 a3 a4 a5 a6 a7 a8 af
  have HCe := Lib.hid HC3.out
  obtain ⟨d0, d1, d2, d3, d4, d5, d6, d7, d8, df⟩ := HCe.out.cells
  dsimp only at d0 d1 d2 d3 d4 d5 d6 d7 d8
  obtain ⟨c0, c1, c2, c3, c4, c5, c6, c7, c8, cf⟩ := HCe.out.cellsY
  obtain ⟨s0, s1, s2, s3, s4, s5, s6, s7, s8, sf⟩ := (HCe.out.last ⟨9, j, c, m, (u : Int), p, fd, tl, cy⟩).cells
  dsimp only at s0 s1 s2 s3 s4 s5 s6 s7 s8
  clear HC3 
  go_wp2_with fail
  refine bodyPost_ret (v := .tuple #[(colV 9 j c m (u : Int) p fd tl cy), .bool true]) (by simp [results, Tryz.f28, go_sem, s0, s1, s2, s3, s4, s5, s6, s7, s8]) rfl ?_
  exact ⟨rfl, HCe.out.fin ⟨9, j, c, m, (u : Int), p, fd, tl, cy⟩⟩
set_option maxHeartbeats 3200000 in
theorem rpStep_6 {w : World} {X : Nat} {va : Option Addr} {cap N : Nat} {C : Cf} {s : Dy} (hH : RAt w X va cap N C s) (hL : ∀ R, va = some ⟨R, 0, none⟩ → R < w.heap.size) (hr : Right C.a C.b C.c C.d) (j c m p : Int) (fd : Bool) (tl cy : Int) (v : Nat) (hv : v < 18446744073709551616) :
    Calls Tryz.prog 28 #[.pointer (some ⟨X, 0, none⟩), (colV 6 j c m (v : Int) p fd tl cy)] w (RP w X va cap N C (s.act C 3 (fieldP C.a C.b C.c C.d v 2) 0 1) (.tuple #[(colV 7 j c m (v : Int) p fd tl cy), .bool true])) := by
  have HC0 := Lib.hid (ColR.start hH hL ⟨6, j, c, m, (v : Int), p, fd, tl, cy⟩)
  have HFd : Hid (∀ W, RAt W X va cap N C s → Calls Tryz.prog 52 #[.pointer (some ⟨X, 0, none⟩), .int .u64 (v : Int), .int .i64 2] W fun e w' => e = .returned (.int .i64 (fieldP C.a C.b C.c C.d v 2)) ∧ Below W.heap.size W w') := Lib.hid (fun W hW => rField_c (w := W) hW hr v hv 2)
  have HD : Hid (∀ W, RAt W X va cap N C s → (∀ R, va = some ⟨R, 0, none⟩ → R < W.heap.size) → Calls Tryz.prog 51 #[.pointer (some ⟨X, 0, none⟩), .int .i64 (fieldP C.a C.b C.c C.d v 2), .int .u64 0, .int .u64 1] W (RP W X va cap N C (s.act C 3 (fieldP C.a C.b C.c C.d v 2) 0 1) (.bool (casB C.n s.f (fieldP C.a C.b C.c C.d v 2) 0)))) := Lib.hid (fun W hW hl => rCas_c (w := W) hW hl (fieldP C.a C.b C.c C.d v 2) 0 1)
  generalize (s.act C 3 (fieldP C.a C.b C.c C.d v 2) 0 1) = s' at *
  generalize (casB C.n s.f (fieldP C.a C.b C.c C.d v 2) 0) = b2 at *
  generalize (fieldP C.a C.b C.c C.d v 2) = P at *
  clear hH hL hr hv
  obtain ⟨a0, a1, a2, a3, a4, a5, a6, a7, a8, af⟩ := HC0.out.cells
  dsimp only at a0 a1 a2 a3 a4 a5 a6 a7 a8
  go_enter Tryz.func28, Tryz.ntmps28
  go_wp2_with fail
  refine (HFd.out _ HC0.out.hand).mono ?_
  rintro e V1 ⟨rfl, hb⟩
  have HC1 := Lib.hid (HC0.out.below hb)
  clear HC0
  clear hb
  clear HFd a0 a1 a2 a3 a4 a5 a6 a7 a8 af
  obtain ⟨a0, a1, a2, a3, a4, a5, a6, a7, a8, af⟩ := HC1.out.cells
  dsimp only at a0 a1 a2 a3 a4 a5 a6 a7 a8
  go_wp2_with fail
  refine (HD.out _ HC1.out.hand HC1.out.ltR).mono ?_
  rintro e V2 ⟨rfl, hF, hs⟩
  have HC2 := Lib.hid (HC1.out.handed hF hs)
  clear HC1 hF hs
  clear HD a0 a1 a2 a3 a4 a5 a6 a7 a8 af
  obtain ⟨a0, a1, a2, a3, a4, a5, a6, a7, a8, af⟩ := HC2.out.cells
  dsimp only at a0 a1 a2 a3 a4 a5 a6 a7 a8
  clear a0 a1 a2 a3 a4 a5 a6 a7 a8 af
  have HCe := Lib.hid (HC2.out.setL 7)
  obtain ⟨b0, b1, b2, b3, b4, b5, b6, b7, b8, bf⟩ := HC2.out.cells
  dsimp only at b0 b1 b2 b3 b4 b5 b6 b7 b8
  obtain ⟨d0, d1, d2, d3, d4, d5, d6, d7, d8, df⟩ := HCe.out.cells
  dsimp only at d0 d1 d2 d3 d4 d5 d6 d7 d8
  obtain ⟨c0, c1, c2, c3, c4, c5, c6, c7, c8, cf⟩ := HCe.out.cellsY
  obtain ⟨s0, s1, s2, s3, s4, s5, s6, s7, s8, sf⟩ := (HCe.out.last ⟨7, j, c, m, (v : Int), p, fd, tl, cy⟩).cells
  dsimp only at s0 s1 s2 s3 s4 s5 s6 s7 s8
  clear HC2 
  go_wp2_with fail
  refine bodyPost_ret (v := .tuple #[(colV 7 j c m (v : Int) p fd tl cy), .bool true]) (by simp [results, Tryz.f28, go_sem, s0, s1, s2, s3, s4, s5, s6, s7, s8]) rfl ?_
  exact ⟨rfl, HCe.out.fin ⟨7, j, c, m, (v : Int), p, fd, tl, cy⟩⟩
set_option maxHeartbeats 3200000 in
theorem rpStep_8 {w : World} {X : Nat} {va : Option Addr} {cap N : Nat} {C : Cf} {s : Dy} (hH : RAt w X va cap N C s) (hL : ∀ R, va = some ⟨R, 0, none⟩ → R < w.heap.size) (hr : Right C.a C.b C.c C.d) (j c m p : Int) (fd : Bool) (tl cy : Int) (v : Nat) (hv : v < 18446744073709551616) :
    Calls Tryz.prog 28 #[.pointer (some ⟨X, 0, none⟩), (colV 8 j c m (v : Int) p fd tl cy)] w (RP w X va cap N C (s.act C 3 (fieldP C.a C.b C.c C.d v 2) 0 1) (.tuple #[(colV 9 j c m (v : Int) p fd tl cy), .bool true])) := by
  have HC0 := Lib.hid (ColR.start hH hL ⟨8, j, c, m, (v : Int), p, fd, tl, cy⟩)
  have HFd : Hid (∀ W, RAt W X va cap N C s → Calls Tryz.prog 52 #[.pointer (some ⟨X, 0, none⟩), .int .u64 (v : Int), .int .i64 2] W fun e w' => e = .returned (.int .i64 (fieldP C.a C.b C.c C.d v 2)) ∧ Below W.heap.size W w') := Lib.hid (fun W hW => rField_c (w := W) hW hr v hv 2)
  have HD : Hid (∀ W, RAt W X va cap N C s → (∀ R, va = some ⟨R, 0, none⟩ → R < W.heap.size) → Calls Tryz.prog 51 #[.pointer (some ⟨X, 0, none⟩), .int .i64 (fieldP C.a C.b C.c C.d v 2), .int .u64 0, .int .u64 1] W (RP W X va cap N C (s.act C 3 (fieldP C.a C.b C.c C.d v 2) 0 1) (.bool (casB C.n s.f (fieldP C.a C.b C.c C.d v 2) 0)))) := Lib.hid (fun W hW hl => rCas_c (w := W) hW hl (fieldP C.a C.b C.c C.d v 2) 0 1)
  generalize (s.act C 3 (fieldP C.a C.b C.c C.d v 2) 0 1) = s' at *
  generalize (casB C.n s.f (fieldP C.a C.b C.c C.d v 2) 0) = b2 at *
  generalize (fieldP C.a C.b C.c C.d v 2) = P at *
  clear hH hL hr hv
  obtain ⟨a0, a1, a2, a3, a4, a5, a6, a7, a8, af⟩ := HC0.out.cells
  dsimp only at a0 a1 a2 a3 a4 a5 a6 a7 a8
  go_enter Tryz.func28, Tryz.ntmps28
  go_wp2_with fail
  refine (HFd.out _ HC0.out.hand).mono ?_
  rintro e V1 ⟨rfl, hb⟩
  have HC1 := Lib.hid (HC0.out.below hb)
  clear HC0
  clear hb
  clear HFd a0 a1 a2 a3 a4 a5 a6 a7 a8 af
  obtain ⟨a0, a1, a2, a3, a4, a5, a6, a7, a8, af⟩ := HC1.out.cells
  dsimp only at a0 a1 a2 a3 a4 a5 a6 a7 a8
  go_wp2_with fail
  refine (HD.out _ HC1.out.hand HC1.out.ltR).mono ?_
  rintro e V2 ⟨rfl, hF, hs⟩
  have HC2 := Lib.hid (HC1.out.handed hF hs)
  clear HC1 hF hs
  clear HD a0 a1 a2 a3 a4 a5 a6 a7 a8 af
  obtain ⟨a0, a1, a2, a3, a4, a5, a6, a7, a8, af⟩ := HC2.out.cells
  dsimp only at a0 a1 a2 a3 a4 a5 a6 a7 a8
  clear a0 a1 a2 a3 a4 a5 a6 a7 a8 af
  have HCe := Lib.hid (HC2.out.setL 9)
  obtain ⟨b0, b1, b2, b3, b4, b5, b6, b7, b8, bf⟩ := HC2.out.cells
  dsimp only at b0 b1 b2 b3 b4 b5 b6 b7 b8
  obtain ⟨d0, d1, d2, d3, d4, d5, d6, d7, d8, df⟩ := HCe.out.cells
  dsimp only at d0 d1 d2 d3 d4 d5 d6 d7 d8
  obtain ⟨c0, c1, c2, c3, c4, c5, c6, c7, c8, cf⟩ := HCe.out.cellsY
  obtain ⟨s0, s1, s2, s3, s4, s5, s6, s7, s8, sf⟩ := (HCe.out.last ⟨9, j, c, m, (v : Int), p, fd, tl, cy⟩).cells
  dsimp only at s0 s1 s2 s3 s4 s5 s6 s7 s8
  clear HC2 
  go_wp2_with fail
  refine bodyPost_ret (v := .tuple #[(colV 9 j c m (v : Int) p fd tl cy), .bool true]) (by simp [results, Tryz.f28, go_sem, s0, s1, s2, s3, s4, s5, s6, s7, s8]) rfl ?_
  exact ⟨rfl, HCe.out.fin ⟨9, j, c, m, (v : Int), p, fd, tl, cy⟩⟩
end Go.Proofs.YthdcapkchjamoaaGreatDoor
