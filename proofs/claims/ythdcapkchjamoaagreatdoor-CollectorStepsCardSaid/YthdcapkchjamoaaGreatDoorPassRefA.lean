/- A step of the document's layer 16: lines 3, 4 and 9, and any other line. -/
import Derived.Test.YthdcapkchjamoaaGreatDoorPassRefN
namespace Go.Proofs.YthdcapkchjamoaaGreatDoor
open Go Go.RowKit
set_option maxRecDepth 100000
attribute [local go_sem ↓] Go.wp_at_zero Go.wp_at_succ

set_option maxHeartbeats 3200000 in
theorem rpStep_3 {w : World} {X : Nat} {va : Option Addr} {cap N : Nat} {C : Cf} {s : Dy} (hH : RAt w X va cap N C s) (hL : ∀ R, va = some ⟨R, 0, none⟩ → R < w.heap.size) (_ : Right C.a C.b C.c C.d)  (j c m a p : Int) (fd : Bool) (tl cy : Int) :
    Calls Tryz.prog 28 #[.pointer (some ⟨X, 0, none⟩), (colV 3 j c m a p fd tl cy)] w (RP w X va cap N C (s.act C 2 2 0 0) (.tuple #[(colV 4 j 0 m a p false tl cy), .bool true])) := by
  have HC0 := Lib.hid (ColR.start hH hL ⟨3, j, c, m, a, p, fd, tl, cy⟩)
  have HD : Hid (∀ W, RAt W X va cap N C s → (∀ R, va = some ⟨R, 0, none⟩ → R < W.heap.size) → Calls Tryz.prog 53 #[.pointer (some ⟨X, 0, none⟩), .int .i64 2, .int .u64 0] W (RP W X va cap N C (s.act C 2 2 0 0) (.tuple #[]))) := Lib.hid (fun W hW hl => rStore_c (w := W) hW hl 2 0)
  generalize (s.act C 2 2 0 0) = s' at *
  clear hH hL 
  obtain ⟨a0, a1, a2, a3, a4, a5, a6, a7, a8, af⟩ := HC0.out.cells
  dsimp only at a0 a1 a2 a3 a4 a5 a6 a7 a8
  go_enter Tryz.func28, Tryz.ntmps28
  go_wp2_with fail
  refine (HD.out _ HC0.out.hand HC0.out.ltR).mono ?_
  rintro e V1 ⟨rfl, hF, hs⟩
  have HC1 := Lib.hid (HC0.out.handed hF hs)
  clear HC0 hF hs
  clear HD a0 a1 a2 a3 a4 a5 a6 a7 a8 af
  obtain ⟨a0, a1, a2, a3, a4, a5, a6, a7, a8, af⟩ := HC1.out.cells
  dsimp only at a0 a1 a2 a3 a4 a5 a6 a7 a8
  clear a0 a1 a2 a3 a4 a5 a6 a7 a8 af
  have HCe := Lib.hid (((HC1.out.setC 0).setFD false).setL 4)
  obtain ⟨b0, b1, b2, b3, b4, b5, b6, b7, b8, bf⟩ := HC1.out.cells
  dsimp only at b0 b1 b2 b3 b4 b5 b6 b7 b8
  obtain ⟨d0, d1, d2, d3, d4, d5, d6, d7, d8, df⟩ := HCe.out.cells
  dsimp only at d0 d1 d2 d3 d4 d5 d6 d7 d8
  obtain ⟨c0, c1, c2, c3, c4, c5, c6, c7, c8, cf⟩ := HCe.out.cellsY
  obtain ⟨s0, s1, s2, s3, s4, s5, s6, s7, s8, sf⟩ := (HCe.out.last ⟨4, j, 0, m, a, p, false, tl, cy⟩).cells
  dsimp only at s0 s1 s2 s3 s4 s5 s6 s7 s8
  clear HC1 
  go_wp2_with fail
  refine bodyPost_ret (v := .tuple #[(colV 4 j 0 m a p false tl cy), .bool true]) (by simp [results, Tryz.f28, go_sem, s0, s1, s2, s3, s4, s5, s6, s7, s8]) rfl ?_
  exact ⟨rfl, HCe.out.fin ⟨4, j, 0, m, a, p, false, tl, cy⟩⟩
set_option maxHeartbeats 3200000 in
theorem rpStep_4_grey {w : World} {X : Nat} {va : Option Addr} {cap N : Nat} {C : Cf} {s : Dy} (hH : RAt w X va cap N C s) (hL : ∀ R, va = some ⟨R, 0, none⟩ → R < w.heap.size) (hr : Right C.a C.b C.c C.d) (j c m a p : Int) (fd : Bool) (tl cy : Int) (u : Nat) (hT : z5 C.n 1 (partP C.a C.b C.c C.d 2 c) (s.f (partP C.a C.b C.c C.d 2 c).toNat) = (u : Int)) (h1 : u = 1) :
    Calls Tryz.prog 28 #[.pointer (some ⟨X, 0, none⟩), (colV 4 j c m a p fd tl cy)] w (RP w X va cap N C (s.act C 1 (partP C.a C.b C.c C.d 2 c) 0 0) (.tuple #[(colV 5 j c m a p fd tl cy), .bool true])) := by
  have HC0 := Lib.hid (ColR.start hH hL ⟨4, j, c, m, a, p, fd, tl, cy⟩)
  have HA : Hid (∀ W, RAt W X va cap N C s → Calls Tryz.prog 54 #[.pointer (some ⟨X, 0, none⟩), .int .i64 6, .int .i64 c] W fun e w' => e = .returned (.int .i64 (partP C.a C.b C.c C.d 2 c)) ∧ Below W.heap.size W w') := Lib.hid (fun W hW => rat_2 (w := W) hW hr c)
  have HD : Hid (∀ W, RAt W X va cap N C s → (∀ R, va = some ⟨R, 0, none⟩ → R < W.heap.size) → Calls Tryz.prog 48 #[.pointer (some ⟨X, 0, none⟩), .int .i64 (partP C.a C.b C.c C.d 2 c)] W (RP W X va cap N C (s.act C 1 (partP C.a C.b C.c C.d 2 c) 0 0) (.int .u64 (z5 C.n 1 (partP C.a C.b C.c C.d 2 c) (s.f ((partP C.a C.b C.c C.d 2 c)).toNat))))) := Lib.hid (fun W hW hl => rLoad_c (w := W) hW hl (partP C.a C.b C.c C.d 2 c))
  generalize (s.act C 1 (partP C.a C.b C.c C.d 2 c) 0 0) = s' at *
  generalize (z5 C.n 1 (partP C.a C.b C.c C.d 2 c) (s.f ((partP C.a C.b C.c C.d 2 c)).toNat)) = T at *
  generalize (partP C.a C.b C.c C.d 2 c) = P at *
  subst hT
  subst h1
  clear hH hL hr 
  obtain ⟨a0, a1, a2, a3, a4, a5, a6, a7, a8, af⟩ := HC0.out.cells
  dsimp only at a0 a1 a2 a3 a4 a5 a6 a7 a8
  go_enter Tryz.func28, Tryz.ntmps28
  go_wp2_with fail
  refine (HA.out _ HC0.out.hand).mono ?_
  rintro e V1 ⟨rfl, hb⟩
  have HC1 := Lib.hid (HC0.out.below hb)
  clear HC0
  clear hb
  clear HA a0 a1 a2 a3 a4 a5 a6 a7 a8 af
  obtain ⟨a0, a1, a2, a3, a4, a5, a6, a7, a8, af⟩ := HC1.out.cells
  dsimp only at a0 a1 a2 a3 a4 a5 a6 a7 a8
  go_wp2_with fail
  refine (HD.out _ HC1.out.hand HC1.out.ltR).mono ?_
  rintro e V2 ⟨rfl, hF, hs⟩
  have HC2 := Lib.hid (HC1.out.handed hF hs)
  clear HC1 hF hs
  clear HD a0 a1 a2 a3 a4 a5 a6 a7 a8 af
  obtain ⟨a0, a1, a2, a3, a4, a5, a6, a7, a8, af⟩ := HC2.out.cells
  dsimp only at a0 a1 a2 a3 a4 a5 a6 a7 a8
  have hu1 : (((1 : Nat) : Int) != 1) = false := rfl
  clear a0 a1 a2 a3 a4 a5 a6 a7 a8 af
  have HCe := Lib.hid (HC2.out.setL 5)
  obtain ⟨b0, b1, b2, b3, b4, b5, b6, b7, b8, bf⟩ := HC2.out.cells
  dsimp only at b0 b1 b2 b3 b4 b5 b6 b7 b8
  obtain ⟨d0, d1, d2, d3, d4, d5, d6, d7, d8, df⟩ := HCe.out.cells
  dsimp only at d0 d1 d2 d3 d4 d5 d6 d7 d8
  obtain ⟨c0, c1, c2, c3, c4, c5, c6, c7, c8, cf⟩ := HCe.out.cellsY
  obtain ⟨s0, s1, s2, s3, s4, s5, s6, s7, s8, sf⟩ := (HCe.out.last ⟨5, j, c, m, a, p, fd, tl, cy⟩).cells
  dsimp only at s0 s1 s2 s3 s4 s5 s6 s7 s8
  clear HC2 
  go_wp2_with fail
  refine bodyPost_ret (v := .tuple #[(colV 5 j c m a p fd tl cy), .bool true]) (by simp [results, Tryz.f28, go_sem, s0, s1, s2, s3, s4, s5, s6, s7, s8]) rfl ?_
  exact ⟨rfl, HCe.out.fin ⟨5, j, c, m, a, p, fd, tl, cy⟩⟩
set_option maxHeartbeats 3200000 in
theorem rpStep_4_next {w : World} {X : Nat} {va : Option Addr} {cap N : Nat} {C : Cf} {s : Dy} (hH : RAt w X va cap N C s) (hL : ∀ R, va = some ⟨R, 0, none⟩ → R < w.heap.size) (hr : Right C.a C.b C.c C.d) (j c m a p : Int) (fd : Bool) (tl cy : Int) (hc : -1000000000000 ≤ c ∧ c ≤ 1000000000000) (u : Nat) (hT : z5 C.n 1 (partP C.a C.b C.c C.d 2 c) (s.f (partP C.a C.b C.c C.d 2 c).toNat) = (u : Int)) (h1 : ¬ u = 1) :
    Calls Tryz.prog 28 #[.pointer (some ⟨X, 0, none⟩), (colV 4 j c m a p fd tl cy)] w (RP w X va cap N C (s.act C 1 (partP C.a C.b C.c C.d 2 c) 0 0) (.tuple #[(nextCell C ⟨4, j, c, m, a, p, fd, tl, cy⟩).v, .bool true])) := by
  have HC0 := Lib.hid (ColR.start hH hL ⟨4, j, c, m, a, p, fd, tl, cy⟩)
  have HA : Hid (∀ W, RAt W X va cap N C s → Calls Tryz.prog 54 #[.pointer (some ⟨X, 0, none⟩), .int .i64 6, .int .i64 c] W fun e w' => e = .returned (.int .i64 (partP C.a C.b C.c C.d 2 c)) ∧ Below W.heap.size W w') := Lib.hid (fun W hW => rat_2 (w := W) hW hr c)
  have HD : Hid (∀ W, RAt W X va cap N C s → (∀ R, va = some ⟨R, 0, none⟩ → R < W.heap.size) → Calls Tryz.prog 48 #[.pointer (some ⟨X, 0, none⟩), .int .i64 (partP C.a C.b C.c C.d 2 c)] W (RP W X va cap N C (s.act C 1 (partP C.a C.b C.c C.d 2 c) 0 0) (.int .u64 (z5 C.n 1 (partP C.a C.b C.c C.d 2 c) (s.f ((partP C.a C.b C.c C.d 2 c)).toNat))))) := Lib.hid (fun W hW hl => rLoad_c (w := W) hW hl (partP C.a C.b C.c C.d 2 c))
  have HNx0 : ∀ W s1, RAt W X va cap N C s1 → (∀ R, va = some ⟨R, 0, none⟩ → R < W.heap.size) → Calls Tryz.prog 55 #[.pointer (some ⟨X, 0, none⟩), (colV 4 j c m a p fd tl cy)] W (RP W X va cap N C s1 (nextCell C ⟨4, j, c, m, a, p, fd, tl, cy⟩).v) := fun W s1 hW hl => rpnext_c (w := W) hW hl hr 4 j c m a p fd tl cy hc
  obtain ⟨y, hy⟩ : ∃ y, nextCell C ⟨4, j, c, m, a, p, fd, tl, cy⟩ = y := ⟨_, rfl⟩
  have HNx := Lib.hid HNx0
  clear HNx0
  rw [hy] at HNx ⊢
  clear hy
  generalize (s.act C 1 (partP C.a C.b C.c C.d 2 c) 0 0) = s' at *
  generalize (z5 C.n 1 (partP C.a C.b C.c C.d 2 c) (s.f ((partP C.a C.b C.c C.d 2 c)).toNat)) = T at *
  generalize (partP C.a C.b C.c C.d 2 c) = P at *
  subst hT
  have hu1 : ((u : Int) != 1) = true := by simp; omega
  clear hH hL hr hc h1
  obtain ⟨a0, a1, a2, a3, a4, a5, a6, a7, a8, af⟩ := HC0.out.cells
  dsimp only at a0 a1 a2 a3 a4 a5 a6 a7 a8
  go_enter Tryz.func28, Tryz.ntmps28
  go_wp2_with fail
  refine (HA.out _ HC0.out.hand).mono ?_
  rintro e V1 ⟨rfl, hb⟩
  have HC1 := Lib.hid (HC0.out.below hb)
  clear HC0
  clear hb
  clear HA a0 a1 a2 a3 a4 a5 a6 a7 a8 af
  obtain ⟨a0, a1, a2, a3, a4, a5, a6, a7, a8, af⟩ := HC1.out.cells
  dsimp only at a0 a1 a2 a3 a4 a5 a6 a7 a8
  go_wp2_with fail
  refine (HD.out _ HC1.out.hand HC1.out.ltR).mono ?_
  rintro e V2 ⟨rfl, hF, hs⟩
  have HC2 := Lib.hid (HC1.out.handed hF hs)
  clear HC1 hF hs
  clear HD a0 a1 a2 a3 a4 a5 a6 a7 a8 af
  obtain ⟨a0, a1, a2, a3, a4, a5, a6, a7, a8, af⟩ := HC2.out.cells
  dsimp only at a0 a1 a2 a3 a4 a5 a6 a7 a8
  go_wp2_with fail
  refine (HNx.out _ _ HC2.out.hand HC2.out.ltR).mono ?_
  rintro e V3 ⟨rfl, hF, hs⟩
  have HC3 := Lib.hid (HC2.out.handed hF hs)
  clear HC2 hF hs
  clear HNx a0 a1 a2 a3 a4 a5 a6 a7 a8 af
  obtain ⟨a0, a1, a2, a3, a4, a5, a6, a7, a8, af⟩ := HC3.out.cells
  dsimp only at a0 a1 a2 a3 a4 a5 a6 a7 a8
  clear a0 a1 a2 a3 a4 a5 a6 a7 a8 af
  have HCe := Lib.hid HC3.out
  obtain ⟨d0, d1, d2, d3, d4, d5, d6, d7, d8, df⟩ := HCe.out.cells
  dsimp only at d0 d1 d2 d3 d4 d5 d6 d7 d8
  obtain ⟨c0, c1, c2, c3, c4, c5, c6, c7, c8, cf⟩ := HCe.out.cellsY
  obtain ⟨s0, s1, s2, s3, s4, s5, s6, s7, s8, sf⟩ := (HCe.out.last ⟨y.l, y.j, y.c, y.m, y.a, y.p, y.fd, y.tl, y.cy⟩).cells
  dsimp only at s0 s1 s2 s3 s4 s5 s6 s7 s8
  clear HC3 
  go_wp2_with fail
  refine bodyPost_ret (v := .tuple #[(colV y.l y.j y.c y.m y.a y.p y.fd y.tl y.cy), .bool true]) (by simp [results, Tryz.f28, go_sem, s0, s1, s2, s3, s4, s5, s6, s7, s8]) rfl ?_
  exact ⟨rfl, HCe.out.fin ⟨y.l, y.j, y.c, y.m, y.a, y.p, y.fd, y.tl, y.cy⟩⟩
set_option maxHeartbeats 3200000 in
theorem rpStep_9 {w : World} {X : Nat} {va : Option Addr} {cap N : Nat} {C : Cf} {s : Dy} (hH : RAt w X va cap N C s) (hL : ∀ R, va = some ⟨R, 0, none⟩ → R < w.heap.size) (hr : Right C.a C.b C.c C.d) (j c m a p : Int) (fd : Bool) (tl cy : Int) (hc : -1000000000000 ≤ c ∧ c ≤ 1000000000000) :
    Calls Tryz.prog 28 #[.pointer (some ⟨X, 0, none⟩), (colV 9 j c m a p fd tl cy)] w (RP w X va cap N C (s.act C 2 (partP C.a C.b C.c C.d 2 c) 2 0) (.tuple #[(nextCell C ⟨9, j, c, m, 0, p, true, tl, cy⟩).v, .bool true])) := by
  have HC0 := Lib.hid (ColR.start hH hL ⟨9, j, c, m, a, p, fd, tl, cy⟩)
  have HA : Hid (∀ W, RAt W X va cap N C s → Calls Tryz.prog 54 #[.pointer (some ⟨X, 0, none⟩), .int .i64 6, .int .i64 c] W fun e w' => e = .returned (.int .i64 (partP C.a C.b C.c C.d 2 c)) ∧ Below W.heap.size W w') := Lib.hid (fun W hW => rat_2 (w := W) hW hr c)
  have HD : Hid (∀ W, RAt W X va cap N C s → (∀ R, va = some ⟨R, 0, none⟩ → R < W.heap.size) → Calls Tryz.prog 53 #[.pointer (some ⟨X, 0, none⟩), .int .i64 (partP C.a C.b C.c C.d 2 c), .int .u64 2] W (RP W X va cap N C (s.act C 2 (partP C.a C.b C.c C.d 2 c) 2 0) (.tuple #[]))) := Lib.hid (fun W hW hl => rStore_c (w := W) hW hl (partP C.a C.b C.c C.d 2 c) 2)
  have HNx0 : ∀ W s1, RAt W X va cap N C s1 → (∀ R, va = some ⟨R, 0, none⟩ → R < W.heap.size) → Calls Tryz.prog 55 #[.pointer (some ⟨X, 0, none⟩), (colV 9 j c m 0 p true tl cy)] W (RP W X va cap N C s1 (nextCell C ⟨9, j, c, m, 0, p, true, tl, cy⟩).v) := fun W s1 hW hl => rpnext_c (w := W) hW hl hr 9 j c m 0 p true tl cy hc
  obtain ⟨y, hy⟩ : ∃ y, nextCell C ⟨9, j, c, m, 0, p, true, tl, cy⟩ = y := ⟨_, rfl⟩
  have HNx := Lib.hid HNx0
  clear HNx0
  rw [hy] at HNx ⊢
  clear hy
  generalize (s.act C 2 (partP C.a C.b C.c C.d 2 c) 2 0) = s' at *
  generalize (partP C.a C.b C.c C.d 2 c) = P at *
  clear hH hL hr hc
  obtain ⟨a0, a1, a2, a3, a4, a5, a6, a7, a8, af⟩ := HC0.out.cells
  dsimp only at a0 a1 a2 a3 a4 a5 a6 a7 a8
  go_enter Tryz.func28, Tryz.ntmps28
  go_wp2_with fail
  refine (HA.out _ HC0.out.hand).mono ?_
  rintro e V1 ⟨rfl, hb⟩
  have HC1 := Lib.hid (HC0.out.below hb)
  clear HC0
  clear hb
  clear HA a0 a1 a2 a3 a4 a5 a6 a7 a8 af
  obtain ⟨a0, a1, a2, a3, a4, a5, a6, a7, a8, af⟩ := HC1.out.cells
  dsimp only at a0 a1 a2 a3 a4 a5 a6 a7 a8
  go_wp2_with fail
  refine (HD.out _ HC1.out.hand HC1.out.ltR).mono ?_
  rintro e V2 ⟨rfl, hF, hs⟩
  have HC2 := Lib.hid (HC1.out.handed hF hs)
  clear HC1 hF hs
  clear HD a0 a1 a2 a3 a4 a5 a6 a7 a8 af
  obtain ⟨a0, a1, a2, a3, a4, a5, a6, a7, a8, af⟩ := HC2.out.cells
  dsimp only at a0 a1 a2 a3 a4 a5 a6 a7 a8
  go_wp2_with fail
  have HC3 := Lib.hid ((HC2.out.setA 0).setFD true)
  clear HC2 a0 a1 a2 a3 a4 a5 a6 a7 a8 af
  obtain ⟨a0, a1, a2, a3, a4, a5, a6, a7, a8, af⟩ := HC3.out.cells
  dsimp only at a0 a1 a2 a3 a4 a5 a6 a7 a8
  refine (HNx.out _ _ HC3.out.hand HC3.out.ltR).mono ?_
  rintro e V3 ⟨rfl, hF, hs⟩
  have HC4 := Lib.hid (HC3.out.handed hF hs)
  clear HC3 hF hs
  clear HNx a0 a1 a2 a3 a4 a5 a6 a7 a8 af
  obtain ⟨a0, a1, a2, a3, a4, a5, a6, a7, a8, af⟩ := HC4.out.cells
  dsimp only at a0 a1 a2 a3 a4 a5 a6 a7 a8
  clear a0 a1 a2 a3 a4 a5 a6 a7 a8 af
  have HCe := Lib.hid HC4.out
  obtain ⟨d0, d1, d2, d3, d4, d5, d6, d7, d8, df⟩ := HCe.out.cells
  dsimp only at d0 d1 d2 d3 d4 d5 d6 d7 d8
  obtain ⟨c0, c1, c2, c3, c4, c5, c6, c7, c8, cf⟩ := HCe.out.cellsY
  obtain ⟨s0, s1, s2, s3, s4, s5, s6, s7, s8, sf⟩ := (HCe.out.last ⟨y.l, y.j, y.c, y.m, y.a, y.p, y.fd, y.tl, y.cy⟩).cells
  dsimp only at s0 s1 s2 s3 s4 s5 s6 s7 s8
  clear HC4 
  go_wp2_with fail
  refine bodyPost_ret (v := .tuple #[(colV y.l y.j y.c y.m y.a y.p y.fd y.tl y.cy), .bool true]) (by simp [results, Tryz.f28, go_sem, s0, s1, s2, s3, s4, s5, s6, s7, s8]) rfl ?_
  exact ⟨rfl, HCe.out.fin ⟨y.l, y.j, y.c, y.m, y.a, y.p, y.fd, y.tl, y.cy⟩⟩
set_option maxHeartbeats 3200000 in
theorem rpStep_other {w : World} {X : Nat} {va : Option Addr} {cap N : Nat} {C : Cf} {s : Dy} (hH : RAt w X va cap N C s) (_ : ∀ R, va = some ⟨R, 0, none⟩ → R < w.heap.size) (_ : Right C.a C.b C.c C.d) (l j c m a p : Int) (fd : Bool) (tl cy : Int) (g3 : ¬ l = 3) (g4 : ¬ l = 4) (g5 : ¬ l = 5) (g6 : ¬ l = 6) (g7 : ¬ l = 7) (g8 : ¬ l = 8) (g9 : ¬ l = 9) :
    Calls Tryz.prog 28 #[.pointer (some ⟨X, 0, none⟩), (colV l j c m a p fd tl cy)] w (RP w X va cap N C s (.tuple #[(colV l j c m a p fd tl cy), .bool false])) := by
  have HF := Lib.hid hH
  have e3 : (l == 3) = false := by simpa using g3
  have e4 : (l == 4) = false := by simpa using g4
  have e5 : (l == 5) = false := by simpa using g5
  have e6 : (l == 6) = false := by simpa using g6
  have e7 : (l == 7) = false := by simpa using g7
  have e8 : (l == 8) = false := by simpa using g8
  have e9 : (l == 9) = false := by simpa using g9
  clear hH g3 g4 g5 g6 g7 g8 g9
  go_enter Tryz.func28, Tryz.ntmps28
  go_wp2_with fail
  refine bodyPost_ret (v := .tuple #[(colV l j c m a p fd tl cy), .bool false]) (by simp [results, Tryz.f28, go_sem]) rfl ?_
  refine ⟨rfl, HF.out.below (below_on (below_new _ _) _), Sav.of (below_on (below_new _ _) _)⟩
end Go.Proofs.YthdcapkchjamoaaGreatDoor
