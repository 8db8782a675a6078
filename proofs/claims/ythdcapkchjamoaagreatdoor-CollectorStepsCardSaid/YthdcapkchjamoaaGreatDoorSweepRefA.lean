/- A step of the document's layer 18: lines 20, 21, 22 and any other. -/
import Derived.Test.YthdcapkchjamoaaGreatDoorSweepRefN
namespace Go.Proofs.YthdcapkchjamoaaGreatDoor
open Go Go.RowKit
set_option maxRecDepth 100000
attribute [local go_sem ↓] Go.wp_at_zero Go.wp_at_succ

set_option maxHeartbeats 3200000 in
theorem rs20_white {w : World} {X : Nat} {va : Option Addr} {cap N : Nat} {C : Cf} {s : Dy} (hH : RAt w X va cap N C s) (hL : ∀ R, va = some ⟨R, 0, none⟩ → R < w.heap.size) (hr : Right C.a C.b C.c C.d) (j c m a p : Int) (fd : Bool) (tl cy : Int) (T : Int) (hT : z5 C.n 1 (partP C.a C.b C.c C.d 2 c) (s.f (partP C.a C.b C.c C.d 2 c).toNat) = T) (h0 : T = 0) :
    Calls Tryz.prog 30 #[.pointer (some ⟨X, 0, none⟩), (colV 20 j c m a p fd tl cy)] w (RP w X va cap N C (s.act C 1 (partP C.a C.b C.c C.d 2 c) 0 0) (.tuple #[(colV 21 j c m a p fd tl cy), .int .i64 0, .bool true])) := by
  have HC0 := Lib.hid (ColR.start hH hL ⟨20, j, c, m, a, p, fd, tl, cy⟩)
  have HA : Hid (∀ W, RAt W X va cap N C s → Calls Tryz.prog 57 #[.pointer (some ⟨X, 0, none⟩), .int .i64 6, .int .i64 c] W fun e w' => e = .returned (.int .i64 (partP C.a C.b C.c C.d 2 c)) ∧ Below W.heap.size W w') := Lib.hid (fun W hW => srat_2 (w := W) hW hr c)
  have HD : Hid (∀ W, RAt W X va cap N C s → (∀ R, va = some ⟨R, 0, none⟩ → R < W.heap.size) → Calls Tryz.prog 48 #[.pointer (some ⟨X, 0, none⟩), .int .i64 (partP C.a C.b C.c C.d 2 c)] W (RP W X va cap N C (s.act C 1 (partP C.a C.b C.c C.d 2 c) 0 0) (.int .u64 (z5 C.n 1 (partP C.a C.b C.c C.d 2 c) (s.f ((partP C.a C.b C.c C.d 2 c)).toNat))))) := Lib.hid (fun W hW hl => rLoad_c (w := W) hW hl (partP C.a C.b C.c C.d 2 c))
  generalize (s.act C 1 (partP C.a C.b C.c C.d 2 c) 0 0) = s' at *
  generalize (z5 C.n 1 (partP C.a C.b C.c C.d 2 c) (s.f ((partP C.a C.b C.c C.d 2 c)).toNat)) = T at *
  generalize (partP C.a C.b C.c C.d 2 c) = P at *
  subst h0
  clear hH hL hr 
  obtain ⟨a0, a1, a2, a3, a4, a5, a6, a7, a8, af⟩ := HC0.out.cells
  dsimp only at a0 a1 a2 a3 a4 a5 a6 a7 a8
  go_enter Tryz.func30, Tryz.ntmps30
  go_wp2_with fail
  refine (HA.out _ HC0.out.hand).mono ?_
  rintro e V1 ⟨rfl, hb⟩
  have HC1 := Lib.hid (HC0.out.below hb)
  clear HC0
  clear hb
  clear HA a0 a1 a2 a3 a4 a5 a6 a7 a8 af
  obtain ⟨a0, a1, a2, a3, a4, a5, a6, a7, a8, af⟩ := HC1.out.cells
  dsimp only at a0 a1 a2 a3 a4 a5 a6 a7 a8
  go_wp2_with fail
  refine (HD.out _ HC1.out.hand HC1.out.ltR).mono ?_
  rintro e V2 ⟨rfl, hF, hs⟩
  have HC2 := Lib.hid (HC1.out.handed hF hs)
  clear HC1 hF hs
  clear HD a0 a1 a2 a3 a4 a5 a6 a7 a8 af
  obtain ⟨a0, a1, a2, a3, a4, a5, a6, a7, a8, af⟩ := HC2.out.cells
  dsimp only at a0 a1 a2 a3 a4 a5 a6 a7 a8
  clear a0 a1 a2 a3 a4 a5 a6 a7 a8 af
  have HCe := Lib.hid (HC2.out.setL 21)
  obtain ⟨b0, b1, b2, b3, b4, b5, b6, b7, b8, bf⟩ := HC2.out.cells
  dsimp only at b0 b1 b2 b3 b4 b5 b6 b7 b8
  obtain ⟨d0, d1, d2, d3, d4, d5, d6, d7, d8, df⟩ := HCe.out.cells
  dsimp only at d0 d1 d2 d3 d4 d5 d6 d7 d8
  obtain ⟨c0, c1, c2, c3, c4, c5, c6, c7, c8, cf⟩ := HCe.out.cellsY
  obtain ⟨s0, s1, s2, s3, s4, s5, s6, s7, s8, sf⟩ := (HCe.out.last ⟨21, j, c, m, a, p, fd, tl, cy⟩).cells
  dsimp only at s0 s1 s2 s3 s4 s5 s6 s7 s8
  clear HC2 
  go_wp2_with fail
  refine bodyPost_ret (v := .tuple #[(colV 21 j c m a p fd tl cy), .int .i64 0, .bool true]) (by simp [results, Tryz.f30, go_sem, s0, s1, s2, s3, s4, s5, s6, s7, s8]) rfl ?_
  exact ⟨rfl, HCe.out.fin ⟨21, j, c, m, a, p, fd, tl, cy⟩⟩
set_option maxHeartbeats 3200000 in
theorem rs20_black {w : World} {X : Nat} {va : Option Addr} {cap N : Nat} {C : Cf} {s : Dy} (hH : RAt w X va cap N C s) (hL : ∀ R, va = some ⟨R, 0, none⟩ → R < w.heap.size) (hr : Right C.a C.b C.c C.d) (j c m a p : Int) (fd : Bool) (tl cy : Int) (T : Int) (hT : z5 C.n 1 (partP C.a C.b C.c C.d 2 c) (s.f (partP C.a C.b C.c C.d 2 c).toNat) = T) (h0 : T = 2) :
    Calls Tryz.prog 30 #[.pointer (some ⟨X, 0, none⟩), (colV 20 j c m a p fd tl cy)] w (RP w X va cap N C (s.act C 1 (partP C.a C.b C.c C.d 2 c) 0 0) (.tuple #[(colV 24 j c m a p fd tl cy), .int .i64 0, .bool true])) := by
  have HC0 := Lib.hid (ColR.start hH hL ⟨20, j, c, m, a, p, fd, tl, cy⟩)
  have HA : Hid (∀ W, RAt W X va cap N C s → Calls Tryz.prog 57 #[.pointer (some ⟨X, 0, none⟩), .int .i64 6, .int .i64 c] W fun e w' => e = .returned (.int .i64 (partP C.a C.b C.c C.d 2 c)) ∧ Below W.heap.size W w') := Lib.hid (fun W hW => srat_2 (w := W) hW hr c)
  have HD : Hid (∀ W, RAt W X va cap N C s → (∀ R, va = some ⟨R, 0, none⟩ → R < W.heap.size) → Calls Tryz.prog 48 #[.pointer (some ⟨X, 0, none⟩), .int .i64 (partP C.a C.b C.c C.d 2 c)] W (RP W X va cap N C (s.act C 1 (partP C.a C.b C.c C.d 2 c) 0 0) (.int .u64 (z5 C.n 1 (partP C.a C.b C.c C.d 2 c) (s.f ((partP C.a C.b C.c C.d 2 c)).toNat))))) := Lib.hid (fun W hW hl => rLoad_c (w := W) hW hl (partP C.a C.b C.c C.d 2 c))
  generalize (s.act C 1 (partP C.a C.b C.c C.d 2 c) 0 0) = s' at *
  generalize (z5 C.n 1 (partP C.a C.b C.c C.d 2 c) (s.f ((partP C.a C.b C.c C.d 2 c)).toNat)) = T at *
  generalize (partP C.a C.b C.c C.d 2 c) = P at *
  subst h0
  have e0 : ((2 : Int) == 0) = false := rfl
  clear hH hL hr 
  obtain ⟨a0, a1, a2, a3, a4, a5, a6, a7, a8, af⟩ := HC0.out.cells
  dsimp only at a0 a1 a2 a3 a4 a5 a6 a7 a8
  go_enter Tryz.func30, Tryz.ntmps30
  go_wp2_with fail
  refine (HA.out _ HC0.out.hand).mono ?_
  rintro e V1 ⟨rfl, hb⟩
  have HC1 := Lib.hid (HC0.out.below hb)
  clear HC0
  clear hb
  clear HA a0 a1 a2 a3 a4 a5 a6 a7 a8 af
  obtain ⟨a0, a1, a2, a3, a4, a5, a6, a7, a8, af⟩ := HC1.out.cells
  dsimp only at a0 a1 a2 a3 a4 a5 a6 a7 a8
  go_wp2_with fail
  refine (HD.out _ HC1.out.hand HC1.out.ltR).mono ?_
  rintro e V2 ⟨rfl, hF, hs⟩
  have HC2 := Lib.hid (HC1.out.handed hF hs)
  clear HC1 hF hs
  clear HD a0 a1 a2 a3 a4 a5 a6 a7 a8 af
  obtain ⟨a0, a1, a2, a3, a4, a5, a6, a7, a8, af⟩ := HC2.out.cells
  dsimp only at a0 a1 a2 a3 a4 a5 a6 a7 a8
  clear a0 a1 a2 a3 a4 a5 a6 a7 a8 af
  have HCe := Lib.hid (HC2.out.setL 24)
  obtain ⟨b0, b1, b2, b3, b4, b5, b6, b7, b8, bf⟩ := HC2.out.cells
  dsimp only at b0 b1 b2 b3 b4 b5 b6 b7 b8
  obtain ⟨d0, d1, d2, d3, d4, d5, d6, d7, d8, df⟩ := HCe.out.cells
  dsimp only at d0 d1 d2 d3 d4 d5 d6 d7 d8
  obtain ⟨c0, c1, c2, c3, c4, c5, c6, c7, c8, cf⟩ := HCe.out.cellsY
  obtain ⟨s0, s1, s2, s3, s4, s5, s6, s7, s8, sf⟩ := (HCe.out.last ⟨24, j, c, m, a, p, fd, tl, cy⟩).cells
  dsimp only at s0 s1 s2 s3 s4 s5 s6 s7 s8
  clear HC2 
  go_wp2_with fail
  refine bodyPost_ret (v := .tuple #[(colV 24 j c m a p fd tl cy), .int .i64 0, .bool true]) (by simp [results, Tryz.f30, go_sem, s0, s1, s2, s3, s4, s5, s6, s7, s8]) rfl ?_
  exact ⟨rfl, HCe.out.fin ⟨24, j, c, m, a, p, fd, tl, cy⟩⟩
set_option maxHeartbeats 3200000 in
theorem rs20_more {w : World} {X : Nat} {va : Option Addr} {cap N : Nat} {C : Cf} {s : Dy} (hH : RAt w X va cap N C s) (hL : ∀ R, va = some ⟨R, 0, none⟩ → R < w.heap.size) (hr : Right C.a C.b C.c C.d) (j c m a p : Int) (fd : Bool) (tl cy : Int) (hc : -1000000000000 ≤ c ∧ c ≤ 1000000000000) (_ : -1000000000000 ≤ cy ∧ cy ≤ 1000000000000) (hm : c + 1 < C.a) (T : Int) (hT : z5 C.n 1 (partP C.a C.b C.c C.d 2 c) (s.f (partP C.a C.b C.c C.d 2 c).toNat) = T) (h0 : ¬ T = 0) (h2 : ¬ T = 2) :
    Calls Tryz.prog 30 #[.pointer (some ⟨X, 0, none⟩), (colV 20 j c m a p fd tl cy)] w (RP w X va cap N C (s.act C 1 (partP C.a C.b C.c C.d 2 c) 0 0) (.tuple #[(colV 20 j (c + 1) m a p fd tl cy), .int .i64 0, .bool true])) := by
  have HC0 := Lib.hid (ColR.start hH hL ⟨20, j, c, m, a, p, fd, tl, cy⟩)
  have HA : Hid (∀ W, RAt W X va cap N C s → Calls Tryz.prog 57 #[.pointer (some ⟨X, 0, none⟩), .int .i64 6, .int .i64 c] W fun e w' => e = .returned (.int .i64 (partP C.a C.b C.c C.d 2 c)) ∧ Below W.heap.size W w') := Lib.hid (fun W hW => srat_2 (w := W) hW hr c)
  have HD : Hid (∀ W, RAt W X va cap N C s → (∀ R, va = some ⟨R, 0, none⟩ → R < W.heap.size) → Calls Tryz.prog 48 #[.pointer (some ⟨X, 0, none⟩), .int .i64 (partP C.a C.b C.c C.d 2 c)] W (RP W X va cap N C (s.act C 1 (partP C.a C.b C.c C.d 2 c) 0 0) (.int .u64 (z5 C.n 1 (partP C.a C.b C.c C.d 2 c) (s.f ((partP C.a C.b C.c C.d 2 c)).toNat))))) := Lib.hid (fun W hW hl => rLoad_c (w := W) hW hl (partP C.a C.b C.c C.d 2 c))
  generalize (s.act C 1 (partP C.a C.b C.c C.d 2 c) 0 0) = s' at *
  generalize (z5 C.n 1 (partP C.a C.b C.c C.d 2 c) (s.f ((partP C.a C.b C.c C.d 2 c)).toNat)) = T at *
  generalize (partP C.a C.b C.c C.d 2 c) = P at *
  subst hT
  have e0 : (T == 0) = false := by simpa using h0
  have e2 : (T == 2) = false := by simpa using h2
  have hw1 : IntKind.i64.wrap (c + 1) = c + 1 := IntWalk.i64_in _ (by omega)
  have hd : decide (c + 1 < C.a) = true := decide_eq_true hm
  clear hH hL hr hc hm h0 h2
  obtain ⟨a0, a1, a2, a3, a4, a5, a6, a7, a8, af⟩ := HC0.out.cells
  dsimp only at a0 a1 a2 a3 a4 a5 a6 a7 a8
  go_enter Tryz.func30, Tryz.ntmps30
  go_wp2_with fail
  refine (HA.out _ HC0.out.hand).mono ?_
  rintro e V1 ⟨rfl, hb⟩
  have HC1 := Lib.hid (HC0.out.below hb)
  clear HC0
  clear hb
  clear HA a0 a1 a2 a3 a4 a5 a6 a7 a8 af
  obtain ⟨a0, a1, a2, a3, a4, a5, a6, a7, a8, af⟩ := HC1.out.cells
  dsimp only at a0 a1 a2 a3 a4 a5 a6 a7 a8
  go_wp2_with fail
  refine (HD.out _ HC1.out.hand HC1.out.ltR).mono ?_
  rintro e V2 ⟨rfl, hF, hs⟩
  have HC2 := Lib.hid (HC1.out.handed hF hs)
  clear HC1 hF hs
  clear HD a0 a1 a2 a3 a4 a5 a6 a7 a8 af
  obtain ⟨a0, a1, a2, a3, a4, a5, a6, a7, a8, af⟩ := HC2.out.cells
  dsimp only at a0 a1 a2 a3 a4 a5 a6 a7 a8
  go_wp2_with fail
  have HC3 := Lib.hid (HC2.out.setC (c + 1))
  clear HC2 a0 a1 a2 a3 a4 a5 a6 a7 a8 af
  obtain ⟨a0, a1, a2, a3, a4, a5, a6, a7, a8, af⟩ := HC3.out.cells
  dsimp only at a0 a1 a2 a3 a4 a5 a6 a7 a8
  obtain ⟨_, ⟨h1, h2, h3, h4⟩, _⟩ := HC3.out.hand.cells
  generalize V2.setCell ⟨w.heap.size, 2, none⟩ (.int .i64 (c + 1)) = W8 at *
  refine wp_region_held_drew (S := (fun w' => w'.cell? ⟨X, 0, none⟩ = some (.int .i64 C.a) ∧ w'.cell? ⟨w.heap.size, 2, none⟩ = some (.int .i64 (c + 1)))) (by kernel_rfl) ?_ (fun hHeld => ?_)
  · exact ⟨h1, a2⟩
  refine wpAnyH_take (i := 0) (oi := { dst := some 74, op := Op.fieldAddr 28 (Operand.tmp 3) 2, type := 0, pos := "ref.go:48", after := #[], guard := none }) (v := ?vz0) rfl (by kernel_rfl) (by kernel_rfl) (by kernel_rfl) (fun _ _ _ h => h) (Or.inl ⟨by rfl, ?hyz0⟩) hHeld ?_
  case hyz0 => (intro w hSw; (try dsimp only at hSw); go_simp; (try with_reducible rfl))
  try simp only [Act.put, List.setIfInBounds_toArray, List.set_cons_zero, List.set_cons_succ]
  refine wpAnyH_take (i := 1) (oi := { dst := some 75, op := Op.load 3 (Operand.tmp 74), type := 3, pos := "ref.go:48", after := #[{ on := 0, ground := Ground.data }], guard := none }) (v := ?vz1) rfl (by kernel_rfl) (by kernel_rfl) (by kernel_rfl) (fun _ _ _ h => h) (Or.inl ⟨by rfl, ?hyz1⟩) hHeld ?_
  case hyz1 => (intro w hSw; (try dsimp only at hSw); go_simp; (try with_reducible rfl))
  try simp only [Act.put, List.setIfInBounds_toArray, List.set_cons_zero, List.set_cons_succ]
  refine wpAnyH_take (i := 2) (oi := { dst := some 76, op := Op.move (Operand.tmp 0), type := 33, pos := "ref.go:48", after := #[], guard := none }) (v := ?vz2) rfl (by kernel_rfl) (by kernel_rfl) (by kernel_rfl) (fun _ _ _ h => h) (Or.inl ⟨by rfl, ?hyz2⟩) hHeld ?_
  case hyz2 => (intro w hSw; (try dsimp only at hSw); go_simp; (try with_reducible rfl))
  try simp only [Act.put, List.setIfInBounds_toArray, List.set_cons_zero, List.set_cons_succ]
  refine wpAnyH_take (i := 3) (oi := { dst := some 77, op := Op.nilCheck (Operand.tmp 76), type := 0, pos := "ref.go:48", after := #[{ on := 2, ground := Ground.data }], guard := none }) (v := ?vz3) rfl (by kernel_rfl) (by kernel_rfl) (by kernel_rfl) (fun _ _ _ h => h) (Or.inl ⟨by rfl, ?hyz3⟩) hHeld ?_
  case hyz3 => (intro w hSw; (try dsimp only at hSw); go_simp; (try with_reducible rfl))
  try simp only [Act.put, List.setIfInBounds_toArray, List.set_cons_zero, List.set_cons_succ]
  refine wpAnyH_take (i := 4) (oi := { dst := some 78, op := Op.fieldAddr 59 (Operand.tmp 77) 0, type := 0, pos := "ref.go:48", after := #[{ on := 3, ground := Ground.data }], guard := none }) (v := ?vz4) rfl (by kernel_rfl) (by kernel_rfl) (by kernel_rfl) (fun _ _ _ h => h) (Or.inl ⟨by rfl, ?hyz4⟩) hHeld ?_
  case hyz4 => (intro w hSw; (try dsimp only at hSw); go_simp; (try with_reducible rfl))
  try simp only [Act.put, List.setIfInBounds_toArray, List.set_cons_zero, List.set_cons_succ]
  refine wpAnyH_take (i := 5) (oi := { dst := some 79, op := Op.fieldAddr 23 (Operand.tmp 78) 0, type := 0, pos := "ref.go:48", after := #[{ on := 4, ground := Ground.data }], guard := none }) (v := ?vz5) rfl (by kernel_rfl) (by kernel_rfl) (by kernel_rfl) (fun _ _ _ h => h) (Or.inl ⟨by rfl, ?hyz5⟩) hHeld ?_
  case hyz5 => (intro w hSw; (try dsimp only at hSw); go_simp; (try with_reducible rfl))
  try simp only [Act.put, List.setIfInBounds_toArray, List.set_cons_zero, List.set_cons_succ]
  refine wpAnyH_take (i := 6) (oi := { dst := some 80, op := Op.load 3 (Operand.tmp 79), type := 3, pos := "ref.go:48", after := #[{ on := 5, ground := Ground.data }], guard := none }) (v := ?vz6) rfl (by kernel_rfl) (by kernel_rfl) (by kernel_rfl) (fun _ _ _ h => h) (Or.inl ⟨by rfl, ?hyz6⟩) hHeld ?_
  case hyz6 => (intro w hSw; (try dsimp only at hSw); go_simp; (try with_reducible rfl))
  try simp only [Act.put, List.setIfInBounds_toArray, List.set_cons_zero, List.set_cons_succ]
  refine wpAnyH_take (i := 7) (oi := { dst := some 81, op := Op.binOp BinOp.lss 3 (Operand.tmp 75) (Operand.tmp 80) 3, type := 4, pos := "ref.go:48", after := #[{ on := 1, ground := Ground.data }, { on := 6, ground := Ground.data }], guard := none }) (v := ?vz7) rfl (by kernel_rfl) (by kernel_rfl) (by kernel_rfl) (fun _ _ _ h => h) (Or.inl ⟨by rfl, ?hyz7⟩) hHeld ?_
  case hyz7 => (intro w hSw; (try dsimp only at hSw); go_simp; (try with_reducible rfl))
  try simp only [Act.put, List.setIfInBounds_toArray, List.set_cons_zero, List.set_cons_succ]
  refine wpAnyH_done (by kernel_rfl) ?_ _
  have HC4 := Lib.hid HC3.out.drew
  clear hHeld h1 h2 h3 h4 HC3 a0 a1 a2 a3 a4 a5 a6 a7 a8 af
  generalize W8.drew = W9 at *
  obtain ⟨a0, a1, a2, a3, a4, a5, a6, a7, a8, af⟩ := HC4.out.cells
  dsimp only at a0 a1 a2 a3 a4 a5 a6 a7 a8
  clear a0 a1 a2 a3 a4 a5 a6 a7 a8 af
  have HCe := Lib.hid (HC4.out.setL 20)
  obtain ⟨b0, b1, b2, b3, b4, b5, b6, b7, b8, bf⟩ := HC4.out.cells
  dsimp only at b0 b1 b2 b3 b4 b5 b6 b7 b8
  obtain ⟨d0, d1, d2, d3, d4, d5, d6, d7, d8, df⟩ := HCe.out.cells
  dsimp only at d0 d1 d2 d3 d4 d5 d6 d7 d8
  obtain ⟨c0, c1, c2, c3, c4, c5, c6, c7, c8, cf⟩ := HCe.out.cellsY
  obtain ⟨s0, s1, s2, s3, s4, s5, s6, s7, s8, sf⟩ := (HCe.out.last ⟨20, j, (c + 1), m, a, p, fd, tl, cy⟩).cells
  dsimp only at s0 s1 s2 s3 s4 s5 s6 s7 s8
  clear HC4 
  go_wp2_with fail
  refine bodyPost_ret (v := .tuple #[(colV 20 j (c + 1) m a p fd tl cy), .int .i64 0, .bool true]) (by simp [results, Tryz.f30, go_sem, s0, s1, s2, s3, s4, s5, s6, s7, s8]) rfl ?_
  exact ⟨rfl, HCe.out.fin ⟨20, j, (c + 1), m, a, p, fd, tl, cy⟩⟩
set_option maxHeartbeats 3200000 in
theorem rs20_over {w : World} {X : Nat} {va : Option Addr} {cap N : Nat} {C : Cf} {s : Dy} (hH : RAt w X va cap N C s) (hL : ∀ R, va = some ⟨R, 0, none⟩ → R < w.heap.size) (hr : Right C.a C.b C.c C.d) (j c m a p : Int) (fd : Bool) (tl cy : Int) (hc : -1000000000000 ≤ c ∧ c ≤ 1000000000000) (hy : -1000000000000 ≤ cy ∧ cy ≤ 1000000000000) (hm : ¬ c + 1 < C.a) (T : Int) (hT : z5 C.n 1 (partP C.a C.b C.c C.d 2 c) (s.f (partP C.a C.b C.c C.d 2 c).toNat) = T) (h0 : ¬ T = 0) (h2 : ¬ T = 2) :
    Calls Tryz.prog 30 #[.pointer (some ⟨X, 0, none⟩), (colV 20 j c m a p fd tl cy)] w (RP w X va cap N C (s.act C 1 (partP C.a C.b C.c C.d 2 c) 0 0) (.tuple #[(colV 1 0 (c + 1) m a 0 fd tl (cy + 1)), .int .i64 3, .bool true])) := by
  have HC0 := Lib.hid (ColR.start hH hL ⟨20, j, c, m, a, p, fd, tl, cy⟩)
  have HA : Hid (∀ W, RAt W X va cap N C s → Calls Tryz.prog 57 #[.pointer (some ⟨X, 0, none⟩), .int .i64 6, .int .i64 c] W fun e w' => e = .returned (.int .i64 (partP C.a C.b C.c C.d 2 c)) ∧ Below W.heap.size W w') := Lib.hid (fun W hW => srat_2 (w := W) hW hr c)
  have HD : Hid (∀ W, RAt W X va cap N C s → (∀ R, va = some ⟨R, 0, none⟩ → R < W.heap.size) → Calls Tryz.prog 48 #[.pointer (some ⟨X, 0, none⟩), .int .i64 (partP C.a C.b C.c C.d 2 c)] W (RP W X va cap N C (s.act C 1 (partP C.a C.b C.c C.d 2 c) 0 0) (.int .u64 (z5 C.n 1 (partP C.a C.b C.c C.d 2 c) (s.f ((partP C.a C.b C.c C.d 2 c)).toNat))))) := Lib.hid (fun W hW hl => rLoad_c (w := W) hW hl (partP C.a C.b C.c C.d 2 c))
  generalize (s.act C 1 (partP C.a C.b C.c C.d 2 c) 0 0) = s' at *
  generalize (z5 C.n 1 (partP C.a C.b C.c C.d 2 c) (s.f ((partP C.a C.b C.c C.d 2 c)).toNat)) = T at *
  generalize (partP C.a C.b C.c C.d 2 c) = P at *
  subst hT
  have e0 : (T == 0) = false := by simpa using h0
  have e2 : (T == 2) = false := by simpa using h2
  have hw1 : IntKind.i64.wrap (c + 1) = c + 1 := IntWalk.i64_in _ (by omega)
  have hd : decide (c + 1 < C.a) = false := decide_eq_false hm
  have hw2 : IntKind.i64.wrap (cy + 1) = cy + 1 := IntWalk.i64_in _ (by omega)
  clear hH hL hr hc hy hm h0 h2
  obtain ⟨a0, a1, a2, a3, a4, a5, a6, a7, a8, af⟩ := HC0.out.cells
  dsimp only at a0 a1 a2 a3 a4 a5 a6 a7 a8
  go_enter Tryz.func30, Tryz.ntmps30
  go_wp2_with fail
  refine (HA.out _ HC0.out.hand).mono ?_
  rintro e V1 ⟨rfl, hb⟩
  have HC1 := Lib.hid (HC0.out.below hb)
  clear HC0
  clear hb
  clear HA a0 a1 a2 a3 a4 a5 a6 a7 a8 af
  obtain ⟨a0, a1, a2, a3, a4, a5, a6, a7, a8, af⟩ := HC1.out.cells
  dsimp only at a0 a1 a2 a3 a4 a5 a6 a7 a8
  go_wp2_with fail
  refine (HD.out _ HC1.out.hand HC1.out.ltR).mono ?_
  rintro e V2 ⟨rfl, hF, hs⟩
  have HC2 := Lib.hid (HC1.out.handed hF hs)
  clear HC1 hF hs
  clear HD a0 a1 a2 a3 a4 a5 a6 a7 a8 af
  obtain ⟨a0, a1, a2, a3, a4, a5, a6, a7, a8, af⟩ := HC2.out.cells
  dsimp only at a0 a1 a2 a3 a4 a5 a6 a7 a8
  go_wp2_with fail
  have HC3 := Lib.hid (HC2.out.setC (c + 1))
  clear HC2 a0 a1 a2 a3 a4 a5 a6 a7 a8 af
  obtain ⟨a0, a1, a2, a3, a4, a5, a6, a7, a8, af⟩ := HC3.out.cells
  dsimp only at a0 a1 a2 a3 a4 a5 a6 a7 a8
  obtain ⟨_, ⟨h1, h2, h3, h4⟩, _⟩ := HC3.out.hand.cells
  generalize V2.setCell ⟨w.heap.size, 2, none⟩ (.int .i64 (c + 1)) = W8 at *
  refine wp_region_held_drew (S := (fun w' => w'.cell? ⟨X, 0, none⟩ = some (.int .i64 C.a) ∧ w'.cell? ⟨w.heap.size, 2, none⟩ = some (.int .i64 (c + 1)))) (by kernel_rfl) ?_ (fun hHeld => ?_)
  · exact ⟨h1, a2⟩
  refine wpAnyH_take (i := 0) (oi := { dst := some 74, op := Op.fieldAddr 28 (Operand.tmp 3) 2, type := 0, pos := "ref.go:48", after := #[], guard := none }) (v := ?vz0) rfl (by kernel_rfl) (by kernel_rfl) (by kernel_rfl) (fun _ _ _ h => h) (Or.inl ⟨by rfl, ?hyz0⟩) hHeld ?_
  case hyz0 => (intro w hSw; (try dsimp only at hSw); go_simp; (try with_reducible rfl))
  try simp only [Act.put, List.setIfInBounds_toArray, List.set_cons_zero, List.set_cons_succ]
  refine wpAnyH_take (i := 1) (oi := { dst := some 75, op := Op.load 3 (Operand.tmp 74), type := 3, pos := "ref.go:48", after := #[{ on := 0, ground := Ground.data }], guard := none }) (v := ?vz1) rfl (by kernel_rfl) (by kernel_rfl) (by kernel_rfl) (fun _ _ _ h => h) (Or.inl ⟨by rfl, ?hyz1⟩) hHeld ?_
  case hyz1 => (intro w hSw; (try dsimp only at hSw); go_simp; (try with_reducible rfl))
  try simp only [Act.put, List.setIfInBounds_toArray, List.set_cons_zero, List.set_cons_succ]
  refine wpAnyH_take (i := 2) (oi := { dst := some 76, op := Op.move (Operand.tmp 0), type := 33, pos := "ref.go:48", after := #[], guard := none }) (v := ?vz2) rfl (by kernel_rfl) (by kernel_rfl) (by kernel_rfl) (fun _ _ _ h => h) (Or.inl ⟨by rfl, ?hyz2⟩) hHeld ?_
  case hyz2 => (intro w hSw; (try dsimp only at hSw); go_simp; (try with_reducible rfl))
  try simp only [Act.put, List.setIfInBounds_toArray, List.set_cons_zero, List.set_cons_succ]
  refine wpAnyH_take (i := 3) (oi := { dst := some 77, op := Op.nilCheck (Operand.tmp 76), type := 0, pos := "ref.go:48", after := #[{ on := 2, ground := Ground.data }], guard := none }) (v := ?vz3) rfl (by kernel_rfl) (by kernel_rfl) (by kernel_rfl) (fun _ _ _ h => h) (Or.inl ⟨by rfl, ?hyz3⟩) hHeld ?_
  case hyz3 => (intro w hSw; (try dsimp only at hSw); go_simp; (try with_reducible rfl))
  try simp only [Act.put, List.setIfInBounds_toArray, List.set_cons_zero, List.set_cons_succ]
  refine wpAnyH_take (i := 4) (oi := { dst := some 78, op := Op.fieldAddr 59 (Operand.tmp 77) 0, type := 0, pos := "ref.go:48", after := #[{ on := 3, ground := Ground.data }], guard := none }) (v := ?vz4) rfl (by kernel_rfl) (by kernel_rfl) (by kernel_rfl) (fun _ _ _ h => h) (Or.inl ⟨by rfl, ?hyz4⟩) hHeld ?_
  case hyz4 => (intro w hSw; (try dsimp only at hSw); go_simp; (try with_reducible rfl))
  try simp only [Act.put, List.setIfInBounds_toArray, List.set_cons_zero, List.set_cons_succ]
  refine wpAnyH_take (i := 5) (oi := { dst := some 79, op := Op.fieldAddr 23 (Operand.tmp 78) 0, type := 0, pos := "ref.go:48", after := #[{ on := 4, ground := Ground.data }], guard := none }) (v := ?vz5) rfl (by kernel_rfl) (by kernel_rfl) (by kernel_rfl) (fun _ _ _ h => h) (Or.inl ⟨by rfl, ?hyz5⟩) hHeld ?_
  case hyz5 => (intro w hSw; (try dsimp only at hSw); go_simp; (try with_reducible rfl))
  try simp only [Act.put, List.setIfInBounds_toArray, List.set_cons_zero, List.set_cons_succ]
  refine wpAnyH_take (i := 6) (oi := { dst := some 80, op := Op.load 3 (Operand.tmp 79), type := 3, pos := "ref.go:48", after := #[{ on := 5, ground := Ground.data }], guard := none }) (v := ?vz6) rfl (by kernel_rfl) (by kernel_rfl) (by kernel_rfl) (fun _ _ _ h => h) (Or.inl ⟨by rfl, ?hyz6⟩) hHeld ?_
  case hyz6 => (intro w hSw; (try dsimp only at hSw); go_simp; (try with_reducible rfl))
  try simp only [Act.put, List.setIfInBounds_toArray, List.set_cons_zero, List.set_cons_succ]
  refine wpAnyH_take (i := 7) (oi := { dst := some 81, op := Op.binOp BinOp.lss 3 (Operand.tmp 75) (Operand.tmp 80) 3, type := 4, pos := "ref.go:48", after := #[{ on := 1, ground := Ground.data }, { on := 6, ground := Ground.data }], guard := none }) (v := ?vz7) rfl (by kernel_rfl) (by kernel_rfl) (by kernel_rfl) (fun _ _ _ h => h) (Or.inl ⟨by rfl, ?hyz7⟩) hHeld ?_
  case hyz7 => (intro w hSw; (try dsimp only at hSw); go_simp; (try with_reducible rfl))
  try simp only [Act.put, List.setIfInBounds_toArray, List.set_cons_zero, List.set_cons_succ]
  refine wpAnyH_done (by kernel_rfl) ?_ _
  have HC4 := Lib.hid HC3.out.drew
  clear hHeld h1 h2 h3 h4 HC3 a0 a1 a2 a3 a4 a5 a6 a7 a8 af
  generalize W8.drew = W9 at *
  obtain ⟨a0, a1, a2, a3, a4, a5, a6, a7, a8, af⟩ := HC4.out.cells
  dsimp only at a0 a1 a2 a3 a4 a5 a6 a7 a8
  clear a0 a1 a2 a3 a4 a5 a6 a7 a8 af
  have HCe := Lib.hid ((((HC4.out.setCY (cy + 1)).setL 1).setJ 0).setP 0)
  obtain ⟨b0, b1, b2, b3, b4, b5, b6, b7, b8, bf⟩ := HC4.out.cells
  dsimp only at b0 b1 b2 b3 b4 b5 b6 b7 b8
  obtain ⟨d0, d1, d2, d3, d4, d5, d6, d7, d8, df⟩ := HCe.out.cells
  dsimp only at d0 d1 d2 d3 d4 d5 d6 d7 d8
  obtain ⟨c0, c1, c2, c3, c4, c5, c6, c7, c8, cf⟩ := HCe.out.cellsY
  obtain ⟨s0, s1, s2, s3, s4, s5, s6, s7, s8, sf⟩ := (HCe.out.last ⟨1, 0, (c + 1), m, a, 0, fd, tl, (cy + 1)⟩).cells
  dsimp only at s0 s1 s2 s3 s4 s5 s6 s7 s8
  clear HC4 
  go_wp2_with fail
  refine bodyPost_ret (v := .tuple #[(colV 1 0 (c + 1) m a 0 fd tl (cy + 1)), .int .i64 3, .bool true]) (by simp [results, Tryz.f30, go_sem, s0, s1, s2, s3, s4, s5, s6, s7, s8]) rfl ?_
  exact ⟨rfl, HCe.out.fin ⟨1, 0, (c + 1), m, a, 0, fd, tl, (cy + 1)⟩⟩
set_option maxHeartbeats 3200000 in
theorem rs21 {w : World} {X : Nat} {va : Option Addr} {cap N : Nat} {C : Cf} {s : Dy} (hH : RAt w X va cap N C s) (hL : ∀ R, va = some ⟨R, 0, none⟩ → R < w.heap.size) (hr : Right C.a C.b C.c C.d)  (j c m a p : Int) (fd : Bool) (tl cy : Int) :
    Calls Tryz.prog 30 #[.pointer (some ⟨X, 0, none⟩), (colV 21 j c m a p fd tl cy)] w (RP w X va cap N C (s.act C 2 (partP C.a C.b C.c C.d 0 c) 0 0) (.tuple #[(colV 22 j c m a p fd tl cy), .int .i64 0, .bool true])) := by
  have HC0 := Lib.hid (ColR.start hH hL ⟨21, j, c, m, a, p, fd, tl, cy⟩)
  have HA : Hid (∀ W, RAt W X va cap N C s → Calls Tryz.prog 57 #[.pointer (some ⟨X, 0, none⟩), .int .i64 4, .int .i64 c] W fun e w' => e = .returned (.int .i64 (partP C.a C.b C.c C.d 0 c)) ∧ Below W.heap.size W w') := Lib.hid (fun W hW => srat_0 (w := W) hW hr c)
  have HD : Hid (∀ W, RAt W X va cap N C s → (∀ R, va = some ⟨R, 0, none⟩ → R < W.heap.size) → Calls Tryz.prog 53 #[.pointer (some ⟨X, 0, none⟩), .int .i64 (partP C.a C.b C.c C.d 0 c), .int .u64 0] W (RP W X va cap N C (s.act C 2 (partP C.a C.b C.c C.d 0 c) 0 0) (.tuple #[]))) := Lib.hid (fun W hW hl => rStore_c (w := W) hW hl (partP C.a C.b C.c C.d 0 c) 0)
  generalize (s.act C 2 (partP C.a C.b C.c C.d 0 c) 0 0) = s' at *
  generalize (partP C.a C.b C.c C.d 0 c) = P at *
  clear hH hL hr 
  obtain ⟨a0, a1, a2, a3, a4, a5, a6, a7, a8, af⟩ := HC0.out.cells
  dsimp only at a0 a1 a2 a3 a4 a5 a6 a7 a8
  go_enter Tryz.func30, Tryz.ntmps30
  go_wp2_with fail
  refine (HA.out _ HC0.out.hand).mono ?_
  rintro e V1 ⟨rfl, hb⟩
  have HC1 := Lib.hid (HC0.out.below hb)
  clear HC0
  clear hb
  clear HA a0 a1 a2 a3 a4 a5 a6 a7 a8 af
  obtain ⟨a0, a1, a2, a3, a4, a5, a6, a7, a8, af⟩ := HC1.out.cells
  dsimp only at a0 a1 a2 a3 a4 a5 a6 a7 a8
  go_wp2_with fail
  refine (HD.out _ HC1.out.hand HC1.out.ltR).mono ?_
  rintro e V2 ⟨rfl, hF, hs⟩
  have HC2 := Lib.hid (HC1.out.handed hF hs)
  clear HC1 hF hs
  clear HD a0 a1 a2 a3 a4 a5 a6 a7 a8 af
  obtain ⟨a0, a1, a2, a3, a4, a5, a6, a7, a8, af⟩ := HC2.out.cells
  dsimp only at a0 a1 a2 a3 a4 a5 a6 a7 a8
  clear a0 a1 a2 a3 a4 a5 a6 a7 a8 af
  have HCe := Lib.hid (HC2.out.setL 22)
  obtain ⟨b0, b1, b2, b3, b4, b5, b6, b7, b8, bf⟩ := HC2.out.cells
  dsimp only at b0 b1 b2 b3 b4 b5 b6 b7 b8
  obtain ⟨d0, d1, d2, d3, d4, d5, d6, d7, d8, df⟩ := HCe.out.cells
  dsimp only at d0 d1 d2 d3 d4 d5 d6 d7 d8
  obtain ⟨c0, c1, c2, c3, c4, c5, c6, c7, c8, cf⟩ := HCe.out.cellsY
  obtain ⟨s0, s1, s2, s3, s4, s5, s6, s7, s8, sf⟩ := (HCe.out.last ⟨22, j, c, m, a, p, fd, tl, cy⟩).cells
  dsimp only at s0 s1 s2 s3 s4 s5 s6 s7 s8
  clear HC2 
  go_wp2_with fail
  refine bodyPost_ret (v := .tuple #[(colV 22 j c m a p fd tl cy), .int .i64 0, .bool true]) (by simp [results, Tryz.f30, go_sem, s0, s1, s2, s3, s4, s5, s6, s7, s8]) rfl ?_
  exact ⟨rfl, HCe.out.fin ⟨22, j, c, m, a, p, fd, tl, cy⟩⟩
set_option maxHeartbeats 3200000 in
theorem rs22 {w : World} {X : Nat} {va : Option Addr} {cap N : Nat} {C : Cf} {s : Dy} (hH : RAt w X va cap N C s) (hL : ∀ R, va = some ⟨R, 0, none⟩ → R < w.heap.size) (hr : Right C.a C.b C.c C.d)  (j c m a p : Int) (fd : Bool) (tl cy : Int) :
    Calls Tryz.prog 30 #[.pointer (some ⟨X, 0, none⟩), (colV 22 j c m a p fd tl cy)] w (RP w X va cap N C (s.act C 2 (partP C.a C.b C.c C.d 1 c) 0 0) (.tuple #[(colV 23 j c m a p fd tl cy), .int .i64 0, .bool true])) := by
  have HC0 := Lib.hid (ColR.start hH hL ⟨22, j, c, m, a, p, fd, tl, cy⟩)
  have HA : Hid (∀ W, RAt W X va cap N C s → Calls Tryz.prog 57 #[.pointer (some ⟨X, 0, none⟩), .int .i64 5, .int .i64 c] W fun e w' => e = .returned (.int .i64 (partP C.a C.b C.c C.d 1 c)) ∧ Below W.heap.size W w') := Lib.hid (fun W hW => srat_1 (w := W) hW hr c)
  have HD : Hid (∀ W, RAt W X va cap N C s → (∀ R, va = some ⟨R, 0, none⟩ → R < W.heap.size) → Calls Tryz.prog 53 #[.pointer (some ⟨X, 0, none⟩), .int .i64 (partP C.a C.b C.c C.d 1 c), .int .u64 0] W (RP W X va cap N C (s.act C 2 (partP C.a C.b C.c C.d 1 c) 0 0) (.tuple #[]))) := Lib.hid (fun W hW hl => rStore_c (w := W) hW hl (partP C.a C.b C.c C.d 1 c) 0)
  generalize (s.act C 2 (partP C.a C.b C.c C.d 1 c) 0 0) = s' at *
  generalize (partP C.a C.b C.c C.d 1 c) = P at *
  clear hH hL hr 
  obtain ⟨a0, a1, a2, a3, a4, a5, a6, a7, a8, af⟩ := HC0.out.cells
  dsimp only at a0 a1 a2 a3 a4 a5 a6 a7 a8
  go_enter Tryz.func30, Tryz.ntmps30
  go_wp2_with fail
  refine (HA.out _ HC0.out.hand).mono ?_
  rintro e V1 ⟨rfl, hb⟩
  have HC1 := Lib.hid (HC0.out.below hb)
  clear HC0
  clear hb
  clear HA a0 a1 a2 a3 a4 a5 a6 a7 a8 af
  obtain ⟨a0, a1, a2, a3, a4, a5, a6, a7, a8, af⟩ := HC1.out.cells
  dsimp only at a0 a1 a2 a3 a4 a5 a6 a7 a8
  go_wp2_with fail
  refine (HD.out _ HC1.out.hand HC1.out.ltR).mono ?_
  rintro e V2 ⟨rfl, hF, hs⟩
  have HC2 := Lib.hid (HC1.out.handed hF hs)
  clear HC1 hF hs
  clear HD a0 a1 a2 a3 a4 a5 a6 a7 a8 af
  obtain ⟨a0, a1, a2, a3, a4, a5, a6, a7, a8, af⟩ := HC2.out.cells
  dsimp only at a0 a1 a2 a3 a4 a5 a6 a7 a8
  clear a0 a1 a2 a3 a4 a5 a6 a7 a8 af
  have HCe := Lib.hid (HC2.out.setL 23)
  obtain ⟨b0, b1, b2, b3, b4, b5, b6, b7, b8, bf⟩ := HC2.out.cells
  dsimp only at b0 b1 b2 b3 b4 b5 b6 b7 b8
  obtain ⟨d0, d1, d2, d3, d4, d5, d6, d7, d8, df⟩ := HCe.out.cells
  dsimp only at d0 d1 d2 d3 d4 d5 d6 d7 d8
  obtain ⟨c0, c1, c2, c3, c4, c5, c6, c7, c8, cf⟩ := HCe.out.cellsY
  obtain ⟨s0, s1, s2, s3, s4, s5, s6, s7, s8, sf⟩ := (HCe.out.last ⟨23, j, c, m, a, p, fd, tl, cy⟩).cells
  dsimp only at s0 s1 s2 s3 s4 s5 s6 s7 s8
  clear HC2 
  go_wp2_with fail
  refine bodyPost_ret (v := .tuple #[(colV 23 j c m a p fd tl cy), .int .i64 0, .bool true]) (by simp [results, Tryz.f30, go_sem, s0, s1, s2, s3, s4, s5, s6, s7, s8]) rfl ?_
  exact ⟨rfl, HCe.out.fin ⟨23, j, c, m, a, p, fd, tl, cy⟩⟩
set_option maxHeartbeats 3200000 in
theorem rs_other {w : World} {X : Nat} {va : Option Addr} {cap N : Nat} {C : Cf} {s : Dy} (hH : RAt w X va cap N C s) (_ : ∀ R, va = some ⟨R, 0, none⟩ → R < w.heap.size) (_ : Right C.a C.b C.c C.d) (l j c m a p : Int) (fd : Bool) (tl cy : Int) (g20 : ¬ l = 20) (g21 : ¬ l = 21) (g22 : ¬ l = 22) (g23 : ¬ l = 23) (g24 : ¬ l = 24) :
    Calls Tryz.prog 30 #[.pointer (some ⟨X, 0, none⟩), (colV l j c m a p fd tl cy)] w (RP w X va cap N C s (.tuple #[(colV l j c m a p fd tl cy), .int .i64 0, .bool false])) := by
  have HF := Lib.hid hH
  have e20 : (l == 20) = false := by simpa using g20
  have e21 : (l == 21) = false := by simpa using g21
  have e22 : (l == 22) = false := by simpa using g22
  have e23 : (l == 23) = false := by simpa using g23
  have e24 : (l == 24) = false := by simpa using g24
  clear hH g20 g21 g22 g23 g24
  go_enter Tryz.func30, Tryz.ntmps30
  go_wp2_with fail
  refine bodyPost_ret (v := .tuple #[(colV l j c m a p fd tl cy), .int .i64 0, .bool false]) (by simp [results, Tryz.f30, go_sem]) rfl ?_
  refine ⟨rfl, HF.out.below (below_on (below_new _ _) _), Sav.of (below_on (below_new _ _) _)⟩
end Go.Proofs.YthdcapkchjamoaaGreatDoor
