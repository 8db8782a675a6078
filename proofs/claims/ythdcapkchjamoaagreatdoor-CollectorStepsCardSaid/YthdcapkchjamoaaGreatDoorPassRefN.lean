/- The document's places and next cell, of layer 16. -/
import Derived.Test.YthdcapkchjamoaaGreatDoorColF
import Derived.Test.YthdcapkchjamoaaGreatDoorPlaceRef
namespace Go.Proofs.YthdcapkchjamoaaGreatDoor
open Go Go.RowKit
set_option maxRecDepth 100000
attribute [local go_sem ↓] Go.wp_at_zero Go.wp_at_succ

theorem rat_0 {w : World} {X : Nat} {va : Option Addr} {cap N : Nat} {C : Cf} {s : Dy} (hH : RAt w X va cap N C s) (hr : Right C.a C.b C.c C.d) (i : Int) :
    Calls Tryz.prog 54 #[.pointer (some ⟨X, 0, none⟩), .int .i64 4, .int .i64 i] w fun e w' => e = .returned (.int .i64 (partP C.a C.b C.c C.d 0 i)) ∧ Below w.heap.size w w' := by
  have HA : Hid (∀ W, Calls Tryz.prog 86 #[(.agg #[.int .i64 C.a, .int .i64 C.b, .int .i64 C.c, .int .i64 C.d]), .agg #[.int .i64 4, .int .i64 i, .int .i64 0]] W fun e w' => e = .returned (.int .i64 (partP C.a C.b C.c C.d 0 i)) ∧ Below W.heap.size W w') := Lib.hid (fun W => refAt_car C.a C.b C.c C.d i hr W)
  obtain ⟨_, ⟨h1, h2, h3, h4⟩, _⟩ := hH.cells
  clear hH hr
  go_enter Tryz.func54, Tryz.ntmps54
  go_wp2_with fail
  refine (HA.out _).mono ?_
  rintro e W1 ⟨rfl, hb⟩
  clear HA h1 h2 h3 h4
  go_wp2_with fail
  go_ret
  exact ⟨rfl, hb⟩
theorem rat_1 {w : World} {X : Nat} {va : Option Addr} {cap N : Nat} {C : Cf} {s : Dy} (hH : RAt w X va cap N C s) (hr : Right C.a C.b C.c C.d) (i : Int) :
    Calls Tryz.prog 54 #[.pointer (some ⟨X, 0, none⟩), .int .i64 5, .int .i64 i] w fun e w' => e = .returned (.int .i64 (partP C.a C.b C.c C.d 1 i)) ∧ Below w.heap.size w w' := by
  have HA : Hid (∀ W, Calls Tryz.prog 86 #[(.agg #[.int .i64 C.a, .int .i64 C.b, .int .i64 C.c, .int .i64 C.d]), .agg #[.int .i64 5, .int .i64 i, .int .i64 0]] W fun e w' => e = .returned (.int .i64 (partP C.a C.b C.c C.d 1 i)) ∧ Below W.heap.size W w') := Lib.hid (fun W => refAt_cdr C.a C.b C.c C.d i hr W)
  obtain ⟨_, ⟨h1, h2, h3, h4⟩, _⟩ := hH.cells
  clear hH hr
  go_enter Tryz.func54, Tryz.ntmps54
  go_wp2_with fail
  refine (HA.out _).mono ?_
  rintro e W1 ⟨rfl, hb⟩
  clear HA h1 h2 h3 h4
  go_wp2_with fail
  go_ret
  exact ⟨rfl, hb⟩
theorem rat_2 {w : World} {X : Nat} {va : Option Addr} {cap N : Nat} {C : Cf} {s : Dy} (hH : RAt w X va cap N C s) (hr : Right C.a C.b C.c C.d) (i : Int) :
    Calls Tryz.prog 54 #[.pointer (some ⟨X, 0, none⟩), .int .i64 6, .int .i64 i] w fun e w' => e = .returned (.int .i64 (partP C.a C.b C.c C.d 2 i)) ∧ Below w.heap.size w w' := by
  have HA : Hid (∀ W, Calls Tryz.prog 86 #[(.agg #[.int .i64 C.a, .int .i64 C.b, .int .i64 C.c, .int .i64 C.d]), .agg #[.int .i64 6, .int .i64 i, .int .i64 0]] W fun e w' => e = .returned (.int .i64 (partP C.a C.b C.c C.d 2 i)) ∧ Below W.heap.size W w') := Lib.hid (fun W => refAt_colour C.a C.b C.c C.d i hr W)
  obtain ⟨_, ⟨h1, h2, h3, h4⟩, _⟩ := hH.cells
  clear hH hr
  go_enter Tryz.func54, Tryz.ntmps54
  go_wp2_with fail
  refine (HA.out _).mono ?_
  rintro e W1 ⟨rfl, hb⟩
  clear HA h1 h2 h3 h4
  go_wp2_with fail
  go_ret
  exact ⟨rfl, hb⟩
set_option maxHeartbeats 3200000 in
theorem rpnext_more {w : World} {X : Nat} {va : Option Addr} {cap N : Nat} {C : Cf} {s : Dy} (hH : RAt w X va cap N C s) (hL : ∀ R, va = some ⟨R, 0, none⟩ → R < w.heap.size) (_ : Right C.a C.b C.c C.d) (l j c m a p : Int) (fd : Bool) (tl cy : Int) (hc : -1000000000000 ≤ c ∧ c ≤ 1000000000000) (hm : c + 1 < C.a) :
    Calls Tryz.prog 55 #[.pointer (some ⟨X, 0, none⟩), (colV l j c m a p fd tl cy)] w (RP w X va cap N C s (colV 4 j (c + 1) m a p fd tl cy)) := by
  have HC0 := Lib.hid (ColR.start hH hL ⟨l, j, c, m, a, p, fd, tl, cy⟩)
  have HC1 := Lib.hid (ColR.start hH hL ⟨l, j, (c + 1), m, a, p, fd, tl, cy⟩)
  have hw1 : IntKind.i64.wrap (c + 1) = c + 1 := IntWalk.i64_in _ (by omega)
  have hd : decide (c + 1 < C.a) = true := decide_eq_true hm
  clear hH hL hc hm
  obtain ⟨a0, a1, a2, a3, a4, a5, a6, a7, a8, af⟩ := HC0.out.cells
  dsimp only at a0 a1 a2 a3 a4 a5 a6 a7 a8
  obtain ⟨_, ⟨h1, h2, h3, h4⟩, _⟩ := HC0.out.hand.cells
  go_enter Tryz.func55, Tryz.ntmps55
  go_wp2_with fail
  clear HC0 h1 h2 h3 h4 a0 a1 a2 a3 a4 a5 a6 a7 a8 af
  generalize (w.alloc (.cells #[.int .i64 l, .int .i64 j, .int .i64 (c + 1), .int .i64 m, .int .u64 a, .int .u64 p, .bool fd, .int .i64 tl, .int .i64 cy] 28)).alloc (.cells #[.int .i64 0, .int .i64 0, .int .i64 0, .int .i64 0, .int .u64 0, .int .u64 0, .bool false, .int .i64 0, .int .i64 0] 28) = W0 at *
  obtain ⟨a0, a1, a2, a3, a4, a5, a6, a7, a8, af⟩ := HC1.out.cells
  dsimp only at a0 a1 a2 a3 a4 a5 a6 a7 a8
  obtain ⟨_, ⟨h1, h2, h3, h4⟩, _⟩ := HC1.out.hand.cells
  refine wp_region_held_drew (S := (fun w' => w'.cell? ⟨X, 0, none⟩ = some (.int .i64 C.a) ∧ w'.cell? ⟨w.heap.size, 2, none⟩ = some (.int .i64 (c + 1)))) (by kernel_rfl) ?_ (fun hHeld => ?_)
  · exact ⟨h1, a2⟩
  refine wpAnyH_take (i := 0) (oi := { dst := some 9, op := Op.fieldAddr 28 (Operand.tmp 3) 2, type := 0, pos := "ref.go:20", after := #[], guard := none }) (v := ?vz0) rfl (by kernel_rfl) (by kernel_rfl) (by kernel_rfl) (fun _ _ _ h => h) (Or.inl ⟨by rfl, ?hyz0⟩) hHeld ?_
  case hyz0 => (intro w hSw; (try dsimp only at hSw); go_simp; (try with_reducible rfl))
  try simp only [Act.put, List.setIfInBounds_toArray, List.set_cons_zero, List.set_cons_succ]
  refine wpAnyH_take (i := 1) (oi := { dst := some 10, op := Op.load 3 (Operand.tmp 9), type := 3, pos := "ref.go:20", after := #[{ on := 0, ground := Ground.data }], guard := none }) (v := ?vz1) rfl (by kernel_rfl) (by kernel_rfl) (by kernel_rfl) (fun _ _ _ h => h) (Or.inl ⟨by rfl, ?hyz1⟩) hHeld ?_
  case hyz1 => (intro w hSw; (try dsimp only at hSw); go_simp; (try with_reducible rfl))
  try simp only [Act.put, List.setIfInBounds_toArray, List.set_cons_zero, List.set_cons_succ]
  refine wpAnyH_take (i := 2) (oi := { dst := some 11, op := Op.move (Operand.tmp 0), type := 33, pos := "ref.go:20", after := #[], guard := none }) (v := ?vz2) rfl (by kernel_rfl) (by kernel_rfl) (by kernel_rfl) (fun _ _ _ h => h) (Or.inl ⟨by rfl, ?hyz2⟩) hHeld ?_
  case hyz2 => (intro w hSw; (try dsimp only at hSw); go_simp; (try with_reducible rfl))
  try simp only [Act.put, List.setIfInBounds_toArray, List.set_cons_zero, List.set_cons_succ]
  refine wpAnyH_take (i := 3) (oi := { dst := some 12, op := Op.nilCheck (Operand.tmp 11), type := 0, pos := "ref.go:20", after := #[{ on := 2, ground := Ground.data }], guard := none }) (v := ?vz3) rfl (by kernel_rfl) (by kernel_rfl) (by kernel_rfl) (fun _ _ _ h => h) (Or.inl ⟨by rfl, ?hyz3⟩) hHeld ?_
  case hyz3 => (intro w hSw; (try dsimp only at hSw); go_simp; (try with_reducible rfl))
  try simp only [Act.put, List.setIfInBounds_toArray, List.set_cons_zero, List.set_cons_succ]
  refine wpAnyH_take (i := 4) (oi := { dst := some 13, op := Op.fieldAddr 59 (Operand.tmp 12) 0, type := 0, pos := "ref.go:20", after := #[{ on := 3, ground := Ground.data }], guard := none }) (v := ?vz4) rfl (by kernel_rfl) (by kernel_rfl) (by kernel_rfl) (fun _ _ _ h => h) (Or.inl ⟨by rfl, ?hyz4⟩) hHeld ?_
  case hyz4 => (intro w hSw; (try dsimp only at hSw); go_simp; (try with_reducible rfl))
  try simp only [Act.put, List.setIfInBounds_toArray, List.set_cons_zero, List.set_cons_succ]
  refine wpAnyH_take (i := 5) (oi := { dst := some 14, op := Op.fieldAddr 23 (Operand.tmp 13) 0, type := 0, pos := "ref.go:20", after := #[{ on := 4, ground := Ground.data }], guard := none }) (v := ?vz5) rfl (by kernel_rfl) (by kernel_rfl) (by kernel_rfl) (fun _ _ _ h => h) (Or.inl ⟨by rfl, ?hyz5⟩) hHeld ?_
  case hyz5 => (intro w hSw; (try dsimp only at hSw); go_simp; (try with_reducible rfl))
  try simp only [Act.put, List.setIfInBounds_toArray, List.set_cons_zero, List.set_cons_succ]
  refine wpAnyH_take (i := 6) (oi := { dst := some 15, op := Op.load 3 (Operand.tmp 14), type := 3, pos := "ref.go:20", after := #[{ on := 5, ground := Ground.data }], guard := none }) (v := ?vz6) rfl (by kernel_rfl) (by kernel_rfl) (by kernel_rfl) (fun _ _ _ h => h) (Or.inl ⟨by rfl, ?hyz6⟩) hHeld ?_
  case hyz6 => (intro w hSw; (try dsimp only at hSw); go_simp; (try with_reducible rfl))
  try simp only [Act.put, List.setIfInBounds_toArray, List.set_cons_zero, List.set_cons_succ]
  refine wpAnyH_take (i := 7) (oi := { dst := some 16, op := Op.binOp BinOp.lss 3 (Operand.tmp 10) (Operand.tmp 15) 3, type := 4, pos := "ref.go:20", after := #[{ on := 1, ground := Ground.data }, { on := 6, ground := Ground.data }], guard := none }) (v := ?vz7) rfl (by kernel_rfl) (by kernel_rfl) (by kernel_rfl) (fun _ _ _ h => h) (Or.inl ⟨by rfl, ?hyz7⟩) hHeld ?_
  case hyz7 => (intro w hSw; (try dsimp only at hSw); go_simp; (try with_reducible rfl))
  try simp only [Act.put, List.setIfInBounds_toArray, List.set_cons_zero, List.set_cons_succ]
  refine wpAnyH_done (by kernel_rfl) ?_ _
  have HC2 := Lib.hid HC1.out.drew
  clear hHeld h1 h2 h3 h4 HC1 a0 a1 a2 a3 a4 a5 a6 a7 a8 af
  generalize W0.drew = W1 at *
  have HCe := Lib.hid (HC2.out.setL 4)
  obtain ⟨b0, b1, b2, b3, b4, b5, b6, b7, b8, bf⟩ := HC2.out.cells
  dsimp only at b0 b1 b2 b3 b4 b5 b6 b7 b8
  obtain ⟨d0, d1, d2, d3, d4, d5, d6, d7, d8, df⟩ := HCe.out.cells
  dsimp only at d0 d1 d2 d3 d4 d5 d6 d7 d8
  obtain ⟨c0, c1, c2, c3, c4, c5, c6, c7, c8, cf⟩ := HCe.out.cellsY
  obtain ⟨s0, s1, s2, s3, s4, s5, s6, s7, s8, sf⟩ := (HCe.out.last ⟨4, j, (c + 1), m, a, p, fd, tl, cy⟩).cells
  dsimp only at s0 s1 s2 s3 s4 s5 s6 s7 s8
  clear HC2 
  go_wp2_with fail
  refine bodyPost_ret (v := (colV 4 j (c + 1) m a p fd tl cy)) (by simp [results, Tryz.f55, go_sem, s0, s1, s2, s3, s4, s5, s6, s7, s8]) rfl ?_
  exact ⟨rfl, HCe.out.fin ⟨4, j, (c + 1), m, a, p, fd, tl, cy⟩⟩
set_option maxHeartbeats 3200000 in
theorem rpnext_again {w : World} {X : Nat} {va : Option Addr} {cap N : Nat} {C : Cf} {s : Dy} (hH : RAt w X va cap N C s) (hL : ∀ R, va = some ⟨R, 0, none⟩ → R < w.heap.size) (_ : Right C.a C.b C.c C.d) (l j c m a p : Int) (tl cy : Int) (hc : -1000000000000 ≤ c ∧ c ≤ 1000000000000) (hm : ¬ c + 1 < C.a) :
    Calls Tryz.prog 55 #[.pointer (some ⟨X, 0, none⟩), (colV l j c m a p true tl cy)] w (RP w X va cap N C s (colV 3 j (c + 1) m a p true tl cy)) := by
  have HC0 := Lib.hid (ColR.start hH hL ⟨l, j, c, m, a, p, true, tl, cy⟩)
  have HC1 := Lib.hid (ColR.start hH hL ⟨l, j, (c + 1), m, a, p, true, tl, cy⟩)
  have hw1 : IntKind.i64.wrap (c + 1) = c + 1 := IntWalk.i64_in _ (by omega)
  have hd : decide (c + 1 < C.a) = false := decide_eq_false hm
  clear hH hL hc hm
  obtain ⟨a0, a1, a2, a3, a4, a5, a6, a7, a8, af⟩ := HC0.out.cells
  dsimp only at a0 a1 a2 a3 a4 a5 a6 a7 a8
  obtain ⟨_, ⟨h1, h2, h3, h4⟩, _⟩ := HC0.out.hand.cells
  go_enter Tryz.func55, Tryz.ntmps55
  go_wp2_with fail
  clear HC0 h1 h2 h3 h4 a0 a1 a2 a3 a4 a5 a6 a7 a8 af
  generalize (w.alloc (.cells #[.int .i64 l, .int .i64 j, .int .i64 (c + 1), .int .i64 m, .int .u64 a, .int .u64 p, .bool true, .int .i64 tl, .int .i64 cy] 28)).alloc (.cells #[.int .i64 0, .int .i64 0, .int .i64 0, .int .i64 0, .int .u64 0, .int .u64 0, .bool false, .int .i64 0, .int .i64 0] 28) = W0 at *
  obtain ⟨a0, a1, a2, a3, a4, a5, a6, a7, a8, af⟩ := HC1.out.cells
  dsimp only at a0 a1 a2 a3 a4 a5 a6 a7 a8
  obtain ⟨_, ⟨h1, h2, h3, h4⟩, _⟩ := HC1.out.hand.cells
  refine wp_region_held_drew (S := (fun w' => w'.cell? ⟨X, 0, none⟩ = some (.int .i64 C.a) ∧ w'.cell? ⟨w.heap.size, 2, none⟩ = some (.int .i64 (c + 1)))) (by kernel_rfl) ?_ (fun hHeld => ?_)
  · exact ⟨h1, a2⟩
  refine wpAnyH_take (i := 0) (oi := { dst := some 9, op := Op.fieldAddr 28 (Operand.tmp 3) 2, type := 0, pos := "ref.go:20", after := #[], guard := none }) (v := ?vz0) rfl (by kernel_rfl) (by kernel_rfl) (by kernel_rfl) (fun _ _ _ h => h) (Or.inl ⟨by rfl, ?hyz0⟩) hHeld ?_
  case hyz0 => (intro w hSw; (try dsimp only at hSw); go_simp; (try with_reducible rfl))
  try simp only [Act.put, List.setIfInBounds_toArray, List.set_cons_zero, List.set_cons_succ]
  refine wpAnyH_take (i := 1) (oi := { dst := some 10, op := Op.load 3 (Operand.tmp 9), type := 3, pos := "ref.go:20", after := #[{ on := 0, ground := Ground.data }], guard := none }) (v := ?vz1) rfl (by kernel_rfl) (by kernel_rfl) (by kernel_rfl) (fun _ _ _ h => h) (Or.inl ⟨by rfl, ?hyz1⟩) hHeld ?_
  case hyz1 => (intro w hSw; (try dsimp only at hSw); go_simp; (try with_reducible rfl))
  try simp only [Act.put, List.setIfInBounds_toArray, List.set_cons_zero, List.set_cons_succ]
  refine wpAnyH_take (i := 2) (oi := { dst := some 11, op := Op.move (Operand.tmp 0), type := 33, pos := "ref.go:20", after := #[], guard := none }) (v := ?vz2) rfl (by kernel_rfl) (by kernel_rfl) (by kernel_rfl) (fun _ _ _ h => h) (Or.inl ⟨by rfl, ?hyz2⟩) hHeld ?_
  case hyz2 => (intro w hSw; (try dsimp only at hSw); go_simp; (try with_reducible rfl))
  try simp only [Act.put, List.setIfInBounds_toArray, List.set_cons_zero, List.set_cons_succ]
  refine wpAnyH_take (i := 3) (oi := { dst := some 12, op := Op.nilCheck (Operand.tmp 11), type := 0, pos := "ref.go:20", after := #[{ on := 2, ground := Ground.data }], guard := none }) (v := ?vz3) rfl (by kernel_rfl) (by kernel_rfl) (by kernel_rfl) (fun _ _ _ h => h) (Or.inl ⟨by rfl, ?hyz3⟩) hHeld ?_
  case hyz3 => (intro w hSw; (try dsimp only at hSw); go_simp; (try with_reducible rfl))
  try simp only [Act.put, List.setIfInBounds_toArray, List.set_cons_zero, List.set_cons_succ]
  refine wpAnyH_take (i := 4) (oi := { dst := some 13, op := Op.fieldAddr 59 (Operand.tmp 12) 0, type := 0, pos := "ref.go:20", after := #[{ on := 3, ground := Ground.data }], guard := none }) (v := ?vz4) rfl (by kernel_rfl) (by kernel_rfl) (by kernel_rfl) (fun _ _ _ h => h) (Or.inl ⟨by rfl, ?hyz4⟩) hHeld ?_
  case hyz4 => (intro w hSw; (try dsimp only at hSw); go_simp; (try with_reducible rfl))
  try simp only [Act.put, List.setIfInBounds_toArray, List.set_cons_zero, List.set_cons_succ]
  refine wpAnyH_take (i := 5) (oi := { dst := some 14, op := Op.fieldAddr 23 (Operand.tmp 13) 0, type := 0, pos := "ref.go:20", after := #[{ on := 4, ground := Ground.data }], guard := none }) (v := ?vz5) rfl (by kernel_rfl) (by kernel_rfl) (by kernel_rfl) (fun _ _ _ h => h) (Or.inl ⟨by rfl, ?hyz5⟩) hHeld ?_
  case hyz5 => (intro w hSw; (try dsimp only at hSw); go_simp; (try with_reducible rfl))
  try simp only [Act.put, List.setIfInBounds_toArray, List.set_cons_zero, List.set_cons_succ]
  refine wpAnyH_take (i := 6) (oi := { dst := some 15, op := Op.load 3 (Operand.tmp 14), type := 3, pos := "ref.go:20", after := #[{ on := 5, ground := Ground.data }], guard := none }) (v := ?vz6) rfl (by kernel_rfl) (by kernel_rfl) (by kernel_rfl) (fun _ _ _ h => h) (Or.inl ⟨by rfl, ?hyz6⟩) hHeld ?_
  case hyz6 => (intro w hSw; (try dsimp only at hSw); go_simp; (try with_reducible rfl))
  try simp only [Act.put, List.setIfInBounds_toArray, List.set_cons_zero, List.set_cons_succ]
  refine wpAnyH_take (i := 7) (oi := { dst := some 16, op := Op.binOp BinOp.lss 3 (Operand.tmp 10) (Operand.tmp 15) 3, type := 4, pos := "ref.go:20", after := #[{ on := 1, ground := Ground.data }, { on := 6, ground := Ground.data }], guard := none }) (v := ?vz7) rfl (by kernel_rfl) (by kernel_rfl) (by kernel_rfl) (fun _ _ _ h => h) (Or.inl ⟨by rfl, ?hyz7⟩) hHeld ?_
  case hyz7 => (intro w hSw; (try dsimp only at hSw); go_simp; (try with_reducible rfl))
  try simp only [Act.put, List.setIfInBounds_toArray, List.set_cons_zero, List.set_cons_succ]
  refine wpAnyH_done (by kernel_rfl) ?_ _
  have HC2 := Lib.hid HC1.out.drew
  clear hHeld h1 h2 h3 h4 HC1 a0 a1 a2 a3 a4 a5 a6 a7 a8 af
  generalize W0.drew = W1 at *
  have HCe := Lib.hid (HC2.out.setL 3)
  obtain ⟨b0, b1, b2, b3, b4, b5, b6, b7, b8, bf⟩ := HC2.out.cells
  dsimp only at b0 b1 b2 b3 b4 b5 b6 b7 b8
  obtain ⟨d0, d1, d2, d3, d4, d5, d6, d7, d8, df⟩ := HCe.out.cells
  dsimp only at d0 d1 d2 d3 d4 d5 d6 d7 d8
  obtain ⟨c0, c1, c2, c3, c4, c5, c6, c7, c8, cf⟩ := HCe.out.cellsY
  obtain ⟨s0, s1, s2, s3, s4, s5, s6, s7, s8, sf⟩ := (HCe.out.last ⟨3, j, (c + 1), m, a, p, true, tl, cy⟩).cells
  dsimp only at s0 s1 s2 s3 s4 s5 s6 s7 s8
  clear HC2 
  go_wp2_with fail
  refine bodyPost_ret (v := (colV 3 j (c + 1) m a p true tl cy)) (by simp [results, Tryz.f55, go_sem, s0, s1, s2, s3, s4, s5, s6, s7, s8]) rfl ?_
  exact ⟨rfl, HCe.out.fin ⟨3, j, (c + 1), m, a, p, true, tl, cy⟩⟩
set_option maxHeartbeats 3200000 in
theorem rpnext_over {w : World} {X : Nat} {va : Option Addr} {cap N : Nat} {C : Cf} {s : Dy} (hH : RAt w X va cap N C s) (hL : ∀ R, va = some ⟨R, 0, none⟩ → R < w.heap.size) (_ : Right C.a C.b C.c C.d) (l j c m a p : Int) (tl cy : Int) (hc : -1000000000000 ≤ c ∧ c ≤ 1000000000000) (hm : ¬ c + 1 < C.a) :
    Calls Tryz.prog 55 #[.pointer (some ⟨X, 0, none⟩), (colV l j c m a p false tl cy)] w (RP w X va cap N C s (colV 10 j (c + 1) 0 a p false tl cy)) := by
  have HC0 := Lib.hid (ColR.start hH hL ⟨l, j, c, m, a, p, false, tl, cy⟩)
  have HC1 := Lib.hid (ColR.start hH hL ⟨l, j, (c + 1), m, a, p, false, tl, cy⟩)
  have hw1 : IntKind.i64.wrap (c + 1) = c + 1 := IntWalk.i64_in _ (by omega)
  have hd : decide (c + 1 < C.a) = false := decide_eq_false hm
  clear hH hL hc hm
  obtain ⟨a0, a1, a2, a3, a4, a5, a6, a7, a8, af⟩ := HC0.out.cells
  dsimp only at a0 a1 a2 a3 a4 a5 a6 a7 a8
  obtain ⟨_, ⟨h1, h2, h3, h4⟩, _⟩ := HC0.out.hand.cells
  go_enter Tryz.func55, Tryz.ntmps55
  go_wp2_with fail
  clear HC0 h1 h2 h3 h4 a0 a1 a2 a3 a4 a5 a6 a7 a8 af
  generalize (w.alloc (.cells #[.int .i64 l, .int .i64 j, .int .i64 (c + 1), .int .i64 m, .int .u64 a, .int .u64 p, .bool false, .int .i64 tl, .int .i64 cy] 28)).alloc (.cells #[.int .i64 0, .int .i64 0, .int .i64 0, .int .i64 0, .int .u64 0, .int .u64 0, .bool false, .int .i64 0, .int .i64 0] 28) = W0 at *
  obtain ⟨a0, a1, a2, a3, a4, a5, a6, a7, a8, af⟩ := HC1.out.cells
  dsimp only at a0 a1 a2 a3 a4 a5 a6 a7 a8
  obtain ⟨_, ⟨h1, h2, h3, h4⟩, _⟩ := HC1.out.hand.cells
  refine wp_region_held_drew (S := (fun w' => w'.cell? ⟨X, 0, none⟩ = some (.int .i64 C.a) ∧ w'.cell? ⟨w.heap.size, 2, none⟩ = some (.int .i64 (c + 1)))) (by kernel_rfl) ?_ (fun hHeld => ?_)
  · exact ⟨h1, a2⟩
  refine wpAnyH_take (i := 0) (oi := { dst := some 9, op := Op.fieldAddr 28 (Operand.tmp 3) 2, type := 0, pos := "ref.go:20", after := #[], guard := none }) (v := ?vz0) rfl (by kernel_rfl) (by kernel_rfl) (by kernel_rfl) (fun _ _ _ h => h) (Or.inl ⟨by rfl, ?hyz0⟩) hHeld ?_
  case hyz0 => (intro w hSw; (try dsimp only at hSw); go_simp; (try with_reducible rfl))
  try simp only [Act.put, List.setIfInBounds_toArray, List.set_cons_zero, List.set_cons_succ]
  refine wpAnyH_take (i := 1) (oi := { dst := some 10, op := Op.load 3 (Operand.tmp 9), type := 3, pos := "ref.go:20", after := #[{ on := 0, ground := Ground.data }], guard := none }) (v := ?vz1) rfl (by kernel_rfl) (by kernel_rfl) (by kernel_rfl) (fun _ _ _ h => h) (Or.inl ⟨by rfl, ?hyz1⟩) hHeld ?_
  case hyz1 => (intro w hSw; (try dsimp only at hSw); go_simp; (try with_reducible rfl))
  try simp only [Act.put, List.setIfInBounds_toArray, List.set_cons_zero, List.set_cons_succ]
  refine wpAnyH_take (i := 2) (oi := { dst := some 11, op := Op.move (Operand.tmp 0), type := 33, pos := "ref.go:20", after := #[], guard := none }) (v := ?vz2) rfl (by kernel_rfl) (by kernel_rfl) (by kernel_rfl) (fun _ _ _ h => h) (Or.inl ⟨by rfl, ?hyz2⟩) hHeld ?_
  case hyz2 => (intro w hSw; (try dsimp only at hSw); go_simp; (try with_reducible rfl))
  try simp only [Act.put, List.setIfInBounds_toArray, List.set_cons_zero, List.set_cons_succ]
  refine wpAnyH_take (i := 3) (oi := { dst := some 12, op := Op.nilCheck (Operand.tmp 11), type := 0, pos := "ref.go:20", after := #[{ on := 2, ground := Ground.data }], guard := none }) (v := ?vz3) rfl (by kernel_rfl) (by kernel_rfl) (by kernel_rfl) (fun _ _ _ h => h) (Or.inl ⟨by rfl, ?hyz3⟩) hHeld ?_
  case hyz3 => (intro w hSw; (try dsimp only at hSw); go_simp; (try with_reducible rfl))
  try simp only [Act.put, List.setIfInBounds_toArray, List.set_cons_zero, List.set_cons_succ]
  refine wpAnyH_take (i := 4) (oi := { dst := some 13, op := Op.fieldAddr 59 (Operand.tmp 12) 0, type := 0, pos := "ref.go:20", after := #[{ on := 3, ground := Ground.data }], guard := none }) (v := ?vz4) rfl (by kernel_rfl) (by kernel_rfl) (by kernel_rfl) (fun _ _ _ h => h) (Or.inl ⟨by rfl, ?hyz4⟩) hHeld ?_
  case hyz4 => (intro w hSw; (try dsimp only at hSw); go_simp; (try with_reducible rfl))
  try simp only [Act.put, List.setIfInBounds_toArray, List.set_cons_zero, List.set_cons_succ]
  refine wpAnyH_take (i := 5) (oi := { dst := some 14, op := Op.fieldAddr 23 (Operand.tmp 13) 0, type := 0, pos := "ref.go:20", after := #[{ on := 4, ground := Ground.data }], guard := none }) (v := ?vz5) rfl (by kernel_rfl) (by kernel_rfl) (by kernel_rfl) (fun _ _ _ h => h) (Or.inl ⟨by rfl, ?hyz5⟩) hHeld ?_
  case hyz5 => (intro w hSw; (try dsimp only at hSw); go_simp; (try with_reducible rfl))
  try simp only [Act.put, List.setIfInBounds_toArray, List.set_cons_zero, List.set_cons_succ]
  refine wpAnyH_take (i := 6) (oi := { dst := some 15, op := Op.load 3 (Operand.tmp 14), type := 3, pos := "ref.go:20", after := #[{ on := 5, ground := Ground.data }], guard := none }) (v := ?vz6) rfl (by kernel_rfl) (by kernel_rfl) (by kernel_rfl) (fun _ _ _ h => h) (Or.inl ⟨by rfl, ?hyz6⟩) hHeld ?_
  case hyz6 => (intro w hSw; (try dsimp only at hSw); go_simp; (try with_reducible rfl))
  try simp only [Act.put, List.setIfInBounds_toArray, List.set_cons_zero, List.set_cons_succ]
  refine wpAnyH_take (i := 7) (oi := { dst := some 16, op := Op.binOp BinOp.lss 3 (Operand.tmp 10) (Operand.tmp 15) 3, type := 4, pos := "ref.go:20", after := #[{ on := 1, ground := Ground.data }, { on := 6, ground := Ground.data }], guard := none }) (v := ?vz7) rfl (by kernel_rfl) (by kernel_rfl) (by kernel_rfl) (fun _ _ _ h => h) (Or.inl ⟨by rfl, ?hyz7⟩) hHeld ?_
  case hyz7 => (intro w hSw; (try dsimp only at hSw); go_simp; (try with_reducible rfl))
  try simp only [Act.put, List.setIfInBounds_toArray, List.set_cons_zero, List.set_cons_succ]
  refine wpAnyH_done (by kernel_rfl) ?_ _
  have HC2 := Lib.hid HC1.out.drew
  clear hHeld h1 h2 h3 h4 HC1 a0 a1 a2 a3 a4 a5 a6 a7 a8 af
  generalize W0.drew = W1 at *
  have HCe := Lib.hid ((HC2.out.setM 0).setL 10)
  obtain ⟨b0, b1, b2, b3, b4, b5, b6, b7, b8, bf⟩ := HC2.out.cells
  dsimp only at b0 b1 b2 b3 b4 b5 b6 b7 b8
  obtain ⟨d0, d1, d2, d3, d4, d5, d6, d7, d8, df⟩ := HCe.out.cells
  dsimp only at d0 d1 d2 d3 d4 d5 d6 d7 d8
  obtain ⟨c0, c1, c2, c3, c4, c5, c6, c7, c8, cf⟩ := HCe.out.cellsY
  obtain ⟨s0, s1, s2, s3, s4, s5, s6, s7, s8, sf⟩ := (HCe.out.last ⟨10, j, (c + 1), 0, a, p, false, tl, cy⟩).cells
  dsimp only at s0 s1 s2 s3 s4 s5 s6 s7 s8
  clear HC2 
  go_wp2_with fail
  refine bodyPost_ret (v := (colV 10 j (c + 1) 0 a p false tl cy)) (by simp [results, Tryz.f55, go_sem, s0, s1, s2, s3, s4, s5, s6, s7, s8]) rfl ?_
  exact ⟨rfl, HCe.out.fin ⟨10, j, (c + 1), 0, a, p, false, tl, cy⟩⟩
theorem rpnext_c {w : World} {X : Nat} {va : Option Addr} {cap N : Nat} {C : Cf} {s : Dy} (hH : RAt w X va cap N C s) (hL : ∀ R, va = some ⟨R, 0, none⟩ → R < w.heap.size) (hr : Right C.a C.b C.c C.d) (l j c m a p : Int) (fd : Bool) (tl cy : Int) (hc : -1000000000000 ≤ c ∧ c ≤ 1000000000000) :
    Calls Tryz.prog 55 #[.pointer (some ⟨X, 0, none⟩), (colV l j c m a p fd tl cy)] w (RP w X va cap N C s (nextCell C ⟨l, j, c, m, a, p, fd, tl, cy⟩).v) := by
  unfold nextCell
  by_cases h : c + 1 < C.a
  · simp only [if_pos h]; exact rpnext_more hH hL hr l j c m a p fd tl cy hc h
  · cases fd
    · simp only [if_neg h]; exact rpnext_over hH hL hr l j c m a p tl cy hc h
    · simp only [if_neg h]; exact rpnext_again hH hL hr l j c m a p tl cy hc h
end Go.Proofs.YthdcapkchjamoaaGreatDoor
