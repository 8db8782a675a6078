/- awake of mudlarklaw15. -/
import Derived.Test.YtppajedeapikkaaDoorRootsDo
import Derived.Test.YtppajedeapikkaaDoorPlaceFirst
namespace Go.Proofs.YtppajedeapikkaaDoor
open Go Go.RowKit
set_option maxRecDepth 100000
attribute [local go_sem ↓] Go.wp_at_zero Go.wp_at_succ

abbrev C13 : Cf := ⟨13, 2, 1, 1, 0⟩
def dA0 : Dy := ⟨fstV 2 1 1 0, 0, 0, 0, 0, 0⟩
def dA1 : Dy := (rootS C13 dA0 ⟨1, 0, 0, 0, 0, 0, false, 0, 0⟩).1
def dA2 : Dy := (rootS C13 dA1 ⟨2, 0, 0, 0, 0, 1, false, 0, 0⟩).1
theorem dA0_U : dA0.U := fst_u64 right0
theorem dA1_U : dA1.U := (rootS_U dA0_U ⟨1, 0, 0, 0, 0, 0, false, 0, 0⟩ ⟨u64_zero, u64_zero⟩).1
theorem dA_1 : rootS C13 dA0 ⟨1, 0, 0, 0, 0, 0, false, 0, 0⟩ = (dA1, ⟨2, 0, 0, 0, 0, 1, false, 0, 0⟩, true) := rfl
theorem dA_2 : rootS C13 dA1 ⟨2, 0, 0, 0, 0, 1, false, 0, 0⟩ = (dA2, ⟨1, 1, 0, 0, 0, 0, false, 0, 0⟩, true) := rfl
theorem dA_3 : dA2.f 9 = 1 := by decide
theorem dA_4 : partP 2 1 1 0 2 0 = 9 := by decide
set_option maxHeartbeats 3200000 in
theorem awake_c (w : World) (hS : SpansAt w) :
    Calls Tryd.prog 6 #[] w fun e w' => e = .returned (.bool true) ∧ Below w.heap.size w w' := by
  have HN := Lib.hid (New_yes 2 1 1 0 right0 w hS)
  have HS := Lib.hid hS
  have HBG : Hid (∀ W, Calls Tryd.prog 9 #[(colV 0 0 0 0 0 0 false 0 0)] W fun e w' => e = .returned (colV 1 0 0 0 0 0 false 0 0) ∧ Below W.heap.size W w') := Lib.hid (fun W => Begin_c 0 0 0 0 0 0 false 0 0 W)
  have HG1 : Hid (∀ W H A G, SpansAt W → HAt W H A G C13 dA0 → Calls Tryd.prog 12 #[.pointer (some ⟨H, 0, none⟩), (colV 1 0 0 0 0 0 false 0 0)] W (HP W H A G C13 dA1 (.tuple #[(colV 2 0 0 0 0 1 false 0 0), .bool true]))) := Lib.hid (fun W H A G h1 h2 => by
    have := root_c (w := W) h2 dA0_U h1 right0 (by decide) ⟨1, 0, 0, 0, 0, 0, false, 0, 0⟩ (by unfold Co.U U64; dsimp only; omega) (by dsimp only; omega)
    rw [dA_1] at this
    exact this)
  have HG2 : Hid (∀ W H A G, SpansAt W → HAt W H A G C13 dA1 → Calls Tryd.prog 12 #[.pointer (some ⟨H, 0, none⟩), (colV 2 0 0 0 0 1 false 0 0)] W (HP W H A G C13 dA2 (.tuple #[(colV 1 1 0 0 0 0 false 0 0), .bool true]))) := Lib.hid (fun W H A G h1 h2 => by
    have := root_c (w := W) h2 dA1_U h1 right0 (by decide) ⟨2, 0, 0, 0, 0, 1, false, 0, 0⟩ (by unfold Co.U U64; dsimp only; omega) (by dsimp only; omega)
    rw [dA_2] at this
    exact this)
  have HCo : Hid (∀ W, SpansAt W → Calls Tryd.prog 23 #[.agg #[.int .i64 2, .int .i64 1, .int .i64 1, .int .i64 0], .int .i64 0] W fun e w' => e = .returned (.int .i64 9) ∧ Below W.heap.size W w') := Lib.hid (fun W h => by have := Colour_c 2 1 1 0 0 W h; rw [dA_4] at this; exact this)
  have HLd : Hid (∀ W A G, ArenaAt W A G 13 dA2.f → Calls Tryd.prog 22 #[.pointer (some ⟨A, 0, none⟩), .int .i64 9] W fun e w' => e = .returned (.int .u64 1) ∧ W = w') := Lib.hid (fun W A G h => by have := Load_in h 9 (by omega); rw [dA_3] at this; exact this)
  clear hS
  go_enter Tryd.func6, Tryd.ntmps6
  go_wp2_with fail
  refine HN.out.mono ?_
  rintro e W1 ⟨n, hn, H, A, G, rfl, hF, hb, l1, l2, l3⟩
  obtain rfl : n = 13 := by omega
  have HB1 := Lib.hid hb; have HF1 : Hid (HAt W1 H A G C13 dA0) := Lib.hid hF
  clear hF hb HN hn l2
  generalize dA2 = d2 at *
  generalize dA1 = d1 at *
  generalize dA0 = d0 at *
  go_wp2_with fail
  refine (HBG.out _).mono ?_
  rintro e W2 ⟨rfl, hb⟩
  have HB2 := Lib.hid (belowOn HB1.out hb); have HF2 := Lib.hid (HF1.out.below hb)
  clear hb HB1 HF1 HBG
  go_wp2_with fail
  refine (HG1.out _ _ _ _ (HS.out.below HB2.out) HF2.out).mono ?_
  rintro e W3 ⟨rfl, hF, hs⟩
  have HB3 := Lib.hid (below_on (hs.old HB2.out l1 l3) (.cells #[.int .i64 2, .int .i64 0, .int .i64 0, .int .i64 0, .int .u64 0, .int .u64 1, .bool false, .int .i64 0, .int .i64 0] 28))
  have HF3 := Lib.hid (hF.below (below_new W3 (.cells #[.int .i64 2, .int .i64 0, .int .i64 0, .int .i64 0, .int .u64 0, .int .u64 1, .bool false, .int .i64 0, .int .i64 0] 28)))
  have HX3 := Lib.hid (Col9.new W3 2 0 0 0 0 1 false 0 0)
  have hne : W3.heap.size ≠ H ∧ W3.heap.size ≠ A ∧ W3.heap.size ≠ G := by have h1 := hF.lt; have h2 := hF.ar.lt; have h3 := hF.ar.row.lt; omega
  clear hF hs HB2 HF2 HG1
  obtain ⟨a0, a1, a2, a3, a4, a5, a6, a7, a8, af⟩ := HX3.out.cells
  go_wp2_with fail
  refine (HG2.out _ _ _ _ (HS.out.below HB3.out) HF3.out).mono ?_
  rintro e W4 ⟨rfl, hF, hs⟩
  have HB4 := Lib.hid (below_on (hs.old HB3.out l1 l3) (.cells #[.int .i64 1, .int .i64 1, .int .i64 0, .int .i64 0, .int .u64 0, .int .u64 0, .bool false, .int .i64 0, .int .i64 0] 28))
  have HF4 := Lib.hid (hF.below (below_new W4 (.cells #[.int .i64 1, .int .i64 1, .int .i64 0, .int .i64 0, .int .u64 0, .int .u64 0, .bool false, .int .i64 0, .int .i64 0] 28)))
  have HY4 := Lib.hid (Col9.new W4 1 1 0 0 0 0 false 0 0)
  have HX4 := Lib.hid ((HX3.out.savH hs hne.1 hne.2.2).below (below_new W4 (.cells #[.int .i64 1, .int .i64 1, .int .i64 0, .int .i64 0, .int .u64 0, .int .u64 0, .bool false, .int .i64 0, .int .i64 0] 28)))
  clear hF hs HB3 HF3 HG2 HX3 hne a0 a1 a2 a3 a4 a5 a6 a7 a8 af
  go_wp2_with fail
  generalize W4.alloc (.cells #[.int .i64 1, .int .i64 1, .int .i64 0, .int .i64 0, .int .u64 0, .int .u64 0, .bool false, .int .i64 0, .int .i64 0] 28) = W5 at *
  generalize W4.heap.size = Y at *
  generalize W3.heap.size = X at *
  have x0 : W5.drew.cell? ⟨X, 0, none⟩ = some (.int .i64 2) := HX4.out.cells.1
  have y0 : W5.drew.cell? ⟨Y, 0, none⟩ = some (.int .i64 1) := HY4.out.cells.1
  have y1 : W5.drew.cell? ⟨Y, 1, none⟩ = some (.int .i64 1) := HY4.out.cells.2.1
  obtain ⟨h0, ⟨h1, h2, h3, h4⟩, _⟩ := HF4.out.drew.cells
  refine wp_region_held_drew (S := (fun w' => w'.cell? ⟨X, 0, none⟩ = some (.int .i64 2) ∧ w'.cell? ⟨Y, 0, none⟩ = some (.int .i64 1) ∧ w'.cell? ⟨Y, 1, none⟩ = some (.int .i64 1) ∧ w'.cell? ⟨H, 0, none⟩ = some (.pointer (some ⟨A, 0, none⟩)) ∧ w'.cell? ⟨H, 1, none⟩ = some (.int .i64 2) ∧ w'.cell? ⟨H, 2, none⟩ = some (.int .i64 1) ∧ w'.cell? ⟨H, 3, none⟩ = some (.int .i64 1) ∧ w'.cell? ⟨H, 4, none⟩ = some (.int .i64 0))) (by kernel_rfl) ?_ (fun hHeld => ?_)
  · exact ⟨x0, y0, y1, h0, h1, h2, h3, h4⟩
  refine wpAnyH_take (i := 0) (oi := { dst := some 33, op := Op.fieldAddr 28 (Operand.tmp 3) 0, type := 0, pos := "law.go:26", after := #[], guard := none }) (v := ?vq0) rfl (by kernel_rfl) (by kernel_rfl) (by kernel_rfl) (fun _ _ _ h => h) (Or.inl ⟨by rfl, ?hyq0⟩) hHeld ?_
  case hyq0 => (intro w hSw; (try dsimp only at hSw); go_simp; (try with_reducible rfl))
  try simp only [Act.put, List.setIfInBounds_toArray, List.set_cons_zero, List.set_cons_succ]
  refine wpAnyH_take (i := 1) (oi := { dst := some 34, op := Op.load 3 (Operand.tmp 33), type := 3, pos := "law.go:26", after := #[{ on := 0, ground := Ground.data }], guard := none }) (v := ?vq1) rfl (by kernel_rfl) (by kernel_rfl) (by kernel_rfl) (fun _ _ _ h => h) (Or.inl ⟨by rfl, ?hyq1⟩) hHeld ?_
  case hyq1 => (intro w hSw; (try dsimp only at hSw); go_simp; (try with_reducible rfl))
  try simp only [Act.put, List.setIfInBounds_toArray, List.set_cons_zero, List.set_cons_succ]
  refine wpAnyH_take (i := 2) (oi := { dst := some 35, op := Op.binOp BinOp.eql 3 (Operand.tmp 34) (Operand.const (Value.int IntKind.i64 2)) 3, type := 4, pos := "law.go:26", after := #[{ on := 1, ground := Ground.data }], guard := none }) (v := ?vq2) rfl (by kernel_rfl) (by kernel_rfl) (by kernel_rfl) (fun _ _ _ h => h) (Or.inl ⟨by rfl, ?hyq2⟩) hHeld ?_
  case hyq2 => (intro w hSw; (try dsimp only at hSw); go_simp; (try with_reducible rfl))
  try simp only [Act.put, List.setIfInBounds_toArray, List.set_cons_zero, List.set_cons_succ]
  refine wpAnyH_take (i := 3) (oi := { dst := some 36, op := Op.move (Operand.tmp 35), type := 4, pos := "law.go:26", after := #[{ on := 2, ground := Ground.data }], guard := none }) (v := ?vq3) rfl (by kernel_rfl) (by kernel_rfl) (by kernel_rfl) (fun _ _ _ h => h) (Or.inl ⟨by rfl, ?hyq3⟩) hHeld ?_
  case hyq3 => (intro w hSw; (try dsimp only at hSw); go_simp; (try with_reducible rfl))
  try simp only [Act.put, List.setIfInBounds_toArray, List.set_cons_zero, List.set_cons_succ]
  refine wpAnyH_take (i := 4) (oi := { dst := some 37, op := Op.fieldAddr 28 (Operand.tmp 5) 0, type := 0, pos := "law.go:26", after := #[{ on := 3, ground := Ground.guard }], guard := some (3, true) }) (v := ?vq4) rfl (by kernel_rfl) (by kernel_rfl) (by kernel_rfl) (fun _ _ _ h => h) (Or.inl ⟨by rfl, ?hyq4⟩) hHeld ?_
  case hyq4 => (intro w hSw; (try dsimp only at hSw); go_simp; (try with_reducible rfl))
  try simp only [Act.put, List.setIfInBounds_toArray, List.set_cons_zero, List.set_cons_succ]
  refine wpAnyH_take (i := 5) (oi := { dst := some 38, op := Op.load 3 (Operand.tmp 37), type := 3, pos := "law.go:26", after := #[{ on := 4, ground := Ground.data }, { on := 3, ground := Ground.guard }], guard := some (3, true) }) (v := ?vq5) rfl (by kernel_rfl) (by kernel_rfl) (by kernel_rfl) (fun _ _ _ h => h) (Or.inl ⟨by rfl, ?hyq5⟩) hHeld ?_
  case hyq5 => (intro w hSw; (try dsimp only at hSw); go_simp; (try with_reducible rfl))
  try simp only [Act.put, List.setIfInBounds_toArray, List.set_cons_zero, List.set_cons_succ]
  refine wpAnyH_take (i := 6) (oi := { dst := some 39, op := Op.binOp BinOp.eql 3 (Operand.tmp 38) (Operand.const (Value.int IntKind.i64 1)) 3, type := 4, pos := "law.go:26", after := #[{ on := 5, ground := Ground.data }, { on := 3, ground := Ground.guard }], guard := some (3, true) }) (v := ?vq6) rfl (by kernel_rfl) (by kernel_rfl) (by kernel_rfl) (fun _ _ _ h => h) (Or.inl ⟨by rfl, ?hyq6⟩) hHeld ?_
  case hyq6 => (intro w hSw; (try dsimp only at hSw); go_simp; (try with_reducible rfl))
  try simp only [Act.put, List.setIfInBounds_toArray, List.set_cons_zero, List.set_cons_succ]
  refine wpAnyH_take (i := 7) (oi := { dst := some 40, op := Op.pick (Operand.tmp 36) (Operand.tmp 39) (Operand.const (Value.bool false)), type := 4, pos := "law.go:26", after := #[{ on := 3, ground := Ground.data }, { on := 6, ground := Ground.data }], guard := none }) (v := ?vq7) rfl (by kernel_rfl) (by kernel_rfl) (by kernel_rfl) (fun _ _ _ h => h) (Or.inl ⟨by rfl, ?hyq7⟩) hHeld ?_
  case hyq7 => (intro w hSw; (try dsimp only at hSw); go_simp; (try with_reducible rfl))
  try simp only [Act.put, List.setIfInBounds_toArray, List.set_cons_zero, List.set_cons_succ]
  refine wpAnyH_take (i := 8) (oi := { dst := some 41, op := Op.move (Operand.tmp 40), type := 4, pos := "law.go:26", after := #[{ on := 7, ground := Ground.data }, { on := 3, ground := Ground.chain }], guard := none }) (v := ?vq8) rfl (by kernel_rfl) (by kernel_rfl) (by kernel_rfl) (fun _ _ _ h => h) (Or.inl ⟨by rfl, ?hyq8⟩) hHeld ?_
  case hyq8 => (intro w hSw; (try dsimp only at hSw); go_simp; (try with_reducible rfl))
  try simp only [Act.put, List.setIfInBounds_toArray, List.set_cons_zero, List.set_cons_succ]
  refine wpAnyH_take (i := 9) (oi := { dst := some 42, op := Op.fieldAddr 28 (Operand.tmp 5) 1, type := 0, pos := "law.go:26", after := #[{ on := 8, ground := Ground.guard }], guard := some (8, true) }) (v := ?vq9) rfl (by kernel_rfl) (by kernel_rfl) (by kernel_rfl) (fun _ _ _ h => h) (Or.inl ⟨by rfl, ?hyq9⟩) hHeld ?_
  case hyq9 => (intro w hSw; (try dsimp only at hSw); go_simp; (try with_reducible rfl))
  try simp only [Act.put, List.setIfInBounds_toArray, List.set_cons_zero, List.set_cons_succ]
  refine wpAnyH_take (i := 10) (oi := { dst := some 43, op := Op.load 3 (Operand.tmp 42), type := 3, pos := "law.go:26", after := #[{ on := 9, ground := Ground.data }, { on := 8, ground := Ground.guard }], guard := some (8, true) }) (v := ?vq10) rfl (by kernel_rfl) (by kernel_rfl) (by kernel_rfl) (fun _ _ _ h => h) (Or.inl ⟨by rfl, ?hyq10⟩) hHeld ?_
  case hyq10 => (intro w hSw; (try dsimp only at hSw); go_simp; (try with_reducible rfl))
  try simp only [Act.put, List.setIfInBounds_toArray, List.set_cons_zero, List.set_cons_succ]
  refine wpAnyH_take (i := 11) (oi := { dst := some 44, op := Op.binOp BinOp.eql 3 (Operand.tmp 43) (Operand.const (Value.int IntKind.i64 1)) 3, type := 4, pos := "law.go:26", after := #[{ on := 10, ground := Ground.data }, { on := 8, ground := Ground.guard }], guard := some (8, true) }) (v := ?vq11) rfl (by kernel_rfl) (by kernel_rfl) (by kernel_rfl) (fun _ _ _ h => h) (Or.inl ⟨by rfl, ?hyq11⟩) hHeld ?_
  case hyq11 => (intro w hSw; (try dsimp only at hSw); go_simp; (try with_reducible rfl))
  try simp only [Act.put, List.setIfInBounds_toArray, List.set_cons_zero, List.set_cons_succ]
  refine wpAnyH_take (i := 12) (oi := { dst := some 45, op := Op.pick (Operand.tmp 41) (Operand.tmp 44) (Operand.const (Value.bool false)), type := 4, pos := "law.go:26", after := #[{ on := 8, ground := Ground.data }, { on := 11, ground := Ground.data }], guard := none }) (v := ?vq12) rfl (by kernel_rfl) (by kernel_rfl) (by kernel_rfl) (fun _ _ _ h => h) (Or.inl ⟨by rfl, ?hyq12⟩) hHeld ?_
  case hyq12 => (intro w hSw; (try dsimp only at hSw); go_simp; (try with_reducible rfl))
  try simp only [Act.put, List.setIfInBounds_toArray, List.set_cons_zero, List.set_cons_succ]
  refine wpAnyH_take (i := 13) (oi := { dst := some 46, op := Op.move (Operand.tmp 45), type := 4, pos := "law.go:26", after := #[{ on := 12, ground := Ground.data }, { on := 8, ground := Ground.chain }], guard := none }) (v := ?vq13) rfl (by kernel_rfl) (by kernel_rfl) (by kernel_rfl) (fun _ _ _ h => h) (Or.inl ⟨by rfl, ?hyq13⟩) hHeld ?_
  case hyq13 => (intro w hSw; (try dsimp only at hSw); go_simp; (try with_reducible rfl))
  try simp only [Act.put, List.setIfInBounds_toArray, List.set_cons_zero, List.set_cons_succ]
  refine wpAnyH_take (i := 14) (oi := { dst := some 47, op := Op.move (Operand.tmp 1), type := 32, pos := "law.go:26", after := #[{ on := 13, ground := Ground.guard }], guard := some (13, true) }) (v := ?vq14) rfl (by kernel_rfl) (by kernel_rfl) (by kernel_rfl) (fun _ _ _ h => h) (Or.inl ⟨by rfl, ?hyq14⟩) hHeld ?_
  case hyq14 => (intro w hSw; (try dsimp only at hSw); go_simp; (try with_reducible rfl))
  try simp only [Act.put, List.setIfInBounds_toArray, List.set_cons_zero, List.set_cons_succ]
  refine wpAnyH_take (i := 15) (oi := { dst := some 48, op := Op.nilCheck (Operand.tmp 47), type := 0, pos := "law.go:26", after := #[{ on := 14, ground := Ground.data }, { on := 13, ground := Ground.guard }], guard := some (13, true) }) (v := ?vq15) rfl (by kernel_rfl) (by kernel_rfl) (by kernel_rfl) (fun _ _ _ h => h) (Or.inl ⟨by rfl, ?hyq15⟩) hHeld ?_
  case hyq15 => (intro w hSw; (try dsimp only at hSw); go_simp; (try with_reducible rfl))
  try simp only [Act.put, List.setIfInBounds_toArray, List.set_cons_zero, List.set_cons_succ]
  refine wpAnyH_take (i := 16) (oi := { dst := some 49, op := Op.fieldAddr 50 (Operand.tmp 48) 0, type := 0, pos := "law.go:26", after := #[{ on := 15, ground := Ground.data }, { on := 13, ground := Ground.guard }], guard := some (13, true) }) (v := ?vq16) rfl (by kernel_rfl) (by kernel_rfl) (by kernel_rfl) (fun _ _ _ h => h) (Or.inl ⟨by rfl, ?hyq16⟩) hHeld ?_
  case hyq16 => (intro w hSw; (try dsimp only at hSw); go_simp; (try with_reducible rfl))
  try simp only [Act.put, List.setIfInBounds_toArray, List.set_cons_zero, List.set_cons_succ]
  refine wpAnyH_take (i := 17) (oi := { dst := some 50, op := Op.load 44 (Operand.tmp 49), type := 44, pos := "law.go:26", after := #[{ on := 16, ground := Ground.data }, { on := 13, ground := Ground.guard }], guard := some (13, true) }) (v := ?vq17) rfl (by kernel_rfl) (by kernel_rfl) (by kernel_rfl) (fun _ _ _ h => h) (Or.inl ⟨by rfl, ?hyq17⟩) hHeld ?_
  case hyq17 => (intro w hSw; (try dsimp only at hSw); go_simp; (try with_reducible rfl))
  try simp only [Act.put, List.setIfInBounds_toArray, List.set_cons_zero, List.set_cons_succ]
  refine wpAnyH_take (i := 18) (oi := { dst := some 51, op := Op.move (Operand.tmp 1), type := 32, pos := "law.go:26", after := #[{ on := 13, ground := Ground.guard }], guard := some (13, true) }) (v := ?vq18) rfl (by kernel_rfl) (by kernel_rfl) (by kernel_rfl) (fun _ _ _ h => h) (Or.inl ⟨by rfl, ?hyq18⟩) hHeld ?_
  case hyq18 => (intro w hSw; (try dsimp only at hSw); go_simp; (try with_reducible rfl))
  try simp only [Act.put, List.setIfInBounds_toArray, List.set_cons_zero, List.set_cons_succ]
  refine wpAnyH_take (i := 19) (oi := { dst := some 52, op := Op.nilCheck (Operand.tmp 51), type := 0, pos := "law.go:26", after := #[{ on := 18, ground := Ground.data }, { on := 13, ground := Ground.guard }], guard := some (13, true) }) (v := ?vq19) rfl (by kernel_rfl) (by kernel_rfl) (by kernel_rfl) (fun _ _ _ h => h) (Or.inl ⟨by rfl, ?hyq19⟩) hHeld ?_
  case hyq19 => (intro w hSw; (try dsimp only at hSw); go_simp; (try with_reducible rfl))
  try simp only [Act.put, List.setIfInBounds_toArray, List.set_cons_zero, List.set_cons_succ]
  refine wpAnyH_take (i := 20) (oi := { dst := some 53, op := Op.fieldAddr 50 (Operand.tmp 52) 1, type := 0, pos := "law.go:26", after := #[{ on := 19, ground := Ground.data }, { on := 13, ground := Ground.guard }], guard := some (13, true) }) (v := ?vq20) rfl (by kernel_rfl) (by kernel_rfl) (by kernel_rfl) (fun _ _ _ h => h) (Or.inl ⟨by rfl, ?hyq20⟩) hHeld ?_
  case hyq20 => (intro w hSw; (try dsimp only at hSw); go_simp; (try with_reducible rfl))
  try simp only [Act.put, List.setIfInBounds_toArray, List.set_cons_zero, List.set_cons_succ]
  refine wpAnyH_take (i := 21) (oi := { dst := some 54, op := Op.load 46 (Operand.tmp 53), type := 46, pos := "law.go:26", after := #[{ on := 20, ground := Ground.data }, { on := 13, ground := Ground.guard }], guard := some (13, true) }) (v := ?vq21) rfl (by kernel_rfl) (by kernel_rfl) (by kernel_rfl) (fun _ _ _ h => h) (Or.inl ⟨by rfl, ?hyq21⟩) hHeld ?_
  case hyq21 => (intro w hSw; (try dsimp only at hSw); go_simp; (try with_reducible rfl))
  try simp only [Act.put, List.setIfInBounds_toArray, List.set_cons_zero, List.set_cons_succ]
  refine wpAnyH_ready (rs := [22]) (by kernel_rfl) (by simp) ?_
  refine AllReadyH.cons (o := { dst := some 55, op := Op.call { callee := Callee.value (Operand.func 23), args := #[Operand.tmp 54, Operand.const (Value.int IntKind.i64 0)], argTypes := #[46, 3] }, type := 3, pos := "law.go:26", after := #[{ on := 21, ground := Ground.data }, { on := 13, ground := Ground.chain }, { on := 13, ground := Ground.guard }], guard := some (13, true) }) rfl (fun K hK => ?_) AllReadyH.nil
  go_simp
  refine (HCo.out _ (HS.out.below HB4.out.drew)).mono ?_
  rintro e V1 ⟨rfl, hb⟩
  have HB5 := Lib.hid (belowOn HB4.out.drew hb); have HF5 := Lib.hid (HF4.out.drew.below hb)
  have x0 := (HX4.out.other (w' := W5.drew) rfl |>.below hb).cells.1
  have y0 := (HY4.out.other (w' := W5.drew) rfl |>.below hb).cells.1
  have y1 := (HY4.out.other (w' := W5.drew) rfl |>.below hb).cells.2.1
  clear hHeld h0 h1 h2 h3 h4 hb HCo HF4 HB4
  obtain ⟨h0, ⟨h1, h2, h3, h4⟩, _⟩ := HF5.out.cells
  refine hK.out _ _ ?_ (fun hHeld => ?_)
  · exact ⟨x0, y0, y1, h0, h1, h2, h3, h4⟩
  clear hK K
  try simp only [Act.put, List.setIfInBounds_toArray, List.set_cons_zero, List.set_cons_succ]
  refine wpAnyH_ready (rs := [23]) (by kernel_rfl) (by simp) ?_
  refine AllReadyH.cons (o := { dst := some 56, op := Op.call { callee := Callee.value (Operand.func 22), args := #[Operand.tmp 50, Operand.tmp 55], argTypes := #[44, 3] }, type := 26, pos := "law.go:26", after := #[{ on := 17, ground := Ground.data }, { on := 22, ground := Ground.data }, { on := 22, ground := Ground.chain }, { on := 13, ground := Ground.guard }], guard := some (13, true) }) rfl (fun K hK => ?_) AllReadyH.nil
  go_simp
  refine (HLd.out _ _ _ HF5.out.ar).mono ?_
  rintro e V2 ⟨rfl, rfl⟩
  clear hHeld HLd
  refine hK.out _ _ ?_ (fun hHeld => ?_)
  · exact ⟨x0, y0, y1, h0, h1, h2, h3, h4⟩
  clear hK K
  try simp only [Act.put, List.setIfInBounds_toArray, List.set_cons_zero, List.set_cons_succ]
  refine wpAnyH_take (i := 24) (oi := { dst := some 57, op := Op.binOp BinOp.eql 26 (Operand.tmp 56) (Operand.const (Value.int IntKind.u64 1)) 26, type := 4, pos := "law.go:26", after := #[{ on := 23, ground := Ground.data }, { on := 13, ground := Ground.guard }], guard := some (13, true) }) (v := ?vq24) rfl (by kernel_rfl) (by kernel_rfl) (by kernel_rfl) (fun _ _ _ h => h) (Or.inl ⟨by rfl, ?hyq24⟩) hHeld ?_
  case hyq24 => (intro w hSw; (try dsimp only at hSw); go_simp; (try with_reducible rfl))
  try simp only [Act.put, List.setIfInBounds_toArray, List.set_cons_zero, List.set_cons_succ]
  refine wpAnyH_take (i := 25) (oi := { dst := some 58, op := Op.pick (Operand.tmp 46) (Operand.tmp 57) (Operand.const (Value.bool false)), type := 4, pos := "law.go:26", after := #[{ on := 13, ground := Ground.data }, { on := 24, ground := Ground.data }], guard := none }) (v := ?vq25) rfl (by kernel_rfl) (by kernel_rfl) (by kernel_rfl) (fun _ _ _ h => h) (Or.inl ⟨by rfl, ?hyq25⟩) hHeld ?_
  case hyq25 => (intro w hSw; (try dsimp only at hSw); go_simp; (try with_reducible rfl))
  try simp only [Act.put, List.setIfInBounds_toArray, List.set_cons_zero, List.set_cons_succ]
  refine wpAnyH_take (i := 26) (oi := { dst := some 0, op := Op.assign (Operand.tmp 58), type := 4, pos := "law.go:26", after := #[{ on := 25, ground := Ground.data }, { on := 23, ground := Ground.chain }, { on := 0, ground := Ground.phase }, { on := 1, ground := Ground.phase }, { on := 2, ground := Ground.phase }, { on := 3, ground := Ground.phase }, { on := 4, ground := Ground.phase }, { on := 5, ground := Ground.phase }, { on := 6, ground := Ground.phase }, { on := 7, ground := Ground.phase }, { on := 8, ground := Ground.phase }, { on := 9, ground := Ground.phase }, { on := 10, ground := Ground.phase }, { on := 11, ground := Ground.phase }, { on := 12, ground := Ground.phase }, { on := 13, ground := Ground.phase }, { on := 14, ground := Ground.phase }, { on := 15, ground := Ground.phase }, { on := 16, ground := Ground.phase }, { on := 17, ground := Ground.phase }, { on := 18, ground := Ground.phase }, { on := 19, ground := Ground.phase }, { on := 20, ground := Ground.phase }, { on := 21, ground := Ground.phase }, { on := 22, ground := Ground.phase }, { on := 23, ground := Ground.phase }, { on := 24, ground := Ground.phase }, { on := 25, ground := Ground.phase }], guard := none }) (v := ?vq26) rfl (by kernel_rfl) (by kernel_rfl) (by kernel_rfl) (fun _ _ _ h => h) (Or.inl ⟨by rfl, ?hyq26⟩) hHeld ?_
  case hyq26 => (intro w hSw; (try dsimp only at hSw); go_simp; (try with_reducible rfl))
  try simp only [Act.put, List.setIfInBounds_toArray, List.set_cons_zero]
  refine wpAnyH_done (by kernel_rfl) ?_ _
  clear hHeld
  go_wp2_with fail
  go_ret
  exact ⟨rfl, HB5.out⟩
end Go.Proofs.YtppajedeapikkaaDoor
