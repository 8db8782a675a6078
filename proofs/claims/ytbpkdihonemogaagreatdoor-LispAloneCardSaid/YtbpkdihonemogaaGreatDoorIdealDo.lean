/- Package ideal's Do: each kind of operation that is right, and those that aren't. -/
import Derived.Test.YtbpkdihonemogaaGreatDoorIdealCons
namespace Go.Proofs.YtbpkdihonemogaaGreatDoor.Il
open Go Go.RowKit
set_option maxRecDepth 100000
attribute [local go_sem ↓] Go.wp_at_zero Go.wp_at_succ

theorem DoPost.after {w W : World} {X R L : Nat} {v : Value} {b c d : Nat} {s : St} {r : Int} {e : Ending} {w' : World} (hb : Below w.heap.size w W) (h : DoPost W X R L v b c d s r e w') : DoPost w X R L v b c d s r e w' := by
  obtain ⟨v', h1, h2, h3, h4⟩ := h
  have := hb.size
  exact ⟨v', h1, h2, fun k e => (h3 k e).imp id (fun _ => by omega), (Sav.of hb).trans h4⟩
section
variable {w : World} {X R L : Nat} {v : Value} {b c d : Nat} {s : St}
theorem nat_of {x : Int} (h : 0 ≤ x) : ∃ n : Nat, x = n := ⟨x.toNat, by omega⟩
theorem Do_nil (m k x y z : Int) (full : Bool) (w : World) : Calls Tryz.prog 22 #[.pointer none, .int .i64 m, .agg #[.int .i64 k, .int .i64 x, .int .i64 y, .int .i64 z], .bool full] w fun e w' => e = .returned (.int .i64 6) ∧ Below w.heap.size w w' := by
  have HB := Lib.hid (below_new w (.cells #[.int .i64 k, .int .i64 x, .int .i64 y, .int .i64 z] 26)).drew
  have HM := Lib.hid (hasMut_nil m)
  go_enter Tryz.func22, Tryz.ntmps22
  go_wp2_with fail
  refine wp_region_held_drew (S := (fun _ => True)) (by kernel_rfl) ?_ (fun hHeld => ?_)
  · trivial
  refine wpAnyH_take (i := 0) (oi := { dst := some 12, op := Op.move (Operand.tmp 0), type := 47, pos := "ideal.go:39", after := #[], guard := none }) (v := ?vn0) rfl (by kernel_rfl) (by kernel_rfl) (by kernel_rfl) (fun _ _ _ h => h) (Or.inl ⟨by rfl, ?hyn0⟩) hHeld ?_
  case hyn0 => (intro w hSw; (try dsimp only at hSw); go_simp; (try with_reducible rfl))
  try simp only [Act.put, List.setIfInBounds_toArray, List.set_cons_zero, List.set_cons_succ]
  refine wpAnyH_take (i := 1) (oi := { dst := some 13, op := Op.move (Operand.tmp 1), type := 3, pos := "ideal.go:39", after := #[], guard := none }) (v := ?vn1) rfl (by kernel_rfl) (by kernel_rfl) (by kernel_rfl) (fun _ _ _ h => h) (Or.inl ⟨by rfl, ?hyn1⟩) hHeld ?_
  case hyn1 => (intro w hSw; (try dsimp only at hSw); go_simp; (try with_reducible rfl))
  try simp only [Act.put, List.setIfInBounds_toArray, List.set_cons_zero, List.set_cons_succ]
  refine wpAnyH_ready (rs := [2]) (by kernel_rfl) (by simp) ?_
  refine AllReadyH.cons (o := { dst := some 14, op := Op.call { callee := Callee.value (Operand.func 42), args := #[Operand.tmp 12, Operand.tmp 13], argTypes := #[47, 3] }, type := 4, pos := "ideal.go:39", after := #[{ on := 0, ground := Ground.data }, { on := 1, ground := Ground.data }], guard := none }) rfl (fun K hK => ?_) AllReadyH.nil
  go_simp
  refine (HM.out _).mono ?_
  rintro e W1 ⟨rfl, hW1⟩
  have HB1 := Lib.hid (show Below w.heap.size w W1 by rw [← hW1]; exact HB.out)
  clear hW1 HM HB hHeld
  refine hK.out _ _ ?_ (fun hHeld => ?_)
  · trivial
  clear hK K
  try simp only [Act.put, List.setIfInBounds_toArray, List.set_cons_zero, List.set_cons_succ]
  refine wpAnyH_take (i := 3) (oi := { dst := some 15, op := Op.unOp UnOp.not 4 (Operand.tmp 14), type := 4, pos := "ideal.go:39", after := #[{ on := 2, ground := Ground.data }], guard := none }) (v := ?vn3) rfl (by kernel_rfl) (by kernel_rfl) (by kernel_rfl) (fun _ _ _ h => h) (Or.inl ⟨by rfl, ?hyn3⟩) hHeld ?_
  case hyn3 => (intro w hSw; (try dsimp only at hSw); go_simp; (try with_reducible rfl))
  try simp only [Act.put, List.setIfInBounds_toArray, List.set_cons_zero, List.set_cons_succ]
  refine wpAnyH_take (i := 4) (oi := { dst := some 16, op := Op.move (Operand.tmp 15), type := 4, pos := "ideal.go:39", after := #[{ on := 3, ground := Ground.data }, { on := 2, ground := Ground.chain }], guard := none }) (v := ?vn4) rfl (by kernel_rfl) (by kernel_rfl) (by kernel_rfl) (fun _ _ _ h => h) (Or.inl ⟨by rfl, ?hyn4⟩) hHeld ?_
  case hyn4 => (intro w hSw; (try dsimp only at hSw); go_simp; (try with_reducible rfl))
  try simp only [Act.put, List.setIfInBounds_toArray, List.set_cons_zero, List.set_cons_succ]
  refine wpAnyH_take (i := 5) (oi := { dst := some 17, op := Op.move (Operand.tmp 0), type := 47, pos := "ideal.go:39", after := #[{ on := 4, ground := Ground.guard }], guard := some (4, false) }) (v := undef) rfl (by kernel_rfl) (by kernel_rfl) (by kernel_rfl) (fun _ _ _ h => h) (Or.inr ⟨by rfl, rfl⟩) hHeld ?_
  try simp only [Act.put, List.setIfInBounds_toArray, List.set_cons_zero, List.set_cons_succ]
  refine wpAnyH_take (i := 6) (oi := { dst := some 18, op := Op.nilCheck (Operand.tmp 17), type := 0, pos := "ideal.go:39", after := #[{ on := 5, ground := Ground.data }, { on := 4, ground := Ground.guard }], guard := some (4, false) }) (v := undef) rfl (by kernel_rfl) (by kernel_rfl) (by kernel_rfl) (fun _ _ _ h => h) (Or.inr ⟨by rfl, rfl⟩) hHeld ?_
  try simp only [Act.put, List.setIfInBounds_toArray, List.set_cons_zero, List.set_cons_succ]
  refine wpAnyH_take (i := 7) (oi := { dst := some 19, op := Op.fieldAddr 78 (Operand.tmp 18) 0, type := 0, pos := "ideal.go:39", after := #[{ on := 6, ground := Ground.data }, { on := 4, ground := Ground.guard }], guard := some (4, false) }) (v := undef) rfl (by kernel_rfl) (by kernel_rfl) (by kernel_rfl) (fun _ _ _ h => h) (Or.inr ⟨by rfl, rfl⟩) hHeld ?_
  try simp only [Act.put, List.setIfInBounds_toArray, List.set_cons_zero, List.set_cons_succ]
  refine wpAnyH_take (i := 8) (oi := { dst := some 20, op := Op.load 39 (Operand.tmp 19), type := 39, pos := "ideal.go:39", after := #[{ on := 7, ground := Ground.data }, { on := 4, ground := Ground.guard }], guard := some (4, false) }) (v := undef) rfl (by kernel_rfl) (by kernel_rfl) (by kernel_rfl) (fun _ _ _ h => h) (Or.inr ⟨by rfl, rfl⟩) hHeld ?_
  try simp only [Act.put, List.setIfInBounds_toArray, List.set_cons_zero, List.set_cons_succ]
  refine wpAnyH_take (i := 9) (oi := { dst := some 21, op := Op.load 26 (Operand.tmp 6), type := 26, pos := "ideal.go:39", after := #[{ on := 4, ground := Ground.guard }], guard := some (4, false) }) (v := undef) rfl (by kernel_rfl) (by kernel_rfl) (by kernel_rfl) (fun _ _ _ h => h) (Or.inr ⟨by rfl, rfl⟩) hHeld ?_
  try simp only [Act.put, List.setIfInBounds_toArray, List.set_cons_zero, List.set_cons_succ]
  refine wpAnyH_take (i := 10) (oi := { dst := some 22, op := Op.call { callee := Callee.value (Operand.func 43), args := #[Operand.tmp 20, Operand.tmp 21], argTypes := #[39, 26] }, type := 44, pos := "ideal.go:39", after := #[{ on := 8, ground := Ground.data }, { on := 9, ground := Ground.data }, { on := 4, ground := Ground.chain }, { on := 4, ground := Ground.guard }], guard := some (4, false) }) (v := undef) rfl (by kernel_rfl) (by kernel_rfl) (by kernel_rfl) (fun _ _ _ h => h) (Or.inr ⟨by rfl, rfl⟩) hHeld ?_
  try simp only [Act.put, List.setIfInBounds_toArray, List.set_cons_zero, List.set_cons_succ]
  refine wpAnyH_take (i := 11) (oi := { dst := some 23, op := Op.binOp BinOp.neq 44 (Operand.tmp 22) (Operand.const (Value.int IntKind.i64 0)) 44, type := 4, pos := "ideal.go:39", after := #[{ on := 10, ground := Ground.data }, { on := 4, ground := Ground.guard }], guard := some (4, false) }) (v := undef) rfl (by kernel_rfl) (by kernel_rfl) (by kernel_rfl) (fun _ _ _ h => h) (Or.inr ⟨by rfl, rfl⟩) hHeld ?_
  try simp only [Act.put, List.setIfInBounds_toArray, List.set_cons_zero, List.set_cons_succ]
  refine wpAnyH_take (i := 12) (oi := { dst := some 24, op := Op.pick (Operand.tmp 16) (Operand.const (Value.bool true)) (Operand.tmp 23), type := 4, pos := "ideal.go:39", after := #[{ on := 4, ground := Ground.data }, { on := 11, ground := Ground.data }], guard := none }) (v := ?vn12) rfl (by kernel_rfl) (by kernel_rfl) (by kernel_rfl) (fun _ _ _ h => h) (Or.inl ⟨by rfl, ?hyn12⟩) hHeld ?_
  case hyn12 => (intro w hSw; (try dsimp only at hSw); go_simp; (try with_reducible rfl))
  try simp only [Act.put, List.setIfInBounds_toArray, List.set_cons_zero, List.set_cons_succ]
  refine wpAnyH_done (by kernel_rfl) ?_ _
  clear hHeld
  go_wp2_with fail
  go_ret
  exact ⟨rfl, HB1.out⟩
theorem Do_noMut (h : StoreAt w X R L v b c d s) (m k x y z : Int) (full : Bool) (hm : ¬ (0 ≤ m ∧ m < b)) : Calls Tryz.prog 22 #[.pointer (some ⟨X, 0, none⟩), .int .i64 m, .agg #[.int .i64 k, .int .i64 x, .int .i64 y, .int .i64 z], .bool full] w (DoPost w X R L v b c d s 6) := by
  have hb := (below_new w (.cells #[.int .i64 k, .int .i64 x, .int .i64 y, .int .i64 z] 26)).drew
  have HH := Lib.hid (h.below hb)
  have HA : Hid (Arr4 (w.alloc (.cells #[.int .i64 k, .int .i64 x, .int .i64 y, .int .i64 z] 26)).drew w.heap.size 26 k x y z) := Lib.hid (Arr4.new _ _ _ _ _ _)
  have HB := Lib.hid hb
  have HM : Hid (∀ W, StoreAt W X R L v b c d s → _) := Lib.hid (fun W hW => hasMut_no (w := W) hW m hm)
  clear h hb hm
  obtain ⟨x0, x1, x2, x3, _, _, _, _⟩ := HH.out.cells
  obtain ⟨o0, o1, o2, o3, _⟩ := HA.out.cells
  go_enter Tryz.func22, Tryz.ntmps22
  go_wp2_with fail
  refine wp_region_held_drew (S := (fun w' => w'.cell? ⟨X, 0, none⟩ = some (.int .i64 2) ∧ w'.cell? ⟨X, 1, none⟩ = some (.int .i64 b) ∧ w'.cell? ⟨X, 2, none⟩ = some (.int .i64 c) ∧ w'.cell? ⟨X, 3, none⟩ = some (.int .i64 d) ∧ w'.cell? ⟨w.heap.size, 0, none⟩ = some (.int .i64 k) ∧ w'.cell? ⟨w.heap.size, 1, none⟩ = some (.int .i64 x) ∧ w'.cell? ⟨w.heap.size, 2, none⟩ = some (.int .i64 y) ∧ w'.cell? ⟨w.heap.size, 3, none⟩ = some (.int .i64 z))) (by kernel_rfl) ?_ (fun hHeld => ?_)
  · exact ⟨x0, x1, x2, x3, o0, o1, o2, o3⟩
  refine wpAnyH_take (i := 0) (oi := { dst := some 12, op := Op.move (Operand.tmp 0), type := 47, pos := "ideal.go:39", after := #[], guard := none }) (v := ?vn0) rfl (by kernel_rfl) (by kernel_rfl) (by kernel_rfl) (fun _ _ _ h => h) (Or.inl ⟨by rfl, ?hyn0⟩) hHeld ?_
  case hyn0 => (intro w hSw; (try dsimp only at hSw); go_simp; (try with_reducible rfl))
  try simp only [Act.put, List.setIfInBounds_toArray, List.set_cons_zero, List.set_cons_succ]
  refine wpAnyH_take (i := 1) (oi := { dst := some 13, op := Op.move (Operand.tmp 1), type := 3, pos := "ideal.go:39", after := #[], guard := none }) (v := ?vn1) rfl (by kernel_rfl) (by kernel_rfl) (by kernel_rfl) (fun _ _ _ h => h) (Or.inl ⟨by rfl, ?hyn1⟩) hHeld ?_
  case hyn1 => (intro w hSw; (try dsimp only at hSw); go_simp; (try with_reducible rfl))
  try simp only [Act.put, List.setIfInBounds_toArray, List.set_cons_zero, List.set_cons_succ]
  refine wpAnyH_ready (rs := [2]) (by kernel_rfl) (by simp) ?_
  refine AllReadyH.cons (o := { dst := some 14, op := Op.call { callee := Callee.value (Operand.func 42), args := #[Operand.tmp 12, Operand.tmp 13], argTypes := #[47, 3] }, type := 4, pos := "ideal.go:39", after := #[{ on := 0, ground := Ground.data }, { on := 1, ground := Ground.data }], guard := none }) rfl (fun K hK => ?_) AllReadyH.nil
  go_simp
  refine (HM.out _ HH.out).mono ?_
  rintro e W1 ⟨rfl, hW1⟩
  have HH1 := Lib.hid (show StoreAt W1 X R L v b c d s by rw [← hW1]; exact HH.out)
  have HA1 := Lib.hid (show Arr4 W1 w.heap.size 26 k x y z by rw [← hW1]; exact HA.out)
  have HB1 := Lib.hid (show Below w.heap.size w W1 by rw [← hW1]; exact HB.out)
  clear hW1 HH HA HB HM
  clear x0 x1 x2 x3 o0 o1 o2 o3 hHeld
  obtain ⟨x0, x1, x2, x3, _, _, _, _⟩ := HH1.out.cells
  obtain ⟨o0, o1, o2, o3, _⟩ := HA1.out.cells
  refine hK.out _ _ ?_ (fun hHeld => ?_)
  · exact ⟨x0, x1, x2, x3, o0, o1, o2, o3⟩
  clear hK K
  try simp only [Act.put, List.setIfInBounds_toArray, List.set_cons_zero, List.set_cons_succ]
  refine wpAnyH_take (i := 3) (oi := { dst := some 15, op := Op.unOp UnOp.not 4 (Operand.tmp 14), type := 4, pos := "ideal.go:39", after := #[{ on := 2, ground := Ground.data }], guard := none }) (v := ?vn3) rfl (by kernel_rfl) (by kernel_rfl) (by kernel_rfl) (fun _ _ _ h => h) (Or.inl ⟨by rfl, ?hyn3⟩) hHeld ?_
  case hyn3 => (intro w hSw; (try dsimp only at hSw); go_simp; (try with_reducible rfl))
  try simp only [Act.put, List.setIfInBounds_toArray, List.set_cons_zero, List.set_cons_succ]
  refine wpAnyH_take (i := 4) (oi := { dst := some 16, op := Op.move (Operand.tmp 15), type := 4, pos := "ideal.go:39", after := #[{ on := 3, ground := Ground.data }, { on := 2, ground := Ground.chain }], guard := none }) (v := ?vn4) rfl (by kernel_rfl) (by kernel_rfl) (by kernel_rfl) (fun _ _ _ h => h) (Or.inl ⟨by rfl, ?hyn4⟩) hHeld ?_
  case hyn4 => (intro w hSw; (try dsimp only at hSw); go_simp; (try with_reducible rfl))
  try simp only [Act.put, List.setIfInBounds_toArray, List.set_cons_zero, List.set_cons_succ]
  refine wpAnyH_take (i := 5) (oi := { dst := some 17, op := Op.move (Operand.tmp 0), type := 47, pos := "ideal.go:39", after := #[{ on := 4, ground := Ground.guard }], guard := some (4, false) }) (v := undef) rfl (by kernel_rfl) (by kernel_rfl) (by kernel_rfl) (fun _ _ _ h => h) (Or.inr ⟨by rfl, rfl⟩) hHeld ?_
  try simp only [Act.put, List.setIfInBounds_toArray, List.set_cons_zero, List.set_cons_succ]
  refine wpAnyH_take (i := 6) (oi := { dst := some 18, op := Op.nilCheck (Operand.tmp 17), type := 0, pos := "ideal.go:39", after := #[{ on := 5, ground := Ground.data }, { on := 4, ground := Ground.guard }], guard := some (4, false) }) (v := undef) rfl (by kernel_rfl) (by kernel_rfl) (by kernel_rfl) (fun _ _ _ h => h) (Or.inr ⟨by rfl, rfl⟩) hHeld ?_
  try simp only [Act.put, List.setIfInBounds_toArray, List.set_cons_zero, List.set_cons_succ]
  refine wpAnyH_take (i := 7) (oi := { dst := some 19, op := Op.fieldAddr 78 (Operand.tmp 18) 0, type := 0, pos := "ideal.go:39", after := #[{ on := 6, ground := Ground.data }, { on := 4, ground := Ground.guard }], guard := some (4, false) }) (v := undef) rfl (by kernel_rfl) (by kernel_rfl) (by kernel_rfl) (fun _ _ _ h => h) (Or.inr ⟨by rfl, rfl⟩) hHeld ?_
  try simp only [Act.put, List.setIfInBounds_toArray, List.set_cons_zero, List.set_cons_succ]
  refine wpAnyH_take (i := 8) (oi := { dst := some 20, op := Op.load 39 (Operand.tmp 19), type := 39, pos := "ideal.go:39", after := #[{ on := 7, ground := Ground.data }, { on := 4, ground := Ground.guard }], guard := some (4, false) }) (v := undef) rfl (by kernel_rfl) (by kernel_rfl) (by kernel_rfl) (fun _ _ _ h => h) (Or.inr ⟨by rfl, rfl⟩) hHeld ?_
  try simp only [Act.put, List.setIfInBounds_toArray, List.set_cons_zero, List.set_cons_succ]
  refine wpAnyH_take (i := 9) (oi := { dst := some 21, op := Op.load 26 (Operand.tmp 6), type := 26, pos := "ideal.go:39", after := #[{ on := 4, ground := Ground.guard }], guard := some (4, false) }) (v := undef) rfl (by kernel_rfl) (by kernel_rfl) (by kernel_rfl) (fun _ _ _ h => h) (Or.inr ⟨by rfl, rfl⟩) hHeld ?_
  try simp only [Act.put, List.setIfInBounds_toArray, List.set_cons_zero, List.set_cons_succ]
  refine wpAnyH_take (i := 10) (oi := { dst := some 22, op := Op.call { callee := Callee.value (Operand.func 43), args := #[Operand.tmp 20, Operand.tmp 21], argTypes := #[39, 26] }, type := 44, pos := "ideal.go:39", after := #[{ on := 8, ground := Ground.data }, { on := 9, ground := Ground.data }, { on := 4, ground := Ground.chain }, { on := 4, ground := Ground.guard }], guard := some (4, false) }) (v := undef) rfl (by kernel_rfl) (by kernel_rfl) (by kernel_rfl) (fun _ _ _ h => h) (Or.inr ⟨by rfl, rfl⟩) hHeld ?_
  try simp only [Act.put, List.setIfInBounds_toArray, List.set_cons_zero, List.set_cons_succ]
  refine wpAnyH_take (i := 11) (oi := { dst := some 23, op := Op.binOp BinOp.neq 44 (Operand.tmp 22) (Operand.const (Value.int IntKind.i64 0)) 44, type := 4, pos := "ideal.go:39", after := #[{ on := 10, ground := Ground.data }, { on := 4, ground := Ground.guard }], guard := some (4, false) }) (v := undef) rfl (by kernel_rfl) (by kernel_rfl) (by kernel_rfl) (fun _ _ _ h => h) (Or.inr ⟨by rfl, rfl⟩) hHeld ?_
  try simp only [Act.put, List.setIfInBounds_toArray, List.set_cons_zero, List.set_cons_succ]
  refine wpAnyH_take (i := 12) (oi := { dst := some 24, op := Op.pick (Operand.tmp 16) (Operand.const (Value.bool true)) (Operand.tmp 23), type := 4, pos := "ideal.go:39", after := #[{ on := 4, ground := Ground.data }, { on := 11, ground := Ground.data }], guard := none }) (v := ?vn12) rfl (by kernel_rfl) (by kernel_rfl) (by kernel_rfl) (fun _ _ _ h => h) (Or.inl ⟨by rfl, ?hyn12⟩) hHeld ?_
  case hyn12 => (intro w hSw; (try dsimp only at hSw); go_simp; (try with_reducible rfl))
  try simp only [Act.put, List.setIfInBounds_toArray, List.set_cons_zero, List.set_cons_succ]
  refine wpAnyH_done (by kernel_rfl) ?_ _
  clear hHeld
  go_wp2_with fail
  go_ret
  exact DoPost.after HB1.out ⟨v, rfl, HH1.out, fun _ e => .inl e, .refl⟩
theorem Do_notRight (h : StoreAt w X R L v b c d s) (hS : SpansAt w) (hRw : RowsAt w) (m : Nat) (k x y z : Int) (full : Bool) (hm : m < b) (hc : checkF 2 b c d k x y z ≠ 0) : Calls Tryz.prog 22 #[.pointer (some ⟨X, 0, none⟩), .int .i64 m, .agg #[.int .i64 k, .int .i64 x, .int .i64 y, .int .i64 z], .bool full] w (DoPost w X R L v b c d s 6) := by
  have hb := (below_new w (.cells #[.int .i64 k, .int .i64 x, .int .i64 y, .int .i64 z] 26)).drew
  have HH := Lib.hid (h.below hb)
  have HA : Hid (Arr4 (w.alloc (.cells #[.int .i64 k, .int .i64 x, .int .i64 y, .int .i64 z] 26)).drew w.heap.size 26 k x y z) := Lib.hid (Arr4.new _ _ _ _ _ _)
  have HB := Lib.hid hb
  have HM : Hid (∀ W, StoreAt W X R L v b c d s → _) := Lib.hid (fun W hW => hasMut_yes (w := W) hW m hm)
  have HC : Hid (∀ W, Below w.heap.size w W → _) := Lib.hid (fun W hW => opCheck_c 2 b c d k x y z W (hS.below hW) (hRw.below hW))
  generalize checkF 2 b c d k x y z = r at *
  clear h hb hm hS hRw
  obtain ⟨x0, x1, x2, x3, _, _, _, _⟩ := HH.out.cells
  obtain ⟨o0, o1, o2, o3, _⟩ := HA.out.cells
  go_enter Tryz.func22, Tryz.ntmps22
  go_wp2_with fail
  refine wp_region_held_drew (S := (fun w' => w'.cell? ⟨X, 0, none⟩ = some (.int .i64 2) ∧ w'.cell? ⟨X, 1, none⟩ = some (.int .i64 b) ∧ w'.cell? ⟨X, 2, none⟩ = some (.int .i64 c) ∧ w'.cell? ⟨X, 3, none⟩ = some (.int .i64 d) ∧ w'.cell? ⟨w.heap.size, 0, none⟩ = some (.int .i64 k) ∧ w'.cell? ⟨w.heap.size, 1, none⟩ = some (.int .i64 x) ∧ w'.cell? ⟨w.heap.size, 2, none⟩ = some (.int .i64 y) ∧ w'.cell? ⟨w.heap.size, 3, none⟩ = some (.int .i64 z))) (by kernel_rfl) ?_ (fun hHeld => ?_)
  · exact ⟨x0, x1, x2, x3, o0, o1, o2, o3⟩
  refine wpAnyH_take (i := 0) (oi := { dst := some 12, op := Op.move (Operand.tmp 0), type := 47, pos := "ideal.go:39", after := #[], guard := none }) (v := ?vn0) rfl (by kernel_rfl) (by kernel_rfl) (by kernel_rfl) (fun _ _ _ h => h) (Or.inl ⟨by rfl, ?hyn0⟩) hHeld ?_
  case hyn0 => (intro w hSw; (try dsimp only at hSw); go_simp; (try with_reducible rfl))
  try simp only [Act.put, List.setIfInBounds_toArray, List.set_cons_zero, List.set_cons_succ]
  refine wpAnyH_take (i := 1) (oi := { dst := some 13, op := Op.move (Operand.tmp 1), type := 3, pos := "ideal.go:39", after := #[], guard := none }) (v := ?vn1) rfl (by kernel_rfl) (by kernel_rfl) (by kernel_rfl) (fun _ _ _ h => h) (Or.inl ⟨by rfl, ?hyn1⟩) hHeld ?_
  case hyn1 => (intro w hSw; (try dsimp only at hSw); go_simp; (try with_reducible rfl))
  try simp only [Act.put, List.setIfInBounds_toArray, List.set_cons_zero, List.set_cons_succ]
  refine wpAnyH_ready (rs := [2]) (by kernel_rfl) (by simp) ?_
  refine AllReadyH.cons (o := { dst := some 14, op := Op.call { callee := Callee.value (Operand.func 42), args := #[Operand.tmp 12, Operand.tmp 13], argTypes := #[47, 3] }, type := 4, pos := "ideal.go:39", after := #[{ on := 0, ground := Ground.data }, { on := 1, ground := Ground.data }], guard := none }) rfl (fun K hK => ?_) AllReadyH.nil
  go_simp
  refine (HM.out _ HH.out).mono ?_
  rintro e W1 ⟨rfl, hW1⟩
  have HH1 := Lib.hid (show StoreAt W1 X R L v b c d s by rw [← hW1]; exact HH.out)
  have HA1 := Lib.hid (show Arr4 W1 w.heap.size 26 k x y z by rw [← hW1]; exact HA.out)
  have HB1 := Lib.hid (show Below w.heap.size w W1 by rw [← hW1]; exact HB.out)
  clear hW1 HH HA HB HM
  clear x0 x1 x2 x3 o0 o1 o2 o3 hHeld
  obtain ⟨x0, x1, x2, x3, _, _, _, _⟩ := HH1.out.cells
  obtain ⟨o0, o1, o2, o3, _⟩ := HA1.out.cells
  refine hK.out _ _ ?_ (fun hHeld => ?_)
  · exact ⟨x0, x1, x2, x3, o0, o1, o2, o3⟩
  clear hK K
  try simp only [Act.put, List.setIfInBounds_toArray, List.set_cons_zero, List.set_cons_succ]
  refine wpAnyH_take (i := 3) (oi := { dst := some 15, op := Op.unOp UnOp.not 4 (Operand.tmp 14), type := 4, pos := "ideal.go:39", after := #[{ on := 2, ground := Ground.data }], guard := none }) (v := ?vn3) rfl (by kernel_rfl) (by kernel_rfl) (by kernel_rfl) (fun _ _ _ h => h) (Or.inl ⟨by rfl, ?hyn3⟩) hHeld ?_
  case hyn3 => (intro w hSw; (try dsimp only at hSw); go_simp; (try with_reducible rfl))
  try simp only [Act.put, List.setIfInBounds_toArray, List.set_cons_zero, List.set_cons_succ]
  refine wpAnyH_take (i := 4) (oi := { dst := some 16, op := Op.move (Operand.tmp 15), type := 4, pos := "ideal.go:39", after := #[{ on := 3, ground := Ground.data }, { on := 2, ground := Ground.chain }], guard := none }) (v := ?vn4) rfl (by kernel_rfl) (by kernel_rfl) (by kernel_rfl) (fun _ _ _ h => h) (Or.inl ⟨by rfl, ?hyn4⟩) hHeld ?_
  case hyn4 => (intro w hSw; (try dsimp only at hSw); go_simp; (try with_reducible rfl))
  try simp only [Act.put, List.setIfInBounds_toArray, List.set_cons_zero, List.set_cons_succ]
  refine wpAnyH_take (i := 5) (oi := { dst := some 17, op := Op.move (Operand.tmp 0), type := 47, pos := "ideal.go:39", after := #[{ on := 4, ground := Ground.guard }], guard := some (4, false) }) (v := ?vn5) rfl (by kernel_rfl) (by kernel_rfl) (by kernel_rfl) (fun _ _ _ h => h) (Or.inl ⟨by rfl, ?hyn5⟩) hHeld ?_
  case hyn5 => (intro w hSw; (try dsimp only at hSw); go_simp; (try with_reducible rfl))
  try simp only [Act.put, List.setIfInBounds_toArray, List.set_cons_zero, List.set_cons_succ]
  refine wpAnyH_take (i := 6) (oi := { dst := some 18, op := Op.nilCheck (Operand.tmp 17), type := 0, pos := "ideal.go:39", after := #[{ on := 5, ground := Ground.data }, { on := 4, ground := Ground.guard }], guard := some (4, false) }) (v := ?vn6) rfl (by kernel_rfl) (by kernel_rfl) (by kernel_rfl) (fun _ _ _ h => h) (Or.inl ⟨by rfl, ?hyn6⟩) hHeld ?_
  case hyn6 => (intro w hSw; (try dsimp only at hSw); go_simp; (try with_reducible rfl))
  try simp only [Act.put, List.setIfInBounds_toArray, List.set_cons_zero, List.set_cons_succ]
  refine wpAnyH_take (i := 7) (oi := { dst := some 19, op := Op.fieldAddr 78 (Operand.tmp 18) 0, type := 0, pos := "ideal.go:39", after := #[{ on := 6, ground := Ground.data }, { on := 4, ground := Ground.guard }], guard := some (4, false) }) (v := ?vn7) rfl (by kernel_rfl) (by kernel_rfl) (by kernel_rfl) (fun _ _ _ h => h) (Or.inl ⟨by rfl, ?hyn7⟩) hHeld ?_
  case hyn7 => (intro w hSw; (try dsimp only at hSw); go_simp; (try with_reducible rfl))
  try simp only [Act.put, List.setIfInBounds_toArray, List.set_cons_zero, List.set_cons_succ]
  refine wpAnyH_take (i := 8) (oi := { dst := some 20, op := Op.load 39 (Operand.tmp 19), type := 39, pos := "ideal.go:39", after := #[{ on := 7, ground := Ground.data }, { on := 4, ground := Ground.guard }], guard := some (4, false) }) (v := ?vn8) rfl (by kernel_rfl) (by kernel_rfl) (by kernel_rfl) (fun _ _ _ h => h) (Or.inl ⟨by rfl, ?hyn8⟩) hHeld ?_
  case hyn8 => (intro w hSw; (try dsimp only at hSw); go_simp; (try with_reducible rfl))
  try simp only [Act.put, List.setIfInBounds_toArray, List.set_cons_zero, List.set_cons_succ]
  refine wpAnyH_take (i := 9) (oi := { dst := some 21, op := Op.load 26 (Operand.tmp 6), type := 26, pos := "ideal.go:39", after := #[{ on := 4, ground := Ground.guard }], guard := some (4, false) }) (v := ?vn9) rfl (by kernel_rfl) (by kernel_rfl) (by kernel_rfl) (fun _ _ _ h => h) (Or.inl ⟨by rfl, ?hyn9⟩) hHeld ?_
  case hyn9 => (intro w hSw; (try dsimp only at hSw); go_simp; (try with_reducible rfl))
  try simp only [Act.put, List.setIfInBounds_toArray, List.set_cons_zero, List.set_cons_succ]
  refine wpAnyH_ready (rs := [10]) (by kernel_rfl) (by simp) ?_
  refine AllReadyH.cons (o := { dst := some 22, op := Op.call { callee := Callee.value (Operand.func 43), args := #[Operand.tmp 20, Operand.tmp 21], argTypes := #[39, 26] }, type := 44, pos := "ideal.go:39", after := #[{ on := 8, ground := Ground.data }, { on := 9, ground := Ground.data }, { on := 4, ground := Ground.chain }, { on := 4, ground := Ground.guard }], guard := some (4, false) }) rfl (fun K hK => ?_) AllReadyH.nil
  go_simp
  refine (HC.out _ HB1.out).mono ?_
  rintro e W2 ⟨rfl, hW2⟩
  have HH2 := Lib.hid (HH1.out.below hW2)
  have HA2 := Lib.hid (HA1.out.below hW2)
  have HB2 := Lib.hid (belowOn HB1.out hW2)
  clear hW2 HH1 HA1 HB1 HC
  clear x0 x1 x2 x3 o0 o1 o2 o3 hHeld
  obtain ⟨x0, x1, x2, x3, _, _, _, _⟩ := HH2.out.cells
  obtain ⟨o0, o1, o2, o3, _⟩ := HA2.out.cells
  refine hK.out _ _ ?_ (fun hHeld => ?_)
  · exact ⟨x0, x1, x2, x3, o0, o1, o2, o3⟩
  clear hK K
  try simp only [Act.put, List.setIfInBounds_toArray, List.set_cons_zero, List.set_cons_succ]
  refine wpAnyH_take (i := 11) (oi := { dst := some 23, op := Op.binOp BinOp.neq 44 (Operand.tmp 22) (Operand.const (Value.int IntKind.i64 0)) 44, type := 4, pos := "ideal.go:39", after := #[{ on := 10, ground := Ground.data }, { on := 4, ground := Ground.guard }], guard := some (4, false) }) (v := ?vn11) rfl (by kernel_rfl) (by kernel_rfl) (by kernel_rfl) (fun _ _ _ h => h) (Or.inl ⟨by rfl, ?hyn11⟩) hHeld ?_
  case hyn11 => (intro w hSw; (try dsimp only at hSw); go_simp; (try with_reducible rfl))
  try simp only [Act.put, List.setIfInBounds_toArray, List.set_cons_zero, List.set_cons_succ]
  refine wpAnyH_take (i := 12) (oi := { dst := some 24, op := Op.pick (Operand.tmp 16) (Operand.const (Value.bool true)) (Operand.tmp 23), type := 4, pos := "ideal.go:39", after := #[{ on := 4, ground := Ground.data }, { on := 11, ground := Ground.data }], guard := none }) (v := ?vn12) rfl (by kernel_rfl) (by kernel_rfl) (by kernel_rfl) (fun _ _ _ h => h) (Or.inl ⟨by rfl, ?hyn12⟩) hHeld ?_
  case hyn12 => (intro w hSw; (try dsimp only at hSw); go_simp; (try with_reducible rfl))
  try simp only [Act.put, List.setIfInBounds_toArray, List.set_cons_zero, List.set_cons_succ]
  refine wpAnyH_done (by kernel_rfl) ?_ _
  clear hHeld
  go_wp2_with fail
  go_ret
  exact DoPost.after HB2.out ⟨v, rfl, HH2.out, fun _ e => .inl e, .refl⟩
set_option maxHeartbeats 1600000 in
theorem Do_1 (h : StoreAt w X R L v b c d s) (hS : SpansAt w) (hRw : RowsAt w) (m x y z : Int) (full : Bool) (_ : s.n + 1 ≤ 1000000) (hg : goodOp b c d m 1 x y z) : Calls Tryz.prog 22 #[.pointer (some ⟨X, 0, none⟩), .int .i64 m, .agg #[.int .i64 1, .int .i64 x, .int .i64 y, .int .i64 z], .bool full] w (DoPost w X R L v b c d (nxtK s m 1 x y z full) (resK s m 1 x y full)) := by
  obtain ⟨_, n1, n2, n3, n4, n5, n6⟩ := hg.nums
  obtain ⟨hm0, hm1, hck⟩ := hg
  obtain ⟨m, rfl⟩ := nat_of hm0
  have hm : m < b := by omega
  have HF : Hid (∀ W, StoreAt W X R L v b c d s → Calls Tryz.prog 50 #[.pointer (some ⟨X, 0, none⟩), .slice (some ⟨R, m * c, none⟩) c (b * c - m * c), .agg #[.int .i64 1, .int .i64 x, .int .i64 y, .int .i64 z]] W (DoPost W X R L v b c d (nxtK s m 1 x y z full) (resK s m 1 x y full))) := Lib.hid (fun W hW => by
    obtain ⟨x, rfl⟩ := nat_of (n1 (by decide)).1
    obtain ⟨y, rfl⟩ := nat_of (n3 rfl).1
    exact (bring_set hW m x y z hm (by have := n1 (by decide); omega) (by have := n3 rfl; omega) _).mono fun _ _ h => h.does)
  have hb := (below_new w (.cells #[.int .i64 1, .int .i64 x, .int .i64 y, .int .i64 z] 26)).drew
  have HH := Lib.hid (h.below hb)
  have HA : Hid (Arr4 (w.alloc (.cells #[.int .i64 1, .int .i64 x, .int .i64 y, .int .i64 z] 26)).drew w.heap.size 26 1 x y z) := Lib.hid (Arr4.new _ _ _ _ _ _)
  have HB := Lib.hid hb
  have HM : Hid (∀ W, StoreAt W X R L v b c d s → _) := Lib.hid (fun W hW => hasMut_yes (w := W) hW m hm)
  have HC : Hid (∀ W, Below w.heap.size w W → _) := Lib.hid (fun W hW => opCheck_c 2 b c d 1 x y z W (hS.below hW) (hRw.below hW))
  rw [hck] at HC
  have HO : Hid (∀ W, StoreAt W X R L v b c d s → _) := Lib.hid (fun W hW => own_c (w := W) hW m hm)
  generalize nxtK s m 1 x y z full = s' at *
  generalize resK s m 1 x y full = r at *
  generalize b * c - m * c = cc at *
  generalize m * c = q at *
  clear h hb hm hS hRw hck hm0 hm1 n1 n2 n3 n4 n5 n6
  obtain ⟨x0, x1, x2, x3, _, _, _, _⟩ := HH.out.cells
  obtain ⟨o0, o1, o2, o3, _⟩ := HA.out.cells
  go_enter Tryz.func22, Tryz.ntmps22
  go_wp2_with fail
  refine wp_region_held_drew (S := (fun w' => w'.cell? ⟨X, 0, none⟩ = some (.int .i64 2) ∧ w'.cell? ⟨X, 1, none⟩ = some (.int .i64 b) ∧ w'.cell? ⟨X, 2, none⟩ = some (.int .i64 c) ∧ w'.cell? ⟨X, 3, none⟩ = some (.int .i64 d) ∧ w'.cell? ⟨w.heap.size, 0, none⟩ = some (.int .i64 1) ∧ w'.cell? ⟨w.heap.size, 1, none⟩ = some (.int .i64 x) ∧ w'.cell? ⟨w.heap.size, 2, none⟩ = some (.int .i64 y) ∧ w'.cell? ⟨w.heap.size, 3, none⟩ = some (.int .i64 z))) (by kernel_rfl) ?_ (fun hHeld => ?_)
  · exact ⟨x0, x1, x2, x3, o0, o1, o2, o3⟩
  refine wpAnyH_take (i := 0) (oi := { dst := some 12, op := Op.move (Operand.tmp 0), type := 47, pos := "ideal.go:39", after := #[], guard := none }) (v := ?vn0) rfl (by kernel_rfl) (by kernel_rfl) (by kernel_rfl) (fun _ _ _ h => h) (Or.inl ⟨by rfl, ?hyn0⟩) hHeld ?_
  case hyn0 => (intro w hSw; (try dsimp only at hSw); go_simp; (try with_reducible rfl))
  try simp only [Act.put, List.setIfInBounds_toArray, List.set_cons_zero, List.set_cons_succ]
  refine wpAnyH_take (i := 1) (oi := { dst := some 13, op := Op.move (Operand.tmp 1), type := 3, pos := "ideal.go:39", after := #[], guard := none }) (v := ?vn1) rfl (by kernel_rfl) (by kernel_rfl) (by kernel_rfl) (fun _ _ _ h => h) (Or.inl ⟨by rfl, ?hyn1⟩) hHeld ?_
  case hyn1 => (intro w hSw; (try dsimp only at hSw); go_simp; (try with_reducible rfl))
  try simp only [Act.put, List.setIfInBounds_toArray, List.set_cons_zero, List.set_cons_succ]
  refine wpAnyH_ready (rs := [2]) (by kernel_rfl) (by simp) ?_
  refine AllReadyH.cons (o := { dst := some 14, op := Op.call { callee := Callee.value (Operand.func 42), args := #[Operand.tmp 12, Operand.tmp 13], argTypes := #[47, 3] }, type := 4, pos := "ideal.go:39", after := #[{ on := 0, ground := Ground.data }, { on := 1, ground := Ground.data }], guard := none }) rfl (fun K hK => ?_) AllReadyH.nil
  go_simp
  refine (HM.out _ HH.out).mono ?_
  rintro e W1 ⟨rfl, hW1⟩
  have HH1 := Lib.hid (show StoreAt W1 X R L v b c d s by rw [← hW1]; exact HH.out)
  have HA1 := Lib.hid (show Arr4 W1 w.heap.size 26 1 x y z by rw [← hW1]; exact HA.out)
  have HB1 := Lib.hid (show Below w.heap.size w W1 by rw [← hW1]; exact HB.out)
  clear hW1 HH HA HB HM
  clear x0 x1 x2 x3 o0 o1 o2 o3 hHeld
  obtain ⟨x0, x1, x2, x3, _, _, _, _⟩ := HH1.out.cells
  obtain ⟨o0, o1, o2, o3, _⟩ := HA1.out.cells
  refine hK.out _ _ ?_ (fun hHeld => ?_)
  · exact ⟨x0, x1, x2, x3, o0, o1, o2, o3⟩
  clear hK K
  try simp only [Act.put, List.setIfInBounds_toArray, List.set_cons_zero, List.set_cons_succ]
  refine wpAnyH_take (i := 3) (oi := { dst := some 15, op := Op.unOp UnOp.not 4 (Operand.tmp 14), type := 4, pos := "ideal.go:39", after := #[{ on := 2, ground := Ground.data }], guard := none }) (v := ?vn3) rfl (by kernel_rfl) (by kernel_rfl) (by kernel_rfl) (fun _ _ _ h => h) (Or.inl ⟨by rfl, ?hyn3⟩) hHeld ?_
  case hyn3 => (intro w hSw; (try dsimp only at hSw); go_simp; (try with_reducible rfl))
  try simp only [Act.put, List.setIfInBounds_toArray, List.set_cons_zero, List.set_cons_succ]
  refine wpAnyH_take (i := 4) (oi := { dst := some 16, op := Op.move (Operand.tmp 15), type := 4, pos := "ideal.go:39", after := #[{ on := 3, ground := Ground.data }, { on := 2, ground := Ground.chain }], guard := none }) (v := ?vn4) rfl (by kernel_rfl) (by kernel_rfl) (by kernel_rfl) (fun _ _ _ h => h) (Or.inl ⟨by rfl, ?hyn4⟩) hHeld ?_
  case hyn4 => (intro w hSw; (try dsimp only at hSw); go_simp; (try with_reducible rfl))
  try simp only [Act.put, List.setIfInBounds_toArray, List.set_cons_zero, List.set_cons_succ]
  refine wpAnyH_take (i := 5) (oi := { dst := some 17, op := Op.move (Operand.tmp 0), type := 47, pos := "ideal.go:39", after := #[{ on := 4, ground := Ground.guard }], guard := some (4, false) }) (v := ?vn5) rfl (by kernel_rfl) (by kernel_rfl) (by kernel_rfl) (fun _ _ _ h => h) (Or.inl ⟨by rfl, ?hyn5⟩) hHeld ?_
  case hyn5 => (intro w hSw; (try dsimp only at hSw); go_simp; (try with_reducible rfl))
  try simp only [Act.put, List.setIfInBounds_toArray, List.set_cons_zero, List.set_cons_succ]
  refine wpAnyH_take (i := 6) (oi := { dst := some 18, op := Op.nilCheck (Operand.tmp 17), type := 0, pos := "ideal.go:39", after := #[{ on := 5, ground := Ground.data }, { on := 4, ground := Ground.guard }], guard := some (4, false) }) (v := ?vn6) rfl (by kernel_rfl) (by kernel_rfl) (by kernel_rfl) (fun _ _ _ h => h) (Or.inl ⟨by rfl, ?hyn6⟩) hHeld ?_
  case hyn6 => (intro w hSw; (try dsimp only at hSw); go_simp; (try with_reducible rfl))
  try simp only [Act.put, List.setIfInBounds_toArray, List.set_cons_zero, List.set_cons_succ]
  refine wpAnyH_take (i := 7) (oi := { dst := some 19, op := Op.fieldAddr 78 (Operand.tmp 18) 0, type := 0, pos := "ideal.go:39", after := #[{ on := 6, ground := Ground.data }, { on := 4, ground := Ground.guard }], guard := some (4, false) }) (v := ?vn7) rfl (by kernel_rfl) (by kernel_rfl) (by kernel_rfl) (fun _ _ _ h => h) (Or.inl ⟨by rfl, ?hyn7⟩) hHeld ?_
  case hyn7 => (intro w hSw; (try dsimp only at hSw); go_simp; (try with_reducible rfl))
  try simp only [Act.put, List.setIfInBounds_toArray, List.set_cons_zero, List.set_cons_succ]
  refine wpAnyH_take (i := 8) (oi := { dst := some 20, op := Op.load 39 (Operand.tmp 19), type := 39, pos := "ideal.go:39", after := #[{ on := 7, ground := Ground.data }, { on := 4, ground := Ground.guard }], guard := some (4, false) }) (v := ?vn8) rfl (by kernel_rfl) (by kernel_rfl) (by kernel_rfl) (fun _ _ _ h => h) (Or.inl ⟨by rfl, ?hyn8⟩) hHeld ?_
  case hyn8 => (intro w hSw; (try dsimp only at hSw); go_simp; (try with_reducible rfl))
  try simp only [Act.put, List.setIfInBounds_toArray, List.set_cons_zero, List.set_cons_succ]
  refine wpAnyH_take (i := 9) (oi := { dst := some 21, op := Op.load 26 (Operand.tmp 6), type := 26, pos := "ideal.go:39", after := #[{ on := 4, ground := Ground.guard }], guard := some (4, false) }) (v := ?vn9) rfl (by kernel_rfl) (by kernel_rfl) (by kernel_rfl) (fun _ _ _ h => h) (Or.inl ⟨by rfl, ?hyn9⟩) hHeld ?_
  case hyn9 => (intro w hSw; (try dsimp only at hSw); go_simp; (try with_reducible rfl))
  try simp only [Act.put, List.setIfInBounds_toArray, List.set_cons_zero, List.set_cons_succ]
  refine wpAnyH_ready (rs := [10]) (by kernel_rfl) (by simp) ?_
  refine AllReadyH.cons (o := { dst := some 22, op := Op.call { callee := Callee.value (Operand.func 43), args := #[Operand.tmp 20, Operand.tmp 21], argTypes := #[39, 26] }, type := 44, pos := "ideal.go:39", after := #[{ on := 8, ground := Ground.data }, { on := 9, ground := Ground.data }, { on := 4, ground := Ground.chain }, { on := 4, ground := Ground.guard }], guard := some (4, false) }) rfl (fun K hK => ?_) AllReadyH.nil
  go_simp
  refine (HC.out _ HB1.out).mono ?_
  rintro e W2 ⟨rfl, hW2⟩
  have HH2 := Lib.hid (HH1.out.below hW2)
  have HA2 := Lib.hid (HA1.out.below hW2)
  have HB2 := Lib.hid (belowOn HB1.out hW2)
  clear hW2 HH1 HA1 HB1 HC
  clear x0 x1 x2 x3 o0 o1 o2 o3 hHeld
  obtain ⟨x0, x1, x2, x3, _, _, _, _⟩ := HH2.out.cells
  obtain ⟨o0, o1, o2, o3, _⟩ := HA2.out.cells
  refine hK.out _ _ ?_ (fun hHeld => ?_)
  · exact ⟨x0, x1, x2, x3, o0, o1, o2, o3⟩
  clear hK K
  try simp only [Act.put, List.setIfInBounds_toArray, List.set_cons_zero, List.set_cons_succ]
  refine wpAnyH_take (i := 11) (oi := { dst := some 23, op := Op.binOp BinOp.neq 44 (Operand.tmp 22) (Operand.const (Value.int IntKind.i64 0)) 44, type := 4, pos := "ideal.go:39", after := #[{ on := 10, ground := Ground.data }, { on := 4, ground := Ground.guard }], guard := some (4, false) }) (v := ?vn11) rfl (by kernel_rfl) (by kernel_rfl) (by kernel_rfl) (fun _ _ _ h => h) (Or.inl ⟨by rfl, ?hyn11⟩) hHeld ?_
  case hyn11 => (intro w hSw; (try dsimp only at hSw); go_simp; (try with_reducible rfl))
  try simp only [Act.put, List.setIfInBounds_toArray, List.set_cons_zero, List.set_cons_succ]
  refine wpAnyH_take (i := 12) (oi := { dst := some 24, op := Op.pick (Operand.tmp 16) (Operand.const (Value.bool true)) (Operand.tmp 23), type := 4, pos := "ideal.go:39", after := #[{ on := 4, ground := Ground.data }, { on := 11, ground := Ground.data }], guard := none }) (v := ?vn12) rfl (by kernel_rfl) (by kernel_rfl) (by kernel_rfl) (fun _ _ _ h => h) (Or.inl ⟨by rfl, ?hyn12⟩) hHeld ?_
  case hyn12 => (intro w hSw; (try dsimp only at hSw); go_simp; (try with_reducible rfl))
  try simp only [Act.put, List.setIfInBounds_toArray, List.set_cons_zero, List.set_cons_succ]
  refine wpAnyH_done (by kernel_rfl) ?_ _
  clear hHeld
  go_wp2_with fail
  refine (HO.out _ HH2.out).mono ?_
  rintro e W3 ⟨rfl, hW3⟩
  have HH3 := Lib.hid (HH2.out.below hW3)
  have HA3 := Lib.hid (HA2.out.below hW3)
  have HB3 := Lib.hid (belowOn HB2.out hW3)
  clear hW3 HH2 HA2 HB2 HO x0 x1 x2 x3 o0 o1 o2 o3
  obtain ⟨o0, o1, o2, o3, _⟩ := HA3.out.cells
  go_wp2_with fail
  refine (HF.out _ HH3.out).mono ?_
  rintro e W4 hP
  have HP := Lib.hid (hP.after HB3.out)
  obtain ⟨v', rfl, _⟩ := hP
  clear HF
  go_wp2_with fail
  go_ret
  exact HP.out
set_option maxHeartbeats 1600000 in
theorem Do_2 (h : StoreAt w X R L v b c d s) (hS : SpansAt w) (hRw : RowsAt w) (m x y z : Int) (full : Bool) (_ : s.n + 1 ≤ 1000000) (hg : goodOp b c d m 2 x y z) : Calls Tryz.prog 22 #[.pointer (some ⟨X, 0, none⟩), .int .i64 m, .agg #[.int .i64 2, .int .i64 x, .int .i64 y, .int .i64 z], .bool full] w (DoPost w X R L v b c d (nxtK s m 2 x y z full) (resK s m 2 x y full)) := by
  obtain ⟨_, n1, n2, n3, n4, n5, n6⟩ := hg.nums
  obtain ⟨hm0, hm1, hck⟩ := hg
  obtain ⟨m, rfl⟩ := nat_of hm0
  have hm : m < b := by omega
  have HF : Hid (∀ W, StoreAt W X R L v b c d s → Calls Tryz.prog 50 #[.pointer (some ⟨X, 0, none⟩), .slice (some ⟨R, m * c, none⟩) c (b * c - m * c), .agg #[.int .i64 2, .int .i64 x, .int .i64 y, .int .i64 z]] W (DoPost W X R L v b c d (nxtK s m 2 x y z full) (resK s m 2 x y full))) := Lib.hid (fun W hW => by
    obtain ⟨x, rfl⟩ := nat_of (n1 (by decide)).1
    obtain ⟨y, rfl⟩ := nat_of (n5 (by decide) (by decide) (by decide)).1
    exact (bring_move hW m x y z hm (by have := n1 (by decide); omega) (by have := n5 (by decide) (by decide) (by decide); omega) _).mono fun _ _ h => h.does)
  have hb := (below_new w (.cells #[.int .i64 2, .int .i64 x, .int .i64 y, .int .i64 z] 26)).drew
  have HH := Lib.hid (h.below hb)
  have HA : Hid (Arr4 (w.alloc (.cells #[.int .i64 2, .int .i64 x, .int .i64 y, .int .i64 z] 26)).drew w.heap.size 26 2 x y z) := Lib.hid (Arr4.new _ _ _ _ _ _)
  have HB := Lib.hid hb
  have HM : Hid (∀ W, StoreAt W X R L v b c d s → _) := Lib.hid (fun W hW => hasMut_yes (w := W) hW m hm)
  have HC : Hid (∀ W, Below w.heap.size w W → _) := Lib.hid (fun W hW => opCheck_c 2 b c d 2 x y z W (hS.below hW) (hRw.below hW))
  rw [hck] at HC
  have HO : Hid (∀ W, StoreAt W X R L v b c d s → _) := Lib.hid (fun W hW => own_c (w := W) hW m hm)
  generalize nxtK s m 2 x y z full = s' at *
  generalize resK s m 2 x y full = r at *
  generalize b * c - m * c = cc at *
  generalize m * c = q at *
  clear h hb hm hS hRw hck hm0 hm1 n1 n2 n3 n4 n5 n6
  obtain ⟨x0, x1, x2, x3, _, _, _, _⟩ := HH.out.cells
  obtain ⟨o0, o1, o2, o3, _⟩ := HA.out.cells
  go_enter Tryz.func22, Tryz.ntmps22
  go_wp2_with fail
  refine wp_region_held_drew (S := (fun w' => w'.cell? ⟨X, 0, none⟩ = some (.int .i64 2) ∧ w'.cell? ⟨X, 1, none⟩ = some (.int .i64 b) ∧ w'.cell? ⟨X, 2, none⟩ = some (.int .i64 c) ∧ w'.cell? ⟨X, 3, none⟩ = some (.int .i64 d) ∧ w'.cell? ⟨w.heap.size, 0, none⟩ = some (.int .i64 2) ∧ w'.cell? ⟨w.heap.size, 1, none⟩ = some (.int .i64 x) ∧ w'.cell? ⟨w.heap.size, 2, none⟩ = some (.int .i64 y) ∧ w'.cell? ⟨w.heap.size, 3, none⟩ = some (.int .i64 z))) (by kernel_rfl) ?_ (fun hHeld => ?_)
  · exact ⟨x0, x1, x2, x3, o0, o1, o2, o3⟩
  refine wpAnyH_take (i := 0) (oi := { dst := some 12, op := Op.move (Operand.tmp 0), type := 47, pos := "ideal.go:39", after := #[], guard := none }) (v := ?vn0) rfl (by kernel_rfl) (by kernel_rfl) (by kernel_rfl) (fun _ _ _ h => h) (Or.inl ⟨by rfl, ?hyn0⟩) hHeld ?_
  case hyn0 => (intro w hSw; (try dsimp only at hSw); go_simp; (try with_reducible rfl))
  try simp only [Act.put, List.setIfInBounds_toArray, List.set_cons_zero, List.set_cons_succ]
  refine wpAnyH_take (i := 1) (oi := { dst := some 13, op := Op.move (Operand.tmp 1), type := 3, pos := "ideal.go:39", after := #[], guard := none }) (v := ?vn1) rfl (by kernel_rfl) (by kernel_rfl) (by kernel_rfl) (fun _ _ _ h => h) (Or.inl ⟨by rfl, ?hyn1⟩) hHeld ?_
  case hyn1 => (intro w hSw; (try dsimp only at hSw); go_simp; (try with_reducible rfl))
  try simp only [Act.put, List.setIfInBounds_toArray, List.set_cons_zero, List.set_cons_succ]
  refine wpAnyH_ready (rs := [2]) (by kernel_rfl) (by simp) ?_
  refine AllReadyH.cons (o := { dst := some 14, op := Op.call { callee := Callee.value (Operand.func 42), args := #[Operand.tmp 12, Operand.tmp 13], argTypes := #[47, 3] }, type := 4, pos := "ideal.go:39", after := #[{ on := 0, ground := Ground.data }, { on := 1, ground := Ground.data }], guard := none }) rfl (fun K hK => ?_) AllReadyH.nil
  go_simp
  refine (HM.out _ HH.out).mono ?_
  rintro e W1 ⟨rfl, hW1⟩
  have HH1 := Lib.hid (show StoreAt W1 X R L v b c d s by rw [← hW1]; exact HH.out)
  have HA1 := Lib.hid (show Arr4 W1 w.heap.size 26 2 x y z by rw [← hW1]; exact HA.out)
  have HB1 := Lib.hid (show Below w.heap.size w W1 by rw [← hW1]; exact HB.out)
  clear hW1 HH HA HB HM
  clear x0 x1 x2 x3 o0 o1 o2 o3 hHeld
  obtain ⟨x0, x1, x2, x3, _, _, _, _⟩ := HH1.out.cells
  obtain ⟨o0, o1, o2, o3, _⟩ := HA1.out.cells
  refine hK.out _ _ ?_ (fun hHeld => ?_)
  · exact ⟨x0, x1, x2, x3, o0, o1, o2, o3⟩
  clear hK K
  try simp only [Act.put, List.setIfInBounds_toArray, List.set_cons_zero, List.set_cons_succ]
  refine wpAnyH_take (i := 3) (oi := { dst := some 15, op := Op.unOp UnOp.not 4 (Operand.tmp 14), type := 4, pos := "ideal.go:39", after := #[{ on := 2, ground := Ground.data }], guard := none }) (v := ?vn3) rfl (by kernel_rfl) (by kernel_rfl) (by kernel_rfl) (fun _ _ _ h => h) (Or.inl ⟨by rfl, ?hyn3⟩) hHeld ?_
  case hyn3 => (intro w hSw; (try dsimp only at hSw); go_simp; (try with_reducible rfl))
  try simp only [Act.put, List.setIfInBounds_toArray, List.set_cons_zero, List.set_cons_succ]
  refine wpAnyH_take (i := 4) (oi := { dst := some 16, op := Op.move (Operand.tmp 15), type := 4, pos := "ideal.go:39", after := #[{ on := 3, ground := Ground.data }, { on := 2, ground := Ground.chain }], guard := none }) (v := ?vn4) rfl (by kernel_rfl) (by kernel_rfl) (by kernel_rfl) (fun _ _ _ h => h) (Or.inl ⟨by rfl, ?hyn4⟩) hHeld ?_
  case hyn4 => (intro w hSw; (try dsimp only at hSw); go_simp; (try with_reducible rfl))
  try simp only [Act.put, List.setIfInBounds_toArray, List.set_cons_zero, List.set_cons_succ]
  refine wpAnyH_take (i := 5) (oi := { dst := some 17, op := Op.move (Operand.tmp 0), type := 47, pos := "ideal.go:39", after := #[{ on := 4, ground := Ground.guard }], guard := some (4, false) }) (v := ?vn5) rfl (by kernel_rfl) (by kernel_rfl) (by kernel_rfl) (fun _ _ _ h => h) (Or.inl ⟨by rfl, ?hyn5⟩) hHeld ?_
  case hyn5 => (intro w hSw; (try dsimp only at hSw); go_simp; (try with_reducible rfl))
  try simp only [Act.put, List.setIfInBounds_toArray, List.set_cons_zero, List.set_cons_succ]
  refine wpAnyH_take (i := 6) (oi := { dst := some 18, op := Op.nilCheck (Operand.tmp 17), type := 0, pos := "ideal.go:39", after := #[{ on := 5, ground := Ground.data }, { on := 4, ground := Ground.guard }], guard := some (4, false) }) (v := ?vn6) rfl (by kernel_rfl) (by kernel_rfl) (by kernel_rfl) (fun _ _ _ h => h) (Or.inl ⟨by rfl, ?hyn6⟩) hHeld ?_
  case hyn6 => (intro w hSw; (try dsimp only at hSw); go_simp; (try with_reducible rfl))
  try simp only [Act.put, List.setIfInBounds_toArray, List.set_cons_zero, List.set_cons_succ]
  refine wpAnyH_take (i := 7) (oi := { dst := some 19, op := Op.fieldAddr 78 (Operand.tmp 18) 0, type := 0, pos := "ideal.go:39", after := #[{ on := 6, ground := Ground.data }, { on := 4, ground := Ground.guard }], guard := some (4, false) }) (v := ?vn7) rfl (by kernel_rfl) (by kernel_rfl) (by kernel_rfl) (fun _ _ _ h => h) (Or.inl ⟨by rfl, ?hyn7⟩) hHeld ?_
  case hyn7 => (intro w hSw; (try dsimp only at hSw); go_simp; (try with_reducible rfl))
  try simp only [Act.put, List.setIfInBounds_toArray, List.set_cons_zero, List.set_cons_succ]
  refine wpAnyH_take (i := 8) (oi := { dst := some 20, op := Op.load 39 (Operand.tmp 19), type := 39, pos := "ideal.go:39", after := #[{ on := 7, ground := Ground.data }, { on := 4, ground := Ground.guard }], guard := some (4, false) }) (v := ?vn8) rfl (by kernel_rfl) (by kernel_rfl) (by kernel_rfl) (fun _ _ _ h => h) (Or.inl ⟨by rfl, ?hyn8⟩) hHeld ?_
  case hyn8 => (intro w hSw; (try dsimp only at hSw); go_simp; (try with_reducible rfl))
  try simp only [Act.put, List.setIfInBounds_toArray, List.set_cons_zero, List.set_cons_succ]
  refine wpAnyH_take (i := 9) (oi := { dst := some 21, op := Op.load 26 (Operand.tmp 6), type := 26, pos := "ideal.go:39", after := #[{ on := 4, ground := Ground.guard }], guard := some (4, false) }) (v := ?vn9) rfl (by kernel_rfl) (by kernel_rfl) (by kernel_rfl) (fun _ _ _ h => h) (Or.inl ⟨by rfl, ?hyn9⟩) hHeld ?_
  case hyn9 => (intro w hSw; (try dsimp only at hSw); go_simp; (try with_reducible rfl))
  try simp only [Act.put, List.setIfInBounds_toArray, List.set_cons_zero, List.set_cons_succ]
  refine wpAnyH_ready (rs := [10]) (by kernel_rfl) (by simp) ?_
  refine AllReadyH.cons (o := { dst := some 22, op := Op.call { callee := Callee.value (Operand.func 43), args := #[Operand.tmp 20, Operand.tmp 21], argTypes := #[39, 26] }, type := 44, pos := "ideal.go:39", after := #[{ on := 8, ground := Ground.data }, { on := 9, ground := Ground.data }, { on := 4, ground := Ground.chain }, { on := 4, ground := Ground.guard }], guard := some (4, false) }) rfl (fun K hK => ?_) AllReadyH.nil
  go_simp
  refine (HC.out _ HB1.out).mono ?_
  rintro e W2 ⟨rfl, hW2⟩
  have HH2 := Lib.hid (HH1.out.below hW2)
  have HA2 := Lib.hid (HA1.out.below hW2)
  have HB2 := Lib.hid (belowOn HB1.out hW2)
  clear hW2 HH1 HA1 HB1 HC
  clear x0 x1 x2 x3 o0 o1 o2 o3 hHeld
  obtain ⟨x0, x1, x2, x3, _, _, _, _⟩ := HH2.out.cells
  obtain ⟨o0, o1, o2, o3, _⟩ := HA2.out.cells
  refine hK.out _ _ ?_ (fun hHeld => ?_)
  · exact ⟨x0, x1, x2, x3, o0, o1, o2, o3⟩
  clear hK K
  try simp only [Act.put, List.setIfInBounds_toArray, List.set_cons_zero, List.set_cons_succ]
  refine wpAnyH_take (i := 11) (oi := { dst := some 23, op := Op.binOp BinOp.neq 44 (Operand.tmp 22) (Operand.const (Value.int IntKind.i64 0)) 44, type := 4, pos := "ideal.go:39", after := #[{ on := 10, ground := Ground.data }, { on := 4, ground := Ground.guard }], guard := some (4, false) }) (v := ?vn11) rfl (by kernel_rfl) (by kernel_rfl) (by kernel_rfl) (fun _ _ _ h => h) (Or.inl ⟨by rfl, ?hyn11⟩) hHeld ?_
  case hyn11 => (intro w hSw; (try dsimp only at hSw); go_simp; (try with_reducible rfl))
  try simp only [Act.put, List.setIfInBounds_toArray, List.set_cons_zero, List.set_cons_succ]
  refine wpAnyH_take (i := 12) (oi := { dst := some 24, op := Op.pick (Operand.tmp 16) (Operand.const (Value.bool true)) (Operand.tmp 23), type := 4, pos := "ideal.go:39", after := #[{ on := 4, ground := Ground.data }, { on := 11, ground := Ground.data }], guard := none }) (v := ?vn12) rfl (by kernel_rfl) (by kernel_rfl) (by kernel_rfl) (fun _ _ _ h => h) (Or.inl ⟨by rfl, ?hyn12⟩) hHeld ?_
  case hyn12 => (intro w hSw; (try dsimp only at hSw); go_simp; (try with_reducible rfl))
  try simp only [Act.put, List.setIfInBounds_toArray, List.set_cons_zero, List.set_cons_succ]
  refine wpAnyH_done (by kernel_rfl) ?_ _
  clear hHeld
  go_wp2_with fail
  refine (HO.out _ HH2.out).mono ?_
  rintro e W3 ⟨rfl, hW3⟩
  have HH3 := Lib.hid (HH2.out.below hW3)
  have HA3 := Lib.hid (HA2.out.below hW3)
  have HB3 := Lib.hid (belowOn HB2.out hW3)
  clear hW3 HH2 HA2 HB2 HO x0 x1 x2 x3 o0 o1 o2 o3
  obtain ⟨o0, o1, o2, o3, _⟩ := HA3.out.cells
  go_wp2_with fail
  refine (HF.out _ HH3.out).mono ?_
  rintro e W4 hP
  have HP := Lib.hid (hP.after HB3.out)
  obtain ⟨v', rfl, _⟩ := hP
  clear HF
  go_wp2_with fail
  go_ret
  exact HP.out
set_option maxHeartbeats 1600000 in
theorem Do_3 (h : StoreAt w X R L v b c d s) (hS : SpansAt w) (hRw : RowsAt w) (m x y z : Int) (full : Bool) (hn : s.n + 1 ≤ 1000000) (hg : goodOp b c d m 3 x y z) : Calls Tryz.prog 22 #[.pointer (some ⟨X, 0, none⟩), .int .i64 m, .agg #[.int .i64 3, .int .i64 x, .int .i64 y, .int .i64 z], .bool full] w (DoPost w X R L v b c d (nxtK s m 3 x y z full) (resK s m 3 x y full)) := by
  obtain ⟨_, n1, n2, n3, n4, n5, n6⟩ := hg.nums
  obtain ⟨hm0, hm1, hck⟩ := hg
  obtain ⟨m, rfl⟩ := nat_of hm0
  have hm : m < b := by omega
  have HF : Hid (∀ W, StoreAt W X R L v b c d s → Calls Tryz.prog 45 #[.pointer (some ⟨X, 0, none⟩), .slice (some ⟨R, m * c, none⟩) c (b * c - m * c), .agg #[.int .i64 3, .int .i64 x, .int .i64 y, .int .i64 z], .bool full] W (DoPost W X R L v b c d (nxtK s m 3 x y z full) (resK s m 3 x y full))) := Lib.hid (fun W hW => by
    cases full
    · obtain ⟨x, rfl⟩ := nat_of (n1 (by decide)).1
      obtain ⟨y, rfl⟩ := nat_of (n5 (by decide) (by decide) (by decide)).1
      obtain ⟨z, rfl⟩ := nat_of (n6 rfl).1
      exact cons_c hW m x y z hm (by have := n1 (by decide); omega) (by have := n5 (by decide) (by decide) (by decide); omega) (by have := n6 rfl; omega) hn _
    · exact (cons_full hW _ 3 x y z).mono fun _ _ h => h.does)
  have hb := (below_new w (.cells #[.int .i64 3, .int .i64 x, .int .i64 y, .int .i64 z] 26)).drew
  have HH := Lib.hid (h.below hb)
  have HA : Hid (Arr4 (w.alloc (.cells #[.int .i64 3, .int .i64 x, .int .i64 y, .int .i64 z] 26)).drew w.heap.size 26 3 x y z) := Lib.hid (Arr4.new _ _ _ _ _ _)
  have HB := Lib.hid hb
  have HM : Hid (∀ W, StoreAt W X R L v b c d s → _) := Lib.hid (fun W hW => hasMut_yes (w := W) hW m hm)
  have HC : Hid (∀ W, Below w.heap.size w W → _) := Lib.hid (fun W hW => opCheck_c 2 b c d 3 x y z W (hS.below hW) (hRw.below hW))
  rw [hck] at HC
  have HO : Hid (∀ W, StoreAt W X R L v b c d s → _) := Lib.hid (fun W hW => own_c (w := W) hW m hm)
  generalize nxtK s m 3 x y z full = s' at *
  generalize resK s m 3 x y full = r at *
  generalize b * c - m * c = cc at *
  generalize m * c = q at *
  clear h hb hm hS hRw hck hm0 hm1 hn n1 n2 n3 n4 n5 n6
  obtain ⟨x0, x1, x2, x3, _, _, _, _⟩ := HH.out.cells
  obtain ⟨o0, o1, o2, o3, _⟩ := HA.out.cells
  go_enter Tryz.func22, Tryz.ntmps22
  go_wp2_with fail
  refine wp_region_held_drew (S := (fun w' => w'.cell? ⟨X, 0, none⟩ = some (.int .i64 2) ∧ w'.cell? ⟨X, 1, none⟩ = some (.int .i64 b) ∧ w'.cell? ⟨X, 2, none⟩ = some (.int .i64 c) ∧ w'.cell? ⟨X, 3, none⟩ = some (.int .i64 d) ∧ w'.cell? ⟨w.heap.size, 0, none⟩ = some (.int .i64 3) ∧ w'.cell? ⟨w.heap.size, 1, none⟩ = some (.int .i64 x) ∧ w'.cell? ⟨w.heap.size, 2, none⟩ = some (.int .i64 y) ∧ w'.cell? ⟨w.heap.size, 3, none⟩ = some (.int .i64 z))) (by kernel_rfl) ?_ (fun hHeld => ?_)
  · exact ⟨x0, x1, x2, x3, o0, o1, o2, o3⟩
  refine wpAnyH_take (i := 0) (oi := { dst := some 12, op := Op.move (Operand.tmp 0), type := 47, pos := "ideal.go:39", after := #[], guard := none }) (v := ?vn0) rfl (by kernel_rfl) (by kernel_rfl) (by kernel_rfl) (fun _ _ _ h => h) (Or.inl ⟨by rfl, ?hyn0⟩) hHeld ?_
  case hyn0 => (intro w hSw; (try dsimp only at hSw); go_simp; (try with_reducible rfl))
  try simp only [Act.put, List.setIfInBounds_toArray, List.set_cons_zero, List.set_cons_succ]
  refine wpAnyH_take (i := 1) (oi := { dst := some 13, op := Op.move (Operand.tmp 1), type := 3, pos := "ideal.go:39", after := #[], guard := none }) (v := ?vn1) rfl (by kernel_rfl) (by kernel_rfl) (by kernel_rfl) (fun _ _ _ h => h) (Or.inl ⟨by rfl, ?hyn1⟩) hHeld ?_
  case hyn1 => (intro w hSw; (try dsimp only at hSw); go_simp; (try with_reducible rfl))
  try simp only [Act.put, List.setIfInBounds_toArray, List.set_cons_zero, List.set_cons_succ]
  refine wpAnyH_ready (rs := [2]) (by kernel_rfl) (by simp) ?_
  refine AllReadyH.cons (o := { dst := some 14, op := Op.call { callee := Callee.value (Operand.func 42), args := #[Operand.tmp 12, Operand.tmp 13], argTypes := #[47, 3] }, type := 4, pos := "ideal.go:39", after := #[{ on := 0, ground := Ground.data }, { on := 1, ground := Ground.data }], guard := none }) rfl (fun K hK => ?_) AllReadyH.nil
  go_simp
  refine (HM.out _ HH.out).mono ?_
  rintro e W1 ⟨rfl, hW1⟩
  have HH1 := Lib.hid (show StoreAt W1 X R L v b c d s by rw [← hW1]; exact HH.out)
  have HA1 := Lib.hid (show Arr4 W1 w.heap.size 26 3 x y z by rw [← hW1]; exact HA.out)
  have HB1 := Lib.hid (show Below w.heap.size w W1 by rw [← hW1]; exact HB.out)
  clear hW1 HH HA HB HM
  clear x0 x1 x2 x3 o0 o1 o2 o3 hHeld
  obtain ⟨x0, x1, x2, x3, _, _, _, _⟩ := HH1.out.cells
  obtain ⟨o0, o1, o2, o3, _⟩ := HA1.out.cells
  refine hK.out _ _ ?_ (fun hHeld => ?_)
  · exact ⟨x0, x1, x2, x3, o0, o1, o2, o3⟩
  clear hK K
  try simp only [Act.put, List.setIfInBounds_toArray, List.set_cons_zero, List.set_cons_succ]
  refine wpAnyH_take (i := 3) (oi := { dst := some 15, op := Op.unOp UnOp.not 4 (Operand.tmp 14), type := 4, pos := "ideal.go:39", after := #[{ on := 2, ground := Ground.data }], guard := none }) (v := ?vn3) rfl (by kernel_rfl) (by kernel_rfl) (by kernel_rfl) (fun _ _ _ h => h) (Or.inl ⟨by rfl, ?hyn3⟩) hHeld ?_
  case hyn3 => (intro w hSw; (try dsimp only at hSw); go_simp; (try with_reducible rfl))
  try simp only [Act.put, List.setIfInBounds_toArray, List.set_cons_zero, List.set_cons_succ]
  refine wpAnyH_take (i := 4) (oi := { dst := some 16, op := Op.move (Operand.tmp 15), type := 4, pos := "ideal.go:39", after := #[{ on := 3, ground := Ground.data }, { on := 2, ground := Ground.chain }], guard := none }) (v := ?vn4) rfl (by kernel_rfl) (by kernel_rfl) (by kernel_rfl) (fun _ _ _ h => h) (Or.inl ⟨by rfl, ?hyn4⟩) hHeld ?_
  case hyn4 => (intro w hSw; (try dsimp only at hSw); go_simp; (try with_reducible rfl))
  try simp only [Act.put, List.setIfInBounds_toArray, List.set_cons_zero, List.set_cons_succ]
  refine wpAnyH_take (i := 5) (oi := { dst := some 17, op := Op.move (Operand.tmp 0), type := 47, pos := "ideal.go:39", after := #[{ on := 4, ground := Ground.guard }], guard := some (4, false) }) (v := ?vn5) rfl (by kernel_rfl) (by kernel_rfl) (by kernel_rfl) (fun _ _ _ h => h) (Or.inl ⟨by rfl, ?hyn5⟩) hHeld ?_
  case hyn5 => (intro w hSw; (try dsimp only at hSw); go_simp; (try with_reducible rfl))
  try simp only [Act.put, List.setIfInBounds_toArray, List.set_cons_zero, List.set_cons_succ]
  refine wpAnyH_take (i := 6) (oi := { dst := some 18, op := Op.nilCheck (Operand.tmp 17), type := 0, pos := "ideal.go:39", after := #[{ on := 5, ground := Ground.data }, { on := 4, ground := Ground.guard }], guard := some (4, false) }) (v := ?vn6) rfl (by kernel_rfl) (by kernel_rfl) (by kernel_rfl) (fun _ _ _ h => h) (Or.inl ⟨by rfl, ?hyn6⟩) hHeld ?_
  case hyn6 => (intro w hSw; (try dsimp only at hSw); go_simp; (try with_reducible rfl))
  try simp only [Act.put, List.setIfInBounds_toArray, List.set_cons_zero, List.set_cons_succ]
  refine wpAnyH_take (i := 7) (oi := { dst := some 19, op := Op.fieldAddr 78 (Operand.tmp 18) 0, type := 0, pos := "ideal.go:39", after := #[{ on := 6, ground := Ground.data }, { on := 4, ground := Ground.guard }], guard := some (4, false) }) (v := ?vn7) rfl (by kernel_rfl) (by kernel_rfl) (by kernel_rfl) (fun _ _ _ h => h) (Or.inl ⟨by rfl, ?hyn7⟩) hHeld ?_
  case hyn7 => (intro w hSw; (try dsimp only at hSw); go_simp; (try with_reducible rfl))
  try simp only [Act.put, List.setIfInBounds_toArray, List.set_cons_zero, List.set_cons_succ]
  refine wpAnyH_take (i := 8) (oi := { dst := some 20, op := Op.load 39 (Operand.tmp 19), type := 39, pos := "ideal.go:39", after := #[{ on := 7, ground := Ground.data }, { on := 4, ground := Ground.guard }], guard := some (4, false) }) (v := ?vn8) rfl (by kernel_rfl) (by kernel_rfl) (by kernel_rfl) (fun _ _ _ h => h) (Or.inl ⟨by rfl, ?hyn8⟩) hHeld ?_
  case hyn8 => (intro w hSw; (try dsimp only at hSw); go_simp; (try with_reducible rfl))
  try simp only [Act.put, List.setIfInBounds_toArray, List.set_cons_zero, List.set_cons_succ]
  refine wpAnyH_take (i := 9) (oi := { dst := some 21, op := Op.load 26 (Operand.tmp 6), type := 26, pos := "ideal.go:39", after := #[{ on := 4, ground := Ground.guard }], guard := some (4, false) }) (v := ?vn9) rfl (by kernel_rfl) (by kernel_rfl) (by kernel_rfl) (fun _ _ _ h => h) (Or.inl ⟨by rfl, ?hyn9⟩) hHeld ?_
  case hyn9 => (intro w hSw; (try dsimp only at hSw); go_simp; (try with_reducible rfl))
  try simp only [Act.put, List.setIfInBounds_toArray, List.set_cons_zero, List.set_cons_succ]
  refine wpAnyH_ready (rs := [10]) (by kernel_rfl) (by simp) ?_
  refine AllReadyH.cons (o := { dst := some 22, op := Op.call { callee := Callee.value (Operand.func 43), args := #[Operand.tmp 20, Operand.tmp 21], argTypes := #[39, 26] }, type := 44, pos := "ideal.go:39", after := #[{ on := 8, ground := Ground.data }, { on := 9, ground := Ground.data }, { on := 4, ground := Ground.chain }, { on := 4, ground := Ground.guard }], guard := some (4, false) }) rfl (fun K hK => ?_) AllReadyH.nil
  go_simp
  refine (HC.out _ HB1.out).mono ?_
  rintro e W2 ⟨rfl, hW2⟩
  have HH2 := Lib.hid (HH1.out.below hW2)
  have HA2 := Lib.hid (HA1.out.below hW2)
  have HB2 := Lib.hid (belowOn HB1.out hW2)
  clear hW2 HH1 HA1 HB1 HC
  clear x0 x1 x2 x3 o0 o1 o2 o3 hHeld
  obtain ⟨x0, x1, x2, x3, _, _, _, _⟩ := HH2.out.cells
  obtain ⟨o0, o1, o2, o3, _⟩ := HA2.out.cells
  refine hK.out _ _ ?_ (fun hHeld => ?_)
  · exact ⟨x0, x1, x2, x3, o0, o1, o2, o3⟩
  clear hK K
  try simp only [Act.put, List.setIfInBounds_toArray, List.set_cons_zero, List.set_cons_succ]
  refine wpAnyH_take (i := 11) (oi := { dst := some 23, op := Op.binOp BinOp.neq 44 (Operand.tmp 22) (Operand.const (Value.int IntKind.i64 0)) 44, type := 4, pos := "ideal.go:39", after := #[{ on := 10, ground := Ground.data }, { on := 4, ground := Ground.guard }], guard := some (4, false) }) (v := ?vn11) rfl (by kernel_rfl) (by kernel_rfl) (by kernel_rfl) (fun _ _ _ h => h) (Or.inl ⟨by rfl, ?hyn11⟩) hHeld ?_
  case hyn11 => (intro w hSw; (try dsimp only at hSw); go_simp; (try with_reducible rfl))
  try simp only [Act.put, List.setIfInBounds_toArray, List.set_cons_zero, List.set_cons_succ]
  refine wpAnyH_take (i := 12) (oi := { dst := some 24, op := Op.pick (Operand.tmp 16) (Operand.const (Value.bool true)) (Operand.tmp 23), type := 4, pos := "ideal.go:39", after := #[{ on := 4, ground := Ground.data }, { on := 11, ground := Ground.data }], guard := none }) (v := ?vn12) rfl (by kernel_rfl) (by kernel_rfl) (by kernel_rfl) (fun _ _ _ h => h) (Or.inl ⟨by rfl, ?hyn12⟩) hHeld ?_
  case hyn12 => (intro w hSw; (try dsimp only at hSw); go_simp; (try with_reducible rfl))
  try simp only [Act.put, List.setIfInBounds_toArray, List.set_cons_zero, List.set_cons_succ]
  refine wpAnyH_done (by kernel_rfl) ?_ _
  clear hHeld
  go_wp2_with fail
  refine (HO.out _ HH2.out).mono ?_
  rintro e W3 ⟨rfl, hW3⟩
  have HH3 := Lib.hid (HH2.out.below hW3)
  have HA3 := Lib.hid (HA2.out.below hW3)
  have HB3 := Lib.hid (belowOn HB2.out hW3)
  clear hW3 HH2 HA2 HB2 HO x0 x1 x2 x3 o0 o1 o2 o3
  obtain ⟨o0, o1, o2, o3, _⟩ := HA3.out.cells
  go_wp2_with fail
  refine (HF.out _ HH3.out).mono ?_
  rintro e W4 hP
  have HP := Lib.hid (hP.after HB3.out)
  obtain ⟨v', rfl, _⟩ := hP
  clear HF
  go_wp2_with fail
  go_ret
  exact HP.out
set_option maxHeartbeats 1600000 in
theorem Do_4 (h : StoreAt w X R L v b c d s) (hS : SpansAt w) (hRw : RowsAt w) (m x y z : Int) (full : Bool) (_ : s.n + 1 ≤ 1000000) (hg : goodOp b c d m 4 x y z) : Calls Tryz.prog 22 #[.pointer (some ⟨X, 0, none⟩), .int .i64 m, .agg #[.int .i64 4, .int .i64 x, .int .i64 y, .int .i64 z], .bool full] w (DoPost w X R L v b c d (nxtK s m 4 x y z full) (resK s m 4 x y full)) := by
  obtain ⟨_, n1, n2, n3, n4, n5, n6⟩ := hg.nums
  obtain ⟨hm0, hm1, hck⟩ := hg
  obtain ⟨m, rfl⟩ := nat_of hm0
  have hm : m < b := by omega
  have HF : Hid (∀ W, StoreAt W X R L v b c d s → Calls Tryz.prog 46 #[.pointer (some ⟨X, 0, none⟩), .slice (some ⟨R, m * c, none⟩) c (b * c - m * c), .agg #[.int .i64 4, .int .i64 x, .int .i64 y, .int .i64 z]] W (DoPost W X R L v b c d (nxtK s m 4 x y z full) (resK s m 4 x y full))) := Lib.hid (fun W hW => by
    obtain ⟨x, rfl⟩ := nat_of (n1 (by decide)).1
    obtain ⟨y, rfl⟩ := nat_of (n5 (by decide) (by decide) (by decide)).1
    have hx : x < c := by have := n1 (by decide); omega
    have hy : y < c := by have := n5 (by decide) (by decide) (by decide); omega
    by_cases he : s.g 0 m y % 2 = 0
    · have e1 : nxtK s m 4 x y z full = s := by simp [nxtK, he]
      have e2 : resK s m 4 x y full = 4 := by simp [resK, he]
      rw [e1, e2]
      exact (take_atom hW m y 4 x z hm hy he _).mono fun _ _ h => h.does
    · have e2 : resK s m 4 x y full = 1 := by simp [resK, he]
      have e1 : nxtK s m 4 x y z full = ⟨putG s.g 0 m x (s.g 2 ((s.g 0 m y / 2 : Nat) : Int) 0), s.n⟩ := by simp [nxtK, he]
      obtain ⟨M, cap, rfl, _⟩ := hW.cell2 (hW.inv.odd 0 m y (by omega))
      rw [e1, e2]
      exact (take_car hW m x y z hm hx hy (by omega) _).mono fun _ _ h => h.does)
  have hb := (below_new w (.cells #[.int .i64 4, .int .i64 x, .int .i64 y, .int .i64 z] 26)).drew
  have HH := Lib.hid (h.below hb)
  have HA : Hid (Arr4 (w.alloc (.cells #[.int .i64 4, .int .i64 x, .int .i64 y, .int .i64 z] 26)).drew w.heap.size 26 4 x y z) := Lib.hid (Arr4.new _ _ _ _ _ _)
  have HB := Lib.hid hb
  have HM : Hid (∀ W, StoreAt W X R L v b c d s → _) := Lib.hid (fun W hW => hasMut_yes (w := W) hW m hm)
  have HC : Hid (∀ W, Below w.heap.size w W → _) := Lib.hid (fun W hW => opCheck_c 2 b c d 4 x y z W (hS.below hW) (hRw.below hW))
  rw [hck] at HC
  have HO : Hid (∀ W, StoreAt W X R L v b c d s → _) := Lib.hid (fun W hW => own_c (w := W) hW m hm)
  generalize nxtK s m 4 x y z full = s' at *
  generalize resK s m 4 x y full = r at *
  generalize b * c - m * c = cc at *
  generalize m * c = q at *
  clear h hb hm hS hRw hck hm0 hm1 n1 n2 n3 n4 n5 n6
  obtain ⟨x0, x1, x2, x3, _, _, _, _⟩ := HH.out.cells
  obtain ⟨o0, o1, o2, o3, _⟩ := HA.out.cells
  go_enter Tryz.func22, Tryz.ntmps22
  go_wp2_with fail
  refine wp_region_held_drew (S := (fun w' => w'.cell? ⟨X, 0, none⟩ = some (.int .i64 2) ∧ w'.cell? ⟨X, 1, none⟩ = some (.int .i64 b) ∧ w'.cell? ⟨X, 2, none⟩ = some (.int .i64 c) ∧ w'.cell? ⟨X, 3, none⟩ = some (.int .i64 d) ∧ w'.cell? ⟨w.heap.size, 0, none⟩ = some (.int .i64 4) ∧ w'.cell? ⟨w.heap.size, 1, none⟩ = some (.int .i64 x) ∧ w'.cell? ⟨w.heap.size, 2, none⟩ = some (.int .i64 y) ∧ w'.cell? ⟨w.heap.size, 3, none⟩ = some (.int .i64 z))) (by kernel_rfl) ?_ (fun hHeld => ?_)
  · exact ⟨x0, x1, x2, x3, o0, o1, o2, o3⟩
  refine wpAnyH_take (i := 0) (oi := { dst := some 12, op := Op.move (Operand.tmp 0), type := 47, pos := "ideal.go:39", after := #[], guard := none }) (v := ?vn0) rfl (by kernel_rfl) (by kernel_rfl) (by kernel_rfl) (fun _ _ _ h => h) (Or.inl ⟨by rfl, ?hyn0⟩) hHeld ?_
  case hyn0 => (intro w hSw; (try dsimp only at hSw); go_simp; (try with_reducible rfl))
  try simp only [Act.put, List.setIfInBounds_toArray, List.set_cons_zero, List.set_cons_succ]
  refine wpAnyH_take (i := 1) (oi := { dst := some 13, op := Op.move (Operand.tmp 1), type := 3, pos := "ideal.go:39", after := #[], guard := none }) (v := ?vn1) rfl (by kernel_rfl) (by kernel_rfl) (by kernel_rfl) (fun _ _ _ h => h) (Or.inl ⟨by rfl, ?hyn1⟩) hHeld ?_
  case hyn1 => (intro w hSw; (try dsimp only at hSw); go_simp; (try with_reducible rfl))
  try simp only [Act.put, List.setIfInBounds_toArray, List.set_cons_zero, List.set_cons_succ]
  refine wpAnyH_ready (rs := [2]) (by kernel_rfl) (by simp) ?_
  refine AllReadyH.cons (o := { dst := some 14, op := Op.call { callee := Callee.value (Operand.func 42), args := #[Operand.tmp 12, Operand.tmp 13], argTypes := #[47, 3] }, type := 4, pos := "ideal.go:39", after := #[{ on := 0, ground := Ground.data }, { on := 1, ground := Ground.data }], guard := none }) rfl (fun K hK => ?_) AllReadyH.nil
  go_simp
  refine (HM.out _ HH.out).mono ?_
  rintro e W1 ⟨rfl, hW1⟩
  have HH1 := Lib.hid (show StoreAt W1 X R L v b c d s by rw [← hW1]; exact HH.out)
  have HA1 := Lib.hid (show Arr4 W1 w.heap.size 26 4 x y z by rw [← hW1]; exact HA.out)
  have HB1 := Lib.hid (show Below w.heap.size w W1 by rw [← hW1]; exact HB.out)
  clear hW1 HH HA HB HM
  clear x0 x1 x2 x3 o0 o1 o2 o3 hHeld
  obtain ⟨x0, x1, x2, x3, _, _, _, _⟩ := HH1.out.cells
  obtain ⟨o0, o1, o2, o3, _⟩ := HA1.out.cells
  refine hK.out _ _ ?_ (fun hHeld => ?_)
  · exact ⟨x0, x1, x2, x3, o0, o1, o2, o3⟩
  clear hK K
  try simp only [Act.put, List.setIfInBounds_toArray, List.set_cons_zero, List.set_cons_succ]
  refine wpAnyH_take (i := 3) (oi := { dst := some 15, op := Op.unOp UnOp.not 4 (Operand.tmp 14), type := 4, pos := "ideal.go:39", after := #[{ on := 2, ground := Ground.data }], guard := none }) (v := ?vn3) rfl (by kernel_rfl) (by kernel_rfl) (by kernel_rfl) (fun _ _ _ h => h) (Or.inl ⟨by rfl, ?hyn3⟩) hHeld ?_
  case hyn3 => (intro w hSw; (try dsimp only at hSw); go_simp; (try with_reducible rfl))
  try simp only [Act.put, List.setIfInBounds_toArray, List.set_cons_zero, List.set_cons_succ]
  refine wpAnyH_take (i := 4) (oi := { dst := some 16, op := Op.move (Operand.tmp 15), type := 4, pos := "ideal.go:39", after := #[{ on := 3, ground := Ground.data }, { on := 2, ground := Ground.chain }], guard := none }) (v := ?vn4) rfl (by kernel_rfl) (by kernel_rfl) (by kernel_rfl) (fun _ _ _ h => h) (Or.inl ⟨by rfl, ?hyn4⟩) hHeld ?_
  case hyn4 => (intro w hSw; (try dsimp only at hSw); go_simp; (try with_reducible rfl))
  try simp only [Act.put, List.setIfInBounds_toArray, List.set_cons_zero, List.set_cons_succ]
  refine wpAnyH_take (i := 5) (oi := { dst := some 17, op := Op.move (Operand.tmp 0), type := 47, pos := "ideal.go:39", after := #[{ on := 4, ground := Ground.guard }], guard := some (4, false) }) (v := ?vn5) rfl (by kernel_rfl) (by kernel_rfl) (by kernel_rfl) (fun _ _ _ h => h) (Or.inl ⟨by rfl, ?hyn5⟩) hHeld ?_
  case hyn5 => (intro w hSw; (try dsimp only at hSw); go_simp; (try with_reducible rfl))
  try simp only [Act.put, List.setIfInBounds_toArray, List.set_cons_zero, List.set_cons_succ]
  refine wpAnyH_take (i := 6) (oi := { dst := some 18, op := Op.nilCheck (Operand.tmp 17), type := 0, pos := "ideal.go:39", after := #[{ on := 5, ground := Ground.data }, { on := 4, ground := Ground.guard }], guard := some (4, false) }) (v := ?vn6) rfl (by kernel_rfl) (by kernel_rfl) (by kernel_rfl) (fun _ _ _ h => h) (Or.inl ⟨by rfl, ?hyn6⟩) hHeld ?_
  case hyn6 => (intro w hSw; (try dsimp only at hSw); go_simp; (try with_reducible rfl))
  try simp only [Act.put, List.setIfInBounds_toArray, List.set_cons_zero, List.set_cons_succ]
  refine wpAnyH_take (i := 7) (oi := { dst := some 19, op := Op.fieldAddr 78 (Operand.tmp 18) 0, type := 0, pos := "ideal.go:39", after := #[{ on := 6, ground := Ground.data }, { on := 4, ground := Ground.guard }], guard := some (4, false) }) (v := ?vn7) rfl (by kernel_rfl) (by kernel_rfl) (by kernel_rfl) (fun _ _ _ h => h) (Or.inl ⟨by rfl, ?hyn7⟩) hHeld ?_
  case hyn7 => (intro w hSw; (try dsimp only at hSw); go_simp; (try with_reducible rfl))
  try simp only [Act.put, List.setIfInBounds_toArray, List.set_cons_zero, List.set_cons_succ]
  refine wpAnyH_take (i := 8) (oi := { dst := some 20, op := Op.load 39 (Operand.tmp 19), type := 39, pos := "ideal.go:39", after := #[{ on := 7, ground := Ground.data }, { on := 4, ground := Ground.guard }], guard := some (4, false) }) (v := ?vn8) rfl (by kernel_rfl) (by kernel_rfl) (by kernel_rfl) (fun _ _ _ h => h) (Or.inl ⟨by rfl, ?hyn8⟩) hHeld ?_
  case hyn8 => (intro w hSw; (try dsimp only at hSw); go_simp; (try with_reducible rfl))
  try simp only [Act.put, List.setIfInBounds_toArray, List.set_cons_zero, List.set_cons_succ]
  refine wpAnyH_take (i := 9) (oi := { dst := some 21, op := Op.load 26 (Operand.tmp 6), type := 26, pos := "ideal.go:39", after := #[{ on := 4, ground := Ground.guard }], guard := some (4, false) }) (v := ?vn9) rfl (by kernel_rfl) (by kernel_rfl) (by kernel_rfl) (fun _ _ _ h => h) (Or.inl ⟨by rfl, ?hyn9⟩) hHeld ?_
  case hyn9 => (intro w hSw; (try dsimp only at hSw); go_simp; (try with_reducible rfl))
  try simp only [Act.put, List.setIfInBounds_toArray, List.set_cons_zero, List.set_cons_succ]
  refine wpAnyH_ready (rs := [10]) (by kernel_rfl) (by simp) ?_
  refine AllReadyH.cons (o := { dst := some 22, op := Op.call { callee := Callee.value (Operand.func 43), args := #[Operand.tmp 20, Operand.tmp 21], argTypes := #[39, 26] }, type := 44, pos := "ideal.go:39", after := #[{ on := 8, ground := Ground.data }, { on := 9, ground := Ground.data }, { on := 4, ground := Ground.chain }, { on := 4, ground := Ground.guard }], guard := some (4, false) }) rfl (fun K hK => ?_) AllReadyH.nil
  go_simp
  refine (HC.out _ HB1.out).mono ?_
  rintro e W2 ⟨rfl, hW2⟩
  have HH2 := Lib.hid (HH1.out.below hW2)
  have HA2 := Lib.hid (HA1.out.below hW2)
  have HB2 := Lib.hid (belowOn HB1.out hW2)
  clear hW2 HH1 HA1 HB1 HC
  clear x0 x1 x2 x3 o0 o1 o2 o3 hHeld
  obtain ⟨x0, x1, x2, x3, _, _, _, _⟩ := HH2.out.cells
  obtain ⟨o0, o1, o2, o3, _⟩ := HA2.out.cells
  refine hK.out _ _ ?_ (fun hHeld => ?_)
  · exact ⟨x0, x1, x2, x3, o0, o1, o2, o3⟩
  clear hK K
  try simp only [Act.put, List.setIfInBounds_toArray, List.set_cons_zero, List.set_cons_succ]
  refine wpAnyH_take (i := 11) (oi := { dst := some 23, op := Op.binOp BinOp.neq 44 (Operand.tmp 22) (Operand.const (Value.int IntKind.i64 0)) 44, type := 4, pos := "ideal.go:39", after := #[{ on := 10, ground := Ground.data }, { on := 4, ground := Ground.guard }], guard := some (4, false) }) (v := ?vn11) rfl (by kernel_rfl) (by kernel_rfl) (by kernel_rfl) (fun _ _ _ h => h) (Or.inl ⟨by rfl, ?hyn11⟩) hHeld ?_
  case hyn11 => (intro w hSw; (try dsimp only at hSw); go_simp; (try with_reducible rfl))
  try simp only [Act.put, List.setIfInBounds_toArray, List.set_cons_zero, List.set_cons_succ]
  refine wpAnyH_take (i := 12) (oi := { dst := some 24, op := Op.pick (Operand.tmp 16) (Operand.const (Value.bool true)) (Operand.tmp 23), type := 4, pos := "ideal.go:39", after := #[{ on := 4, ground := Ground.data }, { on := 11, ground := Ground.data }], guard := none }) (v := ?vn12) rfl (by kernel_rfl) (by kernel_rfl) (by kernel_rfl) (fun _ _ _ h => h) (Or.inl ⟨by rfl, ?hyn12⟩) hHeld ?_
  case hyn12 => (intro w hSw; (try dsimp only at hSw); go_simp; (try with_reducible rfl))
  try simp only [Act.put, List.setIfInBounds_toArray, List.set_cons_zero, List.set_cons_succ]
  refine wpAnyH_done (by kernel_rfl) ?_ _
  clear hHeld
  go_wp2_with fail
  refine (HO.out _ HH2.out).mono ?_
  rintro e W3 ⟨rfl, hW3⟩
  have HH3 := Lib.hid (HH2.out.below hW3)
  have HA3 := Lib.hid (HA2.out.below hW3)
  have HB3 := Lib.hid (belowOn HB2.out hW3)
  clear hW3 HH2 HA2 HB2 HO x0 x1 x2 x3 o0 o1 o2 o3
  obtain ⟨o0, o1, o2, o3, _⟩ := HA3.out.cells
  go_wp2_with fail
  refine (HF.out _ HH3.out).mono ?_
  rintro e W4 hP
  have HP := Lib.hid (hP.after HB3.out)
  obtain ⟨v', rfl, _⟩ := hP
  clear HF
  go_wp2_with fail
  go_ret
  exact HP.out
set_option maxHeartbeats 1600000 in
theorem Do_5 (h : StoreAt w X R L v b c d s) (hS : SpansAt w) (hRw : RowsAt w) (m x y z : Int) (full : Bool) (_ : s.n + 1 ≤ 1000000) (hg : goodOp b c d m 5 x y z) : Calls Tryz.prog 22 #[.pointer (some ⟨X, 0, none⟩), .int .i64 m, .agg #[.int .i64 5, .int .i64 x, .int .i64 y, .int .i64 z], .bool full] w (DoPost w X R L v b c d (nxtK s m 5 x y z full) (resK s m 5 x y full)) := by
  obtain ⟨_, n1, n2, n3, n4, n5, n6⟩ := hg.nums
  obtain ⟨hm0, hm1, hck⟩ := hg
  obtain ⟨m, rfl⟩ := nat_of hm0
  have hm : m < b := by omega
  have HF : Hid (∀ W, StoreAt W X R L v b c d s → Calls Tryz.prog 46 #[.pointer (some ⟨X, 0, none⟩), .slice (some ⟨R, m * c, none⟩) c (b * c - m * c), .agg #[.int .i64 5, .int .i64 x, .int .i64 y, .int .i64 z]] W (DoPost W X R L v b c d (nxtK s m 5 x y z full) (resK s m 5 x y full))) := Lib.hid (fun W hW => by
    obtain ⟨x, rfl⟩ := nat_of (n1 (by decide)).1
    obtain ⟨y, rfl⟩ := nat_of (n5 (by decide) (by decide) (by decide)).1
    have hx : x < c := by have := n1 (by decide); omega
    have hy : y < c := by have := n5 (by decide) (by decide) (by decide); omega
    by_cases he : s.g 0 m y % 2 = 0
    · have e1 : nxtK s m 5 x y z full = s := by simp [nxtK, he]
      have e2 : resK s m 5 x y full = 4 := by simp [resK, he]
      rw [e1, e2]
      exact (take_atom hW m y 5 x z hm hy he _).mono fun _ _ h => h.does
    · have e2 : resK s m 5 x y full = 1 := by simp [resK, he]
      have e1 : nxtK s m 5 x y z full = ⟨putG s.g 0 m x (s.g 3 ((s.g 0 m y / 2 : Nat) : Int) 0), s.n⟩ := by simp [nxtK, he]
      obtain ⟨M, cap, rfl, _⟩ := hW.cell2 (hW.inv.odd 0 m y (by omega))
      rw [e1, e2]
      exact (take_cdr hW m x y z hm hx hy (by omega) _).mono fun _ _ h => h.does)
  have hb := (below_new w (.cells #[.int .i64 5, .int .i64 x, .int .i64 y, .int .i64 z] 26)).drew
  have HH := Lib.hid (h.below hb)
  have HA : Hid (Arr4 (w.alloc (.cells #[.int .i64 5, .int .i64 x, .int .i64 y, .int .i64 z] 26)).drew w.heap.size 26 5 x y z) := Lib.hid (Arr4.new _ _ _ _ _ _)
  have HB := Lib.hid hb
  have HM : Hid (∀ W, StoreAt W X R L v b c d s → _) := Lib.hid (fun W hW => hasMut_yes (w := W) hW m hm)
  have HC : Hid (∀ W, Below w.heap.size w W → _) := Lib.hid (fun W hW => opCheck_c 2 b c d 5 x y z W (hS.below hW) (hRw.below hW))
  rw [hck] at HC
  have HO : Hid (∀ W, StoreAt W X R L v b c d s → _) := Lib.hid (fun W hW => own_c (w := W) hW m hm)
  generalize nxtK s m 5 x y z full = s' at *
  generalize resK s m 5 x y full = r at *
  generalize b * c - m * c = cc at *
  generalize m * c = q at *
  clear h hb hm hS hRw hck hm0 hm1 n1 n2 n3 n4 n5 n6
  obtain ⟨x0, x1, x2, x3, _, _, _, _⟩ := HH.out.cells
  obtain ⟨o0, o1, o2, o3, _⟩ := HA.out.cells
  go_enter Tryz.func22, Tryz.ntmps22
  go_wp2_with fail
  refine wp_region_held_drew (S := (fun w' => w'.cell? ⟨X, 0, none⟩ = some (.int .i64 2) ∧ w'.cell? ⟨X, 1, none⟩ = some (.int .i64 b) ∧ w'.cell? ⟨X, 2, none⟩ = some (.int .i64 c) ∧ w'.cell? ⟨X, 3, none⟩ = some (.int .i64 d) ∧ w'.cell? ⟨w.heap.size, 0, none⟩ = some (.int .i64 5) ∧ w'.cell? ⟨w.heap.size, 1, none⟩ = some (.int .i64 x) ∧ w'.cell? ⟨w.heap.size, 2, none⟩ = some (.int .i64 y) ∧ w'.cell? ⟨w.heap.size, 3, none⟩ = some (.int .i64 z))) (by kernel_rfl) ?_ (fun hHeld => ?_)
  · exact ⟨x0, x1, x2, x3, o0, o1, o2, o3⟩
  refine wpAnyH_take (i := 0) (oi := { dst := some 12, op := Op.move (Operand.tmp 0), type := 47, pos := "ideal.go:39", after := #[], guard := none }) (v := ?vn0) rfl (by kernel_rfl) (by kernel_rfl) (by kernel_rfl) (fun _ _ _ h => h) (Or.inl ⟨by rfl, ?hyn0⟩) hHeld ?_
  case hyn0 => (intro w hSw; (try dsimp only at hSw); go_simp; (try with_reducible rfl))
  try simp only [Act.put, List.setIfInBounds_toArray, List.set_cons_zero, List.set_cons_succ]
  refine wpAnyH_take (i := 1) (oi := { dst := some 13, op := Op.move (Operand.tmp 1), type := 3, pos := "ideal.go:39", after := #[], guard := none }) (v := ?vn1) rfl (by kernel_rfl) (by kernel_rfl) (by kernel_rfl) (fun _ _ _ h => h) (Or.inl ⟨by rfl, ?hyn1⟩) hHeld ?_
  case hyn1 => (intro w hSw; (try dsimp only at hSw); go_simp; (try with_reducible rfl))
  try simp only [Act.put, List.setIfInBounds_toArray, List.set_cons_zero, List.set_cons_succ]
  refine wpAnyH_ready (rs := [2]) (by kernel_rfl) (by simp) ?_
  refine AllReadyH.cons (o := { dst := some 14, op := Op.call { callee := Callee.value (Operand.func 42), args := #[Operand.tmp 12, Operand.tmp 13], argTypes := #[47, 3] }, type := 4, pos := "ideal.go:39", after := #[{ on := 0, ground := Ground.data }, { on := 1, ground := Ground.data }], guard := none }) rfl (fun K hK => ?_) AllReadyH.nil
  go_simp
  refine (HM.out _ HH.out).mono ?_
  rintro e W1 ⟨rfl, hW1⟩
  have HH1 := Lib.hid (show StoreAt W1 X R L v b c d s by rw [← hW1]; exact HH.out)
  have HA1 := Lib.hid (show Arr4 W1 w.heap.size 26 5 x y z by rw [← hW1]; exact HA.out)
  have HB1 := Lib.hid (show Below w.heap.size w W1 by rw [← hW1]; exact HB.out)
  clear hW1 HH HA HB HM
  clear x0 x1 x2 x3 o0 o1 o2 o3 hHeld
  obtain ⟨x0, x1, x2, x3, _, _, _, _⟩ := HH1.out.cells
  obtain ⟨o0, o1, o2, o3, _⟩ := HA1.out.cells
  refine hK.out _ _ ?_ (fun hHeld => ?_)
  · exact ⟨x0, x1, x2, x3, o0, o1, o2, o3⟩
  clear hK K
  try simp only [Act.put, List.setIfInBounds_toArray, List.set_cons_zero, List.set_cons_succ]
  refine wpAnyH_take (i := 3) (oi := { dst := some 15, op := Op.unOp UnOp.not 4 (Operand.tmp 14), type := 4, pos := "ideal.go:39", after := #[{ on := 2, ground := Ground.data }], guard := none }) (v := ?vn3) rfl (by kernel_rfl) (by kernel_rfl) (by kernel_rfl) (fun _ _ _ h => h) (Or.inl ⟨by rfl, ?hyn3⟩) hHeld ?_
  case hyn3 => (intro w hSw; (try dsimp only at hSw); go_simp; (try with_reducible rfl))
  try simp only [Act.put, List.setIfInBounds_toArray, List.set_cons_zero, List.set_cons_succ]
  refine wpAnyH_take (i := 4) (oi := { dst := some 16, op := Op.move (Operand.tmp 15), type := 4, pos := "ideal.go:39", after := #[{ on := 3, ground := Ground.data }, { on := 2, ground := Ground.chain }], guard := none }) (v := ?vn4) rfl (by kernel_rfl) (by kernel_rfl) (by kernel_rfl) (fun _ _ _ h => h) (Or.inl ⟨by rfl, ?hyn4⟩) hHeld ?_
  case hyn4 => (intro w hSw; (try dsimp only at hSw); go_simp; (try with_reducible rfl))
  try simp only [Act.put, List.setIfInBounds_toArray, List.set_cons_zero, List.set_cons_succ]
  refine wpAnyH_take (i := 5) (oi := { dst := some 17, op := Op.move (Operand.tmp 0), type := 47, pos := "ideal.go:39", after := #[{ on := 4, ground := Ground.guard }], guard := some (4, false) }) (v := ?vn5) rfl (by kernel_rfl) (by kernel_rfl) (by kernel_rfl) (fun _ _ _ h => h) (Or.inl ⟨by rfl, ?hyn5⟩) hHeld ?_
  case hyn5 => (intro w hSw; (try dsimp only at hSw); go_simp; (try with_reducible rfl))
  try simp only [Act.put, List.setIfInBounds_toArray, List.set_cons_zero, List.set_cons_succ]
  refine wpAnyH_take (i := 6) (oi := { dst := some 18, op := Op.nilCheck (Operand.tmp 17), type := 0, pos := "ideal.go:39", after := #[{ on := 5, ground := Ground.data }, { on := 4, ground := Ground.guard }], guard := some (4, false) }) (v := ?vn6) rfl (by kernel_rfl) (by kernel_rfl) (by kernel_rfl) (fun _ _ _ h => h) (Or.inl ⟨by rfl, ?hyn6⟩) hHeld ?_
  case hyn6 => (intro w hSw; (try dsimp only at hSw); go_simp; (try with_reducible rfl))
  try simp only [Act.put, List.setIfInBounds_toArray, List.set_cons_zero, List.set_cons_succ]
  refine wpAnyH_take (i := 7) (oi := { dst := some 19, op := Op.fieldAddr 78 (Operand.tmp 18) 0, type := 0, pos := "ideal.go:39", after := #[{ on := 6, ground := Ground.data }, { on := 4, ground := Ground.guard }], guard := some (4, false) }) (v := ?vn7) rfl (by kernel_rfl) (by kernel_rfl) (by kernel_rfl) (fun _ _ _ h => h) (Or.inl ⟨by rfl, ?hyn7⟩) hHeld ?_
  case hyn7 => (intro w hSw; (try dsimp only at hSw); go_simp; (try with_reducible rfl))
  try simp only [Act.put, List.setIfInBounds_toArray, List.set_cons_zero, List.set_cons_succ]
  refine wpAnyH_take (i := 8) (oi := { dst := some 20, op := Op.load 39 (Operand.tmp 19), type := 39, pos := "ideal.go:39", after := #[{ on := 7, ground := Ground.data }, { on := 4, ground := Ground.guard }], guard := some (4, false) }) (v := ?vn8) rfl (by kernel_rfl) (by kernel_rfl) (by kernel_rfl) (fun _ _ _ h => h) (Or.inl ⟨by rfl, ?hyn8⟩) hHeld ?_
  case hyn8 => (intro w hSw; (try dsimp only at hSw); go_simp; (try with_reducible rfl))
  try simp only [Act.put, List.setIfInBounds_toArray, List.set_cons_zero, List.set_cons_succ]
  refine wpAnyH_take (i := 9) (oi := { dst := some 21, op := Op.load 26 (Operand.tmp 6), type := 26, pos := "ideal.go:39", after := #[{ on := 4, ground := Ground.guard }], guard := some (4, false) }) (v := ?vn9) rfl (by kernel_rfl) (by kernel_rfl) (by kernel_rfl) (fun _ _ _ h => h) (Or.inl ⟨by rfl, ?hyn9⟩) hHeld ?_
  case hyn9 => (intro w hSw; (try dsimp only at hSw); go_simp; (try with_reducible rfl))
  try simp only [Act.put, List.setIfInBounds_toArray, List.set_cons_zero, List.set_cons_succ]
  refine wpAnyH_ready (rs := [10]) (by kernel_rfl) (by simp) ?_
  refine AllReadyH.cons (o := { dst := some 22, op := Op.call { callee := Callee.value (Operand.func 43), args := #[Operand.tmp 20, Operand.tmp 21], argTypes := #[39, 26] }, type := 44, pos := "ideal.go:39", after := #[{ on := 8, ground := Ground.data }, { on := 9, ground := Ground.data }, { on := 4, ground := Ground.chain }, { on := 4, ground := Ground.guard }], guard := some (4, false) }) rfl (fun K hK => ?_) AllReadyH.nil
  go_simp
  refine (HC.out _ HB1.out).mono ?_
  rintro e W2 ⟨rfl, hW2⟩
  have HH2 := Lib.hid (HH1.out.below hW2)
  have HA2 := Lib.hid (HA1.out.below hW2)
  have HB2 := Lib.hid (belowOn HB1.out hW2)
  clear hW2 HH1 HA1 HB1 HC
  clear x0 x1 x2 x3 o0 o1 o2 o3 hHeld
  obtain ⟨x0, x1, x2, x3, _, _, _, _⟩ := HH2.out.cells
  obtain ⟨o0, o1, o2, o3, _⟩ := HA2.out.cells
  refine hK.out _ _ ?_ (fun hHeld => ?_)
  · exact ⟨x0, x1, x2, x3, o0, o1, o2, o3⟩
  clear hK K
  try simp only [Act.put, List.setIfInBounds_toArray, List.set_cons_zero, List.set_cons_succ]
  refine wpAnyH_take (i := 11) (oi := { dst := some 23, op := Op.binOp BinOp.neq 44 (Operand.tmp 22) (Operand.const (Value.int IntKind.i64 0)) 44, type := 4, pos := "ideal.go:39", after := #[{ on := 10, ground := Ground.data }, { on := 4, ground := Ground.guard }], guard := some (4, false) }) (v := ?vn11) rfl (by kernel_rfl) (by kernel_rfl) (by kernel_rfl) (fun _ _ _ h => h) (Or.inl ⟨by rfl, ?hyn11⟩) hHeld ?_
  case hyn11 => (intro w hSw; (try dsimp only at hSw); go_simp; (try with_reducible rfl))
  try simp only [Act.put, List.setIfInBounds_toArray, List.set_cons_zero, List.set_cons_succ]
  refine wpAnyH_take (i := 12) (oi := { dst := some 24, op := Op.pick (Operand.tmp 16) (Operand.const (Value.bool true)) (Operand.tmp 23), type := 4, pos := "ideal.go:39", after := #[{ on := 4, ground := Ground.data }, { on := 11, ground := Ground.data }], guard := none }) (v := ?vn12) rfl (by kernel_rfl) (by kernel_rfl) (by kernel_rfl) (fun _ _ _ h => h) (Or.inl ⟨by rfl, ?hyn12⟩) hHeld ?_
  case hyn12 => (intro w hSw; (try dsimp only at hSw); go_simp; (try with_reducible rfl))
  try simp only [Act.put, List.setIfInBounds_toArray, List.set_cons_zero, List.set_cons_succ]
  refine wpAnyH_done (by kernel_rfl) ?_ _
  clear hHeld
  go_wp2_with fail
  refine (HO.out _ HH2.out).mono ?_
  rintro e W3 ⟨rfl, hW3⟩
  have HH3 := Lib.hid (HH2.out.below hW3)
  have HA3 := Lib.hid (HA2.out.below hW3)
  have HB3 := Lib.hid (belowOn HB2.out hW3)
  clear hW3 HH2 HA2 HB2 HO x0 x1 x2 x3 o0 o1 o2 o3
  obtain ⟨o0, o1, o2, o3, _⟩ := HA3.out.cells
  go_wp2_with fail
  refine (HF.out _ HH3.out).mono ?_
  rintro e W4 hP
  have HP := Lib.hid (hP.after HB3.out)
  obtain ⟨v', rfl, _⟩ := hP
  clear HF
  go_wp2_with fail
  go_ret
  exact HP.out
set_option maxHeartbeats 1600000 in
theorem Do_6 (h : StoreAt w X R L v b c d s) (hS : SpansAt w) (hRw : RowsAt w) (m x y z : Int) (full : Bool) (_ : s.n + 1 ≤ 1000000) (hg : goodOp b c d m 6 x y z) : Calls Tryz.prog 22 #[.pointer (some ⟨X, 0, none⟩), .int .i64 m, .agg #[.int .i64 6, .int .i64 x, .int .i64 y, .int .i64 z], .bool full] w (DoPost w X R L v b c d (nxtK s m 6 x y z full) (resK s m 6 x y full)) := by
  obtain ⟨_, n1, n2, n3, n4, n5, n6⟩ := hg.nums
  obtain ⟨hm0, hm1, hck⟩ := hg
  obtain ⟨m, rfl⟩ := nat_of hm0
  have hm : m < b := by omega
  have HF : Hid (∀ W, StoreAt W X R L v b c d s → Calls Tryz.prog 47 #[.pointer (some ⟨X, 0, none⟩), .slice (some ⟨R, m * c, none⟩) c (b * c - m * c), .agg #[.int .i64 6, .int .i64 x, .int .i64 y, .int .i64 z]] W (DoPost W X R L v b c d (nxtK s m 6 x y z full) (resK s m 6 x y full))) := Lib.hid (fun W hW => by
    obtain ⟨x, rfl⟩ := nat_of (n1 (by decide)).1
    obtain ⟨y, rfl⟩ := nat_of (n5 (by decide) (by decide) (by decide)).1
    have hx : x < c := by have := n1 (by decide); omega
    have hy : y < c := by have := n5 (by decide) (by decide) (by decide); omega
    by_cases he : s.g 0 m x % 2 = 0
    · have e1 : nxtK s m 6 x y z full = s := by simp [nxtK, he]
      have e2 : resK s m 6 x y full = 4 := by simp [resK, he]
      rw [e1, e2]
      exact (replace_atom hW m x 6 y z hm hx he _).mono fun _ _ h => h.does
    · have e2 : resK s m 6 x y full = 1 := by simp [resK, he]
      have e1 : nxtK s m 6 x y z full = ⟨putG s.g 2 ((s.g 0 m x / 2 : Nat) : Int) 0 (s.g 0 m y), s.n⟩ := by simp [nxtK, he]
      obtain ⟨M, cap, rfl, _⟩ := hW.cell2 (hW.inv.odd 0 m x (by omega))
      rw [e1, e2]
      exact (replace_car hW m x y z hm hx hy (by omega) _).mono fun _ _ h => h.does)
  have hb := (below_new w (.cells #[.int .i64 6, .int .i64 x, .int .i64 y, .int .i64 z] 26)).drew
  have HH := Lib.hid (h.below hb)
  have HA : Hid (Arr4 (w.alloc (.cells #[.int .i64 6, .int .i64 x, .int .i64 y, .int .i64 z] 26)).drew w.heap.size 26 6 x y z) := Lib.hid (Arr4.new _ _ _ _ _ _)
  have HB := Lib.hid hb
  have HM : Hid (∀ W, StoreAt W X R L v b c d s → _) := Lib.hid (fun W hW => hasMut_yes (w := W) hW m hm)
  have HC : Hid (∀ W, Below w.heap.size w W → _) := Lib.hid (fun W hW => opCheck_c 2 b c d 6 x y z W (hS.below hW) (hRw.below hW))
  rw [hck] at HC
  have HO : Hid (∀ W, StoreAt W X R L v b c d s → _) := Lib.hid (fun W hW => own_c (w := W) hW m hm)
  generalize nxtK s m 6 x y z full = s' at *
  generalize resK s m 6 x y full = r at *
  generalize b * c - m * c = cc at *
  generalize m * c = q at *
  clear h hb hm hS hRw hck hm0 hm1 n1 n2 n3 n4 n5 n6
  obtain ⟨x0, x1, x2, x3, _, _, _, _⟩ := HH.out.cells
  obtain ⟨o0, o1, o2, o3, _⟩ := HA.out.cells
  go_enter Tryz.func22, Tryz.ntmps22
  go_wp2_with fail
  refine wp_region_held_drew (S := (fun w' => w'.cell? ⟨X, 0, none⟩ = some (.int .i64 2) ∧ w'.cell? ⟨X, 1, none⟩ = some (.int .i64 b) ∧ w'.cell? ⟨X, 2, none⟩ = some (.int .i64 c) ∧ w'.cell? ⟨X, 3, none⟩ = some (.int .i64 d) ∧ w'.cell? ⟨w.heap.size, 0, none⟩ = some (.int .i64 6) ∧ w'.cell? ⟨w.heap.size, 1, none⟩ = some (.int .i64 x) ∧ w'.cell? ⟨w.heap.size, 2, none⟩ = some (.int .i64 y) ∧ w'.cell? ⟨w.heap.size, 3, none⟩ = some (.int .i64 z))) (by kernel_rfl) ?_ (fun hHeld => ?_)
  · exact ⟨x0, x1, x2, x3, o0, o1, o2, o3⟩
  refine wpAnyH_take (i := 0) (oi := { dst := some 12, op := Op.move (Operand.tmp 0), type := 47, pos := "ideal.go:39", after := #[], guard := none }) (v := ?vn0) rfl (by kernel_rfl) (by kernel_rfl) (by kernel_rfl) (fun _ _ _ h => h) (Or.inl ⟨by rfl, ?hyn0⟩) hHeld ?_
  case hyn0 => (intro w hSw; (try dsimp only at hSw); go_simp; (try with_reducible rfl))
  try simp only [Act.put, List.setIfInBounds_toArray, List.set_cons_zero, List.set_cons_succ]
  refine wpAnyH_take (i := 1) (oi := { dst := some 13, op := Op.move (Operand.tmp 1), type := 3, pos := "ideal.go:39", after := #[], guard := none }) (v := ?vn1) rfl (by kernel_rfl) (by kernel_rfl) (by kernel_rfl) (fun _ _ _ h => h) (Or.inl ⟨by rfl, ?hyn1⟩) hHeld ?_
  case hyn1 => (intro w hSw; (try dsimp only at hSw); go_simp; (try with_reducible rfl))
  try simp only [Act.put, List.setIfInBounds_toArray, List.set_cons_zero, List.set_cons_succ]
  refine wpAnyH_ready (rs := [2]) (by kernel_rfl) (by simp) ?_
  refine AllReadyH.cons (o := { dst := some 14, op := Op.call { callee := Callee.value (Operand.func 42), args := #[Operand.tmp 12, Operand.tmp 13], argTypes := #[47, 3] }, type := 4, pos := "ideal.go:39", after := #[{ on := 0, ground := Ground.data }, { on := 1, ground := Ground.data }], guard := none }) rfl (fun K hK => ?_) AllReadyH.nil
  go_simp
  refine (HM.out _ HH.out).mono ?_
  rintro e W1 ⟨rfl, hW1⟩
  have HH1 := Lib.hid (show StoreAt W1 X R L v b c d s by rw [← hW1]; exact HH.out)
  have HA1 := Lib.hid (show Arr4 W1 w.heap.size 26 6 x y z by rw [← hW1]; exact HA.out)
  have HB1 := Lib.hid (show Below w.heap.size w W1 by rw [← hW1]; exact HB.out)
  clear hW1 HH HA HB HM
  clear x0 x1 x2 x3 o0 o1 o2 o3 hHeld
  obtain ⟨x0, x1, x2, x3, _, _, _, _⟩ := HH1.out.cells
  obtain ⟨o0, o1, o2, o3, _⟩ := HA1.out.cells
  refine hK.out _ _ ?_ (fun hHeld => ?_)
  · exact ⟨x0, x1, x2, x3, o0, o1, o2, o3⟩
  clear hK K
  try simp only [Act.put, List.setIfInBounds_toArray, List.set_cons_zero, List.set_cons_succ]
  refine wpAnyH_take (i := 3) (oi := { dst := some 15, op := Op.unOp UnOp.not 4 (Operand.tmp 14), type := 4, pos := "ideal.go:39", after := #[{ on := 2, ground := Ground.data }], guard := none }) (v := ?vn3) rfl (by kernel_rfl) (by kernel_rfl) (by kernel_rfl) (fun _ _ _ h => h) (Or.inl ⟨by rfl, ?hyn3⟩) hHeld ?_
  case hyn3 => (intro w hSw; (try dsimp only at hSw); go_simp; (try with_reducible rfl))
  try simp only [Act.put, List.setIfInBounds_toArray, List.set_cons_zero, List.set_cons_succ]
  refine wpAnyH_take (i := 4) (oi := { dst := some 16, op := Op.move (Operand.tmp 15), type := 4, pos := "ideal.go:39", after := #[{ on := 3, ground := Ground.data }, { on := 2, ground := Ground.chain }], guard := none }) (v := ?vn4) rfl (by kernel_rfl) (by kernel_rfl) (by kernel_rfl) (fun _ _ _ h => h) (Or.inl ⟨by rfl, ?hyn4⟩) hHeld ?_
  case hyn4 => (intro w hSw; (try dsimp only at hSw); go_simp; (try with_reducible rfl))
  try simp only [Act.put, List.setIfInBounds_toArray, List.set_cons_zero, List.set_cons_succ]
  refine wpAnyH_take (i := 5) (oi := { dst := some 17, op := Op.move (Operand.tmp 0), type := 47, pos := "ideal.go:39", after := #[{ on := 4, ground := Ground.guard }], guard := some (4, false) }) (v := ?vn5) rfl (by kernel_rfl) (by kernel_rfl) (by kernel_rfl) (fun _ _ _ h => h) (Or.inl ⟨by rfl, ?hyn5⟩) hHeld ?_
  case hyn5 => (intro w hSw; (try dsimp only at hSw); go_simp; (try with_reducible rfl))
  try simp only [Act.put, List.setIfInBounds_toArray, List.set_cons_zero, List.set_cons_succ]
  refine wpAnyH_take (i := 6) (oi := { dst := some 18, op := Op.nilCheck (Operand.tmp 17), type := 0, pos := "ideal.go:39", after := #[{ on := 5, ground := Ground.data }, { on := 4, ground := Ground.guard }], guard := some (4, false) }) (v := ?vn6) rfl (by kernel_rfl) (by kernel_rfl) (by kernel_rfl) (fun _ _ _ h => h) (Or.inl ⟨by rfl, ?hyn6⟩) hHeld ?_
  case hyn6 => (intro w hSw; (try dsimp only at hSw); go_simp; (try with_reducible rfl))
  try simp only [Act.put, List.setIfInBounds_toArray, List.set_cons_zero, List.set_cons_succ]
  refine wpAnyH_take (i := 7) (oi := { dst := some 19, op := Op.fieldAddr 78 (Operand.tmp 18) 0, type := 0, pos := "ideal.go:39", after := #[{ on := 6, ground := Ground.data }, { on := 4, ground := Ground.guard }], guard := some (4, false) }) (v := ?vn7) rfl (by kernel_rfl) (by kernel_rfl) (by kernel_rfl) (fun _ _ _ h => h) (Or.inl ⟨by rfl, ?hyn7⟩) hHeld ?_
  case hyn7 => (intro w hSw; (try dsimp only at hSw); go_simp; (try with_reducible rfl))
  try simp only [Act.put, List.setIfInBounds_toArray, List.set_cons_zero, List.set_cons_succ]
  refine wpAnyH_take (i := 8) (oi := { dst := some 20, op := Op.load 39 (Operand.tmp 19), type := 39, pos := "ideal.go:39", after := #[{ on := 7, ground := Ground.data }, { on := 4, ground := Ground.guard }], guard := some (4, false) }) (v := ?vn8) rfl (by kernel_rfl) (by kernel_rfl) (by kernel_rfl) (fun _ _ _ h => h) (Or.inl ⟨by rfl, ?hyn8⟩) hHeld ?_
  case hyn8 => (intro w hSw; (try dsimp only at hSw); go_simp; (try with_reducible rfl))
  try simp only [Act.put, List.setIfInBounds_toArray, List.set_cons_zero, List.set_cons_succ]
  refine wpAnyH_take (i := 9) (oi := { dst := some 21, op := Op.load 26 (Operand.tmp 6), type := 26, pos := "ideal.go:39", after := #[{ on := 4, ground := Ground.guard }], guard := some (4, false) }) (v := ?vn9) rfl (by kernel_rfl) (by kernel_rfl) (by kernel_rfl) (fun _ _ _ h => h) (Or.inl ⟨by rfl, ?hyn9⟩) hHeld ?_
  case hyn9 => (intro w hSw; (try dsimp only at hSw); go_simp; (try with_reducible rfl))
  try simp only [Act.put, List.setIfInBounds_toArray, List.set_cons_zero, List.set_cons_succ]
  refine wpAnyH_ready (rs := [10]) (by kernel_rfl) (by simp) ?_
  refine AllReadyH.cons (o := { dst := some 22, op := Op.call { callee := Callee.value (Operand.func 43), args := #[Operand.tmp 20, Operand.tmp 21], argTypes := #[39, 26] }, type := 44, pos := "ideal.go:39", after := #[{ on := 8, ground := Ground.data }, { on := 9, ground := Ground.data }, { on := 4, ground := Ground.chain }, { on := 4, ground := Ground.guard }], guard := some (4, false) }) rfl (fun K hK => ?_) AllReadyH.nil
  go_simp
  refine (HC.out _ HB1.out).mono ?_
  rintro e W2 ⟨rfl, hW2⟩
  have HH2 := Lib.hid (HH1.out.below hW2)
  have HA2 := Lib.hid (HA1.out.below hW2)
  have HB2 := Lib.hid (belowOn HB1.out hW2)
  clear hW2 HH1 HA1 HB1 HC
  clear x0 x1 x2 x3 o0 o1 o2 o3 hHeld
  obtain ⟨x0, x1, x2, x3, _, _, _, _⟩ := HH2.out.cells
  obtain ⟨o0, o1, o2, o3, _⟩ := HA2.out.cells
  refine hK.out _ _ ?_ (fun hHeld => ?_)
  · exact ⟨x0, x1, x2, x3, o0, o1, o2, o3⟩
  clear hK K
  try simp only [Act.put, List.setIfInBounds_toArray, List.set_cons_zero, List.set_cons_succ]
  refine wpAnyH_take (i := 11) (oi := { dst := some 23, op := Op.binOp BinOp.neq 44 (Operand.tmp 22) (Operand.const (Value.int IntKind.i64 0)) 44, type := 4, pos := "ideal.go:39", after := #[{ on := 10, ground := Ground.data }, { on := 4, ground := Ground.guard }], guard := some (4, false) }) (v := ?vn11) rfl (by kernel_rfl) (by kernel_rfl) (by kernel_rfl) (fun _ _ _ h => h) (Or.inl ⟨by rfl, ?hyn11⟩) hHeld ?_
  case hyn11 => (intro w hSw; (try dsimp only at hSw); go_simp; (try with_reducible rfl))
  try simp only [Act.put, List.setIfInBounds_toArray, List.set_cons_zero, List.set_cons_succ]
  refine wpAnyH_take (i := 12) (oi := { dst := some 24, op := Op.pick (Operand.tmp 16) (Operand.const (Value.bool true)) (Operand.tmp 23), type := 4, pos := "ideal.go:39", after := #[{ on := 4, ground := Ground.data }, { on := 11, ground := Ground.data }], guard := none }) (v := ?vn12) rfl (by kernel_rfl) (by kernel_rfl) (by kernel_rfl) (fun _ _ _ h => h) (Or.inl ⟨by rfl, ?hyn12⟩) hHeld ?_
  case hyn12 => (intro w hSw; (try dsimp only at hSw); go_simp; (try with_reducible rfl))
  try simp only [Act.put, List.setIfInBounds_toArray, List.set_cons_zero, List.set_cons_succ]
  refine wpAnyH_done (by kernel_rfl) ?_ _
  clear hHeld
  go_wp2_with fail
  refine (HO.out _ HH2.out).mono ?_
  rintro e W3 ⟨rfl, hW3⟩
  have HH3 := Lib.hid (HH2.out.below hW3)
  have HA3 := Lib.hid (HA2.out.below hW3)
  have HB3 := Lib.hid (belowOn HB2.out hW3)
  clear hW3 HH2 HA2 HB2 HO x0 x1 x2 x3 o0 o1 o2 o3
  obtain ⟨o0, o1, o2, o3, _⟩ := HA3.out.cells
  go_wp2_with fail
  refine (HF.out _ HH3.out).mono ?_
  rintro e W4 hP
  have HP := Lib.hid (hP.after HB3.out)
  obtain ⟨v', rfl, _⟩ := hP
  clear HF
  go_wp2_with fail
  go_ret
  exact HP.out
set_option maxHeartbeats 1600000 in
theorem Do_7 (h : StoreAt w X R L v b c d s) (hS : SpansAt w) (hRw : RowsAt w) (m x y z : Int) (full : Bool) (_ : s.n + 1 ≤ 1000000) (hg : goodOp b c d m 7 x y z) : Calls Tryz.prog 22 #[.pointer (some ⟨X, 0, none⟩), .int .i64 m, .agg #[.int .i64 7, .int .i64 x, .int .i64 y, .int .i64 z], .bool full] w (DoPost w X R L v b c d (nxtK s m 7 x y z full) (resK s m 7 x y full)) := by
  obtain ⟨_, n1, n2, n3, n4, n5, n6⟩ := hg.nums
  obtain ⟨hm0, hm1, hck⟩ := hg
  obtain ⟨m, rfl⟩ := nat_of hm0
  have hm : m < b := by omega
  have HF : Hid (∀ W, StoreAt W X R L v b c d s → Calls Tryz.prog 47 #[.pointer (some ⟨X, 0, none⟩), .slice (some ⟨R, m * c, none⟩) c (b * c - m * c), .agg #[.int .i64 7, .int .i64 x, .int .i64 y, .int .i64 z]] W (DoPost W X R L v b c d (nxtK s m 7 x y z full) (resK s m 7 x y full))) := Lib.hid (fun W hW => by
    obtain ⟨x, rfl⟩ := nat_of (n1 (by decide)).1
    obtain ⟨y, rfl⟩ := nat_of (n5 (by decide) (by decide) (by decide)).1
    have hx : x < c := by have := n1 (by decide); omega
    have hy : y < c := by have := n5 (by decide) (by decide) (by decide); omega
    by_cases he : s.g 0 m x % 2 = 0
    · have e1 : nxtK s m 7 x y z full = s := by simp [nxtK, he]
      have e2 : resK s m 7 x y full = 4 := by simp [resK, he]
      rw [e1, e2]
      exact (replace_atom hW m x 7 y z hm hx he _).mono fun _ _ h => h.does
    · have e2 : resK s m 7 x y full = 1 := by simp [resK, he]
      have e1 : nxtK s m 7 x y z full = ⟨putG s.g 3 ((s.g 0 m x / 2 : Nat) : Int) 0 (s.g 0 m y), s.n⟩ := by simp [nxtK, he]
      obtain ⟨M, cap, rfl, _⟩ := hW.cell2 (hW.inv.odd 0 m x (by omega))
      rw [e1, e2]
      exact (replace_cdr hW m x y z hm hx hy (by omega) _).mono fun _ _ h => h.does)
  have hb := (below_new w (.cells #[.int .i64 7, .int .i64 x, .int .i64 y, .int .i64 z] 26)).drew
  have HH := Lib.hid (h.below hb)
  have HA : Hid (Arr4 (w.alloc (.cells #[.int .i64 7, .int .i64 x, .int .i64 y, .int .i64 z] 26)).drew w.heap.size 26 7 x y z) := Lib.hid (Arr4.new _ _ _ _ _ _)
  have HB := Lib.hid hb
  have HM : Hid (∀ W, StoreAt W X R L v b c d s → _) := Lib.hid (fun W hW => hasMut_yes (w := W) hW m hm)
  have HC : Hid (∀ W, Below w.heap.size w W → _) := Lib.hid (fun W hW => opCheck_c 2 b c d 7 x y z W (hS.below hW) (hRw.below hW))
  rw [hck] at HC
  have HO : Hid (∀ W, StoreAt W X R L v b c d s → _) := Lib.hid (fun W hW => own_c (w := W) hW m hm)
  generalize nxtK s m 7 x y z full = s' at *
  generalize resK s m 7 x y full = r at *
  generalize b * c - m * c = cc at *
  generalize m * c = q at *
  clear h hb hm hS hRw hck hm0 hm1 n1 n2 n3 n4 n5 n6
  obtain ⟨x0, x1, x2, x3, _, _, _, _⟩ := HH.out.cells
  obtain ⟨o0, o1, o2, o3, _⟩ := HA.out.cells
  go_enter Tryz.func22, Tryz.ntmps22
  go_wp2_with fail
  refine wp_region_held_drew (S := (fun w' => w'.cell? ⟨X, 0, none⟩ = some (.int .i64 2) ∧ w'.cell? ⟨X, 1, none⟩ = some (.int .i64 b) ∧ w'.cell? ⟨X, 2, none⟩ = some (.int .i64 c) ∧ w'.cell? ⟨X, 3, none⟩ = some (.int .i64 d) ∧ w'.cell? ⟨w.heap.size, 0, none⟩ = some (.int .i64 7) ∧ w'.cell? ⟨w.heap.size, 1, none⟩ = some (.int .i64 x) ∧ w'.cell? ⟨w.heap.size, 2, none⟩ = some (.int .i64 y) ∧ w'.cell? ⟨w.heap.size, 3, none⟩ = some (.int .i64 z))) (by kernel_rfl) ?_ (fun hHeld => ?_)
  · exact ⟨x0, x1, x2, x3, o0, o1, o2, o3⟩
  refine wpAnyH_take (i := 0) (oi := { dst := some 12, op := Op.move (Operand.tmp 0), type := 47, pos := "ideal.go:39", after := #[], guard := none }) (v := ?vn0) rfl (by kernel_rfl) (by kernel_rfl) (by kernel_rfl) (fun _ _ _ h => h) (Or.inl ⟨by rfl, ?hyn0⟩) hHeld ?_
  case hyn0 => (intro w hSw; (try dsimp only at hSw); go_simp; (try with_reducible rfl))
  try simp only [Act.put, List.setIfInBounds_toArray, List.set_cons_zero, List.set_cons_succ]
  refine wpAnyH_take (i := 1) (oi := { dst := some 13, op := Op.move (Operand.tmp 1), type := 3, pos := "ideal.go:39", after := #[], guard := none }) (v := ?vn1) rfl (by kernel_rfl) (by kernel_rfl) (by kernel_rfl) (fun _ _ _ h => h) (Or.inl ⟨by rfl, ?hyn1⟩) hHeld ?_
  case hyn1 => (intro w hSw; (try dsimp only at hSw); go_simp; (try with_reducible rfl))
  try simp only [Act.put, List.setIfInBounds_toArray, List.set_cons_zero, List.set_cons_succ]
  refine wpAnyH_ready (rs := [2]) (by kernel_rfl) (by simp) ?_
  refine AllReadyH.cons (o := { dst := some 14, op := Op.call { callee := Callee.value (Operand.func 42), args := #[Operand.tmp 12, Operand.tmp 13], argTypes := #[47, 3] }, type := 4, pos := "ideal.go:39", after := #[{ on := 0, ground := Ground.data }, { on := 1, ground := Ground.data }], guard := none }) rfl (fun K hK => ?_) AllReadyH.nil
  go_simp
  refine (HM.out _ HH.out).mono ?_
  rintro e W1 ⟨rfl, hW1⟩
  have HH1 := Lib.hid (show StoreAt W1 X R L v b c d s by rw [← hW1]; exact HH.out)
  have HA1 := Lib.hid (show Arr4 W1 w.heap.size 26 7 x y z by rw [← hW1]; exact HA.out)
  have HB1 := Lib.hid (show Below w.heap.size w W1 by rw [← hW1]; exact HB.out)
  clear hW1 HH HA HB HM
  clear x0 x1 x2 x3 o0 o1 o2 o3 hHeld
  obtain ⟨x0, x1, x2, x3, _, _, _, _⟩ := HH1.out.cells
  obtain ⟨o0, o1, o2, o3, _⟩ := HA1.out.cells
  refine hK.out _ _ ?_ (fun hHeld => ?_)
  · exact ⟨x0, x1, x2, x3, o0, o1, o2, o3⟩
  clear hK K
  try simp only [Act.put, List.setIfInBounds_toArray, List.set_cons_zero, List.set_cons_succ]
  refine wpAnyH_take (i := 3) (oi := { dst := some 15, op := Op.unOp UnOp.not 4 (Operand.tmp 14), type := 4, pos := "ideal.go:39", after := #[{ on := 2, ground := Ground.data }], guard := none }) (v := ?vn3) rfl (by kernel_rfl) (by kernel_rfl) (by kernel_rfl) (fun _ _ _ h => h) (Or.inl ⟨by rfl, ?hyn3⟩) hHeld ?_
  case hyn3 => (intro w hSw; (try dsimp only at hSw); go_simp; (try with_reducible rfl))
  try simp only [Act.put, List.setIfInBounds_toArray, List.set_cons_zero, List.set_cons_succ]
  refine wpAnyH_take (i := 4) (oi := { dst := some 16, op := Op.move (Operand.tmp 15), type := 4, pos := "ideal.go:39", after := #[{ on := 3, ground := Ground.data }, { on := 2, ground := Ground.chain }], guard := none }) (v := ?vn4) rfl (by kernel_rfl) (by kernel_rfl) (by kernel_rfl) (fun _ _ _ h => h) (Or.inl ⟨by rfl, ?hyn4⟩) hHeld ?_
  case hyn4 => (intro w hSw; (try dsimp only at hSw); go_simp; (try with_reducible rfl))
  try simp only [Act.put, List.setIfInBounds_toArray, List.set_cons_zero, List.set_cons_succ]
  refine wpAnyH_take (i := 5) (oi := { dst := some 17, op := Op.move (Operand.tmp 0), type := 47, pos := "ideal.go:39", after := #[{ on := 4, ground := Ground.guard }], guard := some (4, false) }) (v := ?vn5) rfl (by kernel_rfl) (by kernel_rfl) (by kernel_rfl) (fun _ _ _ h => h) (Or.inl ⟨by rfl, ?hyn5⟩) hHeld ?_
  case hyn5 => (intro w hSw; (try dsimp only at hSw); go_simp; (try with_reducible rfl))
  try simp only [Act.put, List.setIfInBounds_toArray, List.set_cons_zero, List.set_cons_succ]
  refine wpAnyH_take (i := 6) (oi := { dst := some 18, op := Op.nilCheck (Operand.tmp 17), type := 0, pos := "ideal.go:39", after := #[{ on := 5, ground := Ground.data }, { on := 4, ground := Ground.guard }], guard := some (4, false) }) (v := ?vn6) rfl (by kernel_rfl) (by kernel_rfl) (by kernel_rfl) (fun _ _ _ h => h) (Or.inl ⟨by rfl, ?hyn6⟩) hHeld ?_
  case hyn6 => (intro w hSw; (try dsimp only at hSw); go_simp; (try with_reducible rfl))
  try simp only [Act.put, List.setIfInBounds_toArray, List.set_cons_zero, List.set_cons_succ]
  refine wpAnyH_take (i := 7) (oi := { dst := some 19, op := Op.fieldAddr 78 (Operand.tmp 18) 0, type := 0, pos := "ideal.go:39", after := #[{ on := 6, ground := Ground.data }, { on := 4, ground := Ground.guard }], guard := some (4, false) }) (v := ?vn7) rfl (by kernel_rfl) (by kernel_rfl) (by kernel_rfl) (fun _ _ _ h => h) (Or.inl ⟨by rfl, ?hyn7⟩) hHeld ?_
  case hyn7 => (intro w hSw; (try dsimp only at hSw); go_simp; (try with_reducible rfl))
  try simp only [Act.put, List.setIfInBounds_toArray, List.set_cons_zero, List.set_cons_succ]
  refine wpAnyH_take (i := 8) (oi := { dst := some 20, op := Op.load 39 (Operand.tmp 19), type := 39, pos := "ideal.go:39", after := #[{ on := 7, ground := Ground.data }, { on := 4, ground := Ground.guard }], guard := some (4, false) }) (v := ?vn8) rfl (by kernel_rfl) (by kernel_rfl) (by kernel_rfl) (fun _ _ _ h => h) (Or.inl ⟨by rfl, ?hyn8⟩) hHeld ?_
  case hyn8 => (intro w hSw; (try dsimp only at hSw); go_simp; (try with_reducible rfl))
  try simp only [Act.put, List.setIfInBounds_toArray, List.set_cons_zero, List.set_cons_succ]
  refine wpAnyH_take (i := 9) (oi := { dst := some 21, op := Op.load 26 (Operand.tmp 6), type := 26, pos := "ideal.go:39", after := #[{ on := 4, ground := Ground.guard }], guard := some (4, false) }) (v := ?vn9) rfl (by kernel_rfl) (by kernel_rfl) (by kernel_rfl) (fun _ _ _ h => h) (Or.inl ⟨by rfl, ?hyn9⟩) hHeld ?_
  case hyn9 => (intro w hSw; (try dsimp only at hSw); go_simp; (try with_reducible rfl))
  try simp only [Act.put, List.setIfInBounds_toArray, List.set_cons_zero, List.set_cons_succ]
  refine wpAnyH_ready (rs := [10]) (by kernel_rfl) (by simp) ?_
  refine AllReadyH.cons (o := { dst := some 22, op := Op.call { callee := Callee.value (Operand.func 43), args := #[Operand.tmp 20, Operand.tmp 21], argTypes := #[39, 26] }, type := 44, pos := "ideal.go:39", after := #[{ on := 8, ground := Ground.data }, { on := 9, ground := Ground.data }, { on := 4, ground := Ground.chain }, { on := 4, ground := Ground.guard }], guard := some (4, false) }) rfl (fun K hK => ?_) AllReadyH.nil
  go_simp
  refine (HC.out _ HB1.out).mono ?_
  rintro e W2 ⟨rfl, hW2⟩
  have HH2 := Lib.hid (HH1.out.below hW2)
  have HA2 := Lib.hid (HA1.out.below hW2)
  have HB2 := Lib.hid (belowOn HB1.out hW2)
  clear hW2 HH1 HA1 HB1 HC
  clear x0 x1 x2 x3 o0 o1 o2 o3 hHeld
  obtain ⟨x0, x1, x2, x3, _, _, _, _⟩ := HH2.out.cells
  obtain ⟨o0, o1, o2, o3, _⟩ := HA2.out.cells
  refine hK.out _ _ ?_ (fun hHeld => ?_)
  · exact ⟨x0, x1, x2, x3, o0, o1, o2, o3⟩
  clear hK K
  try simp only [Act.put, List.setIfInBounds_toArray, List.set_cons_zero, List.set_cons_succ]
  refine wpAnyH_take (i := 11) (oi := { dst := some 23, op := Op.binOp BinOp.neq 44 (Operand.tmp 22) (Operand.const (Value.int IntKind.i64 0)) 44, type := 4, pos := "ideal.go:39", after := #[{ on := 10, ground := Ground.data }, { on := 4, ground := Ground.guard }], guard := some (4, false) }) (v := ?vn11) rfl (by kernel_rfl) (by kernel_rfl) (by kernel_rfl) (fun _ _ _ h => h) (Or.inl ⟨by rfl, ?hyn11⟩) hHeld ?_
  case hyn11 => (intro w hSw; (try dsimp only at hSw); go_simp; (try with_reducible rfl))
  try simp only [Act.put, List.setIfInBounds_toArray, List.set_cons_zero, List.set_cons_succ]
  refine wpAnyH_take (i := 12) (oi := { dst := some 24, op := Op.pick (Operand.tmp 16) (Operand.const (Value.bool true)) (Operand.tmp 23), type := 4, pos := "ideal.go:39", after := #[{ on := 4, ground := Ground.data }, { on := 11, ground := Ground.data }], guard := none }) (v := ?vn12) rfl (by kernel_rfl) (by kernel_rfl) (by kernel_rfl) (fun _ _ _ h => h) (Or.inl ⟨by rfl, ?hyn12⟩) hHeld ?_
  case hyn12 => (intro w hSw; (try dsimp only at hSw); go_simp; (try with_reducible rfl))
  try simp only [Act.put, List.setIfInBounds_toArray, List.set_cons_zero, List.set_cons_succ]
  refine wpAnyH_done (by kernel_rfl) ?_ _
  clear hHeld
  go_wp2_with fail
  refine (HO.out _ HH2.out).mono ?_
  rintro e W3 ⟨rfl, hW3⟩
  have HH3 := Lib.hid (HH2.out.below hW3)
  have HA3 := Lib.hid (HA2.out.below hW3)
  have HB3 := Lib.hid (belowOn HB2.out hW3)
  clear hW3 HH2 HA2 HB2 HO x0 x1 x2 x3 o0 o1 o2 o3
  obtain ⟨o0, o1, o2, o3, _⟩ := HA3.out.cells
  go_wp2_with fail
  refine (HF.out _ HH3.out).mono ?_
  rintro e W4 hP
  have HP := Lib.hid (hP.after HB3.out)
  obtain ⟨v', rfl, _⟩ := hP
  clear HF
  go_wp2_with fail
  go_ret
  exact HP.out
set_option maxHeartbeats 1600000 in
theorem Do_8 (h : StoreAt w X R L v b c d s) (hS : SpansAt w) (hRw : RowsAt w) (m x y z : Int) (full : Bool) (_ : s.n + 1 ≤ 1000000) (hg : goodOp b c d m 8 x y z) : Calls Tryz.prog 22 #[.pointer (some ⟨X, 0, none⟩), .int .i64 m, .agg #[.int .i64 8, .int .i64 x, .int .i64 y, .int .i64 z], .bool full] w (DoPost w X R L v b c d (nxtK s m 8 x y z full) (resK s m 8 x y full)) := by
  obtain ⟨_, n1, n2, n3, n4, n5, n6⟩ := hg.nums
  obtain ⟨hm0, hm1, hck⟩ := hg
  obtain ⟨m, rfl⟩ := nat_of hm0
  have hm : m < b := by omega
  have HF : Hid (∀ W, StoreAt W X R L v b c d s → Calls Tryz.prog 50 #[.pointer (some ⟨X, 0, none⟩), .slice (some ⟨R, m * c, none⟩) c (b * c - m * c), .agg #[.int .i64 8, .int .i64 x, .int .i64 y, .int .i64 z]] W (DoPost W X R L v b c d (nxtK s m 8 x y z full) (resK s m 8 x y full))) := Lib.hid (fun W hW => by
    obtain ⟨x, rfl⟩ := nat_of (n1 (by decide)).1
    obtain ⟨y, rfl⟩ := nat_of (n4 rfl).1
    exact (bring_get hW m x y z hm (by have := n1 (by decide); omega) (by have := n4 rfl; omega) _).mono fun _ _ h => h.does)
  have hb := (below_new w (.cells #[.int .i64 8, .int .i64 x, .int .i64 y, .int .i64 z] 26)).drew
  have HH := Lib.hid (h.below hb)
  have HA : Hid (Arr4 (w.alloc (.cells #[.int .i64 8, .int .i64 x, .int .i64 y, .int .i64 z] 26)).drew w.heap.size 26 8 x y z) := Lib.hid (Arr4.new _ _ _ _ _ _)
  have HB := Lib.hid hb
  have HM : Hid (∀ W, StoreAt W X R L v b c d s → _) := Lib.hid (fun W hW => hasMut_yes (w := W) hW m hm)
  have HC : Hid (∀ W, Below w.heap.size w W → _) := Lib.hid (fun W hW => opCheck_c 2 b c d 8 x y z W (hS.below hW) (hRw.below hW))
  rw [hck] at HC
  have HO : Hid (∀ W, StoreAt W X R L v b c d s → _) := Lib.hid (fun W hW => own_c (w := W) hW m hm)
  generalize nxtK s m 8 x y z full = s' at *
  generalize resK s m 8 x y full = r at *
  generalize b * c - m * c = cc at *
  generalize m * c = q at *
  clear h hb hm hS hRw hck hm0 hm1 n1 n2 n3 n4 n5 n6
  obtain ⟨x0, x1, x2, x3, _, _, _, _⟩ := HH.out.cells
  obtain ⟨o0, o1, o2, o3, _⟩ := HA.out.cells
  go_enter Tryz.func22, Tryz.ntmps22
  go_wp2_with fail
  refine wp_region_held_drew (S := (fun w' => w'.cell? ⟨X, 0, none⟩ = some (.int .i64 2) ∧ w'.cell? ⟨X, 1, none⟩ = some (.int .i64 b) ∧ w'.cell? ⟨X, 2, none⟩ = some (.int .i64 c) ∧ w'.cell? ⟨X, 3, none⟩ = some (.int .i64 d) ∧ w'.cell? ⟨w.heap.size, 0, none⟩ = some (.int .i64 8) ∧ w'.cell? ⟨w.heap.size, 1, none⟩ = some (.int .i64 x) ∧ w'.cell? ⟨w.heap.size, 2, none⟩ = some (.int .i64 y) ∧ w'.cell? ⟨w.heap.size, 3, none⟩ = some (.int .i64 z))) (by kernel_rfl) ?_ (fun hHeld => ?_)
  · exact ⟨x0, x1, x2, x3, o0, o1, o2, o3⟩
  refine wpAnyH_take (i := 0) (oi := { dst := some 12, op := Op.move (Operand.tmp 0), type := 47, pos := "ideal.go:39", after := #[], guard := none }) (v := ?vn0) rfl (by kernel_rfl) (by kernel_rfl) (by kernel_rfl) (fun _ _ _ h => h) (Or.inl ⟨by rfl, ?hyn0⟩) hHeld ?_
  case hyn0 => (intro w hSw; (try dsimp only at hSw); go_simp; (try with_reducible rfl))
  try simp only [Act.put, List.setIfInBounds_toArray, List.set_cons_zero, List.set_cons_succ]
  refine wpAnyH_take (i := 1) (oi := { dst := some 13, op := Op.move (Operand.tmp 1), type := 3, pos := "ideal.go:39", after := #[], guard := none }) (v := ?vn1) rfl (by kernel_rfl) (by kernel_rfl) (by kernel_rfl) (fun _ _ _ h => h) (Or.inl ⟨by rfl, ?hyn1⟩) hHeld ?_
  case hyn1 => (intro w hSw; (try dsimp only at hSw); go_simp; (try with_reducible rfl))
  try simp only [Act.put, List.setIfInBounds_toArray, List.set_cons_zero, List.set_cons_succ]
  refine wpAnyH_ready (rs := [2]) (by kernel_rfl) (by simp) ?_
  refine AllReadyH.cons (o := { dst := some 14, op := Op.call { callee := Callee.value (Operand.func 42), args := #[Operand.tmp 12, Operand.tmp 13], argTypes := #[47, 3] }, type := 4, pos := "ideal.go:39", after := #[{ on := 0, ground := Ground.data }, { on := 1, ground := Ground.data }], guard := none }) rfl (fun K hK => ?_) AllReadyH.nil
  go_simp
  refine (HM.out _ HH.out).mono ?_
  rintro e W1 ⟨rfl, hW1⟩
  have HH1 := Lib.hid (show StoreAt W1 X R L v b c d s by rw [← hW1]; exact HH.out)
  have HA1 := Lib.hid (show Arr4 W1 w.heap.size 26 8 x y z by rw [← hW1]; exact HA.out)
  have HB1 := Lib.hid (show Below w.heap.size w W1 by rw [← hW1]; exact HB.out)
  clear hW1 HH HA HB HM
  clear x0 x1 x2 x3 o0 o1 o2 o3 hHeld
  obtain ⟨x0, x1, x2, x3, _, _, _, _⟩ := HH1.out.cells
  obtain ⟨o0, o1, o2, o3, _⟩ := HA1.out.cells
  refine hK.out _ _ ?_ (fun hHeld => ?_)
  · exact ⟨x0, x1, x2, x3, o0, o1, o2, o3⟩
  clear hK K
  try simp only [Act.put, List.setIfInBounds_toArray, List.set_cons_zero, List.set_cons_succ]
  refine wpAnyH_take (i := 3) (oi := { dst := some 15, op := Op.unOp UnOp.not 4 (Operand.tmp 14), type := 4, pos := "ideal.go:39", after := #[{ on := 2, ground := Ground.data }], guard := none }) (v := ?vn3) rfl (by kernel_rfl) (by kernel_rfl) (by kernel_rfl) (fun _ _ _ h => h) (Or.inl ⟨by rfl, ?hyn3⟩) hHeld ?_
  case hyn3 => (intro w hSw; (try dsimp only at hSw); go_simp; (try with_reducible rfl))
  try simp only [Act.put, List.setIfInBounds_toArray, List.set_cons_zero, List.set_cons_succ]
  refine wpAnyH_take (i := 4) (oi := { dst := some 16, op := Op.move (Operand.tmp 15), type := 4, pos := "ideal.go:39", after := #[{ on := 3, ground := Ground.data }, { on := 2, ground := Ground.chain }], guard := none }) (v := ?vn4) rfl (by kernel_rfl) (by kernel_rfl) (by kernel_rfl) (fun _ _ _ h => h) (Or.inl ⟨by rfl, ?hyn4⟩) hHeld ?_
  case hyn4 => (intro w hSw; (try dsimp only at hSw); go_simp; (try with_reducible rfl))
  try simp only [Act.put, List.setIfInBounds_toArray, List.set_cons_zero, List.set_cons_succ]
  refine wpAnyH_take (i := 5) (oi := { dst := some 17, op := Op.move (Operand.tmp 0), type := 47, pos := "ideal.go:39", after := #[{ on := 4, ground := Ground.guard }], guard := some (4, false) }) (v := ?vn5) rfl (by kernel_rfl) (by kernel_rfl) (by kernel_rfl) (fun _ _ _ h => h) (Or.inl ⟨by rfl, ?hyn5⟩) hHeld ?_
  case hyn5 => (intro w hSw; (try dsimp only at hSw); go_simp; (try with_reducible rfl))
  try simp only [Act.put, List.setIfInBounds_toArray, List.set_cons_zero, List.set_cons_succ]
  refine wpAnyH_take (i := 6) (oi := { dst := some 18, op := Op.nilCheck (Operand.tmp 17), type := 0, pos := "ideal.go:39", after := #[{ on := 5, ground := Ground.data }, { on := 4, ground := Ground.guard }], guard := some (4, false) }) (v := ?vn6) rfl (by kernel_rfl) (by kernel_rfl) (by kernel_rfl) (fun _ _ _ h => h) (Or.inl ⟨by rfl, ?hyn6⟩) hHeld ?_
  case hyn6 => (intro w hSw; (try dsimp only at hSw); go_simp; (try with_reducible rfl))
  try simp only [Act.put, List.setIfInBounds_toArray, List.set_cons_zero, List.set_cons_succ]
  refine wpAnyH_take (i := 7) (oi := { dst := some 19, op := Op.fieldAddr 78 (Operand.tmp 18) 0, type := 0, pos := "ideal.go:39", after := #[{ on := 6, ground := Ground.data }, { on := 4, ground := Ground.guard }], guard := some (4, false) }) (v := ?vn7) rfl (by kernel_rfl) (by kernel_rfl) (by kernel_rfl) (fun _ _ _ h => h) (Or.inl ⟨by rfl, ?hyn7⟩) hHeld ?_
  case hyn7 => (intro w hSw; (try dsimp only at hSw); go_simp; (try with_reducible rfl))
  try simp only [Act.put, List.setIfInBounds_toArray, List.set_cons_zero, List.set_cons_succ]
  refine wpAnyH_take (i := 8) (oi := { dst := some 20, op := Op.load 39 (Operand.tmp 19), type := 39, pos := "ideal.go:39", after := #[{ on := 7, ground := Ground.data }, { on := 4, ground := Ground.guard }], guard := some (4, false) }) (v := ?vn8) rfl (by kernel_rfl) (by kernel_rfl) (by kernel_rfl) (fun _ _ _ h => h) (Or.inl ⟨by rfl, ?hyn8⟩) hHeld ?_
  case hyn8 => (intro w hSw; (try dsimp only at hSw); go_simp; (try with_reducible rfl))
  try simp only [Act.put, List.setIfInBounds_toArray, List.set_cons_zero, List.set_cons_succ]
  refine wpAnyH_take (i := 9) (oi := { dst := some 21, op := Op.load 26 (Operand.tmp 6), type := 26, pos := "ideal.go:39", after := #[{ on := 4, ground := Ground.guard }], guard := some (4, false) }) (v := ?vn9) rfl (by kernel_rfl) (by kernel_rfl) (by kernel_rfl) (fun _ _ _ h => h) (Or.inl ⟨by rfl, ?hyn9⟩) hHeld ?_
  case hyn9 => (intro w hSw; (try dsimp only at hSw); go_simp; (try with_reducible rfl))
  try simp only [Act.put, List.setIfInBounds_toArray, List.set_cons_zero, List.set_cons_succ]
  refine wpAnyH_ready (rs := [10]) (by kernel_rfl) (by simp) ?_
  refine AllReadyH.cons (o := { dst := some 22, op := Op.call { callee := Callee.value (Operand.func 43), args := #[Operand.tmp 20, Operand.tmp 21], argTypes := #[39, 26] }, type := 44, pos := "ideal.go:39", after := #[{ on := 8, ground := Ground.data }, { on := 9, ground := Ground.data }, { on := 4, ground := Ground.chain }, { on := 4, ground := Ground.guard }], guard := some (4, false) }) rfl (fun K hK => ?_) AllReadyH.nil
  go_simp
  refine (HC.out _ HB1.out).mono ?_
  rintro e W2 ⟨rfl, hW2⟩
  have HH2 := Lib.hid (HH1.out.below hW2)
  have HA2 := Lib.hid (HA1.out.below hW2)
  have HB2 := Lib.hid (belowOn HB1.out hW2)
  clear hW2 HH1 HA1 HB1 HC
  clear x0 x1 x2 x3 o0 o1 o2 o3 hHeld
  obtain ⟨x0, x1, x2, x3, _, _, _, _⟩ := HH2.out.cells
  obtain ⟨o0, o1, o2, o3, _⟩ := HA2.out.cells
  refine hK.out _ _ ?_ (fun hHeld => ?_)
  · exact ⟨x0, x1, x2, x3, o0, o1, o2, o3⟩
  clear hK K
  try simp only [Act.put, List.setIfInBounds_toArray, List.set_cons_zero, List.set_cons_succ]
  refine wpAnyH_take (i := 11) (oi := { dst := some 23, op := Op.binOp BinOp.neq 44 (Operand.tmp 22) (Operand.const (Value.int IntKind.i64 0)) 44, type := 4, pos := "ideal.go:39", after := #[{ on := 10, ground := Ground.data }, { on := 4, ground := Ground.guard }], guard := some (4, false) }) (v := ?vn11) rfl (by kernel_rfl) (by kernel_rfl) (by kernel_rfl) (fun _ _ _ h => h) (Or.inl ⟨by rfl, ?hyn11⟩) hHeld ?_
  case hyn11 => (intro w hSw; (try dsimp only at hSw); go_simp; (try with_reducible rfl))
  try simp only [Act.put, List.setIfInBounds_toArray, List.set_cons_zero, List.set_cons_succ]
  refine wpAnyH_take (i := 12) (oi := { dst := some 24, op := Op.pick (Operand.tmp 16) (Operand.const (Value.bool true)) (Operand.tmp 23), type := 4, pos := "ideal.go:39", after := #[{ on := 4, ground := Ground.data }, { on := 11, ground := Ground.data }], guard := none }) (v := ?vn12) rfl (by kernel_rfl) (by kernel_rfl) (by kernel_rfl) (fun _ _ _ h => h) (Or.inl ⟨by rfl, ?hyn12⟩) hHeld ?_
  case hyn12 => (intro w hSw; (try dsimp only at hSw); go_simp; (try with_reducible rfl))
  try simp only [Act.put, List.setIfInBounds_toArray, List.set_cons_zero, List.set_cons_succ]
  refine wpAnyH_done (by kernel_rfl) ?_ _
  clear hHeld
  go_wp2_with fail
  refine (HO.out _ HH2.out).mono ?_
  rintro e W3 ⟨rfl, hW3⟩
  have HH3 := Lib.hid (HH2.out.below hW3)
  have HA3 := Lib.hid (HA2.out.below hW3)
  have HB3 := Lib.hid (belowOn HB2.out hW3)
  clear hW3 HH2 HA2 HB2 HO x0 x1 x2 x3 o0 o1 o2 o3
  obtain ⟨o0, o1, o2, o3, _⟩ := HA3.out.cells
  go_wp2_with fail
  refine (HF.out _ HH3.out).mono ?_
  rintro e W4 hP
  have HP := Lib.hid (hP.after HB3.out)
  obtain ⟨v', rfl, _⟩ := hP
  clear HF
  go_wp2_with fail
  go_ret
  exact HP.out
set_option maxHeartbeats 1600000 in
theorem Do_9 (h : StoreAt w X R L v b c d s) (hS : SpansAt w) (hRw : RowsAt w) (m x y z : Int) (full : Bool) (_ : s.n + 1 ≤ 1000000) (hg : goodOp b c d m 9 x y z) : Calls Tryz.prog 22 #[.pointer (some ⟨X, 0, none⟩), .int .i64 m, .agg #[.int .i64 9, .int .i64 x, .int .i64 y, .int .i64 z], .bool full] w (DoPost w X R L v b c d (nxtK s m 9 x y z full) (resK s m 9 x y full)) := by
  obtain ⟨_, n1, n2, n3, n4, n5, n6⟩ := hg.nums
  obtain ⟨hm0, hm1, hck⟩ := hg
  obtain ⟨m, rfl⟩ := nat_of hm0
  have hm : m < b := by omega
  have HF : Hid (∀ W, StoreAt W X R L v b c d s → Calls Tryz.prog 50 #[.pointer (some ⟨X, 0, none⟩), .slice (some ⟨R, m * c, none⟩) c (b * c - m * c), .agg #[.int .i64 9, .int .i64 x, .int .i64 y, .int .i64 z]] W (DoPost W X R L v b c d (nxtK s m 9 x y z full) (resK s m 9 x y full))) := Lib.hid (fun W hW => by
    obtain ⟨x, rfl⟩ := nat_of (n2 rfl).1
    obtain ⟨y, rfl⟩ := nat_of (n5 (by decide) (by decide) (by decide)).1
    exact (bring_put hW m x y z hm (by have := n2 rfl; omega) (by have := n5 (by decide) (by decide) (by decide); omega) _).mono fun _ _ h => h.does)
  have hb := (below_new w (.cells #[.int .i64 9, .int .i64 x, .int .i64 y, .int .i64 z] 26)).drew
  have HH := Lib.hid (h.below hb)
  have HA : Hid (Arr4 (w.alloc (.cells #[.int .i64 9, .int .i64 x, .int .i64 y, .int .i64 z] 26)).drew w.heap.size 26 9 x y z) := Lib.hid (Arr4.new _ _ _ _ _ _)
  have HB := Lib.hid hb
  have HM : Hid (∀ W, StoreAt W X R L v b c d s → _) := Lib.hid (fun W hW => hasMut_yes (w := W) hW m hm)
  have HC : Hid (∀ W, Below w.heap.size w W → _) := Lib.hid (fun W hW => opCheck_c 2 b c d 9 x y z W (hS.below hW) (hRw.below hW))
  rw [hck] at HC
  have HO : Hid (∀ W, StoreAt W X R L v b c d s → _) := Lib.hid (fun W hW => own_c (w := W) hW m hm)
  generalize nxtK s m 9 x y z full = s' at *
  generalize resK s m 9 x y full = r at *
  generalize b * c - m * c = cc at *
  generalize m * c = q at *
  clear h hb hm hS hRw hck hm0 hm1 n1 n2 n3 n4 n5 n6
  obtain ⟨x0, x1, x2, x3, _, _, _, _⟩ := HH.out.cells
  obtain ⟨o0, o1, o2, o3, _⟩ := HA.out.cells
  go_enter Tryz.func22, Tryz.ntmps22
  go_wp2_with fail
  refine wp_region_held_drew (S := (fun w' => w'.cell? ⟨X, 0, none⟩ = some (.int .i64 2) ∧ w'.cell? ⟨X, 1, none⟩ = some (.int .i64 b) ∧ w'.cell? ⟨X, 2, none⟩ = some (.int .i64 c) ∧ w'.cell? ⟨X, 3, none⟩ = some (.int .i64 d) ∧ w'.cell? ⟨w.heap.size, 0, none⟩ = some (.int .i64 9) ∧ w'.cell? ⟨w.heap.size, 1, none⟩ = some (.int .i64 x) ∧ w'.cell? ⟨w.heap.size, 2, none⟩ = some (.int .i64 y) ∧ w'.cell? ⟨w.heap.size, 3, none⟩ = some (.int .i64 z))) (by kernel_rfl) ?_ (fun hHeld => ?_)
  · exact ⟨x0, x1, x2, x3, o0, o1, o2, o3⟩
  refine wpAnyH_take (i := 0) (oi := { dst := some 12, op := Op.move (Operand.tmp 0), type := 47, pos := "ideal.go:39", after := #[], guard := none }) (v := ?vn0) rfl (by kernel_rfl) (by kernel_rfl) (by kernel_rfl) (fun _ _ _ h => h) (Or.inl ⟨by rfl, ?hyn0⟩) hHeld ?_
  case hyn0 => (intro w hSw; (try dsimp only at hSw); go_simp; (try with_reducible rfl))
  try simp only [Act.put, List.setIfInBounds_toArray, List.set_cons_zero, List.set_cons_succ]
  refine wpAnyH_take (i := 1) (oi := { dst := some 13, op := Op.move (Operand.tmp 1), type := 3, pos := "ideal.go:39", after := #[], guard := none }) (v := ?vn1) rfl (by kernel_rfl) (by kernel_rfl) (by kernel_rfl) (fun _ _ _ h => h) (Or.inl ⟨by rfl, ?hyn1⟩) hHeld ?_
  case hyn1 => (intro w hSw; (try dsimp only at hSw); go_simp; (try with_reducible rfl))
  try simp only [Act.put, List.setIfInBounds_toArray, List.set_cons_zero, List.set_cons_succ]
  refine wpAnyH_ready (rs := [2]) (by kernel_rfl) (by simp) ?_
  refine AllReadyH.cons (o := { dst := some 14, op := Op.call { callee := Callee.value (Operand.func 42), args := #[Operand.tmp 12, Operand.tmp 13], argTypes := #[47, 3] }, type := 4, pos := "ideal.go:39", after := #[{ on := 0, ground := Ground.data }, { on := 1, ground := Ground.data }], guard := none }) rfl (fun K hK => ?_) AllReadyH.nil
  go_simp
  refine (HM.out _ HH.out).mono ?_
  rintro e W1 ⟨rfl, hW1⟩
  have HH1 := Lib.hid (show StoreAt W1 X R L v b c d s by rw [← hW1]; exact HH.out)
  have HA1 := Lib.hid (show Arr4 W1 w.heap.size 26 9 x y z by rw [← hW1]; exact HA.out)
  have HB1 := Lib.hid (show Below w.heap.size w W1 by rw [← hW1]; exact HB.out)
  clear hW1 HH HA HB HM
  clear x0 x1 x2 x3 o0 o1 o2 o3 hHeld
  obtain ⟨x0, x1, x2, x3, _, _, _, _⟩ := HH1.out.cells
  obtain ⟨o0, o1, o2, o3, _⟩ := HA1.out.cells
  refine hK.out _ _ ?_ (fun hHeld => ?_)
  · exact ⟨x0, x1, x2, x3, o0, o1, o2, o3⟩
  clear hK K
  try simp only [Act.put, List.setIfInBounds_toArray, List.set_cons_zero, List.set_cons_succ]
  refine wpAnyH_take (i := 3) (oi := { dst := some 15, op := Op.unOp UnOp.not 4 (Operand.tmp 14), type := 4, pos := "ideal.go:39", after := #[{ on := 2, ground := Ground.data }], guard := none }) (v := ?vn3) rfl (by kernel_rfl) (by kernel_rfl) (by kernel_rfl) (fun _ _ _ h => h) (Or.inl ⟨by rfl, ?hyn3⟩) hHeld ?_
  case hyn3 => (intro w hSw; (try dsimp only at hSw); go_simp; (try with_reducible rfl))
  try simp only [Act.put, List.setIfInBounds_toArray, List.set_cons_zero, List.set_cons_succ]
  refine wpAnyH_take (i := 4) (oi := { dst := some 16, op := Op.move (Operand.tmp 15), type := 4, pos := "ideal.go:39", after := #[{ on := 3, ground := Ground.data }, { on := 2, ground := Ground.chain }], guard := none }) (v := ?vn4) rfl (by kernel_rfl) (by kernel_rfl) (by kernel_rfl) (fun _ _ _ h => h) (Or.inl ⟨by rfl, ?hyn4⟩) hHeld ?_
  case hyn4 => (intro w hSw; (try dsimp only at hSw); go_simp; (try with_reducible rfl))
  try simp only [Act.put, List.setIfInBounds_toArray, List.set_cons_zero, List.set_cons_succ]
  refine wpAnyH_take (i := 5) (oi := { dst := some 17, op := Op.move (Operand.tmp 0), type := 47, pos := "ideal.go:39", after := #[{ on := 4, ground := Ground.guard }], guard := some (4, false) }) (v := ?vn5) rfl (by kernel_rfl) (by kernel_rfl) (by kernel_rfl) (fun _ _ _ h => h) (Or.inl ⟨by rfl, ?hyn5⟩) hHeld ?_
  case hyn5 => (intro w hSw; (try dsimp only at hSw); go_simp; (try with_reducible rfl))
  try simp only [Act.put, List.setIfInBounds_toArray, List.set_cons_zero, List.set_cons_succ]
  refine wpAnyH_take (i := 6) (oi := { dst := some 18, op := Op.nilCheck (Operand.tmp 17), type := 0, pos := "ideal.go:39", after := #[{ on := 5, ground := Ground.data }, { on := 4, ground := Ground.guard }], guard := some (4, false) }) (v := ?vn6) rfl (by kernel_rfl) (by kernel_rfl) (by kernel_rfl) (fun _ _ _ h => h) (Or.inl ⟨by rfl, ?hyn6⟩) hHeld ?_
  case hyn6 => (intro w hSw; (try dsimp only at hSw); go_simp; (try with_reducible rfl))
  try simp only [Act.put, List.setIfInBounds_toArray, List.set_cons_zero, List.set_cons_succ]
  refine wpAnyH_take (i := 7) (oi := { dst := some 19, op := Op.fieldAddr 78 (Operand.tmp 18) 0, type := 0, pos := "ideal.go:39", after := #[{ on := 6, ground := Ground.data }, { on := 4, ground := Ground.guard }], guard := some (4, false) }) (v := ?vn7) rfl (by kernel_rfl) (by kernel_rfl) (by kernel_rfl) (fun _ _ _ h => h) (Or.inl ⟨by rfl, ?hyn7⟩) hHeld ?_
  case hyn7 => (intro w hSw; (try dsimp only at hSw); go_simp; (try with_reducible rfl))
  try simp only [Act.put, List.setIfInBounds_toArray, List.set_cons_zero, List.set_cons_succ]
  refine wpAnyH_take (i := 8) (oi := { dst := some 20, op := Op.load 39 (Operand.tmp 19), type := 39, pos := "ideal.go:39", after := #[{ on := 7, ground := Ground.data }, { on := 4, ground := Ground.guard }], guard := some (4, false) }) (v := ?vn8) rfl (by kernel_rfl) (by kernel_rfl) (by kernel_rfl) (fun _ _ _ h => h) (Or.inl ⟨by rfl, ?hyn8⟩) hHeld ?_
  case hyn8 => (intro w hSw; (try dsimp only at hSw); go_simp; (try with_reducible rfl))
  try simp only [Act.put, List.setIfInBounds_toArray, List.set_cons_zero, List.set_cons_succ]
  refine wpAnyH_take (i := 9) (oi := { dst := some 21, op := Op.load 26 (Operand.tmp 6), type := 26, pos := "ideal.go:39", after := #[{ on := 4, ground := Ground.guard }], guard := some (4, false) }) (v := ?vn9) rfl (by kernel_rfl) (by kernel_rfl) (by kernel_rfl) (fun _ _ _ h => h) (Or.inl ⟨by rfl, ?hyn9⟩) hHeld ?_
  case hyn9 => (intro w hSw; (try dsimp only at hSw); go_simp; (try with_reducible rfl))
  try simp only [Act.put, List.setIfInBounds_toArray, List.set_cons_zero, List.set_cons_succ]
  refine wpAnyH_ready (rs := [10]) (by kernel_rfl) (by simp) ?_
  refine AllReadyH.cons (o := { dst := some 22, op := Op.call { callee := Callee.value (Operand.func 43), args := #[Operand.tmp 20, Operand.tmp 21], argTypes := #[39, 26] }, type := 44, pos := "ideal.go:39", after := #[{ on := 8, ground := Ground.data }, { on := 9, ground := Ground.data }, { on := 4, ground := Ground.chain }, { on := 4, ground := Ground.guard }], guard := some (4, false) }) rfl (fun K hK => ?_) AllReadyH.nil
  go_simp
  refine (HC.out _ HB1.out).mono ?_
  rintro e W2 ⟨rfl, hW2⟩
  have HH2 := Lib.hid (HH1.out.below hW2)
  have HA2 := Lib.hid (HA1.out.below hW2)
  have HB2 := Lib.hid (belowOn HB1.out hW2)
  clear hW2 HH1 HA1 HB1 HC
  clear x0 x1 x2 x3 o0 o1 o2 o3 hHeld
  obtain ⟨x0, x1, x2, x3, _, _, _, _⟩ := HH2.out.cells
  obtain ⟨o0, o1, o2, o3, _⟩ := HA2.out.cells
  refine hK.out _ _ ?_ (fun hHeld => ?_)
  · exact ⟨x0, x1, x2, x3, o0, o1, o2, o3⟩
  clear hK K
  try simp only [Act.put, List.setIfInBounds_toArray, List.set_cons_zero, List.set_cons_succ]
  refine wpAnyH_take (i := 11) (oi := { dst := some 23, op := Op.binOp BinOp.neq 44 (Operand.tmp 22) (Operand.const (Value.int IntKind.i64 0)) 44, type := 4, pos := "ideal.go:39", after := #[{ on := 10, ground := Ground.data }, { on := 4, ground := Ground.guard }], guard := some (4, false) }) (v := ?vn11) rfl (by kernel_rfl) (by kernel_rfl) (by kernel_rfl) (fun _ _ _ h => h) (Or.inl ⟨by rfl, ?hyn11⟩) hHeld ?_
  case hyn11 => (intro w hSw; (try dsimp only at hSw); go_simp; (try with_reducible rfl))
  try simp only [Act.put, List.setIfInBounds_toArray, List.set_cons_zero, List.set_cons_succ]
  refine wpAnyH_take (i := 12) (oi := { dst := some 24, op := Op.pick (Operand.tmp 16) (Operand.const (Value.bool true)) (Operand.tmp 23), type := 4, pos := "ideal.go:39", after := #[{ on := 4, ground := Ground.data }, { on := 11, ground := Ground.data }], guard := none }) (v := ?vn12) rfl (by kernel_rfl) (by kernel_rfl) (by kernel_rfl) (fun _ _ _ h => h) (Or.inl ⟨by rfl, ?hyn12⟩) hHeld ?_
  case hyn12 => (intro w hSw; (try dsimp only at hSw); go_simp; (try with_reducible rfl))
  try simp only [Act.put, List.setIfInBounds_toArray, List.set_cons_zero, List.set_cons_succ]
  refine wpAnyH_done (by kernel_rfl) ?_ _
  clear hHeld
  go_wp2_with fail
  refine (HO.out _ HH2.out).mono ?_
  rintro e W3 ⟨rfl, hW3⟩
  have HH3 := Lib.hid (HH2.out.below hW3)
  have HA3 := Lib.hid (HA2.out.below hW3)
  have HB3 := Lib.hid (belowOn HB2.out hW3)
  clear hW3 HH2 HA2 HB2 HO x0 x1 x2 x3 o0 o1 o2 o3
  obtain ⟨o0, o1, o2, o3, _⟩ := HA3.out.cells
  go_wp2_with fail
  refine (HF.out _ HH3.out).mono ?_
  rintro e W4 hP
  have HP := Lib.hid (hP.after HB3.out)
  obtain ⟨v', rfl, _⟩ := hP
  clear HF
  go_wp2_with fail
  go_ret
  exact HP.out
set_option maxHeartbeats 1600000 in
theorem Do_10 (h : StoreAt w X R L v b c d s) (hS : SpansAt w) (hRw : RowsAt w) (m x y z : Int) (full : Bool) (_ : s.n + 1 ≤ 1000000) (hg : goodOp b c d m 10 x y z) : Calls Tryz.prog 22 #[.pointer (some ⟨X, 0, none⟩), .int .i64 m, .agg #[.int .i64 10, .int .i64 x, .int .i64 y, .int .i64 z], .bool full] w (DoPost w X R L v b c d (nxtK s m 10 x y z full) (resK s m 10 x y full)) := by
  obtain ⟨_, n1, n2, n3, n4, n5, n6⟩ := hg.nums
  obtain ⟨hm0, hm1, hck⟩ := hg
  obtain ⟨m, rfl⟩ := nat_of hm0
  have hm : m < b := by omega
  obtain ⟨x, rfl⟩ := nat_of (n1 (by decide)).1
  obtain ⟨y, rfl⟩ := nat_of (n5 (by decide) (by decide) (by decide)).1
  have hx : x < c := by have := n1 (by decide); omega
  have hy : y < c := by have := n5 (by decide) (by decide) (by decide); omega
  have HG : Hid (∀ W, StoreAt W X R L v b c d s → W.cell? ⟨R, m * c + x, none⟩ = some (.int .u64 (s.g 0 m x)) ∧ W.cell? ⟨R, m * c + y, none⟩ = some (.int .u64 (s.g 0 m y))) := Lib.hid (fun W hW => ⟨hW.reg hm hx, hW.reg hm hy⟩)
  have HE : Hid (nxtK s m 10 x y z full = s ∧ resK s m 10 x y full = if s.g 0 m x = s.g 0 m y then 2 else 3) := Lib.hid ⟨by simp [nxtK], by simp [resK]⟩
  generalize s.g 0 m x = ux at *
  generalize s.g 0 m y = uy at *
  have hb := (below_new w (.cells #[.int .i64 10, .int .i64 x, .int .i64 y, .int .i64 z] 26)).drew
  have HH := Lib.hid (h.below hb)
  have HA : Hid (Arr4 (w.alloc (.cells #[.int .i64 10, .int .i64 x, .int .i64 y, .int .i64 z] 26)).drew w.heap.size 26 10 x y z) := Lib.hid (Arr4.new _ _ _ _ _ _)
  have HB := Lib.hid hb
  have HM : Hid (∀ W, StoreAt W X R L v b c d s → _) := Lib.hid (fun W hW => hasMut_yes (w := W) hW m hm)
  have HC : Hid (∀ W, Below w.heap.size w W → _) := Lib.hid (fun W hW => opCheck_c 2 b c d 10 x y z W (hS.below hW) (hRw.below hW))
  rw [hck] at HC
  have HO : Hid (∀ W, StoreAt W X R L v b c d s → _) := Lib.hid (fun W hW => own_c (w := W) hW m hm)
  generalize nxtK s m 10 x y z full = s' at *
  generalize resK s m 10 x y full = r at *
  generalize b * c - m * c = cc at *
  generalize m * c = q at *
  clear h hb hm hS hRw hck hm0 hm1 n1 n2 n3 n4 n5 n6
  obtain ⟨x0, x1, x2, x3, _, _, _, _⟩ := HH.out.cells
  obtain ⟨o0, o1, o2, o3, _⟩ := HA.out.cells
  go_enter Tryz.func22, Tryz.ntmps22
  go_wp2_with fail
  refine wp_region_held_drew (S := (fun w' => w'.cell? ⟨X, 0, none⟩ = some (.int .i64 2) ∧ w'.cell? ⟨X, 1, none⟩ = some (.int .i64 b) ∧ w'.cell? ⟨X, 2, none⟩ = some (.int .i64 c) ∧ w'.cell? ⟨X, 3, none⟩ = some (.int .i64 d) ∧ w'.cell? ⟨w.heap.size, 0, none⟩ = some (.int .i64 10) ∧ w'.cell? ⟨w.heap.size, 1, none⟩ = some (.int .i64 x) ∧ w'.cell? ⟨w.heap.size, 2, none⟩ = some (.int .i64 y) ∧ w'.cell? ⟨w.heap.size, 3, none⟩ = some (.int .i64 z))) (by kernel_rfl) ?_ (fun hHeld => ?_)
  · exact ⟨x0, x1, x2, x3, o0, o1, o2, o3⟩
  refine wpAnyH_take (i := 0) (oi := { dst := some 12, op := Op.move (Operand.tmp 0), type := 47, pos := "ideal.go:39", after := #[], guard := none }) (v := ?vn0) rfl (by kernel_rfl) (by kernel_rfl) (by kernel_rfl) (fun _ _ _ h => h) (Or.inl ⟨by rfl, ?hyn0⟩) hHeld ?_
  case hyn0 => (intro w hSw; (try dsimp only at hSw); go_simp; (try with_reducible rfl))
  try simp only [Act.put, List.setIfInBounds_toArray, List.set_cons_zero, List.set_cons_succ]
  refine wpAnyH_take (i := 1) (oi := { dst := some 13, op := Op.move (Operand.tmp 1), type := 3, pos := "ideal.go:39", after := #[], guard := none }) (v := ?vn1) rfl (by kernel_rfl) (by kernel_rfl) (by kernel_rfl) (fun _ _ _ h => h) (Or.inl ⟨by rfl, ?hyn1⟩) hHeld ?_
  case hyn1 => (intro w hSw; (try dsimp only at hSw); go_simp; (try with_reducible rfl))
  try simp only [Act.put, List.setIfInBounds_toArray, List.set_cons_zero, List.set_cons_succ]
  refine wpAnyH_ready (rs := [2]) (by kernel_rfl) (by simp) ?_
  refine AllReadyH.cons (o := { dst := some 14, op := Op.call { callee := Callee.value (Operand.func 42), args := #[Operand.tmp 12, Operand.tmp 13], argTypes := #[47, 3] }, type := 4, pos := "ideal.go:39", after := #[{ on := 0, ground := Ground.data }, { on := 1, ground := Ground.data }], guard := none }) rfl (fun K hK => ?_) AllReadyH.nil
  go_simp
  refine (HM.out _ HH.out).mono ?_
  rintro e W1 ⟨rfl, hW1⟩
  have HH1 := Lib.hid (show StoreAt W1 X R L v b c d s by rw [← hW1]; exact HH.out)
  have HA1 := Lib.hid (show Arr4 W1 w.heap.size 26 10 x y z by rw [← hW1]; exact HA.out)
  have HB1 := Lib.hid (show Below w.heap.size w W1 by rw [← hW1]; exact HB.out)
  clear hW1 HH HA HB HM
  clear x0 x1 x2 x3 o0 o1 o2 o3 hHeld
  obtain ⟨x0, x1, x2, x3, _, _, _, _⟩ := HH1.out.cells
  obtain ⟨o0, o1, o2, o3, _⟩ := HA1.out.cells
  refine hK.out _ _ ?_ (fun hHeld => ?_)
  · exact ⟨x0, x1, x2, x3, o0, o1, o2, o3⟩
  clear hK K
  try simp only [Act.put, List.setIfInBounds_toArray, List.set_cons_zero, List.set_cons_succ]
  refine wpAnyH_take (i := 3) (oi := { dst := some 15, op := Op.unOp UnOp.not 4 (Operand.tmp 14), type := 4, pos := "ideal.go:39", after := #[{ on := 2, ground := Ground.data }], guard := none }) (v := ?vn3) rfl (by kernel_rfl) (by kernel_rfl) (by kernel_rfl) (fun _ _ _ h => h) (Or.inl ⟨by rfl, ?hyn3⟩) hHeld ?_
  case hyn3 => (intro w hSw; (try dsimp only at hSw); go_simp; (try with_reducible rfl))
  try simp only [Act.put, List.setIfInBounds_toArray, List.set_cons_zero, List.set_cons_succ]
  refine wpAnyH_take (i := 4) (oi := { dst := some 16, op := Op.move (Operand.tmp 15), type := 4, pos := "ideal.go:39", after := #[{ on := 3, ground := Ground.data }, { on := 2, ground := Ground.chain }], guard := none }) (v := ?vn4) rfl (by kernel_rfl) (by kernel_rfl) (by kernel_rfl) (fun _ _ _ h => h) (Or.inl ⟨by rfl, ?hyn4⟩) hHeld ?_
  case hyn4 => (intro w hSw; (try dsimp only at hSw); go_simp; (try with_reducible rfl))
  try simp only [Act.put, List.setIfInBounds_toArray, List.set_cons_zero, List.set_cons_succ]
  refine wpAnyH_take (i := 5) (oi := { dst := some 17, op := Op.move (Operand.tmp 0), type := 47, pos := "ideal.go:39", after := #[{ on := 4, ground := Ground.guard }], guard := some (4, false) }) (v := ?vn5) rfl (by kernel_rfl) (by kernel_rfl) (by kernel_rfl) (fun _ _ _ h => h) (Or.inl ⟨by rfl, ?hyn5⟩) hHeld ?_
  case hyn5 => (intro w hSw; (try dsimp only at hSw); go_simp; (try with_reducible rfl))
  try simp only [Act.put, List.setIfInBounds_toArray, List.set_cons_zero, List.set_cons_succ]
  refine wpAnyH_take (i := 6) (oi := { dst := some 18, op := Op.nilCheck (Operand.tmp 17), type := 0, pos := "ideal.go:39", after := #[{ on := 5, ground := Ground.data }, { on := 4, ground := Ground.guard }], guard := some (4, false) }) (v := ?vn6) rfl (by kernel_rfl) (by kernel_rfl) (by kernel_rfl) (fun _ _ _ h => h) (Or.inl ⟨by rfl, ?hyn6⟩) hHeld ?_
  case hyn6 => (intro w hSw; (try dsimp only at hSw); go_simp; (try with_reducible rfl))
  try simp only [Act.put, List.setIfInBounds_toArray, List.set_cons_zero, List.set_cons_succ]
  refine wpAnyH_take (i := 7) (oi := { dst := some 19, op := Op.fieldAddr 78 (Operand.tmp 18) 0, type := 0, pos := "ideal.go:39", after := #[{ on := 6, ground := Ground.data }, { on := 4, ground := Ground.guard }], guard := some (4, false) }) (v := ?vn7) rfl (by kernel_rfl) (by kernel_rfl) (by kernel_rfl) (fun _ _ _ h => h) (Or.inl ⟨by rfl, ?hyn7⟩) hHeld ?_
  case hyn7 => (intro w hSw; (try dsimp only at hSw); go_simp; (try with_reducible rfl))
  try simp only [Act.put, List.setIfInBounds_toArray, List.set_cons_zero, List.set_cons_succ]
  refine wpAnyH_take (i := 8) (oi := { dst := some 20, op := Op.load 39 (Operand.tmp 19), type := 39, pos := "ideal.go:39", after := #[{ on := 7, ground := Ground.data }, { on := 4, ground := Ground.guard }], guard := some (4, false) }) (v := ?vn8) rfl (by kernel_rfl) (by kernel_rfl) (by kernel_rfl) (fun _ _ _ h => h) (Or.inl ⟨by rfl, ?hyn8⟩) hHeld ?_
  case hyn8 => (intro w hSw; (try dsimp only at hSw); go_simp; (try with_reducible rfl))
  try simp only [Act.put, List.setIfInBounds_toArray, List.set_cons_zero, List.set_cons_succ]
  refine wpAnyH_take (i := 9) (oi := { dst := some 21, op := Op.load 26 (Operand.tmp 6), type := 26, pos := "ideal.go:39", after := #[{ on := 4, ground := Ground.guard }], guard := some (4, false) }) (v := ?vn9) rfl (by kernel_rfl) (by kernel_rfl) (by kernel_rfl) (fun _ _ _ h => h) (Or.inl ⟨by rfl, ?hyn9⟩) hHeld ?_
  case hyn9 => (intro w hSw; (try dsimp only at hSw); go_simp; (try with_reducible rfl))
  try simp only [Act.put, List.setIfInBounds_toArray, List.set_cons_zero, List.set_cons_succ]
  refine wpAnyH_ready (rs := [10]) (by kernel_rfl) (by simp) ?_
  refine AllReadyH.cons (o := { dst := some 22, op := Op.call { callee := Callee.value (Operand.func 43), args := #[Operand.tmp 20, Operand.tmp 21], argTypes := #[39, 26] }, type := 44, pos := "ideal.go:39", after := #[{ on := 8, ground := Ground.data }, { on := 9, ground := Ground.data }, { on := 4, ground := Ground.chain }, { on := 4, ground := Ground.guard }], guard := some (4, false) }) rfl (fun K hK => ?_) AllReadyH.nil
  go_simp
  refine (HC.out _ HB1.out).mono ?_
  rintro e W2 ⟨rfl, hW2⟩
  have HH2 := Lib.hid (HH1.out.below hW2)
  have HA2 := Lib.hid (HA1.out.below hW2)
  have HB2 := Lib.hid (belowOn HB1.out hW2)
  clear hW2 HH1 HA1 HB1 HC
  clear x0 x1 x2 x3 o0 o1 o2 o3 hHeld
  obtain ⟨x0, x1, x2, x3, _, _, _, _⟩ := HH2.out.cells
  obtain ⟨o0, o1, o2, o3, _⟩ := HA2.out.cells
  refine hK.out _ _ ?_ (fun hHeld => ?_)
  · exact ⟨x0, x1, x2, x3, o0, o1, o2, o3⟩
  clear hK K
  try simp only [Act.put, List.setIfInBounds_toArray, List.set_cons_zero, List.set_cons_succ]
  refine wpAnyH_take (i := 11) (oi := { dst := some 23, op := Op.binOp BinOp.neq 44 (Operand.tmp 22) (Operand.const (Value.int IntKind.i64 0)) 44, type := 4, pos := "ideal.go:39", after := #[{ on := 10, ground := Ground.data }, { on := 4, ground := Ground.guard }], guard := some (4, false) }) (v := ?vn11) rfl (by kernel_rfl) (by kernel_rfl) (by kernel_rfl) (fun _ _ _ h => h) (Or.inl ⟨by rfl, ?hyn11⟩) hHeld ?_
  case hyn11 => (intro w hSw; (try dsimp only at hSw); go_simp; (try with_reducible rfl))
  try simp only [Act.put, List.setIfInBounds_toArray, List.set_cons_zero, List.set_cons_succ]
  refine wpAnyH_take (i := 12) (oi := { dst := some 24, op := Op.pick (Operand.tmp 16) (Operand.const (Value.bool true)) (Operand.tmp 23), type := 4, pos := "ideal.go:39", after := #[{ on := 4, ground := Ground.data }, { on := 11, ground := Ground.data }], guard := none }) (v := ?vn12) rfl (by kernel_rfl) (by kernel_rfl) (by kernel_rfl) (fun _ _ _ h => h) (Or.inl ⟨by rfl, ?hyn12⟩) hHeld ?_
  case hyn12 => (intro w hSw; (try dsimp only at hSw); go_simp; (try with_reducible rfl))
  try simp only [Act.put, List.setIfInBounds_toArray, List.set_cons_zero, List.set_cons_succ]
  refine wpAnyH_done (by kernel_rfl) ?_ _
  clear hHeld
  go_wp2_with fail
  refine (HO.out _ HH2.out).mono ?_
  rintro e W3 ⟨rfl, hW3⟩
  have HH3 := Lib.hid (HH2.out.below hW3)
  have HA3 := Lib.hid (HA2.out.below hW3)
  have HB3 := Lib.hid (belowOn HB2.out hW3)
  clear hW3 HH2 HA2 HB2 HO x0 x1 x2 x3 o0 o1 o2 o3
  obtain ⟨o0, o1, o2, o3, _⟩ := HA3.out.cells
  obtain ⟨cx, cy⟩ := HG.out _ HH3.out
  clear HG
  have HT := Lib.hid (truth_c true); have HF := Lib.hid (truth_c false)
  simp only [if_true, Bool.false_eq_true, if_false] at HT HF
  by_cases e : ux = uy
  · subst e
    rw [if_pos rfl] at HE
    go_wp2_with fail
    go_region_with (go_at_call 48; refine (HT.out _).mono ?_; rintro e w' ⟨rfl, rfl⟩)
    all_goals go_wp2_with fail
    all_goals go_ret
    all_goals exact DoPost.after HB3.out ⟨v, retInt HE.out.2.symm, by rw [HE.out.1]; exact HH3.out.drew, fun _ e => .inl e, Sav.refl.drew⟩
  · rw [if_neg e] at HE
    have q : ¬ (ux : Int) = (uy : Int) := by omega
    have e' : ((ux : Int) == (uy : Int)) = false := by simpa using q
    clear q
    go_wp2_with fail
    go_region_with (go_at_call 48; refine (HF.out _).mono ?_; rintro e w' ⟨rfl, rfl⟩)
    all_goals go_wp2_with fail
    all_goals go_ret
    all_goals exact DoPost.after HB3.out ⟨v, retInt HE.out.2.symm, by rw [HE.out.1]; exact HH3.out.drew, fun _ e => .inl e, Sav.refl.drew⟩
set_option maxHeartbeats 1600000 in
theorem Do_11 (h : StoreAt w X R L v b c d s) (hS : SpansAt w) (hRw : RowsAt w) (m x y z : Int) (full : Bool) (_ : s.n + 1 ≤ 1000000) (hg : goodOp b c d m 11 x y z) : Calls Tryz.prog 22 #[.pointer (some ⟨X, 0, none⟩), .int .i64 m, .agg #[.int .i64 11, .int .i64 x, .int .i64 y, .int .i64 z], .bool full] w (DoPost w X R L v b c d (nxtK s m 11 x y z full) (resK s m 11 x y full)) := by
  obtain ⟨_, n1, n2, n3, n4, n5, n6⟩ := hg.nums
  obtain ⟨hm0, hm1, hck⟩ := hg
  obtain ⟨m, rfl⟩ := nat_of hm0
  have hm : m < b := by omega
  obtain ⟨x, rfl⟩ := nat_of (n1 (by decide)).1
  have hx : x < c := by have := n1 (by decide); omega
  have HG : Hid (∀ W, StoreAt W X R L v b c d s → W.cell? ⟨R, m * c + x, none⟩ = some (.int .u64 (s.g 0 m x))) := Lib.hid (fun W hW => hW.reg hm hx)
  have HE : Hid (nxtK s m 11 x y z full = s ∧ resK s m 11 x y full = if s.g 0 m x % 2 = 0 then 2 else 3) := Lib.hid ⟨by simp [nxtK], by simp [resK]⟩
  have hu : s.g 0 m x < 18446744073709551616 := h.inv.u _ _ _
  generalize s.g 0 m x = ux at *
  have hb := (below_new w (.cells #[.int .i64 11, .int .i64 x, .int .i64 y, .int .i64 z] 26)).drew
  have HH := Lib.hid (h.below hb)
  have HA : Hid (Arr4 (w.alloc (.cells #[.int .i64 11, .int .i64 x, .int .i64 y, .int .i64 z] 26)).drew w.heap.size 26 11 x y z) := Lib.hid (Arr4.new _ _ _ _ _ _)
  have HB := Lib.hid hb
  have HM : Hid (∀ W, StoreAt W X R L v b c d s → _) := Lib.hid (fun W hW => hasMut_yes (w := W) hW m hm)
  have HC : Hid (∀ W, Below w.heap.size w W → _) := Lib.hid (fun W hW => opCheck_c 2 b c d 11 x y z W (hS.below hW) (hRw.below hW))
  rw [hck] at HC
  have HO : Hid (∀ W, StoreAt W X R L v b c d s → _) := Lib.hid (fun W hW => own_c (w := W) hW m hm)
  generalize nxtK s m 11 x y z full = s' at *
  generalize resK s m 11 x y full = r at *
  generalize b * c - m * c = cc at *
  generalize m * c = q at *
  clear h hb hm hS hRw hck hm0 hm1 n1 n2 n3 n4 n5 n6
  obtain ⟨x0, x1, x2, x3, _, _, _, _⟩ := HH.out.cells
  obtain ⟨o0, o1, o2, o3, _⟩ := HA.out.cells
  go_enter Tryz.func22, Tryz.ntmps22
  go_wp2_with fail
  refine wp_region_held_drew (S := (fun w' => w'.cell? ⟨X, 0, none⟩ = some (.int .i64 2) ∧ w'.cell? ⟨X, 1, none⟩ = some (.int .i64 b) ∧ w'.cell? ⟨X, 2, none⟩ = some (.int .i64 c) ∧ w'.cell? ⟨X, 3, none⟩ = some (.int .i64 d) ∧ w'.cell? ⟨w.heap.size, 0, none⟩ = some (.int .i64 11) ∧ w'.cell? ⟨w.heap.size, 1, none⟩ = some (.int .i64 x) ∧ w'.cell? ⟨w.heap.size, 2, none⟩ = some (.int .i64 y) ∧ w'.cell? ⟨w.heap.size, 3, none⟩ = some (.int .i64 z))) (by kernel_rfl) ?_ (fun hHeld => ?_)
  · exact ⟨x0, x1, x2, x3, o0, o1, o2, o3⟩
  refine wpAnyH_take (i := 0) (oi := { dst := some 12, op := Op.move (Operand.tmp 0), type := 47, pos := "ideal.go:39", after := #[], guard := none }) (v := ?vn0) rfl (by kernel_rfl) (by kernel_rfl) (by kernel_rfl) (fun _ _ _ h => h) (Or.inl ⟨by rfl, ?hyn0⟩) hHeld ?_
  case hyn0 => (intro w hSw; (try dsimp only at hSw); go_simp; (try with_reducible rfl))
  try simp only [Act.put, List.setIfInBounds_toArray, List.set_cons_zero, List.set_cons_succ]
  refine wpAnyH_take (i := 1) (oi := { dst := some 13, op := Op.move (Operand.tmp 1), type := 3, pos := "ideal.go:39", after := #[], guard := none }) (v := ?vn1) rfl (by kernel_rfl) (by kernel_rfl) (by kernel_rfl) (fun _ _ _ h => h) (Or.inl ⟨by rfl, ?hyn1⟩) hHeld ?_
  case hyn1 => (intro w hSw; (try dsimp only at hSw); go_simp; (try with_reducible rfl))
  try simp only [Act.put, List.setIfInBounds_toArray, List.set_cons_zero, List.set_cons_succ]
  refine wpAnyH_ready (rs := [2]) (by kernel_rfl) (by simp) ?_
  refine AllReadyH.cons (o := { dst := some 14, op := Op.call { callee := Callee.value (Operand.func 42), args := #[Operand.tmp 12, Operand.tmp 13], argTypes := #[47, 3] }, type := 4, pos := "ideal.go:39", after := #[{ on := 0, ground := Ground.data }, { on := 1, ground := Ground.data }], guard := none }) rfl (fun K hK => ?_) AllReadyH.nil
  go_simp
  refine (HM.out _ HH.out).mono ?_
  rintro e W1 ⟨rfl, hW1⟩
  have HH1 := Lib.hid (show StoreAt W1 X R L v b c d s by rw [← hW1]; exact HH.out)
  have HA1 := Lib.hid (show Arr4 W1 w.heap.size 26 11 x y z by rw [← hW1]; exact HA.out)
  have HB1 := Lib.hid (show Below w.heap.size w W1 by rw [← hW1]; exact HB.out)
  clear hW1 HH HA HB HM
  clear x0 x1 x2 x3 o0 o1 o2 o3 hHeld
  obtain ⟨x0, x1, x2, x3, _, _, _, _⟩ := HH1.out.cells
  obtain ⟨o0, o1, o2, o3, _⟩ := HA1.out.cells
  refine hK.out _ _ ?_ (fun hHeld => ?_)
  · exact ⟨x0, x1, x2, x3, o0, o1, o2, o3⟩
  clear hK K
  try simp only [Act.put, List.setIfInBounds_toArray, List.set_cons_zero, List.set_cons_succ]
  refine wpAnyH_take (i := 3) (oi := { dst := some 15, op := Op.unOp UnOp.not 4 (Operand.tmp 14), type := 4, pos := "ideal.go:39", after := #[{ on := 2, ground := Ground.data }], guard := none }) (v := ?vn3) rfl (by kernel_rfl) (by kernel_rfl) (by kernel_rfl) (fun _ _ _ h => h) (Or.inl ⟨by rfl, ?hyn3⟩) hHeld ?_
  case hyn3 => (intro w hSw; (try dsimp only at hSw); go_simp; (try with_reducible rfl))
  try simp only [Act.put, List.setIfInBounds_toArray, List.set_cons_zero, List.set_cons_succ]
  refine wpAnyH_take (i := 4) (oi := { dst := some 16, op := Op.move (Operand.tmp 15), type := 4, pos := "ideal.go:39", after := #[{ on := 3, ground := Ground.data }, { on := 2, ground := Ground.chain }], guard := none }) (v := ?vn4) rfl (by kernel_rfl) (by kernel_rfl) (by kernel_rfl) (fun _ _ _ h => h) (Or.inl ⟨by rfl, ?hyn4⟩) hHeld ?_
  case hyn4 => (intro w hSw; (try dsimp only at hSw); go_simp; (try with_reducible rfl))
  try simp only [Act.put, List.setIfInBounds_toArray, List.set_cons_zero, List.set_cons_succ]
  refine wpAnyH_take (i := 5) (oi := { dst := some 17, op := Op.move (Operand.tmp 0), type := 47, pos := "ideal.go:39", after := #[{ on := 4, ground := Ground.guard }], guard := some (4, false) }) (v := ?vn5) rfl (by kernel_rfl) (by kernel_rfl) (by kernel_rfl) (fun _ _ _ h => h) (Or.inl ⟨by rfl, ?hyn5⟩) hHeld ?_
  case hyn5 => (intro w hSw; (try dsimp only at hSw); go_simp; (try with_reducible rfl))
  try simp only [Act.put, List.setIfInBounds_toArray, List.set_cons_zero, List.set_cons_succ]
  refine wpAnyH_take (i := 6) (oi := { dst := some 18, op := Op.nilCheck (Operand.tmp 17), type := 0, pos := "ideal.go:39", after := #[{ on := 5, ground := Ground.data }, { on := 4, ground := Ground.guard }], guard := some (4, false) }) (v := ?vn6) rfl (by kernel_rfl) (by kernel_rfl) (by kernel_rfl) (fun _ _ _ h => h) (Or.inl ⟨by rfl, ?hyn6⟩) hHeld ?_
  case hyn6 => (intro w hSw; (try dsimp only at hSw); go_simp; (try with_reducible rfl))
  try simp only [Act.put, List.setIfInBounds_toArray, List.set_cons_zero, List.set_cons_succ]
  refine wpAnyH_take (i := 7) (oi := { dst := some 19, op := Op.fieldAddr 78 (Operand.tmp 18) 0, type := 0, pos := "ideal.go:39", after := #[{ on := 6, ground := Ground.data }, { on := 4, ground := Ground.guard }], guard := some (4, false) }) (v := ?vn7) rfl (by kernel_rfl) (by kernel_rfl) (by kernel_rfl) (fun _ _ _ h => h) (Or.inl ⟨by rfl, ?hyn7⟩) hHeld ?_
  case hyn7 => (intro w hSw; (try dsimp only at hSw); go_simp; (try with_reducible rfl))
  try simp only [Act.put, List.setIfInBounds_toArray, List.set_cons_zero, List.set_cons_succ]
  refine wpAnyH_take (i := 8) (oi := { dst := some 20, op := Op.load 39 (Operand.tmp 19), type := 39, pos := "ideal.go:39", after := #[{ on := 7, ground := Ground.data }, { on := 4, ground := Ground.guard }], guard := some (4, false) }) (v := ?vn8) rfl (by kernel_rfl) (by kernel_rfl) (by kernel_rfl) (fun _ _ _ h => h) (Or.inl ⟨by rfl, ?hyn8⟩) hHeld ?_
  case hyn8 => (intro w hSw; (try dsimp only at hSw); go_simp; (try with_reducible rfl))
  try simp only [Act.put, List.setIfInBounds_toArray, List.set_cons_zero, List.set_cons_succ]
  refine wpAnyH_take (i := 9) (oi := { dst := some 21, op := Op.load 26 (Operand.tmp 6), type := 26, pos := "ideal.go:39", after := #[{ on := 4, ground := Ground.guard }], guard := some (4, false) }) (v := ?vn9) rfl (by kernel_rfl) (by kernel_rfl) (by kernel_rfl) (fun _ _ _ h => h) (Or.inl ⟨by rfl, ?hyn9⟩) hHeld ?_
  case hyn9 => (intro w hSw; (try dsimp only at hSw); go_simp; (try with_reducible rfl))
  try simp only [Act.put, List.setIfInBounds_toArray, List.set_cons_zero, List.set_cons_succ]
  refine wpAnyH_ready (rs := [10]) (by kernel_rfl) (by simp) ?_
  refine AllReadyH.cons (o := { dst := some 22, op := Op.call { callee := Callee.value (Operand.func 43), args := #[Operand.tmp 20, Operand.tmp 21], argTypes := #[39, 26] }, type := 44, pos := "ideal.go:39", after := #[{ on := 8, ground := Ground.data }, { on := 9, ground := Ground.data }, { on := 4, ground := Ground.chain }, { on := 4, ground := Ground.guard }], guard := some (4, false) }) rfl (fun K hK => ?_) AllReadyH.nil
  go_simp
  refine (HC.out _ HB1.out).mono ?_
  rintro e W2 ⟨rfl, hW2⟩
  have HH2 := Lib.hid (HH1.out.below hW2)
  have HA2 := Lib.hid (HA1.out.below hW2)
  have HB2 := Lib.hid (belowOn HB1.out hW2)
  clear hW2 HH1 HA1 HB1 HC
  clear x0 x1 x2 x3 o0 o1 o2 o3 hHeld
  obtain ⟨x0, x1, x2, x3, _, _, _, _⟩ := HH2.out.cells
  obtain ⟨o0, o1, o2, o3, _⟩ := HA2.out.cells
  refine hK.out _ _ ?_ (fun hHeld => ?_)
  · exact ⟨x0, x1, x2, x3, o0, o1, o2, o3⟩
  clear hK K
  try simp only [Act.put, List.setIfInBounds_toArray, List.set_cons_zero, List.set_cons_succ]
  refine wpAnyH_take (i := 11) (oi := { dst := some 23, op := Op.binOp BinOp.neq 44 (Operand.tmp 22) (Operand.const (Value.int IntKind.i64 0)) 44, type := 4, pos := "ideal.go:39", after := #[{ on := 10, ground := Ground.data }, { on := 4, ground := Ground.guard }], guard := some (4, false) }) (v := ?vn11) rfl (by kernel_rfl) (by kernel_rfl) (by kernel_rfl) (fun _ _ _ h => h) (Or.inl ⟨by rfl, ?hyn11⟩) hHeld ?_
  case hyn11 => (intro w hSw; (try dsimp only at hSw); go_simp; (try with_reducible rfl))
  try simp only [Act.put, List.setIfInBounds_toArray, List.set_cons_zero, List.set_cons_succ]
  refine wpAnyH_take (i := 12) (oi := { dst := some 24, op := Op.pick (Operand.tmp 16) (Operand.const (Value.bool true)) (Operand.tmp 23), type := 4, pos := "ideal.go:39", after := #[{ on := 4, ground := Ground.data }, { on := 11, ground := Ground.data }], guard := none }) (v := ?vn12) rfl (by kernel_rfl) (by kernel_rfl) (by kernel_rfl) (fun _ _ _ h => h) (Or.inl ⟨by rfl, ?hyn12⟩) hHeld ?_
  case hyn12 => (intro w hSw; (try dsimp only at hSw); go_simp; (try with_reducible rfl))
  try simp only [Act.put, List.setIfInBounds_toArray, List.set_cons_zero, List.set_cons_succ]
  refine wpAnyH_done (by kernel_rfl) ?_ _
  clear hHeld
  go_wp2_with fail
  refine (HO.out _ HH2.out).mono ?_
  rintro e W3 ⟨rfl, hW3⟩
  have HH3 := Lib.hid (HH2.out.below hW3)
  have HA3 := Lib.hid (HA2.out.below hW3)
  have HB3 := Lib.hid (belowOn HB2.out hW3)
  clear hW3 HH2 HA2 HB2 HO x0 x1 x2 x3 o0 o1 o2 o3
  obtain ⟨o0, o1, o2, o3, _⟩ := HA3.out.cells
  have cx := HG.out _ HH3.out
  clear HG
  go_wp2_with fail
  by_cases hp : ux % 2 = 0
  · refine (isAtom_even ux hu hp _).mono ?_
    rintro e W4 ⟨rfl, rfl⟩
    go_wp2_with fail
    refine (truth_c _ _).mono ?_
    rintro e W4 ⟨rfl, rfl⟩
    go_wp2_with fail
    go_ret
    refine DoPost.after HB3.out ⟨v, ?_, by rw [HE.out.1]; exact HH3.out, fun _ e => .inl e, .refl⟩
    rw [HE.out.2, if_pos hp]; rfl
  · refine (isAtom_odd ux hu (by omega) _).mono ?_
    rintro e W4 ⟨rfl, rfl⟩
    go_wp2_with fail
    refine (truth_c _ _).mono ?_
    rintro e W4 ⟨rfl, rfl⟩
    go_wp2_with fail
    go_ret
    refine DoPost.after HB3.out ⟨v, ?_, by rw [HE.out.1]; exact HH3.out, fun _ e => .inl e, .refl⟩
    rw [HE.out.2, if_neg hp]; rfl
/-- Do, of every mutator and every operation. -/
theorem Do_c (h : StoreAt w X R L v b c d s) (hS : SpansAt w) (hRw : RowsAt w) (m k x y z : Int) (full : Bool) (hn : s.n + 1 ≤ 1000000) : Calls Tryz.prog 22 #[.pointer (some ⟨X, 0, none⟩), .int .i64 m, .agg #[.int .i64 k, .int .i64 x, .int .i64 y, .int .i64 z], .bool full] w (DoPost w X R L v b c d (doS b c d s m k x y z full) (doR b c d s m k x y z full)) := by
  unfold doS doR
  by_cases hg : goodOp b c d m k x y z
  · rw [if_pos hg, if_pos hg]
    obtain ⟨j, rfl, h1, h2⟩ := hg.right.1.nat
    obtain rfl | rfl | rfl | rfl | rfl | rfl | rfl | rfl | rfl | rfl | rfl := kind_cases h1 h2
    · exact Do_1 h hS hRw m x y z full hn hg
    · exact Do_2 h hS hRw m x y z full hn hg
    · exact Do_3 h hS hRw m x y z full hn hg
    · exact Do_4 h hS hRw m x y z full hn hg
    · exact Do_5 h hS hRw m x y z full hn hg
    · exact Do_6 h hS hRw m x y z full hn hg
    · exact Do_7 h hS hRw m x y z full hn hg
    · exact Do_8 h hS hRw m x y z full hn hg
    · exact Do_9 h hS hRw m x y z full hn hg
    · exact Do_10 h hS hRw m x y z full hn hg
    · exact Do_11 h hS hRw m x y z full hn hg
  · rw [if_neg hg, if_neg hg]
    by_cases hm : 0 ≤ m ∧ m < b
    · obtain ⟨q, rfl⟩ := nat_of hm.1
      exact Do_notRight h hS hRw q k x y z full (by omega) (fun e => hg ⟨hm.1, hm.2, e⟩)
    · exact Do_noMut h m k x y z full hm
end
end Go.Proofs.YtbpkdihonemogaaGreatDoor.Il
