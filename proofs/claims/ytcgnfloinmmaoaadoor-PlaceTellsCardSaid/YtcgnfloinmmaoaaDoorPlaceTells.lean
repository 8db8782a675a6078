/- The law PlaceTells answers true for every configuration and all numbers, in whatever memory in which the table of spans reads as its text lays it. -/
import Derived.Test.YtcgnfloinmmaoaaDoorPlaceAwake
namespace Go.Proofs.YtcgnfloinmmaoaaDoor
open Go Go.RowKit
set_option maxRecDepth 100000
attribute [local go_sem ↓] Go.wp_at_zero Go.wp_at_succ

set_option maxHeartbeats 12800000 in
theorem placeTells_right (a b c d i r : Int) (hr : Right a b c d) (w : World) (hS : SpansAt w) :
    Calls Tryd.prog 3 #[.agg #[.int .i64 a, .int .i64 b, .int .i64 c, .int .i64 d], .int .i64 i, .int .i64 r] w fun e w' => e = .returned (.bool true) ∧ Below w.heap.size w w' := by
  have hb := below_new w (.cells #[.int .i64 a, .int .i64 b, .int .i64 c, .int .i64 d] 23)
  have HX0 := Lib.hid (BoxAt.new w a b c d 23)
  have HA := Lib.hid (awakeP_c _ (hS.below hb))
  have HN := Lib.hid (New_right a b c d hr)
  have HI := Lib.hid (refRight_right a b c d hr)
  have HWd : ∀ w, Calls Tryd.prog 20 #[.agg #[.int .i64 a, .int .i64 b, .int .i64 c, .int .i64 d]] w fun e w' => e = .returned (.int .i64 (sizeP a b c d)) ∧ Below w.heap.size w w' := fun w => by
    have h := refWords_right a b c d hr w
    unfold sizeP; rw [if_pos hr]
    rwa [show 4 + b + (1 + d + b * c) + a + a + a = 4 + b + (1 + d + b * c) + 3 * a by omega] at h
  have K0 := Lib.hid (In_c a b c d i)
  have K1 := Lib.hid (lawAt_in a b c d i)
  have K2 := Lib.hid (Glob_c a b c d i)
  have K3 := Lib.hid (lawAt_glob a b c d i)
  have K4 := Lib.hid (Reg_c a b c d i r)
  have K5 := Lib.hid (lawAt_reg a b c d i r)
  have K6 := Lib.hid (Car_c a b c d i)
  have K7 := Lib.hid (lawAt_car a b c d i)
  have K8 := Lib.hid (Cdr_c a b c d i)
  have K9 := Lib.hid (lawAt_cdr a b c d i)
  have K10 := Lib.hid (Colour_c a b c d i)
  have K11 := Lib.hid (lawAt_colour a b c d i)
  have K12 := Lib.hid (Root_c a b c d i)
  have K13 := Lib.hid (refRoot_c a b c d i)
  have K14 := Lib.hid (Size_c a b c d)
  have K15 := Lib.hid (HWd)
  generalize inP a b c d i = R0 at K0 K1
  generalize globP a b c d i = R1 at K2 K3
  generalize regP a b c d i r = R2 at K4 K5
  generalize partP a b c d 0 i = R3 at K6 K7
  generalize partP a b c d 1 i = R4 at K8 K9
  generalize partP a b c d 2 i = R5 at K10 K11
  generalize rootP a b c d i = R6 at K12 K13
  generalize sizeP a b c d = R7 at K14 K15
  have HS := Lib.hid hS
  have HB0 := Lib.hid hb
  clear hS hb hr HWd
  go_enter Tryd.func3, Tryd.ntmps3
  go_wp2_with fail
  refine HA.out.mono ?_
  rintro e W1 ⟨rfl, hW⟩
  have HB1 := Lib.hid (belowOn HB0.out hW)
  have HX1 := Lib.hid (HX0.out.below hW)
  obtain ⟨x0, x1, x2, x3⟩ := HX1.out
  clear HA HB0 HX0 hW
  go_wp2_with fail
  refine (HN.out _ (HS.out.below HB1.out)).mono ?_
  rintro e W2 ⟨rfl, hW⟩
  have hB2 := belowOn HB1.out hW
  have hX2 := HX1.out.below hW
  have HB3 := Lib.hid (below_on hB2 (.cells #[.int .i64 a, .int .i64 b, .int .i64 c, .int .i64 d] 26))
  have HX3 := Lib.hid (hX2.below (below_new W2 (.cells #[.int .i64 a, .int .i64 b, .int .i64 c, .int .i64 d] 26)))
  have HM3 := Lib.hid (BoxAt.new W2 a b c d 26)
  clear x0 x1 x2 x3
  obtain ⟨x0, x1, x2, x3⟩ := HX3.out
  obtain ⟨m0, m1, m2, m3⟩ := HM3.out
  clear hW hB2 hX2 HX1 HB1 HN
  go_wp2_with fail
  refine (HI.out _).mono ?_
  rintro e W4 ⟨rfl, hW⟩
  have hB4 := belowOn HB3.out hW
  have hX4 := HX3.out.below hW
  clear x0 x1 x2 x3 m0 m1 m2 m3
  obtain ⟨x0, x1, x2, x3⟩ := hX4
  obtain ⟨m0, m1, m2, m3⟩ := HM3.out.below hW
  have HB5 := Lib.hid (below_on hB4 (.cells #[.int .i64 a, .int .i64 b, .int .i64 c, .int .i64 d] 26))
  have HX5 := Lib.hid (BoxAt.below (HX3.out.below hW) (below_new W4 (.cells #[.int .i64 a, .int .i64 b, .int .i64 c, .int .i64 d] 26)))
  have HZ5 := Lib.hid (BoxAt.new W4 a b c d 26)
  clear hW hB4 HX3 HB3 HI HM3
  go_wp2_with fail
  obtain ⟨W5, hW5⟩ : ∃ W5, W5 = W4.alloc (.cells #[.int .i64 a, .int .i64 b, .int .i64 c, .int .i64 d] 26) := ⟨_, rfl⟩
  rw [← hW5] at HB5 HX5 HZ5 ⊢
  clear x0 x1 x2 x3 m0 m1 m2 m3 hW5
  obtain ⟨x0, x1, x2, x3⟩ := HX5.out
  obtain ⟨z0, z1, z2, z3⟩ := HZ5.out
  have hQ0 : Below w.heap.size w W5.drew := HB5.out.drew
  clear HX5 HZ5 HB5
  simp only [List.append]
  refine wp_region_held_drew (S := (fun w' => w'.cell? ⟨w.heap.size, 0, none⟩ = some (.int .i64 a) ∧ w'.cell? ⟨w.heap.size, 1, none⟩ = some (.int .i64 b) ∧ w'.cell? ⟨w.heap.size, 2, none⟩ = some (.int .i64 c) ∧ w'.cell? ⟨w.heap.size, 3, none⟩ = some (.int .i64 d) ∧ w'.cell? ⟨W4.heap.size, 0, none⟩ = some (.int .i64 a) ∧ w'.cell? ⟨W4.heap.size, 1, none⟩ = some (.int .i64 b) ∧ w'.cell? ⟨W4.heap.size, 2, none⟩ = some (.int .i64 c) ∧ w'.cell? ⟨W4.heap.size, 3, none⟩ = some (.int .i64 d))) (by kernel_rfl) ?_ (fun hHeld => ?_)
  · exact ⟨x0, x1, x2, x3, z0, z1, z2, z3⟩
  refine wpAnyH_take (i := 0) (oi := { dst := some 48, op := Op.load 26 (Operand.tmp 9), type := 26, pos := "law.go:29", after := #[], guard := none }) (v := ?vr0) rfl (by kernel_rfl) (by kernel_rfl) (by kernel_rfl) (fun _ _ _ h => h) (Or.inl ⟨by rfl, ?hyr0⟩) hHeld ?_
  case hyr0 => (intro w hSw; (try dsimp only at hSw); go_simp; (try with_reducible rfl))
  try simp only [Act.put, List.setIfInBounds_toArray, List.set_cons_zero, List.set_cons_succ]
  refine wpAnyH_take (i := 1) (oi := { dst := some 49, op := Op.move (Operand.tmp 1), type := 3, pos := "law.go:29", after := #[], guard := none }) (v := ?vr1) rfl (by kernel_rfl) (by kernel_rfl) (by kernel_rfl) (fun _ _ _ h => h) (Or.inl ⟨by rfl, ?hyr1⟩) hHeld ?_
  case hyr1 => (intro w hSw; (try dsimp only at hSw); go_simp; (try with_reducible rfl))
  try simp only [Act.put, List.setIfInBounds_toArray, List.set_cons_zero, List.set_cons_succ]
  refine wpAnyH_take (i := 3) (oi := { dst := some 51, op := Op.load 23 (Operand.tmp 3), type := 23, pos := "law.go:29", after := #[], guard := none }) (v := ?vr3) rfl (by kernel_rfl) (by kernel_rfl) (by kernel_rfl) (fun _ _ _ h => h) (Or.inl ⟨by rfl, ?hyr3⟩) hHeld ?_
  case hyr3 => (intro w hSw; (try dsimp only at hSw); go_simp; (try with_reducible rfl))
  try simp only [Act.put, List.setIfInBounds_toArray, List.set_cons_zero, List.set_cons_succ]
  refine wpAnyH_take (i := 4) (oi := { dst := some 52, op := Op.move (Operand.tmp 1), type := 3, pos := "law.go:29", after := #[], guard := none }) (v := ?vr4) rfl (by kernel_rfl) (by kernel_rfl) (by kernel_rfl) (fun _ _ _ h => h) (Or.inl ⟨by rfl, ?hyr4⟩) hHeld ?_
  case hyr4 => (intro w hSw; (try dsimp only at hSw); go_simp; (try with_reducible rfl))
  try simp only [Act.put, List.setIfInBounds_toArray, List.set_cons_zero, List.set_cons_succ]
  refine wpAnyH_ready (rs := [2]) (by kernel_rfl) (by simp) ?_
  refine AllReadyH.cons (o := { dst := some 50, op := Op.call { callee := Callee.value (Operand.func 10), args := #[Operand.tmp 48, Operand.tmp 49], argTypes := #[26, 3] }, type := 3, pos := "law.go:29", after := #[{ on := 0, ground := Ground.data }, { on := 1, ground := Ground.data }], guard := none }) rfl (fun K hK => ?_) AllReadyH.nil
  go_simp
  refine (K0.out _ (HS.out.below hQ0)).mono ?_
  rintro e v1 ⟨rfl, hV⟩
  have hX1 : Two v1 w.heap.size W4.heap.size a b c d a b c d := Two.below hHeld hV
  have hQ1 := belowOn (w := w) hQ0 hV
  clear hV hHeld hQ0 K0
  try go_wp2_with fail
  refine hK.out _ _ ?_ (fun hHeld => ?_)
  · exact hX1
  clear hK K
  try simp only [Act.put, List.setIfInBounds_toArray, List.set_cons_zero, List.set_cons_succ]
  refine wpAnyH_ready (rs := [5]) (by kernel_rfl) (by simp) ?_
  refine AllReadyH.cons (o := { dst := some 53, op := Op.call { callee := Callee.value (Operand.func 11), args := #[Operand.tmp 51, Operand.const (Value.int IntKind.i64 1), Operand.tmp 52, Operand.const (Value.int IntKind.i64 0)], argTypes := #[23, 3, 3, 3] }, type := 3, pos := "law.go:29", after := #[{ on := 3, ground := Ground.data }, { on := 4, ground := Ground.data }, { on := 2, ground := Ground.chain }], guard := none }) rfl (fun K hK => ?_) AllReadyH.nil
  go_simp
  refine (K1.out _).mono ?_
  rintro e v2 ⟨rfl, hV⟩
  have hX2 : Two v2 w.heap.size W4.heap.size a b c d a b c d := Two.below hHeld hV
  have hQ2 := belowOn (w := w) hQ1 hV
  clear hV hHeld hQ1 K1
  try go_wp2_with fail
  refine hK.out _ _ ?_ (fun hHeld => ?_)
  · exact hX2
  clear hK K
  try simp only [Act.put, List.setIfInBounds_toArray, List.set_cons_zero, List.set_cons_succ]
  refine wpAnyH_take (i := 6) (oi := { dst := some 54, op := Op.binOp BinOp.eql 3 (Operand.tmp 50) (Operand.tmp 53) 3, type := 4, pos := "law.go:29", after := #[{ on := 2, ground := Ground.data }, { on := 5, ground := Ground.data }], guard := none }) (v := ?vr6) rfl (by kernel_rfl) (by kernel_rfl) (by kernel_rfl) (fun _ _ _ h => h) (Or.inl ⟨by rfl, ?hyr6⟩) hHeld ?_
  case hyr6 => (intro w hSw; (try dsimp only at hSw); go_simp; (try with_reducible rfl))
  try simp only [Act.put, List.setIfInBounds_toArray, List.set_cons_zero, List.set_cons_succ]
  refine wpAnyH_take (i := 7) (oi := { dst := some 55, op := Op.move (Operand.tmp 54), type := 4, pos := "law.go:29", after := #[{ on := 6, ground := Ground.data }, { on := 5, ground := Ground.chain }], guard := none }) (v := ?vr7) rfl (by kernel_rfl) (by kernel_rfl) (by kernel_rfl) (fun _ _ _ h => h) (Or.inl ⟨by rfl, ?hyr7⟩) hHeld ?_
  case hyr7 => (intro w hSw; (try dsimp only at hSw); go_simp; (try with_reducible rfl))
  try simp only [Act.put, List.setIfInBounds_toArray, List.set_cons_zero, List.set_cons_succ]
  refine wpAnyH_take (i := 8) (oi := { dst := some 56, op := Op.load 26 (Operand.tmp 9), type := 26, pos := "law.go:29", after := #[{ on := 7, ground := Ground.guard }], guard := some (7, true) }) (v := ?vr8) rfl (by kernel_rfl) (by kernel_rfl) (by kernel_rfl) (fun _ _ _ h => h) (Or.inl ⟨by rfl, ?hyr8⟩) hHeld ?_
  case hyr8 => (intro w hSw; (try dsimp only at hSw); go_simp; (try with_reducible rfl))
  try simp only [Act.put, List.setIfInBounds_toArray, List.set_cons_zero, List.set_cons_succ]
  refine wpAnyH_take (i := 9) (oi := { dst := some 57, op := Op.move (Operand.tmp 1), type := 3, pos := "law.go:29", after := #[{ on := 7, ground := Ground.guard }], guard := some (7, true) }) (v := ?vr9) rfl (by kernel_rfl) (by kernel_rfl) (by kernel_rfl) (fun _ _ _ h => h) (Or.inl ⟨by rfl, ?hyr9⟩) hHeld ?_
  case hyr9 => (intro w hSw; (try dsimp only at hSw); go_simp; (try with_reducible rfl))
  try simp only [Act.put, List.setIfInBounds_toArray, List.set_cons_zero, List.set_cons_succ]
  refine wpAnyH_take (i := 11) (oi := { dst := some 59, op := Op.load 23 (Operand.tmp 3), type := 23, pos := "law.go:29", after := #[{ on := 7, ground := Ground.guard }], guard := some (7, true) }) (v := ?vr11) rfl (by kernel_rfl) (by kernel_rfl) (by kernel_rfl) (fun _ _ _ h => h) (Or.inl ⟨by rfl, ?hyr11⟩) hHeld ?_
  case hyr11 => (intro w hSw; (try dsimp only at hSw); go_simp; (try with_reducible rfl))
  try simp only [Act.put, List.setIfInBounds_toArray, List.set_cons_zero, List.set_cons_succ]
  refine wpAnyH_take (i := 12) (oi := { dst := some 60, op := Op.move (Operand.tmp 1), type := 3, pos := "law.go:29", after := #[{ on := 7, ground := Ground.guard }], guard := some (7, true) }) (v := ?vr12) rfl (by kernel_rfl) (by kernel_rfl) (by kernel_rfl) (fun _ _ _ h => h) (Or.inl ⟨by rfl, ?hyr12⟩) hHeld ?_
  case hyr12 => (intro w hSw; (try dsimp only at hSw); go_simp; (try with_reducible rfl))
  try simp only [Act.put, List.setIfInBounds_toArray, List.set_cons_zero, List.set_cons_succ]
  refine wpAnyH_ready (rs := [10]) (by kernel_rfl) (by simp) ?_
  refine AllReadyH.cons (o := { dst := some 58, op := Op.call { callee := Callee.value (Operand.func 12), args := #[Operand.tmp 56, Operand.tmp 57], argTypes := #[26, 3] }, type := 3, pos := "law.go:29", after := #[{ on := 8, ground := Ground.data }, { on := 9, ground := Ground.data }, { on := 7, ground := Ground.chain }, { on := 7, ground := Ground.guard }], guard := some (7, true) }) rfl (fun K hK => ?_) AllReadyH.nil
  go_simp
  refine (K2.out _ (HS.out.below hQ2)).mono ?_
  rintro e v3 ⟨rfl, hV⟩
  have hX3 : Two v3 w.heap.size W4.heap.size a b c d a b c d := Two.below hHeld hV
  have hQ3 := belowOn (w := w) hQ2 hV
  clear hV hHeld hQ2 K2
  try go_wp2_with fail
  refine hK.out _ _ ?_ (fun hHeld => ?_)
  · exact hX3
  clear hK K
  try simp only [Act.put, List.setIfInBounds_toArray, List.set_cons_zero, List.set_cons_succ]
  refine wpAnyH_ready (rs := [13]) (by kernel_rfl) (by simp) ?_
  refine AllReadyH.cons (o := { dst := some 61, op := Op.call { callee := Callee.value (Operand.func 11), args := #[Operand.tmp 59, Operand.const (Value.int IntKind.i64 2), Operand.tmp 60, Operand.const (Value.int IntKind.i64 0)], argTypes := #[23, 3, 3, 3] }, type := 3, pos := "law.go:29", after := #[{ on := 11, ground := Ground.data }, { on := 12, ground := Ground.data }, { on := 10, ground := Ground.chain }, { on := 7, ground := Ground.guard }], guard := some (7, true) }) rfl (fun K hK => ?_) AllReadyH.nil
  go_simp
  refine (K3.out _).mono ?_
  rintro e v4 ⟨rfl, hV⟩
  have hX4 : Two v4 w.heap.size W4.heap.size a b c d a b c d := Two.below hHeld hV
  have hQ4 := belowOn (w := w) hQ3 hV
  clear hV hHeld hQ3 K3
  try go_wp2_with fail
  refine hK.out _ _ ?_ (fun hHeld => ?_)
  · exact hX4
  clear hK K
  try simp only [Act.put, List.setIfInBounds_toArray, List.set_cons_zero, List.set_cons_succ]
  refine wpAnyH_take (i := 14) (oi := { dst := some 62, op := Op.binOp BinOp.eql 3 (Operand.tmp 58) (Operand.tmp 61) 3, type := 4, pos := "law.go:29", after := #[{ on := 10, ground := Ground.data }, { on := 13, ground := Ground.data }, { on := 7, ground := Ground.guard }], guard := some (7, true) }) (v := ?vr14) rfl (by kernel_rfl) (by kernel_rfl) (by kernel_rfl) (fun _ _ _ h => h) (Or.inl ⟨by rfl, ?hyr14⟩) hHeld ?_
  case hyr14 => (intro w hSw; (try dsimp only at hSw); go_simp; (try with_reducible rfl))
  try simp only [Act.put, List.setIfInBounds_toArray, List.set_cons_zero, List.set_cons_succ]
  refine wpAnyH_take (i := 15) (oi := { dst := some 63, op := Op.pick (Operand.tmp 55) (Operand.tmp 62) (Operand.const (Value.bool false)), type := 4, pos := "law.go:29", after := #[{ on := 7, ground := Ground.data }, { on := 14, ground := Ground.data }], guard := none }) (v := ?vr15) rfl (by kernel_rfl) (by kernel_rfl) (by kernel_rfl) (fun _ _ _ h => h) (Or.inl ⟨by rfl, ?hyr15⟩) hHeld ?_
  case hyr15 => (intro w hSw; (try dsimp only at hSw); go_simp; (try with_reducible rfl))
  try simp only [Act.put, List.setIfInBounds_toArray, List.set_cons_zero, List.set_cons_succ]
  refine wpAnyH_take (i := 16) (oi := { dst := some 64, op := Op.move (Operand.tmp 63), type := 4, pos := "law.go:29", after := #[{ on := 15, ground := Ground.data }, { on := 13, ground := Ground.chain }], guard := none }) (v := ?vr16) rfl (by kernel_rfl) (by kernel_rfl) (by kernel_rfl) (fun _ _ _ h => h) (Or.inl ⟨by rfl, ?hyr16⟩) hHeld ?_
  case hyr16 => (intro w hSw; (try dsimp only at hSw); go_simp; (try with_reducible rfl))
  try simp only [Act.put, List.setIfInBounds_toArray, List.set_cons_zero, List.set_cons_succ]
  refine wpAnyH_take (i := 17) (oi := { dst := some 65, op := Op.load 26 (Operand.tmp 9), type := 26, pos := "law.go:29", after := #[{ on := 16, ground := Ground.guard }], guard := some (16, true) }) (v := ?vr17) rfl (by kernel_rfl) (by kernel_rfl) (by kernel_rfl) (fun _ _ _ h => h) (Or.inl ⟨by rfl, ?hyr17⟩) hHeld ?_
  case hyr17 => (intro w hSw; (try dsimp only at hSw); go_simp; (try with_reducible rfl))
  try simp only [Act.put, List.setIfInBounds_toArray, List.set_cons_zero, List.set_cons_succ]
  refine wpAnyH_take (i := 18) (oi := { dst := some 66, op := Op.move (Operand.tmp 1), type := 3, pos := "law.go:29", after := #[{ on := 16, ground := Ground.guard }], guard := some (16, true) }) (v := ?vr18) rfl (by kernel_rfl) (by kernel_rfl) (by kernel_rfl) (fun _ _ _ h => h) (Or.inl ⟨by rfl, ?hyr18⟩) hHeld ?_
  case hyr18 => (intro w hSw; (try dsimp only at hSw); go_simp; (try with_reducible rfl))
  try simp only [Act.put, List.setIfInBounds_toArray, List.set_cons_zero, List.set_cons_succ]
  refine wpAnyH_take (i := 19) (oi := { dst := some 67, op := Op.move (Operand.tmp 2), type := 3, pos := "law.go:29", after := #[{ on := 16, ground := Ground.guard }], guard := some (16, true) }) (v := ?vr19) rfl (by kernel_rfl) (by kernel_rfl) (by kernel_rfl) (fun _ _ _ h => h) (Or.inl ⟨by rfl, ?hyr19⟩) hHeld ?_
  case hyr19 => (intro w hSw; (try dsimp only at hSw); go_simp; (try with_reducible rfl))
  try simp only [Act.put, List.setIfInBounds_toArray, List.set_cons_zero, List.set_cons_succ]
  refine wpAnyH_take (i := 21) (oi := { dst := some 69, op := Op.load 23 (Operand.tmp 3), type := 23, pos := "law.go:29", after := #[{ on := 16, ground := Ground.guard }], guard := some (16, true) }) (v := ?vr21) rfl (by kernel_rfl) (by kernel_rfl) (by kernel_rfl) (fun _ _ _ h => h) (Or.inl ⟨by rfl, ?hyr21⟩) hHeld ?_
  case hyr21 => (intro w hSw; (try dsimp only at hSw); go_simp; (try with_reducible rfl))
  try simp only [Act.put, List.setIfInBounds_toArray, List.set_cons_zero, List.set_cons_succ]
  refine wpAnyH_take (i := 22) (oi := { dst := some 70, op := Op.move (Operand.tmp 1), type := 3, pos := "law.go:29", after := #[{ on := 16, ground := Ground.guard }], guard := some (16, true) }) (v := ?vr22) rfl (by kernel_rfl) (by kernel_rfl) (by kernel_rfl) (fun _ _ _ h => h) (Or.inl ⟨by rfl, ?hyr22⟩) hHeld ?_
  case hyr22 => (intro w hSw; (try dsimp only at hSw); go_simp; (try with_reducible rfl))
  try simp only [Act.put, List.setIfInBounds_toArray, List.set_cons_zero, List.set_cons_succ]
  refine wpAnyH_take (i := 23) (oi := { dst := some 71, op := Op.move (Operand.tmp 2), type := 3, pos := "law.go:29", after := #[{ on := 16, ground := Ground.guard }], guard := some (16, true) }) (v := ?vr23) rfl (by kernel_rfl) (by kernel_rfl) (by kernel_rfl) (fun _ _ _ h => h) (Or.inl ⟨by rfl, ?hyr23⟩) hHeld ?_
  case hyr23 => (intro w hSw; (try dsimp only at hSw); go_simp; (try with_reducible rfl))
  try simp only [Act.put, List.setIfInBounds_toArray, List.set_cons_zero, List.set_cons_succ]
  refine wpAnyH_ready (rs := [20]) (by kernel_rfl) (by simp) ?_
  refine AllReadyH.cons (o := { dst := some 68, op := Op.call { callee := Callee.value (Operand.func 13), args := #[Operand.tmp 65, Operand.tmp 66, Operand.tmp 67], argTypes := #[26, 3, 3] }, type := 3, pos := "law.go:29", after := #[{ on := 17, ground := Ground.data }, { on := 18, ground := Ground.data }, { on := 19, ground := Ground.data }, { on := 16, ground := Ground.chain }, { on := 16, ground := Ground.guard }], guard := some (16, true) }) rfl (fun K hK => ?_) AllReadyH.nil
  go_simp
  refine (K4.out _ (HS.out.below hQ4)).mono ?_
  rintro e v5 ⟨rfl, hV⟩
  have hX5 : Two v5 w.heap.size W4.heap.size a b c d a b c d := Two.below hHeld hV
  have hQ5 := belowOn (w := w) hQ4 hV
  clear hV hHeld hQ4 K4
  try go_wp2_with fail
  refine hK.out _ _ ?_ (fun hHeld => ?_)
  · exact hX5
  clear hK K
  try simp only [Act.put, List.setIfInBounds_toArray, List.set_cons_zero, List.set_cons_succ]
  refine wpAnyH_ready (rs := [24]) (by kernel_rfl) (by simp) ?_
  refine AllReadyH.cons (o := { dst := some 72, op := Op.call { callee := Callee.value (Operand.func 11), args := #[Operand.tmp 69, Operand.const (Value.int IntKind.i64 3), Operand.tmp 70, Operand.tmp 71], argTypes := #[23, 3, 3, 3] }, type := 3, pos := "law.go:29", after := #[{ on := 21, ground := Ground.data }, { on := 22, ground := Ground.data }, { on := 23, ground := Ground.data }, { on := 20, ground := Ground.chain }, { on := 16, ground := Ground.guard }], guard := some (16, true) }) rfl (fun K hK => ?_) AllReadyH.nil
  go_simp
  refine (K5.out _).mono ?_
  rintro e v6 ⟨rfl, hV⟩
  have hX6 : Two v6 w.heap.size W4.heap.size a b c d a b c d := Two.below hHeld hV
  have hQ6 := belowOn (w := w) hQ5 hV
  clear hV hHeld hQ5 K5
  try go_wp2_with fail
  refine hK.out _ _ ?_ (fun hHeld => ?_)
  · exact hX6
  clear hK K
  try simp only [Act.put, List.setIfInBounds_toArray, List.set_cons_zero, List.set_cons_succ]
  refine wpAnyH_take (i := 25) (oi := { dst := some 73, op := Op.binOp BinOp.eql 3 (Operand.tmp 68) (Operand.tmp 72) 3, type := 4, pos := "law.go:29", after := #[{ on := 20, ground := Ground.data }, { on := 24, ground := Ground.data }, { on := 16, ground := Ground.guard }], guard := some (16, true) }) (v := ?vr25) rfl (by kernel_rfl) (by kernel_rfl) (by kernel_rfl) (fun _ _ _ h => h) (Or.inl ⟨by rfl, ?hyr25⟩) hHeld ?_
  case hyr25 => (intro w hSw; (try dsimp only at hSw); go_simp; (try with_reducible rfl))
  try simp only [Act.put, List.setIfInBounds_toArray, List.set_cons_zero, List.set_cons_succ]
  refine wpAnyH_take (i := 26) (oi := { dst := some 74, op := Op.pick (Operand.tmp 64) (Operand.tmp 73) (Operand.const (Value.bool false)), type := 4, pos := "law.go:29", after := #[{ on := 16, ground := Ground.data }, { on := 25, ground := Ground.data }], guard := none }) (v := ?vr26) rfl (by kernel_rfl) (by kernel_rfl) (by kernel_rfl) (fun _ _ _ h => h) (Or.inl ⟨by rfl, ?hyr26⟩) hHeld ?_
  case hyr26 => (intro w hSw; (try dsimp only at hSw); go_simp; (try with_reducible rfl))
  try simp only [Act.put, List.setIfInBounds_toArray, List.set_cons_zero, List.set_cons_succ]
  refine wpAnyH_take (i := 27) (oi := { dst := some 75, op := Op.move (Operand.tmp 74), type := 4, pos := "law.go:29", after := #[{ on := 26, ground := Ground.data }, { on := 24, ground := Ground.chain }], guard := none }) (v := ?vr27) rfl (by kernel_rfl) (by kernel_rfl) (by kernel_rfl) (fun _ _ _ h => h) (Or.inl ⟨by rfl, ?hyr27⟩) hHeld ?_
  case hyr27 => (intro w hSw; (try dsimp only at hSw); go_simp; (try with_reducible rfl))
  try simp only [Act.put, List.setIfInBounds_toArray, List.set_cons_zero, List.set_cons_succ]
  refine wpAnyH_take (i := 28) (oi := { dst := some 76, op := Op.load 26 (Operand.tmp 9), type := 26, pos := "law.go:29", after := #[{ on := 27, ground := Ground.guard }], guard := some (27, true) }) (v := ?vr28) rfl (by kernel_rfl) (by kernel_rfl) (by kernel_rfl) (fun _ _ _ h => h) (Or.inl ⟨by rfl, ?hyr28⟩) hHeld ?_
  case hyr28 => (intro w hSw; (try dsimp only at hSw); go_simp; (try with_reducible rfl))
  try simp only [Act.put, List.setIfInBounds_toArray, List.set_cons_zero, List.set_cons_succ]
  refine wpAnyH_take (i := 29) (oi := { dst := some 77, op := Op.move (Operand.tmp 1), type := 3, pos := "law.go:29", after := #[{ on := 27, ground := Ground.guard }], guard := some (27, true) }) (v := ?vr29) rfl (by kernel_rfl) (by kernel_rfl) (by kernel_rfl) (fun _ _ _ h => h) (Or.inl ⟨by rfl, ?hyr29⟩) hHeld ?_
  case hyr29 => (intro w hSw; (try dsimp only at hSw); go_simp; (try with_reducible rfl))
  try simp only [Act.put, List.setIfInBounds_toArray, List.set_cons_zero, List.set_cons_succ]
  refine wpAnyH_take (i := 31) (oi := { dst := some 79, op := Op.load 23 (Operand.tmp 3), type := 23, pos := "law.go:29", after := #[{ on := 27, ground := Ground.guard }], guard := some (27, true) }) (v := ?vr31) rfl (by kernel_rfl) (by kernel_rfl) (by kernel_rfl) (fun _ _ _ h => h) (Or.inl ⟨by rfl, ?hyr31⟩) hHeld ?_
  case hyr31 => (intro w hSw; (try dsimp only at hSw); go_simp; (try with_reducible rfl))
  try simp only [Act.put, List.setIfInBounds_toArray, List.set_cons_zero, List.set_cons_succ]
  refine wpAnyH_take (i := 32) (oi := { dst := some 80, op := Op.move (Operand.tmp 1), type := 3, pos := "law.go:29", after := #[{ on := 27, ground := Ground.guard }], guard := some (27, true) }) (v := ?vr32) rfl (by kernel_rfl) (by kernel_rfl) (by kernel_rfl) (fun _ _ _ h => h) (Or.inl ⟨by rfl, ?hyr32⟩) hHeld ?_
  case hyr32 => (intro w hSw; (try dsimp only at hSw); go_simp; (try with_reducible rfl))
  try simp only [Act.put, List.setIfInBounds_toArray, List.set_cons_zero, List.set_cons_succ]
  refine wpAnyH_ready (rs := [30]) (by kernel_rfl) (by simp) ?_
  refine AllReadyH.cons (o := { dst := some 78, op := Op.call { callee := Callee.value (Operand.func 14), args := #[Operand.tmp 76, Operand.tmp 77], argTypes := #[26, 3] }, type := 3, pos := "law.go:29", after := #[{ on := 28, ground := Ground.data }, { on := 29, ground := Ground.data }, { on := 27, ground := Ground.chain }, { on := 27, ground := Ground.guard }], guard := some (27, true) }) rfl (fun K hK => ?_) AllReadyH.nil
  go_simp
  refine (K6.out _ (HS.out.below hQ6)).mono ?_
  rintro e v7 ⟨rfl, hV⟩
  have hX7 : Two v7 w.heap.size W4.heap.size a b c d a b c d := Two.below hHeld hV
  have hQ7 := belowOn (w := w) hQ6 hV
  clear hV hHeld hQ6 K6
  try go_wp2_with fail
  refine hK.out _ _ ?_ (fun hHeld => ?_)
  · exact hX7
  clear hK K
  try simp only [Act.put, List.setIfInBounds_toArray, List.set_cons_zero, List.set_cons_succ]
  refine wpAnyH_ready (rs := [33]) (by kernel_rfl) (by simp) ?_
  refine AllReadyH.cons (o := { dst := some 81, op := Op.call { callee := Callee.value (Operand.func 11), args := #[Operand.tmp 79, Operand.const (Value.int IntKind.i64 4), Operand.tmp 80, Operand.const (Value.int IntKind.i64 0)], argTypes := #[23, 3, 3, 3] }, type := 3, pos := "law.go:29", after := #[{ on := 31, ground := Ground.data }, { on := 32, ground := Ground.data }, { on := 30, ground := Ground.chain }, { on := 27, ground := Ground.guard }], guard := some (27, true) }) rfl (fun K hK => ?_) AllReadyH.nil
  go_simp
  refine (K7.out _).mono ?_
  rintro e v8 ⟨rfl, hV⟩
  have hX8 : Two v8 w.heap.size W4.heap.size a b c d a b c d := Two.below hHeld hV
  have hQ8 := belowOn (w := w) hQ7 hV
  clear hV hHeld hQ7 K7
  try go_wp2_with fail
  refine hK.out _ _ ?_ (fun hHeld => ?_)
  · exact hX8
  clear hK K
  try simp only [Act.put, List.setIfInBounds_toArray, List.set_cons_zero, List.set_cons_succ]
  refine wpAnyH_take (i := 34) (oi := { dst := some 82, op := Op.binOp BinOp.eql 3 (Operand.tmp 78) (Operand.tmp 81) 3, type := 4, pos := "law.go:29", after := #[{ on := 30, ground := Ground.data }, { on := 33, ground := Ground.data }, { on := 27, ground := Ground.guard }], guard := some (27, true) }) (v := ?vr34) rfl (by kernel_rfl) (by kernel_rfl) (by kernel_rfl) (fun _ _ _ h => h) (Or.inl ⟨by rfl, ?hyr34⟩) hHeld ?_
  case hyr34 => (intro w hSw; (try dsimp only at hSw); go_simp; (try with_reducible rfl))
  try simp only [Act.put, List.setIfInBounds_toArray, List.set_cons_zero, List.set_cons_succ]
  refine wpAnyH_take (i := 35) (oi := { dst := some 83, op := Op.pick (Operand.tmp 75) (Operand.tmp 82) (Operand.const (Value.bool false)), type := 4, pos := "law.go:29", after := #[{ on := 27, ground := Ground.data }, { on := 34, ground := Ground.data }], guard := none }) (v := ?vr35) rfl (by kernel_rfl) (by kernel_rfl) (by kernel_rfl) (fun _ _ _ h => h) (Or.inl ⟨by rfl, ?hyr35⟩) hHeld ?_
  case hyr35 => (intro w hSw; (try dsimp only at hSw); go_simp; (try with_reducible rfl))
  try simp only [Act.put, List.setIfInBounds_toArray, List.set_cons_zero, List.set_cons_succ]
  refine wpAnyH_take (i := 36) (oi := { dst := some 84, op := Op.move (Operand.tmp 83), type := 4, pos := "law.go:29", after := #[{ on := 35, ground := Ground.data }, { on := 33, ground := Ground.chain }], guard := none }) (v := ?vr36) rfl (by kernel_rfl) (by kernel_rfl) (by kernel_rfl) (fun _ _ _ h => h) (Or.inl ⟨by rfl, ?hyr36⟩) hHeld ?_
  case hyr36 => (intro w hSw; (try dsimp only at hSw); go_simp; (try with_reducible rfl))
  try simp only [Act.put, List.setIfInBounds_toArray, List.set_cons_zero, List.set_cons_succ]
  refine wpAnyH_take (i := 37) (oi := { dst := some 85, op := Op.load 26 (Operand.tmp 9), type := 26, pos := "law.go:29", after := #[{ on := 36, ground := Ground.guard }], guard := some (36, true) }) (v := ?vr37) rfl (by kernel_rfl) (by kernel_rfl) (by kernel_rfl) (fun _ _ _ h => h) (Or.inl ⟨by rfl, ?hyr37⟩) hHeld ?_
  case hyr37 => (intro w hSw; (try dsimp only at hSw); go_simp; (try with_reducible rfl))
  try simp only [Act.put, List.setIfInBounds_toArray, List.set_cons_zero, List.set_cons_succ]
  refine wpAnyH_take (i := 38) (oi := { dst := some 86, op := Op.move (Operand.tmp 1), type := 3, pos := "law.go:29", after := #[{ on := 36, ground := Ground.guard }], guard := some (36, true) }) (v := ?vr38) rfl (by kernel_rfl) (by kernel_rfl) (by kernel_rfl) (fun _ _ _ h => h) (Or.inl ⟨by rfl, ?hyr38⟩) hHeld ?_
  case hyr38 => (intro w hSw; (try dsimp only at hSw); go_simp; (try with_reducible rfl))
  try simp only [Act.put, List.setIfInBounds_toArray, List.set_cons_zero, List.set_cons_succ]
  refine wpAnyH_take (i := 40) (oi := { dst := some 88, op := Op.load 23 (Operand.tmp 3), type := 23, pos := "law.go:29", after := #[{ on := 36, ground := Ground.guard }], guard := some (36, true) }) (v := ?vr40) rfl (by kernel_rfl) (by kernel_rfl) (by kernel_rfl) (fun _ _ _ h => h) (Or.inl ⟨by rfl, ?hyr40⟩) hHeld ?_
  case hyr40 => (intro w hSw; (try dsimp only at hSw); go_simp; (try with_reducible rfl))
  try simp only [Act.put, List.setIfInBounds_toArray, List.set_cons_zero, List.set_cons_succ]
  refine wpAnyH_take (i := 41) (oi := { dst := some 89, op := Op.move (Operand.tmp 1), type := 3, pos := "law.go:29", after := #[{ on := 36, ground := Ground.guard }], guard := some (36, true) }) (v := ?vr41) rfl (by kernel_rfl) (by kernel_rfl) (by kernel_rfl) (fun _ _ _ h => h) (Or.inl ⟨by rfl, ?hyr41⟩) hHeld ?_
  case hyr41 => (intro w hSw; (try dsimp only at hSw); go_simp; (try with_reducible rfl))
  try simp only [Act.put, List.setIfInBounds_toArray, List.set_cons_zero, List.set_cons_succ]
  refine wpAnyH_ready (rs := [39]) (by kernel_rfl) (by simp) ?_
  refine AllReadyH.cons (o := { dst := some 87, op := Op.call { callee := Callee.value (Operand.func 15), args := #[Operand.tmp 85, Operand.tmp 86], argTypes := #[26, 3] }, type := 3, pos := "law.go:29", after := #[{ on := 37, ground := Ground.data }, { on := 38, ground := Ground.data }, { on := 36, ground := Ground.chain }, { on := 36, ground := Ground.guard }], guard := some (36, true) }) rfl (fun K hK => ?_) AllReadyH.nil
  go_simp
  refine (K8.out _ (HS.out.below hQ8)).mono ?_
  rintro e v9 ⟨rfl, hV⟩
  have hX9 : Two v9 w.heap.size W4.heap.size a b c d a b c d := Two.below hHeld hV
  have hQ9 := belowOn (w := w) hQ8 hV
  clear hV hHeld hQ8 K8
  try go_wp2_with fail
  refine hK.out _ _ ?_ (fun hHeld => ?_)
  · exact hX9
  clear hK K
  try simp only [Act.put, List.setIfInBounds_toArray, List.set_cons_zero, List.set_cons_succ]
  refine wpAnyH_ready (rs := [42]) (by kernel_rfl) (by simp) ?_
  refine AllReadyH.cons (o := { dst := some 90, op := Op.call { callee := Callee.value (Operand.func 11), args := #[Operand.tmp 88, Operand.const (Value.int IntKind.i64 5), Operand.tmp 89, Operand.const (Value.int IntKind.i64 0)], argTypes := #[23, 3, 3, 3] }, type := 3, pos := "law.go:29", after := #[{ on := 40, ground := Ground.data }, { on := 41, ground := Ground.data }, { on := 39, ground := Ground.chain }, { on := 36, ground := Ground.guard }], guard := some (36, true) }) rfl (fun K hK => ?_) AllReadyH.nil
  go_simp
  refine (K9.out _).mono ?_
  rintro e v10 ⟨rfl, hV⟩
  have hX10 : Two v10 w.heap.size W4.heap.size a b c d a b c d := Two.below hHeld hV
  have hQ10 := belowOn (w := w) hQ9 hV
  clear hV hHeld hQ9 K9
  try go_wp2_with fail
  refine hK.out _ _ ?_ (fun hHeld => ?_)
  · exact hX10
  clear hK K
  try simp only [Act.put, List.setIfInBounds_toArray, List.set_cons_zero, List.set_cons_succ]
  refine wpAnyH_take (i := 43) (oi := { dst := some 91, op := Op.binOp BinOp.eql 3 (Operand.tmp 87) (Operand.tmp 90) 3, type := 4, pos := "law.go:29", after := #[{ on := 39, ground := Ground.data }, { on := 42, ground := Ground.data }, { on := 36, ground := Ground.guard }], guard := some (36, true) }) (v := ?vr43) rfl (by kernel_rfl) (by kernel_rfl) (by kernel_rfl) (fun _ _ _ h => h) (Or.inl ⟨by rfl, ?hyr43⟩) hHeld ?_
  case hyr43 => (intro w hSw; (try dsimp only at hSw); go_simp; (try with_reducible rfl))
  try simp only [Act.put, List.setIfInBounds_toArray, List.set_cons_zero, List.set_cons_succ]
  refine wpAnyH_take (i := 44) (oi := { dst := some 92, op := Op.pick (Operand.tmp 84) (Operand.tmp 91) (Operand.const (Value.bool false)), type := 4, pos := "law.go:29", after := #[{ on := 36, ground := Ground.data }, { on := 43, ground := Ground.data }], guard := none }) (v := ?vr44) rfl (by kernel_rfl) (by kernel_rfl) (by kernel_rfl) (fun _ _ _ h => h) (Or.inl ⟨by rfl, ?hyr44⟩) hHeld ?_
  case hyr44 => (intro w hSw; (try dsimp only at hSw); go_simp; (try with_reducible rfl))
  try simp only [Act.put, List.setIfInBounds_toArray, List.set_cons_zero, List.set_cons_succ]
  refine wpAnyH_take (i := 45) (oi := { dst := some 93, op := Op.move (Operand.tmp 92), type := 4, pos := "law.go:29", after := #[{ on := 44, ground := Ground.data }, { on := 42, ground := Ground.chain }], guard := none }) (v := ?vr45) rfl (by kernel_rfl) (by kernel_rfl) (by kernel_rfl) (fun _ _ _ h => h) (Or.inl ⟨by rfl, ?hyr45⟩) hHeld ?_
  case hyr45 => (intro w hSw; (try dsimp only at hSw); go_simp; (try with_reducible rfl))
  try simp only [Act.put, List.setIfInBounds_toArray, List.set_cons_zero, List.set_cons_succ]
  refine wpAnyH_take (i := 46) (oi := { dst := some 94, op := Op.load 26 (Operand.tmp 9), type := 26, pos := "law.go:29", after := #[{ on := 45, ground := Ground.guard }], guard := some (45, true) }) (v := ?vr46) rfl (by kernel_rfl) (by kernel_rfl) (by kernel_rfl) (fun _ _ _ h => h) (Or.inl ⟨by rfl, ?hyr46⟩) hHeld ?_
  case hyr46 => (intro w hSw; (try dsimp only at hSw); go_simp; (try with_reducible rfl))
  try simp only [Act.put, List.setIfInBounds_toArray, List.set_cons_zero, List.set_cons_succ]
  refine wpAnyH_take (i := 47) (oi := { dst := some 95, op := Op.move (Operand.tmp 1), type := 3, pos := "law.go:29", after := #[{ on := 45, ground := Ground.guard }], guard := some (45, true) }) (v := ?vr47) rfl (by kernel_rfl) (by kernel_rfl) (by kernel_rfl) (fun _ _ _ h => h) (Or.inl ⟨by rfl, ?hyr47⟩) hHeld ?_
  case hyr47 => (intro w hSw; (try dsimp only at hSw); go_simp; (try with_reducible rfl))
  try simp only [Act.put, List.setIfInBounds_toArray, List.set_cons_zero, List.set_cons_succ]
  refine wpAnyH_take (i := 49) (oi := { dst := some 97, op := Op.load 23 (Operand.tmp 3), type := 23, pos := "law.go:29", after := #[{ on := 45, ground := Ground.guard }], guard := some (45, true) }) (v := ?vr49) rfl (by kernel_rfl) (by kernel_rfl) (by kernel_rfl) (fun _ _ _ h => h) (Or.inl ⟨by rfl, ?hyr49⟩) hHeld ?_
  case hyr49 => (intro w hSw; (try dsimp only at hSw); go_simp; (try with_reducible rfl))
  try simp only [Act.put, List.setIfInBounds_toArray, List.set_cons_zero, List.set_cons_succ]
  refine wpAnyH_take (i := 50) (oi := { dst := some 98, op := Op.move (Operand.tmp 1), type := 3, pos := "law.go:29", after := #[{ on := 45, ground := Ground.guard }], guard := some (45, true) }) (v := ?vr50) rfl (by kernel_rfl) (by kernel_rfl) (by kernel_rfl) (fun _ _ _ h => h) (Or.inl ⟨by rfl, ?hyr50⟩) hHeld ?_
  case hyr50 => (intro w hSw; (try dsimp only at hSw); go_simp; (try with_reducible rfl))
  try simp only [Act.put, List.setIfInBounds_toArray, List.set_cons_zero, List.set_cons_succ]
  refine wpAnyH_ready (rs := [48]) (by kernel_rfl) (by simp) ?_
  refine AllReadyH.cons (o := { dst := some 96, op := Op.call { callee := Callee.value (Operand.func 16), args := #[Operand.tmp 94, Operand.tmp 95], argTypes := #[26, 3] }, type := 3, pos := "law.go:29", after := #[{ on := 46, ground := Ground.data }, { on := 47, ground := Ground.data }, { on := 45, ground := Ground.chain }, { on := 45, ground := Ground.guard }], guard := some (45, true) }) rfl (fun K hK => ?_) AllReadyH.nil
  go_simp
  refine (K10.out _ (HS.out.below hQ10)).mono ?_
  rintro e v11 ⟨rfl, hV⟩
  have hX11 : Two v11 w.heap.size W4.heap.size a b c d a b c d := Two.below hHeld hV
  have hQ11 := belowOn (w := w) hQ10 hV
  clear hV hHeld hQ10 K10
  try go_wp2_with fail
  refine hK.out _ _ ?_ (fun hHeld => ?_)
  · exact hX11
  clear hK K
  try simp only [Act.put, List.setIfInBounds_toArray, List.set_cons_zero, List.set_cons_succ]
  refine wpAnyH_ready (rs := [51]) (by kernel_rfl) (by simp) ?_
  refine AllReadyH.cons (o := { dst := some 99, op := Op.call { callee := Callee.value (Operand.func 11), args := #[Operand.tmp 97, Operand.const (Value.int IntKind.i64 6), Operand.tmp 98, Operand.const (Value.int IntKind.i64 0)], argTypes := #[23, 3, 3, 3] }, type := 3, pos := "law.go:29", after := #[{ on := 49, ground := Ground.data }, { on := 50, ground := Ground.data }, { on := 48, ground := Ground.chain }, { on := 45, ground := Ground.guard }], guard := some (45, true) }) rfl (fun K hK => ?_) AllReadyH.nil
  go_simp
  refine (K11.out _).mono ?_
  rintro e v12 ⟨rfl, hV⟩
  have hX12 : Two v12 w.heap.size W4.heap.size a b c d a b c d := Two.below hHeld hV
  have hQ12 := belowOn (w := w) hQ11 hV
  clear hV hHeld hQ11 K11
  try go_wp2_with fail
  refine hK.out _ _ ?_ (fun hHeld => ?_)
  · exact hX12
  clear hK K
  try simp only [Act.put, List.setIfInBounds_toArray, List.set_cons_zero, List.set_cons_succ]
  refine wpAnyH_take (i := 52) (oi := { dst := some 100, op := Op.binOp BinOp.eql 3 (Operand.tmp 96) (Operand.tmp 99) 3, type := 4, pos := "law.go:29", after := #[{ on := 48, ground := Ground.data }, { on := 51, ground := Ground.data }, { on := 45, ground := Ground.guard }], guard := some (45, true) }) (v := ?vr52) rfl (by kernel_rfl) (by kernel_rfl) (by kernel_rfl) (fun _ _ _ h => h) (Or.inl ⟨by rfl, ?hyr52⟩) hHeld ?_
  case hyr52 => (intro w hSw; (try dsimp only at hSw); go_simp; (try with_reducible rfl))
  try simp only [Act.put, List.setIfInBounds_toArray, List.set_cons_zero, List.set_cons_succ]
  refine wpAnyH_take (i := 53) (oi := { dst := some 101, op := Op.pick (Operand.tmp 93) (Operand.tmp 100) (Operand.const (Value.bool false)), type := 4, pos := "law.go:29", after := #[{ on := 45, ground := Ground.data }, { on := 52, ground := Ground.data }], guard := none }) (v := ?vr53) rfl (by kernel_rfl) (by kernel_rfl) (by kernel_rfl) (fun _ _ _ h => h) (Or.inl ⟨by rfl, ?hyr53⟩) hHeld ?_
  case hyr53 => (intro w hSw; (try dsimp only at hSw); go_simp; (try with_reducible rfl))
  try simp only [Act.put, List.setIfInBounds_toArray, List.set_cons_zero, List.set_cons_succ]
  refine wpAnyH_take (i := 54) (oi := { dst := some 102, op := Op.move (Operand.tmp 101), type := 4, pos := "law.go:29", after := #[{ on := 53, ground := Ground.data }, { on := 51, ground := Ground.chain }], guard := none }) (v := ?vr54) rfl (by kernel_rfl) (by kernel_rfl) (by kernel_rfl) (fun _ _ _ h => h) (Or.inl ⟨by rfl, ?hyr54⟩) hHeld ?_
  case hyr54 => (intro w hSw; (try dsimp only at hSw); go_simp; (try with_reducible rfl))
  try simp only [Act.put, List.setIfInBounds_toArray, List.set_cons_zero, List.set_cons_succ]
  refine wpAnyH_take (i := 55) (oi := { dst := some 103, op := Op.load 26 (Operand.tmp 9), type := 26, pos := "law.go:29", after := #[{ on := 54, ground := Ground.guard }], guard := some (54, true) }) (v := ?vr55) rfl (by kernel_rfl) (by kernel_rfl) (by kernel_rfl) (fun _ _ _ h => h) (Or.inl ⟨by rfl, ?hyr55⟩) hHeld ?_
  case hyr55 => (intro w hSw; (try dsimp only at hSw); go_simp; (try with_reducible rfl))
  try simp only [Act.put, List.setIfInBounds_toArray, List.set_cons_zero, List.set_cons_succ]
  refine wpAnyH_take (i := 56) (oi := { dst := some 104, op := Op.move (Operand.tmp 1), type := 3, pos := "law.go:29", after := #[{ on := 54, ground := Ground.guard }], guard := some (54, true) }) (v := ?vr56) rfl (by kernel_rfl) (by kernel_rfl) (by kernel_rfl) (fun _ _ _ h => h) (Or.inl ⟨by rfl, ?hyr56⟩) hHeld ?_
  case hyr56 => (intro w hSw; (try dsimp only at hSw); go_simp; (try with_reducible rfl))
  try simp only [Act.put, List.setIfInBounds_toArray, List.set_cons_zero, List.set_cons_succ]
  refine wpAnyH_take (i := 58) (oi := { dst := some 106, op := Op.load 23 (Operand.tmp 3), type := 23, pos := "law.go:29", after := #[{ on := 54, ground := Ground.guard }], guard := some (54, true) }) (v := ?vr58) rfl (by kernel_rfl) (by kernel_rfl) (by kernel_rfl) (fun _ _ _ h => h) (Or.inl ⟨by rfl, ?hyr58⟩) hHeld ?_
  case hyr58 => (intro w hSw; (try dsimp only at hSw); go_simp; (try with_reducible rfl))
  try simp only [Act.put, List.setIfInBounds_toArray, List.set_cons_zero, List.set_cons_succ]
  refine wpAnyH_take (i := 59) (oi := { dst := some 107, op := Op.move (Operand.tmp 1), type := 3, pos := "law.go:29", after := #[{ on := 54, ground := Ground.guard }], guard := some (54, true) }) (v := ?vr59) rfl (by kernel_rfl) (by kernel_rfl) (by kernel_rfl) (fun _ _ _ h => h) (Or.inl ⟨by rfl, ?hyr59⟩) hHeld ?_
  case hyr59 => (intro w hSw; (try dsimp only at hSw); go_simp; (try with_reducible rfl))
  try simp only [Act.put, List.setIfInBounds_toArray, List.set_cons_zero, List.set_cons_succ]
  refine wpAnyH_ready (rs := [57]) (by kernel_rfl) (by simp) ?_
  refine AllReadyH.cons (o := { dst := some 105, op := Op.call { callee := Callee.value (Operand.func 17), args := #[Operand.tmp 103, Operand.tmp 104], argTypes := #[26, 3] }, type := 3, pos := "law.go:29", after := #[{ on := 55, ground := Ground.data }, { on := 56, ground := Ground.data }, { on := 54, ground := Ground.chain }, { on := 54, ground := Ground.guard }], guard := some (54, true) }) rfl (fun K hK => ?_) AllReadyH.nil
  go_simp
  refine (K12.out _ (HS.out.below hQ12)).mono ?_
  rintro e v13 ⟨rfl, hV⟩
  have hX13 : Two v13 w.heap.size W4.heap.size a b c d a b c d := Two.below hHeld hV
  have hQ13 := belowOn (w := w) hQ12 hV
  clear hV hHeld hQ12 K12
  try go_wp2_with fail
  refine hK.out _ _ ?_ (fun hHeld => ?_)
  · exact hX13
  clear hK K
  try simp only [Act.put, List.setIfInBounds_toArray, List.set_cons_zero, List.set_cons_succ]
  refine wpAnyH_ready (rs := [60]) (by kernel_rfl) (by simp) ?_
  refine AllReadyH.cons (o := { dst := some 108, op := Op.call { callee := Callee.value (Operand.func 18), args := #[Operand.tmp 106, Operand.tmp 107], argTypes := #[23, 3] }, type := 3, pos := "law.go:29", after := #[{ on := 58, ground := Ground.data }, { on := 59, ground := Ground.data }, { on := 57, ground := Ground.chain }, { on := 54, ground := Ground.guard }], guard := some (54, true) }) rfl (fun K hK => ?_) AllReadyH.nil
  go_simp
  refine (K13.out _).mono ?_
  rintro e v14 ⟨rfl, hV⟩
  have hX14 : Two v14 w.heap.size W4.heap.size a b c d a b c d := Two.below hHeld hV
  have hQ14 := belowOn (w := w) hQ13 hV
  clear hV hHeld hQ13 K13
  try go_wp2_with fail
  refine hK.out _ _ ?_ (fun hHeld => ?_)
  · exact hX14
  clear hK K
  try simp only [Act.put, List.setIfInBounds_toArray, List.set_cons_zero, List.set_cons_succ]
  refine wpAnyH_take (i := 61) (oi := { dst := some 109, op := Op.binOp BinOp.eql 3 (Operand.tmp 105) (Operand.tmp 108) 3, type := 4, pos := "law.go:29", after := #[{ on := 57, ground := Ground.data }, { on := 60, ground := Ground.data }, { on := 54, ground := Ground.guard }], guard := some (54, true) }) (v := ?vr61) rfl (by kernel_rfl) (by kernel_rfl) (by kernel_rfl) (fun _ _ _ h => h) (Or.inl ⟨by rfl, ?hyr61⟩) hHeld ?_
  case hyr61 => (intro w hSw; (try dsimp only at hSw); go_simp; (try with_reducible rfl))
  try simp only [Act.put, List.setIfInBounds_toArray, List.set_cons_zero, List.set_cons_succ]
  refine wpAnyH_take (i := 62) (oi := { dst := some 110, op := Op.pick (Operand.tmp 102) (Operand.tmp 109) (Operand.const (Value.bool false)), type := 4, pos := "law.go:29", after := #[{ on := 54, ground := Ground.data }, { on := 61, ground := Ground.data }], guard := none }) (v := ?vr62) rfl (by kernel_rfl) (by kernel_rfl) (by kernel_rfl) (fun _ _ _ h => h) (Or.inl ⟨by rfl, ?hyr62⟩) hHeld ?_
  case hyr62 => (intro w hSw; (try dsimp only at hSw); go_simp; (try with_reducible rfl))
  try simp only [Act.put, List.setIfInBounds_toArray, List.set_cons_zero, List.set_cons_succ]
  refine wpAnyH_take (i := 63) (oi := { dst := some 111, op := Op.move (Operand.tmp 110), type := 4, pos := "law.go:29", after := #[{ on := 62, ground := Ground.data }, { on := 60, ground := Ground.chain }], guard := none }) (v := ?vr63) rfl (by kernel_rfl) (by kernel_rfl) (by kernel_rfl) (fun _ _ _ h => h) (Or.inl ⟨by rfl, ?hyr63⟩) hHeld ?_
  case hyr63 => (intro w hSw; (try dsimp only at hSw); go_simp; (try with_reducible rfl))
  try simp only [Act.put, List.setIfInBounds_toArray, List.set_cons_zero, List.set_cons_succ]
  refine wpAnyH_take (i := 64) (oi := { dst := some 112, op := Op.load 26 (Operand.tmp 9), type := 26, pos := "law.go:29", after := #[{ on := 63, ground := Ground.guard }], guard := some (63, true) }) (v := ?vr64) rfl (by kernel_rfl) (by kernel_rfl) (by kernel_rfl) (fun _ _ _ h => h) (Or.inl ⟨by rfl, ?hyr64⟩) hHeld ?_
  case hyr64 => (intro w hSw; (try dsimp only at hSw); go_simp; (try with_reducible rfl))
  try simp only [Act.put, List.setIfInBounds_toArray, List.set_cons_zero, List.set_cons_succ]
  refine wpAnyH_take (i := 66) (oi := { dst := some 114, op := Op.load 23 (Operand.tmp 3), type := 23, pos := "law.go:29", after := #[{ on := 63, ground := Ground.guard }], guard := some (63, true) }) (v := ?vr66) rfl (by kernel_rfl) (by kernel_rfl) (by kernel_rfl) (fun _ _ _ h => h) (Or.inl ⟨by rfl, ?hyr66⟩) hHeld ?_
  case hyr66 => (intro w hSw; (try dsimp only at hSw); go_simp; (try with_reducible rfl))
  try simp only [Act.put, List.setIfInBounds_toArray, List.set_cons_zero, List.set_cons_succ]
  refine wpAnyH_ready (rs := [65]) (by kernel_rfl) (by simp) ?_
  refine AllReadyH.cons (o := { dst := some 113, op := Op.call { callee := Callee.value (Operand.func 19), args := #[Operand.tmp 112], argTypes := #[26] }, type := 3, pos := "law.go:29", after := #[{ on := 64, ground := Ground.data }, { on := 63, ground := Ground.chain }, { on := 63, ground := Ground.guard }], guard := some (63, true) }) rfl (fun K hK => ?_) AllReadyH.nil
  go_simp
  refine (K14.out _ (HS.out.below hQ14)).mono ?_
  rintro e v15 ⟨rfl, hV⟩
  have hX15 : Two v15 w.heap.size W4.heap.size a b c d a b c d := Two.below hHeld hV
  have hQ15 := belowOn (w := w) hQ14 hV
  clear hV hHeld hQ14 K14
  try go_wp2_with fail
  refine hK.out _ _ ?_ (fun hHeld => ?_)
  · exact hX15
  clear hK K
  try simp only [Act.put, List.setIfInBounds_toArray, List.set_cons_zero, List.set_cons_succ]
  refine wpAnyH_ready (rs := [67]) (by kernel_rfl) (by simp) ?_
  refine AllReadyH.cons (o := { dst := some 115, op := Op.call { callee := Callee.value (Operand.func 20), args := #[Operand.tmp 114], argTypes := #[23] }, type := 3, pos := "law.go:29", after := #[{ on := 66, ground := Ground.data }, { on := 65, ground := Ground.chain }, { on := 63, ground := Ground.guard }], guard := some (63, true) }) rfl (fun K hK => ?_) AllReadyH.nil
  go_simp
  refine (K15.out _).mono ?_
  rintro e v16 ⟨rfl, hV⟩
  have hX16 : Two v16 w.heap.size W4.heap.size a b c d a b c d := Two.below hHeld hV
  have hQ16 := belowOn (w := w) hQ15 hV
  clear hV hHeld hQ15 K15
  try go_wp2_with fail
  refine hK.out _ _ ?_ (fun hHeld => ?_)
  · exact hX16
  clear hK K
  try simp only [Act.put, List.setIfInBounds_toArray, List.set_cons_zero, List.set_cons_succ]
  refine wpAnyH_take (i := 68) (oi := { dst := some 116, op := Op.binOp BinOp.eql 3 (Operand.tmp 113) (Operand.tmp 115) 3, type := 4, pos := "law.go:29", after := #[{ on := 65, ground := Ground.data }, { on := 67, ground := Ground.data }, { on := 63, ground := Ground.guard }], guard := some (63, true) }) (v := ?vr68) rfl (by kernel_rfl) (by kernel_rfl) (by kernel_rfl) (fun _ _ _ h => h) (Or.inl ⟨by rfl, ?hyr68⟩) hHeld ?_
  case hyr68 => (intro w hSw; (try dsimp only at hSw); go_simp; (try with_reducible rfl))
  try simp only [Act.put, List.setIfInBounds_toArray, List.set_cons_zero, List.set_cons_succ]
  refine wpAnyH_take (i := 69) (oi := { dst := some 117, op := Op.pick (Operand.tmp 111) (Operand.tmp 116) (Operand.const (Value.bool false)), type := 4, pos := "law.go:29", after := #[{ on := 63, ground := Ground.data }, { on := 68, ground := Ground.data }], guard := none }) (v := ?vr69) rfl (by kernel_rfl) (by kernel_rfl) (by kernel_rfl) (fun _ _ _ h => h) (Or.inl ⟨by rfl, ?hyr69⟩) hHeld ?_
  case hyr69 => (intro w hSw; (try dsimp only at hSw); go_simp; (try with_reducible rfl))
  try simp only [Act.put, List.setIfInBounds_toArray, List.set_cons_zero, List.set_cons_succ]
  refine wpAnyH_take (i := 70) (oi := { dst := some 6, op := Op.assign (Operand.tmp 117), type := 4, pos := "law.go:29", after := ([{ on := 69, ground := Ground.data }, { on := 67, ground := Ground.chain }, { on := 0, ground := Ground.phase }, { on := 1, ground := Ground.phase }, { on := 2, ground := Ground.phase }, { on := 3, ground := Ground.phase }, { on := 4, ground := Ground.phase }, { on := 5, ground := Ground.phase }, { on := 6, ground := Ground.phase }, { on := 7, ground := Ground.phase }, { on := 8, ground := Ground.phase }, { on := 9, ground := Ground.phase }, { on := 10, ground := Ground.phase }, { on := 11, ground := Ground.phase }, { on := 12, ground := Ground.phase }, { on := 13, ground := Ground.phase }, { on := 14, ground := Ground.phase }, { on := 15, ground := Ground.phase }, { on := 16, ground := Ground.phase }, { on := 17, ground := Ground.phase }, { on := 18, ground := Ground.phase }, { on := 19, ground := Ground.phase }, { on := 20, ground := Ground.phase }, { on := 21, ground := Ground.phase }, { on := 22, ground := Ground.phase }, { on := 23, ground := Ground.phase }, { on := 24, ground := Ground.phase }, { on := 25, ground := Ground.phase }, { on := 26, ground := Ground.phase }, { on := 27, ground := Ground.phase }, { on := 28, ground := Ground.phase }, { on := 29, ground := Ground.phase }, { on := 30, ground := Ground.phase }, { on := 31, ground := Ground.phase }, { on := 32, ground := Ground.phase }, { on := 33, ground := Ground.phase }].append [{ on := 34, ground := Ground.phase }, { on := 35, ground := Ground.phase }, { on := 36, ground := Ground.phase }, { on := 37, ground := Ground.phase }, { on := 38, ground := Ground.phase }, { on := 39, ground := Ground.phase }, { on := 40, ground := Ground.phase }, { on := 41, ground := Ground.phase }, { on := 42, ground := Ground.phase }, { on := 43, ground := Ground.phase }, { on := 44, ground := Ground.phase }, { on := 45, ground := Ground.phase }, { on := 46, ground := Ground.phase }, { on := 47, ground := Ground.phase }, { on := 48, ground := Ground.phase }, { on := 49, ground := Ground.phase }, { on := 50, ground := Ground.phase }, { on := 51, ground := Ground.phase }, { on := 52, ground := Ground.phase }, { on := 53, ground := Ground.phase }, { on := 54, ground := Ground.phase }, { on := 55, ground := Ground.phase }, { on := 56, ground := Ground.phase }, { on := 57, ground := Ground.phase }, { on := 58, ground := Ground.phase }, { on := 59, ground := Ground.phase }, { on := 60, ground := Ground.phase }, { on := 61, ground := Ground.phase }, { on := 62, ground := Ground.phase }, { on := 63, ground := Ground.phase }, { on := 64, ground := Ground.phase }, { on := 65, ground := Ground.phase }, { on := 66, ground := Ground.phase }, { on := 67, ground := Ground.phase }, { on := 68, ground := Ground.phase }, { on := 69, ground := Ground.phase }]).toArray, guard := none }) (v := ?vr70) rfl (by kernel_rfl) (by kernel_rfl) (by kernel_rfl) (fun _ _ _ h => h) (Or.inl ⟨by rfl, ?hyr70⟩) hHeld ?_
  case hyr70 => (intro w hSw; (try dsimp only at hSw); go_simp; (try with_reducible rfl))
  try simp only [Act.put, List.setIfInBounds_toArray, List.set_cons_zero, List.set_cons_succ]
  refine wpAnyH_done (by kernel_rfl) ?_ _
  clear hHeld
  go_wp2_with fail
  go_ret
  exact ⟨rfl, hQ16⟩
set_option maxHeartbeats 12800000 in
theorem placeTells_wrong (a b c d i r : Int) (hr : ¬ Right a b c d) (w : World) (hS : SpansAt w) :
    Calls Tryd.prog 3 #[.agg #[.int .i64 a, .int .i64 b, .int .i64 c, .int .i64 d], .int .i64 i, .int .i64 r] w fun e w' => e = .returned (.bool true) ∧ Below w.heap.size w w' := by
  have hb := below_new w (.cells #[.int .i64 a, .int .i64 b, .int .i64 c, .int .i64 d] 23)
  have HX0 := Lib.hid (BoxAt.new w a b c d 23)
  have HA := Lib.hid (awakeP_c _ (hS.below hb))
  have HN := Lib.hid (New_wrong a b c d hr)
  have HI := Lib.hid (refRight_wrong a b c d hr)
  have HWd : ∀ w, Calls Tryd.prog 20 #[.agg #[.int .i64 a, .int .i64 b, .int .i64 c, .int .i64 d]] w fun e w' => e = .returned (.int .i64 (sizeP a b c d)) ∧ Below w.heap.size w w' := fun w => by
    have h := refWords_wrong a b c d hr w
    unfold sizeP; rw [if_neg hr]; exact h
  have K0 := Lib.hid (In_c a b c d i)
  have K1 := Lib.hid (lawAt_in a b c d i)
  have K2 := Lib.hid (Glob_c a b c d i)
  have K3 := Lib.hid (lawAt_glob a b c d i)
  have K4 := Lib.hid (Reg_c a b c d i r)
  have K5 := Lib.hid (lawAt_reg a b c d i r)
  have K6 := Lib.hid (Car_c a b c d i)
  have K7 := Lib.hid (lawAt_car a b c d i)
  have K8 := Lib.hid (Cdr_c a b c d i)
  have K9 := Lib.hid (lawAt_cdr a b c d i)
  have K10 := Lib.hid (Colour_c a b c d i)
  have K11 := Lib.hid (lawAt_colour a b c d i)
  have K12 := Lib.hid (Root_c a b c d i)
  have K13 := Lib.hid (refRoot_c a b c d i)
  have K14 := Lib.hid (Size_c a b c d)
  have K15 := Lib.hid (HWd)
  generalize inP a b c d i = R0 at K0 K1
  generalize globP a b c d i = R1 at K2 K3
  generalize regP a b c d i r = R2 at K4 K5
  generalize partP a b c d 0 i = R3 at K6 K7
  generalize partP a b c d 1 i = R4 at K8 K9
  generalize partP a b c d 2 i = R5 at K10 K11
  generalize rootP a b c d i = R6 at K12 K13
  generalize sizeP a b c d = R7 at K14 K15
  have HS := Lib.hid hS
  have HB0 := Lib.hid hb
  clear hS hb hr HWd
  go_enter Tryd.func3, Tryd.ntmps3
  go_wp2_with fail
  refine HA.out.mono ?_
  rintro e W1 ⟨rfl, hW⟩
  have HB1 := Lib.hid (belowOn HB0.out hW)
  have HX1 := Lib.hid (HX0.out.below hW)
  obtain ⟨x0, x1, x2, x3⟩ := HX1.out
  clear HA HB0 HX0 hW
  go_wp2_with fail
  refine (HN.out _ (HS.out.below HB1.out)).mono ?_
  rintro e W2 ⟨rfl, hW⟩
  have hB2 := belowOn HB1.out hW
  have hX2 := HX1.out.below hW
  have HB3 := Lib.hid (below_on hB2 (.cells #[.int .i64 0, .int .i64 0, .int .i64 0, .int .i64 0] 26))
  have HX3 := Lib.hid (hX2.below (below_new W2 (.cells #[.int .i64 0, .int .i64 0, .int .i64 0, .int .i64 0] 26)))
  have HM3 := Lib.hid (BoxAt.new W2 0 0 0 0 26)
  clear x0 x1 x2 x3
  obtain ⟨x0, x1, x2, x3⟩ := HX3.out
  obtain ⟨m0, m1, m2, m3⟩ := HM3.out
  clear hW hB2 hX2 HX1 HB1 HN
  go_wp2_with fail
  refine (HI.out _).mono ?_
  rintro e W4 ⟨rfl, hW⟩
  have hB4 := belowOn HB3.out hW
  have hX4 := HX3.out.below hW
  clear x0 x1 x2 x3 m0 m1 m2 m3
  obtain ⟨x0, x1, x2, x3⟩ := hX4
  obtain ⟨m0, m1, m2, m3⟩ := HM3.out.below hW
  have HB5 := Lib.hid (below_on hB4 (.cells #[.int .i64 a, .int .i64 b, .int .i64 c, .int .i64 d] 26))
  have HX5 := Lib.hid (BoxAt.below (HX3.out.below hW) (below_new W4 (.cells #[.int .i64 a, .int .i64 b, .int .i64 c, .int .i64 d] 26)))
  have HZ5 := Lib.hid (BoxAt.new W4 a b c d 26)
  clear hW hB4 HX3 HB3 HI HM3
  go_wp2_with fail
  obtain ⟨W5, hW5⟩ : ∃ W5, W5 = W4.alloc (.cells #[.int .i64 a, .int .i64 b, .int .i64 c, .int .i64 d] 26) := ⟨_, rfl⟩
  rw [← hW5] at HB5 HX5 HZ5 ⊢
  clear x0 x1 x2 x3 m0 m1 m2 m3 hW5
  obtain ⟨x0, x1, x2, x3⟩ := HX5.out
  obtain ⟨z0, z1, z2, z3⟩ := HZ5.out
  have hQ0 : Below w.heap.size w W5.drew := HB5.out.drew
  clear HX5 HZ5 HB5
  simp only [List.append]
  refine wp_region_held_drew (S := (fun w' => w'.cell? ⟨w.heap.size, 0, none⟩ = some (.int .i64 a) ∧ w'.cell? ⟨w.heap.size, 1, none⟩ = some (.int .i64 b) ∧ w'.cell? ⟨w.heap.size, 2, none⟩ = some (.int .i64 c) ∧ w'.cell? ⟨w.heap.size, 3, none⟩ = some (.int .i64 d) ∧ w'.cell? ⟨W4.heap.size, 0, none⟩ = some (.int .i64 a) ∧ w'.cell? ⟨W4.heap.size, 1, none⟩ = some (.int .i64 b) ∧ w'.cell? ⟨W4.heap.size, 2, none⟩ = some (.int .i64 c) ∧ w'.cell? ⟨W4.heap.size, 3, none⟩ = some (.int .i64 d))) (by kernel_rfl) ?_ (fun hHeld => ?_)
  · exact ⟨x0, x1, x2, x3, z0, z1, z2, z3⟩
  refine wpAnyH_take (i := 0) (oi := { dst := some 48, op := Op.load 26 (Operand.tmp 9), type := 26, pos := "law.go:29", after := #[], guard := none }) (v := ?vw0) rfl (by kernel_rfl) (by kernel_rfl) (by kernel_rfl) (fun _ _ _ h => h) (Or.inl ⟨by rfl, ?hyw0⟩) hHeld ?_
  case hyw0 => (intro w hSw; (try dsimp only at hSw); go_simp; (try with_reducible rfl))
  try simp only [Act.put, List.setIfInBounds_toArray, List.set_cons_zero, List.set_cons_succ]
  refine wpAnyH_take (i := 1) (oi := { dst := some 49, op := Op.move (Operand.tmp 1), type := 3, pos := "law.go:29", after := #[], guard := none }) (v := ?vw1) rfl (by kernel_rfl) (by kernel_rfl) (by kernel_rfl) (fun _ _ _ h => h) (Or.inl ⟨by rfl, ?hyw1⟩) hHeld ?_
  case hyw1 => (intro w hSw; (try dsimp only at hSw); go_simp; (try with_reducible rfl))
  try simp only [Act.put, List.setIfInBounds_toArray, List.set_cons_zero, List.set_cons_succ]
  refine wpAnyH_take (i := 3) (oi := { dst := some 51, op := Op.load 23 (Operand.tmp 3), type := 23, pos := "law.go:29", after := #[], guard := none }) (v := ?vw3) rfl (by kernel_rfl) (by kernel_rfl) (by kernel_rfl) (fun _ _ _ h => h) (Or.inl ⟨by rfl, ?hyw3⟩) hHeld ?_
  case hyw3 => (intro w hSw; (try dsimp only at hSw); go_simp; (try with_reducible rfl))
  try simp only [Act.put, List.setIfInBounds_toArray, List.set_cons_zero, List.set_cons_succ]
  refine wpAnyH_take (i := 4) (oi := { dst := some 52, op := Op.move (Operand.tmp 1), type := 3, pos := "law.go:29", after := #[], guard := none }) (v := ?vw4) rfl (by kernel_rfl) (by kernel_rfl) (by kernel_rfl) (fun _ _ _ h => h) (Or.inl ⟨by rfl, ?hyw4⟩) hHeld ?_
  case hyw4 => (intro w hSw; (try dsimp only at hSw); go_simp; (try with_reducible rfl))
  try simp only [Act.put, List.setIfInBounds_toArray, List.set_cons_zero, List.set_cons_succ]
  refine wpAnyH_ready (rs := [2]) (by kernel_rfl) (by simp) ?_
  refine AllReadyH.cons (o := { dst := some 50, op := Op.call { callee := Callee.value (Operand.func 10), args := #[Operand.tmp 48, Operand.tmp 49], argTypes := #[26, 3] }, type := 3, pos := "law.go:29", after := #[{ on := 0, ground := Ground.data }, { on := 1, ground := Ground.data }], guard := none }) rfl (fun K hK => ?_) AllReadyH.nil
  go_simp
  refine (K0.out _ (HS.out.below hQ0)).mono ?_
  rintro e v1 ⟨rfl, hV⟩
  have hX1 : Two v1 w.heap.size W4.heap.size a b c d a b c d := Two.below hHeld hV
  have hQ1 := belowOn (w := w) hQ0 hV
  clear hV hHeld hQ0 K0
  try go_wp2_with fail
  refine hK.out _ _ ?_ (fun hHeld => ?_)
  · exact hX1
  clear hK K
  try simp only [Act.put, List.setIfInBounds_toArray, List.set_cons_zero, List.set_cons_succ]
  refine wpAnyH_ready (rs := [5]) (by kernel_rfl) (by simp) ?_
  refine AllReadyH.cons (o := { dst := some 53, op := Op.call { callee := Callee.value (Operand.func 11), args := #[Operand.tmp 51, Operand.const (Value.int IntKind.i64 1), Operand.tmp 52, Operand.const (Value.int IntKind.i64 0)], argTypes := #[23, 3, 3, 3] }, type := 3, pos := "law.go:29", after := #[{ on := 3, ground := Ground.data }, { on := 4, ground := Ground.data }, { on := 2, ground := Ground.chain }], guard := none }) rfl (fun K hK => ?_) AllReadyH.nil
  go_simp
  refine (K1.out _).mono ?_
  rintro e v2 ⟨rfl, hV⟩
  have hX2 : Two v2 w.heap.size W4.heap.size a b c d a b c d := Two.below hHeld hV
  have hQ2 := belowOn (w := w) hQ1 hV
  clear hV hHeld hQ1 K1
  try go_wp2_with fail
  refine hK.out _ _ ?_ (fun hHeld => ?_)
  · exact hX2
  clear hK K
  try simp only [Act.put, List.setIfInBounds_toArray, List.set_cons_zero, List.set_cons_succ]
  refine wpAnyH_take (i := 6) (oi := { dst := some 54, op := Op.binOp BinOp.eql 3 (Operand.tmp 50) (Operand.tmp 53) 3, type := 4, pos := "law.go:29", after := #[{ on := 2, ground := Ground.data }, { on := 5, ground := Ground.data }], guard := none }) (v := ?vw6) rfl (by kernel_rfl) (by kernel_rfl) (by kernel_rfl) (fun _ _ _ h => h) (Or.inl ⟨by rfl, ?hyw6⟩) hHeld ?_
  case hyw6 => (intro w hSw; (try dsimp only at hSw); go_simp; (try with_reducible rfl))
  try simp only [Act.put, List.setIfInBounds_toArray, List.set_cons_zero, List.set_cons_succ]
  refine wpAnyH_take (i := 7) (oi := { dst := some 55, op := Op.move (Operand.tmp 54), type := 4, pos := "law.go:29", after := #[{ on := 6, ground := Ground.data }, { on := 5, ground := Ground.chain }], guard := none }) (v := ?vw7) rfl (by kernel_rfl) (by kernel_rfl) (by kernel_rfl) (fun _ _ _ h => h) (Or.inl ⟨by rfl, ?hyw7⟩) hHeld ?_
  case hyw7 => (intro w hSw; (try dsimp only at hSw); go_simp; (try with_reducible rfl))
  try simp only [Act.put, List.setIfInBounds_toArray, List.set_cons_zero, List.set_cons_succ]
  refine wpAnyH_take (i := 8) (oi := { dst := some 56, op := Op.load 26 (Operand.tmp 9), type := 26, pos := "law.go:29", after := #[{ on := 7, ground := Ground.guard }], guard := some (7, true) }) (v := ?vw8) rfl (by kernel_rfl) (by kernel_rfl) (by kernel_rfl) (fun _ _ _ h => h) (Or.inl ⟨by rfl, ?hyw8⟩) hHeld ?_
  case hyw8 => (intro w hSw; (try dsimp only at hSw); go_simp; (try with_reducible rfl))
  try simp only [Act.put, List.setIfInBounds_toArray, List.set_cons_zero, List.set_cons_succ]
  refine wpAnyH_take (i := 9) (oi := { dst := some 57, op := Op.move (Operand.tmp 1), type := 3, pos := "law.go:29", after := #[{ on := 7, ground := Ground.guard }], guard := some (7, true) }) (v := ?vw9) rfl (by kernel_rfl) (by kernel_rfl) (by kernel_rfl) (fun _ _ _ h => h) (Or.inl ⟨by rfl, ?hyw9⟩) hHeld ?_
  case hyw9 => (intro w hSw; (try dsimp only at hSw); go_simp; (try with_reducible rfl))
  try simp only [Act.put, List.setIfInBounds_toArray, List.set_cons_zero, List.set_cons_succ]
  refine wpAnyH_take (i := 11) (oi := { dst := some 59, op := Op.load 23 (Operand.tmp 3), type := 23, pos := "law.go:29", after := #[{ on := 7, ground := Ground.guard }], guard := some (7, true) }) (v := ?vw11) rfl (by kernel_rfl) (by kernel_rfl) (by kernel_rfl) (fun _ _ _ h => h) (Or.inl ⟨by rfl, ?hyw11⟩) hHeld ?_
  case hyw11 => (intro w hSw; (try dsimp only at hSw); go_simp; (try with_reducible rfl))
  try simp only [Act.put, List.setIfInBounds_toArray, List.set_cons_zero, List.set_cons_succ]
  refine wpAnyH_take (i := 12) (oi := { dst := some 60, op := Op.move (Operand.tmp 1), type := 3, pos := "law.go:29", after := #[{ on := 7, ground := Ground.guard }], guard := some (7, true) }) (v := ?vw12) rfl (by kernel_rfl) (by kernel_rfl) (by kernel_rfl) (fun _ _ _ h => h) (Or.inl ⟨by rfl, ?hyw12⟩) hHeld ?_
  case hyw12 => (intro w hSw; (try dsimp only at hSw); go_simp; (try with_reducible rfl))
  try simp only [Act.put, List.setIfInBounds_toArray, List.set_cons_zero, List.set_cons_succ]
  refine wpAnyH_ready (rs := [10]) (by kernel_rfl) (by simp) ?_
  refine AllReadyH.cons (o := { dst := some 58, op := Op.call { callee := Callee.value (Operand.func 12), args := #[Operand.tmp 56, Operand.tmp 57], argTypes := #[26, 3] }, type := 3, pos := "law.go:29", after := #[{ on := 8, ground := Ground.data }, { on := 9, ground := Ground.data }, { on := 7, ground := Ground.chain }, { on := 7, ground := Ground.guard }], guard := some (7, true) }) rfl (fun K hK => ?_) AllReadyH.nil
  go_simp
  refine (K2.out _ (HS.out.below hQ2)).mono ?_
  rintro e v3 ⟨rfl, hV⟩
  have hX3 : Two v3 w.heap.size W4.heap.size a b c d a b c d := Two.below hHeld hV
  have hQ3 := belowOn (w := w) hQ2 hV
  clear hV hHeld hQ2 K2
  try go_wp2_with fail
  refine hK.out _ _ ?_ (fun hHeld => ?_)
  · exact hX3
  clear hK K
  try simp only [Act.put, List.setIfInBounds_toArray, List.set_cons_zero, List.set_cons_succ]
  refine wpAnyH_ready (rs := [13]) (by kernel_rfl) (by simp) ?_
  refine AllReadyH.cons (o := { dst := some 61, op := Op.call { callee := Callee.value (Operand.func 11), args := #[Operand.tmp 59, Operand.const (Value.int IntKind.i64 2), Operand.tmp 60, Operand.const (Value.int IntKind.i64 0)], argTypes := #[23, 3, 3, 3] }, type := 3, pos := "law.go:29", after := #[{ on := 11, ground := Ground.data }, { on := 12, ground := Ground.data }, { on := 10, ground := Ground.chain }, { on := 7, ground := Ground.guard }], guard := some (7, true) }) rfl (fun K hK => ?_) AllReadyH.nil
  go_simp
  refine (K3.out _).mono ?_
  rintro e v4 ⟨rfl, hV⟩
  have hX4 : Two v4 w.heap.size W4.heap.size a b c d a b c d := Two.below hHeld hV
  have hQ4 := belowOn (w := w) hQ3 hV
  clear hV hHeld hQ3 K3
  try go_wp2_with fail
  refine hK.out _ _ ?_ (fun hHeld => ?_)
  · exact hX4
  clear hK K
  try simp only [Act.put, List.setIfInBounds_toArray, List.set_cons_zero, List.set_cons_succ]
  refine wpAnyH_take (i := 14) (oi := { dst := some 62, op := Op.binOp BinOp.eql 3 (Operand.tmp 58) (Operand.tmp 61) 3, type := 4, pos := "law.go:29", after := #[{ on := 10, ground := Ground.data }, { on := 13, ground := Ground.data }, { on := 7, ground := Ground.guard }], guard := some (7, true) }) (v := ?vw14) rfl (by kernel_rfl) (by kernel_rfl) (by kernel_rfl) (fun _ _ _ h => h) (Or.inl ⟨by rfl, ?hyw14⟩) hHeld ?_
  case hyw14 => (intro w hSw; (try dsimp only at hSw); go_simp; (try with_reducible rfl))
  try simp only [Act.put, List.setIfInBounds_toArray, List.set_cons_zero, List.set_cons_succ]
  refine wpAnyH_take (i := 15) (oi := { dst := some 63, op := Op.pick (Operand.tmp 55) (Operand.tmp 62) (Operand.const (Value.bool false)), type := 4, pos := "law.go:29", after := #[{ on := 7, ground := Ground.data }, { on := 14, ground := Ground.data }], guard := none }) (v := ?vw15) rfl (by kernel_rfl) (by kernel_rfl) (by kernel_rfl) (fun _ _ _ h => h) (Or.inl ⟨by rfl, ?hyw15⟩) hHeld ?_
  case hyw15 => (intro w hSw; (try dsimp only at hSw); go_simp; (try with_reducible rfl))
  try simp only [Act.put, List.setIfInBounds_toArray, List.set_cons_zero, List.set_cons_succ]
  refine wpAnyH_take (i := 16) (oi := { dst := some 64, op := Op.move (Operand.tmp 63), type := 4, pos := "law.go:29", after := #[{ on := 15, ground := Ground.data }, { on := 13, ground := Ground.chain }], guard := none }) (v := ?vw16) rfl (by kernel_rfl) (by kernel_rfl) (by kernel_rfl) (fun _ _ _ h => h) (Or.inl ⟨by rfl, ?hyw16⟩) hHeld ?_
  case hyw16 => (intro w hSw; (try dsimp only at hSw); go_simp; (try with_reducible rfl))
  try simp only [Act.put, List.setIfInBounds_toArray, List.set_cons_zero, List.set_cons_succ]
  refine wpAnyH_take (i := 17) (oi := { dst := some 65, op := Op.load 26 (Operand.tmp 9), type := 26, pos := "law.go:29", after := #[{ on := 16, ground := Ground.guard }], guard := some (16, true) }) (v := ?vw17) rfl (by kernel_rfl) (by kernel_rfl) (by kernel_rfl) (fun _ _ _ h => h) (Or.inl ⟨by rfl, ?hyw17⟩) hHeld ?_
  case hyw17 => (intro w hSw; (try dsimp only at hSw); go_simp; (try with_reducible rfl))
  try simp only [Act.put, List.setIfInBounds_toArray, List.set_cons_zero, List.set_cons_succ]
  refine wpAnyH_take (i := 18) (oi := { dst := some 66, op := Op.move (Operand.tmp 1), type := 3, pos := "law.go:29", after := #[{ on := 16, ground := Ground.guard }], guard := some (16, true) }) (v := ?vw18) rfl (by kernel_rfl) (by kernel_rfl) (by kernel_rfl) (fun _ _ _ h => h) (Or.inl ⟨by rfl, ?hyw18⟩) hHeld ?_
  case hyw18 => (intro w hSw; (try dsimp only at hSw); go_simp; (try with_reducible rfl))
  try simp only [Act.put, List.setIfInBounds_toArray, List.set_cons_zero, List.set_cons_succ]
  refine wpAnyH_take (i := 19) (oi := { dst := some 67, op := Op.move (Operand.tmp 2), type := 3, pos := "law.go:29", after := #[{ on := 16, ground := Ground.guard }], guard := some (16, true) }) (v := ?vw19) rfl (by kernel_rfl) (by kernel_rfl) (by kernel_rfl) (fun _ _ _ h => h) (Or.inl ⟨by rfl, ?hyw19⟩) hHeld ?_
  case hyw19 => (intro w hSw; (try dsimp only at hSw); go_simp; (try with_reducible rfl))
  try simp only [Act.put, List.setIfInBounds_toArray, List.set_cons_zero, List.set_cons_succ]
  refine wpAnyH_take (i := 21) (oi := { dst := some 69, op := Op.load 23 (Operand.tmp 3), type := 23, pos := "law.go:29", after := #[{ on := 16, ground := Ground.guard }], guard := some (16, true) }) (v := ?vw21) rfl (by kernel_rfl) (by kernel_rfl) (by kernel_rfl) (fun _ _ _ h => h) (Or.inl ⟨by rfl, ?hyw21⟩) hHeld ?_
  case hyw21 => (intro w hSw; (try dsimp only at hSw); go_simp; (try with_reducible rfl))
  try simp only [Act.put, List.setIfInBounds_toArray, List.set_cons_zero, List.set_cons_succ]
  refine wpAnyH_take (i := 22) (oi := { dst := some 70, op := Op.move (Operand.tmp 1), type := 3, pos := "law.go:29", after := #[{ on := 16, ground := Ground.guard }], guard := some (16, true) }) (v := ?vw22) rfl (by kernel_rfl) (by kernel_rfl) (by kernel_rfl) (fun _ _ _ h => h) (Or.inl ⟨by rfl, ?hyw22⟩) hHeld ?_
  case hyw22 => (intro w hSw; (try dsimp only at hSw); go_simp; (try with_reducible rfl))
  try simp only [Act.put, List.setIfInBounds_toArray, List.set_cons_zero, List.set_cons_succ]
  refine wpAnyH_take (i := 23) (oi := { dst := some 71, op := Op.move (Operand.tmp 2), type := 3, pos := "law.go:29", after := #[{ on := 16, ground := Ground.guard }], guard := some (16, true) }) (v := ?vw23) rfl (by kernel_rfl) (by kernel_rfl) (by kernel_rfl) (fun _ _ _ h => h) (Or.inl ⟨by rfl, ?hyw23⟩) hHeld ?_
  case hyw23 => (intro w hSw; (try dsimp only at hSw); go_simp; (try with_reducible rfl))
  try simp only [Act.put, List.setIfInBounds_toArray, List.set_cons_zero, List.set_cons_succ]
  refine wpAnyH_ready (rs := [20]) (by kernel_rfl) (by simp) ?_
  refine AllReadyH.cons (o := { dst := some 68, op := Op.call { callee := Callee.value (Operand.func 13), args := #[Operand.tmp 65, Operand.tmp 66, Operand.tmp 67], argTypes := #[26, 3, 3] }, type := 3, pos := "law.go:29", after := #[{ on := 17, ground := Ground.data }, { on := 18, ground := Ground.data }, { on := 19, ground := Ground.data }, { on := 16, ground := Ground.chain }, { on := 16, ground := Ground.guard }], guard := some (16, true) }) rfl (fun K hK => ?_) AllReadyH.nil
  go_simp
  refine (K4.out _ (HS.out.below hQ4)).mono ?_
  rintro e v5 ⟨rfl, hV⟩
  have hX5 : Two v5 w.heap.size W4.heap.size a b c d a b c d := Two.below hHeld hV
  have hQ5 := belowOn (w := w) hQ4 hV
  clear hV hHeld hQ4 K4
  try go_wp2_with fail
  refine hK.out _ _ ?_ (fun hHeld => ?_)
  · exact hX5
  clear hK K
  try simp only [Act.put, List.setIfInBounds_toArray, List.set_cons_zero, List.set_cons_succ]
  refine wpAnyH_ready (rs := [24]) (by kernel_rfl) (by simp) ?_
  refine AllReadyH.cons (o := { dst := some 72, op := Op.call { callee := Callee.value (Operand.func 11), args := #[Operand.tmp 69, Operand.const (Value.int IntKind.i64 3), Operand.tmp 70, Operand.tmp 71], argTypes := #[23, 3, 3, 3] }, type := 3, pos := "law.go:29", after := #[{ on := 21, ground := Ground.data }, { on := 22, ground := Ground.data }, { on := 23, ground := Ground.data }, { on := 20, ground := Ground.chain }, { on := 16, ground := Ground.guard }], guard := some (16, true) }) rfl (fun K hK => ?_) AllReadyH.nil
  go_simp
  refine (K5.out _).mono ?_
  rintro e v6 ⟨rfl, hV⟩
  have hX6 : Two v6 w.heap.size W4.heap.size a b c d a b c d := Two.below hHeld hV
  have hQ6 := belowOn (w := w) hQ5 hV
  clear hV hHeld hQ5 K5
  try go_wp2_with fail
  refine hK.out _ _ ?_ (fun hHeld => ?_)
  · exact hX6
  clear hK K
  try simp only [Act.put, List.setIfInBounds_toArray, List.set_cons_zero, List.set_cons_succ]
  refine wpAnyH_take (i := 25) (oi := { dst := some 73, op := Op.binOp BinOp.eql 3 (Operand.tmp 68) (Operand.tmp 72) 3, type := 4, pos := "law.go:29", after := #[{ on := 20, ground := Ground.data }, { on := 24, ground := Ground.data }, { on := 16, ground := Ground.guard }], guard := some (16, true) }) (v := ?vw25) rfl (by kernel_rfl) (by kernel_rfl) (by kernel_rfl) (fun _ _ _ h => h) (Or.inl ⟨by rfl, ?hyw25⟩) hHeld ?_
  case hyw25 => (intro w hSw; (try dsimp only at hSw); go_simp; (try with_reducible rfl))
  try simp only [Act.put, List.setIfInBounds_toArray, List.set_cons_zero, List.set_cons_succ]
  refine wpAnyH_take (i := 26) (oi := { dst := some 74, op := Op.pick (Operand.tmp 64) (Operand.tmp 73) (Operand.const (Value.bool false)), type := 4, pos := "law.go:29", after := #[{ on := 16, ground := Ground.data }, { on := 25, ground := Ground.data }], guard := none }) (v := ?vw26) rfl (by kernel_rfl) (by kernel_rfl) (by kernel_rfl) (fun _ _ _ h => h) (Or.inl ⟨by rfl, ?hyw26⟩) hHeld ?_
  case hyw26 => (intro w hSw; (try dsimp only at hSw); go_simp; (try with_reducible rfl))
  try simp only [Act.put, List.setIfInBounds_toArray, List.set_cons_zero, List.set_cons_succ]
  refine wpAnyH_take (i := 27) (oi := { dst := some 75, op := Op.move (Operand.tmp 74), type := 4, pos := "law.go:29", after := #[{ on := 26, ground := Ground.data }, { on := 24, ground := Ground.chain }], guard := none }) (v := ?vw27) rfl (by kernel_rfl) (by kernel_rfl) (by kernel_rfl) (fun _ _ _ h => h) (Or.inl ⟨by rfl, ?hyw27⟩) hHeld ?_
  case hyw27 => (intro w hSw; (try dsimp only at hSw); go_simp; (try with_reducible rfl))
  try simp only [Act.put, List.setIfInBounds_toArray, List.set_cons_zero, List.set_cons_succ]
  refine wpAnyH_take (i := 28) (oi := { dst := some 76, op := Op.load 26 (Operand.tmp 9), type := 26, pos := "law.go:29", after := #[{ on := 27, ground := Ground.guard }], guard := some (27, true) }) (v := ?vw28) rfl (by kernel_rfl) (by kernel_rfl) (by kernel_rfl) (fun _ _ _ h => h) (Or.inl ⟨by rfl, ?hyw28⟩) hHeld ?_
  case hyw28 => (intro w hSw; (try dsimp only at hSw); go_simp; (try with_reducible rfl))
  try simp only [Act.put, List.setIfInBounds_toArray, List.set_cons_zero, List.set_cons_succ]
  refine wpAnyH_take (i := 29) (oi := { dst := some 77, op := Op.move (Operand.tmp 1), type := 3, pos := "law.go:29", after := #[{ on := 27, ground := Ground.guard }], guard := some (27, true) }) (v := ?vw29) rfl (by kernel_rfl) (by kernel_rfl) (by kernel_rfl) (fun _ _ _ h => h) (Or.inl ⟨by rfl, ?hyw29⟩) hHeld ?_
  case hyw29 => (intro w hSw; (try dsimp only at hSw); go_simp; (try with_reducible rfl))
  try simp only [Act.put, List.setIfInBounds_toArray, List.set_cons_zero, List.set_cons_succ]
  refine wpAnyH_take (i := 31) (oi := { dst := some 79, op := Op.load 23 (Operand.tmp 3), type := 23, pos := "law.go:29", after := #[{ on := 27, ground := Ground.guard }], guard := some (27, true) }) (v := ?vw31) rfl (by kernel_rfl) (by kernel_rfl) (by kernel_rfl) (fun _ _ _ h => h) (Or.inl ⟨by rfl, ?hyw31⟩) hHeld ?_
  case hyw31 => (intro w hSw; (try dsimp only at hSw); go_simp; (try with_reducible rfl))
  try simp only [Act.put, List.setIfInBounds_toArray, List.set_cons_zero, List.set_cons_succ]
  refine wpAnyH_take (i := 32) (oi := { dst := some 80, op := Op.move (Operand.tmp 1), type := 3, pos := "law.go:29", after := #[{ on := 27, ground := Ground.guard }], guard := some (27, true) }) (v := ?vw32) rfl (by kernel_rfl) (by kernel_rfl) (by kernel_rfl) (fun _ _ _ h => h) (Or.inl ⟨by rfl, ?hyw32⟩) hHeld ?_
  case hyw32 => (intro w hSw; (try dsimp only at hSw); go_simp; (try with_reducible rfl))
  try simp only [Act.put, List.setIfInBounds_toArray, List.set_cons_zero, List.set_cons_succ]
  refine wpAnyH_ready (rs := [30]) (by kernel_rfl) (by simp) ?_
  refine AllReadyH.cons (o := { dst := some 78, op := Op.call { callee := Callee.value (Operand.func 14), args := #[Operand.tmp 76, Operand.tmp 77], argTypes := #[26, 3] }, type := 3, pos := "law.go:29", after := #[{ on := 28, ground := Ground.data }, { on := 29, ground := Ground.data }, { on := 27, ground := Ground.chain }, { on := 27, ground := Ground.guard }], guard := some (27, true) }) rfl (fun K hK => ?_) AllReadyH.nil
  go_simp
  refine (K6.out _ (HS.out.below hQ6)).mono ?_
  rintro e v7 ⟨rfl, hV⟩
  have hX7 : Two v7 w.heap.size W4.heap.size a b c d a b c d := Two.below hHeld hV
  have hQ7 := belowOn (w := w) hQ6 hV
  clear hV hHeld hQ6 K6
  try go_wp2_with fail
  refine hK.out _ _ ?_ (fun hHeld => ?_)
  · exact hX7
  clear hK K
  try simp only [Act.put, List.setIfInBounds_toArray, List.set_cons_zero, List.set_cons_succ]
  refine wpAnyH_ready (rs := [33]) (by kernel_rfl) (by simp) ?_
  refine AllReadyH.cons (o := { dst := some 81, op := Op.call { callee := Callee.value (Operand.func 11), args := #[Operand.tmp 79, Operand.const (Value.int IntKind.i64 4), Operand.tmp 80, Operand.const (Value.int IntKind.i64 0)], argTypes := #[23, 3, 3, 3] }, type := 3, pos := "law.go:29", after := #[{ on := 31, ground := Ground.data }, { on := 32, ground := Ground.data }, { on := 30, ground := Ground.chain }, { on := 27, ground := Ground.guard }], guard := some (27, true) }) rfl (fun K hK => ?_) AllReadyH.nil
  go_simp
  refine (K7.out _).mono ?_
  rintro e v8 ⟨rfl, hV⟩
  have hX8 : Two v8 w.heap.size W4.heap.size a b c d a b c d := Two.below hHeld hV
  have hQ8 := belowOn (w := w) hQ7 hV
  clear hV hHeld hQ7 K7
  try go_wp2_with fail
  refine hK.out _ _ ?_ (fun hHeld => ?_)
  · exact hX8
  clear hK K
  try simp only [Act.put, List.setIfInBounds_toArray, List.set_cons_zero, List.set_cons_succ]
  refine wpAnyH_take (i := 34) (oi := { dst := some 82, op := Op.binOp BinOp.eql 3 (Operand.tmp 78) (Operand.tmp 81) 3, type := 4, pos := "law.go:29", after := #[{ on := 30, ground := Ground.data }, { on := 33, ground := Ground.data }, { on := 27, ground := Ground.guard }], guard := some (27, true) }) (v := ?vw34) rfl (by kernel_rfl) (by kernel_rfl) (by kernel_rfl) (fun _ _ _ h => h) (Or.inl ⟨by rfl, ?hyw34⟩) hHeld ?_
  case hyw34 => (intro w hSw; (try dsimp only at hSw); go_simp; (try with_reducible rfl))
  try simp only [Act.put, List.setIfInBounds_toArray, List.set_cons_zero, List.set_cons_succ]
  refine wpAnyH_take (i := 35) (oi := { dst := some 83, op := Op.pick (Operand.tmp 75) (Operand.tmp 82) (Operand.const (Value.bool false)), type := 4, pos := "law.go:29", after := #[{ on := 27, ground := Ground.data }, { on := 34, ground := Ground.data }], guard := none }) (v := ?vw35) rfl (by kernel_rfl) (by kernel_rfl) (by kernel_rfl) (fun _ _ _ h => h) (Or.inl ⟨by rfl, ?hyw35⟩) hHeld ?_
  case hyw35 => (intro w hSw; (try dsimp only at hSw); go_simp; (try with_reducible rfl))
  try simp only [Act.put, List.setIfInBounds_toArray, List.set_cons_zero, List.set_cons_succ]
  refine wpAnyH_take (i := 36) (oi := { dst := some 84, op := Op.move (Operand.tmp 83), type := 4, pos := "law.go:29", after := #[{ on := 35, ground := Ground.data }, { on := 33, ground := Ground.chain }], guard := none }) (v := ?vw36) rfl (by kernel_rfl) (by kernel_rfl) (by kernel_rfl) (fun _ _ _ h => h) (Or.inl ⟨by rfl, ?hyw36⟩) hHeld ?_
  case hyw36 => (intro w hSw; (try dsimp only at hSw); go_simp; (try with_reducible rfl))
  try simp only [Act.put, List.setIfInBounds_toArray, List.set_cons_zero, List.set_cons_succ]
  refine wpAnyH_take (i := 37) (oi := { dst := some 85, op := Op.load 26 (Operand.tmp 9), type := 26, pos := "law.go:29", after := #[{ on := 36, ground := Ground.guard }], guard := some (36, true) }) (v := ?vw37) rfl (by kernel_rfl) (by kernel_rfl) (by kernel_rfl) (fun _ _ _ h => h) (Or.inl ⟨by rfl, ?hyw37⟩) hHeld ?_
  case hyw37 => (intro w hSw; (try dsimp only at hSw); go_simp; (try with_reducible rfl))
  try simp only [Act.put, List.setIfInBounds_toArray, List.set_cons_zero, List.set_cons_succ]
  refine wpAnyH_take (i := 38) (oi := { dst := some 86, op := Op.move (Operand.tmp 1), type := 3, pos := "law.go:29", after := #[{ on := 36, ground := Ground.guard }], guard := some (36, true) }) (v := ?vw38) rfl (by kernel_rfl) (by kernel_rfl) (by kernel_rfl) (fun _ _ _ h => h) (Or.inl ⟨by rfl, ?hyw38⟩) hHeld ?_
  case hyw38 => (intro w hSw; (try dsimp only at hSw); go_simp; (try with_reducible rfl))
  try simp only [Act.put, List.setIfInBounds_toArray, List.set_cons_zero, List.set_cons_succ]
  refine wpAnyH_take (i := 40) (oi := { dst := some 88, op := Op.load 23 (Operand.tmp 3), type := 23, pos := "law.go:29", after := #[{ on := 36, ground := Ground.guard }], guard := some (36, true) }) (v := ?vw40) rfl (by kernel_rfl) (by kernel_rfl) (by kernel_rfl) (fun _ _ _ h => h) (Or.inl ⟨by rfl, ?hyw40⟩) hHeld ?_
  case hyw40 => (intro w hSw; (try dsimp only at hSw); go_simp; (try with_reducible rfl))
  try simp only [Act.put, List.setIfInBounds_toArray, List.set_cons_zero, List.set_cons_succ]
  refine wpAnyH_take (i := 41) (oi := { dst := some 89, op := Op.move (Operand.tmp 1), type := 3, pos := "law.go:29", after := #[{ on := 36, ground := Ground.guard }], guard := some (36, true) }) (v := ?vw41) rfl (by kernel_rfl) (by kernel_rfl) (by kernel_rfl) (fun _ _ _ h => h) (Or.inl ⟨by rfl, ?hyw41⟩) hHeld ?_
  case hyw41 => (intro w hSw; (try dsimp only at hSw); go_simp; (try with_reducible rfl))
  try simp only [Act.put, List.setIfInBounds_toArray, List.set_cons_zero, List.set_cons_succ]
  refine wpAnyH_ready (rs := [39]) (by kernel_rfl) (by simp) ?_
  refine AllReadyH.cons (o := { dst := some 87, op := Op.call { callee := Callee.value (Operand.func 15), args := #[Operand.tmp 85, Operand.tmp 86], argTypes := #[26, 3] }, type := 3, pos := "law.go:29", after := #[{ on := 37, ground := Ground.data }, { on := 38, ground := Ground.data }, { on := 36, ground := Ground.chain }, { on := 36, ground := Ground.guard }], guard := some (36, true) }) rfl (fun K hK => ?_) AllReadyH.nil
  go_simp
  refine (K8.out _ (HS.out.below hQ8)).mono ?_
  rintro e v9 ⟨rfl, hV⟩
  have hX9 : Two v9 w.heap.size W4.heap.size a b c d a b c d := Two.below hHeld hV
  have hQ9 := belowOn (w := w) hQ8 hV
  clear hV hHeld hQ8 K8
  try go_wp2_with fail
  refine hK.out _ _ ?_ (fun hHeld => ?_)
  · exact hX9
  clear hK K
  try simp only [Act.put, List.setIfInBounds_toArray, List.set_cons_zero, List.set_cons_succ]
  refine wpAnyH_ready (rs := [42]) (by kernel_rfl) (by simp) ?_
  refine AllReadyH.cons (o := { dst := some 90, op := Op.call { callee := Callee.value (Operand.func 11), args := #[Operand.tmp 88, Operand.const (Value.int IntKind.i64 5), Operand.tmp 89, Operand.const (Value.int IntKind.i64 0)], argTypes := #[23, 3, 3, 3] }, type := 3, pos := "law.go:29", after := #[{ on := 40, ground := Ground.data }, { on := 41, ground := Ground.data }, { on := 39, ground := Ground.chain }, { on := 36, ground := Ground.guard }], guard := some (36, true) }) rfl (fun K hK => ?_) AllReadyH.nil
  go_simp
  refine (K9.out _).mono ?_
  rintro e v10 ⟨rfl, hV⟩
  have hX10 : Two v10 w.heap.size W4.heap.size a b c d a b c d := Two.below hHeld hV
  have hQ10 := belowOn (w := w) hQ9 hV
  clear hV hHeld hQ9 K9
  try go_wp2_with fail
  refine hK.out _ _ ?_ (fun hHeld => ?_)
  · exact hX10
  clear hK K
  try simp only [Act.put, List.setIfInBounds_toArray, List.set_cons_zero, List.set_cons_succ]
  refine wpAnyH_take (i := 43) (oi := { dst := some 91, op := Op.binOp BinOp.eql 3 (Operand.tmp 87) (Operand.tmp 90) 3, type := 4, pos := "law.go:29", after := #[{ on := 39, ground := Ground.data }, { on := 42, ground := Ground.data }, { on := 36, ground := Ground.guard }], guard := some (36, true) }) (v := ?vw43) rfl (by kernel_rfl) (by kernel_rfl) (by kernel_rfl) (fun _ _ _ h => h) (Or.inl ⟨by rfl, ?hyw43⟩) hHeld ?_
  case hyw43 => (intro w hSw; (try dsimp only at hSw); go_simp; (try with_reducible rfl))
  try simp only [Act.put, List.setIfInBounds_toArray, List.set_cons_zero, List.set_cons_succ]
  refine wpAnyH_take (i := 44) (oi := { dst := some 92, op := Op.pick (Operand.tmp 84) (Operand.tmp 91) (Operand.const (Value.bool false)), type := 4, pos := "law.go:29", after := #[{ on := 36, ground := Ground.data }, { on := 43, ground := Ground.data }], guard := none }) (v := ?vw44) rfl (by kernel_rfl) (by kernel_rfl) (by kernel_rfl) (fun _ _ _ h => h) (Or.inl ⟨by rfl, ?hyw44⟩) hHeld ?_
  case hyw44 => (intro w hSw; (try dsimp only at hSw); go_simp; (try with_reducible rfl))
  try simp only [Act.put, List.setIfInBounds_toArray, List.set_cons_zero, List.set_cons_succ]
  refine wpAnyH_take (i := 45) (oi := { dst := some 93, op := Op.move (Operand.tmp 92), type := 4, pos := "law.go:29", after := #[{ on := 44, ground := Ground.data }, { on := 42, ground := Ground.chain }], guard := none }) (v := ?vw45) rfl (by kernel_rfl) (by kernel_rfl) (by kernel_rfl) (fun _ _ _ h => h) (Or.inl ⟨by rfl, ?hyw45⟩) hHeld ?_
  case hyw45 => (intro w hSw; (try dsimp only at hSw); go_simp; (try with_reducible rfl))
  try simp only [Act.put, List.setIfInBounds_toArray, List.set_cons_zero, List.set_cons_succ]
  refine wpAnyH_take (i := 46) (oi := { dst := some 94, op := Op.load 26 (Operand.tmp 9), type := 26, pos := "law.go:29", after := #[{ on := 45, ground := Ground.guard }], guard := some (45, true) }) (v := ?vw46) rfl (by kernel_rfl) (by kernel_rfl) (by kernel_rfl) (fun _ _ _ h => h) (Or.inl ⟨by rfl, ?hyw46⟩) hHeld ?_
  case hyw46 => (intro w hSw; (try dsimp only at hSw); go_simp; (try with_reducible rfl))
  try simp only [Act.put, List.setIfInBounds_toArray, List.set_cons_zero, List.set_cons_succ]
  refine wpAnyH_take (i := 47) (oi := { dst := some 95, op := Op.move (Operand.tmp 1), type := 3, pos := "law.go:29", after := #[{ on := 45, ground := Ground.guard }], guard := some (45, true) }) (v := ?vw47) rfl (by kernel_rfl) (by kernel_rfl) (by kernel_rfl) (fun _ _ _ h => h) (Or.inl ⟨by rfl, ?hyw47⟩) hHeld ?_
  case hyw47 => (intro w hSw; (try dsimp only at hSw); go_simp; (try with_reducible rfl))
  try simp only [Act.put, List.setIfInBounds_toArray, List.set_cons_zero, List.set_cons_succ]
  refine wpAnyH_take (i := 49) (oi := { dst := some 97, op := Op.load 23 (Operand.tmp 3), type := 23, pos := "law.go:29", after := #[{ on := 45, ground := Ground.guard }], guard := some (45, true) }) (v := ?vw49) rfl (by kernel_rfl) (by kernel_rfl) (by kernel_rfl) (fun _ _ _ h => h) (Or.inl ⟨by rfl, ?hyw49⟩) hHeld ?_
  case hyw49 => (intro w hSw; (try dsimp only at hSw); go_simp; (try with_reducible rfl))
  try simp only [Act.put, List.setIfInBounds_toArray, List.set_cons_zero, List.set_cons_succ]
  refine wpAnyH_take (i := 50) (oi := { dst := some 98, op := Op.move (Operand.tmp 1), type := 3, pos := "law.go:29", after := #[{ on := 45, ground := Ground.guard }], guard := some (45, true) }) (v := ?vw50) rfl (by kernel_rfl) (by kernel_rfl) (by kernel_rfl) (fun _ _ _ h => h) (Or.inl ⟨by rfl, ?hyw50⟩) hHeld ?_
  case hyw50 => (intro w hSw; (try dsimp only at hSw); go_simp; (try with_reducible rfl))
  try simp only [Act.put, List.setIfInBounds_toArray, List.set_cons_zero, List.set_cons_succ]
  refine wpAnyH_ready (rs := [48]) (by kernel_rfl) (by simp) ?_
  refine AllReadyH.cons (o := { dst := some 96, op := Op.call { callee := Callee.value (Operand.func 16), args := #[Operand.tmp 94, Operand.tmp 95], argTypes := #[26, 3] }, type := 3, pos := "law.go:29", after := #[{ on := 46, ground := Ground.data }, { on := 47, ground := Ground.data }, { on := 45, ground := Ground.chain }, { on := 45, ground := Ground.guard }], guard := some (45, true) }) rfl (fun K hK => ?_) AllReadyH.nil
  go_simp
  refine (K10.out _ (HS.out.below hQ10)).mono ?_
  rintro e v11 ⟨rfl, hV⟩
  have hX11 : Two v11 w.heap.size W4.heap.size a b c d a b c d := Two.below hHeld hV
  have hQ11 := belowOn (w := w) hQ10 hV
  clear hV hHeld hQ10 K10
  try go_wp2_with fail
  refine hK.out _ _ ?_ (fun hHeld => ?_)
  · exact hX11
  clear hK K
  try simp only [Act.put, List.setIfInBounds_toArray, List.set_cons_zero, List.set_cons_succ]
  refine wpAnyH_ready (rs := [51]) (by kernel_rfl) (by simp) ?_
  refine AllReadyH.cons (o := { dst := some 99, op := Op.call { callee := Callee.value (Operand.func 11), args := #[Operand.tmp 97, Operand.const (Value.int IntKind.i64 6), Operand.tmp 98, Operand.const (Value.int IntKind.i64 0)], argTypes := #[23, 3, 3, 3] }, type := 3, pos := "law.go:29", after := #[{ on := 49, ground := Ground.data }, { on := 50, ground := Ground.data }, { on := 48, ground := Ground.chain }, { on := 45, ground := Ground.guard }], guard := some (45, true) }) rfl (fun K hK => ?_) AllReadyH.nil
  go_simp
  refine (K11.out _).mono ?_
  rintro e v12 ⟨rfl, hV⟩
  have hX12 : Two v12 w.heap.size W4.heap.size a b c d a b c d := Two.below hHeld hV
  have hQ12 := belowOn (w := w) hQ11 hV
  clear hV hHeld hQ11 K11
  try go_wp2_with fail
  refine hK.out _ _ ?_ (fun hHeld => ?_)
  · exact hX12
  clear hK K
  try simp only [Act.put, List.setIfInBounds_toArray, List.set_cons_zero, List.set_cons_succ]
  refine wpAnyH_take (i := 52) (oi := { dst := some 100, op := Op.binOp BinOp.eql 3 (Operand.tmp 96) (Operand.tmp 99) 3, type := 4, pos := "law.go:29", after := #[{ on := 48, ground := Ground.data }, { on := 51, ground := Ground.data }, { on := 45, ground := Ground.guard }], guard := some (45, true) }) (v := ?vw52) rfl (by kernel_rfl) (by kernel_rfl) (by kernel_rfl) (fun _ _ _ h => h) (Or.inl ⟨by rfl, ?hyw52⟩) hHeld ?_
  case hyw52 => (intro w hSw; (try dsimp only at hSw); go_simp; (try with_reducible rfl))
  try simp only [Act.put, List.setIfInBounds_toArray, List.set_cons_zero, List.set_cons_succ]
  refine wpAnyH_take (i := 53) (oi := { dst := some 101, op := Op.pick (Operand.tmp 93) (Operand.tmp 100) (Operand.const (Value.bool false)), type := 4, pos := "law.go:29", after := #[{ on := 45, ground := Ground.data }, { on := 52, ground := Ground.data }], guard := none }) (v := ?vw53) rfl (by kernel_rfl) (by kernel_rfl) (by kernel_rfl) (fun _ _ _ h => h) (Or.inl ⟨by rfl, ?hyw53⟩) hHeld ?_
  case hyw53 => (intro w hSw; (try dsimp only at hSw); go_simp; (try with_reducible rfl))
  try simp only [Act.put, List.setIfInBounds_toArray, List.set_cons_zero, List.set_cons_succ]
  refine wpAnyH_take (i := 54) (oi := { dst := some 102, op := Op.move (Operand.tmp 101), type := 4, pos := "law.go:29", after := #[{ on := 53, ground := Ground.data }, { on := 51, ground := Ground.chain }], guard := none }) (v := ?vw54) rfl (by kernel_rfl) (by kernel_rfl) (by kernel_rfl) (fun _ _ _ h => h) (Or.inl ⟨by rfl, ?hyw54⟩) hHeld ?_
  case hyw54 => (intro w hSw; (try dsimp only at hSw); go_simp; (try with_reducible rfl))
  try simp only [Act.put, List.setIfInBounds_toArray, List.set_cons_zero, List.set_cons_succ]
  refine wpAnyH_take (i := 55) (oi := { dst := some 103, op := Op.load 26 (Operand.tmp 9), type := 26, pos := "law.go:29", after := #[{ on := 54, ground := Ground.guard }], guard := some (54, true) }) (v := ?vw55) rfl (by kernel_rfl) (by kernel_rfl) (by kernel_rfl) (fun _ _ _ h => h) (Or.inl ⟨by rfl, ?hyw55⟩) hHeld ?_
  case hyw55 => (intro w hSw; (try dsimp only at hSw); go_simp; (try with_reducible rfl))
  try simp only [Act.put, List.setIfInBounds_toArray, List.set_cons_zero, List.set_cons_succ]
  refine wpAnyH_take (i := 56) (oi := { dst := some 104, op := Op.move (Operand.tmp 1), type := 3, pos := "law.go:29", after := #[{ on := 54, ground := Ground.guard }], guard := some (54, true) }) (v := ?vw56) rfl (by kernel_rfl) (by kernel_rfl) (by kernel_rfl) (fun _ _ _ h => h) (Or.inl ⟨by rfl, ?hyw56⟩) hHeld ?_
  case hyw56 => (intro w hSw; (try dsimp only at hSw); go_simp; (try with_reducible rfl))
  try simp only [Act.put, List.setIfInBounds_toArray, List.set_cons_zero, List.set_cons_succ]
  refine wpAnyH_take (i := 58) (oi := { dst := some 106, op := Op.load 23 (Operand.tmp 3), type := 23, pos := "law.go:29", after := #[{ on := 54, ground := Ground.guard }], guard := some (54, true) }) (v := ?vw58) rfl (by kernel_rfl) (by kernel_rfl) (by kernel_rfl) (fun _ _ _ h => h) (Or.inl ⟨by rfl, ?hyw58⟩) hHeld ?_
  case hyw58 => (intro w hSw; (try dsimp only at hSw); go_simp; (try with_reducible rfl))
  try simp only [Act.put, List.setIfInBounds_toArray, List.set_cons_zero, List.set_cons_succ]
  refine wpAnyH_take (i := 59) (oi := { dst := some 107, op := Op.move (Operand.tmp 1), type := 3, pos := "law.go:29", after := #[{ on := 54, ground := Ground.guard }], guard := some (54, true) }) (v := ?vw59) rfl (by kernel_rfl) (by kernel_rfl) (by kernel_rfl) (fun _ _ _ h => h) (Or.inl ⟨by rfl, ?hyw59⟩) hHeld ?_
  case hyw59 => (intro w hSw; (try dsimp only at hSw); go_simp; (try with_reducible rfl))
  try simp only [Act.put, List.setIfInBounds_toArray, List.set_cons_zero, List.set_cons_succ]
  refine wpAnyH_ready (rs := [57]) (by kernel_rfl) (by simp) ?_
  refine AllReadyH.cons (o := { dst := some 105, op := Op.call { callee := Callee.value (Operand.func 17), args := #[Operand.tmp 103, Operand.tmp 104], argTypes := #[26, 3] }, type := 3, pos := "law.go:29", after := #[{ on := 55, ground := Ground.data }, { on := 56, ground := Ground.data }, { on := 54, ground := Ground.chain }, { on := 54, ground := Ground.guard }], guard := some (54, true) }) rfl (fun K hK => ?_) AllReadyH.nil
  go_simp
  refine (K12.out _ (HS.out.below hQ12)).mono ?_
  rintro e v13 ⟨rfl, hV⟩
  have hX13 : Two v13 w.heap.size W4.heap.size a b c d a b c d := Two.below hHeld hV
  have hQ13 := belowOn (w := w) hQ12 hV
  clear hV hHeld hQ12 K12
  try go_wp2_with fail
  refine hK.out _ _ ?_ (fun hHeld => ?_)
  · exact hX13
  clear hK K
  try simp only [Act.put, List.setIfInBounds_toArray, List.set_cons_zero, List.set_cons_succ]
  refine wpAnyH_ready (rs := [60]) (by kernel_rfl) (by simp) ?_
  refine AllReadyH.cons (o := { dst := some 108, op := Op.call { callee := Callee.value (Operand.func 18), args := #[Operand.tmp 106, Operand.tmp 107], argTypes := #[23, 3] }, type := 3, pos := "law.go:29", after := #[{ on := 58, ground := Ground.data }, { on := 59, ground := Ground.data }, { on := 57, ground := Ground.chain }, { on := 54, ground := Ground.guard }], guard := some (54, true) }) rfl (fun K hK => ?_) AllReadyH.nil
  go_simp
  refine (K13.out _).mono ?_
  rintro e v14 ⟨rfl, hV⟩
  have hX14 : Two v14 w.heap.size W4.heap.size a b c d a b c d := Two.below hHeld hV
  have hQ14 := belowOn (w := w) hQ13 hV
  clear hV hHeld hQ13 K13
  try go_wp2_with fail
  refine hK.out _ _ ?_ (fun hHeld => ?_)
  · exact hX14
  clear hK K
  try simp only [Act.put, List.setIfInBounds_toArray, List.set_cons_zero, List.set_cons_succ]
  refine wpAnyH_take (i := 61) (oi := { dst := some 109, op := Op.binOp BinOp.eql 3 (Operand.tmp 105) (Operand.tmp 108) 3, type := 4, pos := "law.go:29", after := #[{ on := 57, ground := Ground.data }, { on := 60, ground := Ground.data }, { on := 54, ground := Ground.guard }], guard := some (54, true) }) (v := ?vw61) rfl (by kernel_rfl) (by kernel_rfl) (by kernel_rfl) (fun _ _ _ h => h) (Or.inl ⟨by rfl, ?hyw61⟩) hHeld ?_
  case hyw61 => (intro w hSw; (try dsimp only at hSw); go_simp; (try with_reducible rfl))
  try simp only [Act.put, List.setIfInBounds_toArray, List.set_cons_zero, List.set_cons_succ]
  refine wpAnyH_take (i := 62) (oi := { dst := some 110, op := Op.pick (Operand.tmp 102) (Operand.tmp 109) (Operand.const (Value.bool false)), type := 4, pos := "law.go:29", after := #[{ on := 54, ground := Ground.data }, { on := 61, ground := Ground.data }], guard := none }) (v := ?vw62) rfl (by kernel_rfl) (by kernel_rfl) (by kernel_rfl) (fun _ _ _ h => h) (Or.inl ⟨by rfl, ?hyw62⟩) hHeld ?_
  case hyw62 => (intro w hSw; (try dsimp only at hSw); go_simp; (try with_reducible rfl))
  try simp only [Act.put, List.setIfInBounds_toArray, List.set_cons_zero, List.set_cons_succ]
  refine wpAnyH_take (i := 63) (oi := { dst := some 111, op := Op.move (Operand.tmp 110), type := 4, pos := "law.go:29", after := #[{ on := 62, ground := Ground.data }, { on := 60, ground := Ground.chain }], guard := none }) (v := ?vw63) rfl (by kernel_rfl) (by kernel_rfl) (by kernel_rfl) (fun _ _ _ h => h) (Or.inl ⟨by rfl, ?hyw63⟩) hHeld ?_
  case hyw63 => (intro w hSw; (try dsimp only at hSw); go_simp; (try with_reducible rfl))
  try simp only [Act.put, List.setIfInBounds_toArray, List.set_cons_zero, List.set_cons_succ]
  refine wpAnyH_take (i := 64) (oi := { dst := some 112, op := Op.load 26 (Operand.tmp 9), type := 26, pos := "law.go:29", after := #[{ on := 63, ground := Ground.guard }], guard := some (63, true) }) (v := ?vw64) rfl (by kernel_rfl) (by kernel_rfl) (by kernel_rfl) (fun _ _ _ h => h) (Or.inl ⟨by rfl, ?hyw64⟩) hHeld ?_
  case hyw64 => (intro w hSw; (try dsimp only at hSw); go_simp; (try with_reducible rfl))
  try simp only [Act.put, List.setIfInBounds_toArray, List.set_cons_zero, List.set_cons_succ]
  refine wpAnyH_take (i := 66) (oi := { dst := some 114, op := Op.load 23 (Operand.tmp 3), type := 23, pos := "law.go:29", after := #[{ on := 63, ground := Ground.guard }], guard := some (63, true) }) (v := ?vw66) rfl (by kernel_rfl) (by kernel_rfl) (by kernel_rfl) (fun _ _ _ h => h) (Or.inl ⟨by rfl, ?hyw66⟩) hHeld ?_
  case hyw66 => (intro w hSw; (try dsimp only at hSw); go_simp; (try with_reducible rfl))
  try simp only [Act.put, List.setIfInBounds_toArray, List.set_cons_zero, List.set_cons_succ]
  refine wpAnyH_ready (rs := [65]) (by kernel_rfl) (by simp) ?_
  refine AllReadyH.cons (o := { dst := some 113, op := Op.call { callee := Callee.value (Operand.func 19), args := #[Operand.tmp 112], argTypes := #[26] }, type := 3, pos := "law.go:29", after := #[{ on := 64, ground := Ground.data }, { on := 63, ground := Ground.chain }, { on := 63, ground := Ground.guard }], guard := some (63, true) }) rfl (fun K hK => ?_) AllReadyH.nil
  go_simp
  refine (K14.out _ (HS.out.below hQ14)).mono ?_
  rintro e v15 ⟨rfl, hV⟩
  have hX15 : Two v15 w.heap.size W4.heap.size a b c d a b c d := Two.below hHeld hV
  have hQ15 := belowOn (w := w) hQ14 hV
  clear hV hHeld hQ14 K14
  try go_wp2_with fail
  refine hK.out _ _ ?_ (fun hHeld => ?_)
  · exact hX15
  clear hK K
  try simp only [Act.put, List.setIfInBounds_toArray, List.set_cons_zero, List.set_cons_succ]
  refine wpAnyH_ready (rs := [67]) (by kernel_rfl) (by simp) ?_
  refine AllReadyH.cons (o := { dst := some 115, op := Op.call { callee := Callee.value (Operand.func 20), args := #[Operand.tmp 114], argTypes := #[23] }, type := 3, pos := "law.go:29", after := #[{ on := 66, ground := Ground.data }, { on := 65, ground := Ground.chain }, { on := 63, ground := Ground.guard }], guard := some (63, true) }) rfl (fun K hK => ?_) AllReadyH.nil
  go_simp
  refine (K15.out _).mono ?_
  rintro e v16 ⟨rfl, hV⟩
  have hX16 : Two v16 w.heap.size W4.heap.size a b c d a b c d := Two.below hHeld hV
  have hQ16 := belowOn (w := w) hQ15 hV
  clear hV hHeld hQ15 K15
  try go_wp2_with fail
  refine hK.out _ _ ?_ (fun hHeld => ?_)
  · exact hX16
  clear hK K
  try simp only [Act.put, List.setIfInBounds_toArray, List.set_cons_zero, List.set_cons_succ]
  refine wpAnyH_take (i := 68) (oi := { dst := some 116, op := Op.binOp BinOp.eql 3 (Operand.tmp 113) (Operand.tmp 115) 3, type := 4, pos := "law.go:29", after := #[{ on := 65, ground := Ground.data }, { on := 67, ground := Ground.data }, { on := 63, ground := Ground.guard }], guard := some (63, true) }) (v := ?vw68) rfl (by kernel_rfl) (by kernel_rfl) (by kernel_rfl) (fun _ _ _ h => h) (Or.inl ⟨by rfl, ?hyw68⟩) hHeld ?_
  case hyw68 => (intro w hSw; (try dsimp only at hSw); go_simp; (try with_reducible rfl))
  try simp only [Act.put, List.setIfInBounds_toArray, List.set_cons_zero, List.set_cons_succ]
  refine wpAnyH_take (i := 69) (oi := { dst := some 117, op := Op.pick (Operand.tmp 111) (Operand.tmp 116) (Operand.const (Value.bool false)), type := 4, pos := "law.go:29", after := #[{ on := 63, ground := Ground.data }, { on := 68, ground := Ground.data }], guard := none }) (v := ?vw69) rfl (by kernel_rfl) (by kernel_rfl) (by kernel_rfl) (fun _ _ _ h => h) (Or.inl ⟨by rfl, ?hyw69⟩) hHeld ?_
  case hyw69 => (intro w hSw; (try dsimp only at hSw); go_simp; (try with_reducible rfl))
  try simp only [Act.put, List.setIfInBounds_toArray, List.set_cons_zero, List.set_cons_succ]
  refine wpAnyH_take (i := 70) (oi := { dst := some 6, op := Op.assign (Operand.tmp 117), type := 4, pos := "law.go:29", after := ([{ on := 69, ground := Ground.data }, { on := 67, ground := Ground.chain }, { on := 0, ground := Ground.phase }, { on := 1, ground := Ground.phase }, { on := 2, ground := Ground.phase }, { on := 3, ground := Ground.phase }, { on := 4, ground := Ground.phase }, { on := 5, ground := Ground.phase }, { on := 6, ground := Ground.phase }, { on := 7, ground := Ground.phase }, { on := 8, ground := Ground.phase }, { on := 9, ground := Ground.phase }, { on := 10, ground := Ground.phase }, { on := 11, ground := Ground.phase }, { on := 12, ground := Ground.phase }, { on := 13, ground := Ground.phase }, { on := 14, ground := Ground.phase }, { on := 15, ground := Ground.phase }, { on := 16, ground := Ground.phase }, { on := 17, ground := Ground.phase }, { on := 18, ground := Ground.phase }, { on := 19, ground := Ground.phase }, { on := 20, ground := Ground.phase }, { on := 21, ground := Ground.phase }, { on := 22, ground := Ground.phase }, { on := 23, ground := Ground.phase }, { on := 24, ground := Ground.phase }, { on := 25, ground := Ground.phase }, { on := 26, ground := Ground.phase }, { on := 27, ground := Ground.phase }, { on := 28, ground := Ground.phase }, { on := 29, ground := Ground.phase }, { on := 30, ground := Ground.phase }, { on := 31, ground := Ground.phase }, { on := 32, ground := Ground.phase }, { on := 33, ground := Ground.phase }].append [{ on := 34, ground := Ground.phase }, { on := 35, ground := Ground.phase }, { on := 36, ground := Ground.phase }, { on := 37, ground := Ground.phase }, { on := 38, ground := Ground.phase }, { on := 39, ground := Ground.phase }, { on := 40, ground := Ground.phase }, { on := 41, ground := Ground.phase }, { on := 42, ground := Ground.phase }, { on := 43, ground := Ground.phase }, { on := 44, ground := Ground.phase }, { on := 45, ground := Ground.phase }, { on := 46, ground := Ground.phase }, { on := 47, ground := Ground.phase }, { on := 48, ground := Ground.phase }, { on := 49, ground := Ground.phase }, { on := 50, ground := Ground.phase }, { on := 51, ground := Ground.phase }, { on := 52, ground := Ground.phase }, { on := 53, ground := Ground.phase }, { on := 54, ground := Ground.phase }, { on := 55, ground := Ground.phase }, { on := 56, ground := Ground.phase }, { on := 57, ground := Ground.phase }, { on := 58, ground := Ground.phase }, { on := 59, ground := Ground.phase }, { on := 60, ground := Ground.phase }, { on := 61, ground := Ground.phase }, { on := 62, ground := Ground.phase }, { on := 63, ground := Ground.phase }, { on := 64, ground := Ground.phase }, { on := 65, ground := Ground.phase }, { on := 66, ground := Ground.phase }, { on := 67, ground := Ground.phase }, { on := 68, ground := Ground.phase }, { on := 69, ground := Ground.phase }]).toArray, guard := none }) (v := ?vw70) rfl (by kernel_rfl) (by kernel_rfl) (by kernel_rfl) (fun _ _ _ h => h) (Or.inl ⟨by rfl, ?hyw70⟩) hHeld ?_
  case hyw70 => (intro w hSw; (try dsimp only at hSw); go_simp; (try with_reducible rfl))
  try simp only [Act.put, List.setIfInBounds_toArray, List.set_cons_zero, List.set_cons_succ]
  refine wpAnyH_done (by kernel_rfl) ?_ _
  clear hHeld
  go_wp2_with fail
  go_ret
  exact ⟨rfl, hQ16⟩
end Go.Proofs.YtcgnfloinmmaoaaDoor
