/- BarrierBegins answers true: how far anything is that is to shade any word is as the document says. -/
import Derived.Test.YtckmdkebacbcjaaDoorBarBoth
namespace Go.Proofs.YtckmdkebacbcjaaDoor
open Go Go.RowKit
set_option maxRecDepth 100000
attribute [local go_sem ↓] Go.wp_at_zero Go.wp_at_succ

set_option maxHeartbeats 3200000 in
theorem begins_any (m : Mu) (v : Nat) (hv : v < 18446744073709551616) (z : Int) (w : World) (hS : SpansAt w) :
    Calls Tryd.prog 4 #[m.v, .int .u64 v, .int .i64 z] w fun e w' => e = .returned (.bool true) ∧ Below w.heap.size w w' := by
  have HB0 := Lib.hid (below_new w (.cells #[.int .i64 m.l, .int .i64 m.q1, .int .i64 m.q2, .int .i64 m.q3, .int .i64 m.q4, .int .u64 m.m1, .int .u64 m.m2, .int .u64 m.m3, .int .u64 m.m4, .int .u64 m.m5, .int .u64 m.p, .int .i64 m.bk, .int .i64 m.rt] 30))
  have HM0 := Lib.hid (Mut13.new w m.l m.p m.bk m.q1 m.q2 m.q3 m.q4 m.m1 m.m2 m.m3 m.m4 m.m5 m.rt)
  have HS := Lib.hid hS; clear hS
  go_enter Tryd.func4, Tryd.ntmps4
  go_wp2_with fail
  refine (awake_c _ (HS.out.below HB0.out)).mono ?_
  rintro e W1 ⟨rfl, hW⟩
  have HB1 := Lib.hid (belowOn HB0.out hW).drew
  have HM1 : Hid (MuAt W1.drew w.heap.size m) := Lib.hid (HM0.out.below hW.drew)
  clear hW HB0 HM0
  obtain ⟨b0, b1, b2, b3, b4, b5, b6, b7, b8, b9, b10, b11, b12, bf⟩ := HM1.out.cells
  go_wp2_with fail
  refine wp_region_held_drew (S := (fun w' => w'.cell? ⟨w.heap.size, 0, none⟩ = some (.int .i64 m.l) ∧ w'.cell? ⟨w.heap.size, 1, none⟩ = some (.int .i64 m.q1) ∧ w'.cell? ⟨w.heap.size, 2, none⟩ = some (.int .i64 m.q2) ∧ w'.cell? ⟨w.heap.size, 3, none⟩ = some (.int .i64 m.q3) ∧ w'.cell? ⟨w.heap.size, 4, none⟩ = some (.int .i64 m.q4) ∧ w'.cell? ⟨w.heap.size, 5, none⟩ = some (.int .u64 m.m1) ∧ w'.cell? ⟨w.heap.size, 6, none⟩ = some (.int .u64 m.m2) ∧ w'.cell? ⟨w.heap.size, 7, none⟩ = some (.int .u64 m.m3) ∧ w'.cell? ⟨w.heap.size, 8, none⟩ = some (.int .u64 m.m4) ∧ w'.cell? ⟨w.heap.size, 9, none⟩ = some (.int .u64 m.m5) ∧ w'.cell? ⟨w.heap.size, 10, none⟩ = some (.int .u64 m.p) ∧ w'.cell? ⟨w.heap.size, 11, none⟩ = some (.int .i64 m.bk) ∧ w'.cell? ⟨w.heap.size, 12, none⟩ = some (.int .i64 m.rt))) (by kernel_rfl) ?_ (fun hHeld => ?_)
  · exact ⟨b0, b1, b2, b3, b4, b5, b6, b7, b8, b9, b10, b11, b12⟩
  refine wpAnyH_take (i := 0) (oi := { dst := some 9, op := Op.load 30 (Operand.tmp 3), type := 30, pos := "law.go:62", after := #[], guard := none }) (v := ?vg0) rfl (by kernel_rfl) (by kernel_rfl) (by kernel_rfl) (fun _ _ _ h => h) (Or.inl ⟨by rfl, ?hyg0⟩) hHeld ?_
  case hyg0 => (intro w hSw; (try dsimp only at hSw); go_simp; (try with_reducible rfl))
  try simp only [Act.put, List.setIfInBounds_toArray, List.set_cons_zero, List.set_cons_succ]
  refine wpAnyH_take (i := 1) (oi := { dst := some 10, op := Op.move (Operand.tmp 1), type := 28, pos := "law.go:62", after := #[], guard := none }) (v := ?vg1) rfl (by kernel_rfl) (by kernel_rfl) (by kernel_rfl) (fun _ _ _ h => h) (Or.inl ⟨by rfl, ?hyg1⟩) hHeld ?_
  case hyg1 => (intro w hSw; (try dsimp only at hSw); go_simp; (try with_reducible rfl))
  try simp only [Act.put, List.setIfInBounds_toArray, List.set_cons_zero, List.set_cons_succ]
  refine wpAnyH_take (i := 2) (oi := { dst := some 11, op := Op.move (Operand.tmp 2), type := 3, pos := "law.go:62", after := #[], guard := none }) (v := ?vg2) rfl (by kernel_rfl) (by kernel_rfl) (by kernel_rfl) (fun _ _ _ h => h) (Or.inl ⟨by rfl, ?hyg2⟩) hHeld ?_
  case hyg2 => (intro w hSw; (try dsimp only at hSw); go_simp; (try with_reducible rfl))
  try simp only [Act.put, List.setIfInBounds_toArray, List.set_cons_zero, List.set_cons_succ]
  refine wpAnyH_take (i := 4) (oi := { dst := some 13, op := Op.load 30 (Operand.tmp 3), type := 30, pos := "law.go:62", after := #[], guard := none }) (v := ?vg4) rfl (by kernel_rfl) (by kernel_rfl) (by kernel_rfl) (fun _ _ _ h => h) (Or.inl ⟨by rfl, ?hyg4⟩) hHeld ?_
  case hyg4 => (intro w hSw; (try dsimp only at hSw); go_simp; (try with_reducible rfl))
  try simp only [Act.put, List.setIfInBounds_toArray, List.set_cons_zero, List.set_cons_succ]
  refine wpAnyH_take (i := 5) (oi := { dst := some 14, op := Op.move (Operand.tmp 1), type := 28, pos := "law.go:62", after := #[], guard := none }) (v := ?vg5) rfl (by kernel_rfl) (by kernel_rfl) (by kernel_rfl) (fun _ _ _ h => h) (Or.inl ⟨by rfl, ?hyg5⟩) hHeld ?_
  case hyg5 => (intro w hSw; (try dsimp only at hSw); go_simp; (try with_reducible rfl))
  try simp only [Act.put, List.setIfInBounds_toArray, List.set_cons_zero, List.set_cons_succ]
  refine wpAnyH_take (i := 6) (oi := { dst := some 15, op := Op.move (Operand.tmp 2), type := 3, pos := "law.go:62", after := #[], guard := none }) (v := ?vg6) rfl (by kernel_rfl) (by kernel_rfl) (by kernel_rfl) (fun _ _ _ h => h) (Or.inl ⟨by rfl, ?hyg6⟩) hHeld ?_
  case hyg6 => (intro w hSw; (try dsimp only at hSw); go_simp; (try with_reducible rfl))
  try simp only [Act.put, List.setIfInBounds_toArray, List.set_cons_zero, List.set_cons_succ]
  refine wpAnyH_ready (rs := [3]) (by kernel_rfl) (by simp) ?_
  refine AllReadyH.cons (o := { dst := some 12, op := Op.call { callee := Callee.value (Operand.func 12), args := #[Operand.tmp 9, Operand.tmp 10, Operand.tmp 11], argTypes := #[30, 28, 3] }, type := 30, pos := "law.go:62", after := #[{ on := 0, ground := Ground.data }, { on := 1, ground := Ground.data }, { on := 2, ground := Ground.data }], guard := none }) rfl (fun K hK => ?_) AllReadyH.nil
  go_simp
  refine (Begin_c m.l m.p m.bk m.q1 m.q2 m.q3 m.q4 m.m1 m.m2 m.m3 m.m4 m.m5 m.rt v hv z _).mono ?_
  rintro e V1 ⟨rfl, hV⟩
  have HB2 := Lib.hid (belowOn HB1.out hV)
  have HM2 := Lib.hid (HM1.out.below hV)
  clear hV hHeld HB1 HM1 b0 b1 b2 b3 b4 b5 b6 b7 b8 b9 b10 b11 b12 bf
  obtain ⟨b0, b1, b2, b3, b4, b5, b6, b7, b8, b9, b10, b11, b12, bf⟩ := HM2.out.cells
  refine hK.out _ _ ?_ (fun hHeld => ?_)
  · exact ⟨b0, b1, b2, b3, b4, b5, b6, b7, b8, b9, b10, b11, b12⟩
  clear hK K
  try simp only [Act.put, List.setIfInBounds_toArray, List.set_cons_zero, List.set_cons_succ]
  refine wpAnyH_ready (rs := [7]) (by kernel_rfl) (by simp) ?_
  refine AllReadyH.cons (o := { dst := some 16, op := Op.call { callee := Callee.value (Operand.func 13), args := #[Operand.tmp 13, Operand.tmp 14, Operand.tmp 15], argTypes := #[30, 28, 3] }, type := 30, pos := "law.go:62", after := #[{ on := 4, ground := Ground.data }, { on := 5, ground := Ground.data }, { on := 6, ground := Ground.data }, { on := 3, ground := Ground.chain }], guard := none }) rfl (fun K hK => ?_) AllReadyH.nil
  go_simp
  refine (rBegin_c m.l m.p m.bk m.q1 m.q2 m.q3 m.q4 m.m1 m.m2 m.m3 m.m4 m.m5 m.rt v hv z _).mono ?_
  rintro e V2 ⟨rfl, hV⟩
  have HB3 := Lib.hid (belowOn HB2.out hV)
  have HM3 := Lib.hid (HM2.out.below hV)
  clear hV hHeld HB2 HM2 b0 b1 b2 b3 b4 b5 b6 b7 b8 b9 b10 b11 b12 bf
  obtain ⟨b0, b1, b2, b3, b4, b5, b6, b7, b8, b9, b10, b11, b12, bf⟩ := HM3.out.cells
  refine hK.out _ _ ?_ (fun hHeld => ?_)
  · exact ⟨b0, b1, b2, b3, b4, b5, b6, b7, b8, b9, b10, b11, b12⟩
  clear hK K
  try simp only [Act.put, List.setIfInBounds_toArray, List.set_cons_zero, List.set_cons_succ]
  refine wpAnyH_take (i := 8) (oi := { dst := some 17, op := Op.binOp BinOp.eql 30 (Operand.tmp 12) (Operand.tmp 16) 30, type := 4, pos := "law.go:62", after := #[{ on := 3, ground := Ground.data }, { on := 7, ground := Ground.data }], guard := none }) (v := ?vg8) rfl (by kernel_rfl) (by kernel_rfl) (by kernel_rfl) (fun _ _ _ h => h) (Or.inl ⟨by rfl, ?hyg8⟩) hHeld ?_
  case hyg8 => (intro w hSw; (try dsimp only at hSw); go_simp; (try with_reducible rfl))
  try simp only [Act.put, List.setIfInBounds_toArray, List.set_cons_zero, List.set_cons_succ]
  refine wpAnyH_take (i := 9) (oi := { dst := some 6, op := Op.assign (Operand.tmp 17), type := 4, pos := "law.go:62", after := #[{ on := 8, ground := Ground.data }, { on := 7, ground := Ground.chain }, { on := 0, ground := Ground.phase }, { on := 1, ground := Ground.phase }, { on := 2, ground := Ground.phase }, { on := 3, ground := Ground.phase }, { on := 4, ground := Ground.phase }, { on := 5, ground := Ground.phase }, { on := 6, ground := Ground.phase }, { on := 7, ground := Ground.phase }, { on := 8, ground := Ground.phase }], guard := none }) (v := ?vg9) rfl (by kernel_rfl) (by kernel_rfl) (by kernel_rfl) (fun _ _ _ h => h) (Or.inl ⟨by rfl, ?hyg9⟩) hHeld ?_
  case hyg9 => (intro w hSw; (try dsimp only at hSw); go_simp; (try with_reducible rfl))
  try simp only [Act.put, List.setIfInBounds_toArray, List.set_cons_zero, List.set_cons_succ]
  refine wpAnyH_done (by kernel_rfl) ?_ _
  clear hHeld b0 b1 b2 b3 b4 b5 b6 b7 b8 b9 b10 b11 b12 bf
  go_wp2_with fail
  go_ret
  exact ⟨rfl, HB3.out⟩
end Go.Proofs.YtckmdkebacbcjaaDoor
