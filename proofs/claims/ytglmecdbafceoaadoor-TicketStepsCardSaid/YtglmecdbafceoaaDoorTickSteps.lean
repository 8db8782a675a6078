/- TicketSteps answers true: a step from any line, over any words, is as the document says; so is whether the lock is wanted, or held. -/
import Derived.Test.YtglmecdbafceoaaDoorTickAwake
import Derived.Test.YtglmecdbafceoaaDoorTickHolds
namespace Go.Proofs.YtglmecdbafceoaaDoor
open Go Go.RowKit
set_option maxRecDepth 100000
attribute [local go_sem ↓] Go.wp_at_zero Go.wp_at_succ

set_option maxHeartbeats 3200000 in
theorem steps_any (a b c d : Int) (v0 : Option Addr) (n c0 : Nat) (f : Nat → Int) (z : Int) (m : Mu) (hm : m.U) (w : World) (hS : SpansAt w) (hG : Given w v0 n c0 f) :
    Calls Tryd.prog 3 #[.agg #[.int .i64 a, .int .i64 b, .int .i64 c, .int .i64 d], .slice v0 n c0, .int .i64 z, m.v] w fun e w' => e = .returned (.bool true) ∧ Below w.heap.size w w' := by
  have HB0 := Lib.hid (below_on (below_new w (.cells #[.int .i64 a, .int .i64 b, .int .i64 c, .int .i64 d] 23)) (.cells #[.int .i64 m.l, .int .i64 m.q1, .int .i64 m.q2, .int .i64 m.q3, .int .i64 m.q4, .int .u64 m.m1, .int .u64 m.m2, .int .u64 m.m3, .int .u64 m.m4, .int .u64 m.m5, .int .u64 m.p, .int .i64 m.bk, .int .i64 m.rt] 30))
  have HX0 : Hid (BoxAt ((w.alloc (.cells #[.int .i64 a, .int .i64 b, .int .i64 c, .int .i64 d] 23)).alloc (.cells #[.int .i64 m.l, .int .i64 m.q1, .int .i64 m.q2, .int .i64 m.q3, .int .i64 m.q4, .int .u64 m.m1, .int .u64 m.m2, .int .u64 m.m3, .int .u64 m.m4, .int .u64 m.m5, .int .u64 m.p, .int .i64 m.bk, .int .i64 m.rt] 30)) w.heap.size a b c d) := Lib.hid ((BoxAt.new w a b c d 23).below (below_new _ _))
  have HM0 : Hid (MuAt ((w.alloc (.cells #[.int .i64 a, .int .i64 b, .int .i64 c, .int .i64 d] 23)).alloc (.cells #[.int .i64 m.l, .int .i64 m.q1, .int .i64 m.q2, .int .i64 m.q3, .int .i64 m.q4, .int .u64 m.m1, .int .u64 m.m2, .int .u64 m.m3, .int .u64 m.m4, .int .u64 m.m5, .int .u64 m.p, .int .i64 m.bk, .int .i64 m.rt] 30)) (w.heap.size + 1) m) := Lib.hid (by have := Mut13.new (w.alloc (.cells #[.int .i64 a, .int .i64 b, .int .i64 c, .int .i64 d] 23)) m.l m.p m.bk m.q1 m.q2 m.q3 m.q4 m.m1 m.m2 m.m3 m.m4 m.m5 m.rt; simpa using this)
  have HS := Lib.hid hS; have HG := Lib.hid hG
  have HU := Lib.hid hm
  clear hS hG hm
  obtain ⟨x0, x1, x2, x3⟩ := HX0.out
  go_enter Tryd.func3, Tryd.ntmps3
  go_wp2_with fail
  refine (awake_c _ (HS.out.below HB0.out)).mono ?_
  rintro e W1 ⟨rfl, hW⟩
  have HB1 := Lib.hid (belowOn HB0.out hW)
  have HX1 := Lib.hid (HX0.out.below hW)
  have HM1 : Hid (MuAt W1 (w.heap.size + 1) m) := Lib.hid (HM0.out.below hW)
  clear hW HB0 HX0 HM0 x0 x1 x2 x3
  obtain ⟨x0, x1, x2, x3⟩ := HX1.out
  obtain ⟨b0, b1, b2, b3, b4, b5, b6, b7, b8, b9, b10, b11, b12, bf⟩ := HM1.out.cells
  have hbn : ∀ u : Bool, (u != u) = false := by simp
  go_wp2_with fail
  refine wp_region_held_drew (S := (fun w' => w'.cell? ⟨w.heap.size + 1, 0, none⟩ = some (.int .i64 m.l) ∧ w'.cell? ⟨w.heap.size + 1, 1, none⟩ = some (.int .i64 m.q1) ∧ w'.cell? ⟨w.heap.size + 1, 2, none⟩ = some (.int .i64 m.q2) ∧ w'.cell? ⟨w.heap.size + 1, 3, none⟩ = some (.int .i64 m.q3) ∧ w'.cell? ⟨w.heap.size + 1, 4, none⟩ = some (.int .i64 m.q4) ∧ w'.cell? ⟨w.heap.size + 1, 5, none⟩ = some (.int .u64 m.m1) ∧ w'.cell? ⟨w.heap.size + 1, 6, none⟩ = some (.int .u64 m.m2) ∧ w'.cell? ⟨w.heap.size + 1, 7, none⟩ = some (.int .u64 m.m3) ∧ w'.cell? ⟨w.heap.size + 1, 8, none⟩ = some (.int .u64 m.m4) ∧ w'.cell? ⟨w.heap.size + 1, 9, none⟩ = some (.int .u64 m.m5) ∧ w'.cell? ⟨w.heap.size + 1, 10, none⟩ = some (.int .u64 m.p) ∧ w'.cell? ⟨w.heap.size + 1, 11, none⟩ = some (.int .i64 m.bk) ∧ w'.cell? ⟨w.heap.size + 1, 12, none⟩ = some (.int .i64 m.rt))) (by kernel_rfl) ?_ (fun hHeld => ?_)
  · exact ⟨b0, b1, b2, b3, b4, b5, b6, b7, b8, b9, b10, b11, b12⟩
  refine wpAnyH_take (i := 0) (oi := { dst := some 20, op := Op.load 30 (Operand.tmp 7), type := 30, pos := "law.go:36", after := #[], guard := none }) (v := ?vq0) rfl (by kernel_rfl) (by kernel_rfl) (by kernel_rfl) (fun _ _ _ h => h) (Or.inl ⟨by rfl, ?hyq0⟩) hHeld ?_
  case hyq0 => (intro w hSw; (try dsimp only at hSw); go_simp; (try with_reducible rfl))
  try simp only [Act.put, List.setIfInBounds_toArray, List.set_cons_zero, List.set_cons_succ]
  refine wpAnyH_take (i := 2) (oi := { dst := some 22, op := Op.fieldAddr 30 (Operand.tmp 7) 0, type := 0, pos := "law.go:36", after := #[], guard := none }) (v := ?vq2) rfl (by kernel_rfl) (by kernel_rfl) (by kernel_rfl) (fun _ _ _ h => h) (Or.inl ⟨by rfl, ?hyq2⟩) hHeld ?_
  case hyq2 => (intro w hSw; (try dsimp only at hSw); go_simp; (try with_reducible rfl))
  try simp only [Act.put, List.setIfInBounds_toArray, List.set_cons_zero, List.set_cons_succ]
  refine wpAnyH_take (i := 3) (oi := { dst := some 23, op := Op.load 3 (Operand.tmp 22), type := 3, pos := "law.go:36", after := #[{ on := 2, ground := Ground.data }], guard := none }) (v := ?vq3) rfl (by kernel_rfl) (by kernel_rfl) (by kernel_rfl) (fun _ _ _ h => h) (Or.inl ⟨by rfl, ?hyq3⟩) hHeld ?_
  case hyq3 => (intro w hSw; (try dsimp only at hSw); go_simp; (try with_reducible rfl))
  try simp only [Act.put, List.setIfInBounds_toArray, List.set_cons_zero, List.set_cons_succ]
  refine wpAnyH_take (i := 4) (oi := { dst := some 24, op := Op.binOp BinOp.eql 3 (Operand.tmp 23) (Operand.const (Value.int IntKind.i64 33)) 3, type := 4, pos := "law.go:36", after := #[{ on := 3, ground := Ground.data }], guard := none }) (v := ?vq4) rfl (by kernel_rfl) (by kernel_rfl) (by kernel_rfl) (fun _ _ _ h => h) (Or.inl ⟨by rfl, ?hyq4⟩) hHeld ?_
  case hyq4 => (intro w hSw; (try dsimp only at hSw); go_simp; (try with_reducible rfl))
  try simp only [Act.put, List.setIfInBounds_toArray, List.set_cons_zero, List.set_cons_succ]
  refine wpAnyH_ready (rs := [1]) (by kernel_rfl) (by simp) ?_
  refine AllReadyH.cons (o := { dst := some 21, op := Op.call { callee := Callee.value (Operand.func 6), args := #[Operand.tmp 20], argTypes := #[30] }, type := 4, pos := "law.go:36", after := #[{ on := 0, ground := Ground.data }], guard := none }) rfl (fun K hK => ?_) AllReadyH.nil
  go_simp
  refine (Wants_c m.l m.p m.bk m.q1 m.q2 m.q3 m.q4 m.m1 m.m2 m.m3 m.m4 m.m5 m.rt _).mono ?_
  rintro e V1 ⟨rfl, hW⟩
  have HB1a := Lib.hid (belowOn HB1.out.drew hW)
  have HX1a := Lib.hid ((show BoxAt W1.drew w.heap.size a b c d from HX1.out).below hW)
  have HM1a : Hid (MuAt V1 (w.heap.size + 1) m) := Lib.hid ((show MuAt W1.drew (w.heap.size + 1) m from HM1.out).below hW)
  clear hW HB1 HX1 HM1 x0 x1 x2 x3 hHeld b0 b1 b2 b3 b4 b5 b6 b7 b8 b9 b10 b11 b12 bf
  obtain ⟨x0, x1, x2, x3⟩ := HX1a.out
  obtain ⟨b0, b1, b2, b3, b4, b5, b6, b7, b8, b9, b10, b11, b12, bf⟩ := HM1a.out.cells
  refine hK.out _ _ ?_ (fun hHeld => ?_)
  · exact ⟨b0, b1, b2, b3, b4, b5, b6, b7, b8, b9, b10, b11, b12⟩
  clear hK K
  try simp only [Act.put, List.setIfInBounds_toArray, List.set_cons_zero, List.set_cons_succ]
  refine wpAnyH_take (i := 5) (oi := { dst := some 25, op := Op.binOp BinOp.neq 4 (Operand.tmp 21) (Operand.tmp 24) 4, type := 4, pos := "law.go:36", after := #[{ on := 1, ground := Ground.data }, { on := 4, ground := Ground.data }], guard := none }) (v := ?vq5) rfl (by kernel_rfl) (by kernel_rfl) (by kernel_rfl) (fun _ _ _ h => h) (Or.inl ⟨by rfl, ?hyq5⟩) hHeld ?_
  case hyq5 => (intro w hSw; (try dsimp only at hSw); go_simp; (try with_reducible rfl))
  try simp only [Act.put, List.setIfInBounds_toArray, List.set_cons_zero, List.set_cons_succ]
  refine wpAnyH_take (i := 6) (oi := { dst := some 26, op := Op.move (Operand.tmp 25), type := 4, pos := "law.go:36", after := #[{ on := 5, ground := Ground.data }, { on := 1, ground := Ground.chain }], guard := none }) (v := ?vq6) rfl (by kernel_rfl) (by kernel_rfl) (by kernel_rfl) (fun _ _ _ h => h) (Or.inl ⟨by rfl, ?hyq6⟩) hHeld ?_
  case hyq6 => (intro w hSw; (try dsimp only at hSw); go_simp; (try with_reducible rfl))
  try simp only [Act.put, List.setIfInBounds_toArray, List.set_cons_zero, List.set_cons_succ]
  refine wpAnyH_take (i := 7) (oi := { dst := some 27, op := Op.load 30 (Operand.tmp 7), type := 30, pos := "law.go:36", after := #[{ on := 6, ground := Ground.guard }], guard := some (6, false) }) (v := ?vq7) rfl (by kernel_rfl) (by kernel_rfl) (by kernel_rfl) (fun _ _ _ h => h) (Or.inl ⟨by rfl, ?hyq7⟩) hHeld ?_
  case hyq7 => (intro w hSw; (try dsimp only at hSw); go_simp; (try with_reducible rfl))
  try simp only [Act.put, List.setIfInBounds_toArray, List.set_cons_zero, List.set_cons_succ]
  refine wpAnyH_take (i := 9) (oi := { dst := some 29, op := Op.load 30 (Operand.tmp 7), type := 30, pos := "law.go:36", after := #[{ on := 6, ground := Ground.guard }], guard := some (6, false) }) (v := ?vq9) rfl (by kernel_rfl) (by kernel_rfl) (by kernel_rfl) (fun _ _ _ h => h) (Or.inl ⟨by rfl, ?hyq9⟩) hHeld ?_
  case hyq9 => (intro w hSw; (try dsimp only at hSw); go_simp; (try with_reducible rfl))
  try simp only [Act.put, List.setIfInBounds_toArray, List.set_cons_zero, List.set_cons_succ]
  refine wpAnyH_ready (rs := [8]) (by kernel_rfl) (by simp) ?_
  refine AllReadyH.cons (o := { dst := some 28, op := Op.call { callee := Callee.value (Operand.func 7), args := #[Operand.tmp 27], argTypes := #[30] }, type := 4, pos := "law.go:36", after := #[{ on := 7, ground := Ground.data }, { on := 6, ground := Ground.chain }, { on := 6, ground := Ground.guard }], guard := some (6, false) }) rfl (fun K hK => ?_) AllReadyH.nil
  go_simp
  refine (Holds_c m.l m.p m.bk m.q1 m.q2 m.q3 m.q4 m.m1 m.m2 m.m3 m.m4 m.m5 m.rt _).mono ?_
  rintro e V2 ⟨rfl, hW⟩
  have HB1b := Lib.hid (belowOn HB1a.out hW)
  have HX1b := Lib.hid ((show BoxAt V1 w.heap.size a b c d from HX1a.out).below hW)
  have HM1b : Hid (MuAt V2 (w.heap.size + 1) m) := Lib.hid ((show MuAt V1 (w.heap.size + 1) m from HM1a.out).below hW)
  clear hW HB1a HX1a HM1a x0 x1 x2 x3 hHeld b0 b1 b2 b3 b4 b5 b6 b7 b8 b9 b10 b11 b12 bf
  obtain ⟨x0, x1, x2, x3⟩ := HX1b.out
  obtain ⟨b0, b1, b2, b3, b4, b5, b6, b7, b8, b9, b10, b11, b12, bf⟩ := HM1b.out.cells
  refine hK.out _ _ ?_ (fun hHeld => ?_)
  · exact ⟨b0, b1, b2, b3, b4, b5, b6, b7, b8, b9, b10, b11, b12⟩
  clear hK K
  try simp only [Act.put, List.setIfInBounds_toArray, List.set_cons_zero, List.set_cons_succ]
  refine wpAnyH_ready (rs := [10]) (by kernel_rfl) (by simp) ?_
  refine AllReadyH.cons (o := { dst := some 30, op := Op.call { callee := Callee.value (Operand.func 8), args := #[Operand.tmp 29], argTypes := #[30] }, type := 4, pos := "law.go:36", after := #[{ on := 9, ground := Ground.data }, { on := 8, ground := Ground.chain }, { on := 6, ground := Ground.guard }], guard := some (6, false) }) rfl (fun K hK => ?_) AllReadyH.nil
  go_simp
  refine (rHolds_c m.l m.p m.bk m.q1 m.q2 m.q3 m.q4 m.m1 m.m2 m.m3 m.m4 m.m5 m.rt _).mono ?_
  rintro e V3 ⟨rfl, hW⟩
  have HB1c := Lib.hid (belowOn HB1b.out hW)
  have HX1c := Lib.hid ((show BoxAt V2 w.heap.size a b c d from HX1b.out).below hW)
  have HM1c : Hid (MuAt V3 (w.heap.size + 1) m) := Lib.hid ((show MuAt V2 (w.heap.size + 1) m from HM1b.out).below hW)
  clear hW HB1b HX1b HM1b x0 x1 x2 x3 hHeld b0 b1 b2 b3 b4 b5 b6 b7 b8 b9 b10 b11 b12 bf
  obtain ⟨x0, x1, x2, x3⟩ := HX1c.out
  obtain ⟨b0, b1, b2, b3, b4, b5, b6, b7, b8, b9, b10, b11, b12, bf⟩ := HM1c.out.cells
  refine hK.out _ _ ?_ (fun hHeld => ?_)
  · exact ⟨b0, b1, b2, b3, b4, b5, b6, b7, b8, b9, b10, b11, b12⟩
  clear hK K
  try simp only [Act.put, List.setIfInBounds_toArray, List.set_cons_zero, List.set_cons_succ]
  refine wpAnyH_take (i := 11) (oi := { dst := some 31, op := Op.binOp BinOp.neq 4 (Operand.tmp 28) (Operand.tmp 30) 4, type := 4, pos := "law.go:36", after := #[{ on := 8, ground := Ground.data }, { on := 10, ground := Ground.data }, { on := 6, ground := Ground.guard }], guard := some (6, false) }) (v := ?vq11) rfl (by kernel_rfl) (by kernel_rfl) (by kernel_rfl) (fun _ _ _ h => h) (Or.inl ⟨by rfl, ?hyq11⟩) hHeld ?_
  case hyq11 => (intro w hSw; (try dsimp only at hSw); go_simp; (try with_reducible rfl))
  try simp only [Act.put, List.setIfInBounds_toArray, List.set_cons_zero, List.set_cons_succ]
  refine wpAnyH_take (i := 12) (oi := { dst := some 32, op := Op.pick (Operand.tmp 26) (Operand.const (Value.bool true)) (Operand.tmp 31), type := 4, pos := "law.go:36", after := #[{ on := 6, ground := Ground.data }, { on := 11, ground := Ground.data }], guard := none }) (v := ?vq12) rfl (by kernel_rfl) (by kernel_rfl) (by kernel_rfl) (fun _ _ _ h => h) (Or.inl ⟨by rfl, ?hyq12⟩) hHeld ?_
  case hyq12 => (intro w hSw; (try dsimp only at hSw); go_simp; (try with_reducible rfl))
  try simp only [Act.put, List.setIfInBounds_toArray, List.set_cons_zero, List.set_cons_succ]
  refine wpAnyH_done (by kernel_rfl) ?_ _
  clear hHeld hbn
  clear b0 b1 b2 b3 b4 b5 b6 b7 b8 b9 b10 b11 b12 bf
  go_wp2_with fail
  refine (Both_any a b c d v0 n c0 f _ (HS.out.below HB1c.out) ⟨HG.out.1, HG.out.2.1.below HB1c.out, HG.out.2.2⟩).mono ?_
  rintro e W2 (⟨_, rfl, hW⟩ | ⟨hok, P, rfl, hT⟩)
  · have HB2 := Lib.hid (belowOn HB1c.out hW)
    have HM2 : Hid (MuAt W2 (w.heap.size + 1) m) := Lib.hid (HM1c.out.below hW)
    clear hW HX1c x0 x1 x2 x3 HM1c HB1c
    obtain ⟨b0, b1, b2, b3, b4, b5, b6, b7, b8, b9, b10, b11, b12, bf⟩ := HM2.out.cells
    go_wp2_with fail
    refine (tStep_nil m.l m.p m.bk m.q1 m.q2 m.q3 m.q4 m.m1 m.m2 m.m3 m.m4 m.m5 m.rt _).mono ?_
    rintro e W3 ⟨rfl, hW⟩
    have HB3 := Lib.hid (belowOn HB2.out hW)
    clear hW HM2 HB2 b0 b1 b2 b3 b4 b5 b6 b7 b8 b9 b10 b11 b12 bf
    go_wp2_with fail
    go_ret
    exact ⟨rfl, below_on HB3.out _⟩
  · have HS1 := Lib.hid (HS.out.below HB1c.out)
    have hu : Dy.U ⟨f, 0, 0, 0, 0, 0⟩ := HG.out.2.2.1
    have hn20 : n ≤ 20000 := by have := hok.2.1.prod; have h1 := hok.2.2; have h2 := hok.2.1; unfold Right at h2; omega
    have hA := tick_c (C := ⟨n, a, b, c, d⟩) (s := ⟨f, 0, 0, 0, 0, 0⟩) hT.hand hu m
    have hR := (fun (s2 : Dy) W (h : Two V3 W P ⟨n, a, b, c, d⟩ s2 ⟨f, 0, 0, 0, 0, 0⟩) => rtick_c (C := ⟨n, a, b, c, d⟩) (s := ⟨f, 0, 0, 0, 0, 0⟩) h.ref h.ltR m)
    generalize hst : tickS ⟨n, a, b, c, d⟩ ⟨f, 0, 0, 0, 0, 0⟩ m = r at *
    obtain ⟨s', m', bo⟩ := r
    dsimp only at hA hR
    have HA := Lib.hid hA; have HR := Lib.hid hR; have HN := Lib.hid hn20
    have HT := Lib.hid hT
    have HM2 : Hid (MuAt W2 (w.heap.size + 1) m) := Lib.hid (HM1c.out.below hT.old)
    have hltm : w.heap.size + 1 < V3.heap.size := HM1c.out.lt
    clear hA hR hn20 hT hst hu HX1c x0 x1 x2 x3 hok HG HS HU
    obtain ⟨b0, b1, b2, b3, b4, b5, b6, b7, b8, b9, b10, b11, b12, bf⟩ := HM2.out.cells
    go_wp2_with fail
    refine HA.out.mono ?_
    rintro e W3 hp
    obtain ⟨rfl, hT⟩ := Two.step HT.out hp
    clear hp
    have HT3 := Lib.hid (hT.below (below_new W3 (.cells #[.int .i64 m'.l, .int .i64 m'.q1, .int .i64 m'.q2, .int .i64 m'.q3, .int .i64 m'.q4, .int .u64 m'.m1, .int .u64 m'.m2, .int .u64 m'.m3, .int .u64 m'.m4, .int .u64 m'.m5, .int .u64 m'.p, .int .i64 m'.bk, .int .i64 m'.rt] 30)))
    have HM3 : Hid (MuAt _ (w.heap.size + 1) m) := Lib.hid (HM1c.out.below HT3.out.old)
    have HN3 : Hid (MuAt (W3.alloc (.cells #[.int .i64 m'.l, .int .i64 m'.q1, .int .i64 m'.q2, .int .i64 m'.q3, .int .i64 m'.q4, .int .u64 m'.m1, .int .u64 m'.m2, .int .u64 m'.m3, .int .u64 m'.m4, .int .u64 m'.m5, .int .u64 m'.p, .int .i64 m'.bk, .int .i64 m'.rt] 30)) W3.heap.size m') := Lib.hid (Mut13.new W3 m'.l m'.p m'.bk m'.q1 m'.q2 m'.q3 m'.q4 m'.m1 m'.m2 m'.m3 m'.m4 m'.m5 m'.rt)
    have HP3 := Lib.hid (hT.apart (Nat.le_refl W3.heap.size))
    clear hT HT HM2 HA b0 b1 b2 b3 b4 b5 b6 b7 b8 b9 b10 b11 b12 bf
    obtain ⟨b0, b1, b2, b3, b4, b5, b6, b7, b8, b9, b10, b11, b12, bf⟩ := HM3.out.cells
    go_wp2_with fail
    refine (HR.out _ _ HT3.out).mono ?_
    rintro e W4 hp
    have hN4 := HN3.out.other (Pl.sav (.inr hp.2.2) HN3.out.lt HP3.out)
    obtain ⟨rfl, hT⟩ := Two.rstep HT3.out hp
    have HT4 := Lib.hid (hT.below (below_new W4 (.cells #[.int .i64 m'.l, .int .i64 m'.q1, .int .i64 m'.q2, .int .i64 m'.q3, .int .i64 m'.q4, .int .u64 m'.m1, .int .u64 m'.m2, .int .u64 m'.m3, .int .u64 m'.m4, .int .u64 m'.m5, .int .u64 m'.p, .int .i64 m'.bk, .int .i64 m'.rt] 30)))
    have HN4 := Lib.hid (hN4.below (below_new W4 (.cells #[.int .i64 m'.l, .int .i64 m'.q1, .int .i64 m'.q2, .int .i64 m'.q3, .int .i64 m'.q4, .int .u64 m'.m1, .int .u64 m'.m2, .int .u64 m'.m3, .int .u64 m'.m4, .int .u64 m'.m5, .int .u64 m'.p, .int .i64 m'.bk, .int .i64 m'.rt] 30)))
    have HO4 : Hid (MuAt (W4.alloc (.cells #[.int .i64 m'.l, .int .i64 m'.q1, .int .i64 m'.q2, .int .i64 m'.q3, .int .i64 m'.q4, .int .u64 m'.m1, .int .u64 m'.m2, .int .u64 m'.m3, .int .u64 m'.m4, .int .u64 m'.m5, .int .u64 m'.p, .int .i64 m'.bk, .int .i64 m'.rt] 30)) W4.heap.size m') := Lib.hid (Mut13.new W4 m'.l m'.p m'.bk m'.q1 m'.q2 m'.q3 m'.q4 m'.m1 m'.m2 m'.m3 m'.m4 m'.m5 m'.rt)
    clear hp hN4 hT HT3 HM3 HN3 HP3 HR b0 b1 b2 b3 b4 b5 b6 b7 b8 b9 b10 b11 b12 bf
    obtain ⟨b0, b1, b2, b3, b4, b5, b6, b7, b8, b9, b10, b11, b12, bf⟩ := HN4.out.cells
    obtain ⟨d0, d1, d2, d3, d4, d5, d6, d7, d8, d9, d10, d11, d12, df⟩ := HO4.out.cells
    have hl4 : W3.heap.size < (W4.alloc (.cells #[.int .i64 m'.l, .int .i64 m'.q1, .int .i64 m'.q2, .int .i64 m'.q3, .int .i64 m'.q4, .int .u64 m'.m1, .int .u64 m'.m2, .int .u64 m'.m3, .int .u64 m'.m4, .int .u64 m'.m5, .int .u64 m'.p, .int .i64 m'.bk, .int .i64 m'.rt] 30)).heap.size := HN4.out.lt
    go_wp2_with fail
    refine (Alike_c HT4.out HN.out).mono ?_
    rintro e W5 ⟨rfl, hT⟩
    have HT5 := Lib.hid hT
    clear hT HT4 HN4 HO4 b0 b1 b2 b3 b4 b5 b6 b7 b8 b9 b10 b11 b12 bf d0 d1 d2 d3 d4 d5 d6 d7 d8 d9 d10 d11 d12 df hl4
    go_wp2_with fail
    go_ret
    exact ⟨rfl, belowOn HB1c.out HT5.out.old⟩
end Go.Proofs.YtglmecdbafceoaaDoor
