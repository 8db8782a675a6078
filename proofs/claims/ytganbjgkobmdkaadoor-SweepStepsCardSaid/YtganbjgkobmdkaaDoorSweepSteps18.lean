/- SweepSteps answers true: a step from any line, over any words, is as the document says, and what it was. -/
import Derived.Test.YtganbjgkobmdkaaDoorSweepAwake
import Derived.Test.YtganbjgkobmdkaaDoorColFar
import Derived.Test.YtganbjgkobmdkaaDoorTwo
namespace Go.Proofs.YtganbjgkobmdkaaDoor
open Go Go.RowKit
set_option maxRecDepth 100000
attribute [local go_sem ↓] Go.wp_at_zero Go.wp_at_succ

set_option maxHeartbeats 6400000 in
theorem sweepSteps_any (a b c d : Int) (v0 : Option Addr) (n c0 : Nat) (f : Nat → Int) (x : Co) (hm : x.U) (q : Int) (w : World) (hS : SpansAt w) (hG : Given w v0 n c0 f) :
    Calls Tryd.prog 3 #[.agg #[.int .i64 a, .int .i64 b, .int .i64 c, .int .i64 d], .slice v0 n c0, x.v, .int .i64 q] w fun e w' => e = .returned (.bool true) ∧ Below w.heap.size w w' := by
  obtain ⟨l, j, xc, m, xa, p, fd, tl, cy⟩ := x
  have HB0 := Lib.hid (below_on (below_new w (.cells #[.int .i64 a, .int .i64 b, .int .i64 c, .int .i64 d] 23)) (.cells #[.int .i64 l, .int .i64 j, .int .i64 xc, .int .i64 m, .int .u64 xa, .int .u64 p, .bool fd, .int .i64 tl, .int .i64 cy] 28))
  have HX0 : Hid (BoxAt ((w.alloc (.cells #[.int .i64 a, .int .i64 b, .int .i64 c, .int .i64 d] 23)).alloc (.cells #[.int .i64 l, .int .i64 j, .int .i64 xc, .int .i64 m, .int .u64 xa, .int .u64 p, .bool fd, .int .i64 tl, .int .i64 cy] 28)) w.heap.size a b c d) := Lib.hid ((BoxAt.new w a b c d 23).below (below_new _ _))
  have HM0 : Hid (Col9 ((w.alloc (.cells #[.int .i64 a, .int .i64 b, .int .i64 c, .int .i64 d] 23)).alloc (.cells #[.int .i64 l, .int .i64 j, .int .i64 xc, .int .i64 m, .int .u64 xa, .int .u64 p, .bool fd, .int .i64 tl, .int .i64 cy] 28)) (w.heap.size + 1) l j xc m xa p fd tl cy) := Lib.hid (by have := Col9.new (w.alloc (.cells #[.int .i64 a, .int .i64 b, .int .i64 c, .int .i64 d] 23)) l j xc m xa p fd tl cy; simpa using this)
  have HS := Lib.hid hS; have HG := Lib.hid hG
  have HU := Lib.hid hm
  clear hS hG hm
  obtain ⟨x0, x1, x2, x3⟩ := HX0.out
  go_enter Tryd.func3, Tryd.ntmps3
  go_wp2_with fail
  refine (awake18_c _ (HS.out.below HB0.out)).mono ?_
  rintro e W1 ⟨rfl, hW⟩
  have HB1 := Lib.hid (belowOn HB0.out hW)
  have HX1 := Lib.hid (HX0.out.below hW)
  have HM1 : Hid (Col9 W1 (w.heap.size + 1) l j xc m xa p fd tl cy) := Lib.hid (HM0.out.below hW)
  clear hW HB0 HX0 HM0 x0 x1 x2 x3
  by_cases h21 : 21 ≤ l
  · by_cases h23 : l ≤ 23
    · by_cases hq : xc = q
      · have d1 : decide (21 ≤ l) = true := decide_eq_true h21
        have d2 : decide (l ≤ 23) = true := decide_eq_true h23
        have d3 : (xc == q) = true := by simpa using hq
        have HSh : Hid (∀ W, Calls Tryd.prog 6 #[(colV l j xc m xa p fd tl cy), .int .i64 q] W fun e w' => e = .returned (.bool true) ∧ Below W.heap.size W w') := Lib.hid (fun W => Holds_in_yes l j xc m xa p fd tl cy q h21 h23 hq W)
        clear h21 h23 hq
        have HB3 := Lib.hid HB1.out.drew; have HX3 : Hid (BoxAt W1.drew w.heap.size a b c d) := Lib.hid HX1.out; have HM3 := Lib.hid (HM1.out.other (w' := W1.drew) rfl)
        obtain ⟨a0, a1, a2, a3, a4, a5, a6, a7, a8, af⟩ := HM1.out.cells
        go_wp2_with fail
        clear HB1 HX1 HM1 a0 a1 a2 a3 a4 a5 a6 a7 a8 af
        obtain ⟨a0, a1, a2, a3, a4, a5, a6, a7, a8, af⟩ := HM3.out.cells
        refine wp_region_held_drew (S := (fun w' => w'.cell? ⟨w.heap.size + 1, 0, none⟩ = some (.int .i64 l) ∧ w'.cell? ⟨w.heap.size + 1, 1, none⟩ = some (.int .i64 j) ∧ w'.cell? ⟨w.heap.size + 1, 2, none⟩ = some (.int .i64 xc) ∧ w'.cell? ⟨w.heap.size + 1, 3, none⟩ = some (.int .i64 m) ∧ w'.cell? ⟨w.heap.size + 1, 4, none⟩ = some (.int .u64 xa) ∧ w'.cell? ⟨w.heap.size + 1, 5, none⟩ = some (.int .u64 p) ∧ w'.cell? ⟨w.heap.size + 1, 6, none⟩ = some (.bool fd) ∧ w'.cell? ⟨w.heap.size + 1, 7, none⟩ = some (.int .i64 tl) ∧ w'.cell? ⟨w.heap.size + 1, 8, none⟩ = some (.int .i64 cy))) (by kernel_rfl) ?_ (fun hHeld => ?_)
        · exact ⟨a0, a1, a2, a3, a4, a5, a6, a7, a8⟩
        refine wpAnyH_take (i := 0) (oi := { dst := some 23, op := Op.load 28 (Operand.tmp 6), type := 28, pos := "law.go:43", after := #[], guard := none }) (v := ?vyw0) rfl (by kernel_rfl) (by kernel_rfl) (by kernel_rfl) (fun _ _ _ h => h) (Or.inl ⟨by rfl, ?hyyw0⟩) hHeld ?_
        case hyyw0 => (intro w hSw; (try dsimp only at hSw); go_simp; (try with_reducible rfl))
        try simp only [Act.put, List.setIfInBounds_toArray, List.set_cons_zero, List.set_cons_succ]
        refine wpAnyH_take (i := 1) (oi := { dst := some 24, op := Op.move (Operand.tmp 3), type := 3, pos := "law.go:43", after := #[], guard := none }) (v := ?vyw1) rfl (by kernel_rfl) (by kernel_rfl) (by kernel_rfl) (fun _ _ _ h => h) (Or.inl ⟨by rfl, ?hyyw1⟩) hHeld ?_
        case hyyw1 => (intro w hSw; (try dsimp only at hSw); go_simp; (try with_reducible rfl))
        try simp only [Act.put, List.setIfInBounds_toArray, List.set_cons_zero, List.set_cons_succ]
        refine wpAnyH_take (i := 3) (oi := { dst := some 26, op := Op.fieldAddr 28 (Operand.tmp 6) 0, type := 0, pos := "law.go:43", after := #[], guard := none }) (v := ?vyw3) rfl (by kernel_rfl) (by kernel_rfl) (by kernel_rfl) (fun _ _ _ h => h) (Or.inl ⟨by rfl, ?hyyw3⟩) hHeld ?_
        case hyyw3 => (intro w hSw; (try dsimp only at hSw); go_simp; (try with_reducible rfl))
        try simp only [Act.put, List.setIfInBounds_toArray, List.set_cons_zero, List.set_cons_succ]
        refine wpAnyH_take (i := 4) (oi := { dst := some 27, op := Op.load 3 (Operand.tmp 26), type := 3, pos := "law.go:43", after := #[{ on := 3, ground := Ground.data }], guard := none }) (v := ?vyw4) rfl (by kernel_rfl) (by kernel_rfl) (by kernel_rfl) (fun _ _ _ h => h) (Or.inl ⟨by rfl, ?hyyw4⟩) hHeld ?_
        case hyyw4 => (intro w hSw; (try dsimp only at hSw); go_simp; (try with_reducible rfl))
        try simp only [Act.put, List.setIfInBounds_toArray, List.set_cons_zero, List.set_cons_succ]
        refine wpAnyH_take (i := 5) (oi := { dst := some 28, op := Op.binOp BinOp.geq 3 (Operand.tmp 27) (Operand.const (Value.int IntKind.i64 21)) 3, type := 4, pos := "law.go:43", after := #[{ on := 4, ground := Ground.data }], guard := none }) (v := ?vyw5) rfl (by kernel_rfl) (by kernel_rfl) (by kernel_rfl) (fun _ _ _ h => h) (Or.inl ⟨by rfl, ?hyyw5⟩) hHeld ?_
        case hyyw5 => (intro w hSw; (try dsimp only at hSw); go_simp; (try with_reducible rfl))
        try simp only [Act.put, List.setIfInBounds_toArray, List.set_cons_zero, List.set_cons_succ]
        refine wpAnyH_ready (rs := [2]) (by kernel_rfl) (by simp) ?_
        refine AllReadyH.cons (o := { dst := some 25, op := Op.call { callee := Callee.value (Operand.func 6), args := #[Operand.tmp 23, Operand.tmp 24], argTypes := #[28, 3] }, type := 4, pos := "law.go:43", after := #[{ on := 0, ground := Ground.data }, { on := 1, ground := Ground.data }], guard := none }) rfl (fun K hK => ?_) AllReadyH.nil
        go_simp
        refine (HSh.out _).mono ?_
        rintro e V3 ⟨rfl, hb⟩
        have HB4 := Lib.hid (belowOn HB3.out hb); have HX4 := Lib.hid (HX3.out.below hb); have HM4 := Lib.hid (HM3.out.below hb)
        clear hb hHeld HB3 HX3 HM3 HSh a0 a1 a2 a3 a4 a5 a6 a7 a8 af
        obtain ⟨a0, a1, a2, a3, a4, a5, a6, a7, a8, af⟩ := HM4.out.cells
        refine hK.out _ _ ?_ (fun hHeld => ?_)
        · exact ⟨a0, a1, a2, a3, a4, a5, a6, a7, a8⟩
        clear hK K
        try simp only [Act.put, List.setIfInBounds_toArray, List.set_cons_zero, List.set_cons_succ]
        refine wpAnyH_take (i := 6) (oi := { dst := some 29, op := Op.move (Operand.tmp 28), type := 4, pos := "law.go:43", after := #[{ on := 5, ground := Ground.data }, { on := 2, ground := Ground.chain }], guard := none }) (v := ?vyw6) rfl (by kernel_rfl) (by kernel_rfl) (by kernel_rfl) (fun _ _ _ h => h) (Or.inl ⟨by rfl, ?hyyw6⟩) hHeld ?_
        case hyyw6 => (intro w hSw; (try dsimp only at hSw); go_simp; (try with_reducible rfl))
        try simp only [Act.put, List.setIfInBounds_toArray, List.set_cons_zero, List.set_cons_succ]
        refine wpAnyH_take (i := 7) (oi := { dst := some 30, op := Op.fieldAddr 28 (Operand.tmp 6) 0, type := 0, pos := "law.go:43", after := #[{ on := 6, ground := Ground.guard }], guard := some (6, true) }) (v := ?vyw7) rfl (by kernel_rfl) (by kernel_rfl) (by kernel_rfl) (fun _ _ _ h => h) (Or.inl ⟨by rfl, ?hyyw7⟩) hHeld ?_
        case hyyw7 => (intro w hSw; (try dsimp only at hSw); go_simp; (try with_reducible rfl))
        try simp only [Act.put, List.setIfInBounds_toArray, List.set_cons_zero, List.set_cons_succ]
        refine wpAnyH_take (i := 8) (oi := { dst := some 31, op := Op.load 3 (Operand.tmp 30), type := 3, pos := "law.go:43", after := #[{ on := 7, ground := Ground.data }, { on := 6, ground := Ground.guard }], guard := some (6, true) }) (v := ?vyw8) rfl (by kernel_rfl) (by kernel_rfl) (by kernel_rfl) (fun _ _ _ h => h) (Or.inl ⟨by rfl, ?hyyw8⟩) hHeld ?_
        case hyyw8 => (intro w hSw; (try dsimp only at hSw); go_simp; (try with_reducible rfl))
        try simp only [Act.put, List.setIfInBounds_toArray, List.set_cons_zero, List.set_cons_succ]
        refine wpAnyH_take (i := 9) (oi := { dst := some 32, op := Op.binOp BinOp.leq 3 (Operand.tmp 31) (Operand.const (Value.int IntKind.i64 23)) 3, type := 4, pos := "law.go:43", after := #[{ on := 8, ground := Ground.data }, { on := 6, ground := Ground.guard }], guard := some (6, true) }) (v := ?vyw9) rfl (by kernel_rfl) (by kernel_rfl) (by kernel_rfl) (fun _ _ _ h => h) (Or.inl ⟨by rfl, ?hyyw9⟩) hHeld ?_
        case hyyw9 => (intro w hSw; (try dsimp only at hSw); go_simp; (try with_reducible rfl))
        try simp only [Act.put, List.setIfInBounds_toArray, List.set_cons_zero, List.set_cons_succ]
        refine wpAnyH_take (i := 10) (oi := { dst := some 33, op := Op.pick (Operand.tmp 29) (Operand.tmp 32) (Operand.const (Value.bool false)), type := 4, pos := "law.go:43", after := #[{ on := 6, ground := Ground.data }, { on := 9, ground := Ground.data }], guard := none }) (v := ?vyw10) rfl (by kernel_rfl) (by kernel_rfl) (by kernel_rfl) (fun _ _ _ h => h) (Or.inl ⟨by rfl, ?hyyw10⟩) hHeld ?_
        case hyyw10 => (intro w hSw; (try dsimp only at hSw); go_simp; (try with_reducible rfl))
        try simp only [Act.put, List.setIfInBounds_toArray, List.set_cons_zero, List.set_cons_succ]
        refine wpAnyH_take (i := 11) (oi := { dst := some 34, op := Op.move (Operand.tmp 33), type := 4, pos := "law.go:43", after := #[{ on := 10, ground := Ground.data }, { on := 6, ground := Ground.chain }], guard := none }) (v := ?vyw11) rfl (by kernel_rfl) (by kernel_rfl) (by kernel_rfl) (fun _ _ _ h => h) (Or.inl ⟨by rfl, ?hyyw11⟩) hHeld ?_
        case hyyw11 => (intro w hSw; (try dsimp only at hSw); go_simp; (try with_reducible rfl))
        try simp only [Act.put, List.setIfInBounds_toArray, List.set_cons_zero, List.set_cons_succ]
        refine wpAnyH_take (i := 12) (oi := { dst := some 35, op := Op.fieldAddr 28 (Operand.tmp 6) 2, type := 0, pos := "law.go:43", after := #[{ on := 11, ground := Ground.guard }], guard := some (11, true) }) (v := ?vyw12) rfl (by kernel_rfl) (by kernel_rfl) (by kernel_rfl) (fun _ _ _ h => h) (Or.inl ⟨by rfl, ?hyyw12⟩) hHeld ?_
        case hyyw12 => (intro w hSw; (try dsimp only at hSw); go_simp; (try with_reducible rfl))
        try simp only [Act.put, List.setIfInBounds_toArray, List.set_cons_zero, List.set_cons_succ]
        refine wpAnyH_take (i := 13) (oi := { dst := some 36, op := Op.load 3 (Operand.tmp 35), type := 3, pos := "law.go:43", after := #[{ on := 12, ground := Ground.data }, { on := 11, ground := Ground.guard }], guard := some (11, true) }) (v := ?vyw13) rfl (by kernel_rfl) (by kernel_rfl) (by kernel_rfl) (fun _ _ _ h => h) (Or.inl ⟨by rfl, ?hyyw13⟩) hHeld ?_
        case hyyw13 => (intro w hSw; (try dsimp only at hSw); go_simp; (try with_reducible rfl))
        try simp only [Act.put, List.setIfInBounds_toArray, List.set_cons_zero, List.set_cons_succ]
        refine wpAnyH_take (i := 14) (oi := { dst := some 37, op := Op.move (Operand.tmp 3), type := 3, pos := "law.go:43", after := #[{ on := 11, ground := Ground.guard }], guard := some (11, true) }) (v := ?vyw14) rfl (by kernel_rfl) (by kernel_rfl) (by kernel_rfl) (fun _ _ _ h => h) (Or.inl ⟨by rfl, ?hyyw14⟩) hHeld ?_
        case hyyw14 => (intro w hSw; (try dsimp only at hSw); go_simp; (try with_reducible rfl))
        try simp only [Act.put, List.setIfInBounds_toArray, List.set_cons_zero, List.set_cons_succ]
        refine wpAnyH_take (i := 15) (oi := { dst := some 38, op := Op.binOp BinOp.eql 3 (Operand.tmp 36) (Operand.tmp 37) 3, type := 4, pos := "law.go:43", after := #[{ on := 13, ground := Ground.data }, { on := 14, ground := Ground.data }, { on := 11, ground := Ground.guard }], guard := some (11, true) }) (v := ?vyw15) rfl (by kernel_rfl) (by kernel_rfl) (by kernel_rfl) (fun _ _ _ h => h) (Or.inl ⟨by rfl, ?hyyw15⟩) hHeld ?_
        case hyyw15 => (intro w hSw; (try dsimp only at hSw); go_simp; (try with_reducible rfl))
        try simp only [Act.put, List.setIfInBounds_toArray, List.set_cons_zero, List.set_cons_succ]
        refine wpAnyH_take (i := 16) (oi := { dst := some 39, op := Op.pick (Operand.tmp 34) (Operand.tmp 38) (Operand.const (Value.bool false)), type := 4, pos := "law.go:43", after := #[{ on := 11, ground := Ground.data }, { on := 15, ground := Ground.data }], guard := none }) (v := ?vyw16) rfl (by kernel_rfl) (by kernel_rfl) (by kernel_rfl) (fun _ _ _ h => h) (Or.inl ⟨by rfl, ?hyyw16⟩) hHeld ?_
        case hyyw16 => (intro w hSw; (try dsimp only at hSw); go_simp; (try with_reducible rfl))
        try simp only [Act.put, List.setIfInBounds_toArray, List.set_cons_zero, List.set_cons_succ]
        refine wpAnyH_take (i := 17) (oi := { dst := some 40, op := Op.binOp BinOp.neq 4 (Operand.tmp 25) (Operand.tmp 39) 4, type := 4, pos := "law.go:43", after := #[{ on := 2, ground := Ground.data }, { on := 16, ground := Ground.data }], guard := none }) (v := ?vyw17) rfl (by kernel_rfl) (by kernel_rfl) (by kernel_rfl) (fun _ _ _ h => h) (Or.inl ⟨by rfl, ?hyyw17⟩) hHeld ?_
        case hyyw17 => (intro w hSw; (try dsimp only at hSw); go_simp; (try with_reducible rfl))
        try simp only [Act.put, List.setIfInBounds_toArray, List.set_cons_zero, List.set_cons_succ]
        refine wpAnyH_done (by kernel_rfl) ?_ _
        clear hHeld d1 d2 d3 a0 a1 a2 a3 a4 a5 a6 a7 a8 af
        have HB1 := HB4; have HX1 := HX4; have HM1 := HM4
        clear HB4 HX4 HM4
        generalize V3 = W1 at *
        obtain ⟨x0, x1, x2, x3⟩ := HX1.out
        go_wp2_with fail
        refine (Both_any a b c d v0 n c0 f _ (HS.out.below HB1.out) ⟨HG.out.1, HG.out.2.1.below HB1.out, HG.out.2.2⟩).mono ?_
        rintro e W2 (⟨_, rfl, hW⟩ | ⟨hok, P, rfl, hT⟩)
        · have HB2 := Lib.hid (belowOn HB1.out hW)
          have HM2 := Lib.hid (HM1.out.below hW)
          clear hW HX1 x0 x1 x2 x3 HM1 HB1
          obtain ⟨b0, b1, b2, b3, b4, b5, b6, b7, b8, bf⟩ := HM2.out.cells
          go_wp2_with fail
          refine (sweepNil_c l j xc m xa p fd tl cy _).mono ?_
          rintro e W9 ⟨rfl, hW⟩
          have HB9 := Lib.hid (belowOn HB2.out hW)
          clear hW HM2 HB2 b0 b1 b2 b3 b4 b5 b6 b7 b8 bf
          go_wp2_with fail
          go_ret
          exact ⟨rfl, below_on HB9.out _⟩
        · have HM2 := Lib.hid (HM1.out.below hT.old)
          obtain ⟨b0, b1, b2, b3, b4, b5, b6, b7, b8, bf⟩ := HM2.out.cells
          have HT := Lib.hid hT
          clear hT x0 x1 x2 x3 HX1
          go_wp2_with fail
          refine (Far_c ⟨l, j, xc, m, xa, p, fd, tl, cy⟩ _).mono ?_
          rintro e W3 ⟨far, rfl, hW, hnr⟩
          have HT3 := Lib.hid (HT.out.below hW)
          have HM3 := Lib.hid (HM2.out.below hW)
          have hold : Below W1.heap.size W1 W3 := HT3.out.old
          clear hW HT HM2 b0 b1 b2 b3 b4 b5 b6 b7 b8 bf
          cases far
          · obtain ⟨nj, nc, nm, nt, ny⟩ := (hnr rfl).all
            clear hnr
            unfold nearN at nj nc nm nt ny
            dsimp only at nj nc nm nt ny
            have HS1 := Lib.hid (HS.out.below HB1.out)
            have hu : Dy.U ⟨f, 0, 0, 0, 0, 0⟩ := HG.out.2.2.1
            have hC : CfOK ⟨n, a, b, c, d⟩ := ⟨hok.2.1, hok.2.2⟩
            have hn20 : n ≤ 20000 := by have := hok.2.1.prod; have h1 := hok.2.2; have h2 := hok.2.1; unfold Right at h2; omega
            have hA := sweep_c (C := ⟨n, a, b, c, d⟩) (s := ⟨f, 0, 0, 0, 0, 0⟩) HT3.out.hand hu (HS1.out.below hold) hok.2.1 hC.pos ⟨l, j, xc, m, xa, p, fd, tl, cy⟩ HU.out (by dsimp only; omega)
            have hR := (fun (s2 : Dy) W (h : Two W1 W P ⟨n, a, b, c, d⟩ s2 ⟨f, 0, 0, 0, 0, 0⟩) => rsweep_c (C := ⟨n, a, b, c, d⟩) (s := ⟨f, 0, 0, 0, 0, 0⟩) h.ref h.ltR hok.2.1 hu ⟨l, j, xc, m, xa, p, fd, tl, cy⟩ HU.out (by dsimp only; omega))
            generalize hst : sweepS ⟨n, a, b, c, d⟩ ⟨f, 0, 0, 0, 0, 0⟩ ⟨l, j, xc, m, xa, p, fd, tl, cy⟩ = r at *
            obtain ⟨s', y, r0, r1⟩ := r
            dsimp only at hA hR
            have HA := Lib.hid hA; have HR := Lib.hid hR; have HN := Lib.hid hn20
            have hltm : w.heap.size + 1 < W1.heap.size := HM1.out.lt
            obtain ⟨b0, b1, b2, b3, b4, b5, b6, b7, b8, bf⟩ := HM3.out.cells
            clear hA hR hn20 hst hu hC hold hok HG HS HU nj nc nm nt ny
            go_wp2_with fail
            refine HA.out.mono ?_
            rintro e W4 hp
            obtain ⟨rfl, hT⟩ := Two.step HT3.out hp
            clear hp
            have HT4 := Lib.hid (hT.below (below_new W4 (.cells #[.int .i64 y.l, .int .i64 y.j, .int .i64 y.c, .int .i64 y.m, .int .u64 y.a, .int .u64 y.p, .bool y.fd, .int .i64 y.tl, .int .i64 y.cy] 28)))
            have HM4 : Hid (Col9 _ (w.heap.size + 1) l j xc m xa p fd tl cy) := Lib.hid (HM1.out.below HT4.out.old)
            have HN4 := Lib.hid (Col9.new W4 y.l y.j y.c y.m y.a y.p y.fd y.tl y.cy)
            have HP4 := Lib.hid (hT.apart (Nat.le_refl W4.heap.size))
            clear hT HT3 HM3 HA b0 b1 b2 b3 b4 b5 b6 b7 b8 bf
            obtain ⟨b0, b1, b2, b3, b4, b5, b6, b7, b8, bf⟩ := HM4.out.cells
            go_wp2_with fail
            refine (HR.out _ _ HT4.out).mono ?_
            rintro e W5 hp
            have hN5 := HN4.out.other (Pl.sav (.inr hp.2.2) HN4.out.lt HP4.out)
            obtain ⟨rfl, hT⟩ := Two.rstep HT4.out hp
            have HT5 := Lib.hid (hT.below (below_new W5 (.cells #[.int .i64 y.l, .int .i64 y.j, .int .i64 y.c, .int .i64 y.m, .int .u64 y.a, .int .u64 y.p, .bool y.fd, .int .i64 y.tl, .int .i64 y.cy] 28)))
            have HN5 := Lib.hid (hN5.below (below_new W5 (.cells #[.int .i64 y.l, .int .i64 y.j, .int .i64 y.c, .int .i64 y.m, .int .u64 y.a, .int .u64 y.p, .bool y.fd, .int .i64 y.tl, .int .i64 y.cy] 28)))
            have HO5 := Lib.hid (Col9.new W5 y.l y.j y.c y.m y.a y.p y.fd y.tl y.cy)
            clear hp hN5 hT HT4 HM4 HN4 HP4 HR b0 b1 b2 b3 b4 b5 b6 b7 b8 bf
            obtain ⟨b0, b1, b2, b3, b4, b5, b6, b7, b8, bf⟩ := HN5.out.cells
            obtain ⟨d0, d1, d2, d3, d4, d5, d6, d7, d8, df⟩ := HO5.out.cells
            have hl5 : W4.heap.size < (W5.alloc (.cells #[.int .i64 y.l, .int .i64 y.j, .int .i64 y.c, .int .i64 y.m, .int .u64 y.a, .int .u64 y.p, .bool y.fd, .int .i64 y.tl, .int .i64 y.cy] 28)).heap.size := HN5.out.lt
            go_wp2_with fail
            refine (Alike_c HT5.out HN.out).mono ?_
            rintro e W6 ⟨rfl, hT⟩
            have HT6 := Lib.hid hT
            clear hT HT5 HN5 HO5 b0 b1 b2 b3 b4 b5 b6 b7 b8 bf d0 d1 d2 d3 d4 d5 d6 d7 d8 df hl5
            go_wp2_with fail
            go_ret
            exact ⟨rfl, belowOn HB1.out HT6.out.old⟩
          · have HB3 := Lib.hid (belowOn HB1.out hold)
            clear HT3 hold HB1 hnr HM1
            obtain ⟨b0, b1, b2, b3, b4, b5, b6, b7, b8, bf⟩ := HM3.out.cells
            go_wp2_with fail
            refine (sweepNil_c l j xc m xa p fd tl cy _).mono ?_
            rintro e W9 ⟨rfl, hW⟩
            have HB9 := Lib.hid (belowOn HB3.out hW)
            clear hW HM3 HB3 b0 b1 b2 b3 b4 b5 b6 b7 b8 bf
            go_wp2_with fail
            go_ret
            exact ⟨rfl, below_on HB9.out _⟩
      · have d1 : decide (21 ≤ l) = true := decide_eq_true h21
        have d2 : decide (l ≤ 23) = true := decide_eq_true h23
        have d3 : (xc == q) = false := by simpa using hq
        have HSh : Hid (∀ W, Calls Tryd.prog 6 #[(colV l j xc m xa p fd tl cy), .int .i64 q] W fun e w' => e = .returned (.bool false) ∧ Below W.heap.size W w') := Lib.hid (fun W => Holds_in_no l j xc m xa p fd tl cy q h21 h23 hq W)
        clear h21 h23 hq
        have HB3 := Lib.hid HB1.out.drew; have HX3 : Hid (BoxAt W1.drew w.heap.size a b c d) := Lib.hid HX1.out; have HM3 := Lib.hid (HM1.out.other (w' := W1.drew) rfl)
        obtain ⟨a0, a1, a2, a3, a4, a5, a6, a7, a8, af⟩ := HM1.out.cells
        go_wp2_with fail
        clear HB1 HX1 HM1 a0 a1 a2 a3 a4 a5 a6 a7 a8 af
        obtain ⟨a0, a1, a2, a3, a4, a5, a6, a7, a8, af⟩ := HM3.out.cells
        refine wp_region_held_drew (S := (fun w' => w'.cell? ⟨w.heap.size + 1, 0, none⟩ = some (.int .i64 l) ∧ w'.cell? ⟨w.heap.size + 1, 1, none⟩ = some (.int .i64 j) ∧ w'.cell? ⟨w.heap.size + 1, 2, none⟩ = some (.int .i64 xc) ∧ w'.cell? ⟨w.heap.size + 1, 3, none⟩ = some (.int .i64 m) ∧ w'.cell? ⟨w.heap.size + 1, 4, none⟩ = some (.int .u64 xa) ∧ w'.cell? ⟨w.heap.size + 1, 5, none⟩ = some (.int .u64 p) ∧ w'.cell? ⟨w.heap.size + 1, 6, none⟩ = some (.bool fd) ∧ w'.cell? ⟨w.heap.size + 1, 7, none⟩ = some (.int .i64 tl) ∧ w'.cell? ⟨w.heap.size + 1, 8, none⟩ = some (.int .i64 cy))) (by kernel_rfl) ?_ (fun hHeld => ?_)
        · exact ⟨a0, a1, a2, a3, a4, a5, a6, a7, a8⟩
        refine wpAnyH_take (i := 0) (oi := { dst := some 23, op := Op.load 28 (Operand.tmp 6), type := 28, pos := "law.go:43", after := #[], guard := none }) (v := ?vnw0) rfl (by kernel_rfl) (by kernel_rfl) (by kernel_rfl) (fun _ _ _ h => h) (Or.inl ⟨by rfl, ?hynw0⟩) hHeld ?_
        case hynw0 => (intro w hSw; (try dsimp only at hSw); go_simp; (try with_reducible rfl))
        try simp only [Act.put, List.setIfInBounds_toArray, List.set_cons_zero, List.set_cons_succ]
        refine wpAnyH_take (i := 1) (oi := { dst := some 24, op := Op.move (Operand.tmp 3), type := 3, pos := "law.go:43", after := #[], guard := none }) (v := ?vnw1) rfl (by kernel_rfl) (by kernel_rfl) (by kernel_rfl) (fun _ _ _ h => h) (Or.inl ⟨by rfl, ?hynw1⟩) hHeld ?_
        case hynw1 => (intro w hSw; (try dsimp only at hSw); go_simp; (try with_reducible rfl))
        try simp only [Act.put, List.setIfInBounds_toArray, List.set_cons_zero, List.set_cons_succ]
        refine wpAnyH_take (i := 3) (oi := { dst := some 26, op := Op.fieldAddr 28 (Operand.tmp 6) 0, type := 0, pos := "law.go:43", after := #[], guard := none }) (v := ?vnw3) rfl (by kernel_rfl) (by kernel_rfl) (by kernel_rfl) (fun _ _ _ h => h) (Or.inl ⟨by rfl, ?hynw3⟩) hHeld ?_
        case hynw3 => (intro w hSw; (try dsimp only at hSw); go_simp; (try with_reducible rfl))
        try simp only [Act.put, List.setIfInBounds_toArray, List.set_cons_zero, List.set_cons_succ]
        refine wpAnyH_take (i := 4) (oi := { dst := some 27, op := Op.load 3 (Operand.tmp 26), type := 3, pos := "law.go:43", after := #[{ on := 3, ground := Ground.data }], guard := none }) (v := ?vnw4) rfl (by kernel_rfl) (by kernel_rfl) (by kernel_rfl) (fun _ _ _ h => h) (Or.inl ⟨by rfl, ?hynw4⟩) hHeld ?_
        case hynw4 => (intro w hSw; (try dsimp only at hSw); go_simp; (try with_reducible rfl))
        try simp only [Act.put, List.setIfInBounds_toArray, List.set_cons_zero, List.set_cons_succ]
        refine wpAnyH_take (i := 5) (oi := { dst := some 28, op := Op.binOp BinOp.geq 3 (Operand.tmp 27) (Operand.const (Value.int IntKind.i64 21)) 3, type := 4, pos := "law.go:43", after := #[{ on := 4, ground := Ground.data }], guard := none }) (v := ?vnw5) rfl (by kernel_rfl) (by kernel_rfl) (by kernel_rfl) (fun _ _ _ h => h) (Or.inl ⟨by rfl, ?hynw5⟩) hHeld ?_
        case hynw5 => (intro w hSw; (try dsimp only at hSw); go_simp; (try with_reducible rfl))
        try simp only [Act.put, List.setIfInBounds_toArray, List.set_cons_zero, List.set_cons_succ]
        refine wpAnyH_ready (rs := [2]) (by kernel_rfl) (by simp) ?_
        refine AllReadyH.cons (o := { dst := some 25, op := Op.call { callee := Callee.value (Operand.func 6), args := #[Operand.tmp 23, Operand.tmp 24], argTypes := #[28, 3] }, type := 4, pos := "law.go:43", after := #[{ on := 0, ground := Ground.data }, { on := 1, ground := Ground.data }], guard := none }) rfl (fun K hK => ?_) AllReadyH.nil
        go_simp
        refine (HSh.out _).mono ?_
        rintro e V3 ⟨rfl, hb⟩
        have HB4 := Lib.hid (belowOn HB3.out hb); have HX4 := Lib.hid (HX3.out.below hb); have HM4 := Lib.hid (HM3.out.below hb)
        clear hb hHeld HB3 HX3 HM3 HSh a0 a1 a2 a3 a4 a5 a6 a7 a8 af
        obtain ⟨a0, a1, a2, a3, a4, a5, a6, a7, a8, af⟩ := HM4.out.cells
        refine hK.out _ _ ?_ (fun hHeld => ?_)
        · exact ⟨a0, a1, a2, a3, a4, a5, a6, a7, a8⟩
        clear hK K
        try simp only [Act.put, List.setIfInBounds_toArray, List.set_cons_zero, List.set_cons_succ]
        refine wpAnyH_take (i := 6) (oi := { dst := some 29, op := Op.move (Operand.tmp 28), type := 4, pos := "law.go:43", after := #[{ on := 5, ground := Ground.data }, { on := 2, ground := Ground.chain }], guard := none }) (v := ?vnw6) rfl (by kernel_rfl) (by kernel_rfl) (by kernel_rfl) (fun _ _ _ h => h) (Or.inl ⟨by rfl, ?hynw6⟩) hHeld ?_
        case hynw6 => (intro w hSw; (try dsimp only at hSw); go_simp; (try with_reducible rfl))
        try simp only [Act.put, List.setIfInBounds_toArray, List.set_cons_zero, List.set_cons_succ]
        refine wpAnyH_take (i := 7) (oi := { dst := some 30, op := Op.fieldAddr 28 (Operand.tmp 6) 0, type := 0, pos := "law.go:43", after := #[{ on := 6, ground := Ground.guard }], guard := some (6, true) }) (v := ?vnw7) rfl (by kernel_rfl) (by kernel_rfl) (by kernel_rfl) (fun _ _ _ h => h) (Or.inl ⟨by rfl, ?hynw7⟩) hHeld ?_
        case hynw7 => (intro w hSw; (try dsimp only at hSw); go_simp; (try with_reducible rfl))
        try simp only [Act.put, List.setIfInBounds_toArray, List.set_cons_zero, List.set_cons_succ]
        refine wpAnyH_take (i := 8) (oi := { dst := some 31, op := Op.load 3 (Operand.tmp 30), type := 3, pos := "law.go:43", after := #[{ on := 7, ground := Ground.data }, { on := 6, ground := Ground.guard }], guard := some (6, true) }) (v := ?vnw8) rfl (by kernel_rfl) (by kernel_rfl) (by kernel_rfl) (fun _ _ _ h => h) (Or.inl ⟨by rfl, ?hynw8⟩) hHeld ?_
        case hynw8 => (intro w hSw; (try dsimp only at hSw); go_simp; (try with_reducible rfl))
        try simp only [Act.put, List.setIfInBounds_toArray, List.set_cons_zero, List.set_cons_succ]
        refine wpAnyH_take (i := 9) (oi := { dst := some 32, op := Op.binOp BinOp.leq 3 (Operand.tmp 31) (Operand.const (Value.int IntKind.i64 23)) 3, type := 4, pos := "law.go:43", after := #[{ on := 8, ground := Ground.data }, { on := 6, ground := Ground.guard }], guard := some (6, true) }) (v := ?vnw9) rfl (by kernel_rfl) (by kernel_rfl) (by kernel_rfl) (fun _ _ _ h => h) (Or.inl ⟨by rfl, ?hynw9⟩) hHeld ?_
        case hynw9 => (intro w hSw; (try dsimp only at hSw); go_simp; (try with_reducible rfl))
        try simp only [Act.put, List.setIfInBounds_toArray, List.set_cons_zero, List.set_cons_succ]
        refine wpAnyH_take (i := 10) (oi := { dst := some 33, op := Op.pick (Operand.tmp 29) (Operand.tmp 32) (Operand.const (Value.bool false)), type := 4, pos := "law.go:43", after := #[{ on := 6, ground := Ground.data }, { on := 9, ground := Ground.data }], guard := none }) (v := ?vnw10) rfl (by kernel_rfl) (by kernel_rfl) (by kernel_rfl) (fun _ _ _ h => h) (Or.inl ⟨by rfl, ?hynw10⟩) hHeld ?_
        case hynw10 => (intro w hSw; (try dsimp only at hSw); go_simp; (try with_reducible rfl))
        try simp only [Act.put, List.setIfInBounds_toArray, List.set_cons_zero, List.set_cons_succ]
        refine wpAnyH_take (i := 11) (oi := { dst := some 34, op := Op.move (Operand.tmp 33), type := 4, pos := "law.go:43", after := #[{ on := 10, ground := Ground.data }, { on := 6, ground := Ground.chain }], guard := none }) (v := ?vnw11) rfl (by kernel_rfl) (by kernel_rfl) (by kernel_rfl) (fun _ _ _ h => h) (Or.inl ⟨by rfl, ?hynw11⟩) hHeld ?_
        case hynw11 => (intro w hSw; (try dsimp only at hSw); go_simp; (try with_reducible rfl))
        try simp only [Act.put, List.setIfInBounds_toArray, List.set_cons_zero, List.set_cons_succ]
        refine wpAnyH_take (i := 12) (oi := { dst := some 35, op := Op.fieldAddr 28 (Operand.tmp 6) 2, type := 0, pos := "law.go:43", after := #[{ on := 11, ground := Ground.guard }], guard := some (11, true) }) (v := ?vnw12) rfl (by kernel_rfl) (by kernel_rfl) (by kernel_rfl) (fun _ _ _ h => h) (Or.inl ⟨by rfl, ?hynw12⟩) hHeld ?_
        case hynw12 => (intro w hSw; (try dsimp only at hSw); go_simp; (try with_reducible rfl))
        try simp only [Act.put, List.setIfInBounds_toArray, List.set_cons_zero, List.set_cons_succ]
        refine wpAnyH_take (i := 13) (oi := { dst := some 36, op := Op.load 3 (Operand.tmp 35), type := 3, pos := "law.go:43", after := #[{ on := 12, ground := Ground.data }, { on := 11, ground := Ground.guard }], guard := some (11, true) }) (v := ?vnw13) rfl (by kernel_rfl) (by kernel_rfl) (by kernel_rfl) (fun _ _ _ h => h) (Or.inl ⟨by rfl, ?hynw13⟩) hHeld ?_
        case hynw13 => (intro w hSw; (try dsimp only at hSw); go_simp; (try with_reducible rfl))
        try simp only [Act.put, List.setIfInBounds_toArray, List.set_cons_zero, List.set_cons_succ]
        refine wpAnyH_take (i := 14) (oi := { dst := some 37, op := Op.move (Operand.tmp 3), type := 3, pos := "law.go:43", after := #[{ on := 11, ground := Ground.guard }], guard := some (11, true) }) (v := ?vnw14) rfl (by kernel_rfl) (by kernel_rfl) (by kernel_rfl) (fun _ _ _ h => h) (Or.inl ⟨by rfl, ?hynw14⟩) hHeld ?_
        case hynw14 => (intro w hSw; (try dsimp only at hSw); go_simp; (try with_reducible rfl))
        try simp only [Act.put, List.setIfInBounds_toArray, List.set_cons_zero, List.set_cons_succ]
        refine wpAnyH_take (i := 15) (oi := { dst := some 38, op := Op.binOp BinOp.eql 3 (Operand.tmp 36) (Operand.tmp 37) 3, type := 4, pos := "law.go:43", after := #[{ on := 13, ground := Ground.data }, { on := 14, ground := Ground.data }, { on := 11, ground := Ground.guard }], guard := some (11, true) }) (v := ?vnw15) rfl (by kernel_rfl) (by kernel_rfl) (by kernel_rfl) (fun _ _ _ h => h) (Or.inl ⟨by rfl, ?hynw15⟩) hHeld ?_
        case hynw15 => (intro w hSw; (try dsimp only at hSw); go_simp; (try with_reducible rfl))
        try simp only [Act.put, List.setIfInBounds_toArray, List.set_cons_zero, List.set_cons_succ]
        refine wpAnyH_take (i := 16) (oi := { dst := some 39, op := Op.pick (Operand.tmp 34) (Operand.tmp 38) (Operand.const (Value.bool false)), type := 4, pos := "law.go:43", after := #[{ on := 11, ground := Ground.data }, { on := 15, ground := Ground.data }], guard := none }) (v := ?vnw16) rfl (by kernel_rfl) (by kernel_rfl) (by kernel_rfl) (fun _ _ _ h => h) (Or.inl ⟨by rfl, ?hynw16⟩) hHeld ?_
        case hynw16 => (intro w hSw; (try dsimp only at hSw); go_simp; (try with_reducible rfl))
        try simp only [Act.put, List.setIfInBounds_toArray, List.set_cons_zero, List.set_cons_succ]
        refine wpAnyH_take (i := 17) (oi := { dst := some 40, op := Op.binOp BinOp.neq 4 (Operand.tmp 25) (Operand.tmp 39) 4, type := 4, pos := "law.go:43", after := #[{ on := 2, ground := Ground.data }, { on := 16, ground := Ground.data }], guard := none }) (v := ?vnw17) rfl (by kernel_rfl) (by kernel_rfl) (by kernel_rfl) (fun _ _ _ h => h) (Or.inl ⟨by rfl, ?hynw17⟩) hHeld ?_
        case hynw17 => (intro w hSw; (try dsimp only at hSw); go_simp; (try with_reducible rfl))
        try simp only [Act.put, List.setIfInBounds_toArray, List.set_cons_zero, List.set_cons_succ]
        refine wpAnyH_done (by kernel_rfl) ?_ _
        clear hHeld d1 d2 d3 a0 a1 a2 a3 a4 a5 a6 a7 a8 af
        have HB1 := HB4; have HX1 := HX4; have HM1 := HM4
        clear HB4 HX4 HM4
        generalize V3 = W1 at *
        obtain ⟨x0, x1, x2, x3⟩ := HX1.out
        go_wp2_with fail
        refine (Both_any a b c d v0 n c0 f _ (HS.out.below HB1.out) ⟨HG.out.1, HG.out.2.1.below HB1.out, HG.out.2.2⟩).mono ?_
        rintro e W2 (⟨_, rfl, hW⟩ | ⟨hok, P, rfl, hT⟩)
        · have HB2 := Lib.hid (belowOn HB1.out hW)
          have HM2 := Lib.hid (HM1.out.below hW)
          clear hW HX1 x0 x1 x2 x3 HM1 HB1
          obtain ⟨b0, b1, b2, b3, b4, b5, b6, b7, b8, bf⟩ := HM2.out.cells
          go_wp2_with fail
          refine (sweepNil_c l j xc m xa p fd tl cy _).mono ?_
          rintro e W9 ⟨rfl, hW⟩
          have HB9 := Lib.hid (belowOn HB2.out hW)
          clear hW HM2 HB2 b0 b1 b2 b3 b4 b5 b6 b7 b8 bf
          go_wp2_with fail
          go_ret
          exact ⟨rfl, below_on HB9.out _⟩
        · have HM2 := Lib.hid (HM1.out.below hT.old)
          obtain ⟨b0, b1, b2, b3, b4, b5, b6, b7, b8, bf⟩ := HM2.out.cells
          have HT := Lib.hid hT
          clear hT x0 x1 x2 x3 HX1
          go_wp2_with fail
          refine (Far_c ⟨l, j, xc, m, xa, p, fd, tl, cy⟩ _).mono ?_
          rintro e W3 ⟨far, rfl, hW, hnr⟩
          have HT3 := Lib.hid (HT.out.below hW)
          have HM3 := Lib.hid (HM2.out.below hW)
          have hold : Below W1.heap.size W1 W3 := HT3.out.old
          clear hW HT HM2 b0 b1 b2 b3 b4 b5 b6 b7 b8 bf
          cases far
          · obtain ⟨nj, nc, nm, nt, ny⟩ := (hnr rfl).all
            clear hnr
            unfold nearN at nj nc nm nt ny
            dsimp only at nj nc nm nt ny
            have HS1 := Lib.hid (HS.out.below HB1.out)
            have hu : Dy.U ⟨f, 0, 0, 0, 0, 0⟩ := HG.out.2.2.1
            have hC : CfOK ⟨n, a, b, c, d⟩ := ⟨hok.2.1, hok.2.2⟩
            have hn20 : n ≤ 20000 := by have := hok.2.1.prod; have h1 := hok.2.2; have h2 := hok.2.1; unfold Right at h2; omega
            have hA := sweep_c (C := ⟨n, a, b, c, d⟩) (s := ⟨f, 0, 0, 0, 0, 0⟩) HT3.out.hand hu (HS1.out.below hold) hok.2.1 hC.pos ⟨l, j, xc, m, xa, p, fd, tl, cy⟩ HU.out (by dsimp only; omega)
            have hR := (fun (s2 : Dy) W (h : Two W1 W P ⟨n, a, b, c, d⟩ s2 ⟨f, 0, 0, 0, 0, 0⟩) => rsweep_c (C := ⟨n, a, b, c, d⟩) (s := ⟨f, 0, 0, 0, 0, 0⟩) h.ref h.ltR hok.2.1 hu ⟨l, j, xc, m, xa, p, fd, tl, cy⟩ HU.out (by dsimp only; omega))
            generalize hst : sweepS ⟨n, a, b, c, d⟩ ⟨f, 0, 0, 0, 0, 0⟩ ⟨l, j, xc, m, xa, p, fd, tl, cy⟩ = r at *
            obtain ⟨s', y, r0, r1⟩ := r
            dsimp only at hA hR
            have HA := Lib.hid hA; have HR := Lib.hid hR; have HN := Lib.hid hn20
            have hltm : w.heap.size + 1 < W1.heap.size := HM1.out.lt
            obtain ⟨b0, b1, b2, b3, b4, b5, b6, b7, b8, bf⟩ := HM3.out.cells
            clear hA hR hn20 hst hu hC hold hok HG HS HU nj nc nm nt ny
            go_wp2_with fail
            refine HA.out.mono ?_
            rintro e W4 hp
            obtain ⟨rfl, hT⟩ := Two.step HT3.out hp
            clear hp
            have HT4 := Lib.hid (hT.below (below_new W4 (.cells #[.int .i64 y.l, .int .i64 y.j, .int .i64 y.c, .int .i64 y.m, .int .u64 y.a, .int .u64 y.p, .bool y.fd, .int .i64 y.tl, .int .i64 y.cy] 28)))
            have HM4 : Hid (Col9 _ (w.heap.size + 1) l j xc m xa p fd tl cy) := Lib.hid (HM1.out.below HT4.out.old)
            have HN4 := Lib.hid (Col9.new W4 y.l y.j y.c y.m y.a y.p y.fd y.tl y.cy)
            have HP4 := Lib.hid (hT.apart (Nat.le_refl W4.heap.size))
            clear hT HT3 HM3 HA b0 b1 b2 b3 b4 b5 b6 b7 b8 bf
            obtain ⟨b0, b1, b2, b3, b4, b5, b6, b7, b8, bf⟩ := HM4.out.cells
            go_wp2_with fail
            refine (HR.out _ _ HT4.out).mono ?_
            rintro e W5 hp
            have hN5 := HN4.out.other (Pl.sav (.inr hp.2.2) HN4.out.lt HP4.out)
            obtain ⟨rfl, hT⟩ := Two.rstep HT4.out hp
            have HT5 := Lib.hid (hT.below (below_new W5 (.cells #[.int .i64 y.l, .int .i64 y.j, .int .i64 y.c, .int .i64 y.m, .int .u64 y.a, .int .u64 y.p, .bool y.fd, .int .i64 y.tl, .int .i64 y.cy] 28)))
            have HN5 := Lib.hid (hN5.below (below_new W5 (.cells #[.int .i64 y.l, .int .i64 y.j, .int .i64 y.c, .int .i64 y.m, .int .u64 y.a, .int .u64 y.p, .bool y.fd, .int .i64 y.tl, .int .i64 y.cy] 28)))
            have HO5 := Lib.hid (Col9.new W5 y.l y.j y.c y.m y.a y.p y.fd y.tl y.cy)
            clear hp hN5 hT HT4 HM4 HN4 HP4 HR b0 b1 b2 b3 b4 b5 b6 b7 b8 bf
            obtain ⟨b0, b1, b2, b3, b4, b5, b6, b7, b8, bf⟩ := HN5.out.cells
            obtain ⟨d0, d1, d2, d3, d4, d5, d6, d7, d8, df⟩ := HO5.out.cells
            have hl5 : W4.heap.size < (W5.alloc (.cells #[.int .i64 y.l, .int .i64 y.j, .int .i64 y.c, .int .i64 y.m, .int .u64 y.a, .int .u64 y.p, .bool y.fd, .int .i64 y.tl, .int .i64 y.cy] 28)).heap.size := HN5.out.lt
            go_wp2_with fail
            refine (Alike_c HT5.out HN.out).mono ?_
            rintro e W6 ⟨rfl, hT⟩
            have HT6 := Lib.hid hT
            clear hT HT5 HN5 HO5 b0 b1 b2 b3 b4 b5 b6 b7 b8 bf d0 d1 d2 d3 d4 d5 d6 d7 d8 df hl5
            go_wp2_with fail
            go_ret
            exact ⟨rfl, belowOn HB1.out HT6.out.old⟩
          · have HB3 := Lib.hid (belowOn HB1.out hold)
            clear HT3 hold HB1 hnr HM1
            obtain ⟨b0, b1, b2, b3, b4, b5, b6, b7, b8, bf⟩ := HM3.out.cells
            go_wp2_with fail
            refine (sweepNil_c l j xc m xa p fd tl cy _).mono ?_
            rintro e W9 ⟨rfl, hW⟩
            have HB9 := Lib.hid (belowOn HB3.out hW)
            clear hW HM3 HB3 b0 b1 b2 b3 b4 b5 b6 b7 b8 bf
            go_wp2_with fail
            go_ret
            exact ⟨rfl, below_on HB9.out _⟩
    · have d1 : decide (21 ≤ l) = true := decide_eq_true h21
      have d2 : decide (l ≤ 23) = false := decide_eq_false h23
      have HSh : Hid (∀ W, Calls Tryd.prog 6 #[(colV l j xc m xa p fd tl cy), .int .i64 q] W fun e w' => e = .returned (.bool false) ∧ Below W.heap.size W w') := Lib.hid (fun W => Holds_out l j xc m xa p fd tl cy q (by omega) W)
      clear h21 h23
      have HB3 := Lib.hid HB1.out.drew; have HX3 : Hid (BoxAt W1.drew w.heap.size a b c d) := Lib.hid HX1.out; have HM3 := Lib.hid (HM1.out.other (w' := W1.drew) rfl)
      obtain ⟨a0, a1, a2, a3, a4, a5, a6, a7, a8, af⟩ := HM1.out.cells
      go_wp2_with fail
      clear HB1 HX1 HM1 a0 a1 a2 a3 a4 a5 a6 a7 a8 af
      obtain ⟨a0, a1, a2, a3, a4, a5, a6, a7, a8, af⟩ := HM3.out.cells
      refine wp_region_held_drew (S := (fun w' => w'.cell? ⟨w.heap.size + 1, 0, none⟩ = some (.int .i64 l) ∧ w'.cell? ⟨w.heap.size + 1, 1, none⟩ = some (.int .i64 j) ∧ w'.cell? ⟨w.heap.size + 1, 2, none⟩ = some (.int .i64 xc) ∧ w'.cell? ⟨w.heap.size + 1, 3, none⟩ = some (.int .i64 m) ∧ w'.cell? ⟨w.heap.size + 1, 4, none⟩ = some (.int .u64 xa) ∧ w'.cell? ⟨w.heap.size + 1, 5, none⟩ = some (.int .u64 p) ∧ w'.cell? ⟨w.heap.size + 1, 6, none⟩ = some (.bool fd) ∧ w'.cell? ⟨w.heap.size + 1, 7, none⟩ = some (.int .i64 tl) ∧ w'.cell? ⟨w.heap.size + 1, 8, none⟩ = some (.int .i64 cy))) (by kernel_rfl) ?_ (fun hHeld => ?_)
      · exact ⟨a0, a1, a2, a3, a4, a5, a6, a7, a8⟩
      refine wpAnyH_take (i := 0) (oi := { dst := some 23, op := Op.load 28 (Operand.tmp 6), type := 28, pos := "law.go:43", after := #[], guard := none }) (v := ?vdw0) rfl (by kernel_rfl) (by kernel_rfl) (by kernel_rfl) (fun _ _ _ h => h) (Or.inl ⟨by rfl, ?hydw0⟩) hHeld ?_
      case hydw0 => (intro w hSw; (try dsimp only at hSw); go_simp; (try with_reducible rfl))
      try simp only [Act.put, List.setIfInBounds_toArray, List.set_cons_zero, List.set_cons_succ]
      refine wpAnyH_take (i := 1) (oi := { dst := some 24, op := Op.move (Operand.tmp 3), type := 3, pos := "law.go:43", after := #[], guard := none }) (v := ?vdw1) rfl (by kernel_rfl) (by kernel_rfl) (by kernel_rfl) (fun _ _ _ h => h) (Or.inl ⟨by rfl, ?hydw1⟩) hHeld ?_
      case hydw1 => (intro w hSw; (try dsimp only at hSw); go_simp; (try with_reducible rfl))
      try simp only [Act.put, List.setIfInBounds_toArray, List.set_cons_zero, List.set_cons_succ]
      refine wpAnyH_take (i := 3) (oi := { dst := some 26, op := Op.fieldAddr 28 (Operand.tmp 6) 0, type := 0, pos := "law.go:43", after := #[], guard := none }) (v := ?vdw3) rfl (by kernel_rfl) (by kernel_rfl) (by kernel_rfl) (fun _ _ _ h => h) (Or.inl ⟨by rfl, ?hydw3⟩) hHeld ?_
      case hydw3 => (intro w hSw; (try dsimp only at hSw); go_simp; (try with_reducible rfl))
      try simp only [Act.put, List.setIfInBounds_toArray, List.set_cons_zero, List.set_cons_succ]
      refine wpAnyH_take (i := 4) (oi := { dst := some 27, op := Op.load 3 (Operand.tmp 26), type := 3, pos := "law.go:43", after := #[{ on := 3, ground := Ground.data }], guard := none }) (v := ?vdw4) rfl (by kernel_rfl) (by kernel_rfl) (by kernel_rfl) (fun _ _ _ h => h) (Or.inl ⟨by rfl, ?hydw4⟩) hHeld ?_
      case hydw4 => (intro w hSw; (try dsimp only at hSw); go_simp; (try with_reducible rfl))
      try simp only [Act.put, List.setIfInBounds_toArray, List.set_cons_zero, List.set_cons_succ]
      refine wpAnyH_take (i := 5) (oi := { dst := some 28, op := Op.binOp BinOp.geq 3 (Operand.tmp 27) (Operand.const (Value.int IntKind.i64 21)) 3, type := 4, pos := "law.go:43", after := #[{ on := 4, ground := Ground.data }], guard := none }) (v := ?vdw5) rfl (by kernel_rfl) (by kernel_rfl) (by kernel_rfl) (fun _ _ _ h => h) (Or.inl ⟨by rfl, ?hydw5⟩) hHeld ?_
      case hydw5 => (intro w hSw; (try dsimp only at hSw); go_simp; (try with_reducible rfl))
      try simp only [Act.put, List.setIfInBounds_toArray, List.set_cons_zero, List.set_cons_succ]
      refine wpAnyH_ready (rs := [2]) (by kernel_rfl) (by simp) ?_
      refine AllReadyH.cons (o := { dst := some 25, op := Op.call { callee := Callee.value (Operand.func 6), args := #[Operand.tmp 23, Operand.tmp 24], argTypes := #[28, 3] }, type := 4, pos := "law.go:43", after := #[{ on := 0, ground := Ground.data }, { on := 1, ground := Ground.data }], guard := none }) rfl (fun K hK => ?_) AllReadyH.nil
      go_simp
      refine (HSh.out _).mono ?_
      rintro e V3 ⟨rfl, hb⟩
      have HB4 := Lib.hid (belowOn HB3.out hb); have HX4 := Lib.hid (HX3.out.below hb); have HM4 := Lib.hid (HM3.out.below hb)
      clear hb hHeld HB3 HX3 HM3 HSh a0 a1 a2 a3 a4 a5 a6 a7 a8 af
      obtain ⟨a0, a1, a2, a3, a4, a5, a6, a7, a8, af⟩ := HM4.out.cells
      refine hK.out _ _ ?_ (fun hHeld => ?_)
      · exact ⟨a0, a1, a2, a3, a4, a5, a6, a7, a8⟩
      clear hK K
      try simp only [Act.put, List.setIfInBounds_toArray, List.set_cons_zero, List.set_cons_succ]
      refine wpAnyH_take (i := 6) (oi := { dst := some 29, op := Op.move (Operand.tmp 28), type := 4, pos := "law.go:43", after := #[{ on := 5, ground := Ground.data }, { on := 2, ground := Ground.chain }], guard := none }) (v := ?vdw6) rfl (by kernel_rfl) (by kernel_rfl) (by kernel_rfl) (fun _ _ _ h => h) (Or.inl ⟨by rfl, ?hydw6⟩) hHeld ?_
      case hydw6 => (intro w hSw; (try dsimp only at hSw); go_simp; (try with_reducible rfl))
      try simp only [Act.put, List.setIfInBounds_toArray, List.set_cons_zero, List.set_cons_succ]
      refine wpAnyH_take (i := 7) (oi := { dst := some 30, op := Op.fieldAddr 28 (Operand.tmp 6) 0, type := 0, pos := "law.go:43", after := #[{ on := 6, ground := Ground.guard }], guard := some (6, true) }) (v := ?vdw7) rfl (by kernel_rfl) (by kernel_rfl) (by kernel_rfl) (fun _ _ _ h => h) (Or.inl ⟨by rfl, ?hydw7⟩) hHeld ?_
      case hydw7 => (intro w hSw; (try dsimp only at hSw); go_simp; (try with_reducible rfl))
      try simp only [Act.put, List.setIfInBounds_toArray, List.set_cons_zero, List.set_cons_succ]
      refine wpAnyH_take (i := 8) (oi := { dst := some 31, op := Op.load 3 (Operand.tmp 30), type := 3, pos := "law.go:43", after := #[{ on := 7, ground := Ground.data }, { on := 6, ground := Ground.guard }], guard := some (6, true) }) (v := ?vdw8) rfl (by kernel_rfl) (by kernel_rfl) (by kernel_rfl) (fun _ _ _ h => h) (Or.inl ⟨by rfl, ?hydw8⟩) hHeld ?_
      case hydw8 => (intro w hSw; (try dsimp only at hSw); go_simp; (try with_reducible rfl))
      try simp only [Act.put, List.setIfInBounds_toArray, List.set_cons_zero, List.set_cons_succ]
      refine wpAnyH_take (i := 9) (oi := { dst := some 32, op := Op.binOp BinOp.leq 3 (Operand.tmp 31) (Operand.const (Value.int IntKind.i64 23)) 3, type := 4, pos := "law.go:43", after := #[{ on := 8, ground := Ground.data }, { on := 6, ground := Ground.guard }], guard := some (6, true) }) (v := ?vdw9) rfl (by kernel_rfl) (by kernel_rfl) (by kernel_rfl) (fun _ _ _ h => h) (Or.inl ⟨by rfl, ?hydw9⟩) hHeld ?_
      case hydw9 => (intro w hSw; (try dsimp only at hSw); go_simp; (try with_reducible rfl))
      try simp only [Act.put, List.setIfInBounds_toArray, List.set_cons_zero, List.set_cons_succ]
      refine wpAnyH_take (i := 10) (oi := { dst := some 33, op := Op.pick (Operand.tmp 29) (Operand.tmp 32) (Operand.const (Value.bool false)), type := 4, pos := "law.go:43", after := #[{ on := 6, ground := Ground.data }, { on := 9, ground := Ground.data }], guard := none }) (v := ?vdw10) rfl (by kernel_rfl) (by kernel_rfl) (by kernel_rfl) (fun _ _ _ h => h) (Or.inl ⟨by rfl, ?hydw10⟩) hHeld ?_
      case hydw10 => (intro w hSw; (try dsimp only at hSw); go_simp; (try with_reducible rfl))
      try simp only [Act.put, List.setIfInBounds_toArray, List.set_cons_zero, List.set_cons_succ]
      refine wpAnyH_take (i := 11) (oi := { dst := some 34, op := Op.move (Operand.tmp 33), type := 4, pos := "law.go:43", after := #[{ on := 10, ground := Ground.data }, { on := 6, ground := Ground.chain }], guard := none }) (v := ?vdw11) rfl (by kernel_rfl) (by kernel_rfl) (by kernel_rfl) (fun _ _ _ h => h) (Or.inl ⟨by rfl, ?hydw11⟩) hHeld ?_
      case hydw11 => (intro w hSw; (try dsimp only at hSw); go_simp; (try with_reducible rfl))
      try simp only [Act.put, List.setIfInBounds_toArray, List.set_cons_zero, List.set_cons_succ]
      refine wpAnyH_take (i := 12) (oi := { dst := some 35, op := Op.fieldAddr 28 (Operand.tmp 6) 2, type := 0, pos := "law.go:43", after := #[{ on := 11, ground := Ground.guard }], guard := some (11, true) }) (v := undef) rfl (by kernel_rfl) (by kernel_rfl) (by kernel_rfl) (fun _ _ _ h => h) (Or.inr ⟨by rfl, rfl⟩) hHeld ?_
      try simp only [Act.put, List.setIfInBounds_toArray, List.set_cons_zero, List.set_cons_succ]
      refine wpAnyH_take (i := 13) (oi := { dst := some 36, op := Op.load 3 (Operand.tmp 35), type := 3, pos := "law.go:43", after := #[{ on := 12, ground := Ground.data }, { on := 11, ground := Ground.guard }], guard := some (11, true) }) (v := undef) rfl (by kernel_rfl) (by kernel_rfl) (by kernel_rfl) (fun _ _ _ h => h) (Or.inr ⟨by rfl, rfl⟩) hHeld ?_
      try simp only [Act.put, List.setIfInBounds_toArray, List.set_cons_zero, List.set_cons_succ]
      refine wpAnyH_take (i := 14) (oi := { dst := some 37, op := Op.move (Operand.tmp 3), type := 3, pos := "law.go:43", after := #[{ on := 11, ground := Ground.guard }], guard := some (11, true) }) (v := undef) rfl (by kernel_rfl) (by kernel_rfl) (by kernel_rfl) (fun _ _ _ h => h) (Or.inr ⟨by rfl, rfl⟩) hHeld ?_
      try simp only [Act.put, List.setIfInBounds_toArray, List.set_cons_zero, List.set_cons_succ]
      refine wpAnyH_take (i := 15) (oi := { dst := some 38, op := Op.binOp BinOp.eql 3 (Operand.tmp 36) (Operand.tmp 37) 3, type := 4, pos := "law.go:43", after := #[{ on := 13, ground := Ground.data }, { on := 14, ground := Ground.data }, { on := 11, ground := Ground.guard }], guard := some (11, true) }) (v := undef) rfl (by kernel_rfl) (by kernel_rfl) (by kernel_rfl) (fun _ _ _ h => h) (Or.inr ⟨by rfl, rfl⟩) hHeld ?_
      try simp only [Act.put, List.setIfInBounds_toArray, List.set_cons_zero, List.set_cons_succ]
      refine wpAnyH_take (i := 16) (oi := { dst := some 39, op := Op.pick (Operand.tmp 34) (Operand.tmp 38) (Operand.const (Value.bool false)), type := 4, pos := "law.go:43", after := #[{ on := 11, ground := Ground.data }, { on := 15, ground := Ground.data }], guard := none }) (v := ?vdw16) rfl (by kernel_rfl) (by kernel_rfl) (by kernel_rfl) (fun _ _ _ h => h) (Or.inl ⟨by rfl, ?hydw16⟩) hHeld ?_
      case hydw16 => (intro w hSw; (try dsimp only at hSw); go_simp; (try with_reducible rfl))
      try simp only [Act.put, List.setIfInBounds_toArray, List.set_cons_zero, List.set_cons_succ]
      refine wpAnyH_take (i := 17) (oi := { dst := some 40, op := Op.binOp BinOp.neq 4 (Operand.tmp 25) (Operand.tmp 39) 4, type := 4, pos := "law.go:43", after := #[{ on := 2, ground := Ground.data }, { on := 16, ground := Ground.data }], guard := none }) (v := ?vdw17) rfl (by kernel_rfl) (by kernel_rfl) (by kernel_rfl) (fun _ _ _ h => h) (Or.inl ⟨by rfl, ?hydw17⟩) hHeld ?_
      case hydw17 => (intro w hSw; (try dsimp only at hSw); go_simp; (try with_reducible rfl))
      try simp only [Act.put, List.setIfInBounds_toArray, List.set_cons_zero, List.set_cons_succ]
      refine wpAnyH_done (by kernel_rfl) ?_ _
      clear hHeld d1 d2  a0 a1 a2 a3 a4 a5 a6 a7 a8 af
      have HB1 := HB4; have HX1 := HX4; have HM1 := HM4
      clear HB4 HX4 HM4
      generalize V3 = W1 at *
      obtain ⟨x0, x1, x2, x3⟩ := HX1.out
      go_wp2_with fail
      refine (Both_any a b c d v0 n c0 f _ (HS.out.below HB1.out) ⟨HG.out.1, HG.out.2.1.below HB1.out, HG.out.2.2⟩).mono ?_
      rintro e W2 (⟨_, rfl, hW⟩ | ⟨hok, P, rfl, hT⟩)
      · have HB2 := Lib.hid (belowOn HB1.out hW)
        have HM2 := Lib.hid (HM1.out.below hW)
        clear hW HX1 x0 x1 x2 x3 HM1 HB1
        obtain ⟨b0, b1, b2, b3, b4, b5, b6, b7, b8, bf⟩ := HM2.out.cells
        go_wp2_with fail
        refine (sweepNil_c l j xc m xa p fd tl cy _).mono ?_
        rintro e W9 ⟨rfl, hW⟩
        have HB9 := Lib.hid (belowOn HB2.out hW)
        clear hW HM2 HB2 b0 b1 b2 b3 b4 b5 b6 b7 b8 bf
        go_wp2_with fail
        go_ret
        exact ⟨rfl, below_on HB9.out _⟩
      · have HM2 := Lib.hid (HM1.out.below hT.old)
        obtain ⟨b0, b1, b2, b3, b4, b5, b6, b7, b8, bf⟩ := HM2.out.cells
        have HT := Lib.hid hT
        clear hT x0 x1 x2 x3 HX1
        go_wp2_with fail
        refine (Far_c ⟨l, j, xc, m, xa, p, fd, tl, cy⟩ _).mono ?_
        rintro e W3 ⟨far, rfl, hW, hnr⟩
        have HT3 := Lib.hid (HT.out.below hW)
        have HM3 := Lib.hid (HM2.out.below hW)
        have hold : Below W1.heap.size W1 W3 := HT3.out.old
        clear hW HT HM2 b0 b1 b2 b3 b4 b5 b6 b7 b8 bf
        cases far
        · obtain ⟨nj, nc, nm, nt, ny⟩ := (hnr rfl).all
          clear hnr
          unfold nearN at nj nc nm nt ny
          dsimp only at nj nc nm nt ny
          have HS1 := Lib.hid (HS.out.below HB1.out)
          have hu : Dy.U ⟨f, 0, 0, 0, 0, 0⟩ := HG.out.2.2.1
          have hC : CfOK ⟨n, a, b, c, d⟩ := ⟨hok.2.1, hok.2.2⟩
          have hn20 : n ≤ 20000 := by have := hok.2.1.prod; have h1 := hok.2.2; have h2 := hok.2.1; unfold Right at h2; omega
          have hA := sweep_c (C := ⟨n, a, b, c, d⟩) (s := ⟨f, 0, 0, 0, 0, 0⟩) HT3.out.hand hu (HS1.out.below hold) hok.2.1 hC.pos ⟨l, j, xc, m, xa, p, fd, tl, cy⟩ HU.out (by dsimp only; omega)
          have hR := (fun (s2 : Dy) W (h : Two W1 W P ⟨n, a, b, c, d⟩ s2 ⟨f, 0, 0, 0, 0, 0⟩) => rsweep_c (C := ⟨n, a, b, c, d⟩) (s := ⟨f, 0, 0, 0, 0, 0⟩) h.ref h.ltR hok.2.1 hu ⟨l, j, xc, m, xa, p, fd, tl, cy⟩ HU.out (by dsimp only; omega))
          generalize hst : sweepS ⟨n, a, b, c, d⟩ ⟨f, 0, 0, 0, 0, 0⟩ ⟨l, j, xc, m, xa, p, fd, tl, cy⟩ = r at *
          obtain ⟨s', y, r0, r1⟩ := r
          dsimp only at hA hR
          have HA := Lib.hid hA; have HR := Lib.hid hR; have HN := Lib.hid hn20
          have hltm : w.heap.size + 1 < W1.heap.size := HM1.out.lt
          obtain ⟨b0, b1, b2, b3, b4, b5, b6, b7, b8, bf⟩ := HM3.out.cells
          clear hA hR hn20 hst hu hC hold hok HG HS HU nj nc nm nt ny
          go_wp2_with fail
          refine HA.out.mono ?_
          rintro e W4 hp
          obtain ⟨rfl, hT⟩ := Two.step HT3.out hp
          clear hp
          have HT4 := Lib.hid (hT.below (below_new W4 (.cells #[.int .i64 y.l, .int .i64 y.j, .int .i64 y.c, .int .i64 y.m, .int .u64 y.a, .int .u64 y.p, .bool y.fd, .int .i64 y.tl, .int .i64 y.cy] 28)))
          have HM4 : Hid (Col9 _ (w.heap.size + 1) l j xc m xa p fd tl cy) := Lib.hid (HM1.out.below HT4.out.old)
          have HN4 := Lib.hid (Col9.new W4 y.l y.j y.c y.m y.a y.p y.fd y.tl y.cy)
          have HP4 := Lib.hid (hT.apart (Nat.le_refl W4.heap.size))
          clear hT HT3 HM3 HA b0 b1 b2 b3 b4 b5 b6 b7 b8 bf
          obtain ⟨b0, b1, b2, b3, b4, b5, b6, b7, b8, bf⟩ := HM4.out.cells
          go_wp2_with fail
          refine (HR.out _ _ HT4.out).mono ?_
          rintro e W5 hp
          have hN5 := HN4.out.other (Pl.sav (.inr hp.2.2) HN4.out.lt HP4.out)
          obtain ⟨rfl, hT⟩ := Two.rstep HT4.out hp
          have HT5 := Lib.hid (hT.below (below_new W5 (.cells #[.int .i64 y.l, .int .i64 y.j, .int .i64 y.c, .int .i64 y.m, .int .u64 y.a, .int .u64 y.p, .bool y.fd, .int .i64 y.tl, .int .i64 y.cy] 28)))
          have HN5 := Lib.hid (hN5.below (below_new W5 (.cells #[.int .i64 y.l, .int .i64 y.j, .int .i64 y.c, .int .i64 y.m, .int .u64 y.a, .int .u64 y.p, .bool y.fd, .int .i64 y.tl, .int .i64 y.cy] 28)))
          have HO5 := Lib.hid (Col9.new W5 y.l y.j y.c y.m y.a y.p y.fd y.tl y.cy)
          clear hp hN5 hT HT4 HM4 HN4 HP4 HR b0 b1 b2 b3 b4 b5 b6 b7 b8 bf
          obtain ⟨b0, b1, b2, b3, b4, b5, b6, b7, b8, bf⟩ := HN5.out.cells
          obtain ⟨d0, d1, d2, d3, d4, d5, d6, d7, d8, df⟩ := HO5.out.cells
          have hl5 : W4.heap.size < (W5.alloc (.cells #[.int .i64 y.l, .int .i64 y.j, .int .i64 y.c, .int .i64 y.m, .int .u64 y.a, .int .u64 y.p, .bool y.fd, .int .i64 y.tl, .int .i64 y.cy] 28)).heap.size := HN5.out.lt
          go_wp2_with fail
          refine (Alike_c HT5.out HN.out).mono ?_
          rintro e W6 ⟨rfl, hT⟩
          have HT6 := Lib.hid hT
          clear hT HT5 HN5 HO5 b0 b1 b2 b3 b4 b5 b6 b7 b8 bf d0 d1 d2 d3 d4 d5 d6 d7 d8 df hl5
          go_wp2_with fail
          go_ret
          exact ⟨rfl, belowOn HB1.out HT6.out.old⟩
        · have HB3 := Lib.hid (belowOn HB1.out hold)
          clear HT3 hold HB1 hnr HM1
          obtain ⟨b0, b1, b2, b3, b4, b5, b6, b7, b8, bf⟩ := HM3.out.cells
          go_wp2_with fail
          refine (sweepNil_c l j xc m xa p fd tl cy _).mono ?_
          rintro e W9 ⟨rfl, hW⟩
          have HB9 := Lib.hid (belowOn HB3.out hW)
          clear hW HM3 HB3 b0 b1 b2 b3 b4 b5 b6 b7 b8 bf
          go_wp2_with fail
          go_ret
          exact ⟨rfl, below_on HB9.out _⟩
  have d1 : decide (21 ≤ l) = false := decide_eq_false h21
  have HSh : Hid (∀ W, Calls Tryd.prog 6 #[(colV l j xc m xa p fd tl cy), .int .i64 q] W fun e w' => e = .returned (.bool false) ∧ Below W.heap.size W w') := Lib.hid (fun W => Holds_out l j xc m xa p fd tl cy q (by omega) W)
  clear h21
  have HB3 := Lib.hid HB1.out.drew; have HX3 : Hid (BoxAt W1.drew w.heap.size a b c d) := Lib.hid HX1.out; have HM3 := Lib.hid (HM1.out.other (w' := W1.drew) rfl)
  obtain ⟨a0, a1, a2, a3, a4, a5, a6, a7, a8, af⟩ := HM1.out.cells
  go_wp2_with fail
  clear HB1 HX1 HM1 a0 a1 a2 a3 a4 a5 a6 a7 a8 af
  obtain ⟨a0, a1, a2, a3, a4, a5, a6, a7, a8, af⟩ := HM3.out.cells
  refine wp_region_held_drew (S := (fun w' => w'.cell? ⟨w.heap.size + 1, 0, none⟩ = some (.int .i64 l) ∧ w'.cell? ⟨w.heap.size + 1, 1, none⟩ = some (.int .i64 j) ∧ w'.cell? ⟨w.heap.size + 1, 2, none⟩ = some (.int .i64 xc) ∧ w'.cell? ⟨w.heap.size + 1, 3, none⟩ = some (.int .i64 m) ∧ w'.cell? ⟨w.heap.size + 1, 4, none⟩ = some (.int .u64 xa) ∧ w'.cell? ⟨w.heap.size + 1, 5, none⟩ = some (.int .u64 p) ∧ w'.cell? ⟨w.heap.size + 1, 6, none⟩ = some (.bool fd) ∧ w'.cell? ⟨w.heap.size + 1, 7, none⟩ = some (.int .i64 tl) ∧ w'.cell? ⟨w.heap.size + 1, 8, none⟩ = some (.int .i64 cy))) (by kernel_rfl) ?_ (fun hHeld => ?_)
  · exact ⟨a0, a1, a2, a3, a4, a5, a6, a7, a8⟩
  refine wpAnyH_take (i := 0) (oi := { dst := some 23, op := Op.load 28 (Operand.tmp 6), type := 28, pos := "law.go:43", after := #[], guard := none }) (v := ?vbw0) rfl (by kernel_rfl) (by kernel_rfl) (by kernel_rfl) (fun _ _ _ h => h) (Or.inl ⟨by rfl, ?hybw0⟩) hHeld ?_
  case hybw0 => (intro w hSw; (try dsimp only at hSw); go_simp; (try with_reducible rfl))
  try simp only [Act.put, List.setIfInBounds_toArray, List.set_cons_zero, List.set_cons_succ]
  refine wpAnyH_take (i := 1) (oi := { dst := some 24, op := Op.move (Operand.tmp 3), type := 3, pos := "law.go:43", after := #[], guard := none }) (v := ?vbw1) rfl (by kernel_rfl) (by kernel_rfl) (by kernel_rfl) (fun _ _ _ h => h) (Or.inl ⟨by rfl, ?hybw1⟩) hHeld ?_
  case hybw1 => (intro w hSw; (try dsimp only at hSw); go_simp; (try with_reducible rfl))
  try simp only [Act.put, List.setIfInBounds_toArray, List.set_cons_zero, List.set_cons_succ]
  refine wpAnyH_take (i := 3) (oi := { dst := some 26, op := Op.fieldAddr 28 (Operand.tmp 6) 0, type := 0, pos := "law.go:43", after := #[], guard := none }) (v := ?vbw3) rfl (by kernel_rfl) (by kernel_rfl) (by kernel_rfl) (fun _ _ _ h => h) (Or.inl ⟨by rfl, ?hybw3⟩) hHeld ?_
  case hybw3 => (intro w hSw; (try dsimp only at hSw); go_simp; (try with_reducible rfl))
  try simp only [Act.put, List.setIfInBounds_toArray, List.set_cons_zero, List.set_cons_succ]
  refine wpAnyH_take (i := 4) (oi := { dst := some 27, op := Op.load 3 (Operand.tmp 26), type := 3, pos := "law.go:43", after := #[{ on := 3, ground := Ground.data }], guard := none }) (v := ?vbw4) rfl (by kernel_rfl) (by kernel_rfl) (by kernel_rfl) (fun _ _ _ h => h) (Or.inl ⟨by rfl, ?hybw4⟩) hHeld ?_
  case hybw4 => (intro w hSw; (try dsimp only at hSw); go_simp; (try with_reducible rfl))
  try simp only [Act.put, List.setIfInBounds_toArray, List.set_cons_zero, List.set_cons_succ]
  refine wpAnyH_take (i := 5) (oi := { dst := some 28, op := Op.binOp BinOp.geq 3 (Operand.tmp 27) (Operand.const (Value.int IntKind.i64 21)) 3, type := 4, pos := "law.go:43", after := #[{ on := 4, ground := Ground.data }], guard := none }) (v := ?vbw5) rfl (by kernel_rfl) (by kernel_rfl) (by kernel_rfl) (fun _ _ _ h => h) (Or.inl ⟨by rfl, ?hybw5⟩) hHeld ?_
  case hybw5 => (intro w hSw; (try dsimp only at hSw); go_simp; (try with_reducible rfl))
  try simp only [Act.put, List.setIfInBounds_toArray, List.set_cons_zero, List.set_cons_succ]
  refine wpAnyH_ready (rs := [2]) (by kernel_rfl) (by simp) ?_
  refine AllReadyH.cons (o := { dst := some 25, op := Op.call { callee := Callee.value (Operand.func 6), args := #[Operand.tmp 23, Operand.tmp 24], argTypes := #[28, 3] }, type := 4, pos := "law.go:43", after := #[{ on := 0, ground := Ground.data }, { on := 1, ground := Ground.data }], guard := none }) rfl (fun K hK => ?_) AllReadyH.nil
  go_simp
  refine (HSh.out _).mono ?_
  rintro e V3 ⟨rfl, hb⟩
  have HB4 := Lib.hid (belowOn HB3.out hb); have HX4 := Lib.hid (HX3.out.below hb); have HM4 := Lib.hid (HM3.out.below hb)
  clear hb hHeld HB3 HX3 HM3 HSh a0 a1 a2 a3 a4 a5 a6 a7 a8 af
  obtain ⟨a0, a1, a2, a3, a4, a5, a6, a7, a8, af⟩ := HM4.out.cells
  refine hK.out _ _ ?_ (fun hHeld => ?_)
  · exact ⟨a0, a1, a2, a3, a4, a5, a6, a7, a8⟩
  clear hK K
  try simp only [Act.put, List.setIfInBounds_toArray, List.set_cons_zero, List.set_cons_succ]
  refine wpAnyH_take (i := 6) (oi := { dst := some 29, op := Op.move (Operand.tmp 28), type := 4, pos := "law.go:43", after := #[{ on := 5, ground := Ground.data }, { on := 2, ground := Ground.chain }], guard := none }) (v := ?vbw6) rfl (by kernel_rfl) (by kernel_rfl) (by kernel_rfl) (fun _ _ _ h => h) (Or.inl ⟨by rfl, ?hybw6⟩) hHeld ?_
  case hybw6 => (intro w hSw; (try dsimp only at hSw); go_simp; (try with_reducible rfl))
  try simp only [Act.put, List.setIfInBounds_toArray, List.set_cons_zero, List.set_cons_succ]
  refine wpAnyH_take (i := 7) (oi := { dst := some 30, op := Op.fieldAddr 28 (Operand.tmp 6) 0, type := 0, pos := "law.go:43", after := #[{ on := 6, ground := Ground.guard }], guard := some (6, true) }) (v := undef) rfl (by kernel_rfl) (by kernel_rfl) (by kernel_rfl) (fun _ _ _ h => h) (Or.inr ⟨by rfl, rfl⟩) hHeld ?_
  try simp only [Act.put, List.setIfInBounds_toArray, List.set_cons_zero, List.set_cons_succ]
  refine wpAnyH_take (i := 8) (oi := { dst := some 31, op := Op.load 3 (Operand.tmp 30), type := 3, pos := "law.go:43", after := #[{ on := 7, ground := Ground.data }, { on := 6, ground := Ground.guard }], guard := some (6, true) }) (v := undef) rfl (by kernel_rfl) (by kernel_rfl) (by kernel_rfl) (fun _ _ _ h => h) (Or.inr ⟨by rfl, rfl⟩) hHeld ?_
  try simp only [Act.put, List.setIfInBounds_toArray, List.set_cons_zero, List.set_cons_succ]
  refine wpAnyH_take (i := 9) (oi := { dst := some 32, op := Op.binOp BinOp.leq 3 (Operand.tmp 31) (Operand.const (Value.int IntKind.i64 23)) 3, type := 4, pos := "law.go:43", after := #[{ on := 8, ground := Ground.data }, { on := 6, ground := Ground.guard }], guard := some (6, true) }) (v := undef) rfl (by kernel_rfl) (by kernel_rfl) (by kernel_rfl) (fun _ _ _ h => h) (Or.inr ⟨by rfl, rfl⟩) hHeld ?_
  try simp only [Act.put, List.setIfInBounds_toArray, List.set_cons_zero, List.set_cons_succ]
  refine wpAnyH_take (i := 10) (oi := { dst := some 33, op := Op.pick (Operand.tmp 29) (Operand.tmp 32) (Operand.const (Value.bool false)), type := 4, pos := "law.go:43", after := #[{ on := 6, ground := Ground.data }, { on := 9, ground := Ground.data }], guard := none }) (v := ?vbw10) rfl (by kernel_rfl) (by kernel_rfl) (by kernel_rfl) (fun _ _ _ h => h) (Or.inl ⟨by rfl, ?hybw10⟩) hHeld ?_
  case hybw10 => (intro w hSw; (try dsimp only at hSw); go_simp; (try with_reducible rfl))
  try simp only [Act.put, List.setIfInBounds_toArray, List.set_cons_zero, List.set_cons_succ]
  refine wpAnyH_take (i := 11) (oi := { dst := some 34, op := Op.move (Operand.tmp 33), type := 4, pos := "law.go:43", after := #[{ on := 10, ground := Ground.data }, { on := 6, ground := Ground.chain }], guard := none }) (v := ?vbw11) rfl (by kernel_rfl) (by kernel_rfl) (by kernel_rfl) (fun _ _ _ h => h) (Or.inl ⟨by rfl, ?hybw11⟩) hHeld ?_
  case hybw11 => (intro w hSw; (try dsimp only at hSw); go_simp; (try with_reducible rfl))
  try simp only [Act.put, List.setIfInBounds_toArray, List.set_cons_zero, List.set_cons_succ]
  refine wpAnyH_take (i := 12) (oi := { dst := some 35, op := Op.fieldAddr 28 (Operand.tmp 6) 2, type := 0, pos := "law.go:43", after := #[{ on := 11, ground := Ground.guard }], guard := some (11, true) }) (v := undef) rfl (by kernel_rfl) (by kernel_rfl) (by kernel_rfl) (fun _ _ _ h => h) (Or.inr ⟨by rfl, rfl⟩) hHeld ?_
  try simp only [Act.put, List.setIfInBounds_toArray, List.set_cons_zero, List.set_cons_succ]
  refine wpAnyH_take (i := 13) (oi := { dst := some 36, op := Op.load 3 (Operand.tmp 35), type := 3, pos := "law.go:43", after := #[{ on := 12, ground := Ground.data }, { on := 11, ground := Ground.guard }], guard := some (11, true) }) (v := undef) rfl (by kernel_rfl) (by kernel_rfl) (by kernel_rfl) (fun _ _ _ h => h) (Or.inr ⟨by rfl, rfl⟩) hHeld ?_
  try simp only [Act.put, List.setIfInBounds_toArray, List.set_cons_zero, List.set_cons_succ]
  refine wpAnyH_take (i := 14) (oi := { dst := some 37, op := Op.move (Operand.tmp 3), type := 3, pos := "law.go:43", after := #[{ on := 11, ground := Ground.guard }], guard := some (11, true) }) (v := undef) rfl (by kernel_rfl) (by kernel_rfl) (by kernel_rfl) (fun _ _ _ h => h) (Or.inr ⟨by rfl, rfl⟩) hHeld ?_
  try simp only [Act.put, List.setIfInBounds_toArray, List.set_cons_zero, List.set_cons_succ]
  refine wpAnyH_take (i := 15) (oi := { dst := some 38, op := Op.binOp BinOp.eql 3 (Operand.tmp 36) (Operand.tmp 37) 3, type := 4, pos := "law.go:43", after := #[{ on := 13, ground := Ground.data }, { on := 14, ground := Ground.data }, { on := 11, ground := Ground.guard }], guard := some (11, true) }) (v := undef) rfl (by kernel_rfl) (by kernel_rfl) (by kernel_rfl) (fun _ _ _ h => h) (Or.inr ⟨by rfl, rfl⟩) hHeld ?_
  try simp only [Act.put, List.setIfInBounds_toArray, List.set_cons_zero, List.set_cons_succ]
  refine wpAnyH_take (i := 16) (oi := { dst := some 39, op := Op.pick (Operand.tmp 34) (Operand.tmp 38) (Operand.const (Value.bool false)), type := 4, pos := "law.go:43", after := #[{ on := 11, ground := Ground.data }, { on := 15, ground := Ground.data }], guard := none }) (v := ?vbw16) rfl (by kernel_rfl) (by kernel_rfl) (by kernel_rfl) (fun _ _ _ h => h) (Or.inl ⟨by rfl, ?hybw16⟩) hHeld ?_
  case hybw16 => (intro w hSw; (try dsimp only at hSw); go_simp; (try with_reducible rfl))
  try simp only [Act.put, List.setIfInBounds_toArray, List.set_cons_zero, List.set_cons_succ]
  refine wpAnyH_take (i := 17) (oi := { dst := some 40, op := Op.binOp BinOp.neq 4 (Operand.tmp 25) (Operand.tmp 39) 4, type := 4, pos := "law.go:43", after := #[{ on := 2, ground := Ground.data }, { on := 16, ground := Ground.data }], guard := none }) (v := ?vbw17) rfl (by kernel_rfl) (by kernel_rfl) (by kernel_rfl) (fun _ _ _ h => h) (Or.inl ⟨by rfl, ?hybw17⟩) hHeld ?_
  case hybw17 => (intro w hSw; (try dsimp only at hSw); go_simp; (try with_reducible rfl))
  try simp only [Act.put, List.setIfInBounds_toArray, List.set_cons_zero, List.set_cons_succ]
  refine wpAnyH_done (by kernel_rfl) ?_ _
  clear hHeld d1   a0 a1 a2 a3 a4 a5 a6 a7 a8 af
  have HB1 := HB4; have HX1 := HX4; have HM1 := HM4
  clear HB4 HX4 HM4
  generalize V3 = W1 at *
  obtain ⟨x0, x1, x2, x3⟩ := HX1.out
  go_wp2_with fail
  refine (Both_any a b c d v0 n c0 f _ (HS.out.below HB1.out) ⟨HG.out.1, HG.out.2.1.below HB1.out, HG.out.2.2⟩).mono ?_
  rintro e W2 (⟨_, rfl, hW⟩ | ⟨hok, P, rfl, hT⟩)
  · have HB2 := Lib.hid (belowOn HB1.out hW)
    have HM2 := Lib.hid (HM1.out.below hW)
    clear hW HX1 x0 x1 x2 x3 HM1 HB1
    obtain ⟨b0, b1, b2, b3, b4, b5, b6, b7, b8, bf⟩ := HM2.out.cells
    go_wp2_with fail
    refine (sweepNil_c l j xc m xa p fd tl cy _).mono ?_
    rintro e W9 ⟨rfl, hW⟩
    have HB9 := Lib.hid (belowOn HB2.out hW)
    clear hW HM2 HB2 b0 b1 b2 b3 b4 b5 b6 b7 b8 bf
    go_wp2_with fail
    go_ret
    exact ⟨rfl, below_on HB9.out _⟩
  · have HM2 := Lib.hid (HM1.out.below hT.old)
    obtain ⟨b0, b1, b2, b3, b4, b5, b6, b7, b8, bf⟩ := HM2.out.cells
    have HT := Lib.hid hT
    clear hT x0 x1 x2 x3 HX1
    go_wp2_with fail
    refine (Far_c ⟨l, j, xc, m, xa, p, fd, tl, cy⟩ _).mono ?_
    rintro e W3 ⟨far, rfl, hW, hnr⟩
    have HT3 := Lib.hid (HT.out.below hW)
    have HM3 := Lib.hid (HM2.out.below hW)
    have hold : Below W1.heap.size W1 W3 := HT3.out.old
    clear hW HT HM2 b0 b1 b2 b3 b4 b5 b6 b7 b8 bf
    cases far
    · obtain ⟨nj, nc, nm, nt, ny⟩ := (hnr rfl).all
      clear hnr
      unfold nearN at nj nc nm nt ny
      dsimp only at nj nc nm nt ny
      have HS1 := Lib.hid (HS.out.below HB1.out)
      have hu : Dy.U ⟨f, 0, 0, 0, 0, 0⟩ := HG.out.2.2.1
      have hC : CfOK ⟨n, a, b, c, d⟩ := ⟨hok.2.1, hok.2.2⟩
      have hn20 : n ≤ 20000 := by have := hok.2.1.prod; have h1 := hok.2.2; have h2 := hok.2.1; unfold Right at h2; omega
      have hA := sweep_c (C := ⟨n, a, b, c, d⟩) (s := ⟨f, 0, 0, 0, 0, 0⟩) HT3.out.hand hu (HS1.out.below hold) hok.2.1 hC.pos ⟨l, j, xc, m, xa, p, fd, tl, cy⟩ HU.out (by dsimp only; omega)
      have hR := (fun (s2 : Dy) W (h : Two W1 W P ⟨n, a, b, c, d⟩ s2 ⟨f, 0, 0, 0, 0, 0⟩) => rsweep_c (C := ⟨n, a, b, c, d⟩) (s := ⟨f, 0, 0, 0, 0, 0⟩) h.ref h.ltR hok.2.1 hu ⟨l, j, xc, m, xa, p, fd, tl, cy⟩ HU.out (by dsimp only; omega))
      generalize hst : sweepS ⟨n, a, b, c, d⟩ ⟨f, 0, 0, 0, 0, 0⟩ ⟨l, j, xc, m, xa, p, fd, tl, cy⟩ = r at *
      obtain ⟨s', y, r0, r1⟩ := r
      dsimp only at hA hR
      have HA := Lib.hid hA; have HR := Lib.hid hR; have HN := Lib.hid hn20
      have hltm : w.heap.size + 1 < W1.heap.size := HM1.out.lt
      obtain ⟨b0, b1, b2, b3, b4, b5, b6, b7, b8, bf⟩ := HM3.out.cells
      clear hA hR hn20 hst hu hC hold hok HG HS HU nj nc nm nt ny
      go_wp2_with fail
      refine HA.out.mono ?_
      rintro e W4 hp
      obtain ⟨rfl, hT⟩ := Two.step HT3.out hp
      clear hp
      have HT4 := Lib.hid (hT.below (below_new W4 (.cells #[.int .i64 y.l, .int .i64 y.j, .int .i64 y.c, .int .i64 y.m, .int .u64 y.a, .int .u64 y.p, .bool y.fd, .int .i64 y.tl, .int .i64 y.cy] 28)))
      have HM4 : Hid (Col9 _ (w.heap.size + 1) l j xc m xa p fd tl cy) := Lib.hid (HM1.out.below HT4.out.old)
      have HN4 := Lib.hid (Col9.new W4 y.l y.j y.c y.m y.a y.p y.fd y.tl y.cy)
      have HP4 := Lib.hid (hT.apart (Nat.le_refl W4.heap.size))
      clear hT HT3 HM3 HA b0 b1 b2 b3 b4 b5 b6 b7 b8 bf
      obtain ⟨b0, b1, b2, b3, b4, b5, b6, b7, b8, bf⟩ := HM4.out.cells
      go_wp2_with fail
      refine (HR.out _ _ HT4.out).mono ?_
      rintro e W5 hp
      have hN5 := HN4.out.other (Pl.sav (.inr hp.2.2) HN4.out.lt HP4.out)
      obtain ⟨rfl, hT⟩ := Two.rstep HT4.out hp
      have HT5 := Lib.hid (hT.below (below_new W5 (.cells #[.int .i64 y.l, .int .i64 y.j, .int .i64 y.c, .int .i64 y.m, .int .u64 y.a, .int .u64 y.p, .bool y.fd, .int .i64 y.tl, .int .i64 y.cy] 28)))
      have HN5 := Lib.hid (hN5.below (below_new W5 (.cells #[.int .i64 y.l, .int .i64 y.j, .int .i64 y.c, .int .i64 y.m, .int .u64 y.a, .int .u64 y.p, .bool y.fd, .int .i64 y.tl, .int .i64 y.cy] 28)))
      have HO5 := Lib.hid (Col9.new W5 y.l y.j y.c y.m y.a y.p y.fd y.tl y.cy)
      clear hp hN5 hT HT4 HM4 HN4 HP4 HR b0 b1 b2 b3 b4 b5 b6 b7 b8 bf
      obtain ⟨b0, b1, b2, b3, b4, b5, b6, b7, b8, bf⟩ := HN5.out.cells
      obtain ⟨d0, d1, d2, d3, d4, d5, d6, d7, d8, df⟩ := HO5.out.cells
      have hl5 : W4.heap.size < (W5.alloc (.cells #[.int .i64 y.l, .int .i64 y.j, .int .i64 y.c, .int .i64 y.m, .int .u64 y.a, .int .u64 y.p, .bool y.fd, .int .i64 y.tl, .int .i64 y.cy] 28)).heap.size := HN5.out.lt
      go_wp2_with fail
      refine (Alike_c HT5.out HN.out).mono ?_
      rintro e W6 ⟨rfl, hT⟩
      have HT6 := Lib.hid hT
      clear hT HT5 HN5 HO5 b0 b1 b2 b3 b4 b5 b6 b7 b8 bf d0 d1 d2 d3 d4 d5 d6 d7 d8 df hl5
      go_wp2_with fail
      go_ret
      exact ⟨rfl, belowOn HB1.out HT6.out.old⟩
    · have HB3 := Lib.hid (belowOn HB1.out hold)
      clear HT3 hold HB1 hnr HM1
      obtain ⟨b0, b1, b2, b3, b4, b5, b6, b7, b8, bf⟩ := HM3.out.cells
      go_wp2_with fail
      refine (sweepNil_c l j xc m xa p fd tl cy _).mono ?_
      rintro e W9 ⟨rfl, hW⟩
      have HB9 := Lib.hid (belowOn HB3.out hW)
      clear hW HM3 HB3 b0 b1 b2 b3 b4 b5 b6 b7 b8 bf
      go_wp2_with fail
      go_ret
      exact ⟨rfl, below_on HB9.out _⟩
end Go.Proofs.YtganbjgkobmdkaaDoor
