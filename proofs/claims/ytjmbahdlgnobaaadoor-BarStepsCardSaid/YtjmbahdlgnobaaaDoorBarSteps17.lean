/- BarSteps answers true: a step from any line, over any words, is as the document says, and whether it is the flip. -/
import Derived.Test.YtjmbahdlgnobaaaDoorM4
import Derived.Test.YtjmbahdlgnobaaaDoorColFar
import Derived.Test.YtjmbahdlgnobaaaDoorTwo
namespace Go.Proofs.YtjmbahdlgnobaaaDoor
open Go Go.RowKit
set_option maxRecDepth 100000
attribute [local go_sem ↓] Go.wp_at_zero Go.wp_at_succ

set_option maxHeartbeats 6400000 in
theorem barSteps_any (a b c d : Int) (v0 : Option Addr) (n c0 : Nat) (f : Nat → Int) (x : Co) (hm : x.U) (w : World) (hS : SpansAt w) (hG : Given w v0 n c0 f) :
    Calls Tryd.prog 3 #[.agg #[.int .i64 a, .int .i64 b, .int .i64 c, .int .i64 d], .slice v0 n c0, x.v] w fun e w' => e = .returned (.bool true) ∧ Below w.heap.size w w' := by
  obtain ⟨l, j, xc, m, xa, p, fd, tl, cy⟩ := x
  have HB0 := Lib.hid (below_on (below_new w (.cells #[.int .i64 a, .int .i64 b, .int .i64 c, .int .i64 d] 23)) (.cells #[.int .i64 l, .int .i64 j, .int .i64 xc, .int .i64 m, .int .u64 xa, .int .u64 p, .bool fd, .int .i64 tl, .int .i64 cy] 28))
  have HX0 : Hid (BoxAt ((w.alloc (.cells #[.int .i64 a, .int .i64 b, .int .i64 c, .int .i64 d] 23)).alloc (.cells #[.int .i64 l, .int .i64 j, .int .i64 xc, .int .i64 m, .int .u64 xa, .int .u64 p, .bool fd, .int .i64 tl, .int .i64 cy] 28)) w.heap.size a b c d) := Lib.hid ((BoxAt.new w a b c d 23).below (below_new _ _))
  have HM0 : Hid (Col9 ((w.alloc (.cells #[.int .i64 a, .int .i64 b, .int .i64 c, .int .i64 d] 23)).alloc (.cells #[.int .i64 l, .int .i64 j, .int .i64 xc, .int .i64 m, .int .u64 xa, .int .u64 p, .bool fd, .int .i64 tl, .int .i64 cy] 28)) (w.heap.size + 1) l j xc m xa p fd tl cy) := Lib.hid (by have := Col9.new (w.alloc (.cells #[.int .i64 a, .int .i64 b, .int .i64 c, .int .i64 d] 23)) l j xc m xa p fd tl cy; simpa using this)
  have HS := Lib.hid hS; have HG := Lib.hid hG
  have HU := Lib.hid hm
  clear hS hG hm
  obtain ⟨x0, x1, x2, x3⟩ := HX0.out
  go_enter Tryd.func3, Tryd.ntmps3
  go_wp2_with fail
  refine (awake17_c _ (HS.out.below HB0.out)).mono ?_
  rintro e W1 ⟨rfl, hW⟩
  have HB1 := Lib.hid (belowOn HB0.out hW)
  have HX1 := Lib.hid (HX0.out.below hW)
  have HM1 : Hid (Col9 W1 (w.heap.size + 1) l j xc m xa p fd tl cy) := Lib.hid (HM0.out.below hW)
  clear hW HB0 HX0 HM0 x0 x1 x2 x3
  by_cases h12 : 12 ≤ l
  · by_cases h15 : l ≤ 15
    · have d1 : decide (12 ≤ l) = true := decide_eq_true h12
      have d2 : decide (l ≤ 15) = true := decide_eq_true h15
      have HSh : Hid (∀ W, Calls Tryd.prog 8 #[(colV l j xc m xa p fd tl cy)] W fun e w' => e = .returned (.bool true) ∧ Below W.heap.size W w') := Lib.hid (fun W => by have := Shut_c ⟨l, j, xc, m, xa, p, fd, tl, cy⟩ W; simp only [d1, d2, Bool.true_and] at this; exact this)
      clear h12 h15
      have HB3 := Lib.hid HB1.out.drew; have HX3 : Hid (BoxAt W1.drew w.heap.size a b c d) := Lib.hid HX1.out; have HM3 := Lib.hid (HM1.out.other (w' := W1.drew) rfl)
      obtain ⟨a0, a1, a2, a3, a4, a5, a6, a7, a8, af⟩ := HM1.out.cells
      go_wp2_with fail
      clear HB1 HX1 HM1 a0 a1 a2 a3 a4 a5 a6 a7 a8 af
      obtain ⟨a0, a1, a2, a3, a4, a5, a6, a7, a8, af⟩ := HM3.out.cells
      refine wp_region_held_drew (S := (fun w' => w'.cell? ⟨w.heap.size + 1, 0, none⟩ = some (.int .i64 l) ∧ w'.cell? ⟨w.heap.size + 1, 1, none⟩ = some (.int .i64 j) ∧ w'.cell? ⟨w.heap.size + 1, 2, none⟩ = some (.int .i64 xc) ∧ w'.cell? ⟨w.heap.size + 1, 3, none⟩ = some (.int .i64 m) ∧ w'.cell? ⟨w.heap.size + 1, 4, none⟩ = some (.int .u64 xa) ∧ w'.cell? ⟨w.heap.size + 1, 5, none⟩ = some (.int .u64 p) ∧ w'.cell? ⟨w.heap.size + 1, 6, none⟩ = some (.bool fd) ∧ w'.cell? ⟨w.heap.size + 1, 7, none⟩ = some (.int .i64 tl) ∧ w'.cell? ⟨w.heap.size + 1, 8, none⟩ = some (.int .i64 cy))) (by kernel_rfl) ?_ (fun hHeld => ?_)
      · exact ⟨a0, a1, a2, a3, a4, a5, a6, a7, a8⟩
      refine wpAnyH_take (i := 0) (oi := { dst := some 21, op := Op.load 28 (Operand.tmp 5), type := 28, pos := "law.go:40", after := #[], guard := none }) (v := ?vp0) rfl (by kernel_rfl) (by kernel_rfl) (by kernel_rfl) (fun _ _ _ h => h) (Or.inl ⟨by rfl, ?hyp0⟩) hHeld ?_
      case hyp0 => (intro w hSw; (try dsimp only at hSw); go_simp; (try with_reducible rfl))
      try simp only [Act.put, List.setIfInBounds_toArray, List.set_cons_zero, List.set_cons_succ]
      refine wpAnyH_take (i := 2) (oi := { dst := some 23, op := Op.fieldAddr 28 (Operand.tmp 5) 0, type := 0, pos := "law.go:40", after := #[], guard := none }) (v := ?vp2) rfl (by kernel_rfl) (by kernel_rfl) (by kernel_rfl) (fun _ _ _ h => h) (Or.inl ⟨by rfl, ?hyp2⟩) hHeld ?_
      case hyp2 => (intro w hSw; (try dsimp only at hSw); go_simp; (try with_reducible rfl))
      try simp only [Act.put, List.setIfInBounds_toArray, List.set_cons_zero, List.set_cons_succ]
      refine wpAnyH_take (i := 3) (oi := { dst := some 24, op := Op.load 3 (Operand.tmp 23), type := 3, pos := "law.go:40", after := #[{ on := 2, ground := Ground.data }], guard := none }) (v := ?vp3) rfl (by kernel_rfl) (by kernel_rfl) (by kernel_rfl) (fun _ _ _ h => h) (Or.inl ⟨by rfl, ?hyp3⟩) hHeld ?_
      case hyp3 => (intro w hSw; (try dsimp only at hSw); go_simp; (try with_reducible rfl))
      try simp only [Act.put, List.setIfInBounds_toArray, List.set_cons_zero, List.set_cons_succ]
      refine wpAnyH_take (i := 4) (oi := { dst := some 25, op := Op.binOp BinOp.geq 3 (Operand.tmp 24) (Operand.const (Value.int IntKind.i64 12)) 3, type := 4, pos := "law.go:40", after := #[{ on := 3, ground := Ground.data }], guard := none }) (v := ?vp4) rfl (by kernel_rfl) (by kernel_rfl) (by kernel_rfl) (fun _ _ _ h => h) (Or.inl ⟨by rfl, ?hyp4⟩) hHeld ?_
      case hyp4 => (intro w hSw; (try dsimp only at hSw); go_simp; (try with_reducible rfl))
      try simp only [Act.put, List.setIfInBounds_toArray, List.set_cons_zero, List.set_cons_succ]
      refine wpAnyH_ready (rs := [1]) (by kernel_rfl) (by simp) ?_
      refine AllReadyH.cons (o := { dst := some 22, op := Op.call { callee := Callee.value (Operand.func 8), args := #[Operand.tmp 21], argTypes := #[28] }, type := 4, pos := "law.go:40", after := #[{ on := 0, ground := Ground.data }], guard := none }) rfl (fun K hK => ?_) AllReadyH.nil
      go_simp
      refine (HSh.out _).mono ?_
      rintro e V3 ⟨rfl, hb⟩
      have HB4 := Lib.hid (belowOn HB3.out hb); have HX4 := Lib.hid (HX3.out.below hb); have HM4 := Lib.hid (HM3.out.below hb)
      clear hb hHeld HB3 HX3 HM3 HSh a0 a1 a2 a3 a4 a5 a6 a7 a8 af
      obtain ⟨a0, a1, a2, a3, a4, a5, a6, a7, a8, af⟩ := HM4.out.cells
      refine hK.out _ _ ?_ (fun hHeld => ?_)
      · exact ⟨a0, a1, a2, a3, a4, a5, a6, a7, a8⟩
      clear hK K
      try simp only [Act.put, List.setIfInBounds_toArray, List.set_cons_zero, List.set_cons_succ]
      refine wpAnyH_take (i := 5) (oi := { dst := some 26, op := Op.move (Operand.tmp 25), type := 4, pos := "law.go:40", after := #[{ on := 4, ground := Ground.data }, { on := 1, ground := Ground.chain }], guard := none }) (v := ?vp5) rfl (by kernel_rfl) (by kernel_rfl) (by kernel_rfl) (fun _ _ _ h => h) (Or.inl ⟨by rfl, ?hyp5⟩) hHeld ?_
      case hyp5 => (intro w hSw; (try dsimp only at hSw); go_simp; (try with_reducible rfl))
      try simp only [Act.put, List.setIfInBounds_toArray, List.set_cons_zero, List.set_cons_succ]
      refine wpAnyH_take (i := 6) (oi := { dst := some 27, op := Op.fieldAddr 28 (Operand.tmp 5) 0, type := 0, pos := "law.go:40", after := #[{ on := 5, ground := Ground.guard }], guard := some (5, true) }) (v := ?vp6) rfl (by kernel_rfl) (by kernel_rfl) (by kernel_rfl) (fun _ _ _ h => h) (Or.inl ⟨by rfl, ?hyp6⟩) hHeld ?_
      case hyp6 => (intro w hSw; (try dsimp only at hSw); go_simp; (try with_reducible rfl))
      try simp only [Act.put, List.setIfInBounds_toArray, List.set_cons_zero, List.set_cons_succ]
      refine wpAnyH_take (i := 7) (oi := { dst := some 28, op := Op.load 3 (Operand.tmp 27), type := 3, pos := "law.go:40", after := #[{ on := 6, ground := Ground.data }, { on := 5, ground := Ground.guard }], guard := some (5, true) }) (v := ?vp7) rfl (by kernel_rfl) (by kernel_rfl) (by kernel_rfl) (fun _ _ _ h => h) (Or.inl ⟨by rfl, ?hyp7⟩) hHeld ?_
      case hyp7 => (intro w hSw; (try dsimp only at hSw); go_simp; (try with_reducible rfl))
      try simp only [Act.put, List.setIfInBounds_toArray, List.set_cons_zero, List.set_cons_succ]
      refine wpAnyH_take (i := 8) (oi := { dst := some 29, op := Op.binOp BinOp.leq 3 (Operand.tmp 28) (Operand.const (Value.int IntKind.i64 15)) 3, type := 4, pos := "law.go:40", after := #[{ on := 7, ground := Ground.data }, { on := 5, ground := Ground.guard }], guard := some (5, true) }) (v := ?vp8) rfl (by kernel_rfl) (by kernel_rfl) (by kernel_rfl) (fun _ _ _ h => h) (Or.inl ⟨by rfl, ?hyp8⟩) hHeld ?_
      case hyp8 => (intro w hSw; (try dsimp only at hSw); go_simp; (try with_reducible rfl))
      try simp only [Act.put, List.setIfInBounds_toArray, List.set_cons_zero, List.set_cons_succ]
      refine wpAnyH_take (i := 9) (oi := { dst := some 30, op := Op.pick (Operand.tmp 26) (Operand.tmp 29) (Operand.const (Value.bool false)), type := 4, pos := "law.go:40", after := #[{ on := 5, ground := Ground.data }, { on := 8, ground := Ground.data }], guard := none }) (v := ?vp9) rfl (by kernel_rfl) (by kernel_rfl) (by kernel_rfl) (fun _ _ _ h => h) (Or.inl ⟨by rfl, ?hyp9⟩) hHeld ?_
      case hyp9 => (intro w hSw; (try dsimp only at hSw); go_simp; (try with_reducible rfl))
      try simp only [Act.put, List.setIfInBounds_toArray, List.set_cons_zero, List.set_cons_succ]
      refine wpAnyH_take (i := 10) (oi := { dst := some 31, op := Op.binOp BinOp.neq 4 (Operand.tmp 22) (Operand.tmp 30) 4, type := 4, pos := "law.go:40", after := #[{ on := 1, ground := Ground.data }, { on := 9, ground := Ground.data }], guard := none }) (v := ?vp10) rfl (by kernel_rfl) (by kernel_rfl) (by kernel_rfl) (fun _ _ _ h => h) (Or.inl ⟨by rfl, ?hyp10⟩) hHeld ?_
      case hyp10 => (intro w hSw; (try dsimp only at hSw); go_simp; (try with_reducible rfl))
      try simp only [Act.put, List.setIfInBounds_toArray, List.set_cons_zero, List.set_cons_succ]
      refine wpAnyH_done (by kernel_rfl) ?_ _
      clear hHeld d1 d2 a0 a1 a2 a3 a4 a5 a6 a7 a8 af
      have HB1 := HB4; have HX1 := HX4; have HM1 := HM4
      clear HB4 HX4 HM4
      generalize V3 = W1 at *
      obtain ⟨x0, x1, x2, x3⟩ := HX1.out
      go_wp2_with fail
      refine (Both_any a b c d v0 n c0 f _ (HS.out.below HB1.out) ⟨HG.out.1, HG.out.2.1.below HB1.out, HG.out.2.2⟩).mono ?_
      rintro e W2 (⟨_, rfl, hW⟩ | ⟨hok, P, rfl, hT⟩)
      · have HB2 := Lib.hid (belowOn HB1.out hW)
        have HM2 := Lib.hid (HM1.out.below hW)
        clear hW HX1 x0 x1 x2 x3 HM1 HB1
        obtain ⟨b0, b1, b2, b3, b4, b5, b6, b7, b8, bf⟩ := HM2.out.cells
        go_wp2_with fail
        refine (bStep17_nil l j xc m xa p fd tl cy _).mono ?_
        rintro e W9 ⟨rfl, hW⟩
        have HB9 := Lib.hid (belowOn HB2.out hW)
        clear hW HM2 HB2 b0 b1 b2 b3 b4 b5 b6 b7 b8 bf
        go_wp2_with fail
        go_ret
        exact ⟨rfl, below_on HB9.out _⟩
      · have HM2 := Lib.hid (HM1.out.below hT.old)
        obtain ⟨b0, b1, b2, b3, b4, b5, b6, b7, b8, bf⟩ := HM2.out.cells
        have HT := Lib.hid hT
        clear hT x0 x1 x2 x3 HX1
        go_wp2_with fail
        refine (Far_c ⟨l, j, xc, m, xa, p, fd, tl, cy⟩ _).mono ?_
        rintro e W3 ⟨far, rfl, hW, hnr⟩
        have HT3 := Lib.hid (HT.out.below hW)
        have HM3 := Lib.hid (HM2.out.below hW)
        have hold : Below W1.heap.size W1 W3 := HT3.out.old
        clear hW HT HM2 b0 b1 b2 b3 b4 b5 b6 b7 b8 bf
        cases far
        · obtain ⟨nj, nc, nm, nt, ny⟩ := (hnr rfl).all
          clear hnr
          unfold nearN at nj nc nm nt ny
          dsimp only at nj nc nm nt ny
          have HS1 := Lib.hid (HS.out.below HB1.out)
          have hu : Dy.U ⟨f, 0, 0, 0, 0, 0⟩ := HG.out.2.2.1
          have hC : CfOK ⟨n, a, b, c, d⟩ := ⟨hok.2.1, hok.2.2⟩
          have hn20 : n ≤ 20000 := by have := hok.2.1.prod; have h1 := hok.2.2; have h2 := hok.2.1; unfold Right at h2; omega
          have hA := bar17_c (C := ⟨n, a, b, c, d⟩) (s := ⟨f, 0, 0, 0, 0, 0⟩) HT3.out.hand hu (HS1.out.below hold) hok.2.1 hC.pos ⟨l, j, xc, m, xa, p, fd, tl, cy⟩ HU.out (by dsimp only; omega)
          have hR := (fun (s2 : Dy) W (h : Two W1 W P ⟨n, a, b, c, d⟩ s2 ⟨f, 0, 0, 0, 0, 0⟩) => rbar17_c (C := ⟨n, a, b, c, d⟩) (s := ⟨f, 0, 0, 0, 0, 0⟩) h.ref h.ltR hok.2.1 hu ⟨l, j, xc, m, xa, p, fd, tl, cy⟩ HU.out (by dsimp only; omega))
          generalize hst : shutS ⟨n, a, b, c, d⟩ ⟨f, 0, 0, 0, 0, 0⟩ ⟨l, j, xc, m, xa, p, fd, tl, cy⟩ = r at *
          obtain ⟨s', y, r0, r1⟩ := r
          dsimp only at hA hR
          have HA := Lib.hid hA; have HR := Lib.hid hR; have HN := Lib.hid hn20
          have hltm : w.heap.size + 1 < W1.heap.size := HM1.out.lt
          obtain ⟨b0, b1, b2, b3, b4, b5, b6, b7, b8, bf⟩ := HM3.out.cells
          clear hA hR hn20 hst hu hC hold hok HG HS HU nj nc nm nt ny
          go_wp2_with fail
          refine HA.out.mono ?_
          rintro e W4 hp
          obtain ⟨rfl, hT⟩ := Two.step HT3.out hp
          clear hp
          have HT4 := Lib.hid (hT.below (below_new W4 (.cells #[.int .i64 y.l, .int .i64 y.j, .int .i64 y.c, .int .i64 y.m, .int .u64 y.a, .int .u64 y.p, .bool y.fd, .int .i64 y.tl, .int .i64 y.cy] 28)))
          have HM4 : Hid (Col9 _ (w.heap.size + 1) l j xc m xa p fd tl cy) := Lib.hid (HM1.out.below HT4.out.old)
          have HN4 := Lib.hid (Col9.new W4 y.l y.j y.c y.m y.a y.p y.fd y.tl y.cy)
          have HP4 := Lib.hid (hT.apart (Nat.le_refl W4.heap.size))
          clear hT HT3 HM3 HA b0 b1 b2 b3 b4 b5 b6 b7 b8 bf
          obtain ⟨b0, b1, b2, b3, b4, b5, b6, b7, b8, bf⟩ := HM4.out.cells
          go_wp2_with fail
          refine (HR.out _ _ HT4.out).mono ?_
          rintro e W5 hp
          have hN5 := HN4.out.other (Pl.sav (.inr hp.2.2) HN4.out.lt HP4.out)
          obtain ⟨rfl, hT⟩ := Two.rstep HT4.out hp
          have HT5 := Lib.hid (hT.below (below_new W5 (.cells #[.int .i64 y.l, .int .i64 y.j, .int .i64 y.c, .int .i64 y.m, .int .u64 y.a, .int .u64 y.p, .bool y.fd, .int .i64 y.tl, .int .i64 y.cy] 28)))
          have HN5 := Lib.hid (hN5.below (below_new W5 (.cells #[.int .i64 y.l, .int .i64 y.j, .int .i64 y.c, .int .i64 y.m, .int .u64 y.a, .int .u64 y.p, .bool y.fd, .int .i64 y.tl, .int .i64 y.cy] 28)))
          have HO5 := Lib.hid (Col9.new W5 y.l y.j y.c y.m y.a y.p y.fd y.tl y.cy)
          clear hp hN5 hT HT4 HM4 HN4 HP4 HR b0 b1 b2 b3 b4 b5 b6 b7 b8 bf
          obtain ⟨b0, b1, b2, b3, b4, b5, b6, b7, b8, bf⟩ := HN5.out.cells
          obtain ⟨d0, d1, d2, d3, d4, d5, d6, d7, d8, df⟩ := HO5.out.cells
          have hl5 : W4.heap.size < (W5.alloc (.cells #[.int .i64 y.l, .int .i64 y.j, .int .i64 y.c, .int .i64 y.m, .int .u64 y.a, .int .u64 y.p, .bool y.fd, .int .i64 y.tl, .int .i64 y.cy] 28)).heap.size := HN5.out.lt
          go_wp2_with fail
          refine (Alike_c HT5.out HN.out).mono ?_
          rintro e W6 ⟨rfl, hT⟩
          have HT6 := Lib.hid hT
          clear hT HT5 HN5 HO5 b0 b1 b2 b3 b4 b5 b6 b7 b8 bf d0 d1 d2 d3 d4 d5 d6 d7 d8 df hl5
          go_wp2_with fail
          go_ret
          exact ⟨rfl, belowOn HB1.out HT6.out.old⟩
        · have HB3 := Lib.hid (belowOn HB1.out hold)
          clear HT3 hold HB1 hnr HM1
          obtain ⟨b0, b1, b2, b3, b4, b5, b6, b7, b8, bf⟩ := HM3.out.cells
          go_wp2_with fail
          refine (bStep17_nil l j xc m xa p fd tl cy _).mono ?_
          rintro e W9 ⟨rfl, hW⟩
          have HB9 := Lib.hid (belowOn HB3.out hW)
          clear hW HM3 HB3 b0 b1 b2 b3 b4 b5 b6 b7 b8 bf
          go_wp2_with fail
          go_ret
          exact ⟨rfl, below_on HB9.out _⟩
    · have d1 : decide (12 ≤ l) = true := decide_eq_true h12
      have d2 : decide (l ≤ 15) = false := decide_eq_false h15
      have HSh : Hid (∀ W, Calls Tryd.prog 8 #[(colV l j xc m xa p fd tl cy)] W fun e w' => e = .returned (.bool false) ∧ Below W.heap.size W w') := Lib.hid (fun W => by have := Shut_c ⟨l, j, xc, m, xa, p, fd, tl, cy⟩ W; simp only [d1, d2, Bool.true_and] at this; exact this)
      clear h12 h15
      have HB3 := Lib.hid HB1.out.drew; have HX3 : Hid (BoxAt W1.drew w.heap.size a b c d) := Lib.hid HX1.out; have HM3 := Lib.hid (HM1.out.other (w' := W1.drew) rfl)
      obtain ⟨a0, a1, a2, a3, a4, a5, a6, a7, a8, af⟩ := HM1.out.cells
      go_wp2_with fail
      clear HB1 HX1 HM1 a0 a1 a2 a3 a4 a5 a6 a7 a8 af
      obtain ⟨a0, a1, a2, a3, a4, a5, a6, a7, a8, af⟩ := HM3.out.cells
      refine wp_region_held_drew (S := (fun w' => w'.cell? ⟨w.heap.size + 1, 0, none⟩ = some (.int .i64 l) ∧ w'.cell? ⟨w.heap.size + 1, 1, none⟩ = some (.int .i64 j) ∧ w'.cell? ⟨w.heap.size + 1, 2, none⟩ = some (.int .i64 xc) ∧ w'.cell? ⟨w.heap.size + 1, 3, none⟩ = some (.int .i64 m) ∧ w'.cell? ⟨w.heap.size + 1, 4, none⟩ = some (.int .u64 xa) ∧ w'.cell? ⟨w.heap.size + 1, 5, none⟩ = some (.int .u64 p) ∧ w'.cell? ⟨w.heap.size + 1, 6, none⟩ = some (.bool fd) ∧ w'.cell? ⟨w.heap.size + 1, 7, none⟩ = some (.int .i64 tl) ∧ w'.cell? ⟨w.heap.size + 1, 8, none⟩ = some (.int .i64 cy))) (by kernel_rfl) ?_ (fun hHeld => ?_)
      · exact ⟨a0, a1, a2, a3, a4, a5, a6, a7, a8⟩
      refine wpAnyH_take (i := 0) (oi := { dst := some 21, op := Op.load 28 (Operand.tmp 5), type := 28, pos := "law.go:40", after := #[], guard := none }) (v := ?vq0) rfl (by kernel_rfl) (by kernel_rfl) (by kernel_rfl) (fun _ _ _ h => h) (Or.inl ⟨by rfl, ?hyq0⟩) hHeld ?_
      case hyq0 => (intro w hSw; (try dsimp only at hSw); go_simp; (try with_reducible rfl))
      try simp only [Act.put, List.setIfInBounds_toArray, List.set_cons_zero, List.set_cons_succ]
      refine wpAnyH_take (i := 2) (oi := { dst := some 23, op := Op.fieldAddr 28 (Operand.tmp 5) 0, type := 0, pos := "law.go:40", after := #[], guard := none }) (v := ?vq2) rfl (by kernel_rfl) (by kernel_rfl) (by kernel_rfl) (fun _ _ _ h => h) (Or.inl ⟨by rfl, ?hyq2⟩) hHeld ?_
      case hyq2 => (intro w hSw; (try dsimp only at hSw); go_simp; (try with_reducible rfl))
      try simp only [Act.put, List.setIfInBounds_toArray, List.set_cons_zero, List.set_cons_succ]
      refine wpAnyH_take (i := 3) (oi := { dst := some 24, op := Op.load 3 (Operand.tmp 23), type := 3, pos := "law.go:40", after := #[{ on := 2, ground := Ground.data }], guard := none }) (v := ?vq3) rfl (by kernel_rfl) (by kernel_rfl) (by kernel_rfl) (fun _ _ _ h => h) (Or.inl ⟨by rfl, ?hyq3⟩) hHeld ?_
      case hyq3 => (intro w hSw; (try dsimp only at hSw); go_simp; (try with_reducible rfl))
      try simp only [Act.put, List.setIfInBounds_toArray, List.set_cons_zero, List.set_cons_succ]
      refine wpAnyH_take (i := 4) (oi := { dst := some 25, op := Op.binOp BinOp.geq 3 (Operand.tmp 24) (Operand.const (Value.int IntKind.i64 12)) 3, type := 4, pos := "law.go:40", after := #[{ on := 3, ground := Ground.data }], guard := none }) (v := ?vq4) rfl (by kernel_rfl) (by kernel_rfl) (by kernel_rfl) (fun _ _ _ h => h) (Or.inl ⟨by rfl, ?hyq4⟩) hHeld ?_
      case hyq4 => (intro w hSw; (try dsimp only at hSw); go_simp; (try with_reducible rfl))
      try simp only [Act.put, List.setIfInBounds_toArray, List.set_cons_zero, List.set_cons_succ]
      refine wpAnyH_ready (rs := [1]) (by kernel_rfl) (by simp) ?_
      refine AllReadyH.cons (o := { dst := some 22, op := Op.call { callee := Callee.value (Operand.func 8), args := #[Operand.tmp 21], argTypes := #[28] }, type := 4, pos := "law.go:40", after := #[{ on := 0, ground := Ground.data }], guard := none }) rfl (fun K hK => ?_) AllReadyH.nil
      go_simp
      refine (HSh.out _).mono ?_
      rintro e V3 ⟨rfl, hb⟩
      have HB4 := Lib.hid (belowOn HB3.out hb); have HX4 := Lib.hid (HX3.out.below hb); have HM4 := Lib.hid (HM3.out.below hb)
      clear hb hHeld HB3 HX3 HM3 HSh a0 a1 a2 a3 a4 a5 a6 a7 a8 af
      obtain ⟨a0, a1, a2, a3, a4, a5, a6, a7, a8, af⟩ := HM4.out.cells
      refine hK.out _ _ ?_ (fun hHeld => ?_)
      · exact ⟨a0, a1, a2, a3, a4, a5, a6, a7, a8⟩
      clear hK K
      try simp only [Act.put, List.setIfInBounds_toArray, List.set_cons_zero, List.set_cons_succ]
      refine wpAnyH_take (i := 5) (oi := { dst := some 26, op := Op.move (Operand.tmp 25), type := 4, pos := "law.go:40", after := #[{ on := 4, ground := Ground.data }, { on := 1, ground := Ground.chain }], guard := none }) (v := ?vq5) rfl (by kernel_rfl) (by kernel_rfl) (by kernel_rfl) (fun _ _ _ h => h) (Or.inl ⟨by rfl, ?hyq5⟩) hHeld ?_
      case hyq5 => (intro w hSw; (try dsimp only at hSw); go_simp; (try with_reducible rfl))
      try simp only [Act.put, List.setIfInBounds_toArray, List.set_cons_zero, List.set_cons_succ]
      refine wpAnyH_take (i := 6) (oi := { dst := some 27, op := Op.fieldAddr 28 (Operand.tmp 5) 0, type := 0, pos := "law.go:40", after := #[{ on := 5, ground := Ground.guard }], guard := some (5, true) }) (v := ?vq6) rfl (by kernel_rfl) (by kernel_rfl) (by kernel_rfl) (fun _ _ _ h => h) (Or.inl ⟨by rfl, ?hyq6⟩) hHeld ?_
      case hyq6 => (intro w hSw; (try dsimp only at hSw); go_simp; (try with_reducible rfl))
      try simp only [Act.put, List.setIfInBounds_toArray, List.set_cons_zero, List.set_cons_succ]
      refine wpAnyH_take (i := 7) (oi := { dst := some 28, op := Op.load 3 (Operand.tmp 27), type := 3, pos := "law.go:40", after := #[{ on := 6, ground := Ground.data }, { on := 5, ground := Ground.guard }], guard := some (5, true) }) (v := ?vq7) rfl (by kernel_rfl) (by kernel_rfl) (by kernel_rfl) (fun _ _ _ h => h) (Or.inl ⟨by rfl, ?hyq7⟩) hHeld ?_
      case hyq7 => (intro w hSw; (try dsimp only at hSw); go_simp; (try with_reducible rfl))
      try simp only [Act.put, List.setIfInBounds_toArray, List.set_cons_zero, List.set_cons_succ]
      refine wpAnyH_take (i := 8) (oi := { dst := some 29, op := Op.binOp BinOp.leq 3 (Operand.tmp 28) (Operand.const (Value.int IntKind.i64 15)) 3, type := 4, pos := "law.go:40", after := #[{ on := 7, ground := Ground.data }, { on := 5, ground := Ground.guard }], guard := some (5, true) }) (v := ?vq8) rfl (by kernel_rfl) (by kernel_rfl) (by kernel_rfl) (fun _ _ _ h => h) (Or.inl ⟨by rfl, ?hyq8⟩) hHeld ?_
      case hyq8 => (intro w hSw; (try dsimp only at hSw); go_simp; (try with_reducible rfl))
      try simp only [Act.put, List.setIfInBounds_toArray, List.set_cons_zero, List.set_cons_succ]
      refine wpAnyH_take (i := 9) (oi := { dst := some 30, op := Op.pick (Operand.tmp 26) (Operand.tmp 29) (Operand.const (Value.bool false)), type := 4, pos := "law.go:40", after := #[{ on := 5, ground := Ground.data }, { on := 8, ground := Ground.data }], guard := none }) (v := ?vq9) rfl (by kernel_rfl) (by kernel_rfl) (by kernel_rfl) (fun _ _ _ h => h) (Or.inl ⟨by rfl, ?hyq9⟩) hHeld ?_
      case hyq9 => (intro w hSw; (try dsimp only at hSw); go_simp; (try with_reducible rfl))
      try simp only [Act.put, List.setIfInBounds_toArray, List.set_cons_zero, List.set_cons_succ]
      refine wpAnyH_take (i := 10) (oi := { dst := some 31, op := Op.binOp BinOp.neq 4 (Operand.tmp 22) (Operand.tmp 30) 4, type := 4, pos := "law.go:40", after := #[{ on := 1, ground := Ground.data }, { on := 9, ground := Ground.data }], guard := none }) (v := ?vq10) rfl (by kernel_rfl) (by kernel_rfl) (by kernel_rfl) (fun _ _ _ h => h) (Or.inl ⟨by rfl, ?hyq10⟩) hHeld ?_
      case hyq10 => (intro w hSw; (try dsimp only at hSw); go_simp; (try with_reducible rfl))
      try simp only [Act.put, List.setIfInBounds_toArray, List.set_cons_zero, List.set_cons_succ]
      refine wpAnyH_done (by kernel_rfl) ?_ _
      clear hHeld d1 d2 a0 a1 a2 a3 a4 a5 a6 a7 a8 af
      have HB1 := HB4; have HX1 := HX4; have HM1 := HM4
      clear HB4 HX4 HM4
      generalize V3 = W1 at *
      obtain ⟨x0, x1, x2, x3⟩ := HX1.out
      go_wp2_with fail
      refine (Both_any a b c d v0 n c0 f _ (HS.out.below HB1.out) ⟨HG.out.1, HG.out.2.1.below HB1.out, HG.out.2.2⟩).mono ?_
      rintro e W2 (⟨_, rfl, hW⟩ | ⟨hok, P, rfl, hT⟩)
      · have HB2 := Lib.hid (belowOn HB1.out hW)
        have HM2 := Lib.hid (HM1.out.below hW)
        clear hW HX1 x0 x1 x2 x3 HM1 HB1
        obtain ⟨b0, b1, b2, b3, b4, b5, b6, b7, b8, bf⟩ := HM2.out.cells
        go_wp2_with fail
        refine (bStep17_nil l j xc m xa p fd tl cy _).mono ?_
        rintro e W9 ⟨rfl, hW⟩
        have HB9 := Lib.hid (belowOn HB2.out hW)
        clear hW HM2 HB2 b0 b1 b2 b3 b4 b5 b6 b7 b8 bf
        go_wp2_with fail
        go_ret
        exact ⟨rfl, below_on HB9.out _⟩
      · have HM2 := Lib.hid (HM1.out.below hT.old)
        obtain ⟨b0, b1, b2, b3, b4, b5, b6, b7, b8, bf⟩ := HM2.out.cells
        have HT := Lib.hid hT
        clear hT x0 x1 x2 x3 HX1
        go_wp2_with fail
        refine (Far_c ⟨l, j, xc, m, xa, p, fd, tl, cy⟩ _).mono ?_
        rintro e W3 ⟨far, rfl, hW, hnr⟩
        have HT3 := Lib.hid (HT.out.below hW)
        have HM3 := Lib.hid (HM2.out.below hW)
        have hold : Below W1.heap.size W1 W3 := HT3.out.old
        clear hW HT HM2 b0 b1 b2 b3 b4 b5 b6 b7 b8 bf
        cases far
        · obtain ⟨nj, nc, nm, nt, ny⟩ := (hnr rfl).all
          clear hnr
          unfold nearN at nj nc nm nt ny
          dsimp only at nj nc nm nt ny
          have HS1 := Lib.hid (HS.out.below HB1.out)
          have hu : Dy.U ⟨f, 0, 0, 0, 0, 0⟩ := HG.out.2.2.1
          have hC : CfOK ⟨n, a, b, c, d⟩ := ⟨hok.2.1, hok.2.2⟩
          have hn20 : n ≤ 20000 := by have := hok.2.1.prod; have h1 := hok.2.2; have h2 := hok.2.1; unfold Right at h2; omega
          have hA := bar17_c (C := ⟨n, a, b, c, d⟩) (s := ⟨f, 0, 0, 0, 0, 0⟩) HT3.out.hand hu (HS1.out.below hold) hok.2.1 hC.pos ⟨l, j, xc, m, xa, p, fd, tl, cy⟩ HU.out (by dsimp only; omega)
          have hR := (fun (s2 : Dy) W (h : Two W1 W P ⟨n, a, b, c, d⟩ s2 ⟨f, 0, 0, 0, 0, 0⟩) => rbar17_c (C := ⟨n, a, b, c, d⟩) (s := ⟨f, 0, 0, 0, 0, 0⟩) h.ref h.ltR hok.2.1 hu ⟨l, j, xc, m, xa, p, fd, tl, cy⟩ HU.out (by dsimp only; omega))
          generalize hst : shutS ⟨n, a, b, c, d⟩ ⟨f, 0, 0, 0, 0, 0⟩ ⟨l, j, xc, m, xa, p, fd, tl, cy⟩ = r at *
          obtain ⟨s', y, r0, r1⟩ := r
          dsimp only at hA hR
          have HA := Lib.hid hA; have HR := Lib.hid hR; have HN := Lib.hid hn20
          have hltm : w.heap.size + 1 < W1.heap.size := HM1.out.lt
          obtain ⟨b0, b1, b2, b3, b4, b5, b6, b7, b8, bf⟩ := HM3.out.cells
          clear hA hR hn20 hst hu hC hold hok HG HS HU nj nc nm nt ny
          go_wp2_with fail
          refine HA.out.mono ?_
          rintro e W4 hp
          obtain ⟨rfl, hT⟩ := Two.step HT3.out hp
          clear hp
          have HT4 := Lib.hid (hT.below (below_new W4 (.cells #[.int .i64 y.l, .int .i64 y.j, .int .i64 y.c, .int .i64 y.m, .int .u64 y.a, .int .u64 y.p, .bool y.fd, .int .i64 y.tl, .int .i64 y.cy] 28)))
          have HM4 : Hid (Col9 _ (w.heap.size + 1) l j xc m xa p fd tl cy) := Lib.hid (HM1.out.below HT4.out.old)
          have HN4 := Lib.hid (Col9.new W4 y.l y.j y.c y.m y.a y.p y.fd y.tl y.cy)
          have HP4 := Lib.hid (hT.apart (Nat.le_refl W4.heap.size))
          clear hT HT3 HM3 HA b0 b1 b2 b3 b4 b5 b6 b7 b8 bf
          obtain ⟨b0, b1, b2, b3, b4, b5, b6, b7, b8, bf⟩ := HM4.out.cells
          go_wp2_with fail
          refine (HR.out _ _ HT4.out).mono ?_
          rintro e W5 hp
          have hN5 := HN4.out.other (Pl.sav (.inr hp.2.2) HN4.out.lt HP4.out)
          obtain ⟨rfl, hT⟩ := Two.rstep HT4.out hp
          have HT5 := Lib.hid (hT.below (below_new W5 (.cells #[.int .i64 y.l, .int .i64 y.j, .int .i64 y.c, .int .i64 y.m, .int .u64 y.a, .int .u64 y.p, .bool y.fd, .int .i64 y.tl, .int .i64 y.cy] 28)))
          have HN5 := Lib.hid (hN5.below (below_new W5 (.cells #[.int .i64 y.l, .int .i64 y.j, .int .i64 y.c, .int .i64 y.m, .int .u64 y.a, .int .u64 y.p, .bool y.fd, .int .i64 y.tl, .int .i64 y.cy] 28)))
          have HO5 := Lib.hid (Col9.new W5 y.l y.j y.c y.m y.a y.p y.fd y.tl y.cy)
          clear hp hN5 hT HT4 HM4 HN4 HP4 HR b0 b1 b2 b3 b4 b5 b6 b7 b8 bf
          obtain ⟨b0, b1, b2, b3, b4, b5, b6, b7, b8, bf⟩ := HN5.out.cells
          obtain ⟨d0, d1, d2, d3, d4, d5, d6, d7, d8, df⟩ := HO5.out.cells
          have hl5 : W4.heap.size < (W5.alloc (.cells #[.int .i64 y.l, .int .i64 y.j, .int .i64 y.c, .int .i64 y.m, .int .u64 y.a, .int .u64 y.p, .bool y.fd, .int .i64 y.tl, .int .i64 y.cy] 28)).heap.size := HN5.out.lt
          go_wp2_with fail
          refine (Alike_c HT5.out HN.out).mono ?_
          rintro e W6 ⟨rfl, hT⟩
          have HT6 := Lib.hid hT
          clear hT HT5 HN5 HO5 b0 b1 b2 b3 b4 b5 b6 b7 b8 bf d0 d1 d2 d3 d4 d5 d6 d7 d8 df hl5
          go_wp2_with fail
          go_ret
          exact ⟨rfl, belowOn HB1.out HT6.out.old⟩
        · have HB3 := Lib.hid (belowOn HB1.out hold)
          clear HT3 hold HB1 hnr HM1
          obtain ⟨b0, b1, b2, b3, b4, b5, b6, b7, b8, bf⟩ := HM3.out.cells
          go_wp2_with fail
          refine (bStep17_nil l j xc m xa p fd tl cy _).mono ?_
          rintro e W9 ⟨rfl, hW⟩
          have HB9 := Lib.hid (belowOn HB3.out hW)
          clear hW HM3 HB3 b0 b1 b2 b3 b4 b5 b6 b7 b8 bf
          go_wp2_with fail
          go_ret
          exact ⟨rfl, below_on HB9.out _⟩
  have d1 : decide (12 ≤ l) = false := decide_eq_false h12
  have HSh : Hid (∀ W, Calls Tryd.prog 8 #[(colV l j xc m xa p fd tl cy)] W fun e w' => e = .returned (.bool false) ∧ Below W.heap.size W w') := Lib.hid (fun W => by have := Shut_c ⟨l, j, xc, m, xa, p, fd, tl, cy⟩ W; simp only [d1, Bool.false_and] at this; exact this)
  clear h12
  have HB3 := Lib.hid HB1.out.drew; have HX3 : Hid (BoxAt W1.drew w.heap.size a b c d) := Lib.hid HX1.out; have HM3 := Lib.hid (HM1.out.other (w' := W1.drew) rfl)
  obtain ⟨a0, a1, a2, a3, a4, a5, a6, a7, a8, af⟩ := HM1.out.cells
  go_wp2_with fail
  clear HB1 HX1 HM1 a0 a1 a2 a3 a4 a5 a6 a7 a8 af
  obtain ⟨a0, a1, a2, a3, a4, a5, a6, a7, a8, af⟩ := HM3.out.cells
  refine wp_region_held_drew (S := (fun w' => w'.cell? ⟨w.heap.size + 1, 0, none⟩ = some (.int .i64 l) ∧ w'.cell? ⟨w.heap.size + 1, 1, none⟩ = some (.int .i64 j) ∧ w'.cell? ⟨w.heap.size + 1, 2, none⟩ = some (.int .i64 xc) ∧ w'.cell? ⟨w.heap.size + 1, 3, none⟩ = some (.int .i64 m) ∧ w'.cell? ⟨w.heap.size + 1, 4, none⟩ = some (.int .u64 xa) ∧ w'.cell? ⟨w.heap.size + 1, 5, none⟩ = some (.int .u64 p) ∧ w'.cell? ⟨w.heap.size + 1, 6, none⟩ = some (.bool fd) ∧ w'.cell? ⟨w.heap.size + 1, 7, none⟩ = some (.int .i64 tl) ∧ w'.cell? ⟨w.heap.size + 1, 8, none⟩ = some (.int .i64 cy))) (by kernel_rfl) ?_ (fun hHeld => ?_)
  · exact ⟨a0, a1, a2, a3, a4, a5, a6, a7, a8⟩
  refine wpAnyH_take (i := 0) (oi := { dst := some 21, op := Op.load 28 (Operand.tmp 5), type := 28, pos := "law.go:40", after := #[], guard := none }) (v := ?vr0) rfl (by kernel_rfl) (by kernel_rfl) (by kernel_rfl) (fun _ _ _ h => h) (Or.inl ⟨by rfl, ?hyr0⟩) hHeld ?_
  case hyr0 => (intro w hSw; (try dsimp only at hSw); go_simp; (try with_reducible rfl))
  try simp only [Act.put, List.setIfInBounds_toArray, List.set_cons_zero, List.set_cons_succ]
  refine wpAnyH_take (i := 2) (oi := { dst := some 23, op := Op.fieldAddr 28 (Operand.tmp 5) 0, type := 0, pos := "law.go:40", after := #[], guard := none }) (v := ?vr2) rfl (by kernel_rfl) (by kernel_rfl) (by kernel_rfl) (fun _ _ _ h => h) (Or.inl ⟨by rfl, ?hyr2⟩) hHeld ?_
  case hyr2 => (intro w hSw; (try dsimp only at hSw); go_simp; (try with_reducible rfl))
  try simp only [Act.put, List.setIfInBounds_toArray, List.set_cons_zero, List.set_cons_succ]
  refine wpAnyH_take (i := 3) (oi := { dst := some 24, op := Op.load 3 (Operand.tmp 23), type := 3, pos := "law.go:40", after := #[{ on := 2, ground := Ground.data }], guard := none }) (v := ?vr3) rfl (by kernel_rfl) (by kernel_rfl) (by kernel_rfl) (fun _ _ _ h => h) (Or.inl ⟨by rfl, ?hyr3⟩) hHeld ?_
  case hyr3 => (intro w hSw; (try dsimp only at hSw); go_simp; (try with_reducible rfl))
  try simp only [Act.put, List.setIfInBounds_toArray, List.set_cons_zero, List.set_cons_succ]
  refine wpAnyH_take (i := 4) (oi := { dst := some 25, op := Op.binOp BinOp.geq 3 (Operand.tmp 24) (Operand.const (Value.int IntKind.i64 12)) 3, type := 4, pos := "law.go:40", after := #[{ on := 3, ground := Ground.data }], guard := none }) (v := ?vr4) rfl (by kernel_rfl) (by kernel_rfl) (by kernel_rfl) (fun _ _ _ h => h) (Or.inl ⟨by rfl, ?hyr4⟩) hHeld ?_
  case hyr4 => (intro w hSw; (try dsimp only at hSw); go_simp; (try with_reducible rfl))
  try simp only [Act.put, List.setIfInBounds_toArray, List.set_cons_zero, List.set_cons_succ]
  refine wpAnyH_ready (rs := [1]) (by kernel_rfl) (by simp) ?_
  refine AllReadyH.cons (o := { dst := some 22, op := Op.call { callee := Callee.value (Operand.func 8), args := #[Operand.tmp 21], argTypes := #[28] }, type := 4, pos := "law.go:40", after := #[{ on := 0, ground := Ground.data }], guard := none }) rfl (fun K hK => ?_) AllReadyH.nil
  go_simp
  refine (HSh.out _).mono ?_
  rintro e V3 ⟨rfl, hb⟩
  have HB4 := Lib.hid (belowOn HB3.out hb); have HX4 := Lib.hid (HX3.out.below hb); have HM4 := Lib.hid (HM3.out.below hb)
  clear hb hHeld HB3 HX3 HM3 HSh a0 a1 a2 a3 a4 a5 a6 a7 a8 af
  obtain ⟨a0, a1, a2, a3, a4, a5, a6, a7, a8, af⟩ := HM4.out.cells
  refine hK.out _ _ ?_ (fun hHeld => ?_)
  · exact ⟨a0, a1, a2, a3, a4, a5, a6, a7, a8⟩
  clear hK K
  try simp only [Act.put, List.setIfInBounds_toArray, List.set_cons_zero, List.set_cons_succ]
  refine wpAnyH_take (i := 5) (oi := { dst := some 26, op := Op.move (Operand.tmp 25), type := 4, pos := "law.go:40", after := #[{ on := 4, ground := Ground.data }, { on := 1, ground := Ground.chain }], guard := none }) (v := ?vr5) rfl (by kernel_rfl) (by kernel_rfl) (by kernel_rfl) (fun _ _ _ h => h) (Or.inl ⟨by rfl, ?hyr5⟩) hHeld ?_
  case hyr5 => (intro w hSw; (try dsimp only at hSw); go_simp; (try with_reducible rfl))
  try simp only [Act.put, List.setIfInBounds_toArray, List.set_cons_zero, List.set_cons_succ]
  refine wpAnyH_take (i := 6) (oi := { dst := some 27, op := Op.fieldAddr 28 (Operand.tmp 5) 0, type := 0, pos := "law.go:40", after := #[{ on := 5, ground := Ground.guard }], guard := some (5, true) }) (v := undef) rfl (by kernel_rfl) (by kernel_rfl) (by kernel_rfl) (fun _ _ _ h => h) (Or.inr ⟨by rfl, rfl⟩) hHeld ?_
  try simp only [Act.put, List.setIfInBounds_toArray, List.set_cons_zero, List.set_cons_succ]
  refine wpAnyH_take (i := 7) (oi := { dst := some 28, op := Op.load 3 (Operand.tmp 27), type := 3, pos := "law.go:40", after := #[{ on := 6, ground := Ground.data }, { on := 5, ground := Ground.guard }], guard := some (5, true) }) (v := undef) rfl (by kernel_rfl) (by kernel_rfl) (by kernel_rfl) (fun _ _ _ h => h) (Or.inr ⟨by rfl, rfl⟩) hHeld ?_
  try simp only [Act.put, List.setIfInBounds_toArray, List.set_cons_zero, List.set_cons_succ]
  refine wpAnyH_take (i := 8) (oi := { dst := some 29, op := Op.binOp BinOp.leq 3 (Operand.tmp 28) (Operand.const (Value.int IntKind.i64 15)) 3, type := 4, pos := "law.go:40", after := #[{ on := 7, ground := Ground.data }, { on := 5, ground := Ground.guard }], guard := some (5, true) }) (v := undef) rfl (by kernel_rfl) (by kernel_rfl) (by kernel_rfl) (fun _ _ _ h => h) (Or.inr ⟨by rfl, rfl⟩) hHeld ?_
  try simp only [Act.put, List.setIfInBounds_toArray, List.set_cons_zero, List.set_cons_succ]
  refine wpAnyH_take (i := 9) (oi := { dst := some 30, op := Op.pick (Operand.tmp 26) (Operand.tmp 29) (Operand.const (Value.bool false)), type := 4, pos := "law.go:40", after := #[{ on := 5, ground := Ground.data }, { on := 8, ground := Ground.data }], guard := none }) (v := ?vr9) rfl (by kernel_rfl) (by kernel_rfl) (by kernel_rfl) (fun _ _ _ h => h) (Or.inl ⟨by rfl, ?hyr9⟩) hHeld ?_
  case hyr9 => (intro w hSw; (try dsimp only at hSw); go_simp; (try with_reducible rfl))
  try simp only [Act.put, List.setIfInBounds_toArray, List.set_cons_zero, List.set_cons_succ]
  refine wpAnyH_take (i := 10) (oi := { dst := some 31, op := Op.binOp BinOp.neq 4 (Operand.tmp 22) (Operand.tmp 30) 4, type := 4, pos := "law.go:40", after := #[{ on := 1, ground := Ground.data }, { on := 9, ground := Ground.data }], guard := none }) (v := ?vr10) rfl (by kernel_rfl) (by kernel_rfl) (by kernel_rfl) (fun _ _ _ h => h) (Or.inl ⟨by rfl, ?hyr10⟩) hHeld ?_
  case hyr10 => (intro w hSw; (try dsimp only at hSw); go_simp; (try with_reducible rfl))
  try simp only [Act.put, List.setIfInBounds_toArray, List.set_cons_zero, List.set_cons_succ]
  refine wpAnyH_done (by kernel_rfl) ?_ _
  clear hHeld d1  a0 a1 a2 a3 a4 a5 a6 a7 a8 af
  have HB1 := HB4; have HX1 := HX4; have HM1 := HM4
  clear HB4 HX4 HM4
  generalize V3 = W1 at *
  obtain ⟨x0, x1, x2, x3⟩ := HX1.out
  go_wp2_with fail
  refine (Both_any a b c d v0 n c0 f _ (HS.out.below HB1.out) ⟨HG.out.1, HG.out.2.1.below HB1.out, HG.out.2.2⟩).mono ?_
  rintro e W2 (⟨_, rfl, hW⟩ | ⟨hok, P, rfl, hT⟩)
  · have HB2 := Lib.hid (belowOn HB1.out hW)
    have HM2 := Lib.hid (HM1.out.below hW)
    clear hW HX1 x0 x1 x2 x3 HM1 HB1
    obtain ⟨b0, b1, b2, b3, b4, b5, b6, b7, b8, bf⟩ := HM2.out.cells
    go_wp2_with fail
    refine (bStep17_nil l j xc m xa p fd tl cy _).mono ?_
    rintro e W9 ⟨rfl, hW⟩
    have HB9 := Lib.hid (belowOn HB2.out hW)
    clear hW HM2 HB2 b0 b1 b2 b3 b4 b5 b6 b7 b8 bf
    go_wp2_with fail
    go_ret
    exact ⟨rfl, below_on HB9.out _⟩
  · have HM2 := Lib.hid (HM1.out.below hT.old)
    obtain ⟨b0, b1, b2, b3, b4, b5, b6, b7, b8, bf⟩ := HM2.out.cells
    have HT := Lib.hid hT
    clear hT x0 x1 x2 x3 HX1
    go_wp2_with fail
    refine (Far_c ⟨l, j, xc, m, xa, p, fd, tl, cy⟩ _).mono ?_
    rintro e W3 ⟨far, rfl, hW, hnr⟩
    have HT3 := Lib.hid (HT.out.below hW)
    have HM3 := Lib.hid (HM2.out.below hW)
    have hold : Below W1.heap.size W1 W3 := HT3.out.old
    clear hW HT HM2 b0 b1 b2 b3 b4 b5 b6 b7 b8 bf
    cases far
    · obtain ⟨nj, nc, nm, nt, ny⟩ := (hnr rfl).all
      clear hnr
      unfold nearN at nj nc nm nt ny
      dsimp only at nj nc nm nt ny
      have HS1 := Lib.hid (HS.out.below HB1.out)
      have hu : Dy.U ⟨f, 0, 0, 0, 0, 0⟩ := HG.out.2.2.1
      have hC : CfOK ⟨n, a, b, c, d⟩ := ⟨hok.2.1, hok.2.2⟩
      have hn20 : n ≤ 20000 := by have := hok.2.1.prod; have h1 := hok.2.2; have h2 := hok.2.1; unfold Right at h2; omega
      have hA := bar17_c (C := ⟨n, a, b, c, d⟩) (s := ⟨f, 0, 0, 0, 0, 0⟩) HT3.out.hand hu (HS1.out.below hold) hok.2.1 hC.pos ⟨l, j, xc, m, xa, p, fd, tl, cy⟩ HU.out (by dsimp only; omega)
      have hR := (fun (s2 : Dy) W (h : Two W1 W P ⟨n, a, b, c, d⟩ s2 ⟨f, 0, 0, 0, 0, 0⟩) => rbar17_c (C := ⟨n, a, b, c, d⟩) (s := ⟨f, 0, 0, 0, 0, 0⟩) h.ref h.ltR hok.2.1 hu ⟨l, j, xc, m, xa, p, fd, tl, cy⟩ HU.out (by dsimp only; omega))
      generalize hst : shutS ⟨n, a, b, c, d⟩ ⟨f, 0, 0, 0, 0, 0⟩ ⟨l, j, xc, m, xa, p, fd, tl, cy⟩ = r at *
      obtain ⟨s', y, r0, r1⟩ := r
      dsimp only at hA hR
      have HA := Lib.hid hA; have HR := Lib.hid hR; have HN := Lib.hid hn20
      have hltm : w.heap.size + 1 < W1.heap.size := HM1.out.lt
      obtain ⟨b0, b1, b2, b3, b4, b5, b6, b7, b8, bf⟩ := HM3.out.cells
      clear hA hR hn20 hst hu hC hold hok HG HS HU nj nc nm nt ny
      go_wp2_with fail
      refine HA.out.mono ?_
      rintro e W4 hp
      obtain ⟨rfl, hT⟩ := Two.step HT3.out hp
      clear hp
      have HT4 := Lib.hid (hT.below (below_new W4 (.cells #[.int .i64 y.l, .int .i64 y.j, .int .i64 y.c, .int .i64 y.m, .int .u64 y.a, .int .u64 y.p, .bool y.fd, .int .i64 y.tl, .int .i64 y.cy] 28)))
      have HM4 : Hid (Col9 _ (w.heap.size + 1) l j xc m xa p fd tl cy) := Lib.hid (HM1.out.below HT4.out.old)
      have HN4 := Lib.hid (Col9.new W4 y.l y.j y.c y.m y.a y.p y.fd y.tl y.cy)
      have HP4 := Lib.hid (hT.apart (Nat.le_refl W4.heap.size))
      clear hT HT3 HM3 HA b0 b1 b2 b3 b4 b5 b6 b7 b8 bf
      obtain ⟨b0, b1, b2, b3, b4, b5, b6, b7, b8, bf⟩ := HM4.out.cells
      go_wp2_with fail
      refine (HR.out _ _ HT4.out).mono ?_
      rintro e W5 hp
      have hN5 := HN4.out.other (Pl.sav (.inr hp.2.2) HN4.out.lt HP4.out)
      obtain ⟨rfl, hT⟩ := Two.rstep HT4.out hp
      have HT5 := Lib.hid (hT.below (below_new W5 (.cells #[.int .i64 y.l, .int .i64 y.j, .int .i64 y.c, .int .i64 y.m, .int .u64 y.a, .int .u64 y.p, .bool y.fd, .int .i64 y.tl, .int .i64 y.cy] 28)))
      have HN5 := Lib.hid (hN5.below (below_new W5 (.cells #[.int .i64 y.l, .int .i64 y.j, .int .i64 y.c, .int .i64 y.m, .int .u64 y.a, .int .u64 y.p, .bool y.fd, .int .i64 y.tl, .int .i64 y.cy] 28)))
      have HO5 := Lib.hid (Col9.new W5 y.l y.j y.c y.m y.a y.p y.fd y.tl y.cy)
      clear hp hN5 hT HT4 HM4 HN4 HP4 HR b0 b1 b2 b3 b4 b5 b6 b7 b8 bf
      obtain ⟨b0, b1, b2, b3, b4, b5, b6, b7, b8, bf⟩ := HN5.out.cells
      obtain ⟨d0, d1, d2, d3, d4, d5, d6, d7, d8, df⟩ := HO5.out.cells
      have hl5 : W4.heap.size < (W5.alloc (.cells #[.int .i64 y.l, .int .i64 y.j, .int .i64 y.c, .int .i64 y.m, .int .u64 y.a, .int .u64 y.p, .bool y.fd, .int .i64 y.tl, .int .i64 y.cy] 28)).heap.size := HN5.out.lt
      go_wp2_with fail
      refine (Alike_c HT5.out HN.out).mono ?_
      rintro e W6 ⟨rfl, hT⟩
      have HT6 := Lib.hid hT
      clear hT HT5 HN5 HO5 b0 b1 b2 b3 b4 b5 b6 b7 b8 bf d0 d1 d2 d3 d4 d5 d6 d7 d8 df hl5
      go_wp2_with fail
      go_ret
      exact ⟨rfl, belowOn HB1.out HT6.out.old⟩
    · have HB3 := Lib.hid (belowOn HB1.out hold)
      clear HT3 hold HB1 hnr HM1
      obtain ⟨b0, b1, b2, b3, b4, b5, b6, b7, b8, bf⟩ := HM3.out.cells
      go_wp2_with fail
      refine (bStep17_nil l j xc m xa p fd tl cy _).mono ?_
      rintro e W9 ⟨rfl, hW⟩
      have HB9 := Lib.hid (belowOn HB3.out hW)
      clear hW HM3 HB3 b0 b1 b2 b3 b4 b5 b6 b7 b8 bf
      go_wp2_with fail
      go_ret
      exact ⟨rfl, below_on HB9.out _⟩
end Go.Proofs.YtjmbahdlgnobaaaDoor
