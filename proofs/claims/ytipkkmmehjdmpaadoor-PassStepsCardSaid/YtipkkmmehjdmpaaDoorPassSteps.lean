/- PassSteps answers true: a step from any line, over any words, is as the document says. -/
import Derived.Test.YtipkkmmehjdmpaaDoorPassAwake
import Derived.Test.YtipkkmmehjdmpaaDoorColFar
import Derived.Test.YtipkkmmehjdmpaaDoorTwo
namespace Go.Proofs.YtipkkmmehjdmpaaDoor
open Go Go.RowKit
set_option maxRecDepth 100000
attribute [local go_sem ↓] Go.wp_at_zero Go.wp_at_succ

set_option maxHeartbeats 6400000 in
theorem steps_any (a b c d : Int) (v0 : Option Addr) (n c0 : Nat) (f : Nat → Int) (x : Co) (hm : x.U) (w : World) (hS : SpansAt w) (hG : Given w v0 n c0 f) :
    Calls Tryd.prog 3 #[.agg #[.int .i64 a, .int .i64 b, .int .i64 c, .int .i64 d], .slice v0 n c0, x.v] w fun e w' => e = .returned (.bool true) ∧ Below w.heap.size w w' := by
  obtain ⟨l, j, xc, m, xa, p, fd, tl, cy⟩ := x
  have HB0 := Lib.hid (below_on (below_new w (.cells #[.int .i64 a, .int .i64 b, .int .i64 c, .int .i64 d] 23)) (.cells #[.int .i64 l, .int .i64 j, .int .i64 xc, .int .i64 m, .int .u64 xa, .int .u64 p, .bool fd, .int .i64 tl, .int .i64 cy] 28))
  have HX0 : Hid (BoxAt ((w.alloc (.cells #[.int .i64 a, .int .i64 b, .int .i64 c, .int .i64 d] 23)).alloc (.cells #[.int .i64 l, .int .i64 j, .int .i64 xc, .int .i64 m, .int .u64 xa, .int .u64 p, .bool fd, .int .i64 tl, .int .i64 cy] 28)) w.heap.size a b c d) := Lib.hid ((BoxAt.new w a b c d 23).below (below_new _ _))
  have HM0 : Hid (Col9 ((w.alloc (.cells #[.int .i64 a, .int .i64 b, .int .i64 c, .int .i64 d] 23)).alloc (.cells #[.int .i64 l, .int .i64 j, .int .i64 xc, .int .i64 m, .int .u64 xa, .int .u64 p, .bool fd, .int .i64 tl, .int .i64 cy] 28)) (w.heap.size + 1) l j xc m xa p fd tl cy) := Lib.hid (by have := Col9.new (w.alloc (.cells #[.int .i64 a, .int .i64 b, .int .i64 c, .int .i64 d] 23)) l j xc m xa p fd tl cy; simpa using this)
  have HS := Lib.hid hS; have HG := Lib.hid hG
  have HU := Lib.hid hm
  clear hS hG hm
  obtain ⟨x0, x1, x2, x3⟩ := HX0.out
  go_enter Tryd.func3, Tryd.ntmps3
  go_wp2_with fail
  refine (awake_c _ (HS.out.below HB0.out)).mono ?_
  rintro e W1 ⟨rfl, hW⟩
  have HB1 := Lib.hid (belowOn HB0.out hW)
  have HX1 := Lib.hid (HX0.out.below hW)
  have HM1 : Hid (Col9 W1 (w.heap.size + 1) l j xc m xa p fd tl cy) := Lib.hid (HM0.out.below hW)
  clear hW HB0 HX0 HM0 x0 x1 x2 x3
  obtain ⟨x0, x1, x2, x3⟩ := HX1.out
  go_wp2_with fail
  refine (Both_any a b c d v0 n c0 f _ (HS.out.below HB1.out) ⟨HG.out.1, HG.out.2.1.below HB1.out, HG.out.2.2⟩).mono ?_
  rintro e W2 (⟨_, rfl, hW⟩ | ⟨hok, P, rfl, hT⟩)
  · have HB2 := Lib.hid (belowOn HB1.out hW)
    have HM2 := Lib.hid (HM1.out.below hW)
    clear hW HX1 x0 x1 x2 x3 HM1 HB1
    obtain ⟨b0, b1, b2, b3, b4, b5, b6, b7, b8, bf⟩ := HM2.out.cells
    go_wp2_with fail
    refine (pStep_nil l j xc m xa p fd tl cy _).mono ?_
    rintro e W9 ⟨rfl, hW⟩
    have HB9 := Lib.hid (belowOn HB2.out hW)
    clear hW HM2 HB2 b0 b1 b2 b3 b4 b5 b6 b7 b8 bf
    go_wp2_with fail
    go_ret
    exact ⟨rfl, below_on HB9.out _⟩
  · have HM2 := Lib.hid (HM1.out.below hT.old)
    obtain ⟨b0, b1, b2, b3, b4, b5, b6, b7, b8, bf⟩ := HM2.out.cells
    have HT := Lib.hid hT
    clear hT x0 x1 x2 x3 HX1
    go_wp2_with fail
    refine (Far_c ⟨l, j, xc, m, xa, p, fd, tl, cy⟩ _).mono ?_
    rintro e W3 ⟨far, rfl, hW, hnr⟩
    have HT3 := Lib.hid (HT.out.below hW)
    have HM3 := Lib.hid (HM2.out.below hW)
    have hold : Below W1.heap.size W1 W3 := HT3.out.old
    clear hW HT HM2 b0 b1 b2 b3 b4 b5 b6 b7 b8 bf
    cases far
    · obtain ⟨nj, nc, nm, nt, ny⟩ := (hnr rfl).all
      clear hnr
      unfold nearN at nj nc nm nt ny
      dsimp only at nj nc nm nt ny
      have HS1 := Lib.hid (HS.out.below HB1.out)
      have hu : Dy.U ⟨f, 0, 0, 0, 0, 0⟩ := HG.out.2.2.1
      have hC : CfOK ⟨n, a, b, c, d⟩ := ⟨hok.2.1, hok.2.2⟩
      have hn20 : n ≤ 20000 := by have := hok.2.1.prod; have h1 := hok.2.2; have h2 := hok.2.1; unfold Right at h2; omega
      have hA := pass_c (C := ⟨n, a, b, c, d⟩) (s := ⟨f, 0, 0, 0, 0, 0⟩) HT3.out.hand hu (HS1.out.below hold) hok.2.1 hC.pos ⟨l, j, xc, m, xa, p, fd, tl, cy⟩ HU.out (by dsimp only; omega)
      have hR := (fun (s2 : Dy) W (h : Two W1 W P ⟨n, a, b, c, d⟩ s2 ⟨f, 0, 0, 0, 0, 0⟩) => rpass_c (C := ⟨n, a, b, c, d⟩) (s := ⟨f, 0, 0, 0, 0, 0⟩) h.ref h.ltR hok.2.1 hu ⟨l, j, xc, m, xa, p, fd, tl, cy⟩ HU.out (by dsimp only; omega))
      generalize hst : passS ⟨n, a, b, c, d⟩ ⟨f, 0, 0, 0, 0, 0⟩ ⟨l, j, xc, m, xa, p, fd, tl, cy⟩ = r at *
      obtain ⟨s', y, r0⟩ := r
      dsimp only at hA hR
      have HA := Lib.hid hA; have HR := Lib.hid hR; have HN := Lib.hid hn20
      have hltm : w.heap.size + 1 < W1.heap.size := HM1.out.lt
      obtain ⟨b0, b1, b2, b3, b4, b5, b6, b7, b8, bf⟩ := HM3.out.cells
      clear hA hR hn20 hst hu hC hold hok HG HS HU nj nc nm nt ny
      go_wp2_with fail
      refine HA.out.mono ?_
      rintro e W4 hp
      obtain ⟨rfl, hT⟩ := Two.step HT3.out hp
      clear hp
      have HT4 := Lib.hid (hT.below (below_new W4 (.cells #[.int .i64 y.l, .int .i64 y.j, .int .i64 y.c, .int .i64 y.m, .int .u64 y.a, .int .u64 y.p, .bool y.fd, .int .i64 y.tl, .int .i64 y.cy] 28)))
      have HM4 : Hid (Col9 _ (w.heap.size + 1) l j xc m xa p fd tl cy) := Lib.hid (HM1.out.below HT4.out.old)
      have HN4 := Lib.hid (Col9.new W4 y.l y.j y.c y.m y.a y.p y.fd y.tl y.cy)
      have HP4 := Lib.hid (hT.apart (Nat.le_refl W4.heap.size))
      clear hT HT3 HM3 HA b0 b1 b2 b3 b4 b5 b6 b7 b8 bf
      obtain ⟨b0, b1, b2, b3, b4, b5, b6, b7, b8, bf⟩ := HM4.out.cells
      go_wp2_with fail
      refine (HR.out _ _ HT4.out).mono ?_
      rintro e W5 hp
      have hN5 := HN4.out.other (Pl.sav (.inr hp.2.2) HN4.out.lt HP4.out)
      obtain ⟨rfl, hT⟩ := Two.rstep HT4.out hp
      have HT5 := Lib.hid (hT.below (below_new W5 (.cells #[.int .i64 y.l, .int .i64 y.j, .int .i64 y.c, .int .i64 y.m, .int .u64 y.a, .int .u64 y.p, .bool y.fd, .int .i64 y.tl, .int .i64 y.cy] 28)))
      have HN5 := Lib.hid (hN5.below (below_new W5 (.cells #[.int .i64 y.l, .int .i64 y.j, .int .i64 y.c, .int .i64 y.m, .int .u64 y.a, .int .u64 y.p, .bool y.fd, .int .i64 y.tl, .int .i64 y.cy] 28)))
      have HO5 := Lib.hid (Col9.new W5 y.l y.j y.c y.m y.a y.p y.fd y.tl y.cy)
      clear hp hN5 hT HT4 HM4 HN4 HP4 HR b0 b1 b2 b3 b4 b5 b6 b7 b8 bf
      obtain ⟨b0, b1, b2, b3, b4, b5, b6, b7, b8, bf⟩ := HN5.out.cells
      obtain ⟨d0, d1, d2, d3, d4, d5, d6, d7, d8, df⟩ := HO5.out.cells
      have hl5 : W4.heap.size < (W5.alloc (.cells #[.int .i64 y.l, .int .i64 y.j, .int .i64 y.c, .int .i64 y.m, .int .u64 y.a, .int .u64 y.p, .bool y.fd, .int .i64 y.tl, .int .i64 y.cy] 28)).heap.size := HN5.out.lt
      go_wp2_with fail
      refine (Alike_c HT5.out HN.out).mono ?_
      rintro e W6 ⟨rfl, hT⟩
      have HT6 := Lib.hid hT
      clear hT HT5 HN5 HO5 b0 b1 b2 b3 b4 b5 b6 b7 b8 bf d0 d1 d2 d3 d4 d5 d6 d7 d8 df hl5
      go_wp2_with fail
      go_ret
      exact ⟨rfl, belowOn HB1.out HT6.out.old⟩
    · have HB3 := Lib.hid (belowOn HB1.out hold)
      clear HT3 hold HB1 hnr HM1
      obtain ⟨b0, b1, b2, b3, b4, b5, b6, b7, b8, bf⟩ := HM3.out.cells
      go_wp2_with fail
      refine (pStep_nil l j xc m xa p fd tl cy _).mono ?_
      rintro e W9 ⟨rfl, hW⟩
      have HB9 := Lib.hid (belowOn HB3.out hW)
      clear hW HM3 HB3 b0 b1 b2 b3 b4 b5 b6 b7 b8 bf
      go_wp2_with fail
      go_ret
      exact ⟨rfl, below_on HB9.out _⟩
end Go.Proofs.YtipkkmmehjdmpaaDoor
