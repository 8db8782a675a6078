/- PopSteps answers true: a step from any line, over any words, is as the document says. -/
import Derived.Test.YtgjbabndpmkccaaDoorPopAwake
namespace Go.Proofs.YtgjbabndpmkccaaDoor
open Go Go.RowKit
set_option maxRecDepth 100000
attribute [local go_sem ↓] Go.wp_at_zero Go.wp_at_succ

set_option maxHeartbeats 3200000 in
theorem steps_any (a b c d : Int) (v0 : Option Addr) (n c0 : Nat) (f : Nat → Int) (z : Int) (m : Mu) (hm : m.U) (w : World) (hS : SpansAt w) (hG : Given w v0 n c0 f) :
    Calls Tryd.prog 3 #[.agg #[.int .i64 a, .int .i64 b, .int .i64 c, .int .i64 d], .slice v0 n c0, .int .i64 z, m.v] w fun e w' => e = .returned (.bool true) ∧ Below w.heap.size w w' := by
  have HB0 := Lib.hid (below_on (below_new w (.cells #[.int .i64 a, .int .i64 b, .int .i64 c, .int .i64 d] 23)) (.cells #[.int .i64 m.l, .int .i64 m.q1, .int .i64 m.q2, .int .i64 m.q3, .int .i64 m.q4, .int .u64 m.m1, .int .u64 m.m2, .int .u64 m.m3, .int .u64 m.m4, .int .u64 m.m5, .int .u64 m.p, .int .i64 m.bk, .int .i64 m.rt] 30))
  have HX0 : Hid (BoxAt ((w.alloc (.cells #[.int .i64 a, .int .i64 b, .int .i64 c, .int .i64 d] 23)).alloc (.cells #[.int .i64 m.l, .int .i64 m.q1, .int .i64 m.q2, .int .i64 m.q3, .int .i64 m.q4, .int .u64 m.m1, .int .u64 m.m2, .int .u64 m.m3, .int .u64 m.m4, .int .u64 m.m5, .int .u64 m.p, .int .i64 m.bk, .int .i64 m.rt] 30)) w.heap.size a b c d) := Lib.hid ((BoxAt.new w a b c d 23).below (below_new _ _))
  have HM0 : Hid (MuAt ((w.alloc (.cells #[.int .i64 a, .int .i64 b, .int .i64 c, .int .i64 d] 23)).alloc (.cells #[.int .i64 m.l, .int .i64 m.q1, .int .i64 m.q2, .int .i64 m.q3, .int .i64 m.q4, .int .u64 m.m1, .int .u64 m.m2, .int .u64 m.m3, .int .u64 m.m4, .int .u64 m.m5, .int .u64 m.p, .int .i64 m.bk, .int .i64 m.rt] 30)) (w.heap.size + 1) m) := Lib.hid (by have := Mut13.new (w.alloc (.cells #[.int .i64 a, .int .i64 b, .int .i64 c, .int .i64 d] 23)) m.l m.p m.bk m.q1 m.q2 m.q3 m.q4 m.m1 m.m2 m.m3 m.m4 m.m5 m.rt; simpa using this)
  have HS := Lib.hid hS; have HG := Lib.hid hG
  have HU := Lib.hid hm
  clear hS hG hm
  obtain ⟨x0, x1, x2, x3⟩ := HX0.out
  go_enter Tryd.func3, Tryd.ntmps3
  go_wp2_with fail
  refine (awake_c _ (HS.out.below HB0.out)).mono ?_
  rintro e W1 ⟨rfl, hW⟩
  have HB1 := Lib.hid (belowOn HB0.out hW)
  have HX1 := Lib.hid (HX0.out.below hW)
  have HM1 : Hid (MuAt W1 (w.heap.size + 1) m) := Lib.hid (HM0.out.below hW)
  clear hW HB0 HX0 HM0 x0 x1 x2 x3
  obtain ⟨x0, x1, x2, x3⟩ := HX1.out
  go_wp2_with fail
  refine (Both_any a b c d v0 n c0 f _ (HS.out.below HB1.out) ⟨HG.out.1, HG.out.2.1.below HB1.out, HG.out.2.2⟩).mono ?_
  rintro e W2 (⟨_, rfl, hW⟩ | ⟨hok, P, rfl, hT⟩)
  · have HB2 := Lib.hid (belowOn HB1.out hW)
    have HM2 : Hid (MuAt W2 (w.heap.size + 1) m) := Lib.hid (HM1.out.below hW)
    clear hW HX1 x0 x1 x2 x3 HM1 HB1
    obtain ⟨b0, b1, b2, b3, b4, b5, b6, b7, b8, b9, b10, b11, b12, bf⟩ := HM2.out.cells
    go_wp2_with fail
    refine (pStep_nil m.l m.p m.bk m.q1 m.q2 m.q3 m.q4 m.m1 m.m2 m.m3 m.m4 m.m5 m.rt _).mono ?_
    rintro e W3 ⟨rfl, hW⟩
    have HB3 := Lib.hid (belowOn HB2.out hW)
    clear hW HM2 HB2 b0 b1 b2 b3 b4 b5 b6 b7 b8 b9 b10 b11 b12 bf
    go_wp2_with fail
    go_ret
    exact ⟨rfl, below_on HB3.out _⟩
  · have HS1 := Lib.hid (HS.out.below HB1.out)
    have hu : Dy.U ⟨f, 0, 0, 0, 0, 0⟩ := HG.out.2.2.1
    have hn20 : n ≤ 20000 := by have := hok.2.1.prod; have h1 := hok.2.2; have h2 := hok.2.1; unfold Right at h2; omega
    have hA := pop_c (C := ⟨n, a, b, c, d⟩) (s := ⟨f, 0, 0, 0, 0, 0⟩) hT.hand hu (HS1.out.below hT.old) m HU.out
    have hR := (fun (s2 : Dy) W (h : Two W1 W P ⟨n, a, b, c, d⟩ s2 ⟨f, 0, 0, 0, 0, 0⟩) => rpop_c (C := ⟨n, a, b, c, d⟩) (s := ⟨f, 0, 0, 0, 0, 0⟩) h.ref h.ltR hu hok.2.1 m HU.out)
    generalize hst : popS ⟨n, a, b, c, d⟩ ⟨f, 0, 0, 0, 0, 0⟩ m = r at *
    obtain ⟨s', m', li, bo⟩ := r
    dsimp only at hA hR
    have HA := Lib.hid hA; have HR := Lib.hid hR; have HN := Lib.hid hn20
    have HT := Lib.hid hT
    have HM2 : Hid (MuAt W2 (w.heap.size + 1) m) := Lib.hid (HM1.out.below hT.old)
    have hltm : w.heap.size + 1 < W1.heap.size := HM1.out.lt
    clear hA hR hn20 hT hst hu HX1 x0 x1 x2 x3 hok HG HS HU
    obtain ⟨b0, b1, b2, b3, b4, b5, b6, b7, b8, b9, b10, b11, b12, bf⟩ := HM2.out.cells
    go_wp2_with fail
    refine HA.out.mono ?_
    rintro e W3 hp
    obtain ⟨rfl, hT⟩ := Two.step HT.out hp
    clear hp
    have HT3 := Lib.hid (hT.below (below_new W3 (.cells #[.int .i64 m'.l, .int .i64 m'.q1, .int .i64 m'.q2, .int .i64 m'.q3, .int .i64 m'.q4, .int .u64 m'.m1, .int .u64 m'.m2, .int .u64 m'.m3, .int .u64 m'.m4, .int .u64 m'.m5, .int .u64 m'.p, .int .i64 m'.bk, .int .i64 m'.rt] 30)))
    have HM3 : Hid (MuAt _ (w.heap.size + 1) m) := Lib.hid (HM1.out.below HT3.out.old)
    have HN3 : Hid (MuAt (W3.alloc (.cells #[.int .i64 m'.l, .int .i64 m'.q1, .int .i64 m'.q2, .int .i64 m'.q3, .int .i64 m'.q4, .int .u64 m'.m1, .int .u64 m'.m2, .int .u64 m'.m3, .int .u64 m'.m4, .int .u64 m'.m5, .int .u64 m'.p, .int .i64 m'.bk, .int .i64 m'.rt] 30)) W3.heap.size m') := Lib.hid (Mut13.new W3 m'.l m'.p m'.bk m'.q1 m'.q2 m'.q3 m'.q4 m'.m1 m'.m2 m'.m3 m'.m4 m'.m5 m'.rt)
    have HP3 := Lib.hid (hT.apart (Nat.le_refl W3.heap.size))
    clear hT HT HM2 HA b0 b1 b2 b3 b4 b5 b6 b7 b8 b9 b10 b11 b12 bf
    obtain ⟨b0, b1, b2, b3, b4, b5, b6, b7, b8, b9, b10, b11, b12, bf⟩ := HM3.out.cells
    go_wp2_with fail
    refine (HR.out _ _ HT3.out).mono ?_
    rintro e W4 hp
    have hN4 := HN3.out.other (Pl.sav (.inr hp.2.2) HN3.out.lt HP3.out)
    obtain ⟨rfl, hT⟩ := Two.rstep HT3.out hp
    have HT4 := Lib.hid (hT.below (below_new W4 (.cells #[.int .i64 m'.l, .int .i64 m'.q1, .int .i64 m'.q2, .int .i64 m'.q3, .int .i64 m'.q4, .int .u64 m'.m1, .int .u64 m'.m2, .int .u64 m'.m3, .int .u64 m'.m4, .int .u64 m'.m5, .int .u64 m'.p, .int .i64 m'.bk, .int .i64 m'.rt] 30)))
    have HN4 := Lib.hid (hN4.below (below_new W4 (.cells #[.int .i64 m'.l, .int .i64 m'.q1, .int .i64 m'.q2, .int .i64 m'.q3, .int .i64 m'.q4, .int .u64 m'.m1, .int .u64 m'.m2, .int .u64 m'.m3, .int .u64 m'.m4, .int .u64 m'.m5, .int .u64 m'.p, .int .i64 m'.bk, .int .i64 m'.rt] 30)))
    have HO4 : Hid (MuAt (W4.alloc (.cells #[.int .i64 m'.l, .int .i64 m'.q1, .int .i64 m'.q2, .int .i64 m'.q3, .int .i64 m'.q4, .int .u64 m'.m1, .int .u64 m'.m2, .int .u64 m'.m3, .int .u64 m'.m4, .int .u64 m'.m5, .int .u64 m'.p, .int .i64 m'.bk, .int .i64 m'.rt] 30)) W4.heap.size m') := Lib.hid (Mut13.new W4 m'.l m'.p m'.bk m'.q1 m'.q2 m'.q3 m'.q4 m'.m1 m'.m2 m'.m3 m'.m4 m'.m5 m'.rt)
    clear hp hN4 hT HT3 HM3 HN3 HP3 HR b0 b1 b2 b3 b4 b5 b6 b7 b8 b9 b10 b11 b12 bf
    obtain ⟨b0, b1, b2, b3, b4, b5, b6, b7, b8, b9, b10, b11, b12, bf⟩ := HN4.out.cells
    obtain ⟨d0, d1, d2, d3, d4, d5, d6, d7, d8, d9, d10, d11, d12, df⟩ := HO4.out.cells
    have hl4 : W3.heap.size < (W4.alloc (.cells #[.int .i64 m'.l, .int .i64 m'.q1, .int .i64 m'.q2, .int .i64 m'.q3, .int .i64 m'.q4, .int .u64 m'.m1, .int .u64 m'.m2, .int .u64 m'.m3, .int .u64 m'.m4, .int .u64 m'.m5, .int .u64 m'.p, .int .i64 m'.bk, .int .i64 m'.rt] 30)).heap.size := HN4.out.lt
    go_wp2_with fail
    refine (Alike_c HT4.out HN.out).mono ?_
    rintro e W5 ⟨rfl, hT⟩
    have HT5 := Lib.hid hT
    clear hT HT4 HN4 HO4 b0 b1 b2 b3 b4 b5 b6 b7 b8 b9 b10 b11 b12 bf d0 d1 d2 d3 d4 d5 d6 d7 d8 d9 d10 d11 d12 df hl4
    go_wp2_with fail
    go_ret
    exact ⟨rfl, belowOn HB1.out HT5.out.old⟩
end Go.Proofs.YtgjbabndpmkccaaDoor
