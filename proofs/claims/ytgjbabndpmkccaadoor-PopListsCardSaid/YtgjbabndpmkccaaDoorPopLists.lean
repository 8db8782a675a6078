/- PopLists answers true: the free list of any words, or that there is none, is as the document says. -/
import Derived.Test.YtgjbabndpmkccaaDoorPopAwake
namespace Go.Proofs.YtgjbabndpmkccaaDoor
open Go Go.RowKit
set_option maxRecDepth 100000
attribute [local go_sem ↓] Go.wp_at_zero Go.wp_at_succ

set_option maxHeartbeats 3200000 in
theorem lists_any (a b c d : Int) (v0 : Option Addr) (n c0 : Nat) (f : Nat → Int) (w : World) (hS : SpansAt w) (hG : Given w v0 n c0 f) :
    Calls Tryd.prog 4 #[.agg #[.int .i64 a, .int .i64 b, .int .i64 c, .int .i64 d], .slice v0 n c0] w fun e w' => e = .returned (.bool true) ∧ Below w.heap.size w w' := by
  have HB0 := Lib.hid (below_new w (.cells #[.int .i64 a, .int .i64 b, .int .i64 c, .int .i64 d] 23))
  have HX0 := Lib.hid (BoxAt.new w a b c d 23)
  have HS := Lib.hid hS; have HG := Lib.hid hG
  clear hS hG
  obtain ⟨x0, x1, x2, x3⟩ := HX0.out
  go_enter Tryd.func4, Tryd.ntmps4
  go_wp2_with fail
  refine (awake_c _ (HS.out.below HB0.out)).mono ?_
  rintro e W1 ⟨rfl, hW⟩
  have HB1 := Lib.hid (belowOn HB0.out hW)
  have HX1 := Lib.hid (HX0.out.below hW)
  clear hW HB0 HX0 x0 x1 x2 x3
  obtain ⟨x0, x1, x2, x3⟩ := HX1.out
  go_wp2_with fail
  by_cases hg : grt a b c d
  · refine (great_yes a b c d hg _).mono ?_
    rintro e W2 ⟨rfl, hW⟩
    have HB2 := Lib.hid (belowOn HB1.out hW)
    clear hW HB1 HX1 x0 x1 x2 x3 hg
    go_wp2_with fail
    go_ret
    exact ⟨rfl, HB2.out⟩
  refine (great_no a b c d hg _).mono ?_
  rintro e W2 ⟨rfl, hW⟩
  have HB2 := Lib.hid (belowOn HB1.out hW)
  have HX2 := Lib.hid (HX1.out.below hW)
  clear hW HB1 HX1 x0 x1 x2 x3 hg
  obtain ⟨x0, x1, x2, x3⟩ := HX2.out
  by_cases hn4 : (400 : Int) < (n : Int)
  · clear HX2 x0 x1 x2 x3
    go_wp2_with fail
    go_ret
    exact ⟨rfl, HB2.out⟩
  go_wp2_with fail
  have HL := Lib.hid (list_any a b c d v0 n c0 f HG.out.2.2.1 W2 (HS.out.below HB2.out) (HG.out.2.1.below HB2.out))
  have HR : Hid (∀ W, WordsAt W v0 n f → Calls Tryd.prog 14 #[.agg #[.int .i64 a, .int .i64 b, .int .i64 c, .int .i64 d], .slice v0 n c0] W (ListPost W (lstR a b c d n f))) := Lib.hid (fun W h => rlist_any a b c d v0 n c0 f HG.out.2.2.1 W h)
  have hlen : ((lstR a b c d n f).getD []).length ≤ 20000 := lstR_len
  have HLn := Lib.hid hlen
  clear hn4 hlen
  generalize lstR a b c d n f = r at *
  refine HL.out.mono ?_
  rintro e W3 ⟨v, rfl, hrow, hW⟩
  have HB3 := Lib.hid (belowOn HB2.out hW)
  have HX3 := Lib.hid (HX2.out.below hW)
  have HR3 := Lib.hid hrow
  clear hrow hW HB2 HX2 HL x0 x1 x2 x3
  obtain ⟨x0, x1, x2, x3⟩ := HX3.out
  go_wp2_with fail
  refine (HR.out _ (HG.out.2.1.below HB3.out)).mono ?_
  rintro e W4 ⟨v', rfl, hrow, hW⟩
  obtain ⟨a1, q1, rfl, h1, _, _, _⟩ := IntsAt.own HR3.out
  obtain ⟨a2, q2, rfl, h2, _, _, _⟩ := IntsAt.own hrow
  have HB4 := Lib.hid (belowOn HB3.out hW)
  have HI := Lib.hid (ints_c (r.getD []) HLn.out a1 a2 q1 q2 W4 (h1.below hW) h2)
  have hbn : ∀ u : Bool, (u == u) = true := by simp
  clear hrow hW h1 h2 HR3 HX3 HB3 HR x0 x1 x2 x3
  generalize r.isSome = s
  generalize (r.getD []).length = ll at *
  go_wp2_with fail
  refine HI.out.mono ?_
  rintro e W5 ⟨rfl, hW⟩
  have HB5 := Lib.hid (belowOn HB4.out hW)
  clear hW HB4 HI
  go_wp2_with fail
  go_ret
  exact ⟨rfl, HB5.out⟩
end Go.Proofs.YtgjbabndpmkccaaDoor
