/- ConfigTells answers true for every right configuration (the law of P3.1, P3.2 and P3.3), in whatever memory in which the listed variables read as their texts lay them. -/
import Derived.Test.YtiifeocfphojaaaDoorCfgReads
import Derived.Deep.RegionHeld3
import Derived.Deep.DrawnRows
import Derived.Deep.RegionWith
namespace Go.Proofs.YtiifeocfphojaaaDoor
open Go Go.RowKit
set_option maxRecDepth 100000
attribute [local go_sem ↓] Go.wp_at_zero Go.wp_at_succ

set_option maxHeartbeats 12800000 in
theorem tells_right (a b c d : Int) (hr : Right a b c d) (w : World) (hL : Laid w) :
    Calls Tryd.prog 3 #[.agg #[.int .i64 a, .int .i64 b, .int .i64 c, .int .i64 d]] w fun e w' => e = .returned (.bool true) ∧ Below w.heap.size w w' := by
  have hb := below_new w (.cells #[.int .i64 a, .int .i64 b, .int .i64 c, .int .i64 d] 23)
  have HA := Lib.hid (awake_c _ (hL.below hb))
  have HI := Lib.hid (refRight_right a b c d hr)
  have HT := Lib.hid (text_right a b c d hr)
  have HC := Lib.hid (check_right a b c d hr)
  have HRo := Lib.hid (roots_right a b c d hr); have HRr := Lib.hid (refRoots_right a b c d hr)
  have HWo := Lib.hid (words_right a b c d hr); have HWr : Hid (∀ w, Calls Tryd.prog 14 #[.agg #[.int .i64 a, .int .i64 b, .int .i64 c, .int .i64 d]] w fun e w' => e = .returned (.int .i64 (4 + b + (1 + d + b * c) + 3 * a)) ∧ Below w.heap.size w w') := Lib.hid (fun w => by have h := refWords_right a b c d hr w; rwa [show 4 + b + (1 + d + b * c) + a + a + a = 4 + b + (1 + d + b * c) + 3 * a by omega] at h)
  have HOo := Lib.hid (opRounds_right a b c d hr); have HCy := Lib.hid (cycleRounds_right a b c d hr)
  have HTr := Lib.hid (refText_right a b c d hr)
  have HX := Lib.hid (BoxAt.new w a b c d 23)
  have HB := Lib.hid hb
  have HL := Lib.hid hL
  have HIs : Hid (IsText (⟨(textC a b c d).toArray⟩ : ByteArray).data.toList a b c d) := Lib.hid ⟨hr, rfl⟩
  have HSz : Hid ((⟨(textC a b c d).toArray⟩ : ByteArray).size ≤ 200) := Lib.hid (textC_short hr)
  have hp1 : 1 ≤ b * c := hr.prod.1
  have hp2 : b * c ≤ 4032 := hr.prod.2
  have hw5 : IntKind.i64.wrap (32 * (a + b + 1) * (a + (1 + d + b * c) + 32 * b)) = 32 * (a + b + 1) * (a + (1 + d + b * c) + 32 * b) := IntWalk.i64_in _ (by have := hr.cycle; omega)
  obtain ⟨ha1, ha2, hb1, hb2, hc1, hc2, hd1, hd2⟩ := hr
  have hw1 : IntKind.i64.wrap (a + b) = a + b := IntWalk.i64_in _ (by omega)
  have hw2 : IntKind.i64.wrap (a + b + 1) = a + b + 1 := IntWalk.i64_in _ (by omega)
  have hw3 : IntKind.i64.wrap (32 * (a + b + 1)) = 32 * (a + b + 1) := IntWalk.i64_in _ (by omega)
  have hw4 : IntKind.i64.wrap (a + (1 + d + b * c)) = a + (1 + d + b * c) := IntWalk.i64_in _ (by omega)
  have hw6 : IntKind.i64.wrap (32 * b) = 32 * b := IntWalk.i64_in _ (by omega)
  have hw7 : IntKind.i64.wrap (a + (1 + d + b * c) + 32 * b) = a + (1 + d + b * c) + 32 * b := IntWalk.i64_in _ (by omega)
  generalize textC a b c d = l at HT HTr HIs HSz
  clear hb hL
  go_enter Tryd.func3, Tryd.ntmps3
  go_wp2_with fail
  refine HA.out.mono ?_
  rintro e W ⟨rfl, hW⟩
  have HB1 := Lib.hid (belowOn HB.out hW)
  have HX1 := Lib.hid (HX.out.below hW)
  obtain ⟨x0, x1, x2, x3⟩ := HX1.out
  clear HA HB HX hW
  go_wp2_with fail
  refine (HI.out _).mono ?_
  rintro e W1 ⟨rfl, hW⟩
  have HB2 := Lib.hid (belowOn HB1.out hW)
  have HX2 := Lib.hid (HX1.out.below hW)
  clear x0 x1 x2 x3
  obtain ⟨x0, x1, x2, x3⟩ := HX2.out
  clear HI HB1 HX1 hW
  go_wp2_with fail
  go_region_held3 (fun w' => w'.cell? ⟨w.heap.size, 0, none⟩ = some (.int .i64 a) ∧ w'.cell? ⟨w.heap.size, 1, none⟩ = some (.int .i64 b) ∧ w'.cell? ⟨w.heap.size, 2, none⟩ = some (.int .i64 c) ∧ w'.cell? ⟨w.heap.size, 3, none⟩ = some (.int .i64 d)) (first | assumption | go_keep)
    (first
      | (go_at_call 8; refine (HRr.out _).mono ?_; rintro e w1 ⟨rfl, hV⟩; have hX := BoxAt.below (a := a) (b := b) (c := c) (d := d) (B := w.heap.size) (by assumption) hV))
  have HB2b := Lib.hid (belowOn HB2.out.drew hV)
  have HX2b : Hid (BoxAt w1 w.heap.size a b c d) := Lib.hid hX
  clear x0 x1 x2 x3 hV
  obtain ⟨x0, x1, x2, x3⟩ := hX
  generalize hg : 32 * (a + b + 1) * (a + (1 + d + b * c) + 32 * b) = G at *
  clear HB2 HX2
  go_wp2_with fail
  refine (HT.out _ (HL.out.below HB2b.out)).mono ?_
  rintro e W2 ⟨rfl, hW⟩
  have HB3 := Lib.hid (belowOn HB2b.out hW)
  have HX3 := Lib.hid (HX2b.out.below hW)
  clear x0 x1 x2 x3 HT HB2b HX2b hW
  go_wp2_with fail
  refine (parse_c ⟨l.toArray⟩ HSz.out _ (HL.out.below HB3.out)).mono ?_
  rintro e W3 ⟨hW, a', b', c', d', r, rfl, hp⟩
  obtain ⟨e1, e2, e3, e4, rfl⟩ := hp.hit HIs.out
  have e1' := e1.symm; have e2' := e2.symm; have e3' := e3.symm; have e4' := e4.symm
  clear e1 e2 e3 e4
  subst e1' e2' e3' e4'
  have hB4 := belowOn HB3.out hW
  have hX4 := HX3.out.below hW
  obtain ⟨W4, hW4⟩ : ∃ W4, W4 = W3.alloc (.cells #[.int .i64 a, .int .i64 b, .int .i64 c, .int .i64 d] 23) := ⟨_, rfl⟩
  have HB4 : Hid (Below w.heap.size w W4) := Lib.hid (by rw [hW4]; exact below_on hB4 _)
  have HX4 : Hid (BoxAt W4 w.heap.size a b c d) := Lib.hid (by rw [hW4]; exact hX4.below (below_new _ _))
  have HY4 : Hid (BoxAt W4 W3.heap.size a b c d) := Lib.hid (by rw [hW4]; exact BoxAt.new _ _ _ _ _ _)
  have HS4 := Lib.hid (HL.out.below HB4.out).spans
  clear hp hW hB4 hX4 HB3 HX3
  go_wp2_with fail
  rw [← hW4]
  obtain ⟨x0, x1, x2, x3⟩ := HX4.out
  have hQ : Below W4.heap.size W4 W4.drew := (Below.refl _ _).drew
  clear hW4 HX4
  go_region_with
    (first
      | (go_at_call 11; refine (HC.out _ ?_).mono ?_; exact SpansAt.below HS4.out hQ; rintro e v ⟨rfl, hV⟩; have hX' := BoxAt.below (a := a) (b := b) (c := c) (d := d) (B := w.heap.size) (by exact ⟨x0, x1, x2, x3⟩) hV; have hQ' := belowOn (w := W4) hQ hV; clear hV hQ x0 x1 x2 x3; obtain ⟨x0, x1, x2, x3⟩ := hX'; have hQ := hQ'; clear hQ')
      | (go_at_call 12; refine (HRo.out _ ?_).mono ?_; exact SpansAt.below HS4.out hQ; rintro e v ⟨rfl, hV⟩; have hX' := BoxAt.below (a := a) (b := b) (c := c) (d := d) (B := w.heap.size) (by exact ⟨x0, x1, x2, x3⟩) hV; have hQ' := belowOn (w := W4) hQ hV; clear hV hQ x0 x1 x2 x3; obtain ⟨x0, x1, x2, x3⟩ := hX'; have hQ := hQ'; clear hQ')
      | (go_at_call 8; refine (HRr.out _).mono ?_; rintro e v ⟨rfl, hV⟩; have hX' := BoxAt.below (a := a) (b := b) (c := c) (d := d) (B := w.heap.size) (by exact ⟨x0, x1, x2, x3⟩) hV; have hQ' := belowOn (w := W4) hQ hV; clear hV hQ x0 x1 x2 x3; obtain ⟨x0, x1, x2, x3⟩ := hX'; have hQ := hQ'; clear hQ')
      | (go_at_call 13; refine (HWo.out _ ?_).mono ?_; exact SpansAt.below HS4.out hQ; rintro e v ⟨rfl, hV⟩; have hX' := BoxAt.below (a := a) (b := b) (c := c) (d := d) (B := w.heap.size) (by exact ⟨x0, x1, x2, x3⟩) hV; have hQ' := belowOn (w := W4) hQ hV; clear hV hQ x0 x1 x2 x3; obtain ⟨x0, x1, x2, x3⟩ := hX'; have hQ := hQ'; clear hQ')
      | (go_at_call 14; refine (HWr.out _).mono ?_; rintro e v ⟨rfl, hV⟩; have hX' := BoxAt.below (a := a) (b := b) (c := c) (d := d) (B := w.heap.size) (by exact ⟨x0, x1, x2, x3⟩) hV; have hQ' := belowOn (w := W4) hQ hV; clear hV hQ x0 x1 x2 x3; obtain ⟨x0, x1, x2, x3⟩ := hX'; have hQ := hQ'; clear hQ')
      | (go_at_call 15; refine (HOo.out _ ?_).mono ?_; exact SpansAt.below HS4.out hQ; rintro e v ⟨rfl, hV⟩; have hX' := BoxAt.below (a := a) (b := b) (c := c) (d := d) (B := w.heap.size) (by exact ⟨x0, x1, x2, x3⟩) hV; have hQ' := belowOn (w := W4) hQ hV; clear hV hQ x0 x1 x2 x3; obtain ⟨x0, x1, x2, x3⟩ := hX'; have hQ := hQ'; clear hQ')
      | (go_at_call 16; refine (HCy.out _ ?_).mono ?_; exact SpansAt.below HS4.out hQ; rintro e v ⟨rfl, hV⟩; have hX' := BoxAt.below (a := a) (b := b) (c := c) (d := d) (B := w.heap.size) (by exact ⟨x0, x1, x2, x3⟩) hV; have hQ' := belowOn (w := W4) hQ hV; clear hV hQ x0 x1 x2 x3; obtain ⟨x0, x1, x2, x3⟩ := hX'; have hQ := hQ'; clear hQ')
      | (go_at_call 17; refine (HTr.out _).mono ?_; rintro e v ⟨rfl, hV⟩; have hX' := BoxAt.below (a := a) (b := b) (c := c) (d := d) (B := w.heap.size) (by exact ⟨x0, x1, x2, x3⟩) hV; have hQ' := belowOn (w := W4) hQ hV; clear hV hQ x0 x1 x2 x3; obtain ⟨x0, x1, x2, x3⟩ := hX'; have hQ := hQ'; clear hQ'))
  all_goals
    obtain ⟨y0, y1, y2, y3⟩ := HY4.out.below hQ
    go_wp2_with fail
    go_ret
    exact ⟨rfl, belowOn HB4.out hQ⟩
end Go.Proofs.YtiifeocfphojaaaDoor
