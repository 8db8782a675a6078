/- ConfigTells answers true for every configuration that isn't right (the law of P3.1, P3.2 and P3.3), in whatever memory in which the listed variables read as their texts lay them. -/
import Derived.Test.YtiifeocfphojaaaDoorCfgReads
import Derived.Deep.RegionHeld3
import Derived.Deep.DrawnRows
namespace Go.Proofs.YtiifeocfphojaaaDoor
open Go Go.RowKit
set_option maxRecDepth 100000
attribute [local go_sem ↓] Go.wp_at_zero Go.wp_at_succ

theorem no_text : ∀ a b c d, ¬ IsText (⟨#[]⟩ : ByteArray).data.toList a b c d := fun a b c d h => by have := h.long; simp at this
set_option maxHeartbeats 12800000 in
theorem tells_wrong (a b c d : Int) (hr : ¬ Right a b c d) (w : World) (hL : Laid w) :
    Calls Tryd.prog 3 #[.agg #[.int .i64 a, .int .i64 b, .int .i64 c, .int .i64 d]] w fun e w' => e = .returned (.bool true) ∧ Below w.heap.size w w' := by
  have hb := below_new w (.cells #[.int .i64 a, .int .i64 b, .int .i64 c, .int .i64 d] 23)
  have HA := Lib.hid (awake_c _ (hL.below hb))
  have HI := Lib.hid (refRight_wrong a b c d hr)
  have HT := Lib.hid (text_wrong a b c d hr)
  have HC := Lib.hid (check_wrong a b c d hr)
  have HRo := Lib.hid (roots_wrong a b c d hr); have HRr := Lib.hid (refRoots_wrong a b c d hr)
  have HWo := Lib.hid (words_wrong a b c d hr); have HWr := Lib.hid (refWords_wrong a b c d hr)
  have HOo := Lib.hid (opRounds_wrong a b c d hr); have HCy := Lib.hid (cycleRounds_wrong a b c d hr)
  have HTr := Lib.hid (refText_wrong a b c d hr)
  have HX := Lib.hid (BoxAt.new w a b c d 23)
  have HB := Lib.hid hb
  have HL := Lib.hid hL
  clear hb hL hr
  go_enter Tryd.func3, Tryd.ntmps3
  go_wp2_with fail
  refine HA.out.mono ?_
  rintro e W ⟨rfl, hW⟩
  have HB1 := Lib.hid (belowOn HB.out hW)
  have HX1 := Lib.hid (HX.out.below hW)
  obtain ⟨x0, x1, x2, x3⟩ := HX1.out
  clear HA HB HX hW
  go_wp2_with fail
  refine (HI.out _).mono ?_
  rintro e W1 ⟨rfl, hW⟩
  have HB2 := Lib.hid (belowOn HB1.out hW)
  have HX2 := Lib.hid (HX1.out.below hW)
  clear x0 x1 x2 x3
  obtain ⟨x0, x1, x2, x3⟩ := HX2.out
  clear HI HB1 HX1 hW
  go_wp2_with fail
  refine (HT.out _ (HL.out.below HB2.out)).mono ?_
  rintro e W2 ⟨rfl, hW⟩
  have HB3 := Lib.hid (belowOn HB2.out hW)
  have HX3 := Lib.hid (HX2.out.below hW)
  clear x0 x1 x2 x3 HT HB2 HX2 hW
  go_wp2_with fail
  refine (parse_c ⟨#[]⟩ (by decide) _ (HL.out.below HB3.out)).mono ?_
  rintro e W3 ⟨hW, a', b', c', d', r, rfl, hp⟩
  obtain ⟨rfl, rfl, rfl, rfl, rfl⟩ := hp.miss no_text
  have hB4 := belowOn HB3.out hW
  have hX4 := HX3.out.below hW
  obtain ⟨W4, hW4⟩ : ∃ W4, W4 = W3.alloc (.cells #[.int .i64 0, .int .i64 0, .int .i64 0, .int .i64 0] 23) := ⟨_, rfl⟩
  have HB4 : Hid (Below w.heap.size w W4) := Lib.hid (by rw [hW4]; exact below_on hB4 _)
  have HX4 : Hid (BoxAt W4 w.heap.size a b c d) := Lib.hid (by rw [hW4]; exact hX4.below (below_new _ _))
  have HY4 : Hid (BoxAt W4 W3.heap.size 0 0 0 0) := Lib.hid (by rw [hW4]; exact BoxAt.new _ _ _ _ _ _)
  have HS4 := Lib.hid (HL.out.below HB4.out).spans
  clear hp hW hB4 hX4 HB3 HX3
  go_wp2_with fail
  rw [← hW4]
  obtain ⟨x0, x1, x2, x3⟩ := HX4.out
  have hQ : Below W4.heap.size W4 W4.drew := (Below.refl _ _).drew
  clear hW4 HX4
  go_region_held3 (fun w' => w'.cell? ⟨w.heap.size, 0, none⟩ = some (.int .i64 a) ∧ w'.cell? ⟨w.heap.size, 1, none⟩ = some (.int .i64 b) ∧ w'.cell? ⟨w.heap.size, 2, none⟩ = some (.int .i64 c) ∧ w'.cell? ⟨w.heap.size, 3, none⟩ = some (.int .i64 d)) (first | assumption | go_keep)
    (first
      | (go_at_call 11; refine (HC.out _ ?_).mono ?_; exact SpansAt.below HS4.out (by assumption); rintro e v ⟨rfl, hV⟩; have hX := BoxAt.below (a := a) (b := b) (c := c) (d := d) (B := w.heap.size) (by assumption) hV; have hQ := belowOn (w := W4) (by assumption) hV; clear hV)
      | (go_at_call 12; refine (HRo.out _ ?_).mono ?_; exact SpansAt.below HS4.out (by assumption); rintro e v ⟨rfl, hV⟩; have hX := BoxAt.below (a := a) (b := b) (c := c) (d := d) (B := w.heap.size) (by assumption) hV; have hQ := belowOn (w := W4) (by assumption) hV; clear hV)
      | (go_at_call 8; refine (HRr.out _).mono ?_; rintro e v ⟨rfl, hV⟩; have hX := BoxAt.below (a := a) (b := b) (c := c) (d := d) (B := w.heap.size) (by assumption) hV; have hQ := belowOn (w := W4) (by assumption) hV; clear hV)
      | (go_at_call 13; refine (HWo.out _ ?_).mono ?_; exact SpansAt.below HS4.out (by assumption); rintro e v ⟨rfl, hV⟩; have hX := BoxAt.below (a := a) (b := b) (c := c) (d := d) (B := w.heap.size) (by assumption) hV; have hQ := belowOn (w := W4) (by assumption) hV; clear hV)
      | (go_at_call 14; refine (HWr.out _).mono ?_; rintro e v ⟨rfl, hV⟩; have hX := BoxAt.below (a := a) (b := b) (c := c) (d := d) (B := w.heap.size) (by assumption) hV; have hQ := belowOn (w := W4) (by assumption) hV; clear hV)
      | (go_at_call 15; refine (HOo.out _ ?_).mono ?_; exact SpansAt.below HS4.out (by assumption); rintro e v ⟨rfl, hV⟩; have hX := BoxAt.below (a := a) (b := b) (c := c) (d := d) (B := w.heap.size) (by assumption) hV; have hQ := belowOn (w := W4) (by assumption) hV; clear hV)
      | (go_at_call 16; refine (HCy.out _ ?_).mono ?_; exact SpansAt.below HS4.out (by assumption); rintro e v ⟨rfl, hV⟩; have hX := BoxAt.below (a := a) (b := b) (c := c) (d := d) (B := w.heap.size) (by assumption) hV; have hQ := belowOn (w := W4) (by assumption) hV; clear hV)
      | (go_at_call 17; refine (HTr.out _).mono ?_; rintro e v ⟨rfl, hV⟩; have hX := BoxAt.below (a := a) (b := b) (c := c) (d := d) (B := w.heap.size) (by assumption) hV; have hQ := belowOn (w := W4) (by assumption) hV; clear hV))
  obtain ⟨y0, y1, y2, y3⟩ := HY4.out.below hQ
  clear hX
  go_wp2_with fail
  go_ret
  exact ⟨rfl, belowOn HB4.out hQ⟩
end Go.Proofs.YtiifeocfphojaaaDoor
