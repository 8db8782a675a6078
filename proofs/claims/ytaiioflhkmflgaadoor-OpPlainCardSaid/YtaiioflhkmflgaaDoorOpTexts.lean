/- The laws' own first look (awake), and OpTexts: it answers true for every operation (the law of P8.2), in whatever memory in which the listed variables read as their texts lay them. -/
import Derived.Test.YtaiioflhkmflgaaDoorOpParse
namespace Go.Proofs.YtaiioflhkmflgaaDoor
open Go Go.RowKit
set_option maxRecDepth 100000
attribute [local go_sem ↓] Go.wp_at_zero Go.wp_at_succ

theorem itoa_one {n : Nat} (h : n < 10) : Lib.itoa (n : Int) = [UInt8.ofNat (48 + n)] := by rw [Lib.itoa_nonneg, Lib.decDigits_one h]
theorem first_text : textF 3 0 1 2 = [99, 111, 110, 115, 32, 48, 32, 49, 32, 50] := by
  have h2 : Lib.itoa 2 = [50] := itoa_one (n := 2) (by omega)
  have h1 : Lib.itoa 1 = [49] := itoa_one (n := 1) (by omega)
  have h0 : Lib.itoa 0 = [48] := itoa_one (n := 0) (by omega)
  have e : textF 3 0 1 2 = Lib.join (textL 3 0 1 2) [32] := if_pos (by decide)
  rw [e]
  show Lib.join [[99, 111, 110, 115], Lib.itoa 0, Lib.itoa 1, Lib.itoa 2] [32] = _
  rw [h0, h1, h2]
  rfl
theorem awake_c (w : World) (hL : LaidT w) : Calls Tryd.prog 7 #[] w fun e w' => e = .returned (.bool true) ∧ Below w.heap.size w w' := by
  have hT := text_c 3 0 1 2 (by unfold inI; omega) (by unfold inI; omega) (by unfold inI; omega) w hL
  rw [first_text] at hT
  have HT := Lib.hid hT
  clear hL hT
  go_enter Tryd.func7, Tryd.ntmps7
  go_wp2_with fail
  refine HT.out.mono ?_
  rintro e W ⟨rfl, hW⟩
  go_wp2_with fail
  go_ret
  exact ⟨rfl, hW⟩
theorem textF_short {k a b c : Int} (ha : inI a) (hb : inI b) (hc : inI c) : (textF k a b c).length ≤ 100 := by
  unfold textF
  split
  · rename_i h
    exact text_short _ _ (nmL_short _) (by unfold nums; rw [numsH_length]; exact hsL_short _) h.2 (nums_in ha hb hc)
  · simp
theorem two_below {w w' : World} {B C : Nat} {k a b c k2 a2 b2 c2 : Int} (h : BoxAt w B k a b c ∧ BoxAt w C k2 a2 b2 c2) (hb : Below w.heap.size w w') : BoxAt w' B k a b c ∧ BoxAt w' C k2 a2 b2 c2 := ⟨h.1.below hb, h.2.below hb⟩
set_option maxHeartbeats 6400000 in
theorem texts_c (k a b c : Int) (ha : inI a) (hb : inI b) (hc : inI c) (w : World) (hL : LaidP w) :
    Calls Tryd.prog 4 #[.agg #[.int .i64 k, .int .i64 a, .int .i64 b, .int .i64 c]] w fun e w' => e = .returned (.bool true) ∧ Below w.heap.size w w' := by
  have hb0 := below_new w (.cells #[.int .i64 k, .int .i64 a, .int .i64 b, .int .i64 c] 25)
  have HA := Lib.hid (awake_c _ (hL.below hb0).text)
  have HX := Lib.hid (Arr4.new w 25 k a b c)
  have HTx := Lib.hid (text_c k a b c ha hb hc)
  have HRx := Lib.hid (opRefText_c k a b c ha hb hc)
  have HPl := Lib.hid (refPlain_c k a b c)
  have hlen : (textF k a b c).length ≤ 100 := textF_short ha hb hc
  have HPa := Lib.hid (parse_c ⟨(textF k a b c).toArray⟩ (by simp [ByteArray.size]; omega))
  have HNo : Hid (textF k a b c = [] → ∀ k' a' b' c', ¬ IsText (textF k a b c) k' a' b' c') := Lib.hid (fun e k' a' b' c' h => by have := h.long; rw [e] at this; simp at this)
  have HIs : Hid (textF k a b c ≠ [] → IsText (textF k a b c) k a (plB k b) (plC k c)) := Lib.hid (fun e => text_is ha hb hc rfl e)
  have HL := Lib.hid hL; have HB := Lib.hid hb0
  clear hL hb0 ha hb hc
  generalize textF k a b c = l at *
  generalize plB k b = pb at *
  generalize plC k c = pc at *
  go_enter Tryd.func4, Tryd.ntmps4
  go_wp2_with fail
  refine HA.out.mono ?_
  rintro e W ⟨rfl, hW⟩
  have HX1 := Lib.hid (HX.out.below hW); have HB1 := Lib.hid (belowOn HB.out hW)
  obtain ⟨x0, x1, x2, x3, _⟩ := HX1.out.cells
  clear HA HX HB hW
  go_wp2_with fail
  refine (HTx.out _ (HL.out.below HB1.out).text).mono ?_
  rintro e W2 ⟨rfl, hW⟩
  have HX2 := Lib.hid (HX1.out.below hW); have HB2 := Lib.hid (belowOn HB1.out hW)
  clear HX1 HB1 hW x0 x1 x2 x3 HTx
  go_wp2_with fail
  refine (HPa.out _ (HL.out.below HB2.out)).mono ?_
  rintro e W3 ⟨hW, k', a', b', c', r, rfl, hP⟩
  have hP' : l = [] ∧ r = 3 ∨ l ≠ [] ∧ k' = k ∧ a' = a ∧ b' = pb ∧ c' = pc ∧ r = 0 := by
    by_cases he : l = []
    · exact .inl ⟨he, (hP.miss (by simpa using HNo.out he)).2.2.2.2⟩
    · exact .inr ⟨he, hP.hit (by simpa using HIs.out he)⟩
  have HX3 := Lib.hid ((HX2.out.below hW).below (below_new _ (.cells #[.int .i64 k', .int .i64 a', .int .i64 b', .int .i64 c'] 25)))
  have HY3 := Lib.hid (Arr4.new W3 25 k' a' b' c')
  have HB3 := Lib.hid (below_on (belowOn HB2.out hW) (.cells #[.int .i64 k', .int .i64 a', .int .i64 b', .int .i64 c'] 25))
  have hlt0 : w.heap.size < W3.heap.size := (HX2.out.below hW).lt
  have hne0 : w.heap.size ≠ W3.heap.size := by omega
  obtain ⟨y0, y1, y2, y3, _⟩ := (HX2.out.below hW).cells
  clear HX2 HB2 hW HPa hP
  go_wp2_with fail
  refine (HRx.out _).mono ?_
  rintro e W4 ⟨rfl, hW⟩
  have HX4 := Lib.hid (HX3.out.below hW); have HY4 := Lib.hid (HY3.out.below hW); have HB4 := Lib.hid (belowOn HB3.out hW)
  clear HX3 HY3 HB3 hW HRx y0 y1 y2 y3
  rcases hP' with ⟨rfl, rfl⟩ | ⟨hl, rfl, rfl, rfl, rfl, rfl⟩
  · go_wp2_with fail
    go_ret
    exact ⟨rfl, HB4.out⟩
  · have hq : l.isEmpty = false := by simpa using hl
    obtain ⟨x0, x1, x2, x3, _⟩ := HX4.out.cells
    obtain ⟨y0, y1, y2, y3, _⟩ := HY4.out.cells
    clear HNo HIs HX4 HY4
    go_wp2_with fail
    go_region_held3 (fun w' => (w'.cell? ⟨w.heap.size, 0, none⟩ = some (.int .i64 k') ∧ w'.cell? ⟨w.heap.size, 1, none⟩ = some (.int .i64 a') ∧ w'.cell? ⟨w.heap.size, 2, none⟩ = some (.int .i64 b) ∧ w'.cell? ⟨w.heap.size, 3, none⟩ = some (.int .i64 c)) ∧ w'.cell? ⟨W3.heap.size, 0, none⟩ = some (.int .i64 k') ∧ w'.cell? ⟨W3.heap.size, 1, none⟩ = some (.int .i64 a') ∧ w'.cell? ⟨W3.heap.size, 2, none⟩ = some (.int .i64 b') ∧ w'.cell? ⟨W3.heap.size, 3, none⟩ = some (.int .i64 c')) (first | assumption | go_keep)
      (first
        | (go_at_call 19; refine (HPl.out _).mono ?_; rintro e w1 ⟨rfl, hW1⟩; have hS := two_below (B := w.heap.size) (C := W3.heap.size) (k := k') (a := a') (b := b) (c := c) (k2 := k') (a2 := a') (b2 := b') (c2 := c') (by assumption) hW1))
    all_goals go_wp2_with fail
    all_goals go_ret
    all_goals exact ⟨by simp, belowOn HB4.out.drew hW1⟩
end Go.Proofs.YtaiioflhkmflgaaDoor
