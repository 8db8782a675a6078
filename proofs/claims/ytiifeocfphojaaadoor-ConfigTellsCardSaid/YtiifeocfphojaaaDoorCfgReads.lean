/- The laws' own first look (awake), and ConfigReads: it answers true for every text (the law of P3.3), in whatever memory in which the listed variables read as their texts lay them. -/
import Derived.Test.YtiifeocfphojaaaDoorCfgRefWalk
namespace Go.Proofs.YtiifeocfphojaaaDoor
open Go Go.RowKit
set_option maxRecDepth 100000

theorem Parsed.hit {S : ByteArray} {a b c d r a' b' c' d' : Int} (h : Parsed S a b c d r) (ht : IsText S.data.toList a' b' c' d') : a = a' ∧ b = b' ∧ c = c' ∧ d = d' ∧ r = 0 := by
  rcases h with ⟨h, rfl⟩ | ⟨h, _⟩
  · obtain ⟨rfl, rfl, rfl, rfl⟩ := h.inj ht
    exact ⟨rfl, rfl, rfl, rfl, rfl⟩
  · exact absurd ht (h _ _ _ _)
theorem Parsed.miss {S : ByteArray} {a b c d r : Int} (h : Parsed S a b c d r) (ht : ∀ a b c d, ¬ IsText S.data.toList a b c d) : a = 0 ∧ b = 0 ∧ c = 0 ∧ d = 0 ∧ r = 3 := by
  rcases h with ⟨h, _⟩ | ⟨_, h⟩
  · exact absurd h (ht _ _ _ _)
  · exact h
theorem Parsed.same {S : ByteArray} {a b c d r a' b' c' d' r' : Int} (h : Parsed S a b c d r) (h' : Parsed S a' b' c' d' r') : a = a' ∧ b = b' ∧ c = c' ∧ d = d' ∧ r = r' := by
  rcases h' with ⟨h', rfl⟩ | ⟨h', rfl, rfl, rfl, rfl, rfl⟩
  · exact h.hit h'
  · exact h.miss h'
theorem itoa_one {n : Nat} (h : n < 10) : Lib.itoa (n : Int) = [UInt8.ofNat (48 + n)] := by rw [Lib.itoa_nonneg, Lib.decDigits_one h]
theorem first_text : IsText (⟨#[99, 101, 108, 108, 115, 32, 52, 32, 109, 117, 116, 115, 32, 50, 32, 114, 101, 103, 115, 32, 49, 32, 103, 108, 111, 98, 115, 32, 48]⟩ : ByteArray).data.toList 4 2 1 0 := by
  refine ⟨by unfold Right; omega, ?_⟩
  have h4 : Lib.itoa 4 = [52] := itoa_one (n := 4) (by omega)
  have h2 : Lib.itoa 2 = [50] := itoa_one (n := 2) (by omega)
  have h1 : Lib.itoa 1 = [49] := itoa_one (n := 1) (by omega)
  have h0 : Lib.itoa 0 = [48] := itoa_one (n := 0) (by omega)
  unfold textC wordsL
  rw [h4, h2, h1, h0]
  rfl
theorem first_right : Right 4 2 1 0 := first_text.1
set_option maxHeartbeats 3200000 in
theorem awake_c (w : World) (hL : Laid w) : Calls Tryd.prog 6 #[] w fun e w' => e = .returned (.bool true) ∧ Below w.heap.size w w' := by
  have HP := Lib.hid (parse_c ⟨#[99, 101, 108, 108, 115, 32, 52, 32, 109, 117, 116, 115, 32, 50, 32, 114, 101, 103, 115, 32, 49, 32, 103, 108, 111, 98, 115, 32, 48]⟩ (by decide) w hL)
  have HR : Hid (∀ w, SpansAt w → Calls Tryd.prog 12 #[.agg #[.int .i64 4, .int .i64 2, .int .i64 1, .int .i64 0]] w fun e w' => e = .returned (.int .i64 3) ∧ Below w.heap.size w w') := Lib.hid (roots_right 4 2 1 0 first_right)
  have HW : Hid (∀ w, SpansAt w → Calls Tryd.prog 13 #[.agg #[.int .i64 4, .int .i64 2, .int .i64 1, .int .i64 0]] w fun e w' => e = .returned (.int .i64 21) ∧ Below w.heap.size w w') := Lib.hid (words_right 4 2 1 0 first_right)
  have HL := Lib.hid hL
  clear hL
  go_enter Tryd.func6, Tryd.ntmps6
  go_wp2_with fail
  refine HP.out.mono ?_
  rintro e W ⟨hW, a, b, c, d, r, rfl, hp⟩
  obtain ⟨rfl, rfl, rfl, rfl, rfl⟩ := hp.hit first_text
  have HB := Lib.hid (below_on hW (.cells #[.int .i64 4, .int .i64 2, .int .i64 1, .int .i64 0] 23))
  have HX := Lib.hid (BoxAt.new W 4 2 1 0 23)
  clear hp hW HP
  go_wp2_with fail
  refine (HR.out _ (HL.out.below HB.out).spans).mono ?_
  rintro e W1 ⟨rfl, hW1⟩
  have HB1 := Lib.hid (belowOn HB.out hW1)
  obtain ⟨x0, x1, x2, x3⟩ := HX.out.below hW1
  clear HX HB hW1 HR
  go_wp2_with fail
  refine (HW.out _ (HL.out.below HB1.out).spans).mono ?_
  rintro e W2 ⟨rfl, hW2⟩
  have HB2 := Lib.hid (belowOn HB1.out hW2)
  clear HB1 hW2 HW
  go_wp2_with fail
  go_ret
  exact ⟨rfl, HB2.out⟩
theorem reads_long (S : ByteArray) (h : 100 < S.size) (hm : S.size ≤ 9223372036854775807) (w : World) (hL : Laid w) :
    Calls Tryd.prog 4 #[.string S] w fun e w' => e = .returned (.bool true) ∧ Below w.heap.size w w' := by
  have HA := Lib.hid (awake_c w hL)
  clear hL
  go_enter Tryd.func4, Tryd.ntmps4
  go_wp2_with fail
  refine HA.out.mono ?_
  rintro e W ⟨rfl, hb⟩
  go_wp2_with fail
  go_ret
  exact ⟨rfl, hb⟩
set_option maxHeartbeats 3200000 in
theorem reads_short (S : ByteArray) (h : S.size ≤ 100) (w : World) (hL : Laid w) :
    Calls Tryd.prog 4 #[.string S] w fun e w' => e = .returned (.bool true) ∧ Below w.heap.size w w' := by
  have HA := Lib.hid (awake_c w hL)
  have HP := Lib.hid (parse_c S (by omega))
  have HQ := Lib.hid (refParse_c S (by omega))
  have HL := Lib.hid hL
  clear hL
  go_enter Tryd.func4, Tryd.ntmps4
  go_wp2_with fail
  refine HA.out.mono ?_
  rintro e W ⟨rfl, hb⟩
  have HB := Lib.hid hb
  clear HA hb
  go_wp2_with fail
  refine (HP.out _ (HL.out.below HB.out)).mono ?_
  rintro e W1 ⟨hW1, a, b, c, d, r, rfl, hp⟩
  have HB1 := Lib.hid (below_on (belowOn HB.out hW1) (.cells #[.int .i64 a, .int .i64 b, .int .i64 c, .int .i64 d] 23))
  have HX := Lib.hid (BoxAt.new W1 a b c d 23)
  have HH := Lib.hid hp
  clear HB hW1 HP hp
  go_wp2_with fail
  refine (HQ.out _).mono ?_
  rintro e W2 ⟨hW2, a', b', c', d', r', rfl, hq⟩
  obtain ⟨rfl, rfl, rfl, rfl, rfl⟩ := HH.out.same hq
  have HB2 := Lib.hid (below_on (belowOn HB1.out hW2) (.cells #[.int .i64 a, .int .i64 b, .int .i64 c, .int .i64 d] 23))
  have hx := HX.out.below hW2
  have hlt : W1.heap.size < W2.heap.size := lt_of_cell hx.1
  have hne : W1.heap.size ≠ W2.heap.size := by omega
  obtain ⟨x0, x1, x2, x3⟩ := hx
  clear HX HB1 hW2 HQ HH hq
  go_wp2_with fail
  go_ret
  exact ⟨rfl, HB2.out⟩
theorem reads_c (S : ByteArray) (hm : S.size ≤ 9223372036854775807) (w : World) (hL : Laid w) :
    Calls Tryd.prog 4 #[.string S] w fun e w' => e = .returned (.bool true) ∧ Below w.heap.size w w' := by
  by_cases h : 100 < S.size
  · exact reads_long S h hm w hL
  · exact reads_short S (by omega) w hL
end Go.Proofs.YtiifeocfphojaaaDoor
