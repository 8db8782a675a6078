/- OpReads: it answers true for every text (the law of P8.2), in whatever memory in which the listed variables read as their texts lay them. -/
import Derived.Test.YtaiioflhkmflgaaDoorOpRefParse
import Derived.Test.YtaiioflhkmflgaaDoorOpTexts
namespace Go.Proofs.YtaiioflhkmflgaaDoor
open Go Go.RowKit
set_option maxRecDepth 100000

theorem reads_long (S : ByteArray) (h : 100 < S.size) (hm : S.size ≤ 9223372036854775807) (w : World) (hL : LaidP w) :
    Calls Tryd.prog 5 #[.string S] w fun e w' => e = .returned (.bool true) ∧ Below w.heap.size w w' := by
  have HA := Lib.hid (awake_c w hL.text)
  clear hL
  go_enter Tryd.func5, Tryd.ntmps5
  go_wp2_with fail
  refine HA.out.mono ?_
  rintro e W ⟨rfl, hb⟩
  go_wp2_with fail
  go_ret
  exact ⟨rfl, hb⟩
set_option maxHeartbeats 3200000 in
theorem reads_short (S : ByteArray) (h : S.size ≤ 100) (w : World) (hL : LaidP w) :
    Calls Tryd.prog 5 #[.string S] w fun e w' => e = .returned (.bool true) ∧ Below w.heap.size w w' := by
  have HA := Lib.hid (awake_c w hL.text)
  have HP := Lib.hid (parse_c S (by omega))
  have HQ := Lib.hid (refParse_c S (by omega))
  have HL := Lib.hid hL
  clear hL
  go_enter Tryd.func5, Tryd.ntmps5
  go_wp2_with fail
  refine HA.out.mono ?_
  rintro e W ⟨rfl, hb⟩
  have HB := Lib.hid hb
  clear HA hb
  go_wp2_with fail
  refine (HP.out _ (HL.out.below HB.out)).mono ?_
  rintro e W1 ⟨hW1, a, b, c, d, r, rfl, hp⟩
  have HB1 := Lib.hid (below_on (belowOn HB.out hW1) (.cells #[.int .i64 a, .int .i64 b, .int .i64 c, .int .i64 d] 25))
  have HX := Lib.hid (BoxAt.new W1 a b c d 25)
  have HH := Lib.hid hp
  clear HB hW1 HP hp
  go_wp2_with fail
  refine (HQ.out _).mono ?_
  rintro e W2 ⟨hW2, a', b', c', d', r', rfl, hq⟩
  obtain ⟨rfl, rfl, rfl, rfl, rfl⟩ := HH.out.same hq
  have HB2 := Lib.hid (below_on (belowOn HB1.out hW2) (.cells #[.int .i64 a, .int .i64 b, .int .i64 c, .int .i64 d] 25))
  have hx := HX.out.below hW2
  have hlt : W1.heap.size < W2.heap.size := lt_of_cell hx.1
  have hne : W1.heap.size ≠ W2.heap.size := by omega
  obtain ⟨x0, x1, x2, x3⟩ := hx
  clear HX HB1 hW2 HQ hq
  rcases HH.out with ⟨hT, rfl⟩ | ⟨_, rfl, rfl, rfl, rfl, rfl⟩
  · have hE : (⟨(textF a b c d).toArray⟩ : ByteArray) = S := by rw [← hT.eq]
    have HTx := Lib.hid (text_c a b c d hT.na.2 hT.nb.2 hT.nc.2)
    rw [hE] at HTx
    clear HH hT hE
    go_wp2_with fail
    refine (HTx.out _ (HL.out.below HB2.out).text).mono ?_
    rintro e W3 ⟨rfl, hW3⟩
    go_wp2_with fail
    go_ret
    exact ⟨rfl, belowOn HB2.out hW3⟩
  · clear HH
    go_wp2_with fail
    go_ret
    exact ⟨rfl, HB2.out⟩
theorem reads_c (S : ByteArray) (hm : S.size ≤ 9223372036854775807) (w : World) (hL : LaidP w) :
    Calls Tryd.prog 5 #[.string S] w fun e w' => e = .returned (.bool true) ∧ Below w.heap.size w w' := by
  by_cases h : 100 < S.size
  · exact reads_long S h hm w hL
  · exact reads_short S (by omega) w hL
end Go.Proofs.YtaiioflhkmflgaaDoor
