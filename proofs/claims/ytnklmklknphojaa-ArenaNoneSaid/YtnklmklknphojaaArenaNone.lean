/- ArenaNone answers true for every row of words, every place and every word: a nil arena has no places; what is told of all words may be written over; what was handed in stays apart. -/
import Derived.Test.YtnklmklknphojaaArenaPlay
import Derived.Test.YtnklmklknphojaaArenaFrame
namespace Go.Proofs.Ytnklmklknphojaa
open Go Go.RowKit
set_option maxRecDepth 100000

theorem none_long (a : Option Addr) (n cap : Nat) (i x : Int) (h : 60 < n) (hn : n ≤ 9223372036854775807) (w : World) :
    Calls Try.prog 5 #[.slice a n cap, .int .i64 i, .int .u64 x] w fun e w' => e = .returned (.bool true) ∧ Below w.heap.size w w' := by
  go_enter Try.func5, Try.ntmps5
  go_wp2_with fail
  refine (awake_c _).mono ?_
  rintro e W ⟨rfl, hb⟩
  go_wp2_with fail
  go_ret
  exact ⟨rfl, hb⟩
set_option maxHeartbeats 12800000 in
theorem none_short (a : Option Addr) (n cap : Nat) (f : Nat → Int) (i x : Int) (hn : n ≤ 60) (w : World) (hG0 : Given w a n cap f) :
    Calls Try.prog 5 #[.slice a n cap, .int .i64 i, .int .u64 x] w fun e w' => e = .returned (.bool true) ∧ Below w.heap.size w w' := by
  have HG := Lib.hid hG0; clear hG0
  go_enter Try.func5, Try.ntmps5
  go_wp2_with fail
  refine (awake_c _).mono ?_
  rintro e W0 ⟨rfl, hb0⟩
  have HB0 := Lib.hid hb0; clear hb0
  go_wp2_with fail
  refine (Store_out (noPlace_nil _ _) x).mono ?_
  rintro e W ⟨rfl, rfl⟩
  go_wp2_with fail
  refine (Do_out 1 i 0 0 0 (fun W _ => noPlace_nil W i)).mono ?_
  rintro e W1 ⟨rfl, hb1⟩
  have HB1 := Lib.hid (below_on (belowOn HB0.out hb1) (.cells #[.int .i64 0, .int .i64 0, .int .u64 0, .int .u64 0, .int .u64 0] 31))
  clear hb1 HB0
  go_wp2_with fail
  refine (Load_out (noPlace_nil _ _)).mono ?_
  rintro e W ⟨rfl, rfl⟩
  go_wp2_with fail
  refine (Cas_out (noPlace_nil _ _) 0 x).mono ?_
  rintro e W ⟨rfl, rfl⟩
  go_wp2_with fail
  refine (Add_out (noPlace_nil _ _) x).mono ?_
  rintro e W ⟨rfl, rfl⟩
  go_wp2_with fail
  refine (Len_nil _).mono ?_
  rintro e W ⟨rfl, rfl⟩
  go_wp2_with fail
  refine (All_nil _).mono ?_
  rintro e W2 ⟨rfl, hb2⟩
  have HB2 := Lib.hid (belowOn HB1.out hb2)
  clear hb2 HB1
  go_wp2_with fail
  refine (Copy_c a n cap f hn W2 (HG.out.2.1.below HB2.out) HG.out.2.2.2).mono ?_
  rintro e W3 ⟨b, c, rfl, hb3, hM, hap⟩
  have HB3 := Lib.hid (belowOn HB2.out hb3)
  have HM := Lib.hid hM; have HAp := Lib.hid hap
  have hs3 : w.heap.size ≤ W2.heap.size := HB2.out.size
  have hs4 : W2.heap.size ≤ W3.heap.size := hb3.size
  clear hb3 hM hap HB2
  go_wp2_with fail
  refine (New_c b n c f hn W3 HM.out.words).mono ?_
  rintro e W4 ⟨rfl, hA, hb4⟩
  have HA := Lib.hid hA; have HB4 := Lib.hid (belowOn HB3.out hb4); have HM4 := Lib.hid (HM.out.below hb4)
  have HS4 := Lib.hid hb4.size
  clear hA hb4 HB3 HM
  have hA1 : W3.heap.size + 1 < W4.heap.size := HA.out.lt
  have HP : Hid (Play w W4 (W3.heap.size + 1) W3.heap.size b n W2.heap.size W3.heap.size f f) := Lib.hid ⟨HB4.out, HA.out, HM4.out, HS4.out, by omega, fun R e => by
    have h1 := HAp.out R e
    exact ⟨by omega, by omega, by omega, h1.2⟩⟩
  clear HAp HM4 HA HB4 hs3 hs4 HS4 hA1
  generalize W3.heap.size + 1 = A at *
  generalize W3.heap.size = G at *
  generalize W2.heap.size = N at *
  go_wp2_with fail
  go_loopw [12] (fun vi wr => ∃ k : Nat, vi = .int .i64 k ∧ k ≤ n ∧ Hid (∃ h, Play w wr A G b n N G f h)) (fun vi _ => n - (intOf vi).toNat)
  case atStart => exact ⟨0, rfl, Nat.zero_le _, Lib.hid ⟨f, HP.out⟩⟩
  case round =>
    clear HP
    obtain ⟨k, rfl, hk, HF⟩ := hrel
    obtain ⟨h, hP⟩ := HF.out
    clear HF
    by_cases hlt : k < n
    · obtain ⟨R, rfl, hc, hf⟩ := hP.at' hlt
      have hws := wrap_sum (h k) 1
      have HN := Lib.hid (hP.put (by omega) k (sumW (h k) 1))
      generalize sumW (h k) 1 = s at *
      generalize h k = u at *
      clear hP
      go_wp2_with fail
      clear hc hf hws
      go_roundw
      case rel => exact ⟨k + 1, by go_num, by omega, Lib.hid ⟨_, HN.out⟩⟩
      case measure => simp [intOf]; omega
    · obtain rfl : k = n := by omega
      have HL := Lib.hid (All_c hP.ar hn)
      have HP := Lib.hid hP
      clear hP
      go_wp2_with fail
      refine HL.out.mono ?_
      rintro e V ⟨rfl, hrow, hb⟩
      have HQ : Hid (Play w V A G (some ⟨wr.heap.size, 0, none⟩) k wr.heap.size V.heap.size f f) := Lib.hid ⟨belowOn HP.out.old hb, HP.out.ar.below hb, .inr ⟨_, rfl, Nat.le_refl _, hrow⟩, Nat.le_refl _, HP.out.g0, fun R e => by
        cases e
        have h1 := HP.out.old.size; have h2 := HP.out.ar.lt; have h3 := HP.out.ar.row.lt; have h4 := hrow.lt
        exact ⟨h1, by omega, by omega, h4⟩⟩
      clear HP HL hrow hb
      generalize wr.heap.size = P at *
      go_wp2_with fail
      go_loopw [14] (fun vi wr => ∃ j : Nat, vi = .int .i64 j ∧ j ≤ k ∧ Hid (∃ h, Play w wr A G (some ⟨P, 0, none⟩) k P V.heap.size f h)) (fun vi _ => k - (intOf vi).toNat)
      case atStart => exact ⟨0, rfl, Nat.zero_le _, Lib.hid ⟨f, HQ.out⟩⟩
      case round =>
        clear HQ
        obtain ⟨j, rfl, hj, HF⟩ := hrel
        obtain ⟨h, hP⟩ := HF.out
        clear HF
        by_cases hlt2 : j < k
        · obtain ⟨R, hR, hc, hf⟩ := hP.at' hlt2
          obtain rfl : P = R := by cases hR; rfl
          have hws := wrap_sum (h j) 2
          have HN := Lib.hid (hP.put (by omega) j (sumW (h j) 2))
          generalize sumW (h j) 2 = s at *
          generalize h j = u at *
          clear hP hR
          go_wp2_with fail
          clear hc hf hws
          go_roundw
          case rel => exact ⟨j + 1, by go_num, by omega, Lib.hid ⟨_, HN.out⟩⟩
          case measure => simp [intOf]; omega
        · obtain rfl : j = k := by omega
          have HL := Lib.hid (All_c hP.ar hn)
          have HO := Lib.hid hP.old
          clear hP
          go_wp2_with fail
          refine HL.out.mono ?_
          rintro e V2 ⟨rfl, hrow, hb⟩
          have HB := Lib.hid (belowOn HO.out hb)
          have HS := Lib.hid (Same_c _ a j j cap f hn V2 hrow.words (HG.out.2.1.below HB.out))
          clear HL hrow hb HO
          go_wp2_with fail
          refine HS.out.mono ?_
          rintro e V3 ⟨rfl, hb⟩
          have HB2 := Lib.hid (belowOn HB.out hb)
          clear hb HS HB
          go_wp2_with fail
          go_ret
          exact ⟨rfl, HB2.out⟩
theorem none_any (a : Option Addr) (n cap : Nat) (f : Nat → Int) (i x : Int) (w : World) (h : Given w a n cap f) :
    Calls Try.prog 5 #[.slice a n cap, .int .i64 i, .int .u64 x] w fun e w' => e = .returned (.bool true) ∧ Below w.heap.size w w' := by
  by_cases hn : n ≤ 60
  · exact none_short a n cap f i x hn w h
  · exact none_long a n cap i x (by omega) h.1 w
end Go.Proofs.Ytnklmklknphojaa
