/- ArenaCalls answers true for every row of words, every place and all words: what each call tells of a place, and what is there then, is as the document says. -/
import Derived.Test.YtnklmklknphojaaArenaDo
import Derived.Test.YtnklmklknphojaaArenaFrame
namespace Go.Proofs.Ytnklmklknphojaa
open Go Go.RowKit
set_option maxRecDepth 100000

theorem size_setCell (w : World) (p : Addr) (v : Value) : (w.setCell p v).heap.size = w.heap.size := by simp [World.setCell]
theorem calls_long (a : Option Addr) (n cap : Nat) (i x y : Int) (h : 60 < n) (hn : n ≤ 9223372036854775807) (w : World) :
    Calls Try.prog 4 #[.slice a n cap, .int .i64 i, .int .u64 x, .int .u64 y] w fun e w' => e = .returned (.bool true) ∧ Below w.heap.size w w' := by
  go_enter Try.func4, Try.ntmps4
  go_wp2_with fail
  refine (awake_c _).mono ?_
  rintro e W ⟨rfl, hb⟩
  go_wp2_with fail
  go_ret
  exact ⟨rfl, hb⟩
theorem upd_self (f : Nat → Int) (j z : Nat) : upd f j (f j) z = f z := by
  unfold upd
  by_cases e : z = j
  · rw [if_pos e, e]
  · rw [if_neg e]
set_option maxHeartbeats 12800000 in
theorem calls_in (a : Option Addr) (n cap : Nat) (f : Nat → Int) (j : Nat) (hj : j < n) (x y : Int) (hn : n ≤ 60) (w : World) (hG0 : Given w a n cap f) :
    Calls Try.prog 4 #[.slice a n cap, .int .i64 j, .int .u64 x, .int .u64 y] w fun e w' => e = .returned (.bool true) ∧ Below w.heap.size w w' := by
  have HG := Lib.hid hG0; clear hG0
  go_enter Try.func4, Try.ntmps4
  go_wp2_with fail
  refine (awake_c _).mono ?_
  rintro e W0 ⟨rfl, hb0⟩
  have HB0 := Lib.hid hb0; clear hb0
  obtain ⟨b0, off, rfl, hc0⟩ := (HG.out.2.1.below HB0.out).at' hj
  generalize hv : f j = v at hc0
  have HJ := Lib.hid hv; clear hv
  go_wp2_with fail
  clear hc0
  go_loopw [11] (fun vi wr => ∃ k : Nat, vi = .int .i64 k ∧ k ≤ 4 ∧ Hid (Below w.heap.size w wr)) (fun vi _ => 4 - (intOf vi).toNat)
  case atStart => exact ⟨0, rfl, by omega, HB0⟩
  case round =>
    clear HB0
    obtain ⟨k, rfl, hk, HB⟩ := hrel
    by_cases hlt : k < 4
    · have hs0 : w.heap.size ≤ wr.heap.size := HB.out.size
      have HN := Lib.hid (New_c (some ⟨b0, off, none⟩) n cap f hn wr (HG.out.2.1.below HB.out))
      obtain rfl | rfl | rfl | rfl : k = 0 ∨ k = 1 ∨ k = 2 ∨ k = 3 := by omega
      · go_wp2_with fail
        refine HN.out.mono ?_
        rintro e W1 ⟨rfl, hA1, hb1⟩
        have HA := Lib.hid hA1; have HV := Lib.hid (belowOn HB.out hb1)
        clear HN hA1 hb1 HB
        generalize wr.heap.size + 1 = A at *
        generalize wr.heap.size = G at *
        have hG : w.heap.size ≤ G := hs0
        have HX0 := Lib.hid (Load_in HA.out j hj)
        rw [HJ.out] at HX0
        have HX := HX0
        go_wp2_with fail
        refine HX.out.mono ?_
        rintro e V ⟨rfl, rfl⟩
        clear HX
        go_wp2_with fail
        refine (Copy_c (some ⟨b0, off, none⟩) n cap f hn W1 (HG.out.2.1.below HV.out) HG.out.2.2.2).mono ?_
        rintro e V2 ⟨b, c, rfl, hb2, hM, hap⟩
        rcases hM with hM | ⟨R, rfl, hR, hr⟩
        · omega
        have hge : w.heap.size ≤ R := by have := HV.out.size; omega
        have HW : Hid (Below w.heap.size w (V2.setCell ⟨R, j, none⟩ (.int .u64 v))) := Lib.hid ((belowOn HV.out hb2).setCell (p := ⟨R, j, none⟩) hge _)
        have hltA : A < W1.heap.size := HA.out.lt
        have hltG : G < W1.heap.size := HA.out.row.lt
        have HAA : Hid (ArenaAt (V2.setCell ⟨R, j, none⟩ (.int .u64 v)) A G n f) := Lib.hid ((HA.out.below hb2).setOther (p := ⟨R, j, none⟩) (by simp only; omega) (by simp only; omega) _)
        have HRR : Hid (RowAt (V2.setCell ⟨R, j, none⟩ (.int .u64 v)) R 29 n f) := Lib.hid ((hr.set j v).congr (fun z _ => by rw [← HJ.out]; exact upd_self f j z))
        have hc := hr.cell hj
        have hf := hr.frozen j
        clear hr hap hb2 HV HA hltA hltG hR
        have HL := Lib.hid (All_c HAA.out hn)
        go_wp2_with fail
        refine HL.out.mono ?_
        rintro e V3 ⟨rfl, hrow, hb3⟩
        have HS := Lib.hid (Same_c _ (some ⟨R, 0, none⟩) n n c f hn V3 hrow.words (HRR.out.below hb3).words)
        rw [size_setCell] at HS
        have HW3 := Lib.hid (belowOn HW.out hb3)
        clear hrow hb3 HL HAA HRR HW
        go_wp2_with fail
        refine HS.out.mono ?_
        rintro e V4 ⟨rfl, hb4⟩
        have HW4 := Lib.hid (belowOn HW3.out hb4)
        clear hb4 HS HW3
        go_wp2_with fail
        go_roundw
        case rel => exact ⟨0 + 1, by go_num, by omega, HW4⟩
        case measure => simp [intOf]
      · go_wp2_with fail
        refine HN.out.mono ?_
        rintro e W1 ⟨rfl, hA1, hb1⟩
        have HA := Lib.hid hA1; have HV := Lib.hid (belowOn HB.out hb1)
        clear HN hA1 hb1 HB
        generalize wr.heap.size + 1 = A at *
        generalize wr.heap.size = G at *
        have hG : w.heap.size ≤ G := hs0
        have HX := Lib.hid (Store_in HA.out j hj x)
        go_wp2_with fail
        refine HX.out.mono ?_
        rintro e V ⟨rfl, hV⟩
        have HV2 : Hid (Below w.heap.size w V) := Lib.hid (by rw [hV]; exact HV.out.setCell (p := ⟨G, j, none⟩) hG _)
        have HA2 : Hid (ArenaAt V A G n (upd f j x)) := Lib.hid (by rw [hV]; exact HA.out.set j _)
        clear hV HX HV HA
        rename Hid (Below w.heap.size w V) => HV
        rename Hid (ArenaAt V A G n (upd f j x)) => HA
        go_wp2_with fail
        refine (Copy_c (some ⟨b0, off, none⟩) n cap f hn V (HG.out.2.1.below HV.out) HG.out.2.2.2).mono ?_
        rintro e V2 ⟨b, c, rfl, hb2, hM, hap⟩
        rcases hM with hM | ⟨R, rfl, hR, hr⟩
        · omega
        have hge : w.heap.size ≤ R := by have := HV.out.size; omega
        have HW : Hid (Below w.heap.size w (V2.setCell ⟨R, j, none⟩ (.int .u64 x))) := Lib.hid ((belowOn HV.out hb2).setCell (p := ⟨R, j, none⟩) hge _)
        have hltA : A < V.heap.size := HA.out.lt
        have hltG : G < V.heap.size := HA.out.row.lt
        have HAA : Hid (ArenaAt (V2.setCell ⟨R, j, none⟩ (.int .u64 x)) A G n (upd f j x)) := Lib.hid ((HA.out.below hb2).setOther (p := ⟨R, j, none⟩) (by simp only; omega) (by simp only; omega) _)
        have HRR : Hid (RowAt (V2.setCell ⟨R, j, none⟩ (.int .u64 x)) R 29 n (upd f j x)) := Lib.hid ((hr.set j x).congr (fun z _ => rfl))
        have hc := hr.cell hj
        have hf := hr.frozen j
        clear hr hap hb2 HV HA hltA hltG hR
        have HL := Lib.hid (All_c HAA.out hn)
        go_wp2_with fail
        refine HL.out.mono ?_
        rintro e V3 ⟨rfl, hrow, hb3⟩
        have HS := Lib.hid (Same_c _ (some ⟨R, 0, none⟩) n n c (upd f j x) hn V3 hrow.words (HRR.out.below hb3).words)
        rw [size_setCell] at HS
        have HW3 := Lib.hid (belowOn HW.out hb3)
        clear hrow hb3 HL HAA HRR HW
        go_wp2_with fail
        refine HS.out.mono ?_
        rintro e V4 ⟨rfl, hb4⟩
        have HW4 := Lib.hid (belowOn HW3.out hb4)
        clear hb4 HS HW3
        go_wp2_with fail
        go_roundw
        case rel => exact ⟨1 + 1, by go_num, by omega, HW4⟩
        case measure => simp [intOf]
      · go_wp2_with fail
        refine HN.out.mono ?_
        rintro e W1 ⟨rfl, hA1, hb1⟩
        have HA := Lib.hid hA1; have HV := Lib.hid (belowOn HB.out hb1)
        clear HN hA1 hb1 HB
        generalize wr.heap.size + 1 = A at *
        generalize wr.heap.size = G at *
        have hG : w.heap.size ≤ G := hs0
        by_cases hx : v = x
        · subst hx
          have HX := Lib.hid (Cas_was HA.out j hj y HJ.out)
          go_wp2_with fail
          refine HX.out.mono ?_
          rintro e V ⟨rfl, hV⟩
          have HV2 : Hid (Below w.heap.size w V) := Lib.hid (by rw [hV]; exact HV.out.setCell (p := ⟨G, j, none⟩) hG _)
          have HA2 : Hid (ArenaAt V A G n (upd f j y)) := Lib.hid (by rw [hV]; exact HA.out.set j _)
          clear hV HX HV HA
          rename Hid (Below w.heap.size w V) => HV
          rename Hid (ArenaAt V A G n (upd f j y)) => HA
          go_wp2_with fail
          refine (Copy_c (some ⟨b0, off, none⟩) n cap f hn V (HG.out.2.1.below HV.out) HG.out.2.2.2).mono ?_
          rintro e V2 ⟨b, c, rfl, hb2, hM, hap⟩
          rcases hM with hM | ⟨R, rfl, hR, hr⟩
          · omega
          have hge : w.heap.size ≤ R := by have := HV.out.size; omega
          have HW : Hid (Below w.heap.size w (V2.setCell ⟨R, j, none⟩ (.int .u64 y))) := Lib.hid ((belowOn HV.out hb2).setCell (p := ⟨R, j, none⟩) hge _)
          have hltA : A < V.heap.size := HA.out.lt
          have hltG : G < V.heap.size := HA.out.row.lt
          have HAA : Hid (ArenaAt (V2.setCell ⟨R, j, none⟩ (.int .u64 y)) A G n (upd f j y)) := Lib.hid ((HA.out.below hb2).setOther (p := ⟨R, j, none⟩) (by simp only; omega) (by simp only; omega) _)
          have HRR : Hid (RowAt (V2.setCell ⟨R, j, none⟩ (.int .u64 y)) R 29 n (upd f j y)) := Lib.hid ((hr.set j y).congr (fun z _ => rfl))
          have hc := hr.cell hj
          have hf := hr.frozen j
          clear hr hap hb2 HV HA hltA hltG hR
          have HL := Lib.hid (All_c HAA.out hn)
          go_wp2_with fail
          refine HL.out.mono ?_
          rintro e V3 ⟨rfl, hrow, hb3⟩
          have HS := Lib.hid (Same_c _ (some ⟨R, 0, none⟩) n n c (upd f j y) hn V3 hrow.words (HRR.out.below hb3).words)
          rw [size_setCell] at HS
          have HW3 := Lib.hid (belowOn HW.out hb3)
          clear hrow hb3 HL HAA HRR HW
          go_wp2_with fail
          refine HS.out.mono ?_
          rintro e V4 ⟨rfl, hb4⟩
          have HW4 := Lib.hid (belowOn HW3.out hb4)
          clear hb4 HS HW3
          go_wp2_with fail
          go_roundw
          case rel => exact ⟨2 + 1, by go_num, by omega, HW4⟩
          case measure => simp [intOf]
        · have hq : (v == x) = false := by rw [beq_eq_false_iff_ne]; exact hx
          have HX := Lib.hid (Cas_miss HA.out j hj x y (fun e => hx (HJ.out.symm.trans e)))
          go_wp2_with fail
          refine HX.out.mono ?_
          rintro e V ⟨rfl, rfl⟩
          clear HX
          go_wp2_with fail
          refine (Copy_c (some ⟨b0, off, none⟩) n cap f hn W1 (HG.out.2.1.below HV.out) HG.out.2.2.2).mono ?_
          rintro e V2 ⟨b, c, rfl, hb2, hM, hap⟩
          rcases hM with hM | ⟨R, rfl, hR, hr⟩
          · omega
          have hge : w.heap.size ≤ R := by have := HV.out.size; omega
          have HW : Hid (Below w.heap.size w (V2.setCell ⟨R, j, none⟩ (.int .u64 v))) := Lib.hid ((belowOn HV.out hb2).setCell (p := ⟨R, j, none⟩) hge _)
          have hltA : A < W1.heap.size := HA.out.lt
          have hltG : G < W1.heap.size := HA.out.row.lt
          have HAA : Hid (ArenaAt (V2.setCell ⟨R, j, none⟩ (.int .u64 v)) A G n f) := Lib.hid ((HA.out.below hb2).setOther (p := ⟨R, j, none⟩) (by simp only; omega) (by simp only; omega) _)
          have HRR : Hid (RowAt (V2.setCell ⟨R, j, none⟩ (.int .u64 v)) R 29 n f) := Lib.hid ((hr.set j v).congr (fun z _ => by rw [← HJ.out]; exact upd_self f j z))
          have hc := hr.cell hj
          have hf := hr.frozen j
          clear hr hap hb2 HV HA hltA hltG hR
          have HL := Lib.hid (All_c HAA.out hn)
          go_wp2_with fail
          refine HL.out.mono ?_
          rintro e V3 ⟨rfl, hrow, hb3⟩
          have HS := Lib.hid (Same_c _ (some ⟨R, 0, none⟩) n n c f hn V3 hrow.words (HRR.out.below hb3).words)
          rw [size_setCell] at HS
          have HW3 := Lib.hid (belowOn HW.out hb3)
          clear hrow hb3 HL HAA HRR HW
          go_wp2_with fail
          refine HS.out.mono ?_
          rintro e V4 ⟨rfl, hb4⟩
          have HW4 := Lib.hid (belowOn HW3.out hb4)
          clear hb4 HS HW3
          go_wp2_with fail
          go_roundw
          case rel => exact ⟨2 + 1, by go_num, by omega, HW4⟩
          case measure => simp [intOf]
      · go_wp2_with fail
        refine HN.out.mono ?_
        rintro e W1 ⟨rfl, hA1, hb1⟩
        have HA := Lib.hid hA1; have HV := Lib.hid (belowOn HB.out hb1)
        clear HN hA1 hb1 HB
        generalize wr.heap.size + 1 = A at *
        generalize wr.heap.size = G at *
        have hG : w.heap.size ≤ G := hs0
        have hx3 := Add_in HA.out j hj (HG.out.2.2.1 j) x
        rw [HJ.out] at hx3
        have hw := wrap_sum v x
        generalize sumW v x = s at *
        have HX3 := Lib.hid hx3
        clear hx3
        have HX := HX3
        go_wp2_with fail
        refine HX.out.mono ?_
        rintro e V ⟨rfl, hV⟩
        have HV2 : Hid (Below w.heap.size w V) := Lib.hid (by rw [hV]; exact HV.out.setCell (p := ⟨G, j, none⟩) hG _)
        have HA2 : Hid (ArenaAt V A G n (upd f j s)) := Lib.hid (by rw [hV]; exact HA.out.set j _)
        clear hV HX HV HA
        rename Hid (Below w.heap.size w V) => HV
        rename Hid (ArenaAt V A G n (upd f j s)) => HA
        go_wp2_with fail
        refine (Copy_c (some ⟨b0, off, none⟩) n cap f hn V (HG.out.2.1.below HV.out) HG.out.2.2.2).mono ?_
        rintro e V2 ⟨b, c, rfl, hb2, hM, hap⟩
        rcases hM with hM | ⟨R, rfl, hR, hr⟩
        · omega
        have hge : w.heap.size ≤ R := by have := HV.out.size; omega
        have HW : Hid (Below w.heap.size w (V2.setCell ⟨R, j, none⟩ (.int .u64 s))) := Lib.hid ((belowOn HV.out hb2).setCell (p := ⟨R, j, none⟩) hge _)
        have hltA : A < V.heap.size := HA.out.lt
        have hltG : G < V.heap.size := HA.out.row.lt
        have HAA : Hid (ArenaAt (V2.setCell ⟨R, j, none⟩ (.int .u64 s)) A G n (upd f j s)) := Lib.hid ((HA.out.below hb2).setOther (p := ⟨R, j, none⟩) (by simp only; omega) (by simp only; omega) _)
        have HRR : Hid (RowAt (V2.setCell ⟨R, j, none⟩ (.int .u64 s)) R 29 n (upd f j s)) := Lib.hid ((hr.set j s).congr (fun z _ => rfl))
        have hc := hr.cell hj
        have hf := hr.frozen j
        clear hr hap hb2 HV HA hltA hltG hR
        have HL := Lib.hid (All_c HAA.out hn)
        go_wp2_with fail
        refine HL.out.mono ?_
        rintro e V3 ⟨rfl, hrow, hb3⟩
        have HS := Lib.hid (Same_c _ (some ⟨R, 0, none⟩) n n c (upd f j s) hn V3 hrow.words (HRR.out.below hb3).words)
        rw [size_setCell] at HS
        have HW3 := Lib.hid (belowOn HW.out hb3)
        clear hrow hb3 HL HAA HRR HW
        go_wp2_with fail
        refine HS.out.mono ?_
        rintro e V4 ⟨rfl, hb4⟩
        have HW4 := Lib.hid (belowOn HW3.out hb4)
        clear hb4 HS HW3
        go_wp2_with fail
        go_roundw
        case rel => exact ⟨3 + 1, by go_num, by omega, HW4⟩
        case measure => simp [intOf]
    · obtain rfl : k = 4 := by omega
      go_wp2_with fail
      go_ret
      exact ⟨rfl, HB.out⟩
set_option maxHeartbeats 12800000 in
theorem calls_under (a : Option Addr) (n cap : Nat) (f : Nat → Int) (i : Int) (hi0 : i < 0) (x y : Int) (hn : n ≤ 60) (w : World) (hG0 : Given w a n cap f) :
    Calls Try.prog 4 #[.slice a n cap, .int .i64 i, .int .u64 x, .int .u64 y] w fun e w' => e = .returned (.bool true) ∧ Below w.heap.size w w' := by
  have HG := Lib.hid hG0; clear hG0
  have hi : ¬ (0 ≤ i ∧ i < n) := by omega
  go_enter Try.func4, Try.ntmps4
  go_wp2_with fail
  refine (awake_c _).mono ?_
  rintro e W0 ⟨rfl, hb0⟩
  have HB0 := Lib.hid hb0; clear hb0
  go_wp2_with fail
  go_loopw [11] (fun vi wr => ∃ k : Nat, vi = .int .i64 k ∧ k ≤ 4 ∧ Hid (Below w.heap.size w wr)) (fun vi _ => 4 - (intOf vi).toNat)
  case atStart => exact ⟨0, rfl, by omega, HB0⟩
  case round =>
    clear HB0
    obtain ⟨k, rfl, hk, HB⟩ := hrel
    by_cases hlt : k < 4
    · have hs0 : w.heap.size ≤ wr.heap.size := HB.out.size
      have HN := Lib.hid (New_c a n cap f hn wr (HG.out.2.1.below HB.out))
      obtain rfl | rfl | rfl | rfl : k = 0 ∨ k = 1 ∨ k = 2 ∨ k = 3 := by omega
      · go_wp2_with fail
        refine HN.out.mono ?_
        rintro e W1 ⟨rfl, hA1, hb1⟩
        have HA := Lib.hid hA1; have HV := Lib.hid (belowOn HB.out hb1)
        clear HN hA1 hb1 HB
        generalize wr.heap.size + 1 = A at *
        generalize wr.heap.size = G at *
        have hG : w.heap.size ≤ G := hs0
        have HX := Lib.hid (Load_out (noPlace_out HA.out hi))
        go_wp2_with fail
        refine HX.out.mono ?_
        rintro e V ⟨rfl, rfl⟩
        clear HX
        go_wp2_with fail
        refine (Copy_c a n cap f hn W1 (HG.out.2.1.below HV.out) HG.out.2.2.2).mono ?_
        rintro e V2 ⟨b, c, rfl, hb2, hM, hap⟩
        have HW : Hid (Below w.heap.size w V2) := Lib.hid (belowOn HV.out hb2)
        have HAA : Hid (ArenaAt V2 A G n f) := Lib.hid (HA.out.below hb2)
        have HRR := Lib.hid hM.words
        clear hM hap hb2 HV HA
        have HL := Lib.hid (All_c HAA.out hn)
        go_wp2_with fail
        refine HL.out.mono ?_
        rintro e V3 ⟨rfl, hrow, hb3⟩
        have HS := Lib.hid (Same_c _ b n n c f hn V3 hrow.words (HRR.out.below hb3))
        have HW3 := Lib.hid (belowOn HW.out hb3)
        clear hrow hb3 HL HAA HRR HW
        go_wp2_with fail
        refine HS.out.mono ?_
        rintro e V4 ⟨rfl, hb4⟩
        have HW4 := Lib.hid (belowOn HW3.out hb4)
        clear hb4 HS HW3
        go_wp2_with fail
        go_roundw
        case rel => exact ⟨0 + 1, by go_num, by omega, HW4⟩
        case measure => simp [intOf]
      · go_wp2_with fail
        refine HN.out.mono ?_
        rintro e W1 ⟨rfl, hA1, hb1⟩
        have HA := Lib.hid hA1; have HV := Lib.hid (belowOn HB.out hb1)
        clear HN hA1 hb1 HB
        generalize wr.heap.size + 1 = A at *
        generalize wr.heap.size = G at *
        have hG : w.heap.size ≤ G := hs0
        have HX := Lib.hid (Store_out (noPlace_out HA.out hi) x)
        go_wp2_with fail
        refine HX.out.mono ?_
        rintro e V ⟨rfl, rfl⟩
        clear HX
        go_wp2_with fail
        refine (Copy_c a n cap f hn W1 (HG.out.2.1.below HV.out) HG.out.2.2.2).mono ?_
        rintro e V2 ⟨b, c, rfl, hb2, hM, hap⟩
        have HW : Hid (Below w.heap.size w V2) := Lib.hid (belowOn HV.out hb2)
        have HAA : Hid (ArenaAt V2 A G n f) := Lib.hid (HA.out.below hb2)
        have HRR := Lib.hid hM.words
        clear hM hap hb2 HV HA
        have HL := Lib.hid (All_c HAA.out hn)
        go_wp2_with fail
        refine HL.out.mono ?_
        rintro e V3 ⟨rfl, hrow, hb3⟩
        have HS := Lib.hid (Same_c _ b n n c f hn V3 hrow.words (HRR.out.below hb3))
        have HW3 := Lib.hid (belowOn HW.out hb3)
        clear hrow hb3 HL HAA HRR HW
        go_wp2_with fail
        refine HS.out.mono ?_
        rintro e V4 ⟨rfl, hb4⟩
        have HW4 := Lib.hid (belowOn HW3.out hb4)
        clear hb4 HS HW3
        go_wp2_with fail
        go_roundw
        case rel => exact ⟨1 + 1, by go_num, by omega, HW4⟩
        case measure => simp [intOf]
      · go_wp2_with fail
        refine HN.out.mono ?_
        rintro e W1 ⟨rfl, hA1, hb1⟩
        have HA := Lib.hid hA1; have HV := Lib.hid (belowOn HB.out hb1)
        clear HN hA1 hb1 HB
        generalize wr.heap.size + 1 = A at *
        generalize wr.heap.size = G at *
        have hG : w.heap.size ≤ G := hs0
        have HX := Lib.hid (Cas_out (noPlace_out HA.out hi) x y)
        go_wp2_with fail
        refine HX.out.mono ?_
        rintro e V ⟨rfl, rfl⟩
        clear HX
        go_wp2_with fail
        refine (Copy_c a n cap f hn W1 (HG.out.2.1.below HV.out) HG.out.2.2.2).mono ?_
        rintro e V2 ⟨b, c, rfl, hb2, hM, hap⟩
        have HW : Hid (Below w.heap.size w V2) := Lib.hid (belowOn HV.out hb2)
        have HAA : Hid (ArenaAt V2 A G n f) := Lib.hid (HA.out.below hb2)
        have HRR := Lib.hid hM.words
        clear hM hap hb2 HV HA
        have HL := Lib.hid (All_c HAA.out hn)
        go_wp2_with fail
        refine HL.out.mono ?_
        rintro e V3 ⟨rfl, hrow, hb3⟩
        have HS := Lib.hid (Same_c _ b n n c f hn V3 hrow.words (HRR.out.below hb3))
        have HW3 := Lib.hid (belowOn HW.out hb3)
        clear hrow hb3 HL HAA HRR HW
        go_wp2_with fail
        refine HS.out.mono ?_
        rintro e V4 ⟨rfl, hb4⟩
        have HW4 := Lib.hid (belowOn HW3.out hb4)
        clear hb4 HS HW3
        go_wp2_with fail
        go_roundw
        case rel => exact ⟨2 + 1, by go_num, by omega, HW4⟩
        case measure => simp [intOf]
      · go_wp2_with fail
        refine HN.out.mono ?_
        rintro e W1 ⟨rfl, hA1, hb1⟩
        have HA := Lib.hid hA1; have HV := Lib.hid (belowOn HB.out hb1)
        clear HN hA1 hb1 HB
        generalize wr.heap.size + 1 = A at *
        generalize wr.heap.size = G at *
        have hG : w.heap.size ≤ G := hs0
        have HX := Lib.hid (Add_out (noPlace_out HA.out hi) x)
        go_wp2_with fail
        refine HX.out.mono ?_
        rintro e V ⟨rfl, rfl⟩
        clear HX
        go_wp2_with fail
        refine (Copy_c a n cap f hn W1 (HG.out.2.1.below HV.out) HG.out.2.2.2).mono ?_
        rintro e V2 ⟨b, c, rfl, hb2, hM, hap⟩
        have HW : Hid (Below w.heap.size w V2) := Lib.hid (belowOn HV.out hb2)
        have HAA : Hid (ArenaAt V2 A G n f) := Lib.hid (HA.out.below hb2)
        have HRR := Lib.hid hM.words
        clear hM hap hb2 HV HA
        have HL := Lib.hid (All_c HAA.out hn)
        go_wp2_with fail
        refine HL.out.mono ?_
        rintro e V3 ⟨rfl, hrow, hb3⟩
        have HS := Lib.hid (Same_c _ b n n c f hn V3 hrow.words (HRR.out.below hb3))
        have HW3 := Lib.hid (belowOn HW.out hb3)
        clear hrow hb3 HL HAA HRR HW
        go_wp2_with fail
        refine HS.out.mono ?_
        rintro e V4 ⟨rfl, hb4⟩
        have HW4 := Lib.hid (belowOn HW3.out hb4)
        clear hb4 HS HW3
        go_wp2_with fail
        go_roundw
        case rel => exact ⟨3 + 1, by go_num, by omega, HW4⟩
        case measure => simp [intOf]
    · obtain rfl : k = 4 := by omega
      go_wp2_with fail
      go_ret
      exact ⟨rfl, HB.out⟩
set_option maxHeartbeats 12800000 in
theorem calls_over (a : Option Addr) (n cap : Nat) (f : Nat → Int) (i : Int) (hi0 : 0 ≤ i ∧ (n : Int) ≤ i) (x y : Int) (hn : n ≤ 60) (w : World) (hG0 : Given w a n cap f) :
    Calls Try.prog 4 #[.slice a n cap, .int .i64 i, .int .u64 x, .int .u64 y] w fun e w' => e = .returned (.bool true) ∧ Below w.heap.size w w' := by
  have HG := Lib.hid hG0; clear hG0
  have hi : ¬ (0 ≤ i ∧ i < n) := by omega
  have hd1 : decide (0 ≤ i) = true := by simp; omega
  have hd : decide (i < (n : Int)) = false := by simp; omega
  go_enter Try.func4, Try.ntmps4
  go_wp2_with fail
  refine (awake_c _).mono ?_
  rintro e W0 ⟨rfl, hb0⟩
  have HB0 := Lib.hid hb0; clear hb0
  go_wp2_with fail
  go_loopw [11] (fun vi wr => ∃ k : Nat, vi = .int .i64 k ∧ k ≤ 4 ∧ Hid (Below w.heap.size w wr)) (fun vi _ => 4 - (intOf vi).toNat)
  case atStart => exact ⟨0, rfl, by omega, HB0⟩
  case round =>
    clear HB0
    obtain ⟨k, rfl, hk, HB⟩ := hrel
    by_cases hlt : k < 4
    · have hs0 : w.heap.size ≤ wr.heap.size := HB.out.size
      have HN := Lib.hid (New_c a n cap f hn wr (HG.out.2.1.below HB.out))
      obtain rfl | rfl | rfl | rfl : k = 0 ∨ k = 1 ∨ k = 2 ∨ k = 3 := by omega
      · go_wp2_with fail
        refine HN.out.mono ?_
        rintro e W1 ⟨rfl, hA1, hb1⟩
        have HA := Lib.hid hA1; have HV := Lib.hid (belowOn HB.out hb1)
        clear HN hA1 hb1 HB
        generalize wr.heap.size + 1 = A at *
        generalize wr.heap.size = G at *
        have hG : w.heap.size ≤ G := hs0
        have HX := Lib.hid (Load_out (noPlace_out HA.out hi))
        go_wp2_with fail
        refine HX.out.mono ?_
        rintro e V ⟨rfl, rfl⟩
        clear HX
        go_wp2_with fail
        refine (Copy_c a n cap f hn W1 (HG.out.2.1.below HV.out) HG.out.2.2.2).mono ?_
        rintro e V2 ⟨b, c, rfl, hb2, hM, hap⟩
        have HW : Hid (Below w.heap.size w V2) := Lib.hid (belowOn HV.out hb2)
        have HAA : Hid (ArenaAt V2 A G n f) := Lib.hid (HA.out.below hb2)
        have HRR := Lib.hid hM.words
        clear hM hap hb2 HV HA
        have HL := Lib.hid (All_c HAA.out hn)
        go_wp2_with fail
        refine HL.out.mono ?_
        rintro e V3 ⟨rfl, hrow, hb3⟩
        have HS := Lib.hid (Same_c _ b n n c f hn V3 hrow.words (HRR.out.below hb3))
        have HW3 := Lib.hid (belowOn HW.out hb3)
        clear hrow hb3 HL HAA HRR HW
        go_wp2_with fail
        refine HS.out.mono ?_
        rintro e V4 ⟨rfl, hb4⟩
        have HW4 := Lib.hid (belowOn HW3.out hb4)
        clear hb4 HS HW3
        go_wp2_with fail
        go_roundw
        case rel => exact ⟨0 + 1, by go_num, by omega, HW4⟩
        case measure => simp [intOf]
      · go_wp2_with fail
        refine HN.out.mono ?_
        rintro e W1 ⟨rfl, hA1, hb1⟩
        have HA := Lib.hid hA1; have HV := Lib.hid (belowOn HB.out hb1)
        clear HN hA1 hb1 HB
        generalize wr.heap.size + 1 = A at *
        generalize wr.heap.size = G at *
        have hG : w.heap.size ≤ G := hs0
        have HX := Lib.hid (Store_out (noPlace_out HA.out hi) x)
        go_wp2_with fail
        refine HX.out.mono ?_
        rintro e V ⟨rfl, rfl⟩
        clear HX
        go_wp2_with fail
        refine (Copy_c a n cap f hn W1 (HG.out.2.1.below HV.out) HG.out.2.2.2).mono ?_
        rintro e V2 ⟨b, c, rfl, hb2, hM, hap⟩
        have HW : Hid (Below w.heap.size w V2) := Lib.hid (belowOn HV.out hb2)
        have HAA : Hid (ArenaAt V2 A G n f) := Lib.hid (HA.out.below hb2)
        have HRR := Lib.hid hM.words
        clear hM hap hb2 HV HA
        have HL := Lib.hid (All_c HAA.out hn)
        go_wp2_with fail
        refine HL.out.mono ?_
        rintro e V3 ⟨rfl, hrow, hb3⟩
        have HS := Lib.hid (Same_c _ b n n c f hn V3 hrow.words (HRR.out.below hb3))
        have HW3 := Lib.hid (belowOn HW.out hb3)
        clear hrow hb3 HL HAA HRR HW
        go_wp2_with fail
        refine HS.out.mono ?_
        rintro e V4 ⟨rfl, hb4⟩
        have HW4 := Lib.hid (belowOn HW3.out hb4)
        clear hb4 HS HW3
        go_wp2_with fail
        go_roundw
        case rel => exact ⟨1 + 1, by go_num, by omega, HW4⟩
        case measure => simp [intOf]
      · go_wp2_with fail
        refine HN.out.mono ?_
        rintro e W1 ⟨rfl, hA1, hb1⟩
        have HA := Lib.hid hA1; have HV := Lib.hid (belowOn HB.out hb1)
        clear HN hA1 hb1 HB
        generalize wr.heap.size + 1 = A at *
        generalize wr.heap.size = G at *
        have hG : w.heap.size ≤ G := hs0
        have HX := Lib.hid (Cas_out (noPlace_out HA.out hi) x y)
        go_wp2_with fail
        refine HX.out.mono ?_
        rintro e V ⟨rfl, rfl⟩
        clear HX
        go_wp2_with fail
        refine (Copy_c a n cap f hn W1 (HG.out.2.1.below HV.out) HG.out.2.2.2).mono ?_
        rintro e V2 ⟨b, c, rfl, hb2, hM, hap⟩
        have HW : Hid (Below w.heap.size w V2) := Lib.hid (belowOn HV.out hb2)
        have HAA : Hid (ArenaAt V2 A G n f) := Lib.hid (HA.out.below hb2)
        have HRR := Lib.hid hM.words
        clear hM hap hb2 HV HA
        have HL := Lib.hid (All_c HAA.out hn)
        go_wp2_with fail
        refine HL.out.mono ?_
        rintro e V3 ⟨rfl, hrow, hb3⟩
        have HS := Lib.hid (Same_c _ b n n c f hn V3 hrow.words (HRR.out.below hb3))
        have HW3 := Lib.hid (belowOn HW.out hb3)
        clear hrow hb3 HL HAA HRR HW
        go_wp2_with fail
        refine HS.out.mono ?_
        rintro e V4 ⟨rfl, hb4⟩
        have HW4 := Lib.hid (belowOn HW3.out hb4)
        clear hb4 HS HW3
        go_wp2_with fail
        go_roundw
        case rel => exact ⟨2 + 1, by go_num, by omega, HW4⟩
        case measure => simp [intOf]
      · go_wp2_with fail
        refine HN.out.mono ?_
        rintro e W1 ⟨rfl, hA1, hb1⟩
        have HA := Lib.hid hA1; have HV := Lib.hid (belowOn HB.out hb1)
        clear HN hA1 hb1 HB
        generalize wr.heap.size + 1 = A at *
        generalize wr.heap.size = G at *
        have hG : w.heap.size ≤ G := hs0
        have HX := Lib.hid (Add_out (noPlace_out HA.out hi) x)
        go_wp2_with fail
        refine HX.out.mono ?_
        rintro e V ⟨rfl, rfl⟩
        clear HX
        go_wp2_with fail
        refine (Copy_c a n cap f hn W1 (HG.out.2.1.below HV.out) HG.out.2.2.2).mono ?_
        rintro e V2 ⟨b, c, rfl, hb2, hM, hap⟩
        have HW : Hid (Below w.heap.size w V2) := Lib.hid (belowOn HV.out hb2)
        have HAA : Hid (ArenaAt V2 A G n f) := Lib.hid (HA.out.below hb2)
        have HRR := Lib.hid hM.words
        clear hM hap hb2 HV HA
        have HL := Lib.hid (All_c HAA.out hn)
        go_wp2_with fail
        refine HL.out.mono ?_
        rintro e V3 ⟨rfl, hrow, hb3⟩
        have HS := Lib.hid (Same_c _ b n n c f hn V3 hrow.words (HRR.out.below hb3))
        have HW3 := Lib.hid (belowOn HW.out hb3)
        clear hrow hb3 HL HAA HRR HW
        go_wp2_with fail
        refine HS.out.mono ?_
        rintro e V4 ⟨rfl, hb4⟩
        have HW4 := Lib.hid (belowOn HW3.out hb4)
        clear hb4 HS HW3
        go_wp2_with fail
        go_roundw
        case rel => exact ⟨3 + 1, by go_num, by omega, HW4⟩
        case measure => simp [intOf]
    · obtain rfl : k = 4 := by omega
      go_wp2_with fail
      go_ret
      exact ⟨rfl, HB.out⟩
theorem calls_any (a : Option Addr) (n cap : Nat) (f : Nat → Int) (i x y : Int) (w : World) (h : Given w a n cap f) :
    Calls Try.prog 4 #[.slice a n cap, .int .i64 i, .int .u64 x, .int .u64 y] w fun e w' => e = .returned (.bool true) ∧ Below w.heap.size w w' := by
  by_cases hn : n ≤ 60
  · by_cases h0 : i < 0
    · exact calls_under a n cap f i h0 x y hn w h
    · by_cases h1 : i < n
      · obtain ⟨j, rfl⟩ : ∃ j : Nat, i = j := ⟨i.toNat, by omega⟩
        exact calls_in a n cap f j (by omega) x y hn w h
      · exact calls_over a n cap f i (by omega) x y hn w h
  · exact calls_long a n cap i x y (by omega) h.1 w
end Go.Proofs.Ytnklmklknphojaa
