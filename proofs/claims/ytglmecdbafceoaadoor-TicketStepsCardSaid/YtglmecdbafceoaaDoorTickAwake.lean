/- The laws of layer 11: their first look (awake). -/
import Derived.Test.YtglmecdbafceoaaDoorTickRef
import Derived.Test.YtglmecdbafceoaaDoorPlaceFirst
import Derived.Test.YtglmecdbafceoaaDoorTwo
namespace Go.Proofs.YtglmecdbafceoaaDoor
open Go Go.RowKit
set_option maxRecDepth 100000
attribute [local go_sem ↓] Go.wp_at_zero Go.wp_at_succ

theorem RowAt.ofRow {w : World} {g n : Nat} {t : TypeId} {f : Nat → Int} (h : w.rowIs g t n (fun j => .int .u64 (f j))) : RowAt w g t n f := by
  obtain ⟨c, hb, hn, hc⟩ := h; exact ⟨c, hb, by omega, hc⟩
/-- The words at first, next and serve aside. -/
def qF (v : Int) : Nat → Int := upd (upd (fstV 2 1 1 0) 3 v) 4 v
theorem qF_u64 {v : Int} (hv : U64 v) (j : Nat) : U64 (qF v j) := upd_u64 (upd_u64 (fst_u64 right0) 3 hv) 4 hv j
/-- A mutator that has nothing but a line and a ticket. -/
abbrev tM (l t : Int) : Mu := ⟨l, 0, 0, 0, 0, 0, 0, 0, 0, t, 0, 0, 0⟩
theorem tick_draw (f : Nat → Int) (k i x y o t : Int) : tickS ⟨13, 2, 1, 1, 0⟩ ⟨f, k, i, x, y, o⟩ (tM 32 t) = (⟨upd f 3 (sumW (f 3) 1), 4, 3, 1, 0, f 3⟩, tM 33 (f 3), true) := rfl
theorem tick_wait (f : Nat → Int) (k i x y o t : Int) : tickS ⟨13, 2, 1, 1, 0⟩ ⟨f, k, i, x, y, o⟩ (tM 33 t) = (⟨f, 1, 4, 0, 0, f 4⟩, tM (if f 4 = t then 34 else 33) t, true) := by
  by_cases h : f 4 = t
  · unfold tickS; rw [if_neg (show ¬ (33 : Int) = 32 by decide), if_pos rfl, if_pos h, if_pos (show z5 13 1 4 (f 4) = t from h)]; rfl
  · unfold tickS; rw [if_neg (show ¬ (33 : Int) = 32 by decide), if_pos rfl, if_neg h, if_neg (show ¬ z5 13 1 4 (f 4) = t from h)]; rfl
theorem tick_give (f : Nat → Int) (k i x y o t : Int) : tickS ⟨13, 2, 1, 1, 0⟩ ⟨f, k, i, x, y, o⟩ (tM 37 t) = (⟨upd f 4 (sumW (f 4) 1), 4, 4, 1, 0, f 4⟩, tM 38 t, true) := rfl
theorem qF_3 (v : Int) : qF v 3 = v := rfl
theorem qF_4 (v : Int) : qF v 4 = v := rfl
set_option maxHeartbeats 3200000 in
theorem awake_c (w : World) (hS : SpansAt w) :
    Calls Tryd.prog 5 #[] w fun e w' => e = .returned (.bool true) ∧ Below w.heap.size w w' := by
  have HN := Lib.hid (refFirst_new 2 1 1 0 right0 w)
  have HS := Lib.hid hS
  have HFR : Hid (∀ va cap W, SpansAt W → WordsAt W va 13 (qF 5) → _) := Lib.hid (fun va cap W h1 h2 => From_right 2 1 1 0 right0 va 13 cap (qF 5) (by omega) W h1 h2)
  have HT1 : Hid (∀ W H A G, HAt W H A G ⟨13, 2, 1, 1, 0⟩ ⟨qF 5, 0, 0, 0, 0, 0⟩ → _) := Lib.hid (fun W H A G h => tick_c (w := W) (H := H) (A := A) (G := G) h (qF_u64 (by unfold U64; omega)) (tM 32 0))
  rw [tick_draw, qF_3] at HT1
  have u1 : ∀ j, U64 (upd (qF 5) 3 (sumW 5 1) j) := upd_u64 (qF_u64 (by unfold U64; omega)) 3 (sumW_u64 _ _)
  generalize hf1 : upd (qF 5) 3 (sumW 5 1) = f1 at *
  have hf14 : f1 4 = 5 := by rw [← hf1]; rfl
  clear hf1
  have HT2 : Hid (∀ W H A G, HAt W H A G ⟨13, 2, 1, 1, 0⟩ ⟨f1, 4, 3, 1, 0, 5⟩ → _) := Lib.hid (fun W H A G h => tick_c (w := W) (H := H) (A := A) (G := G) h u1 (tM 33 5))
  rw [tick_wait, hf14, if_pos rfl] at HT2
  have HT3 : Hid (∀ W H A G, HAt W H A G ⟨13, 2, 1, 1, 0⟩ ⟨f1, 1, 4, 0, 0, 5⟩ → _) := Lib.hid (fun W H A G h => tick_c (w := W) (H := H) (A := A) (G := G) h u1 (tM 37 0))
  rw [tick_give, hf14] at HT3
  have hf24 : upd f1 4 (sumW 5 1) 4 = 6 := rfl
  generalize upd f1 4 (sumW 5 1) = f2 at *
  have HL : Hid (∀ W H A G, HAt W H A G ⟨13, 2, 1, 1, 0⟩ ⟨f2, 4, 4, 1, 0, 5⟩ → _) := Lib.hid (fun W H A G h => Load_in (w := W) (HandAt.ar h) 4 (by decide))
  dsimp only at HL
  rw [hf24] at HL
  clear hS u1 hf14 hf24
  go_enter Tryd.func5, Tryd.ntmps5
  go_wp2_with fail
  refine HN.out.mono ?_
  rintro e W ⟨g, n, rfl, hn, hrow, hW, hg⟩
  obtain rfl : n = 13 := by omega
  have HR := Lib.hid (RowAt.ofRow hrow)
  have HB := Lib.hid hW
  have HG := Lib.hid hg
  clear hn hrow hW hg HN
  have c3 := HR.out.cell (j := 3) (by decide); have c4 := HR.out.cell (j := 4) (by decide); have cf := HR.out.frozen
  go_wp2_with fail
  have HR2 := Lib.hid ((HR.out.set 3 5).set 4 5)
  have HB2 := Lib.hid ((HB.out.setCell (p := ⟨g, 3, none⟩) HG.out (.int .u64 5)).setCell (p := ⟨g, 4, none⟩) HG.out (.int .u64 5))
  clear HR HB c3 c4 cf
  generalize (W.setCell ⟨g, 3, none⟩ (.int .u64 5)).setCell ⟨g, 4, none⟩ (.int .u64 5) = V at *
  refine (HFR.out (some ⟨g, 0, none⟩) _ V (HS.out.below HB2.out) HR2.out.words).mono ?_
  rintro e W1 ⟨H, A, G, rfl, hF, hb, l1, l2, l3⟩
  have hsz : w.heap.size ≤ V.heap.size := HB2.out.size
  have HB3 := Lib.hid (belowOn HB2.out hb)
  have HF := Lib.hid hF
  have k1 : w.heap.size ≤ H := by omega
  have k2 : w.heap.size ≤ G := by omega
  clear hF hb HB2 HR2 HFR l1 l2 l3 hsz
  go_wp2_with fail
  refine (HT1.out _ _ _ _ HF.out).mono ?_
  rintro e W2 ⟨rfl, hF, hs⟩
  have HB4 := Lib.hid (below_on (hs.old HB3.out k1 k2) (.cells #[.int .i64 33, .int .i64 0, .int .i64 0, .int .i64 0, .int .i64 0, .int .u64 0, .int .u64 0, .int .u64 0, .int .u64 0, .int .u64 5, .int .u64 0, .int .i64 0, .int .i64 0] 30))
  have HM1 := Lib.hid (Mut13.new W2 33 0 0 0 0 0 0 0 0 0 0 5 0)
  have HF1 := Lib.hid (hF.below (below_new W2 (.cells #[.int .i64 33, .int .i64 0, .int .i64 0, .int .i64 0, .int .i64 0, .int .u64 0, .int .u64 0, .int .u64 0, .int .u64 0, .int .u64 5, .int .u64 0, .int .i64 0, .int .i64 0] 30)))
  have hlt : H < W2.heap.size := hF.lt
  have hlG : G < W2.heap.size := hF.ar.row.lt
  clear hF hs HB3 HF HT1
  obtain ⟨b0, b1, b2, b3, b4, b5, b6, b7, b8, b9, b10, b11, b12, bf⟩ := HM1.out.cells
  go_wp2_with fail
  refine (HT2.out _ _ _ _ HF1.out).mono ?_
  rintro e W3 ⟨rfl, hF, hs⟩
  have HB5 := Lib.hid (below_on (hs.old HB4.out k1 k2) (.cells #[.int .i64 34, .int .i64 0, .int .i64 0, .int .i64 0, .int .i64 0, .int .u64 0, .int .u64 0, .int .u64 0, .int .u64 0, .int .u64 5, .int .u64 0, .int .i64 0, .int .i64 0] 30))
  have HM2 := Lib.hid ((HM1.out.savH hs (by omega) (by omega)).below (below_new W3 (.cells #[.int .i64 34, .int .i64 0, .int .i64 0, .int .i64 0, .int .i64 0, .int .u64 0, .int .u64 0, .int .u64 0, .int .u64 0, .int .u64 5, .int .u64 0, .int .i64 0, .int .i64 0] 30)))
  have HM3 := Lib.hid (Mut13.new W3 34 0 0 0 0 0 0 0 0 0 0 5 0)
  have HF2 := Lib.hid (hF.below (below_new W3 (.cells #[.int .i64 34, .int .i64 0, .int .i64 0, .int .i64 0, .int .i64 0, .int .u64 0, .int .u64 0, .int .u64 0, .int .u64 0, .int .u64 5, .int .u64 0, .int .i64 0, .int .i64 0] 30)))
  have hlt3 : H < W3.heap.size := hF.lt
  have hlG3 : G < W3.heap.size := hF.ar.row.lt
  clear hF hs HB4 HF1 HT2 HM1 b0 b1 b2 b3 b4 b5 b6 b7 b8 b9 b10 b11 b12 bf
  go_wp2_with fail
  refine (HT3.out _ _ _ _ HF2.out).mono ?_
  rintro e W4 ⟨rfl, hF, hs⟩
  have HB6 := Lib.hid (hs.old HB5.out k1 k2)
  have hl2 : W2.heap.size < (W3.alloc (.cells #[.int .i64 34, .int .i64 0, .int .i64 0, .int .i64 0, .int .i64 0, .int .u64 0, .int .u64 0, .int .u64 0, .int .u64 0, .int .u64 5, .int .u64 0, .int .i64 0, .int .i64 0] 30)).heap.size := HM2.out.lt
  have HM4 := Lib.hid (HM2.out.savH hs (by omega) (by omega))
  have HM5 := Lib.hid (HM3.out.savH hs (by omega) (by omega))
  have HF3 := Lib.hid hF
  have h0 := hF.cells.1
  clear hF hs HB5 HF2 HT3 HM2 HM3
  obtain ⟨b0, b1, b2, b3, b4, b5, b6, b7, b8, b9, b10, b11, b12, bf⟩ := HM4.out.cells
  obtain ⟨d0, d1, d2, d3, d4, d5, d6, d7, d8, d9, d10, d11, d12, df⟩ := HM5.out.cells
  go_wp2_with fail
  refine (HL.out _ _ _ _ HF3.out).mono ?_
  rintro e W5 ⟨rfl, rfl⟩
  go_wp2_with fail
  go_ret
  exact ⟨rfl, HB6.out⟩
end Go.Proofs.YtglmecdbafceoaaDoor
