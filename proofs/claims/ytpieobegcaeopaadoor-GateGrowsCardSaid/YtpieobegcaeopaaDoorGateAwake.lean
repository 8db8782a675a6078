/- The laws of layer 12: their first look (awake). -/
import Derived.Test.YtpieobegcaeopaaDoorGateStep
import Derived.Test.YtpieobegcaeopaaDoorPlaceFirst
import Derived.Test.YtpieobegcaeopaaDoorHandNew
namespace Go.Proofs.YtpieobegcaeopaaDoor
open Go Go.RowKit
set_option maxRecDepth 100000
attribute [local go_sem ↓] Go.wp_at_zero Go.wp_at_succ

abbrev C13 : Cf := ⟨13, 2, 1, 1, 0⟩
/-- A mutator that has nothing but a line and a kind. -/
abbrev mS (l q : Int) : Mu := ⟨l, q, 0, 0, 0, 0, 0, 0, 0, 0, 0, 0, 0⟩
/-- What is there behind each step of the first look. -/
def stA : Nat → Dy × Mu
  | 0 => ((⟨fstV 2 1 1 0, 0, 0, 0, 0, 0⟩ : Dy).act C13 2 1 1 0, mS 1 1)
  | k + 1 => ((gateS C13 (stA k).1 0 (stA k).2).1, (gateS C13 (stA k).1 0 (stA k).2).2.1)
theorem u64_one : U64 1 := by unfold U64; omega
theorem stA_U : ∀ k, (stA k).1.U
  | 0 => Dy.U.act (s := ⟨fstV 2 1 1 0, 0, 0, 0, 0, 0⟩) (fst_u64 right0) C13 2 1 u64_one u64_zero
  | k + 1 => gateS_U (stA_U k) 0 _
theorem stA_1 : (stA 1).2 = mS 2 1 := rfl
theorem stA_2 : (stA 2).2 = mS 4 1 := rfl
theorem stA_3 : (stA 3).2 = mS 5 1 := rfl
theorem stA_4 : (stA 4).2 = mS 5 1 := rfl
/-- The line that is wanted. -/
def wA (k : Nat) : Int := (stA (k + 1)).2.l
theorem stA_ok {k : Nat} (h : k < 4) : (gateS C13 (stA k).1 0 (stA k).2).2.2 = true ∧ (stA k).2.q1 = 1 := by
  rcases (by omega : k = 0 ∨ k = 1 ∨ k = 2 ∨ k = 3) with rfl | rfl | rfl | rfl
  all_goals exact ⟨rfl, rfl⟩
def dB : Dy := (stA 4).1.act C13 2 1 0 0
theorem dB_U : dB.U := (stA_U 4).act C13 2 1 u64_zero u64_zero
theorem dB_1 : gateS C13 dB 0 (mS 5 1) = ((gateS C13 dB 0 (mS 5 1)).1, mS 6 1, true) := rfl
theorem dB_2 : gateS C13 (gateS C13 dB 0 (mS 5 1)).1 0 (mS 6 1) = ((gateS C13 (gateS C13 dB 0 (mS 5 1)).1 0 (mS 6 1)).1, mS 10 1, true) := rfl
/-- Within the loop of the first look. -/
structure AwAt (w W : World) (H A G X L k : Nat) : Prop where
  old : Below w.heap.size w W
  lH : w.heap.size ≤ H
  lG : w.heap.size ≤ G
  lX : w.heap.size ≤ X
  hand : HAt W H A G C13 (stA k).1
  x : MuAt W X (stA k).2
  lst : W.heap[L]? = some (.cells #[.int .i64 (wA 0), .int .i64 (wA 1), .int .i64 (wA 2), .int .i64 (wA 3)] 3 (0, 0))
  d1 : X ≠ H ∧ X ≠ A ∧ X ≠ G ∧ X ≠ L
  d2 : L ≠ H ∧ L ≠ G
theorem AwAt.first {w W : World} {H A G : Nat} (hb : Below w.heap.size w W) (h1 : w.heap.size ≤ H) (h2 : w.heap.size ≤ G) (hH : HAt W H A G C13 (stA 0).1) :
    AwAt w ((W.alloc (.cells #[.int .i64 1, .int .i64 1, .int .i64 0, .int .i64 0, .int .i64 0, .int .u64 0, .int .u64 0, .int .u64 0, .int .u64 0, .int .u64 0, .int .u64 0, .int .i64 0, .int .i64 0] 37)).alloc (.cells #[.int .i64 2, .int .i64 4, .int .i64 5, .int .i64 5] 3)) H A G W.heap.size (W.heap.size + 1) 0 := by
  have b1 := below_new W (.cells #[.int .i64 1, .int .i64 1, .int .i64 0, .int .i64 0, .int .i64 0, .int .u64 0, .int .u64 0, .int .u64 0, .int .u64 0, .int .u64 0, .int .u64 0, .int .i64 0, .int .i64 0] 37)
  have b2 := below_new (W.alloc (.cells #[.int .i64 1, .int .i64 1, .int .i64 0, .int .i64 0, .int .i64 0, .int .u64 0, .int .u64 0, .int .u64 0, .int .u64 0, .int .u64 0, .int .u64 0, .int .i64 0, .int .i64 0] 37)) (.cells #[.int .i64 2, .int .i64 4, .int .i64 5, .int .i64 5] 3)
  have hx := (Mut13.new W 1 0 0 1 0 0 0 0 0 0 0 0 0).below b2
  have i1 := hH.lt; have i2 := hH.ar.lt; have i3 := hH.ar.row.lt; have i4 := hb.size
  refine ⟨belowOn (belowOn hb b1) b2, h1, h2, hb.size, (hH.below b1).below b2, hx, ?_, by omega, by omega⟩
  have := newBlock (W.alloc (.cells #[.int .i64 1, .int .i64 1, .int .i64 0, .int .i64 0, .int .i64 0, .int .u64 0, .int .u64 0, .int .u64 0, .int .u64 0, .int .u64 0, .int .u64 0, .int .i64 0, .int .i64 0] 37)) (.cells #[.int .i64 2, .int .i64 4, .int .i64 5, .int .i64 5] 3)
  show _ = some (Obj.cells #[.int .i64 2, .int .i64 4, .int .i64 5, .int .i64 5] 3 (0, 0))
  simpa using this
theorem AwAt.cellAt {w W : World} {H A G X L k : Nat} (h : AwAt w W H A G X L k) {j : Nat} (hj : j < 4) : W.cell? ⟨L, j, none⟩ = some (.int .i64 (wA j)) := by
  have e := h.lst
  rcases (by omega : j = 0 ∨ j = 1 ∨ j = 2 ∨ j = 3) with rfl | rfl | rfl | rfl
  all_goals simp [World.cell?, e]
theorem AwAt.step {w W V : World} {H A G X L k : Nat} (h : AwAt w W H A G X L k) (hs : Sav (HG H G) W V) (hH : HAt V H A G C13 (stA (k + 1)).1) : AwAt w (put13 V X (stA (k + 1)).2.l (stA (k + 1)).2.p (stA (k + 1)).2.bk (stA (k + 1)).2.q1 (stA (k + 1)).2.q2 (stA (k + 1)).2.q3 (stA (k + 1)).2.q4 (stA (k + 1)).2.m1 (stA (k + 1)).2.m2 (stA (k + 1)).2.m3 (stA (k + 1)).2.m4 (stA (k + 1)).2.m5 (stA (k + 1)).2.rt) H A G X L (k + 1) := by
  obtain ⟨d1, d2, d3, d4⟩ := h.d1
  obtain ⟨d5, d6⟩ := h.d2
  have hx := h.x.savH hs d1 d3
  have hl := (Array.getElem?_eq_some_iff.1 h.lst).1
  have hb := hs.old h.old h.lH h.lG
  refine ⟨(Sav.put13 (S := fun j => j = X) (Sav.of hb) (.inl rfl) _ _ _ _ _ _ _ _ _ _ _ _ _).below (Nat.le_refl _) (fun j hj e => by have := h.lX; omega), h.lH, h.lG, h.lX, hH.put13 d1 d2 d3 _ _ _ _ _ _ _ _ _ _ _ _ _, hx.put _ _ _ _ _ _ _ _ _ _ _ _ _, ?_, h.d1, h.d2⟩
  refine (heap_put13 V X _ _ _ _ _ _ _ _ _ _ _ _ _ (Ne.symm d4)).trans ((hs.block L hl (fun e => ?_)).trans h.lst)
  rcases e with e | e
  · exact d5 e
  · exact d6 e
set_option maxHeartbeats 3200000 in
theorem awake_c (w : World) (hS : SpansAt w) :
    Calls Tryd.prog 5 #[] w fun e w' => e = .returned (.bool true) ∧ Below w.heap.size w w' := by
  have HN := Lib.hid (New_yes 2 1 1 0 right0 w hS)
  have HS := Lib.hid hS
  have HST : Hid (∀ W H A G, HAt W H A G C13 ⟨fstV 2 1 1 0, 0, 0, 0, 0, 0⟩ → Calls Tryd.prog 7 #[.pointer (some ⟨H, 0, none⟩), .int .i64 1, .int .u64 1] W (HP W H A G C13 (stA 0).1 (.tuple #[]))) := Lib.hid (fun W H A G h => hStore_c (w := W) h (fst_u64 right0) 1 1)
  have HBG := Lib.hid (Begin_c 1 0 0 0)
  have HG0 : Hid (∀ k W H A G, k < 4 → SpansAt W → HAt W H A G C13 (stA k).1 → Calls Tryd.prog 9 #[.pointer (some ⟨H, 0, none⟩), .int .i64 0, (stA k).2.v] W (HP W H A G C13 (stA (k + 1)).1 (.tuple #[(stA (k + 1)).2.v, .bool true]))) := Lib.hid (fun k W H A G hk h1 h2 => by
    have := gate_c (w := W) h2 (stA_U k) h1 0 (stA k).2 (by rw [(stA_ok hk).2]; omega)
    rw [(stA_ok hk).1] at this
    exact this)
  clear hS
  go_enter Tryd.func5, Tryd.ntmps5
  go_wp2_with fail
  refine HN.out.mono ?_
  rintro e W1 ⟨n, hn, H, A, G, rfl, hF, hb, l1, l2, l3⟩
  obtain rfl : n = 13 := by omega
  have HB1 := Lib.hid hb; have HF1 := Lib.hid hF
  clear hF hb HN hn l2
  go_wp2_with fail
  refine (HST.out _ _ _ _ HF1.out).mono ?_
  rintro e W2 ⟨rfl, hF, hs⟩
  have HB2 := Lib.hid (hs.old HB1.out l1 l3); have HF2 := Lib.hid hF
  clear hF hs HB1 HF1 HST
  go_wp2_with fail
  refine (HBG.out _).mono ?_
  rintro e W3 ⟨rfl, hb⟩
  have HA := Lib.hid (AwAt.first (belowOn HB2.out hb) l1 l3 (HF2.out.below hb))
  clear hb HB2 HF2 HBG l1 l3
  go_wp2_with fail
  generalize (W3.alloc (.cells #[.int .i64 1, .int .i64 1, .int .i64 0, .int .i64 0, .int .i64 0, .int .u64 0, .int .u64 0, .int .u64 0, .int .u64 0, .int .u64 0, .int .u64 0, .int .i64 0, .int .i64 0] 37)).alloc (.cells #[.int .i64 2, .int .i64 4, .int .i64 5, .int .i64 5] 3) = W4 at *
  generalize W3.heap.size = X at *
  go_loopw [27] (fun vi wr => ∃ k : Nat, vi = .int .i64 k ∧ k ≤ 4 ∧ Hid (AwAt w wr H A G X (X + 1) k)) (fun vi _ => 4 - (intOf vi).toNat)
  case atStart => exact ⟨0, rfl, by omega, HA⟩
  case round =>
    clear HA
    obtain ⟨k, rfl, hk, HA⟩ := hrel
    by_cases hlt : k < 4
    · have ck : wr.cell? ⟨X + 1, k, none⟩ = some (.int .i64 (stA (k + 1)).2.l) := HA.out.cellAt hlt
      have hk0 : (0 : Int) ≤ (k : Int) := by omega
      have hk4 : (k : Int) < 4 := by omega
      obtain ⟨a0, a1, a2, a3, a4, a5, a6, a7, a8, a9, a10, a11, a12, af⟩ := HA.out.x.cells
      go_wp2_with fail
      refine (HG0.out k _ _ _ _ hlt (HS.out.below HA.out.old) HA.out.hand).mono ?_
      rintro e V2 ⟨rfl, hF, hs⟩
      obtain ⟨d1, d2, d3, d4⟩ := HA.out.d1
      have HA2 := Lib.hid (HA.out.step hs hF)
      have HX := Lib.hid (HA.out.x.savH hs d1 d3)
      clear hF hs d1 d2 d3 d4 ck HA a0 a1 a2 a3 a4 a5 a6 a7 a8 a9 a10 a11 a12 af
      obtain ⟨b0, b1, b2, b3, b4, b5, b6, b7, b8, b9, b10, b11, b12, bf⟩ := HX.out.cells
      obtain ⟨s0, s1, s2, s3, s4, s5, s6, s7, s8, s9, s10, s11, s12, sf⟩ := HA2.out.x.cells
      generalize (stA (k + 1)).2 = y at *
      clear HX
      go_wp2_with fail
      go_roundw
      case rel => exact ⟨k + 1, by go_num, by omega, HA2⟩
      case measure => simp [intOf]; omega
    · obtain rfl : k = 4 := by omega
      have HS4 : Hid (∀ W, HAt W H A G C13 (stA 4).1 → Calls Tryd.prog 7 #[.pointer (some ⟨H, 0, none⟩), .int .i64 1, .int .u64 0] W (HP W H A G C13 dB (.tuple #[]))) := Lib.hid (fun W h => hStore_c (w := W) h (stA_U 4) 1 0)
      have HG1 : Hid (∀ W, SpansAt W → HAt W H A G C13 dB → Calls Tryd.prog 9 #[.pointer (some ⟨H, 0, none⟩), .int .i64 0, (mS 5 1).v] W (HP W H A G C13 (gateS C13 dB 0 (mS 5 1)).1 (.tuple #[(mS 6 1).v, .bool true]))) := Lib.hid (fun W h1 h2 => by
        have := gate_c (w := W) h2 dB_U h1 0 (mS 5 1) (by dsimp only; omega)
        rw [dB_1] at this
        exact this)
      have HG2 : Hid (∀ W, SpansAt W → HAt W H A G C13 (gateS C13 dB 0 (mS 5 1)).1 → Calls Tryd.prog 9 #[.pointer (some ⟨H, 0, none⟩), .int .i64 0, (mS 6 1).v] W (HP W H A G C13 (gateS C13 (gateS C13 dB 0 (mS 5 1)).1 0 (mS 6 1)).1 (.tuple #[(mS 10 1).v, .bool true]))) := Lib.hid (fun W h1 h2 => by
        have := gate_c (w := W) h2 (gateS_U dB_U 0 _) h1 0 (mS 6 1) (by dsimp only; omega)
        rw [dB_2] at this
        exact this)
      have HIn := Lib.hid (Inside_c 6 0 0 1 0 0 0 0 0 0 0 0 0)
      have HM : Hid (MuAt wr X (mS 5 1)) := Lib.hid HA.out.x
      have HF := Lib.hid HA.out.hand
      have HB := Lib.hid HA.out.old
      obtain ⟨d1, d2, d3, _⟩ := HA.out.d1
      have lH := HA.out.lH; have lG := HA.out.lG; have lX := HA.out.lX
      generalize (gateS C13 (gateS C13 dB 0 (mS 5 1)).1 0 (mS 6 1)).1 = s2 at *
      generalize (gateS C13 dB 0 (mS 5 1)).1 = s1 at *
      generalize dB = s0 at *
      generalize (stA 4).1 = s4 at *
      clear HA hlt hk HG0
      go_wp2_with fail
      refine (HS4.out _ HF.out).mono ?_
      rintro e V2 ⟨rfl, hF, hs⟩
      have HF2 := Lib.hid hF; have HB2 := Lib.hid (hs.old HB.out lH lG); have HM2 := Lib.hid (HM.out.savH hs d1 d3)
      clear hF hs HF HB HM HS4
      obtain ⟨a0, a1, a2, a3, a4, a5, a6, a7, a8, a9, a10, a11, a12, af⟩ := HM2.out.cells
      go_wp2_with fail
      refine (HG1.out _ (HS.out.below HB2.out) HF2.out).mono ?_
      rintro e V3 ⟨rfl, hF, hs⟩
      have hM3 := HM2.out.savH hs d1 d3
      have HB3 := Lib.hid ((Sav.put13 (S := fun j => j = X) (Sav.of (hs.old HB2.out lH lG)) (.inl rfl) 6 0 0 1 0 0 0 0 0 0 0 0 0).below (Nat.le_refl _) (fun j hj e => by omega))
      have HF3 := Lib.hid (hF.put13 d1 d2 d3 6 0 0 1 0 0 0 0 0 0 0 0 0)
      have HM3 := Lib.hid hM3
      have HM4 := Lib.hid (hM3.put 6 0 0 1 0 0 0 0 0 0 0 0 0)
      clear hF hs hM3 HF2 HB2 HM2 HG1 a0 a1 a2 a3 a4 a5 a6 a7 a8 a9 a10 a11 a12 af
      obtain ⟨b0, b1, b2, b3, b4, b5, b6, b7, b8, b9, b10, b11, b12, bf⟩ := HM3.out.cells
      obtain ⟨s0, s1, s2, s3, s4, s5, s6, s7, s8, s9, s10, s11, s12, sf⟩ := HM4.out.cells
      clear HM3
      go_wp2_with fail
      refine (HG2.out _ (HS.out.below HB3.out) HF3.out).mono ?_
      rintro e V4 ⟨rfl, hF, hs⟩
      have HB5 := Lib.hid (below_on (hs.old HB3.out lH lG) (.cells #[.int .i64 10, .int .i64 1, .int .i64 0, .int .i64 0, .int .i64 0, .int .u64 0, .int .u64 0, .int .u64 0, .int .u64 0, .int .u64 0, .int .u64 0, .int .i64 0, .int .i64 0] 37))
      have HM5 := Lib.hid ((HM4.out.savH hs d1 d3).below (below_new V4 (.cells #[.int .i64 10, .int .i64 1, .int .i64 0, .int .i64 0, .int .i64 0, .int .u64 0, .int .u64 0, .int .u64 0, .int .u64 0, .int .u64 0, .int .u64 0, .int .i64 0, .int .i64 0] 37)))
      have HM6 := Lib.hid (Mut13.new V4 10 0 0 1 0 0 0 0 0 0 0 0 0)
      clear hF hs HF3 HB3 HM4 HG2 b0 b1 b2 b3 b4 b5 b6 b7 b8 b9 b10 b11 b12 bf s0 s1 s2 s3 s4 s5 s6 s7 s8 s9 s10 s11 s12 sf
      obtain ⟨a0, a1, a2, a3, a4, a5, a6, a7, a8, a9, a10, a11, a12, af⟩ := HM5.out.cells
      obtain ⟨c0, c1, c2, c3, c4, c5, c6, c7, c8, c9, c10, c11, c12, cf⟩ := HM6.out.cells
      go_wp2_with fail
      refine (HIn.out _).mono ?_
      rintro e V5 ⟨rfl, hb⟩
      have c0' := (HM6.out.below hb).cells.1
      have HB6 := Lib.hid (belowOn HB5.out hb)
      clear hb a0 a1 a2 a3 a4 a5 a6 a7 a8 a9 a10 a11 a12 af c0 c1 c2 c3 c4 c5 c6 c7 c8 c9 c10 c11 c12 cf
      go_wp2_with fail
      go_ret
      exact ⟨rfl, HB6.out⟩
end Go.Proofs.YtpieobegcaeopaaDoor
