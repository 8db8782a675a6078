/- BarrierTwice answers true: what is shaded once more changes nothing, and takes one step; what is no cell takes none. -/
import Derived.Test.YtckmdkebacbcjaaDoorBarShades
namespace Go.Proofs.YtckmdkebacbcjaaDoor
open Go Go.RowKit
set_option maxRecDepth 100000
attribute [local go_sem ↓] Go.wp_at_zero Go.wp_at_succ

theorem barS_lost {n : Nat} {a b c d : Int} {s : Dy} {v : Nat} {bk : Int} (h : casB n s.f (fieldP a b c d v 2) 0 = false) : barS ⟨n, a, b, c, d⟩ s (onlyM 80 v bk) = (s.act ⟨n, a, b, c, d⟩ 3 (fieldP a b c d v 2) 0 1, onlyM bk 0 0, true) := by
  unfold barS
  simp only [Int.toNat_natCast, h, if_true]
  rfl
set_option maxHeartbeats 6400000 in
theorem twice_any (a b c d : Int) (v0 : Option Addr) (n c0 : Nat) (f : Nat → Int) (v : Nat) (hv : v < 18446744073709551616) (bk : Nat) (hbk : bk < 256) (w : World) (hS : SpansAt w) (hG : Given w v0 n c0 f) :
    Calls Tryd.prog 6 #[.agg #[.int .i64 a, .int .i64 b, .int .i64 c, .int .i64 d], .slice v0 n c0, .int .u64 v, .int .u8 bk] w fun e w' => e = .returned (.bool true) ∧ Below w.heap.size w w' := by
  have HB0 := Lib.hid (below_new w (.cells #[.int .i64 a, .int .i64 b, .int .i64 c, .int .i64 d] 23))
  have HX0 : Hid (BoxAt (w.alloc (.cells #[.int .i64 a, .int .i64 b, .int .i64 c, .int .i64 d] 23)) w.heap.size a b c d) := Lib.hid (BoxAt.new w a b c d 23)
  have HS := Lib.hid hS; have HG := Lib.hid hG
  clear hS hG
  obtain ⟨x0, x1, x2, x3⟩ := HX0.out
  go_enter Tryd.func6, Tryd.ntmps6
  go_wp2_with fail
  refine (awake_c _ (HS.out.below HB0.out)).mono ?_
  rintro e W1 ⟨rfl, hW⟩
  have HB1 := Lib.hid (belowOn HB0.out hW)
  have HX1 := Lib.hid (HX0.out.below hW)
  clear hW HB0 HX0 x0 x1 x2 x3
  obtain ⟨x0, x1, x2, x3⟩ := HX1.out
  go_wp2_with fail
  refine (Both_any a b c d v0 n c0 f _ (HS.out.below HB1.out) ⟨HG.out.1, HG.out.2.1.below HB1.out, HG.out.2.2⟩).mono ?_
  rintro e W2 (⟨_, rfl, hW⟩ | ⟨hok, P, rfl, hT⟩)
  · have HB2 := Lib.hid (belowOn HB1.out hW)
    clear hW HX1 x0 x1 x2 x3 HB1
    go_wp2_with fail
    go_ret
    exact ⟨rfl, HB2.out⟩
  have HS1 := Lib.hid (HS.out.below HB1.out)
  have hu0 : Dy.U ⟨f, 0, 0, 0, 0, 0⟩ := HG.out.2.2.1
  have hn20 : n ≤ 20000 := by have := hok.2.1.prod; have h1 := hok.2.2; have h2 := hok.2.1; unfold Right at h2; omega
  have HT2 := Lib.hid hT
  have HX2 := HX1
  clear hT HX1 x0 x1 x2 x3
  go_wp2_with fail
  have hl20 : 20 ≤ 20 + (bk : Int) % 20 ∧ 20 + (bk : Int) % 20 < 40 := by omega
  generalize 20 + (bk : Int) % 20 = ln at *
  by_cases hC : isC v
  · have hbL : begL v ln = 80 := if_pos hC
    have hbP : begP v = (v : Int) := if_pos hC
    have hbB : begB v ln = ln := if_pos hC
    have hv6 : U64 (v : Int) := by unfold U64; omega
    have HI := Lib.hid (refIsCell_cell v hC.2 hC.1)
    have hq0 : decide (((v / 2 : Nat) : Int) < 0) = false := by simp; omega
    have hq1 : ¬ ((v / 2 : Nat) : Int) < 0 := by omega
    refine (HI.out _).mono ?_
    rintro e W3 ⟨rfl, rfl⟩
    generalize v / 2 = vh at *
    clear hC HI
    obtain ⟨K, st, hR⟩ := run_any (C := ⟨n, a, b, c, d⟩) (s := ⟨f, 0, 0, 0, 0, 0⟩) hu0 hok.2.1 hok.2.2 v hv ln
    have HR := Lib.hid hR
    clear hR hu0 hok
    go_wp2_with fail
    refine (Begin_c 0 0 0 0 0 0 0 0 0 0 0 0 0 v hv ln _).mono ?_
    rintro e W3 ⟨rfl, hW⟩
    rw [hbL, hbP, hbB]
    have hl80 : (ln == 80) = false := by simp; omega
    have hl81 : (ln == 81) = false := by simp; omega
    have HT := Lib.hid ((HT2.out.below hW).below (below_new W3 (.cells #[.int .i64 80, .int .i64 0, .int .i64 0, .int .i64 0, .int .i64 0, .int .u64 0, .int .u64 0, .int .u64 0, .int .u64 0, .int .u64 0, .int .u64 (v : Int), .int .i64 ln, .int .i64 0] 30)))
    have HM : Hid (MuAt (W3.alloc (.cells #[.int .i64 80, .int .i64 0, .int .i64 0, .int .i64 0, .int .i64 0, .int .u64 0, .int .u64 0, .int .u64 0, .int .u64 0, .int .u64 0, .int .u64 (v : Int), .int .i64 ln, .int .i64 0] 30)) W3.heap.size (onlyM 80 v ln)) := Lib.hid (Mut13.new W3 _ _ _ _ _ _ _ _ _ _ _ _ _)
    have HO := Lib.hid ((HT2.out.below hW).out (Nat.le_refl _))
    have HBB : Hid (W1.heap.size ≤ W3.heap.size) := Lib.hid (HT2.out.below hW).old.size
    generalize hC : (⟨n, a, b, c, d⟩ : Cf) = C at *
    generalize hs0 : (⟨f, 0, 0, 0, 0, 0⟩ : Dy) = s0 at *
    clear hW HT2
    go_wp2_with fail
    generalize (W3.alloc (.cells #[.int .i64 80, .int .i64 0, .int .i64 0, .int .i64 0, .int .i64 0, .int .u64 0, .int .u64 0, .int .u64 0, .int .u64 0, .int .u64 0, .int .u64 (v : Int), .int .i64 ln, .int .i64 0] 30)) = U0 at *
    generalize W3.heap.size = B at *
    go_loopw [15] (fun vi wr => ∃ k : Nat, vi = .int .i64 k ∧ k ≤ K ∧ Hid (Two W1 wr P C (st k).1 s0 ∧ MuAt wr B (st k).2)) (fun vi _ => K - (intOf vi).toNat)
    case atStart => exact ⟨0, rfl, Nat.zero_le _, Lib.hid ⟨by rw [HR.out.first]; exact HT.out, by rw [HR.out.first]; show MuAt _ B (onlyM (begL v ln) (begP v) (begB v ln)); rw [hbL, hbP, hbB]; exact HM.out⟩⟩
    case round =>
      clear HT HM
      obtain ⟨k, rfl, hk, HI⟩ := hrel
      obtain ⟨hT, hM⟩ := HI.out
      by_cases hlt : k < K
      · have hnx := HR.out.next k hlt; have hln := HR.out.line k hlt; have hu1 := HR.out.u k; have hp1 := HR.out.up k; have hk2 := HR.out.two
        clear HI
        generalize hq : st k = q at hT hM hnx hln hu1 hp1
        generalize hq2 : st (k + 1) = q2 at hnx
        obtain ⟨s1, m1⟩ := q
        obtain ⟨s2, m2⟩ := q2
        obtain ⟨l1, g1, g2, g3, g4, w1, w2, w3, w4, w5, p1, bk1, rt1⟩ := m1
        dsimp only at hT hM hnx hln hu1 hp1
        have HST : Hid (∀ W, Two W1 W P C s1 s0 → _) := Lib.hid (fun W h => bar_c (w := W) h.hand hu1 (HS1.out.below h.old) ⟨l1, g1, g2, g3, g4, w1, w2, w3, w4, w5, p1, bk1, rt1⟩ hp1)
        rw [hnx] at HST
        clear hnx hu1 hp1 hq
        have hk1 : decide ((1 : Int) < (k : Int)) = false := by simp; omega
        rcases hln with rfl | rfl
        · obtain ⟨b0, b1, b2, b3, b4, b5, b6, b7, b8, b9, b10, b11, b12, bf⟩ := hM.cells
          have hBl : B < wr.heap.size := hM.lt
          have HM := Lib.hid hM
          have HT := Lib.hid hT
          clear hM hT
          go_wp2_with fail
          refine (HST.out _ HT.out).mono ?_
          rintro e V hp
          obtain ⟨rfl, hT⟩ := Two.step HT.out hp
          have hM := HM.out.other (Pl.sav (.inl hp.2.2) HM.out.lt HO.out.notS)
          clear hp HM HT HST b0 b1 b2 b3 b4 b5 b6 b7 b8 b9 b10 b11 b12 bf hBl
          have HT := Lib.hid hT
          have HM := Lib.hid hM
          have hBl : B < V.heap.size := hM.lt
          have hBn : B ≠ V.heap.size := by omega
          clear hT hM
          obtain ⟨b0, b1, b2, b3, b4, b5, b6, b7, b8, b9, b10, b11, b12, bf⟩ := HM.out.cells
          go_wp2_with fail
          go_roundw
          case rel => exact ⟨k + 1, by go_num, by omega, Lib.hid ⟨by rw [hq2]; exact (HT.out.put HBB.out HO.out _ _ _ _ _ _ _ _ _ _ _ _ _).below (below_new _ _), by rw [hq2]; exact (HM.out.put _ _ _ _ _ _ _ _ _ _ _ _ _).below (below_new _ _)⟩⟩
          case measure => simp [intOf]; omega
        · obtain ⟨b0, b1, b2, b3, b4, b5, b6, b7, b8, b9, b10, b11, b12, bf⟩ := hM.cells
          have hBl : B < wr.heap.size := hM.lt
          have HM := Lib.hid hM
          have HT := Lib.hid hT
          clear hM hT
          go_wp2_with fail
          refine (HST.out _ HT.out).mono ?_
          rintro e V hp
          obtain ⟨rfl, hT⟩ := Two.step HT.out hp
          have hM := HM.out.other (Pl.sav (.inl hp.2.2) HM.out.lt HO.out.notS)
          clear hp HM HT HST b0 b1 b2 b3 b4 b5 b6 b7 b8 b9 b10 b11 b12 bf hBl
          have HT := Lib.hid hT
          have HM := Lib.hid hM
          have hBl : B < V.heap.size := hM.lt
          have hBn : B ≠ V.heap.size := by omega
          clear hT hM
          obtain ⟨b0, b1, b2, b3, b4, b5, b6, b7, b8, b9, b10, b11, b12, bf⟩ := HM.out.cells
          go_wp2_with fail
          go_roundw
          case rel => exact ⟨k + 1, by go_num, by omega, Lib.hid ⟨by rw [hq2]; exact (HT.out.put HBB.out HO.out _ _ _ _ _ _ _ _ _ _ _ _ _).below (below_new _ _), by rw [hq2]; exact (HM.out.put _ _ _ _ _ _ _ _ _ _ _ _ _).below (below_new _ _)⟩⟩
          case measure => simp [intOf]; omega
      · obtain rfl : k = K := by omega
        have hla := HR.out.last; have hwo := HR.out.words; have hus := HR.out.u k
        clear HI
        generalize st k = q at hT hM hla hwo hus
        obtain ⟨s1, m1⟩ := q
        dsimp only at hT hM hla hwo hus
        subst hla
        obtain ⟨b0, b1, b2, b3, b4, b5, b6, b7, b8, b9, b10, b11, b12, bf⟩ := hM.cells
        have hBl : B < wr.heap.size := hM.lt
        have HM := Lib.hid hM
        have HT := Lib.hid hT
        have HWO := Lib.hid hwo
        have HUS := Lib.hid hus
        clear hM hT hlt hk hwo hus
        subst hC; subst hs0
        obtain ⟨h0, _⟩ := HT.out.hand.cells
        have hlH : P.H < wr.heap.size := HT.out.hand.lt
        have HOR := Lib.hid (HT.out.out (Nat.le_refl _))
        go_wp2_with fail
        refine (All_c HT.out.hand.ar hn20).mono ?_
        rintro e W6 ⟨rfl, hrow, hW⟩
        have HT6 := Lib.hid (HT.out.below hW)
        have HM6 : Hid (MuAt W6 B (onlyM ln 0 0)) := Lib.hid (HM.out.below hW)
        have HRW := Lib.hid hrow
        have HST2 : Hid (∀ W, Two W1 W P ⟨n, a, b, c, d⟩ s1 ⟨f, 0, 0, 0, 0, 0⟩ → _) := Lib.hid (fun W h => bar_c (w := W) h.hand HUS.out (HS1.out.below h.old) (onlyM 80 v ln) hv6)
        have hag := HWO.out.again
        have hz : barS ⟨n, a, b, c, d⟩ s1 (onlyM 80 v ln) = (s1.act ⟨n, a, b, c, d⟩ 3 (fieldP a b c d v 2) 0 1, onlyM ln 0 0, true) := barS_lost hag.2
        rw [hz] at HST2
        have hsf : (s1.act ⟨n, a, b, c, d⟩ 3 (fieldP a b c d v 2) 0 1).f = s1.f := hag.1
        generalize s1.act ⟨n, a, b, c, d⟩ 3 (fieldP a b c d v 2) 0 1 = s2 at *
        clear hW HT HM hBl HR hrow h0 hlH hag hz HWO HUS b0 b1 b2 b3 b4 b5 b6 b7 b8 b9 b10 b11 b12 bf
        dsimp only
        generalize wr.heap.size = R at *
        go_wp2_with fail
        refine (Begin_c 0 0 0 0 0 0 0 0 0 0 0 0 0 v hv ln _).mono ?_
        rintro e W7 ⟨rfl, hW⟩
        rw [hbL, hbP, hbB]
        have HT7 := Lib.hid (HT6.out.below hW)
        have HM7 : Hid (MuAt W7 B (onlyM ln 0 0)) := Lib.hid (HM6.out.below hW)
        have HRW7 := Lib.hid (HRW.out.below hW)
        clear hW HT6 HM6 HRW
        go_wp2_with fail
        refine (HST2.out _ HT7.out).mono ?_
        rintro e W8 hp
        obtain ⟨rfl, hT⟩ := Two.step HT7.out hp
        have hM8 := HM7.out.other (Pl.sav (.inl hp.2.2) HM7.out.lt HO.out.notS)
        have hR8 := HRW7.out.other (Pl.sav (.inl hp.2.2) HRW7.out.lt HOR.out.notS)
        have HT8 := Lib.hid (hT.below (below_new W8 (.cells #[.int .i64 ln, .int .i64 0, .int .i64 0, .int .i64 0, .int .i64 0, .int .u64 0, .int .u64 0, .int .u64 0, .int .u64 0, .int .u64 0, .int .u64 0, .int .i64 0, .int .i64 0] 30)))
        have HR8 := Lib.hid (hR8.below (below_new W8 (.cells #[.int .i64 ln, .int .i64 0, .int .i64 0, .int .i64 0, .int .i64 0, .int .u64 0, .int .u64 0, .int .u64 0, .int .u64 0, .int .u64 0, .int .u64 0, .int .i64 0, .int .i64 0] 30)))
        obtain ⟨h0, _⟩ := hT.hand.cells
        have hlH : P.H < W8.heap.size := hT.hand.lt
        obtain ⟨b0, b1, b2, b3, b4, b5, b6, b7, b8, b9, b10, b11, b12, bf⟩ := hM8.cells
        have hBl : B < W8.heap.size := hM8.lt
        clear hp hT hM8 hR8 HT7 HM7 HRW7 HST2
        go_wp2_with fail
        generalize (W8.alloc (.cells #[.int .i64 ln, .int .i64 0, .int .i64 0, .int .i64 0, .int .i64 0, .int .u64 0, .int .u64 0, .int .u64 0, .int .u64 0, .int .u64 0, .int .u64 0, .int .i64 0, .int .i64 0] 30)) = U8 at *
        refine (All_c HT8.out.hand.ar hn20).mono ?_
        rintro e W9 ⟨rfl, hrow, hW⟩
        rw [hsf] at hrow
        have HT9 := Lib.hid (HT8.out.below hW)
        have HWa := Lib.hid hrow.words
        have HWb := Lib.hid (HR8.out.below hW).words
        clear hW hrow HT8 HR8 h0 hlH hBl b0 b1 b2 b3 b4 b5 b6 b7 b8 b9 b10 b11 b12 bf
        go_wp2_with fail
        refine (Same_c _ _ n n n s1.f hn20 _ HWa.out HWb.out).mono ?_
        rintro e W10 ⟨rfl, hW⟩
        have HB10 := Lib.hid (belowOn HB1.out (belowOn HT9.out.old hW))
        clear hW HT9 HWa HWb
        go_wp2_with fail
        go_ret
        exact ⟨rfl, HB10.out⟩
  · have HI := Lib.hid (refIsCell_no v hv hC)
    have hbL : begL v ln = ln := if_neg hC
    have hbP : begP v = 0 := if_neg hC
    have hbB : begB v ln = 0 := if_neg hC
    refine (HI.out _).mono ?_
    rintro e W3 ⟨rfl, rfl⟩
    clear hC HI hu0 hok
    go_wp2_with fail
    refine (Begin_c 0 9 5 0 0 0 0 0 0 0 0 0 0 v hv ln _).mono ?_
    rintro e W3 ⟨rfl, hW⟩
    rw [hbL, hbP, hbB]
    have HB3 := Lib.hid (belowOn HB1.out (belowOn HT2.out.old hW))
    clear hW HT2
    go_wp2_with fail
    go_ret
    exact ⟨rfl, below_on HB3.out _⟩
end Go.Proofs.YtckmdkebacbcjaaDoor
