/- HandLast answers true for every configuration and all acts: the access that is noted is the one by which the words came to be as they are. -/
import Derived.Test.YtoojiaaooccknaaDoorHandLastA
namespace Go.Proofs.YtoojiaaooccknaaDoor
open Go Go.RowKit
set_option maxRecDepth 100000
attribute [local go_sem ↓] Go.wp_at_zero Go.wp_at_succ

set_option maxHeartbeats 25600000 in
theorem last_right (a b c d : Int) (hg : ¬ grt a b c d) (hr : Right a b c d) (a2 : Option Addr) (m c2 : Nat) (g : Nat → ActN) (hm : m ≤ 60) (w : World) (hS : SpansAt w) (hG2 : GivenActs w a2 m g) :
    Calls Tryd.prog 5 #[.agg #[.int .i64 a, .int .i64 b, .int .i64 c, .int .i64 d], .slice a2 m c2] w fun e w' => e = .returned (.bool true) ∧ Below w.heap.size w w' := by
  have HB0 := Lib.hid (below_new w (.cells #[.int .i64 a, .int .i64 b, .int .i64 c, .int .i64 d] 23))
  have HX0 := Lib.hid (BoxAt.new w a b c d 23)
  have HS := Lib.hid hS
  clear hS
  obtain ⟨x0, x1, x2, x3⟩ := HX0.out
  have HG := Lib.hid (great_no a b c d hg)
  have HNw := Lib.hid (New_yes a b c d hr)
  have HR := Lib.hid hr
  have HG2 := Lib.hid hG2
  clear hg hr hG2
  go_enter Tryd.func5, Tryd.ntmps5
  go_wp2_with fail
  refine (awake_c _ (HS.out.below HB0.out)).mono ?_
  rintro e W1 ⟨rfl, hW⟩
  have HB1 := Lib.hid (belowOn HB0.out hW)
  have HX1 := Lib.hid (HX0.out.below hW)
  clear hW HB0 HX0 x0 x1 x2 x3
  obtain ⟨x0, x1, x2, x3⟩ := HX1.out
  go_wp2_with fail
  refine (HNw.out _ (HS.out.below HB1.out)).mono ?_
  rintro e W2 ⟨n, hn, H, A, G, rfl, hF, hW, l1, l2, l3⟩
  have hs1 : w.heap.size ≤ W1.heap.size := HB1.out.size
  have hn20 : n ≤ 20000 := by have := HR.out.prod; have hr := HR.out; unfold Right at hr; omega
  have hn0 : 0 < n := by have := HR.out.prod; have hr := HR.out; unfold Right at hr; omega
  have HF2 := Lib.hid hF
  have HB2 := Lib.hid (belowOn HB1.out hW)
  have HX2 := Lib.hid (HX1.out.below hW)
  clear hW hF HB1 HX1 x0 x1 x2 x3 HNw hn
  obtain ⟨x0, x1, x2, x3⟩ := HX2.out
  go_wp2_with fail
  refine (HG.out _).mono ?_
  rintro e W3 ⟨rfl, hW⟩
  have HF3 := Lib.hid (HF2.out.below hW)
  have HB3 := Lib.hid (belowOn HB2.out hW)
  clear hW HF2 HB2 HX2 x0 x1 x2 x3 HG
  obtain ⟨h0, _⟩ := HF3.out.cells
  go_wp2_with fail
  refine (All_c HF3.out.ar hn20).mono ?_
  rintro e W4 ⟨rfl, hrow, hW⟩
  have hl0 : H < W3.heap.size := HF3.out.lt
  have hl1 : A < W3.heap.size := HF3.out.ar.lt
  have hl2 : G < W3.heap.size := HF3.out.ar.row.lt
  have HB : Hid (Lst w W4 H A G W3.heap.size n a b c d (fstV a b c d) 0 0 0 0 0 (fstV a b c d)) := Lib.hid ⟨belowOn HB3.out hW, HF3.out.below hW, hrow, by omega, by omega, HB3.out.size, by omega, by omega, by omega⟩
  have HU : Hid (∀ j, U64 (fstV a b c d j)) := Lib.hid (fst_u64 HR.out)
  clear hW hrow HF3 HB3 HS HR h0 hl0 hl1 hl2 l1 l2 l3 hs1
  generalize W3.heap.size = R at *
  generalize fstV a b c d = f at *
  go_wp2_with fail
  go_loopw [8] (fun vi wr => ∃ k : Nat, vi = .int .i64 k ∧ k ≤ m ∧ Hid (∃ f ka ia xa ya oa, Lst w wr H A G R n a b c d f ka ia xa ya oa f ∧ ∀ j, U64 (f j))) (fun vi _ => m - (intOf vi).toNat)
  case atStart => exact ⟨0, rfl, Nat.zero_le _, Lib.hid ⟨f, 0, 0, 0, 0, 0, HB.out, HU.out⟩⟩
  case round =>
    clear HB HU f
    obtain ⟨k, rfl, hk, HI⟩ := hrel
    obtain ⟨f, ka, ia, xa, ya, oa, hB, hu⟩ := HI.out
    by_cases hlt : k < m
    · obtain ⟨b2, off, rfl, hb2, hc⟩ := (HG2.out.2.1.below hB.old).at' hlt
      obtain ⟨hx, hy⟩ := HG2.out.2.2 k hlt
      generalize g k = q at hc hx hy
      obtain ⟨K, I, X1, Y1⟩ := q
      have HN := Lib.hid (hB.apart (B := wr.heap.size) (Nat.le_refl _))
      have HB0 := Lib.hid (hB.below (below_new wr (.cells #[.int .i64 K, .int .i64 I, .int .u64 X1, .int .u64 Y1] 47)))
      have HA0 := Lib.hid (ActAt.new wr K I X1 Y1)
      unfold ActAt at hc
      dsimp only at hc hx hy
      obtain ⟨q0, q1, q2, q3⟩ := hc
      obtain ⟨a0, a1, a2', a3⟩ := HA0.out
      clear hB HI HG2
      by_cases e1 : K = 1
      · subst e1
        have HH := Lib.hid (hClear_c HB0.out.hand)
        go_wp2_with fail
        refine HH.out.mono ?_
        rintro e V1 ⟨rfl, hF, hs⟩
        have HB1 := Lib.hid (HB0.out.act hs hF)
        have HA1 := Lib.hid (HA0.out.other (hs.block _ (lt_of_cell HA0.out.1) HN.out))
        clear hF hs HB0 HA0 HH HN a0 a1 a2' a3
        obtain ⟨a0, a1, a2', a3⟩ := HA1.out
        by_cases hI : 0 ≤ I ∧ I < (n : Int)
        · obtain ⟨j, rfl⟩ : ∃ j : Nat, I = j := ⟨I.toNat, by omega⟩
          have hjn : j < n := by omega
          clear hI
          obtain ⟨vj, hvj⟩ : ∃ vj, f j = vj := ⟨_, rfl⟩
          have HV := Lib.hid hvj
          obtain ⟨v, hh⟩ := last_load HB1.out.hand hu j hjn
          rw [hvj] at hh
          have HH := Lib.hid hh
          clear hh hvj
          have HU := Lib.hid hu
          clear hu hx hy
          go_wp2_with fail
          refine HH.out.mono ?_
          rintro e V2 ⟨rfl, hF, hs⟩
          have HB2 := Lib.hid (HB1.out.act hs hF)
          clear hF hs HB1 HA1 HH a0 a1 a2' a3
          obtain ⟨h0, _, h5, h6, h7, h8, h9, _⟩ := HB2.out.hand.cells
          have rc := HB2.out.row.cell (j := j) (by omega)
          have rf := HB2.out.row.frozen j
          have hRl : R < V2.heap.size := HB2.out.row.lt
          have hRn : R ≠ V2.heap.size := by omega
          have hHl : H < V2.heap.size := HB2.out.hand.lt
          have hHn : H ≠ V2.heap.size := by omega
          have hHR : H ≠ R := HB2.out.rH.symm
          rw [HV.out] at rc
          go_wp2_with fail
          have HBr := Lib.hid (HB2.out.below (below_new _ (.cells #[.int .i64 1, .int .i64 j, .int .u64 0, .int .u64 0, .int .u64 vj] 39)))
          generalize V2.alloc (.cells #[.int .i64 1, .int .i64 j, .int .u64 0, .int .u64 0, .int .u64 vj] 39) = U0 at *
          refine (All_c HBr.out.hand.ar hn20).mono ?_
          rintro e U1 ⟨rfl, hrow, hV⟩
          have HBs := Lib.hid (HBr.out.below hV)
          have HWs := Lib.hid hrow.words
          clear hrow hV HBr rc rf
          clear h0
          go_wp2_with fail
          refine (Same_c _ _ n n n (f) hn20 _ HWs.out HBs.out.row.words).mono ?_
          rintro e U2 ⟨rfl, hV⟩
          have HBt := Lib.hid (HBs.out.below hV)
          clear hV HBs HWs
          go_wp2_with fail
          go_roundw
          case rel => exact ⟨k + 1, by go_num, by omega, Lib.hid ⟨f, _, _, _, _, _, HBt.out, HU.out⟩⟩
          case measure => simp [intOf]; omega
        · obtain ⟨v, hh⟩ := last_no1 HB1.out.hand hu I hI
          have HH := Lib.hid hh
          clear hh
          have HU := Lib.hid hu
          clear hu hI hx hy
          go_wp2_with fail
          refine HH.out.mono ?_
          rintro e V2 ⟨rfl, hF, hs⟩
          have HB2 := Lib.hid (HB1.out.act hs hF)
          clear hF hs HB1 HA1 HH a0 a1 a2' a3
          obtain ⟨h0, _, h5, h6, h7, h8, h9, _⟩ := HB2.out.hand.cells
          have rc := HB2.out.row.cell (j := 0) (by omega)
          have rf := HB2.out.row.frozen 0
          have hRl : R < V2.heap.size := HB2.out.row.lt
          have hRn : R ≠ V2.heap.size := by omega
          have hHl : H < V2.heap.size := HB2.out.hand.lt
          have hHn : H ≠ V2.heap.size := by omega
          have hHR : H ≠ R := HB2.out.rH.symm
          generalize f 0 = v0 at rc
          go_wp2_with fail
          have HBr := Lib.hid (HB2.out.below (below_new _ (.cells #[.int .i64 0, .int .i64 0, .int .u64 0, .int .u64 0, .int .u64 0] 39)))
          generalize V2.alloc (.cells #[.int .i64 0, .int .i64 0, .int .u64 0, .int .u64 0, .int .u64 0] 39) = U0 at *
          refine (All_c HBr.out.hand.ar hn20).mono ?_
          rintro e U1 ⟨rfl, hrow, hV⟩
          have HBs := Lib.hid (HBr.out.below hV)
          have HWs := Lib.hid hrow.words
          clear hrow hV HBr rc rf
          clear h0
          go_wp2_with fail
          refine (Same_c _ _ n n n (f) hn20 _ HWs.out HBs.out.row.words).mono ?_
          rintro e U2 ⟨rfl, hV⟩
          have HBt := Lib.hid (HBs.out.below hV)
          clear hV HBs HWs
          go_wp2_with fail
          go_roundw
          case rel => exact ⟨k + 1, by go_num, by omega, Lib.hid ⟨f, _, _, _, _, _, HBt.out, HU.out⟩⟩
          case measure => simp [intOf]; omega
      by_cases e2 : K = 2
      · subst e2
        clear e1
        have HH := Lib.hid (hClear_c HB0.out.hand)
        go_wp2_with fail
        refine HH.out.mono ?_
        rintro e V1 ⟨rfl, hF, hs⟩
        have HB1 := Lib.hid (HB0.out.act hs hF)
        have HA1 := Lib.hid (HA0.out.other (hs.block _ (lt_of_cell HA0.out.1) HN.out))
        clear hF hs HB0 HA0 HH HN a0 a1 a2' a3
        obtain ⟨a0, a1, a2', a3⟩ := HA1.out
        by_cases hI : 0 ≤ I ∧ I < (n : Int)
        · obtain ⟨j, rfl⟩ : ∃ j : Nat, I = j := ⟨I.toNat, by omega⟩
          have hjn : j < n := by omega
          clear hI
          obtain ⟨vj, hvj⟩ : ∃ vj, f j = vj := ⟨_, rfl⟩
          have HV := Lib.hid hvj
          obtain ⟨v, hh⟩ := last_store HB1.out.hand hu j hjn X1
          rw [hvj] at hh
          have HH := Lib.hid hh
          clear hh hvj
          have HU := Lib.hid (upd_u64 hu j (hx : U64 X1))
          clear hu hx hy
          go_wp2_with fail
          refine HH.out.mono ?_
          rintro e V2 ⟨rfl, hF, hs⟩
          have HB2 := Lib.hid (HB1.out.act hs hF)
          clear hF hs HB1 HA1 HH a0 a1 a2' a3
          obtain ⟨h0, _, h5, h6, h7, h8, h9, _⟩ := HB2.out.hand.cells
          have rc := HB2.out.row.cell (j := j) (by omega)
          have rf := HB2.out.row.frozen j
          have hRl : R < V2.heap.size := HB2.out.row.lt
          have hRn : R ≠ V2.heap.size := by omega
          have hHl : H < V2.heap.size := HB2.out.hand.lt
          have hHn : H ≠ V2.heap.size := by omega
          have hHR : H ≠ R := HB2.out.rH.symm
          rw [HV.out] at rc
          go_wp2_with fail
          have HBr := Lib.hid ((HB2.out.put j X1).below (below_new _ (.cells #[.int .i64 2, .int .i64 j, .int .u64 X1, .int .u64 0, .int .u64 vj] 39)))
          generalize (V2.setCell ⟨R, j, none⟩ (.int .u64 X1)).alloc (.cells #[.int .i64 2, .int .i64 j, .int .u64 X1, .int .u64 0, .int .u64 vj] 39) = U0 at *
          refine (All_c HBr.out.hand.ar hn20).mono ?_
          rintro e U1 ⟨rfl, hrow, hV⟩
          have HBs := Lib.hid (HBr.out.below hV)
          have HWs := Lib.hid hrow.words
          clear hrow hV HBr rc rf
          clear h0
          go_wp2_with fail
          refine (Same_c _ _ n n n (upd f j X1) hn20 _ HWs.out HBs.out.row.words).mono ?_
          rintro e U2 ⟨rfl, hV⟩
          have HBt := Lib.hid (HBs.out.below hV)
          clear hV HBs HWs
          go_wp2_with fail
          go_roundw
          case rel => exact ⟨k + 1, by go_num, by omega, Lib.hid ⟨upd f j X1, _, _, _, _, _, HBt.out, HU.out⟩⟩
          case measure => simp [intOf]; omega
        · obtain ⟨v, hh⟩ := last_no2 HB1.out.hand hu I hI X1
          have HH := Lib.hid hh
          clear hh
          have HU := Lib.hid hu
          clear hu hI hx hy
          go_wp2_with fail
          refine HH.out.mono ?_
          rintro e V2 ⟨rfl, hF, hs⟩
          have HB2 := Lib.hid (HB1.out.act hs hF)
          clear hF hs HB1 HA1 HH a0 a1 a2' a3
          obtain ⟨h0, _, h5, h6, h7, h8, h9, _⟩ := HB2.out.hand.cells
          have rc := HB2.out.row.cell (j := 0) (by omega)
          have rf := HB2.out.row.frozen 0
          have hRl : R < V2.heap.size := HB2.out.row.lt
          have hRn : R ≠ V2.heap.size := by omega
          have hHl : H < V2.heap.size := HB2.out.hand.lt
          have hHn : H ≠ V2.heap.size := by omega
          have hHR : H ≠ R := HB2.out.rH.symm
          generalize f 0 = v0 at rc
          go_wp2_with fail
          have HBr := Lib.hid (HB2.out.below (below_new _ (.cells #[.int .i64 0, .int .i64 0, .int .u64 0, .int .u64 0, .int .u64 0] 39)))
          generalize V2.alloc (.cells #[.int .i64 0, .int .i64 0, .int .u64 0, .int .u64 0, .int .u64 0] 39) = U0 at *
          refine (All_c HBr.out.hand.ar hn20).mono ?_
          rintro e U1 ⟨rfl, hrow, hV⟩
          have HBs := Lib.hid (HBr.out.below hV)
          have HWs := Lib.hid hrow.words
          clear hrow hV HBr rc rf
          clear h0
          go_wp2_with fail
          refine (Same_c _ _ n n n (f) hn20 _ HWs.out HBs.out.row.words).mono ?_
          rintro e U2 ⟨rfl, hV⟩
          have HBt := Lib.hid (HBs.out.below hV)
          clear hV HBs HWs
          go_wp2_with fail
          go_roundw
          case rel => exact ⟨k + 1, by go_num, by omega, Lib.hid ⟨f, _, _, _, _, _, HBt.out, HU.out⟩⟩
          case measure => simp [intOf]; omega
      by_cases e3 : K = 3
      · subst e3
        clear e1 e2
        have HH := Lib.hid (hClear_c HB0.out.hand)
        go_wp2_with fail
        refine HH.out.mono ?_
        rintro e V1 ⟨rfl, hF, hs⟩
        have HB1 := Lib.hid (HB0.out.act hs hF)
        have HA1 := Lib.hid (HA0.out.other (hs.block _ (lt_of_cell HA0.out.1) HN.out))
        clear hF hs HB0 HA0 HH HN a0 a1 a2' a3
        obtain ⟨a0, a1, a2', a3⟩ := HA1.out
        by_cases hI : 0 ≤ I ∧ I < (n : Int)
        · obtain ⟨j, rfl⟩ : ∃ j : Nat, I = j := ⟨I.toNat, by omega⟩
          have hjn : j < n := by omega
          clear hI
          obtain ⟨vj, hvj⟩ : ∃ vj, f j = vj := ⟨_, rfl⟩
          have HV := Lib.hid hvj
          by_cases hX : vj = X1
          · subst hX
            obtain ⟨v, hh⟩ := last_hit HB1.out.hand hu j hjn vj Y1 hvj
            rw [hvj] at hh
            have HH := Lib.hid hh
            clear hh hvj
            have HU := Lib.hid (upd_u64 hu j (hy : U64 Y1))
            clear hu hx hy
            go_wp2_with fail
            refine HH.out.mono ?_
            rintro e V2 ⟨rfl, hF, hs⟩
            have HB2 := Lib.hid (HB1.out.act hs hF)
            clear hF hs HB1 HA1 HH a0 a1 a2' a3
            obtain ⟨h0, _, h5, h6, h7, h8, h9, _⟩ := HB2.out.hand.cells
            have rc := HB2.out.row.cell (j := j) (by omega)
            have rf := HB2.out.row.frozen j
            have hRl : R < V2.heap.size := HB2.out.row.lt
            have hRn : R ≠ V2.heap.size := by omega
            have hHl : H < V2.heap.size := HB2.out.hand.lt
            have hHn : H ≠ V2.heap.size := by omega
            have hHR : H ≠ R := HB2.out.rH.symm
            rw [HV.out] at rc
            go_wp2_with fail
            have HBr := Lib.hid ((HB2.out.put j Y1).below (below_new _ (.cells #[.int .i64 3, .int .i64 j, .int .u64 vj, .int .u64 Y1, .int .u64 vj] 39)))
            generalize (V2.setCell ⟨R, j, none⟩ (.int .u64 Y1)).alloc (.cells #[.int .i64 3, .int .i64 j, .int .u64 vj, .int .u64 Y1, .int .u64 vj] 39) = U0 at *
            refine (All_c HBr.out.hand.ar hn20).mono ?_
            rintro e U1 ⟨rfl, hrow, hV⟩
            have HBs := Lib.hid (HBr.out.below hV)
            have HWs := Lib.hid hrow.words
            clear hrow hV HBr rc rf
            clear h0
            go_wp2_with fail
            refine (Same_c _ _ n n n (upd f j Y1) hn20 _ HWs.out HBs.out.row.words).mono ?_
            rintro e U2 ⟨rfl, hV⟩
            have HBt := Lib.hid (HBs.out.below hV)
            clear hV HBs HWs
            go_wp2_with fail
            go_roundw
            case rel => exact ⟨k + 1, by go_num, by omega, Lib.hid ⟨upd f j Y1, _, _, _, _, _, HBt.out, HU.out⟩⟩
            case measure => simp [intOf]; omega
          · obtain ⟨v, hh⟩ := last_miss HB1.out.hand hu j hjn X1 Y1 (fun e => hX (hvj.symm.trans e))
            rw [hvj] at hh
            have HH := Lib.hid hh
            clear hh hvj
            have hq : (vj == X1) = false := by rw [beq_eq_false_iff_ne]; exact hX
            have HU := Lib.hid hu
            clear hu hx hy
            go_wp2_with fail
            refine HH.out.mono ?_
            rintro e V2 ⟨rfl, hF, hs⟩
            have HB2 := Lib.hid (HB1.out.act hs hF)
            clear hF hs HB1 HA1 HH a0 a1 a2' a3
            obtain ⟨h0, _, h5, h6, h7, h8, h9, _⟩ := HB2.out.hand.cells
            have rc := HB2.out.row.cell (j := j) (by omega)
            have rf := HB2.out.row.frozen j
            have hRl : R < V2.heap.size := HB2.out.row.lt
            have hRn : R ≠ V2.heap.size := by omega
            have hHl : H < V2.heap.size := HB2.out.hand.lt
            have hHn : H ≠ V2.heap.size := by omega
            have hHR : H ≠ R := HB2.out.rH.symm
            rw [HV.out] at rc
            go_wp2_with fail
            have HBr := Lib.hid (HB2.out.below (below_new _ (.cells #[.int .i64 3, .int .i64 j, .int .u64 X1, .int .u64 Y1, .int .u64 vj] 39)))
            generalize V2.alloc (.cells #[.int .i64 3, .int .i64 j, .int .u64 X1, .int .u64 Y1, .int .u64 vj] 39) = U0 at *
            refine (All_c HBr.out.hand.ar hn20).mono ?_
            rintro e U1 ⟨rfl, hrow, hV⟩
            have HBs := Lib.hid (HBr.out.below hV)
            have HWs := Lib.hid hrow.words
            clear hrow hV HBr rc rf
            clear h0
            go_wp2_with fail
            refine (Same_c _ _ n n n (f) hn20 _ HWs.out HBs.out.row.words).mono ?_
            rintro e U2 ⟨rfl, hV⟩
            have HBt := Lib.hid (HBs.out.below hV)
            clear hV HBs HWs
            go_wp2_with fail
            go_roundw
            case rel => exact ⟨k + 1, by go_num, by omega, Lib.hid ⟨f, _, _, _, _, _, HBt.out, HU.out⟩⟩
            case measure => simp [intOf]; omega
        · obtain ⟨v, hh⟩ := last_no3 HB1.out.hand hu I hI X1 Y1
          have HH := Lib.hid hh
          clear hh
          have HU := Lib.hid hu
          clear hu hI hx hy
          go_wp2_with fail
          refine HH.out.mono ?_
          rintro e V2 ⟨rfl, hF, hs⟩
          have HB2 := Lib.hid (HB1.out.act hs hF)
          clear hF hs HB1 HA1 HH a0 a1 a2' a3
          obtain ⟨h0, _, h5, h6, h7, h8, h9, _⟩ := HB2.out.hand.cells
          have rc := HB2.out.row.cell (j := 0) (by omega)
          have rf := HB2.out.row.frozen 0
          have hRl : R < V2.heap.size := HB2.out.row.lt
          have hRn : R ≠ V2.heap.size := by omega
          have hHl : H < V2.heap.size := HB2.out.hand.lt
          have hHn : H ≠ V2.heap.size := by omega
          have hHR : H ≠ R := HB2.out.rH.symm
          generalize f 0 = v0 at rc
          go_wp2_with fail
          have HBr := Lib.hid (HB2.out.below (below_new _ (.cells #[.int .i64 0, .int .i64 0, .int .u64 0, .int .u64 0, .int .u64 0] 39)))
          generalize V2.alloc (.cells #[.int .i64 0, .int .i64 0, .int .u64 0, .int .u64 0, .int .u64 0] 39) = U0 at *
          refine (All_c HBr.out.hand.ar hn20).mono ?_
          rintro e U1 ⟨rfl, hrow, hV⟩
          have HBs := Lib.hid (HBr.out.below hV)
          have HWs := Lib.hid hrow.words
          clear hrow hV HBr rc rf
          clear h0
          go_wp2_with fail
          refine (Same_c _ _ n n n (f) hn20 _ HWs.out HBs.out.row.words).mono ?_
          rintro e U2 ⟨rfl, hV⟩
          have HBt := Lib.hid (HBs.out.below hV)
          clear hV HBs HWs
          go_wp2_with fail
          go_roundw
          case rel => exact ⟨k + 1, by go_num, by omega, Lib.hid ⟨f, _, _, _, _, _, HBt.out, HU.out⟩⟩
          case measure => simp [intOf]; omega
      by_cases e4 : K = 4
      · subst e4
        clear e1 e2 e3
        have HH := Lib.hid (hClear_c HB0.out.hand)
        go_wp2_with fail
        refine HH.out.mono ?_
        rintro e V1 ⟨rfl, hF, hs⟩
        have HB1 := Lib.hid (HB0.out.act hs hF)
        have HA1 := Lib.hid (HA0.out.other (hs.block _ (lt_of_cell HA0.out.1) HN.out))
        clear hF hs HB0 HA0 HH HN a0 a1 a2' a3
        obtain ⟨a0, a1, a2', a3⟩ := HA1.out
        by_cases hI : 0 ≤ I ∧ I < (n : Int)
        · obtain ⟨j, rfl⟩ : ∃ j : Nat, I = j := ⟨I.toNat, by omega⟩
          have hjn : j < n := by omega
          clear hI
          obtain ⟨vj, hvj⟩ : ∃ vj, f j = vj := ⟨_, rfl⟩
          have HV := Lib.hid hvj
          obtain ⟨v, hh⟩ := last_add HB1.out.hand hu j hjn X1
          rw [hvj] at hh
          have HH := Lib.hid hh
          clear hh hvj
          have hz := wrap_sum vj X1
          have hzu := sumW_u64 vj X1
          generalize sumW vj X1 = z at *
          have HU := Lib.hid (upd_u64 hu j (hzu : U64 z))
          clear hu hx hy
          go_wp2_with fail
          refine HH.out.mono ?_
          rintro e V2 ⟨rfl, hF, hs⟩
          have HB2 := Lib.hid (HB1.out.act hs hF)
          clear hF hs HB1 HA1 HH a0 a1 a2' a3
          obtain ⟨h0, _, h5, h6, h7, h8, h9, _⟩ := HB2.out.hand.cells
          have rc := HB2.out.row.cell (j := j) (by omega)
          have rf := HB2.out.row.frozen j
          have hRl : R < V2.heap.size := HB2.out.row.lt
          have hRn : R ≠ V2.heap.size := by omega
          have hHl : H < V2.heap.size := HB2.out.hand.lt
          have hHn : H ≠ V2.heap.size := by omega
          have hHR : H ≠ R := HB2.out.rH.symm
          rw [HV.out] at rc
          go_wp2_with fail
          obtain ⟨c0, c1, c2', c3, c4, _⟩ := (show Acc5 (V2.alloc (.cells #[.int .i64 4, .int .i64 j, .int .u64 X1, .int .u64 0, .int .u64 vj] 39)).drew V2.heap.size 4 j X1 0 vj from Acc5.new V2 4 j X1 0 vj).cells
          have rc1 : (V2.alloc (.cells #[.int .i64 4, .int .i64 j, .int .u64 X1, .int .u64 0, .int .u64 vj] 39)).drew.cell? ⟨R, j, none⟩ = some (.int .u64 vj) := ((below_new V2 (.cells #[.int .i64 4, .int .i64 j, .int .u64 X1, .int .u64 0, .int .u64 vj] 39)).cell (p := ⟨R, j, none⟩) hRl).trans rc
          have rf1 : (V2.alloc (.cells #[.int .i64 4, .int .i64 j, .int .u64 X1, .int .u64 0, .int .u64 vj] 39)).drew.frozen? ⟨R, j, none⟩ = false := ((below_new V2 (.cells #[.int .i64 4, .int .i64 j, .int .u64 X1, .int .u64 0, .int .u64 vj] 39)).frozen (p := ⟨R, j, none⟩) hRl).trans rf
          clear rc rf
          refine wp_region_held_drew (S := (fun w' => w'.cell? ⟨V2.heap.size, 1, none⟩ = some (.int .i64 j) ∧ w'.cell? ⟨V2.heap.size, 2, none⟩ = some (.int .u64 X1))) (by kernel_rfl) ?_ (fun hHeld => ?_)
          · exact ⟨c1, c2'⟩
          refine wpAnyH_take (i := 0) (oi := { dst := some 136, op := Op.move (Operand.tmp 7), type := 24, pos := "law.go:137", after := #[], guard := none }) (v := ?va0) rfl (by kernel_rfl) (by kernel_rfl) (by kernel_rfl) (fun _ _ _ h => h) (Or.inl ⟨by rfl, ?hya0⟩) hHeld ?_
          case hya0 => (intro w hSw; (try dsimp only at hSw); go_simp; (try with_reducible rfl))
          try simp only [Act.put, List.setIfInBounds_toArray, List.set_cons_zero, List.set_cons_succ]
          refine wpAnyH_take (i := 1) (oi := { dst := some 137, op := Op.fieldAddr 39 (Operand.tmp 10) 1, type := 0, pos := "law.go:137", after := #[], guard := none }) (v := ?va1) rfl (by kernel_rfl) (by kernel_rfl) (by kernel_rfl) (fun _ _ _ h => h) (Or.inl ⟨by rfl, ?hya1⟩) hHeld ?_
          case hya1 => (intro w hSw; (try dsimp only at hSw); go_simp; (try with_reducible rfl))
          try simp only [Act.put, List.setIfInBounds_toArray, List.set_cons_zero, List.set_cons_succ]
          refine wpAnyH_take (i := 2) (oi := { dst := some 138, op := Op.load 3 (Operand.tmp 137), type := 3, pos := "law.go:137", after := #[{ on := 1, ground := Ground.data }], guard := none }) (v := ?va2) rfl (by kernel_rfl) (by kernel_rfl) (by kernel_rfl) (fun _ _ _ h => h) (Or.inl ⟨by rfl, ?hya2⟩) hHeld ?_
          case hya2 => (intro w hSw; (try dsimp only at hSw); go_simp; (try with_reducible rfl))
          try simp only [Act.put, List.setIfInBounds_toArray, List.set_cons_zero, List.set_cons_succ]
          refine wpAnyH_take (i := 3) (oi := { dst := some 139, op := Op.indexAddr 24 (Operand.tmp 136) (Operand.tmp 138), type := 0, pos := "law.go:137", after := #[{ on := 0, ground := Ground.data }, { on := 2, ground := Ground.data }], guard := none }) (v := ?va3) rfl (by kernel_rfl) (by kernel_rfl) (by kernel_rfl) (fun _ _ _ h => h) (Or.inl ⟨by rfl, ?hya3⟩) hHeld ?_
          case hya3 => (intro w hSw; (try dsimp only at hSw); go_simp; (try with_reducible rfl))
          try simp only [Act.put, List.setIfInBounds_toArray, List.set_cons_zero, List.set_cons_succ]
          refine wpAnyH_take (i := 5) (oi := { dst := some 141, op := Op.fieldAddr 39 (Operand.tmp 10) 2, type := 0, pos := "law.go:137", after := #[], guard := none }) (v := ?va5) rfl (by kernel_rfl) (by kernel_rfl) (by kernel_rfl) (fun _ _ _ h => h) (Or.inl ⟨by rfl, ?hya5⟩) hHeld ?_
          case hya5 => (intro w hSw; (try dsimp only at hSw); go_simp; (try with_reducible rfl))
          try simp only [Act.put, List.setIfInBounds_toArray, List.set_cons_zero, List.set_cons_succ]
          refine wpAnyH_take (i := 6) (oi := { dst := some 142, op := Op.load 37 (Operand.tmp 141), type := 37, pos := "law.go:137", after := #[{ on := 5, ground := Ground.data }], guard := none }) (v := ?va6) rfl (by kernel_rfl) (by kernel_rfl) (by kernel_rfl) (fun _ _ _ h => h) (Or.inl ⟨by rfl, ?hya6⟩) hHeld ?_
          case hya6 => (intro w hSw; (try dsimp only at hSw); go_simp; (try with_reducible rfl))
          try simp only [Act.put, List.setIfInBounds_toArray, List.set_cons_zero, List.set_cons_succ]
          refine wpAnyH_ready (rs := [4]) (by kernel_rfl) (by simp) ?_
          refine AllReadyH.cons (o := { dst := some 140, op := Op.load 37 (Operand.tmp 139), type := 37, pos := "law.go:137", after := #[{ on := 3, ground := Ground.data }], guard := none }) rfl (fun K hK => ?_) AllReadyH.nil
          go_simp
          refine hK.out _ _ ?_ (fun hHeld => ?_)
          · exact ⟨c1, c2'⟩
          clear hK K
          try simp only [Act.put, List.setIfInBounds_toArray, List.set_cons_zero, List.set_cons_succ]
          refine wpAnyH_take (i := 7) (oi := { dst := some 143, op := Op.binOp BinOp.add 37 (Operand.tmp 140) (Operand.tmp 142) 37, type := 37, pos := "law.go:137", after := #[{ on := 4, ground := Ground.data }, { on := 6, ground := Ground.data }], guard := none }) (v := ?va7) rfl (by kernel_rfl) (by kernel_rfl) (by kernel_rfl) (fun _ _ _ h => h) (Or.inl ⟨by rfl, ?hya7⟩) hHeld ?_
          case hya7 => (intro w hSw; (try dsimp only at hSw); go_simp; (try with_reducible rfl))
          try simp only [Act.put, List.setIfInBounds_toArray, List.set_cons_zero, List.set_cons_succ]
          refine wpAnyH_take (i := 8) (oi := { dst := some 144, op := Op.indexAddr 24 (Operand.tmp 136) (Operand.tmp 138), type := 0, pos := "law.go:137", after := #[{ on := 0, ground := Ground.data }, { on := 2, ground := Ground.data }, { on := 0, ground := Ground.phase }, { on := 1, ground := Ground.phase }, { on := 2, ground := Ground.phase }, { on := 3, ground := Ground.phase }, { on := 4, ground := Ground.phase }, { on := 5, ground := Ground.phase }, { on := 6, ground := Ground.phase }, { on := 7, ground := Ground.phase }], guard := none }) (v := ?va8) rfl (by kernel_rfl) (by kernel_rfl) (by kernel_rfl) (fun _ _ _ h => h) (Or.inl ⟨by rfl, ?hya8⟩) hHeld ?_
          case hya8 => (intro w hSw; (try dsimp only at hSw); go_simp; (try with_reducible rfl))
          try simp only [Act.put, List.setIfInBounds_toArray, List.set_cons_zero, List.set_cons_succ]
          refine wpAnyH_ready (rs := [9]) (by kernel_rfl) (by simp) ?_
          refine AllReadyH.cons (o := { dst := none, op := Op.store 37 (Operand.tmp 144) (Operand.tmp 143), type := 0, pos := "law.go:137", after := #[{ on := 8, ground := Ground.data }, { on := 7, ground := Ground.data }, { on := 0, ground := Ground.phase }, { on := 1, ground := Ground.phase }, { on := 2, ground := Ground.phase }, { on := 3, ground := Ground.phase }, { on := 4, ground := Ground.phase }, { on := 5, ground := Ground.phase }, { on := 6, ground := Ground.phase }, { on := 7, ground := Ground.phase }], guard := none }) rfl (fun K hK => ?_) AllReadyH.nil
          go_simp
          have hE : Acc5 ((V2.setCell ⟨R, j, none⟩ (.int .u64 z)).alloc (.cells #[.int .i64 4, .int .i64 j, .int .u64 X1, .int .u64 0, .int .u64 vj] 39)).drew V2.heap.size 4 j X1 0 vj := by
            have h := Acc5.new (V2.setCell ⟨R, j, none⟩ (.int .u64 z)) 4 j X1 0 vj
            rw [show (V2.setCell ⟨R, j, none⟩ (.int .u64 z)).heap.size = V2.heap.size by simp [World.setCell]] at h
            exact h
          obtain ⟨_, e1, e2, _⟩ := hE.cells
          refine hK.out _ _ ?_ (fun hHeld => ?_)
          · exact ⟨e1, e2⟩
          clear hK K
          try simp only [Act.put, List.setIfInBounds_toArray, List.set_cons_zero, List.set_cons_succ]
          refine wpAnyH_done (by kernel_rfl) ?_ _
          clear hHeld
          have HBr := Lib.hid ((HB2.out.put j z).below (below_new _ (.cells #[.int .i64 4, .int .i64 j, .int .u64 X1, .int .u64 0, .int .u64 vj] 39))).drew
          clear HB2 c0 c1 c2' c3 c4 rc1 rf1 e1 e2 hE
          go_wp2_with fail
          generalize (((V2.setCell ⟨R, j, none⟩ (.int .u64 z))).alloc (.cells #[.int .i64 4, .int .i64 j, .int .u64 X1, .int .u64 0, .int .u64 vj] 39)).drew = U0 at *
          refine (All_c HBr.out.hand.ar hn20).mono ?_
          rintro e U1 ⟨rfl, hrow, hV⟩
          have HBs := Lib.hid (HBr.out.below hV)
          have HWs := Lib.hid hrow.words
          clear hrow hV HBr
          clear h0
          go_wp2_with fail
          refine (Same_c _ _ n n n (upd f j z) hn20 _ HWs.out HBs.out.row.words).mono ?_
          rintro e U2 ⟨rfl, hV⟩
          have HBt := Lib.hid (HBs.out.below hV)
          clear hV HBs HWs
          go_wp2_with fail
          go_roundw
          case rel => exact ⟨k + 1, by go_num, by omega, Lib.hid ⟨upd f j z, _, _, _, _, _, HBt.out, HU.out⟩⟩
          case measure => simp [intOf]; omega
        · obtain ⟨v, hh⟩ := last_no4 HB1.out.hand hu I hI X1
          have HH := Lib.hid hh
          clear hh
          have HU := Lib.hid hu
          clear hu hI hx hy
          go_wp2_with fail
          refine HH.out.mono ?_
          rintro e V2 ⟨rfl, hF, hs⟩
          have HB2 := Lib.hid (HB1.out.act hs hF)
          clear hF hs HB1 HA1 HH a0 a1 a2' a3
          obtain ⟨h0, _, h5, h6, h7, h8, h9, _⟩ := HB2.out.hand.cells
          have rc := HB2.out.row.cell (j := 0) (by omega)
          have rf := HB2.out.row.frozen 0
          have hRl : R < V2.heap.size := HB2.out.row.lt
          have hRn : R ≠ V2.heap.size := by omega
          have hHl : H < V2.heap.size := HB2.out.hand.lt
          have hHn : H ≠ V2.heap.size := by omega
          have hHR : H ≠ R := HB2.out.rH.symm
          generalize f 0 = v0 at rc
          go_wp2_with fail
          have HBr := Lib.hid (HB2.out.below (below_new _ (.cells #[.int .i64 0, .int .i64 0, .int .u64 0, .int .u64 0, .int .u64 0] 39)))
          generalize V2.alloc (.cells #[.int .i64 0, .int .i64 0, .int .u64 0, .int .u64 0, .int .u64 0] 39) = U0 at *
          refine (All_c HBr.out.hand.ar hn20).mono ?_
          rintro e U1 ⟨rfl, hrow, hV⟩
          have HBs := Lib.hid (HBr.out.below hV)
          have HWs := Lib.hid hrow.words
          clear hrow hV HBr rc rf
          clear h0
          go_wp2_with fail
          refine (Same_c _ _ n n n (f) hn20 _ HWs.out HBs.out.row.words).mono ?_
          rintro e U2 ⟨rfl, hV⟩
          have HBt := Lib.hid (HBs.out.below hV)
          clear hV HBs HWs
          go_wp2_with fail
          go_roundw
          case rel => exact ⟨k + 1, by go_num, by omega, Lib.hid ⟨f, _, _, _, _, _, HBt.out, HU.out⟩⟩
          case measure => simp [intOf]; omega
      have k1 : (K == 1) = false := by rw [beq_eq_false_iff_ne]; exact e1
      have k2 : (K == 2) = false := by rw [beq_eq_false_iff_ne]; exact e2
      have k3 : (K == 3) = false := by rw [beq_eq_false_iff_ne]; exact e3
      have k4 : (K == 4) = false := by rw [beq_eq_false_iff_ne]; exact e4
      clear e1 e2 e3 e4
      have HH := Lib.hid (hClear_c HB0.out.hand)
      have HU := Lib.hid hu
      go_wp2_with fail
      refine HH.out.mono ?_
      rintro e V1 ⟨rfl, hF, hs⟩
      have HB1 := Lib.hid (HB0.out.act hs hF)
      have HA1 := Lib.hid (HA0.out.other (hs.block _ (lt_of_cell HA0.out.1) HN.out))
      clear hF hs HB0 HA0 HH HN a0 a1 a2' a3 hu hx hy
      obtain ⟨a0, a1, a2', a3⟩ := HA1.out
      obtain ⟨h0, _, h5, h6, h7, h8, h9, _⟩ := HB1.out.hand.cells
      have rc := HB1.out.row.cell (j := 0) (by omega)
      have rf := HB1.out.row.frozen 0
      have hRl : R < V1.heap.size := HB1.out.row.lt
      have hRn : R ≠ V1.heap.size := by omega
      have hHl : H < V1.heap.size := HB1.out.hand.lt
      have hHn : H ≠ V1.heap.size := by omega
      have hHR : H ≠ R := HB1.out.rH.symm
      generalize f 0 = v0 at rc
      go_wp2_with fail
      have HBr := Lib.hid (HB1.out.below (below_new _ (.cells #[.int .i64 0, .int .i64 0, .int .u64 0, .int .u64 0, .int .u64 0] 39)))
      generalize V1.alloc (.cells #[.int .i64 0, .int .i64 0, .int .u64 0, .int .u64 0, .int .u64 0] 39) = U0 at *
      refine (All_c HBr.out.hand.ar hn20).mono ?_
      rintro e U1 ⟨rfl, hrow, hV⟩
      have HBs := Lib.hid (HBr.out.below hV)
      have HWs := Lib.hid hrow.words
      clear hrow hV HBr rc rf
      clear h0
      go_wp2_with fail
      refine (Same_c _ _ n n n (f) hn20 _ HWs.out HBs.out.row.words).mono ?_
      rintro e U2 ⟨rfl, hV⟩
      have HBt := Lib.hid (HBs.out.below hV)
      clear hV HBs HWs
      go_wp2_with fail
      go_roundw
      case rel => exact ⟨k + 1, by go_num, by omega, Lib.hid ⟨f, _, _, _, _, _, HBt.out, HU.out⟩⟩
      case measure => simp [intOf]; omega
    · obtain rfl : k = m := by omega
      have HO := Lib.hid hB.old
      clear hB hu HI HG2
      go_wp2_with fail
      go_ret
      exact ⟨rfl, HO.out⟩
theorem last_any (a b c d : Int) (a2 : Option Addr) (m c2 : Nat) (g : Nat → ActN) (w : World) (hS : SpansAt w) (hG2 : GivenActs w a2 m g) :
    Calls Tryd.prog 5 #[.agg #[.int .i64 a, .int .i64 b, .int .i64 c, .int .i64 d], .slice a2 m c2] w fun e w' => e = .returned (.bool true) ∧ Below w.heap.size w w' := by
  by_cases hr : Right a b c d
  · by_cases hm : grt a b c d ∨ 60 < m
    · exact last_out a b c d hr a2 m c2 hG2.1 hm w hS
    · exact last_right a b c d (fun h => hm (.inl h)) hr a2 m c2 g (by omega) w hS hG2
  · exact last_wrong a b c d hr a2 m c2 hG2.1 w hS
end Go.Proofs.YtoojiaaooccknaaDoor
