/- GateKeeps answers true. -/
import Derived.Test.YtpieobegcaeopaaDoorGateKeepsA
import Derived.Test.YtpieobegcaeopaaDoorBytes
import Derived.Deep.CutRange
namespace Go.Proofs.YtpieobegcaeopaaDoor
open Go Go.RowKit
set_option maxRecDepth 100000
attribute [local go_sem ↓] Go.wp_at_zero Go.wp_at_succ

set_option maxHeartbeats 12800000 in
theorem keeps_any (nb : Nat) (hnb : nb < 256) (v0 : Option Addr) (n0 c0 : Nat) (pk : Nat → Nat) (w : World) (hS : SpansAt w) (hG : GivenB w v0 n0 pk) :
    Calls Tryd.prog 3 #[.int .u8 (nb : Int), .slice v0 n0 c0] w fun e w' => e = .returned (.bool true) ∧ Below w.heap.size w w' := by
  have HA := Lib.hid (awake_c w hS)
  have HS := Lib.hid hS; have HBY := Lib.hid hG
  clear hS hG
  obtain ⟨k, hk⟩ : ∃ k : Nat, k = 1 + nb % 5 := ⟨_, rfl⟩
  have hk5 : 1 ≤ k ∧ k ≤ 5 := by omega
  have hkv : (1 : Int) + (nb : Int) % 5 = (k : Int) := by omega
  have HN := Lib.hid (fun W (h : SpansAt W) => New_yes 2 k 1 0 (rightK hk5) W h)
  clear hk
  go_enter Tryd.func3, Tryd.ntmps3
  go_wp2_with fail
  refine HA.out.mono ?_
  rintro e W0 ⟨rfl, hb0⟩
  have HB0 := Lib.hid hb0
  clear hb0 HA
  go_wp2_with fail
  refine (HN.out _ (HS.out.below HB0.out)).mono ?_
  rintro e W1 ⟨n, hn, H, A, G, rfl, hF, hb, l1, l2, l3⟩
  obtain rfl : n = 11 + 2 * k := by omega
  have hsz := HB0.out.size
  have HB1 := Lib.hid (belowOn HB0.out hb)
  have HF1 : Hid (HAt W1 H A G (CK k) ⟨fstV 2 k 1 0, 0, 0, 0, 0, 0⟩) := Lib.hid hF
  have lH : w.heap.size ≤ H := by omega
  have lG : w.heap.size ≤ G := by omega
  clear hF hb HN hn l1 l2 l3 hsz HB0 hkv
  by_cases h600 : (600 : Int) < (n0 : Int)
  · go_wp2_with fail
    go_ret
    exact ⟨rfl, HB1.out⟩
  have hmk := make_muts k (by omega)
  have HQ := Lib.hid (KpAt.first (k := k) HB1.out lH lG HF1.out)
  have HKS := Lib.hid (KpSt.first hk5)
  clear HB1 HF1 lH lG
  go_wp2_with fail
  generalize (⟨fstV 2 k 1 0, 0, 0, 0, 0, 0⟩ : Dy) = s0 at *
  generalize W1.alloc (.cells (madeCells zM (k * 13)) 37) = W2 at *
  generalize W1.heap.size = R at *
  clear hmk
  go_loopw [9, 10] (fun vc vi wr => ∃ (cl : Bool) (i : Nat) (ln kd : Nat → Int) (s : Dy), vc = .bool cl ∧ vi = .int .i64 i ∧ i ≤ n0 ∧ Hid (KpAt w wr H A G R k ln kd s) ∧ Hid (KpSt k cl ln kd s)) (fun _ vi _ => n0 - (intOf vi).toNat)
  case atStart => exact ⟨false, 0, _, _, s0, rfl, rfl, by omega, HQ, HKS⟩
  case round =>
    clear HQ HKS
    obtain ⟨cl, i, ln, kd, s, rfl, rfl, hi, HQ, HKS⟩ := hrel
    by_cases hlt : i < n0
    · rcases HBY.out.2.1.below HQ.out.old with h0 | ⟨b, off, rfl, hbl, hcell⟩
      · omega
      have hp := hcell i hlt
      have hi0 : (0 : Int) ≤ (i : Int) := by omega
      have hin : (i : Int) < (n0 : Int) := by omega
      have hp6 := HBY.out.2.2 i
      clear hcell hbl
      generalize pk i = p at hp hp6
      obtain ⟨q, hq⟩ : ∃ q : Nat, q = p % (k + 1) := ⟨_, rfl⟩
      have hql : q ≤ k := by have := Nat.mod_lt p (show 0 < k + 1 by omega); omega
      have hqv : (p : Int) % ((k : Int) + 1) = (q : Int) := by subst hq; simp
      have hkz : ((k : Int) + 1 == 0) = false := by simp; omega
      clear hq
      by_cases hqk : q = k
      · have hqk1 : ((q : Int) == (k : Int)) = true := by simp; omega
        clear hql hqk
        cases cl
        · have hsu := HKS.out.1
          have HK2 := Lib.hid (HKS.out.turn true 1 rfl)
          have HST : Hid (∀ W, HAt W H A G (CK k) s → Calls Tryd.prog 7 #[.pointer (some ⟨H, 0, none⟩), .int .i64 1, .int .u64 1] W (HP W H A G (CK k) (Dy.act (CK k) s 2 1 1 0) (.tuple #[]))) := Lib.hid (fun W h => hStore_c (w := W) h hsu 1 1)
          generalize (Dy.act (CK k) s 2 1 1 0) = s' at *
          clear hsu HKS HBY
          go_wp2_with fail
          refine (HST.out _ HQ.out.hand).mono ?_
          rintro e V ⟨rfl, hF, hs⟩
          have HQ2 := Lib.hid (HQ.out.act hF hs)
          clear hF hs HQ HST
          go_wp2_with fail
          go_roundw
          case rel => exact ⟨true, i + 1, ln, kd, s', rfl, by go_num, by omega, HQ2, HK2⟩
          case measure => simp [intOf]; omega
        · have hsu := HKS.out.1
          have HK2 := Lib.hid (HKS.out.turn false 0 rfl)
          have HST : Hid (∀ W, HAt W H A G (CK k) s → Calls Tryd.prog 7 #[.pointer (some ⟨H, 0, none⟩), .int .i64 1, .int .u64 0] W (HP W H A G (CK k) (Dy.act (CK k) s 2 1 0 0) (.tuple #[]))) := Lib.hid (fun W h => hStore_c (w := W) h hsu 1 0)
          generalize (Dy.act (CK k) s 2 1 0 0) = s' at *
          clear hsu HKS HBY
          go_wp2_with fail
          refine (HST.out _ HQ.out.hand).mono ?_
          rintro e V ⟨rfl, hF, hs⟩
          have HQ2 := Lib.hid (HQ.out.act hF hs)
          clear hF hs HQ HST
          go_wp2_with fail
          go_roundw
          case rel => exact ⟨false, i + 1, ln, kd, s', rfl, by go_num, by omega, HQ2, HK2⟩
          case measure => simp [intOf]; omega
      have hqk1 : ((q : Int) == (k : Int)) = false := by simp; omega
      have hm : q < k := by omega
      clear hqk hql
      obtain ⟨ly, s', v, hg, h5, hvu, hso, hK, hin1, hin2, hkd⟩ := HKS.out.step hk5 hm
      have HK2 := Lib.hid hK
      have hsu := HKS.out.1
      obtain ⟨a0, a1, a2, a3, a4, a5, a6, a7, a8, a9, a10, a11, a12⟩ := HQ.out.row.cells hm
      dsimp only at a0 a1 a2 a3 a4 a5 a6 a7 a8 a9 a10 a11 a12
      generalize ln q = L at hg hin1 hin2 hkd a0
      generalize kd q = Q at hkd a1
      obtain ⟨lx, hlx⟩ : ∃ lx, goL1 (goL0 L) = lx := ⟨_, rfl⟩
      rw [hlx] at hg hin1 hin2
      obtain ⟨sy, hsy⟩ : ∃ sy, v % 4 = sy := ⟨_, rfl⟩
      unfold SaysOk at hso
      rw [hsy] at hso
      have HG : Hid (∀ W, SpansAt W → HAt W H A G (CK k) s → Calls Tryd.prog 9 #[.pointer (some ⟨H, 0, none⟩), .int .i64 (q : Int), (mL lx).v] W (HP W H A G (CK k) s' (.tuple #[(mL ly).v, .bool true]))) := Lib.hid (fun W k1 k2 => by
        have := gate_c (w := W) k2 hsu k1 (q : Int) (mL lx) (by dsimp only; omega)
        rw [hg] at this
        exact this)
      have HI : Hid (∀ W, SpansAt W → Calls Tryd.prog 13 #[.agg #[.int .i64 2, .int .i64 k, .int .i64 1, .int .i64 0], .int .i64 (q : Int)] W fun e w' => e = .returned (.int .i64 ((5 + q : Nat) : Int)) ∧ Below W.heap.size W w') := Lib.hid (fun W h => by
        have := In_c 2 k 1 0 q W h
        rw [inP_in (rightK hk5) q (by omega) (by omega), show (5 : Int) + (q : Int) = ((5 + q : Nat) : Int) by omega] at this
        exact this)
      have HLD : Hid (∀ W, HAt W H A G (CK k) s' → Calls Tryd.prog 12 #[.pointer (some ⟨A, 0, none⟩), .int .i64 ((5 + q : Nat) : Int)] W fun e w' => e = .returned (.int .u64 v) ∧ W = w') := Lib.hid (fun W h => by rw [← h5]; exact Load_in (HandAt.ar h) (5 + q) (by dsimp only; omega))
      have HSY : Hid (∀ W, Calls Tryd.prog 11 #[.int .u64 v] W fun e w' => e = .returned (.int .u64 sy) ∧ W = w') := Lib.hid (fun W => by have := Says_c v hvu W; rw [hsy] at this; exact this)
      generalize ((5 + q : Nat) : Int) = at5 at *
      have HBG := Lib.hid (Begin_c 11 0 0 0)
      have HIX : Hid (∀ W, Calls Tryd.prog 10 #[mutV lx 0 0 11 0 0 0 0 0 0 0 0 0] W fun e w' => e = .returned (.bool (insB lx)) ∧ Below W.heap.size W w') := Lib.hid (fun W => Inside_c lx 0 0 11 0 0 0 0 0 0 0 0 0 W)
      have HIY : Hid (∀ W, Calls Tryd.prog 10 #[mutV ly 0 0 11 0 0 0 0 0 0 0 0 0] W fun e w' => e = .returned (.bool (insB ly)) ∧ Below W.heap.size W w') := Lib.hid (fun W => Inside_c ly 0 0 11 0 0 0 0 0 0 0 0 0 W)
      generalize insB ly = iy at *
      generalize insB lx = ix at *
      have hx := Mut13.new wr L 0 0 Q 0 0 0 0 0 0 0 0 0
      have HQ0 := Lib.hid (HQ.out.below (below_new wr (.cells #[.int .i64 L, .int .i64 Q, .int .i64 0, .int .i64 0, .int .i64 0, .int .u64 0, .int .u64 0, .int .u64 0, .int .u64 0, .int .u64 0, .int .u64 0, .int .i64 0, .int .i64 0] 37)))
      have dX : wr.heap.size ≠ H ∧ wr.heap.size ≠ A ∧ wr.heap.size ≠ G ∧ wr.heap.size ≠ R ∧ w.heap.size ≤ wr.heap.size := by have i1 := HQ.out.hand.lt; have i2 := HQ.out.hand.ar.lt; have i3 := HQ.out.hand.ar.row.lt; have i4 := HQ.out.row.lt; have i5 := HQ.out.old.size; omega
      have HM0 := Lib.hid hx
      clear hx hK hg h5 hvu hsy hsu HKS HBY HQ
      go_upto_if 75 with fail
      rw [hqv]
      clear a0 a1 a2 a3 a4 a5 a6 a7 a8 a9 a10 a11 a12
      generalize wr.alloc (.cells #[.int .i64 L, .int .i64 Q, .int .i64 0, .int .i64 0, .int .i64 0, .int .u64 0, .int .u64 0, .int .u64 0, .int .u64 0, .int .u64 0, .int .u64 0, .int .i64 0, .int .i64 0] 37) = V at *
      generalize wr.heap.size = X at *
      go_cut [13] from 46 to 158 (fun vx wx => vx = .pointer (some ⟨X, 0, none⟩) ∧ Hid (KpAt w wx H A G R k ln kd s) ∧ Hid (MuAt wx X (mL (goL0 L))))
      case first =>
        by_cases hl : L = 0
        · subst hl
          obtain ⟨a0, a1, a2, a3, a4, a5, a6, a7, a8, a9, a10, a11, a12, af⟩ := HM0.out.cells
          go_wp2_with fail
          refine (HBG.out _).mono ?_
          rintro e V0 ⟨rfl, hb0⟩
          have HQ1 := Lib.hid (HQ0.out.below hb0)
          have HMa := Lib.hid (HM0.out.below hb0)
          clear hb0 HBG HM0 HQ0 a0 a1 a2 a3 a4 a5 a6 a7 a8 a9 a10 a11 a12 af
          have HQ2 := Lib.hid (HQ1.out.other (fun j => j = X) (Sav.put13 (S := fun j => j = X) (Sav.of (Below.refl _ V0)) (.inl rfl) 1 0 0 11 0 0 0 0 0 0 0 0 0) (fun e => dX.1 e.symm) (fun e => dX.2.1 e.symm) (fun e => dX.2.2.1 e.symm) (fun e => dX.2.2.2.1 e.symm) (fun j e => by have := dX.2.2.2.2; omega))
          have HM1 := Lib.hid (HMa.out.put 1 0 0 11 0 0 0 0 0 0 0 0 0)
          obtain ⟨b0, b1, b2, b3, b4, b5, b6, b7, b8, b9, b10, b11, b12, bf⟩ := HMa.out.cells
          clear HMa HQ1
          go_wp2_with fail
          go_meet
          case rel => exact ⟨rfl, HQ2, HM1⟩
        · have hl0 : (L == 0) = false := by simpa using hl
          have hg0 : goL0 L = L := if_neg hl
          rcases hkd with h | hkd
          · exact absurd h hl
          subst hkd
          obtain ⟨a0, a1, a2, a3, a4, a5, a6, a7, a8, a9, a10, a11, a12, af⟩ := HM0.out.cells
          go_wp2_with fail
          go_meet
          case rel => exact ⟨rfl, HQ0, by rw [hg0]; exact HM0⟩
      case rest =>
        clear HQ0 HM0 HBG
        obtain ⟨rfl, HQ1, HM1⟩ := hcut
        generalize goL0 L = L1 at *
        clear hkd
        obtain ⟨a0, a1, a2, a3, a4, a5, a6, a7, a8, a9, a10, a11, a12, af⟩ := HM1.out.cells
        go_upto_if 80 with fail
        clear a0 a1 a2 a3 a4 a5 a6 a7 a8 a9 a10 a11 a12 af
        go_cut [13] from 46 to 158 (fun vx wx => vx = .pointer (some ⟨X, 0, none⟩) ∧ Hid (KpAt w wx H A G R k ln kd s) ∧ Hid (MuAt wx X (mL lx)))
        case first =>
          obtain ⟨a0, a1, a2, a3, a4, a5, a6, a7, a8, a9, a10, a11, a12, af⟩ := HM1.out.cells
          by_cases hl : L1 = 24
          · subst hl
            obtain rfl : 90 = lx := hlx
            have HQ2 := Lib.hid (HQ1.out.other (fun j => j = X) (Sav.set (S := fun j => j = X) (Sav.of (Below.refl _ wc)) (p := ⟨X, 0, none⟩) (.inl rfl) (.int .i64 90)) (fun e => dX.1 e.symm) (fun e => dX.2.1 e.symm) (fun e => dX.2.2.1 e.symm) (fun e => dX.2.2.2.1 e.symm) (fun j e => by have := dX.2.2.2.2; omega))
            have HM2 := Lib.hid (HM1.out.setL 90)
            go_wp2_with fail
            go_meet
            case rel => exact ⟨rfl, HQ2, HM2⟩
          · have hl0 : (L1 == 24) = false := by simpa using hl
            have hg0 : L1 = lx := by rw [← hlx]; exact (if_neg hl).symm
            go_wp2_with fail
            go_meet
            case rel => exact ⟨rfl, HQ1, by rw [← hg0]; exact HM1⟩
        case rest =>
          clear HQ1 HM1 hlx
          obtain ⟨rfl, HQ1, HM1⟩ := hcut
          obtain ⟨a0, a1, a2, a3, a4, a5, a6, a7, a8, a9, a10, a11, a12, af⟩ := HM1.out.cells
          go_wp2_with fail
          clear a0 a1 a2 a3 a4 a5 a6 a7 a8 a9 a10 a11 a12 af
          refine (HG.out _ (HS.out.below HQ1.out.old) HQ1.out.hand).mono ?_
          rintro e V2 ⟨rfl, hF, hs⟩
          have hq := HQ1.out.act hF hs
          have hM := HM1.out.savH hs dX.1 dX.2.2.1
          have HQ2 := Lib.hid (hq.below (below_new V2 (.cells #[.int .i64 ly, .int .i64 11, .int .i64 0, .int .i64 0, .int .i64 0, .int .u64 0, .int .u64 0, .int .u64 0, .int .u64 0, .int .u64 0, .int .u64 0, .int .i64 0, .int .i64 0] 37)))
          have HM2 := Lib.hid (hM.below (below_new V2 (.cells #[.int .i64 ly, .int .i64 11, .int .i64 0, .int .i64 0, .int .i64 0, .int .u64 0, .int .u64 0, .int .u64 0, .int .u64 0, .int .u64 0, .int .u64 0, .int .i64 0, .int .i64 0] 37)))
          have HY2 : Hid (MuAt (V2.alloc (.cells #[.int .i64 ly, .int .i64 11, .int .i64 0, .int .i64 0, .int .i64 0, .int .u64 0, .int .u64 0, .int .u64 0, .int .u64 0, .int .u64 0, .int .u64 0, .int .i64 0, .int .i64 0] 37)) V2.heap.size (mL ly)) := Lib.hid (Mut13.new V2 ly 0 0 11 0 0 0 0 0 0 0 0 0)
          have dY : V2.heap.size ≠ R := by have := hq.row.lt; omega
          clear hF hs hq hM HQ1 HM1 HG
          go_upto_region 27 with fail
          generalize V2.alloc (.cells #[.int .i64 ly, .int .i64 11, .int .i64 0, .int .i64 0, .int .i64 0, .int .u64 0, .int .u64 0, .int .u64 0, .int .u64 0, .int .u64 0, .int .u64 0, .int .i64 0, .int .i64 0] 37) = V3 at *
          generalize V2.heap.size = Y at *
          go_cut [116] from 46 to 158 (fun vb wx => vb = .bool false ∧ Hid (KpAt w wx H A G R k ln kd s') ∧ Hid (MuAt wx Y (mL ly)))
          case first =>
            obtain ⟨a0, a1, a2, a3, a4, a5, a6, a7, a8, a9, a10, a11, a12, af⟩ := HM2.out.cells
            obtain ⟨c0, c1, c2, c3, c4, c5, c6, c7, c8, c9, c10, c11, c12, cf⟩ := HY2.out.cells
            cases cl
            · by_cases h5 : lx = 5
              · subst h5
                obtain rfl : iy = true := hin2 rfl rfl
                go_wp2_with fail
                refine (HIY.out _).mono ?_
                rintro e W5 ⟨rfl, hb5⟩
                have HQ2 := Lib.hid (HQ2.out.below hb5)
                have HM2 := Lib.hid (HM2.out.below hb5)
                have HY2 := Lib.hid (HY2.out.below hb5)
                clear hb5 HIY a0 a1 a2 a3 a4 a5 a6 a7 a8 a9 a10 a11 a12 af c0 c1 c2 c3 c4 c5 c6 c7 c8 c9 c10 c11 c12 cf
                obtain ⟨a0, a1, a2, a3, a4, a5, a6, a7, a8, a9, a10, a11, a12, af⟩ := HM2.out.cells
                obtain ⟨c0, c1, c2, c3, c4, c5, c6, c7, c8, c9, c10, c11, c12, cf⟩ := HY2.out.cells
                go_wp2_with fail
                go_meet
                case rel => exact ⟨rfl, HQ2, HY2⟩
              · have h50 : (lx == 5) = false := by simpa using h5
                go_wp2_with fail
                go_meet
                case rel => exact ⟨rfl, HQ2, HY2⟩
            · cases ix
              · obtain rfl : iy = false := hin1 rfl rfl
                go_wp2_with fail
                refine (HIX.out _).mono ?_
                rintro e W5 ⟨rfl, hb5⟩
                have HQ2 := Lib.hid (HQ2.out.below hb5)
                have HM2 := Lib.hid (HM2.out.below hb5)
                have HY2 := Lib.hid (HY2.out.below hb5)
                clear hb5 HIX a0 a1 a2 a3 a4 a5 a6 a7 a8 a9 a10 a11 a12 af c0 c1 c2 c3 c4 c5 c6 c7 c8 c9 c10 c11 c12 cf
                obtain ⟨a0, a1, a2, a3, a4, a5, a6, a7, a8, a9, a10, a11, a12, af⟩ := HM2.out.cells
                obtain ⟨c0, c1, c2, c3, c4, c5, c6, c7, c8, c9, c10, c11, c12, cf⟩ := HY2.out.cells
                go_wp2_with fail
                refine (HIY.out _).mono ?_
                rintro e W6 ⟨rfl, hb6⟩
                have HQ2 := Lib.hid (HQ2.out.below hb6)
                have HM2 := Lib.hid (HM2.out.below hb6)
                have HY2 := Lib.hid (HY2.out.below hb6)
                clear hb6 HIY a0 a1 a2 a3 a4 a5 a6 a7 a8 a9 a10 a11 a12 af c0 c1 c2 c3 c4 c5 c6 c7 c8 c9 c10 c11 c12 cf
                obtain ⟨a0, a1, a2, a3, a4, a5, a6, a7, a8, a9, a10, a11, a12, af⟩ := HM2.out.cells
                obtain ⟨c0, c1, c2, c3, c4, c5, c6, c7, c8, c9, c10, c11, c12, cf⟩ := HY2.out.cells
                go_wp2_with fail
                go_meet
                case rel => exact ⟨rfl, HQ2, HY2⟩
              · go_wp2_with fail
                refine (HIX.out _).mono ?_
                rintro e W5 ⟨rfl, hb5⟩
                have HQ2 := Lib.hid (HQ2.out.below hb5)
                have HM2 := Lib.hid (HM2.out.below hb5)
                have HY2 := Lib.hid (HY2.out.below hb5)
                clear hb5 HIX a0 a1 a2 a3 a4 a5 a6 a7 a8 a9 a10 a11 a12 af c0 c1 c2 c3 c4 c5 c6 c7 c8 c9 c10 c11 c12 cf
                obtain ⟨a0, a1, a2, a3, a4, a5, a6, a7, a8, a9, a10, a11, a12, af⟩ := HM2.out.cells
                obtain ⟨c0, c1, c2, c3, c4, c5, c6, c7, c8, c9, c10, c11, c12, cf⟩ := HY2.out.cells
                go_wp2_with fail
                go_meet
                case rel => exact ⟨rfl, HQ2, HY2⟩
          case rest =>
            clear HQ2 HM2 HY2 HIX HIY hin1 hin2
            obtain ⟨rfl, HQ2, HY2⟩ := hcut
            obtain ⟨c0, c1, c2, c3, c4, c5, c6, c7, c8, c9, c10, c11, c12, cf⟩ := HY2.out.cells
            obtain ⟨r0, r1, r2, r3, r4, r5, r6, r7, r8, r9, r10, r11, r12⟩ := HQ2.out.row.cells hm
            have rf := HQ2.out.row.frozen
            have HQ3 := Lib.hid (HQ2.out.put q ly 11).drew
            have HY3 := Lib.hid (mu_putM (m := mL ly) HY2.out dY (q * 13) (mS ly 11))
            clear HQ2 HY2 dX
            go_wp2_with fail
            clear c0 c1 c2 c3 c4 c5 c6 c7 c8 c9 c10 c11 c12 cf rf r0 r1 r2 r3 r4 r5 r6 r7 r8 r9 r10 r11 r12
            refine wp_region_held_drew (S := (fun w' => w'.cell? ⟨H, 0, none⟩ = some (.pointer (some ⟨A, 0, none⟩)) ∧ w'.cell? ⟨H, 1, none⟩ = some (.int .i64 2) ∧ w'.cell? ⟨H, 2, none⟩ = some (.int .i64 k) ∧ w'.cell? ⟨H, 3, none⟩ = some (.int .i64 1) ∧ w'.cell? ⟨H, 4, none⟩ = some (.int .i64 0))) (by kernel_rfl) ?_ (fun hHeld => ?_)
            · exact ⟨HQ3.out.hand.cells.1, HQ3.out.hand.cells.2.1.1, HQ3.out.hand.cells.2.1.2.1, HQ3.out.hand.cells.2.1.2.2.1, HQ3.out.hand.cells.2.1.2.2.2⟩
            refine wpAnyH_take (i := 0) (oi := { dst := some 121, op := Op.move (Operand.tmp 6), type := 24, pos := "law.go:93", after := #[], guard := none }) (v := ?vw0) rfl (by kernel_rfl) (by kernel_rfl) (by kernel_rfl) (fun _ _ _ h => h) (Or.inl ⟨by rfl, ?hyw0⟩) hHeld ?_
            case hyw0 => (intro w hSw; (try dsimp only at hSw); go_simp; (try with_reducible rfl))
            try simp only [Act.put, List.setIfInBounds_toArray, List.set_cons_zero, List.set_cons_succ]
            refine wpAnyH_take (i := 1) (oi := { dst := some 122, op := Op.nilCheck (Operand.tmp 121), type := 0, pos := "law.go:93", after := #[{ on := 0, ground := Ground.data }], guard := none }) (v := ?vw1) rfl (by kernel_rfl) (by kernel_rfl) (by kernel_rfl) (fun _ _ _ h => h) (Or.inl ⟨by rfl, ?hyw1⟩) hHeld ?_
            case hyw1 => (intro w hSw; (try dsimp only at hSw); go_simp; (try with_reducible rfl))
            try simp only [Act.put, List.setIfInBounds_toArray, List.set_cons_zero, List.set_cons_succ]
            refine wpAnyH_take (i := 2) (oi := { dst := some 123, op := Op.fieldAddr 49 (Operand.tmp 122) 0, type := 0, pos := "law.go:93", after := #[{ on := 1, ground := Ground.data }], guard := none }) (v := ?vw2) rfl (by kernel_rfl) (by kernel_rfl) (by kernel_rfl) (fun _ _ _ h => h) (Or.inl ⟨by rfl, ?hyw2⟩) hHeld ?_
            case hyw2 => (intro w hSw; (try dsimp only at hSw); go_simp; (try with_reducible rfl))
            try simp only [Act.put, List.setIfInBounds_toArray, List.set_cons_zero, List.set_cons_succ]
            refine wpAnyH_take (i := 3) (oi := { dst := some 124, op := Op.load 43 (Operand.tmp 123), type := 43, pos := "law.go:93", after := #[{ on := 2, ground := Ground.data }], guard := none }) (v := ?vw3) rfl (by kernel_rfl) (by kernel_rfl) (by kernel_rfl) (fun _ _ _ h => h) (Or.inl ⟨by rfl, ?hyw3⟩) hHeld ?_
            case hyw3 => (intro w hSw; (try dsimp only at hSw); go_simp; (try with_reducible rfl))
            try simp only [Act.put, List.setIfInBounds_toArray, List.set_cons_zero, List.set_cons_succ]
            refine wpAnyH_take (i := 4) (oi := { dst := some 125, op := Op.move (Operand.tmp 6), type := 24, pos := "law.go:93", after := #[], guard := none }) (v := ?vw4) rfl (by kernel_rfl) (by kernel_rfl) (by kernel_rfl) (fun _ _ _ h => h) (Or.inl ⟨by rfl, ?hyw4⟩) hHeld ?_
            case hyw4 => (intro w hSw; (try dsimp only at hSw); go_simp; (try with_reducible rfl))
            try simp only [Act.put, List.setIfInBounds_toArray, List.set_cons_zero, List.set_cons_succ]
            refine wpAnyH_take (i := 5) (oi := { dst := some 126, op := Op.nilCheck (Operand.tmp 125), type := 0, pos := "law.go:93", after := #[{ on := 4, ground := Ground.data }], guard := none }) (v := ?vw5) rfl (by kernel_rfl) (by kernel_rfl) (by kernel_rfl) (fun _ _ _ h => h) (Or.inl ⟨by rfl, ?hyw5⟩) hHeld ?_
            case hyw5 => (intro w hSw; (try dsimp only at hSw); go_simp; (try with_reducible rfl))
            try simp only [Act.put, List.setIfInBounds_toArray, List.set_cons_zero, List.set_cons_succ]
            refine wpAnyH_take (i := 6) (oi := { dst := some 127, op := Op.fieldAddr 49 (Operand.tmp 126) 1, type := 0, pos := "law.go:93", after := #[{ on := 5, ground := Ground.data }], guard := none }) (v := ?vw6) rfl (by kernel_rfl) (by kernel_rfl) (by kernel_rfl) (fun _ _ _ h => h) (Or.inl ⟨by rfl, ?hyw6⟩) hHeld ?_
            case hyw6 => (intro w hSw; (try dsimp only at hSw); go_simp; (try with_reducible rfl))
            try simp only [Act.put, List.setIfInBounds_toArray, List.set_cons_zero, List.set_cons_succ]
            refine wpAnyH_take (i := 7) (oi := { dst := some 128, op := Op.load 45 (Operand.tmp 127), type := 45, pos := "law.go:93", after := #[{ on := 6, ground := Ground.data }], guard := none }) (v := ?vw7) rfl (by kernel_rfl) (by kernel_rfl) (by kernel_rfl) (fun _ _ _ h => h) (Or.inl ⟨by rfl, ?hyw7⟩) hHeld ?_
            case hyw7 => (intro w hSw; (try dsimp only at hSw); go_simp; (try with_reducible rfl))
            try simp only [Act.put, List.setIfInBounds_toArray, List.set_cons_zero, List.set_cons_succ]
            refine wpAnyH_take (i := 8) (oi := { dst := some 129, op := Op.move (Operand.tmp 11), type := 3, pos := "law.go:93", after := #[], guard := none }) (v := ?vw8) rfl (by kernel_rfl) (by kernel_rfl) (by kernel_rfl) (fun _ _ _ h => h) (Or.inl ⟨by rfl, ?hyw8⟩) hHeld ?_
            case hyw8 => (intro w hSw; (try dsimp only at hSw); go_simp; (try with_reducible rfl))
            try simp only [Act.put, List.setIfInBounds_toArray, List.set_cons_zero, List.set_cons_succ]
            refine wpAnyH_ready (rs := [9]) (by kernel_rfl) (by simp) ?_
            refine AllReadyH.cons (o := { dst := some 130, op := Op.call { callee := Callee.value (Operand.func 13), args := #[Operand.tmp 128, Operand.tmp 129], argTypes := #[45, 3] }, type := 3, pos := "law.go:93", after := #[{ on := 7, ground := Ground.data }, { on := 8, ground := Ground.data }], guard := none }) rfl (fun K hK => ?_) AllReadyH.nil
            go_simp
            refine (HI.out _ (HS.out.below HQ3.out.old)).mono ?_
            rintro e V8 ⟨rfl, hb8⟩
            have HQ5 := Lib.hid (HQ3.out.below hb8)
            have HY5 := Lib.hid (HY3.out.below hb8)
            clear hb8 HQ3 HY3
            refine hK.out _ _ ?_ (fun hHeld => ?_)
            · exact ⟨HQ5.out.hand.cells.1, HQ5.out.hand.cells.2.1.1, HQ5.out.hand.cells.2.1.2.1, HQ5.out.hand.cells.2.1.2.2.1, HQ5.out.hand.cells.2.1.2.2.2⟩
            clear hK K
            try simp only [Act.put, List.setIfInBounds_toArray, List.set_cons_zero, List.set_cons_succ]
            refine wpAnyH_ready (rs := [10]) (by kernel_rfl) (by simp) ?_
            refine AllReadyH.cons (o := { dst := some 131, op := Op.call { callee := Callee.value (Operand.func 12), args := #[Operand.tmp 124, Operand.tmp 130], argTypes := #[43, 3] }, type := 32, pos := "law.go:93", after := #[{ on := 3, ground := Ground.data }, { on := 9, ground := Ground.data }, { on := 9, ground := Ground.chain }], guard := none }) rfl (fun K hK => ?_) AllReadyH.nil
            go_simp
            refine (HLD.out _ HQ5.out.hand).mono ?_
            rintro e V9 ⟨rfl, rfl⟩
            refine hK.out _ _ ?_ (fun hHeld => ?_)
            · exact ⟨HQ5.out.hand.cells.1, HQ5.out.hand.cells.2.1.1, HQ5.out.hand.cells.2.1.2.1, HQ5.out.hand.cells.2.1.2.2.1, HQ5.out.hand.cells.2.1.2.2.2⟩
            clear hK K
            try simp only [Act.put, List.setIfInBounds_toArray, List.set_cons_zero, List.set_cons_succ]
            refine wpAnyH_ready (rs := [11]) (by kernel_rfl) (by simp) ?_
            refine AllReadyH.cons (o := { dst := some 132, op := Op.call { callee := Callee.value (Operand.func 11), args := #[Operand.tmp 131], argTypes := #[32] }, type := 32, pos := "law.go:93", after := #[{ on := 10, ground := Ground.data }, { on := 10, ground := Ground.chain }], guard := none }) rfl (fun K hK => ?_) AllReadyH.nil
            go_simp
            refine (HSY.out _).mono ?_
            rintro e V10 ⟨rfl, rfl⟩
            refine hK.out _ _ ?_ (fun hHeld => ?_)
            · exact ⟨HQ5.out.hand.cells.1, HQ5.out.hand.cells.2.1.1, HQ5.out.hand.cells.2.1.2.1, HQ5.out.hand.cells.2.1.2.2.1, HQ5.out.hand.cells.2.1.2.2.2⟩
            clear hK K
            try simp only [Act.put, List.setIfInBounds_toArray, List.set_cons_zero, List.set_cons_succ]
            refine wpAnyH_take (i := 12) (oi := { dst := some 16, op := Op.assign (Operand.tmp 132), type := 32, pos := "law.go:93", after := #[{ on := 11, ground := Ground.data }, { on := 11, ground := Ground.chain }, { on := 0, ground := Ground.phase }, { on := 1, ground := Ground.phase }, { on := 2, ground := Ground.phase }, { on := 3, ground := Ground.phase }, { on := 4, ground := Ground.phase }, { on := 5, ground := Ground.phase }, { on := 6, ground := Ground.phase }, { on := 7, ground := Ground.phase }, { on := 8, ground := Ground.phase }, { on := 9, ground := Ground.phase }, { on := 10, ground := Ground.phase }, { on := 11, ground := Ground.phase }], guard := none }) (v := ?vw12) rfl (by kernel_rfl) (by kernel_rfl) (by kernel_rfl) (fun _ _ _ h => h) (Or.inl ⟨by rfl, ?hyw12⟩) hHeld ?_
            case hyw12 => (intro w hSw; (try dsimp only at hSw); go_simp; (try with_reducible rfl))
            try simp only [Act.put, List.setIfInBounds_toArray, List.set_cons_zero, List.set_cons_succ]
            refine wpAnyH_done (by kernel_rfl) ?_ _
            clear hHeld
            clear HSY HLD HI
            rcases hso with ⟨rfl, rfl⟩ | ⟨rfl | rfl, rfl⟩ | ⟨rfl, rfl⟩ | ⟨rfl | rfl, rfl⟩ | ⟨rfl, rfl⟩
            · obtain ⟨c0, c1, c2, c3, c4, c5, c6, c7, c8, c9, c10, c11, c12, cf⟩ := HY5.out.cells
              go_wp2_with fail
              go_roundw
              case rel => exact ⟨cl, i + 1, _, _, s', rfl, by go_num, by omega, HQ5, HK2⟩
              case measure => simp [intOf]; omega
            · obtain ⟨c0, c1, c2, c3, c4, c5, c6, c7, c8, c9, c10, c11, c12, cf⟩ := HY5.out.cells
              go_wp2_with fail
              go_roundw
              case rel => exact ⟨cl, i + 1, _, _, s', rfl, by go_num, by omega, HQ5, HK2⟩
              case measure => simp [intOf]; omega
            · obtain ⟨c0, c1, c2, c3, c4, c5, c6, c7, c8, c9, c10, c11, c12, cf⟩ := HY5.out.cells
              go_wp2_with fail
              go_roundw
              case rel => exact ⟨cl, i + 1, _, _, s', rfl, by go_num, by omega, HQ5, HK2⟩
              case measure => simp [intOf]; omega
            · obtain ⟨c0, c1, c2, c3, c4, c5, c6, c7, c8, c9, c10, c11, c12, cf⟩ := HY5.out.cells
              go_wp2_with fail
              go_roundw
              case rel => exact ⟨cl, i + 1, _, _, s', rfl, by go_num, by omega, HQ5, HK2⟩
              case measure => simp [intOf]; omega
            · obtain ⟨c0, c1, c2, c3, c4, c5, c6, c7, c8, c9, c10, c11, c12, cf⟩ := HY5.out.cells
              go_wp2_with fail
              go_roundw
              case rel => exact ⟨cl, i + 1, _, _, s', rfl, by go_num, by omega, HQ5, HK2⟩
              case measure => simp [intOf]; omega
            · obtain ⟨c0, c1, c2, c3, c4, c5, c6, c7, c8, c9, c10, c11, c12, cf⟩ := HY5.out.cells
              go_wp2_with fail
              go_roundw
              case rel => exact ⟨cl, i + 1, _, _, s', rfl, by go_num, by omega, HQ5, HK2⟩
              case measure => simp [intOf]; omega
            · obtain ⟨c0, c1, c2, c3, c4, c5, c6, c7, c8, c9, c10, c11, c12, cf⟩ := HY5.out.cells
              go_wp2_with fail
              go_roundw
              case rel => exact ⟨cl, i + 1, _, _, s', rfl, by go_num, by omega, HQ5, HK2⟩
              case measure => simp [intOf]; omega
    obtain rfl : n0 = i := by omega
    go_wp2_with fail
    go_ret
    exact ⟨rfl, HQ.out.old⟩
end Go.Proofs.YtpieobegcaeopaaDoor
