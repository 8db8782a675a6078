/- BarKeeps answers true: nobody is inside behind a shut bar. -/
import Derived.Test.YtjmbahdlgnobaaaDoorBarKeepsC
import Derived.Test.YtjmbahdlgnobaaaDoorBarKeepsM
import Derived.Test.YtjmbahdlgnobaaaDoorM4
import Derived.Test.YtjmbahdlgnobaaaDoorBarKeepsA
import Derived.Test.YtjmbahdlgnobaaaDoorShutPure
import Derived.Test.YtjmbahdlgnobaaaDoorBytes
import Derived.Test.YtjmbahdlgnobaaaDoorHandNew
import Derived.Deep.CutRange
import Derived.Deep.CutBlock
namespace Go.Proofs.YtjmbahdlgnobaaaDoor
open Go Go.RowKit
set_option maxRecDepth 100000
attribute [local go_sem ↓] Go.wp_at_zero Go.wp_at_succ

set_option maxHeartbeats 12800000 in
theorem keeps_any (nb : Nat) (hnb : nb < 256) (v0 : Option Addr) (n0 c0 : Nat) (pk : Nat → Nat) (st : Nat) (hst6 : st < 256) (w : World) (hS : SpansAt w) (hG : GivenB w v0 n0 pk) :
    Calls Tryd.prog 4 #[.int .u8 (nb : Int), .slice v0 n0 c0, .int .u8 (st : Int)] w fun e w' => e = .returned (.bool true) ∧ Below w.heap.size w w' := by
  have HA := Lib.hid (awake17_c w hS)
  have HS := Lib.hid hS; have HBY := Lib.hid hG
  clear hS hG
  obtain ⟨k, hk⟩ : ∃ k : Nat, k = 1 + nb % 5 := ⟨_, rfl⟩
  have hk5 : 1 ≤ k ∧ k ≤ 5 := by omega
  have hkv : (1 : Int) + (nb : Int) % 5 = (k : Int) := by omega
  have HN := Lib.hid (fun W (h : SpansAt W) => New_yes 2 k 1 0 (rightK hk5) W h)
  clear hk
  go_enter Tryd.func4, Tryd.ntmps4
  go_wp2_with fail
  refine HA.out.mono ?_
  rintro e W0 ⟨rfl, hb0⟩
  have HB0 := Lib.hid hb0
  clear hb0 HA
  go_wp2_with fail
  refine (HN.out _ (HS.out.below HB0.out)).mono ?_
  rintro e W1 ⟨n, hn, H, A, G, rfl, hF, hb, l1, l2, l3⟩
  obtain rfl : n = 11 + 2 * k := by omega
  have hsz := HB0.out.size
  have HB1 := Lib.hid (belowOn HB0.out hb)
  have HF1 : Hid (HAt W1 H A G (CK k) ⟨fstV 2 k 1 0, 0, 0, 0, 0, 0⟩) := Lib.hid hF
  have lH : w.heap.size ≤ H := by omega
  have lG : w.heap.size ≤ G := by omega
  clear hF hb HN hn l1 l2 l3 hsz HB0 hkv
  by_cases h800 : (800 : Int) < (n0 : Int)
  · go_wp2_with fail
    go_ret
    exact ⟨rfl, HB1.out⟩
  have hmk := make_muts k (by omega)
  have hmk2 := make_ints7 k (by omega)
  have HQ : Hid (BkW w ((((W1.alloc (.cells (madeCells zM (k * 13)) 49)).alloc (.cells (madeCells #[.int .i64 0] k) 3)).alloc (.cells #[.int .i64 10, .int .i64 0, .int .i64 0, .int .i64 0, .int .u64 0, .int .u64 0, .bool false, .int .i64 0, .int .i64 0] 28)).alloc (.cells (madeCells #[.int .i64 0] k) 3)) ⟨H, A, G, W1.heap.size, W1.heap.size + 1, W1.heap.size + 2, W1.heap.size + 3⟩ k (fun _ => 0) (fun _ => 0) (fun _ => 0) ⟨fstV 2 k 1 0, 0, 0, 0, 0, 0⟩ ⟨10, 0, 0, 0, 0, 0, false, 0, 0⟩) := Lib.hid (BkW.first (k := k) HB1.out lH lG HF1.out ⟨10, 0, 0, 0, 0, 0, false, 0, 0⟩)
  have HKS := Lib.hid (KpSt.first hk5)
  clear HB1 HF1 lH lG
  go_wp2_with fail
  rw [show W1.heap.size + 1 + 1 = W1.heap.size + 2 from rfl, show W1.heap.size + 2 + 1 = W1.heap.size + 3 from rfl]
  generalize (⟨fstV 2 k 1 0, 0, 0, 0, 0, 0⟩ : Dy) = s0 at *
  generalize ((((W1.alloc (.cells (madeCells zM (k * 13)) 49)).alloc (.cells (madeCells #[.int .i64 0] k) 3)).alloc (.cells #[.int .i64 10, .int .i64 0, .int .i64 0, .int .i64 0, .int .u64 0, .int .u64 0, .bool false, .int .i64 0, .int .i64 0] 28)).alloc (.cells (madeCells #[.int .i64 0] k) 3)) = W2 at *
  generalize W1.heap.size + 3 = T at *
  generalize W1.heap.size + 2 = B at *
  generalize W1.heap.size + 1 = S at *
  generalize W1.heap.size = R at *
  clear hmk hmk2
  go_loopw [14] (fun vi wr => ∃ (cl : Bool) (i : Nat) (ln kd rs : Nat → Int) (s : Dy) (x : Co), vi = .int .i64 i ∧ i ≤ n0 ∧ Hid (BkW w wr ⟨H, A, G, R, S, B, T⟩ k ln kd rs s x) ∧ Hid (KpSt k cl ln kd s) ∧ Hid (BkCo k cl ln s x) ∧ Hid (x.U ∧ -1000000 ≤ x.m ∧ x.m ≤ 1000000) ∧ Hid (∀ j, 0 ≤ rs j ∧ rs j ≤ 3)) (fun vi _ => n0 - (intOf vi).toNat)
  case atStart => exact ⟨false, 0, _, _, _, s0, _, rfl, by omega, HQ, HKS, Lib.hid (.inl ⟨rfl, rfl, Int.le_refl 0, by show (0 : Int) < k; omega, fun j hj => absurd hj (by show ¬ (j : Int) < 0; omega)⟩), Lib.hid ⟨⟨u64_zero, u64_zero⟩, by dsimp only; omega⟩, Lib.hid (fun _ => by omega)⟩
  case round =>
    clear HQ HKS
    obtain ⟨cl, i, ln, kd, rs, s, x, rfl, hi, HQ, HKS, HCO, HXU, HRS⟩ := hrel
    by_cases hlt : i < n0
    · rcases HBY.out.2.1.below HQ.out.old with h0 | ⟨bb, off, rfl, hbl, hcell⟩
      · omega
      have hp := hcell i hlt
      have hi0 : (0 : Int) ≤ (i : Int) := by omega
      have hin : (i : Int) < (n0 : Int) := by omega
      have hi1 : IntKind.i64.wrap ((i : Int) + 1) = (i : Int) + 1 := IntWalk.i64_in _ (by have := HBY.out.1; omega)
      have hp6 := HBY.out.2.2 i
      clear hcell hbl
      generalize pk i = pq at hp hp6
      obtain ⟨q, hq⟩ : ∃ q : Nat, q = pq % (k + 1) := ⟨_, rfl⟩
      have hql : q ≤ k := by have := Nat.mod_lt pq (show 0 < k + 1 by omega); omega
      have hqv : (pq : Int) % ((k : Int) + 1) = (q : Int) := by subst hq; simp
      have hkz : ((k : Int) + 1 == 0) = false := by simp; omega
      clear hq
      obtain ⟨l, j, xc, m, xa, p, fd, tl, cy⟩ := x
      go_upto_if 74 with fail
      rw [hqv]
      clear hqv hkz hp hp6
      by_cases hrest : q < k ∧ ln q = 24 ∧ 0 < rs q
      · obtain ⟨hm, hl24, hr0⟩ := hrest
        have hqk1 : ((q : Int) == (k : Int)) = false := by simp; omega
        have hqI : (q : Int) < (k : Int) := by omega
        have hq0 : (0 : Int) ≤ (q : Int) := by omega
        clear hql
        obtain ⟨a0, a1, a2, a3, a4, a5, a6, a7, a8, a9, a10, a11, a12⟩ := HQ.out.row.cells hm
        dsimp only at a0 a1 a2 a3 a4 a5 a6 a7 a8 a9 a10 a11 a12
        rw [hl24] at a0
        generalize kd q = Q at a1
        have hx := Mut13.new wr 24 0 0 Q 0 0 0 0 0 0 0 0 0
        have HQ0 := Lib.hid (HQ.out.below (below_new wr (.cells #[.int .i64 24, .int .i64 Q, .int .i64 0, .int .i64 0, .int .i64 0, .int .u64 0, .int .u64 0, .int .u64 0, .int .u64 0, .int .u64 0, .int .u64 0, .int .i64 0, .int .i64 0] 49)))
        have HM0 := Lib.hid hx
        clear hx HQ hl24
        go_upto_block 4 with fail
        clear a0 a1 a2 a3 a4 a5 a6 a7 a8 a9 a10 a11 a12
        generalize wr.alloc (.cells #[.int .i64 24, .int .i64 Q, .int .i64 0, .int .i64 0, .int .i64 0, .int .u64 0, .int .u64 0, .int .u64 0, .int .u64 0, .int .u64 0, .int .u64 0, .int .i64 0, .int .i64 0] 49) = V at *
        generalize wr.heap.size = X at *
        obtain ⟨a0, a1, a2, a3, a4, a5, a6, a7, a8, a9, a10, a11, a12, af⟩ := HM0.out.cells
        have cr := HQ0.out.rest.cell hm
        have crf := HQ0.out.rest.frozen q
        dsimp only at cr crf
        have hrq := HRS.out q
        have d0 : decide (0 < rs q) = true := decide_eq_true hr0
        have hw1 : IntKind.i64.wrap (rs q - 1) = rs q - 1 := IntWalk.i64_in _ (by omega)
        have HQ2 : Hid (BkW w (V.setCell ⟨S, q, none⟩ (.int .i64 (rs q - 1))) ⟨H, A, G, R, S, B, T⟩ k ln kd (upd rs q (rs q - 1)) s ⟨l, j, xc, m, xa, p, fd, tl, cy⟩) := Lib.hid (HQ0.out.setRest q (rs q - 1))
        have HR2 : Hid (∀ j, 0 ≤ upd rs q (rs q - 1) j ∧ upd rs q (rs q - 1) j ≤ 3) := Lib.hid (fun j => by unfold upd; split; omega; exact HRS.out j)
        generalize upd rs q (rs q - 1) = rs2 at *
        generalize rs q = rq at *
        clear HRS HQ0 hr0 hrq
        go_wp2_with fail
        clear HM0 a0 a1 a2 a3 a4 a5 a6 a7 a8 a9 a10 a11 a12 af
        go_roundw
        case rel => exact ⟨cl, i + 1, ln, kd, rs2, s, ⟨l, j, xc, m, xa, p, fd, tl, cy⟩, by go_num, by omega, HQ2, HKS, HCO, HXU, HR2⟩
        case measure => simp [intOf]; omega
      go_cut [16, 17, 18, 19, 20, 21, 22] from 58 to 214 (fun c16 c17 c18 c19 c20 c21 c22 wx => ∃ (cl2 : Bool) (ln2 kd2 rs2 : Nat → Int) (s2 : Dy) (x2 : Co), Hid (BkW w wx ⟨H, A, G, R, S, B, T⟩ k ln2 kd2 rs2 s2 x2) ∧ Hid (KpSt k cl2 ln2 kd2 s2) ∧ Hid (BkCo k cl2 ln2 s2 x2) ∧ Hid (x2.U ∧ -1000000 ≤ x2.m ∧ x2.m ≤ 1000000) ∧ Hid (∀ j, 0 ≤ rs2 j ∧ rs2 j ≤ 3))
      case first =>
        rename_i J0 K0 hJ0 hK0
        by_cases hqk : q = k
        · have hqk1 : ((q : Int) == (k : Int)) = true := by simp; omega
          exact bk_col (J := J0) (K' := K0) hk5 HS HQ HKS HCO HXU HRS hqk1 hJ0 hK0
        have hqk1 : ((q : Int) == (k : Int)) = false := by simp; omega
        have hm : q < k := by omega
        exact bk_mut (J := J0) (K' := K0) hk5 HS HQ HKS HCO HXU HRS hst6 hm (fun h => hrest ⟨hm, h⟩) hqk1 hJ0 hK0
      case rest =>
        clear HQ HKS HCO HXU HRS HBY hrest
        obtain ⟨cl2, ln2, kd2, rs2, s2, ⟨l', j', xc', m', xa', p', fd', tl', cy'⟩, HQ3, HK2, HCO2, HXU2, HRS2⟩ := hcut
        try dsimp only at HQ3
        go_wp2_with fail
        go_loopw [23] (fun vj wr => ∃ j : Nat, vj = .int .i64 j ∧ j ≤ k ∧ Hid (BkW w wr ⟨H, A, G, R, S, B, T⟩ k ln2 kd2 rs2 s2 ⟨l', j', xc', m', xa', p', fd', tl', cy'⟩)) (fun vj _ => k - (intOf vj).toNat)
        case atStart => exact ⟨0, rfl, by omega, HQ3⟩
        case round =>
          clear HQ3
          obtain ⟨jj, rfl, hj, HQ4⟩ := hrel
          obtain ⟨b0, b1, b2, b3, b4, b5, b6, b7, b8, bf⟩ := HQ4.out.cells9
          dsimp only at b0 b1 b2 b3 b4 b5 b6 b7 b8 bf
          by_cases hjk : jj < k
          · have hjI : (jj : Int) < (k : Int) := by omega
            have hj0 : (0 : Int) ≤ (jj : Int) := by omega
            have hj1 : IntKind.i64.wrap ((jj : Int) + 1) = (jj : Int) + 1 := IntWalk.i64_in _ (by omega)
            have cw := HQ4.out.waits.cell hjk
            dsimp only at cw
            by_cases h13 : 13 ≤ l'
            · by_cases h15 : l' ≤ 15
              · have hlj : ln2 jj = 0 ∨ ln2 jj = 2 ∨ ln2 jj = 4 ∨ ln2 jj = 5 := by
                  rcases HCO2.out with ⟨a, _⟩ | ⟨a, _⟩ | ⟨a, _⟩ | ⟨a, _⟩ | ⟨_, _, e⟩ | ⟨a, _⟩
                  · dsimp only at a; omega
                  · dsimp only at a; omega
                  · dsimp only at a; omega
                  · dsimp only at a; omega
                  · exact e jj hjk
                  · dsimp only at a; omega
                have hins : insB (ln2 jj) = false := by rcases hlj with e | e | e | e <;> rw [e] <;> rfl
                have HIx : Hid (∀ W, Calls Tryd.prog 17 #[(mS (ln2 jj) (kd2 jj)).v] W fun e w' => e = .returned (.bool false) ∧ Below W.heap.size W w') := Lib.hid (fun W => by have := Inside_c (ln2 jj) 0 0 (kd2 jj) 0 0 0 0 0 0 0 0 0 W; rw [hins] at this; exact this)
                have d1 : decide (13 ≤ l') = true := decide_eq_true h13
                have d2 : decide (l' ≤ 15) = true := decide_eq_true h15
                obtain ⟨a0, a1, a2, a3, a4, a5, a6, a7, a8, a9, a10, a11, a12⟩ := HQ4.out.row.cells hjk
                dsimp only at a0 a1 a2 a3 a4 a5 a6 a7 a8 a9 a10 a11 a12
                clear hlj hins h13 h15
                generalize ln2 jj = lj at *
                generalize kd2 jj = kj at *
                go_wp2_with fail
                refine (HIx.out _).mono ?_
                rintro e V7 ⟨rfl, hb7⟩
                have HQ5 := Lib.hid (HQ4.out.below hb7)
                clear hb7 HQ4 HIx cw d1 d2 a0 a1 a2 a3 a4 a5 a6 a7 a8 a9 a10 a11 a12 b0 b1 b2 b3 b4 b5 b6 b7 b8 bf
                go_wp2_with fail
                go_roundw
                case rel => exact ⟨jj + 1, by go_num, by omega, HQ5⟩
                case measure => simp [intOf]; omega
              · have d1 : decide (13 ≤ l') = true := decide_eq_true h13
                have d2 : decide (l' ≤ 15) = false := decide_eq_false h15
                clear h13 h15
                have HQ5 := HQ4
                clear HQ4
                go_wp2_with fail
                go_roundw
                case rel => exact ⟨jj + 1, by go_num, by omega, HQ5⟩
                case measure => simp [intOf]; omega
            have d1 : decide (13 ≤ l') = false := decide_eq_false h13
            clear h13
            have HQ5 := HQ4
            clear HQ4
            go_wp2_with fail
            go_roundw
            case rel => exact ⟨jj + 1, by go_num, by omega, HQ5⟩
            case measure => simp [intOf]; omega
          have hjf : ¬ ((jj : Int) < (k : Int)) := by omega
          clear hjk hj b0 b1 b2 b3 b4 b5 b6 b7 b8 bf
          go_wp2_with fail
          go_roundw
          case rel => exact ⟨cl2, i + 1, ln2, kd2, rs2, s2, ⟨l', j', xc', m', xa', p', fd', tl', cy'⟩, by go_num, by omega, HQ4, HK2, HCO2, HXU2, HRS2⟩
          case measure => simp [intOf]; omega
    obtain rfl : n0 = i := by omega
    go_wp2_with fail
    go_ret
    exact ⟨rfl, HQ.out.old⟩
end Go.Proofs.YtjmbahdlgnobaaaDoor
