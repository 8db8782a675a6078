/- BarOpens answers true: nobody waits for ever. -/
import Derived.Test.YtjmbahdlgnobaaaDoorBarOpensA
import Derived.Test.YtjmbahdlgnobaaaDoorM4
import Derived.Test.YtjmbahdlgnobaaaDoorHandNew
import Derived.Deep.CutRange
import Derived.Deep.CutBlock
namespace Go.Proofs.YtjmbahdlgnobaaaDoor
open Go Go.RowKit
set_option maxRecDepth 100000
attribute [local go_sem ↓] Go.wp_at_zero Go.wp_at_succ

set_option maxHeartbeats 12800000 in
theorem opens_any (nb : Nat) (hnb : nb < 256) (fr : Nat) (hfr : fr < 256) (w : World) (hS : SpansAt w) :
    Calls Tryd.prog 5 #[.int .u8 (nb : Int), .int .u8 (fr : Int)] w fun e w' => e = .returned (.bool true) ∧ Below w.heap.size w w' := by
  have HA := Lib.hid (awake17_c w hS)
  have HS := Lib.hid hS
  clear hS
  obtain ⟨k, hk⟩ : ∃ k : Nat, k = 1 + nb % 5 := ⟨_, rfl⟩
  have hk5 : 1 ≤ k ∧ k ≤ 5 := by omega
  have hkv : (1 : Int) + (nb : Int) % 5 = (k : Int) := by omega
  have HN := Lib.hid (fun W (h : SpansAt W) => New_yes 2 k 1 0 (rightK hk5) W h)
  clear hk
  go_enter Tryd.func5, Tryd.ntmps5
  go_wp2_with fail
  refine HA.out.mono ?_
  rintro e W0 ⟨rfl, hb0⟩
  have HB0 := Lib.hid hb0
  clear hb0 HA
  go_wp2_with fail
  refine (HN.out _ (HS.out.below HB0.out)).mono ?_
  rintro e W1 ⟨n, hn, H, A, G, rfl, hF, hb, l1, l2, l3⟩
  obtain rfl : n = 11 + 2 * k := by omega
  have hsz := HB0.out.size
  have HB1 := Lib.hid (belowOn HB0.out hb)
  have HF1 : Hid (HAt W1 H A G (CK k) ⟨fstV 2 k 1 0, 0, 0, 0, 0, 0⟩) := Lib.hid hF
  have lH : w.heap.size ≤ H := by omega
  have lG : w.heap.size ≤ G := by omega
  clear hF hb HN hn l1 l2 l3 hsz HB0 hkv
  have hmk := make_muts k (by omega)
  have hmk2 := make_ints7 k (by omega)
  have HQ : Hid (BoW w (((W1.alloc (.cells (madeCells zM (k * 13)) 49)).alloc (.cells (madeCells #[.int .i64 0] k) 3)).alloc (.cells #[.int .i64 10, .int .i64 0, .int .i64 0, .int .i64 0, .int .u64 0, .int .u64 0, .bool false, .int .i64 0, .int .i64 0] 28)) ⟨H, A, G, W1.heap.size, W1.heap.size + 1, W1.heap.size + 2⟩ k (fun _ => 0) (fun _ => 0) (fun _ => 0) ⟨fstV 2 k 1 0, 0, 0, 0, 0, 0⟩ ⟨10, 0, 0, 0, 0, 0, false, 0, 0⟩) := Lib.hid (BoW.first (k := k) HB1.out lH lG HF1.out ⟨10, 0, 0, 0, 0, 0, false, 0, 0⟩)
  have HSM : Hid (BoSim k (0) (boRuns k fr 0) ⟨fstV 2 k 1 0, 0, 0, 0, 0, 0⟩ (fun _ => 0) (fun _ => 0) ⟨10, 0, 0, 0, 0, 0, false, 0, 0⟩) := Lib.hid (BoSim.first hk5)
  have HGO : Hid (∀ j, j < k → (fun _ => (0 : Int)) j = (boGet (boRuns k fr 0).got j : Nat)) := Lib.hid (fun j _ => by show (0 : Int) = ((boGet (boZeros k) j : Nat) : Int); rw [boGet_zeros]; rfl)
  clear HB1 HF1 lH lG
  go_wp2_with fail
  rw [show W1.heap.size + 1 + 1 = W1.heap.size + 2 from rfl]
  generalize (⟨fstV 2 k 1 0, 0, 0, 0, 0, 0⟩ : Dy) = s0 at *
  generalize (((W1.alloc (.cells (madeCells zM (k * 13)) 49)).alloc (.cells (madeCells #[.int .i64 0] k) 3)).alloc (.cells #[.int .i64 10, .int .i64 0, .int .i64 0, .int .i64 0, .int .u64 0, .int .u64 0, .bool false, .int .i64 0, .int .i64 0] 28)) = W2 at *
  generalize W1.heap.size + 2 = B at *
  generalize W1.heap.size + 1 = S at *
  generalize W1.heap.size = R at *
  clear hmk hmk2
  have hw1 : IntKind.i64.wrap (40 * (k : Int)) = 40 * (k : Int) := IntWalk.i64_in _ (by omega)
  have hw2 : IntKind.i64.wrap (60 + 40 * (k : Int)) = 60 + 40 * (k : Int) := IntWalk.i64_in _ (by omega)
  go_loopw [11, 12] (fun vs vr wr => ∃ (r : Nat) (ln kd g : Nat → Int) (s : Dy) (x : Co), vs = .int .i64 ((boRuns k fr r).n : Nat) ∧ vr = .int .i64 r ∧ r ≤ 60 + 40 * k ∧ Hid (BoW w wr ⟨H, A, G, R, S, B⟩ k ln kd g s x) ∧ Hid (BoSim k (r * (k + 1)) (boRuns k fr r) s ln kd x) ∧ Hid (∀ j, j < k → g j = (boGet (boRuns k fr r).got j : Nat)) ∧ Hid x.U) (fun _ vr _ => 60 + 40 * k - (intOf vr).toNat)
  case atStart => exact ⟨0, _, _, _, s0, _, rfl, rfl, by omega, HQ, by rw [Nat.zero_mul]; exact HSM, HGO, Lib.hid ⟨u64_zero, u64_zero⟩⟩
  case round =>
    clear HQ HSM HGO
    obtain ⟨r, ln, kd, g, s, x, rfl, rfl, hr, HQ, HSM, HGO, HXU⟩ := hrel
    by_cases hlt : r < 60 + 40 * k
    · have hrI : (r : Int) < 60 + 40 * (k : Int) := by omega
      have hr1 : IntKind.i64.wrap ((r : Int) + 1) = (r : Int) + 1 := IntWalk.i64_in _ (by omega)
      have hrf : (r : Int) * (fr : Int) ≤ 70000 := by
        have := Nat.mul_le_mul (show r ≤ 235 + 25 by omega) (show fr ≤ 255 by omega)
        have e : ((r * fr : Nat) : Int) = (r : Int) * (fr : Int) := Int.natCast_mul r fr
        omega
      have hrf0 : (0 : Int) ≤ (r : Int) * (fr : Int) := by rw [← Int.natCast_mul]; omega
      have hw3 : IntKind.i64.wrap ((r : Int) * (fr : Int)) = (r : Int) * (fr : Int) := IntWalk.i64_in _ (by omega)
      have HRF := Lib.hid (And.intro hrf0 hrf)
      clear hrf hrf0
      go_wp2_with fail
      go_loopw [11, 13] (fun vs vi wr => ∃ (i : Nat) (ln kd g : Nat → Int) (s : Dy) (x : Co), vs = .int .i64 ((boPicks k fr r (boRuns k fr r) i).n : Nat) ∧ vi = .int .i64 i ∧ i ≤ k + 1 ∧ Hid (BoW w wr ⟨H, A, G, R, S, B⟩ k ln kd g s x) ∧ Hid (BoSim k (r * (k + 1) + i) (boPicks k fr r (boRuns k fr r) i) s ln kd x) ∧ Hid (∀ j, j < k → g j = (boGet (boPicks k fr r (boRuns k fr r) i).got j : Nat)) ∧ Hid x.U) (fun _ vi _ => k + 1 - (intOf vi).toNat)
      case atStart => exact ⟨0, ln, kd, g, s, x, rfl, rfl, by omega, HQ, HSM, HGO, HXU⟩
      case round =>
        clear HQ HSM HGO HXU
        obtain ⟨i, ln, kd, g, s, x, rfl, rfl, hi, HQ, HSM, HGO, HXU⟩ := hrel
        by_cases hik : i < k + 1
        · have hiI : (i : Int) ≤ (k : Int) := by omega
          have hi1 : IntKind.i64.wrap ((i : Int) + 1) = (i : Int) + 1 := IntWalk.i64_in _ (by omega)
          have hw4 : IntKind.i64.wrap ((i : Int) + (r : Int) * (fr : Int)) = (i : Int) + (r : Int) * (fr : Int) := IntWalk.i64_in _ (by have := HRF.out; omega)
          have hkz : ((k : Int) + 1 == 0) = false := by simp; omega
          obtain ⟨q, hq⟩ : ∃ q : Nat, boWho k fr r i = q := ⟨_, rfl⟩
          have hql : q ≤ k := by rw [← hq]; unfold boWho; have := Nat.mod_lt (i + r * fr) (show 0 < k + 1 by omega); omega
          have hqv : ((i : Int) + (r : Int) * (fr : Int)) % ((k : Int) + 1) = (q : Int) := by
            rw [← hq]; unfold boWho; rw [Int.natCast_emod, Int.natCast_add, Int.natCast_mul, Int.natCast_add]; rfl
          have hqt : Int.tmod ((i : Int) + (r : Int) * (fr : Int)) ((k : Int) + 1) = (q : Int) := by rw [Int.tmod_eq_emod_of_nonneg (by have := HRF.out; omega)]; exact hqv
          have hN : r * (k + 1) + i ≤ 100000 := by have := Nat.mul_le_mul (show r ≤ 260 by omega) (show k + 1 ≤ 6 by omega); omega
          generalize hSS : boPicks k fr r (boRuns k fr r) i = Z at *
          have hpk : boPicks k fr r (boRuns k fr r) (i + 1) = boPick k fr r Z i := by rw [← hSS]; rfl
          have HPK := Lib.hid hpk
          clear hpk hSS
          by_cases hqk : q = k
          · have hqk1 : ((q : Int) == (k : Int)) = true := by simp; omega
            have hP : boPick k fr r Z i = boCol k Z := by unfold boPick; rw [hq, if_pos hqk]
            have HPZ := Lib.hid (HPK.out.trans hP)
            obtain ⟨s', x', fl, hst, hsim, hgot, hn⟩ := HSM.out.go hk5
            have hx := HSM.out.col
            have hsu := HSM.out.u
            have hcl := HSM.out.cls
            have hcm := HSM.out.cm
            have hu0 : (boTop x).U := by
              unfold boTop
              split
              · exact HXU.out
              · exact HXU.out
            have hm0 : -1000000000000 ≤ (boTop x).m ∧ (boTop x).m ≤ 1000000000000 := by
              unfold boTop
              split
              · dsimp only; omega
              · rw [hx]; dsimp only; omega
            have HST : Hid (∀ W, BoW w W ⟨H, A, G, R, S, B⟩ k ln kd g s (boTop x) → Calls Tryd.prog 11 #[.pointer (some ⟨H, 0, none⟩), (boTop x).v] W (HP W H A G (CK k) s' (.tuple #[x'.v, .bool fl, .bool true]))) := Lib.hid (fun W h => by
              have := bar17_c (w := W) h.hand hsu (HS.out.below h.old) (rightK hk5) (by dsimp only; omega) (boTop x) hu0 hm0
              rw [hst] at this
              exact this)
            have hxu := (shutS_U hsu (C := CK k) (boTop x) hu0).2
            rw [hst] at hxu
            have HXU2 : Hid x'.U := Lib.hid hxu
            clear hxu
            have hl3 : ¬ x.l = 3 := by rw [hx]; dsimp only; omega
            have HSM2 : Hid (BoSim k (r * (k + 1) + (i + 1)) (boCol k Z) s' ln kd x') := Lib.hid hsim
            have HGO2 : Hid (∀ j, j < k → g j = (boGet (boCol k Z).got j : Nat)) := Lib.hid (fun j hj => by rw [hgot]; exact HGO.out j hj)
            have hZn := HSM.out.ns
            clear hst hsim hgot hsu hcm HSM HGO hP hq hqk hql hu0 hm0
            have HPn := Lib.hid (congrArg BoS.n HPZ.out)
            generalize (boCol k Z).n = zn at hn HPn
            by_cases h20 : x.l = 20
            · rw [if_pos (.inr h20)] at hn
              have ht : boTop x = { x with l := 10, m := 0 } := by unfold boTop; rw [if_pos (.inr h20)]
              rw [ht] at HST
              clear ht hx hcl
              subst hn
              obtain ⟨l, j, xc, m, xa, p, fd, tl, cy⟩ := x
              dsimp only at h20 hl3
              try dsimp only at HST
              obtain ⟨l', j', xc', m', xa', p', fd', tl', cy'⟩ := x'
              obtain ⟨a0, a1, a2, a3, a4, a5, a6, a7, a8, af⟩ := HQ.out.col.cells
              dsimp only at a0 a1 a2 a3 a4 a5 a6 a7 a8 af
              subst h20
              have hz1 : IntKind.i64.wrap (((Z.n : Nat) : Int) + 1) = ((Z.n + 1 : Nat) : Int) := by rw [IntWalk.i64_in _ (by omega)]; omega
              have HQ1 : Hid (BoW w ((wr.setCell ⟨B, 0, none⟩ (.int .i64 10)).setCell ⟨B, 3, none⟩ (.int .i64 0)) ⟨H, A, G, R, S, B⟩ k ln kd g s ⟨10, j, xc, 0, xa, p, fd, tl, cy⟩) := Lib.hid HQ.out.anew
              clear HQ
              obtain ⟨b0, b1, b2, b3, b4, b5, b6, b7, b8, bf⟩ := HQ1.out.col.cells
              dsimp only at b0 b1 b2 b3 b4 b5 b6 b7 b8 bf
              go_wp2_with fail
              clear a0 a1 a2 a3 a4 a5 a6 a7 a8 af b0 b1 b2 b3 b4 b5 b6 b7 b8 bf
              refine (HST.out _ HQ1.out).mono ?_
              rintro e V hp
              obtain ⟨rfl, hQ⟩ := HQ1.out.act (v := .tuple #[.agg #[.int .i64 l', .int .i64 j', .int .i64 xc', .int .i64 m', .int .u64 xa', .int .u64 p', .bool fd', .int .i64 tl', .int .i64 cy'], .bool fl, .bool true]) hp
              have HQ2 := Lib.hid hQ
              clear hp hQ HQ1 HST
              obtain ⟨b0, b1, b2, b3, b4, b5, b6, b7, b8, bf⟩ := HQ2.out.col.cells
              dsimp only at b0 b1 b2 b3 b4 b5 b6 b7 b8 bf
              go_wp2_with fail
              have HQ3 : Hid (BoW w (((((((((V.setCell ⟨B, 0, none⟩ (.int .i64 l')).setCell ⟨B, 1, none⟩ (.int .i64 j')).setCell ⟨B, 2, none⟩ (.int .i64 xc')).setCell ⟨B, 3, none⟩ (.int .i64 m')).setCell ⟨B, 4, none⟩ (.int .u64 xa')).setCell ⟨B, 5, none⟩ (.int .u64 p')).setCell ⟨B, 6, none⟩ (.bool fd')).setCell ⟨B, 7, none⟩ (.int .i64 tl')).setCell ⟨B, 8, none⟩ (.int .i64 cy')) ⟨H, A, G, R, S, B⟩ k ln kd g s' ⟨l', j', xc', m', xa', p', fd', tl', cy'⟩) := Lib.hid (HQ2.out.putX ⟨l', j', xc', m', xa', p', fd', tl', cy'⟩)
              clear HQ2 b0 b1 b2 b3 b4 b5 b6 b7 b8 bf
              generalize (((((((((V.setCell ⟨B, 0, none⟩ (.int .i64 l')).setCell ⟨B, 1, none⟩ (.int .i64 j')).setCell ⟨B, 2, none⟩ (.int .i64 xc')).setCell ⟨B, 3, none⟩ (.int .i64 m')).setCell ⟨B, 4, none⟩ (.int .u64 xa')).setCell ⟨B, 5, none⟩ (.int .u64 p')).setCell ⟨B, 6, none⟩ (.bool fd')).setCell ⟨B, 7, none⟩ (.int .i64 tl')).setCell ⟨B, 8, none⟩ (.int .i64 cy')) = W6 at *
              go_roundw
              case rel => exact ⟨i + 1, ln, kd, g, s', ⟨l', j', xc', m', xa', p', fd', tl', cy'⟩, by first | (rw [HPn.out]; done) | (rw [HPn.out]; first | rfl | (simp; done) | (push_cast; rfl)), by go_num, by omega, HQ3, by rw [HPZ.out]; exact HSM2, by rw [HPZ.out]; exact HGO2, HXU2⟩
              case measure => simp [intOf]; omega
            rw [if_neg (by omega)] at hn
            have ht : boTop x = x := by unfold boTop; rw [if_neg (by omega)]
            rw [ht] at HST
            clear ht hx hcl
            subst hn
            obtain ⟨l, j, xc, m, xa, p, fd, tl, cy⟩ := x
            dsimp only at h20 hl3
            try dsimp only at HST
            obtain ⟨l', j', xc', m', xa', p', fd', tl', cy'⟩ := x'
            obtain ⟨a0, a1, a2, a3, a4, a5, a6, a7, a8, af⟩ := HQ.out.col.cells
            dsimp only at a0 a1 a2 a3 a4 a5 a6 a7 a8 af
            have e3 : (l == 3) = false := by simpa using hl3
            have e20 : (l == 20) = false := by simpa using h20
            have HQ1 := HQ
            clear HQ
            go_wp2_with fail
            clear a0 a1 a2 a3 a4 a5 a6 a7 a8 af
            refine (HST.out _ HQ1.out).mono ?_
            rintro e V hp
            obtain ⟨rfl, hQ⟩ := HQ1.out.act (v := .tuple #[.agg #[.int .i64 l', .int .i64 j', .int .i64 xc', .int .i64 m', .int .u64 xa', .int .u64 p', .bool fd', .int .i64 tl', .int .i64 cy'], .bool fl, .bool true]) hp
            have HQ2 := Lib.hid hQ
            clear hp hQ HQ1 HST
            obtain ⟨b0, b1, b2, b3, b4, b5, b6, b7, b8, bf⟩ := HQ2.out.col.cells
            dsimp only at b0 b1 b2 b3 b4 b5 b6 b7 b8 bf
            go_wp2_with fail
            have HQ3 : Hid (BoW w (((((((((V.setCell ⟨B, 0, none⟩ (.int .i64 l')).setCell ⟨B, 1, none⟩ (.int .i64 j')).setCell ⟨B, 2, none⟩ (.int .i64 xc')).setCell ⟨B, 3, none⟩ (.int .i64 m')).setCell ⟨B, 4, none⟩ (.int .u64 xa')).setCell ⟨B, 5, none⟩ (.int .u64 p')).setCell ⟨B, 6, none⟩ (.bool fd')).setCell ⟨B, 7, none⟩ (.int .i64 tl')).setCell ⟨B, 8, none⟩ (.int .i64 cy')) ⟨H, A, G, R, S, B⟩ k ln kd g s' ⟨l', j', xc', m', xa', p', fd', tl', cy'⟩) := Lib.hid (HQ2.out.putX ⟨l', j', xc', m', xa', p', fd', tl', cy'⟩)
            clear HQ2 b0 b1 b2 b3 b4 b5 b6 b7 b8 bf
            generalize (((((((((V.setCell ⟨B, 0, none⟩ (.int .i64 l')).setCell ⟨B, 1, none⟩ (.int .i64 j')).setCell ⟨B, 2, none⟩ (.int .i64 xc')).setCell ⟨B, 3, none⟩ (.int .i64 m')).setCell ⟨B, 4, none⟩ (.int .u64 xa')).setCell ⟨B, 5, none⟩ (.int .u64 p')).setCell ⟨B, 6, none⟩ (.bool fd')).setCell ⟨B, 7, none⟩ (.int .i64 tl')).setCell ⟨B, 8, none⟩ (.int .i64 cy')) = W6 at *
            go_roundw
            case rel => exact ⟨i + 1, ln, kd, g, s', ⟨l', j', xc', m', xa', p', fd', tl', cy'⟩, by first | (rw [HPn.out]; done) | (rw [HPn.out]; first | rfl | (simp; done) | (push_cast; rfl)), by go_num, by omega, HQ3, by rw [HPZ.out]; exact HSM2, by rw [HPZ.out]; exact HGO2, HXU2⟩
            case measure => simp [intOf]; omega
          have hqk1 : ((q : Int) == (k : Int)) = false := by simp; omega
          have hm : q < k := by omega
          have hqI : (q : Int) < (k : Int) := by omega
          have hq0 : (0 : Int) ≤ (q : Int) := by omega
          have hP : boPick k fr r Z i = boMut Z q := by unfold boPick; rw [hq, if_neg hqk]
          have HPZ := Lib.hid (HPK.out.trans hP)
          obtain ⟨s', ly, hg, hsim, hgot⟩ := HSM.out.mut hk5 hN hm
          have hsu := HSM.out.u
          have hkd : ln q = 0 ∨ kd q = 11 := by by_cases e : ln q = 0; exact .inl e; exact .inr (HSM.out.kds q hm e)
          have HSM2 : Hid (BoSim k (r * (k + 1) + (i + 1)) (boMut Z q) s' (upd ln q ly) (upd kd q 11) x) := Lib.hid hsim
          have HPn := Lib.hid ((congrArg BoS.n HPZ.out).trans (boMut_n Z q))
          have hgz : ∀ j, g j ≤ 1000000 ∨ ¬ j < k := fun j => by
            by_cases e : j < k
            · have e1 := HGO.out j e; have e2 := HSM.out.gots j; omega
            · exact .inr e
          have hgq := (hgz q).resolve_right (fun e => e hm)
          have hgq0 : 0 ≤ g q := by have := HGO.out q hm; omega
          obtain ⟨a0, a1, a2, a3, a4, a5, a6, a7, a8, a9, a10, a11, a12⟩ := HQ.out.row.cells hm
          dsimp only at a0 a1 a2 a3 a4 a5 a6 a7 a8 a9 a10 a11 a12
          clear hq hql hP hsim hgz HSM
          have HGt := Lib.hid hgot
          clear hgot
          generalize hLL : ln q = L at hg hkd a0 HGt
          generalize kd q = Q at hkd a1
          clear hLL
          obtain ⟨lx, hlx⟩ : ∃ lx, goL1 (goL0 L) = lx := ⟨_, rfl⟩
          rw [hlx] at hg
          have HG : Hid (∀ W, SpansAt W → HAt W H A G (CK k) s → Calls Tryd.prog 16 #[.pointer (some ⟨H, 0, none⟩), .int .i64 (q : Int), (mL lx).v] W (HP W H A G (CK k) s' (.tuple #[(mL ly).v, .bool true]))) := Lib.hid (fun W k1 k2 => by
            have := gate_c (w := W) k2 hsu k1 (q : Int) (mL lx) (by dsimp only; omega)
            rw [hg] at this
            exact this)
          have HBG := Lib.hid (gBegin_c 11 0 0 0)
          have hx := Mut13.new wr L 0 0 Q 0 0 0 0 0 0 0 0 0
          have HQ0 := Lib.hid (HQ.out.below (below_new wr (.cells #[.int .i64 L, .int .i64 Q, .int .i64 0, .int .i64 0, .int .i64 0, .int .u64 0, .int .u64 0, .int .u64 0, .int .u64 0, .int .u64 0, .int .u64 0, .int .i64 0, .int .i64 0] 49)))
          have hap := HQ.out.apart (Nat.le_refl wr.heap.size)
          have HM0 := Lib.hid hx
          clear hx hg hsu HQ
          go_upto_if 91 with fail
          clear a0 a1 a2 a3 a4 a5 a6 a7 a8 a9 a10 a11 a12
          generalize wr.alloc (.cells #[.int .i64 L, .int .i64 Q, .int .i64 0, .int .i64 0, .int .i64 0, .int .u64 0, .int .u64 0, .int .u64 0, .int .u64 0, .int .u64 0, .int .u64 0, .int .i64 0, .int .i64 0] 49) = V at *
          generalize wr.heap.size = X at *
          go_cut [] from 49 to 113 (fun wx => ∃ g2, Hid (BoW w wx ⟨H, A, G, R, S, B⟩ k ln kd g2 s x) ∧ Hid (MuAt wx X (mL lx)) ∧ Hid (∀ j, j < k → g2 j = (boGet (boMut Z q).got j : Nat)))
          case first =>
            by_cases hl : L = 0
            · subst hl
              have HG2 : Hid (∀ j, j < k → g j = (boGet (boMut Z q).got j : Nat)) := Lib.hid (fun j hj => by rw [HGt.out j, if_neg (fun h => by have := h.2; omega)]; exact HGO.out j hj)
              obtain ⟨a0, a1, a2, a3, a4, a5, a6, a7, a8, a9, a10, a11, a12, af⟩ := HM0.out.cells
              clear HG
              go_wp2_with fail
              refine (HBG.out _).mono ?_
              rintro e V0 ⟨rfl, hb0⟩
              have HQ1 := Lib.hid (HQ0.out.below hb0)
              have HMa := Lib.hid (HM0.out.below hb0)
              clear hb0 HBG HM0 HQ0 a0 a1 a2 a3 a4 a5 a6 a7 a8 a9 a10 a11 a12 af
              obtain rfl : 1 = lx := hlx
              have HQ2 : Hid (BoW w _ ⟨H, A, G, R, S, B⟩ k ln kd g s x) := Lib.hid (HQ1.out.other (fun j => j = X) (Sav.put13 (S := fun j => j = X) (Sav.of (Below.refl _ V0)) (.inl rfl) 1 0 0 11 0 0 0 0 0 0 0 0 0) (fun j hj e => hap.1 (e ▸ hj)) (fun j e => by have := hap.2; omega))
              have HM1 := Lib.hid (HMa.out.put 1 0 0 11 0 0 0 0 0 0 0 0 0)
              obtain ⟨b0, b1, b2, b3, b4, b5, b6, b7, b8, b9, b10, b11, b12, bf⟩ := HMa.out.cells
              clear HMa HQ1
              go_wp2_with fail
              go_meet
              case rel => exact ⟨g, HQ2, HM1, HG2⟩
            have hl0 : (L == 0) = false := by simpa using hl
            have hg0 : goL0 L = L := if_neg hl
            rw [hg0] at hlx
            rcases hkd with h | hkd
            · exact absurd h hl
            subst hkd
            obtain ⟨a0, a1, a2, a3, a4, a5, a6, a7, a8, a9, a10, a11, a12, af⟩ := HM0.out.cells
            clear HG HBG
            by_cases h24 : L = 24
            · subst h24
              obtain rfl : 90 = lx := hlx
              have hXS : X ≠ S := (fun e => hap.1 (e ▸ (.inr (.inr (.inr (.inr (.inl rfl)))))))
              have hSX : S ≠ X := fun e => hXS e.symm
              have hg1 : IntKind.i64.wrap (g q + 1) = g q + 1 := IntWalk.i64_in _ (by omega)
              have HQ2 : Hid (BoW w (V.setCell ⟨X, 0, none⟩ (.int .i64 90)) ⟨H, A, G, R, S, B⟩ k ln kd g s x) := Lib.hid (HQ0.out.other (fun j => j = X) (Sav.set (S := fun j => j = X) (Sav.of (Below.refl _ V)) (p := ⟨X, 0, none⟩) (.inl rfl) (.int .i64 90)) (fun j hj e => hap.1 (e ▸ hj)) (fun j e => by have := hap.2; omega))
              have HM2 : Hid (MuAt (V.setCell ⟨X, 0, none⟩ (.int .i64 90)) X (mL 90)) := Lib.hid (HM0.out.setL 90)
              have cr := HQ2.out.got.cell hm
              have crf := HQ2.out.got.frozen q
              dsimp only at cr crf
              have HQ3 : Hid (BoW w ((V.setCell ⟨X, 0, none⟩ (.int .i64 90)).setCell ⟨S, q, none⟩ (.int .i64 (g q + 1))) ⟨H, A, G, R, S, B⟩ k ln kd (upd g q (g q + 1)) s x) := Lib.hid (HQ2.out.setGot q (g q + 1))
              have HM3 : Hid (MuAt ((V.setCell ⟨X, 0, none⟩ (.int .i64 90)).setCell ⟨S, q, none⟩ (.int .i64 (g q + 1))) X (mL 90)) := Lib.hid (Mut13.other HM2.out (Below.heap_setCell _ _ _ _ hXS))
              have HG2 : Hid (∀ j, j < k → (upd g q (g q + 1)) j = (boGet (boMut Z q).got j : Nat)) := Lib.hid (fun j hj => by
                rw [HGt.out j]
                have e1 := HGO.out j hj
                unfold upd
                by_cases e : j = q
                · subst e; rw [if_pos rfl, if_pos ⟨rfl, rfl⟩, e1]; omega
                · rw [if_neg e, if_neg (fun h => e h.1)]; exact e1)
              generalize upd g q (g q + 1) = g2 at *
              generalize g q = gq at *
              clear HQ2 HM2 HGt HGO
              go_wp2_with fail
              go_meet
              case rel => exact ⟨g2, HQ3, HM3, HG2⟩
            have hl1 : (L == 24) = false := by simpa using h24
            have HG2 : Hid (∀ j, j < k → g j = (boGet (boMut Z q).got j : Nat)) := Lib.hid (fun j hj => by rw [HGt.out j, if_neg (fun h => h24 h.2)]; exact HGO.out j hj)
            have hg1 : L = lx := by rw [← hlx]; exact (if_neg h24).symm
            subst hg1
            go_wp2_with fail
            go_meet
            case rel => exact ⟨g, HQ0, HM0, HG2⟩
          case rest =>
            clear HQ0 HM0 HBG hlx hkd HGt HGO hgq hgq0
            obtain ⟨g2, HQ1, HM1, HG2⟩ := hcut
            obtain ⟨a0, a1, a2, a3, a4, a5, a6, a7, a8, a9, a10, a11, a12, af⟩ := HM1.out.cells
            go_wp2_with fail
            clear a0 a1 a2 a3 a4 a5 a6 a7 a8 a9 a10 a11 a12 af
            refine (HG.out _ (HS.out.below HQ1.out.old) HQ1.out.hand).mono ?_
            rintro e V2 hp
            obtain ⟨rfl, hQ⟩ := HQ1.out.act hp
            have HQ2 := Lib.hid hQ
            clear hp hQ HQ1 HM1 HG hap
            obtain ⟨r0, r1, r2, r3, r4, r5, r6, r7, r8, r9, r10, r11, r12⟩ := HQ2.out.row.cells hm
            have rf := HQ2.out.row.frozen
            dsimp only at rf r0 r1 r2 r3 r4 r5 r6 r7 r8 r9 r10 r11 r12
            have HQ6 : Hid (BoW w (((((((((((((V2.setCell ⟨R, q * 13, none⟩ (.int .i64 ly)).setCell ⟨R, q * 13 + 1, none⟩ (.int .i64 11)).setCell ⟨R, q * 13 + 2, none⟩ (.int .i64 0)).setCell ⟨R, q * 13 + 3, none⟩ (.int .i64 0)).setCell ⟨R, q * 13 + 4, none⟩ (.int .i64 0)).setCell ⟨R, q * 13 + 5, none⟩ (.int .u64 0)).setCell ⟨R, q * 13 + 6, none⟩ (.int .u64 0)).setCell ⟨R, q * 13 + 7, none⟩ (.int .u64 0)).setCell ⟨R, q * 13 + 8, none⟩ (.int .u64 0)).setCell ⟨R, q * 13 + 9, none⟩ (.int .u64 0)).setCell ⟨R, q * 13 + 10, none⟩ (.int .u64 0)).setCell ⟨R, q * 13 + 11, none⟩ (.int .i64 0)).setCell ⟨R, q * 13 + 12, none⟩ (.int .i64 0)) ⟨H, A, G, R, S, B⟩ k (upd ln q ly) (upd kd q 11) g2 s' x) := Lib.hid (HQ2.out.putM q ly 11)
            clear HQ2
            generalize upd ln q ly = ln2 at *
            generalize upd kd q 11 = kd2 at *
            go_wp2_with fail
            generalize (((((((((((((V2.setCell ⟨R, q * 13, none⟩ (.int .i64 ly)).setCell ⟨R, q * 13 + 1, none⟩ (.int .i64 11)).setCell ⟨R, q * 13 + 2, none⟩ (.int .i64 0)).setCell ⟨R, q * 13 + 3, none⟩ (.int .i64 0)).setCell ⟨R, q * 13 + 4, none⟩ (.int .i64 0)).setCell ⟨R, q * 13 + 5, none⟩ (.int .u64 0)).setCell ⟨R, q * 13 + 6, none⟩ (.int .u64 0)).setCell ⟨R, q * 13 + 7, none⟩ (.int .u64 0)).setCell ⟨R, q * 13 + 8, none⟩ (.int .u64 0)).setCell ⟨R, q * 13 + 9, none⟩ (.int .u64 0)).setCell ⟨R, q * 13 + 10, none⟩ (.int .u64 0)).setCell ⟨R, q * 13 + 11, none⟩ (.int .i64 0)).setCell ⟨R, q * 13 + 12, none⟩ (.int .i64 0)) = W6 at *
            go_roundw
            case rel => exact ⟨i + 1, ln2, kd2, g2, s', x, by rw [HPn.out], by go_num, by omega, HQ6, by rw [HPZ.out]; exact HSM2, by rw [HPZ.out]; exact HG2, HXU⟩
            case measure => simp [intOf]; omega
        have hik1 : ¬ ((i : Int) ≤ (k : Int)) := by omega
        obtain rfl : k + 1 = i := by omega
        go_wp2_with fail
        go_roundw
        case rel => exact ⟨r + 1, ln, kd, g, s, x, rfl, by go_num, by omega, HQ, by rw [Nat.add_mul, Nat.one_mul]; exact HSM, HGO, HXU⟩
        case measure => simp [intOf]; omega
    have hre : r = 60 + 40 * k := by omega
    have hrf : ¬ ((r : Int) < 60 + 40 * (k : Int)) := by omega
    obtain ⟨hn1, hgs⟩ := bo_end hk5 fr r (by omega) (boRuns_len k fr 23)
    have HG2 : Hid (∀ j, j < k → 2 ≤ g j) := Lib.hid (fun j hj => by have := HGO.out j hj; have := hgs j hj; omega)
    have hnI : (1 : Int) ≤ (((boRuns k fr r).n : Nat) : Int) := by omega
    clear hgs HGO HSM
    generalize (boRuns k fr r).n = zn at *
    go_wp2_with fail
    go_loopw [16] (fun vm wx => ∃ m : Nat, vm = .int .i64 m ∧ m ≤ k ∧ Hid (BoW w wx ⟨H, A, G, R, S, B⟩ k ln kd g s x)) (fun vm _ => k - (intOf vm).toNat)
    case atStart => exact ⟨0, rfl, by omega, HQ⟩
    case round =>
      clear HQ
      obtain ⟨m, rfl, hm, HQ⟩ := hrel
      by_cases hmk : m < k
      · have cg := HQ.out.got.cell hmk
        dsimp only at cg
        have hg2 := HG2.out m hmk
        have d1 : decide (g m < 2) = false := decide_eq_false (by omega)
        have hmI : (m : Int) < (k : Int) := by omega
        have hm0 : (0 : Int) ≤ (m : Int) := by omega
        have hm1 : IntKind.i64.wrap ((m : Int) + 1) = (m : Int) + 1 := IntWalk.i64_in _ (by omega)
        generalize g m = gm at *
        clear hg2
        go_wp2_with fail
        go_roundw
        case rel => exact ⟨m + 1, by go_num, by omega, HQ⟩
        case measure => simp [intOf]; omega
      have hmf : ¬ ((m : Int) < (k : Int)) := by omega
      have d2 : decide ((1 : Int) ≤ ((zn : Nat) : Int)) = true := decide_eq_true hnI
      clear hnI
      go_wp2_with fail
      go_ret
      exact ⟨rfl, HQ.out.old⟩
end Go.Proofs.YtjmbahdlgnobaaaDoor
