/- A step of the collector: the lines are given to layers by functions in a list. -/
import Derived.Test.YtbpooljohjkbjaaGreatDoorM13
namespace Go.Proofs.YtbpooljohjkbjaaGreatDoor
open Go Go.RowKit
set_option maxRecDepth 100000
attribute [local go_sem ↓] Go.wp_at_zero Go.wp_at_succ
set_option maxHeartbeats 12800000 in
theorem col_c {w : World} {H A G : Nat} {C : Cf} {s : Dy} (hH : HAt w H A G C s) (hu : s.U) (hS : SpansAt w) (hr : Right C.a C.b C.c C.d) (hn : 0 < C.n) (x : Co) (hx : x.U) (hb : -1000000 ≤ x.j ∧ x.j ≤ 1000000 ∧ -1000000 ≤ x.c ∧ x.c ≤ 1000000 ∧ -1000000 ≤ x.m ∧ x.m ≤ 1000000 ∧ -1000000 ≤ x.cy ∧ x.cy ≤ 1000000) :
    Calls Tryz.prog 44 #[.pointer (some ⟨H, 0, none⟩), x.v] w (HP w H A G C (colS C s x).1 (.tuple #[(colS C s x).2.1.v, .int .i64 (colS C s x).2.2])) := by
  obtain ⟨l, j, c, m, a, p, fd, tl, cy⟩ := x
  obtain ⟨Lf, hLf⟩ : ∃ Lf, layN C s.clr ⟨l, j, c, m, a, p, fd, tl, cy⟩ = Lf := ⟨_, rfl⟩
  have HL0 : Hid (∀ W Q, LayAt W Q → HAt W H A G C s.clr → SpansAt W → Calls Tryz.prog 122 #[.pointer (some ⟨H, 0, none⟩), (colV l j c m a p fd tl cy), .pointer (some ⟨Q, 0, none⟩)] W (HP W H A G C (Lf 0).1 (.tuple #[(Lf 0).2.1.v, .int .i64 (Lf 0).2.2.1, .bool (Lf 0).2.2.2]))) := Lib.hid (fun W Q hL h hs => by rw [← hLf]; exact lay0_c h (Dy.clr_U hu) hs hr hn ⟨l, j, c, m, a, p, fd, tl, cy⟩ hx hb (Q := Q) hL)
  have HL1 : Hid (∀ W Q, LayAt W Q → HAt W H A G C s.clr → SpansAt W → Calls Tryz.prog 122 #[.pointer (some ⟨H, 0, none⟩), (colV l j c m a p fd tl cy), .pointer (some ⟨Q + 1, 0, none⟩)] W (HP W H A G C (Lf 1).1 (.tuple #[(Lf 1).2.1.v, .int .i64 (Lf 1).2.2.1, .bool (Lf 1).2.2.2]))) := Lib.hid (fun W Q hL h hs => by rw [← hLf]; exact lay1_c h (Dy.clr_U hu) hs hr hn ⟨l, j, c, m, a, p, fd, tl, cy⟩ hx hb (Q := Q) hL)
  have HL2 : Hid (∀ W Q, LayAt W Q → HAt W H A G C s.clr → SpansAt W → Calls Tryz.prog 106 #[.pointer (some ⟨H, 0, none⟩), (colV l j c m a p fd tl cy)] W (HP W H A G C (Lf 2).1 (.tuple #[(Lf 2).2.1.v, .int .i64 (Lf 2).2.2.1, .bool (Lf 2).2.2.2]))) := Lib.hid (fun W Q hL h hs => by rw [← hLf]; exact lay2_c h (Dy.clr_U hu) hs hr hn ⟨l, j, c, m, a, p, fd, tl, cy⟩ hx hb (Q := Q) hL)
  have HL3 : Hid (∀ W Q, LayAt W Q → HAt W H A G C s.clr → SpansAt W → Calls Tryz.prog 107 #[.pointer (some ⟨H, 0, none⟩), (colV l j c m a p fd tl cy)] W (HP W H A G C (Lf 3).1 (.tuple #[(Lf 3).2.1.v, .int .i64 (Lf 3).2.2.1, .bool (Lf 3).2.2.2]))) := Lib.hid (fun W Q hL h hs => by rw [← hLf]; exact lay3_c h (Dy.clr_U hu) hs hr hn ⟨l, j, c, m, a, p, fd, tl, cy⟩ hx hb (Q := Q) hL)
  obtain ⟨sf, ⟨le, je, ce, me, ae, pe, fde, tle, cye⟩, wf, hcf⟩ : ∃ sf xf wf, colS C s ⟨l, j, c, m, a, p, fd, tl, cy⟩ = (sf, xf, wf) := ⟨_, _, _, rfl⟩
  have HYes : Hid (∀ k, (Lf k).2.2.2 = true → (Lf k).1 = sf ∧ (Lf k).2.1 = ⟨le, je, ce, me, ae, pe, fde, tle, cye⟩ ∧ (Lf k).2.2.1 = wf) := Lib.hid (fun k h => by rw [← hLf] at h ⊢; have e := lay_yes h; rw [hcf] at e; rw [e]; exact ⟨rfl, rfl, rfl⟩)
  have HNo : Hid (∀ k, (Lf k).2.2.2 = false → (Lf k).1 = s.clr ∧ (Lf k).2.1 = ⟨l, j, c, m, a, p, fd, tl, cy⟩ ∧ (Lf k).2.2.1 = 0) := Lib.hid (fun k h => by rw [← hLf] at h ⊢; rw [lay_no h]; exact ⟨rfl, rfl, rfl⟩)
  have HNn : Hid ((∀ i, i < 4 → (Lf i).2.2.2 = false) → sf = s.clr ∧ (⟨le, je, ce, me, ae, pe, fde, tle, cye⟩ : Co) = ⟨l, j, c, m, a, p, fd, tl, cy⟩ ∧ wf = 0) := Lib.hid (fun h => by rw [← hLf] at h; have e := lay_none h; rw [hcf] at e; injection e with e1 e2; injection e2 with e2 e3; exact ⟨e1, e2, e3⟩)
  rw [hcf]
  clear hcf hLf
  have HSP : Hid (∀ W s1 x1 y1, ColG w W H A G C s1 x1 y1 → SpansAt W) := Lib.hid (fun W s1 x1 y1 h => spans_sav hn hS hH h.sav)
  have HG0 := Lib.hid (ColG.start (ColF.start hH ⟨l, j, c, m, a, p, fd, tl, cy⟩))
  have HCl : Hid (∀ W s, HAt W H A G C s → Calls Tryz.prog 78 #[.pointer (some ⟨H, 0, none⟩)] W (HP W H A G C s.clr (.tuple #[]))) := Lib.hid (fun W s h => hClear_c h)
  have HLy := Lib.hid (fun W => layers_c W)
  clear hH hu hS hr hn hx hb
  go_enter Tryz.func44, Tryz.ntmps44
  go_wp2_with fail
  refine (HCl.out _ s HG0.out.hand).mono ?_
  rintro e V ⟨rfl, hF, hs⟩
  have HG1 := Lib.hid (HG0.out.handed hF hs)
  clear hF hs HCl HG0
  go_wp2_with fail
  refine (HLy.out _).mono ?_
  rintro e V2 ⟨rfl, hb, hLa⟩
  have HG2 := Lib.hid (HG1.out.below hb)
  have hQw : w.heap.size + 1 < V.heap.size := HG1.out.res.lt
  have HLA2 := Lib.hid hLa
  clear hb hLa HG1 HLy
  generalize V.heap.size = Q at *
  have hlH : H < w.heap.size := HG2.out.lH
  have hlG : G < w.heap.size := HG2.out.lG
  have hne : ∀ z, w.heap.size ≤ z → ¬ HG H G z := fun z hz e => e.elim (by omega) (by omega)
  go_wp2_with fail
  go_loopw [15] (fun kv wr => ∃ k : Nat, kv = .int .i64 k ∧ k ≤ 4 ∧ Hid (ColG w wr H A G C s.clr ⟨l, j, c, m, a, p, fd, tl, cy⟩ ⟨0, 0, 0, 0, 0, 0, false, 0, 0⟩) ∧ Hid (LayAt wr Q) ∧ Hid (∀ i, i < k → (Lf i).2.2.2 = false)) (fun kv _ => 4 - (intOf kv).toNat)
  case atStart => exact ⟨0, rfl, by omega, HG2, HLA2, Lib.hid (fun i hi => absurd hi (by omega))⟩
  case round =>
    clear HG2 HLA2
    obtain ⟨k, rfl, hk, HG, HLA, HN⟩ := hrel
    by_cases k0 : k = 0
    · obtain rfl : k = 0 := by omega
      have cq : wr.cell? ⟨Q + 1 + 1, 0, none⟩ = some (.func (.func 122) #[] #[.pointer (some ⟨Q, 0, none⟩)]) := by simp [World.cell?, HLA.out.q2]
      obtain ⟨q, hq⟩ : ∃ q, Lf 0 = q := ⟨_, rfl⟩
      have HK := HL0.out wr Q HLA.out HG.out.hand (HSP.out _ _ _ _ HG.out)
      have hYes := HYes.out 0
      have hNo := HNo.out 0
      rw [hq] at HK hYes hNo
      obtain ⟨sk, ⟨lz, jz, cz, mz, az, pz, fdz, tlz, cyz⟩, wk, ok⟩ := q
      dsimp only at HK hYes hNo
      have HK2 := Lib.hid HK
      clear HK
      obtain ⟨a0, a1, a2, a3, a4, a5, a6, a7, a8, af⟩ := HG.out.cells
      dsimp only at a0 a1 a2 a3 a4 a5 a6 a7 a8
      cases ok
      · obtain ⟨rfl, hx1, rfl⟩ := hNo rfl
        obtain ⟨rfl, rfl, rfl, rfl, rfl, rfl, rfl, rfl, rfl⟩ := hx1
        clear hYes hNo
        go_wp2_with fail
        refine HK2.out.mono ?_
        rintro e V1 ⟨rfl, hF, hs⟩
        have HG3 := Lib.hid (HG.out.handed hF hs)
        have HA3 := Lib.hid (HLA.out.keep hs (hne Q (by omega)) (hne (Q + 1) (by omega)) (hne (Q + 1 + 1) (by omega)))
        clear hF hs HK2 HG HLA cq a0 a1 a2 a3 a4 a5 a6 a7 a8 af
        go_upto_region 6 with fail
        have HG4 := Lib.hid (HG3.out.below (below_new _ (.cells #[.int .i64 l, .int .i64 j, .int .i64 c, .int .i64 m, .int .u64 a, .int .u64 p, .bool fd, .int .i64 tl, .int .i64 cy] 49)))
        have HA4 := Lib.hid (HA3.out.below (below_new _ (.cells #[.int .i64 l, .int .i64 j, .int .i64 c, .int .i64 m, .int .u64 a, .int .u64 p, .bool fd, .int .i64 tl, .int .i64 cy] 49)))
        have HX4 := Lib.hid (Col9.new V1 l j c m a p fd tl cy)
        clear HG3 HA3
        generalize V1.heap.size = B4 at *
        generalize V1.alloc (.cells #[.int .i64 l, .int .i64 j, .int .i64 c, .int .i64 m, .int .u64 a, .int .u64 p, .bool fd, .int .i64 tl, .int .i64 cy] 49) = W4 at *
        clear HX4
        go_wp2_with fail
        go_roundw
        case rel => exact ⟨0 + 1, by first | rfl | go_num, by omega, HG4, HA4, Lib.hid (fun i hi => (Nat.lt_succ_iff_lt_or_eq.1 hi).elim (fun h => HN.out i h) (fun h => by rw [h, hq]))⟩
        case measure => simp [intOf]
      · obtain ⟨rfl, hx1, rfl⟩ := hYes rfl
        obtain ⟨rfl, rfl, rfl, rfl, rfl, rfl, rfl, rfl, rfl⟩ := hx1
        clear hYes hNo
        go_wp2_with fail
        refine HK2.out.mono ?_
        rintro e V1 ⟨rfl, hF, hs⟩
        have HG3 := Lib.hid (HG.out.handed hF hs)
        have HA3 := Lib.hid (HLA.out.keep hs (hne Q (by omega)) (hne (Q + 1) (by omega)) (hne (Q + 1 + 1) (by omega)))
        clear hF hs HK2 HG HLA cq a0 a1 a2 a3 a4 a5 a6 a7 a8 af
        go_upto_region 6 with fail
        have HG4 := Lib.hid (HG3.out.below (below_new _ (.cells #[.int .i64 le, .int .i64 je, .int .i64 ce, .int .i64 me, .int .u64 ae, .int .u64 pe, .bool fde, .int .i64 tle, .int .i64 cye] 49)))
        have HA4 := Lib.hid (HA3.out.below (below_new _ (.cells #[.int .i64 le, .int .i64 je, .int .i64 ce, .int .i64 me, .int .u64 ae, .int .u64 pe, .bool fde, .int .i64 tle, .int .i64 cye] 49)))
        have HX4 := Lib.hid (Col9.new V1 le je ce me ae pe fde tle cye)
        clear HG3 HA3
        generalize V1.heap.size = B4 at *
        generalize V1.alloc (.cells #[.int .i64 le, .int .i64 je, .int .i64 ce, .int .i64 me, .int .u64 ae, .int .u64 pe, .bool fde, .int .i64 tle, .int .i64 cye] 49) = W4 at *
        obtain ⟨b0, b1, b2, b3, b4, b5, b6, b7, b8, bf⟩ := HX4.out.cells
        obtain ⟨c0, c1, c2, c3, c4, c5, c6, c7, c8, cf⟩ := HG4.out.cellsY
        dsimp only at c0 c1 c2 c3 c4 c5 c6 c7 c8
        have HGe := Lib.hid (HG4.out.putY ⟨le, je, ce, me, ae, pe, fde, tle, cye⟩)
        obtain ⟨s0, s1, s2, s3, s4, s5, s6, s7, s8, sf⟩ := HGe.out.cellsY
        dsimp only at s0 s1 s2 s3 s4 s5 s6 s7 s8
        clear HX4 HG4 HA4 HN HNn HYes HNo HL0 HL1 HL2 HL3 HSP hne hq
        go_wp2_with fail
        refine bodyPost_ret (v := .tuple #[(colV le je ce me ae pe fde tle cye), .int .i64 wk]) (by simp [results, Tryz.f44, go_sem, s0, s1, s2, s3, s4, s5, s6, s7, s8]) rfl ?_
        exact ⟨rfl, HGe.out.hand, HGe.out.sav⟩
    by_cases k1 : k = 1
    · obtain rfl : k = 1 := by omega
      have cq : wr.cell? ⟨Q + 1 + 1, 1, none⟩ = some (.func (.func 122) #[] #[.pointer (some ⟨(Q + 1), 0, none⟩)]) := by simp [World.cell?, HLA.out.q2]
      obtain ⟨q, hq⟩ : ∃ q, Lf 1 = q := ⟨_, rfl⟩
      have HK := HL1.out wr Q HLA.out HG.out.hand (HSP.out _ _ _ _ HG.out)
      have hYes := HYes.out 1
      have hNo := HNo.out 1
      rw [hq] at HK hYes hNo
      obtain ⟨sk, ⟨lz, jz, cz, mz, az, pz, fdz, tlz, cyz⟩, wk, ok⟩ := q
      dsimp only at HK hYes hNo
      have HK2 := Lib.hid HK
      clear HK
      obtain ⟨a0, a1, a2, a3, a4, a5, a6, a7, a8, af⟩ := HG.out.cells
      dsimp only at a0 a1 a2 a3 a4 a5 a6 a7 a8
      cases ok
      · obtain ⟨rfl, hx1, rfl⟩ := hNo rfl
        obtain ⟨rfl, rfl, rfl, rfl, rfl, rfl, rfl, rfl, rfl⟩ := hx1
        clear hYes hNo
        go_wp2_with fail
        refine HK2.out.mono ?_
        rintro e V1 ⟨rfl, hF, hs⟩
        have HG3 := Lib.hid (HG.out.handed hF hs)
        have HA3 := Lib.hid (HLA.out.keep hs (hne Q (by omega)) (hne (Q + 1) (by omega)) (hne (Q + 1 + 1) (by omega)))
        clear hF hs HK2 HG HLA cq a0 a1 a2 a3 a4 a5 a6 a7 a8 af
        go_upto_region 6 with fail
        have HG4 := Lib.hid (HG3.out.below (below_new _ (.cells #[.int .i64 l, .int .i64 j, .int .i64 c, .int .i64 m, .int .u64 a, .int .u64 p, .bool fd, .int .i64 tl, .int .i64 cy] 49)))
        have HA4 := Lib.hid (HA3.out.below (below_new _ (.cells #[.int .i64 l, .int .i64 j, .int .i64 c, .int .i64 m, .int .u64 a, .int .u64 p, .bool fd, .int .i64 tl, .int .i64 cy] 49)))
        have HX4 := Lib.hid (Col9.new V1 l j c m a p fd tl cy)
        clear HG3 HA3
        generalize V1.heap.size = B4 at *
        generalize V1.alloc (.cells #[.int .i64 l, .int .i64 j, .int .i64 c, .int .i64 m, .int .u64 a, .int .u64 p, .bool fd, .int .i64 tl, .int .i64 cy] 49) = W4 at *
        clear HX4
        go_wp2_with fail
        go_roundw
        case rel => exact ⟨1 + 1, by first | rfl | go_num, by omega, HG4, HA4, Lib.hid (fun i hi => (Nat.lt_succ_iff_lt_or_eq.1 hi).elim (fun h => HN.out i h) (fun h => by rw [h, hq]))⟩
        case measure => simp [intOf]
      · obtain ⟨rfl, hx1, rfl⟩ := hYes rfl
        obtain ⟨rfl, rfl, rfl, rfl, rfl, rfl, rfl, rfl, rfl⟩ := hx1
        clear hYes hNo
        go_wp2_with fail
        refine HK2.out.mono ?_
        rintro e V1 ⟨rfl, hF, hs⟩
        have HG3 := Lib.hid (HG.out.handed hF hs)
        have HA3 := Lib.hid (HLA.out.keep hs (hne Q (by omega)) (hne (Q + 1) (by omega)) (hne (Q + 1 + 1) (by omega)))
        clear hF hs HK2 HG HLA cq a0 a1 a2 a3 a4 a5 a6 a7 a8 af
        go_upto_region 6 with fail
        have HG4 := Lib.hid (HG3.out.below (below_new _ (.cells #[.int .i64 le, .int .i64 je, .int .i64 ce, .int .i64 me, .int .u64 ae, .int .u64 pe, .bool fde, .int .i64 tle, .int .i64 cye] 49)))
        have HA4 := Lib.hid (HA3.out.below (below_new _ (.cells #[.int .i64 le, .int .i64 je, .int .i64 ce, .int .i64 me, .int .u64 ae, .int .u64 pe, .bool fde, .int .i64 tle, .int .i64 cye] 49)))
        have HX4 := Lib.hid (Col9.new V1 le je ce me ae pe fde tle cye)
        clear HG3 HA3
        generalize V1.heap.size = B4 at *
        generalize V1.alloc (.cells #[.int .i64 le, .int .i64 je, .int .i64 ce, .int .i64 me, .int .u64 ae, .int .u64 pe, .bool fde, .int .i64 tle, .int .i64 cye] 49) = W4 at *
        obtain ⟨b0, b1, b2, b3, b4, b5, b6, b7, b8, bf⟩ := HX4.out.cells
        obtain ⟨c0, c1, c2, c3, c4, c5, c6, c7, c8, cf⟩ := HG4.out.cellsY
        dsimp only at c0 c1 c2 c3 c4 c5 c6 c7 c8
        have HGe := Lib.hid (HG4.out.putY ⟨le, je, ce, me, ae, pe, fde, tle, cye⟩)
        obtain ⟨s0, s1, s2, s3, s4, s5, s6, s7, s8, sf⟩ := HGe.out.cellsY
        dsimp only at s0 s1 s2 s3 s4 s5 s6 s7 s8
        clear HX4 HG4 HA4 HN HNn HYes HNo HL0 HL1 HL2 HL3 HSP hne hq
        go_wp2_with fail
        refine bodyPost_ret (v := .tuple #[(colV le je ce me ae pe fde tle cye), .int .i64 wk]) (by simp [results, Tryz.f44, go_sem, s0, s1, s2, s3, s4, s5, s6, s7, s8]) rfl ?_
        exact ⟨rfl, HGe.out.hand, HGe.out.sav⟩
    by_cases k2 : k = 2
    · obtain rfl : k = 2 := by omega
      have cq : wr.cell? ⟨Q + 1 + 1, 2, none⟩ = some (.func (.func 106) #[] #[]) := by simp [World.cell?, HLA.out.q2]
      obtain ⟨q, hq⟩ : ∃ q, Lf 2 = q := ⟨_, rfl⟩
      have HK := HL2.out wr Q HLA.out HG.out.hand (HSP.out _ _ _ _ HG.out)
      have hYes := HYes.out 2
      have hNo := HNo.out 2
      rw [hq] at HK hYes hNo
      obtain ⟨sk, ⟨lz, jz, cz, mz, az, pz, fdz, tlz, cyz⟩, wk, ok⟩ := q
      dsimp only at HK hYes hNo
      have HK2 := Lib.hid HK
      clear HK
      obtain ⟨a0, a1, a2, a3, a4, a5, a6, a7, a8, af⟩ := HG.out.cells
      dsimp only at a0 a1 a2 a3 a4 a5 a6 a7 a8
      cases ok
      · obtain ⟨rfl, hx1, rfl⟩ := hNo rfl
        obtain ⟨rfl, rfl, rfl, rfl, rfl, rfl, rfl, rfl, rfl⟩ := hx1
        clear hYes hNo
        go_wp2_with fail
        refine HK2.out.mono ?_
        rintro e V1 ⟨rfl, hF, hs⟩
        have HG3 := Lib.hid (HG.out.handed hF hs)
        have HA3 := Lib.hid (HLA.out.keep hs (hne Q (by omega)) (hne (Q + 1) (by omega)) (hne (Q + 1 + 1) (by omega)))
        clear hF hs HK2 HG HLA cq a0 a1 a2 a3 a4 a5 a6 a7 a8 af
        go_upto_region 6 with fail
        have HG4 := Lib.hid (HG3.out.below (below_new _ (.cells #[.int .i64 l, .int .i64 j, .int .i64 c, .int .i64 m, .int .u64 a, .int .u64 p, .bool fd, .int .i64 tl, .int .i64 cy] 49)))
        have HA4 := Lib.hid (HA3.out.below (below_new _ (.cells #[.int .i64 l, .int .i64 j, .int .i64 c, .int .i64 m, .int .u64 a, .int .u64 p, .bool fd, .int .i64 tl, .int .i64 cy] 49)))
        have HX4 := Lib.hid (Col9.new V1 l j c m a p fd tl cy)
        clear HG3 HA3
        generalize V1.heap.size = B4 at *
        generalize V1.alloc (.cells #[.int .i64 l, .int .i64 j, .int .i64 c, .int .i64 m, .int .u64 a, .int .u64 p, .bool fd, .int .i64 tl, .int .i64 cy] 49) = W4 at *
        clear HX4
        go_wp2_with fail
        go_roundw
        case rel => exact ⟨2 + 1, by first | rfl | go_num, by omega, HG4, HA4, Lib.hid (fun i hi => (Nat.lt_succ_iff_lt_or_eq.1 hi).elim (fun h => HN.out i h) (fun h => by rw [h, hq]))⟩
        case measure => simp [intOf]
      · obtain ⟨rfl, hx1, rfl⟩ := hYes rfl
        obtain ⟨rfl, rfl, rfl, rfl, rfl, rfl, rfl, rfl, rfl⟩ := hx1
        clear hYes hNo
        go_wp2_with fail
        refine HK2.out.mono ?_
        rintro e V1 ⟨rfl, hF, hs⟩
        have HG3 := Lib.hid (HG.out.handed hF hs)
        have HA3 := Lib.hid (HLA.out.keep hs (hne Q (by omega)) (hne (Q + 1) (by omega)) (hne (Q + 1 + 1) (by omega)))
        clear hF hs HK2 HG HLA cq a0 a1 a2 a3 a4 a5 a6 a7 a8 af
        go_upto_region 6 with fail
        have HG4 := Lib.hid (HG3.out.below (below_new _ (.cells #[.int .i64 le, .int .i64 je, .int .i64 ce, .int .i64 me, .int .u64 ae, .int .u64 pe, .bool fde, .int .i64 tle, .int .i64 cye] 49)))
        have HA4 := Lib.hid (HA3.out.below (below_new _ (.cells #[.int .i64 le, .int .i64 je, .int .i64 ce, .int .i64 me, .int .u64 ae, .int .u64 pe, .bool fde, .int .i64 tle, .int .i64 cye] 49)))
        have HX4 := Lib.hid (Col9.new V1 le je ce me ae pe fde tle cye)
        clear HG3 HA3
        generalize V1.heap.size = B4 at *
        generalize V1.alloc (.cells #[.int .i64 le, .int .i64 je, .int .i64 ce, .int .i64 me, .int .u64 ae, .int .u64 pe, .bool fde, .int .i64 tle, .int .i64 cye] 49) = W4 at *
        obtain ⟨b0, b1, b2, b3, b4, b5, b6, b7, b8, bf⟩ := HX4.out.cells
        obtain ⟨c0, c1, c2, c3, c4, c5, c6, c7, c8, cf⟩ := HG4.out.cellsY
        dsimp only at c0 c1 c2 c3 c4 c5 c6 c7 c8
        have HGe := Lib.hid (HG4.out.putY ⟨le, je, ce, me, ae, pe, fde, tle, cye⟩)
        obtain ⟨s0, s1, s2, s3, s4, s5, s6, s7, s8, sf⟩ := HGe.out.cellsY
        dsimp only at s0 s1 s2 s3 s4 s5 s6 s7 s8
        clear HX4 HG4 HA4 HN HNn HYes HNo HL0 HL1 HL2 HL3 HSP hne hq
        go_wp2_with fail
        refine bodyPost_ret (v := .tuple #[(colV le je ce me ae pe fde tle cye), .int .i64 wk]) (by simp [results, Tryz.f44, go_sem, s0, s1, s2, s3, s4, s5, s6, s7, s8]) rfl ?_
        exact ⟨rfl, HGe.out.hand, HGe.out.sav⟩
    by_cases k3 : k = 3
    · obtain rfl : k = 3 := by omega
      have cq : wr.cell? ⟨Q + 1 + 1, 3, none⟩ = some (.func (.func 107) #[] #[]) := by simp [World.cell?, HLA.out.q2]
      obtain ⟨q, hq⟩ : ∃ q, Lf 3 = q := ⟨_, rfl⟩
      have HK := HL3.out wr Q HLA.out HG.out.hand (HSP.out _ _ _ _ HG.out)
      have hYes := HYes.out 3
      have hNo := HNo.out 3
      rw [hq] at HK hYes hNo
      obtain ⟨sk, ⟨lz, jz, cz, mz, az, pz, fdz, tlz, cyz⟩, wk, ok⟩ := q
      dsimp only at HK hYes hNo
      have HK2 := Lib.hid HK
      clear HK
      obtain ⟨a0, a1, a2, a3, a4, a5, a6, a7, a8, af⟩ := HG.out.cells
      dsimp only at a0 a1 a2 a3 a4 a5 a6 a7 a8
      cases ok
      · obtain ⟨rfl, hx1, rfl⟩ := hNo rfl
        obtain ⟨rfl, rfl, rfl, rfl, rfl, rfl, rfl, rfl, rfl⟩ := hx1
        clear hYes hNo
        go_wp2_with fail
        refine HK2.out.mono ?_
        rintro e V1 ⟨rfl, hF, hs⟩
        have HG3 := Lib.hid (HG.out.handed hF hs)
        have HA3 := Lib.hid (HLA.out.keep hs (hne Q (by omega)) (hne (Q + 1) (by omega)) (hne (Q + 1 + 1) (by omega)))
        clear hF hs HK2 HG HLA cq a0 a1 a2 a3 a4 a5 a6 a7 a8 af
        go_upto_region 6 with fail
        have HG4 := Lib.hid (HG3.out.below (below_new _ (.cells #[.int .i64 l, .int .i64 j, .int .i64 c, .int .i64 m, .int .u64 a, .int .u64 p, .bool fd, .int .i64 tl, .int .i64 cy] 49)))
        have HA4 := Lib.hid (HA3.out.below (below_new _ (.cells #[.int .i64 l, .int .i64 j, .int .i64 c, .int .i64 m, .int .u64 a, .int .u64 p, .bool fd, .int .i64 tl, .int .i64 cy] 49)))
        have HX4 := Lib.hid (Col9.new V1 l j c m a p fd tl cy)
        clear HG3 HA3
        generalize V1.heap.size = B4 at *
        generalize V1.alloc (.cells #[.int .i64 l, .int .i64 j, .int .i64 c, .int .i64 m, .int .u64 a, .int .u64 p, .bool fd, .int .i64 tl, .int .i64 cy] 49) = W4 at *
        clear HX4
        go_wp2_with fail
        go_roundw
        case rel => exact ⟨3 + 1, by first | rfl | go_num, by omega, HG4, HA4, Lib.hid (fun i hi => (Nat.lt_succ_iff_lt_or_eq.1 hi).elim (fun h => HN.out i h) (fun h => by rw [h, hq]))⟩
        case measure => simp [intOf]
      · obtain ⟨rfl, hx1, rfl⟩ := hYes rfl
        obtain ⟨rfl, rfl, rfl, rfl, rfl, rfl, rfl, rfl, rfl⟩ := hx1
        clear hYes hNo
        go_wp2_with fail
        refine HK2.out.mono ?_
        rintro e V1 ⟨rfl, hF, hs⟩
        have HG3 := Lib.hid (HG.out.handed hF hs)
        have HA3 := Lib.hid (HLA.out.keep hs (hne Q (by omega)) (hne (Q + 1) (by omega)) (hne (Q + 1 + 1) (by omega)))
        clear hF hs HK2 HG HLA cq a0 a1 a2 a3 a4 a5 a6 a7 a8 af
        go_upto_region 6 with fail
        have HG4 := Lib.hid (HG3.out.below (below_new _ (.cells #[.int .i64 le, .int .i64 je, .int .i64 ce, .int .i64 me, .int .u64 ae, .int .u64 pe, .bool fde, .int .i64 tle, .int .i64 cye] 49)))
        have HA4 := Lib.hid (HA3.out.below (below_new _ (.cells #[.int .i64 le, .int .i64 je, .int .i64 ce, .int .i64 me, .int .u64 ae, .int .u64 pe, .bool fde, .int .i64 tle, .int .i64 cye] 49)))
        have HX4 := Lib.hid (Col9.new V1 le je ce me ae pe fde tle cye)
        clear HG3 HA3
        generalize V1.heap.size = B4 at *
        generalize V1.alloc (.cells #[.int .i64 le, .int .i64 je, .int .i64 ce, .int .i64 me, .int .u64 ae, .int .u64 pe, .bool fde, .int .i64 tle, .int .i64 cye] 49) = W4 at *
        obtain ⟨b0, b1, b2, b3, b4, b5, b6, b7, b8, bf⟩ := HX4.out.cells
        obtain ⟨c0, c1, c2, c3, c4, c5, c6, c7, c8, cf⟩ := HG4.out.cellsY
        dsimp only at c0 c1 c2 c3 c4 c5 c6 c7 c8
        have HGe := Lib.hid (HG4.out.putY ⟨le, je, ce, me, ae, pe, fde, tle, cye⟩)
        obtain ⟨s0, s1, s2, s3, s4, s5, s6, s7, s8, sf⟩ := HGe.out.cellsY
        dsimp only at s0 s1 s2 s3 s4 s5 s6 s7 s8
        clear HX4 HG4 HA4 HN HNn HYes HNo HL0 HL1 HL2 HL3 HSP hne hq
        go_wp2_with fail
        refine bodyPost_ret (v := .tuple #[(colV le je ce me ae pe fde tle cye), .int .i64 wk]) (by simp [results, Tryz.f44, go_sem, s0, s1, s2, s3, s4, s5, s6, s7, s8]) rfl ?_
        exact ⟨rfl, HGe.out.hand, HGe.out.sav⟩
    obtain rfl : k = 4 := by omega
    obtain ⟨rfl, hx1, rfl⟩ := HNn.out HN.out
    obtain ⟨rfl, rfl, rfl, rfl, rfl, rfl, rfl, rfl, rfl⟩ := hx1
    clear HNn HYes HNo HL0 HL1 HL2 HL3 HSP hne HN HLA
    obtain ⟨a0, a1, a2, a3, a4, a5, a6, a7, a8, af⟩ := HG.out.cells
    dsimp only at a0 a1 a2 a3 a4 a5 a6 a7 a8
    obtain ⟨c0, c1, c2, c3, c4, c5, c6, c7, c8, cf⟩ := HG.out.cellsY
    dsimp only at c0 c1 c2 c3 c4 c5 c6 c7 c8
    have HGe := Lib.hid (HG.out.putY ⟨l, j, c, m, a, p, fd, tl, cy⟩)
    obtain ⟨s0, s1, s2, s3, s4, s5, s6, s7, s8, sf⟩ := HGe.out.cellsY
    dsimp only at s0 s1 s2 s3 s4 s5 s6 s7 s8
    clear k0 k1 k2 k3 hk
    go_upto_region 9 with fail
    clear hQw hlH hlG
    go_wp2_with fail
    refine bodyPost_ret (v := .tuple #[(colV l j c m a p fd tl cy), .int .i64 0]) (by simp [results, Tryz.f44, go_sem, s0, s1, s2, s3, s4, s5, s6, s7, s8]) rfl ?_
    exact ⟨rfl, HGe.out.hand, HGe.out.sav⟩
end Go.Proofs.YtbpooljohjkbjaaGreatDoor
