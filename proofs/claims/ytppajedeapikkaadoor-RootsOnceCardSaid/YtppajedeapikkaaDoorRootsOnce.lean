/- RootsOnce answers true: gone through once more, the roots change no colour; a root that has no cell takes one step, any other one two. -/
import Derived.Test.YtppajedeapikkaaDoorRootsShades
namespace Go.Proofs.YtppajedeapikkaaDoor
open Go Go.RowKit
set_option maxRecDepth 100000
attribute [local go_sem ↓] Go.wp_at_zero Go.wp_at_succ

/-- Before the last step the collector is on line 1 or 2; behind it on line 3. -/
theorem RtSt.on {C : Cf} {f0 f : Nat → Int} {k : Nat} {x : Co} (h : RtSt C f0 f k x) (hk : k < stepsN C f0 (rootsN C).toNat) : x.l = 1 ∨ x.l = 2 := by
  rcases h.line with e | e | ⟨e, ej, en⟩
  · exact .inl e.1
  · exact .inr e.1
  · rw [ej] at en; omega
theorem RtSt.last {C : Cf} {f0 f : Nat → Int} {k : Nat} {x : Co} (h : RtSt C f0 f k x) (hk : k = stepsN C f0 (rootsN C).toNat) : x.l = 3 ∧ x.j = rootsN C := by
  rcases h.line with ⟨_, j0, j1, hn⟩ | ⟨_, j0, j1, hn, hp, hc⟩ | e
  · have hm := stepsN_mono C f0 (j := x.j.toNat) (k := (rootsN C).toNat) (by omega)
    omega
  · have hm := stepsN_mono C f0 (j := x.j.toNat + 1) (k := (rootsN C).toNat) (by omega)
    have h2 : stepsN C f0 (x.j.toNat + 1) = stepsN C f0 x.j.toNat + (if isC (rootW C f0 (x.j.toNat : Nat)).toNat then 2 else 1) := rfl
    rw [show ((x.j.toNat : Nat) : Int) = x.j by omega, ← hp, if_pos hc] at h2
    omega
  · exact ⟨e.1, e.2.1⟩
/-- The roots' words are what they were: as many steps are taken. -/
theorem RtNear.steps {C : Cf} (hC : CfOK C) {f0 f : Nat → Int} (h : RtNear C f0 f) : ∀ k : Nat, (k : Int) ≤ rootsN C → stepsN C f k = stepsN C f0 k
  | 0, _ => rfl
  | k + 1, hk => by
    have e := h.root hC (j := (k : Int)) (by omega) (by omega)
    have ih := RtNear.steps hC h k (by omega)
    show stepsN C f k + (if isC (rootW C f k).toNat then 2 else 1) = stepsN C f0 k + _
    rw [e, ih]
theorem stepsN_cell (C : Cf) (f : Nat → Int) (k u : Nat) (h : rootW C f (k : Int) = (u : Int)) (hc : isC u) : stepsN C f (k + 1) = stepsN C f k + 1 + 1 := by
  show stepsN C f k + (if isC (rootW C f k).toNat then 2 else 1) = _
  rw [h, Int.toNat_natCast, if_pos hc]
theorem stepsN_none (C : Cf) (f : Nat → Int) (k u : Nat) (h : rootW C f (k : Int) = (u : Int)) (hc : ¬ isC u) : stepsN C f (k + 1) = stepsN C f k + 1 := by
  show stepsN C f k + (if isC (rootW C f k).toNat then 2 else 1) = _
  rw [h, Int.toNat_natCast, if_neg hc]
/-- Ahead of a round: which one, the hand, and what the words were. -/
structure OtW (w W : World) (H A G : Nat) (C : Cf) (s : Dy) (wv : Value) (i : Nat) (f : Nat → Int) : Prop where
  old : Below w.heap.size w W
  hand : HAt W H A G C s
  su : s.U
  near : RtNear C f s.f
  zero : i = 0 → wv = .slice none 0 0 ∧ s.f = f
  more : 1 ≤ i → (∀ j, 0 ≤ j → j < rootsN C → 0 ≤ colP C (rootW C f j) → s.f (colP C (rootW C f j)).toNat ≠ 0) ∧ ∃ Z, wv = .slice (some ⟨Z, 0, none⟩) C.n C.n ∧ RowAt W Z 26 C.n s.f ∧ Z < W.heap.size ∧ Z ≠ H ∧ Z ≠ A ∧ Z ≠ G
set_option maxHeartbeats 6400000 in
theorem once_any (a b c d : Int) (v0 : Option Addr) (n c0 : Nat) (f : Nat → Int) (w : World) (hS : SpansAt w) (hG : Given w v0 n c0 f) :
    Calls Tryd.prog 5 #[.agg #[.int .i64 a, .int .i64 b, .int .i64 c, .int .i64 d], .slice v0 n c0] w fun e w' => e = .returned (.bool true) ∧ Below w.heap.size w w' := by
  have HB0 := Lib.hid (below_new w (.cells #[.int .i64 a, .int .i64 b, .int .i64 c, .int .i64 d] 23))
  have HX0 := Lib.hid (BoxAt.new w a b c d 23)
  have HS := Lib.hid hS; have HG := Lib.hid hG
  clear hS hG
  obtain ⟨x0, x1, x2, x3⟩ := HX0.out
  go_enter Tryd.func5, Tryd.ntmps5
  go_wp2_with fail
  refine (awake_c _ (HS.out.below HB0.out)).mono ?_
  rintro e W1 ⟨rfl, hW⟩
  have HB1 := Lib.hid (belowOn HB0.out hW)
  have HX1 := Lib.hid (HX0.out.below hW)
  clear hW HB0 HX0 x0 x1 x2 x3
  obtain ⟨x0, x1, x2, x3⟩ := HX1.out
  go_wp2_with fail
  refine (Both_any a b c d v0 n c0 f _ (HS.out.below HB1.out) ⟨HG.out.1, HG.out.2.1.below HB1.out, HG.out.2.2⟩).mono ?_
  rintro e W2 (⟨_, rfl, hW⟩ | ⟨hok, P, rfl, hT⟩)
  · have HB2 := Lib.hid (belowOn HB1.out hW)
    clear hW HX1 HB1 x0 x1 x2 x3
    go_wp2_with fail
    go_ret
    exact ⟨rfl, HB2.out⟩
  have hC : CfOK ⟨n, a, b, c, d⟩ := ⟨hok.2.1, hok.2.2⟩
  have HU : Hid (∀ j, U64 (f j)) := Lib.hid HG.out.2.2.1
  have hn20 : n ≤ 20000 := by have := hok.2.1.prod; have h1 := hok.2.2; have h2 := hok.2.1; unfold Right at h2; omega
  have HK := Lib.hid hC; have HR := Lib.hid hok.2.1
  have hn0 : 0 < n := hC.pos
  have HS1 := Lib.hid (HS.out.below HB1.out)
  have HW1 := Lib.hid (HG.out.2.1.below HB1.out)
  obtain ⟨N, hN⟩ : ∃ N : Nat, rootsN ⟨n, a, b, c, d⟩ = (N : Int) := ⟨(rootsN ⟨n, a, b, c, d⟩).toNat, by have := rootsN_pos hC; omega⟩
  have hN5 : N ≤ 5000 ∧ 1 ≤ N := by have := rootsN_pos hC; omega
  have HN := Lib.hid hN
  have hN2 : 1 + d + b * c = (N : Int) := hN
  have HRo : Hid (∀ W, Calls Tryd.prog 15 #[.agg #[.int .i64 a, .int .i64 b, .int .i64 c, .int .i64 d]] W fun e w' => e = .returned (.int .i64 (N : Int)) ∧ Below W.heap.size W w') := Lib.hid (fun W => by rw [← hN2]; exact refRoots_right a b c d hok.2.1 W)
  have lH : W1.heap.size ≤ P.H := hT.both.lH
  have lG : W1.heap.size ≤ P.G := hT.both.lG
  have hH := hT.hand
  have hold := hT.old
  generalize P.H = H at *
  generalize P.A = A at *
  generalize P.G = G at *
  generalize P.X = X at *
  have HH := Lib.hid hH; have HO := Lib.hid hold
  clear hT hok hN hN2 hC HG HS hH hold P x0 x1 x2 x3
  obtain ⟨x0, x1, x2, x3⟩ := HX1.out.below HO.out
  go_wp2_with fail
  refine (HRo.out _).mono ?_
  rintro e W3 ⟨rfl, hW⟩
  have HH3 := Lib.hid (HH.out.below hW); have HO3 := Lib.hid (belowOn HO.out hW)
  clear hW HH HO HRo x0 x1 x2 x3
  have hTle := (stepsN_le ⟨n, a, b, c, d⟩ f (rootsN ⟨n, a, b, c, d⟩).toNat).1
  rw [show (rootsN ⟨n, a, b, c, d⟩).toNat = N by have := HN.out; omega] at hTle
  obtain ⟨T, hT⟩ : ∃ T, stepsN ⟨n, a, b, c, d⟩ f N = T := ⟨_, rfl⟩
  rw [hT] at hTle
  have HTT := Lib.hid hT
  clear hT
  have HX3 := Lib.hid (HX1.out.below HO3.out); have HW3 := Lib.hid (HW1.out.below HO3.out)
  have HO0 : Hid (OtW W1 W3 H A G ⟨n, a, b, c, d⟩ ⟨f, 0, 0, 0, 0, 0⟩ (.slice none 0 0) 0 f) := Lib.hid ⟨HO3.out, HH3.out, HU.out, fun _ => .inl rfl, fun _ => ⟨rfl, rfl⟩, fun e => absurd e (by omega)⟩
  have hB1 := HB1.out
  obtain ⟨bz, off, rfl, _⟩ := HW3.out.at' hn0
  clear HO3 HH3
  go_wp2_with fail
  have HWW : Hid (∀ wr, Below W3.heap.size W3 wr → BoxAt wr w.heap.size a b c d ∧ WordsAt wr (some ⟨bz, off, none⟩) n f) := Lib.hid (fun wr h => ⟨HX3.out.below h, HW3.out.below h⟩)
  go_loopw [10, 9] (fun jv sv wr => ∃ j : Nat, jv = .int .i64 j ∧ j ≤ N ∧ sv = .int .i64 (stepsN ⟨n, a, b, c, d⟩ f j : Nat) ∧ Hid (Below W3.heap.size W3 wr)) (fun jv _ _ => N - (intOf jv).toNat)
  case atStart => exact ⟨0, rfl, by omega, rfl, Lib.hid (Below.refl _ _)⟩
  case round =>
    obtain ⟨j, rfl, hj, rfl, HBw⟩ := hrel
    by_cases hjN : j < N
    · obtain ⟨r0, r1, _⟩ := sp_root HK.out (j := (j : Int)) (by omega) (by rw [HN.out]; omega)
      dsimp only at r0 r1
      obtain ⟨q, hq⟩ : ∃ q : Nat, rootP a b c d (j : Int) = (q : Int) := ⟨(rootP a b c d (j : Int)).toNat, by omega⟩
      have hqn : q < n := by omega
      obtain ⟨u, hfu, hu6⟩ := u64_nat' (HU.out q)
      have hrw : rootW ⟨n, a, b, c, d⟩ f (j : Int) = (u : Int) := by unfold rootW; rw [hq, Int.toNat_natCast, hfu]
      have HRt : Hid (∀ W, Calls Tryd.prog 18 #[.agg #[.int .i64 a, .int .i64 b, .int .i64 c, .int .i64 d], .int .i64 (j : Int)] W fun e w' => e = .returned (.int .i64 (q : Int)) ∧ Below W.heap.size W w') := Lib.hid (fun W => by rw [← hq]; exact refRoot_c a b c d (j : Int) W)
      have hsl := (stepsN_le ⟨n, a, b, c, d⟩ f j).1
      have HFu := Lib.hid hfu
      have hjb : (j : Int) < (N : Int) := by omega
      have hk1 : IntKind.i64.wrap ((j : Int) + 1) = (j : Int) + 1 := IntWalk.i64_in _ (by omega)
      clear hq hfu r0 r1
      obtain ⟨hbx, hwx⟩ := HWW.out _ HBw.out
      obtain ⟨x0, x1, x2, x3⟩ := hbx
      by_cases hc : isC u
      · have hs1 := stepsN_cell ⟨n, a, b, c, d⟩ f j u hrw hc
        have hk0 : (0 : Int) ≤ ((u / 2 : Nat) : Int) := by omega
        have HIc : Hid (∀ W, Calls Tryd.prog 17 #[.int .u64 (u : Int)] W fun e w' => e = .returned (.int .i64 ((u / 2 : Nat) : Int)) ∧ W = w') := Lib.hid (fun W => refIsCell_cell u hc.2 hc.1 W)
        generalize u / 2 = ci at *
        have hs2 : ((stepsN ⟨n, a, b, c, d⟩ f (j + 1) : Nat) : Int) = (stepsN ⟨n, a, b, c, d⟩ f j : Nat) + 1 + 1 := by rw [hs1]; omega
        generalize stepsN ⟨n, a, b, c, d⟩ f j = sn at *
        have hw1 : IntKind.i64.wrap ((sn : Int) + 1) = (sn : Int) + 1 := IntWalk.i64_in _ (by omega)
        have hw2 : IntKind.i64.wrap ((sn : Int) + 1 + 1) = (sn : Int) + 1 + 1 := IntWalk.i64_in _ (by omega)
        have HS2 := Lib.hid hs2
        clear hs1 hs2 hc hrw
        go_wp2_with fail
        refine (HRt.out _).mono ?_
        rintro e V1 ⟨rfl, hb⟩
        have HBw1 := Lib.hid (belowOn HBw.out hb)
        clear hb HBw HRt x0 x1 x2 x3 hwx
        have hq0 : (0 : Int) ≤ (q : Int) := by omega
        have hqI : (q : Int) < (n : Int) := by omega
        have lq : V1.cell? ⟨bz, off + q, none⟩ = some (.int .u64 (u : Int)) := by
          obtain ⟨b', off', e, h⟩ := (HWW.out _ HBw1.out).2.at' hqn
          obtain ⟨rfl, rfl⟩ : bz = b' ∧ off = off' := by simpa using e
          rw [h, HFu.out]
        go_wp2_with fail
        refine (HIc.out _).mono ?_
        rintro e V2 ⟨rfl, rfl⟩
        clear HIc lq
        go_wp2_with fail
        go_roundw
        case rel => exact ⟨j + 1, by go_num, by omega, by rw [HS2.out], HBw1⟩
        case measure => simp [intOf]; omega
      · have hs1 := stepsN_none ⟨n, a, b, c, d⟩ f j u hrw hc
        have HIc : Hid (∀ W, Calls Tryd.prog 17 #[.int .u64 (u : Int)] W fun e w' => e = .returned (.int .i64 (-1)) ∧ W = w') := Lib.hid (fun W => refIsCell_no u hu6 hc W)
        have hs2 : ((stepsN ⟨n, a, b, c, d⟩ f (j + 1) : Nat) : Int) = (stepsN ⟨n, a, b, c, d⟩ f j : Nat) + 1 := by rw [hs1]; omega
        generalize stepsN ⟨n, a, b, c, d⟩ f j = sn at *
        have hw1 : IntKind.i64.wrap ((sn : Int) + 1) = (sn : Int) + 1 := IntWalk.i64_in _ (by omega)
        have HS2 := Lib.hid hs2
        clear hs1 hs2 hc hrw
        go_wp2_with fail
        refine (HRt.out _).mono ?_
        rintro e V1 ⟨rfl, hb⟩
        have HBw1 := Lib.hid (belowOn HBw.out hb)
        clear hb HBw HRt x0 x1 x2 x3 hwx
        have hq0 : (0 : Int) ≤ (q : Int) := by omega
        have hqI : (q : Int) < (n : Int) := by omega
        have lq : V1.cell? ⟨bz, off + q, none⟩ = some (.int .u64 (u : Int)) := by
          obtain ⟨b', off', e, h⟩ := (HWW.out _ HBw1.out).2.at' hqn
          obtain ⟨rfl, rfl⟩ : bz = b' ∧ off = off' := by simpa using e
          rw [h, HFu.out]
        go_wp2_with fail
        refine (HIc.out _).mono ?_
        rintro e V2 ⟨rfl, rfl⟩
        clear HIc lq
        go_wp2_with fail
        go_roundw
        case rel => exact ⟨j + 1, by go_num, by omega, by rw [HS2.out], HBw1⟩
        case measure => simp [intOf]; omega
    obtain rfl : N = j := by omega
    have HO0 : Hid (OtW W1 wr H A G ⟨n, a, b, c, d⟩ ⟨f, 0, 0, 0, 0, 0⟩ (.slice none 0 0) 0 f) := Lib.hid ⟨belowOn HO0.out.old HBw.out, HO0.out.hand.below HBw.out, HU.out, fun _ => .inl rfl, fun _ => ⟨rfl, rfl⟩, fun e => absurd e (by omega)⟩
    rw [HTT.out]
    clear HBw HX3 HW3 HWW hj hjN HX1 HW1 hB1
    go_wp2_with fail
    go_loopw [12, 11] (fun av wv wr => ∃ (i : Nat) (s : Dy), av = .int .i64 i ∧ i ≤ 2 ∧ Hid (OtW W1 wr H A G ⟨n, a, b, c, d⟩ s wv i f)) (fun av _ _ => 2 - (intOf av).toNat)
    case atStart => exact ⟨0, ⟨f, 0, 0, 0, 0, 0⟩, rfl, by omega, HO0⟩
    case round =>
      clear HO0
      obtain ⟨i, s, rfl, hi, HO⟩ := hrel
      by_cases hi0 : i = 0
      · subst hi0
        obtain ⟨rfl, hsf⟩ := HO.out.zero rfl
        have HSf := Lib.hid hsf
        clear hsf
        have HNr := Lib.hid HO.out.near
        have HTs : Hid (stepsN ⟨n, a, b, c, d⟩ s.f N = T) := Lib.hid (by have := HNr.out.steps HK.out N (by rw [HN.out]; omega); rw [this]; exact HTT.out)
        have HBe2 : Hid (∀ W, Calls Tryd.prog 9 #[(colV 0 0 0 0 0 0 false 0 0)] W fun e w' => e = .returned (colV 1 0 0 0 0 0 false 0 0) ∧ Below W.heap.size W w') := Lib.hid (fun W => Begin_c 0 0 0 0 0 0 false 0 0 W)
        go_wp2_with fail
        refine (HBe2.out _).mono ?_
        rintro e W4 ⟨rfl, hW⟩
        have HT0 := Lib.hid (CkW.first (belowOn HO.out.old hW) (HO.out.hand.below hW) lH lG ⟨1, 0, 0, 0, 0, 0, false, 0, 0⟩)
        have HV0 := Lib.hid HO.out.su
        clear hW HBe2 HO
        go_wp2_with fail
        generalize W4.alloc (.cells #[.int .i64 1, .int .i64 0, .int .i64 0, .int .i64 0, .int .u64 0, .int .u64 0, .bool false, .int .i64 0, .int .i64 0] 28) = W5 at *
        generalize W4.heap.size = B at *
        go_loopw [14] (fun nv wr => ∃ (k : Nat) (t : Dy) (x : Co), nv = .int .i64 k ∧ k ≤ T ∧ Hid (CkW W1 wr H A G B ⟨n, a, b, c, d⟩ t x) ∧ Hid (RtSt ⟨n, a, b, c, d⟩ s.f t.f k x) ∧ Hid (t.U ∧ x.U)) (fun nv _ => T - (intOf nv).toNat)
        case atStart => exact ⟨0, s, ⟨1, 0, 0, 0, 0, 0, false, 0, 0⟩, rfl, by omega, HT0, Lib.hid (RtSt.first _ HK.out s.f _ rfl rfl), Lib.hid ⟨HV0.out, u64_zero, u64_zero⟩⟩
        case round =>
          clear HT0 HV0
          obtain ⟨k, t, x, rfl, hk, HT, HQ, HV⟩ := hrel
          by_cases hkT : k < T
          · have hon := HQ.out.on (by rw [show (rootsN ⟨n, a, b, c, d⟩).toNat = N by have := HN.out; omega, HTs.out]; exact hkT)
            rcases hon with hl | hl
            · obtain ⟨s', x', hst, hq, _⟩ := HQ.out.go HK.out (by omega)
              have hj : -1000000000000 ≤ x.j ∧ x.j ≤ 1000000000000 := by have h1 := HQ.out.line; have := HN.out; omega
              have HST : Hid (∀ W, CkW W1 W H A G B ⟨n, a, b, c, d⟩ t x → _) := Lib.hid (fun W h => root_c (w := W) h.hand HV.out.1 (HS1.out.below h.old) HR.out hn0 x HV.out.2 hj)
              have HV2 := Lib.hid (rootS_U HV.out.1 (C := ⟨n, a, b, c, d⟩) x HV.out.2)
              rw [hst] at HST HV2
              have HQ2 := Lib.hid hq
              clear hst hq HV HQ hj
              obtain ⟨l, j, xc, m, xa, p, fd, tl, cy⟩ := x
              obtain ⟨l', j', xc', m', xa', p', fd', tl', cy'⟩ := x'
              dsimp only at hl HST HV2
              obtain rfl : l = 1 := hl
              obtain ⟨b0, b1, b2, b3, b4, b5, b6, b7, b8, bf⟩ := HT.out.cells9
              have hkI : (k : Int) < (T : Int) := by omega
              have hk1 : IntKind.i64.wrap ((k : Int) + 1) = (k : Int) + 1 := IntWalk.i64_in _ (by omega)
              go_wp2_with fail
              refine (HST.out _ HT.out).mono ?_
              rintro e V hp
              obtain ⟨rfl, hT⟩ := HT.out.step hp
              have HT2 := Lib.hid hT
              clear hp hT HT HST b0 b1 b2 b3 b4 b5 b6 b7 b8 bf
              obtain ⟨b0, b1, b2, b3, b4, b5, b6, b7, b8, bf⟩ := HT2.out.cells9
              go_wp2_with fail
              have HT3 := Lib.hid (HT2.out.put ⟨l', j', xc', m', xa', p', fd', tl', cy'⟩)
              go_roundw
              case rel => exact ⟨k + 1, s', ⟨l', j', xc', m', xa', p', fd', tl', cy'⟩, by go_num, by omega, HT3, HQ2, HV2⟩
              case measure => simp [intOf]; omega
            · obtain ⟨s', x', hst, hq, _⟩ := HQ.out.go HK.out (by omega)
              have hj : -1000000000000 ≤ x.j ∧ x.j ≤ 1000000000000 := by have h1 := HQ.out.line; have := HN.out; omega
              have HST : Hid (∀ W, CkW W1 W H A G B ⟨n, a, b, c, d⟩ t x → _) := Lib.hid (fun W h => root_c (w := W) h.hand HV.out.1 (HS1.out.below h.old) HR.out hn0 x HV.out.2 hj)
              have HV2 := Lib.hid (rootS_U HV.out.1 (C := ⟨n, a, b, c, d⟩) x HV.out.2)
              rw [hst] at HST HV2
              have HQ2 := Lib.hid hq
              clear hst hq HV HQ hj
              obtain ⟨l, j, xc, m, xa, p, fd, tl, cy⟩ := x
              obtain ⟨l', j', xc', m', xa', p', fd', tl', cy'⟩ := x'
              dsimp only at hl HST HV2
              obtain rfl : l = 2 := hl
              obtain ⟨b0, b1, b2, b3, b4, b5, b6, b7, b8, bf⟩ := HT.out.cells9
              have hkI : (k : Int) < (T : Int) := by omega
              have hk1 : IntKind.i64.wrap ((k : Int) + 1) = (k : Int) + 1 := IntWalk.i64_in _ (by omega)
              go_wp2_with fail
              refine (HST.out _ HT.out).mono ?_
              rintro e V hp
              obtain ⟨rfl, hT⟩ := HT.out.step hp
              have HT2 := Lib.hid hT
              clear hp hT HT HST b0 b1 b2 b3 b4 b5 b6 b7 b8 bf
              obtain ⟨b0, b1, b2, b3, b4, b5, b6, b7, b8, bf⟩ := HT2.out.cells9
              go_wp2_with fail
              have HT3 := Lib.hid (HT2.out.put ⟨l', j', xc', m', xa', p', fd', tl', cy'⟩)
              go_roundw
              case rel => exact ⟨k + 1, s', ⟨l', j', xc', m', xa', p', fd', tl', cy'⟩, by go_num, by omega, HT3, HQ2, HV2⟩
              case measure => simp [intOf]; omega
          · obtain rfl : T = k := by omega
            obtain ⟨hl3, hjN⟩ := HQ.out.last (by rw [show (rootsN ⟨n, a, b, c, d⟩).toNat = N by have := HN.out; omega, HTs.out])
            have hnr := HQ.out.near; have hdo := HQ.out.done
            rw [hjN] at hdo
            obtain ⟨l, j, xc, m, xa, p, fd, tl, cy⟩ := x
            dsimp only at hl3
            subst hl3
            have HO2n : Hid (RtNear ⟨n, a, b, c, d⟩ f t.f) := Lib.hid (by rw [HSf.out] at hnr; exact hnr)
            have HO2d := Lib.hid (show ∀ j, 0 ≤ j → j < rootsN ⟨n, a, b, c, d⟩ → 0 ≤ colP ⟨n, a, b, c, d⟩ (rootW ⟨n, a, b, c, d⟩ f j) → t.f (colP ⟨n, a, b, c, d⟩ (rootW ⟨n, a, b, c, d⟩ f j)).toNat ≠ 0 by rw [HSf.out] at hdo; exact hdo)
            have HVt := Lib.hid HV.out.1
            clear hnr hdo hjN HQ HV HSf HNr HTs
            have h0 := HT.out.hand.cells.1
            obtain ⟨b0, b1, b2, b3, b4, b5, b6, b7, b8, bf⟩ := HT.out.cells9
            go_wp2_with fail
            refine (All_c HT.out.hand.ar hn20).mono ?_
            rintro e W6 ⟨rfl, hrow, hb⟩
            have hh := HT.out.hand.below hb
            have ho := belowOn HT.out.old hb
            have hlt := hrow.lt
            have i1 := HT.out.hand.lt; have i2 := HT.out.hand.ar.lt; have i3 := HT.out.hand.ar.row.lt
            have HO2 : Hid (OtW W1 W6 H A G ⟨n, a, b, c, d⟩ t (.slice (some ⟨wr.heap.size, 0, none⟩) n n) 1 f) := Lib.hid ⟨ho, hh, HVt.out, HO2n.out, fun e => absurd e (by omega), fun _ => ⟨HO2d.out, wr.heap.size, rfl, hrow, hlt, by omega, by omega, by omega⟩⟩
            clear hrow hb hh ho hlt HT h0 b0 b1 b2 b3 b4 b5 b6 b7 b8 bf i1 i2 i3
            go_wp2_with fail
            go_roundw
            case rel => exact ⟨1, t, by go_num, by omega, HO2⟩
            case measure => simp [intOf]
      by_cases hi1 : i = 1
      · subst hi1
        obtain ⟨hdn, Z, rfl, hz, hzl, z1, z2, z3⟩ := HO.out.more (by omega)
        have HDn := Lib.hid hdn
        dsimp only at hz ⊢
        have HNr := Lib.hid HO.out.near
        have HTs : Hid (stepsN ⟨n, a, b, c, d⟩ s.f N = T) := Lib.hid (by have := HNr.out.steps HK.out N (by rw [HN.out]; omega); rw [this]; exact HTT.out)
        have HBe2 : Hid (∀ W, Calls Tryd.prog 9 #[(colV 0 0 0 0 0 0 false 0 0)] W fun e w' => e = .returned (colV 1 0 0 0 0 0 false 0 0) ∧ Below W.heap.size W w') := Lib.hid (fun W => Begin_c 0 0 0 0 0 0 false 0 0 W)
        go_wp2_with fail
        refine (HBe2.out _).mono ?_
        rintro e W4 ⟨rfl, hW⟩
        have HT0 := Lib.hid (CkW.first (belowOn HO.out.old hW) (HO.out.hand.below hW) lH lG ⟨1, 0, 0, 0, 0, 0, false, 0, 0⟩)
        have HV0 := Lib.hid HO.out.su
        have HZ0 := Lib.hid ((hz.below hW).below (below_new _ (.cells #[.int .i64 1, .int .i64 0, .int .i64 0, .int .i64 0, .int .u64 0, .int .u64 0, .bool false, .int .i64 0, .int .i64 0] 28)))
        have hzB : Z < W4.heap.size := Nat.lt_of_lt_of_le hzl hW.size
        clear hz hzl
        clear hW HBe2 HO
        go_wp2_with fail
        generalize W4.alloc (.cells #[.int .i64 1, .int .i64 0, .int .i64 0, .int .i64 0, .int .u64 0, .int .u64 0, .bool false, .int .i64 0, .int .i64 0] 28) = W5 at *
        generalize W4.heap.size = B at *
        go_loopw [14] (fun nv wr => ∃ (k : Nat) (t : Dy) (x : Co), nv = .int .i64 k ∧ k ≤ T ∧ Hid (CkW W1 wr H A G B ⟨n, a, b, c, d⟩ t x) ∧ Hid (RtSt ⟨n, a, b, c, d⟩ s.f t.f k x) ∧ Hid (t.U ∧ x.U) ∧ Hid (RowAt wr Z 26 n s.f)) (fun nv _ => T - (intOf nv).toNat)
        case atStart => exact ⟨0, s, ⟨1, 0, 0, 0, 0, 0, false, 0, 0⟩, rfl, by omega, HT0, Lib.hid (RtSt.first _ HK.out s.f _ rfl rfl), Lib.hid ⟨HV0.out, u64_zero, u64_zero⟩, HZ0⟩
        case round =>
          clear HT0 HV0 HZ0
          obtain ⟨k, t, x, rfl, hk, HT, HQ, HV, HZ⟩ := hrel
          by_cases hkT : k < T
          · have hon := HQ.out.on (by rw [show (rootsN ⟨n, a, b, c, d⟩).toNat = N by have := HN.out; omega, HTs.out]; exact hkT)
            rcases hon with hl | hl
            · obtain ⟨s', x', hst, hq, _⟩ := HQ.out.go HK.out (by omega)
              have hj : -1000000000000 ≤ x.j ∧ x.j ≤ 1000000000000 := by have h1 := HQ.out.line; have := HN.out; omega
              have HST : Hid (∀ W, CkW W1 W H A G B ⟨n, a, b, c, d⟩ t x → _) := Lib.hid (fun W h => root_c (w := W) h.hand HV.out.1 (HS1.out.below h.old) HR.out hn0 x HV.out.2 hj)
              have HV2 := Lib.hid (rootS_U HV.out.1 (C := ⟨n, a, b, c, d⟩) x HV.out.2)
              rw [hst] at HST HV2
              have HQ2 := Lib.hid hq
              clear hst hq HV HQ hj
              obtain ⟨l, j, xc, m, xa, p, fd, tl, cy⟩ := x
              obtain ⟨l', j', xc', m', xa', p', fd', tl', cy'⟩ := x'
              dsimp only at hl HST HV2
              obtain rfl : l = 1 := hl
              obtain ⟨b0, b1, b2, b3, b4, b5, b6, b7, b8, bf⟩ := HT.out.cells9
              have hkI : (k : Int) < (T : Int) := by omega
              have hk1 : IntKind.i64.wrap ((k : Int) + 1) = (k : Int) + 1 := IntWalk.i64_in _ (by omega)
              go_wp2_with fail
              refine (HST.out _ HT.out).mono ?_
              rintro e V hp
              obtain ⟨rfl, hT⟩ := HT.out.step hp
              have HZ2 := Lib.hid ((HZ.out.other (hp.2.2.block Z HZ.out.lt (fun e => by rcases e with e | e; exact z1 e; exact z3 e))).other (w' := put9 V B l' j' xc' m' xa' p' fd' tl' cy') (heap_put9 V B l' j' xc' m' xa' p' fd' tl' cy' (by omega)))
              have HT2 := Lib.hid hT
              clear hp hT HT HST b0 b1 b2 b3 b4 b5 b6 b7 b8 bf HZ
              obtain ⟨b0, b1, b2, b3, b4, b5, b6, b7, b8, bf⟩ := HT2.out.cells9
              go_wp2_with fail
              have HT3 := Lib.hid (HT2.out.put ⟨l', j', xc', m', xa', p', fd', tl', cy'⟩)
              go_roundw
              case rel => exact ⟨k + 1, s', ⟨l', j', xc', m', xa', p', fd', tl', cy'⟩, by go_num, by omega, HT3, HQ2, HV2, HZ2⟩
              case measure => simp [intOf]; omega
            · obtain ⟨s', x', hst, hq, _⟩ := HQ.out.go HK.out (by omega)
              have hj : -1000000000000 ≤ x.j ∧ x.j ≤ 1000000000000 := by have h1 := HQ.out.line; have := HN.out; omega
              have HST : Hid (∀ W, CkW W1 W H A G B ⟨n, a, b, c, d⟩ t x → _) := Lib.hid (fun W h => root_c (w := W) h.hand HV.out.1 (HS1.out.below h.old) HR.out hn0 x HV.out.2 hj)
              have HV2 := Lib.hid (rootS_U HV.out.1 (C := ⟨n, a, b, c, d⟩) x HV.out.2)
              rw [hst] at HST HV2
              have HQ2 := Lib.hid hq
              clear hst hq HV HQ hj
              obtain ⟨l, j, xc, m, xa, p, fd, tl, cy⟩ := x
              obtain ⟨l', j', xc', m', xa', p', fd', tl', cy'⟩ := x'
              dsimp only at hl HST HV2
              obtain rfl : l = 2 := hl
              obtain ⟨b0, b1, b2, b3, b4, b5, b6, b7, b8, bf⟩ := HT.out.cells9
              have hkI : (k : Int) < (T : Int) := by omega
              have hk1 : IntKind.i64.wrap ((k : Int) + 1) = (k : Int) + 1 := IntWalk.i64_in _ (by omega)
              go_wp2_with fail
              refine (HST.out _ HT.out).mono ?_
              rintro e V hp
              obtain ⟨rfl, hT⟩ := HT.out.step hp
              have HZ2 := Lib.hid ((HZ.out.other (hp.2.2.block Z HZ.out.lt (fun e => by rcases e with e | e; exact z1 e; exact z3 e))).other (w' := put9 V B l' j' xc' m' xa' p' fd' tl' cy') (heap_put9 V B l' j' xc' m' xa' p' fd' tl' cy' (by omega)))
              have HT2 := Lib.hid hT
              clear hp hT HT HST b0 b1 b2 b3 b4 b5 b6 b7 b8 bf HZ
              obtain ⟨b0, b1, b2, b3, b4, b5, b6, b7, b8, bf⟩ := HT2.out.cells9
              go_wp2_with fail
              have HT3 := Lib.hid (HT2.out.put ⟨l', j', xc', m', xa', p', fd', tl', cy'⟩)
              go_roundw
              case rel => exact ⟨k + 1, s', ⟨l', j', xc', m', xa', p', fd', tl', cy'⟩, by go_num, by omega, HT3, HQ2, HV2, HZ2⟩
              case measure => simp [intOf]; omega
          · obtain rfl : T = k := by omega
            obtain ⟨hl3, hjN⟩ := HQ.out.last (by rw [show (rootsN ⟨n, a, b, c, d⟩).toNat = N by have := HN.out; omega, HTs.out])
            have hnr := HQ.out.near; have hdo := HQ.out.done
            rw [hjN] at hdo
            obtain ⟨l, j, xc, m, xa, p, fd, tl, cy⟩ := x
            dsimp only at hl3
            subst hl3
            have hroot : ∀ j, 0 ≤ j → j < rootsN ⟨n, a, b, c, d⟩ → rootW ⟨n, a, b, c, d⟩ s.f j = rootW ⟨n, a, b, c, d⟩ f j := fun j h0 h1 => HNr.out.root HK.out h0 h1
            have hq : t.f = s.f := hnr.quiet (fun j h0 h1 h2 => by rw [hroot j h0 h1] at h2 ⊢; exact HDn.out j h0 h1 h2)
            have HVt := Lib.hid HV.out.1
            clear hnr hdo hjN HQ HV HTs hroot
            have HNt : Hid (RtNear ⟨n, a, b, c, d⟩ f t.f) := Lib.hid (by rw [hq]; exact HNr.out)
            have HDt := Lib.hid (show ∀ j, 0 ≤ j → j < rootsN ⟨n, a, b, c, d⟩ → 0 ≤ colP ⟨n, a, b, c, d⟩ (rootW ⟨n, a, b, c, d⟩ f j) → t.f (colP ⟨n, a, b, c, d⟩ (rootW ⟨n, a, b, c, d⟩ f j)).toNat ≠ 0 by rw [hq]; exact HDn.out)
            rw [← hq] at HZ
            clear hq HDn HNr
            have h0 := HT.out.hand.cells.1
            obtain ⟨b0, b1, b2, b3, b4, b5, b6, b7, b8, bf⟩ := HT.out.cells9
            go_wp2_with fail
            refine (All_c HT.out.hand.ar hn20).mono ?_
            rintro e W6 ⟨rfl, hrow, hb⟩
            have HT6 := Lib.hid (HT.out.below hb); have HZ6 := Lib.hid (HZ.out.below hb); have HY6 := Lib.hid hrow.words
            clear hrow hb HT HZ h0 b0 b1 b2 b3 b4 b5 b6 b7 b8 bf
            generalize wr.heap.size = Y at *
            go_wp2_with fail
            refine (Same_c (some ⟨Y, 0, none⟩) (some ⟨Z, 0, none⟩) n n n t.f hn20 W6 HY6.out HZ6.out.words).mono ?_
            rintro e W7 ⟨rfl, hb⟩
            have HT7 := Lib.hid (HT6.out.below hb)
            clear hb HT6 HZ6 HY6
            have h0 := HT7.out.hand.cells.1
            go_wp2_with fail
            refine (All_c HT7.out.hand.ar hn20).mono ?_
            rintro e W8 ⟨rfl, hrow, hb⟩
            have hh := HT7.out.hand.below hb
            have ho := belowOn HT7.out.old hb
            have hlt := hrow.lt
            have i1 := HT7.out.hand.lt; have i2 := HT7.out.hand.ar.lt; have i3 := HT7.out.hand.ar.row.lt
            have HO2 : Hid (OtW W1 W8 H A G ⟨n, a, b, c, d⟩ t (.slice (some ⟨W7.heap.size, 0, none⟩) n n) 2 f) := Lib.hid ⟨ho, hh, HVt.out, HNt.out, fun e => absurd e (by omega), fun _ => ⟨HDt.out, W7.heap.size, rfl, hrow, hlt, by omega, by omega, by omega⟩⟩
            clear hrow hb hh ho hlt HT7 h0 i1 i2 i3
            go_wp2_with fail
            go_roundw
            case rel => exact ⟨2, t, by go_num, by omega, HO2⟩
            case measure => simp [intOf]
      obtain rfl : i = 2 := by omega
      have HE := Lib.hid (belowOn HB1.out HO.out.old)
      clear HO
      go_wp2_with fail
      go_ret
      exact ⟨rfl, HE.out⟩
end Go.Proofs.YtppajedeapikkaaDoor
