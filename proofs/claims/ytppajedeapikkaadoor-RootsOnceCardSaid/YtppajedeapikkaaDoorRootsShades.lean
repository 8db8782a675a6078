/- RootsShades answers true: from the first root on no root has a white cell behind as many steps as there are roots, twice, at most; nothing but colours was changed, from white to grey alone. -/
import Derived.Test.YtppajedeapikkaaDoorRootsAwake
import Derived.Test.YtppajedeapikkaaDoorRootsPure
import Derived.Test.YtppajedeapikkaaDoorPlaceRef
import Derived.Test.YtppajedeapikkaaDoorTwo
namespace Go.Proofs.YtppajedeapikkaaDoor
open Go Go.RowKit
set_option maxRecDepth 100000
attribute [local go_sem ↓] Go.wp_at_zero Go.wp_at_succ

/-- The law's collector in block B, beside the hand; W0: the world ahead of the hand. -/
structure CkW (w W : World) (H A G B : Nat) (C : Cf) (s : Dy) (x : Co) : Prop where
  old : Below w.heap.size w W
  hand : HAt W H A G C s
  col : CoAt W B x
  lo : w.heap.size ≤ H ∧ w.heap.size ≤ G ∧ w.heap.size ≤ B
  ne : B ≠ H ∧ B ≠ A ∧ B ≠ G
namespace CkW
variable {w W V : World} {H A G B : Nat} {C : Cf} {s s' : Dy} {x : Co}
theorem below (h : CkW w W H A G B C s x) (hb : Below W.heap.size W V) : CkW w V H A G B C s x := ⟨belowOn h.old hb, h.hand.below hb, h.col.below hb, h.lo, h.ne⟩
theorem drew (h : CkW w W H A G B C s x) : CkW w W.drew H A G B C s x := ⟨h.old.drew, h.hand.drew, h.col.other rfl, h.lo, h.ne⟩
theorem step (h : CkW w W H A G B C s x) {v : Value} {e : Ending} (hp : HP W H A G C s' v e V) : e = .returned v ∧ CkW w V H A G B C s' x :=
  ⟨hp.1, hp.2.2.old h.old h.lo.1 h.lo.2.1, hp.2.1, h.col.savH hp.2.2 h.ne.1 h.ne.2.2, h.lo, h.ne⟩
theorem cells9 (h : CkW w W H A G B C s x) : W.cell? ⟨B, 0, none⟩ = some (.int .i64 x.l) ∧ W.cell? ⟨B, 1, none⟩ = some (.int .i64 x.j) ∧ W.cell? ⟨B, 2, none⟩ = some (.int .i64 x.c) ∧ W.cell? ⟨B, 3, none⟩ = some (.int .i64 x.m) ∧ W.cell? ⟨B, 4, none⟩ = some (.int .u64 x.a) ∧ W.cell? ⟨B, 5, none⟩ = some (.int .u64 x.p) ∧ W.cell? ⟨B, 6, none⟩ = some (.bool x.fd) ∧ W.cell? ⟨B, 7, none⟩ = some (.int .i64 x.tl) ∧ W.cell? ⟨B, 8, none⟩ = some (.int .i64 x.cy) ∧ (∀ j, W.frozen? ⟨B, j, none⟩ = false) := h.col.cells
theorem put (h : CkW w W H A G B C s x) (y : Co) : CkW w (put9 W B y.l y.j y.c y.m y.a y.p y.fd y.tl y.cy) H A G B C s y :=
  ⟨((Sav.of (S := fun _ => False) h.old).put9 (.inr h.lo.2.2) _ _ _ _ _ _ _ _ _).below (Nat.le_refl _) (fun _ _ e => e), h.hand.put9 h.ne.1 h.ne.2.1 h.ne.2.2 _ _ _ _ _ _ _ _ _, h.col.put _ _ _ _ _ _ _ _ _, h.lo, h.ne⟩
theorem first (hb : Below w.heap.size w W) (hH : HAt W H A G C s) (l1 : w.heap.size ≤ H) (l2 : w.heap.size ≤ G) (x : Co) : CkW w (W.alloc (.cells #[.int .i64 x.l, .int .i64 x.j, .int .i64 x.c, .int .i64 x.m, .int .u64 x.a, .int .u64 x.p, .bool x.fd, .int .i64 x.tl, .int .i64 x.cy] 28)) H A G W.heap.size C s x :=
  ⟨below_on hb _, hH.below (below_new _ _), Col9.new _ _ _ _ _ _ _ _ _ _, ⟨l1, l2, hb.size⟩, ⟨by have := hH.lt; omega, by have := hH.ar.lt; omega, by have := hH.ar.row.lt; omega⟩⟩
end CkW
/-- What is there then beside the words that were handed in, in a row of the law's own. -/
structure RnB (w W : World) (Z X : Nat) (C : Cf) (v0 : Option Addr) (f g : Nat → Int) : Prop where
  old : Below w.heap.size w W
  now : RowAt W Z 26 C.n g
  was : WordsAt W v0 C.n f
  box : BoxAt W X C.a C.b C.c C.d
namespace RnB
variable {w W V : World} {Z X : Nat} {C : Cf} {v0 : Option Addr} {f g : Nat → Int}
theorem below (h : RnB w W Z X C v0 f g) (hb : Below W.heap.size W V) : RnB w V Z X C v0 f g := ⟨belowOn h.old hb, h.now.below hb, h.was.below hb, h.box.below hb⟩
theorem drew (h : RnB w W Z X C v0 f g) : RnB w W.drew Z X C v0 f g := ⟨h.old.drew, h.now, h.was, h.box⟩
end RnB
/-- The place of a root's cell's colour, as the laws look for it. -/
theorem colP_at (C : Cf) (u : Nat) : partP C.a C.b C.c C.d 2 (cellR u) = colP C (u : Int) := by
  unfold colP fieldP cellR
  by_cases h : isC u
  · rw [if_pos h]; simp only [Int.toNat_natCast]; rw [if_pos ⟨h, by omega, by omega⟩]
  · rw [if_neg h]; simp only [Int.toNat_natCast]; rw [if_neg (fun e => h e.1)]
    unfold partP; rw [if_neg (by omega)]
/-- A place of a colour, among all words. -/
theorem col_rem {C : Cf} (hC : CfOK C) {w : Int} {k : Nat} (h : (k : Int) = colP C w) : 5 + C.b + C.d + C.b * C.c ≤ (k : Int) ∧ ((k : Int) - (5 + C.b + C.d + C.b * C.c)) % 3 = 2 ∧ k < C.n := by
  have h0 : 0 ≤ colP C w := by omega
  obtain ⟨e1, e2, e3, e4, e5⟩ := colP_spot hC h0
  have hp : partP C.a C.b C.c C.d 2 ((w.toNat / 2 : Nat) : Int) = 5 + C.b + C.d + C.b * C.c + 3 * ((w.toNat / 2 : Nat) : Int) + 2 := by unfold partP; rw [if_pos ⟨⟨by omega, e4⟩, hC.right⟩]
  have h9 : (k : Int) = 5 + C.b + C.d + C.b * C.c + 3 * ((w.toNat / 2 : Nat) : Int) + 2 := by rw [h, e5, hp]
  clear hp e5 e4 e3 e2
  omega
set_option maxHeartbeats 6400000 in
theorem shades_any (a b c d : Int) (v0 : Option Addr) (n c0 : Nat) (f : Nat → Int) (w : World) (hS : SpansAt w) (hG : Given w v0 n c0 f) :
    Calls Tryd.prog 4 #[.agg #[.int .i64 a, .int .i64 b, .int .i64 c, .int .i64 d], .slice v0 n c0] w fun e w' => e = .returned (.bool true) ∧ Below w.heap.size w w' := by
  have HB0 := Lib.hid (below_new w (.cells #[.int .i64 a, .int .i64 b, .int .i64 c, .int .i64 d] 23))
  have HX0 := Lib.hid (BoxAt.new w a b c d 23)
  have HS := Lib.hid hS; have HG := Lib.hid hG
  clear hS hG
  obtain ⟨x0, x1, x2, x3⟩ := HX0.out
  go_enter Tryd.func4, Tryd.ntmps4
  go_wp2_with fail
  refine (awake_c _ (HS.out.below HB0.out)).mono ?_
  rintro e W1 ⟨rfl, hW⟩
  have HB1 := Lib.hid (belowOn HB0.out hW)
  have HX1 := Lib.hid (HX0.out.below hW)
  clear hW HB0 HX0 x0 x1 x2 x3
  obtain ⟨x0, x1, x2, x3⟩ := HX1.out
  go_wp2_with fail
  refine (Both_any a b c d v0 n c0 f _ (HS.out.below HB1.out) ⟨HG.out.1, HG.out.2.1.below HB1.out, HG.out.2.2⟩).mono ?_
  rintro e W2 (⟨_, rfl, hW⟩ | ⟨hok, P, rfl, hT⟩)
  · have HB2 := Lib.hid (belowOn HB1.out hW)
    clear hW HX1 HB1 x0 x1 x2 x3
    go_wp2_with fail
    go_ret
    exact ⟨rfl, HB2.out⟩
  have hC : CfOK ⟨n, a, b, c, d⟩ := ⟨hok.2.1, hok.2.2⟩
  have HU : Hid (∀ j, U64 (f j)) := Lib.hid HG.out.2.2.1
  have hn20 : n ≤ 20000 := by have := hok.2.1.prod; have h1 := hok.2.2; have h2 := hok.2.1; unfold Right at h2; omega
  have HK := Lib.hid hC; have HR := Lib.hid hok.2.1
  have hn0 : 0 < n := hC.pos
  have HS1 := Lib.hid (HS.out.below HB1.out)
  have HW1 := Lib.hid (HG.out.2.1.below HB1.out)
  obtain ⟨N, hN⟩ : ∃ N : Nat, rootsN ⟨n, a, b, c, d⟩ = (N : Int) := ⟨(rootsN ⟨n, a, b, c, d⟩).toNat, by have := rootsN_pos hC; omega⟩
  have hN5 : N ≤ 5000 ∧ 1 ≤ N := by have := rootsN_pos hC; omega
  have HN := Lib.hid hN
  have hN2 : 1 + d + b * c = (N : Int) := hN
  have HRo : Hid (∀ W, Calls Tryd.prog 15 #[.agg #[.int .i64 a, .int .i64 b, .int .i64 c, .int .i64 d]] W fun e w' => e = .returned (.int .i64 (N : Int)) ∧ Below W.heap.size W w') := Lib.hid (fun W => by rw [← hN2]; exact refRoots_right a b c d hok.2.1 W)
  have lH : W1.heap.size ≤ P.H := hT.both.lH
  have lG : W1.heap.size ≤ P.G := hT.both.lG
  have hH := hT.hand
  have hold := hT.old
  generalize P.H = H at *
  generalize P.A = A at *
  generalize P.G = G at *
  generalize P.X = X at *
  have HH := Lib.hid hH; have HO := Lib.hid hold
  clear hT hok hN hN2 hC HG HS hH hold P x0 x1 x2 x3
  obtain ⟨x0, x1, x2, x3⟩ := HX1.out.below HO.out
  go_wp2_with fail
  refine (HRo.out _).mono ?_
  rintro e W3 ⟨rfl, hW⟩
  have HH3 := Lib.hid (HH.out.below hW); have HO3 := Lib.hid (belowOn HO.out hW)
  clear hW HH HO HRo x0 x1 x2 x3
  have HBe : Hid (∀ W, Calls Tryd.prog 9 #[(colV 0 0 0 0 0 0 false 0 0)] W fun e w' => e = .returned (colV 1 0 0 0 0 0 false 0 0) ∧ Below W.heap.size W w') := Lib.hid (fun W => Begin_c 0 0 0 0 0 0 false 0 0 W)
  go_wp2_with fail
  refine (HBe.out _).mono ?_
  rintro e W4 ⟨rfl, hW⟩
  have HT0 := Lib.hid (CkW.first (C := ⟨n, a, b, c, d⟩) (s := ⟨f, 0, 0, 0, 0, 0⟩) (belowOn HO3.out hW) (HH3.out.below hW) lH lG ⟨1, 0, 0, 0, 0, 0, false, 0, 0⟩)
  clear hW HBe HH3 HO3
  go_wp2_with fail
  generalize W4.alloc (.cells #[.int .i64 1, .int .i64 0, .int .i64 0, .int .i64 0, .int .u64 0, .int .u64 0, .bool false, .int .i64 0, .int .i64 0] 28) = W5 at *
  generalize W4.heap.size = B at *
  have hTle := (stepsN_le ⟨n, a, b, c, d⟩ f (rootsN ⟨n, a, b, c, d⟩).toNat).1
  rw [show (rootsN ⟨n, a, b, c, d⟩).toNat = N by have := HN.out; omega] at hTle
  obtain ⟨T, hT⟩ : ∃ T, stepsN ⟨n, a, b, c, d⟩ f N = T := ⟨_, rfl⟩
  rw [hT] at hTle
  have HTT := Lib.hid hT
  clear hT
  have hwN : IntKind.i64.wrap (2 * (N : Int)) = 2 * (N : Int) := IntWalk.i64_in _ (by omega)
  go_loopw [10] (fun nv wr => ∃ (k : Nat) (s : Dy) (x : Co), nv = .int .i64 k ∧ k ≤ T ∧ Hid (CkW W1 wr H A G B ⟨n, a, b, c, d⟩ s x) ∧ Hid (RtSt ⟨n, a, b, c, d⟩ f s.f k x) ∧ Hid (s.U ∧ x.U)) (fun nv _ => T - (intOf nv).toNat)
  case atStart => exact ⟨0, ⟨f, 0, 0, 0, 0, 0⟩, ⟨1, 0, 0, 0, 0, 0, false, 0, 0⟩, rfl, by omega, HT0, Lib.hid (RtSt.first _ HK.out f _ rfl rfl), Lib.hid ⟨HU.out, u64_zero, u64_zero⟩⟩
  case round =>
    clear HT0
    obtain ⟨k, s, x, rfl, hk, HT, HQ, HV⟩ := hrel
    by_cases hl : x.l = 1
    · obtain ⟨s', x', hst, hq, hkT⟩ := HQ.out.go HK.out (by omega)
      have hkT2 : k < T := by rw [show (rootsN ⟨n, a, b, c, d⟩).toNat = N by have := HN.out; omega, HTT.out] at hkT; exact hkT
      have hj : -1000000000000 ≤ x.j ∧ x.j ≤ 1000000000000 := by have h1 := HQ.out.line; have := HN.out; omega
      have HST : Hid (∀ W, CkW W1 W H A G B ⟨n, a, b, c, d⟩ s x → _) := Lib.hid (fun W h => root_c (w := W) h.hand HV.out.1 (HS1.out.below h.old) HR.out hn0 x HV.out.2 hj)
      have HV2 := Lib.hid (rootS_U HV.out.1 (C := ⟨n, a, b, c, d⟩) x HV.out.2)
      rw [hst] at HST HV2
      have HQ2 := Lib.hid hq
      clear hst hq hkT HV HQ hj
      obtain ⟨l, j, xc, m, xa, p, fd, tl, cy⟩ := x
      obtain ⟨l', j', xc', m', xa', p', fd', tl', cy'⟩ := x'
      dsimp only at hl HST HV2
      obtain rfl : l = 1 := hl
      obtain ⟨b0, b1, b2, b3, b4, b5, b6, b7, b8, bf⟩ := HT.out.cells9
      have hd2 : decide (2 * (N : Int) ≤ (k : Int)) = false := by simp; omega
      have hk1 : IntKind.i64.wrap ((k : Int) + 1) = (k : Int) + 1 := IntWalk.i64_in _ (by omega)
      go_wp2_with fail
      refine (HST.out _ HT.out).mono ?_
      rintro e V hp
      obtain ⟨rfl, hT⟩ := HT.out.step hp
      have HT2 := Lib.hid hT
      have hBl : B < V.heap.size := hT.col.lt
      have hBn : B ≠ V.heap.size := by omega
      clear hp hT HT HST b0 b1 b2 b3 b4 b5 b6 b7 b8 bf
      obtain ⟨b0, b1, b2, b3, b4, b5, b6, b7, b8, bf⟩ := HT2.out.cells9
      go_wp2_with fail
      have HT3 := Lib.hid ((HT2.out.put ⟨l', j', xc', m', xa', p', fd', tl', cy'⟩).below (below_new _ (.cells #[.int .i64 l', .int .i64 j', .int .i64 xc', .int .i64 m', .int .u64 xa', .int .u64 p', .bool fd', .int .i64 tl', .int .i64 cy'] 28)))
      go_roundw
      case rel => exact ⟨k + 1, s', ⟨l', j', xc', m', xa', p', fd', tl', cy'⟩, by go_num, by omega, HT3, HQ2, HV2⟩
      case measure => simp [intOf]; omega
    by_cases hl2 : x.l = 2
    · have hl := hl2
      clear hl2
      obtain ⟨s', x', hst, hq, hkT⟩ := HQ.out.go HK.out (by omega)
      have hkT2 : k < T := by rw [show (rootsN ⟨n, a, b, c, d⟩).toNat = N by have := HN.out; omega, HTT.out] at hkT; exact hkT
      have hj : -1000000000000 ≤ x.j ∧ x.j ≤ 1000000000000 := by have h1 := HQ.out.line; have := HN.out; omega
      have HST : Hid (∀ W, CkW W1 W H A G B ⟨n, a, b, c, d⟩ s x → _) := Lib.hid (fun W h => root_c (w := W) h.hand HV.out.1 (HS1.out.below h.old) HR.out hn0 x HV.out.2 hj)
      have HV2 := Lib.hid (rootS_U HV.out.1 (C := ⟨n, a, b, c, d⟩) x HV.out.2)
      rw [hst] at HST HV2
      have HQ2 := Lib.hid hq
      clear hst hq hkT HV HQ hj
      obtain ⟨l, j, xc, m, xa, p, fd, tl, cy⟩ := x
      obtain ⟨l', j', xc', m', xa', p', fd', tl', cy'⟩ := x'
      dsimp only at hl HST HV2
      obtain rfl : l = 2 := hl
      obtain ⟨b0, b1, b2, b3, b4, b5, b6, b7, b8, bf⟩ := HT.out.cells9
      have hd2 : decide (2 * (N : Int) ≤ (k : Int)) = false := by simp; omega
      have hk1 : IntKind.i64.wrap ((k : Int) + 1) = (k : Int) + 1 := IntWalk.i64_in _ (by omega)
      go_wp2_with fail
      refine (HST.out _ HT.out).mono ?_
      rintro e V hp
      obtain ⟨rfl, hT⟩ := HT.out.step hp
      have HT2 := Lib.hid hT
      have hBl : B < V.heap.size := hT.col.lt
      have hBn : B ≠ V.heap.size := by omega
      clear hp hT HT HST b0 b1 b2 b3 b4 b5 b6 b7 b8 bf
      obtain ⟨b0, b1, b2, b3, b4, b5, b6, b7, b8, bf⟩ := HT2.out.cells9
      go_wp2_with fail
      have HT3 := Lib.hid ((HT2.out.put ⟨l', j', xc', m', xa', p', fd', tl', cy'⟩).below (below_new _ (.cells #[.int .i64 l', .int .i64 j', .int .i64 xc', .int .i64 m', .int .u64 xa', .int .u64 p', .bool fd', .int .i64 tl', .int .i64 cy'] 28)))
      go_roundw
      case rel => exact ⟨k + 1, s', ⟨l', j', xc', m', xa', p', fd', tl', cy'⟩, by go_num, by omega, HT3, HQ2, HV2⟩
      case measure => simp [intOf]; omega
    have hend : x.l = 3 ∧ x.j = rootsN ⟨n, a, b, c, d⟩ := by rcases HQ.out.line with h | h | h; exact absurd h.1 hl; exact absurd h.1 hl2; exact ⟨h.1, h.2.1⟩
    obtain ⟨l, j, xc, m, xa, p, fd, tl, cy⟩ := x
    dsimp only at hend
    obtain ⟨rfl, hj⟩ := hend
    rw [HN.out] at hj
    subst hj
    have HNr := Lib.hid HQ.out.near
    have HDn : Hid (∀ i, 0 ≤ i → i < (N : Int) → 0 ≤ colP ⟨n, a, b, c, d⟩ (rootW ⟨n, a, b, c, d⟩ f i) → s.f (colP ⟨n, a, b, c, d⟩ (rootW ⟨n, a, b, c, d⟩ f i)).toNat ≠ 0) := Lib.hid HQ.out.done
    clear HQ HV hl hl2
    have h0 := HT.out.hand.cells.1
    obtain ⟨b0, b1, b2, b3, b4, b5, b6, b7, b8, bf⟩ := HT.out.cells9
    go_wp2_with fail
    refine (All_c HT.out.hand.ar hn20).mono ?_
    rintro e W6 ⟨rfl, hrow, hb⟩
    have HT6 := Lib.hid (HT.out.below hb)
    have HZ : Hid (RnB w W6 wr.heap.size w.heap.size ⟨n, a, b, c, d⟩ v0 f s.f) := Lib.hid ⟨belowOn HB1.out (belowOn HT.out.old hb), hrow, HW1.out.below (belowOn HT.out.old hb), HX1.out.below (belowOn HT.out.old hb)⟩
    generalize s.f = g at *
    generalize wr.heap.size = Z at *
    clear hrow hb HT h0 b0 b1 b2 b3 b4 b5 b6 b7 b8 bf
    obtain ⟨b0, b1, b2, b3, b4, b5, b6, b7, b8, bf⟩ := HT6.out.cells9
    obtain ⟨bz, off, rfl, _⟩ := HZ.out.was.at' hn0
    go_wp2_with fail
    clear HT6 b0 b1 b2 b3 b4 b5 b6 b7 b8 bf
    go_loopw [14] (fun jv wr => ∃ j : Nat, jv = .int .i64 j ∧ j ≤ N ∧ Hid (RnB w wr Z w.heap.size ⟨n, a, b, c, d⟩ (some ⟨bz, off, none⟩) f g)) (fun jv _ => N - (intOf jv).toNat)
    case atStart => exact ⟨0, rfl, by omega, HZ⟩
    case round =>
      clear HZ
      obtain ⟨j, rfl, hj, HZ⟩ := hrel
      by_cases hjN : j < N
      · obtain ⟨r0, r1, _⟩ := sp_root HK.out (j := (j : Int)) (by omega) (by rw [HN.out]; omega)
        dsimp only at r0 r1
        obtain ⟨q, hq⟩ : ∃ q : Nat, rootP a b c d (j : Int) = (q : Int) := ⟨(rootP a b c d (j : Int)).toNat, by omega⟩
        have hqn : q < n := by omega
        obtain ⟨u, hfu, hu6⟩ := u64_nat' (HU.out q)
        have hrw : rootW ⟨n, a, b, c, d⟩ f (j : Int) = (u : Int) := by unfold rootW; rw [hq, Int.toNat_natCast, hfu]
        have HRt : Hid (∀ W, Calls Tryd.prog 18 #[.agg #[.int .i64 a, .int .i64 b, .int .i64 c, .int .i64 d], .int .i64 (j : Int)] W fun e w' => e = .returned (.int .i64 (q : Int)) ∧ Below W.heap.size W w') := Lib.hid (fun W => by rw [← hq]; exact refRoot_c a b c d (j : Int) W)
        have HIc : Hid (∀ W, Calls Tryd.prog 17 #[.int .u64 (u : Int)] W fun e w' => e = .returned (.int .i64 (cellR u)) ∧ W = w') := Lib.hid (fun W => refIsCell_c u hu6 W)
        have HAt : Hid (∀ W, Calls Tryd.prog 19 #[.agg #[.int .i64 a, .int .i64 b, .int .i64 c, .int .i64 d], .agg #[.int .i64 6, .int .i64 (cellR u), .int .i64 0]] W fun e w' => e = .returned (.int .i64 (colP ⟨n, a, b, c, d⟩ (u : Int))) ∧ Below W.heap.size W w') := Lib.hid (fun W => by have := colP_at ⟨n, a, b, c, d⟩ u; dsimp only at this; rw [← this]; exact refAt_colour a b c d (cellR u) HR.out W)
        have hdn := HDn.out (j : Int) (by omega) (by omega)
        rw [hrw] at hdn
        have hsp := fun h => (colP_spot HK.out (w := (u : Int)) h).1
        dsimp only at hsp
        generalize colP ⟨n, a, b, c, d⟩ (u : Int) = at_ at *
        generalize cellR u = ci at *
        have hjb : (j : Int) < (N : Int) := by omega
        have hk1 : IntKind.i64.wrap ((j : Int) + 1) = (j : Int) + 1 := IntWalk.i64_in _ (by omega)
        have HDn2 := Lib.hid hdn; have HSp := Lib.hid hsp
        have HFu := Lib.hid hfu
        clear hq hfu hrw hdn hsp r0 r1 hu6
        obtain ⟨x0, x1, x2, x3⟩ := HZ.out.box
        dsimp only at x0 x1 x2 x3
        go_wp2_with fail
        refine (HRt.out _).mono ?_
        rintro e V1 ⟨rfl, hb⟩
        have HZ1 := Lib.hid (HZ.out.below hb)
        clear hb HZ HRt x0 x1 x2 x3
        have hq0 : (0 : Int) ≤ (q : Int) := by omega
        have hqI : (q : Int) < (n : Int) := by omega
        have lq : V1.cell? ⟨bz, off + q, none⟩ = some (.int .u64 (u : Int)) := by
          obtain ⟨b', off', e, h⟩ := HZ1.out.was.at' hqn
          obtain ⟨rfl, rfl⟩ : bz = b' ∧ off = off' := by simpa using e
          rw [h, HFu.out]
        go_wp2_with fail
        refine (HIc.out _).mono ?_
        rintro e V2 ⟨rfl, rfl⟩
        clear HIc lq
        obtain ⟨x0, x1, x2, x3⟩ := HZ1.out.box
        dsimp only at x0 x1 x2 x3
        go_wp2_with fail
        refine (HAt.out _).mono ?_
        rintro e V3 ⟨rfl, hb⟩
        have HZ2 := Lib.hid (HZ1.out.below hb)
        clear hb HZ1 HAt x0 x1 x2 x3 hq0 hqI hqn
        by_cases hat : 0 ≤ at_
        · obtain ⟨q2, rfl⟩ : ∃ q2 : Nat, at_ = (q2 : Int) := ⟨at_.toNat, by omega⟩
          have hn2 := HSp.out hat
          have hg := HDn2.out hat
          rw [Int.toNat_natCast] at hg
          have cq := HZ2.out.now.cell (j := q2) (by dsimp only; omega)
          have hg0 : (g q2 == 0) = false := by simpa using hg
          have hq2n : q2 < n := by omega
          generalize g q2 = gq at *
          clear hg HSp HDn2
          go_wp2_with fail
          go_roundw
          case rel => exact ⟨j + 1, by go_num, by omega, HZ2⟩
          case measure => simp [intOf]; omega
        · have hd0 : decide (0 ≤ at_) = false := decide_eq_false hat
          clear hat HSp HDn2
          go_wp2_with fail
          go_roundw
          case rel => exact ⟨j + 1, by go_num, by omega, HZ2⟩
          case measure => simp [intOf]; omega
      obtain rfl : j = N := by omega
      clear HDn hjN hj
      obtain ⟨x0, x1, x2, x3⟩ := HZ.out.box
      dsimp only at x0 x1 x2 x3
      obtain ⟨base, hbase⟩ : ∃ base : Int, 5 + b + d + b * c = base := ⟨_, rfl⟩
      have hsz := HK.out.size
      dsimp only at hsz
      have ha4 : 2 ≤ a ∧ a ≤ 4096 := by have := HK.out.a4; exact ⟨this.1, this.2.1⟩
      have hbn : (n : Int) - 3 * a = base := by omega
      have hwa : IntKind.i64.wrap (3 * a) = 3 * a := IntWalk.i64_in _ (by omega)
      have hb0 : 0 ≤ base ∧ base ≤ 20000 := by have := HR.out.prod; have h2 := HR.out; unfold Right at h2; omega
      have hwb : IntKind.i64.wrap ((n : Int) - 3 * a) = base := by rw [hbn]; exact IntWalk.i64_in _ (by omega)
      have HRem : Hid (∀ k : Nat, g k = f k ∨ (f k = 0 ∧ g k = 1 ∧ base ≤ (k : Int) ∧ ((k : Int) - base) % 3 = 2)) := Lib.hid (fun k => by
        rcases HNr.out k with e | ⟨e1, e2, i, _, _, e⟩
        · exact .inl e
        · have := col_rem HK.out e
          dsimp only at this
          exact .inr ⟨e1, e2, by omega, by rw [← hbase]; exact this.2.1⟩)
      clear HNr hsz hbn hbase
      go_wp2_with fail
      clear x0 x1 x2 x3 hwa hwb
      go_loopw [18] (fun kv wr => ∃ k : Nat, kv = .int .i64 k ∧ k ≤ n ∧ Hid (RnB w wr Z w.heap.size ⟨n, a, b, c, d⟩ (some ⟨bz, off, none⟩) f g)) (fun kv _ => n - (intOf kv).toNat)
      case atStart => exact ⟨0, rfl, by omega, HZ⟩
      case round =>
        clear HZ
        obtain ⟨k, rfl, hk, HZ⟩ := hrel
        by_cases hkn : k < n
        · have cz : wr.drew.cell? ⟨Z, k, none⟩ = some (.int .u64 (g k)) := HZ.out.now.cell (j := k) hkn
          have cw : wr.drew.cell? ⟨bz, off + k, none⟩ = some (.int .u64 (f k)) := by
            obtain ⟨b', off', e, h⟩ := HZ.out.was.at' (k := k) hkn
            obtain ⟨rfl, rfl⟩ : bz = b' ∧ off = off' := by simpa using e
            exact h
          have hk0 : (0 : Int) ≤ (k : Int) := by omega
          have hkI : (k : Int) < (n : Int) := by omega
          have hk1 : IntKind.i64.wrap ((k : Int) + 1) = (k : Int) + 1 := IntWalk.i64_in _ (by omega)
          rcases HRem.out k with hgk | ⟨hf0, hg1, hbk, hrem⟩
          · rw [hgk] at cz
            generalize f k = fk at *
            clear hgk
            go_wp2_with fail
            refine wp_region_held_drew (S := (fun w' => w'.cell? ⟨Z, k, none⟩ = some (.int .u64 fk) ∧ w'.cell? ⟨bz, off + k, none⟩ = some (.int .u64 fk))) (by kernel_rfl) ?_ (fun hHeld => ?_)
            · exact ⟨cz, cw⟩
            refine wpAnyH_take (i := 0) (oi := { dst := some 117, op := Op.move (Operand.tmp 13), type := 24, pos := "law.go:81", after := #[], guard := none }) (v := ?ve0) rfl (by kernel_rfl) (by kernel_rfl) (by kernel_rfl) (fun _ _ _ h => h) (Or.inl ⟨by rfl, ?hye0⟩) hHeld ?_
            case hye0 => (intro w hSw; (try dsimp only at hSw); go_simp; (try with_reducible rfl))
            try simp only [Act.put, List.setIfInBounds_toArray, List.set_cons_zero, List.set_cons_succ]
            refine wpAnyH_take (i := 1) (oi := { dst := some 118, op := Op.move (Operand.tmp 18), type := 3, pos := "law.go:81", after := #[], guard := none }) (v := ?ve1) rfl (by kernel_rfl) (by kernel_rfl) (by kernel_rfl) (fun _ _ _ h => h) (Or.inl ⟨by rfl, ?hye1⟩) hHeld ?_
            case hye1 => (intro w hSw; (try dsimp only at hSw); go_simp; (try with_reducible rfl))
            try simp only [Act.put, List.setIfInBounds_toArray, List.set_cons_zero, List.set_cons_succ]
            refine wpAnyH_take (i := 2) (oi := { dst := some 119, op := Op.indexAddr 24 (Operand.tmp 117) (Operand.tmp 118), type := 0, pos := "law.go:81", after := #[{ on := 0, ground := Ground.data }, { on := 1, ground := Ground.data }], guard := none }) (v := ?ve2) rfl (by kernel_rfl) (by kernel_rfl) (by kernel_rfl) (fun _ _ _ h => h) (Or.inl ⟨by rfl, ?hye2⟩) hHeld ?_
            case hye2 => (intro w hSw; (try dsimp only at hSw); go_simp; (try with_reducible rfl))
            try simp only [Act.put, List.setIfInBounds_toArray, List.set_cons_zero, List.set_cons_succ]
            refine wpAnyH_take (i := 3) (oi := { dst := some 120, op := Op.load 26 (Operand.tmp 119), type := 26, pos := "law.go:81", after := #[{ on := 2, ground := Ground.data }], guard := none }) (v := ?ve3) rfl (by kernel_rfl) (by kernel_rfl) (by kernel_rfl) (fun _ _ _ h => h) (Or.inl ⟨by rfl, ?hye3⟩) hHeld ?_
            case hye3 => (intro w hSw; (try dsimp only at hSw); go_simp; (try with_reducible rfl))
            try simp only [Act.put, List.setIfInBounds_toArray, List.set_cons_zero, List.set_cons_succ]
            refine wpAnyH_take (i := 4) (oi := { dst := some 121, op := Op.move (Operand.tmp 1), type := 24, pos := "law.go:81", after := #[], guard := none }) (v := ?ve4) rfl (by kernel_rfl) (by kernel_rfl) (by kernel_rfl) (fun _ _ _ h => h) (Or.inl ⟨by rfl, ?hye4⟩) hHeld ?_
            case hye4 => (intro w hSw; (try dsimp only at hSw); go_simp; (try with_reducible rfl))
            try simp only [Act.put, List.setIfInBounds_toArray, List.set_cons_zero, List.set_cons_succ]
            refine wpAnyH_take (i := 5) (oi := { dst := some 122, op := Op.move (Operand.tmp 18), type := 3, pos := "law.go:81", after := #[], guard := none }) (v := ?ve5) rfl (by kernel_rfl) (by kernel_rfl) (by kernel_rfl) (fun _ _ _ h => h) (Or.inl ⟨by rfl, ?hye5⟩) hHeld ?_
            case hye5 => (intro w hSw; (try dsimp only at hSw); go_simp; (try with_reducible rfl))
            try simp only [Act.put, List.setIfInBounds_toArray, List.set_cons_zero, List.set_cons_succ]
            refine wpAnyH_take (i := 6) (oi := { dst := some 123, op := Op.indexAddr 24 (Operand.tmp 121) (Operand.tmp 122), type := 0, pos := "law.go:81", after := #[{ on := 4, ground := Ground.data }, { on := 5, ground := Ground.data }], guard := none }) (v := ?ve6) rfl (by kernel_rfl) (by kernel_rfl) (by kernel_rfl) (fun _ _ _ h => h) (Or.inl ⟨by rfl, ?hye6⟩) hHeld ?_
            case hye6 => (intro w hSw; (try dsimp only at hSw); go_simp; (try with_reducible rfl))
            try simp only [Act.put, List.setIfInBounds_toArray, List.set_cons_zero, List.set_cons_succ]
            refine wpAnyH_take (i := 7) (oi := { dst := some 124, op := Op.load 26 (Operand.tmp 123), type := 26, pos := "law.go:81", after := #[{ on := 6, ground := Ground.data }], guard := none }) (v := ?ve7) rfl (by kernel_rfl) (by kernel_rfl) (by kernel_rfl) (fun _ _ _ h => h) (Or.inl ⟨by rfl, ?hye7⟩) hHeld ?_
            case hye7 => (intro w hSw; (try dsimp only at hSw); go_simp; (try with_reducible rfl))
            try simp only [Act.put, List.setIfInBounds_toArray, List.set_cons_zero, List.set_cons_succ]
            refine wpAnyH_take (i := 8) (oi := { dst := some 125, op := Op.binOp BinOp.neq 26 (Operand.tmp 120) (Operand.tmp 124) 26, type := 4, pos := "law.go:81", after := #[{ on := 3, ground := Ground.data }, { on := 7, ground := Ground.data }], guard := none }) (v := ?ve8) rfl (by kernel_rfl) (by kernel_rfl) (by kernel_rfl) (fun _ _ _ h => h) (Or.inl ⟨by rfl, ?hye8⟩) hHeld ?_
            case hye8 => (intro w hSw; (try dsimp only at hSw); go_simp; (try with_reducible rfl))
            try simp only [Act.put, List.setIfInBounds_toArray, List.set_cons_zero, List.set_cons_succ]
            refine wpAnyH_take (i := 9) (oi := { dst := some 126, op := Op.move (Operand.tmp 125), type := 4, pos := "law.go:81", after := #[{ on := 8, ground := Ground.data }], guard := none }) (v := ?ve9) rfl (by kernel_rfl) (by kernel_rfl) (by kernel_rfl) (fun _ _ _ h => h) (Or.inl ⟨by rfl, ?hye9⟩) hHeld ?_
            case hye9 => (intro w hSw; (try dsimp only at hSw); go_simp; (try with_reducible rfl))
            try simp only [Act.put, List.setIfInBounds_toArray, List.set_cons_zero, List.set_cons_succ]
            refine wpAnyH_take (i := 10) (oi := { dst := some 127, op := Op.move (Operand.tmp 18), type := 3, pos := "law.go:81", after := #[{ on := 9, ground := Ground.guard }], guard := some (9, true) }) (v := undef) rfl (by kernel_rfl) (by kernel_rfl) (by kernel_rfl) (fun _ _ _ h => h) (Or.inr ⟨by rfl, rfl⟩) hHeld ?_
            try simp only [Act.put, List.setIfInBounds_toArray, List.set_cons_zero, List.set_cons_succ]
            refine wpAnyH_take (i := 11) (oi := { dst := some 128, op := Op.move (Operand.tmp 17), type := 3, pos := "law.go:81", after := #[{ on := 9, ground := Ground.guard }], guard := some (9, true) }) (v := undef) rfl (by kernel_rfl) (by kernel_rfl) (by kernel_rfl) (fun _ _ _ h => h) (Or.inr ⟨by rfl, rfl⟩) hHeld ?_
            try simp only [Act.put, List.setIfInBounds_toArray, List.set_cons_zero, List.set_cons_succ]
            refine wpAnyH_take (i := 12) (oi := { dst := some 129, op := Op.binOp BinOp.lss 3 (Operand.tmp 127) (Operand.tmp 128) 3, type := 4, pos := "law.go:81", after := #[{ on := 10, ground := Ground.data }, { on := 11, ground := Ground.data }, { on := 9, ground := Ground.guard }], guard := some (9, true) }) (v := undef) rfl (by kernel_rfl) (by kernel_rfl) (by kernel_rfl) (fun _ _ _ h => h) (Or.inr ⟨by rfl, rfl⟩) hHeld ?_
            try simp only [Act.put, List.setIfInBounds_toArray, List.set_cons_zero, List.set_cons_succ]
            refine wpAnyH_take (i := 13) (oi := { dst := some 130, op := Op.move (Operand.tmp 129), type := 4, pos := "law.go:81", after := #[{ on := 12, ground := Ground.data }, { on := 9, ground := Ground.chain }, { on := 9, ground := Ground.guard }], guard := some (9, true) }) (v := undef) rfl (by kernel_rfl) (by kernel_rfl) (by kernel_rfl) (fun _ _ _ h => h) (Or.inr ⟨by rfl, rfl⟩) hHeld ?_
            try simp only [Act.put, List.setIfInBounds_toArray, List.set_cons_zero, List.set_cons_succ]
            refine wpAnyH_take (i := 14) (oi := { dst := some 131, op := Op.move (Operand.tmp 18), type := 3, pos := "law.go:81", after := #[{ on := 13, ground := Ground.guard }], guard := some (13, false) }) (v := undef) rfl (by kernel_rfl) (by kernel_rfl) (by kernel_rfl) (fun _ _ _ h => h) (Or.inr ⟨by rfl, rfl⟩) hHeld ?_
            try simp only [Act.put, List.setIfInBounds_toArray, List.set_cons_zero, List.set_cons_succ]
            refine wpAnyH_take (i := 15) (oi := { dst := some 132, op := Op.move (Operand.tmp 17), type := 3, pos := "law.go:81", after := #[{ on := 13, ground := Ground.guard }], guard := some (13, false) }) (v := undef) rfl (by kernel_rfl) (by kernel_rfl) (by kernel_rfl) (fun _ _ _ h => h) (Or.inr ⟨by rfl, rfl⟩) hHeld ?_
            try simp only [Act.put, List.setIfInBounds_toArray, List.set_cons_zero, List.set_cons_succ]
            refine wpAnyH_take (i := 16) (oi := { dst := some 133, op := Op.binOp BinOp.sub 3 (Operand.tmp 131) (Operand.tmp 132) 3, type := 3, pos := "law.go:81", after := #[{ on := 14, ground := Ground.data }, { on := 15, ground := Ground.data }, { on := 13, ground := Ground.guard }], guard := some (13, false) }) (v := undef) rfl (by kernel_rfl) (by kernel_rfl) (by kernel_rfl) (fun _ _ _ h => h) (Or.inr ⟨by rfl, rfl⟩) hHeld ?_
            try simp only [Act.put, List.setIfInBounds_toArray, List.set_cons_zero, List.set_cons_succ]
            refine wpAnyH_take (i := 17) (oi := { dst := some 134, op := Op.binOp BinOp.rem 3 (Operand.tmp 133) (Operand.const (Value.int IntKind.i64 3)) 3, type := 3, pos := "law.go:81", after := #[{ on := 16, ground := Ground.data }, { on := 13, ground := Ground.guard }], guard := some (13, false) }) (v := undef) rfl (by kernel_rfl) (by kernel_rfl) (by kernel_rfl) (fun _ _ _ h => h) (Or.inr ⟨by rfl, rfl⟩) hHeld ?_
            try simp only [Act.put, List.setIfInBounds_toArray, List.set_cons_zero, List.set_cons_succ]
            refine wpAnyH_take (i := 18) (oi := { dst := some 135, op := Op.binOp BinOp.neq 3 (Operand.tmp 134) (Operand.const (Value.int IntKind.i64 2)) 3, type := 4, pos := "law.go:81", after := #[{ on := 17, ground := Ground.data }, { on := 13, ground := Ground.guard }], guard := some (13, false) }) (v := undef) rfl (by kernel_rfl) (by kernel_rfl) (by kernel_rfl) (fun _ _ _ h => h) (Or.inr ⟨by rfl, rfl⟩) hHeld ?_
            try simp only [Act.put, List.setIfInBounds_toArray, List.set_cons_zero, List.set_cons_succ]
            refine wpAnyH_take (i := 19) (oi := { dst := some 136, op := Op.pick (Operand.tmp 130) (Operand.const (Value.bool true)) (Operand.tmp 135), type := 4, pos := "law.go:81", after := #[{ on := 13, ground := Ground.data }, { on := 18, ground := Ground.data }, { on := 9, ground := Ground.guard }], guard := some (9, true) }) (v := undef) rfl (by kernel_rfl) (by kernel_rfl) (by kernel_rfl) (fun _ _ _ h => h) (Or.inr ⟨by rfl, rfl⟩) hHeld ?_
            try simp only [Act.put, List.setIfInBounds_toArray, List.set_cons_zero, List.set_cons_succ]
            refine wpAnyH_take (i := 20) (oi := { dst := some 137, op := Op.move (Operand.tmp 136), type := 4, pos := "law.go:81", after := #[{ on := 19, ground := Ground.data }, { on := 13, ground := Ground.chain }, { on := 9, ground := Ground.guard }], guard := some (9, true) }) (v := undef) rfl (by kernel_rfl) (by kernel_rfl) (by kernel_rfl) (fun _ _ _ h => h) (Or.inr ⟨by rfl, rfl⟩) hHeld ?_
            try simp only [Act.put, List.setIfInBounds_toArray, List.set_cons_zero, List.set_cons_succ]
            refine wpAnyH_take (i := 21) (oi := { dst := some 138, op := Op.move (Operand.tmp 1), type := 24, pos := "law.go:81", after := #[{ on := 20, ground := Ground.guard }], guard := some (20, false) }) (v := undef) rfl (by kernel_rfl) (by kernel_rfl) (by kernel_rfl) (fun _ _ _ h => h) (Or.inr ⟨by rfl, rfl⟩) hHeld ?_
            try simp only [Act.put, List.setIfInBounds_toArray, List.set_cons_zero, List.set_cons_succ]
            refine wpAnyH_take (i := 22) (oi := { dst := some 139, op := Op.move (Operand.tmp 18), type := 3, pos := "law.go:81", after := #[{ on := 20, ground := Ground.guard }], guard := some (20, false) }) (v := undef) rfl (by kernel_rfl) (by kernel_rfl) (by kernel_rfl) (fun _ _ _ h => h) (Or.inr ⟨by rfl, rfl⟩) hHeld ?_
            try simp only [Act.put, List.setIfInBounds_toArray, List.set_cons_zero, List.set_cons_succ]
            refine wpAnyH_take (i := 23) (oi := { dst := some 140, op := Op.indexAddr 24 (Operand.tmp 138) (Operand.tmp 139), type := 0, pos := "law.go:81", after := #[{ on := 21, ground := Ground.data }, { on := 22, ground := Ground.data }, { on := 20, ground := Ground.guard }], guard := some (20, false) }) (v := undef) rfl (by kernel_rfl) (by kernel_rfl) (by kernel_rfl) (fun _ _ _ h => h) (Or.inr ⟨by rfl, rfl⟩) hHeld ?_
            try simp only [Act.put, List.setIfInBounds_toArray, List.set_cons_zero, List.set_cons_succ]
            refine wpAnyH_take (i := 24) (oi := { dst := some 141, op := Op.load 26 (Operand.tmp 140), type := 26, pos := "law.go:81", after := #[{ on := 23, ground := Ground.data }, { on := 20, ground := Ground.guard }], guard := some (20, false) }) (v := undef) rfl (by kernel_rfl) (by kernel_rfl) (by kernel_rfl) (fun _ _ _ h => h) (Or.inr ⟨by rfl, rfl⟩) hHeld ?_
            try simp only [Act.put, List.setIfInBounds_toArray, List.set_cons_zero, List.set_cons_succ]
            refine wpAnyH_take (i := 25) (oi := { dst := some 142, op := Op.binOp BinOp.neq 26 (Operand.tmp 141) (Operand.const (Value.int IntKind.u64 0)) 26, type := 4, pos := "law.go:81", after := #[{ on := 24, ground := Ground.data }, { on := 20, ground := Ground.guard }], guard := some (20, false) }) (v := undef) rfl (by kernel_rfl) (by kernel_rfl) (by kernel_rfl) (fun _ _ _ h => h) (Or.inr ⟨by rfl, rfl⟩) hHeld ?_
            try simp only [Act.put, List.setIfInBounds_toArray, List.set_cons_zero, List.set_cons_succ]
            refine wpAnyH_take (i := 26) (oi := { dst := some 143, op := Op.pick (Operand.tmp 137) (Operand.const (Value.bool true)) (Operand.tmp 142), type := 4, pos := "law.go:81", after := #[{ on := 20, ground := Ground.data }, { on := 25, ground := Ground.data }, { on := 9, ground := Ground.guard }], guard := some (9, true) }) (v := undef) rfl (by kernel_rfl) (by kernel_rfl) (by kernel_rfl) (fun _ _ _ h => h) (Or.inr ⟨by rfl, rfl⟩) hHeld ?_
            try simp only [Act.put, List.setIfInBounds_toArray, List.set_cons_zero, List.set_cons_succ]
            refine wpAnyH_take (i := 27) (oi := { dst := some 144, op := Op.move (Operand.tmp 143), type := 4, pos := "law.go:81", after := #[{ on := 26, ground := Ground.data }, { on := 20, ground := Ground.chain }, { on := 9, ground := Ground.guard }], guard := some (9, true) }) (v := undef) rfl (by kernel_rfl) (by kernel_rfl) (by kernel_rfl) (fun _ _ _ h => h) (Or.inr ⟨by rfl, rfl⟩) hHeld ?_
            try simp only [Act.put, List.setIfInBounds_toArray, List.set_cons_zero, List.set_cons_succ]
            refine wpAnyH_take (i := 28) (oi := { dst := some 145, op := Op.move (Operand.tmp 13), type := 24, pos := "law.go:81", after := #[{ on := 27, ground := Ground.guard }], guard := some (27, false) }) (v := undef) rfl (by kernel_rfl) (by kernel_rfl) (by kernel_rfl) (fun _ _ _ h => h) (Or.inr ⟨by rfl, rfl⟩) hHeld ?_
            try simp only [Act.put, List.setIfInBounds_toArray, List.set_cons_zero, List.set_cons_succ]
            refine wpAnyH_take (i := 29) (oi := { dst := some 146, op := Op.move (Operand.tmp 18), type := 3, pos := "law.go:81", after := #[{ on := 27, ground := Ground.guard }], guard := some (27, false) }) (v := undef) rfl (by kernel_rfl) (by kernel_rfl) (by kernel_rfl) (fun _ _ _ h => h) (Or.inr ⟨by rfl, rfl⟩) hHeld ?_
            try simp only [Act.put, List.setIfInBounds_toArray, List.set_cons_zero, List.set_cons_succ]
            refine wpAnyH_take (i := 30) (oi := { dst := some 147, op := Op.indexAddr 24 (Operand.tmp 145) (Operand.tmp 146), type := 0, pos := "law.go:81", after := #[{ on := 28, ground := Ground.data }, { on := 29, ground := Ground.data }, { on := 27, ground := Ground.guard }], guard := some (27, false) }) (v := undef) rfl (by kernel_rfl) (by kernel_rfl) (by kernel_rfl) (fun _ _ _ h => h) (Or.inr ⟨by rfl, rfl⟩) hHeld ?_
            try simp only [Act.put, List.setIfInBounds_toArray, List.set_cons_zero, List.set_cons_succ]
            refine wpAnyH_take (i := 31) (oi := { dst := some 148, op := Op.load 26 (Operand.tmp 147), type := 26, pos := "law.go:81", after := #[{ on := 30, ground := Ground.data }, { on := 27, ground := Ground.guard }], guard := some (27, false) }) (v := undef) rfl (by kernel_rfl) (by kernel_rfl) (by kernel_rfl) (fun _ _ _ h => h) (Or.inr ⟨by rfl, rfl⟩) hHeld ?_
            try simp only [Act.put, List.setIfInBounds_toArray, List.set_cons_zero, List.set_cons_succ]
            refine wpAnyH_take (i := 32) (oi := { dst := some 149, op := Op.binOp BinOp.neq 26 (Operand.tmp 148) (Operand.const (Value.int IntKind.u64 1)) 26, type := 4, pos := "law.go:81", after := #[{ on := 31, ground := Ground.data }, { on := 27, ground := Ground.guard }], guard := some (27, false) }) (v := undef) rfl (by kernel_rfl) (by kernel_rfl) (by kernel_rfl) (fun _ _ _ h => h) (Or.inr ⟨by rfl, rfl⟩) hHeld ?_
            try simp only [Act.put, List.setIfInBounds_toArray, List.set_cons_zero, List.set_cons_succ]
            refine wpAnyH_take (i := 33) (oi := { dst := some 150, op := Op.pick (Operand.tmp 144) (Operand.const (Value.bool true)) (Operand.tmp 149), type := 4, pos := "law.go:81", after := #[{ on := 27, ground := Ground.data }, { on := 32, ground := Ground.data }, { on := 9, ground := Ground.guard }], guard := some (9, true) }) (v := undef) rfl (by kernel_rfl) (by kernel_rfl) (by kernel_rfl) (fun _ _ _ h => h) (Or.inr ⟨by rfl, rfl⟩) hHeld ?_
            try simp only [Act.put, List.setIfInBounds_toArray, List.set_cons_zero, List.set_cons_succ]
            refine wpAnyH_take (i := 34) (oi := { dst := some 151, op := Op.pick (Operand.tmp 126) (Operand.tmp 150) (Operand.const (Value.bool false)), type := 4, pos := "law.go:81", after := #[{ on := 9, ground := Ground.data }, { on := 33, ground := Ground.data }], guard := none }) (v := ?ve34) rfl (by kernel_rfl) (by kernel_rfl) (by kernel_rfl) (fun _ _ _ h => h) (Or.inl ⟨by rfl, ?hye34⟩) hHeld ?_
            case hye34 => (intro w hSw; (try dsimp only at hSw); go_simp; (try with_reducible rfl))
            try simp only [Act.put, List.setIfInBounds_toArray, List.set_cons_zero, List.set_cons_succ]
            refine wpAnyH_done (by kernel_rfl) ?_ _
            have HZ3 := Lib.hid HZ.out.drew
            clear hHeld cz cw HZ
            go_wp2_with fail
            go_roundw
            case rel => exact ⟨k + 1, by go_num, by omega, HZ3⟩
            case measure => simp [intOf]; omega
          · rw [hg1] at cz
            rw [hf0] at cw
            clear hf0 hg1
            have hd1 : decide ((k : Int) < base) = false := decide_eq_false (by omega)
            have hw3 : IntKind.i64.wrap ((k : Int) - base) = (k : Int) - base := IntWalk.i64_in _ (by omega)
            have hrm : Int.tmod ((k : Int) - base) 3 = 2 := by rw [Int.tmod_eq_emod_of_nonneg (by omega)]; exact hrem
            go_wp2_with fail
            refine wp_region_held_drew (S := (fun w' => w'.cell? ⟨Z, k, none⟩ = some (.int .u64 1) ∧ w'.cell? ⟨bz, off + k, none⟩ = some (.int .u64 0))) (by kernel_rfl) ?_ (fun hHeld => ?_)
            · exact ⟨cz, cw⟩
            refine wpAnyH_take (i := 0) (oi := { dst := some 117, op := Op.move (Operand.tmp 13), type := 24, pos := "law.go:81", after := #[], guard := none }) (v := ?vg0) rfl (by kernel_rfl) (by kernel_rfl) (by kernel_rfl) (fun _ _ _ h => h) (Or.inl ⟨by rfl, ?hyg0⟩) hHeld ?_
            case hyg0 => (intro w hSw; (try dsimp only at hSw); go_simp; (try with_reducible rfl))
            try simp only [Act.put, List.setIfInBounds_toArray, List.set_cons_zero, List.set_cons_succ]
            refine wpAnyH_take (i := 1) (oi := { dst := some 118, op := Op.move (Operand.tmp 18), type := 3, pos := "law.go:81", after := #[], guard := none }) (v := ?vg1) rfl (by kernel_rfl) (by kernel_rfl) (by kernel_rfl) (fun _ _ _ h => h) (Or.inl ⟨by rfl, ?hyg1⟩) hHeld ?_
            case hyg1 => (intro w hSw; (try dsimp only at hSw); go_simp; (try with_reducible rfl))
            try simp only [Act.put, List.setIfInBounds_toArray, List.set_cons_zero, List.set_cons_succ]
            refine wpAnyH_take (i := 2) (oi := { dst := some 119, op := Op.indexAddr 24 (Operand.tmp 117) (Operand.tmp 118), type := 0, pos := "law.go:81", after := #[{ on := 0, ground := Ground.data }, { on := 1, ground := Ground.data }], guard := none }) (v := ?vg2) rfl (by kernel_rfl) (by kernel_rfl) (by kernel_rfl) (fun _ _ _ h => h) (Or.inl ⟨by rfl, ?hyg2⟩) hHeld ?_
            case hyg2 => (intro w hSw; (try dsimp only at hSw); go_simp; (try with_reducible rfl))
            try simp only [Act.put, List.setIfInBounds_toArray, List.set_cons_zero, List.set_cons_succ]
            refine wpAnyH_take (i := 3) (oi := { dst := some 120, op := Op.load 26 (Operand.tmp 119), type := 26, pos := "law.go:81", after := #[{ on := 2, ground := Ground.data }], guard := none }) (v := ?vg3) rfl (by kernel_rfl) (by kernel_rfl) (by kernel_rfl) (fun _ _ _ h => h) (Or.inl ⟨by rfl, ?hyg3⟩) hHeld ?_
            case hyg3 => (intro w hSw; (try dsimp only at hSw); go_simp; (try with_reducible rfl))
            try simp only [Act.put, List.setIfInBounds_toArray, List.set_cons_zero, List.set_cons_succ]
            refine wpAnyH_take (i := 4) (oi := { dst := some 121, op := Op.move (Operand.tmp 1), type := 24, pos := "law.go:81", after := #[], guard := none }) (v := ?vg4) rfl (by kernel_rfl) (by kernel_rfl) (by kernel_rfl) (fun _ _ _ h => h) (Or.inl ⟨by rfl, ?hyg4⟩) hHeld ?_
            case hyg4 => (intro w hSw; (try dsimp only at hSw); go_simp; (try with_reducible rfl))
            try simp only [Act.put, List.setIfInBounds_toArray, List.set_cons_zero, List.set_cons_succ]
            refine wpAnyH_take (i := 5) (oi := { dst := some 122, op := Op.move (Operand.tmp 18), type := 3, pos := "law.go:81", after := #[], guard := none }) (v := ?vg5) rfl (by kernel_rfl) (by kernel_rfl) (by kernel_rfl) (fun _ _ _ h => h) (Or.inl ⟨by rfl, ?hyg5⟩) hHeld ?_
            case hyg5 => (intro w hSw; (try dsimp only at hSw); go_simp; (try with_reducible rfl))
            try simp only [Act.put, List.setIfInBounds_toArray, List.set_cons_zero, List.set_cons_succ]
            refine wpAnyH_take (i := 6) (oi := { dst := some 123, op := Op.indexAddr 24 (Operand.tmp 121) (Operand.tmp 122), type := 0, pos := "law.go:81", after := #[{ on := 4, ground := Ground.data }, { on := 5, ground := Ground.data }], guard := none }) (v := ?vg6) rfl (by kernel_rfl) (by kernel_rfl) (by kernel_rfl) (fun _ _ _ h => h) (Or.inl ⟨by rfl, ?hyg6⟩) hHeld ?_
            case hyg6 => (intro w hSw; (try dsimp only at hSw); go_simp; (try with_reducible rfl))
            try simp only [Act.put, List.setIfInBounds_toArray, List.set_cons_zero, List.set_cons_succ]
            refine wpAnyH_take (i := 7) (oi := { dst := some 124, op := Op.load 26 (Operand.tmp 123), type := 26, pos := "law.go:81", after := #[{ on := 6, ground := Ground.data }], guard := none }) (v := ?vg7) rfl (by kernel_rfl) (by kernel_rfl) (by kernel_rfl) (fun _ _ _ h => h) (Or.inl ⟨by rfl, ?hyg7⟩) hHeld ?_
            case hyg7 => (intro w hSw; (try dsimp only at hSw); go_simp; (try with_reducible rfl))
            try simp only [Act.put, List.setIfInBounds_toArray, List.set_cons_zero, List.set_cons_succ]
            refine wpAnyH_take (i := 8) (oi := { dst := some 125, op := Op.binOp BinOp.neq 26 (Operand.tmp 120) (Operand.tmp 124) 26, type := 4, pos := "law.go:81", after := #[{ on := 3, ground := Ground.data }, { on := 7, ground := Ground.data }], guard := none }) (v := ?vg8) rfl (by kernel_rfl) (by kernel_rfl) (by kernel_rfl) (fun _ _ _ h => h) (Or.inl ⟨by rfl, ?hyg8⟩) hHeld ?_
            case hyg8 => (intro w hSw; (try dsimp only at hSw); go_simp; (try with_reducible rfl))
            try simp only [Act.put, List.setIfInBounds_toArray, List.set_cons_zero, List.set_cons_succ]
            refine wpAnyH_take (i := 9) (oi := { dst := some 126, op := Op.move (Operand.tmp 125), type := 4, pos := "law.go:81", after := #[{ on := 8, ground := Ground.data }], guard := none }) (v := ?vg9) rfl (by kernel_rfl) (by kernel_rfl) (by kernel_rfl) (fun _ _ _ h => h) (Or.inl ⟨by rfl, ?hyg9⟩) hHeld ?_
            case hyg9 => (intro w hSw; (try dsimp only at hSw); go_simp; (try with_reducible rfl))
            try simp only [Act.put, List.setIfInBounds_toArray, List.set_cons_zero, List.set_cons_succ]
            refine wpAnyH_take (i := 10) (oi := { dst := some 127, op := Op.move (Operand.tmp 18), type := 3, pos := "law.go:81", after := #[{ on := 9, ground := Ground.guard }], guard := some (9, true) }) (v := ?vg10) rfl (by kernel_rfl) (by kernel_rfl) (by kernel_rfl) (fun _ _ _ h => h) (Or.inl ⟨by rfl, ?hyg10⟩) hHeld ?_
            case hyg10 => (intro w hSw; (try dsimp only at hSw); go_simp; (try with_reducible rfl))
            try simp only [Act.put, List.setIfInBounds_toArray, List.set_cons_zero, List.set_cons_succ]
            refine wpAnyH_take (i := 11) (oi := { dst := some 128, op := Op.move (Operand.tmp 17), type := 3, pos := "law.go:81", after := #[{ on := 9, ground := Ground.guard }], guard := some (9, true) }) (v := ?vg11) rfl (by kernel_rfl) (by kernel_rfl) (by kernel_rfl) (fun _ _ _ h => h) (Or.inl ⟨by rfl, ?hyg11⟩) hHeld ?_
            case hyg11 => (intro w hSw; (try dsimp only at hSw); go_simp; (try with_reducible rfl))
            try simp only [Act.put, List.setIfInBounds_toArray, List.set_cons_zero, List.set_cons_succ]
            refine wpAnyH_take (i := 12) (oi := { dst := some 129, op := Op.binOp BinOp.lss 3 (Operand.tmp 127) (Operand.tmp 128) 3, type := 4, pos := "law.go:81", after := #[{ on := 10, ground := Ground.data }, { on := 11, ground := Ground.data }, { on := 9, ground := Ground.guard }], guard := some (9, true) }) (v := ?vg12) rfl (by kernel_rfl) (by kernel_rfl) (by kernel_rfl) (fun _ _ _ h => h) (Or.inl ⟨by rfl, ?hyg12⟩) hHeld ?_
            case hyg12 => (intro w hSw; (try dsimp only at hSw); go_simp; (try with_reducible rfl))
            try simp only [Act.put, List.setIfInBounds_toArray, List.set_cons_zero, List.set_cons_succ]
            refine wpAnyH_take (i := 13) (oi := { dst := some 130, op := Op.move (Operand.tmp 129), type := 4, pos := "law.go:81", after := #[{ on := 12, ground := Ground.data }, { on := 9, ground := Ground.chain }, { on := 9, ground := Ground.guard }], guard := some (9, true) }) (v := ?vg13) rfl (by kernel_rfl) (by kernel_rfl) (by kernel_rfl) (fun _ _ _ h => h) (Or.inl ⟨by rfl, ?hyg13⟩) hHeld ?_
            case hyg13 => (intro w hSw; (try dsimp only at hSw); go_simp; (try with_reducible rfl))
            try simp only [Act.put, List.setIfInBounds_toArray, List.set_cons_zero, List.set_cons_succ]
            refine wpAnyH_take (i := 14) (oi := { dst := some 131, op := Op.move (Operand.tmp 18), type := 3, pos := "law.go:81", after := #[{ on := 13, ground := Ground.guard }], guard := some (13, false) }) (v := ?vg14) rfl (by kernel_rfl) (by kernel_rfl) (by kernel_rfl) (fun _ _ _ h => h) (Or.inl ⟨by rfl, ?hyg14⟩) hHeld ?_
            case hyg14 => (intro w hSw; (try dsimp only at hSw); go_simp; (try with_reducible rfl))
            try simp only [Act.put, List.setIfInBounds_toArray, List.set_cons_zero, List.set_cons_succ]
            refine wpAnyH_take (i := 15) (oi := { dst := some 132, op := Op.move (Operand.tmp 17), type := 3, pos := "law.go:81", after := #[{ on := 13, ground := Ground.guard }], guard := some (13, false) }) (v := ?vg15) rfl (by kernel_rfl) (by kernel_rfl) (by kernel_rfl) (fun _ _ _ h => h) (Or.inl ⟨by rfl, ?hyg15⟩) hHeld ?_
            case hyg15 => (intro w hSw; (try dsimp only at hSw); go_simp; (try with_reducible rfl))
            try simp only [Act.put, List.setIfInBounds_toArray, List.set_cons_zero, List.set_cons_succ]
            refine wpAnyH_take (i := 16) (oi := { dst := some 133, op := Op.binOp BinOp.sub 3 (Operand.tmp 131) (Operand.tmp 132) 3, type := 3, pos := "law.go:81", after := #[{ on := 14, ground := Ground.data }, { on := 15, ground := Ground.data }, { on := 13, ground := Ground.guard }], guard := some (13, false) }) (v := ?vg16) rfl (by kernel_rfl) (by kernel_rfl) (by kernel_rfl) (fun _ _ _ h => h) (Or.inl ⟨by rfl, ?hyg16⟩) hHeld ?_
            case hyg16 => (intro w hSw; (try dsimp only at hSw); go_simp; (try with_reducible rfl))
            try simp only [Act.put, List.setIfInBounds_toArray, List.set_cons_zero, List.set_cons_succ]
            refine wpAnyH_take (i := 17) (oi := { dst := some 134, op := Op.binOp BinOp.rem 3 (Operand.tmp 133) (Operand.const (Value.int IntKind.i64 3)) 3, type := 3, pos := "law.go:81", after := #[{ on := 16, ground := Ground.data }, { on := 13, ground := Ground.guard }], guard := some (13, false) }) (v := ?vg17) rfl (by kernel_rfl) (by kernel_rfl) (by kernel_rfl) (fun _ _ _ h => h) (Or.inl ⟨by rfl, ?hyg17⟩) hHeld ?_
            case hyg17 => (intro w hSw; (try dsimp only at hSw); go_simp; (try with_reducible rfl))
            try simp only [Act.put, List.setIfInBounds_toArray, List.set_cons_zero, List.set_cons_succ]
            refine wpAnyH_take (i := 18) (oi := { dst := some 135, op := Op.binOp BinOp.neq 3 (Operand.tmp 134) (Operand.const (Value.int IntKind.i64 2)) 3, type := 4, pos := "law.go:81", after := #[{ on := 17, ground := Ground.data }, { on := 13, ground := Ground.guard }], guard := some (13, false) }) (v := ?vg18) rfl (by kernel_rfl) (by kernel_rfl) (by kernel_rfl) (fun _ _ _ h => h) (Or.inl ⟨by rfl, ?hyg18⟩) hHeld ?_
            case hyg18 => (intro w hSw; (try dsimp only at hSw); go_simp; (try with_reducible rfl))
            try simp only [Act.put, List.setIfInBounds_toArray, List.set_cons_zero, List.set_cons_succ]
            refine wpAnyH_take (i := 19) (oi := { dst := some 136, op := Op.pick (Operand.tmp 130) (Operand.const (Value.bool true)) (Operand.tmp 135), type := 4, pos := "law.go:81", after := #[{ on := 13, ground := Ground.data }, { on := 18, ground := Ground.data }, { on := 9, ground := Ground.guard }], guard := some (9, true) }) (v := ?vg19) rfl (by kernel_rfl) (by kernel_rfl) (by kernel_rfl) (fun _ _ _ h => h) (Or.inl ⟨by rfl, ?hyg19⟩) hHeld ?_
            case hyg19 => (intro w hSw; (try dsimp only at hSw); go_simp; (try with_reducible rfl))
            try simp only [Act.put, List.setIfInBounds_toArray, List.set_cons_zero, List.set_cons_succ]
            refine wpAnyH_take (i := 20) (oi := { dst := some 137, op := Op.move (Operand.tmp 136), type := 4, pos := "law.go:81", after := #[{ on := 19, ground := Ground.data }, { on := 13, ground := Ground.chain }, { on := 9, ground := Ground.guard }], guard := some (9, true) }) (v := ?vg20) rfl (by kernel_rfl) (by kernel_rfl) (by kernel_rfl) (fun _ _ _ h => h) (Or.inl ⟨by rfl, ?hyg20⟩) hHeld ?_
            case hyg20 => (intro w hSw; (try dsimp only at hSw); go_simp; (try with_reducible rfl))
            try simp only [Act.put, List.setIfInBounds_toArray, List.set_cons_zero, List.set_cons_succ]
            refine wpAnyH_take (i := 21) (oi := { dst := some 138, op := Op.move (Operand.tmp 1), type := 24, pos := "law.go:81", after := #[{ on := 20, ground := Ground.guard }], guard := some (20, false) }) (v := ?vg21) rfl (by kernel_rfl) (by kernel_rfl) (by kernel_rfl) (fun _ _ _ h => h) (Or.inl ⟨by rfl, ?hyg21⟩) hHeld ?_
            case hyg21 => (intro w hSw; (try dsimp only at hSw); go_simp; (try with_reducible rfl))
            try simp only [Act.put, List.setIfInBounds_toArray, List.set_cons_zero, List.set_cons_succ]
            refine wpAnyH_take (i := 22) (oi := { dst := some 139, op := Op.move (Operand.tmp 18), type := 3, pos := "law.go:81", after := #[{ on := 20, ground := Ground.guard }], guard := some (20, false) }) (v := ?vg22) rfl (by kernel_rfl) (by kernel_rfl) (by kernel_rfl) (fun _ _ _ h => h) (Or.inl ⟨by rfl, ?hyg22⟩) hHeld ?_
            case hyg22 => (intro w hSw; (try dsimp only at hSw); go_simp; (try with_reducible rfl))
            try simp only [Act.put, List.setIfInBounds_toArray, List.set_cons_zero, List.set_cons_succ]
            refine wpAnyH_take (i := 23) (oi := { dst := some 140, op := Op.indexAddr 24 (Operand.tmp 138) (Operand.tmp 139), type := 0, pos := "law.go:81", after := #[{ on := 21, ground := Ground.data }, { on := 22, ground := Ground.data }, { on := 20, ground := Ground.guard }], guard := some (20, false) }) (v := ?vg23) rfl (by kernel_rfl) (by kernel_rfl) (by kernel_rfl) (fun _ _ _ h => h) (Or.inl ⟨by rfl, ?hyg23⟩) hHeld ?_
            case hyg23 => (intro w hSw; (try dsimp only at hSw); go_simp; (try with_reducible rfl))
            try simp only [Act.put, List.setIfInBounds_toArray, List.set_cons_zero, List.set_cons_succ]
            refine wpAnyH_take (i := 24) (oi := { dst := some 141, op := Op.load 26 (Operand.tmp 140), type := 26, pos := "law.go:81", after := #[{ on := 23, ground := Ground.data }, { on := 20, ground := Ground.guard }], guard := some (20, false) }) (v := ?vg24) rfl (by kernel_rfl) (by kernel_rfl) (by kernel_rfl) (fun _ _ _ h => h) (Or.inl ⟨by rfl, ?hyg24⟩) hHeld ?_
            case hyg24 => (intro w hSw; (try dsimp only at hSw); go_simp; (try with_reducible rfl))
            try simp only [Act.put, List.setIfInBounds_toArray, List.set_cons_zero, List.set_cons_succ]
            refine wpAnyH_take (i := 25) (oi := { dst := some 142, op := Op.binOp BinOp.neq 26 (Operand.tmp 141) (Operand.const (Value.int IntKind.u64 0)) 26, type := 4, pos := "law.go:81", after := #[{ on := 24, ground := Ground.data }, { on := 20, ground := Ground.guard }], guard := some (20, false) }) (v := ?vg25) rfl (by kernel_rfl) (by kernel_rfl) (by kernel_rfl) (fun _ _ _ h => h) (Or.inl ⟨by rfl, ?hyg25⟩) hHeld ?_
            case hyg25 => (intro w hSw; (try dsimp only at hSw); go_simp; (try with_reducible rfl))
            try simp only [Act.put, List.setIfInBounds_toArray, List.set_cons_zero, List.set_cons_succ]
            refine wpAnyH_take (i := 26) (oi := { dst := some 143, op := Op.pick (Operand.tmp 137) (Operand.const (Value.bool true)) (Operand.tmp 142), type := 4, pos := "law.go:81", after := #[{ on := 20, ground := Ground.data }, { on := 25, ground := Ground.data }, { on := 9, ground := Ground.guard }], guard := some (9, true) }) (v := ?vg26) rfl (by kernel_rfl) (by kernel_rfl) (by kernel_rfl) (fun _ _ _ h => h) (Or.inl ⟨by rfl, ?hyg26⟩) hHeld ?_
            case hyg26 => (intro w hSw; (try dsimp only at hSw); go_simp; (try with_reducible rfl))
            try simp only [Act.put, List.setIfInBounds_toArray, List.set_cons_zero, List.set_cons_succ]
            refine wpAnyH_take (i := 27) (oi := { dst := some 144, op := Op.move (Operand.tmp 143), type := 4, pos := "law.go:81", after := #[{ on := 26, ground := Ground.data }, { on := 20, ground := Ground.chain }, { on := 9, ground := Ground.guard }], guard := some (9, true) }) (v := ?vg27) rfl (by kernel_rfl) (by kernel_rfl) (by kernel_rfl) (fun _ _ _ h => h) (Or.inl ⟨by rfl, ?hyg27⟩) hHeld ?_
            case hyg27 => (intro w hSw; (try dsimp only at hSw); go_simp; (try with_reducible rfl))
            try simp only [Act.put, List.setIfInBounds_toArray, List.set_cons_zero, List.set_cons_succ]
            refine wpAnyH_take (i := 28) (oi := { dst := some 145, op := Op.move (Operand.tmp 13), type := 24, pos := "law.go:81", after := #[{ on := 27, ground := Ground.guard }], guard := some (27, false) }) (v := ?vg28) rfl (by kernel_rfl) (by kernel_rfl) (by kernel_rfl) (fun _ _ _ h => h) (Or.inl ⟨by rfl, ?hyg28⟩) hHeld ?_
            case hyg28 => (intro w hSw; (try dsimp only at hSw); go_simp; (try with_reducible rfl))
            try simp only [Act.put, List.setIfInBounds_toArray, List.set_cons_zero, List.set_cons_succ]
            refine wpAnyH_take (i := 29) (oi := { dst := some 146, op := Op.move (Operand.tmp 18), type := 3, pos := "law.go:81", after := #[{ on := 27, ground := Ground.guard }], guard := some (27, false) }) (v := ?vg29) rfl (by kernel_rfl) (by kernel_rfl) (by kernel_rfl) (fun _ _ _ h => h) (Or.inl ⟨by rfl, ?hyg29⟩) hHeld ?_
            case hyg29 => (intro w hSw; (try dsimp only at hSw); go_simp; (try with_reducible rfl))
            try simp only [Act.put, List.setIfInBounds_toArray, List.set_cons_zero, List.set_cons_succ]
            refine wpAnyH_take (i := 30) (oi := { dst := some 147, op := Op.indexAddr 24 (Operand.tmp 145) (Operand.tmp 146), type := 0, pos := "law.go:81", after := #[{ on := 28, ground := Ground.data }, { on := 29, ground := Ground.data }, { on := 27, ground := Ground.guard }], guard := some (27, false) }) (v := ?vg30) rfl (by kernel_rfl) (by kernel_rfl) (by kernel_rfl) (fun _ _ _ h => h) (Or.inl ⟨by rfl, ?hyg30⟩) hHeld ?_
            case hyg30 => (intro w hSw; (try dsimp only at hSw); go_simp; (try with_reducible rfl))
            try simp only [Act.put, List.setIfInBounds_toArray, List.set_cons_zero, List.set_cons_succ]
            refine wpAnyH_take (i := 31) (oi := { dst := some 148, op := Op.load 26 (Operand.tmp 147), type := 26, pos := "law.go:81", after := #[{ on := 30, ground := Ground.data }, { on := 27, ground := Ground.guard }], guard := some (27, false) }) (v := ?vg31) rfl (by kernel_rfl) (by kernel_rfl) (by kernel_rfl) (fun _ _ _ h => h) (Or.inl ⟨by rfl, ?hyg31⟩) hHeld ?_
            case hyg31 => (intro w hSw; (try dsimp only at hSw); go_simp; (try with_reducible rfl))
            try simp only [Act.put, List.setIfInBounds_toArray, List.set_cons_zero, List.set_cons_succ]
            refine wpAnyH_take (i := 32) (oi := { dst := some 149, op := Op.binOp BinOp.neq 26 (Operand.tmp 148) (Operand.const (Value.int IntKind.u64 1)) 26, type := 4, pos := "law.go:81", after := #[{ on := 31, ground := Ground.data }, { on := 27, ground := Ground.guard }], guard := some (27, false) }) (v := ?vg32) rfl (by kernel_rfl) (by kernel_rfl) (by kernel_rfl) (fun _ _ _ h => h) (Or.inl ⟨by rfl, ?hyg32⟩) hHeld ?_
            case hyg32 => (intro w hSw; (try dsimp only at hSw); go_simp; (try with_reducible rfl))
            try simp only [Act.put, List.setIfInBounds_toArray, List.set_cons_zero, List.set_cons_succ]
            refine wpAnyH_take (i := 33) (oi := { dst := some 150, op := Op.pick (Operand.tmp 144) (Operand.const (Value.bool true)) (Operand.tmp 149), type := 4, pos := "law.go:81", after := #[{ on := 27, ground := Ground.data }, { on := 32, ground := Ground.data }, { on := 9, ground := Ground.guard }], guard := some (9, true) }) (v := ?vg33) rfl (by kernel_rfl) (by kernel_rfl) (by kernel_rfl) (fun _ _ _ h => h) (Or.inl ⟨by rfl, ?hyg33⟩) hHeld ?_
            case hyg33 => (intro w hSw; (try dsimp only at hSw); go_simp; (try with_reducible rfl))
            try simp only [Act.put, List.setIfInBounds_toArray, List.set_cons_zero, List.set_cons_succ]
            refine wpAnyH_take (i := 34) (oi := { dst := some 151, op := Op.pick (Operand.tmp 126) (Operand.tmp 150) (Operand.const (Value.bool false)), type := 4, pos := "law.go:81", after := #[{ on := 9, ground := Ground.data }, { on := 33, ground := Ground.data }], guard := none }) (v := ?vg34) rfl (by kernel_rfl) (by kernel_rfl) (by kernel_rfl) (fun _ _ _ h => h) (Or.inl ⟨by rfl, ?hyg34⟩) hHeld ?_
            case hyg34 => (intro w hSw; (try dsimp only at hSw); go_simp; (try with_reducible rfl))
            try simp only [Act.put, List.setIfInBounds_toArray, List.set_cons_zero, List.set_cons_succ]
            refine wpAnyH_done (by kernel_rfl) ?_ _
            have HZ3 := Lib.hid HZ.out.drew
            clear hHeld cz cw HZ
            go_wp2_with fail
            go_roundw
            case rel => exact ⟨k + 1, by go_num, by omega, HZ3⟩
            case measure => simp [intOf]; omega
        obtain rfl : k = n := by omega
        go_wp2_with fail
        go_ret
        exact ⟨rfl, HZ.out.old⟩
end Go.Proofs.YtppajedeapikkaaDoor
