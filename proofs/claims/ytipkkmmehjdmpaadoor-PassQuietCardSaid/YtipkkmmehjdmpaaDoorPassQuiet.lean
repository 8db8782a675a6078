/- PassQuiet answers true: a pass over a memory without a grey cell takes one step for each cell, and one more, changes nothing but dirty, and finds nothing. -/
import Derived.Test.YtipkkmmehjdmpaaDoorPassAwake
import Derived.Test.YtipkkmmehjdmpaaDoorPassPure
import Derived.Test.YtipkkmmehjdmpaaDoorPassRefGreys
import Derived.Test.YtipkkmmehjdmpaaDoorColWk
namespace Go.Proofs.YtipkkmmehjdmpaaDoor
open Go Go.RowKit
set_option maxRecDepth 100000
attribute [local go_sem ↓] Go.wp_at_zero Go.wp_at_succ

set_option maxHeartbeats 6400000 in
theorem quiet_any (a b c d : Int) (v0 : Option Addr) (n c0 : Nat) (f : Nat → Int) (w : World) (hS : SpansAt w) (hG : Given w v0 n c0 f) :
    Calls Tryd.prog 6 #[.agg #[.int .i64 a, .int .i64 b, .int .i64 c, .int .i64 d], .slice v0 n c0] w fun e w' => e = .returned (.bool true) ∧ Below w.heap.size w w' := by
  have hnil : v0 = none → n = 0 ∧ c0 = 0 := hG.2.2.2
  have HB0 := Lib.hid (below_new w (.cells #[.int .i64 a, .int .i64 b, .int .i64 c, .int .i64 d] 23))
  have HX0 := Lib.hid (BoxAt.new w a b c d 23)
  have HS := Lib.hid hS; have HG := Lib.hid hG
  clear hS hG
  obtain ⟨x0, x1, x2, x3⟩ := HX0.out
  go_enter Tryd.func6, Tryd.ntmps6
  go_wp2_with fail
  refine (awake_c _ (HS.out.below HB0.out)).mono ?_
  rintro e W1 ⟨rfl, hW⟩
  have HB1 := Lib.hid (belowOn HB0.out hW)
  have HX1 := Lib.hid (HX0.out.below hW)
  clear hW HB0 HX0 x0 x1 x2 x3
  obtain ⟨x0, x1, x2, x3⟩ := HX1.out
  go_wp2_with fail
  refine (Both_any a b c d v0 n c0 f _ (HS.out.below HB1.out) ⟨HG.out.1, HG.out.2.1.below HB1.out, HG.out.2.2⟩).mono ?_
  rintro e W2 (⟨_, rfl, hW⟩ | ⟨hok, P, rfl, hT⟩)
  · have HB2 := Lib.hid (belowOn HB1.out hW)
    clear hW HX1 HB1 x0 x1 x2 x3
    go_wp2_with fail
    go_ret
    exact ⟨rfl, HB2.out⟩
  have hC : CfOK ⟨n, a, b, c, d⟩ := ⟨hok.2.1, hok.2.2⟩
  have HU : Hid (∀ j, U64 (f j)) := Lib.hid HG.out.2.2.1
  have hn20 : n ≤ 20000 := by have := hok.2.1.prod; have h1 := hok.2.2; have h2 := hok.2.1; unfold Right at h2; omega
  have HK := Lib.hid hC; have HR := Lib.hid hok.2.1
  have hn0 : 0 < n := hC.pos
  have HS1 := Lib.hid (HS.out.below HB1.out)
  have HW1 := Lib.hid (HG.out.2.1.below HB1.out)
  have lH : W1.heap.size ≤ P.H := hT.both.lH
  have lG : W1.heap.size ≤ P.G := hT.both.lG
  have hH := hT.hand
  have hold := hT.old
  generalize P.H = H at *
  generalize P.A = A at *
  generalize P.G = G at *
  generalize P.X = X at *
  have HH := Lib.hid hH; have HO := Lib.hid hold
  clear hok hC HG HS hH hold P x0 x1 x2 x3 hT
  have HGr : Hid (∀ W, WordsAt W v0 n f → Calls Tryd.prog 16 #[.agg #[.int .i64 a, .int .i64 b, .int .i64 c, .int .i64 d], .slice v0 n c0] W (NumsPost W (greysL ⟨n, a, b, c, d⟩ f a.toNat))) := Lib.hid (fun W h => by have := rgreys_any a b c d v0 n c0 f HU.out W h; unfold greysR at this; rw [if_pos HK.out] at this; exact this)
  have ha4 : 2 ≤ a ∧ a ≤ 4096 := by have := HK.out.a4; exact ⟨this.1, this.2.1⟩
  obtain ⟨N, rfl⟩ : ∃ N : Nat, a = (N : Int) := ⟨a.toNat, by omega⟩
  rw [Int.toNat_natCast] at HGr
  have HGn := Lib.hid (greysL_nil (C := ⟨n, N, b, c, d⟩) (f := f) (k := N))
  generalize greysL ⟨n, N, b, c, d⟩ f N = L at *
  obtain ⟨x0, x1, x2, x3⟩ := HX1.out.below HO.out
  go_wp2_with fail
  refine (HGr.out _ (HW1.out.below HO.out)).mono ?_
  rintro e W3 ⟨vv, rfl, hrow, hW⟩
  obtain ⟨va, vc, rfl, _⟩ := IntsAt.own hrow
  have HH3 := Lib.hid (HH.out.below hW); have HO3 := Lib.hid (belowOn HO.out hW)
  clear hrow hW HH HO HGr x0 x1 x2 x3
  generalize hLl : L.length = ll at *
  by_cases hll : 0 < ll
  · have hl0 : (0 : Int) < (ll : Int) := by omega
    have HE := Lib.hid (belowOn HB1.out HO3.out)
    clear HH3 HO3
    go_wp2_with fail
    go_ret
    exact ⟨rfl, HE.out⟩
  have hL : L = [] := List.length_eq_zero_iff.1 (by omega)
  obtain rfl : ll = 0 := by omega
  have HGy := Lib.hid (HGn.out hL)
  clear HGn hL hll hLl
  have HT0 := Lib.hid (CkW.first (C := ⟨n, N, b, c, d⟩) (s := ⟨f, 0, 0, 0, 0, 0⟩) HO3.out HH3.out lH lG ⟨3, 0, 0, 0, 0, 0, true, 0, 0⟩)
  clear HH3 HO3
  go_wp2_with fail
  generalize W3.alloc (.cells #[.int .i64 3, .int .i64 0, .int .i64 0, .int .i64 0, .int .u64 0, .int .u64 0, .bool true, .int .i64 0, .int .i64 0] 28) = W5 at *
  generalize W3.heap.size = B at *
  go_loopw [9] (fun nv wr => ∃ (k : Nat) (s : Dy) (x : Co), nv = .int .i64 k ∧ k ≤ N + 1 ∧ Hid (CkW W1 wr H A G B ⟨n, N, b, c, d⟩ s x) ∧ Hid (QuSt ⟨n, N, b, c, d⟩ f s.f k x) ∧ Hid (s.U ∧ x.U) ∧ Hid (k ≤ N → -1000000 ≤ x.c ∧ x.c ≤ 1000000)) (fun nv _ => N + 1 - (intOf nv).toNat)
  case atStart => exact ⟨0, ⟨f, 0, 0, 0, 0, 0⟩, ⟨3, 0, 0, 0, 0, 0, true, 0, 0⟩, rfl, by omega, HT0, Lib.hid (.inl ⟨rfl, rfl, rfl⟩), Lib.hid ⟨HU.out, u64_zero, u64_zero⟩, Lib.hid (fun _ => by dsimp only; omega)⟩
  case round =>
    clear HT0
    obtain ⟨k, s, x, rfl, hk, HT, HQ, HV, HC⟩ := hrel
    by_cases hkN : k ≤ N
    · obtain ⟨hor, s', x', hst, hq⟩ := HQ.out.go HK.out (fun i hi => HGy.out i (by dsimp only at hi; omega)) (by dsimp only; omega)
      rcases hor with hl | hl
      · have hcb : -1000000000000 ≤ x.c ∧ x.c ≤ 1000000000000 := by have := HC.out (by omega); omega
        have HST : Hid (∀ W, CkW W1 W H A G B ⟨n, N, b, c, d⟩ s x → _) := Lib.hid (fun W h => pass_c (w := W) h.hand HV.out.1 (HS1.out.below h.old) HR.out hn0 x HV.out.2 hcb)
        have HV2 := Lib.hid (passS_U HV.out.1 (C := ⟨n, N, b, c, d⟩) x HV.out.2)
        rw [hst] at HST HV2
        have HC2 : Hid (k + 1 ≤ N → -1000000 ≤ x'.c ∧ x'.c ≤ 1000000) := Lib.hid (fun h => by rcases hq with ⟨h1, _⟩ | ⟨_, _, _, h1, _⟩ | ⟨h1, _⟩; exact absurd h1 (by omega); omega; dsimp only at h1; omega)
        have HQ2 := Lib.hid hq
        clear hst hq HV HQ hcb HC
        obtain ⟨l, j, xc, m, xa, p, fd, tl, cy⟩ := x
        obtain ⟨l', j', xc', m', xa', p', fd', tl', cy'⟩ := x'
        dsimp only at hl HST HV2
        obtain rfl : l = 3 := hl
        obtain ⟨b0, b1, b2, b3, b4, b5, b6, b7, b8, bf⟩ := HT.out.cells9
        obtain ⟨x0, x1, x2, x3⟩ := HX1.out.below HT.out.old
        have hkI : (k : Int) ≤ (N : Int) := by omega
        have hk1 : IntKind.i64.wrap ((k : Int) + 1) = (k : Int) + 1 := IntWalk.i64_in _ (by omega)
        go_wp2_with fail
        refine (HST.out _ HT.out).mono ?_
        rintro e V hp
        obtain ⟨rfl, hT⟩ := HT.out.step hp
        have HT2 := Lib.hid hT
        clear hp hT HT HST b0 b1 b2 b3 b4 b5 b6 b7 b8 bf x0 x1 x2 x3
        obtain ⟨b0, b1, b2, b3, b4, b5, b6, b7, b8, bf⟩ := HT2.out.cells9
        go_wp2_with fail
        have HT3 := Lib.hid (HT2.out.put ⟨l', j', xc', m', xa', p', fd', tl', cy'⟩)
        go_roundw
        case rel => exact ⟨k + 1, s', ⟨l', j', xc', m', xa', p', fd', tl', cy'⟩, by go_num, by omega, HT3, HQ2, HV2, HC2⟩
        case measure => simp [intOf]; omega
      · have hcb : -1000000000000 ≤ x.c ∧ x.c ≤ 1000000000000 := by have := HC.out (by omega); omega
        have HST : Hid (∀ W, CkW W1 W H A G B ⟨n, N, b, c, d⟩ s x → _) := Lib.hid (fun W h => pass_c (w := W) h.hand HV.out.1 (HS1.out.below h.old) HR.out hn0 x HV.out.2 hcb)
        have HV2 := Lib.hid (passS_U HV.out.1 (C := ⟨n, N, b, c, d⟩) x HV.out.2)
        rw [hst] at HST HV2
        have HC2 : Hid (k + 1 ≤ N → -1000000 ≤ x'.c ∧ x'.c ≤ 1000000) := Lib.hid (fun h => by rcases hq with ⟨h1, _⟩ | ⟨_, _, _, h1, _⟩ | ⟨h1, _⟩; exact absurd h1 (by omega); omega; dsimp only at h1; omega)
        have HQ2 := Lib.hid hq
        clear hst hq HV HQ hcb HC
        obtain ⟨l, j, xc, m, xa, p, fd, tl, cy⟩ := x
        obtain ⟨l', j', xc', m', xa', p', fd', tl', cy'⟩ := x'
        dsimp only at hl HST HV2
        obtain rfl : l = 4 := hl
        obtain ⟨b0, b1, b2, b3, b4, b5, b6, b7, b8, bf⟩ := HT.out.cells9
        obtain ⟨x0, x1, x2, x3⟩ := HX1.out.below HT.out.old
        have hkI : (k : Int) ≤ (N : Int) := by omega
        have hk1 : IntKind.i64.wrap ((k : Int) + 1) = (k : Int) + 1 := IntWalk.i64_in _ (by omega)
        go_wp2_with fail
        refine (HST.out _ HT.out).mono ?_
        rintro e V hp
        obtain ⟨rfl, hT⟩ := HT.out.step hp
        have HT2 := Lib.hid hT
        clear hp hT HT HST b0 b1 b2 b3 b4 b5 b6 b7 b8 bf x0 x1 x2 x3
        obtain ⟨b0, b1, b2, b3, b4, b5, b6, b7, b8, bf⟩ := HT2.out.cells9
        go_wp2_with fail
        have HT3 := Lib.hid (HT2.out.put ⟨l', j', xc', m', xa', p', fd', tl', cy'⟩)
        go_roundw
        case rel => exact ⟨k + 1, s', ⟨l', j', xc', m', xa', p', fd', tl', cy'⟩, by go_num, by omega, HT3, HQ2, HV2, HC2⟩
        case measure => simp [intOf]; omega
    · obtain rfl : k = N + 1 := by omega
      obtain ⟨hl, hfd, hm0, hsf⟩ : x.l = 10 ∧ x.fd = false ∧ x.m = 0 ∧ s.f = upd f 2 0 := by
        rcases HQ.out with ⟨h, _⟩ | ⟨_, h, _⟩ | ⟨_, h1, h2, h3, h4⟩
        · omega
        · dsimp only at h; omega
        · exact ⟨h1, h2, h3, h4⟩
      have HSf := Lib.hid hsf
      obtain ⟨l, j, xc, m, xa, p, fd, tl, cy⟩ := x
      dsimp only at hl hfd hm0
      subst hl hfd hm0
      clear HQ HC HV hsf hkN hk
      obtain ⟨x0, x1, x2, x3⟩ := HX1.out.below HT.out.old
      have hN1 : ¬ ((N + 1 : Nat) : Int) ≤ (N : Int) := by omega
      go_wp2_with fail
      clear x0 x1 x2 x3
      refine (Copy_c v0 n c0 f hn20 wr (HW1.out.below HT.out.old) hnil).mono ?_
      rintro e W6 ⟨va2, cap2, rfl, hb, hM, _⟩
      obtain ⟨R, rfl, hRl, hRow⟩ : ∃ R, va2 = some ⟨R, 0, none⟩ ∧ wr.heap.size ≤ R ∧ RowAt W6 R 26 n f := by rcases hM with h | h; exact absurd h (by omega); exact h
      have n1 := HT.out.hand.lt; have n2 := HT.out.hand.ar.lt; have n3 := HT.out.hand.ar.row.lt; have n4 := HT.out.col.lt
      have n5 := HT.out.old.size
      have HT6 := Lib.hid (HT.out.below hb)
      have HR6 := Lib.hid hRow
      clear hM hb hRow HT
      have c2 := HR6.out.cell (j := 2) (by have := HK.out.four; dsimp only at this; omega)
      have cf := HR6.out.frozen 2
      have hn2 : (2 : Int) < (n : Int) := by have := HK.out.four; dsimp only at this; omega
      have HT7 := Lib.hid (HT6.out.setOther (p := ⟨R, 2, none⟩) (by show R ≠ H; omega) (by show R ≠ A; omega) (by show R ≠ G; omega) (by show R ≠ B; omega) (by show W1.heap.size ≤ R; omega) (.int .u64 0))
      have HR7 := Lib.hid (HR6.out.set 2 0)
      have h0 := HT6.out.hand.cells.1
      obtain ⟨b0, b1, b2, b3, b4, b5, b6, b7, b8, bf⟩ := HT6.out.cells9
      dsimp only at b0 b1 b2 b3 b4 b5 b6 b7 b8
      have hRB : R ≠ B := by omega
      have hRH : R ≠ H := by omega
      clear n1 n2 n3 n4 n5 hRl b1 b2 b4 b5 b7 b8 bf
      go_wp2_with fail
      clear c2 cf hn2 HT6 HR6 hRB hRH h0 b0 b3 b6
      generalize W6.setCell ⟨R, 2, none⟩ (.int .u64 0) = W7 at *
      refine (All_c HT7.out.hand.ar hn20).mono ?_
      rintro e W8 ⟨rfl, hrow, hb⟩
      rw [HSf.out] at hrow
      have HA8 := Lib.hid hrow; have HR8 := Lib.hid (HR7.out.below hb); have HE := Lib.hid (belowOn HB1.out (belowOn HT7.out.old hb))
      clear hrow hb HT7 HR7
      go_wp2_with fail
      refine (Same_c _ _ _ _ _ _ hn20 _ HA8.out.words HR8.out.words).mono ?_
      rintro e W9 ⟨rfl, hb⟩
      have HE9 := Lib.hid (belowOn HE.out hb)
      clear hb HE HA8 HR8
      go_wp2_with fail
      go_ret
      exact ⟨rfl, HE9.out⟩
end Go.Proofs.YtipkkmmehjdmpaaDoor
