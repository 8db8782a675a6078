/- BarDirty answers true. -/
import Derived.Test.YtjmbahdlgnobaaaDoorM4
import Derived.Test.YtjmbahdlgnobaaaDoorDirtyPure
import Derived.Test.YtjmbahdlgnobaaaDoorTwo
namespace Go.Proofs.YtjmbahdlgnobaaaDoor
open Go Go.RowKit
set_option maxRecDepth 100000
attribute [local go_sem ↓] Go.wp_at_zero Go.wp_at_succ

/-- The words, of which the first k ins were made idle. -/
def ownF (f : Nat → Int) (k : Nat) (j : Nat) : Int := if 5 ≤ j ∧ j < 5 + k then f j / 4 * 4 else f j
theorem ownF_zero (f : Nat → Int) : ownF f 0 = f := by funext j; unfold ownF; rw [if_neg (by omega)]
theorem ownF_upd (f : Nat → Int) (k : Nat) : upd (ownF f k) (5 + k) (f (5 + k) / 4 * 4) = ownF f (k + 1) := by
  funext j
  unfold upd ownF
  by_cases e : j = 5 + k
  · subst e; rw [if_pos rfl, if_pos (by omega)]
  · rw [if_neg e]
    by_cases h : 5 ≤ j ∧ j < 5 + k
    · rw [if_pos h, if_pos (by omega)]
    · rw [if_neg h, if_neg (by omega)]
theorem ownF_at (f : Nat → Int) (k : Nat) : ownF f k (5 + k) = f (5 + k) := by unfold ownF; rw [if_neg (by omega)]
theorem ownF_u64 {f : Nat → Int} (h : ∀ j, U64 (f j)) (k j : Nat) : U64 (ownF f k j) := by
  unfold ownF
  have := h j
  unfold U64 at *
  split <;> omega
theorem ownF_idle (f : Nat → Int) (k m : Nat) (h : m < k) : ownF f k (5 + m) % 4 = 0 := by
  unfold ownF; rw [if_pos (by omega)]; omega
theorem ownF_two (f : Nat → Int) (k : Nat) : ownF f k 2 = f 2 := by unfold ownF; rw [if_neg (by omega)]
theorem BoxAt.heap {w w' : World} {B : Nat} {a b c d : Int} (h : BoxAt w B a b c d) (e : w'.heap[B]? = w.heap[B]?) : BoxAt w' B a b c d := by
  unfold BoxAt at *
  simpa [World.cell?, e] using h
theorem CkW.from {w w1 W : World} {H A G B : Nat} {C : Cf} {s : Dy} {x : Co} (h : CkW w1 W H A G B C s x) (hb : Below w.heap.size w w1) : CkW w W H A G B C s x :=
  ⟨belowOn hb h.old, h.hand, h.col, by have := h.lo; have := hb.size; omega, h.ne⟩
set_option maxHeartbeats 12800000 in
theorem dirty_any (a b c d : Int) (v0 : Option Addr) (n c0 : Nat) (f : Nat → Int) (hb6 : -9223372036854775808 ≤ b ∧ b ≤ 9223372036854775807) (hn8 : n * 8 ≤ 140737488355328) (w : World) (hS : SpansAt w) (hG : Given w v0 n c0 f) :
    Calls Tryd.prog 6 #[.agg #[.int .i64 a, .int .i64 b, .int .i64 c, .int .i64 d], .slice v0 n c0] w fun e w' => e = .returned (.bool true) ∧ Below w.heap.size w w' := by
  have HB0 := Lib.hid (below_new w (.cells #[.int .i64 a, .int .i64 b, .int .i64 c, .int .i64 d] 23))
  have HX0 := Lib.hid (BoxAt.new w a b c d 23)
  have HS := Lib.hid hS; have HG := Lib.hid hG
  clear hS hG
  obtain ⟨x0, x1, x2, x3⟩ := HX0.out
  go_enter Tryd.func6, Tryd.ntmps6
  go_wp2_with fail
  refine (awake17_c _ (HS.out.below HB0.out)).mono ?_
  rintro e W1 ⟨rfl, hW⟩
  have HB1 := Lib.hid (belowOn HB0.out hW)
  have HX1 := Lib.hid (HX0.out.below hW)
  clear hW HB0 HX0 x0 x1 x2 x3
  obtain ⟨x0, x1, x2, x3⟩ := HX1.out
  obtain ⟨q, hq⟩ : ∃ q : Int, IntKind.i64.wrap (5 + b) = q := ⟨_, rfl⟩
  by_cases hA : (n : Int) < q
  · have d1 : decide ((n : Int) < q) = true := decide_eq_true hA
    clear hA HX1
    go_wp2_with fail
    go_ret
    exact ⟨rfl, HB1.out⟩
  have d1 : decide ((n : Int) < q) = false := decide_eq_false hA
  by_cases hB : b < 0
  · have d2 : decide (b < 0) = true := decide_eq_true hB
    clear hA HX1
    go_wp2_with fail
    go_ret
    exact ⟨rfl, HB1.out⟩
  have d2 : decide (b < 0) = false := decide_eq_false hB
  by_cases hC12 : 12 < b
  · have d3 : decide (12 < b) = true := decide_eq_true hC12
    clear hA hB HX1
    go_wp2_with fail
    go_ret
    exact ⟨rfl, HB1.out⟩
  have d3 : decide (12 < b) = false := decide_eq_false hC12
  have hq5 : q = 5 + b := by rw [← hq]; exact IntWalk.i64_in _ (by omega)
  obtain ⟨k5, rfl⟩ : ∃ k5 : Nat, b = (k5 : Int) := ⟨b.toNat, by omega⟩
  have hk12 : k5 ≤ 12 := by omega
  have hn5 : 5 + k5 ≤ n := by omega
  clear hA hB hC12 hq5 hb6
  obtain ⟨ad, rfl⟩ : ∃ ad, v0 = some ad := by
    cases v0 with
    | none => exact absurd (HG.out.2.2.2 rfl).1 (by omega)
    | some ad => exact ⟨ad, rfl⟩
  obtain ⟨i0, hi, hz0, hz1, hz2⟩ := info_parts infoWord
  have hown : (W1.alloc (.cells #[] 26)).ownsRow W1.heap.size 26 1 (.slice (some ⟨W1.heap.size, 0, none⟩) 0 0) 0 [] := by
    refine ⟨rfl, .inr ⟨W1.heap.size, 0, #[], rfl, Nat.le_refl _, newBlock W1 _, Nat.le_refl _, Nat.zero_le _, rfl, rfl⟩⟩
  have hnews : ∀ j u, (wordsV n f)[j]? = some u → (W1.alloc (.cells #[] 26)).cell? (ad.add j) = some u := fun j u h => by
    obtain ⟨hj, rfl⟩ := wordsV_get h
    obtain ⟨bb, off, hb, hc⟩ := ((HG.out.2.1.below HB1.out).below (below_new W1 (.cells #[] 26))).at' hj
    simp only [Option.some.injEq] at hb
    subst hb
    rw [Addr.add_lit]
    exact hc
  have h1c : ∀ u ∈ wordsV n f, u.oneCell' = true := fun u hu => by
    unfold wordsV at hu; obtain ⟨x, _, rfl⟩ := List.mem_map.1 hu; rfl
  have hlen : (wordsV n f).length = n * 1 := by simp [wordsV]
  have hm : 0 + n ≤ maxLen := by unfold maxLen; omega
  have hm8 : (0 + n) * 8 ≤ 140737488355328 := by omega
  have HO := Lib.hid hown; have HN := Lib.hid hnews; have H1 := Lib.hid h1c; have HL := Lib.hid hlen
  clear hown hnews h1c hlen hn8
  go_wp2_with (at_builtin; refine wpList_append_own _ rfl _ _ 24 rfl W1.heap.size 26 i0 (.int .u64 0) 1 8 Tryd.underlying24 hi hz0 hz1 hz2 rfl (by decide) _ _ _ rfl HO.out ad n c0 (wordsV n f) rfl HL.out HN.out H1.out hm hm8 (by simp) ?_; intro v' w1 hown' hgrow _)
  have hB : Below W1.heap.size W1 w1 := ((Below.refl _ W1).alloc (Nat.le_refl _) _).grown hgrow (by simp) (fun k e => by cases e; exact Nat.le_refl _)
  rw [Nat.zero_add, List.nil_append] at hown'
  obtain ⟨a', c', rfl, hM, _⟩ := MineAt.own hown'
  obtain ⟨R, rfl, hRl, hRow⟩ := hM.resolve_left (by omega)
  have HB2 := Lib.hid (belowOn HB1.out hB)
  have HX2 := Lib.hid (HX1.out.below hB)
  have hlo : w.heap.size ≤ R := by have := HB1.out.size; omega
  have hxR : w.heap.size ≠ R := by have := lt_of_cell x0; omega
  have HR2 := Lib.hid hRow
  clear hown' hgrow hM hRow hB HO HN H1 HL hm hm8 hi hz0 hz1 hz2 HB1 HX1 hRl x0 x1 x2 x3 d1 d2 d3 hq
  rw [← ownF_zero f] at HR2
  go_wp2_with fail
  go_loopw [6] (fun mv wr => ∃ k : Nat, mv = .int .i64 k ∧ k ≤ k5 ∧ Hid (Below w.heap.size w wr) ∧ Hid (RowAt wr R 26 n (ownF f k)) ∧ Hid (BoxAt wr w.heap.size a (k5 : Int) c d)) (fun mv _ => k5 - (intOf mv).toNat)
  case atStart => exact ⟨0, rfl, by omega, HB2, HR2, HX2⟩
  case round =>
    clear HB2 HR2 HX2
    obtain ⟨k, rfl, hk, HB, HR, HX⟩ := hrel
    obtain ⟨x0, x1, x2, x3⟩ := HX.out
    by_cases hkk : k < k5
    · have hkI : (k : Int) < (k5 : Int) := by omega
      have hk1 : IntKind.i64.wrap ((k : Int) + 1) = (k : Int) + 1 := IntWalk.i64_in _ (by omega)
      have hk5w : IntKind.i64.wrap (5 + (k : Int)) = ((5 + k : Nat) : Int) := by rw [IntWalk.i64_in _ (by omega)]; omega
      have ck := HR.out.cell (j := 5 + k) (by omega)
      have cf := HR.out.frozen (5 + k)
      rw [ownF_at] at ck
      have hu := HG.out.2.2.1 (5 + k)
      obtain ⟨u, hu1, hu6⟩ := u64_nat' hu
      have hq1 : Int.tdiv (u : Int) 4 = (u : Int) / 4 := Int.tdiv_eq_ediv_of_nonneg (by omega)
      have hq0 : IntKind.u64.wrap ((u : Int) / 4) = (u : Int) / 4 := IntWalk.u64_in _ (by omega)
      have hq2 : IntKind.u64.wrap ((u : Int) / 4 * 4) = (u : Int) / 4 * 4 := IntWalk.u64_in _ (by omega)
      have HR3 := Lib.hid (HR.out.set (5 + k) ((u : Int) / 4 * 4))
      rw [← hu1] at HR3
      rw [ownF_upd] at HR3
      rw [hu1] at ck HR3
      have hz1 : (0 : Int) ≤ ((5 + k : Nat) : Int) := by omega
      have hz2 : ((5 + k : Nat) : Int) < (n : Int) := by omega
      clear hu hu1 hu6
      go_wp2_with fail
      go_roundw
      case rel => exact ⟨k + 1, by go_num, by omega, Lib.hid (HB.out.setCell (p := ⟨R, 5 + k, none⟩) hlo _), HR3, Lib.hid (HX.out.heap (Below.heap_setCell _ _ _ _ hxR))⟩
      case measure => simp [intOf]; omega
    obtain rfl : k5 = k := by omega
    have HU : Hid (∀ j, U64 (ownF f k5 j)) := Lib.hid (ownF_u64 HG.out.2.2.1 k5)
    have HI : Hid (∀ m : Nat, (m : Int) < (k5 : Int) → ownF f k5 (5 + m) % 4 = 0) := Lib.hid (fun m hm => ownF_idle f k5 m (by omega))
    have h2 := ownF_two f k5
    generalize ownF f k5 = g at *
    go_wp2_with fail
    refine (Both_any a (k5 : Int) c d (some ⟨R, 0, none⟩) n c' g _ (HS.out.below HB.out) ⟨HG.out.1, HR.out.words, HU.out, fun e => by cases e⟩).mono ?_
    rintro e W2 (⟨_, rfl, hW⟩ | ⟨hok, P, rfl, hT⟩)
    · have HE := Lib.hid (belowOn HB.out hW)
      clear hW HX HB HR x0 x1 x2 x3
      go_wp2_with fail
      go_ret
      exact ⟨rfl, HE.out⟩
    have hC : CfOK ⟨n, a, (k5 : Int), c, d⟩ := ⟨hok.2.1, hok.2.2⟩
    have hn20 : n ≤ 20000 := by have := hok.2.1.prod; have h1 := hok.2.2; have h2 := hok.2.1; unfold Right at h2; omega
    have HK := Lib.hid hC; have HRt := Lib.hid hok.2.1
    have hn0 : 0 < n := by omega
    have lH : wr.heap.size ≤ P.H := hT.both.lH
    have lG : wr.heap.size ≤ P.G := hT.both.lG
    have hH := hT.hand
    have hold := hT.old
    generalize P.H = H at *
    generalize P.A = A at *
    generalize P.G = G at *
    generalize P.X = X at *
    have HT0 := Lib.hid (CkW.first (C := ⟨n, a, (k5 : Int), c, d⟩) (s := ⟨g, 0, 0, 0, 0, 0⟩) hold hH lH lG ⟨10, 0, 0, 0, 0, 0, false, 0, 0⟩)
    clear hT hok hC hH hold P x0 x1 x2 x3
    have hb1 : 1 ≤ k5 := by have := HRt.out; unfold Right at this; omega
    go_wp2_with fail
    generalize W2.alloc (.cells #[.int .i64 10, .int .i64 0, .int .i64 0, .int .i64 0, .int .u64 0, .int .u64 0, .bool false, .int .i64 0, .int .i64 0] 28) = W5 at *
    generalize W2.heap.size = B at *
    have hRw : R < wr.heap.size := HR.out.lt
    generalize wr = W3 at *
    have hw2 : IntKind.i64.wrap (2 * (k5 : Int)) = 2 * (k5 : Int) := IntWalk.i64_in _ (by omega)
    have hw3 : IntKind.i64.wrap (2 * (k5 : Int) + 3) = 2 * (k5 : Int) + 3 := IntWalk.i64_in _ (by omega)
    go_loopw [11, 12] (fun fv nv wx => ∃ (k : Nat) (fl : Int) (s : Dy) (x : Co), fv = .int .i64 fl ∧ nv = .int .i64 k ∧ k ≤ 2 * k5 + 3 ∧ 0 ≤ fl ∧ fl ≤ k ∧ Hid (CkW W3 wx H A G B ⟨n, a, (k5 : Int), c, d⟩ s x) ∧ Hid (DtSt ⟨n, a, (k5 : Int), c, d⟩ g s.f k fl x) ∧ Hid (s.U ∧ x.U) ∧ Hid (-1000000 ≤ x.m ∧ x.m ≤ 1000000)) (fun _ nv _ => 2 * k5 + 3 - (intOf nv).toNat)
    case atStart => exact ⟨0, 0, ⟨g, 0, 0, 0, 0, 0⟩, ⟨10, 0, 0, 0, 0, 0, false, 0, 0⟩, rfl, rfl, by omega, by omega, by omega, HT0, Lib.hid (.inl ⟨by dsimp only; omega, rfl, rfl, rfl, rfl⟩), Lib.hid ⟨HU.out, u64_zero, u64_zero⟩, Lib.hid (by dsimp only; omega)⟩
    case round =>
      clear HT0
      obtain ⟨k, fl, s, x, rfl, rfl, hk, hf0, hfk, HT, HD, HV, HM⟩ := hrel
      obtain ⟨x0, x1, x2, x3⟩ := HX.out.below HT.out.old
      by_cases hkn : k < 2 * k5 + 3
      · obtain ⟨s', x', bf, hst, hd⟩ := HD.out.go HK.out HI.out (by dsimp only; omega)
        have hcb : -1000000000000 ≤ x.m ∧ x.m ≤ 1000000000000 := by have := HM.out; omega
        have HST : Hid (∀ W, CkW W3 W H A G B ⟨n, a, (k5 : Int), c, d⟩ s x → _) := Lib.hid (fun W h => bar17_c (w := W) h.hand HV.out.1 (HS.out.below (belowOn HB.out h.old)) HRt.out hn0 x HV.out.2 hcb)
        have HV2 := Lib.hid (shutS_U HV.out.1 (C := ⟨n, a, (k5 : Int), c, d⟩) x HV.out.2)
        have hm2 := shutS_m (C := ⟨n, a, (k5 : Int), c, d⟩) (s := s) (x := x) HM.out (by dsimp only; omega)
        rw [hst] at HST HV2 hm2
        have HM2 := Lib.hid hm2
        clear hst HD HV HM hcb hm2
        obtain ⟨l, j, xc, m, xa, p, fd, tl, cy⟩ := x
        obtain ⟨l', j', xc', m', xa', p', fd', tl', cy'⟩ := x'
        dsimp only at HST HV2 HM2
        cases bf
        · have HD2 : Hid (DtSt ⟨n, a, (k5 : Int), c, d⟩ g s'.f (k + 1) (fl) ⟨l', j', xc', m', xa', p', fd', tl', cy'⟩) := Lib.hid (by simpa using hd)
          clear hd
          have hkI : (k : Int) < 2 * (k5 : Int) + 3 := by omega
          have hk1 : IntKind.i64.wrap ((k : Int) + 1) = (k : Int) + 1 := IntWalk.i64_in _ (by omega)
          obtain ⟨b0, b1, b2, b3, b4, b5, b6, b7, b8, bf⟩ := HT.out.cells9
          go_wp2_with fail
          refine (HST.out _ HT.out).mono ?_
          rintro e V hp
          obtain ⟨rfl, hT⟩ := HT.out.step hp
          have HT2 := Lib.hid hT
          have hBl : B < V.heap.size := hT.col.lt
          have hBn : B ≠ V.heap.size := by omega
          clear hp hT HT HST b0 b1 b2 b3 b4 b5 b6 b7 b8 bf x0 x1 x2 x3
          obtain ⟨b0, b1, b2, b3, b4, b5, b6, b7, b8, bf⟩ := HT2.out.cells9
          go_wp2_with fail
          have HT3 := Lib.hid ((HT2.out.put ⟨l', j', xc', m', xa', p', fd', tl', cy'⟩).below (below_new _ (.cells #[.int .i64 l', .int .i64 j', .int .i64 xc', .int .i64 m', .int .u64 xa', .int .u64 p', .bool fd', .int .i64 tl', .int .i64 cy'] 28)))
          go_roundw
          case rel => exact ⟨k + 1, fl, s', ⟨l', j', xc', m', xa', p', fd', tl', cy'⟩, by first | rfl | go_num, by go_num, by omega, by omega, by omega, HT3, HD2, HV2, HM2⟩
          case measure => simp [intOf]; omega
        · have HD2 : Hid (DtSt ⟨n, a, (k5 : Int), c, d⟩ g s'.f (k + 1) (fl + 1) ⟨l', j', xc', m', xa', p', fd', tl', cy'⟩) := Lib.hid (by simpa using hd)
          clear hd
          have hkI : (k : Int) < 2 * (k5 : Int) + 3 := by omega
          have hk1 : IntKind.i64.wrap ((k : Int) + 1) = (k : Int) + 1 := IntWalk.i64_in _ (by omega)
          have hf1 : IntKind.i64.wrap (fl + 1) = fl + 1 := IntWalk.i64_in _ (by omega)
          obtain ⟨b0, b1, b2, b3, b4, b5, b6, b7, b8, bf⟩ := HT.out.cells9
          go_wp2_with fail
          refine (HST.out _ HT.out).mono ?_
          rintro e V hp
          obtain ⟨rfl, hT⟩ := HT.out.step hp
          have HT2 := Lib.hid hT
          have hBl : B < V.heap.size := hT.col.lt
          have hBn : B ≠ V.heap.size := by omega
          clear hp hT HT HST b0 b1 b2 b3 b4 b5 b6 b7 b8 bf x0 x1 x2 x3
          obtain ⟨b0, b1, b2, b3, b4, b5, b6, b7, b8, bf⟩ := HT2.out.cells9
          go_wp2_with fail
          have HT3 := Lib.hid ((HT2.out.put ⟨l', j', xc', m', xa', p', fd', tl', cy'⟩).below (below_new _ (.cells #[.int .i64 l', .int .i64 j', .int .i64 xc', .int .i64 m', .int .u64 xa', .int .u64 p', .bool fd', .int .i64 tl', .int .i64 cy'] 28)))
          go_roundw
          case rel => exact ⟨k + 1, fl + 1, s', ⟨l', j', xc', m', xa', p', fd', tl', cy'⟩, by first | rfl | go_num, by go_num, by omega, by omega, by omega, HT3, HD2, HV2, HM2⟩
          case measure => simp [intOf]; omega
      have hk23 : k = 2 * k5 + 3 := by omega
      obtain ⟨hsf, hl⟩ : s.f = upd g 1 0 ∧ ((x.l = 20 ∧ x.c = 0 ∧ g 2 = 0 ∧ fl = 1) ∨ (x.l = 3 ∧ g 2 ≠ 0 ∧ fl = 0)) := by
        rcases HD.out with ⟨h, _⟩ | ⟨h, _⟩ | ⟨i, h, h2, _⟩ | ⟨h, _⟩ | ⟨h, _⟩ | ⟨_, h, h2⟩
        · dsimp only at h; omega
        · dsimp only at h; omega
        · dsimp only at h h2; omega
        · dsimp only at h; omega
        · dsimp only at h; omega
        · exact ⟨h, h2⟩
      have HE0 := Lib.hid (CkW.from HT.out HB.out)
      have HR3 := Lib.hid (HR.out.below HT.out.old)
      have hRA : R ≠ A := fun e => by
        have h1 := HR3.out.cell (j := 0) hn0
        have h2 := HT.out.hand.ar.cell
        rw [e] at h1
        rw [h2] at h1
        cases h1
      have n1 : R ≠ H ∧ R ≠ G ∧ R ≠ B := by have := HT.out.lo; omega
      have hkf : ¬ ((k : Int) < 2 * (k5 : Int) + 3) := by omega
      have hn1 : (1 : Int) < (n : Int) := by omega
      have hn2 : (2 : Int) < (n : Int) := by omega
      have cf := HR3.out.frozen 1
      have c1 := HR3.out.cell (j := 1) (by omega)
      have HE1 := Lib.hid (HE0.out.setOther (p := ⟨R, 1, none⟩) n1.1 hRA n1.2.1 n1.2.2 hlo (.int .u64 0))
      have HR4 := Lib.hid (HR3.out.set 1 0)
      have h0 := HT.out.hand.cells.1
      have hRH : R ≠ H := n1.1
      obtain ⟨b0, b1, b2, b3, b4, b5, b6, b7, b8, bf⟩ := HE1.out.cells9
      clear HT HD HV HM HX HR HB HE0 hRA n1 x2 x3 hk23 hk
      go_wp2_with fail
      clear cf c1 h0 hRH HR3
      generalize wr.setCell ⟨R, 1, none⟩ (.int .u64 0) = W6 at *
      refine (All_c HE1.out.hand.ar hn20).mono ?_
      rintro e W7 ⟨rfl, hrow, hb⟩
      rw [hsf] at hrow
      have HE2 := Lib.hid (HE1.out.below hb)
      have HR5 := Lib.hid (HR4.out.below hb)
      have HZ5 := Lib.hid hrow
      generalize W6.heap.size = Z at *
      clear hrow hb HE1 HR4 hkf b0 b1 b2 b3 b4 b5 b6 b7 b8 bf
      have hnn : ((n : Int) != (n : Int)) = false := by simp
      go_wp2_with fail
      clear hnn
      have hg2 : upd g 1 0 2 = g 2 := rfl
      generalize upd g 1 0 = q at *
      go_loopw [17] (fun kv wx => ∃ i : Nat, kv = .int .i64 i ∧ i ≤ n ∧ Hid (CkW w wx H A G B ⟨n, a, (k5 : Int), c, d⟩ s x) ∧ Hid (RowAt wx R 26 n q) ∧ Hid (RowAt wx Z 26 n q)) (fun kv _ => n - (intOf kv).toNat)
      case atStart => exact ⟨0, rfl, by omega, HE2, HR5, HZ5⟩
      case round =>
        clear HE2 HR5 HZ5
        obtain ⟨i, rfl, hi, HE, HR, HZ⟩ := hrel
        by_cases hin : i < n
        · have cz := HZ.out.cell hin
          have cr := HR.out.cell hin
          generalize q i = qi at *
          have hi0 : (0 : Int) ≤ (i : Int) := by omega
          have hiI : (i : Int) < (n : Int) := by omega
          have hi1 : IntKind.i64.wrap ((i : Int) + 1) = (i : Int) + 1 := IntWalk.i64_in _ (by omega)
          have hqq : (qi != qi) = false := by simp
          have cz2 : wr.drew.cell? ⟨Z, i, none⟩ = some (.int .u64 qi) := cz
          have cr2 : wr.drew.cell? ⟨R, i, none⟩ = some (.int .u64 qi) := cr
          clear cz cr
          go_wp2_with fail
          refine wp_region_held_drew (S := (fun w' => w'.cell? ⟨Z, i, none⟩ = some (.int .u64 qi) ∧ w'.cell? ⟨R, i, none⟩ = some (.int .u64 qi))) (by kernel_rfl) ?_ (fun hHeld => ?_)
          · exact ⟨cz2, cr2⟩
          refine wpAnyH_take (i := 0) (oi := { dst := some 105, op := Op.move (Operand.tmp 16), type := 24, pos := "law.go:203", after := #[], guard := none }) (v := ?vk0) rfl (by kernel_rfl) (by kernel_rfl) (by kernel_rfl) (fun _ _ _ h => h) (Or.inl ⟨by rfl, ?hyk0⟩) hHeld ?_
          case hyk0 => (intro w hSw; (try dsimp only at hSw); go_simp; (try with_reducible rfl))
          try simp only [Act.put, List.setIfInBounds_toArray, List.set_cons_zero, List.set_cons_succ]
          refine wpAnyH_take (i := 1) (oi := { dst := some 106, op := Op.move (Operand.tmp 17), type := 3, pos := "law.go:203", after := #[], guard := none }) (v := ?vk1) rfl (by kernel_rfl) (by kernel_rfl) (by kernel_rfl) (fun _ _ _ h => h) (Or.inl ⟨by rfl, ?hyk1⟩) hHeld ?_
          case hyk1 => (intro w hSw; (try dsimp only at hSw); go_simp; (try with_reducible rfl))
          try simp only [Act.put, List.setIfInBounds_toArray, List.set_cons_zero, List.set_cons_succ]
          refine wpAnyH_take (i := 2) (oi := { dst := some 107, op := Op.indexAddr 24 (Operand.tmp 105) (Operand.tmp 106), type := 0, pos := "law.go:203", after := #[{ on := 0, ground := Ground.data }, { on := 1, ground := Ground.data }], guard := none }) (v := ?vk2) rfl (by kernel_rfl) (by kernel_rfl) (by kernel_rfl) (fun _ _ _ h => h) (Or.inl ⟨by rfl, ?hyk2⟩) hHeld ?_
          case hyk2 => (intro w hSw; (try dsimp only at hSw); go_simp; (try with_reducible rfl))
          try simp only [Act.put, List.setIfInBounds_toArray, List.set_cons_zero, List.set_cons_succ]
          refine wpAnyH_take (i := 3) (oi := { dst := some 108, op := Op.load 26 (Operand.tmp 107), type := 26, pos := "law.go:203", after := #[{ on := 2, ground := Ground.data }], guard := none }) (v := ?vk3) rfl (by kernel_rfl) (by kernel_rfl) (by kernel_rfl) (fun _ _ _ h => h) (Or.inl ⟨by rfl, ?hyk3⟩) hHeld ?_
          case hyk3 => (intro w hSw; (try dsimp only at hSw); go_simp; (try with_reducible rfl))
          try simp only [Act.put, List.setIfInBounds_toArray, List.set_cons_zero, List.set_cons_succ]
          refine wpAnyH_take (i := 4) (oi := { dst := some 109, op := Op.move (Operand.tmp 5), type := 24, pos := "law.go:203", after := #[], guard := none }) (v := ?vk4) rfl (by kernel_rfl) (by kernel_rfl) (by kernel_rfl) (fun _ _ _ h => h) (Or.inl ⟨by rfl, ?hyk4⟩) hHeld ?_
          case hyk4 => (intro w hSw; (try dsimp only at hSw); go_simp; (try with_reducible rfl))
          try simp only [Act.put, List.setIfInBounds_toArray, List.set_cons_zero, List.set_cons_succ]
          refine wpAnyH_take (i := 5) (oi := { dst := some 110, op := Op.move (Operand.tmp 17), type := 3, pos := "law.go:203", after := #[], guard := none }) (v := ?vk5) rfl (by kernel_rfl) (by kernel_rfl) (by kernel_rfl) (fun _ _ _ h => h) (Or.inl ⟨by rfl, ?hyk5⟩) hHeld ?_
          case hyk5 => (intro w hSw; (try dsimp only at hSw); go_simp; (try with_reducible rfl))
          try simp only [Act.put, List.setIfInBounds_toArray, List.set_cons_zero, List.set_cons_succ]
          refine wpAnyH_take (i := 6) (oi := { dst := some 111, op := Op.indexAddr 24 (Operand.tmp 109) (Operand.tmp 110), type := 0, pos := "law.go:203", after := #[{ on := 4, ground := Ground.data }, { on := 5, ground := Ground.data }], guard := none }) (v := ?vk6) rfl (by kernel_rfl) (by kernel_rfl) (by kernel_rfl) (fun _ _ _ h => h) (Or.inl ⟨by rfl, ?hyk6⟩) hHeld ?_
          case hyk6 => (intro w hSw; (try dsimp only at hSw); go_simp; (try with_reducible rfl))
          try simp only [Act.put, List.setIfInBounds_toArray, List.set_cons_zero, List.set_cons_succ]
          refine wpAnyH_take (i := 7) (oi := { dst := some 112, op := Op.load 26 (Operand.tmp 111), type := 26, pos := "law.go:203", after := #[{ on := 6, ground := Ground.data }], guard := none }) (v := ?vk7) rfl (by kernel_rfl) (by kernel_rfl) (by kernel_rfl) (fun _ _ _ h => h) (Or.inl ⟨by rfl, ?hyk7⟩) hHeld ?_
          case hyk7 => (intro w hSw; (try dsimp only at hSw); go_simp; (try with_reducible rfl))
          try simp only [Act.put, List.setIfInBounds_toArray, List.set_cons_zero, List.set_cons_succ]
          refine wpAnyH_take (i := 8) (oi := { dst := some 113, op := Op.binOp BinOp.neq 26 (Operand.tmp 108) (Operand.tmp 112) 26, type := 4, pos := "law.go:203", after := #[{ on := 3, ground := Ground.data }, { on := 7, ground := Ground.data }], guard := none }) (v := ?vk8) rfl (by kernel_rfl) (by kernel_rfl) (by kernel_rfl) (fun _ _ _ h => h) (Or.inl ⟨by rfl, ?hyk8⟩) hHeld ?_
          case hyk8 => (intro w hSw; (try dsimp only at hSw); go_simp; (try with_reducible rfl))
          try simp only [Act.put, List.setIfInBounds_toArray, List.set_cons_zero, List.set_cons_succ]
          refine wpAnyH_done (by kernel_rfl) ?_ _
          clear hHeld cz2 cr2
          have HE3 := Lib.hid HE.out.drew
          have HR6 : Hid (RowAt wr.drew R 26 n q) := Lib.hid HR.out
          have HZ6 : Hid (RowAt wr.drew Z 26 n q) := Lib.hid HZ.out
          clear HE HR HZ
          generalize wr.drew = wd at *
          go_wp2_with fail
          go_roundw
          case rel => exact ⟨i + 1, by go_num, by omega, HE3, HR6, HZ6⟩
          case measure => simp [intOf]; omega
        obtain rfl : n = i := by omega
        rcases hl with ⟨h1, h2, h3, h4⟩ | ⟨h1, h3, h4⟩
        · have c2 := HR.out.cell (j := 2) (by omega)
          rw [hg2] at c2
          rw [h3] at c2
          clear HR HZ
          have HEo := Lib.hid HE.out.old
          obtain ⟨b0, b1, b2, b3, b4, b5, b6, b7, b8, bf⟩ := HE.out.cells9
          clear HE
          obtain ⟨l, j, xc, m, xa, p, fd, tl, cy⟩ := x
          dsimp only at h1 h2 b0 b1 b2 b3 b4 b5 b6 b7 b8
          subst h1 h2 h4
          go_wp2_with fail
          go_ret
          exact ⟨rfl, HEo.out⟩
        · have c2 := HR.out.cell (j := 2) (by omega)
          rw [hg2] at c2
          have hz : (g 2 == 0) = false := by simpa using h3
          generalize g 2 = g2 at *
          clear HR HZ
          have HEo := Lib.hid HE.out.old
          obtain ⟨b0, b1, b2, b3, b4, b5, b6, b7, b8, bf⟩ := HE.out.cells9
          clear HE
          obtain ⟨l, j, xc, m, xa, p, fd, tl, cy⟩ := x
          dsimp only at h1 b0 b1 b2 b3 b4 b5 b6 b7 b8
          subst h1 h4
          go_wp2_with fail
          go_ret
          exact ⟨rfl, HEo.out⟩
end Go.Proofs.YtjmbahdlgnobaaaDoor
