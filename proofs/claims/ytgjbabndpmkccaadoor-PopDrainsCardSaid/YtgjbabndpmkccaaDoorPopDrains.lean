/- PopDrains answers true: taken one behind the other the cells of a free list come in its order, down to the last one, which is never taken: from then on it is told, each time, that there is none. -/
import Derived.Test.YtgjbabndpmkccaaDoorPopAwake
import Derived.Test.YtgjbabndpmkccaaDoorPopTakeP
namespace Go.Proofs.YtgjbabndpmkccaaDoor
open Go Go.RowKit
set_option maxRecDepth 100000
attribute [local go_sem ↓] Go.wp_at_zero Go.wp_at_succ

/-- What From answers of any configuration and words: a hand, or an error. -/
def FromAny (w : World) (e : Ending) (w' : World) : Prop := ∃ p e0, (p = none → e0 ≠ (0 : Int)) ∧ e = .returned (.tuple #[.pointer p, .int .i64 e0]) ∧ Below w.heap.size w w'
theorem from_any (a b c d : Int) (v0 : Option Addr) (n c0 : Nat) (f : Nat → Int) (w : World) (hS : SpansAt w) (hW : WordsAt w v0 n f) :
    Calls Tryd.prog 16 #[.agg #[.int .i64 a, .int .i64 b, .int .i64 c, .int .i64 d], .slice v0 n c0] w (FromAny w) := by
  by_cases hr : Right a b c d
  · by_cases hn : (n : Int) = 5 + b + d + b * c + 3 * a
    · refine (From_right a b c d hr v0 n c0 f hn w hS hW).mono ?_
      rintro e W ⟨H, A, G, he, _, hb, _⟩
      exact ⟨_, _, fun h => (by cases h), he, hb⟩
    · refine (From_len a b c d hr v0 n c0 hn w hS).mono ?_
      rintro e W ⟨he, hb⟩
      exact ⟨_, _, fun _ => by omega, he, hb⟩
  · refine (From_wrong a b c d hr v0 n c0 w hS).mono ?_
    rintro e W ⟨he, hb⟩
    exact ⟨_, _, fun _ => by omega, he, hb⟩
/-- How far the draining is: t cells were asked for. -/
structure DrW (w W : World) (H A G : Nat) (C : Cf) (L : List Nat) (t : Nat) (s : Dy) : Prop where
  old : Below w.heap.size w W
  hand : HAt W H A G C s
  lo : w.heap.size ≤ H ∧ w.heap.size ≤ G
  u : s.U
  chain : ChainL (nxF C.b C.c C.d s.f) C.a.toNat (s.f 0) (L.drop (min t (L.length - 1)))
/-- What is asked for next: the t-th cell, or the last one. -/
theorem drop_head {L : List Nat} (hL : L ≠ []) (t : Nat) : ∃ i L', L.drop (min t (L.length - 1)) = i :: L' ∧ L.getD (min t (L.length - 1)) 0 = i ∧ L' = L.drop (min t (L.length - 1) + 1) := by
  have h0 : 0 < L.length := List.length_pos_iff.2 hL
  have h1 : min t (L.length - 1) < L.length := by omega
  exact ⟨L[min t (L.length - 1)], L.drop (min t (L.length - 1) + 1), List.drop_eq_getElem_cons h1, by simp [List.getD, h1], rfl⟩
theorem DrW.drew {w W : World} {H A G : Nat} {C : Cf} {L : List Nat} {t : Nat} {s : Dy} (h : DrW w W H A G C L t s) : DrW w W.drew H A G C L t s := ⟨h.old.drew, h.hand.drew, h.lo, h.u, h.chain⟩
theorem DrW.last {w W V : World} {H A G : Nat} {C : Cf} {L : List Nat} {t : Nat} {s s' : Dy} (h : DrW w W H A G C L t s) (hV : Below w.heap.size w V) (hH : HAt V H A G C s') (hu : s'.U) (e : s'.f = s.f) (ht : L.length ≤ t + 1) : DrW w V H A G C L (t + 1) s' := by
  refine ⟨hV, hH, h.lo, hu, ?_⟩
  have := h.chain
  rw [e, show min (t + 1) (L.length - 1) = min t (L.length - 1) by omega]
  exact this
theorem DrW.more {w W V : World} {H A G : Nat} {C : Cf} (hC : CfOK C) {L : List Nat} {t : Nat} {s s' : Dy} {i u : Nat} {L' : List Nat} (h : DrW w W H A G C L t s) (hV : Below w.heap.size w V) (hH : HAt V H A G C s') (hu : s'.U) (e : s'.f = upd s.f 0 (u : Int))
    (hd : L.drop (min t (L.length - 1)) = i :: L') (hL' : L' = L.drop (min t (L.length - 1) + 1)) (hn : nxF C.b C.c C.d s.f i = (u : Int)) (ht : t + 1 < L.length) : DrW w V H A G C L (t + 1) s' := by
  refine ⟨hV, hH, h.lo, hu, ?_⟩
  have hc := h.chain
  rw [hd] at hc
  have h2 := hc.2.2
  rw [hn] at h2
  have hr := hC.right
  unfold Right at hr
  rw [e, show min (t + 1) (L.length - 1) = min t (L.length - 1) + 1 by omega, ← hL']
  exact chain_taken h2 (fun j hj => (hC.cdr (i := j) (by omega)).2.2)
set_option maxHeartbeats 12800000 in
theorem drains_any (a b c d : Int) (v0 : Option Addr) (n c0 : Nat) (f : Nat → Int) (w : World) (hS : SpansAt w) (hG : Given w v0 n c0 f) :
    Calls Tryd.prog 6 #[.agg #[.int .i64 a, .int .i64 b, .int .i64 c, .int .i64 d], .slice v0 n c0] w fun e w' => e = .returned (.bool true) ∧ Below w.heap.size w w' := by
  have HB0 := Lib.hid (below_new w (.cells #[.int .i64 a, .int .i64 b, .int .i64 c, .int .i64 d] 23))
  have HX0 := Lib.hid (BoxAt.new w a b c d 23)
  have HS := Lib.hid hS; have HG := Lib.hid hG
  clear hS hG
  obtain ⟨x0, x1, x2, x3⟩ := HX0.out
  go_enter Tryd.func6, Tryd.ntmps6
  go_wp2_with fail
  refine (awake_c _ (HS.out.below HB0.out)).mono ?_
  rintro e W1 ⟨rfl, hW⟩
  have HB1 := Lib.hid (belowOn HB0.out hW)
  have HX1 := Lib.hid (HX0.out.below hW)
  clear hW HB0 HX0 x0 x1 x2 x3
  obtain ⟨x0, x1, x2, x3⟩ := HX1.out
  go_wp2_with fail
  by_cases hg : grt a b c d
  · refine (great_yes a b c d hg _).mono ?_
    rintro e W2 ⟨rfl, hW⟩
    have HB2 := Lib.hid (belowOn HB1.out hW)
    clear hW HB1 HX1 x0 x1 x2 x3 hg
    go_wp2_with fail
    go_ret
    exact ⟨rfl, HB2.out⟩
  refine (great_no a b c d hg _).mono ?_
  rintro e W2 ⟨rfl, hW⟩
  have HB2 := Lib.hid (belowOn HB1.out hW)
  have HX2 := Lib.hid (HX1.out.below hW)
  clear hW HB1 HX1 x0 x1 x2 x3 hg
  obtain ⟨x0, x1, x2, x3⟩ := HX2.out
  by_cases hn4 : (400 : Int) < (n : Int)
  · clear HX2 x0 x1 x2 x3
    go_wp2_with fail
    go_ret
    exact ⟨rfl, HB2.out⟩
  go_wp2_with fail
  clear hn4
  refine (rlist_any a b c d v0 n c0 f HG.out.2.2.1 W2 (HG.out.2.1.below HB2.out)).mono ?_
  rintro e W3 ⟨v, rfl, hrow, hW⟩
  cases hr : lstR a b c d n f with
  | none =>
    rw [hr] at hrow
    obtain ⟨a1, q1, rfl, h1, _, _, _⟩ := IntsAt.own hrow
    have HB3 := Lib.hid (belowOn HB2.out hW)
    have HX3 := Lib.hid (HX2.out.below hW)
    clear hrow hW h1 HB2 HX2 x0 x1 x2 x3
    rw [show ((Option.none : Option (List Nat)).getD []).length = 0 from rfl, show (Option.none : Option (List Nat)).isSome = false from rfl]
    obtain ⟨x0, x1, x2, x3⟩ := HX3.out
    have HF := Lib.hid (from_any a b c d v0 n c0 f W3 (HS.out.below HB3.out) (HG.out.2.1.below HB3.out))
    go_wp2_with fail
    refine HF.out.mono ?_
    rintro e W4 ⟨p, e0, hpe, rfl, hW⟩
    have HB4 := Lib.hid (belowOn HB3.out hW)
    clear hW HF HB3 HX3 x0 x1 x2 x3
    by_cases he : e0 = 0
    · subst he
      cases p with
      | none => exact absurd rfl (hpe rfl)
      | some p =>
        clear hpe
        go_wp2_with fail
        go_ret
        exact ⟨rfl, HB4.out⟩
    · have he1 : (e0 == 0) = false := by simpa using he
      have he2 : (e0 != 0) = true := by simpa using he
      clear hpe
      go_wp2_with fail
      go_ret
      exact ⟨rfl, HB4.out⟩
  | some L =>
  rw [hr] at hrow
  obtain ⟨hright, hn, hch, hne⟩ := lstR_some hr
  obtain ⟨a1, q1, rfl, h1, _, _, _⟩ := IntsAt.own (L := L) hrow
  have hC : CfOK ⟨n, a, b, c, d⟩ := ⟨hright, hn⟩
  have ha4 : a ≤ 4096 ∧ 2 ≤ a := by unfold Right at hright; omega
  have hn20 : n ≤ 20000 := by have := hright.prod; unfold Right at hright; omega
  have hl20 : L.length ≤ 4096 := by have := hch.length; omega
  have HB3 := Lib.hid (belowOn HB2.out hW)
  have HX3 := Lib.hid (HX2.out.below hW)
  have HR3 := Lib.hid h1
  have HS3 := Lib.hid (HS.out.below HB3.out)
  have HW3 := Lib.hid (HG.out.2.1.below HB3.out)
  have HU := Lib.hid HG.out.2.2.1
  have HK := Lib.hid hC
  have HCh := Lib.hid hch
  have HNe := Lib.hid hne
  have HFR : Hid (∀ W, SpansAt W → WordsAt W v0 n f → _) := Lib.hid (fun W h1 h2 => From_right a b c d hright v0 n c0 f hn W h1 h2)
  obtain ⟨ln, hln⟩ : ∃ ln, L.length = ln := ⟨_, rfl⟩
  have HLn := Lib.hid hln
  have hln1 : 1 ≤ ln := by rw [← hln]; exact List.length_pos_iff.2 hne
  obtain ⟨lm, hlm⟩ : ∃ lm, lm + 1 = ln := ⟨ln - 1, by omega⟩
  have hw1 : IntKind.i64.wrap ((ln : Int) - 1) = (lm : Int) := (IntWalk.i64_in _ (by omega)).trans (by omega)
  have hlm1 : (lm : Int) < (ln : Int) := by omega
  have hlm2 : lm < ln := by omega
  have HLm := Lib.hid hlm
  have hw2 : IntKind.i64.wrap ((ln : Int) + 2) = (ln : Int) + 2 := IntWalk.i64_in _ (by omega)
  rw [show ((some L : Option (List Nat)).isSome) = true from rfl, hln]
  rw [hln] at hl20
  clear hrow hW h1 HB2 HX2 HG HS x0 x1 x2 x3 hright hn hch hne hC hr hln hlm
  obtain ⟨x0, x1, x2, x3⟩ := HX3.out
  go_wp2_with fail
  refine (HFR.out W3 HS3.out HW3.out).mono ?_
  rintro e W4 ⟨H, A, G, rfl, hH, hb, l1, l2, l3⟩
  have HD := Lib.hid (show DrW W3 W4 H A G ⟨n, a, b, c, d⟩ L 0 ⟨f, 0, 0, 0, 0, 0⟩ from ⟨hb, hH, ⟨l1, l3⟩, HU.out, by simpa using HCh.out⟩)
  clear hH hb l1 l2 l3 HFR HX3 HW3 x0 x1 x2 x3 HCh HU
  go_wp2_with fail
  go_loopw [9] (fun tv wr => ∃ t : Nat, tv = .int .i64 t ∧ t ≤ ln + 2 ∧ Hid (∃ s, DrW W3 wr H A G ⟨n, a, b, c, d⟩ L t s)) (fun tv _ => ln + 2 - (intOf tv).toNat)
  case atStart => exact ⟨0, rfl, by omega, Lib.hid ⟨_, HD.out⟩⟩
  case round =>
    clear HD
    obtain ⟨t, rfl, ht, HDr⟩ := hrel
    by_cases hlt : t < ln + 2
    · obtain ⟨s0, hD⟩ := HDr.out
      obtain ⟨i, L', hdr, hget, hL'⟩ := drop_head HNe.out t
      have HD := Lib.hid hD
      have hch := hD.chain
      rw [hdr] at hch
      have hia : (i : Int) < a := by have := hch.2.1; dsimp only at this; omega
      obtain ⟨u, hu, hu6⟩ := word_nat (hD.u (cdrP b c d i))
      have HF0 : Hid (s0.f 0 = 2 * (i : Int) + 1) := Lib.hid hch.1
      have HFu : Hid (nxF b c d s0.f i = (u : Int)) := Lib.hid hu
      have HCh : Hid (ChainL (nxF b c d s0.f) a.toNat (nxF b c d s0.f i) L') := Lib.hid hch.2.2
      have HGet := Lib.hid hget; have HDr2 := Lib.hid hdr; have HL' := Lib.hid hL'
      have HT := Lib.hid (TkW.first hD.old hD.hand hD.lo.1 hD.lo.2 (hM 34 0 0 0 0 0))
      have htl : (t : Int) < (ln : Int) + 2 := by omega
      clear hD hdr hget hL' hch hu HDr
      go_wp2_with fail
      generalize wr.alloc (.cells #[.int .i64 34, .int .i64 0, .int .i64 0, .int .i64 0, .int .i64 0, .int .u64 0, .int .u64 0, .int .u64 0, .int .u64 0, .int .u64 0, .int .u64 0, .int .i64 0, .int .i64 0] 30) = W5 at *
      have HD0 : Hid (∀ V s', Below W3.heap.size W3 V → HAt V H A G ⟨n, a, b, c, d⟩ s' → s'.U → (s'.f = s0.f ∧ ln ≤ t + 1 ∨ s'.f = upd s0.f 0 (u : Int) ∧ t + 1 < ln) → DrW W3 V H A G ⟨n, a, b, c, d⟩ L (t + 1) s') := Lib.hid (fun V s' h1 h2 h3 h4 => by
        rcases h4 with ⟨e, h4⟩ | ⟨e, h4⟩
        · exact HD.out.last h1 h2 h3 e (by rw [HLn.out]; exact h4)
        · exact HD.out.more HK.out h1 h2 h3 e HDr2.out HL'.out HFu.out (by rw [HLn.out]; exact h4))
      have HDu := Lib.hid HD.out.u
      clear HD
      generalize wr.heap.size = B at *
      go_loopw [11] (fun kv wr => ∃ (k : Nat) (lin : Int) (s : Dy) (m : Mu), kv = .int .i64 k ∧ k ≤ 3 ∧ Hid (TkW W3 wr H A G B ⟨n, a, b, c, d⟩ s m) ∧ Hid (TkSt s0.f i u k lin s m)) (fun kv _ => 3 - (intOf kv).toNat)
      case atStart => exact ⟨0, 0, s0, hM 34 0 0 0 0 0, rfl, by omega, HT, Lib.hid (.inl ⟨rfl, rfl, rfl, rfl⟩)⟩
      case round =>
        clear HT
        obtain ⟨k, lin, s, m, rfl, hk, HT, HQ⟩ := hrel
        by_cases hgo : k < 3 ∧ 34 ≤ m.l ∧ m.l ≤ 36
        · obtain ⟨hk3, hl34, hl36⟩ := hgo
          obtain ⟨s', m', bo, hstep, hst⟩ := HQ.out.go HK.out hia HF0.out HFu.out hk3 hl34 hl36
          have hU := HQ.out.U HDu.out (by omega) hu6
          have HST : Hid (∀ W, TkW W3 W H A G B ⟨n, a, b, c, d⟩ s m → _) := Lib.hid (fun W h => pop_c (w := W) h.hand hU.1 (HS3.out.below h.old) m hU.2)
          rw [hstep] at HST
          have HQ2 := Lib.hid hst
          clear hstep hst hU HQ
          obtain ⟨l, g1', g2, g3, g4, w1, w2, w3, w4, w5, p1, bk1, rt1⟩ := m
          obtain ⟨l', g1'', g2', g3', g4', w1', w2', w3', w4', w5', p1', bk1', rt1'⟩ := m'
          dsimp only at hl34 hl36 HST
          obtain ⟨b0, b1, b2, b3, b4, b5, b6, b7, b8, b9, b10, b11, b12, bf⟩ := HT.out.mu.cells
          have hkz : (k : Int) < 3 := by omega
          go_wp2_with fail
          refine (HST.out _ HT.out).mono ?_
          rintro e V hp
          obtain ⟨rfl, hT⟩ := HT.out.step hp
          have HT2 := Lib.hid hT
          clear hp hT HT HST b0 b1 b2 b3 b4 b5 b6 b7 b8 b9 b10 b11 b12 bf
          obtain ⟨b0, b1, b2, b3, b4, b5, b6, b7, b8, b9, b10, b11, b12, bf⟩ := HT2.out.mu.cells
          go_wp2_with fail
          go_roundw
          case rel => exact ⟨k + 1, _, s', ⟨l', g1'', g2', g3', g4', w1', w2', w3', w4', w5', p1', bk1', rt1'⟩, by go_num, by omega, Lib.hid (HT2.out.put ⟨l', g1'', g2', g3', g4', w1', w2', w3', w4', w5', p1', bk1', rt1'⟩), HQ2⟩
          case measure => simp [intOf]; omega
        · obtain ⟨rfl, he⟩ := HQ.out.ends hgo
          have hsU := (HQ.out.U HDu.out (by omega) hu6).1
          clear HQ hgo
          have HIc : Hid (∀ W, Calls Tryd.prog 18 #[.int .u64 (2 * (i : Int) + 1)] W fun e w' => e = .returned (.int .i64 (i : Int)) ∧ W = w') := Lib.hid (fun W => by have := refIsCell_cell (2 * i + 1) (by omega) (by omega) W; rw [show (2 * i + 1) / 2 = i by omega, show ((2 * i + 1 : Nat) : Int) = 2 * (i : Int) + 1 by omega] at this; exact this)
          have hii : ((i : Int) != (i : Int)) = false := by simp
          rcases he with ⟨hk2, hsf, rfl, hc⟩ | ⟨hk2, hsf, rfl, hc⟩
          · have hlt2 : ln ≤ t + 1 := by
              have e0 := chain_last (by omega) HCh.out HFu.out hc
              have e1 := HL'.out
              rw [e0] at e1
              have e2 := congrArg List.length e1
              have e3 := HLn.out
              rw [List.length_drop, e3] at e2
              simp at e2
              omega
            have hmin : min t (L.length - 1) = lm := by have := HLn.out; have := HLm.out; omega
            have htm : ¬ (t : Int) < (lm : Int) := by have := HLm.out; omega
            have hkz : (k : Int) < 3 := by omega
            have HEnd : Hid (DrW W3 wr H A G ⟨n, a, b, c, d⟩ L (t + 1) s) := Lib.hid (HD0.out wr s HT.out.old HT.out.hand hsU (.inl ⟨hsf, hlt2⟩))
            obtain ⟨g1, o1, rfl, tr⟩ := (HR3.out.below HT.out.old).at' (j := min t (L.length - 1)) (by have := HLn.out; omega)
            rw [HGet.out, hmin] at tr
            obtain ⟨b0, b1, b2, b3, b4, b5, b6, b7, b8, b9, b10, b11, b12, bf⟩ := HT.out.mu.cells
            clear hk2 hsf hc hsU hmin hlt2 HT HD0 HCh HFu HF0 HGet HDr2 HL' hk
            go_wp2_with fail
            refine wp_region_held_drew (S := (fun w' => w'.cell? ⟨B, 0, none⟩ = some (.int .i64 41) ∧ w'.cell? ⟨B, 12, none⟩ = some (.int .i64 5) ∧ w'.cell? ⟨B, 7, none⟩ = some (.int .u64 (2 * (i : Int) + 1)) ∧ w'.cell? ⟨g1, o1 + lm, none⟩ = some (.int .i64 (i : Int)))) (by kernel_rfl) ?_ (fun hHeld => ?_)
            · exact ⟨b0, b12, b7, tr⟩
            refine wpAnyH_take (i := 0) (oi := { dst := some 94, op := Op.fieldAddr 30 (Operand.tmp 10) 0, type := 0, pos := "law.go:125", after := #[], guard := none }) (v := ?vkA0) rfl (by kernel_rfl) (by kernel_rfl) (by kernel_rfl) (fun _ _ _ h => h) (Or.inl ⟨by rfl, ?hykA0⟩) hHeld ?_
            case hykA0 => (intro w hSw; (try dsimp only at hSw); go_simp; (try with_reducible rfl))
            try simp only [Act.put, List.setIfInBounds_toArray, List.set_cons_zero, List.set_cons_succ]
            refine wpAnyH_take (i := 1) (oi := { dst := some 95, op := Op.load 3 (Operand.tmp 94), type := 3, pos := "law.go:125", after := #[{ on := 0, ground := Ground.data }], guard := none }) (v := ?vkA1) rfl (by kernel_rfl) (by kernel_rfl) (by kernel_rfl) (fun _ _ _ h => h) (Or.inl ⟨by rfl, ?hykA1⟩) hHeld ?_
            case hykA1 => (intro w hSw; (try dsimp only at hSw); go_simp; (try with_reducible rfl))
            try simp only [Act.put, List.setIfInBounds_toArray, List.set_cons_zero, List.set_cons_succ]
            refine wpAnyH_take (i := 2) (oi := { dst := some 96, op := Op.binOp BinOp.neq 3 (Operand.tmp 95) (Operand.const (Value.int IntKind.i64 41)) 3, type := 4, pos := "law.go:125", after := #[{ on := 1, ground := Ground.data }], guard := none }) (v := ?vkA2) rfl (by kernel_rfl) (by kernel_rfl) (by kernel_rfl) (fun _ _ _ h => h) (Or.inl ⟨by rfl, ?hykA2⟩) hHeld ?_
            case hykA2 => (intro w hSw; (try dsimp only at hSw); go_simp; (try with_reducible rfl))
            try simp only [Act.put, List.setIfInBounds_toArray, List.set_cons_zero, List.set_cons_succ]
            refine wpAnyH_take (i := 3) (oi := { dst := some 97, op := Op.move (Operand.tmp 96), type := 4, pos := "law.go:125", after := #[{ on := 2, ground := Ground.data }], guard := none }) (v := ?vkA3) rfl (by kernel_rfl) (by kernel_rfl) (by kernel_rfl) (fun _ _ _ h => h) (Or.inl ⟨by rfl, ?hykA3⟩) hHeld ?_
            case hykA3 => (intro w hSw; (try dsimp only at hSw); go_simp; (try with_reducible rfl))
            try simp only [Act.put, List.setIfInBounds_toArray, List.set_cons_zero, List.set_cons_succ]
            refine wpAnyH_take (i := 4) (oi := { dst := some 98, op := Op.fieldAddr 30 (Operand.tmp 10) 9, type := 0, pos := "law.go:125", after := #[{ on := 3, ground := Ground.guard }], guard := some (3, false) }) (v := ?vkA4) rfl (by kernel_rfl) (by kernel_rfl) (by kernel_rfl) (fun _ _ _ h => h) (Or.inl ⟨by rfl, ?hykA4⟩) hHeld ?_
            case hykA4 => (intro w hSw; (try dsimp only at hSw); go_simp; (try with_reducible rfl))
            try simp only [Act.put, List.setIfInBounds_toArray, List.set_cons_zero, List.set_cons_succ]
            refine wpAnyH_take (i := 5) (oi := { dst := some 99, op := Op.load 3 (Operand.tmp 98), type := 3, pos := "law.go:125", after := #[{ on := 4, ground := Ground.data }, { on := 3, ground := Ground.guard }], guard := some (3, false) }) (v := ?vkA5) rfl (by kernel_rfl) (by kernel_rfl) (by kernel_rfl) (fun _ _ _ h => h) (Or.inl ⟨by rfl, ?hykA5⟩) hHeld ?_
            case hykA5 => (intro w hSw; (try dsimp only at hSw); go_simp; (try with_reducible rfl))
            try simp only [Act.put, List.setIfInBounds_toArray, List.set_cons_zero, List.set_cons_succ]
            refine wpAnyH_take (i := 6) (oi := { dst := some 100, op := Op.binOp BinOp.neq 3 (Operand.tmp 99) (Operand.const (Value.int IntKind.i64 5)) 3, type := 4, pos := "law.go:125", after := #[{ on := 5, ground := Ground.data }, { on := 3, ground := Ground.guard }], guard := some (3, false) }) (v := ?vkA6) rfl (by kernel_rfl) (by kernel_rfl) (by kernel_rfl) (fun _ _ _ h => h) (Or.inl ⟨by rfl, ?hykA6⟩) hHeld ?_
            case hykA6 => (intro w hSw; (try dsimp only at hSw); go_simp; (try with_reducible rfl))
            try simp only [Act.put, List.setIfInBounds_toArray, List.set_cons_zero, List.set_cons_succ]
            refine wpAnyH_take (i := 7) (oi := { dst := some 101, op := Op.pick (Operand.tmp 97) (Operand.const (Value.bool true)) (Operand.tmp 100), type := 4, pos := "law.go:125", after := #[{ on := 3, ground := Ground.data }, { on := 6, ground := Ground.data }], guard := none }) (v := ?vkA7) rfl (by kernel_rfl) (by kernel_rfl) (by kernel_rfl) (fun _ _ _ h => h) (Or.inl ⟨by rfl, ?hykA7⟩) hHeld ?_
            case hykA7 => (intro w hSw; (try dsimp only at hSw); go_simp; (try with_reducible rfl))
            try simp only [Act.put, List.setIfInBounds_toArray, List.set_cons_zero, List.set_cons_succ]
            refine wpAnyH_take (i := 8) (oi := { dst := some 102, op := Op.move (Operand.tmp 101), type := 4, pos := "law.go:125", after := #[{ on := 7, ground := Ground.data }, { on := 3, ground := Ground.chain }], guard := none }) (v := ?vkA8) rfl (by kernel_rfl) (by kernel_rfl) (by kernel_rfl) (fun _ _ _ h => h) (Or.inl ⟨by rfl, ?hykA8⟩) hHeld ?_
            case hykA8 => (intro w hSw; (try dsimp only at hSw); go_simp; (try with_reducible rfl))
            try simp only [Act.put, List.setIfInBounds_toArray, List.set_cons_zero, List.set_cons_succ]
            refine wpAnyH_take (i := 9) (oi := { dst := some 103, op := Op.fieldAddr 30 (Operand.tmp 10) 4, type := 0, pos := "law.go:125", after := #[{ on := 8, ground := Ground.guard }], guard := some (8, false) }) (v := ?vkA9) rfl (by kernel_rfl) (by kernel_rfl) (by kernel_rfl) (fun _ _ _ h => h) (Or.inl ⟨by rfl, ?hykA9⟩) hHeld ?_
            case hykA9 => (intro w hSw; (try dsimp only at hSw); go_simp; (try with_reducible rfl))
            try simp only [Act.put, List.setIfInBounds_toArray, List.set_cons_zero, List.set_cons_succ]
            refine wpAnyH_take (i := 10) (oi := { dst := some 104, op := Op.load 28 (Operand.tmp 103), type := 28, pos := "law.go:125", after := #[{ on := 9, ground := Ground.data }, { on := 8, ground := Ground.guard }], guard := some (8, false) }) (v := ?vkA10) rfl (by kernel_rfl) (by kernel_rfl) (by kernel_rfl) (fun _ _ _ h => h) (Or.inl ⟨by rfl, ?hykA10⟩) hHeld ?_
            case hykA10 => (intro w hSw; (try dsimp only at hSw); go_simp; (try with_reducible rfl))
            try simp only [Act.put, List.setIfInBounds_toArray, List.set_cons_zero, List.set_cons_succ]
            refine wpAnyH_take (i := 12) (oi := { dst := some 106, op := Op.move (Operand.tmp 5), type := 42, pos := "law.go:125", after := #[{ on := 8, ground := Ground.guard }], guard := some (8, false) }) (v := ?vkA12) rfl (by kernel_rfl) (by kernel_rfl) (by kernel_rfl) (fun _ _ _ h => h) (Or.inl ⟨by rfl, ?hykA12⟩) hHeld ?_
            case hykA12 => (intro w hSw; (try dsimp only at hSw); go_simp; (try with_reducible rfl))
            try simp only [Act.put, List.setIfInBounds_toArray, List.set_cons_zero, List.set_cons_succ]
            refine wpAnyH_take (i := 13) (oi := { dst := some 107, op := Op.move (Operand.tmp 5), type := 42, pos := "law.go:125", after := #[{ on := 8, ground := Ground.guard }], guard := some (8, false) }) (v := ?vkA13) rfl (by kernel_rfl) (by kernel_rfl) (by kernel_rfl) (fun _ _ _ h => h) (Or.inl ⟨by rfl, ?hykA13⟩) hHeld ?_
            case hykA13 => (intro w hSw; (try dsimp only at hSw); go_simp; (try with_reducible rfl))
            try simp only [Act.put, List.setIfInBounds_toArray, List.set_cons_zero, List.set_cons_succ]
            refine wpAnyH_take (i := 14) (oi := { dst := some 108, op := Op.call { callee := Callee.builtin Builtin.len, args := #[Operand.tmp 107], argTypes := #[42] }, type := 3, pos := "law.go:125", after := #[{ on := 13, ground := Ground.data }, { on := 8, ground := Ground.guard }], guard := some (8, false) }) (v := ?vkA14) rfl (by kernel_rfl) (by kernel_rfl) (by kernel_rfl) (fun _ _ _ h => h) (Or.inl ⟨by rfl, ?hykA14⟩) hHeld ?_
            case hykA14 => (intro w hSw; (try dsimp only at hSw); go_simp; (try with_reducible rfl))
            try simp only [Act.put, List.setIfInBounds_toArray, List.set_cons_zero, List.set_cons_succ]
            refine wpAnyH_take (i := 15) (oi := { dst := some 109, op := Op.binOp BinOp.sub 3 (Operand.tmp 108) (Operand.const (Value.int IntKind.i64 1)) 3, type := 3, pos := "law.go:125", after := #[{ on := 14, ground := Ground.data }, { on := 8, ground := Ground.guard }], guard := some (8, false) }) (v := ?vkA15) rfl (by kernel_rfl) (by kernel_rfl) (by kernel_rfl) (fun _ _ _ h => h) (Or.inl ⟨by rfl, ?hykA15⟩) hHeld ?_
            case hykA15 => (intro w hSw; (try dsimp only at hSw); go_simp; (try with_reducible rfl))
            try simp only [Act.put, List.setIfInBounds_toArray, List.set_cons_zero, List.set_cons_succ]
            refine wpAnyH_take (i := 16) (oi := { dst := some 110, op := Op.indexAddr 42 (Operand.tmp 106) (Operand.tmp 109), type := 0, pos := "law.go:125", after := #[{ on := 12, ground := Ground.data }, { on := 15, ground := Ground.data }, { on := 8, ground := Ground.guard }], guard := some (8, false) }) (v := ?vkA16) rfl (by kernel_rfl) (by kernel_rfl) (by kernel_rfl) (fun _ _ _ h => h) (Or.inl ⟨by rfl, ?hykA16⟩) hHeld ?_
            case hykA16 => (intro w hSw; (try dsimp only at hSw); go_simp; (try with_reducible rfl))
            try simp only [Act.put, List.setIfInBounds_toArray, List.set_cons_zero, List.set_cons_succ]
            refine wpAnyH_take (i := 17) (oi := { dst := some 111, op := Op.load 3 (Operand.tmp 110), type := 3, pos := "law.go:125", after := #[{ on := 16, ground := Ground.data }, { on := 8, ground := Ground.guard }], guard := some (8, false) }) (v := ?vkA17) rfl (by kernel_rfl) (by kernel_rfl) (by kernel_rfl) (fun _ _ _ h => h) (Or.inl ⟨by rfl, ?hykA17⟩) hHeld ?_
            case hykA17 => (intro w hSw; (try dsimp only at hSw); go_simp; (try with_reducible rfl))
            try simp only [Act.put, List.setIfInBounds_toArray, List.set_cons_zero, List.set_cons_succ]
            refine wpAnyH_ready (rs := [11]) (by kernel_rfl) (by simp) ?_
            refine AllReadyH.cons (o := { dst := some 105, op := Op.call { callee := Callee.value (Operand.func 18), args := #[Operand.tmp 104], argTypes := #[28] }, type := 3, pos := "law.go:125", after := #[{ on := 10, ground := Ground.data }, { on := 8, ground := Ground.chain }, { on := 8, ground := Ground.guard }], guard := some (8, false) }) rfl (fun K hK => ?_) AllReadyH.nil
            go_simp
            refine (HIc.out _).mono ?_
            rintro e V ⟨rfl, rfl⟩
            clear hHeld
            refine hK.out _ _ ?_ (fun hHeld => ?_)
            · exact ⟨b0, b12, b7, tr⟩
            clear hK K
            try simp only [Act.put, List.setIfInBounds_toArray, List.set_cons_zero, List.set_cons_succ]
            refine wpAnyH_take (i := 18) (oi := { dst := some 112, op := Op.binOp BinOp.neq 3 (Operand.tmp 105) (Operand.tmp 111) 3, type := 4, pos := "law.go:125", after := #[{ on := 11, ground := Ground.data }, { on := 17, ground := Ground.data }, { on := 8, ground := Ground.guard }], guard := some (8, false) }) (v := ?vkA18) rfl (by kernel_rfl) (by kernel_rfl) (by kernel_rfl) (fun _ _ _ h => h) (Or.inl ⟨by rfl, ?hykA18⟩) hHeld ?_
            case hykA18 => (intro w hSw; (try dsimp only at hSw); go_simp; (try with_reducible rfl))
            try simp only [Act.put, List.setIfInBounds_toArray, List.set_cons_zero, List.set_cons_succ]
            refine wpAnyH_take (i := 19) (oi := { dst := some 113, op := Op.pick (Operand.tmp 102) (Operand.const (Value.bool true)) (Operand.tmp 112), type := 4, pos := "law.go:125", after := #[{ on := 8, ground := Ground.data }, { on := 18, ground := Ground.data }], guard := none }) (v := ?vkA19) rfl (by kernel_rfl) (by kernel_rfl) (by kernel_rfl) (fun _ _ _ h => h) (Or.inl ⟨by rfl, ?hykA19⟩) hHeld ?_
            case hykA19 => (intro w hSw; (try dsimp only at hSw); go_simp; (try with_reducible rfl))
            try simp only [Act.put, List.setIfInBounds_toArray, List.set_cons_zero, List.set_cons_succ]
            refine wpAnyH_done (by kernel_rfl) ?_ _
            clear hHeld HIc tr b0 b1 b2 b3 b4 b5 b6 b7 b8 b9 b10 b11 b12 bf
            go_wp2_with fail
            go_roundw
            case rel => exact ⟨t + 1, by go_num, by omega, Lib.hid ⟨s, HEnd.out.drew⟩⟩
            case measure => simp [intOf]; omega
          · have hlt2 : t + 1 < ln := by
              obtain ⟨j, l, e0, _, _⟩ := chain_more HCh.out HFu.out hc
              have e1 := HL'.out
              rw [e0] at e1
              have e2 := congrArg List.length e1
              have e3 := HLn.out
              rw [List.length_drop, e3] at e2
              simp at e2
              omega
            have hmin : min t (L.length - 1) = t := by have := HLn.out; omega
            have htm : (t : Int) < (lm : Int) := by have := HLm.out; omega
            have hkz : ¬ (k : Int) < 3 := by omega
            have htn : t < ln := by omega
            have htn2 : (t : Int) < (ln : Int) := by omega
            have ht0 : (0 : Int) ≤ (t : Int) := by omega
            have HEnd : Hid (DrW W3 wr H A G ⟨n, a, b, c, d⟩ L (t + 1) s) := Lib.hid (HD0.out wr s HT.out.old HT.out.hand hsU (.inr ⟨hsf, hlt2⟩))
            obtain ⟨g1, o1, rfl, tr⟩ := (HR3.out.below HT.out.old).at' (j := min t (L.length - 1)) (by have := HLn.out; omega)
            rw [HGet.out, hmin] at tr
            obtain ⟨b0, b1, b2, b3, b4, b5, b6, b7, b8, b9, b10, b11, b12, bf⟩ := HT.out.mu.cells
            clear hk2 hsf hc hsU hmin hlt2 HT HD0 HCh HFu HF0 HGet HDr2 HL' hk
            go_wp2_with fail
            refine wp_region_held_drew (S := (fun w' => w'.cell? ⟨B, 0, none⟩ = some (.int .i64 80) ∧ w'.cell? ⟨B, 7, none⟩ = some (.int .u64 (2 * (i : Int) + 1)) ∧ w'.cell? ⟨g1, o1 + t, none⟩ = some (.int .i64 (i : Int)))) (by kernel_rfl) ?_ (fun hHeld => ?_)
            · exact ⟨b0, b7, tr⟩
            refine wpAnyH_take (i := 0) (oi := { dst := some 81, op := Op.fieldAddr 30 (Operand.tmp 10) 0, type := 0, pos := "law.go:122", after := #[], guard := none }) (v := ?vkB0) rfl (by kernel_rfl) (by kernel_rfl) (by kernel_rfl) (fun _ _ _ h => h) (Or.inl ⟨by rfl, ?hykB0⟩) hHeld ?_
            case hykB0 => (intro w hSw; (try dsimp only at hSw); go_simp; (try with_reducible rfl))
            try simp only [Act.put, List.setIfInBounds_toArray, List.set_cons_zero, List.set_cons_succ]
            refine wpAnyH_take (i := 1) (oi := { dst := some 82, op := Op.load 3 (Operand.tmp 81), type := 3, pos := "law.go:122", after := #[{ on := 0, ground := Ground.data }], guard := none }) (v := ?vkB1) rfl (by kernel_rfl) (by kernel_rfl) (by kernel_rfl) (fun _ _ _ h => h) (Or.inl ⟨by rfl, ?hykB1⟩) hHeld ?_
            case hykB1 => (intro w hSw; (try dsimp only at hSw); go_simp; (try with_reducible rfl))
            try simp only [Act.put, List.setIfInBounds_toArray, List.set_cons_zero, List.set_cons_succ]
            refine wpAnyH_take (i := 2) (oi := { dst := some 83, op := Op.binOp BinOp.neq 3 (Operand.tmp 82) (Operand.const (Value.int IntKind.i64 80)) 3, type := 4, pos := "law.go:122", after := #[{ on := 1, ground := Ground.data }], guard := none }) (v := ?vkB2) rfl (by kernel_rfl) (by kernel_rfl) (by kernel_rfl) (fun _ _ _ h => h) (Or.inl ⟨by rfl, ?hykB2⟩) hHeld ?_
            case hykB2 => (intro w hSw; (try dsimp only at hSw); go_simp; (try with_reducible rfl))
            try simp only [Act.put, List.setIfInBounds_toArray, List.set_cons_zero, List.set_cons_succ]
            refine wpAnyH_take (i := 3) (oi := { dst := some 84, op := Op.move (Operand.tmp 83), type := 4, pos := "law.go:122", after := #[{ on := 2, ground := Ground.data }], guard := none }) (v := ?vkB3) rfl (by kernel_rfl) (by kernel_rfl) (by kernel_rfl) (fun _ _ _ h => h) (Or.inl ⟨by rfl, ?hykB3⟩) hHeld ?_
            case hykB3 => (intro w hSw; (try dsimp only at hSw); go_simp; (try with_reducible rfl))
            try simp only [Act.put, List.setIfInBounds_toArray, List.set_cons_zero, List.set_cons_succ]
            refine wpAnyH_take (i := 4) (oi := { dst := some 85, op := Op.fieldAddr 30 (Operand.tmp 10) 4, type := 0, pos := "law.go:122", after := #[{ on := 3, ground := Ground.guard }], guard := some (3, false) }) (v := ?vkB4) rfl (by kernel_rfl) (by kernel_rfl) (by kernel_rfl) (fun _ _ _ h => h) (Or.inl ⟨by rfl, ?hykB4⟩) hHeld ?_
            case hykB4 => (intro w hSw; (try dsimp only at hSw); go_simp; (try with_reducible rfl))
            try simp only [Act.put, List.setIfInBounds_toArray, List.set_cons_zero, List.set_cons_succ]
            refine wpAnyH_take (i := 5) (oi := { dst := some 86, op := Op.load 28 (Operand.tmp 85), type := 28, pos := "law.go:122", after := #[{ on := 4, ground := Ground.data }, { on := 3, ground := Ground.guard }], guard := some (3, false) }) (v := ?vkB5) rfl (by kernel_rfl) (by kernel_rfl) (by kernel_rfl) (fun _ _ _ h => h) (Or.inl ⟨by rfl, ?hykB5⟩) hHeld ?_
            case hykB5 => (intro w hSw; (try dsimp only at hSw); go_simp; (try with_reducible rfl))
            try simp only [Act.put, List.setIfInBounds_toArray, List.set_cons_zero, List.set_cons_succ]
            refine wpAnyH_take (i := 7) (oi := { dst := some 88, op := Op.move (Operand.tmp 5), type := 42, pos := "law.go:122", after := #[{ on := 3, ground := Ground.guard }], guard := some (3, false) }) (v := ?vkB7) rfl (by kernel_rfl) (by kernel_rfl) (by kernel_rfl) (fun _ _ _ h => h) (Or.inl ⟨by rfl, ?hykB7⟩) hHeld ?_
            case hykB7 => (intro w hSw; (try dsimp only at hSw); go_simp; (try with_reducible rfl))
            try simp only [Act.put, List.setIfInBounds_toArray, List.set_cons_zero, List.set_cons_succ]
            refine wpAnyH_take (i := 8) (oi := { dst := some 89, op := Op.move (Operand.tmp 9), type := 3, pos := "law.go:122", after := #[{ on := 3, ground := Ground.guard }], guard := some (3, false) }) (v := ?vkB8) rfl (by kernel_rfl) (by kernel_rfl) (by kernel_rfl) (fun _ _ _ h => h) (Or.inl ⟨by rfl, ?hykB8⟩) hHeld ?_
            case hykB8 => (intro w hSw; (try dsimp only at hSw); go_simp; (try with_reducible rfl))
            try simp only [Act.put, List.setIfInBounds_toArray, List.set_cons_zero, List.set_cons_succ]
            refine wpAnyH_take (i := 9) (oi := { dst := some 90, op := Op.indexAddr 42 (Operand.tmp 88) (Operand.tmp 89), type := 0, pos := "law.go:122", after := #[{ on := 7, ground := Ground.data }, { on := 8, ground := Ground.data }, { on := 3, ground := Ground.guard }], guard := some (3, false) }) (v := ?vkB9) rfl (by kernel_rfl) (by kernel_rfl) (by kernel_rfl) (fun _ _ _ h => h) (Or.inl ⟨by rfl, ?hykB9⟩) hHeld ?_
            case hykB9 => (intro w hSw; (try dsimp only at hSw); go_simp; (try with_reducible rfl))
            try simp only [Act.put, List.setIfInBounds_toArray, List.set_cons_zero, List.set_cons_succ]
            refine wpAnyH_take (i := 10) (oi := { dst := some 91, op := Op.load 3 (Operand.tmp 90), type := 3, pos := "law.go:122", after := #[{ on := 9, ground := Ground.data }, { on := 3, ground := Ground.guard }], guard := some (3, false) }) (v := ?vkB10) rfl (by kernel_rfl) (by kernel_rfl) (by kernel_rfl) (fun _ _ _ h => h) (Or.inl ⟨by rfl, ?hykB10⟩) hHeld ?_
            case hykB10 => (intro w hSw; (try dsimp only at hSw); go_simp; (try with_reducible rfl))
            try simp only [Act.put, List.setIfInBounds_toArray, List.set_cons_zero, List.set_cons_succ]
            refine wpAnyH_ready (rs := [6]) (by kernel_rfl) (by simp) ?_
            refine AllReadyH.cons (o := { dst := some 87, op := Op.call { callee := Callee.value (Operand.func 18), args := #[Operand.tmp 86], argTypes := #[28] }, type := 3, pos := "law.go:122", after := #[{ on := 5, ground := Ground.data }, { on := 3, ground := Ground.chain }, { on := 3, ground := Ground.guard }], guard := some (3, false) }) rfl (fun K hK => ?_) AllReadyH.nil
            go_simp
            refine (HIc.out _).mono ?_
            rintro e V ⟨rfl, rfl⟩
            clear hHeld
            refine hK.out _ _ ?_ (fun hHeld => ?_)
            · exact ⟨b0, b7, tr⟩
            clear hK K
            try simp only [Act.put, List.setIfInBounds_toArray, List.set_cons_zero, List.set_cons_succ]
            refine wpAnyH_take (i := 11) (oi := { dst := some 92, op := Op.binOp BinOp.neq 3 (Operand.tmp 87) (Operand.tmp 91) 3, type := 4, pos := "law.go:122", after := #[{ on := 6, ground := Ground.data }, { on := 10, ground := Ground.data }, { on := 3, ground := Ground.guard }], guard := some (3, false) }) (v := ?vkB11) rfl (by kernel_rfl) (by kernel_rfl) (by kernel_rfl) (fun _ _ _ h => h) (Or.inl ⟨by rfl, ?hykB11⟩) hHeld ?_
            case hykB11 => (intro w hSw; (try dsimp only at hSw); go_simp; (try with_reducible rfl))
            try simp only [Act.put, List.setIfInBounds_toArray, List.set_cons_zero, List.set_cons_succ]
            refine wpAnyH_take (i := 12) (oi := { dst := some 93, op := Op.pick (Operand.tmp 84) (Operand.const (Value.bool true)) (Operand.tmp 92), type := 4, pos := "law.go:122", after := #[{ on := 3, ground := Ground.data }, { on := 11, ground := Ground.data }], guard := none }) (v := ?vkB12) rfl (by kernel_rfl) (by kernel_rfl) (by kernel_rfl) (fun _ _ _ h => h) (Or.inl ⟨by rfl, ?hykB12⟩) hHeld ?_
            case hykB12 => (intro w hSw; (try dsimp only at hSw); go_simp; (try with_reducible rfl))
            try simp only [Act.put, List.setIfInBounds_toArray, List.set_cons_zero, List.set_cons_succ]
            refine wpAnyH_done (by kernel_rfl) ?_ _
            clear hHeld HIc tr b0 b1 b2 b3 b4 b5 b6 b7 b8 b9 b10 b11 b12 bf
            go_wp2_with fail
            go_roundw
            case rel => exact ⟨t + 1, by go_num, by omega, Lib.hid ⟨s, HEnd.out.drew⟩⟩
            case measure => simp [intOf]; omega
    · obtain rfl : t = ln + 2 := by omega
      obtain ⟨s0, hD⟩ := HDr.out
      have HBz := Lib.hid (belowOn HB3.out hD.old)
      have htl : ¬ (((ln + 2 : Nat) : Int)) < (ln : Int) + 2 := by omega
      clear hD HDr
      go_wp2_with fail
      go_ret
      exact ⟨rfl, HBz.out⟩
end Go.Proofs.YtgjbabndpmkccaaDoor
