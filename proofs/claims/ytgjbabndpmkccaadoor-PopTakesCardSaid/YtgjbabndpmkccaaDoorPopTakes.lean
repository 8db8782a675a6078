/- PopTakes answers true: taking the first cell off a list of two or more leaves the list of the others, and changes nothing but free; of a list of one nothing is changed, and it is told. -/
import Derived.Test.YtgjbabndpmkccaaDoorPopAwake
import Derived.Test.YtgjbabndpmkccaaDoorPopTakeP
namespace Go.Proofs.YtgjbabndpmkccaaDoor
open Go Go.RowKit
set_option maxRecDepth 100000
attribute [local go_sem ↓] Go.wp_at_zero Go.wp_at_succ

set_option maxHeartbeats 6400000 in
theorem takes_any (a b c d : Int) (v0 : Option Addr) (n c0 : Nat) (f : Nat → Int) (w : World) (hS : SpansAt w) (hG : Given w v0 n c0 f) :
    Calls Tryd.prog 5 #[.agg #[.int .i64 a, .int .i64 b, .int .i64 c, .int .i64 d], .slice v0 n c0] w fun e w' => e = .returned (.bool true) ∧ Below w.heap.size w w' := by
  have HB0 := Lib.hid (below_new w (.cells #[.int .i64 a, .int .i64 b, .int .i64 c, .int .i64 d] 23))
  have HX0 := Lib.hid (BoxAt.new w a b c d 23)
  have HS := Lib.hid hS; have HG := Lib.hid hG
  clear hS hG
  obtain ⟨x0, x1, x2, x3⟩ := HX0.out
  go_enter Tryd.func5, Tryd.ntmps5
  go_wp2_with fail
  refine (awake_c _ (HS.out.below HB0.out)).mono ?_
  rintro e W1 ⟨rfl, hW⟩
  have HB1 := Lib.hid (belowOn HB0.out hW)
  have HX1 := Lib.hid (HX0.out.below hW)
  clear hW HB0 HX0 x0 x1 x2 x3
  obtain ⟨x0, x1, x2, x3⟩ := HX1.out
  go_wp2_with fail
  by_cases hg : grt a b c d
  · refine (great_yes a b c d hg _).mono ?_
    rintro e W2 ⟨rfl, hW⟩
    have HB2 := Lib.hid (belowOn HB1.out hW)
    clear hW HB1 HX1 x0 x1 x2 x3 hg
    go_wp2_with fail
    go_ret
    exact ⟨rfl, HB2.out⟩
  refine (great_no a b c d hg _).mono ?_
  rintro e W2 ⟨rfl, hW⟩
  have HB2 := Lib.hid (belowOn HB1.out hW)
  have HX2 := Lib.hid (HX1.out.below hW)
  clear hW HB1 HX1 x0 x1 x2 x3 hg
  obtain ⟨x0, x1, x2, x3⟩ := HX2.out
  by_cases hn4 : (400 : Int) < (n : Int)
  · clear HX2 x0 x1 x2 x3
    go_wp2_with fail
    go_ret
    exact ⟨rfl, HB2.out⟩
  go_wp2_with fail
  have HL : Hid (∀ f', (∀ j, U64 (f' j)) → ∀ va c1 W, SpansAt W → WordsAt W va n f' → Calls Tryd.prog 13 #[.agg #[.int .i64 a, .int .i64 b, .int .i64 c, .int .i64 d], .slice va n c1] W (ListPost W (lstR a b c d n f'))) := Lib.hid (fun f' hf va c1 W h1 h2 => list_any a b c d va n c1 f' hf W h1 h2)
  clear hn4
  refine (HL.out f HG.out.2.2.1 v0 c0 W2 (HS.out.below HB2.out) (HG.out.2.1.below HB2.out)).mono ?_
  rintro e W3 ⟨v, rfl, hrow, hW⟩
  cases hr : lstR a b c d n f with
  | none =>
    rw [hr] at hrow
    obtain ⟨a1, q1, rfl, h1, _, _, _⟩ := IntsAt.own hrow
    have HB3 := Lib.hid (belowOn HB2.out hW)
    clear hrow hW h1 HB2 HX2 HL x0 x1 x2 x3 hr
    rw [show ((Option.none : Option (List Nat)).getD []).length = 0 from rfl, show (Option.none : Option (List Nat)).isSome = false from rfl]
    go_wp2_with fail
    go_ret
    exact ⟨rfl, HB3.out⟩
  | some L =>
  rw [hr] at hrow
  obtain ⟨hright, hn, hch, hne⟩ := lstR_some hr
  obtain ⟨i, L', rfl⟩ : ∃ i L', L = i :: L' := by cases L with | nil => exact absurd rfl hne | cons i L' => exact ⟨i, L', rfl⟩
  obtain ⟨a1, q1, rfl, h1, _, ha1, hcap⟩ := IntsAt.own (L := i :: L') hrow
  obtain ⟨u, hu, hu6⟩ := word_nat (HG.out.2.2.1 (cdrP b c d i))
  have hC : CfOK ⟨n, a, b, c, d⟩ := ⟨hright, hn⟩
  have ha4 : a ≤ 4096 ∧ 2 ≤ a := by unfold Right at hright; omega
  have hia : (i : Int) < a := by have := hch.2.1; omega
  have hn20 : n ≤ 20000 := by have := hright.prod; unfold Right at hright; omega
  have hn0 : 0 < n := hC.pos
  have HB3 := Lib.hid (belowOn HB2.out hW)
  have HX3 := Lib.hid (HX2.out.below hW)
  have HR3 := Lib.hid h1
  have HS3 := Lib.hid (HS.out.below HB3.out)
  have HW3 := Lib.hid (HG.out.2.1.below HB3.out)
  have HU := Lib.hid HG.out.2.2.1
  have HK := Lib.hid hC
  have HCh := Lib.hid hch
  have HFR : Hid (∀ W, SpansAt W → WordsAt W v0 n f → _) := Lib.hid (fun W h1 h2 => From_right a b c d hright v0 n c0 f hn W h1 h2)
  obtain ⟨g1, rfl⟩ : ∃ g1, a1 = some ⟨g1, 0, none⟩ := by
    rcases ha1 with e | ⟨g1, e⟩
    · rw [e] at h1; rcases h1 with h | ⟨_, _, h, _⟩
      · cases h
      · cases h
    · exact ⟨g1, e⟩
  obtain ⟨ln, hln⟩ : ∃ ln, (i :: L').length = ln := ⟨_, rfl⟩
  have HLn := Lib.hid hln
  have hln1 : 1 ≤ ln := by rw [← hln]; simp
  have hl0 : ((ln : Int) == 0) = false := by simp; omega
  have hfu : Hid (f (cdrP b c d i) = (u : Int)) := Lib.hid hu
  have HR0 := Lib.hid hr
  rw [show ((some (i :: L') : Option (List Nat)).isSome) = true from rfl, hln]
  clear hrow hW h1 HB2 HX2 HG HS x0 x1 x2 x3 hright hn hch hne hC ha1 hu hr
  obtain ⟨x0, x1, x2, x3⟩ := HX3.out
  go_wp2_with fail
  refine (HFR.out W3 HS3.out HW3.out).mono ?_
  rintro e W4 ⟨H, A, G, rfl, hH, hb, l1, l2, l3⟩
  have HT := Lib.hid (TkW.first (C := ⟨n, a, b, c, d⟩) (s := ⟨f, 0, 0, 0, 0, 0⟩) hb hH l1 l3 (hM 34 0 0 0 0 0))
  clear hH hb l1 l2 l3 HFR
  go_wp2_with fail
  generalize W4.alloc (.cells #[.int .i64 34, .int .i64 0, .int .i64 0, .int .i64 0, .int .i64 0, .int .u64 0, .int .u64 0, .int .u64 0, .int .u64 0, .int .u64 0, .int .u64 0, .int .i64 0, .int .i64 0] 30) = W5 at *
  generalize W4.heap.size = B at *
  clear x0 x1 x2 x3
  go_loopw [10, 11] (fun lv kv wr => ∃ (k : Nat) (lin : Int) (s : Dy) (m : Mu), kv = .int .i64 k ∧ lv = .int .i64 lin ∧ k ≤ 3 ∧ Hid (TkW W3 wr H A G B ⟨n, a, b, c, d⟩ s m) ∧ Hid (TkSt f i u k lin s m)) (fun _ kv _ => 3 - (intOf kv).toNat)
  case atStart => exact ⟨0, 0, ⟨f, 0, 0, 0, 0, 0⟩, hM 34 0 0 0 0 0, rfl, rfl, by omega, HT, Lib.hid (.inl ⟨rfl, rfl, rfl, rfl⟩)⟩
  case round =>
    clear HT
    obtain ⟨k, lin, s, m, rfl, rfl, hk, HT, HQ⟩ := hrel
    by_cases hgo : k < 3 ∧ 34 ≤ m.l ∧ m.l ≤ 36
    · obtain ⟨hk3, hl34, hl36⟩ := hgo
      obtain ⟨s', m', bo, hstep, hst⟩ := HQ.out.go HK.out hia (HCh.out.1) hfu.out hk3 hl34 hl36
      have hU := HQ.out.U HU.out (by omega) hu6
      have HST : Hid (∀ W, TkW W3 W H A G B ⟨n, a, b, c, d⟩ s m → _) := Lib.hid (fun W h => pop_c (w := W) h.hand hU.1 (HS3.out.below h.old) m hU.2)
      rw [hstep] at HST
      have HQ2 := Lib.hid hst
      have hlin := HQ.out.lin
      clear hstep hst hU HQ
      obtain ⟨l, g1', g2, g3, g4, w1, w2, w3, w4, w5, p1, bk1, rt1⟩ := m
      obtain ⟨l', g1'', g2', g3', g4', w1', w2', w3', w4', w5', p1', bk1', rt1'⟩ := m'
      dsimp only at hl34 hl36 HST
      obtain ⟨b0, b1, b2, b3, b4, b5, b6, b7, b8, b9, b10, b11, b12, bf⟩ := HT.out.mu.cells
      have hkz : (k : Int) < 3 := by omega
      have hw1 : IntKind.i64.wrap (lin + 1) = lin + 1 := IntWalk.i64_in _ (by omega)
      go_wp2_with fail
      refine (HST.out _ HT.out).mono ?_
      rintro e V hp
      obtain ⟨rfl, hT⟩ := HT.out.step hp
      have HT2 := Lib.hid hT
      have hBl : B < V.heap.size := hT.mu.lt
      have hBn : B ≠ V.heap.size := by omega
      clear hp hT HT HST b0 b1 b2 b3 b4 b5 b6 b7 b8 b9 b10 b11 b12 bf
      obtain ⟨b0, b1, b2, b3, b4, b5, b6, b7, b8, b9, b10, b11, b12, bf⟩ := HT2.out.mu.cells
      cases bo
      · go_wp2_with fail
        go_roundw
        case rel => exact ⟨k + 1, lin, s', ⟨l', g1'', g2', g3', g4', w1', w2', w3', w4', w5', p1', bk1', rt1'⟩, by go_num, rfl, by omega, Lib.hid ((HT2.out.put ⟨l', g1'', g2', g3', g4', w1', w2', w3', w4', w5', p1', bk1', rt1'⟩).below (below_new _ _)), Lib.hid (by have := HQ2.out; simpa using this)⟩
        case measure => simp [intOf]; omega
      · go_wp2_with fail
        go_roundw
        case rel => exact ⟨k + 1, lin + 1, s', ⟨l', g1'', g2', g3', g4', w1', w2', w3', w4', w5', p1', bk1', rt1'⟩, by go_num, rfl, by omega, Lib.hid ((HT2.out.put ⟨l', g1'', g2', g3', g4', w1', w2', w3', w4', w5', p1', bk1', rt1'⟩).below (below_new _ _)), Lib.hid (by have := HQ2.out; simpa using this)⟩
        case measure => simp [intOf]; omega
    · obtain ⟨rfl, he⟩ := HQ.out.ends hgo
      clear HQ hgo
      rcases he with ⟨hk2, hsf, rfl, hc⟩ | ⟨hk2, hsf, rfl, hc⟩
      · have hL0 : L' = [] := chain_last (by omega) HCh.out.2.2 hfu.out hc
        subst hL0
        obtain rfl : 1 = ln := HLn.out
        have hkz : (k : Int) < 3 := by omega
        clear hk2 hk
        clear hc
        have HA : Hid (ArenaAt wr A G n f) := Lib.hid (by have := HT.out.hand.ar; rw [hsf] at this; exact this)
        have h0 := HT.out.hand.cells.1
        obtain ⟨b0, b1, b2, b3, b4, b5, b6, b7, b8, b9, b10, b11, b12, bf⟩ := HT.out.mu.cells
        clear hsf
        go_wp2_with fail
        refine (All_c HA.out hn20).mono ?_
        rintro e W6 ⟨rfl, hrow6, hb6⟩
        have HT6 := Lib.hid (HT.out.below hb6)
        have HA6 := Lib.hid hrow6.words
        have HRw := Lib.hid hrow6
        have hZ : W3.heap.size ≤ wr.heap.size := HT.out.old.size
        have hZ2 : H < wr.heap.size ∧ A < wr.heap.size ∧ G < wr.heap.size ∧ B < wr.heap.size := ⟨HT.out.hand.lt, HT.out.hand.ar.lt, HT.out.hand.ar.row.lt, HT.out.mu.lt⟩
        have hZ3 : wr.heap.size < W6.heap.size := hrow6.lt
        generalize wr.heap.size = Z at *
        clear hrow6 hb6 HT HA h0 b0 b1 b2 b3 b4 b5 b6 b7 b8 b9 b10 b11 b12 bf
        obtain ⟨x0, x1, x2, x3⟩ := HX3.out.below HT6.out.old
        go_wp2_with fail
        refine (HL.out f HU.out (some ⟨Z, 0, none⟩) n W6 (HS3.out.below HT6.out.old) HA6.out).mono ?_
        rintro e W7 ⟨v2, rfl, hrow7, hb7⟩
        rw [HR0.out] at hrow7 ⊢
        obtain ⟨a2, q2, rfl, h2, ho2, _, _⟩ := IntsAt.own (L := [i]) hrow7
        have HO2 : Hid (∀ b' off', a2 = some ⟨b', off', none⟩ → b' ≠ Z) := Lib.hid (fun b' off' e => by have := (ho2 b' (by rw [e]; rfl)).1; omega)
        have HT7 := Lib.hid (HT6.out.below hb7)
        have HA7 := Lib.hid (HA6.out.below hb7)
        have HRw7 := Lib.hid (HRw.out.below hb7)
        have HI7 := Lib.hid h2
        have HR7 := Lib.hid (HR3.out.below HT7.out.old)
        rw [show ((some [i] : Option (List Nat)).isSome) = true from rfl, show [i].length = 1 from rfl]
        clear hrow7 h2 ho2 hb7 HT6 HA6 HRw x0 x1 x2 x3
        go_wp2_with fail
        have HIc : Hid (∀ W, Calls Tryd.prog 18 #[.int .u64 (2 * (i : Int) + 1)] W fun e w' => e = .returned (.int .i64 (i : Int)) ∧ W = w') := Lib.hid (fun W => by have := refIsCell_cell (2 * i + 1) (by omega) (by omega) W; rw [show (2 * i + 1) / 2 = i by omega, show ((2 * i + 1 : Nat) : Int) = 2 * (i : Int) + 1 by omega] at this; exact this)
        have hln0 : (0 : Int) < (1 : Int) := by omega
        have s7 := HT7.out.mu.cells.2.2.2.2.2.2.2.1
        have sr : W7.cell? ⟨g1, 0, none⟩ = some (.int .i64 (i : Int)) := by
          obtain ⟨b', off', e, h⟩ := HR7.out.at' (j := 0) (by simp)
          obtain ⟨rfl, rfl⟩ : g1 = b' ∧ 0 = off' := by simpa using e
          exact h
        have hii : ((i : Int) != (i : Int)) = false := by simp
        refine wp_region_held_drew (S := (fun w' => w'.cell? ⟨B, 7, none⟩ = some (.int .u64 (2 * (i : Int) + 1)) ∧ w'.cell? ⟨g1, 0, none⟩ = some (.int .i64 (i : Int)))) (by kernel_rfl) ?_ (fun hHeld => ?_)
        · exact ⟨s7, sr⟩
        refine wpAnyH_take (i := 0) (oi := { dst := some 96, op := Op.move (Operand.tmp 10), type := 3, pos := "law.go:86", after := #[], guard := none }) (v := ?vkA0) rfl (by kernel_rfl) (by kernel_rfl) (by kernel_rfl) (fun _ _ _ h => h) (Or.inl ⟨by rfl, ?hykA0⟩) hHeld ?_
        case hykA0 => (intro w hSw; (try dsimp only at hSw); go_simp; (try with_reducible rfl))
        try simp only [Act.put, List.setIfInBounds_toArray, List.set_cons_zero, List.set_cons_succ]
        refine wpAnyH_take (i := 1) (oi := { dst := some 97, op := Op.binOp BinOp.neq 3 (Operand.tmp 96) (Operand.const (Value.int IntKind.i64 1)) 3, type := 4, pos := "law.go:86", after := #[{ on := 0, ground := Ground.data }], guard := none }) (v := ?vkA1) rfl (by kernel_rfl) (by kernel_rfl) (by kernel_rfl) (fun _ _ _ h => h) (Or.inl ⟨by rfl, ?hykA1⟩) hHeld ?_
        case hykA1 => (intro w hSw; (try dsimp only at hSw); go_simp; (try with_reducible rfl))
        try simp only [Act.put, List.setIfInBounds_toArray, List.set_cons_zero, List.set_cons_succ]
        refine wpAnyH_take (i := 2) (oi := { dst := some 98, op := Op.move (Operand.tmp 97), type := 4, pos := "law.go:86", after := #[{ on := 1, ground := Ground.data }], guard := none }) (v := ?vkA2) rfl (by kernel_rfl) (by kernel_rfl) (by kernel_rfl) (fun _ _ _ h => h) (Or.inl ⟨by rfl, ?hykA2⟩) hHeld ?_
        case hykA2 => (intro w hSw; (try dsimp only at hSw); go_simp; (try with_reducible rfl))
        try simp only [Act.put, List.setIfInBounds_toArray, List.set_cons_zero, List.set_cons_succ]
        refine wpAnyH_take (i := 3) (oi := { dst := some 99, op := Op.move (Operand.tmp 17), type := 4, pos := "law.go:86", after := #[{ on := 2, ground := Ground.guard }], guard := some (2, false) }) (v := ?vkA3) rfl (by kernel_rfl) (by kernel_rfl) (by kernel_rfl) (fun _ _ _ h => h) (Or.inl ⟨by rfl, ?hykA3⟩) hHeld ?_
        case hykA3 => (intro w hSw; (try dsimp only at hSw); go_simp; (try with_reducible rfl))
        try simp only [Act.put, List.setIfInBounds_toArray, List.set_cons_zero, List.set_cons_succ]
        refine wpAnyH_take (i := 4) (oi := { dst := some 100, op := Op.unOp UnOp.not 4 (Operand.tmp 99), type := 4, pos := "law.go:86", after := #[{ on := 3, ground := Ground.data }, { on := 2, ground := Ground.guard }], guard := some (2, false) }) (v := ?vkA4) rfl (by kernel_rfl) (by kernel_rfl) (by kernel_rfl) (fun _ _ _ h => h) (Or.inl ⟨by rfl, ?hykA4⟩) hHeld ?_
        case hykA4 => (intro w hSw; (try dsimp only at hSw); go_simp; (try with_reducible rfl))
        try simp only [Act.put, List.setIfInBounds_toArray, List.set_cons_zero, List.set_cons_succ]
        refine wpAnyH_take (i := 5) (oi := { dst := some 101, op := Op.pick (Operand.tmp 98) (Operand.const (Value.bool true)) (Operand.tmp 100), type := 4, pos := "law.go:86", after := #[{ on := 2, ground := Ground.data }, { on := 4, ground := Ground.data }], guard := none }) (v := ?vkA5) rfl (by kernel_rfl) (by kernel_rfl) (by kernel_rfl) (fun _ _ _ h => h) (Or.inl ⟨by rfl, ?hykA5⟩) hHeld ?_
        case hykA5 => (intro w hSw; (try dsimp only at hSw); go_simp; (try with_reducible rfl))
        try simp only [Act.put, List.setIfInBounds_toArray, List.set_cons_zero, List.set_cons_succ]
        refine wpAnyH_take (i := 6) (oi := { dst := some 102, op := Op.move (Operand.tmp 101), type := 4, pos := "law.go:86", after := #[{ on := 5, ground := Ground.data }, { on := 2, ground := Ground.chain }], guard := none }) (v := ?vkA6) rfl (by kernel_rfl) (by kernel_rfl) (by kernel_rfl) (fun _ _ _ h => h) (Or.inl ⟨by rfl, ?hykA6⟩) hHeld ?_
        case hykA6 => (intro w hSw; (try dsimp only at hSw); go_simp; (try with_reducible rfl))
        try simp only [Act.put, List.setIfInBounds_toArray, List.set_cons_zero, List.set_cons_succ]
        refine wpAnyH_take (i := 7) (oi := { dst := some 103, op := Op.fieldAddr 30 (Operand.tmp 9) 4, type := 0, pos := "law.go:86", after := #[{ on := 6, ground := Ground.guard }], guard := some (6, false) }) (v := ?vkA7) rfl (by kernel_rfl) (by kernel_rfl) (by kernel_rfl) (fun _ _ _ h => h) (Or.inl ⟨by rfl, ?hykA7⟩) hHeld ?_
        case hykA7 => (intro w hSw; (try dsimp only at hSw); go_simp; (try with_reducible rfl))
        try simp only [Act.put, List.setIfInBounds_toArray, List.set_cons_zero, List.set_cons_succ]
        refine wpAnyH_take (i := 8) (oi := { dst := some 104, op := Op.load 28 (Operand.tmp 103), type := 28, pos := "law.go:86", after := #[{ on := 7, ground := Ground.data }, { on := 6, ground := Ground.guard }], guard := some (6, false) }) (v := ?vkA8) rfl (by kernel_rfl) (by kernel_rfl) (by kernel_rfl) (fun _ _ _ h => h) (Or.inl ⟨by rfl, ?hykA8⟩) hHeld ?_
        case hykA8 => (intro w hSw; (try dsimp only at hSw); go_simp; (try with_reducible rfl))
        try simp only [Act.put, List.setIfInBounds_toArray, List.set_cons_zero, List.set_cons_succ]
        refine wpAnyH_take (i := 10) (oi := { dst := some 106, op := Op.move (Operand.tmp 5), type := 42, pos := "law.go:86", after := #[{ on := 6, ground := Ground.guard }], guard := some (6, false) }) (v := ?vkA10) rfl (by kernel_rfl) (by kernel_rfl) (by kernel_rfl) (fun _ _ _ h => h) (Or.inl ⟨by rfl, ?hykA10⟩) hHeld ?_
        case hykA10 => (intro w hSw; (try dsimp only at hSw); go_simp; (try with_reducible rfl))
        try simp only [Act.put, List.setIfInBounds_toArray, List.set_cons_zero, List.set_cons_succ]
        refine wpAnyH_take (i := 11) (oi := { dst := some 107, op := Op.indexAddr 42 (Operand.tmp 106) (Operand.const (Value.int IntKind.i64 0)), type := 0, pos := "law.go:86", after := #[{ on := 10, ground := Ground.data }, { on := 6, ground := Ground.guard }], guard := some (6, false) }) (v := ?vkA11) rfl (by kernel_rfl) (by kernel_rfl) (by kernel_rfl) (fun _ _ _ h => h) (Or.inl ⟨by rfl, ?hykA11⟩) hHeld ?_
        case hykA11 => (intro w hSw; (try dsimp only at hSw); go_simp; (try with_reducible rfl))
        try simp only [Act.put, List.setIfInBounds_toArray, List.set_cons_zero, List.set_cons_succ]
        refine wpAnyH_take (i := 12) (oi := { dst := some 108, op := Op.load 3 (Operand.tmp 107), type := 3, pos := "law.go:86", after := #[{ on := 11, ground := Ground.data }, { on := 6, ground := Ground.guard }], guard := some (6, false) }) (v := ?vkA12) rfl (by kernel_rfl) (by kernel_rfl) (by kernel_rfl) (fun _ _ _ h => h) (Or.inl ⟨by rfl, ?hykA12⟩) hHeld ?_
        case hykA12 => (intro w hSw; (try dsimp only at hSw); go_simp; (try with_reducible rfl))
        try simp only [Act.put, List.setIfInBounds_toArray, List.set_cons_zero, List.set_cons_succ]
        refine wpAnyH_ready (rs := [9]) (by kernel_rfl) (by simp) ?_
        refine AllReadyH.cons (o := { dst := some 105, op := Op.call { callee := Callee.value (Operand.func 18), args := #[Operand.tmp 104], argTypes := #[28] }, type := 3, pos := "law.go:86", after := #[{ on := 8, ground := Ground.data }, { on := 6, ground := Ground.chain }, { on := 6, ground := Ground.guard }], guard := some (6, false) }) rfl (fun K hK => ?_) AllReadyH.nil
        go_simp
        refine (HIc.out _).mono ?_
        rintro e V ⟨rfl, rfl⟩
        clear hHeld
        refine hK.out _ _ ?_ (fun hHeld => ?_)
        · exact ⟨s7, sr⟩
        clear hK K
        try simp only [Act.put, List.setIfInBounds_toArray, List.set_cons_zero, List.set_cons_succ]
        refine wpAnyH_take (i := 13) (oi := { dst := some 109, op := Op.binOp BinOp.neq 3 (Operand.tmp 105) (Operand.tmp 108) 3, type := 4, pos := "law.go:86", after := #[{ on := 9, ground := Ground.data }, { on := 12, ground := Ground.data }, { on := 6, ground := Ground.guard }], guard := some (6, false) }) (v := ?vkA13) rfl (by kernel_rfl) (by kernel_rfl) (by kernel_rfl) (fun _ _ _ h => h) (Or.inl ⟨by rfl, ?hykA13⟩) hHeld ?_
        case hykA13 => (intro w hSw; (try dsimp only at hSw); go_simp; (try with_reducible rfl))
        try simp only [Act.put, List.setIfInBounds_toArray, List.set_cons_zero, List.set_cons_succ]
        refine wpAnyH_take (i := 14) (oi := { dst := some 110, op := Op.pick (Operand.tmp 102) (Operand.const (Value.bool true)) (Operand.tmp 109), type := 4, pos := "law.go:86", after := #[{ on := 6, ground := Ground.data }, { on := 13, ground := Ground.data }], guard := none }) (v := ?vkA14) rfl (by kernel_rfl) (by kernel_rfl) (by kernel_rfl) (fun _ _ _ h => h) (Or.inl ⟨by rfl, ?hykA14⟩) hHeld ?_
        case hykA14 => (intro w hSw; (try dsimp only at hSw); go_simp; (try with_reducible rfl))
        try simp only [Act.put, List.setIfInBounds_toArray, List.set_cons_zero, List.set_cons_succ]
        refine wpAnyH_done (by kernel_rfl) ?_ _
        clear hHeld
        have HT8 : Hid (TkW W3 W7.drew H A G B ⟨n, a, b, c, d⟩ s (hM 41 (2 * (i : Int) + 1) u 0 0 5)) := Lib.hid ⟨HT7.out.old.drew, HT7.out.hand.drew, HT7.out.mu, HT7.out.lo, HT7.out.ne⟩
        have HA8 : Hid (WordsAt W7.drew (some ⟨Z, 0, none⟩) n f) := Lib.hid HA7.out
        have HRw8 : Hid (RowAt W7.drew Z 28 n f) := Lib.hid HRw7.out
        have HI8 : Hid (IntsAt W7.drew a2 [i]) := Lib.hid HI7.out
        have HR8 : Hid (IntsAt W7.drew (some ⟨g1, 0, none⟩) (i :: [])) := Lib.hid HR7.out
        clear HT7 HA7 HRw7 HI7 HR7 s7 sr
        generalize W7.drew = W8 at *
        obtain ⟨b0, b1, b2, b3, b4, b5, b6, b7, b8, b9, b10, b11, b12, bf⟩ := HT8.out.mu.cells
        have HW8 := Lib.hid (HW3.out.below HT8.out.old)
        go_wp2_with fail
        refine (Same_c (some ⟨Z, 0, none⟩) v0 n n c0 f hn20 W8 HA8.out HW8.out).mono ?_
        rintro e W9 ⟨rfl, hW⟩
        have HB9 := Lib.hid (belowOn HB3.out (belowOn HT8.out.old hW))
        clear hW HT8 HA8 HRw8 HI8 HR8 HW8 b0 b1 b2 b3 b4 b5 b6 b7 b8 b9 b10 b11 b12 bf
        go_wp2_with fail
        go_ret
        exact ⟨rfl, HB9.out⟩
      · obtain ⟨j, l, rfl, huj, hja⟩ := chain_more HCh.out.2.2 hfu.out hc
        have HR1 : Hid (lstR a b c d n (upd f 0 (u : Int)) = some (j :: l)) := Lib.hid (by
          unfold lstR; rw [if_pos ⟨HK.out.right, HK.out.size⟩, listF_some]
          refine ⟨?_, by simp⟩
          have h1 := HCh.out.2.2
          rw [show nxF b c d f i = (u : Int) from hfu.out] at h1
          exact chain_taken h1 (fun j hj => (HK.out.cdr (i := j) (by dsimp only; omega)).2.2))
        have HUu : Hid (∀ j, U64 (upd f 0 (u : Int) j)) := Lib.hid (upd_u64 HU.out 0 (by unfold U64; omega))
        obtain ⟨ln', hln'⟩ : ∃ ln', (j :: l).length = ln' := ⟨_, rfl⟩
        have hll : ln = ln' + 1 := by have := HLn.out; simp at this hln'; omega
        have hl1 : 1 ≤ ln' := by rw [← hln']; simp
        have hln2 : ((ln : Int) == 1) = false := by simp; omega
        have hln1' : (1 : Int) < (ln : Int) := by omega
        have hlnN : 0 < ln := by omega
        have hlnN1 : 1 < ln := by omega
        have hln20 : ln' ≤ 20000 := by have := HCh.out.length; have h2 := HLn.out; unfold List.length at h2; simp at h2 this hln'; omega
        have HLL := Lib.hid hll
        have HLn' := Lib.hid hln'
        clear hll hln'
        have hkz : ¬ (k : Int) < 3 := by omega
        clear hk2 hk
        clear hc
        have HA : Hid (ArenaAt wr A G n (upd f 0 (u : Int))) := Lib.hid (by have := HT.out.hand.ar; rw [hsf] at this; exact this)
        have h0 := HT.out.hand.cells.1
        obtain ⟨b0, b1, b2, b3, b4, b5, b6, b7, b8, b9, b10, b11, b12, bf⟩ := HT.out.mu.cells
        clear hsf
        go_wp2_with fail
        refine (All_c HA.out hn20).mono ?_
        rintro e W6 ⟨rfl, hrow6, hb6⟩
        have HT6 := Lib.hid (HT.out.below hb6)
        have HA6 := Lib.hid hrow6.words
        have HRw := Lib.hid hrow6
        have hZ : W3.heap.size ≤ wr.heap.size := HT.out.old.size
        have hZ2 : H < wr.heap.size ∧ A < wr.heap.size ∧ G < wr.heap.size ∧ B < wr.heap.size := ⟨HT.out.hand.lt, HT.out.hand.ar.lt, HT.out.hand.ar.row.lt, HT.out.mu.lt⟩
        have hZ3 : wr.heap.size < W6.heap.size := hrow6.lt
        generalize wr.heap.size = Z at *
        clear hrow6 hb6 HT HA h0 b0 b1 b2 b3 b4 b5 b6 b7 b8 b9 b10 b11 b12 bf
        obtain ⟨x0, x1, x2, x3⟩ := HX3.out.below HT6.out.old
        go_wp2_with fail
        refine (HL.out (upd f 0 (u : Int)) HUu.out (some ⟨Z, 0, none⟩) n W6 (HS3.out.below HT6.out.old) HA6.out).mono ?_
        rintro e W7 ⟨v2, rfl, hrow7, hb7⟩
        rw [HR1.out] at hrow7 ⊢
        obtain ⟨a2, q2, rfl, h2, ho2, _, _⟩ := IntsAt.own (L := (j :: l)) hrow7
        have HO2 : Hid (∀ b' off', a2 = some ⟨b', off', none⟩ → b' ≠ Z) := Lib.hid (fun b' off' e => by have := (ho2 b' (by rw [e]; rfl)).1; omega)
        have HT7 := Lib.hid (HT6.out.below hb7)
        have HA7 := Lib.hid (HA6.out.below hb7)
        have HRw7 := Lib.hid (HRw.out.below hb7)
        have HI7 := Lib.hid h2
        have HR7 := Lib.hid (HR3.out.below HT7.out.old)
        rw [show ((some (j :: l) : Option (List Nat)).isSome) = true from rfl, show (j :: l).length = ln' from HLn'.out]
        clear hrow7 h2 ho2 hb7 HT6 HA6 HRw x0 x1 x2 x3
        go_wp2_with fail
        have HIc : Hid (∀ W, Calls Tryd.prog 18 #[.int .u64 (2 * (i : Int) + 1)] W fun e w' => e = .returned (.int .i64 (i : Int)) ∧ W = w') := Lib.hid (fun W => by have := refIsCell_cell (2 * i + 1) (by omega) (by omega) W; rw [show (2 * i + 1) / 2 = i by omega, show ((2 * i + 1 : Nat) : Int) = 2 * (i : Int) + 1 by omega] at this; exact this)
        have hln0 : (0 : Int) < (ln : Int) := by omega
        have s7 := HT7.out.mu.cells.2.2.2.2.2.2.2.1
        have sr : W7.cell? ⟨g1, 0, none⟩ = some (.int .i64 (i : Int)) := by
          obtain ⟨b', off', e, h⟩ := HR7.out.at' (j := 0) (by simp)
          obtain ⟨rfl, rfl⟩ : g1 = b' ∧ 0 = off' := by simpa using e
          exact h
        have hii : ((i : Int) != (i : Int)) = false := by simp
        refine wp_region_held_drew (S := (fun w' => w'.cell? ⟨B, 7, none⟩ = some (.int .u64 (2 * (i : Int) + 1)) ∧ w'.cell? ⟨g1, 0, none⟩ = some (.int .i64 (i : Int)))) (by kernel_rfl) ?_ (fun hHeld => ?_)
        · exact ⟨s7, sr⟩
        refine wpAnyH_take (i := 0) (oi := { dst := some 96, op := Op.move (Operand.tmp 10), type := 3, pos := "law.go:86", after := #[], guard := none }) (v := ?vkB0) rfl (by kernel_rfl) (by kernel_rfl) (by kernel_rfl) (fun _ _ _ h => h) (Or.inl ⟨by rfl, ?hykB0⟩) hHeld ?_
        case hykB0 => (intro w hSw; (try dsimp only at hSw); go_simp; (try with_reducible rfl))
        try simp only [Act.put, List.setIfInBounds_toArray, List.set_cons_zero, List.set_cons_succ]
        refine wpAnyH_take (i := 1) (oi := { dst := some 97, op := Op.binOp BinOp.neq 3 (Operand.tmp 96) (Operand.const (Value.int IntKind.i64 1)) 3, type := 4, pos := "law.go:86", after := #[{ on := 0, ground := Ground.data }], guard := none }) (v := ?vkB1) rfl (by kernel_rfl) (by kernel_rfl) (by kernel_rfl) (fun _ _ _ h => h) (Or.inl ⟨by rfl, ?hykB1⟩) hHeld ?_
        case hykB1 => (intro w hSw; (try dsimp only at hSw); go_simp; (try with_reducible rfl))
        try simp only [Act.put, List.setIfInBounds_toArray, List.set_cons_zero, List.set_cons_succ]
        refine wpAnyH_take (i := 2) (oi := { dst := some 98, op := Op.move (Operand.tmp 97), type := 4, pos := "law.go:86", after := #[{ on := 1, ground := Ground.data }], guard := none }) (v := ?vkB2) rfl (by kernel_rfl) (by kernel_rfl) (by kernel_rfl) (fun _ _ _ h => h) (Or.inl ⟨by rfl, ?hykB2⟩) hHeld ?_
        case hykB2 => (intro w hSw; (try dsimp only at hSw); go_simp; (try with_reducible rfl))
        try simp only [Act.put, List.setIfInBounds_toArray, List.set_cons_zero, List.set_cons_succ]
        refine wpAnyH_take (i := 3) (oi := { dst := some 99, op := Op.move (Operand.tmp 17), type := 4, pos := "law.go:86", after := #[{ on := 2, ground := Ground.guard }], guard := some (2, false) }) (v := ?vkB3) rfl (by kernel_rfl) (by kernel_rfl) (by kernel_rfl) (fun _ _ _ h => h) (Or.inl ⟨by rfl, ?hykB3⟩) hHeld ?_
        case hykB3 => (intro w hSw; (try dsimp only at hSw); go_simp; (try with_reducible rfl))
        try simp only [Act.put, List.setIfInBounds_toArray, List.set_cons_zero, List.set_cons_succ]
        refine wpAnyH_take (i := 4) (oi := { dst := some 100, op := Op.unOp UnOp.not 4 (Operand.tmp 99), type := 4, pos := "law.go:86", after := #[{ on := 3, ground := Ground.data }, { on := 2, ground := Ground.guard }], guard := some (2, false) }) (v := ?vkB4) rfl (by kernel_rfl) (by kernel_rfl) (by kernel_rfl) (fun _ _ _ h => h) (Or.inl ⟨by rfl, ?hykB4⟩) hHeld ?_
        case hykB4 => (intro w hSw; (try dsimp only at hSw); go_simp; (try with_reducible rfl))
        try simp only [Act.put, List.setIfInBounds_toArray, List.set_cons_zero, List.set_cons_succ]
        refine wpAnyH_take (i := 5) (oi := { dst := some 101, op := Op.pick (Operand.tmp 98) (Operand.const (Value.bool true)) (Operand.tmp 100), type := 4, pos := "law.go:86", after := #[{ on := 2, ground := Ground.data }, { on := 4, ground := Ground.data }], guard := none }) (v := ?vkB5) rfl (by kernel_rfl) (by kernel_rfl) (by kernel_rfl) (fun _ _ _ h => h) (Or.inl ⟨by rfl, ?hykB5⟩) hHeld ?_
        case hykB5 => (intro w hSw; (try dsimp only at hSw); go_simp; (try with_reducible rfl))
        try simp only [Act.put, List.setIfInBounds_toArray, List.set_cons_zero, List.set_cons_succ]
        refine wpAnyH_take (i := 6) (oi := { dst := some 102, op := Op.move (Operand.tmp 101), type := 4, pos := "law.go:86", after := #[{ on := 5, ground := Ground.data }, { on := 2, ground := Ground.chain }], guard := none }) (v := ?vkB6) rfl (by kernel_rfl) (by kernel_rfl) (by kernel_rfl) (fun _ _ _ h => h) (Or.inl ⟨by rfl, ?hykB6⟩) hHeld ?_
        case hykB6 => (intro w hSw; (try dsimp only at hSw); go_simp; (try with_reducible rfl))
        try simp only [Act.put, List.setIfInBounds_toArray, List.set_cons_zero, List.set_cons_succ]
        refine wpAnyH_take (i := 7) (oi := { dst := some 103, op := Op.fieldAddr 30 (Operand.tmp 9) 4, type := 0, pos := "law.go:86", after := #[{ on := 6, ground := Ground.guard }], guard := some (6, false) }) (v := ?vkB7) rfl (by kernel_rfl) (by kernel_rfl) (by kernel_rfl) (fun _ _ _ h => h) (Or.inl ⟨by rfl, ?hykB7⟩) hHeld ?_
        case hykB7 => (intro w hSw; (try dsimp only at hSw); go_simp; (try with_reducible rfl))
        try simp only [Act.put, List.setIfInBounds_toArray, List.set_cons_zero, List.set_cons_succ]
        refine wpAnyH_take (i := 8) (oi := { dst := some 104, op := Op.load 28 (Operand.tmp 103), type := 28, pos := "law.go:86", after := #[{ on := 7, ground := Ground.data }, { on := 6, ground := Ground.guard }], guard := some (6, false) }) (v := ?vkB8) rfl (by kernel_rfl) (by kernel_rfl) (by kernel_rfl) (fun _ _ _ h => h) (Or.inl ⟨by rfl, ?hykB8⟩) hHeld ?_
        case hykB8 => (intro w hSw; (try dsimp only at hSw); go_simp; (try with_reducible rfl))
        try simp only [Act.put, List.setIfInBounds_toArray, List.set_cons_zero, List.set_cons_succ]
        refine wpAnyH_take (i := 10) (oi := { dst := some 106, op := Op.move (Operand.tmp 5), type := 42, pos := "law.go:86", after := #[{ on := 6, ground := Ground.guard }], guard := some (6, false) }) (v := ?vkB10) rfl (by kernel_rfl) (by kernel_rfl) (by kernel_rfl) (fun _ _ _ h => h) (Or.inl ⟨by rfl, ?hykB10⟩) hHeld ?_
        case hykB10 => (intro w hSw; (try dsimp only at hSw); go_simp; (try with_reducible rfl))
        try simp only [Act.put, List.setIfInBounds_toArray, List.set_cons_zero, List.set_cons_succ]
        refine wpAnyH_take (i := 11) (oi := { dst := some 107, op := Op.indexAddr 42 (Operand.tmp 106) (Operand.const (Value.int IntKind.i64 0)), type := 0, pos := "law.go:86", after := #[{ on := 10, ground := Ground.data }, { on := 6, ground := Ground.guard }], guard := some (6, false) }) (v := ?vkB11) rfl (by kernel_rfl) (by kernel_rfl) (by kernel_rfl) (fun _ _ _ h => h) (Or.inl ⟨by rfl, ?hykB11⟩) hHeld ?_
        case hykB11 => (intro w hSw; (try dsimp only at hSw); go_simp; (try with_reducible rfl))
        try simp only [Act.put, List.setIfInBounds_toArray, List.set_cons_zero, List.set_cons_succ]
        refine wpAnyH_take (i := 12) (oi := { dst := some 108, op := Op.load 3 (Operand.tmp 107), type := 3, pos := "law.go:86", after := #[{ on := 11, ground := Ground.data }, { on := 6, ground := Ground.guard }], guard := some (6, false) }) (v := ?vkB12) rfl (by kernel_rfl) (by kernel_rfl) (by kernel_rfl) (fun _ _ _ h => h) (Or.inl ⟨by rfl, ?hykB12⟩) hHeld ?_
        case hykB12 => (intro w hSw; (try dsimp only at hSw); go_simp; (try with_reducible rfl))
        try simp only [Act.put, List.setIfInBounds_toArray, List.set_cons_zero, List.set_cons_succ]
        refine wpAnyH_ready (rs := [9]) (by kernel_rfl) (by simp) ?_
        refine AllReadyH.cons (o := { dst := some 105, op := Op.call { callee := Callee.value (Operand.func 18), args := #[Operand.tmp 104], argTypes := #[28] }, type := 3, pos := "law.go:86", after := #[{ on := 8, ground := Ground.data }, { on := 6, ground := Ground.chain }, { on := 6, ground := Ground.guard }], guard := some (6, false) }) rfl (fun K hK => ?_) AllReadyH.nil
        go_simp
        refine (HIc.out _).mono ?_
        rintro e V ⟨rfl, rfl⟩
        clear hHeld
        refine hK.out _ _ ?_ (fun hHeld => ?_)
        · exact ⟨s7, sr⟩
        clear hK K
        try simp only [Act.put, List.setIfInBounds_toArray, List.set_cons_zero, List.set_cons_succ]
        refine wpAnyH_take (i := 13) (oi := { dst := some 109, op := Op.binOp BinOp.neq 3 (Operand.tmp 105) (Operand.tmp 108) 3, type := 4, pos := "law.go:86", after := #[{ on := 9, ground := Ground.data }, { on := 12, ground := Ground.data }, { on := 6, ground := Ground.guard }], guard := some (6, false) }) (v := ?vkB13) rfl (by kernel_rfl) (by kernel_rfl) (by kernel_rfl) (fun _ _ _ h => h) (Or.inl ⟨by rfl, ?hykB13⟩) hHeld ?_
        case hykB13 => (intro w hSw; (try dsimp only at hSw); go_simp; (try with_reducible rfl))
        try simp only [Act.put, List.setIfInBounds_toArray, List.set_cons_zero, List.set_cons_succ]
        refine wpAnyH_take (i := 14) (oi := { dst := some 110, op := Op.pick (Operand.tmp 102) (Operand.const (Value.bool true)) (Operand.tmp 109), type := 4, pos := "law.go:86", after := #[{ on := 6, ground := Ground.data }, { on := 13, ground := Ground.data }], guard := none }) (v := ?vkB14) rfl (by kernel_rfl) (by kernel_rfl) (by kernel_rfl) (fun _ _ _ h => h) (Or.inl ⟨by rfl, ?hykB14⟩) hHeld ?_
        case hykB14 => (intro w hSw; (try dsimp only at hSw); go_simp; (try with_reducible rfl))
        try simp only [Act.put, List.setIfInBounds_toArray, List.set_cons_zero, List.set_cons_succ]
        refine wpAnyH_done (by kernel_rfl) ?_ _
        clear hHeld
        have HT8 : Hid (TkW W3 W7.drew H A G B ⟨n, a, b, c, d⟩ s (hM 80 (2 * (i : Int) + 1) u u 37 0)) := Lib.hid ⟨HT7.out.old.drew, HT7.out.hand.drew, HT7.out.mu, HT7.out.lo, HT7.out.ne⟩
        have HA8 : Hid (WordsAt W7.drew (some ⟨Z, 0, none⟩) n (upd f 0 (u : Int))) := Lib.hid HA7.out
        have HRw8 : Hid (RowAt W7.drew Z 28 n (upd f 0 (u : Int))) := Lib.hid HRw7.out
        have HI8 : Hid (IntsAt W7.drew a2 (j :: l)) := Lib.hid HI7.out
        have HR8 : Hid (IntsAt W7.drew (some ⟨g1, 0, none⟩) (i :: j :: l)) := Lib.hid HR7.out
        clear HT7 HA7 HRw7 HI7 HR7 s7 sr
        generalize W7.drew = W8 at *
        obtain ⟨b0, b1, b2, b3, b4, b5, b6, b7, b8, b9, b10, b11, b12, bf⟩ := HT8.out.mu.cells
        have hnn : (0 : Int) < (n : Int) := by omega
        obtain ⟨bz, off, rfl, hl0c⟩ := (HW3.out.below HT8.out.old).at' hn0
        rw [Nat.add_zero] at hl0c
        have hrc := HRw8.out.cell (j := 0) hn0
        have hrf := HRw8.out.frozen
        go_wp2_with fail
        have HBV : Hid (Below W3.heap.size W3 (W8.setCell ⟨Z, 0, none⟩ (.int .u64 (f 0)))) := Lib.hid (HT8.out.old.setCell (p := ⟨Z, 0, none⟩) hZ _)
        have HAV : Hid (RowAt (W8.setCell ⟨Z, 0, none⟩ (.int .u64 (f 0))) Z 28 n f) := Lib.hid ((HRw8.out.set 0 (f 0)).congr (fun j _ => by unfold upd; by_cases e : j = 0 <;> simp [e]))
        have HIV : Hid (IntsAt (W8.setCell ⟨Z, 0, none⟩ (.int .u64 (f 0))) a2 (j :: l)) := Lib.hid (HI8.out.set HO2.out _)
        have HMV : Hid (MuAt (W8.setCell ⟨Z, 0, none⟩ (.int .u64 (f 0))) B (hM 80 (2 * (i : Int) + 1) u u 37 0)) := Lib.hid (HT8.out.mu.other (Below.heap_setCell _ _ _ _ (by show B ≠ Z; omega)))
        have HRV : Hid (IntsAt (W8.setCell ⟨Z, 0, none⟩ (.int .u64 (f 0))) (some ⟨g1, 0, none⟩) (i :: j :: l)) := Lib.hid (HR3.out.below HBV.out)
        have HSV := Lib.hid (HR3.out.below HBV.out).tail
        have hjlt : j < 4096 := by omega
        clear HT8 HA8 HRw8 HI8 HR8 HR3 hl0c hrc hrf b0 b1 b2 b3 b4 b5 b6 b7 b8 b9 b10 b11 b12 bf
        generalize W8.setCell ⟨Z, 0, none⟩ (.int .u64 (f 0)) = V8 at *
        have HIp : Hid (∀ W, Calls Tryd.prog 18 #[.int .u64 (u : Int)] W fun e w' => e = .returned (.int .i64 (j : Int)) ∧ W = w') := Lib.hid (fun W => by have := refIsCell_cell u (by omega) (by omega) W; rw [show u / 2 = j by omega] at this; exact this)
        have HIn : Hid (∀ c2 W, IntsAt W a2 (j :: l) → IntsAt W (some ⟨g1, 1, none⟩) (j :: l) → Calls Tryd.prog 15 #[.slice a2 ln' q2, .slice (some ⟨g1, 1, none⟩) ln' c2] W fun e w' => e = .returned (.bool true) ∧ Below W.heap.size W w') := Lib.hid (fun c2 W h1 h2 => by have := ints_c (j :: l) (by rw [HLn'.out]; exact hln20) a2 (some ⟨g1, 1, none⟩) q2 c2 W h1 h2; rw [HLn'.out] at this; exact this)
        have hln2' : (2 : Int) ≤ (ln : Int) := by omega
        have t0 := HMV.out.cells.1; have t1 := HMV.out.cells.2.2.2.2.2.2.2.2.2.2.2.1; have t2 := HMV.out.cells.2.2.2.2.2.2.2.2.2.2.1
        have tr : V8.cell? ⟨g1, 1, none⟩ = some (.int .i64 (j : Int)) := by
          obtain ⟨b', off', e, h⟩ := HRV.out.at' (j := 1) (by simp)
          obtain ⟨rfl, rfl⟩ : g1 = b' ∧ 0 = off' := by simpa using e
          exact h
        have hln1I : (1 : Int) ≤ (ln : Int) := by omega
        have hq1 : ¬ q1 = 1 := by have h1 := HLn.out; have h2 := hcap; rw [h1] at h2; omega
        have hlm : ln - 1 = ln' := by have := HLL.out; omega
        clear huj hjlt hcap
        refine wp_region_held_drew (S := (fun w' => w'.cell? ⟨B, 0, none⟩ = some (.int .i64 80) ∧ w'.cell? ⟨B, 11, none⟩ = some (.int .i64 37) ∧ w'.cell? ⟨B, 10, none⟩ = some (.int .u64 (u : Int)) ∧ w'.cell? ⟨g1, 1, none⟩ = some (.int .i64 (j : Int)))) (by kernel_rfl) ?_ (fun hHeld => ?_)
        · exact ⟨t0, t1, t2, tr⟩
        refine wpAnyH_take (i := 0) (oi := { dst := some 137, op := Op.fieldAddr 30 (Operand.tmp 9) 0, type := 0, pos := "law.go:96", after := #[], guard := none }) (v := ?vz0) rfl (by kernel_rfl) (by kernel_rfl) (by kernel_rfl) (fun _ _ _ h => h) (Or.inl ⟨by rfl, ?hyz0⟩) hHeld ?_
        case hyz0 => (intro w hSw; (try dsimp only at hSw); go_simp; (try with_reducible rfl))
        try simp only [Act.put, List.setIfInBounds_toArray, List.set_cons_zero, List.set_cons_succ]
        refine wpAnyH_take (i := 1) (oi := { dst := some 138, op := Op.load 3 (Operand.tmp 137), type := 3, pos := "law.go:96", after := #[{ on := 0, ground := Ground.data }], guard := none }) (v := ?vz1) rfl (by kernel_rfl) (by kernel_rfl) (by kernel_rfl) (fun _ _ _ h => h) (Or.inl ⟨by rfl, ?hyz1⟩) hHeld ?_
        case hyz1 => (intro w hSw; (try dsimp only at hSw); go_simp; (try with_reducible rfl))
        try simp only [Act.put, List.setIfInBounds_toArray, List.set_cons_zero, List.set_cons_succ]
        refine wpAnyH_take (i := 2) (oi := { dst := some 139, op := Op.binOp BinOp.eql 3 (Operand.tmp 138) (Operand.const (Value.int IntKind.i64 80)) 3, type := 4, pos := "law.go:96", after := #[{ on := 1, ground := Ground.data }], guard := none }) (v := ?vz2) rfl (by kernel_rfl) (by kernel_rfl) (by kernel_rfl) (fun _ _ _ h => h) (Or.inl ⟨by rfl, ?hyz2⟩) hHeld ?_
        case hyz2 => (intro w hSw; (try dsimp only at hSw); go_simp; (try with_reducible rfl))
        try simp only [Act.put, List.setIfInBounds_toArray, List.set_cons_zero, List.set_cons_succ]
        refine wpAnyH_take (i := 3) (oi := { dst := some 140, op := Op.move (Operand.tmp 139), type := 4, pos := "law.go:96", after := #[{ on := 2, ground := Ground.data }], guard := none }) (v := ?vz3) rfl (by kernel_rfl) (by kernel_rfl) (by kernel_rfl) (fun _ _ _ h => h) (Or.inl ⟨by rfl, ?hyz3⟩) hHeld ?_
        case hyz3 => (intro w hSw; (try dsimp only at hSw); go_simp; (try with_reducible rfl))
        try simp only [Act.put, List.setIfInBounds_toArray, List.set_cons_zero, List.set_cons_succ]
        refine wpAnyH_take (i := 4) (oi := { dst := some 141, op := Op.fieldAddr 30 (Operand.tmp 9) 8, type := 0, pos := "law.go:96", after := #[{ on := 3, ground := Ground.guard }], guard := some (3, true) }) (v := ?vz4) rfl (by kernel_rfl) (by kernel_rfl) (by kernel_rfl) (fun _ _ _ h => h) (Or.inl ⟨by rfl, ?hyz4⟩) hHeld ?_
        case hyz4 => (intro w hSw; (try dsimp only at hSw); go_simp; (try with_reducible rfl))
        try simp only [Act.put, List.setIfInBounds_toArray, List.set_cons_zero, List.set_cons_succ]
        refine wpAnyH_take (i := 5) (oi := { dst := some 142, op := Op.load 3 (Operand.tmp 141), type := 3, pos := "law.go:96", after := #[{ on := 4, ground := Ground.data }, { on := 3, ground := Ground.guard }], guard := some (3, true) }) (v := ?vz5) rfl (by kernel_rfl) (by kernel_rfl) (by kernel_rfl) (fun _ _ _ h => h) (Or.inl ⟨by rfl, ?hyz5⟩) hHeld ?_
        case hyz5 => (intro w hSw; (try dsimp only at hSw); go_simp; (try with_reducible rfl))
        try simp only [Act.put, List.setIfInBounds_toArray, List.set_cons_zero, List.set_cons_succ]
        refine wpAnyH_take (i := 6) (oi := { dst := some 143, op := Op.binOp BinOp.eql 3 (Operand.tmp 142) (Operand.const (Value.int IntKind.i64 37)) 3, type := 4, pos := "law.go:96", after := #[{ on := 5, ground := Ground.data }, { on := 3, ground := Ground.guard }], guard := some (3, true) }) (v := ?vz6) rfl (by kernel_rfl) (by kernel_rfl) (by kernel_rfl) (fun _ _ _ h => h) (Or.inl ⟨by rfl, ?hyz6⟩) hHeld ?_
        case hyz6 => (intro w hSw; (try dsimp only at hSw); go_simp; (try with_reducible rfl))
        try simp only [Act.put, List.setIfInBounds_toArray, List.set_cons_zero, List.set_cons_succ]
        refine wpAnyH_take (i := 7) (oi := { dst := some 144, op := Op.pick (Operand.tmp 140) (Operand.tmp 143) (Operand.const (Value.bool false)), type := 4, pos := "law.go:96", after := #[{ on := 3, ground := Ground.data }, { on := 6, ground := Ground.data }], guard := none }) (v := ?vz7) rfl (by kernel_rfl) (by kernel_rfl) (by kernel_rfl) (fun _ _ _ h => h) (Or.inl ⟨by rfl, ?hyz7⟩) hHeld ?_
        case hyz7 => (intro w hSw; (try dsimp only at hSw); go_simp; (try with_reducible rfl))
        try simp only [Act.put, List.setIfInBounds_toArray, List.set_cons_zero, List.set_cons_succ]
        refine wpAnyH_take (i := 8) (oi := { dst := some 145, op := Op.move (Operand.tmp 144), type := 4, pos := "law.go:96", after := #[{ on := 7, ground := Ground.data }, { on := 3, ground := Ground.chain }], guard := none }) (v := ?vz8) rfl (by kernel_rfl) (by kernel_rfl) (by kernel_rfl) (fun _ _ _ h => h) (Or.inl ⟨by rfl, ?hyz8⟩) hHeld ?_
        case hyz8 => (intro w hSw; (try dsimp only at hSw); go_simp; (try with_reducible rfl))
        try simp only [Act.put, List.setIfInBounds_toArray, List.set_cons_zero, List.set_cons_succ]
        refine wpAnyH_take (i := 9) (oi := { dst := some 146, op := Op.fieldAddr 30 (Operand.tmp 9) 7, type := 0, pos := "law.go:96", after := #[{ on := 8, ground := Ground.guard }], guard := some (8, true) }) (v := ?vz9) rfl (by kernel_rfl) (by kernel_rfl) (by kernel_rfl) (fun _ _ _ h => h) (Or.inl ⟨by rfl, ?hyz9⟩) hHeld ?_
        case hyz9 => (intro w hSw; (try dsimp only at hSw); go_simp; (try with_reducible rfl))
        try simp only [Act.put, List.setIfInBounds_toArray, List.set_cons_zero, List.set_cons_succ]
        refine wpAnyH_take (i := 10) (oi := { dst := some 147, op := Op.load 28 (Operand.tmp 146), type := 28, pos := "law.go:96", after := #[{ on := 9, ground := Ground.data }, { on := 8, ground := Ground.guard }], guard := some (8, true) }) (v := ?vz10) rfl (by kernel_rfl) (by kernel_rfl) (by kernel_rfl) (fun _ _ _ h => h) (Or.inl ⟨by rfl, ?hyz10⟩) hHeld ?_
        case hyz10 => (intro w hSw; (try dsimp only at hSw); go_simp; (try with_reducible rfl))
        try simp only [Act.put, List.setIfInBounds_toArray, List.set_cons_zero, List.set_cons_succ]
        refine wpAnyH_take (i := 12) (oi := { dst := some 149, op := Op.move (Operand.tmp 5), type := 42, pos := "law.go:96", after := #[{ on := 8, ground := Ground.guard }], guard := some (8, true) }) (v := ?vz12) rfl (by kernel_rfl) (by kernel_rfl) (by kernel_rfl) (fun _ _ _ h => h) (Or.inl ⟨by rfl, ?hyz12⟩) hHeld ?_
        case hyz12 => (intro w hSw; (try dsimp only at hSw); go_simp; (try with_reducible rfl))
        try simp only [Act.put, List.setIfInBounds_toArray, List.set_cons_zero, List.set_cons_succ]
        refine wpAnyH_take (i := 13) (oi := { dst := some 150, op := Op.indexAddr 42 (Operand.tmp 149) (Operand.const (Value.int IntKind.i64 1)), type := 0, pos := "law.go:96", after := #[{ on := 12, ground := Ground.data }, { on := 8, ground := Ground.guard }], guard := some (8, true) }) (v := ?vz13) rfl (by kernel_rfl) (by kernel_rfl) (by kernel_rfl) (fun _ _ _ h => h) (Or.inl ⟨by rfl, ?hyz13⟩) hHeld ?_
        case hyz13 => (intro w hSw; (try dsimp only at hSw); go_simp; (try with_reducible rfl))
        try simp only [Act.put, List.setIfInBounds_toArray, List.set_cons_zero, List.set_cons_succ]
        refine wpAnyH_take (i := 14) (oi := { dst := some 151, op := Op.load 3 (Operand.tmp 150), type := 3, pos := "law.go:96", after := #[{ on := 13, ground := Ground.data }, { on := 8, ground := Ground.guard }], guard := some (8, true) }) (v := ?vz14) rfl (by kernel_rfl) (by kernel_rfl) (by kernel_rfl) (fun _ _ _ h => h) (Or.inl ⟨by rfl, ?hyz14⟩) hHeld ?_
        case hyz14 => (intro w hSw; (try dsimp only at hSw); go_simp; (try with_reducible rfl))
        try simp only [Act.put, List.setIfInBounds_toArray, List.set_cons_zero, List.set_cons_succ]
        refine wpAnyH_ready (rs := [11]) (by kernel_rfl) (by simp) ?_
        refine AllReadyH.cons (o := { dst := some 148, op := Op.call { callee := Callee.value (Operand.func 18), args := #[Operand.tmp 147], argTypes := #[28] }, type := 3, pos := "law.go:96", after := #[{ on := 10, ground := Ground.data }, { on := 8, ground := Ground.chain }, { on := 8, ground := Ground.guard }], guard := some (8, true) }) rfl (fun K hK => ?_) AllReadyH.nil
        go_simp
        refine (HIp.out _).mono ?_
        rintro e V ⟨rfl, rfl⟩
        clear hHeld
        refine hK.out _ _ ?_ (fun hHeld => ?_)
        · exact ⟨t0, t1, t2, tr⟩
        clear hK K
        try simp only [Act.put, List.setIfInBounds_toArray, List.set_cons_zero, List.set_cons_succ]
        refine wpAnyH_take (i := 15) (oi := { dst := some 152, op := Op.binOp BinOp.eql 3 (Operand.tmp 148) (Operand.tmp 151) 3, type := 4, pos := "law.go:96", after := #[{ on := 11, ground := Ground.data }, { on := 14, ground := Ground.data }, { on := 8, ground := Ground.guard }], guard := some (8, true) }) (v := ?vz15) rfl (by kernel_rfl) (by kernel_rfl) (by kernel_rfl) (fun _ _ _ h => h) (Or.inl ⟨by rfl, ?hyz15⟩) hHeld ?_
        case hyz15 => (intro w hSw; (try dsimp only at hSw); go_simp; (try with_reducible rfl))
        try simp only [Act.put, List.setIfInBounds_toArray, List.set_cons_zero, List.set_cons_succ]
        refine wpAnyH_take (i := 16) (oi := { dst := some 153, op := Op.pick (Operand.tmp 145) (Operand.tmp 152) (Operand.const (Value.bool false)), type := 4, pos := "law.go:96", after := #[{ on := 8, ground := Ground.data }, { on := 15, ground := Ground.data }], guard := none }) (v := ?vz16) rfl (by kernel_rfl) (by kernel_rfl) (by kernel_rfl) (fun _ _ _ h => h) (Or.inl ⟨by rfl, ?hyz16⟩) hHeld ?_
        case hyz16 => (intro w hSw; (try dsimp only at hSw); go_simp; (try with_reducible rfl))
        try simp only [Act.put, List.setIfInBounds_toArray, List.set_cons_zero, List.set_cons_succ]
        refine wpAnyH_take (i := 17) (oi := { dst := some 154, op := Op.move (Operand.tmp 153), type := 4, pos := "law.go:96", after := #[{ on := 16, ground := Ground.data }, { on := 11, ground := Ground.chain }], guard := none }) (v := ?vz17) rfl (by kernel_rfl) (by kernel_rfl) (by kernel_rfl) (fun _ _ _ h => h) (Or.inl ⟨by rfl, ?hyz17⟩) hHeld ?_
        case hyz17 => (intro w hSw; (try dsimp only at hSw); go_simp; (try with_reducible rfl))
        try simp only [Act.put, List.setIfInBounds_toArray, List.set_cons_zero, List.set_cons_succ]
        refine wpAnyH_take (i := 18) (oi := { dst := some 155, op := Op.move (Operand.tmp 16), type := 42, pos := "law.go:96", after := #[{ on := 17, ground := Ground.guard }], guard := some (17, true) }) (v := ?vz18) rfl (by kernel_rfl) (by kernel_rfl) (by kernel_rfl) (fun _ _ _ h => h) (Or.inl ⟨by rfl, ?hyz18⟩) hHeld ?_
        case hyz18 => (intro w hSw; (try dsimp only at hSw); go_simp; (try with_reducible rfl))
        try simp only [Act.put, List.setIfInBounds_toArray, List.set_cons_zero, List.set_cons_succ]
        refine wpAnyH_take (i := 19) (oi := { dst := some 156, op := Op.move (Operand.tmp 5), type := 42, pos := "law.go:96", after := #[{ on := 17, ground := Ground.guard }], guard := some (17, true) }) (v := ?vz19) rfl (by kernel_rfl) (by kernel_rfl) (by kernel_rfl) (fun _ _ _ h => h) (Or.inl ⟨by rfl, ?hyz19⟩) hHeld ?_
        case hyz19 => (intro w hSw; (try dsimp only at hSw); go_simp; (try with_reducible rfl))
        try simp only [Act.put, List.setIfInBounds_toArray, List.set_cons_zero, List.set_cons_succ]
        refine wpAnyH_take (i := 20) (oi := { dst := some 157, op := Op.slice 42 (Operand.tmp 156) (some (Operand.const (Value.int IntKind.i64 1))) none none, type := 42, pos := "law.go:96", after := #[{ on := 19, ground := Ground.data }, { on := 17, ground := Ground.guard }], guard := some (17, true) }) (v := ?vz20) rfl (by kernel_rfl) (by kernel_rfl) (by kernel_rfl) (fun _ _ _ h => h) (Or.inl ⟨by rfl, ?hyz20⟩) hHeld ?_
        case hyz20 => (intro w hSw; (try dsimp only at hSw); go_simp; (try with_reducible rfl))
        try simp only [Act.put, List.setIfInBounds_toArray, List.set_cons_zero, List.set_cons_succ]
        refine wpAnyH_ready (rs := [21]) (by kernel_rfl) (by simp) ?_
        refine AllReadyH.cons (o := { dst := some 158, op := Op.call { callee := Callee.value (Operand.func 15), args := #[Operand.tmp 155, Operand.tmp 157], argTypes := #[42, 42] }, type := 4, pos := "law.go:96", after := #[{ on := 18, ground := Ground.data }, { on := 20, ground := Ground.data }, { on := 17, ground := Ground.chain }, { on := 17, ground := Ground.guard }], guard := some (17, true) }) rfl (fun K hK => ?_) AllReadyH.nil
        go_simp
        refine (HIn.out _ _ (show IntsAt V8.drew a2 (j :: l) from HIV.out) (show IntsAt V8.drew (some ⟨g1, 1, none⟩) (j :: l) from HSV.out)).mono ?_
        rintro e V9 ⟨rfl, hW⟩
        have HB9 : Hid (Below W3.heap.size W3 V9) := Lib.hid (belowOn HBV.out.drew hW)
        have HA9 := Lib.hid ((show RowAt V8.drew Z 28 n f from HAV.out).below hW)
        have HM9 := Lib.hid ((show MuAt V8.drew B (hM 80 (2 * (i : Int) + 1) u u 37 0) from HMV.out).below hW)
        have hg1 := lt_of_cell (w := V8.drew) tr
        have tr := (hW.cell (p := ⟨g1, 1, none⟩) hg1).trans tr
        clear hW HIn HIV HSV HAV HMV HBV hg1 t0 t1 t2 hHeld
        have t0 := HM9.out.cells.1; have t1 := HM9.out.cells.2.2.2.2.2.2.2.2.2.2.2.1; have t2 := HM9.out.cells.2.2.2.2.2.2.2.2.2.2.1
        refine hK.out _ _ ?_ (fun hHeld => ?_)
        · exact ⟨t0, t1, t2, tr⟩
        clear hK K
        try simp only [Act.put, List.setIfInBounds_toArray, List.set_cons_zero, List.set_cons_succ]
        refine wpAnyH_take (i := 22) (oi := { dst := some 159, op := Op.pick (Operand.tmp 154) (Operand.tmp 158) (Operand.const (Value.bool false)), type := 4, pos := "law.go:96", after := #[{ on := 17, ground := Ground.data }, { on := 21, ground := Ground.data }], guard := none }) (v := ?vz22) rfl (by kernel_rfl) (by kernel_rfl) (by kernel_rfl) (fun _ _ _ h => h) (Or.inl ⟨by rfl, ?hyz22⟩) hHeld ?_
        case hyz22 => (intro w hSw; (try dsimp only at hSw); go_simp; (try with_reducible rfl))
        try simp only [Act.put, List.setIfInBounds_toArray, List.set_cons_zero, List.set_cons_succ]
        refine wpAnyH_take (i := 23) (oi := { dst := some 160, op := Op.move (Operand.tmp 159), type := 4, pos := "law.go:96", after := #[{ on := 22, ground := Ground.data }, { on := 21, ground := Ground.chain }], guard := none }) (v := ?vz23) rfl (by kernel_rfl) (by kernel_rfl) (by kernel_rfl) (fun _ _ _ h => h) (Or.inl ⟨by rfl, ?hyz23⟩) hHeld ?_
        case hyz23 => (intro w hSw; (try dsimp only at hSw); go_simp; (try with_reducible rfl))
        try simp only [Act.put, List.setIfInBounds_toArray, List.set_cons_zero, List.set_cons_succ]
        refine wpAnyH_take (i := 24) (oi := { dst := some 161, op := Op.move (Operand.tmp 15), type := 24, pos := "law.go:96", after := #[{ on := 23, ground := Ground.guard }], guard := some (23, true) }) (v := ?vz24) rfl (by kernel_rfl) (by kernel_rfl) (by kernel_rfl) (fun _ _ _ h => h) (Or.inl ⟨by rfl, ?hyz24⟩) hHeld ?_
        case hyz24 => (intro w hSw; (try dsimp only at hSw); go_simp; (try with_reducible rfl))
        try simp only [Act.put, List.setIfInBounds_toArray, List.set_cons_zero, List.set_cons_succ]
        refine wpAnyH_take (i := 25) (oi := { dst := some 162, op := Op.move (Operand.tmp 1), type := 24, pos := "law.go:96", after := #[{ on := 23, ground := Ground.guard }], guard := some (23, true) }) (v := ?vz25) rfl (by kernel_rfl) (by kernel_rfl) (by kernel_rfl) (fun _ _ _ h => h) (Or.inl ⟨by rfl, ?hyz25⟩) hHeld ?_
        case hyz25 => (intro w hSw; (try dsimp only at hSw); go_simp; (try with_reducible rfl))
        try simp only [Act.put, List.setIfInBounds_toArray, List.set_cons_zero, List.set_cons_succ]
        refine wpAnyH_ready (rs := [26]) (by kernel_rfl) (by simp) ?_
        refine AllReadyH.cons (o := { dst := some 163, op := Op.call { callee := Callee.value (Operand.func 19), args := #[Operand.tmp 161, Operand.tmp 162], argTypes := #[24, 24] }, type := 4, pos := "law.go:96", after := #[{ on := 24, ground := Ground.data }, { on := 25, ground := Ground.data }, { on := 23, ground := Ground.chain }, { on := 23, ground := Ground.guard }], guard := some (23, true) }) rfl (fun K hK => ?_) AllReadyH.nil
        go_simp
        refine (Same_c (some ⟨Z, 0, none⟩) (some ⟨bz, off, none⟩) n n c0 f hn20 V9 HA9.out.words (HW3.out.below HB9.out)).mono ?_
        rintro e V10 ⟨rfl, hW⟩
        have HBz := Lib.hid (belowOn HB3.out (belowOn HB9.out hW))
        have HM10 := Lib.hid (HM9.out.below hW)
        have hg1 := lt_of_cell (w := V9) tr
        have tr := (hW.cell (p := ⟨g1, 1, none⟩) hg1).trans tr
        clear hW HB9 HA9 HM9 hg1 t0 t1 t2 hHeld
        have t0 := HM10.out.cells.1; have t1 := HM10.out.cells.2.2.2.2.2.2.2.2.2.2.2.1; have t2 := HM10.out.cells.2.2.2.2.2.2.2.2.2.2.1
        refine hK.out _ _ ?_ (fun hHeld => ?_)
        · exact ⟨t0, t1, t2, tr⟩
        clear hK K
        try simp only [Act.put, List.setIfInBounds_toArray, List.set_cons_zero, List.set_cons_succ]
        refine wpAnyH_take (i := 27) (oi := { dst := some 164, op := Op.pick (Operand.tmp 160) (Operand.tmp 163) (Operand.const (Value.bool false)), type := 4, pos := "law.go:96", after := #[{ on := 23, ground := Ground.data }, { on := 26, ground := Ground.data }], guard := none }) (v := ?vz27) rfl (by kernel_rfl) (by kernel_rfl) (by kernel_rfl) (fun _ _ _ h => h) (Or.inl ⟨by rfl, ?hyz27⟩) hHeld ?_
        case hyz27 => (intro w hSw; (try dsimp only at hSw); go_simp; (try with_reducible rfl))
        try simp only [Act.put, List.setIfInBounds_toArray, List.set_cons_zero, List.set_cons_succ]
        refine wpAnyH_take (i := 28) (oi := { dst := some 4, op := Op.assign (Operand.tmp 164), type := 4, pos := "law.go:96", after := #[{ on := 27, ground := Ground.data }, { on := 26, ground := Ground.chain }, { on := 0, ground := Ground.phase }, { on := 1, ground := Ground.phase }, { on := 2, ground := Ground.phase }, { on := 3, ground := Ground.phase }, { on := 4, ground := Ground.phase }, { on := 5, ground := Ground.phase }, { on := 6, ground := Ground.phase }, { on := 7, ground := Ground.phase }, { on := 8, ground := Ground.phase }, { on := 9, ground := Ground.phase }, { on := 10, ground := Ground.phase }, { on := 11, ground := Ground.phase }, { on := 12, ground := Ground.phase }, { on := 13, ground := Ground.phase }, { on := 14, ground := Ground.phase }, { on := 15, ground := Ground.phase }, { on := 16, ground := Ground.phase }, { on := 17, ground := Ground.phase }, { on := 18, ground := Ground.phase }, { on := 19, ground := Ground.phase }, { on := 20, ground := Ground.phase }, { on := 21, ground := Ground.phase }, { on := 22, ground := Ground.phase }, { on := 23, ground := Ground.phase }, { on := 24, ground := Ground.phase }, { on := 25, ground := Ground.phase }, { on := 26, ground := Ground.phase }, { on := 27, ground := Ground.phase }], guard := none }) (v := ?vz28) rfl (by kernel_rfl) (by kernel_rfl) (by kernel_rfl) (fun _ _ _ h => h) (Or.inl ⟨by rfl, ?hyz28⟩) hHeld ?_
        case hyz28 => (intro w hSw; (try dsimp only at hSw); go_simp; (try with_reducible rfl))
        try simp only [Act.put, List.setIfInBounds_toArray, List.set_cons_zero, List.set_cons_succ]
        refine wpAnyH_done (by kernel_rfl) ?_ _
        clear hHeld HM10 t0 t1 t2 tr
        go_wp2_with fail
        go_ret
        exact ⟨rfl, HBz.out⟩
end Go.Proofs.YtgjbabndpmkccaaDoor
