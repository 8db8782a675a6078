/- GateGrows answers true, of who hasn't. -/
import Derived.Test.YtpieobegcaeopaaDoorGateGrowsA
namespace Go.Proofs.YtpieobegcaeopaaDoor
open Go Go.RowKit
set_option maxRecDepth 100000
attribute [local go_sem ↓] Go.wp_at_zero Go.wp_at_succ

set_option maxHeartbeats 6400000 in
theorem grows_zero (fr : Nat) (hfr : fr < 18446744073709551616) (wb : Nat) (hwb : wb < 256) (hN0 : wb % 100 = 0) (w : World) (hS : SpansAt w) :
    Calls Tryd.prog 4 #[.int .u64 (fr : Int), .int .u8 (wb : Int)] w fun e w' => e = .returned (.bool true) ∧ Below w.heap.size w w' := by
  have HA := Lib.hid (awake_c w hS)
  have HN := Lib.hid (fun W (h : SpansAt W) => New_yes 2 1 1 0 right0 W h)
  have HS := Lib.hid hS
  have HI : Hid (∀ W, SpansAt W → Calls Tryd.prog 13 #[.agg #[.int .i64 2, .int .i64 1, .int .i64 1, .int .i64 0], .int .i64 0] W fun e w' => e = .returned (.int .i64 5) ∧ Below W.heap.size W w') := Lib.hid (fun W h => In_c 2 1 1 0 0 W h)
  have HBG := Lib.hid (Begin_c 11 0 0 0)
  clear hS
  obtain ⟨N, hN⟩ : ∃ N, N = wb % 100 := ⟨_, rfl⟩
  have hNv : (wb : Int) % 100 = (N : Int) := by omega
  have hN100 : N < 100 := by omega
  have hN0 : N = 0 := by omega
  obtain ⟨st, hst⟩ : ∃ st : Int, st = (fr : Int) % 1152921504606846976 * 4 := ⟨_, rfl⟩
  have hstb : 0 ≤ st ∧ st ≤ 4611686018427387900 := by omega
  have hst4 : st % 4 = 0 := by omega
  have hwr : IntKind.u64.wrap ((fr : Int) % 1152921504606846976 * 4) = st := by rw [← hst, IntKind.wrap_u64]; omega
  clear hN hst
  go_enter Tryd.func4, Tryd.ntmps4
  go_wp2_with fail
  refine HA.out.mono ?_
  rintro e W0 ⟨rfl, hb0⟩
  have HB0 := Lib.hid hb0
  clear hb0 HA
  go_wp2_with fail
  refine (HN.out _ (HS.out.below HB0.out)).mono ?_
  rintro e W1 ⟨n, hn, H, A, G, rfl, hF, hb, l1, l2, l3⟩
  obtain rfl : n = 13 := by omega
  have hsz := HB0.out.size
  have HB1 := Lib.hid (belowOn HB0.out hb)
  have HF1 : Hid (HAt W1 H A G C13 ⟨fstV 2 1 1 0, 0, 0, 0, 0, 0⟩) := Lib.hid hF
  have lH : w.heap.size ≤ H := by omega
  have lG : w.heap.size ≤ G := by omega
  clear hF hb HN hn l1 l2 l3 hsz HB0
  have h0 : W1.cell? ⟨H, 0, none⟩ = some (.pointer (some ⟨A, 0, none⟩)) := HF1.out.cells.1
  have h1 : W1.cell? ⟨H, 1, none⟩ = some (.int .i64 2) := HF1.out.cells.2.1.1
  have h2 : W1.cell? ⟨H, 2, none⟩ = some (.int .i64 1) := HF1.out.cells.2.1.2.1
  have h3 : W1.cell? ⟨H, 3, none⟩ = some (.int .i64 1) := HF1.out.cells.2.1.2.2.1
  have h4 : W1.cell? ⟨H, 4, none⟩ = some (.int .i64 0) := HF1.out.cells.2.1.2.2.2
  go_wp2_with fail
  refine (HI.out _ (HS.out.below HB1.out)).mono ?_
  rintro e W2 ⟨rfl, hb⟩
  have HB2 := Lib.hid (belowOn HB1.out hb); have HF2 := Lib.hid (HF1.out.below hb)
  clear hb HB1 HF1 h0 h1 h2 h3 h4
  have u0 : Dy.U ⟨fstV 2 1 1 0, 0, 0, 0, 0, 0⟩ := fst_u64 right0
  have us : U64 st := by unfold U64; omega
  have HST : Hid (∀ W, HAt W H A G C13 ⟨fstV 2 1 1 0, 0, 0, 0, 0, 0⟩ → Calls Tryd.prog 7 #[.pointer (some ⟨H, 0, none⟩), .int .i64 5, .int .u64 st] W (HP W H A G C13 (Dy.act C13 ⟨fstV 2 1 1 0, 0, 0, 0, 0, 0⟩ 2 5 st 0) (.tuple #[]))) := Lib.hid (fun W h => hStore_c (w := W) h u0 5 st)
  have u1 : (Dy.act C13 ⟨fstV 2 1 1 0, 0, 0, 0, 0, 0⟩ 2 5 st 0).U := u0.act C13 2 5 us u64_zero
  have g5 : (Dy.act C13 ⟨fstV 2 1 1 0, 0, 0, 0, 0, 0⟩ 2 5 st 0).f 5 = st := rfl
  have g1 : (Dy.act C13 ⟨fstV 2 1 1 0, 0, 0, 0, 0, 0⟩ 2 5 st 0).f 1 = 0 := rfl
  generalize (Dy.act C13 ⟨fstV 2 1 1 0, 0, 0, 0, 0, 0⟩ 2 5 st 0) = s1 at *
  clear us u0
  go_wp2_with fail
  refine (HST.out _ HF2.out).mono ?_
  rintro e W3 ⟨rfl, hF, hs⟩
  have HB3 := Lib.hid (hs.old HB2.out lH lG); have HF3 := Lib.hid hF
  clear hF hs HB2 HF2 HST
  subst hN0
  have hNv : (wb : Int) % 100 = 0 := hNv
  have HGR : Hid (GrSt st 0 1 ((0 : Nat) : Int) 0 st s1) := Lib.hid ⟨u1, g5, hstb, by omega, .inl ⟨rfl, rfl, rfl, rfl, by omega, fun _ => g1⟩⟩
  clear u1 g5 g1
  go_wp2_with fail
  refine (HBG.out _).mono ?_
  rintro e W5 ⟨rfl, hb⟩
  have HQ := Lib.hid (GwAt.first (belowOn HB3.out hb) lH lG (HF3.out.below hb))
  clear hb HB3 HF3 HBG lH lG
  go_wp2_with fail
  generalize W5.alloc (.cells #[.int .i64 1, .int .i64 11, .int .i64 0, .int .i64 0, .int .i64 0, .int .u64 0, .int .u64 0, .int .u64 0, .int .u64 0, .int .u64 0, .int .u64 0, .int .i64 0, .int .i64 0] 37) = W6 at *
  generalize W5.heap.size = X at *
  go_loopw [8, 10, 11] (fun vn vl vj wr => ∃ (l n : Int) (j : Nat) (la : Int) (s : Dy), vn = .int .i64 n ∧ vl = .int .u64 la ∧ vj = .int .i64 j ∧ Hid (GwAt w wr H A G X l s) ∧ Hid (GrSt st 0 l n j la s)) (fun _ _ vj _ => 301 - (intOf vj).toNat)
  case atStart => exact ⟨1, _, 0, st, _, rfl, rfl, rfl, HQ, HGR⟩
  case round =>
    clear HQ HGR
    obtain ⟨l, n, j, la, s, rfl, rfl, rfl, HQ, HGR⟩ := hrel
    by_cases hl : l = 24
    · subst hl
      obtain ⟨e1, e2, e3, hla, _, _, hsu, h5⟩ := HGR.out.fin
      have hl2 : la % 4 = 2 := by omega
      have hl0 : (la + 2) % 4 = 0 := by omega
      have hend : la + 2 = st + 4 := by have := e2 rfl; omega
      have hla2 : U64 (la + 2) := by unfold U64; omega
      have HSY1 : Hid (∀ W, Calls Tryd.prog 11 #[.int .u64 la] W fun e w' => e = .returned (.int .u64 2) ∧ W = w') := Lib.hid (fun W => by have := Says_c la hla W; rw [hl2] at this; exact this)
      have HSY2 : Hid (∀ W, Calls Tryd.prog 11 #[.int .u64 (st + 4)] W fun e w' => e = .returned (.int .u64 0) ∧ W = w') := Lib.hid (fun W => by have := Says_c (la + 2) hla2 W; rw [hl0, hend] at this; exact this)
      have es : (upd s.f 5 (sumW (s.f 5) 2)) 5 = st + 4 := by rw [upd_at, h5, ← hend]; unfold sumW; unfold U64 at hla2; omega
      have HG : Hid (∀ W, SpansAt W → HAt W H A G C13 s → Calls Tryd.prog 9 #[.pointer (some ⟨H, 0, none⟩), .int .i64 0, (mL 90).v] W (HP W H A G C13 ⟨upd s.f 5 (sumW (s.f 5) 2), 4, 5, 2, 0, s.f 5⟩ (.tuple #[(mL 0).v, .bool true]))) := Lib.hid (fun W k1 k2 => by
        have := gate_c (w := W) k2 hsu k1 0 (mL 90) (by dsimp only; omega)
        rw [gr_90] at this
        exact this)
      have HLD : Hid (∀ W, HAt W H A G C13 ⟨upd s.f 5 (sumW (s.f 5) 2), 4, 5, 2, 0, s.f 5⟩ → Calls Tryd.prog 12 #[.pointer (some ⟨A, 0, none⟩), .int .i64 5] W fun e w' => e = .returned (.int .u64 (st + 4)) ∧ W = w') := Lib.hid (fun W k => by rw [← es]; exact Load_in (HandAt.ar k) 5 (by decide))
      have hw8 : IntKind.u64.wrap (st + 4) = st + 4 := by rw [IntKind.wrap_u64]; omega
      generalize (⟨upd s.f 5 (sumW (s.f 5) 2), 4, 5, 2, 0, s.f 5⟩ : Dy) = s' at *
      
      
      clear HGR e1 e2 e3 hla hsu h5 hl2 hl0 hend hla2 es
      obtain ⟨a0, a1, a2, a3, a4, a5, a6, a7, a8, a9, a10, a11, a12, af⟩ := HQ.out.x.cells
      go_wp2_with fail
      refine (HSY1.out _).mono ?_
      rintro e V ⟨rfl, rfl⟩
      have HQ1 := Lib.hid (HQ.out.setL 90)
      obtain ⟨b0, b1, b2, b3, b4, b5, b6, b7, b8, b9, b10, b11, b12, bf⟩ := HQ1.out.x.cells
      clear HQ HSY1
      go_wp2_with fail
      clear a0 a1 a2 a3 a4 a5 a6 a7 a8 a9 a10 a11 a12 af b0 b1 b2 b3 b4 b5 b6 b7 b8 b9 b10 b11 b12 bf
      refine (HG.out _ (HS.out.below HQ1.out.old) HQ1.out.hand).mono ?_
      rintro e V2 ⟨rfl, hF, hs⟩
      have hq := HQ1.out.act hF hs
      have HQ2 := Lib.hid (hq.below (below_new V2 (.cells #[.int .i64 0, .int .i64 11, .int .i64 0, .int .i64 0, .int .i64 0, .int .u64 0, .int .u64 0, .int .u64 0, .int .u64 0, .int .u64 0, .int .u64 0, .int .i64 0, .int .i64 0] 37)))
      have HY2 : Hid (MuAt (V2.alloc (.cells #[.int .i64 0, .int .i64 11, .int .i64 0, .int .i64 0, .int .i64 0, .int .u64 0, .int .u64 0, .int .u64 0, .int .u64 0, .int .u64 0, .int .u64 0, .int .i64 0, .int .i64 0] 37)) V2.heap.size (mL 0)) := Lib.hid (Mut13.new V2 0 0 0 11 0 0 0 0 0 0 0 0 0)
      clear hF hs hq HQ1 HG
      go_wp2_with fail
      generalize V2.alloc (.cells #[.int .i64 0, .int .i64 11, .int .i64 0, .int .i64 0, .int .i64 0, .int .u64 0, .int .u64 0, .int .u64 0, .int .u64 0, .int .u64 0, .int .u64 0, .int .i64 0, .int .i64 0] 37) = V3 at *
      generalize V2.heap.size = Y at *
      have HQ3 := Lib.hid HQ2.out.drew
      have HY3 : Hid (MuAt V3.drew Y (mL 0)) := Lib.hid HY2.out
      clear HQ2 HY2
      refine wp_region_held_drew (S := (fun w' => w'.cell? ⟨H, 0, none⟩ = some (.pointer (some ⟨A, 0, none⟩)) ∧ w'.cell? ⟨H, 1, none⟩ = some (.int .i64 2) ∧ w'.cell? ⟨H, 2, none⟩ = some (.int .i64 1) ∧ w'.cell? ⟨H, 3, none⟩ = some (.int .i64 1) ∧ w'.cell? ⟨H, 4, none⟩ = some (.int .i64 0))) (by kernel_rfl) ?_ (fun hHeld => ?_)
      · exact ⟨HQ3.out.hand.cells.1, HQ3.out.hand.cells.2.1.1, HQ3.out.hand.cells.2.1.2.1, HQ3.out.hand.cells.2.1.2.2.1, HQ3.out.hand.cells.2.1.2.2.2⟩
      refine wpAnyH_take (i := 0) (oi := { dst := some 109, op := Op.move (Operand.tmp 5), type := 24, pos := "law.go:156", after := #[], guard := none }) (v := ?vex0) rfl (by kernel_rfl) (by kernel_rfl) (by kernel_rfl) (fun _ _ _ h => h) (Or.inl ⟨by rfl, ?hyex0⟩) hHeld ?_
      case hyex0 => (intro w hSw; (try dsimp only at hSw); go_simp; (try with_reducible rfl))
      try simp only [Act.put, List.setIfInBounds_toArray, List.set_cons_zero, List.set_cons_succ]
      refine wpAnyH_take (i := 1) (oi := { dst := some 110, op := Op.nilCheck (Operand.tmp 109), type := 0, pos := "law.go:156", after := #[{ on := 0, ground := Ground.data }], guard := none }) (v := ?vex1) rfl (by kernel_rfl) (by kernel_rfl) (by kernel_rfl) (fun _ _ _ h => h) (Or.inl ⟨by rfl, ?hyex1⟩) hHeld ?_
      case hyex1 => (intro w hSw; (try dsimp only at hSw); go_simp; (try with_reducible rfl))
      try simp only [Act.put, List.setIfInBounds_toArray, List.set_cons_zero, List.set_cons_succ]
      refine wpAnyH_take (i := 2) (oi := { dst := some 111, op := Op.fieldAddr 49 (Operand.tmp 110) 0, type := 0, pos := "law.go:156", after := #[{ on := 1, ground := Ground.data }], guard := none }) (v := ?vex2) rfl (by kernel_rfl) (by kernel_rfl) (by kernel_rfl) (fun _ _ _ h => h) (Or.inl ⟨by rfl, ?hyex2⟩) hHeld ?_
      case hyex2 => (intro w hSw; (try dsimp only at hSw); go_simp; (try with_reducible rfl))
      try simp only [Act.put, List.setIfInBounds_toArray, List.set_cons_zero, List.set_cons_succ]
      refine wpAnyH_take (i := 3) (oi := { dst := some 112, op := Op.load 43 (Operand.tmp 111), type := 43, pos := "law.go:156", after := #[{ on := 2, ground := Ground.data }], guard := none }) (v := ?vex3) rfl (by kernel_rfl) (by kernel_rfl) (by kernel_rfl) (fun _ _ _ h => h) (Or.inl ⟨by rfl, ?hyex3⟩) hHeld ?_
      case hyex3 => (intro w hSw; (try dsimp only at hSw); go_simp; (try with_reducible rfl))
      try simp only [Act.put, List.setIfInBounds_toArray, List.set_cons_zero, List.set_cons_succ]
      refine wpAnyH_take (i := 4) (oi := { dst := some 113, op := Op.move (Operand.tmp 5), type := 24, pos := "law.go:156", after := #[], guard := none }) (v := ?vex4) rfl (by kernel_rfl) (by kernel_rfl) (by kernel_rfl) (fun _ _ _ h => h) (Or.inl ⟨by rfl, ?hyex4⟩) hHeld ?_
      case hyex4 => (intro w hSw; (try dsimp only at hSw); go_simp; (try with_reducible rfl))
      try simp only [Act.put, List.setIfInBounds_toArray, List.set_cons_zero, List.set_cons_succ]
      refine wpAnyH_take (i := 5) (oi := { dst := some 114, op := Op.nilCheck (Operand.tmp 113), type := 0, pos := "law.go:156", after := #[{ on := 4, ground := Ground.data }], guard := none }) (v := ?vex5) rfl (by kernel_rfl) (by kernel_rfl) (by kernel_rfl) (fun _ _ _ h => h) (Or.inl ⟨by rfl, ?hyex5⟩) hHeld ?_
      case hyex5 => (intro w hSw; (try dsimp only at hSw); go_simp; (try with_reducible rfl))
      try simp only [Act.put, List.setIfInBounds_toArray, List.set_cons_zero, List.set_cons_succ]
      refine wpAnyH_take (i := 6) (oi := { dst := some 115, op := Op.fieldAddr 49 (Operand.tmp 114) 1, type := 0, pos := "law.go:156", after := #[{ on := 5, ground := Ground.data }], guard := none }) (v := ?vex6) rfl (by kernel_rfl) (by kernel_rfl) (by kernel_rfl) (fun _ _ _ h => h) (Or.inl ⟨by rfl, ?hyex6⟩) hHeld ?_
      case hyex6 => (intro w hSw; (try dsimp only at hSw); go_simp; (try with_reducible rfl))
      try simp only [Act.put, List.setIfInBounds_toArray, List.set_cons_zero, List.set_cons_succ]
      refine wpAnyH_take (i := 7) (oi := { dst := some 116, op := Op.load 45 (Operand.tmp 115), type := 45, pos := "law.go:156", after := #[{ on := 6, ground := Ground.data }], guard := none }) (v := ?vex7) rfl (by kernel_rfl) (by kernel_rfl) (by kernel_rfl) (fun _ _ _ h => h) (Or.inl ⟨by rfl, ?hyex7⟩) hHeld ?_
      case hyex7 => (intro w hSw; (try dsimp only at hSw); go_simp; (try with_reducible rfl))
      try simp only [Act.put, List.setIfInBounds_toArray, List.set_cons_zero, List.set_cons_succ]
      refine wpAnyH_ready (rs := [8]) (by kernel_rfl) (by simp) ?_
      refine AllReadyH.cons (o := { dst := some 117, op := Op.call { callee := Callee.value (Operand.func 13), args := #[Operand.tmp 116, Operand.const (Value.int IntKind.i64 0)], argTypes := #[45, 3] }, type := 3, pos := "law.go:156", after := #[{ on := 7, ground := Ground.data }], guard := none }) rfl (fun K hK => ?_) AllReadyH.nil
      go_simp
      refine (HI.out _ (HS.out.below HQ3.out.old)).mono ?_
      rintro e V5 ⟨rfl, hb5⟩
      have HQ5 := Lib.hid (HQ3.out.below hb5)
      have HY5 := Lib.hid (HY3.out.below hb5)
      clear hb5 HQ3 HY3
      refine hK.out _ _ ?_ (fun hHeld => ?_)
      · exact ⟨HQ5.out.hand.cells.1, HQ5.out.hand.cells.2.1.1, HQ5.out.hand.cells.2.1.2.1, HQ5.out.hand.cells.2.1.2.2.1, HQ5.out.hand.cells.2.1.2.2.2⟩
      clear hK K
      try simp only [Act.put, List.setIfInBounds_toArray, List.set_cons_zero, List.set_cons_succ]
      refine wpAnyH_ready (rs := [9]) (by kernel_rfl) (by simp) ?_
      refine AllReadyH.cons (o := { dst := some 118, op := Op.call { callee := Callee.value (Operand.func 12), args := #[Operand.tmp 112, Operand.tmp 117], argTypes := #[43, 3] }, type := 32, pos := "law.go:156", after := #[{ on := 3, ground := Ground.data }, { on := 8, ground := Ground.data }, { on := 8, ground := Ground.chain }], guard := none }) rfl (fun K hK => ?_) AllReadyH.nil
      go_simp
      refine (HLD.out _ HQ5.out.hand).mono ?_
      rintro e V6 ⟨rfl, rfl⟩
      refine hK.out _ _ ?_ (fun hHeld => ?_)
      · exact ⟨HQ5.out.hand.cells.1, HQ5.out.hand.cells.2.1.1, HQ5.out.hand.cells.2.1.2.1, HQ5.out.hand.cells.2.1.2.2.1, HQ5.out.hand.cells.2.1.2.2.2⟩
      clear hK K
      try simp only [Act.put, List.setIfInBounds_toArray, List.set_cons_zero, List.set_cons_succ]
      refine wpAnyH_take (i := 10) (oi := { dst := some 17, op := Op.assign (Operand.tmp 118), type := 32, pos := "law.go:156", after := #[{ on := 9, ground := Ground.data }, { on := 9, ground := Ground.chain }, { on := 0, ground := Ground.phase }, { on := 1, ground := Ground.phase }, { on := 2, ground := Ground.phase }, { on := 3, ground := Ground.phase }, { on := 4, ground := Ground.phase }, { on := 5, ground := Ground.phase }, { on := 6, ground := Ground.phase }, { on := 7, ground := Ground.phase }, { on := 8, ground := Ground.phase }, { on := 9, ground := Ground.phase }], guard := none }) (v := ?vex10) rfl (by kernel_rfl) (by kernel_rfl) (by kernel_rfl) (fun _ _ _ h => h) (Or.inl ⟨by rfl, ?hyex10⟩) hHeld ?_
      case hyex10 => (intro w hSw; (try dsimp only at hSw); go_simp; (try with_reducible rfl))
      try simp only [Act.put, List.setIfInBounds_toArray, List.set_cons_zero, List.set_cons_succ]
      refine wpAnyH_done (by kernel_rfl) ?_ _
      clear hHeld
      obtain ⟨c0, c1, c2, c3, c4, c5, c6, c7, c8, c9, c10, c11, c12, cf⟩ := HY5.out.cells
      go_wp2_with fail
      refine (HSY2.out _).mono ?_
      rintro e V7 ⟨rfl, rfl⟩
      go_wp2_with fail
      go_ret
      exact ⟨rfl, HQ5.out.old⟩
    · obtain ⟨l', now, s', hg, h5', hG', hle, hn0⟩ := HGR.out.go hl
      have hj := HGR.out.le
      obtain ⟨hnl, hnh, hla⟩ := HGR.out.line
      have HGR2 := Lib.hid hG'
      have hsu := HGR.out.1
      have hnu := hG'.line.2.2
      have HG : Hid (∀ W, SpansAt W → HAt W H A G C13 (grS l n s) → Calls Tryd.prog 9 #[.pointer (some ⟨H, 0, none⟩), .int .i64 0, (mL l).v] W (HP W H A G C13 s' (.tuple #[(mL l').v, .bool true]))) := Lib.hid (fun W k1 k2 => by
        have := gate_c (w := W) k2 (grS_U hsu) k1 0 (mL l) (by dsimp only; omega)
        rw [hg] at this
        exact this)
      have HLD : Hid (∀ W, HAt W H A G C13 s' → Calls Tryd.prog 12 #[.pointer (some ⟨A, 0, none⟩), .int .i64 5] W fun e w' => e = .returned (.int .u64 now) ∧ W = w') := Lib.hid (fun W k => by rw [← h5']; exact Load_in (HandAt.ar k) 5 (by decide))
      have hj3 : ¬ (300 : Int) < (j : Int) := by omega
      have hl24 : (l == 24) = false := by simpa using hl
      have hnow : ¬ now < la := by omega
      have hU2 := hsu.act C13 2 1 u64_zero u64_zero
      clear hG' hg h5' HGR hle
      obtain ⟨a0, a1, a2, a3, a4, a5, a6, a7, a8, a9, a10, a11, a12, af⟩ := HQ.out.x.cells
      by_cases h5 : l = 5
      · subst h5
        have eN : grN 5 n = n - 1 := if_pos rfl
        have hw1 : IntKind.i64.wrap (n - 1) = n - 1 := IntWalk.i64_in _ (by omega)
        rw [eN] at HGR2 hn0
        have hn1 : ¬ n - 1 < -1 := by omega
        by_cases h0 : n - 1 ≤ 0
        · have eS : grS 5 n s = s.act C13 2 1 0 0 := if_pos ⟨rfl, h0⟩
          rw [eS] at HG
          have HST : Hid (∀ W, HAt W H A G C13 s → Calls Tryd.prog 7 #[.pointer (some ⟨H, 0, none⟩), .int .i64 1, .int .u64 0] W (HP W H A G C13 (Dy.act C13 s 2 1 0 0) (.tuple #[]))) := Lib.hid (fun W h => hStore_c (w := W) h hsu 1 0)
          generalize (Dy.act C13 s 2 1 0 0) = s0 at *
          clear eS eN hsu hU2
          go_wp2_with fail
          refine (HST.out _ HQ.out.hand).mono ?_
          rintro e V ⟨rfl, hF, hs⟩
          have HQ1 := Lib.hid (HQ.out.act hF hs)
          clear hF hs HQ HST a0 a1 a2 a3 a4 a5 a6 a7 a8 a9 a10 a11 a12 af
          obtain ⟨a0, a1, a2, a3, a4, a5, a6, a7, a8, a9, a10, a11, a12, af⟩ := HQ1.out.x.cells
          go_wp2_with fail
          refine (HG.out _ (HS.out.below HQ1.out.old) HQ1.out.hand).mono ?_
          rintro e V2 ⟨rfl, hF, hs⟩
          have hq := HQ1.out.act hF hs
          have HQ2 := Lib.hid (hq.below (below_new V2 (.cells #[.int .i64 l', .int .i64 11, .int .i64 0, .int .i64 0, .int .i64 0, .int .u64 0, .int .u64 0, .int .u64 0, .int .u64 0, .int .u64 0, .int .u64 0, .int .i64 0, .int .i64 0] 37)))
          have HY2 : Hid (MuAt (V2.alloc (.cells #[.int .i64 l', .int .i64 11, .int .i64 0, .int .i64 0, .int .i64 0, .int .u64 0, .int .u64 0, .int .u64 0, .int .u64 0, .int .u64 0, .int .u64 0, .int .i64 0, .int .i64 0] 37)) V2.heap.size (mL l')) := Lib.hid (Mut13.new V2 l' 0 0 11 0 0 0 0 0 0 0 0 0)
          have hXY : X < V2.heap.size := hq.x.lt
          clear hF hs hq HQ1 HG a0 a1 a2 a3 a4 a5 a6 a7 a8 a9 a10 a11 a12 af
          go_wp2_with fail
          generalize V2.alloc (.cells #[.int .i64 l', .int .i64 11, .int .i64 0, .int .i64 0, .int .i64 0, .int .u64 0, .int .u64 0, .int .u64 0, .int .u64 0, .int .u64 0, .int .u64 0, .int .i64 0, .int .i64 0] 37) = V3 at *
          generalize V2.heap.size = Y at *
          have HQ3 := Lib.hid HQ2.out.drew
          have HY3 : Hid (MuAt V3.drew Y (mL l')) := Lib.hid HY2.out
          clear HQ2 HY2
          refine wp_region_held_drew (S := (fun w' => w'.cell? ⟨H, 0, none⟩ = some (.pointer (some ⟨A, 0, none⟩)) ∧ w'.cell? ⟨H, 1, none⟩ = some (.int .i64 2) ∧ w'.cell? ⟨H, 2, none⟩ = some (.int .i64 1) ∧ w'.cell? ⟨H, 3, none⟩ = some (.int .i64 1) ∧ w'.cell? ⟨H, 4, none⟩ = some (.int .i64 0))) (by kernel_rfl) ?_ (fun hHeld => ?_)
          · exact ⟨HQ3.out.hand.cells.1, HQ3.out.hand.cells.2.1.1, HQ3.out.hand.cells.2.1.2.1, HQ3.out.hand.cells.2.1.2.2.1, HQ3.out.hand.cells.2.1.2.2.2⟩
          refine wpAnyH_take (i := 0) (oi := { dst := some 76, op := Op.move (Operand.tmp 5), type := 24, pos := "law.go:145", after := #[], guard := none }) (v := ?vqa0) rfl (by kernel_rfl) (by kernel_rfl) (by kernel_rfl) (fun _ _ _ h => h) (Or.inl ⟨by rfl, ?hyqa0⟩) hHeld ?_
          case hyqa0 => (intro w hSw; (try dsimp only at hSw); go_simp; (try with_reducible rfl))
          try simp only [Act.put, List.setIfInBounds_toArray, List.set_cons_zero, List.set_cons_succ]
          refine wpAnyH_take (i := 1) (oi := { dst := some 77, op := Op.nilCheck (Operand.tmp 76), type := 0, pos := "law.go:145", after := #[{ on := 0, ground := Ground.data }], guard := none }) (v := ?vqa1) rfl (by kernel_rfl) (by kernel_rfl) (by kernel_rfl) (fun _ _ _ h => h) (Or.inl ⟨by rfl, ?hyqa1⟩) hHeld ?_
          case hyqa1 => (intro w hSw; (try dsimp only at hSw); go_simp; (try with_reducible rfl))
          try simp only [Act.put, List.setIfInBounds_toArray, List.set_cons_zero, List.set_cons_succ]
          refine wpAnyH_take (i := 2) (oi := { dst := some 78, op := Op.fieldAddr 49 (Operand.tmp 77) 0, type := 0, pos := "law.go:145", after := #[{ on := 1, ground := Ground.data }], guard := none }) (v := ?vqa2) rfl (by kernel_rfl) (by kernel_rfl) (by kernel_rfl) (fun _ _ _ h => h) (Or.inl ⟨by rfl, ?hyqa2⟩) hHeld ?_
          case hyqa2 => (intro w hSw; (try dsimp only at hSw); go_simp; (try with_reducible rfl))
          try simp only [Act.put, List.setIfInBounds_toArray, List.set_cons_zero, List.set_cons_succ]
          refine wpAnyH_take (i := 3) (oi := { dst := some 79, op := Op.load 43 (Operand.tmp 78), type := 43, pos := "law.go:145", after := #[{ on := 2, ground := Ground.data }], guard := none }) (v := ?vqa3) rfl (by kernel_rfl) (by kernel_rfl) (by kernel_rfl) (fun _ _ _ h => h) (Or.inl ⟨by rfl, ?hyqa3⟩) hHeld ?_
          case hyqa3 => (intro w hSw; (try dsimp only at hSw); go_simp; (try with_reducible rfl))
          try simp only [Act.put, List.setIfInBounds_toArray, List.set_cons_zero, List.set_cons_succ]
          refine wpAnyH_take (i := 4) (oi := { dst := some 80, op := Op.move (Operand.tmp 5), type := 24, pos := "law.go:145", after := #[], guard := none }) (v := ?vqa4) rfl (by kernel_rfl) (by kernel_rfl) (by kernel_rfl) (fun _ _ _ h => h) (Or.inl ⟨by rfl, ?hyqa4⟩) hHeld ?_
          case hyqa4 => (intro w hSw; (try dsimp only at hSw); go_simp; (try with_reducible rfl))
          try simp only [Act.put, List.setIfInBounds_toArray, List.set_cons_zero, List.set_cons_succ]
          refine wpAnyH_take (i := 5) (oi := { dst := some 81, op := Op.nilCheck (Operand.tmp 80), type := 0, pos := "law.go:145", after := #[{ on := 4, ground := Ground.data }], guard := none }) (v := ?vqa5) rfl (by kernel_rfl) (by kernel_rfl) (by kernel_rfl) (fun _ _ _ h => h) (Or.inl ⟨by rfl, ?hyqa5⟩) hHeld ?_
          case hyqa5 => (intro w hSw; (try dsimp only at hSw); go_simp; (try with_reducible rfl))
          try simp only [Act.put, List.setIfInBounds_toArray, List.set_cons_zero, List.set_cons_succ]
          refine wpAnyH_take (i := 6) (oi := { dst := some 82, op := Op.fieldAddr 49 (Operand.tmp 81) 1, type := 0, pos := "law.go:145", after := #[{ on := 5, ground := Ground.data }], guard := none }) (v := ?vqa6) rfl (by kernel_rfl) (by kernel_rfl) (by kernel_rfl) (fun _ _ _ h => h) (Or.inl ⟨by rfl, ?hyqa6⟩) hHeld ?_
          case hyqa6 => (intro w hSw; (try dsimp only at hSw); go_simp; (try with_reducible rfl))
          try simp only [Act.put, List.setIfInBounds_toArray, List.set_cons_zero, List.set_cons_succ]
          refine wpAnyH_take (i := 7) (oi := { dst := some 83, op := Op.load 45 (Operand.tmp 82), type := 45, pos := "law.go:145", after := #[{ on := 6, ground := Ground.data }], guard := none }) (v := ?vqa7) rfl (by kernel_rfl) (by kernel_rfl) (by kernel_rfl) (fun _ _ _ h => h) (Or.inl ⟨by rfl, ?hyqa7⟩) hHeld ?_
          case hyqa7 => (intro w hSw; (try dsimp only at hSw); go_simp; (try with_reducible rfl))
          try simp only [Act.put, List.setIfInBounds_toArray, List.set_cons_zero, List.set_cons_succ]
          refine wpAnyH_ready (rs := [8]) (by kernel_rfl) (by simp) ?_
          refine AllReadyH.cons (o := { dst := some 84, op := Op.call { callee := Callee.value (Operand.func 13), args := #[Operand.tmp 83, Operand.const (Value.int IntKind.i64 0)], argTypes := #[45, 3] }, type := 3, pos := "law.go:145", after := #[{ on := 7, ground := Ground.data }], guard := none }) rfl (fun K hK => ?_) AllReadyH.nil
          go_simp
          refine (HI.out _ (HS.out.below HQ3.out.old)).mono ?_
          rintro e V5 ⟨rfl, hb5⟩
          have HQ5 := Lib.hid (HQ3.out.below hb5)
          have HY5 := Lib.hid (HY3.out.below hb5)
          clear hb5 HQ3 HY3
          refine hK.out _ _ ?_ (fun hHeld => ?_)
          · exact ⟨HQ5.out.hand.cells.1, HQ5.out.hand.cells.2.1.1, HQ5.out.hand.cells.2.1.2.1, HQ5.out.hand.cells.2.1.2.2.1, HQ5.out.hand.cells.2.1.2.2.2⟩
          clear hK K
          try simp only [Act.put, List.setIfInBounds_toArray, List.set_cons_zero, List.set_cons_succ]
          refine wpAnyH_ready (rs := [9]) (by kernel_rfl) (by simp) ?_
          refine AllReadyH.cons (o := { dst := some 85, op := Op.call { callee := Callee.value (Operand.func 12), args := #[Operand.tmp 79, Operand.tmp 84], argTypes := #[43, 3] }, type := 32, pos := "law.go:145", after := #[{ on := 3, ground := Ground.data }, { on := 8, ground := Ground.data }, { on := 8, ground := Ground.chain }], guard := none }) rfl (fun K hK => ?_) AllReadyH.nil
          go_simp
          refine (HLD.out _ HQ5.out.hand).mono ?_
          rintro e V6 ⟨rfl, rfl⟩
          refine hK.out _ _ ?_ (fun hHeld => ?_)
          · exact ⟨HQ5.out.hand.cells.1, HQ5.out.hand.cells.2.1.1, HQ5.out.hand.cells.2.1.2.1, HQ5.out.hand.cells.2.1.2.2.1, HQ5.out.hand.cells.2.1.2.2.2⟩
          clear hK K
          try simp only [Act.put, List.setIfInBounds_toArray, List.set_cons_zero, List.set_cons_succ]
          refine wpAnyH_take (i := 10) (oi := { dst := some 14, op := Op.assign (Operand.tmp 85), type := 32, pos := "law.go:145", after := #[{ on := 9, ground := Ground.data }, { on := 9, ground := Ground.chain }, { on := 0, ground := Ground.phase }, { on := 1, ground := Ground.phase }, { on := 2, ground := Ground.phase }, { on := 3, ground := Ground.phase }, { on := 4, ground := Ground.phase }, { on := 5, ground := Ground.phase }, { on := 6, ground := Ground.phase }, { on := 7, ground := Ground.phase }, { on := 8, ground := Ground.phase }, { on := 9, ground := Ground.phase }], guard := none }) (v := ?vqa10) rfl (by kernel_rfl) (by kernel_rfl) (by kernel_rfl) (fun _ _ _ h => h) (Or.inl ⟨by rfl, ?hyqa10⟩) hHeld ?_
          case hyqa10 => (intro w hSw; (try dsimp only at hSw); go_simp; (try with_reducible rfl))
          try simp only [Act.put, List.setIfInBounds_toArray, List.set_cons_zero, List.set_cons_succ]
          refine wpAnyH_done (by kernel_rfl) ?_ _
          clear hHeld
          have HQ6 := Lib.hid (HQ5.out.put l')
          obtain ⟨a0, a1, a2, a3, a4, a5, a6, a7, a8, a9, a10, a11, a12, af⟩ := HQ5.out.x.cells
          obtain ⟨c0, c1, c2, c3, c4, c5, c6, c7, c8, c9, c10, c11, c12, cf⟩ := HY5.out.cells
          clear HQ5 HLD HI
          go_wp2_with fail
          go_roundw
          case rel => exact ⟨l', _, j + 1, now, s', rfl, rfl, by go_num, HQ6, HGR2⟩
          case measure => simp [intOf]; omega
        · have eS : grS 5 n s = s := if_neg (by omega)
          rw [eS] at HG
          clear eS eN hsu hU2
          have HQ1 := HQ
          clear HQ
          go_wp2_with fail
          refine (HG.out _ (HS.out.below HQ1.out.old) HQ1.out.hand).mono ?_
          rintro e V2 ⟨rfl, hF, hs⟩
          have hq := HQ1.out.act hF hs
          have HQ2 := Lib.hid (hq.below (below_new V2 (.cells #[.int .i64 l', .int .i64 11, .int .i64 0, .int .i64 0, .int .i64 0, .int .u64 0, .int .u64 0, .int .u64 0, .int .u64 0, .int .u64 0, .int .u64 0, .int .i64 0, .int .i64 0] 37)))
          have HY2 : Hid (MuAt (V2.alloc (.cells #[.int .i64 l', .int .i64 11, .int .i64 0, .int .i64 0, .int .i64 0, .int .u64 0, .int .u64 0, .int .u64 0, .int .u64 0, .int .u64 0, .int .u64 0, .int .i64 0, .int .i64 0] 37)) V2.heap.size (mL l')) := Lib.hid (Mut13.new V2 l' 0 0 11 0 0 0 0 0 0 0 0 0)
          have hXY : X < V2.heap.size := hq.x.lt
          clear hF hs hq HQ1 HG a0 a1 a2 a3 a4 a5 a6 a7 a8 a9 a10 a11 a12 af
          go_wp2_with fail
          generalize V2.alloc (.cells #[.int .i64 l', .int .i64 11, .int .i64 0, .int .i64 0, .int .i64 0, .int .u64 0, .int .u64 0, .int .u64 0, .int .u64 0, .int .u64 0, .int .u64 0, .int .i64 0, .int .i64 0] 37) = V3 at *
          generalize V2.heap.size = Y at *
          have HQ3 := Lib.hid HQ2.out.drew
          have HY3 : Hid (MuAt V3.drew Y (mL l')) := Lib.hid HY2.out
          clear HQ2 HY2
          refine wp_region_held_drew (S := (fun w' => w'.cell? ⟨H, 0, none⟩ = some (.pointer (some ⟨A, 0, none⟩)) ∧ w'.cell? ⟨H, 1, none⟩ = some (.int .i64 2) ∧ w'.cell? ⟨H, 2, none⟩ = some (.int .i64 1) ∧ w'.cell? ⟨H, 3, none⟩ = some (.int .i64 1) ∧ w'.cell? ⟨H, 4, none⟩ = some (.int .i64 0))) (by kernel_rfl) ?_ (fun hHeld => ?_)
          · exact ⟨HQ3.out.hand.cells.1, HQ3.out.hand.cells.2.1.1, HQ3.out.hand.cells.2.1.2.1, HQ3.out.hand.cells.2.1.2.2.1, HQ3.out.hand.cells.2.1.2.2.2⟩
          refine wpAnyH_take (i := 0) (oi := { dst := some 76, op := Op.move (Operand.tmp 5), type := 24, pos := "law.go:145", after := #[], guard := none }) (v := ?vqb0) rfl (by kernel_rfl) (by kernel_rfl) (by kernel_rfl) (fun _ _ _ h => h) (Or.inl ⟨by rfl, ?hyqb0⟩) hHeld ?_
          case hyqb0 => (intro w hSw; (try dsimp only at hSw); go_simp; (try with_reducible rfl))
          try simp only [Act.put, List.setIfInBounds_toArray, List.set_cons_zero, List.set_cons_succ]
          refine wpAnyH_take (i := 1) (oi := { dst := some 77, op := Op.nilCheck (Operand.tmp 76), type := 0, pos := "law.go:145", after := #[{ on := 0, ground := Ground.data }], guard := none }) (v := ?vqb1) rfl (by kernel_rfl) (by kernel_rfl) (by kernel_rfl) (fun _ _ _ h => h) (Or.inl ⟨by rfl, ?hyqb1⟩) hHeld ?_
          case hyqb1 => (intro w hSw; (try dsimp only at hSw); go_simp; (try with_reducible rfl))
          try simp only [Act.put, List.setIfInBounds_toArray, List.set_cons_zero, List.set_cons_succ]
          refine wpAnyH_take (i := 2) (oi := { dst := some 78, op := Op.fieldAddr 49 (Operand.tmp 77) 0, type := 0, pos := "law.go:145", after := #[{ on := 1, ground := Ground.data }], guard := none }) (v := ?vqb2) rfl (by kernel_rfl) (by kernel_rfl) (by kernel_rfl) (fun _ _ _ h => h) (Or.inl ⟨by rfl, ?hyqb2⟩) hHeld ?_
          case hyqb2 => (intro w hSw; (try dsimp only at hSw); go_simp; (try with_reducible rfl))
          try simp only [Act.put, List.setIfInBounds_toArray, List.set_cons_zero, List.set_cons_succ]
          refine wpAnyH_take (i := 3) (oi := { dst := some 79, op := Op.load 43 (Operand.tmp 78), type := 43, pos := "law.go:145", after := #[{ on := 2, ground := Ground.data }], guard := none }) (v := ?vqb3) rfl (by kernel_rfl) (by kernel_rfl) (by kernel_rfl) (fun _ _ _ h => h) (Or.inl ⟨by rfl, ?hyqb3⟩) hHeld ?_
          case hyqb3 => (intro w hSw; (try dsimp only at hSw); go_simp; (try with_reducible rfl))
          try simp only [Act.put, List.setIfInBounds_toArray, List.set_cons_zero, List.set_cons_succ]
          refine wpAnyH_take (i := 4) (oi := { dst := some 80, op := Op.move (Operand.tmp 5), type := 24, pos := "law.go:145", after := #[], guard := none }) (v := ?vqb4) rfl (by kernel_rfl) (by kernel_rfl) (by kernel_rfl) (fun _ _ _ h => h) (Or.inl ⟨by rfl, ?hyqb4⟩) hHeld ?_
          case hyqb4 => (intro w hSw; (try dsimp only at hSw); go_simp; (try with_reducible rfl))
          try simp only [Act.put, List.setIfInBounds_toArray, List.set_cons_zero, List.set_cons_succ]
          refine wpAnyH_take (i := 5) (oi := { dst := some 81, op := Op.nilCheck (Operand.tmp 80), type := 0, pos := "law.go:145", after := #[{ on := 4, ground := Ground.data }], guard := none }) (v := ?vqb5) rfl (by kernel_rfl) (by kernel_rfl) (by kernel_rfl) (fun _ _ _ h => h) (Or.inl ⟨by rfl, ?hyqb5⟩) hHeld ?_
          case hyqb5 => (intro w hSw; (try dsimp only at hSw); go_simp; (try with_reducible rfl))
          try simp only [Act.put, List.setIfInBounds_toArray, List.set_cons_zero, List.set_cons_succ]
          refine wpAnyH_take (i := 6) (oi := { dst := some 82, op := Op.fieldAddr 49 (Operand.tmp 81) 1, type := 0, pos := "law.go:145", after := #[{ on := 5, ground := Ground.data }], guard := none }) (v := ?vqb6) rfl (by kernel_rfl) (by kernel_rfl) (by kernel_rfl) (fun _ _ _ h => h) (Or.inl ⟨by rfl, ?hyqb6⟩) hHeld ?_
          case hyqb6 => (intro w hSw; (try dsimp only at hSw); go_simp; (try with_reducible rfl))
          try simp only [Act.put, List.setIfInBounds_toArray, List.set_cons_zero, List.set_cons_succ]
          refine wpAnyH_take (i := 7) (oi := { dst := some 83, op := Op.load 45 (Operand.tmp 82), type := 45, pos := "law.go:145", after := #[{ on := 6, ground := Ground.data }], guard := none }) (v := ?vqb7) rfl (by kernel_rfl) (by kernel_rfl) (by kernel_rfl) (fun _ _ _ h => h) (Or.inl ⟨by rfl, ?hyqb7⟩) hHeld ?_
          case hyqb7 => (intro w hSw; (try dsimp only at hSw); go_simp; (try with_reducible rfl))
          try simp only [Act.put, List.setIfInBounds_toArray, List.set_cons_zero, List.set_cons_succ]
          refine wpAnyH_ready (rs := [8]) (by kernel_rfl) (by simp) ?_
          refine AllReadyH.cons (o := { dst := some 84, op := Op.call { callee := Callee.value (Operand.func 13), args := #[Operand.tmp 83, Operand.const (Value.int IntKind.i64 0)], argTypes := #[45, 3] }, type := 3, pos := "law.go:145", after := #[{ on := 7, ground := Ground.data }], guard := none }) rfl (fun K hK => ?_) AllReadyH.nil
          go_simp
          refine (HI.out _ (HS.out.below HQ3.out.old)).mono ?_
          rintro e V5 ⟨rfl, hb5⟩
          have HQ5 := Lib.hid (HQ3.out.below hb5)
          have HY5 := Lib.hid (HY3.out.below hb5)
          clear hb5 HQ3 HY3
          refine hK.out _ _ ?_ (fun hHeld => ?_)
          · exact ⟨HQ5.out.hand.cells.1, HQ5.out.hand.cells.2.1.1, HQ5.out.hand.cells.2.1.2.1, HQ5.out.hand.cells.2.1.2.2.1, HQ5.out.hand.cells.2.1.2.2.2⟩
          clear hK K
          try simp only [Act.put, List.setIfInBounds_toArray, List.set_cons_zero, List.set_cons_succ]
          refine wpAnyH_ready (rs := [9]) (by kernel_rfl) (by simp) ?_
          refine AllReadyH.cons (o := { dst := some 85, op := Op.call { callee := Callee.value (Operand.func 12), args := #[Operand.tmp 79, Operand.tmp 84], argTypes := #[43, 3] }, type := 32, pos := "law.go:145", after := #[{ on := 3, ground := Ground.data }, { on := 8, ground := Ground.data }, { on := 8, ground := Ground.chain }], guard := none }) rfl (fun K hK => ?_) AllReadyH.nil
          go_simp
          refine (HLD.out _ HQ5.out.hand).mono ?_
          rintro e V6 ⟨rfl, rfl⟩
          refine hK.out _ _ ?_ (fun hHeld => ?_)
          · exact ⟨HQ5.out.hand.cells.1, HQ5.out.hand.cells.2.1.1, HQ5.out.hand.cells.2.1.2.1, HQ5.out.hand.cells.2.1.2.2.1, HQ5.out.hand.cells.2.1.2.2.2⟩
          clear hK K
          try simp only [Act.put, List.setIfInBounds_toArray, List.set_cons_zero, List.set_cons_succ]
          refine wpAnyH_take (i := 10) (oi := { dst := some 14, op := Op.assign (Operand.tmp 85), type := 32, pos := "law.go:145", after := #[{ on := 9, ground := Ground.data }, { on := 9, ground := Ground.chain }, { on := 0, ground := Ground.phase }, { on := 1, ground := Ground.phase }, { on := 2, ground := Ground.phase }, { on := 3, ground := Ground.phase }, { on := 4, ground := Ground.phase }, { on := 5, ground := Ground.phase }, { on := 6, ground := Ground.phase }, { on := 7, ground := Ground.phase }, { on := 8, ground := Ground.phase }, { on := 9, ground := Ground.phase }], guard := none }) (v := ?vqb10) rfl (by kernel_rfl) (by kernel_rfl) (by kernel_rfl) (fun _ _ _ h => h) (Or.inl ⟨by rfl, ?hyqb10⟩) hHeld ?_
          case hyqb10 => (intro w hSw; (try dsimp only at hSw); go_simp; (try with_reducible rfl))
          try simp only [Act.put, List.setIfInBounds_toArray, List.set_cons_zero, List.set_cons_succ]
          refine wpAnyH_done (by kernel_rfl) ?_ _
          clear hHeld
          have HQ6 := Lib.hid (HQ5.out.put l')
          obtain ⟨a0, a1, a2, a3, a4, a5, a6, a7, a8, a9, a10, a11, a12, af⟩ := HQ5.out.x.cells
          obtain ⟨c0, c1, c2, c3, c4, c5, c6, c7, c8, c9, c10, c11, c12, cf⟩ := HY5.out.cells
          clear HQ5 HLD HI
          go_wp2_with fail
          go_roundw
          case rel => exact ⟨l', _, j + 1, now, s', rfl, rfl, by go_num, HQ6, HGR2⟩
          case measure => simp [intOf]; omega
      · have eN : grN l n = n := if_neg h5
        have eS : grS l n s = s := if_neg (fun e => h5 e.1)
        rw [eS] at HG
        rw [eN] at HGR2 hn0
        have hn1 : ¬ n < -1 := by omega
        have hl5 : (l == 5) = false := by simpa using h5
        clear eS eN hsu hU2
        have HQ1 := HQ
        clear HQ
        go_wp2_with fail
        refine (HG.out _ (HS.out.below HQ1.out.old) HQ1.out.hand).mono ?_
        rintro e V2 ⟨rfl, hF, hs⟩
        have hq := HQ1.out.act hF hs
        have HQ2 := Lib.hid (hq.below (below_new V2 (.cells #[.int .i64 l', .int .i64 11, .int .i64 0, .int .i64 0, .int .i64 0, .int .u64 0, .int .u64 0, .int .u64 0, .int .u64 0, .int .u64 0, .int .u64 0, .int .i64 0, .int .i64 0] 37)))
        have HY2 : Hid (MuAt (V2.alloc (.cells #[.int .i64 l', .int .i64 11, .int .i64 0, .int .i64 0, .int .i64 0, .int .u64 0, .int .u64 0, .int .u64 0, .int .u64 0, .int .u64 0, .int .u64 0, .int .i64 0, .int .i64 0] 37)) V2.heap.size (mL l')) := Lib.hid (Mut13.new V2 l' 0 0 11 0 0 0 0 0 0 0 0 0)
        have hXY : X < V2.heap.size := hq.x.lt
        clear hF hs hq HQ1 HG a0 a1 a2 a3 a4 a5 a6 a7 a8 a9 a10 a11 a12 af
        go_wp2_with fail
        generalize V2.alloc (.cells #[.int .i64 l', .int .i64 11, .int .i64 0, .int .i64 0, .int .i64 0, .int .u64 0, .int .u64 0, .int .u64 0, .int .u64 0, .int .u64 0, .int .u64 0, .int .i64 0, .int .i64 0] 37) = V3 at *
        generalize V2.heap.size = Y at *
        have HQ3 := Lib.hid HQ2.out.drew
        have HY3 : Hid (MuAt V3.drew Y (mL l')) := Lib.hid HY2.out
        clear HQ2 HY2
        refine wp_region_held_drew (S := (fun w' => w'.cell? ⟨H, 0, none⟩ = some (.pointer (some ⟨A, 0, none⟩)) ∧ w'.cell? ⟨H, 1, none⟩ = some (.int .i64 2) ∧ w'.cell? ⟨H, 2, none⟩ = some (.int .i64 1) ∧ w'.cell? ⟨H, 3, none⟩ = some (.int .i64 1) ∧ w'.cell? ⟨H, 4, none⟩ = some (.int .i64 0))) (by kernel_rfl) ?_ (fun hHeld => ?_)
        · exact ⟨HQ3.out.hand.cells.1, HQ3.out.hand.cells.2.1.1, HQ3.out.hand.cells.2.1.2.1, HQ3.out.hand.cells.2.1.2.2.1, HQ3.out.hand.cells.2.1.2.2.2⟩
        refine wpAnyH_take (i := 0) (oi := { dst := some 76, op := Op.move (Operand.tmp 5), type := 24, pos := "law.go:145", after := #[], guard := none }) (v := ?vqc0) rfl (by kernel_rfl) (by kernel_rfl) (by kernel_rfl) (fun _ _ _ h => h) (Or.inl ⟨by rfl, ?hyqc0⟩) hHeld ?_
        case hyqc0 => (intro w hSw; (try dsimp only at hSw); go_simp; (try with_reducible rfl))
        try simp only [Act.put, List.setIfInBounds_toArray, List.set_cons_zero, List.set_cons_succ]
        refine wpAnyH_take (i := 1) (oi := { dst := some 77, op := Op.nilCheck (Operand.tmp 76), type := 0, pos := "law.go:145", after := #[{ on := 0, ground := Ground.data }], guard := none }) (v := ?vqc1) rfl (by kernel_rfl) (by kernel_rfl) (by kernel_rfl) (fun _ _ _ h => h) (Or.inl ⟨by rfl, ?hyqc1⟩) hHeld ?_
        case hyqc1 => (intro w hSw; (try dsimp only at hSw); go_simp; (try with_reducible rfl))
        try simp only [Act.put, List.setIfInBounds_toArray, List.set_cons_zero, List.set_cons_succ]
        refine wpAnyH_take (i := 2) (oi := { dst := some 78, op := Op.fieldAddr 49 (Operand.tmp 77) 0, type := 0, pos := "law.go:145", after := #[{ on := 1, ground := Ground.data }], guard := none }) (v := ?vqc2) rfl (by kernel_rfl) (by kernel_rfl) (by kernel_rfl) (fun _ _ _ h => h) (Or.inl ⟨by rfl, ?hyqc2⟩) hHeld ?_
        case hyqc2 => (intro w hSw; (try dsimp only at hSw); go_simp; (try with_reducible rfl))
        try simp only [Act.put, List.setIfInBounds_toArray, List.set_cons_zero, List.set_cons_succ]
        refine wpAnyH_take (i := 3) (oi := { dst := some 79, op := Op.load 43 (Operand.tmp 78), type := 43, pos := "law.go:145", after := #[{ on := 2, ground := Ground.data }], guard := none }) (v := ?vqc3) rfl (by kernel_rfl) (by kernel_rfl) (by kernel_rfl) (fun _ _ _ h => h) (Or.inl ⟨by rfl, ?hyqc3⟩) hHeld ?_
        case hyqc3 => (intro w hSw; (try dsimp only at hSw); go_simp; (try with_reducible rfl))
        try simp only [Act.put, List.setIfInBounds_toArray, List.set_cons_zero, List.set_cons_succ]
        refine wpAnyH_take (i := 4) (oi := { dst := some 80, op := Op.move (Operand.tmp 5), type := 24, pos := "law.go:145", after := #[], guard := none }) (v := ?vqc4) rfl (by kernel_rfl) (by kernel_rfl) (by kernel_rfl) (fun _ _ _ h => h) (Or.inl ⟨by rfl, ?hyqc4⟩) hHeld ?_
        case hyqc4 => (intro w hSw; (try dsimp only at hSw); go_simp; (try with_reducible rfl))
        try simp only [Act.put, List.setIfInBounds_toArray, List.set_cons_zero, List.set_cons_succ]
        refine wpAnyH_take (i := 5) (oi := { dst := some 81, op := Op.nilCheck (Operand.tmp 80), type := 0, pos := "law.go:145", after := #[{ on := 4, ground := Ground.data }], guard := none }) (v := ?vqc5) rfl (by kernel_rfl) (by kernel_rfl) (by kernel_rfl) (fun _ _ _ h => h) (Or.inl ⟨by rfl, ?hyqc5⟩) hHeld ?_
        case hyqc5 => (intro w hSw; (try dsimp only at hSw); go_simp; (try with_reducible rfl))
        try simp only [Act.put, List.setIfInBounds_toArray, List.set_cons_zero, List.set_cons_succ]
        refine wpAnyH_take (i := 6) (oi := { dst := some 82, op := Op.fieldAddr 49 (Operand.tmp 81) 1, type := 0, pos := "law.go:145", after := #[{ on := 5, ground := Ground.data }], guard := none }) (v := ?vqc6) rfl (by kernel_rfl) (by kernel_rfl) (by kernel_rfl) (fun _ _ _ h => h) (Or.inl ⟨by rfl, ?hyqc6⟩) hHeld ?_
        case hyqc6 => (intro w hSw; (try dsimp only at hSw); go_simp; (try with_reducible rfl))
        try simp only [Act.put, List.setIfInBounds_toArray, List.set_cons_zero, List.set_cons_succ]
        refine wpAnyH_take (i := 7) (oi := { dst := some 83, op := Op.load 45 (Operand.tmp 82), type := 45, pos := "law.go:145", after := #[{ on := 6, ground := Ground.data }], guard := none }) (v := ?vqc7) rfl (by kernel_rfl) (by kernel_rfl) (by kernel_rfl) (fun _ _ _ h => h) (Or.inl ⟨by rfl, ?hyqc7⟩) hHeld ?_
        case hyqc7 => (intro w hSw; (try dsimp only at hSw); go_simp; (try with_reducible rfl))
        try simp only [Act.put, List.setIfInBounds_toArray, List.set_cons_zero, List.set_cons_succ]
        refine wpAnyH_ready (rs := [8]) (by kernel_rfl) (by simp) ?_
        refine AllReadyH.cons (o := { dst := some 84, op := Op.call { callee := Callee.value (Operand.func 13), args := #[Operand.tmp 83, Operand.const (Value.int IntKind.i64 0)], argTypes := #[45, 3] }, type := 3, pos := "law.go:145", after := #[{ on := 7, ground := Ground.data }], guard := none }) rfl (fun K hK => ?_) AllReadyH.nil
        go_simp
        refine (HI.out _ (HS.out.below HQ3.out.old)).mono ?_
        rintro e V5 ⟨rfl, hb5⟩
        have HQ5 := Lib.hid (HQ3.out.below hb5)
        have HY5 := Lib.hid (HY3.out.below hb5)
        clear hb5 HQ3 HY3
        refine hK.out _ _ ?_ (fun hHeld => ?_)
        · exact ⟨HQ5.out.hand.cells.1, HQ5.out.hand.cells.2.1.1, HQ5.out.hand.cells.2.1.2.1, HQ5.out.hand.cells.2.1.2.2.1, HQ5.out.hand.cells.2.1.2.2.2⟩
        clear hK K
        try simp only [Act.put, List.setIfInBounds_toArray, List.set_cons_zero, List.set_cons_succ]
        refine wpAnyH_ready (rs := [9]) (by kernel_rfl) (by simp) ?_
        refine AllReadyH.cons (o := { dst := some 85, op := Op.call { callee := Callee.value (Operand.func 12), args := #[Operand.tmp 79, Operand.tmp 84], argTypes := #[43, 3] }, type := 32, pos := "law.go:145", after := #[{ on := 3, ground := Ground.data }, { on := 8, ground := Ground.data }, { on := 8, ground := Ground.chain }], guard := none }) rfl (fun K hK => ?_) AllReadyH.nil
        go_simp
        refine (HLD.out _ HQ5.out.hand).mono ?_
        rintro e V6 ⟨rfl, rfl⟩
        refine hK.out _ _ ?_ (fun hHeld => ?_)
        · exact ⟨HQ5.out.hand.cells.1, HQ5.out.hand.cells.2.1.1, HQ5.out.hand.cells.2.1.2.1, HQ5.out.hand.cells.2.1.2.2.1, HQ5.out.hand.cells.2.1.2.2.2⟩
        clear hK K
        try simp only [Act.put, List.setIfInBounds_toArray, List.set_cons_zero, List.set_cons_succ]
        refine wpAnyH_take (i := 10) (oi := { dst := some 14, op := Op.assign (Operand.tmp 85), type := 32, pos := "law.go:145", after := #[{ on := 9, ground := Ground.data }, { on := 9, ground := Ground.chain }, { on := 0, ground := Ground.phase }, { on := 1, ground := Ground.phase }, { on := 2, ground := Ground.phase }, { on := 3, ground := Ground.phase }, { on := 4, ground := Ground.phase }, { on := 5, ground := Ground.phase }, { on := 6, ground := Ground.phase }, { on := 7, ground := Ground.phase }, { on := 8, ground := Ground.phase }, { on := 9, ground := Ground.phase }], guard := none }) (v := ?vqc10) rfl (by kernel_rfl) (by kernel_rfl) (by kernel_rfl) (fun _ _ _ h => h) (Or.inl ⟨by rfl, ?hyqc10⟩) hHeld ?_
        case hyqc10 => (intro w hSw; (try dsimp only at hSw); go_simp; (try with_reducible rfl))
        try simp only [Act.put, List.setIfInBounds_toArray, List.set_cons_zero, List.set_cons_succ]
        refine wpAnyH_done (by kernel_rfl) ?_ _
        clear hHeld
        have HQ6 := Lib.hid (HQ5.out.put l')
        obtain ⟨a0, a1, a2, a3, a4, a5, a6, a7, a8, a9, a10, a11, a12, af⟩ := HQ5.out.x.cells
        obtain ⟨c0, c1, c2, c3, c4, c5, c6, c7, c8, c9, c10, c11, c12, cf⟩ := HY5.out.cells
        clear HQ5 HLD HI
        go_wp2_with fail
        go_roundw
        case rel => exact ⟨l', _, j + 1, now, s', rfl, rfl, by go_num, HQ6, HGR2⟩
        case measure => simp [intOf]; omega
end Go.Proofs.YtpieobegcaeopaaDoor
