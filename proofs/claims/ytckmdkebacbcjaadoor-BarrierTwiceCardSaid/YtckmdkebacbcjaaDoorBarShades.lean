/- BarrierShades answers true: behind shading a cell isn't white, and if it was, dirty is 1; all other words are as they were; it takes at most two steps. -/
import Derived.Test.YtckmdkebacbcjaaDoorBarPure
namespace Go.Proofs.YtckmdkebacbcjaaDoor
open Go Go.RowKit
set_option maxRecDepth 100000
attribute [local go_sem ↓] Go.wp_at_zero Go.wp_at_succ

/-- The number of a cell; -1 of what is none. -/
def idxI (v : Nat) : Int := if isC v then ((v / 2 : Nat) : Int) else -1
theorem refIdx_c (v : Nat) (hv : v < 18446744073709551616) (w : World) :
    Calls Tryd.prog 14 #[.int .u64 v] w fun e w' => e = .returned (.int .i64 (idxI v)) ∧ w = w' := by
  unfold idxI
  by_cases h : isC v
  · rw [if_pos h]; exact refIsCell_cell v h.2 h.1 w
  · rw [if_neg h]; exact refIsCell_no v hv h w
theorem part_field (a b c d : Int) (v : Nat) : partP a b c d 2 (idxI v) = fieldP a b c d v 2 := by
  unfold idxI fieldP
  by_cases h : isC v
  · rw [if_pos h, if_pos ⟨h, by omega, by omega⟩]
  · rw [if_neg h, if_neg (fun k => h k.1)]; unfold partP; rw [if_neg (fun k => absurd k.1.1 (by omega))]
set_option maxHeartbeats 6400000 in
theorem shades_any (a b c d : Int) (v0 : Option Addr) (n c0 : Nat) (f : Nat → Int) (v : Nat) (hv : v < 18446744073709551616) (w : World) (hS : SpansAt w) (hG : Given w v0 n c0 f) :
    Calls Tryd.prog 5 #[.agg #[.int .i64 a, .int .i64 b, .int .i64 c, .int .i64 d], .slice v0 n c0, .int .u64 v] w fun e w' => e = .returned (.bool true) ∧ Below w.heap.size w w' := by
  have HB0 := Lib.hid (below_new w (.cells #[.int .i64 a, .int .i64 b, .int .i64 c, .int .i64 d] 23))
  have HX0 : Hid (BoxAt (w.alloc (.cells #[.int .i64 a, .int .i64 b, .int .i64 c, .int .i64 d] 23)) w.heap.size a b c d) := Lib.hid (BoxAt.new w a b c d 23)
  have HS := Lib.hid hS; have HG := Lib.hid hG
  clear hS hG
  obtain ⟨x0, x1, x2, x3⟩ := HX0.out
  go_enter Tryd.func5, Tryd.ntmps5
  go_wp2_with fail
  refine (awake_c _ (HS.out.below HB0.out)).mono ?_
  rintro e W1 ⟨rfl, hW⟩
  have HB1 := Lib.hid (belowOn HB0.out hW)
  have HX1 := Lib.hid (HX0.out.below hW)
  clear hW HB0 HX0 x0 x1 x2 x3
  obtain ⟨x0, x1, x2, x3⟩ := HX1.out
  go_wp2_with fail
  refine (Both_any a b c d v0 n c0 f _ (HS.out.below HB1.out) ⟨HG.out.1, HG.out.2.1.below HB1.out, HG.out.2.2⟩).mono ?_
  rintro e W2 (⟨_, rfl, hW⟩ | ⟨hok, P, rfl, hT⟩)
  · have HB2 := Lib.hid (belowOn HB1.out hW)
    clear hW HX1 x0 x1 x2 x3 HB1
    go_wp2_with fail
    go_ret
    exact ⟨rfl, HB2.out⟩
  have HS1 := Lib.hid (HS.out.below HB1.out)
  have hu0 : Dy.U ⟨f, 0, 0, 0, 0, 0⟩ := HG.out.2.2.1
  have hn20 : n ≤ 20000 := by have := hok.2.1.prod; have h1 := hok.2.2; have h2 := hok.2.1; unfold Right at h2; omega
  have hr0 : Right a b c d := hok.2.1
  obtain ⟨K, st, hR⟩ := run_any (C := ⟨n, a, b, c, d⟩) (s := ⟨f, 0, 0, 0, 0, 0⟩) hu0 hok.2.1 hok.2.2 v hv 40
  have HR := Lib.hid hR
  have HT2 := Lib.hid hT
  have HX2 := HX1
  have hpl := field_lt hok.2.1 hok.2.2 v
  clear hR hT hu0 HX1 x0 x1 x2 x3 hok
  go_wp2_with fail
  refine (Begin_c 7 0 0 0 0 0 0 0 0 0 0 0 0 v hv 40 _).mono ?_
  rintro e W3 ⟨rfl, hW⟩
  have HT := Lib.hid ((HT2.out.below hW).below (below_new W3 (.cells #[.int .i64 (begL v 40), .int .i64 0, .int .i64 0, .int .i64 0, .int .i64 0, .int .u64 0, .int .u64 0, .int .u64 0, .int .u64 0, .int .u64 0, .int .u64 (begP v), .int .i64 (begB v 40), .int .i64 0] 30)))
  have HM : Hid (MuAt (W3.alloc (.cells #[.int .i64 (begL v 40), .int .i64 0, .int .i64 0, .int .i64 0, .int .i64 0, .int .u64 0, .int .u64 0, .int .u64 0, .int .u64 0, .int .u64 0, .int .u64 (begP v), .int .i64 (begB v 40), .int .i64 0] 30)) W3.heap.size (onlyM (begL v 40) (begP v) (begB v 40))) := Lib.hid (Mut13.new W3 _ _ _ _ _ _ _ _ _ _ _ _ _)
  have HO := Lib.hid ((HT2.out.below hW).out (Nat.le_refl _))
  have HBB : Hid (W1.heap.size ≤ W3.heap.size) := Lib.hid (HT2.out.below hW).old.size
  generalize hC : (⟨n, a, b, c, d⟩ : Cf) = C at *
  generalize hs0 : (⟨f, 0, 0, 0, 0, 0⟩ : Dy) = s0 at *
  clear hW HT2
  go_wp2_with fail
  generalize (W3.alloc (.cells #[.int .i64 (begL v 40), .int .i64 0, .int .i64 0, .int .i64 0, .int .i64 0, .int .u64 0, .int .u64 0, .int .u64 0, .int .u64 0, .int .u64 0, .int .u64 (begP v), .int .i64 (begB v 40), .int .i64 0] 30)) = U0 at *
  generalize W3.heap.size = B at *
  go_loopw [11] (fun vi wr => ∃ k : Nat, vi = .int .i64 k ∧ k ≤ K ∧ Hid (Two W1 wr P C (st k).1 s0 ∧ MuAt wr B (st k).2)) (fun vi _ => K - (intOf vi).toNat)
  case atStart => exact ⟨0, rfl, Nat.zero_le _, Lib.hid ⟨by rw [HR.out.first]; exact HT.out, by rw [HR.out.first]; exact HM.out⟩⟩
  case round =>
    clear HT HM
    obtain ⟨k, rfl, hk, HI⟩ := hrel
    obtain ⟨hT, hM⟩ := HI.out
    by_cases hlt : k < K
    · have hnx := HR.out.next k hlt; have hln := HR.out.line k hlt; have hu1 := HR.out.u k; have hp1 := HR.out.up k; have hk2 := HR.out.two
      clear HI
      generalize hq : st k = q at hT hM hnx hln hu1 hp1
      generalize hq2 : st (k + 1) = q2 at hnx
      obtain ⟨s1, m1⟩ := q
      obtain ⟨s2, m2⟩ := q2
      obtain ⟨l1, g1, g2, g3, g4, w1, w2, w3, w4, w5, p1, bk1, rt1⟩ := m1
      dsimp only at hT hM hnx hln hu1 hp1
      have HST : Hid (∀ W, Two W1 W P C s1 s0 → _) := Lib.hid (fun W h => bar_c (w := W) h.hand hu1 (HS1.out.below h.old) ⟨l1, g1, g2, g3, g4, w1, w2, w3, w4, w5, p1, bk1, rt1⟩ hp1)
      rw [hnx] at HST
      clear hnx hu1 hp1 hq
      have hk1 : decide ((1 : Int) < (k : Int)) = false := by simp; omega
      rcases hln with rfl | rfl
      · obtain ⟨b0, b1, b2, b3, b4, b5, b6, b7, b8, b9, b10, b11, b12, bf⟩ := hM.cells
        have hBl : B < wr.heap.size := hM.lt
        have HM := Lib.hid hM
        have HT := Lib.hid hT
        clear hM hT
        go_wp2_with fail
        refine (HST.out _ HT.out).mono ?_
        rintro e V hp
        obtain ⟨rfl, hT⟩ := Two.step HT.out hp
        have hM := HM.out.other (Pl.sav (.inl hp.2.2) HM.out.lt HO.out.notS)
        clear hp HM HT HST b0 b1 b2 b3 b4 b5 b6 b7 b8 b9 b10 b11 b12 bf hBl
        have HT := Lib.hid hT
        have HM := Lib.hid hM
        have hBl : B < V.heap.size := hM.lt
        have hBn : B ≠ V.heap.size := by omega
        clear hT hM
        obtain ⟨b0, b1, b2, b3, b4, b5, b6, b7, b8, b9, b10, b11, b12, bf⟩ := HM.out.cells
        go_wp2_with fail
        go_roundw
        case rel => exact ⟨k + 1, by go_num, by omega, Lib.hid ⟨by rw [hq2]; exact (HT.out.put HBB.out HO.out _ _ _ _ _ _ _ _ _ _ _ _ _).below (below_new _ _), by rw [hq2]; exact (HM.out.put _ _ _ _ _ _ _ _ _ _ _ _ _).below (below_new _ _)⟩⟩
        case measure => simp [intOf]; omega
      · obtain ⟨b0, b1, b2, b3, b4, b5, b6, b7, b8, b9, b10, b11, b12, bf⟩ := hM.cells
        have hBl : B < wr.heap.size := hM.lt
        have HM := Lib.hid hM
        have HT := Lib.hid hT
        clear hM hT
        go_wp2_with fail
        refine (HST.out _ HT.out).mono ?_
        rintro e V hp
        obtain ⟨rfl, hT⟩ := Two.step HT.out hp
        have hM := HM.out.other (Pl.sav (.inl hp.2.2) HM.out.lt HO.out.notS)
        clear hp HM HT HST b0 b1 b2 b3 b4 b5 b6 b7 b8 b9 b10 b11 b12 bf hBl
        have HT := Lib.hid hT
        have HM := Lib.hid hM
        have hBl : B < V.heap.size := hM.lt
        have hBn : B ≠ V.heap.size := by omega
        clear hT hM
        obtain ⟨b0, b1, b2, b3, b4, b5, b6, b7, b8, b9, b10, b11, b12, bf⟩ := HM.out.cells
        go_wp2_with fail
        go_roundw
        case rel => exact ⟨k + 1, by go_num, by omega, Lib.hid ⟨by rw [hq2]; exact (HT.out.put HBB.out HO.out _ _ _ _ _ _ _ _ _ _ _ _ _).below (below_new _ _), by rw [hq2]; exact (HM.out.put _ _ _ _ _ _ _ _ _ _ _ _ _).below (below_new _ _)⟩⟩
        case measure => simp [intOf]; omega
    · obtain rfl : k = K := by omega
      have hla := HR.out.last; have hwo := HR.out.words; have hus := HR.out.u k
      clear HI
      generalize st k = q at hT hM hla hwo hus
      obtain ⟨s1, m1⟩ := q
      dsimp only at hT hM hla hwo hus
      subst hla
      obtain ⟨b0, b1, b2, b3, b4, b5, b6, b7, b8, b9, b10, b11, b12, bf⟩ := hM.cells
      have hBl : B < wr.heap.size := hM.lt
      have HM := Lib.hid hM
      have HT := Lib.hid hT
      have HWO := Lib.hid hwo
      have HUS := Lib.hid hus
      clear hM hT hlt hk hwo hus
      go_wp2_with fail
      refine (refIdx_c v hv _).mono ?_
      rintro e W ⟨rfl, rfl⟩
      have HX5 := Lib.hid (HX2.out.below HT.out.old)
      obtain ⟨x0, x1, x2, x3⟩ := HX5.out
      go_wp2_with fail
      refine (refAt_colour a b c d (idxI v) hr0 _).mono ?_
      rintro e W5 ⟨rfl, hW⟩
      rw [part_field]
      subst hC; subst hs0
      have HT5 := Lib.hid (HT.out.below hW)
      have HWO := Lib.hid (show Shaded n f s1.f (fieldP a b c d v 2) from HWO.out)
      generalize fieldP a b c d v 2 = p at *
      have hlH : P.H < W5.heap.size := HT5.out.hand.lt
      obtain ⟨h0, _⟩ := HT5.out.hand.cells
      clear hW HT HM HX5 x0 x1 x2 x3 hBl HO HBB HR b0 b1 b2 b3 b4 b5 b6 b7 b8 b9 b10 b11 b12 bf
      go_wp2_with fail
      refine (All_c HT5.out.hand.ar hn20).mono ?_
      rintro e W6 ⟨rfl, hrow, hW⟩
      have HB6 : Hid (Below w.heap.size w W6) := Lib.hid (belowOn HB1.out (belowOn HT5.out.old hW))
      have HRW := Lib.hid hrow
      have hng : n = n := rfl
      clear hW hrow h0 hlH HT5 hng
      dsimp only
      generalize W5.heap.size = R at *
      go_wp2_with fail
      go_loopw [17] (fun vi wr => ∃ k : Nat, vi = .int .i64 k ∧ k ≤ n ∧ Hid (Below w.heap.size w wr ∧ RowAt wr R 28 n s1.f)) (fun vi _ => n - (intOf vi).toNat)
      case atStart => exact ⟨0, rfl, Nat.zero_le _, Lib.hid ⟨HB6.out, HRW.out⟩⟩
      case round =>
        clear HB6 HRW
        obtain ⟨k, rfl, hk, HI⟩ := hrel
        obtain ⟨hB, hRW⟩ := HI.out
        by_cases hlt : k < n
        · obtain ⟨b2, off, rfl, hl⟩ := (HG.out.2.1.below hB).at' hlt
          have hr := hRW.cell hlt
          have hBB := hB; have HRR := Lib.hid hRW
          have HBB := Lib.hid hB
          clear hB hBB
          have hn2 : 2 < n ∨ p = -1 := by omega
          by_cases hA : (k : Int) = p ∧ f k = 0
          · obtain ⟨rfl, hf⟩ := hA
            obtain ⟨hg, hg2⟩ := HWO.out.at' k rfl hf
            have hr2 := hRW.cell (show 2 < n by omega)
            rw [hf] at hl
            rw [hg] at hr
            rw [hg2] at hr2
            clear hf hg hg2 hRW HI HWO
            go_wp2_with fail
            go_roundw
            case rel => exact ⟨k + 1, by go_num, by omega, Lib.hid ⟨HBB.out, HRR.out⟩⟩
            case measure => simp [intOf]; omega
          have hoth := HWO.out.other k hA
          by_cases hBc : (k : Int) = 2 ∧ 0 ≤ p ∧ f p.toNat = 0
          · obtain ⟨hk2, hp0, hf⟩ := hBc
            obtain rfl : k = 2 := by omega
            obtain ⟨pn, rfl⟩ : ∃ pn : Nat, p = pn := ⟨p.toNat, by omega⟩
            have hg2 := HWO.out.dirty hp0 hf
            rw [Int.toNat_natCast] at hf
            obtain ⟨_, _, e, hl2⟩ := (HG.out.2.1.below HBB.out).at' (show pn < n by omega)
            cases e
            rw [hf] at hl2
            rw [hg2] at hr
            have hne : ((2 : Int) == (pn : Int)) = false := by simp; omega
            have hge : decide ((pn : Int) ≥ 0) = true := by simp
            have hpn : pn < n := by omega
            clear hf hg2 hRW HI HWO hA hoth hk2
            go_wp2_with fail
            go_roundw
            case rel => exact ⟨2 + 1, by go_num, by omega, Lib.hid ⟨HBB.out, HRR.out⟩⟩
            case measure => simp [intOf]; omega
          rw [hoth hBc] at hr
          have hf0 := hoth hBc
          by_cases he : (k : Int) = p
          · subst he
            have hfk : ¬ f k = 0 := fun e => hA ⟨rfl, e⟩
            have hfb : (f k == 0) = false := by simpa using hfk
            have hk2 : ((k : Int) == 2) = false := by simp; omega
            clear hf0 hRW HI HWO hA hoth hBc hfk
            go_wp2_with fail
            rw [show wr.cell? = wr.drew.cell? from rfl] at hl hr
            have HBB := Lib.hid HBB.out.drew
            have HRR : Hid (RowAt wr.drew R 28 n s1.f) := Lib.hid HRR.out
            refine wp_region_held_drew (S := (fun w' => w'.cell? ⟨b2, off + k, none⟩ = some (.int .u64 (f k)) ∧ w'.cell? ⟨R, k, none⟩ = some (.int .u64 (f k)))) (by kernel_rfl) ?_ (fun hHeld => ?_)
            · exact ⟨hl, hr⟩
            refine wpAnyH_take (i := 0) (oi := { dst := some 132, op := Op.move (Operand.tmp 16), type := 24, pos := "law.go:102", after := #[], guard := none }) (v := ?vz00) rfl (by kernel_rfl) (by kernel_rfl) (by kernel_rfl) (fun _ _ _ h => h) (Or.inl ⟨by rfl, ?hyz00⟩) hHeld ?_
            case hyz00 => (intro w hSw; (try dsimp only at hSw); go_simp; (try with_reducible rfl))
            try simp only [Act.put, List.setIfInBounds_toArray, List.set_cons_zero, List.set_cons_succ]
            refine wpAnyH_take (i := 1) (oi := { dst := some 133, op := Op.move (Operand.tmp 17), type := 3, pos := "law.go:102", after := #[], guard := none }) (v := ?vz01) rfl (by kernel_rfl) (by kernel_rfl) (by kernel_rfl) (fun _ _ _ h => h) (Or.inl ⟨by rfl, ?hyz01⟩) hHeld ?_
            case hyz01 => (intro w hSw; (try dsimp only at hSw); go_simp; (try with_reducible rfl))
            try simp only [Act.put, List.setIfInBounds_toArray, List.set_cons_zero, List.set_cons_succ]
            refine wpAnyH_take (i := 2) (oi := { dst := some 134, op := Op.indexAddr 24 (Operand.tmp 132) (Operand.tmp 133), type := 0, pos := "law.go:102", after := #[{ on := 0, ground := Ground.data }, { on := 1, ground := Ground.data }], guard := none }) (v := ?vz02) rfl (by kernel_rfl) (by kernel_rfl) (by kernel_rfl) (fun _ _ _ h => h) (Or.inl ⟨by rfl, ?hyz02⟩) hHeld ?_
            case hyz02 => (intro w hSw; (try dsimp only at hSw); go_simp; (try with_reducible rfl))
            try simp only [Act.put, List.setIfInBounds_toArray, List.set_cons_zero, List.set_cons_succ]
            refine wpAnyH_take (i := 3) (oi := { dst := some 135, op := Op.load 28 (Operand.tmp 134), type := 28, pos := "law.go:102", after := #[{ on := 2, ground := Ground.data }], guard := none }) (v := ?vz03) rfl (by kernel_rfl) (by kernel_rfl) (by kernel_rfl) (fun _ _ _ h => h) (Or.inl ⟨by rfl, ?hyz03⟩) hHeld ?_
            case hyz03 => (intro w hSw; (try dsimp only at hSw); go_simp; (try with_reducible rfl))
            try simp only [Act.put, List.setIfInBounds_toArray, List.set_cons_zero, List.set_cons_succ]
            refine wpAnyH_take (i := 4) (oi := { dst := some 136, op := Op.move (Operand.tmp 1), type := 24, pos := "law.go:102", after := #[], guard := none }) (v := ?vz04) rfl (by kernel_rfl) (by kernel_rfl) (by kernel_rfl) (fun _ _ _ h => h) (Or.inl ⟨by rfl, ?hyz04⟩) hHeld ?_
            case hyz04 => (intro w hSw; (try dsimp only at hSw); go_simp; (try with_reducible rfl))
            try simp only [Act.put, List.setIfInBounds_toArray, List.set_cons_zero, List.set_cons_succ]
            refine wpAnyH_take (i := 5) (oi := { dst := some 137, op := Op.move (Operand.tmp 17), type := 3, pos := "law.go:102", after := #[], guard := none }) (v := ?vz05) rfl (by kernel_rfl) (by kernel_rfl) (by kernel_rfl) (fun _ _ _ h => h) (Or.inl ⟨by rfl, ?hyz05⟩) hHeld ?_
            case hyz05 => (intro w hSw; (try dsimp only at hSw); go_simp; (try with_reducible rfl))
            try simp only [Act.put, List.setIfInBounds_toArray, List.set_cons_zero, List.set_cons_succ]
            refine wpAnyH_take (i := 6) (oi := { dst := some 138, op := Op.indexAddr 24 (Operand.tmp 136) (Operand.tmp 137), type := 0, pos := "law.go:102", after := #[{ on := 4, ground := Ground.data }, { on := 5, ground := Ground.data }], guard := none }) (v := ?vz06) rfl (by kernel_rfl) (by kernel_rfl) (by kernel_rfl) (fun _ _ _ h => h) (Or.inl ⟨by rfl, ?hyz06⟩) hHeld ?_
            case hyz06 => (intro w hSw; (try dsimp only at hSw); go_simp; (try with_reducible rfl))
            try simp only [Act.put, List.setIfInBounds_toArray, List.set_cons_zero, List.set_cons_succ]
            refine wpAnyH_take (i := 7) (oi := { dst := some 139, op := Op.load 28 (Operand.tmp 138), type := 28, pos := "law.go:102", after := #[{ on := 6, ground := Ground.data }], guard := none }) (v := ?vz07) rfl (by kernel_rfl) (by kernel_rfl) (by kernel_rfl) (fun _ _ _ h => h) (Or.inl ⟨by rfl, ?hyz07⟩) hHeld ?_
            case hyz07 => (intro w hSw; (try dsimp only at hSw); go_simp; (try with_reducible rfl))
            try simp only [Act.put, List.setIfInBounds_toArray, List.set_cons_zero, List.set_cons_succ]
            refine wpAnyH_take (i := 8) (oi := { dst := some 140, op := Op.binOp BinOp.neq 28 (Operand.tmp 135) (Operand.tmp 139) 28, type := 4, pos := "law.go:102", after := #[{ on := 3, ground := Ground.data }, { on := 7, ground := Ground.data }], guard := none }) (v := ?vz08) rfl (by kernel_rfl) (by kernel_rfl) (by kernel_rfl) (fun _ _ _ h => h) (Or.inl ⟨by rfl, ?hyz08⟩) hHeld ?_
            case hyz08 => (intro w hSw; (try dsimp only at hSw); go_simp; (try with_reducible rfl))
            try simp only [Act.put, List.setIfInBounds_toArray, List.set_cons_zero, List.set_cons_succ]
            refine wpAnyH_take (i := 9) (oi := { dst := some 131, op := Op.assign (Operand.tmp 140), type := 4, pos := "law.go:102", after := #[{ on := 8, ground := Ground.data }], guard := none }) (v := ?vz09) rfl (by kernel_rfl) (by kernel_rfl) (by kernel_rfl) (fun _ _ _ h => h) (Or.inl ⟨by rfl, ?hyz09⟩) hHeld ?_
            case hyz09 => (intro w hSw; (try dsimp only at hSw); go_simp; (try with_reducible rfl))
            try simp only [Act.put, List.setIfInBounds_toArray, List.set_cons_zero, List.set_cons_succ]
            refine wpAnyH_done (by kernel_rfl) ?_ _
            clear hHeld
            go_wp2_with fail
            go_roundw
            case rel => exact ⟨k + 1, by go_num, by omega, Lib.hid ⟨HBB.out, HRR.out⟩⟩
            case measure => simp [intOf]; omega
          have hne : ((k : Int) == p) = false := by simpa using he
          by_cases hk2 : (k : Int) = 2
          · obtain rfl : k = 2 := by omega
            by_cases hp0 : 0 ≤ p
            · obtain ⟨pn, rfl⟩ : ∃ pn : Nat, p = pn := ⟨p.toNat, by omega⟩
              obtain ⟨_, _, e, hl2⟩ := (HG.out.2.1.below HBB.out).at' (show pn < n by omega)
              cases e
              have hfk : ¬ f pn = 0 := fun e => hBc ⟨rfl, hp0, e⟩
              have hfb : (f pn == 0) = false := by simpa using hfk
              have hge : decide ((pn : Int) ≥ 0) = true := by simp
              have hpn : pn < n := by omega
              clear hf0 hRW HI HWO hA hoth hBc hfk he hk2
              go_wp2_with fail
              rw [show wr.cell? = wr.drew.cell? from rfl] at hl hr
              have HBB := Lib.hid HBB.out.drew
              have HRR : Hid (RowAt wr.drew R 28 n s1.f) := Lib.hid HRR.out
              refine wp_region_held_drew (S := (fun w' => w'.cell? ⟨b2, off + 2, none⟩ = some (.int .u64 (f 2)) ∧ w'.cell? ⟨R, 2, none⟩ = some (.int .u64 (f 2)))) (by kernel_rfl) ?_ (fun hHeld => ?_)
              · exact ⟨hl, hr⟩
              refine wpAnyH_take (i := 0) (oi := { dst := some 132, op := Op.move (Operand.tmp 16), type := 24, pos := "law.go:102", after := #[], guard := none }) (v := ?vz10) rfl (by kernel_rfl) (by kernel_rfl) (by kernel_rfl) (fun _ _ _ h => h) (Or.inl ⟨by rfl, ?hyz10⟩) hHeld ?_
              case hyz10 => (intro w hSw; (try dsimp only at hSw); go_simp; (try with_reducible rfl))
              try simp only [Act.put, List.setIfInBounds_toArray, List.set_cons_zero, List.set_cons_succ]
              refine wpAnyH_take (i := 1) (oi := { dst := some 133, op := Op.move (Operand.tmp 17), type := 3, pos := "law.go:102", after := #[], guard := none }) (v := ?vz11) rfl (by kernel_rfl) (by kernel_rfl) (by kernel_rfl) (fun _ _ _ h => h) (Or.inl ⟨by rfl, ?hyz11⟩) hHeld ?_
              case hyz11 => (intro w hSw; (try dsimp only at hSw); go_simp; (try with_reducible rfl))
              try simp only [Act.put, List.setIfInBounds_toArray, List.set_cons_zero, List.set_cons_succ]
              refine wpAnyH_take (i := 2) (oi := { dst := some 134, op := Op.indexAddr 24 (Operand.tmp 132) (Operand.tmp 133), type := 0, pos := "law.go:102", after := #[{ on := 0, ground := Ground.data }, { on := 1, ground := Ground.data }], guard := none }) (v := ?vz12) rfl (by kernel_rfl) (by kernel_rfl) (by kernel_rfl) (fun _ _ _ h => h) (Or.inl ⟨by rfl, ?hyz12⟩) hHeld ?_
              case hyz12 => (intro w hSw; (try dsimp only at hSw); go_simp; (try with_reducible rfl))
              try simp only [Act.put, List.setIfInBounds_toArray, List.set_cons_zero, List.set_cons_succ]
              refine wpAnyH_take (i := 3) (oi := { dst := some 135, op := Op.load 28 (Operand.tmp 134), type := 28, pos := "law.go:102", after := #[{ on := 2, ground := Ground.data }], guard := none }) (v := ?vz13) rfl (by kernel_rfl) (by kernel_rfl) (by kernel_rfl) (fun _ _ _ h => h) (Or.inl ⟨by rfl, ?hyz13⟩) hHeld ?_
              case hyz13 => (intro w hSw; (try dsimp only at hSw); go_simp; (try with_reducible rfl))
              try simp only [Act.put, List.setIfInBounds_toArray, List.set_cons_zero, List.set_cons_succ]
              refine wpAnyH_take (i := 4) (oi := { dst := some 136, op := Op.move (Operand.tmp 1), type := 24, pos := "law.go:102", after := #[], guard := none }) (v := ?vz14) rfl (by kernel_rfl) (by kernel_rfl) (by kernel_rfl) (fun _ _ _ h => h) (Or.inl ⟨by rfl, ?hyz14⟩) hHeld ?_
              case hyz14 => (intro w hSw; (try dsimp only at hSw); go_simp; (try with_reducible rfl))
              try simp only [Act.put, List.setIfInBounds_toArray, List.set_cons_zero, List.set_cons_succ]
              refine wpAnyH_take (i := 5) (oi := { dst := some 137, op := Op.move (Operand.tmp 17), type := 3, pos := "law.go:102", after := #[], guard := none }) (v := ?vz15) rfl (by kernel_rfl) (by kernel_rfl) (by kernel_rfl) (fun _ _ _ h => h) (Or.inl ⟨by rfl, ?hyz15⟩) hHeld ?_
              case hyz15 => (intro w hSw; (try dsimp only at hSw); go_simp; (try with_reducible rfl))
              try simp only [Act.put, List.setIfInBounds_toArray, List.set_cons_zero, List.set_cons_succ]
              refine wpAnyH_take (i := 6) (oi := { dst := some 138, op := Op.indexAddr 24 (Operand.tmp 136) (Operand.tmp 137), type := 0, pos := "law.go:102", after := #[{ on := 4, ground := Ground.data }, { on := 5, ground := Ground.data }], guard := none }) (v := ?vz16) rfl (by kernel_rfl) (by kernel_rfl) (by kernel_rfl) (fun _ _ _ h => h) (Or.inl ⟨by rfl, ?hyz16⟩) hHeld ?_
              case hyz16 => (intro w hSw; (try dsimp only at hSw); go_simp; (try with_reducible rfl))
              try simp only [Act.put, List.setIfInBounds_toArray, List.set_cons_zero, List.set_cons_succ]
              refine wpAnyH_take (i := 7) (oi := { dst := some 139, op := Op.load 28 (Operand.tmp 138), type := 28, pos := "law.go:102", after := #[{ on := 6, ground := Ground.data }], guard := none }) (v := ?vz17) rfl (by kernel_rfl) (by kernel_rfl) (by kernel_rfl) (fun _ _ _ h => h) (Or.inl ⟨by rfl, ?hyz17⟩) hHeld ?_
              case hyz17 => (intro w hSw; (try dsimp only at hSw); go_simp; (try with_reducible rfl))
              try simp only [Act.put, List.setIfInBounds_toArray, List.set_cons_zero, List.set_cons_succ]
              refine wpAnyH_take (i := 8) (oi := { dst := some 140, op := Op.binOp BinOp.neq 28 (Operand.tmp 135) (Operand.tmp 139) 28, type := 4, pos := "law.go:102", after := #[{ on := 3, ground := Ground.data }, { on := 7, ground := Ground.data }], guard := none }) (v := ?vz18) rfl (by kernel_rfl) (by kernel_rfl) (by kernel_rfl) (fun _ _ _ h => h) (Or.inl ⟨by rfl, ?hyz18⟩) hHeld ?_
              case hyz18 => (intro w hSw; (try dsimp only at hSw); go_simp; (try with_reducible rfl))
              try simp only [Act.put, List.setIfInBounds_toArray, List.set_cons_zero, List.set_cons_succ]
              refine wpAnyH_take (i := 9) (oi := { dst := some 131, op := Op.assign (Operand.tmp 140), type := 4, pos := "law.go:102", after := #[{ on := 8, ground := Ground.data }], guard := none }) (v := ?vz19) rfl (by kernel_rfl) (by kernel_rfl) (by kernel_rfl) (fun _ _ _ h => h) (Or.inl ⟨by rfl, ?hyz19⟩) hHeld ?_
              case hyz19 => (intro w hSw; (try dsimp only at hSw); go_simp; (try with_reducible rfl))
              try simp only [Act.put, List.setIfInBounds_toArray, List.set_cons_zero, List.set_cons_succ]
              refine wpAnyH_done (by kernel_rfl) ?_ _
              clear hHeld
              go_wp2_with fail
              go_roundw
              case rel => exact ⟨2 + 1, by go_num, by omega, Lib.hid ⟨HBB.out, HRR.out⟩⟩
              case measure => simp [intOf]; omega
            · have hge : decide (p ≥ 0) = false := by simp; omega
              clear hf0 hRW HI HWO hA hoth hBc he hk2
              go_wp2_with fail
              rw [show wr.cell? = wr.drew.cell? from rfl] at hl hr
              have HBB := Lib.hid HBB.out.drew
              have HRR : Hid (RowAt wr.drew R 28 n s1.f) := Lib.hid HRR.out
              refine wp_region_held_drew (S := (fun w' => w'.cell? ⟨b2, off + 2, none⟩ = some (.int .u64 (f 2)) ∧ w'.cell? ⟨R, 2, none⟩ = some (.int .u64 (f 2)))) (by kernel_rfl) ?_ (fun hHeld => ?_)
              · exact ⟨hl, hr⟩
              refine wpAnyH_take (i := 0) (oi := { dst := some 132, op := Op.move (Operand.tmp 16), type := 24, pos := "law.go:102", after := #[], guard := none }) (v := ?vz20) rfl (by kernel_rfl) (by kernel_rfl) (by kernel_rfl) (fun _ _ _ h => h) (Or.inl ⟨by rfl, ?hyz20⟩) hHeld ?_
              case hyz20 => (intro w hSw; (try dsimp only at hSw); go_simp; (try with_reducible rfl))
              try simp only [Act.put, List.setIfInBounds_toArray, List.set_cons_zero, List.set_cons_succ]
              refine wpAnyH_take (i := 1) (oi := { dst := some 133, op := Op.move (Operand.tmp 17), type := 3, pos := "law.go:102", after := #[], guard := none }) (v := ?vz21) rfl (by kernel_rfl) (by kernel_rfl) (by kernel_rfl) (fun _ _ _ h => h) (Or.inl ⟨by rfl, ?hyz21⟩) hHeld ?_
              case hyz21 => (intro w hSw; (try dsimp only at hSw); go_simp; (try with_reducible rfl))
              try simp only [Act.put, List.setIfInBounds_toArray, List.set_cons_zero, List.set_cons_succ]
              refine wpAnyH_take (i := 2) (oi := { dst := some 134, op := Op.indexAddr 24 (Operand.tmp 132) (Operand.tmp 133), type := 0, pos := "law.go:102", after := #[{ on := 0, ground := Ground.data }, { on := 1, ground := Ground.data }], guard := none }) (v := ?vz22) rfl (by kernel_rfl) (by kernel_rfl) (by kernel_rfl) (fun _ _ _ h => h) (Or.inl ⟨by rfl, ?hyz22⟩) hHeld ?_
              case hyz22 => (intro w hSw; (try dsimp only at hSw); go_simp; (try with_reducible rfl))
              try simp only [Act.put, List.setIfInBounds_toArray, List.set_cons_zero, List.set_cons_succ]
              refine wpAnyH_take (i := 3) (oi := { dst := some 135, op := Op.load 28 (Operand.tmp 134), type := 28, pos := "law.go:102", after := #[{ on := 2, ground := Ground.data }], guard := none }) (v := ?vz23) rfl (by kernel_rfl) (by kernel_rfl) (by kernel_rfl) (fun _ _ _ h => h) (Or.inl ⟨by rfl, ?hyz23⟩) hHeld ?_
              case hyz23 => (intro w hSw; (try dsimp only at hSw); go_simp; (try with_reducible rfl))
              try simp only [Act.put, List.setIfInBounds_toArray, List.set_cons_zero, List.set_cons_succ]
              refine wpAnyH_take (i := 4) (oi := { dst := some 136, op := Op.move (Operand.tmp 1), type := 24, pos := "law.go:102", after := #[], guard := none }) (v := ?vz24) rfl (by kernel_rfl) (by kernel_rfl) (by kernel_rfl) (fun _ _ _ h => h) (Or.inl ⟨by rfl, ?hyz24⟩) hHeld ?_
              case hyz24 => (intro w hSw; (try dsimp only at hSw); go_simp; (try with_reducible rfl))
              try simp only [Act.put, List.setIfInBounds_toArray, List.set_cons_zero, List.set_cons_succ]
              refine wpAnyH_take (i := 5) (oi := { dst := some 137, op := Op.move (Operand.tmp 17), type := 3, pos := "law.go:102", after := #[], guard := none }) (v := ?vz25) rfl (by kernel_rfl) (by kernel_rfl) (by kernel_rfl) (fun _ _ _ h => h) (Or.inl ⟨by rfl, ?hyz25⟩) hHeld ?_
              case hyz25 => (intro w hSw; (try dsimp only at hSw); go_simp; (try with_reducible rfl))
              try simp only [Act.put, List.setIfInBounds_toArray, List.set_cons_zero, List.set_cons_succ]
              refine wpAnyH_take (i := 6) (oi := { dst := some 138, op := Op.indexAddr 24 (Operand.tmp 136) (Operand.tmp 137), type := 0, pos := "law.go:102", after := #[{ on := 4, ground := Ground.data }, { on := 5, ground := Ground.data }], guard := none }) (v := ?vz26) rfl (by kernel_rfl) (by kernel_rfl) (by kernel_rfl) (fun _ _ _ h => h) (Or.inl ⟨by rfl, ?hyz26⟩) hHeld ?_
              case hyz26 => (intro w hSw; (try dsimp only at hSw); go_simp; (try with_reducible rfl))
              try simp only [Act.put, List.setIfInBounds_toArray, List.set_cons_zero, List.set_cons_succ]
              refine wpAnyH_take (i := 7) (oi := { dst := some 139, op := Op.load 28 (Operand.tmp 138), type := 28, pos := "law.go:102", after := #[{ on := 6, ground := Ground.data }], guard := none }) (v := ?vz27) rfl (by kernel_rfl) (by kernel_rfl) (by kernel_rfl) (fun _ _ _ h => h) (Or.inl ⟨by rfl, ?hyz27⟩) hHeld ?_
              case hyz27 => (intro w hSw; (try dsimp only at hSw); go_simp; (try with_reducible rfl))
              try simp only [Act.put, List.setIfInBounds_toArray, List.set_cons_zero, List.set_cons_succ]
              refine wpAnyH_take (i := 8) (oi := { dst := some 140, op := Op.binOp BinOp.neq 28 (Operand.tmp 135) (Operand.tmp 139) 28, type := 4, pos := "law.go:102", after := #[{ on := 3, ground := Ground.data }, { on := 7, ground := Ground.data }], guard := none }) (v := ?vz28) rfl (by kernel_rfl) (by kernel_rfl) (by kernel_rfl) (fun _ _ _ h => h) (Or.inl ⟨by rfl, ?hyz28⟩) hHeld ?_
              case hyz28 => (intro w hSw; (try dsimp only at hSw); go_simp; (try with_reducible rfl))
              try simp only [Act.put, List.setIfInBounds_toArray, List.set_cons_zero, List.set_cons_succ]
              refine wpAnyH_take (i := 9) (oi := { dst := some 131, op := Op.assign (Operand.tmp 140), type := 4, pos := "law.go:102", after := #[{ on := 8, ground := Ground.data }], guard := none }) (v := ?vz29) rfl (by kernel_rfl) (by kernel_rfl) (by kernel_rfl) (fun _ _ _ h => h) (Or.inl ⟨by rfl, ?hyz29⟩) hHeld ?_
              case hyz29 => (intro w hSw; (try dsimp only at hSw); go_simp; (try with_reducible rfl))
              try simp only [Act.put, List.setIfInBounds_toArray, List.set_cons_zero, List.set_cons_succ]
              refine wpAnyH_done (by kernel_rfl) ?_ _
              clear hHeld
              go_wp2_with fail
              go_roundw
              case rel => exact ⟨2 + 1, by go_num, by omega, Lib.hid ⟨HBB.out, HRR.out⟩⟩
              case measure => simp [intOf]; omega
          · have hk2 : ((k : Int) == 2) = false := by simpa using hk2
            clear hf0 hRW HI HWO hA hoth hBc he
            go_wp2_with fail
            rw [show wr.cell? = wr.drew.cell? from rfl] at hl hr
            have HBB := Lib.hid HBB.out.drew
            have HRR : Hid (RowAt wr.drew R 28 n s1.f) := Lib.hid HRR.out
            refine wp_region_held_drew (S := (fun w' => w'.cell? ⟨b2, off + k, none⟩ = some (.int .u64 (f k)) ∧ w'.cell? ⟨R, k, none⟩ = some (.int .u64 (f k)))) (by kernel_rfl) ?_ (fun hHeld => ?_)
            · exact ⟨hl, hr⟩
            refine wpAnyH_take (i := 0) (oi := { dst := some 132, op := Op.move (Operand.tmp 16), type := 24, pos := "law.go:102", after := #[], guard := none }) (v := ?vz30) rfl (by kernel_rfl) (by kernel_rfl) (by kernel_rfl) (fun _ _ _ h => h) (Or.inl ⟨by rfl, ?hyz30⟩) hHeld ?_
            case hyz30 => (intro w hSw; (try dsimp only at hSw); go_simp; (try with_reducible rfl))
            try simp only [Act.put, List.setIfInBounds_toArray, List.set_cons_zero, List.set_cons_succ]
            refine wpAnyH_take (i := 1) (oi := { dst := some 133, op := Op.move (Operand.tmp 17), type := 3, pos := "law.go:102", after := #[], guard := none }) (v := ?vz31) rfl (by kernel_rfl) (by kernel_rfl) (by kernel_rfl) (fun _ _ _ h => h) (Or.inl ⟨by rfl, ?hyz31⟩) hHeld ?_
            case hyz31 => (intro w hSw; (try dsimp only at hSw); go_simp; (try with_reducible rfl))
            try simp only [Act.put, List.setIfInBounds_toArray, List.set_cons_zero, List.set_cons_succ]
            refine wpAnyH_take (i := 2) (oi := { dst := some 134, op := Op.indexAddr 24 (Operand.tmp 132) (Operand.tmp 133), type := 0, pos := "law.go:102", after := #[{ on := 0, ground := Ground.data }, { on := 1, ground := Ground.data }], guard := none }) (v := ?vz32) rfl (by kernel_rfl) (by kernel_rfl) (by kernel_rfl) (fun _ _ _ h => h) (Or.inl ⟨by rfl, ?hyz32⟩) hHeld ?_
            case hyz32 => (intro w hSw; (try dsimp only at hSw); go_simp; (try with_reducible rfl))
            try simp only [Act.put, List.setIfInBounds_toArray, List.set_cons_zero, List.set_cons_succ]
            refine wpAnyH_take (i := 3) (oi := { dst := some 135, op := Op.load 28 (Operand.tmp 134), type := 28, pos := "law.go:102", after := #[{ on := 2, ground := Ground.data }], guard := none }) (v := ?vz33) rfl (by kernel_rfl) (by kernel_rfl) (by kernel_rfl) (fun _ _ _ h => h) (Or.inl ⟨by rfl, ?hyz33⟩) hHeld ?_
            case hyz33 => (intro w hSw; (try dsimp only at hSw); go_simp; (try with_reducible rfl))
            try simp only [Act.put, List.setIfInBounds_toArray, List.set_cons_zero, List.set_cons_succ]
            refine wpAnyH_take (i := 4) (oi := { dst := some 136, op := Op.move (Operand.tmp 1), type := 24, pos := "law.go:102", after := #[], guard := none }) (v := ?vz34) rfl (by kernel_rfl) (by kernel_rfl) (by kernel_rfl) (fun _ _ _ h => h) (Or.inl ⟨by rfl, ?hyz34⟩) hHeld ?_
            case hyz34 => (intro w hSw; (try dsimp only at hSw); go_simp; (try with_reducible rfl))
            try simp only [Act.put, List.setIfInBounds_toArray, List.set_cons_zero, List.set_cons_succ]
            refine wpAnyH_take (i := 5) (oi := { dst := some 137, op := Op.move (Operand.tmp 17), type := 3, pos := "law.go:102", after := #[], guard := none }) (v := ?vz35) rfl (by kernel_rfl) (by kernel_rfl) (by kernel_rfl) (fun _ _ _ h => h) (Or.inl ⟨by rfl, ?hyz35⟩) hHeld ?_
            case hyz35 => (intro w hSw; (try dsimp only at hSw); go_simp; (try with_reducible rfl))
            try simp only [Act.put, List.setIfInBounds_toArray, List.set_cons_zero, List.set_cons_succ]
            refine wpAnyH_take (i := 6) (oi := { dst := some 138, op := Op.indexAddr 24 (Operand.tmp 136) (Operand.tmp 137), type := 0, pos := "law.go:102", after := #[{ on := 4, ground := Ground.data }, { on := 5, ground := Ground.data }], guard := none }) (v := ?vz36) rfl (by kernel_rfl) (by kernel_rfl) (by kernel_rfl) (fun _ _ _ h => h) (Or.inl ⟨by rfl, ?hyz36⟩) hHeld ?_
            case hyz36 => (intro w hSw; (try dsimp only at hSw); go_simp; (try with_reducible rfl))
            try simp only [Act.put, List.setIfInBounds_toArray, List.set_cons_zero, List.set_cons_succ]
            refine wpAnyH_take (i := 7) (oi := { dst := some 139, op := Op.load 28 (Operand.tmp 138), type := 28, pos := "law.go:102", after := #[{ on := 6, ground := Ground.data }], guard := none }) (v := ?vz37) rfl (by kernel_rfl) (by kernel_rfl) (by kernel_rfl) (fun _ _ _ h => h) (Or.inl ⟨by rfl, ?hyz37⟩) hHeld ?_
            case hyz37 => (intro w hSw; (try dsimp only at hSw); go_simp; (try with_reducible rfl))
            try simp only [Act.put, List.setIfInBounds_toArray, List.set_cons_zero, List.set_cons_succ]
            refine wpAnyH_take (i := 8) (oi := { dst := some 140, op := Op.binOp BinOp.neq 28 (Operand.tmp 135) (Operand.tmp 139) 28, type := 4, pos := "law.go:102", after := #[{ on := 3, ground := Ground.data }, { on := 7, ground := Ground.data }], guard := none }) (v := ?vz38) rfl (by kernel_rfl) (by kernel_rfl) (by kernel_rfl) (fun _ _ _ h => h) (Or.inl ⟨by rfl, ?hyz38⟩) hHeld ?_
            case hyz38 => (intro w hSw; (try dsimp only at hSw); go_simp; (try with_reducible rfl))
            try simp only [Act.put, List.setIfInBounds_toArray, List.set_cons_zero, List.set_cons_succ]
            refine wpAnyH_take (i := 9) (oi := { dst := some 131, op := Op.assign (Operand.tmp 140), type := 4, pos := "law.go:102", after := #[{ on := 8, ground := Ground.data }], guard := none }) (v := ?vz39) rfl (by kernel_rfl) (by kernel_rfl) (by kernel_rfl) (fun _ _ _ h => h) (Or.inl ⟨by rfl, ?hyz39⟩) hHeld ?_
            case hyz39 => (intro w hSw; (try dsimp only at hSw); go_simp; (try with_reducible rfl))
            try simp only [Act.put, List.setIfInBounds_toArray, List.set_cons_zero, List.set_cons_succ]
            refine wpAnyH_done (by kernel_rfl) ?_ _
            clear hHeld
            go_wp2_with fail
            go_roundw
            case rel => exact ⟨k + 1, by go_num, by omega, Lib.hid ⟨HBB.out, HRR.out⟩⟩
            case measure => simp [intOf]; omega
        · obtain rfl : k = n := by omega
          have HB7 := Lib.hid hB
          clear hB hRW HI
          go_wp2_with fail
          go_ret
          exact ⟨rfl, HB7.out⟩
end Go.Proofs.YtckmdkebacbcjaaDoor
