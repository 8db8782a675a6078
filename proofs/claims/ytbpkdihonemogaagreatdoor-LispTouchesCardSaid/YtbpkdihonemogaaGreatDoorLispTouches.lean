/- LispTouches answers true: a step of a mutator changes one word at most, by the access that is noted, and none of another mutator's in and registers. -/
import Derived.Test.YtbpkdihonemogaaGreatDoorM9
import Derived.Test.YtbpkdihonemogaaGreatDoorLispTouch
import Derived.Test.YtbpkdihonemogaaGreatDoorTwo
namespace Go.Proofs.YtbpkdihonemogaaGreatDoor
open Go Go.RowKit
set_option maxRecDepth 100000
attribute [local go_sem ↓] Go.wp_at_zero Go.wp_at_succ

/-- Behind a step: the hand, its words in a row beside the words that were handed in. -/
structure TchAt (w W : World) (H A G Z : Nat) (C : Cf) (s : Dy) (v0 : Option Addr) (n : Nat) (f : Nat → Int) (B : Nat) : Prop where
  old : Below w.heap.size w W
  hand : HAt W H A G C s
  now : RowAt W Z 28 n s.f
  was : WordsAt W v0 n f
  box : BoxAt W B C.a C.b C.c C.d
theorem TchAt.drew {w W : World} {H A G Z : Nat} {C : Cf} {s : Dy} {v0 : Option Addr} {n : Nat} {f : Nat → Int} {B : Nat} (h : TchAt w W H A G Z C s v0 n f B) : TchAt w W.drew H A G Z C s v0 n f B := ⟨h.old.drew, h.hand.drew, h.now, h.was, h.box⟩
set_option maxHeartbeats 6400000 in
theorem touches_any (a b c d : Int) (v0 : Option Addr) (n c0 : Nat) (f : Nat → Int) (z : Int) (m : Mu) (hm : m.U) (hl : -9223372036854775808 ≤ m.l ∧ m.l ≤ 9223372036854775807) (hq1 : -9223372036854775808 ≤ m.q1 ∧ m.q1 ≤ 9223372036854775807) (hq3 : m.q3 ≤ 9223372036854775807) (w : World) (hS : SpansAt w) (hG : Given w v0 n c0 f) :
    Calls Tryz.prog 5 #[.agg #[.int .i64 a, .int .i64 b, .int .i64 c, .int .i64 d], .slice v0 n c0, .int .i64 z, m.v] w fun e w' => e = .returned (.bool true) ∧ Below w.heap.size w w' := by
  have HB0 := Lib.hid (below_on (below_new w (.cells #[.int .i64 a, .int .i64 b, .int .i64 c, .int .i64 d] 39)) (.cells #[.int .i64 m.l, .int .i64 m.q1, .int .i64 m.q2, .int .i64 m.q3, .int .i64 m.q4, .int .u64 m.m1, .int .u64 m.m2, .int .u64 m.m3, .int .u64 m.m4, .int .u64 m.m5, .int .u64 m.p, .int .i64 m.bk, .int .i64 m.rt] 30))
  have HX0 : Hid (BoxAt ((w.alloc (.cells #[.int .i64 a, .int .i64 b, .int .i64 c, .int .i64 d] 39)).alloc (.cells #[.int .i64 m.l, .int .i64 m.q1, .int .i64 m.q2, .int .i64 m.q3, .int .i64 m.q4, .int .u64 m.m1, .int .u64 m.m2, .int .u64 m.m3, .int .u64 m.m4, .int .u64 m.m5, .int .u64 m.p, .int .i64 m.bk, .int .i64 m.rt] 30)) w.heap.size a b c d) := Lib.hid ((BoxAt.new w a b c d 39).below (below_new _ _))
  have HM0 : Hid (MuAt ((w.alloc (.cells #[.int .i64 a, .int .i64 b, .int .i64 c, .int .i64 d] 39)).alloc (.cells #[.int .i64 m.l, .int .i64 m.q1, .int .i64 m.q2, .int .i64 m.q3, .int .i64 m.q4, .int .u64 m.m1, .int .u64 m.m2, .int .u64 m.m3, .int .u64 m.m4, .int .u64 m.m5, .int .u64 m.p, .int .i64 m.bk, .int .i64 m.rt] 30)) (w.heap.size + 1) m) := Lib.hid (by have := Mut13.new (w.alloc (.cells #[.int .i64 a, .int .i64 b, .int .i64 c, .int .i64 d] 39)) m.l m.p m.bk m.q1 m.q2 m.q3 m.q4 m.m1 m.m2 m.m3 m.m4 m.m5 m.rt; simpa using this)
  have HS := Lib.hid hS; have HG := Lib.hid hG
  have HU := Lib.hid (And.intro hm (And.intro hl (And.intro hq1 hq3)))
  clear hS hG hm hl hq1 hq3
  obtain ⟨x0, x1, x2, x3⟩ := HX0.out
  go_enter Tryz.func5, Tryz.ntmps5
  go_wp2_with fail
  refine (awake_c _ (HS.out.below HB0.out)).mono ?_
  rintro e W1 ⟨rfl, hW⟩
  have HB1 := Lib.hid (belowOn HB0.out hW)
  have HX1 := Lib.hid (HX0.out.below hW)
  have HM1 : Hid (MuAt W1 (w.heap.size + 1) m) := Lib.hid (HM0.out.below hW)
  clear hW HB0 HX0 HM0 x0 x1 x2 x3
  obtain ⟨x0, x1, x2, x3⟩ := HX1.out
  go_wp2_with fail
  refine (Both_any a b c d v0 n c0 f _ (HS.out.below HB1.out) ⟨HG.out.1, HG.out.2.1.below HB1.out, HG.out.2.2⟩).mono ?_
  rintro e W2 (⟨_, rfl, hW⟩ | ⟨hok, P, rfl, hT⟩)
  · have HB2 := Lib.hid (belowOn HB1.out hW)
    clear hW HX1 HM1 HB1 x0 x1 x2 x3
    go_wp2_with fail
    go_ret
    exact ⟨rfl, HB2.out⟩
  have hC : CfOK ⟨n, a, b, c, d⟩ := ⟨hok.2.1, hok.2.2⟩
  have hu : Dy.U ⟨f, 0, 0, 0, 0, 0⟩ := HG.out.2.2.1
  have hn20 : n ≤ 20000 := by have := hok.2.1.prod; have h1 := hok.2.2; have h2 := hok.2.1; unfold Right at h2; omega
  have hbb : 1 ≤ b ∧ b ≤ 63 ∧ 1 ≤ c ∧ c ≤ 64 ∧ 0 ≤ d ∧ d ≤ 64 := by have h2 := hok.2.1; unfold Right at h2; omega
  have HL := lisp_c (C := ⟨n, a, b, c, d⟩) (s := ⟨f, 0, 0, 0, 0, 0⟩) hT.hand hC.pos hu ((HS.out.below HB1.out).below hT.old) z m HU.out.1 HU.out.2.2.1 HU.out.2.2.2 HU.out.2.1
  have hA := lisp_acts hC ⟨f, 0, 0, 0, 0, 0⟩ z m
  generalize lispS ⟨n, a, b, c, d⟩ ⟨f, 0, 0, 0, 0, 0⟩ z m = r at *
  obtain ⟨s', m', li, bo⟩ := r
  dsimp only at HL hA
  have HTch : Hid (∀ j : Nat, s'.f j ≠ f j → s'.i = j ∧ 2 ≤ s'.k ∧ s'.o = f j ∧ MineP ⟨n, a, b, c, d⟩ z j) := Lib.hid (fun j hj => Acts.touch hA hj)
  have HL := Lib.hid HL; have HT := Lib.hid hT; have HK := Lib.hid hC
  have HM2 : Hid (MuAt W2 (w.heap.size + 1) m) := Lib.hid (HM1.out.below hT.old)
  have HW1 := Lib.hid (HG.out.2.1.below HB1.out)
  clear hA hT hok hC hu HM1 HS x0 x1 x2 x3
  obtain ⟨b0, b1, b2, b3, b4, b5, b6, b7, b8, b9, b10, b11, b12, bf⟩ := HM2.out.cells
  go_wp2_with fail
  refine HL.out.mono ?_
  rintro e W3 hp
  have hF := hp.2.1
  obtain ⟨rfl, hT⟩ := Two.step HT.out hp
  clear hp
  obtain ⟨H, A, G, X, va, cap, N⟩ := P
  dsimp only at hF hT
  have h3 : W3.cell? ⟨H, 0, none⟩ = some (.pointer (some ⟨A, 0, none⟩)) := hF.cells.1
  have hAr := Lib.hid hF.ar
  have HF3 := Lib.hid hF
  have HT3 := Lib.hid hT
  clear hF hT HT HL HM2 b0 b1 b2 b3 b4 b5 b6 b7 b8 b9 b10 b11 b12 bf
  go_wp2_with fail
  refine (All_c hAr.out hn20).mono ?_
  rintro e W4 ⟨rfl, hrow, hb4⟩
  have HT4 : Hid (TchAt w W4 H A G W3.heap.size ⟨n, a, b, c, d⟩ s' v0 n f w.heap.size) := Lib.hid ⟨belowOn HB1.out (belowOn HT3.out.old hb4), HF3.out.below hb4, hrow, HW1.out.below (belowOn HT3.out.old hb4), (HX1.out.below HT3.out.old).below hb4⟩
  generalize W3.heap.size = Z at *
  have hnn : ((n : Int) != (n : Int)) = false := by simp
  clear hrow hb4 HF3 HT3 hAr h3 HX1 HW1 HB1
  go_wp2_with fail
  go_loopw [13] (fun vi wr => ∃ k : Nat, vi = .int .i64 k ∧ k ≤ n ∧ Hid (TchAt w wr H A G Z ⟨n, a, b, c, d⟩ s' v0 n f w.heap.size)) (fun vi _ => n - (intOf vi).toNat)
  case atStart => exact ⟨0, rfl, by omega, HT4⟩
  case round =>
    clear HT4
    obtain ⟨k, rfl, hk, HT⟩ := hrel
    by_cases hlt : k < n
    · have hk0 : (0 : Int) ≤ (k : Int) := by omega
      have hkn : (k : Int) < (n : Int) := by omega
      obtain ⟨bz, off, rfl, hbz, hcell⟩ : ∃ bz off, v0 = some ⟨bz, off, none⟩ ∧ bz < wr.heap.size ∧ ∀ j, j < n → wr.cell? ⟨bz, off + j, none⟩ = some (.int .u64 (f j)) := by
        rcases HT.out.was with h | h
        · omega
        · exact h
      have k1 := HT.out.now.cell hlt
      have k2 := hcell k hlt
      clear hcell hbz
      generalize hg1 : s'.f k = g1 at *
      generalize hg2 : f k = g2 at *
      go_wp2_with fail
      refine wp_region_noPanic ?_
      refine wp_region_held_drew (S := (fun w' => w'.cell? ⟨Z, k, none⟩ = some (.int .u64 g1) ∧ w'.cell? ⟨bz, off + k, none⟩ = some (.int .u64 g2))) (by kernel_rfl) ?_ (fun hHeld => ?_)
      · exact ⟨k1, k2⟩
      refine wpAnyH_take (i := 0) (oi := { dst := some 47, op := Op.move (Operand.tmp 12), type := 24, pos := "law.go:160", after := #[], guard := none }) (v := ?vq0) rfl (by kernel_rfl) (by kernel_rfl) (by kernel_rfl) (fun _ _ _ h => h) (Or.inl ⟨by rfl, ?hyq0⟩) hHeld ?_
      case hyq0 => (intro w hSw; (try dsimp only at hSw); go_simp; (try with_reducible rfl))
      try simp only [Act.put, List.setIfInBounds_toArray, List.set_cons_zero, List.set_cons_succ]
      refine wpAnyH_take (i := 1) (oi := { dst := some 48, op := Op.move (Operand.tmp 13), type := 3, pos := "law.go:160", after := #[], guard := none }) (v := ?vq1) rfl (by kernel_rfl) (by kernel_rfl) (by kernel_rfl) (fun _ _ _ h => h) (Or.inl ⟨by rfl, ?hyq1⟩) hHeld ?_
      case hyq1 => (intro w hSw; (try dsimp only at hSw); go_simp; (try with_reducible rfl))
      try simp only [Act.put, List.setIfInBounds_toArray, List.set_cons_zero, List.set_cons_succ]
      refine wpAnyH_take (i := 2) (oi := { dst := some 49, op := Op.indexAddr 24 (Operand.tmp 47) (Operand.tmp 48), type := 0, pos := "law.go:160", after := #[{ on := 0, ground := Ground.data }, { on := 1, ground := Ground.data }], guard := none }) (v := ?vq2) rfl (by kernel_rfl) (by kernel_rfl) (by kernel_rfl) (fun _ _ _ h => h) (Or.inl ⟨by rfl, ?hyq2⟩) hHeld ?_
      case hyq2 => (intro w hSw; (try dsimp only at hSw); go_simp; (try with_reducible rfl))
      try simp only [Act.put, List.setIfInBounds_toArray, List.set_cons_zero, List.set_cons_succ]
      refine wpAnyH_take (i := 3) (oi := { dst := some 50, op := Op.load 28 (Operand.tmp 49), type := 28, pos := "law.go:160", after := #[{ on := 2, ground := Ground.data }], guard := none }) (v := ?vq3) rfl (by kernel_rfl) (by kernel_rfl) (by kernel_rfl) (fun _ _ _ h => h) (Or.inl ⟨by rfl, ?hyq3⟩) hHeld ?_
      case hyq3 => (intro w hSw; (try dsimp only at hSw); go_simp; (try with_reducible rfl))
      try simp only [Act.put, List.setIfInBounds_toArray, List.set_cons_zero, List.set_cons_succ]
      refine wpAnyH_take (i := 4) (oi := { dst := some 51, op := Op.move (Operand.tmp 1), type := 24, pos := "law.go:160", after := #[], guard := none }) (v := ?vq4) rfl (by kernel_rfl) (by kernel_rfl) (by kernel_rfl) (fun _ _ _ h => h) (Or.inl ⟨by rfl, ?hyq4⟩) hHeld ?_
      case hyq4 => (intro w hSw; (try dsimp only at hSw); go_simp; (try with_reducible rfl))
      try simp only [Act.put, List.setIfInBounds_toArray, List.set_cons_zero, List.set_cons_succ]
      refine wpAnyH_take (i := 5) (oi := { dst := some 52, op := Op.move (Operand.tmp 13), type := 3, pos := "law.go:160", after := #[], guard := none }) (v := ?vq5) rfl (by kernel_rfl) (by kernel_rfl) (by kernel_rfl) (fun _ _ _ h => h) (Or.inl ⟨by rfl, ?hyq5⟩) hHeld ?_
      case hyq5 => (intro w hSw; (try dsimp only at hSw); go_simp; (try with_reducible rfl))
      try simp only [Act.put, List.setIfInBounds_toArray, List.set_cons_zero, List.set_cons_succ]
      refine wpAnyH_take (i := 6) (oi := { dst := some 53, op := Op.indexAddr 24 (Operand.tmp 51) (Operand.tmp 52), type := 0, pos := "law.go:160", after := #[{ on := 4, ground := Ground.data }, { on := 5, ground := Ground.data }], guard := none }) (v := ?vq6) rfl (by kernel_rfl) (by kernel_rfl) (by kernel_rfl) (fun _ _ _ h => h) (Or.inl ⟨by rfl, ?hyq6⟩) hHeld ?_
      case hyq6 => (intro w hSw; (try dsimp only at hSw); go_simp; (try with_reducible rfl))
      try simp only [Act.put, List.setIfInBounds_toArray, List.set_cons_zero, List.set_cons_succ]
      refine wpAnyH_take (i := 7) (oi := { dst := some 54, op := Op.load 28 (Operand.tmp 53), type := 28, pos := "law.go:160", after := #[{ on := 6, ground := Ground.data }], guard := none }) (v := ?vq7) rfl (by kernel_rfl) (by kernel_rfl) (by kernel_rfl) (fun _ _ _ h => h) (Or.inl ⟨by rfl, ?hyq7⟩) hHeld ?_
      case hyq7 => (intro w hSw; (try dsimp only at hSw); go_simp; (try with_reducible rfl))
      try simp only [Act.put, List.setIfInBounds_toArray, List.set_cons_zero, List.set_cons_succ]
      refine wpAnyH_take (i := 8) (oi := { dst := some 55, op := Op.binOp BinOp.eql 28 (Operand.tmp 50) (Operand.tmp 54) 28, type := 4, pos := "law.go:160", after := #[{ on := 3, ground := Ground.data }, { on := 7, ground := Ground.data }], guard := none }) (v := ?vq8) rfl (by kernel_rfl) (by kernel_rfl) (by kernel_rfl) (fun _ _ _ h => h) (Or.inl ⟨by rfl, ?hyq8⟩) hHeld ?_
      case hyq8 => (intro w hSw; (try dsimp only at hSw); go_simp; (try with_reducible rfl))
      try simp only [Act.put, List.setIfInBounds_toArray, List.set_cons_zero, List.set_cons_succ]
      refine wpAnyH_done (by kernel_rfl) ?_ _
      refine NoPanic.normal ?_
      clear hHeld k1 k2
      have HT1 := Lib.hid HT.out.drew
      clear HT
      generalize wr.drew = V1 at *
      by_cases heq : g1 = g2
      · have he : (g1 == g2) = true := by simpa using heq
        clear heq
        go_wp2_with fail
        go_roundw
        case rel => exact ⟨k + 1, by go_num, by omega, HT1⟩
        case measure => simp [intOf]; omega
      · have he : (g1 == g2) = false := by simpa using heq
        obtain ⟨e1, e2, e3, e4⟩ := HTch.out k (by rw [hg1, hg2]; exact heq)
        have hMine := Lib.hid e4
        obtain ⟨_, _, u5, u6, _, _, u9, _⟩ := HT1.out.hand.cells
        rw [e1] at u6
        rw [e3, hg2] at u9
        generalize s'.k = kk at *
        obtain ⟨bz', off', hb', hbz', hcell'⟩ : ∃ bz' off', some (⟨bz, off, none⟩ : Addr) = some ⟨bz', off', none⟩ ∧ bz' < V1.heap.size ∧ ∀ j, j < n → V1.cell? ⟨bz', off' + j, none⟩ = some (.int .u64 (f j)) := by
          rcases HT1.out.was with h | h
          · omega
          · exact h
        obtain ⟨rfl, rfl⟩ : bz = bz' ∧ off = off' := by simpa using hb'
        have k2 := hcell' k hlt
        rw [hg2] at k2
        clear hcell' hbz' hb' e1 e3 e4 heq
        have hkk : ((k : Int) != (k : Int)) = false := by simp
        have hg22 : (g2 != g2) = false := by simp
        have hk2 : decide (kk < 2) = false := decide_eq_false (by omega)
        go_wp2_with fail
        refine wp_region_noPanic ?_
        refine wp_region_held_drew (S := (fun w' => w'.cell? ⟨H, 5, none⟩ = some (.int .i64 kk) ∧ w'.cell? ⟨H, 6, none⟩ = some (.int .i64 k) ∧ w'.cell? ⟨H, 9, none⟩ = some (.int .u64 g2) ∧ w'.cell? ⟨bz, off + k, none⟩ = some (.int .u64 g2))) (by kernel_rfl) ?_ (fun hHeld => ?_)
        · exact ⟨u5, u6, u9, k2⟩
        refine wpAnyH_take (i := 0) (oi := { dst := some 56, op := Op.move (Operand.tmp 9), type := 43, pos := "law.go:163", after := #[], guard := none }) (v := ?vp0) rfl (by kernel_rfl) (by kernel_rfl) (by kernel_rfl) (fun _ _ _ h => h) (Or.inl ⟨by rfl, ?hyp0⟩) hHeld ?_
        case hyp0 => (intro w hSw; (try dsimp only at hSw); go_simp; (try with_reducible rfl))
        try simp only [Act.put, List.setIfInBounds_toArray, List.set_cons_zero, List.set_cons_succ]
        refine wpAnyH_take (i := 1) (oi := { dst := some 57, op := Op.nilCheck (Operand.tmp 56), type := 0, pos := "law.go:163", after := #[{ on := 0, ground := Ground.data }], guard := none }) (v := ?vp1) rfl (by kernel_rfl) (by kernel_rfl) (by kernel_rfl) (fun _ _ _ h => h) (Or.inl ⟨by rfl, ?hyp1⟩) hHeld ?_
        case hyp1 => (intro w hSw; (try dsimp only at hSw); go_simp; (try with_reducible rfl))
        try simp only [Act.put, List.setIfInBounds_toArray, List.set_cons_zero, List.set_cons_succ]
        refine wpAnyH_take (i := 2) (oi := { dst := some 58, op := Op.fieldAddr 62 (Operand.tmp 57) 2, type := 0, pos := "law.go:163", after := #[{ on := 1, ground := Ground.data }], guard := none }) (v := ?vp2) rfl (by kernel_rfl) (by kernel_rfl) (by kernel_rfl) (fun _ _ _ h => h) (Or.inl ⟨by rfl, ?hyp2⟩) hHeld ?_
        case hyp2 => (intro w hSw; (try dsimp only at hSw); go_simp; (try with_reducible rfl))
        try simp only [Act.put, List.setIfInBounds_toArray, List.set_cons_zero, List.set_cons_succ]
        refine wpAnyH_take (i := 3) (oi := { dst := some 59, op := Op.fieldAddr 60 (Operand.tmp 58) 1, type := 0, pos := "law.go:163", after := #[{ on := 2, ground := Ground.data }], guard := none }) (v := ?vp3) rfl (by kernel_rfl) (by kernel_rfl) (by kernel_rfl) (fun _ _ _ h => h) (Or.inl ⟨by rfl, ?hyp3⟩) hHeld ?_
        case hyp3 => (intro w hSw; (try dsimp only at hSw); go_simp; (try with_reducible rfl))
        try simp only [Act.put, List.setIfInBounds_toArray, List.set_cons_zero, List.set_cons_succ]
        refine wpAnyH_take (i := 4) (oi := { dst := some 60, op := Op.load 3 (Operand.tmp 59), type := 3, pos := "law.go:163", after := #[{ on := 3, ground := Ground.data }], guard := none }) (v := ?vp4) rfl (by kernel_rfl) (by kernel_rfl) (by kernel_rfl) (fun _ _ _ h => h) (Or.inl ⟨by rfl, ?hyp4⟩) hHeld ?_
        case hyp4 => (intro w hSw; (try dsimp only at hSw); go_simp; (try with_reducible rfl))
        try simp only [Act.put, List.setIfInBounds_toArray, List.set_cons_zero, List.set_cons_succ]
        refine wpAnyH_take (i := 5) (oi := { dst := some 61, op := Op.move (Operand.tmp 13), type := 3, pos := "law.go:163", after := #[], guard := none }) (v := ?vp5) rfl (by kernel_rfl) (by kernel_rfl) (by kernel_rfl) (fun _ _ _ h => h) (Or.inl ⟨by rfl, ?hyp5⟩) hHeld ?_
        case hyp5 => (intro w hSw; (try dsimp only at hSw); go_simp; (try with_reducible rfl))
        try simp only [Act.put, List.setIfInBounds_toArray, List.set_cons_zero, List.set_cons_succ]
        refine wpAnyH_take (i := 6) (oi := { dst := some 62, op := Op.binOp BinOp.neq 3 (Operand.tmp 60) (Operand.tmp 61) 3, type := 4, pos := "law.go:163", after := #[{ on := 4, ground := Ground.data }, { on := 5, ground := Ground.data }], guard := none }) (v := ?vp6) rfl (by kernel_rfl) (by kernel_rfl) (by kernel_rfl) (fun _ _ _ h => h) (Or.inl ⟨by rfl, ?hyp6⟩) hHeld ?_
        case hyp6 => (intro w hSw; (try dsimp only at hSw); go_simp; (try with_reducible rfl))
        try simp only [Act.put, List.setIfInBounds_toArray, List.set_cons_zero, List.set_cons_succ]
        refine wpAnyH_take (i := 7) (oi := { dst := some 63, op := Op.move (Operand.tmp 62), type := 4, pos := "law.go:163", after := #[{ on := 6, ground := Ground.data }], guard := none }) (v := ?vp7) rfl (by kernel_rfl) (by kernel_rfl) (by kernel_rfl) (fun _ _ _ h => h) (Or.inl ⟨by rfl, ?hyp7⟩) hHeld ?_
        case hyp7 => (intro w hSw; (try dsimp only at hSw); go_simp; (try with_reducible rfl))
        try simp only [Act.put, List.setIfInBounds_toArray, List.set_cons_zero, List.set_cons_succ]
        refine wpAnyH_take (i := 8) (oi := { dst := some 64, op := Op.move (Operand.tmp 9), type := 43, pos := "law.go:163", after := #[{ on := 7, ground := Ground.guard }], guard := some (7, false) }) (v := ?vp8) rfl (by kernel_rfl) (by kernel_rfl) (by kernel_rfl) (fun _ _ _ h => h) (Or.inl ⟨by rfl, ?hyp8⟩) hHeld ?_
        case hyp8 => (intro w hSw; (try dsimp only at hSw); go_simp; (try with_reducible rfl))
        try simp only [Act.put, List.setIfInBounds_toArray, List.set_cons_zero, List.set_cons_succ]
        refine wpAnyH_take (i := 9) (oi := { dst := some 65, op := Op.nilCheck (Operand.tmp 64), type := 0, pos := "law.go:163", after := #[{ on := 8, ground := Ground.data }, { on := 7, ground := Ground.guard }], guard := some (7, false) }) (v := ?vp9) rfl (by kernel_rfl) (by kernel_rfl) (by kernel_rfl) (fun _ _ _ h => h) (Or.inl ⟨by rfl, ?hyp9⟩) hHeld ?_
        case hyp9 => (intro w hSw; (try dsimp only at hSw); go_simp; (try with_reducible rfl))
        try simp only [Act.put, List.setIfInBounds_toArray, List.set_cons_zero, List.set_cons_succ]
        refine wpAnyH_take (i := 10) (oi := { dst := some 66, op := Op.fieldAddr 62 (Operand.tmp 65) 2, type := 0, pos := "law.go:163", after := #[{ on := 9, ground := Ground.data }, { on := 7, ground := Ground.guard }], guard := some (7, false) }) (v := ?vp10) rfl (by kernel_rfl) (by kernel_rfl) (by kernel_rfl) (fun _ _ _ h => h) (Or.inl ⟨by rfl, ?hyp10⟩) hHeld ?_
        case hyp10 => (intro w hSw; (try dsimp only at hSw); go_simp; (try with_reducible rfl))
        try simp only [Act.put, List.setIfInBounds_toArray, List.set_cons_zero, List.set_cons_succ]
        refine wpAnyH_take (i := 11) (oi := { dst := some 67, op := Op.fieldAddr 60 (Operand.tmp 66) 0, type := 0, pos := "law.go:163", after := #[{ on := 10, ground := Ground.data }, { on := 7, ground := Ground.guard }], guard := some (7, false) }) (v := ?vp11) rfl (by kernel_rfl) (by kernel_rfl) (by kernel_rfl) (fun _ _ _ h => h) (Or.inl ⟨by rfl, ?hyp11⟩) hHeld ?_
        case hyp11 => (intro w hSw; (try dsimp only at hSw); go_simp; (try with_reducible rfl))
        try simp only [Act.put, List.setIfInBounds_toArray, List.set_cons_zero, List.set_cons_succ]
        refine wpAnyH_take (i := 12) (oi := { dst := some 68, op := Op.load 3 (Operand.tmp 67), type := 3, pos := "law.go:163", after := #[{ on := 11, ground := Ground.data }, { on := 7, ground := Ground.guard }], guard := some (7, false) }) (v := ?vp12) rfl (by kernel_rfl) (by kernel_rfl) (by kernel_rfl) (fun _ _ _ h => h) (Or.inl ⟨by rfl, ?hyp12⟩) hHeld ?_
        case hyp12 => (intro w hSw; (try dsimp only at hSw); go_simp; (try with_reducible rfl))
        try simp only [Act.put, List.setIfInBounds_toArray, List.set_cons_zero, List.set_cons_succ]
        refine wpAnyH_take (i := 13) (oi := { dst := some 69, op := Op.binOp BinOp.lss 3 (Operand.tmp 68) (Operand.const (Value.int IntKind.i64 2)) 3, type := 4, pos := "law.go:163", after := #[{ on := 12, ground := Ground.data }, { on := 7, ground := Ground.guard }], guard := some (7, false) }) (v := ?vp13) rfl (by kernel_rfl) (by kernel_rfl) (by kernel_rfl) (fun _ _ _ h => h) (Or.inl ⟨by rfl, ?hyp13⟩) hHeld ?_
        case hyp13 => (intro w hSw; (try dsimp only at hSw); go_simp; (try with_reducible rfl))
        try simp only [Act.put, List.setIfInBounds_toArray, List.set_cons_zero, List.set_cons_succ]
        refine wpAnyH_take (i := 14) (oi := { dst := some 70, op := Op.pick (Operand.tmp 63) (Operand.const (Value.bool true)) (Operand.tmp 69), type := 4, pos := "law.go:163", after := #[{ on := 7, ground := Ground.data }, { on := 13, ground := Ground.data }], guard := none }) (v := ?vp14) rfl (by kernel_rfl) (by kernel_rfl) (by kernel_rfl) (fun _ _ _ h => h) (Or.inl ⟨by rfl, ?hyp14⟩) hHeld ?_
        case hyp14 => (intro w hSw; (try dsimp only at hSw); go_simp; (try with_reducible rfl))
        try simp only [Act.put, List.setIfInBounds_toArray, List.set_cons_zero, List.set_cons_succ]
        refine wpAnyH_take (i := 15) (oi := { dst := some 71, op := Op.move (Operand.tmp 70), type := 4, pos := "law.go:163", after := #[{ on := 14, ground := Ground.data }, { on := 7, ground := Ground.chain }], guard := none }) (v := ?vp15) rfl (by kernel_rfl) (by kernel_rfl) (by kernel_rfl) (fun _ _ _ h => h) (Or.inl ⟨by rfl, ?hyp15⟩) hHeld ?_
        case hyp15 => (intro w hSw; (try dsimp only at hSw); go_simp; (try with_reducible rfl))
        try simp only [Act.put, List.setIfInBounds_toArray, List.set_cons_zero, List.set_cons_succ]
        refine wpAnyH_take (i := 16) (oi := { dst := some 72, op := Op.move (Operand.tmp 9), type := 43, pos := "law.go:163", after := #[{ on := 15, ground := Ground.guard }], guard := some (15, false) }) (v := ?vp16) rfl (by kernel_rfl) (by kernel_rfl) (by kernel_rfl) (fun _ _ _ h => h) (Or.inl ⟨by rfl, ?hyp16⟩) hHeld ?_
        case hyp16 => (intro w hSw; (try dsimp only at hSw); go_simp; (try with_reducible rfl))
        try simp only [Act.put, List.setIfInBounds_toArray, List.set_cons_zero, List.set_cons_succ]
        refine wpAnyH_take (i := 17) (oi := { dst := some 73, op := Op.nilCheck (Operand.tmp 72), type := 0, pos := "law.go:163", after := #[{ on := 16, ground := Ground.data }, { on := 15, ground := Ground.guard }], guard := some (15, false) }) (v := ?vp17) rfl (by kernel_rfl) (by kernel_rfl) (by kernel_rfl) (fun _ _ _ h => h) (Or.inl ⟨by rfl, ?hyp17⟩) hHeld ?_
        case hyp17 => (intro w hSw; (try dsimp only at hSw); go_simp; (try with_reducible rfl))
        try simp only [Act.put, List.setIfInBounds_toArray, List.set_cons_zero, List.set_cons_succ]
        refine wpAnyH_take (i := 18) (oi := { dst := some 74, op := Op.fieldAddr 62 (Operand.tmp 73) 2, type := 0, pos := "law.go:163", after := #[{ on := 17, ground := Ground.data }, { on := 15, ground := Ground.guard }], guard := some (15, false) }) (v := ?vp18) rfl (by kernel_rfl) (by kernel_rfl) (by kernel_rfl) (fun _ _ _ h => h) (Or.inl ⟨by rfl, ?hyp18⟩) hHeld ?_
        case hyp18 => (intro w hSw; (try dsimp only at hSw); go_simp; (try with_reducible rfl))
        try simp only [Act.put, List.setIfInBounds_toArray, List.set_cons_zero, List.set_cons_succ]
        refine wpAnyH_take (i := 19) (oi := { dst := some 75, op := Op.fieldAddr 60 (Operand.tmp 74) 4, type := 0, pos := "law.go:163", after := #[{ on := 18, ground := Ground.data }, { on := 15, ground := Ground.guard }], guard := some (15, false) }) (v := ?vp19) rfl (by kernel_rfl) (by kernel_rfl) (by kernel_rfl) (fun _ _ _ h => h) (Or.inl ⟨by rfl, ?hyp19⟩) hHeld ?_
        case hyp19 => (intro w hSw; (try dsimp only at hSw); go_simp; (try with_reducible rfl))
        try simp only [Act.put, List.setIfInBounds_toArray, List.set_cons_zero, List.set_cons_succ]
        refine wpAnyH_take (i := 20) (oi := { dst := some 76, op := Op.load 28 (Operand.tmp 75), type := 28, pos := "law.go:163", after := #[{ on := 19, ground := Ground.data }, { on := 15, ground := Ground.guard }], guard := some (15, false) }) (v := ?vp20) rfl (by kernel_rfl) (by kernel_rfl) (by kernel_rfl) (fun _ _ _ h => h) (Or.inl ⟨by rfl, ?hyp20⟩) hHeld ?_
        case hyp20 => (intro w hSw; (try dsimp only at hSw); go_simp; (try with_reducible rfl))
        try simp only [Act.put, List.setIfInBounds_toArray, List.set_cons_zero, List.set_cons_succ]
        refine wpAnyH_take (i := 21) (oi := { dst := some 77, op := Op.move (Operand.tmp 1), type := 24, pos := "law.go:163", after := #[{ on := 15, ground := Ground.guard }], guard := some (15, false) }) (v := ?vp21) rfl (by kernel_rfl) (by kernel_rfl) (by kernel_rfl) (fun _ _ _ h => h) (Or.inl ⟨by rfl, ?hyp21⟩) hHeld ?_
        case hyp21 => (intro w hSw; (try dsimp only at hSw); go_simp; (try with_reducible rfl))
        try simp only [Act.put, List.setIfInBounds_toArray, List.set_cons_zero, List.set_cons_succ]
        refine wpAnyH_take (i := 22) (oi := { dst := some 78, op := Op.move (Operand.tmp 13), type := 3, pos := "law.go:163", after := #[{ on := 15, ground := Ground.guard }], guard := some (15, false) }) (v := ?vp22) rfl (by kernel_rfl) (by kernel_rfl) (by kernel_rfl) (fun _ _ _ h => h) (Or.inl ⟨by rfl, ?hyp22⟩) hHeld ?_
        case hyp22 => (intro w hSw; (try dsimp only at hSw); go_simp; (try with_reducible rfl))
        try simp only [Act.put, List.setIfInBounds_toArray, List.set_cons_zero, List.set_cons_succ]
        refine wpAnyH_take (i := 23) (oi := { dst := some 79, op := Op.indexAddr 24 (Operand.tmp 77) (Operand.tmp 78), type := 0, pos := "law.go:163", after := #[{ on := 21, ground := Ground.data }, { on := 22, ground := Ground.data }, { on := 15, ground := Ground.guard }], guard := some (15, false) }) (v := ?vp23) rfl (by kernel_rfl) (by kernel_rfl) (by kernel_rfl) (fun _ _ _ h => h) (Or.inl ⟨by rfl, ?hyp23⟩) hHeld ?_
        case hyp23 => (intro w hSw; (try dsimp only at hSw); go_simp; (try with_reducible rfl))
        try simp only [Act.put, List.setIfInBounds_toArray, List.set_cons_zero, List.set_cons_succ]
        refine wpAnyH_take (i := 24) (oi := { dst := some 80, op := Op.load 28 (Operand.tmp 79), type := 28, pos := "law.go:163", after := #[{ on := 23, ground := Ground.data }, { on := 15, ground := Ground.guard }], guard := some (15, false) }) (v := ?vp24) rfl (by kernel_rfl) (by kernel_rfl) (by kernel_rfl) (fun _ _ _ h => h) (Or.inl ⟨by rfl, ?hyp24⟩) hHeld ?_
        case hyp24 => (intro w hSw; (try dsimp only at hSw); go_simp; (try with_reducible rfl))
        try simp only [Act.put, List.setIfInBounds_toArray, List.set_cons_zero, List.set_cons_succ]
        refine wpAnyH_take (i := 25) (oi := { dst := some 81, op := Op.binOp BinOp.neq 28 (Operand.tmp 76) (Operand.tmp 80) 28, type := 4, pos := "law.go:163", after := #[{ on := 20, ground := Ground.data }, { on := 24, ground := Ground.data }, { on := 15, ground := Ground.guard }], guard := some (15, false) }) (v := ?vp25) rfl (by kernel_rfl) (by kernel_rfl) (by kernel_rfl) (fun _ _ _ h => h) (Or.inl ⟨by rfl, ?hyp25⟩) hHeld ?_
        case hyp25 => (intro w hSw; (try dsimp only at hSw); go_simp; (try with_reducible rfl))
        try simp only [Act.put, List.setIfInBounds_toArray, List.set_cons_zero, List.set_cons_succ]
        refine wpAnyH_take (i := 26) (oi := { dst := some 82, op := Op.pick (Operand.tmp 71) (Operand.const (Value.bool true)) (Operand.tmp 81), type := 4, pos := "law.go:163", after := #[{ on := 15, ground := Ground.data }, { on := 25, ground := Ground.data }], guard := none }) (v := ?vp26) rfl (by kernel_rfl) (by kernel_rfl) (by kernel_rfl) (fun _ _ _ h => h) (Or.inl ⟨by rfl, ?hyp26⟩) hHeld ?_
        case hyp26 => (intro w hSw; (try dsimp only at hSw); go_simp; (try with_reducible rfl))
        try simp only [Act.put, List.setIfInBounds_toArray, List.set_cons_zero, List.set_cons_succ]
        refine wpAnyH_done (by kernel_rfl) ?_ _
        refine NoPanic.normal ?_
        clear hHeld u5 u6 u9 k2 hkk hg22 hk2 he
        have HT2 := Lib.hid HT1.out.drew
        clear HT1
        generalize V1.drew = V2 at *
        go_wp2_with fail
        go_loopw [14] (fun vj wr => ∃ o : Nat, vj = .int .i64 o ∧ (o : Int) ≤ b ∧ Hid (TchAt w wr H A G Z ⟨n, a, b, c, d⟩ s' (some ⟨bz, off, none⟩) n f w.heap.size)) (fun vj _ => b.toNat - (intOf vj).toNat)
        case atStart => exact ⟨0, rfl, by omega, HT2⟩
        case round =>
          clear HT2
          obtain ⟨o, rfl, ho, HT⟩ := hrel
          obtain ⟨x0, x1, x2, x3⟩ := HT.out.box
          by_cases hob : (o : Int) < b
          · have ho0 : (0 : Int) ≤ (o : Int) := by omega
            by_cases hoz : (o : Int) = z
            · have hz1 : ((o : Int) == z) = true := by simpa using hoz
              clear hoz
              go_wp2_with fail
              go_roundw
              case rel => exact ⟨o + 1, by go_num, by omega, HT⟩
              case measure => simp [intOf]; omega
            · have hz1 : ((o : Int) == z) = false := by simpa using hoz
              obtain ⟨m1, m2⟩ := hMine.out o ho0 hob hoz
              dsimp only at m1 m2
              have p0 : 0 ≤ (o : Int) * c := Int.mul_nonneg ho0 (by omega)
              have p1 : (o : Int) * c ≤ 63 * 64 := Int.mul_le_mul (by omega) (by omega) (by omega) (by omega)
              have w1 : IntKind.i64.wrap (5 + b) = 5 + b := IntWalk.i64_in _ (by omega)
              have w2 : IntKind.i64.wrap (5 + b + d) = 5 + b + d := IntWalk.i64_in _ (by omega)
              have w3 : IntKind.i64.wrap ((o : Int) * c) = (o : Int) * c := IntWalk.i64_in _ (by omega)
              have w4 : IntKind.i64.wrap (5 + b + d + (o : Int) * c) = 5 + b + d + (o : Int) * c := IntWalk.i64_in _ (by omega)
              have w5 : IntKind.i64.wrap (5 + b + d + (o : Int) * c + c) = 5 + b + d + (o : Int) * c + c := IntWalk.i64_in _ (by omega)
              have w6 : IntKind.i64.wrap (5 + (o : Int)) = 5 + (o : Int) := IntWalk.i64_in _ (by omega)
              have m1' : ((k : Int) == 5 + (o : Int)) = false := by simpa using m1
              by_cases hge : 5 + b + d + (o : Int) * c ≤ (k : Int)
              · have hlt2 : ¬ (k : Int) < 5 + b + d + (o : Int) * c + c := fun h => m2 ⟨hge, h⟩
                clear m1 m2 hoz
                go_wp2_with fail
                go_roundw
                case rel => exact ⟨o + 1, by go_num, by omega, HT⟩
                case measure => simp [intOf]; omega
              · clear m1 m2 hoz
                go_wp2_with fail
                go_roundw
                case rel => exact ⟨o + 1, by go_num, by omega, HT⟩
                case measure => simp [intOf]; omega
          · go_wp2_with fail
            go_roundw
            case rel => exact ⟨k + 1, by go_num, by omega, HT⟩
            case measure => simp [intOf]; omega
    · go_wp2_with fail
      go_ret
      exact ⟨rfl, HT.out.old⟩
end Go.Proofs.YtbpkdihonemogaaGreatDoor
