/- awake of mudlarklaw16. -/
import Derived.Test.YtipkkmmehjdmpaaDoorPassDo
import Derived.Test.YtipkkmmehjdmpaaDoorPassRefGreys
import Derived.Test.YtipkkmmehjdmpaaDoorPlaceFirst
import Derived.Test.YtipkkmmehjdmpaaDoorColWk
import Derived.Test.YtipkkmmehjdmpaaDoorHandNew
namespace Go.Proofs.YtipkkmmehjdmpaaDoor
open Go Go.RowKit
set_option maxRecDepth 100000
attribute [local go_sem ↓] Go.wp_at_zero Go.wp_at_succ

abbrev C16 : Cf := ⟨16, 3, 1, 1, 0⟩
theorem right16 : Right 3 1 1 0 := by unfold Right; omega
def dA16 : Dy := ⟨fstV 3 1 1 0, 0, 0, 0, 0, 0⟩
/-- How far the law's own look is behind k steps. -/
def stA : Nat → Dy × Co
  | 0 => (dA16.act C16 2 9 1 0, ⟨3, 0, 0, 0, 0, 0, false, 0, 0⟩)
  | k + 1 => ((passS C16 (stA k).1 (stA k).2).1, (passS C16 (stA k).1 (stA k).2).2.1)
theorem stA_U : ∀ k, (stA k).1.U ∧ (stA k).2.U
  | 0 => ⟨(show dA16.U from fst_u64 right16).act C16 2 9 (by unfold U64; omega) u64_zero, u64_zero, u64_zero⟩
  | k + 1 => passS_U (stA_U k).1 _ (stA_U k).2
theorem stA_go : ∀ k, k < 19 → (stA k).2.l ≠ 10 ∧ -1000 ≤ (stA k).2.c ∧ (stA k).2.c ≤ 1000 := by decide +kernel
theorem stA_end : (stA 19).2.l = 10 ∧ (stA 19).1.f 9 = 2 ∧ (stA 19).1.f 15 = 2 := by decide +kernel
theorem stA_grey : ∀ i : Nat, i < 3 → (stA 19).1.f (colI C16 i) ≠ 1 := by decide +kernel
theorem pc0 : partP 3 1 1 0 2 0 = 9 := by decide
theorem pc2 : partP 3 1 1 0 2 2 = 15 := by decide
theorem ok16 : CfOK C16 := ⟨right16, by decide⟩
theorem greys16 : greysR C16 (stA 19).1.f = [] := by
  unfold greysR
  rw [if_pos ok16]
  exact greysL_none stA_grey
set_option maxHeartbeats 6400000 in
theorem awake_c (w : World) (hS : SpansAt w) :
    Calls Tryd.prog 7 #[] w fun e w' => e = .returned (.bool true) ∧ Below w.heap.size w w' := by
  have HB0 := Lib.hid (below_new w (.cells #[.int .i64 3, .int .i64 1, .int .i64 1, .int .i64 0] 23))
  have HX0 := Lib.hid (BoxAt.new w 3 1 1 0 23)
  have HN := Lib.hid (fun W h => New_yes 3 1 1 0 right16 W h)
  have HS := Lib.hid (hS.below HB0.out)
  have HCo : Hid (∀ W, SpansAt W → Calls Tryd.prog 24 #[.agg #[.int .i64 3, .int .i64 1, .int .i64 1, .int .i64 0], .int .i64 0] W fun e w' => e = .returned (.int .i64 9) ∧ Below W.heap.size W w') := Lib.hid (fun W h => by have := Colour_c 3 1 1 0 0 W h; rw [pc0] at this; exact this)
  have HCo2 : Hid (∀ W, SpansAt W → Calls Tryd.prog 24 #[.agg #[.int .i64 3, .int .i64 1, .int .i64 1, .int .i64 0], .int .i64 2] W fun e w' => e = .returned (.int .i64 15) ∧ Below W.heap.size W w') := Lib.hid (fun W h => by have := Colour_c 3 1 1 0 2 W h; rw [pc2] at this; exact this)
  have HSt : Hid (∀ W H A G, HAt W H A G C16 dA16 → Calls Tryd.prog 23 #[.pointer (some ⟨H, 0, none⟩), .int .i64 9, .int .u64 1] W (HP W H A G C16 (stA 0).1 (.tuple #[]))) := Lib.hid (fun W H A G h => hStore_c (w := W) h (fst_u64 right16) 9 1)
  have HPa : Hid (∀ k W H A G, k < 19 → SpansAt W → HAt W H A G C16 (stA k).1 → Calls Tryd.prog 10 #[.pointer (some ⟨H, 0, none⟩), (stA k).2.v] W (HP W H A G C16 (stA (k + 1)).1 (.tuple #[(stA (k + 1)).2.v, .bool (passS C16 (stA k).1 (stA k).2).2.2]))) := Lib.hid (fun k W H A G hk h1 h2 => pass_c (w := W) h2 (stA_U k).1 h1 right16 (by decide) (stA k).2 (stA_U k).2 (by have := stA_go k hk; omega))
  have HL9 : Hid (∀ W A G, ArenaAt W A G 16 (stA 19).1.f → Calls Tryd.prog 25 #[.pointer (some ⟨A, 0, none⟩), .int .i64 9] W fun e w' => e = .returned (.int .u64 2) ∧ W = w') := Lib.hid (fun W A G h => by have := Load_in h 9 (by omega); rw [stA_end.2.1] at this; exact this)
  have HL15 : Hid (∀ W A G, ArenaAt W A G 16 (stA 19).1.f → Calls Tryd.prog 25 #[.pointer (some ⟨A, 0, none⟩), .int .i64 15] W fun e w' => e = .returned (.int .u64 2) ∧ W = w') := Lib.hid (fun W A G h => by have := Load_in h 15 (by omega); rw [stA_end.2.2] at this; exact this)
  have HGr : Hid (∀ W Z, SpansAt W → RowAt W Z 26 16 (stA 19).1.f → Calls Tryd.prog 15 #[.agg #[.int .i64 3, .int .i64 1, .int .i64 1, .int .i64 0], .slice (some ⟨Z, 0, none⟩) 16 16] W (NumsPost W [])) := Lib.hid (fun W Z h1 h2 => by rw [← greys16]; exact greys_any 3 1 1 0 _ 16 16 _ (stA_U 19).1 W h1 h2.words)
  have HE10 := Lib.hid stA_end.1
  have HG10 := Lib.hid (fun k hk => (stA_go k hk).1)
  obtain ⟨x0, x1, x2, x3⟩ := HX0.out
  clear hS
  go_enter Tryd.func7, Tryd.ntmps7
  go_wp2_with fail
  generalize w.alloc (.cells #[.int .i64 3, .int .i64 1, .int .i64 1, .int .i64 0] 23) = W1 at *
  refine (HN.out _ HS.out).mono ?_
  rintro e W2 ⟨n, hn, H, A, G, rfl, hF, hb, l1, l2, l3⟩
  obtain rfl : n = 16 := by omega
  have HB2 := Lib.hid hb; have HF2 : Hid (HAt W2 H A G C16 dA16) := Lib.hid hF
  have HS2 := Lib.hid (HS.out.below hb)
  obtain ⟨y0, ⟨y1, y2, y3, y4⟩, _⟩ := HF2.out.cells
  clear hF hb HN hn x0 x1 x2 x3 l2
  dsimp only at y1 y2 y3 y4
  go_wp2_with fail
  refine (HCo.out _ HS2.out).mono ?_
  rintro e W3 ⟨rfl, hb⟩
  have HB3 := Lib.hid (belowOn HB2.out hb); have HF3 := Lib.hid (HF2.out.below hb)
  clear hb HB2 HF2 HS2 y0 y1 y2 y3 y4
  go_wp2_with fail
  refine (HSt.out _ _ _ _ HF3.out).mono ?_
  rintro e W4 ⟨rfl, hF, hs⟩
  have HT4 := Lib.hid (CkW.first (hs.old HB3.out l1 l3) hF l1 l3 ⟨3, 0, 0, 0, 0, 0, false, 0, 0⟩)
  clear hF hs HB3 HF3 HSt
  go_wp2_with fail
  generalize W4.alloc (.cells #[.int .i64 3, .int .i64 0, .int .i64 0, .int .i64 0, .int .u64 0, .int .u64 0, .bool false, .int .i64 0, .int .i64 0] 28) = W5 at *
  generalize W4.heap.size = B at *
  have hcut : ∃ k : Nat, k = 0 := ⟨0, rfl⟩
  go_loopw [5] (fun nv wr => ∃ k : Nat, nv = .int .i64 k ∧ k ≤ 19 ∧ Hid (CkW W1 wr H A G B C16 (stA k).1 (stA k).2)) (fun nv _ => 19 - (intOf nv).toNat)
  case atStart => exact ⟨0, rfl, by omega, HT4⟩
  case round =>
    clear HT4 hcut
    obtain ⟨k, rfl, hk, HT⟩ := hrel
    obtain ⟨b0, b1, b2, b3, b4, b5, b6, b7, b8, bf⟩ := HT.out.cells9
    have hk60 : (k : Int) < 60 := by omega
    by_cases hkT : k < 19
    · have hne : ((stA k).2.l != 10) = true := by simpa using HG10.out k hkT
      have hk1 : IntKind.i64.wrap ((k : Int) + 1) = (k : Int) + 1 := IntWalk.i64_in _ (by omega)
      have HP := Lib.hid (HPa.out k wr H A G hkT (HS.out.below HT.out.old) HT.out.hand)
      generalize (passS C16 (stA k).1 (stA k).2).2.2 = any at *
      generalize hx : (stA k).2 = x at *
      generalize hs : (stA k).1 = s at *
      clear hx hs
      generalize hx : (stA (k + 1)).2 = x' at *
      generalize hs : (stA (k + 1)).1 = s' at *
      obtain ⟨l, j, xc, m, xa, p, fd, tl, cy⟩ := x
      obtain ⟨l', j', xc', m', xa', p', fd', tl', cy'⟩ := x'
      dsimp only at hne HP b0 b1 b2 b3 b4 b5 b6 b7 b8
      go_wp2_with fail
      refine HP.out.mono ?_
      rintro e V hp
      obtain ⟨rfl, hT⟩ := HT.out.step hp
      have HT2 := Lib.hid hT
      clear hp hT HT HP b0 b1 b2 b3 b4 b5 b6 b7 b8 bf
      obtain ⟨b0, b1, b2, b3, b4, b5, b6, b7, b8, bf⟩ := HT2.out.cells9
      go_wp2_with fail
      have HT3 := Lib.hid (HT2.out.put ⟨l', j', xc', m', xa', p', fd', tl', cy'⟩)
      go_roundw
      case rel => exact ⟨k + 1, by go_num, by omega, by rw [hx, hs]; exact HT3⟩
      case measure => simp [intOf]; omega
    · obtain rfl : k = 19 := by omega
      have hl10 : (stA 19).2.l = 10 := HE10.out
      generalize (stA 19).2 = x at *
      generalize (stA 19).1 = s at *
      obtain ⟨l, j, xc, m, xa, p, fd, tl, cy⟩ := x
      dsimp only at hl10 b0 b1 b2 b3 b4 b5 b6 b7 b8
      subst hl10
      go_wp2_with fail
      have HT6 := Lib.hid HT.out.drew
      have HX6 := Lib.hid (HX0.out.below HT6.out.old)
      obtain ⟨y0, ⟨y1, y2, y3, y4⟩, _⟩ := HT6.out.hand.cells
      obtain ⟨x0, x1, x2, x3⟩ := HX6.out
      have HSx := Lib.hid (HS.out.below HT6.out.old)
      dsimp only at y1 y2 y3 y4
      clear b1 b2 b3 b4 b5 b6 b7 b8 bf
      have z0 : wr.drew.cell? ⟨B, 0, none⟩ = some (.int .i64 10) := b0
      clear b0
      refine wp_region_held_drew (S := (fun w' => w'.cell? ⟨B, 0, none⟩ = some (.int .i64 10) ∧ w'.cell? ⟨H, 0, none⟩ = some (.pointer (some ⟨A, 0, none⟩)) ∧ w'.cell? ⟨H, 1, none⟩ = some (.int .i64 3) ∧ w'.cell? ⟨H, 2, none⟩ = some (.int .i64 1) ∧ w'.cell? ⟨H, 3, none⟩ = some (.int .i64 1) ∧ w'.cell? ⟨H, 4, none⟩ = some (.int .i64 0) ∧ w'.cell? ⟨w.heap.size, 0, none⟩ = some (.int .i64 3) ∧ w'.cell? ⟨w.heap.size, 1, none⟩ = some (.int .i64 1) ∧ w'.cell? ⟨w.heap.size, 2, none⟩ = some (.int .i64 1) ∧ w'.cell? ⟨w.heap.size, 3, none⟩ = some (.int .i64 0))) (by kernel_rfl) ?_ (fun hHeld => ?_)
      · exact ⟨z0, y0, y1, y2, y3, y4, x0, x1, x2, x3⟩
      refine wpAnyH_take (i := 0) (oi := { dst := some 43, op := Op.fieldAddr 28 (Operand.tmp 4) 0, type := 0, pos := "law.go:31", after := #[], guard := none }) (v := ?vq0) rfl (by kernel_rfl) (by kernel_rfl) (by kernel_rfl) (fun _ _ _ h => h) (Or.inl ⟨by rfl, ?hyq0⟩) hHeld ?_
      case hyq0 => (intro w hSw; (try dsimp only at hSw); go_simp; (try with_reducible rfl))
      try simp only [Act.put, List.setIfInBounds_toArray, List.set_cons_zero, List.set_cons_succ]
      refine wpAnyH_take (i := 1) (oi := { dst := some 44, op := Op.load 3 (Operand.tmp 43), type := 3, pos := "law.go:31", after := #[{ on := 0, ground := Ground.data }], guard := none }) (v := ?vq1) rfl (by kernel_rfl) (by kernel_rfl) (by kernel_rfl) (fun _ _ _ h => h) (Or.inl ⟨by rfl, ?hyq1⟩) hHeld ?_
      case hyq1 => (intro w hSw; (try dsimp only at hSw); go_simp; (try with_reducible rfl))
      try simp only [Act.put, List.setIfInBounds_toArray, List.set_cons_zero, List.set_cons_succ]
      refine wpAnyH_take (i := 2) (oi := { dst := some 45, op := Op.binOp BinOp.eql 3 (Operand.tmp 44) (Operand.const (Value.int IntKind.i64 10)) 3, type := 4, pos := "law.go:31", after := #[{ on := 1, ground := Ground.data }], guard := none }) (v := ?vq2) rfl (by kernel_rfl) (by kernel_rfl) (by kernel_rfl) (fun _ _ _ h => h) (Or.inl ⟨by rfl, ?hyq2⟩) hHeld ?_
      case hyq2 => (intro w hSw; (try dsimp only at hSw); go_simp; (try with_reducible rfl))
      try simp only [Act.put, List.setIfInBounds_toArray, List.set_cons_zero, List.set_cons_succ]
      refine wpAnyH_take (i := 3) (oi := { dst := some 46, op := Op.move (Operand.tmp 45), type := 4, pos := "law.go:31", after := #[{ on := 2, ground := Ground.data }], guard := none }) (v := ?vq3) rfl (by kernel_rfl) (by kernel_rfl) (by kernel_rfl) (fun _ _ _ h => h) (Or.inl ⟨by rfl, ?hyq3⟩) hHeld ?_
      case hyq3 => (intro w hSw; (try dsimp only at hSw); go_simp; (try with_reducible rfl))
      try simp only [Act.put, List.setIfInBounds_toArray, List.set_cons_zero, List.set_cons_succ]
      refine wpAnyH_take (i := 4) (oi := { dst := some 47, op := Op.move (Operand.tmp 2), type := 30, pos := "law.go:31", after := #[{ on := 3, ground := Ground.guard }], guard := some (3, true) }) (v := ?vq4) rfl (by kernel_rfl) (by kernel_rfl) (by kernel_rfl) (fun _ _ _ h => h) (Or.inl ⟨by rfl, ?hyq4⟩) hHeld ?_
      case hyq4 => (intro w hSw; (try dsimp only at hSw); go_simp; (try with_reducible rfl))
      try simp only [Act.put, List.setIfInBounds_toArray, List.set_cons_zero, List.set_cons_succ]
      refine wpAnyH_take (i := 5) (oi := { dst := some 48, op := Op.nilCheck (Operand.tmp 47), type := 0, pos := "law.go:31", after := #[{ on := 4, ground := Ground.data }, { on := 3, ground := Ground.guard }], guard := some (3, true) }) (v := ?vq5) rfl (by kernel_rfl) (by kernel_rfl) (by kernel_rfl) (fun _ _ _ h => h) (Or.inl ⟨by rfl, ?hyq5⟩) hHeld ?_
      case hyq5 => (intro w hSw; (try dsimp only at hSw); go_simp; (try with_reducible rfl))
      try simp only [Act.put, List.setIfInBounds_toArray, List.set_cons_zero, List.set_cons_succ]
      refine wpAnyH_take (i := 6) (oi := { dst := some 49, op := Op.fieldAddr 53 (Operand.tmp 48) 0, type := 0, pos := "law.go:31", after := #[{ on := 5, ground := Ground.data }, { on := 3, ground := Ground.guard }], guard := some (3, true) }) (v := ?vq6) rfl (by kernel_rfl) (by kernel_rfl) (by kernel_rfl) (fun _ _ _ h => h) (Or.inl ⟨by rfl, ?hyq6⟩) hHeld ?_
      case hyq6 => (intro w hSw; (try dsimp only at hSw); go_simp; (try with_reducible rfl))
      try simp only [Act.put, List.setIfInBounds_toArray, List.set_cons_zero, List.set_cons_succ]
      refine wpAnyH_take (i := 7) (oi := { dst := some 50, op := Op.load 47 (Operand.tmp 49), type := 47, pos := "law.go:31", after := #[{ on := 6, ground := Ground.data }, { on := 3, ground := Ground.guard }], guard := some (3, true) }) (v := ?vq7) rfl (by kernel_rfl) (by kernel_rfl) (by kernel_rfl) (fun _ _ _ h => h) (Or.inl ⟨by rfl, ?hyq7⟩) hHeld ?_
      case hyq7 => (intro w hSw; (try dsimp only at hSw); go_simp; (try with_reducible rfl))
      try simp only [Act.put, List.setIfInBounds_toArray, List.set_cons_zero, List.set_cons_succ]
      refine wpAnyH_take (i := 8) (oi := { dst := some 51, op := Op.move (Operand.tmp 2), type := 30, pos := "law.go:31", after := #[{ on := 3, ground := Ground.guard }], guard := some (3, true) }) (v := ?vq8) rfl (by kernel_rfl) (by kernel_rfl) (by kernel_rfl) (fun _ _ _ h => h) (Or.inl ⟨by rfl, ?hyq8⟩) hHeld ?_
      case hyq8 => (intro w hSw; (try dsimp only at hSw); go_simp; (try with_reducible rfl))
      try simp only [Act.put, List.setIfInBounds_toArray, List.set_cons_zero, List.set_cons_succ]
      refine wpAnyH_take (i := 9) (oi := { dst := some 52, op := Op.nilCheck (Operand.tmp 51), type := 0, pos := "law.go:31", after := #[{ on := 8, ground := Ground.data }, { on := 3, ground := Ground.guard }], guard := some (3, true) }) (v := ?vq9) rfl (by kernel_rfl) (by kernel_rfl) (by kernel_rfl) (fun _ _ _ h => h) (Or.inl ⟨by rfl, ?hyq9⟩) hHeld ?_
      case hyq9 => (intro w hSw; (try dsimp only at hSw); go_simp; (try with_reducible rfl))
      try simp only [Act.put, List.setIfInBounds_toArray, List.set_cons_zero, List.set_cons_succ]
      refine wpAnyH_take (i := 10) (oi := { dst := some 53, op := Op.fieldAddr 53 (Operand.tmp 52) 1, type := 0, pos := "law.go:31", after := #[{ on := 9, ground := Ground.data }, { on := 3, ground := Ground.guard }], guard := some (3, true) }) (v := ?vq10) rfl (by kernel_rfl) (by kernel_rfl) (by kernel_rfl) (fun _ _ _ h => h) (Or.inl ⟨by rfl, ?hyq10⟩) hHeld ?_
      case hyq10 => (intro w hSw; (try dsimp only at hSw); go_simp; (try with_reducible rfl))
      try simp only [Act.put, List.setIfInBounds_toArray, List.set_cons_zero, List.set_cons_succ]
      refine wpAnyH_take (i := 11) (oi := { dst := some 54, op := Op.load 49 (Operand.tmp 53), type := 49, pos := "law.go:31", after := #[{ on := 10, ground := Ground.data }, { on := 3, ground := Ground.guard }], guard := some (3, true) }) (v := ?vq11) rfl (by kernel_rfl) (by kernel_rfl) (by kernel_rfl) (fun _ _ _ h => h) (Or.inl ⟨by rfl, ?hyq11⟩) hHeld ?_
      case hyq11 => (intro w hSw; (try dsimp only at hSw); go_simp; (try with_reducible rfl))
      try simp only [Act.put, List.setIfInBounds_toArray, List.set_cons_zero, List.set_cons_succ]
      refine wpAnyH_ready (rs := [12]) (by kernel_rfl) (by simp) ?_
      refine AllReadyH.cons (o := { dst := some 55, op := Op.call { callee := Callee.value (Operand.func 24), args := #[Operand.tmp 54, Operand.const (Value.int IntKind.i64 0)], argTypes := #[49, 3] }, type := 3, pos := "law.go:31", after := #[{ on := 11, ground := Ground.data }, { on := 3, ground := Ground.chain }, { on := 3, ground := Ground.guard }], guard := some (3, true) }) rfl (fun K hK => ?_) AllReadyH.nil
      go_simp
      refine (HCo.out _ HSx.out).mono ?_
      rintro e V1 ⟨rfl, hb⟩
      have HT7 := Lib.hid (HT6.out.below hb); have HX7 := Lib.hid (HX6.out.below hb); have HS7 := Lib.hid (HSx.out.below hb); have q0 := (Lib.hid HT7.out.col.cells.1)
      clear hHeld hb HT6 HX6 HSx z0 y0 y1 y2 y3 y4 x0 x1 x2 x3
      have HT6 := HT7; have HX6 := HX7; have HSx := HS7; have z0 := q0.out
      clear HT7 HX7 HS7 q0
      obtain ⟨y0, ⟨y1, y2, y3, y4⟩, _⟩ := HT6.out.hand.cells
      obtain ⟨x0, x1, x2, x3⟩ := HX6.out
      dsimp only at z0 y1 y2 y3 y4
      refine hK.out _ _ ?_ (fun hHeld => ?_)
      · exact ⟨z0, y0, y1, y2, y3, y4, x0, x1, x2, x3⟩
      clear hK K
      try simp only [Act.put, List.setIfInBounds_toArray, List.set_cons_zero, List.set_cons_succ]
      refine wpAnyH_ready (rs := [13]) (by kernel_rfl) (by simp) ?_
      refine AllReadyH.cons (o := { dst := some 56, op := Op.call { callee := Callee.value (Operand.func 25), args := #[Operand.tmp 50, Operand.tmp 55], argTypes := #[47, 3] }, type := 26, pos := "law.go:31", after := #[{ on := 7, ground := Ground.data }, { on := 12, ground := Ground.data }, { on := 12, ground := Ground.chain }, { on := 3, ground := Ground.guard }], guard := some (3, true) }) rfl (fun K hK => ?_) AllReadyH.nil
      go_simp
      refine (HL9.out _ _ _ HT6.out.hand.ar).mono ?_
      rintro e V2 ⟨rfl, rfl⟩
      clear hHeld
      refine hK.out _ _ ?_ (fun hHeld => ?_)
      · exact ⟨z0, y0, y1, y2, y3, y4, x0, x1, x2, x3⟩
      clear hK K
      try simp only [Act.put, List.setIfInBounds_toArray, List.set_cons_zero, List.set_cons_succ]
      refine wpAnyH_take (i := 14) (oi := { dst := some 57, op := Op.binOp BinOp.eql 26 (Operand.tmp 56) (Operand.const (Value.int IntKind.u64 2)) 26, type := 4, pos := "law.go:31", after := #[{ on := 13, ground := Ground.data }, { on := 3, ground := Ground.guard }], guard := some (3, true) }) (v := ?vq14) rfl (by kernel_rfl) (by kernel_rfl) (by kernel_rfl) (fun _ _ _ h => h) (Or.inl ⟨by rfl, ?hyq14⟩) hHeld ?_
      case hyq14 => (intro w hSw; (try dsimp only at hSw); go_simp; (try with_reducible rfl))
      try simp only [Act.put, List.setIfInBounds_toArray, List.set_cons_zero, List.set_cons_succ]
      refine wpAnyH_take (i := 15) (oi := { dst := some 58, op := Op.pick (Operand.tmp 46) (Operand.tmp 57) (Operand.const (Value.bool false)), type := 4, pos := "law.go:31", after := #[{ on := 3, ground := Ground.data }, { on := 14, ground := Ground.data }], guard := none }) (v := ?vq15) rfl (by kernel_rfl) (by kernel_rfl) (by kernel_rfl) (fun _ _ _ h => h) (Or.inl ⟨by rfl, ?hyq15⟩) hHeld ?_
      case hyq15 => (intro w hSw; (try dsimp only at hSw); go_simp; (try with_reducible rfl))
      try simp only [Act.put, List.setIfInBounds_toArray, List.set_cons_zero, List.set_cons_succ]
      refine wpAnyH_take (i := 16) (oi := { dst := some 59, op := Op.move (Operand.tmp 58), type := 4, pos := "law.go:31", after := #[{ on := 15, ground := Ground.data }, { on := 13, ground := Ground.chain }], guard := none }) (v := ?vq16) rfl (by kernel_rfl) (by kernel_rfl) (by kernel_rfl) (fun _ _ _ h => h) (Or.inl ⟨by rfl, ?hyq16⟩) hHeld ?_
      case hyq16 => (intro w hSw; (try dsimp only at hSw); go_simp; (try with_reducible rfl))
      try simp only [Act.put, List.setIfInBounds_toArray, List.set_cons_zero, List.set_cons_succ]
      refine wpAnyH_take (i := 17) (oi := { dst := some 60, op := Op.move (Operand.tmp 2), type := 30, pos := "law.go:31", after := #[{ on := 16, ground := Ground.guard }], guard := some (16, true) }) (v := ?vq17) rfl (by kernel_rfl) (by kernel_rfl) (by kernel_rfl) (fun _ _ _ h => h) (Or.inl ⟨by rfl, ?hyq17⟩) hHeld ?_
      case hyq17 => (intro w hSw; (try dsimp only at hSw); go_simp; (try with_reducible rfl))
      try simp only [Act.put, List.setIfInBounds_toArray, List.set_cons_zero, List.set_cons_succ]
      refine wpAnyH_take (i := 18) (oi := { dst := some 61, op := Op.nilCheck (Operand.tmp 60), type := 0, pos := "law.go:31", after := #[{ on := 17, ground := Ground.data }, { on := 16, ground := Ground.guard }], guard := some (16, true) }) (v := ?vq18) rfl (by kernel_rfl) (by kernel_rfl) (by kernel_rfl) (fun _ _ _ h => h) (Or.inl ⟨by rfl, ?hyq18⟩) hHeld ?_
      case hyq18 => (intro w hSw; (try dsimp only at hSw); go_simp; (try with_reducible rfl))
      try simp only [Act.put, List.setIfInBounds_toArray, List.set_cons_zero, List.set_cons_succ]
      refine wpAnyH_take (i := 19) (oi := { dst := some 62, op := Op.fieldAddr 53 (Operand.tmp 61) 0, type := 0, pos := "law.go:31", after := #[{ on := 18, ground := Ground.data }, { on := 16, ground := Ground.guard }], guard := some (16, true) }) (v := ?vq19) rfl (by kernel_rfl) (by kernel_rfl) (by kernel_rfl) (fun _ _ _ h => h) (Or.inl ⟨by rfl, ?hyq19⟩) hHeld ?_
      case hyq19 => (intro w hSw; (try dsimp only at hSw); go_simp; (try with_reducible rfl))
      try simp only [Act.put, List.setIfInBounds_toArray, List.set_cons_zero, List.set_cons_succ]
      refine wpAnyH_take (i := 20) (oi := { dst := some 63, op := Op.load 47 (Operand.tmp 62), type := 47, pos := "law.go:31", after := #[{ on := 19, ground := Ground.data }, { on := 16, ground := Ground.guard }], guard := some (16, true) }) (v := ?vq20) rfl (by kernel_rfl) (by kernel_rfl) (by kernel_rfl) (fun _ _ _ h => h) (Or.inl ⟨by rfl, ?hyq20⟩) hHeld ?_
      case hyq20 => (intro w hSw; (try dsimp only at hSw); go_simp; (try with_reducible rfl))
      try simp only [Act.put, List.setIfInBounds_toArray, List.set_cons_zero, List.set_cons_succ]
      refine wpAnyH_take (i := 21) (oi := { dst := some 64, op := Op.move (Operand.tmp 2), type := 30, pos := "law.go:31", after := #[{ on := 16, ground := Ground.guard }], guard := some (16, true) }) (v := ?vq21) rfl (by kernel_rfl) (by kernel_rfl) (by kernel_rfl) (fun _ _ _ h => h) (Or.inl ⟨by rfl, ?hyq21⟩) hHeld ?_
      case hyq21 => (intro w hSw; (try dsimp only at hSw); go_simp; (try with_reducible rfl))
      try simp only [Act.put, List.setIfInBounds_toArray, List.set_cons_zero, List.set_cons_succ]
      refine wpAnyH_take (i := 22) (oi := { dst := some 65, op := Op.nilCheck (Operand.tmp 64), type := 0, pos := "law.go:31", after := #[{ on := 21, ground := Ground.data }, { on := 16, ground := Ground.guard }], guard := some (16, true) }) (v := ?vq22) rfl (by kernel_rfl) (by kernel_rfl) (by kernel_rfl) (fun _ _ _ h => h) (Or.inl ⟨by rfl, ?hyq22⟩) hHeld ?_
      case hyq22 => (intro w hSw; (try dsimp only at hSw); go_simp; (try with_reducible rfl))
      try simp only [Act.put, List.setIfInBounds_toArray, List.set_cons_zero, List.set_cons_succ]
      refine wpAnyH_take (i := 23) (oi := { dst := some 66, op := Op.fieldAddr 53 (Operand.tmp 65) 1, type := 0, pos := "law.go:31", after := #[{ on := 22, ground := Ground.data }, { on := 16, ground := Ground.guard }], guard := some (16, true) }) (v := ?vq23) rfl (by kernel_rfl) (by kernel_rfl) (by kernel_rfl) (fun _ _ _ h => h) (Or.inl ⟨by rfl, ?hyq23⟩) hHeld ?_
      case hyq23 => (intro w hSw; (try dsimp only at hSw); go_simp; (try with_reducible rfl))
      try simp only [Act.put, List.setIfInBounds_toArray, List.set_cons_zero, List.set_cons_succ]
      refine wpAnyH_take (i := 24) (oi := { dst := some 67, op := Op.load 49 (Operand.tmp 66), type := 49, pos := "law.go:31", after := #[{ on := 23, ground := Ground.data }, { on := 16, ground := Ground.guard }], guard := some (16, true) }) (v := ?vq24) rfl (by kernel_rfl) (by kernel_rfl) (by kernel_rfl) (fun _ _ _ h => h) (Or.inl ⟨by rfl, ?hyq24⟩) hHeld ?_
      case hyq24 => (intro w hSw; (try dsimp only at hSw); go_simp; (try with_reducible rfl))
      try simp only [Act.put, List.setIfInBounds_toArray, List.set_cons_zero, List.set_cons_succ]
      refine wpAnyH_ready (rs := [25]) (by kernel_rfl) (by simp) ?_
      refine AllReadyH.cons (o := { dst := some 68, op := Op.call { callee := Callee.value (Operand.func 24), args := #[Operand.tmp 67, Operand.const (Value.int IntKind.i64 2)], argTypes := #[49, 3] }, type := 3, pos := "law.go:31", after := #[{ on := 24, ground := Ground.data }, { on := 16, ground := Ground.chain }, { on := 16, ground := Ground.guard }], guard := some (16, true) }) rfl (fun K hK => ?_) AllReadyH.nil
      go_simp
      refine (HCo2.out _ HSx.out).mono ?_
      rintro e V3 ⟨rfl, hb⟩
      have HT7 := Lib.hid (HT6.out.below hb); have HX7 := Lib.hid (HX6.out.below hb); have HS7 := Lib.hid (HSx.out.below hb); have q0 := (Lib.hid HT7.out.col.cells.1)
      clear hHeld hb HT6 HX6 HSx z0 y0 y1 y2 y3 y4 x0 x1 x2 x3
      have HT6 := HT7; have HX6 := HX7; have HSx := HS7; have z0 := q0.out
      clear HT7 HX7 HS7 q0
      obtain ⟨y0, ⟨y1, y2, y3, y4⟩, _⟩ := HT6.out.hand.cells
      obtain ⟨x0, x1, x2, x3⟩ := HX6.out
      dsimp only at z0 y1 y2 y3 y4
      refine hK.out _ _ ?_ (fun hHeld => ?_)
      · exact ⟨z0, y0, y1, y2, y3, y4, x0, x1, x2, x3⟩
      clear hK K
      try simp only [Act.put, List.setIfInBounds_toArray, List.set_cons_zero, List.set_cons_succ]
      refine wpAnyH_ready (rs := [26]) (by kernel_rfl) (by simp) ?_
      refine AllReadyH.cons (o := { dst := some 69, op := Op.call { callee := Callee.value (Operand.func 25), args := #[Operand.tmp 63, Operand.tmp 68], argTypes := #[47, 3] }, type := 26, pos := "law.go:31", after := #[{ on := 20, ground := Ground.data }, { on := 25, ground := Ground.data }, { on := 25, ground := Ground.chain }, { on := 16, ground := Ground.guard }], guard := some (16, true) }) rfl (fun K hK => ?_) AllReadyH.nil
      go_simp
      refine (HL15.out _ _ _ HT6.out.hand.ar).mono ?_
      rintro e V4 ⟨rfl, rfl⟩
      clear hHeld
      refine hK.out _ _ ?_ (fun hHeld => ?_)
      · exact ⟨z0, y0, y1, y2, y3, y4, x0, x1, x2, x3⟩
      clear hK K
      try simp only [Act.put, List.setIfInBounds_toArray, List.set_cons_zero, List.set_cons_succ]
      refine wpAnyH_take (i := 27) (oi := { dst := some 70, op := Op.binOp BinOp.eql 26 (Operand.tmp 69) (Operand.const (Value.int IntKind.u64 2)) 26, type := 4, pos := "law.go:31", after := #[{ on := 26, ground := Ground.data }, { on := 16, ground := Ground.guard }], guard := some (16, true) }) (v := ?vq27) rfl (by kernel_rfl) (by kernel_rfl) (by kernel_rfl) (fun _ _ _ h => h) (Or.inl ⟨by rfl, ?hyq27⟩) hHeld ?_
      case hyq27 => (intro w hSw; (try dsimp only at hSw); go_simp; (try with_reducible rfl))
      try simp only [Act.put, List.setIfInBounds_toArray, List.set_cons_zero, List.set_cons_succ]
      refine wpAnyH_take (i := 28) (oi := { dst := some 71, op := Op.pick (Operand.tmp 59) (Operand.tmp 70) (Operand.const (Value.bool false)), type := 4, pos := "law.go:31", after := #[{ on := 16, ground := Ground.data }, { on := 27, ground := Ground.data }], guard := none }) (v := ?vq28) rfl (by kernel_rfl) (by kernel_rfl) (by kernel_rfl) (fun _ _ _ h => h) (Or.inl ⟨by rfl, ?hyq28⟩) hHeld ?_
      case hyq28 => (intro w hSw; (try dsimp only at hSw); go_simp; (try with_reducible rfl))
      try simp only [Act.put, List.setIfInBounds_toArray, List.set_cons_zero, List.set_cons_succ]
      refine wpAnyH_take (i := 29) (oi := { dst := some 72, op := Op.move (Operand.tmp 71), type := 4, pos := "law.go:31", after := #[{ on := 28, ground := Ground.data }, { on := 26, ground := Ground.chain }], guard := none }) (v := ?vq29) rfl (by kernel_rfl) (by kernel_rfl) (by kernel_rfl) (fun _ _ _ h => h) (Or.inl ⟨by rfl, ?hyq29⟩) hHeld ?_
      case hyq29 => (intro w hSw; (try dsimp only at hSw); go_simp; (try with_reducible rfl))
      try simp only [Act.put, List.setIfInBounds_toArray, List.set_cons_zero, List.set_cons_succ]
      refine wpAnyH_take (i := 30) (oi := { dst := some 73, op := Op.load 23 (Operand.tmp 1), type := 23, pos := "law.go:31", after := #[{ on := 29, ground := Ground.guard }], guard := some (29, true) }) (v := ?vq30) rfl (by kernel_rfl) (by kernel_rfl) (by kernel_rfl) (fun _ _ _ h => h) (Or.inl ⟨by rfl, ?hyq30⟩) hHeld ?_
      case hyq30 => (intro w hSw; (try dsimp only at hSw); go_simp; (try with_reducible rfl))
      try simp only [Act.put, List.setIfInBounds_toArray, List.set_cons_zero, List.set_cons_succ]
      refine wpAnyH_take (i := 31) (oi := { dst := some 74, op := Op.move (Operand.tmp 2), type := 30, pos := "law.go:31", after := #[{ on := 29, ground := Ground.guard }], guard := some (29, true) }) (v := ?vq31) rfl (by kernel_rfl) (by kernel_rfl) (by kernel_rfl) (fun _ _ _ h => h) (Or.inl ⟨by rfl, ?hyq31⟩) hHeld ?_
      case hyq31 => (intro w hSw; (try dsimp only at hSw); go_simp; (try with_reducible rfl))
      try simp only [Act.put, List.setIfInBounds_toArray, List.set_cons_zero, List.set_cons_succ]
      refine wpAnyH_take (i := 32) (oi := { dst := some 75, op := Op.nilCheck (Operand.tmp 74), type := 0, pos := "law.go:31", after := #[{ on := 31, ground := Ground.data }, { on := 29, ground := Ground.guard }], guard := some (29, true) }) (v := ?vq32) rfl (by kernel_rfl) (by kernel_rfl) (by kernel_rfl) (fun _ _ _ h => h) (Or.inl ⟨by rfl, ?hyq32⟩) hHeld ?_
      case hyq32 => (intro w hSw; (try dsimp only at hSw); go_simp; (try with_reducible rfl))
      try simp only [Act.put, List.setIfInBounds_toArray, List.set_cons_zero, List.set_cons_succ]
      refine wpAnyH_take (i := 33) (oi := { dst := some 76, op := Op.fieldAddr 53 (Operand.tmp 75) 0, type := 0, pos := "law.go:31", after := #[{ on := 32, ground := Ground.data }, { on := 29, ground := Ground.guard }], guard := some (29, true) }) (v := ?vq33) rfl (by kernel_rfl) (by kernel_rfl) (by kernel_rfl) (fun _ _ _ h => h) (Or.inl ⟨by rfl, ?hyq33⟩) hHeld ?_
      case hyq33 => (intro w hSw; (try dsimp only at hSw); go_simp; (try with_reducible rfl))
      try simp only [Act.put, List.setIfInBounds_toArray, List.set_cons_zero, List.set_cons_succ]
      refine wpAnyH_take (i := 34) (oi := { dst := some 77, op := Op.load 47 (Operand.tmp 76), type := 47, pos := "law.go:31", after := #[{ on := 33, ground := Ground.data }, { on := 29, ground := Ground.guard }], guard := some (29, true) }) (v := ?vq34) rfl (by kernel_rfl) (by kernel_rfl) (by kernel_rfl) (fun _ _ _ h => h) (Or.inl ⟨by rfl, ?hyq34⟩) hHeld ?_
      case hyq34 => (intro w hSw; (try dsimp only at hSw); go_simp; (try with_reducible rfl))
      try simp only [Act.put, List.setIfInBounds_toArray, List.set_cons_zero, List.set_cons_succ]
      refine wpAnyH_ready (rs := [35]) (by kernel_rfl) (by simp) ?_
      refine AllReadyH.cons (o := { dst := some 78, op := Op.call { callee := Callee.value (Operand.func 17), args := #[Operand.tmp 77], argTypes := #[47] }, type := 24, pos := "law.go:31", after := #[{ on := 34, ground := Ground.data }, { on := 29, ground := Ground.chain }, { on := 29, ground := Ground.guard }], guard := some (29, true) }) rfl (fun K hK => ?_) AllReadyH.nil
      go_simp
      refine (All_c HT6.out.hand.ar (by decide)).mono ?_
      rintro e V5 ⟨rfl, hrow, hb⟩
      have HRw := Lib.hid hrow
      have HT7 := Lib.hid (HT6.out.below hb); have HX7 := Lib.hid (HX6.out.below hb); have HS7 := Lib.hid (HSx.out.below hb); have q0 := (Lib.hid HT7.out.col.cells.1)
      clear hHeld hb hrow HT6 HX6 HSx z0 y0 y1 y2 y3 y4 x0 x1 x2 x3
      have HT6 := HT7; have HX6 := HX7; have HSx := HS7; have z0 := q0.out
      clear HT7 HX7 HS7 q0
      obtain ⟨y0, ⟨y1, y2, y3, y4⟩, _⟩ := HT6.out.hand.cells
      obtain ⟨x0, x1, x2, x3⟩ := HX6.out
      dsimp only at z0 y1 y2 y3 y4
      refine hK.out _ _ ?_ (fun hHeld => ?_)
      · exact ⟨z0, y0, y1, y2, y3, y4, x0, x1, x2, x3⟩
      clear hK K
      try simp only [Act.put, List.setIfInBounds_toArray, List.set_cons_zero, List.set_cons_succ]
      refine wpAnyH_ready (rs := [36]) (by kernel_rfl) (by simp) ?_
      refine AllReadyH.cons (o := { dst := some 79, op := Op.call { callee := Callee.value (Operand.func 15), args := #[Operand.tmp 73, Operand.tmp 78], argTypes := #[23, 24] }, type := 42, pos := "law.go:31", after := #[{ on := 30, ground := Ground.data }, { on := 35, ground := Ground.data }, { on := 35, ground := Ground.chain }, { on := 29, ground := Ground.guard }], guard := some (29, true) }) rfl (fun K hK => ?_) AllReadyH.nil
      go_simp
      refine (HGr.out _ _ HSx.out HRw.out).mono ?_
      rintro e V6 ⟨vv, rfl, hrow, hb⟩
      obtain ⟨va, vc, rfl, _⟩ := IntsAt.own hrow
      have HT7 := Lib.hid (HT6.out.below hb)
      have HX7 := Lib.hid (HX6.out.below hb)
      have q0 := (Lib.hid HT7.out.col.cells.1)
      clear hHeld hb hrow HRw HT6 HX6 HSx z0 y0 y1 y2 y3 y4 x0 x1 x2 x3
      have HT6 := HT7; have HX6 := HX7; have z0 := q0.out
      clear HT7 HX7 q0
      obtain ⟨y0, ⟨y1, y2, y3, y4⟩, _⟩ := HT6.out.hand.cells
      obtain ⟨x0, x1, x2, x3⟩ := HX6.out
      dsimp only at z0 y1 y2 y3 y4
      refine hK.out _ _ ?_ (fun hHeld => ?_)
      · exact ⟨z0, y0, y1, y2, y3, y4, x0, x1, x2, x3⟩
      clear hK K
      try simp only [Act.put, List.setIfInBounds_toArray, List.set_cons_zero, List.set_cons_succ]
      refine wpAnyH_take (i := 37) (oi := { dst := some 80, op := Op.call { callee := Callee.builtin Builtin.len, args := #[Operand.tmp 79], argTypes := #[42] }, type := 3, pos := "law.go:31", after := #[{ on := 36, ground := Ground.data }, { on := 29, ground := Ground.guard }], guard := some (29, true) }) (v := ?vq37) rfl (by kernel_rfl) (by kernel_rfl) (by kernel_rfl) (fun _ _ _ h => h) (Or.inl ⟨by rfl, ?hyq37⟩) hHeld ?_
      case hyq37 => (intro w hSw; (try dsimp only at hSw); go_simp; (try with_reducible rfl))
      try simp only [Act.put, List.setIfInBounds_toArray, List.set_cons_zero, List.set_cons_succ]
      refine wpAnyH_take (i := 38) (oi := { dst := some 81, op := Op.binOp BinOp.eql 3 (Operand.tmp 80) (Operand.const (Value.int IntKind.i64 0)) 3, type := 4, pos := "law.go:31", after := #[{ on := 37, ground := Ground.data }, { on := 29, ground := Ground.guard }], guard := some (29, true) }) (v := ?vq38) rfl (by kernel_rfl) (by kernel_rfl) (by kernel_rfl) (fun _ _ _ h => h) (Or.inl ⟨by rfl, ?hyq38⟩) hHeld ?_
      case hyq38 => (intro w hSw; (try dsimp only at hSw); go_simp; (try with_reducible rfl))
      try simp only [Act.put, List.setIfInBounds_toArray, List.set_cons_zero, List.set_cons_succ]
      refine wpAnyH_take (i := 39) (oi := { dst := some 82, op := Op.pick (Operand.tmp 72) (Operand.tmp 81) (Operand.const (Value.bool false)), type := 4, pos := "law.go:31", after := #[{ on := 29, ground := Ground.data }, { on := 38, ground := Ground.data }], guard := none }) (v := ?vq39) rfl (by kernel_rfl) (by kernel_rfl) (by kernel_rfl) (fun _ _ _ h => h) (Or.inl ⟨by rfl, ?hyq39⟩) hHeld ?_
      case hyq39 => (intro w hSw; (try dsimp only at hSw); go_simp; (try with_reducible rfl))
      try simp only [Act.put, List.setIfInBounds_toArray, List.set_cons_zero, List.set_cons_succ]
      refine wpAnyH_take (i := 40) (oi := { dst := some 0, op := Op.assign (Operand.tmp 82), type := 4, pos := "law.go:31", after := #[{ on := 39, ground := Ground.data }, { on := 36, ground := Ground.chain }, { on := 0, ground := Ground.phase }, { on := 1, ground := Ground.phase }, { on := 2, ground := Ground.phase }, { on := 3, ground := Ground.phase }, { on := 4, ground := Ground.phase }, { on := 5, ground := Ground.phase }, { on := 6, ground := Ground.phase }, { on := 7, ground := Ground.phase }, { on := 8, ground := Ground.phase }, { on := 9, ground := Ground.phase }, { on := 10, ground := Ground.phase }, { on := 11, ground := Ground.phase }, { on := 12, ground := Ground.phase }, { on := 13, ground := Ground.phase }, { on := 14, ground := Ground.phase }, { on := 15, ground := Ground.phase }, { on := 16, ground := Ground.phase }, { on := 17, ground := Ground.phase }, { on := 18, ground := Ground.phase }, { on := 19, ground := Ground.phase }, { on := 20, ground := Ground.phase }, { on := 21, ground := Ground.phase }, { on := 22, ground := Ground.phase }, { on := 23, ground := Ground.phase }, { on := 24, ground := Ground.phase }, { on := 25, ground := Ground.phase }, { on := 26, ground := Ground.phase }, { on := 27, ground := Ground.phase }, { on := 28, ground := Ground.phase }, { on := 29, ground := Ground.phase }, { on := 30, ground := Ground.phase }, { on := 31, ground := Ground.phase }, { on := 32, ground := Ground.phase }, { on := 33, ground := Ground.phase }, { on := 34, ground := Ground.phase }, { on := 35, ground := Ground.phase }, { on := 36, ground := Ground.phase }, { on := 37, ground := Ground.phase }, { on := 38, ground := Ground.phase }, { on := 39, ground := Ground.phase }], guard := none }) (v := ?vq40) rfl (by kernel_rfl) (by kernel_rfl) (by kernel_rfl) (fun _ _ _ h => h) (Or.inl ⟨by rfl, ?hyq40⟩) hHeld ?_
      case hyq40 => (intro w hSw; (try dsimp only at hSw); go_simp; (try with_reducible rfl))
      try simp only [Act.put, List.setIfInBounds_toArray, List.set_cons_zero, List.set_cons_succ]
      refine wpAnyH_done (by kernel_rfl) ?_ _
      clear hHeld z0 y0 y1 y2 y3 y4 x0 x1 x2 x3
      have HE := Lib.hid (belowOn HB0.out HT6.out.old)
      clear HT6 HX6
      go_wp2_with fail
      go_ret
      exact ⟨rfl, HE.out⟩
end Go.Proofs.YtipkkmmehjdmpaaDoor
