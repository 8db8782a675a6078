/- PassGreys answers true: the grey cells of any words are as the document says. -/
import Derived.Test.YtipkkmmehjdmpaaDoorPassAwake
import Derived.Test.YtipkkmmehjdmpaaDoorHandRefCalls
namespace Go.Proofs.YtipkkmmehjdmpaaDoor
open Go Go.RowKit
set_option maxRecDepth 100000
attribute [local go_sem ↓] Go.wp_at_zero Go.wp_at_succ

theorem greysR_len (C : Cf) (f : Nat → Int) : (greysR C f).length ≤ 20000 := by
  unfold greysR
  split
  · rename_i h
    have := greysL_len C f C.a.toNat
    have := h.a4
    omega
  · simp
set_option maxHeartbeats 3200000 in
theorem greys_law (a b c d : Int) (v0 : Option Addr) (n c0 : Nat) (f : Nat → Int) (w : World) (hS : SpansAt w) (hG : Given w v0 n c0 f) :
    Calls Tryd.prog 4 #[.agg #[.int .i64 a, .int .i64 b, .int .i64 c, .int .i64 d], .slice v0 n c0] w fun e w' => e = .returned (.bool true) ∧ Below w.heap.size w w' := by
  have HB0 := Lib.hid (below_new w (.cells #[.int .i64 a, .int .i64 b, .int .i64 c, .int .i64 d] 23))
  have HX0 := Lib.hid (BoxAt.new w a b c d 23)
  have HS := Lib.hid hS; have HG := Lib.hid hG
  clear hS hG
  obtain ⟨x0, x1, x2, x3⟩ := HX0.out
  go_enter Tryd.func4, Tryd.ntmps4
  go_wp2_with fail
  refine (awake_c _ (HS.out.below HB0.out)).mono ?_
  rintro e W1 ⟨rfl, hW⟩
  have HB1 := Lib.hid (belowOn HB0.out hW)
  have HX1 := Lib.hid (HX0.out.below hW)
  clear hW HB0 HX0 x0 x1 x2 x3
  obtain ⟨x0, x1, x2, x3⟩ := HX1.out
  go_wp2_with fail
  by_cases hg : grt a b c d
  · refine (great_yes a b c d hg _).mono ?_
    rintro e W2 ⟨rfl, hW⟩
    have HB2 := Lib.hid (belowOn HB1.out hW)
    clear hW HB1 HX1 x0 x1 x2 x3 hg
    go_wp2_with fail
    go_ret
    exact ⟨rfl, HB2.out⟩
  refine (great_no a b c d hg _).mono ?_
  rintro e W2 ⟨rfl, hW⟩
  have HB2 := Lib.hid (belowOn HB1.out hW)
  have HX2 := Lib.hid (HX1.out.below hW)
  clear hW HB1 HX1 x0 x1 x2 x3 hg
  by_cases hn4 : (400 : Int) < (n : Int)
  · clear HX2
    go_wp2_with fail
    go_ret
    exact ⟨rfl, HB2.out⟩
  have HL : Hid (∀ W, Below W2.heap.size W2 W → Calls Tryd.prog 15 #[.agg #[.int .i64 a, .int .i64 b, .int .i64 c, .int .i64 d], .slice v0 n c0] W (NumsPost W (greysR ⟨n, a, b, c, d⟩ f))) := Lib.hid (fun W h => greys_any a b c d v0 n c0 f HG.out.2.2.1 W (HS.out.below (belowOn HB2.out h)) (HG.out.2.1.below (belowOn HB2.out h)))
  have HR : Hid (∀ W, Below W2.heap.size W2 W → Calls Tryd.prog 16 #[.agg #[.int .i64 a, .int .i64 b, .int .i64 c, .int .i64 d], .slice v0 n c0] W (NumsPost W (greysR ⟨n, a, b, c, d⟩ f))) := Lib.hid (fun W h => rgreys_any a b c d v0 n c0 f HG.out.2.2.1 W (HG.out.2.1.below (belowOn HB2.out h)))
  have hlen : (greysR ⟨n, a, b, c, d⟩ f).length ≤ 20000 := greysR_len _ _
  have HLn := Lib.hid hlen
  clear hlen
  generalize greysR ⟨n, a, b, c, d⟩ f = L at *
  go_wp2_with fail
  clear hn4
  have HX3 : Hid (BoxAt W2.drew w.heap.size a b c d) := Lib.hid HX2.out
  have HB3 := Lib.hid (Below.refl W2.heap.size W2).drew
  obtain ⟨x0, x1, x2, x3⟩ := HX3.out
  clear HX2
  refine wp_region_held_drew (S := (fun w' => w'.cell? ⟨w.heap.size, 0, none⟩ = some (.int .i64 a) ∧ w'.cell? ⟨w.heap.size, 1, none⟩ = some (.int .i64 b) ∧ w'.cell? ⟨w.heap.size, 2, none⟩ = some (.int .i64 c) ∧ w'.cell? ⟨w.heap.size, 3, none⟩ = some (.int .i64 d))) (by kernel_rfl) ?_ (fun hHeld => ?_)
  · exact ⟨x0, x1, x2, x3⟩
  refine wpAnyH_take (i := 0) (oi := { dst := some 14, op := Op.load 23 (Operand.tmp 2), type := 23, pos := "law.go:59", after := #[], guard := none }) (v := ?vq0) rfl (by kernel_rfl) (by kernel_rfl) (by kernel_rfl) (fun _ _ _ h => h) (Or.inl ⟨by rfl, ?hyq0⟩) hHeld ?_
  case hyq0 => (intro w hSw; (try dsimp only at hSw); go_simp; (try with_reducible rfl))
  try simp only [Act.put, List.setIfInBounds_toArray, List.set_cons_zero, List.set_cons_succ]
  refine wpAnyH_take (i := 1) (oi := { dst := some 15, op := Op.move (Operand.tmp 1), type := 24, pos := "law.go:59", after := #[], guard := none }) (v := ?vq1) rfl (by kernel_rfl) (by kernel_rfl) (by kernel_rfl) (fun _ _ _ h => h) (Or.inl ⟨by rfl, ?hyq1⟩) hHeld ?_
  case hyq1 => (intro w hSw; (try dsimp only at hSw); go_simp; (try with_reducible rfl))
  try simp only [Act.put, List.setIfInBounds_toArray, List.set_cons_zero, List.set_cons_succ]
  refine wpAnyH_take (i := 3) (oi := { dst := some 17, op := Op.load 23 (Operand.tmp 2), type := 23, pos := "law.go:59", after := #[], guard := none }) (v := ?vq3) rfl (by kernel_rfl) (by kernel_rfl) (by kernel_rfl) (fun _ _ _ h => h) (Or.inl ⟨by rfl, ?hyq3⟩) hHeld ?_
  case hyq3 => (intro w hSw; (try dsimp only at hSw); go_simp; (try with_reducible rfl))
  try simp only [Act.put, List.setIfInBounds_toArray, List.set_cons_zero, List.set_cons_succ]
  refine wpAnyH_take (i := 4) (oi := { dst := some 18, op := Op.move (Operand.tmp 1), type := 24, pos := "law.go:59", after := #[], guard := none }) (v := ?vq4) rfl (by kernel_rfl) (by kernel_rfl) (by kernel_rfl) (fun _ _ _ h => h) (Or.inl ⟨by rfl, ?hyq4⟩) hHeld ?_
  case hyq4 => (intro w hSw; (try dsimp only at hSw); go_simp; (try with_reducible rfl))
  try simp only [Act.put, List.setIfInBounds_toArray, List.set_cons_zero, List.set_cons_succ]
  refine wpAnyH_ready (rs := [2]) (by kernel_rfl) (by simp) ?_
  refine AllReadyH.cons (o := { dst := some 16, op := Op.call { callee := Callee.value (Operand.func 15), args := #[Operand.tmp 14, Operand.tmp 15], argTypes := #[23, 24] }, type := 42, pos := "law.go:59", after := #[{ on := 0, ground := Ground.data }, { on := 1, ground := Ground.data }], guard := none }) rfl (fun K hK => ?_) AllReadyH.nil
  go_simp
  refine (HL.out _ HB3.out).mono ?_
  rintro e V1 ⟨vv1, rfl, hrow, hb⟩
  obtain ⟨a1, q1, rfl, hi, _, _, _⟩ := IntsAt.own hrow
  have HI1 := Lib.hid hi
  have HB4 := Lib.hid (belowOn HB3.out hb); have HX4 := Lib.hid (HX3.out.below hb)
  clear hb hrow hi hHeld HB3 HX3 x0 x1 x2 x3 HL
  have HB3 := HB4; have HX3 := HX4
  clear HB4 HX4
  obtain ⟨x0, x1, x2, x3⟩ := HX3.out
  refine hK.out _ _ ?_ (fun hHeld => ?_)
  · exact ⟨x0, x1, x2, x3⟩
  clear hK K
  try simp only [Act.put, List.setIfInBounds_toArray, List.set_cons_zero, List.set_cons_succ]
  refine wpAnyH_ready (rs := [5]) (by kernel_rfl) (by simp) ?_
  refine AllReadyH.cons (o := { dst := some 19, op := Op.call { callee := Callee.value (Operand.func 16), args := #[Operand.tmp 17, Operand.tmp 18], argTypes := #[23, 24] }, type := 42, pos := "law.go:59", after := #[{ on := 3, ground := Ground.data }, { on := 4, ground := Ground.data }, { on := 2, ground := Ground.chain }], guard := none }) rfl (fun K hK => ?_) AllReadyH.nil
  go_simp
  refine (HR.out _ HB3.out).mono ?_
  rintro e V2 ⟨vv2, rfl, hrow, hb⟩
  obtain ⟨a2, q2, rfl, hi, _, _, _⟩ := IntsAt.own hrow
  have HI2 := Lib.hid hi
  have HJ := Lib.hid (HI1.out.below hb)
  have HB4 := Lib.hid (belowOn HB3.out hb); have HX4 := Lib.hid (HX3.out.below hb)
  clear hb hrow hi hHeld HB3 HX3 x0 x1 x2 x3 HR
  have HB3 := HB4; have HX3 := HX4
  clear HB4 HX4
  obtain ⟨x0, x1, x2, x3⟩ := HX3.out
  refine hK.out _ _ ?_ (fun hHeld => ?_)
  · exact ⟨x0, x1, x2, x3⟩
  clear hK K
  try simp only [Act.put, List.setIfInBounds_toArray, List.set_cons_zero, List.set_cons_succ]
  refine wpAnyH_ready (rs := [6]) (by kernel_rfl) (by simp) ?_
  refine AllReadyH.cons (o := { dst := some 20, op := Op.call { callee := Callee.value (Operand.func 14), args := #[Operand.tmp 16, Operand.tmp 19], argTypes := #[42, 42] }, type := 4, pos := "law.go:59", after := #[{ on := 2, ground := Ground.data }, { on := 5, ground := Ground.data }, { on := 5, ground := Ground.chain }], guard := none }) rfl (fun K hK => ?_) AllReadyH.nil
  go_simp
  refine (ints_c L HLn.out _ _ _ _ _ HJ.out HI2.out).mono ?_
  rintro e V5 ⟨rfl, hb⟩
  have HB4 := Lib.hid (belowOn HB3.out hb)
  have HX4 := Lib.hid (HX3.out.below hb)
  clear hb hHeld HB3 HX3 x0 x1 x2 x3 HI1 HI2 HJ
  obtain ⟨x0, x1, x2, x3⟩ := HX4.out
  refine hK.out _ _ ?_ (fun hHeld => ?_)
  · exact ⟨x0, x1, x2, x3⟩
  clear hK K
  try simp only [Act.put, List.setIfInBounds_toArray, List.set_cons_zero, List.set_cons_succ]
  refine wpAnyH_take (i := 7) (oi := { dst := some 4, op := Op.assign (Operand.tmp 20), type := 4, pos := "law.go:59", after := #[{ on := 6, ground := Ground.data }, { on := 6, ground := Ground.chain }, { on := 0, ground := Ground.phase }, { on := 1, ground := Ground.phase }, { on := 2, ground := Ground.phase }, { on := 3, ground := Ground.phase }, { on := 4, ground := Ground.phase }, { on := 5, ground := Ground.phase }, { on := 6, ground := Ground.phase }], guard := none }) (v := ?vq7) rfl (by kernel_rfl) (by kernel_rfl) (by kernel_rfl) (fun _ _ _ h => h) (Or.inl ⟨by rfl, ?hyq7⟩) hHeld ?_
  case hyq7 => (intro w hSw; (try dsimp only at hSw); go_simp; (try with_reducible rfl))
  try simp only [Act.put, List.setIfInBounds_toArray, List.set_cons_zero, List.set_cons_succ]
  refine wpAnyH_done (by kernel_rfl) ?_ _
  clear hHeld x0 x1 x2 x3 HX4
  have HE := Lib.hid (belowOn HB2.out HB4.out)
  clear HB4
  go_wp2_with fail
  go_ret
  exact ⟨rfl, HE.out⟩
end Go.Proofs.YtipkkmmehjdmpaaDoor
