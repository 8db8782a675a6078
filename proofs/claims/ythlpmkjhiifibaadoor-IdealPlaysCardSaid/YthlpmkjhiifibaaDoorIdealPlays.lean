/- The law IdealPlays, for all numbers and all acts: true. -/
import Derived.Test.YthlpmkjhiifibaaDoorIdealActs
namespace Go.Proofs.YthlpmkjhiifibaaDoor
open Go Go.RowKit
set_option maxRecDepth 100000
attribute [local go_sem ↓] Go.wp_at_zero Go.wp_at_succ

theorem plays_great (b c d : Int) (hg : grt 2 b c d) (a : Option Addr) (n cap : Nat) (w : World) (hS : SpansAt w) (hRw : RowsAt w) : Calls Tryd.prog 3 #[.int .i64 b, .int .i64 c, .int .i64 d, .slice a n cap] w fun e w' => e = .returned (.bool true) ∧ Below w.heap.size w w' := by
  have HG := Lib.hid (great_yes 2 b c d hg)
  clear hg
  have HA := Lib.hid (awake_c w hS hRw)
  have HS := Lib.hid hS
  clear hS hRw
  go_enter Tryd.func3, Tryd.ntmps3
  go_wp2_with fail
  refine HA.out.mono ?_
  rintro e W1 ⟨rfl, hW1⟩
  have HB2 := Lib.hid (belowOn hW1 (below_new W1 (.cells #[.int .i64 2, .int .i64 b, .int .i64 c, .int .i64 d] 25)))
  have HX2 := Lib.hid (BoxAt.new W1 2 b c d 25)
  have hw1 : w.heap.size ≤ W1.heap.size := hW1.size
  clear hW1 HA
  obtain ⟨x0, x1, x2, x3⟩ := HX2.out
  go_wp2_with fail
  refine (HG.out _).mono ?_
  rintro e W3 ⟨rfl, hW3⟩
  have HB3 := Lib.hid (belowOn HB2.out hW3)
  have HX3 := Lib.hid (HX2.out.below hW3)
  clear hW3 HB2 HX2 x0 x1 x2 x3 HG
  obtain ⟨x0, x1, x2, x3⟩ := HX3.out
  go_wp2_with fail
  go_ret
  exact ⟨rfl, HB3.out⟩
theorem plays_long (b c d : Int) (hg : ¬ grt 2 b c d) (a : Option Addr) (n cap : Nat) (hn : 60 < n) (_ : n ≤ 9223372036854775807) (w : World) (hS : SpansAt w) (hRw : RowsAt w) : Calls Tryd.prog 3 #[.int .i64 b, .int .i64 c, .int .i64 d, .slice a n cap] w fun e w' => e = .returned (.bool true) ∧ Below w.heap.size w w' := by
  have HG := Lib.hid (great_no 2 b c d hg)
  have hd1 : decide (60 < (n : Int)) = true := decide_eq_true (by omega)
  clear hg
  have HA := Lib.hid (awake_c w hS hRw)
  have HS := Lib.hid hS
  clear hS hRw
  go_enter Tryd.func3, Tryd.ntmps3
  go_wp2_with fail
  refine HA.out.mono ?_
  rintro e W1 ⟨rfl, hW1⟩
  have HB2 := Lib.hid (belowOn hW1 (below_new W1 (.cells #[.int .i64 2, .int .i64 b, .int .i64 c, .int .i64 d] 25)))
  have HX2 := Lib.hid (BoxAt.new W1 2 b c d 25)
  have hw1 : w.heap.size ≤ W1.heap.size := hW1.size
  clear hW1 HA
  obtain ⟨x0, x1, x2, x3⟩ := HX2.out
  go_wp2_with fail
  refine (HG.out _).mono ?_
  rintro e W3 ⟨rfl, hW3⟩
  have HB3 := Lib.hid (belowOn HB2.out hW3)
  have HX3 := Lib.hid (HX2.out.below hW3)
  clear hW3 HB2 HX2 x0 x1 x2 x3 HG
  obtain ⟨x0, x1, x2, x3⟩ := HX3.out
  go_wp2_with fail
  go_ret
  exact ⟨rfl, HB3.out⟩
theorem plays_wrong (b c d : Int) (hg : ¬ grt 2 b c d) (hr : ¬ Right 2 b c d) (a : Option Addr) (n cap : Nat) (hn : n ≤ 60) (w : World) (hS : SpansAt w) (hRw : RowsAt w) : Calls Tryd.prog 3 #[.int .i64 b, .int .i64 c, .int .i64 d, .slice a n cap] w fun e w' => e = .returned (.bool true) ∧ Below w.heap.size w w' := by
  have HG := Lib.hid (great_no 2 b c d hg)
  have hd1 : decide (60 < (n : Int)) = false := decide_eq_false (by omega)
  have HN : Hid (∀ W, SpansAt W → _) := Lib.hid (fun W hW => New_no b c d hr W hW)
  have HR := Lib.hid (refRight_wrong 2 b c d hr)
  clear hg hr
  have HA := Lib.hid (awake_c w hS hRw)
  have HS := Lib.hid hS
  clear hS hRw
  go_enter Tryd.func3, Tryd.ntmps3
  go_wp2_with fail
  refine HA.out.mono ?_
  rintro e W1 ⟨rfl, hW1⟩
  have HB2 := Lib.hid (belowOn hW1 (below_new W1 (.cells #[.int .i64 2, .int .i64 b, .int .i64 c, .int .i64 d] 25)))
  have HX2 := Lib.hid (BoxAt.new W1 2 b c d 25)
  have hw1 : w.heap.size ≤ W1.heap.size := hW1.size
  clear hW1 HA
  obtain ⟨x0, x1, x2, x3⟩ := HX2.out
  go_wp2_with fail
  refine (HG.out _).mono ?_
  rintro e W3 ⟨rfl, hW3⟩
  have HB3 := Lib.hid (belowOn HB2.out hW3)
  have HX3 := Lib.hid (HX2.out.below hW3)
  clear hW3 HB2 HX2 x0 x1 x2 x3 HG
  obtain ⟨x0, x1, x2, x3⟩ := HX3.out
  go_wp2_with fail
  refine (HN.out _ (HS.out.below HB3.out)).mono ?_
  rintro e W4 ⟨rfl, hW4⟩
  have HB4 := Lib.hid (belowOn HB3.out hW4)
  have HX4 := Lib.hid (HX3.out.below hW4)
  clear hW4 HB3 HX3 x0 x1 x2 x3 HN
  obtain ⟨x0, x1, x2, x3⟩ := HX4.out
  go_wp2_with fail
  refine (HR.out _).mono ?_
  rintro e W5 ⟨rfl, hW5⟩
  have HB5 := Lib.hid (belowOn HB4.out hW5)
  clear hW5 HB4 HX4 x0 x1 x2 x3 HR
  go_wp2_with fail
  go_ret
  exact ⟨rfl, HB5.out⟩
set_option maxHeartbeats 6400000 in
theorem plays_right (b c d : Nat) (hg : ¬ grt 2 b c d) (hr : Right 2 b c d) (a : Option Addr) (n cap : Nat) (g : Nat → ActN) (hn : n ≤ 60) (w : World) (hS : SpansAt w) (hRw : RowsAt w) (hAct : GivenActs w a n g) : Calls Tryd.prog 3 #[.int .i64 b, .int .i64 c, .int .i64 d, .slice a n cap] w fun e w' => e = .returned (.bool true) ∧ Below w.heap.size w w' := by
  have HG := Lib.hid (great_no 2 b c d hg)
  have hd1 : decide (60 < (n : Int)) = false := decide_eq_false (by omega)
  have HN : Hid (∀ W, SpansAt W → _) := Lib.hid (fun W hW => New_yes b c d hr W hW)
  have HR := Lib.hid (refRight_right 2 b c d hr)
  have HAct := Lib.hid hAct
  have HRw := Lib.hid hRw
  clear hg hr hAct
  have HA := Lib.hid (awake_c w hS hRw)
  have HS := Lib.hid hS
  clear hS hRw
  go_enter Tryd.func3, Tryd.ntmps3
  go_wp2_with fail
  refine HA.out.mono ?_
  rintro e W1 ⟨rfl, hW1⟩
  have HB2 := Lib.hid (belowOn hW1 (below_new W1 (.cells #[.int .i64 2, .int .i64 b, .int .i64 c, .int .i64 d] 25)))
  have HX2 := Lib.hid (BoxAt.new W1 2 b c d 25)
  have hw1 : w.heap.size ≤ W1.heap.size := hW1.size
  clear hW1 HA
  obtain ⟨x0, x1, x2, x3⟩ := HX2.out
  go_wp2_with fail
  refine (HG.out _).mono ?_
  rintro e W3 ⟨rfl, hW3⟩
  have HB3 := Lib.hid (belowOn HB2.out hW3)
  have HX3 := Lib.hid (HX2.out.below hW3)
  clear hW3 HB2 HX2 x0 x1 x2 x3 HG
  obtain ⟨x0, x1, x2, x3⟩ := HX3.out
  go_wp2_with fail
  refine (HN.out _ (HS.out.below HB3.out)).mono ?_
  rintro e W4 ⟨X, R, L, rfl, h4, l1, l2, l3, hW4⟩
  have HB4 := Lib.hid (belowOn HB3.out hW4)
  have HX4 := Lib.hid (HX3.out.below hW4)
  have HH4 := Lib.hid h4
  have HF4 : Hid (w.heap.size ≤ X ∧ w.heap.size ≤ R ∧ w.heap.size ≤ L) := Lib.hid (by have := HB3.out.size; omega)
  clear hW4 HB3 HX3 x0 x1 x2 x3 HN h4 l1 l2 l3
  obtain ⟨x0, x1, x2, x3⟩ := HX4.out
  go_wp2_with fail
  refine (HR.out _).mono ?_
  rintro e W5 ⟨rfl, hW5⟩
  have HB5 := Lib.hid (belowOn HB4.out hW5)
  have HH5 := Lib.hid (HH4.out.below hW5)
  clear hW5 HB4 HX4 x0 x1 x2 x3 HR HH4
  go_wp2_with fail
  refine (refNew_c b c d W5).mono ?_
  rintro e W6 ⟨Y, rfl, hdoc, lY, hW6⟩
  have HP0 : Hid (Pair w W6 X R L (.slice none 0 0) Y (.slice none 0 0) b c d st0 st0 0) := Lib.hid (by
    have := HB5.out.size
    have hf := HF4.out
    refine ⟨belowOn HB5.out hW6, HH5.out.below hW6, hdoc, ?_, ?_, ?_⟩
    · rintro k (e | e | e | e)
      · omega
      · omega
      · omega
      · simp [Value.ownBlock] at e
    · rintro k (e | e)
      · omega
      · simp [Value.ownBlock] at e
    · rintro k hk (e | e)
      · have := HH5.out.lt k hk; omega
      · simp [Value.ownBlock] at e)
  clear hdoc lY hW6 HB5 HH5 HF4
  go_wp2_with fail
  go_loopw [13] (fun vi wr => ∃ (k : Nat) (v u : Value) (s : St) (N : Nat), vi = .int .i64 k ∧ k ≤ n ∧ s.n ≤ k ∧ N ≤ 3 * k ∧ Hid (Pair w wr X R L v Y u b c d s s N)) (fun vi _ => n - (intOf vi).toNat)
  case atStart => exact ⟨0, _, _, _, 0, rfl, Nat.zero_le _, Nat.le_refl _, Nat.le_refl _, HP0⟩
  case round =>
    clear HP0
    obtain ⟨k, v, u, s, N, rfl, hk, hsn, hN, HP⟩ := hrel
    by_cases hlt : k < n
    · obtain ⟨ab, off, rfl, hab, hq0⟩ := HAct.out.2.1.at' hlt
      have HQ : Hid (∀ W, Below w.heap.size w W → ActAt W ab (off + k * 6) (g k)) := Lib.hid (fun W hW => hq0.other (hW.block ab hab))
      have hin := HAct.out.2.2 k hlt
      generalize g k = q at *
      obtain ⟨qm, qk, qx, qy, qz, qf⟩ := q
      dsimp only at hin
      have HD : Hid (∀ W v', Pair w W X R L v' Y u b c d s s N → _) := Lib.hid (fun W v' hW => Do_c (w := W) (v := v') hW.st (HS.out.below hW.old) (HRw.out.below hW.old) qm qk qx qy qz qf (by omega))
      have HE : Hid (∀ W v' s', Pair w W X R L v' Y u b c d s' s N → _) := Lib.hid (fun W v' s' hW => refDo_c (w := W) hW.doc HP.out.st.inv qm qk qx qy qz hin.1 hin.2.1 hin.2.2 qf (by omega) (by omega))
      have HN1 : Hid ((doS b c d s qm qk qx qy qz qf).n ≤ k + 1) := Lib.hid (by have := (doS_n b c d s qm qk qx qy qz qf).1; omega)
      have HPd := Lib.hid (HP.out.on (W' := wr.drew) (Below.refl _ _).drew)
      clear hin hq0 HP
      have HP := HPd
      clear HPd
      obtain ⟨a0, a1, a2, a3, a4, a5⟩ := HQ.out _ HP.out.old
      generalize doR b c d s qm qk qx qy qz qf = r at *
      generalize doS b c d s qm qk qx qy qz qf = s' at *
      go_wp2_with fail
      refine wp_region_held_drew (S := (fun w' => w'.cell? ⟨ab, off + k * 6, none⟩ = some (.int .i64 qm) ∧ w'.cell? ⟨ab, off + k * 6 + 1, none⟩ = some (.int .i64 qk) ∧ w'.cell? ⟨ab, off + k * 6 + 2, none⟩ = some (.int .i64 qx) ∧ w'.cell? ⟨ab, off + k * 6 + 3, none⟩ = some (.int .i64 qy) ∧ w'.cell? ⟨ab, off + k * 6 + 4, none⟩ = some (.int .i64 qz) ∧ w'.cell? ⟨ab, off + k * 6 + 5, none⟩ = some (.bool qf))) (by kernel_rfl) ?_ (fun hHeld => ?_)
      · exact ⟨a0, a1, a2, a3, a4, a5⟩
      refine wpAnyH_take (i := 0) (oi := { dst := some 59, op := Op.move (Operand.tmp 10), type := 27, pos := "law.go:69", after := #[], guard := none }) (v := ?vr0) rfl (by kernel_rfl) (by kernel_rfl) (by kernel_rfl) (fun _ _ _ h => h) (Or.inl ⟨by rfl, ?hyr0⟩) hHeld ?_
      case hyr0 => (intro w hSw; (try dsimp only at hSw); go_simp; (try with_reducible rfl))
      try simp only [Act.put, List.setIfInBounds_toArray, List.set_cons_zero, List.set_cons_succ]
      refine wpAnyH_take (i := 1) (oi := { dst := some 60, op := Op.move (Operand.tmp 3), type := 22, pos := "law.go:69", after := #[], guard := none }) (v := ?vr1) rfl (by kernel_rfl) (by kernel_rfl) (by kernel_rfl) (fun _ _ _ h => h) (Or.inl ⟨by rfl, ?hyr1⟩) hHeld ?_
      case hyr1 => (intro w hSw; (try dsimp only at hSw); go_simp; (try with_reducible rfl))
      try simp only [Act.put, List.setIfInBounds_toArray, List.set_cons_zero, List.set_cons_succ]
      refine wpAnyH_take (i := 2) (oi := { dst := some 61, op := Op.move (Operand.tmp 13), type := 3, pos := "law.go:69", after := #[], guard := none }) (v := ?vr2) rfl (by kernel_rfl) (by kernel_rfl) (by kernel_rfl) (fun _ _ _ h => h) (Or.inl ⟨by rfl, ?hyr2⟩) hHeld ?_
      case hyr2 => (intro w hSw; (try dsimp only at hSw); go_simp; (try with_reducible rfl))
      try simp only [Act.put, List.setIfInBounds_toArray, List.set_cons_zero, List.set_cons_succ]
      refine wpAnyH_take (i := 3) (oi := { dst := some 62, op := Op.indexAddr 22 (Operand.tmp 60) (Operand.tmp 61), type := 0, pos := "law.go:69", after := #[{ on := 1, ground := Ground.data }, { on := 2, ground := Ground.data }], guard := none }) (v := ?vr3) rfl (by kernel_rfl) (by kernel_rfl) (by kernel_rfl) (fun _ _ _ h => h) (Or.inl ⟨by rfl, ?hyr3⟩) hHeld ?_
      case hyr3 => (intro w hSw; (try dsimp only at hSw); go_simp; (try with_reducible rfl))
      try simp only [Act.put, List.setIfInBounds_toArray, List.set_cons_zero, List.set_cons_succ]
      refine wpAnyH_take (i := 4) (oi := { dst := some 63, op := Op.fieldAddr 37 (Operand.tmp 62) 0, type := 0, pos := "law.go:69", after := #[{ on := 3, ground := Ground.data }], guard := none }) (v := ?vr4) rfl (by kernel_rfl) (by kernel_rfl) (by kernel_rfl) (fun _ _ _ h => h) (Or.inl ⟨by rfl, ?hyr4⟩) hHeld ?_
      case hyr4 => (intro w hSw; (try dsimp only at hSw); go_simp; (try with_reducible rfl))
      try simp only [Act.put, List.setIfInBounds_toArray, List.set_cons_zero, List.set_cons_succ]
      refine wpAnyH_take (i := 5) (oi := { dst := some 64, op := Op.load 3 (Operand.tmp 63), type := 3, pos := "law.go:69", after := #[{ on := 4, ground := Ground.data }], guard := none }) (v := ?vr5) rfl (by kernel_rfl) (by kernel_rfl) (by kernel_rfl) (fun _ _ _ h => h) (Or.inl ⟨by rfl, ?hyr5⟩) hHeld ?_
      case hyr5 => (intro w hSw; (try dsimp only at hSw); go_simp; (try with_reducible rfl))
      try simp only [Act.put, List.setIfInBounds_toArray, List.set_cons_zero, List.set_cons_succ]
      refine wpAnyH_take (i := 6) (oi := { dst := some 65, op := Op.move (Operand.tmp 3), type := 22, pos := "law.go:69", after := #[], guard := none }) (v := ?vr6) rfl (by kernel_rfl) (by kernel_rfl) (by kernel_rfl) (fun _ _ _ h => h) (Or.inl ⟨by rfl, ?hyr6⟩) hHeld ?_
      case hyr6 => (intro w hSw; (try dsimp only at hSw); go_simp; (try with_reducible rfl))
      try simp only [Act.put, List.setIfInBounds_toArray, List.set_cons_zero, List.set_cons_succ]
      refine wpAnyH_take (i := 7) (oi := { dst := some 66, op := Op.move (Operand.tmp 13), type := 3, pos := "law.go:69", after := #[], guard := none }) (v := ?vr7) rfl (by kernel_rfl) (by kernel_rfl) (by kernel_rfl) (fun _ _ _ h => h) (Or.inl ⟨by rfl, ?hyr7⟩) hHeld ?_
      case hyr7 => (intro w hSw; (try dsimp only at hSw); go_simp; (try with_reducible rfl))
      try simp only [Act.put, List.setIfInBounds_toArray, List.set_cons_zero, List.set_cons_succ]
      refine wpAnyH_take (i := 8) (oi := { dst := some 67, op := Op.indexAddr 22 (Operand.tmp 65) (Operand.tmp 66), type := 0, pos := "law.go:69", after := #[{ on := 6, ground := Ground.data }, { on := 7, ground := Ground.data }], guard := none }) (v := ?vr8) rfl (by kernel_rfl) (by kernel_rfl) (by kernel_rfl) (fun _ _ _ h => h) (Or.inl ⟨by rfl, ?hyr8⟩) hHeld ?_
      case hyr8 => (intro w hSw; (try dsimp only at hSw); go_simp; (try with_reducible rfl))
      try simp only [Act.put, List.setIfInBounds_toArray, List.set_cons_zero, List.set_cons_succ]
      refine wpAnyH_take (i := 9) (oi := { dst := some 68, op := Op.fieldAddr 37 (Operand.tmp 67) 1, type := 0, pos := "law.go:69", after := #[{ on := 8, ground := Ground.data }], guard := none }) (v := ?vr9) rfl (by kernel_rfl) (by kernel_rfl) (by kernel_rfl) (fun _ _ _ h => h) (Or.inl ⟨by rfl, ?hyr9⟩) hHeld ?_
      case hyr9 => (intro w hSw; (try dsimp only at hSw); go_simp; (try with_reducible rfl))
      try simp only [Act.put, List.setIfInBounds_toArray, List.set_cons_zero, List.set_cons_succ]
      refine wpAnyH_take (i := 10) (oi := { dst := some 69, op := Op.load 35 (Operand.tmp 68), type := 35, pos := "law.go:69", after := #[{ on := 9, ground := Ground.data }], guard := none }) (v := ?vr10) rfl (by kernel_rfl) (by kernel_rfl) (by kernel_rfl) (fun _ _ _ h => h) (Or.inl ⟨by rfl, ?hyr10⟩) hHeld ?_
      case hyr10 => (intro w hSw; (try dsimp only at hSw); go_simp; (try with_reducible rfl))
      try simp only [Act.put, List.setIfInBounds_toArray, List.set_cons_zero, List.set_cons_succ]
      refine wpAnyH_take (i := 11) (oi := { dst := some 70, op := Op.move (Operand.tmp 3), type := 22, pos := "law.go:69", after := #[], guard := none }) (v := ?vr11) rfl (by kernel_rfl) (by kernel_rfl) (by kernel_rfl) (fun _ _ _ h => h) (Or.inl ⟨by rfl, ?hyr11⟩) hHeld ?_
      case hyr11 => (intro w hSw; (try dsimp only at hSw); go_simp; (try with_reducible rfl))
      try simp only [Act.put, List.setIfInBounds_toArray, List.set_cons_zero, List.set_cons_succ]
      refine wpAnyH_take (i := 12) (oi := { dst := some 71, op := Op.move (Operand.tmp 13), type := 3, pos := "law.go:69", after := #[], guard := none }) (v := ?vr12) rfl (by kernel_rfl) (by kernel_rfl) (by kernel_rfl) (fun _ _ _ h => h) (Or.inl ⟨by rfl, ?hyr12⟩) hHeld ?_
      case hyr12 => (intro w hSw; (try dsimp only at hSw); go_simp; (try with_reducible rfl))
      try simp only [Act.put, List.setIfInBounds_toArray, List.set_cons_zero, List.set_cons_succ]
      refine wpAnyH_take (i := 13) (oi := { dst := some 72, op := Op.indexAddr 22 (Operand.tmp 70) (Operand.tmp 71), type := 0, pos := "law.go:69", after := #[{ on := 11, ground := Ground.data }, { on := 12, ground := Ground.data }], guard := none }) (v := ?vr13) rfl (by kernel_rfl) (by kernel_rfl) (by kernel_rfl) (fun _ _ _ h => h) (Or.inl ⟨by rfl, ?hyr13⟩) hHeld ?_
      case hyr13 => (intro w hSw; (try dsimp only at hSw); go_simp; (try with_reducible rfl))
      try simp only [Act.put, List.setIfInBounds_toArray, List.set_cons_zero, List.set_cons_succ]
      refine wpAnyH_take (i := 14) (oi := { dst := some 73, op := Op.fieldAddr 37 (Operand.tmp 72) 2, type := 0, pos := "law.go:69", after := #[{ on := 13, ground := Ground.data }], guard := none }) (v := ?vr14) rfl (by kernel_rfl) (by kernel_rfl) (by kernel_rfl) (fun _ _ _ h => h) (Or.inl ⟨by rfl, ?hyr14⟩) hHeld ?_
      case hyr14 => (intro w hSw; (try dsimp only at hSw); go_simp; (try with_reducible rfl))
      try simp only [Act.put, List.setIfInBounds_toArray, List.set_cons_zero, List.set_cons_succ]
      refine wpAnyH_take (i := 15) (oi := { dst := some 74, op := Op.load 4 (Operand.tmp 73), type := 4, pos := "law.go:69", after := #[{ on := 14, ground := Ground.data }], guard := none }) (v := ?vr15) rfl (by kernel_rfl) (by kernel_rfl) (by kernel_rfl) (fun _ _ _ h => h) (Or.inl ⟨by rfl, ?hyr15⟩) hHeld ?_
      case hyr15 => (intro w hSw; (try dsimp only at hSw); go_simp; (try with_reducible rfl))
      try simp only [Act.put, List.setIfInBounds_toArray, List.set_cons_zero, List.set_cons_succ]
      refine wpAnyH_take (i := 17) (oi := { dst := some 76, op := Op.move (Operand.tmp 12), type := 31, pos := "law.go:69", after := #[], guard := none }) (v := ?vr17) rfl (by kernel_rfl) (by kernel_rfl) (by kernel_rfl) (fun _ _ _ h => h) (Or.inl ⟨by rfl, ?hyr17⟩) hHeld ?_
      case hyr17 => (intro w hSw; (try dsimp only at hSw); go_simp; (try with_reducible rfl))
      try simp only [Act.put, List.setIfInBounds_toArray, List.set_cons_zero, List.set_cons_succ]
      refine wpAnyH_take (i := 18) (oi := { dst := some 77, op := Op.move (Operand.tmp 3), type := 22, pos := "law.go:69", after := #[], guard := none }) (v := ?vr18) rfl (by kernel_rfl) (by kernel_rfl) (by kernel_rfl) (fun _ _ _ h => h) (Or.inl ⟨by rfl, ?hyr18⟩) hHeld ?_
      case hyr18 => (intro w hSw; (try dsimp only at hSw); go_simp; (try with_reducible rfl))
      try simp only [Act.put, List.setIfInBounds_toArray, List.set_cons_zero, List.set_cons_succ]
      refine wpAnyH_take (i := 19) (oi := { dst := some 78, op := Op.move (Operand.tmp 13), type := 3, pos := "law.go:69", after := #[], guard := none }) (v := ?vr19) rfl (by kernel_rfl) (by kernel_rfl) (by kernel_rfl) (fun _ _ _ h => h) (Or.inl ⟨by rfl, ?hyr19⟩) hHeld ?_
      case hyr19 => (intro w hSw; (try dsimp only at hSw); go_simp; (try with_reducible rfl))
      try simp only [Act.put, List.setIfInBounds_toArray, List.set_cons_zero, List.set_cons_succ]
      refine wpAnyH_take (i := 20) (oi := { dst := some 79, op := Op.indexAddr 22 (Operand.tmp 77) (Operand.tmp 78), type := 0, pos := "law.go:69", after := #[{ on := 18, ground := Ground.data }, { on := 19, ground := Ground.data }], guard := none }) (v := ?vr20) rfl (by kernel_rfl) (by kernel_rfl) (by kernel_rfl) (fun _ _ _ h => h) (Or.inl ⟨by rfl, ?hyr20⟩) hHeld ?_
      case hyr20 => (intro w hSw; (try dsimp only at hSw); go_simp; (try with_reducible rfl))
      try simp only [Act.put, List.setIfInBounds_toArray, List.set_cons_zero, List.set_cons_succ]
      refine wpAnyH_take (i := 21) (oi := { dst := some 80, op := Op.fieldAddr 37 (Operand.tmp 79) 0, type := 0, pos := "law.go:69", after := #[{ on := 20, ground := Ground.data }], guard := none }) (v := ?vr21) rfl (by kernel_rfl) (by kernel_rfl) (by kernel_rfl) (fun _ _ _ h => h) (Or.inl ⟨by rfl, ?hyr21⟩) hHeld ?_
      case hyr21 => (intro w hSw; (try dsimp only at hSw); go_simp; (try with_reducible rfl))
      try simp only [Act.put, List.setIfInBounds_toArray, List.set_cons_zero, List.set_cons_succ]
      refine wpAnyH_take (i := 22) (oi := { dst := some 81, op := Op.load 3 (Operand.tmp 80), type := 3, pos := "law.go:69", after := #[{ on := 21, ground := Ground.data }], guard := none }) (v := ?vr22) rfl (by kernel_rfl) (by kernel_rfl) (by kernel_rfl) (fun _ _ _ h => h) (Or.inl ⟨by rfl, ?hyr22⟩) hHeld ?_
      case hyr22 => (intro w hSw; (try dsimp only at hSw); go_simp; (try with_reducible rfl))
      try simp only [Act.put, List.setIfInBounds_toArray, List.set_cons_zero, List.set_cons_succ]
      refine wpAnyH_take (i := 23) (oi := { dst := some 82, op := Op.move (Operand.tmp 3), type := 22, pos := "law.go:69", after := #[], guard := none }) (v := ?vr23) rfl (by kernel_rfl) (by kernel_rfl) (by kernel_rfl) (fun _ _ _ h => h) (Or.inl ⟨by rfl, ?hyr23⟩) hHeld ?_
      case hyr23 => (intro w hSw; (try dsimp only at hSw); go_simp; (try with_reducible rfl))
      try simp only [Act.put, List.setIfInBounds_toArray, List.set_cons_zero, List.set_cons_succ]
      refine wpAnyH_take (i := 24) (oi := { dst := some 83, op := Op.move (Operand.tmp 13), type := 3, pos := "law.go:69", after := #[], guard := none }) (v := ?vr24) rfl (by kernel_rfl) (by kernel_rfl) (by kernel_rfl) (fun _ _ _ h => h) (Or.inl ⟨by rfl, ?hyr24⟩) hHeld ?_
      case hyr24 => (intro w hSw; (try dsimp only at hSw); go_simp; (try with_reducible rfl))
      try simp only [Act.put, List.setIfInBounds_toArray, List.set_cons_zero, List.set_cons_succ]
      refine wpAnyH_take (i := 25) (oi := { dst := some 84, op := Op.indexAddr 22 (Operand.tmp 82) (Operand.tmp 83), type := 0, pos := "law.go:69", after := #[{ on := 23, ground := Ground.data }, { on := 24, ground := Ground.data }], guard := none }) (v := ?vr25) rfl (by kernel_rfl) (by kernel_rfl) (by kernel_rfl) (fun _ _ _ h => h) (Or.inl ⟨by rfl, ?hyr25⟩) hHeld ?_
      case hyr25 => (intro w hSw; (try dsimp only at hSw); go_simp; (try with_reducible rfl))
      try simp only [Act.put, List.setIfInBounds_toArray, List.set_cons_zero, List.set_cons_succ]
      refine wpAnyH_take (i := 26) (oi := { dst := some 85, op := Op.fieldAddr 37 (Operand.tmp 84) 1, type := 0, pos := "law.go:69", after := #[{ on := 25, ground := Ground.data }], guard := none }) (v := ?vr26) rfl (by kernel_rfl) (by kernel_rfl) (by kernel_rfl) (fun _ _ _ h => h) (Or.inl ⟨by rfl, ?hyr26⟩) hHeld ?_
      case hyr26 => (intro w hSw; (try dsimp only at hSw); go_simp; (try with_reducible rfl))
      try simp only [Act.put, List.setIfInBounds_toArray, List.set_cons_zero, List.set_cons_succ]
      refine wpAnyH_take (i := 27) (oi := { dst := some 86, op := Op.load 35 (Operand.tmp 85), type := 35, pos := "law.go:69", after := #[{ on := 26, ground := Ground.data }], guard := none }) (v := ?vr27) rfl (by kernel_rfl) (by kernel_rfl) (by kernel_rfl) (fun _ _ _ h => h) (Or.inl ⟨by rfl, ?hyr27⟩) hHeld ?_
      case hyr27 => (intro w hSw; (try dsimp only at hSw); go_simp; (try with_reducible rfl))
      try simp only [Act.put, List.setIfInBounds_toArray, List.set_cons_zero, List.set_cons_succ]
      refine wpAnyH_take (i := 28) (oi := { dst := some 87, op := Op.move (Operand.tmp 3), type := 22, pos := "law.go:69", after := #[], guard := none }) (v := ?vr28) rfl (by kernel_rfl) (by kernel_rfl) (by kernel_rfl) (fun _ _ _ h => h) (Or.inl ⟨by rfl, ?hyr28⟩) hHeld ?_
      case hyr28 => (intro w hSw; (try dsimp only at hSw); go_simp; (try with_reducible rfl))
      try simp only [Act.put, List.setIfInBounds_toArray, List.set_cons_zero, List.set_cons_succ]
      refine wpAnyH_take (i := 29) (oi := { dst := some 88, op := Op.move (Operand.tmp 13), type := 3, pos := "law.go:69", after := #[], guard := none }) (v := ?vr29) rfl (by kernel_rfl) (by kernel_rfl) (by kernel_rfl) (fun _ _ _ h => h) (Or.inl ⟨by rfl, ?hyr29⟩) hHeld ?_
      case hyr29 => (intro w hSw; (try dsimp only at hSw); go_simp; (try with_reducible rfl))
      try simp only [Act.put, List.setIfInBounds_toArray, List.set_cons_zero, List.set_cons_succ]
      refine wpAnyH_take (i := 30) (oi := { dst := some 89, op := Op.indexAddr 22 (Operand.tmp 87) (Operand.tmp 88), type := 0, pos := "law.go:69", after := #[{ on := 28, ground := Ground.data }, { on := 29, ground := Ground.data }], guard := none }) (v := ?vr30) rfl (by kernel_rfl) (by kernel_rfl) (by kernel_rfl) (fun _ _ _ h => h) (Or.inl ⟨by rfl, ?hyr30⟩) hHeld ?_
      case hyr30 => (intro w hSw; (try dsimp only at hSw); go_simp; (try with_reducible rfl))
      try simp only [Act.put, List.setIfInBounds_toArray, List.set_cons_zero, List.set_cons_succ]
      refine wpAnyH_take (i := 31) (oi := { dst := some 90, op := Op.fieldAddr 37 (Operand.tmp 89) 2, type := 0, pos := "law.go:69", after := #[{ on := 30, ground := Ground.data }], guard := none }) (v := ?vr31) rfl (by kernel_rfl) (by kernel_rfl) (by kernel_rfl) (fun _ _ _ h => h) (Or.inl ⟨by rfl, ?hyr31⟩) hHeld ?_
      case hyr31 => (intro w hSw; (try dsimp only at hSw); go_simp; (try with_reducible rfl))
      try simp only [Act.put, List.setIfInBounds_toArray, List.set_cons_zero, List.set_cons_succ]
      refine wpAnyH_take (i := 32) (oi := { dst := some 91, op := Op.load 4 (Operand.tmp 90), type := 4, pos := "law.go:69", after := #[{ on := 31, ground := Ground.data }], guard := none }) (v := ?vr32) rfl (by kernel_rfl) (by kernel_rfl) (by kernel_rfl) (fun _ _ _ h => h) (Or.inl ⟨by rfl, ?hyr32⟩) hHeld ?_
      case hyr32 => (intro w hSw; (try dsimp only at hSw); go_simp; (try with_reducible rfl))
      try simp only [Act.put, List.setIfInBounds_toArray, List.set_cons_zero, List.set_cons_succ]
      refine wpAnyH_ready (rs := [16]) (by kernel_rfl) (by simp) ?_
      refine AllReadyH.cons (o := { dst := some 75, op := Op.call { callee := Callee.value (Operand.func 12), args := #[Operand.tmp 59, Operand.tmp 64, Operand.tmp 69, Operand.tmp 74], argTypes := #[27, 3, 35, 4] }, type := 3, pos := "law.go:69", after := #[{ on := 0, ground := Ground.data }, { on := 5, ground := Ground.data }, { on := 10, ground := Ground.data }, { on := 15, ground := Ground.data }], guard := none }) rfl (fun K hK => ?_) AllReadyH.nil
      go_simp
      refine (HD.out _ _ HP.out).mono ?_
      rintro e V1 hP
      obtain ⟨rfl, v1, hP2⟩ := HP.out.act hP
      have HP1 := Lib.hid hP2
      clear hP hP2 HP HD
      clear a0 a1 a2 a3 a4 a5 hHeld
      obtain ⟨a0, a1, a2, a3, a4, a5⟩ := HQ.out _ HP1.out.old
      refine hK.out _ _ ?_ (fun hHeld => ?_)
      · exact ⟨a0, a1, a2, a3, a4, a5⟩
      clear hK K
      try simp only [Act.put, List.setIfInBounds_toArray, List.set_cons_zero, List.set_cons_succ]
      refine wpAnyH_ready (rs := [33]) (by kernel_rfl) (by simp) ?_
      refine AllReadyH.cons (o := { dst := some 92, op := Op.call { callee := Callee.value (Operand.func 13), args := #[Operand.tmp 76, Operand.tmp 81, Operand.tmp 86, Operand.tmp 91], argTypes := #[31, 3, 35, 4] }, type := 3, pos := "law.go:69", after := #[{ on := 17, ground := Ground.data }, { on := 22, ground := Ground.data }, { on := 27, ground := Ground.data }, { on := 32, ground := Ground.data }, { on := 16, ground := Ground.chain }], guard := none }) rfl (fun K hK => ?_) AllReadyH.nil
      go_simp
      refine (HE.out _ _ _ HP1.out).mono ?_
      rintro e V2 hP
      obtain ⟨rfl, u1, hP2⟩ := HP1.out.book hP
      have HP2 := Lib.hid hP2
      clear hP hP2 HP1 HE
      clear a0 a1 a2 a3 a4 a5 hHeld
      obtain ⟨a0, a1, a2, a3, a4, a5⟩ := HQ.out _ HP2.out.old
      refine hK.out _ _ ?_ (fun hHeld => ?_)
      · exact ⟨a0, a1, a2, a3, a4, a5⟩
      clear hK K
      try simp only [Act.put, List.setIfInBounds_toArray, List.set_cons_zero, List.set_cons_succ]
      refine wpAnyH_take (i := 34) (oi := { dst := some 93, op := Op.binOp BinOp.neq 3 (Operand.tmp 75) (Operand.tmp 92) 3, type := 4, pos := "law.go:69", after := #[{ on := 16, ground := Ground.data }, { on := 33, ground := Ground.data }], guard := none }) (v := ?vr34) rfl (by kernel_rfl) (by kernel_rfl) (by kernel_rfl) (fun _ _ _ h => h) (Or.inl ⟨by rfl, ?hyr34⟩) hHeld ?_
      case hyr34 => (intro w hSw; (try dsimp only at hSw); go_simp; (try with_reducible rfl))
      try simp only [Act.put, List.setIfInBounds_toArray, List.set_cons_zero, List.set_cons_succ]
      refine wpAnyH_take (i := 35) (oi := { dst := some 94, op := Op.move (Operand.tmp 93), type := 4, pos := "law.go:69", after := #[{ on := 34, ground := Ground.data }, { on := 33, ground := Ground.chain }], guard := none }) (v := ?vr35) rfl (by kernel_rfl) (by kernel_rfl) (by kernel_rfl) (fun _ _ _ h => h) (Or.inl ⟨by rfl, ?hyr35⟩) hHeld ?_
      case hyr35 => (intro w hSw; (try dsimp only at hSw); go_simp; (try with_reducible rfl))
      try simp only [Act.put, List.setIfInBounds_toArray, List.set_cons_zero, List.set_cons_succ]
      refine wpAnyH_take (i := 36) (oi := { dst := some 95, op := Op.move (Operand.tmp 10), type := 27, pos := "law.go:69", after := #[{ on := 35, ground := Ground.guard }], guard := some (35, false) }) (v := ?vr36) rfl (by kernel_rfl) (by kernel_rfl) (by kernel_rfl) (fun _ _ _ h => h) (Or.inl ⟨by rfl, ?hyr36⟩) hHeld ?_
      case hyr36 => (intro w hSw; (try dsimp only at hSw); go_simp; (try with_reducible rfl))
      try simp only [Act.put, List.setIfInBounds_toArray, List.set_cons_zero, List.set_cons_succ]
      refine wpAnyH_take (i := 37) (oi := { dst := some 96, op := Op.move (Operand.tmp 12), type := 31, pos := "law.go:69", after := #[{ on := 35, ground := Ground.guard }], guard := some (35, false) }) (v := ?vr37) rfl (by kernel_rfl) (by kernel_rfl) (by kernel_rfl) (fun _ _ _ h => h) (Or.inl ⟨by rfl, ?hyr37⟩) hHeld ?_
      case hyr37 => (intro w hSw; (try dsimp only at hSw); go_simp; (try with_reducible rfl))
      try simp only [Act.put, List.setIfInBounds_toArray, List.set_cons_zero, List.set_cons_succ]
      refine wpAnyH_ready (rs := [38]) (by kernel_rfl) (by simp) ?_
      refine AllReadyH.cons (o := { dst := some 97, op := Op.call { callee := Callee.value (Operand.func 14), args := #[Operand.tmp 95, Operand.tmp 96], argTypes := #[27, 31] }, type := 4, pos := "law.go:69", after := #[{ on := 36, ground := Ground.data }, { on := 37, ground := Ground.data }, { on := 35, ground := Ground.chain }, { on := 35, ground := Ground.guard }], guard := some (35, false) }) rfl (fun K hK => ?_) AllReadyH.nil
      go_simp
      refine (same_c HP2.out.st HP2.out.doc).mono ?_
      rintro e V3 ⟨rfl, hV3⟩
      have HP3 := Lib.hid (HP2.out.on hV3)
      clear hV3 HP2
      clear a0 a1 a2 a3 a4 a5 hHeld
      obtain ⟨a0, a1, a2, a3, a4, a5⟩ := HQ.out _ HP3.out.old
      refine hK.out _ _ ?_ (fun hHeld => ?_)
      · exact ⟨a0, a1, a2, a3, a4, a5⟩
      clear hK K
      try simp only [Act.put, List.setIfInBounds_toArray, List.set_cons_zero, List.set_cons_succ]
      refine wpAnyH_take (i := 39) (oi := { dst := some 98, op := Op.unOp UnOp.not 4 (Operand.tmp 97), type := 4, pos := "law.go:69", after := #[{ on := 38, ground := Ground.data }, { on := 35, ground := Ground.guard }], guard := some (35, false) }) (v := ?vr39) rfl (by kernel_rfl) (by kernel_rfl) (by kernel_rfl) (fun _ _ _ h => h) (Or.inl ⟨by rfl, ?hyr39⟩) hHeld ?_
      case hyr39 => (intro w hSw; (try dsimp only at hSw); go_simp; (try with_reducible rfl))
      try simp only [Act.put, List.setIfInBounds_toArray, List.set_cons_zero, List.set_cons_succ]
      refine wpAnyH_take (i := 40) (oi := { dst := some 99, op := Op.pick (Operand.tmp 94) (Operand.const (Value.bool true)) (Operand.tmp 98), type := 4, pos := "law.go:69", after := #[{ on := 35, ground := Ground.data }, { on := 39, ground := Ground.data }], guard := none }) (v := ?vr40) rfl (by kernel_rfl) (by kernel_rfl) (by kernel_rfl) (fun _ _ _ h => h) (Or.inl ⟨by rfl, ?hyr40⟩) hHeld ?_
      case hyr40 => (intro w hSw; (try dsimp only at hSw); go_simp; (try with_reducible rfl))
      try simp only [Act.put, List.setIfInBounds_toArray, List.set_cons_zero, List.set_cons_succ]
      refine wpAnyH_done (by kernel_rfl) ?_ _
      clear hHeld a0 a1 a2 a3 a4 a5 HQ
      go_wp2_with fail
      go_roundw
      case rel => exact ⟨k + 1, v1, u1, s', N + 3, by go_num, by omega, HN1.out, by omega, HP3⟩
      case measure => simp [intOf]; omega
    · obtain rfl : k = n := by omega
      have HC := Lib.hid (same_c HP.out.st HP.out.doc)
      go_wp2_with fail
      refine HC.out.mono ?_
      rintro e V ⟨rfl, hV⟩
      have HBv := Lib.hid (belowOn HP.out.old hV)
      clear HC hV
      go_wp2_with fail
      go_ret
      exact ⟨rfl, HBv.out⟩
theorem plays_any (b c d : Int) (a : Option Addr) (n cap : Nat) (g : Nat → ActN) (w : World) (hS : SpansAt w) (hRw : RowsAt w) (hAct : GivenActs w a n g) : Calls Tryd.prog 3 #[.int .i64 b, .int .i64 c, .int .i64 d, .slice a n cap] w fun e w' => e = .returned (.bool true) ∧ Below w.heap.size w w' := by
  by_cases hg : grt 2 b c d
  · exact plays_great b c d hg a n cap w hS hRw
  by_cases hn : 60 < n
  · exact plays_long b c d hg a n cap hn hAct.1 w hS hRw
  by_cases hr : Right 2 b c d
  · obtain ⟨b, rfl⟩ := nat_of' (show 0 ≤ b by unfold Right at hr; omega)
    obtain ⟨c, rfl⟩ := nat_of' (show 0 ≤ c by unfold Right at hr; omega)
    obtain ⟨d, rfl⟩ := nat_of' (show 0 ≤ d by unfold Right at hr; omega)
    exact plays_right b c d hg hr a n cap g (by omega) w hS hRw hAct
  · exact plays_wrong b c d hg hr a n cap (by omega) w hS hRw
end Go.Proofs.YthlpmkjhiifibaaDoor
