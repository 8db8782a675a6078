/- The law IdealFull, for all numbers and all acts: true. -/
import Derived.Test.YthlpmkjhiifibaaDoorIdealStores
namespace Go.Proofs.YthlpmkjhiifibaaDoor
open Go Go.RowKit
set_option maxRecDepth 100000
attribute [local go_sem ↓] Go.wp_at_zero Go.wp_at_succ

theorem full_wrong (b c d : Int) (hr : ¬ Right 2 b c d) (a : Option Addr) (n cap : Nat) (w : World) (hS : SpansAt w) (hRw : RowsAt w) : Calls Tryd.prog 6 #[.int .i64 b, .int .i64 c, .int .i64 d, .slice a n cap] w fun e w' => e = .returned (.bool true) ∧ Below w.heap.size w w' := by
  have HN : Hid (∀ W, SpansAt W → _) := Lib.hid (fun W hW => New_no b c d hr W hW)
  clear hr
  have HA := Lib.hid (awake_c w hS hRw)
  have HS := Lib.hid hS
  clear hS hRw
  go_enter Tryd.func6, Tryd.ntmps6
  go_wp2_with fail
  refine HA.out.mono ?_
  rintro e W1 ⟨rfl, hW1⟩
  have HB1 := Lib.hid hW1
  clear hW1 HA
  go_wp2_with fail
  refine (HN.out _ (HS.out.below HB1.out)).mono ?_
  rintro e W2 ⟨rfl, hW2⟩
  have HB2 := Lib.hid (belowOn HB1.out hW2)
  clear hW2 HB1 HN
  go_wp2_with fail
  go_ret
  exact ⟨rfl, HB2.out⟩
theorem full_great1 (b c d : Nat) (hr : Right 2 b c d) (a : Option Addr) (n cap : Nat) (h1 : 12 < b) (w : World) (hS : SpansAt w) (hRw : RowsAt w) : Calls Tryd.prog 6 #[.int .i64 b, .int .i64 c, .int .i64 d, .slice a n cap] w fun e w' => e = .returned (.bool true) ∧ Below w.heap.size w w' := by
  have HN : Hid (∀ W, SpansAt W → _) := Lib.hid (fun W hW => New_yes b c d hr W hW)
  clear hr
  have HA := Lib.hid (awake_c w hS hRw)
  have HS := Lib.hid hS
  clear hS hRw
  go_enter Tryd.func6, Tryd.ntmps6
  go_wp2_with fail
  refine HA.out.mono ?_
  rintro e W1 ⟨rfl, hW1⟩
  have HB1 := Lib.hid hW1
  clear hW1 HA
  go_wp2_with fail
  refine (HN.out _ (HS.out.below HB1.out)).mono ?_
  rintro e W2 ⟨X, R, L, rfl, _, _, _, _, hW2⟩
  have HB2 := Lib.hid (belowOn HB1.out hW2)
  clear hW2 HB1 HN
  go_wp2_with fail
  go_ret
  exact ⟨rfl, HB2.out⟩
theorem full_great2 (b c d : Nat) (hr : Right 2 b c d) (a : Option Addr) (n cap : Nat) (h1 : ¬ 12 < b) (h2 : 8 < c) (w : World) (hS : SpansAt w) (hRw : RowsAt w) : Calls Tryd.prog 6 #[.int .i64 b, .int .i64 c, .int .i64 d, .slice a n cap] w fun e w' => e = .returned (.bool true) ∧ Below w.heap.size w w' := by
  have HN : Hid (∀ W, SpansAt W → _) := Lib.hid (fun W hW => New_yes b c d hr W hW)
  clear hr
  have HA := Lib.hid (awake_c w hS hRw)
  have HS := Lib.hid hS
  clear hS hRw
  go_enter Tryd.func6, Tryd.ntmps6
  go_wp2_with fail
  refine HA.out.mono ?_
  rintro e W1 ⟨rfl, hW1⟩
  have HB1 := Lib.hid hW1
  clear hW1 HA
  go_wp2_with fail
  refine (HN.out _ (HS.out.below HB1.out)).mono ?_
  rintro e W2 ⟨X, R, L, rfl, _, _, _, _, hW2⟩
  have HB2 := Lib.hid (belowOn HB1.out hW2)
  clear hW2 HB1 HN
  go_wp2_with fail
  go_ret
  exact ⟨rfl, HB2.out⟩
theorem full_great3 (b c d : Nat) (hr : Right 2 b c d) (a : Option Addr) (n cap : Nat) (h1 : ¬ 12 < b) (h2 : ¬ 8 < c) (h3 : 8 < d) (w : World) (hS : SpansAt w) (hRw : RowsAt w) : Calls Tryd.prog 6 #[.int .i64 b, .int .i64 c, .int .i64 d, .slice a n cap] w fun e w' => e = .returned (.bool true) ∧ Below w.heap.size w w' := by
  have HN : Hid (∀ W, SpansAt W → _) := Lib.hid (fun W hW => New_yes b c d hr W hW)
  clear hr
  have HA := Lib.hid (awake_c w hS hRw)
  have HS := Lib.hid hS
  clear hS hRw
  go_enter Tryd.func6, Tryd.ntmps6
  go_wp2_with fail
  refine HA.out.mono ?_
  rintro e W1 ⟨rfl, hW1⟩
  have HB1 := Lib.hid hW1
  clear hW1 HA
  go_wp2_with fail
  refine (HN.out _ (HS.out.below HB1.out)).mono ?_
  rintro e W2 ⟨X, R, L, rfl, _, _, _, _, hW2⟩
  have HB2 := Lib.hid (belowOn HB1.out hW2)
  clear hW2 HB1 HN
  go_wp2_with fail
  go_ret
  exact ⟨rfl, HB2.out⟩
theorem full_great4 (b c d : Nat) (hr : Right 2 b c d) (a : Option Addr) (n cap : Nat) (h1 : ¬ 12 < b) (h2 : ¬ 8 < c) (h3 : ¬ 8 < d) (h4 : 60 < n) (_ : n ≤ 9223372036854775807) (w : World) (hS : SpansAt w) (hRw : RowsAt w) : Calls Tryd.prog 6 #[.int .i64 b, .int .i64 c, .int .i64 d, .slice a n cap] w fun e w' => e = .returned (.bool true) ∧ Below w.heap.size w w' := by
  have HN : Hid (∀ W, SpansAt W → _) := Lib.hid (fun W hW => New_yes b c d hr W hW)
  clear hr
  have HA := Lib.hid (awake_c w hS hRw)
  have HS := Lib.hid hS
  clear hS hRw
  go_enter Tryd.func6, Tryd.ntmps6
  go_wp2_with fail
  refine HA.out.mono ?_
  rintro e W1 ⟨rfl, hW1⟩
  have HB1 := Lib.hid hW1
  clear hW1 HA
  go_wp2_with fail
  refine (HN.out _ (HS.out.below HB1.out)).mono ?_
  rintro e W2 ⟨X, R, L, rfl, _, _, _, _, hW2⟩
  have HB2 := Lib.hid (belowOn HB1.out hW2)
  clear hW2 HB1 HN
  go_wp2_with fail
  go_ret
  exact ⟨rfl, HB2.out⟩
theorem Stores.tail0 {w W : World} {b c d : Nat} {q : Ref} {l : List Ref} (h : Stores w W b c d (q :: l)) : Stores w W b c d [q] := ⟨h.old, fun p hp => h.st p (by simp at hp; simp [hp]), fun p hp => h.up p (by simp at hp; simp [hp]), List.pairwise_singleton _ _⟩
set_option maxHeartbeats 6400000 in
theorem full_right (b c d : Nat) (hr : Right 2 b c d) (a : Option Addr) (n cap : Nat) (g : Nat → ActN) (h1 : ¬ 12 < b) (h2 : ¬ 8 < c) (h3 : ¬ 8 < d) (hn : n ≤ 60) (w : World) (hS : SpansAt w) (hRw : RowsAt w) (hAct : GivenActs w a n g) : Calls Tryd.prog 6 #[.int .i64 b, .int .i64 c, .int .i64 d, .slice a n cap] w fun e w' => e = .returned (.bool true) ∧ Below w.heap.size w w' := by
  have HN : Hid (∀ W, SpansAt W → _) := Lib.hid (fun W hW => New_yes b c d hr W hW)
  have HAct := Lib.hid hAct
  have HRw := Lib.hid hRw
  clear hr hAct
  have HA := Lib.hid (awake_c w hS hRw)
  have HS := Lib.hid hS
  clear hS hRw
  go_enter Tryd.func6, Tryd.ntmps6
  go_wp2_with fail
  refine HA.out.mono ?_
  rintro e W1 ⟨rfl, hW1⟩
  have HB1 := Lib.hid hW1
  clear hW1 HA
  go_wp2_with fail
  refine (HN.out _ (HS.out.below HB1.out)).mono ?_
  rintro e W2 ⟨X, R, L, rfl, hs2, l1, l2, l3, hW2⟩
  have HT0 : Hid (Stores w W2 b c d [⟨X, R, L, .slice none 0 0, st0⟩]) := Lib.hid (by
    have := HB1.out.size
    exact Stores.new (belowOn HB1.out hW2) hs2 (by omega) (by omega) (by omega))
  clear hW2 HB1 HN hs2 l1 l2 l3
  go_wp2_with fail
  go_loopw [11] (fun vi wr => ∃ (k : Nat) (v : Value) (s : St), vi = .int .i64 k ∧ k ≤ n ∧ s.n ≤ k ∧ Hid (Stores w wr b c d [⟨X, R, L, v, s⟩])) (fun vi _ => n - (intOf vi).toNat)
  case atStart => exact ⟨0, _, _, rfl, Nat.zero_le _, Nat.le_refl _, HT0⟩
  case round =>
    clear HT0
    obtain ⟨k, v, s, rfl, hk, hsn, HT⟩ := hrel
    by_cases hlt : k < n
    · obtain ⟨ab, off, rfl, hab, hq0⟩ := HAct.out.2.1.at' hlt
      have HQ : Hid (∀ W, Below w.heap.size w W → ActAt W ab (off + k * 6) (g k)) := Lib.hid (fun W hW => hq0.other (hW.block ab hab))
      clear hq0
      generalize g k = q at *
      obtain ⟨qm, qk, qx, qy, qz, qf⟩ := q
      have HDoT : Hid (∀ (W : World) (X R L : Nat) (v : Value) , Below w.heap.size w W → StoreAt W X R L v b c d s → _) := Lib.hid (fun W X R L v hW hst => Do_c (w := W) (X := X) (R := R) (L := L) (v := v) hst (HS.out.below hW) (HRw.out.below hW) qm qk qx qy qz true (by omega))
      have HDoF : Hid (∀ (W : World) (X R L : Nat) (v : Value) , Below w.heap.size w W → StoreAt W X R L v b c d s → _) := Lib.hid (fun W X R L v hW hst => Do_c (w := W) (X := X) (R := R) (L := L) (v := v) hst (HS.out.below hW) (HRw.out.below hW) qm qk qx qy qz false (by omega))
      have HDoL : Hid (∀ (W : World) (X R L : Nat) (v : Value) , Below w.heap.size w W → StoreAt W X R L v b c d s → _) := Lib.hid (fun W X R L v hW hst => Do_c (w := W) (X := X) (R := R) (L := L) (v := v) hst (HS.out.below hW) (HRw.out.below hW) qm qk qx qy qz qf (by omega))
      have HI : Hid (qk ≠ 3 → doR b c d s qm qk qx qy qz true = doR b c d s qm qk qx qy qz false ∧ doS b c d s qm qk qx qy qz true = doS b c d s qm qk qx qy qz false) := Lib.hid (fun hk => full_other b c d s qm qk qx qy qz hk true false)
      have HJ : Hid (qk = 3 → (doR b c d s qm qk qx qy qz true = 5 ∧ doS b c d s qm qk qx qy qz true = s ∧ doR b c d s qm qk qx qy qz false = 1 ∧ (doS b c d s qm qk qx qy qz false).n = s.n + 1) ∨ (doR b c d s qm qk qx qy qz true = 6 ∧ doS b c d s qm qk qx qy qz true = s ∧ doR b c d s qm qk qx qy qz false = 6)) := Lib.hid (fun hk => by
        subst hk
        by_cases hg : goodOp b c d qm 3 qx qy qz
        · exact .inl (full_cons b c d s qm qx qy qz hg)
        · exact .inr ⟨(full_bad b c d s qm 3 qx qy qz hg true).1, (full_bad b c d s qm 3 qx qy qz hg true).2, (full_bad b c d s qm 3 qx qy qz hg false).1⟩)
      have HN1 : Hid ((doS b c d s qm qk qx qy qz qf).n ≤ k + 1) := Lib.hid (by have := (doS_n b c d s qm qk qx qy qz qf).1; omega)
      have hns : s.n ≤ 60 := by omega
      generalize doS b c d s qm qk qx qy qz true = sT at *
      generalize doS b c d s qm qk qx qy qz false = sF at *
      generalize doS b c d s qm qk qx qy qz qf = sL at *
      generalize doR b c d s qm qk qx qy qz true = rT at *
      generalize doR b c d s qm qk qx qy qz false = rF at *
      generalize doR b c d s qm qk qx qy qz qf = rL at *
      obtain ⟨a0, a1, a2, a3, a4, a5⟩ := HQ.out _ HT.out.old
      have HC1 := Lib.hid (Copy_c HT.out.h1)
      dsimp only at HC1
      go_wp2_with fail
      refine HC1.out.mono ?_
      rintro e W3 hP
      obtain ⟨⟨Xa, Ra, La, va, sa⟩, rfl, es, hP2⟩ := HT.out.copy hP
      dsimp only at es hP2
      have es' := es.symm; clear es; subst es'
      have HT3 := Lib.hid hP2
      have HC2 := Lib.hid (Copy_c hP2.h2)
      dsimp only at HC2
      clear hP hP2 HC1 HT
      go_wp2_with fail
      refine HC2.out.mono ?_
      rintro e W4 hP
      obtain ⟨⟨Xb, Rb, Lb, vb, sb⟩, rfl, es, hP2⟩ := HT3.out.copy hP
      dsimp only at es hP2
      have es' := es.symm; clear es; subst es'
      have HT4 := Lib.hid (hP2.swap)
      clear hP hP2 HC2 HT3
      go_wp2_with fail
      have HT4d := Lib.hid (HT4.out.on (W' := W4.drew) (Below.refl _ _).drew)
      clear HT4
      have HT4 := HT4d
      clear HT4d
      clear a0 a1 a2 a3 a4 a5
      obtain ⟨a0, a1, a2, a3, a4, a5⟩ := HQ.out _ HT4.out.old
      refine wp_region_held_drew (S := (fun w' => w'.cell? ⟨ab, off + k * 6, none⟩ = some (.int .i64 qm) ∧ w'.cell? ⟨ab, off + k * 6 + 1, none⟩ = some (.int .i64 qk) ∧ w'.cell? ⟨ab, off + k * 6 + 2, none⟩ = some (.int .i64 qx) ∧ w'.cell? ⟨ab, off + k * 6 + 3, none⟩ = some (.int .i64 qy) ∧ w'.cell? ⟨ab, off + k * 6 + 4, none⟩ = some (.int .i64 qz) ∧ w'.cell? ⟨ab, off + k * 6 + 5, none⟩ = some (.bool qf))) (by kernel_rfl) ?_ (fun hHeld => ?_)
      · exact ⟨a0, a1, a2, a3, a4, a5⟩
      refine wpAnyH_take (i := 0) (oi := { dst := some 61, op := Op.move (Operand.tmp 12), type := 27, pos := "law.go:155", after := #[], guard := none }) (v := ?vx0) rfl (by kernel_rfl) (by kernel_rfl) (by kernel_rfl) (fun _ _ _ h => h) (Or.inl ⟨by rfl, ?hyx0⟩) hHeld ?_
      case hyx0 => (intro w hSw; (try dsimp only at hSw); go_simp; (try with_reducible rfl))
      try simp only [Act.put, List.setIfInBounds_toArray, List.set_cons_zero, List.set_cons_succ]
      refine wpAnyH_take (i := 1) (oi := { dst := some 62, op := Op.move (Operand.tmp 3), type := 22, pos := "law.go:155", after := #[], guard := none }) (v := ?vx1) rfl (by kernel_rfl) (by kernel_rfl) (by kernel_rfl) (fun _ _ _ h => h) (Or.inl ⟨by rfl, ?hyx1⟩) hHeld ?_
      case hyx1 => (intro w hSw; (try dsimp only at hSw); go_simp; (try with_reducible rfl))
      try simp only [Act.put, List.setIfInBounds_toArray, List.set_cons_zero, List.set_cons_succ]
      refine wpAnyH_take (i := 2) (oi := { dst := some 63, op := Op.move (Operand.tmp 11), type := 3, pos := "law.go:155", after := #[], guard := none }) (v := ?vx2) rfl (by kernel_rfl) (by kernel_rfl) (by kernel_rfl) (fun _ _ _ h => h) (Or.inl ⟨by rfl, ?hyx2⟩) hHeld ?_
      case hyx2 => (intro w hSw; (try dsimp only at hSw); go_simp; (try with_reducible rfl))
      try simp only [Act.put, List.setIfInBounds_toArray, List.set_cons_zero, List.set_cons_succ]
      refine wpAnyH_take (i := 3) (oi := { dst := some 64, op := Op.indexAddr 22 (Operand.tmp 62) (Operand.tmp 63), type := 0, pos := "law.go:155", after := #[{ on := 1, ground := Ground.data }, { on := 2, ground := Ground.data }], guard := none }) (v := ?vx3) rfl (by kernel_rfl) (by kernel_rfl) (by kernel_rfl) (fun _ _ _ h => h) (Or.inl ⟨by rfl, ?hyx3⟩) hHeld ?_
      case hyx3 => (intro w hSw; (try dsimp only at hSw); go_simp; (try with_reducible rfl))
      try simp only [Act.put, List.setIfInBounds_toArray, List.set_cons_zero, List.set_cons_succ]
      refine wpAnyH_take (i := 4) (oi := { dst := some 65, op := Op.fieldAddr 37 (Operand.tmp 64) 0, type := 0, pos := "law.go:155", after := #[{ on := 3, ground := Ground.data }], guard := none }) (v := ?vx4) rfl (by kernel_rfl) (by kernel_rfl) (by kernel_rfl) (fun _ _ _ h => h) (Or.inl ⟨by rfl, ?hyx4⟩) hHeld ?_
      case hyx4 => (intro w hSw; (try dsimp only at hSw); go_simp; (try with_reducible rfl))
      try simp only [Act.put, List.setIfInBounds_toArray, List.set_cons_zero, List.set_cons_succ]
      refine wpAnyH_take (i := 5) (oi := { dst := some 66, op := Op.load 3 (Operand.tmp 65), type := 3, pos := "law.go:155", after := #[{ on := 4, ground := Ground.data }], guard := none }) (v := ?vx5) rfl (by kernel_rfl) (by kernel_rfl) (by kernel_rfl) (fun _ _ _ h => h) (Or.inl ⟨by rfl, ?hyx5⟩) hHeld ?_
      case hyx5 => (intro w hSw; (try dsimp only at hSw); go_simp; (try with_reducible rfl))
      try simp only [Act.put, List.setIfInBounds_toArray, List.set_cons_zero, List.set_cons_succ]
      refine wpAnyH_take (i := 6) (oi := { dst := some 67, op := Op.move (Operand.tmp 3), type := 22, pos := "law.go:155", after := #[], guard := none }) (v := ?vx6) rfl (by kernel_rfl) (by kernel_rfl) (by kernel_rfl) (fun _ _ _ h => h) (Or.inl ⟨by rfl, ?hyx6⟩) hHeld ?_
      case hyx6 => (intro w hSw; (try dsimp only at hSw); go_simp; (try with_reducible rfl))
      try simp only [Act.put, List.setIfInBounds_toArray, List.set_cons_zero, List.set_cons_succ]
      refine wpAnyH_take (i := 7) (oi := { dst := some 68, op := Op.move (Operand.tmp 11), type := 3, pos := "law.go:155", after := #[], guard := none }) (v := ?vx7) rfl (by kernel_rfl) (by kernel_rfl) (by kernel_rfl) (fun _ _ _ h => h) (Or.inl ⟨by rfl, ?hyx7⟩) hHeld ?_
      case hyx7 => (intro w hSw; (try dsimp only at hSw); go_simp; (try with_reducible rfl))
      try simp only [Act.put, List.setIfInBounds_toArray, List.set_cons_zero, List.set_cons_succ]
      refine wpAnyH_take (i := 8) (oi := { dst := some 69, op := Op.indexAddr 22 (Operand.tmp 67) (Operand.tmp 68), type := 0, pos := "law.go:155", after := #[{ on := 6, ground := Ground.data }, { on := 7, ground := Ground.data }], guard := none }) (v := ?vx8) rfl (by kernel_rfl) (by kernel_rfl) (by kernel_rfl) (fun _ _ _ h => h) (Or.inl ⟨by rfl, ?hyx8⟩) hHeld ?_
      case hyx8 => (intro w hSw; (try dsimp only at hSw); go_simp; (try with_reducible rfl))
      try simp only [Act.put, List.setIfInBounds_toArray, List.set_cons_zero, List.set_cons_succ]
      refine wpAnyH_take (i := 9) (oi := { dst := some 70, op := Op.fieldAddr 37 (Operand.tmp 69) 1, type := 0, pos := "law.go:155", after := #[{ on := 8, ground := Ground.data }], guard := none }) (v := ?vx9) rfl (by kernel_rfl) (by kernel_rfl) (by kernel_rfl) (fun _ _ _ h => h) (Or.inl ⟨by rfl, ?hyx9⟩) hHeld ?_
      case hyx9 => (intro w hSw; (try dsimp only at hSw); go_simp; (try with_reducible rfl))
      try simp only [Act.put, List.setIfInBounds_toArray, List.set_cons_zero, List.set_cons_succ]
      refine wpAnyH_take (i := 10) (oi := { dst := some 71, op := Op.load 35 (Operand.tmp 70), type := 35, pos := "law.go:155", after := #[{ on := 9, ground := Ground.data }], guard := none }) (v := ?vx10) rfl (by kernel_rfl) (by kernel_rfl) (by kernel_rfl) (fun _ _ _ h => h) (Or.inl ⟨by rfl, ?hyx10⟩) hHeld ?_
      case hyx10 => (intro w hSw; (try dsimp only at hSw); go_simp; (try with_reducible rfl))
      try simp only [Act.put, List.setIfInBounds_toArray, List.set_cons_zero, List.set_cons_succ]
      refine wpAnyH_ready (rs := [11]) (by kernel_rfl) (by simp) ?_
      refine AllReadyH.cons (o := { dst := some 72, op := Op.call { callee := Callee.value (Operand.func 12), args := #[Operand.tmp 61, Operand.tmp 66, Operand.tmp 71, Operand.const (Value.bool true)], argTypes := #[27, 3, 35, 4] }, type := 3, pos := "law.go:155", after := #[{ on := 0, ground := Ground.data }, { on := 5, ground := Ground.data }, { on := 10, ground := Ground.data }], guard := none }) rfl (fun K hK => ?_) AllReadyH.nil
      go_simp
      refine (HDoT.out _ _ _ _ _ HT4.out.old HT4.out.h1).mono ?_
      rintro e W5 hP
      obtain ⟨rfl, va1, hP2⟩ := HT4.out.act hP
      have HT5 := Lib.hid hP2
      clear hP hP2 HT4
      clear a0 a1 a2 a3 a4 a5 hHeld
      obtain ⟨a0, a1, a2, a3, a4, a5⟩ := HQ.out _ HT5.out.old
      refine hK.out _ _ ?_ (fun hHeld => ?_)
      · exact ⟨a0, a1, a2, a3, a4, a5⟩
      clear hK K
      try simp only [Act.put, List.setIfInBounds_toArray, List.set_cons_zero, List.set_cons_succ]
      refine wpAnyH_take (i := 12) (oi := { dst := some 14, op := Op.assign (Operand.tmp 72), type := 3, pos := "law.go:155", after := #[{ on := 11, ground := Ground.data }, { on := 11, ground := Ground.chain }, { on := 0, ground := Ground.phase }, { on := 1, ground := Ground.phase }, { on := 2, ground := Ground.phase }, { on := 3, ground := Ground.phase }, { on := 4, ground := Ground.phase }, { on := 5, ground := Ground.phase }, { on := 6, ground := Ground.phase }, { on := 7, ground := Ground.phase }, { on := 8, ground := Ground.phase }, { on := 9, ground := Ground.phase }, { on := 10, ground := Ground.phase }, { on := 11, ground := Ground.phase }], guard := none }) (v := ?vx12) rfl (by kernel_rfl) (by kernel_rfl) (by kernel_rfl) (fun _ _ _ h => h) (Or.inl ⟨by rfl, ?hyx12⟩) hHeld ?_
      case hyx12 => (intro w hSw; (try dsimp only at hSw); go_simp; (try with_reducible rfl))
      try simp only [Act.put, List.setIfInBounds_toArray, List.set_cons_zero, List.set_cons_succ]
      refine wpAnyH_done (by kernel_rfl) ?_ _
      clear hHeld
      have HT5s := Lib.hid HT5.out.swap
      clear HT5
      have HT5 := HT5s
      clear HT5s
      go_wp2_with fail
      have HT5d := Lib.hid (HT5.out.on (W' := W5.drew) (Below.refl _ _).drew)
      clear HT5
      have HT5 := HT5d
      clear HT5d
      clear a0 a1 a2 a3 a4 a5
      obtain ⟨a0, a1, a2, a3, a4, a5⟩ := HQ.out _ HT5.out.old
      refine wp_region_held_drew (S := (fun w' => w'.cell? ⟨ab, off + k * 6, none⟩ = some (.int .i64 qm) ∧ w'.cell? ⟨ab, off + k * 6 + 1, none⟩ = some (.int .i64 qk) ∧ w'.cell? ⟨ab, off + k * 6 + 2, none⟩ = some (.int .i64 qx) ∧ w'.cell? ⟨ab, off + k * 6 + 3, none⟩ = some (.int .i64 qy) ∧ w'.cell? ⟨ab, off + k * 6 + 4, none⟩ = some (.int .i64 qz) ∧ w'.cell? ⟨ab, off + k * 6 + 5, none⟩ = some (.bool qf))) (by kernel_rfl) ?_ (fun hHeld => ?_)
      · exact ⟨a0, a1, a2, a3, a4, a5⟩
      refine wpAnyH_take (i := 0) (oi := { dst := some 73, op := Op.move (Operand.tmp 13), type := 27, pos := "law.go:156", after := #[], guard := none }) (v := ?vy0) rfl (by kernel_rfl) (by kernel_rfl) (by kernel_rfl) (fun _ _ _ h => h) (Or.inl ⟨by rfl, ?hyy0⟩) hHeld ?_
      case hyy0 => (intro w hSw; (try dsimp only at hSw); go_simp; (try with_reducible rfl))
      try simp only [Act.put, List.setIfInBounds_toArray, List.set_cons_zero, List.set_cons_succ]
      refine wpAnyH_take (i := 1) (oi := { dst := some 74, op := Op.move (Operand.tmp 3), type := 22, pos := "law.go:156", after := #[], guard := none }) (v := ?vy1) rfl (by kernel_rfl) (by kernel_rfl) (by kernel_rfl) (fun _ _ _ h => h) (Or.inl ⟨by rfl, ?hyy1⟩) hHeld ?_
      case hyy1 => (intro w hSw; (try dsimp only at hSw); go_simp; (try with_reducible rfl))
      try simp only [Act.put, List.setIfInBounds_toArray, List.set_cons_zero, List.set_cons_succ]
      refine wpAnyH_take (i := 2) (oi := { dst := some 75, op := Op.move (Operand.tmp 11), type := 3, pos := "law.go:156", after := #[], guard := none }) (v := ?vy2) rfl (by kernel_rfl) (by kernel_rfl) (by kernel_rfl) (fun _ _ _ h => h) (Or.inl ⟨by rfl, ?hyy2⟩) hHeld ?_
      case hyy2 => (intro w hSw; (try dsimp only at hSw); go_simp; (try with_reducible rfl))
      try simp only [Act.put, List.setIfInBounds_toArray, List.set_cons_zero, List.set_cons_succ]
      refine wpAnyH_take (i := 3) (oi := { dst := some 76, op := Op.indexAddr 22 (Operand.tmp 74) (Operand.tmp 75), type := 0, pos := "law.go:156", after := #[{ on := 1, ground := Ground.data }, { on := 2, ground := Ground.data }], guard := none }) (v := ?vy3) rfl (by kernel_rfl) (by kernel_rfl) (by kernel_rfl) (fun _ _ _ h => h) (Or.inl ⟨by rfl, ?hyy3⟩) hHeld ?_
      case hyy3 => (intro w hSw; (try dsimp only at hSw); go_simp; (try with_reducible rfl))
      try simp only [Act.put, List.setIfInBounds_toArray, List.set_cons_zero, List.set_cons_succ]
      refine wpAnyH_take (i := 4) (oi := { dst := some 77, op := Op.fieldAddr 37 (Operand.tmp 76) 0, type := 0, pos := "law.go:156", after := #[{ on := 3, ground := Ground.data }], guard := none }) (v := ?vy4) rfl (by kernel_rfl) (by kernel_rfl) (by kernel_rfl) (fun _ _ _ h => h) (Or.inl ⟨by rfl, ?hyy4⟩) hHeld ?_
      case hyy4 => (intro w hSw; (try dsimp only at hSw); go_simp; (try with_reducible rfl))
      try simp only [Act.put, List.setIfInBounds_toArray, List.set_cons_zero, List.set_cons_succ]
      refine wpAnyH_take (i := 5) (oi := { dst := some 78, op := Op.load 3 (Operand.tmp 77), type := 3, pos := "law.go:156", after := #[{ on := 4, ground := Ground.data }], guard := none }) (v := ?vy5) rfl (by kernel_rfl) (by kernel_rfl) (by kernel_rfl) (fun _ _ _ h => h) (Or.inl ⟨by rfl, ?hyy5⟩) hHeld ?_
      case hyy5 => (intro w hSw; (try dsimp only at hSw); go_simp; (try with_reducible rfl))
      try simp only [Act.put, List.setIfInBounds_toArray, List.set_cons_zero, List.set_cons_succ]
      refine wpAnyH_take (i := 6) (oi := { dst := some 79, op := Op.move (Operand.tmp 3), type := 22, pos := "law.go:156", after := #[], guard := none }) (v := ?vy6) rfl (by kernel_rfl) (by kernel_rfl) (by kernel_rfl) (fun _ _ _ h => h) (Or.inl ⟨by rfl, ?hyy6⟩) hHeld ?_
      case hyy6 => (intro w hSw; (try dsimp only at hSw); go_simp; (try with_reducible rfl))
      try simp only [Act.put, List.setIfInBounds_toArray, List.set_cons_zero, List.set_cons_succ]
      refine wpAnyH_take (i := 7) (oi := { dst := some 80, op := Op.move (Operand.tmp 11), type := 3, pos := "law.go:156", after := #[], guard := none }) (v := ?vy7) rfl (by kernel_rfl) (by kernel_rfl) (by kernel_rfl) (fun _ _ _ h => h) (Or.inl ⟨by rfl, ?hyy7⟩) hHeld ?_
      case hyy7 => (intro w hSw; (try dsimp only at hSw); go_simp; (try with_reducible rfl))
      try simp only [Act.put, List.setIfInBounds_toArray, List.set_cons_zero, List.set_cons_succ]
      refine wpAnyH_take (i := 8) (oi := { dst := some 81, op := Op.indexAddr 22 (Operand.tmp 79) (Operand.tmp 80), type := 0, pos := "law.go:156", after := #[{ on := 6, ground := Ground.data }, { on := 7, ground := Ground.data }], guard := none }) (v := ?vy8) rfl (by kernel_rfl) (by kernel_rfl) (by kernel_rfl) (fun _ _ _ h => h) (Or.inl ⟨by rfl, ?hyy8⟩) hHeld ?_
      case hyy8 => (intro w hSw; (try dsimp only at hSw); go_simp; (try with_reducible rfl))
      try simp only [Act.put, List.setIfInBounds_toArray, List.set_cons_zero, List.set_cons_succ]
      refine wpAnyH_take (i := 9) (oi := { dst := some 82, op := Op.fieldAddr 37 (Operand.tmp 81) 1, type := 0, pos := "law.go:156", after := #[{ on := 8, ground := Ground.data }], guard := none }) (v := ?vy9) rfl (by kernel_rfl) (by kernel_rfl) (by kernel_rfl) (fun _ _ _ h => h) (Or.inl ⟨by rfl, ?hyy9⟩) hHeld ?_
      case hyy9 => (intro w hSw; (try dsimp only at hSw); go_simp; (try with_reducible rfl))
      try simp only [Act.put, List.setIfInBounds_toArray, List.set_cons_zero, List.set_cons_succ]
      refine wpAnyH_take (i := 10) (oi := { dst := some 83, op := Op.load 35 (Operand.tmp 82), type := 35, pos := "law.go:156", after := #[{ on := 9, ground := Ground.data }], guard := none }) (v := ?vy10) rfl (by kernel_rfl) (by kernel_rfl) (by kernel_rfl) (fun _ _ _ h => h) (Or.inl ⟨by rfl, ?hyy10⟩) hHeld ?_
      case hyy10 => (intro w hSw; (try dsimp only at hSw); go_simp; (try with_reducible rfl))
      try simp only [Act.put, List.setIfInBounds_toArray, List.set_cons_zero, List.set_cons_succ]
      refine wpAnyH_ready (rs := [11]) (by kernel_rfl) (by simp) ?_
      refine AllReadyH.cons (o := { dst := some 84, op := Op.call { callee := Callee.value (Operand.func 12), args := #[Operand.tmp 73, Operand.tmp 78, Operand.tmp 83, Operand.const (Value.bool false)], argTypes := #[27, 3, 35, 4] }, type := 3, pos := "law.go:156", after := #[{ on := 0, ground := Ground.data }, { on := 5, ground := Ground.data }, { on := 10, ground := Ground.data }], guard := none }) rfl (fun K hK => ?_) AllReadyH.nil
      go_simp
      refine (HDoF.out _ _ _ _ _ HT5.out.old HT5.out.h1).mono ?_
      rintro e W6 hP
      obtain ⟨rfl, vb1, hP2⟩ := HT5.out.act hP
      have HT6 := Lib.hid hP2
      clear hP hP2 HT5
      clear a0 a1 a2 a3 a4 a5 hHeld
      obtain ⟨a0, a1, a2, a3, a4, a5⟩ := HQ.out _ HT6.out.old
      refine hK.out _ _ ?_ (fun hHeld => ?_)
      · exact ⟨a0, a1, a2, a3, a4, a5⟩
      clear hK K
      try simp only [Act.put, List.setIfInBounds_toArray, List.set_cons_zero, List.set_cons_succ]
      refine wpAnyH_take (i := 12) (oi := { dst := some 15, op := Op.assign (Operand.tmp 84), type := 3, pos := "law.go:156", after := #[{ on := 11, ground := Ground.data }, { on := 11, ground := Ground.chain }, { on := 0, ground := Ground.phase }, { on := 1, ground := Ground.phase }, { on := 2, ground := Ground.phase }, { on := 3, ground := Ground.phase }, { on := 4, ground := Ground.phase }, { on := 5, ground := Ground.phase }, { on := 6, ground := Ground.phase }, { on := 7, ground := Ground.phase }, { on := 8, ground := Ground.phase }, { on := 9, ground := Ground.phase }, { on := 10, ground := Ground.phase }, { on := 11, ground := Ground.phase }], guard := none }) (v := ?vy12) rfl (by kernel_rfl) (by kernel_rfl) (by kernel_rfl) (fun _ _ _ h => h) (Or.inl ⟨by rfl, ?hyy12⟩) hHeld ?_
      case hyy12 => (intro w hSw; (try dsimp only at hSw); go_simp; (try with_reducible rfl))
      try simp only [Act.put, List.setIfInBounds_toArray, List.set_cons_zero, List.set_cons_succ]
      refine wpAnyH_done (by kernel_rfl) ?_ _
      clear hHeld HDoT HDoF
      by_cases hk3 : qk = 3
      · have hkq : (qk == 3) = true := by simpa using hk3
        rcases HJ.out hk3 with hj | hj
        · obtain ⟨rfl, e2, rfl, e4⟩ := hj
          have HJ2 := Lib.hid e2
          have HLa : Hid (∀ V, V = W6 → _) := Lib.hid (fun V hV => Len_c (w := V) (hV ▸ HT6.out.h2))
          have HLs : Hid (∀ V, V = W6 → _) := Lib.hid (fun V hV => Len_c (w := V) (hV ▸ HT6.out.h3))
          have HLb : Hid (∀ V, V = W6 → _) := Lib.hid (fun V hV => Len_c (w := V) (hV ▸ HT6.out.h1))
          dsimp only at HLa HLs HLb
          rw [e2] at HLa
          rw [e4] at HLb
          clear e2 e4 HI HJ
          go_wp2_with fail
          clear hk3 hkq
          refine (HLa.out _ rfl).mono ?_
          rintro e V1 ⟨rfl, rfl⟩
          go_wp2_with fail
          refine (HLs.out _ rfl).mono ?_
          rintro e V1 ⟨rfl, rfl⟩
          go_wp2_with fail
          refine (HLb.out _ rfl).mono ?_
          rintro e V1 ⟨rfl, rfl⟩
          go_wp2_with fail
          refine (HLs.out _ rfl).mono ?_
          rintro e V1 ⟨rfl, rfl⟩
          clear HLa HLs HLb
          have HC3 := Lib.hid (Copy_c HT6.out.h3)
          dsimp only at HC3
          go_wp2_with fail
          (try clear hk3 hkq)
          refine HC3.out.mono ?_
          rintro e W7 hP
          obtain ⟨⟨Xn, Rn, Ln, vn, sb⟩, rfl, es, hP2⟩ := HT6.out.copy hP
          dsimp only at es hP2
          have HE : Hid (∀ m r : Int, sT.g 0 m r = sb.g 0 m r) := Lib.hid (fun m r => by rw [es, HJ2.out])
          have HT7 := Lib.hid (hP2.swap.tail)
          clear hP hP2 HC3 HT6 es HJ2
          go_wp2_with fail
          have HTn := HT7
          clear HT7
          have H0 := Lib.hid (Below.refl W7.heap.size W7)
          go_loopw [16] (fun vm wr => ∃ m : Nat, vm = .int .i64 m ∧ m ≤ b ∧ Hid (Below W7.heap.size W7 wr)) (fun vm _ => b - (intOf vm).toNat)
          case atStart => exact ⟨0, rfl, Nat.zero_le _, H0⟩
          case round =>
            clear H0
            obtain ⟨m, rfl, hm, HBm⟩ := hrel
            by_cases hlm : m < b
            · go_wp2_with fail
              go_loopw [17] (fun vr wr => ∃ r : Nat, vr = .int .i64 r ∧ r ≤ c ∧ Hid (Below W7.heap.size W7 wr)) (fun vr _ => c - (intOf vr).toNat)
              case atStart => exact ⟨0, rfl, Nat.zero_le _, HBm⟩
              case round =>
                clear HBm
                obtain ⟨j, rfl, hj, HBm⟩ := hrel
                by_cases hlj : j < c
                · have HG := Lib.hid (Reg_c (HTn.out.on HBm.out).h2 m j)
                  have HG2 : Hid (∀ V, Below W7.heap.size W7 V → _) := Lib.hid (fun V hV => Reg_c (HTn.out.on hV).h1 m j)
                  dsimp only at HG HG2
                  rw [HE.out m j] at HG
                  generalize sb.g 0 m j = xx at *
                  go_wp2_with fail
                  refine HG.out.mono ?_
                  rintro e V1 ⟨rfl, hV1⟩
                  have HB1 := Lib.hid (belowOn HBm.out hV1)
                  clear HG HBm hV1
                  go_wp2_with fail
                  refine (HG2.out _ HB1.out).mono ?_
                  rintro e V2 ⟨rfl, hV2⟩
                  have HB2 := Lib.hid (belowOn HB1.out hV2)
                  clear HG2 HB1 hV2
                  go_wp2_with fail
                  go_roundw
                  case rel => exact ⟨j + 1, by go_num, by omega, HB2⟩
                  case measure => simp [intOf]; omega
                · obtain rfl : j = c := by omega
                  go_wp2_with fail
                  go_roundw
                  case rel => exact ⟨m + 1, by go_num, by omega, HBm⟩
                  case measure => simp [intOf]; omega
            · obtain rfl : m = b := by omega
              have HT9 := Lib.hid ((HTn.out.on (belowOn HBm.out (Below.refl _ _).drew)).third)
              clear HTn HBm HE a0 a1 a2 a3 a4 a5
              obtain ⟨a0, a1, a2, a3, a4, a5⟩ := HQ.out _ HT9.out.old
              go_wp2_with fail
              refine wp_region_held_drew (S := (fun w' => w'.cell? ⟨ab, off + k * 6, none⟩ = some (.int .i64 qm) ∧ w'.cell? ⟨ab, off + k * 6 + 1, none⟩ = some (.int .i64 qk) ∧ w'.cell? ⟨ab, off + k * 6 + 2, none⟩ = some (.int .i64 qx) ∧ w'.cell? ⟨ab, off + k * 6 + 3, none⟩ = some (.int .i64 qy) ∧ w'.cell? ⟨ab, off + k * 6 + 4, none⟩ = some (.int .i64 qz) ∧ w'.cell? ⟨ab, off + k * 6 + 5, none⟩ = some (.bool qf))) (by kernel_rfl) ?_ (fun hHeld => ?_)
              · exact ⟨a0, a1, a2, a3, a4, a5⟩
              refine wpAnyH_take (i := 0) (oi := { dst := some 153, op := Op.move (Operand.tmp 9), type := 27, pos := "law.go:172", after := #[], guard := none }) (v := ?vg0) rfl (by kernel_rfl) (by kernel_rfl) (by kernel_rfl) (fun _ _ _ h => h) (Or.inl ⟨by rfl, ?hyg0⟩) hHeld ?_
              case hyg0 => (intro w hSw; (try dsimp only at hSw); go_simp; (try with_reducible rfl))
              try simp only [Act.put, List.setIfInBounds_toArray, List.set_cons_zero, List.set_cons_succ]
              refine wpAnyH_take (i := 1) (oi := { dst := some 154, op := Op.move (Operand.tmp 3), type := 22, pos := "law.go:172", after := #[], guard := none }) (v := ?vg1) rfl (by kernel_rfl) (by kernel_rfl) (by kernel_rfl) (fun _ _ _ h => h) (Or.inl ⟨by rfl, ?hyg1⟩) hHeld ?_
              case hyg1 => (intro w hSw; (try dsimp only at hSw); go_simp; (try with_reducible rfl))
              try simp only [Act.put, List.setIfInBounds_toArray, List.set_cons_zero, List.set_cons_succ]
              refine wpAnyH_take (i := 2) (oi := { dst := some 155, op := Op.move (Operand.tmp 11), type := 3, pos := "law.go:172", after := #[], guard := none }) (v := ?vg2) rfl (by kernel_rfl) (by kernel_rfl) (by kernel_rfl) (fun _ _ _ h => h) (Or.inl ⟨by rfl, ?hyg2⟩) hHeld ?_
              case hyg2 => (intro w hSw; (try dsimp only at hSw); go_simp; (try with_reducible rfl))
              try simp only [Act.put, List.setIfInBounds_toArray, List.set_cons_zero, List.set_cons_succ]
              refine wpAnyH_take (i := 3) (oi := { dst := some 156, op := Op.indexAddr 22 (Operand.tmp 154) (Operand.tmp 155), type := 0, pos := "law.go:172", after := #[{ on := 1, ground := Ground.data }, { on := 2, ground := Ground.data }], guard := none }) (v := ?vg3) rfl (by kernel_rfl) (by kernel_rfl) (by kernel_rfl) (fun _ _ _ h => h) (Or.inl ⟨by rfl, ?hyg3⟩) hHeld ?_
              case hyg3 => (intro w hSw; (try dsimp only at hSw); go_simp; (try with_reducible rfl))
              try simp only [Act.put, List.setIfInBounds_toArray, List.set_cons_zero, List.set_cons_succ]
              refine wpAnyH_take (i := 4) (oi := { dst := some 157, op := Op.fieldAddr 37 (Operand.tmp 156) 0, type := 0, pos := "law.go:172", after := #[{ on := 3, ground := Ground.data }], guard := none }) (v := ?vg4) rfl (by kernel_rfl) (by kernel_rfl) (by kernel_rfl) (fun _ _ _ h => h) (Or.inl ⟨by rfl, ?hyg4⟩) hHeld ?_
              case hyg4 => (intro w hSw; (try dsimp only at hSw); go_simp; (try with_reducible rfl))
              try simp only [Act.put, List.setIfInBounds_toArray, List.set_cons_zero, List.set_cons_succ]
              refine wpAnyH_take (i := 5) (oi := { dst := some 158, op := Op.load 3 (Operand.tmp 157), type := 3, pos := "law.go:172", after := #[{ on := 4, ground := Ground.data }], guard := none }) (v := ?vg5) rfl (by kernel_rfl) (by kernel_rfl) (by kernel_rfl) (fun _ _ _ h => h) (Or.inl ⟨by rfl, ?hyg5⟩) hHeld ?_
              case hyg5 => (intro w hSw; (try dsimp only at hSw); go_simp; (try with_reducible rfl))
              try simp only [Act.put, List.setIfInBounds_toArray, List.set_cons_zero, List.set_cons_succ]
              refine wpAnyH_take (i := 6) (oi := { dst := some 159, op := Op.move (Operand.tmp 3), type := 22, pos := "law.go:172", after := #[], guard := none }) (v := ?vg6) rfl (by kernel_rfl) (by kernel_rfl) (by kernel_rfl) (fun _ _ _ h => h) (Or.inl ⟨by rfl, ?hyg6⟩) hHeld ?_
              case hyg6 => (intro w hSw; (try dsimp only at hSw); go_simp; (try with_reducible rfl))
              try simp only [Act.put, List.setIfInBounds_toArray, List.set_cons_zero, List.set_cons_succ]
              refine wpAnyH_take (i := 7) (oi := { dst := some 160, op := Op.move (Operand.tmp 11), type := 3, pos := "law.go:172", after := #[], guard := none }) (v := ?vg7) rfl (by kernel_rfl) (by kernel_rfl) (by kernel_rfl) (fun _ _ _ h => h) (Or.inl ⟨by rfl, ?hyg7⟩) hHeld ?_
              case hyg7 => (intro w hSw; (try dsimp only at hSw); go_simp; (try with_reducible rfl))
              try simp only [Act.put, List.setIfInBounds_toArray, List.set_cons_zero, List.set_cons_succ]
              refine wpAnyH_take (i := 8) (oi := { dst := some 161, op := Op.indexAddr 22 (Operand.tmp 159) (Operand.tmp 160), type := 0, pos := "law.go:172", after := #[{ on := 6, ground := Ground.data }, { on := 7, ground := Ground.data }], guard := none }) (v := ?vg8) rfl (by kernel_rfl) (by kernel_rfl) (by kernel_rfl) (fun _ _ _ h => h) (Or.inl ⟨by rfl, ?hyg8⟩) hHeld ?_
              case hyg8 => (intro w hSw; (try dsimp only at hSw); go_simp; (try with_reducible rfl))
              try simp only [Act.put, List.setIfInBounds_toArray, List.set_cons_zero, List.set_cons_succ]
              refine wpAnyH_take (i := 9) (oi := { dst := some 162, op := Op.fieldAddr 37 (Operand.tmp 161) 1, type := 0, pos := "law.go:172", after := #[{ on := 8, ground := Ground.data }], guard := none }) (v := ?vg9) rfl (by kernel_rfl) (by kernel_rfl) (by kernel_rfl) (fun _ _ _ h => h) (Or.inl ⟨by rfl, ?hyg9⟩) hHeld ?_
              case hyg9 => (intro w hSw; (try dsimp only at hSw); go_simp; (try with_reducible rfl))
              try simp only [Act.put, List.setIfInBounds_toArray, List.set_cons_zero, List.set_cons_succ]
              refine wpAnyH_take (i := 10) (oi := { dst := some 163, op := Op.load 35 (Operand.tmp 162), type := 35, pos := "law.go:172", after := #[{ on := 9, ground := Ground.data }], guard := none }) (v := ?vg10) rfl (by kernel_rfl) (by kernel_rfl) (by kernel_rfl) (fun _ _ _ h => h) (Or.inl ⟨by rfl, ?hyg10⟩) hHeld ?_
              case hyg10 => (intro w hSw; (try dsimp only at hSw); go_simp; (try with_reducible rfl))
              try simp only [Act.put, List.setIfInBounds_toArray, List.set_cons_zero, List.set_cons_succ]
              refine wpAnyH_take (i := 11) (oi := { dst := some 164, op := Op.move (Operand.tmp 3), type := 22, pos := "law.go:172", after := #[], guard := none }) (v := ?vg11) rfl (by kernel_rfl) (by kernel_rfl) (by kernel_rfl) (fun _ _ _ h => h) (Or.inl ⟨by rfl, ?hyg11⟩) hHeld ?_
              case hyg11 => (intro w hSw; (try dsimp only at hSw); go_simp; (try with_reducible rfl))
              try simp only [Act.put, List.setIfInBounds_toArray, List.set_cons_zero, List.set_cons_succ]
              refine wpAnyH_take (i := 12) (oi := { dst := some 165, op := Op.move (Operand.tmp 11), type := 3, pos := "law.go:172", after := #[], guard := none }) (v := ?vg12) rfl (by kernel_rfl) (by kernel_rfl) (by kernel_rfl) (fun _ _ _ h => h) (Or.inl ⟨by rfl, ?hyg12⟩) hHeld ?_
              case hyg12 => (intro w hSw; (try dsimp only at hSw); go_simp; (try with_reducible rfl))
              try simp only [Act.put, List.setIfInBounds_toArray, List.set_cons_zero, List.set_cons_succ]
              refine wpAnyH_take (i := 13) (oi := { dst := some 166, op := Op.indexAddr 22 (Operand.tmp 164) (Operand.tmp 165), type := 0, pos := "law.go:172", after := #[{ on := 11, ground := Ground.data }, { on := 12, ground := Ground.data }], guard := none }) (v := ?vg13) rfl (by kernel_rfl) (by kernel_rfl) (by kernel_rfl) (fun _ _ _ h => h) (Or.inl ⟨by rfl, ?hyg13⟩) hHeld ?_
              case hyg13 => (intro w hSw; (try dsimp only at hSw); go_simp; (try with_reducible rfl))
              try simp only [Act.put, List.setIfInBounds_toArray, List.set_cons_zero, List.set_cons_succ]
              refine wpAnyH_take (i := 14) (oi := { dst := some 167, op := Op.fieldAddr 37 (Operand.tmp 166) 2, type := 0, pos := "law.go:172", after := #[{ on := 13, ground := Ground.data }], guard := none }) (v := ?vg14) rfl (by kernel_rfl) (by kernel_rfl) (by kernel_rfl) (fun _ _ _ h => h) (Or.inl ⟨by rfl, ?hyg14⟩) hHeld ?_
              case hyg14 => (intro w hSw; (try dsimp only at hSw); go_simp; (try with_reducible rfl))
              try simp only [Act.put, List.setIfInBounds_toArray, List.set_cons_zero, List.set_cons_succ]
              refine wpAnyH_take (i := 15) (oi := { dst := some 168, op := Op.load 4 (Operand.tmp 167), type := 4, pos := "law.go:172", after := #[{ on := 14, ground := Ground.data }], guard := none }) (v := ?vg15) rfl (by kernel_rfl) (by kernel_rfl) (by kernel_rfl) (fun _ _ _ h => h) (Or.inl ⟨by rfl, ?hyg15⟩) hHeld ?_
              case hyg15 => (intro w hSw; (try dsimp only at hSw); go_simp; (try with_reducible rfl))
              try simp only [Act.put, List.setIfInBounds_toArray, List.set_cons_zero, List.set_cons_succ]
              refine wpAnyH_ready (rs := [16]) (by kernel_rfl) (by simp) ?_
              refine AllReadyH.cons (o := { dst := some 169, op := Op.call { callee := Callee.value (Operand.func 12), args := #[Operand.tmp 153, Operand.tmp 158, Operand.tmp 163, Operand.tmp 168], argTypes := #[27, 3, 35, 4] }, type := 3, pos := "law.go:172", after := #[{ on := 0, ground := Ground.data }, { on := 5, ground := Ground.data }, { on := 10, ground := Ground.data }, { on := 15, ground := Ground.data }], guard := none }) rfl (fun K hK => ?_) AllReadyH.nil
              go_simp
              refine (HDoL.out _ _ _ _ _ HT9.out.old HT9.out.h1).mono ?_
              rintro e V9 hP
              obtain ⟨rfl, v9, hP2⟩ := HT9.out.act hP
              have HT10 := Lib.hid hP2
              clear hP hP2 HT9
              clear a0 a1 a2 a3 a4 a5 hHeld
              obtain ⟨a0, a1, a2, a3, a4, a5⟩ := HQ.out _ HT10.out.old
              refine hK.out _ _ ?_ (fun hHeld => ?_)
              · exact ⟨a0, a1, a2, a3, a4, a5⟩
              clear hK K
              try simp only [Act.put, List.setIfInBounds_toArray, List.set_cons_zero, List.set_cons_succ]
              refine wpAnyH_done (by kernel_rfl) ?_ _
              clear hHeld a0 a1 a2 a3 a4 a5 HQ
              go_wp2_with fail
              go_roundw
              case rel => exact ⟨k + 1, v9, sL, by go_num, by omega, HN1.out, Lib.hid HT10.out.tail0⟩
              case measure => simp [intOf]; omega
        · obtain ⟨rfl, e2, rfl⟩ := hj
          have HJ2 := Lib.hid e2
          clear e2 HI HJ
          have HC3 := Lib.hid (Copy_c HT6.out.h3)
          dsimp only at HC3
          go_wp2_with fail
          (try clear hk3 hkq)
          refine HC3.out.mono ?_
          rintro e W7 hP
          obtain ⟨⟨Xn, Rn, Ln, vn, sb⟩, rfl, es, hP2⟩ := HT6.out.copy hP
          dsimp only at es hP2
          have HE : Hid (∀ m r : Int, sT.g 0 m r = sb.g 0 m r) := Lib.hid (fun m r => by rw [es, HJ2.out])
          have HT7 := Lib.hid (hP2.swap.tail)
          clear hP hP2 HC3 HT6 es HJ2
          go_wp2_with fail
          have HTn := HT7
          clear HT7
          have H0 := Lib.hid (Below.refl W7.heap.size W7)
          go_loopw [16] (fun vm wr => ∃ m : Nat, vm = .int .i64 m ∧ m ≤ b ∧ Hid (Below W7.heap.size W7 wr)) (fun vm _ => b - (intOf vm).toNat)
          case atStart => exact ⟨0, rfl, Nat.zero_le _, H0⟩
          case round =>
            clear H0
            obtain ⟨m, rfl, hm, HBm⟩ := hrel
            by_cases hlm : m < b
            · go_wp2_with fail
              go_loopw [17] (fun vr wr => ∃ r : Nat, vr = .int .i64 r ∧ r ≤ c ∧ Hid (Below W7.heap.size W7 wr)) (fun vr _ => c - (intOf vr).toNat)
              case atStart => exact ⟨0, rfl, Nat.zero_le _, HBm⟩
              case round =>
                clear HBm
                obtain ⟨j, rfl, hj, HBm⟩ := hrel
                by_cases hlj : j < c
                · have HG := Lib.hid (Reg_c (HTn.out.on HBm.out).h2 m j)
                  have HG2 : Hid (∀ V, Below W7.heap.size W7 V → _) := Lib.hid (fun V hV => Reg_c (HTn.out.on hV).h1 m j)
                  dsimp only at HG HG2
                  rw [HE.out m j] at HG
                  generalize sb.g 0 m j = xx at *
                  go_wp2_with fail
                  refine HG.out.mono ?_
                  rintro e V1 ⟨rfl, hV1⟩
                  have HB1 := Lib.hid (belowOn HBm.out hV1)
                  clear HG HBm hV1
                  go_wp2_with fail
                  refine (HG2.out _ HB1.out).mono ?_
                  rintro e V2 ⟨rfl, hV2⟩
                  have HB2 := Lib.hid (belowOn HB1.out hV2)
                  clear HG2 HB1 hV2
                  go_wp2_with fail
                  go_roundw
                  case rel => exact ⟨j + 1, by go_num, by omega, HB2⟩
                  case measure => simp [intOf]; omega
                · obtain rfl : j = c := by omega
                  go_wp2_with fail
                  go_roundw
                  case rel => exact ⟨m + 1, by go_num, by omega, HBm⟩
                  case measure => simp [intOf]; omega
            · obtain rfl : m = b := by omega
              have HT9 := Lib.hid ((HTn.out.on (belowOn HBm.out (Below.refl _ _).drew)).third)
              clear HTn HBm HE a0 a1 a2 a3 a4 a5
              obtain ⟨a0, a1, a2, a3, a4, a5⟩ := HQ.out _ HT9.out.old
              go_wp2_with fail
              refine wp_region_held_drew (S := (fun w' => w'.cell? ⟨ab, off + k * 6, none⟩ = some (.int .i64 qm) ∧ w'.cell? ⟨ab, off + k * 6 + 1, none⟩ = some (.int .i64 qk) ∧ w'.cell? ⟨ab, off + k * 6 + 2, none⟩ = some (.int .i64 qx) ∧ w'.cell? ⟨ab, off + k * 6 + 3, none⟩ = some (.int .i64 qy) ∧ w'.cell? ⟨ab, off + k * 6 + 4, none⟩ = some (.int .i64 qz) ∧ w'.cell? ⟨ab, off + k * 6 + 5, none⟩ = some (.bool qf))) (by kernel_rfl) ?_ (fun hHeld => ?_)
              · exact ⟨a0, a1, a2, a3, a4, a5⟩
              refine wpAnyH_take (i := 0) (oi := { dst := some 153, op := Op.move (Operand.tmp 9), type := 27, pos := "law.go:172", after := #[], guard := none }) (v := ?vh0) rfl (by kernel_rfl) (by kernel_rfl) (by kernel_rfl) (fun _ _ _ h => h) (Or.inl ⟨by rfl, ?hyh0⟩) hHeld ?_
              case hyh0 => (intro w hSw; (try dsimp only at hSw); go_simp; (try with_reducible rfl))
              try simp only [Act.put, List.setIfInBounds_toArray, List.set_cons_zero, List.set_cons_succ]
              refine wpAnyH_take (i := 1) (oi := { dst := some 154, op := Op.move (Operand.tmp 3), type := 22, pos := "law.go:172", after := #[], guard := none }) (v := ?vh1) rfl (by kernel_rfl) (by kernel_rfl) (by kernel_rfl) (fun _ _ _ h => h) (Or.inl ⟨by rfl, ?hyh1⟩) hHeld ?_
              case hyh1 => (intro w hSw; (try dsimp only at hSw); go_simp; (try with_reducible rfl))
              try simp only [Act.put, List.setIfInBounds_toArray, List.set_cons_zero, List.set_cons_succ]
              refine wpAnyH_take (i := 2) (oi := { dst := some 155, op := Op.move (Operand.tmp 11), type := 3, pos := "law.go:172", after := #[], guard := none }) (v := ?vh2) rfl (by kernel_rfl) (by kernel_rfl) (by kernel_rfl) (fun _ _ _ h => h) (Or.inl ⟨by rfl, ?hyh2⟩) hHeld ?_
              case hyh2 => (intro w hSw; (try dsimp only at hSw); go_simp; (try with_reducible rfl))
              try simp only [Act.put, List.setIfInBounds_toArray, List.set_cons_zero, List.set_cons_succ]
              refine wpAnyH_take (i := 3) (oi := { dst := some 156, op := Op.indexAddr 22 (Operand.tmp 154) (Operand.tmp 155), type := 0, pos := "law.go:172", after := #[{ on := 1, ground := Ground.data }, { on := 2, ground := Ground.data }], guard := none }) (v := ?vh3) rfl (by kernel_rfl) (by kernel_rfl) (by kernel_rfl) (fun _ _ _ h => h) (Or.inl ⟨by rfl, ?hyh3⟩) hHeld ?_
              case hyh3 => (intro w hSw; (try dsimp only at hSw); go_simp; (try with_reducible rfl))
              try simp only [Act.put, List.setIfInBounds_toArray, List.set_cons_zero, List.set_cons_succ]
              refine wpAnyH_take (i := 4) (oi := { dst := some 157, op := Op.fieldAddr 37 (Operand.tmp 156) 0, type := 0, pos := "law.go:172", after := #[{ on := 3, ground := Ground.data }], guard := none }) (v := ?vh4) rfl (by kernel_rfl) (by kernel_rfl) (by kernel_rfl) (fun _ _ _ h => h) (Or.inl ⟨by rfl, ?hyh4⟩) hHeld ?_
              case hyh4 => (intro w hSw; (try dsimp only at hSw); go_simp; (try with_reducible rfl))
              try simp only [Act.put, List.setIfInBounds_toArray, List.set_cons_zero, List.set_cons_succ]
              refine wpAnyH_take (i := 5) (oi := { dst := some 158, op := Op.load 3 (Operand.tmp 157), type := 3, pos := "law.go:172", after := #[{ on := 4, ground := Ground.data }], guard := none }) (v := ?vh5) rfl (by kernel_rfl) (by kernel_rfl) (by kernel_rfl) (fun _ _ _ h => h) (Or.inl ⟨by rfl, ?hyh5⟩) hHeld ?_
              case hyh5 => (intro w hSw; (try dsimp only at hSw); go_simp; (try with_reducible rfl))
              try simp only [Act.put, List.setIfInBounds_toArray, List.set_cons_zero, List.set_cons_succ]
              refine wpAnyH_take (i := 6) (oi := { dst := some 159, op := Op.move (Operand.tmp 3), type := 22, pos := "law.go:172", after := #[], guard := none }) (v := ?vh6) rfl (by kernel_rfl) (by kernel_rfl) (by kernel_rfl) (fun _ _ _ h => h) (Or.inl ⟨by rfl, ?hyh6⟩) hHeld ?_
              case hyh6 => (intro w hSw; (try dsimp only at hSw); go_simp; (try with_reducible rfl))
              try simp only [Act.put, List.setIfInBounds_toArray, List.set_cons_zero, List.set_cons_succ]
              refine wpAnyH_take (i := 7) (oi := { dst := some 160, op := Op.move (Operand.tmp 11), type := 3, pos := "law.go:172", after := #[], guard := none }) (v := ?vh7) rfl (by kernel_rfl) (by kernel_rfl) (by kernel_rfl) (fun _ _ _ h => h) (Or.inl ⟨by rfl, ?hyh7⟩) hHeld ?_
              case hyh7 => (intro w hSw; (try dsimp only at hSw); go_simp; (try with_reducible rfl))
              try simp only [Act.put, List.setIfInBounds_toArray, List.set_cons_zero, List.set_cons_succ]
              refine wpAnyH_take (i := 8) (oi := { dst := some 161, op := Op.indexAddr 22 (Operand.tmp 159) (Operand.tmp 160), type := 0, pos := "law.go:172", after := #[{ on := 6, ground := Ground.data }, { on := 7, ground := Ground.data }], guard := none }) (v := ?vh8) rfl (by kernel_rfl) (by kernel_rfl) (by kernel_rfl) (fun _ _ _ h => h) (Or.inl ⟨by rfl, ?hyh8⟩) hHeld ?_
              case hyh8 => (intro w hSw; (try dsimp only at hSw); go_simp; (try with_reducible rfl))
              try simp only [Act.put, List.setIfInBounds_toArray, List.set_cons_zero, List.set_cons_succ]
              refine wpAnyH_take (i := 9) (oi := { dst := some 162, op := Op.fieldAddr 37 (Operand.tmp 161) 1, type := 0, pos := "law.go:172", after := #[{ on := 8, ground := Ground.data }], guard := none }) (v := ?vh9) rfl (by kernel_rfl) (by kernel_rfl) (by kernel_rfl) (fun _ _ _ h => h) (Or.inl ⟨by rfl, ?hyh9⟩) hHeld ?_
              case hyh9 => (intro w hSw; (try dsimp only at hSw); go_simp; (try with_reducible rfl))
              try simp only [Act.put, List.setIfInBounds_toArray, List.set_cons_zero, List.set_cons_succ]
              refine wpAnyH_take (i := 10) (oi := { dst := some 163, op := Op.load 35 (Operand.tmp 162), type := 35, pos := "law.go:172", after := #[{ on := 9, ground := Ground.data }], guard := none }) (v := ?vh10) rfl (by kernel_rfl) (by kernel_rfl) (by kernel_rfl) (fun _ _ _ h => h) (Or.inl ⟨by rfl, ?hyh10⟩) hHeld ?_
              case hyh10 => (intro w hSw; (try dsimp only at hSw); go_simp; (try with_reducible rfl))
              try simp only [Act.put, List.setIfInBounds_toArray, List.set_cons_zero, List.set_cons_succ]
              refine wpAnyH_take (i := 11) (oi := { dst := some 164, op := Op.move (Operand.tmp 3), type := 22, pos := "law.go:172", after := #[], guard := none }) (v := ?vh11) rfl (by kernel_rfl) (by kernel_rfl) (by kernel_rfl) (fun _ _ _ h => h) (Or.inl ⟨by rfl, ?hyh11⟩) hHeld ?_
              case hyh11 => (intro w hSw; (try dsimp only at hSw); go_simp; (try with_reducible rfl))
              try simp only [Act.put, List.setIfInBounds_toArray, List.set_cons_zero, List.set_cons_succ]
              refine wpAnyH_take (i := 12) (oi := { dst := some 165, op := Op.move (Operand.tmp 11), type := 3, pos := "law.go:172", after := #[], guard := none }) (v := ?vh12) rfl (by kernel_rfl) (by kernel_rfl) (by kernel_rfl) (fun _ _ _ h => h) (Or.inl ⟨by rfl, ?hyh12⟩) hHeld ?_
              case hyh12 => (intro w hSw; (try dsimp only at hSw); go_simp; (try with_reducible rfl))
              try simp only [Act.put, List.setIfInBounds_toArray, List.set_cons_zero, List.set_cons_succ]
              refine wpAnyH_take (i := 13) (oi := { dst := some 166, op := Op.indexAddr 22 (Operand.tmp 164) (Operand.tmp 165), type := 0, pos := "law.go:172", after := #[{ on := 11, ground := Ground.data }, { on := 12, ground := Ground.data }], guard := none }) (v := ?vh13) rfl (by kernel_rfl) (by kernel_rfl) (by kernel_rfl) (fun _ _ _ h => h) (Or.inl ⟨by rfl, ?hyh13⟩) hHeld ?_
              case hyh13 => (intro w hSw; (try dsimp only at hSw); go_simp; (try with_reducible rfl))
              try simp only [Act.put, List.setIfInBounds_toArray, List.set_cons_zero, List.set_cons_succ]
              refine wpAnyH_take (i := 14) (oi := { dst := some 167, op := Op.fieldAddr 37 (Operand.tmp 166) 2, type := 0, pos := "law.go:172", after := #[{ on := 13, ground := Ground.data }], guard := none }) (v := ?vh14) rfl (by kernel_rfl) (by kernel_rfl) (by kernel_rfl) (fun _ _ _ h => h) (Or.inl ⟨by rfl, ?hyh14⟩) hHeld ?_
              case hyh14 => (intro w hSw; (try dsimp only at hSw); go_simp; (try with_reducible rfl))
              try simp only [Act.put, List.setIfInBounds_toArray, List.set_cons_zero, List.set_cons_succ]
              refine wpAnyH_take (i := 15) (oi := { dst := some 168, op := Op.load 4 (Operand.tmp 167), type := 4, pos := "law.go:172", after := #[{ on := 14, ground := Ground.data }], guard := none }) (v := ?vh15) rfl (by kernel_rfl) (by kernel_rfl) (by kernel_rfl) (fun _ _ _ h => h) (Or.inl ⟨by rfl, ?hyh15⟩) hHeld ?_
              case hyh15 => (intro w hSw; (try dsimp only at hSw); go_simp; (try with_reducible rfl))
              try simp only [Act.put, List.setIfInBounds_toArray, List.set_cons_zero, List.set_cons_succ]
              refine wpAnyH_ready (rs := [16]) (by kernel_rfl) (by simp) ?_
              refine AllReadyH.cons (o := { dst := some 169, op := Op.call { callee := Callee.value (Operand.func 12), args := #[Operand.tmp 153, Operand.tmp 158, Operand.tmp 163, Operand.tmp 168], argTypes := #[27, 3, 35, 4] }, type := 3, pos := "law.go:172", after := #[{ on := 0, ground := Ground.data }, { on := 5, ground := Ground.data }, { on := 10, ground := Ground.data }, { on := 15, ground := Ground.data }], guard := none }) rfl (fun K hK => ?_) AllReadyH.nil
              go_simp
              refine (HDoL.out _ _ _ _ _ HT9.out.old HT9.out.h1).mono ?_
              rintro e V9 hP
              obtain ⟨rfl, v9, hP2⟩ := HT9.out.act hP
              have HT10 := Lib.hid hP2
              clear hP hP2 HT9
              clear a0 a1 a2 a3 a4 a5 hHeld
              obtain ⟨a0, a1, a2, a3, a4, a5⟩ := HQ.out _ HT10.out.old
              refine hK.out _ _ ?_ (fun hHeld => ?_)
              · exact ⟨a0, a1, a2, a3, a4, a5⟩
              clear hK K
              try simp only [Act.put, List.setIfInBounds_toArray, List.set_cons_zero, List.set_cons_succ]
              refine wpAnyH_done (by kernel_rfl) ?_ _
              clear hHeld a0 a1 a2 a3 a4 a5 HQ
              go_wp2_with fail
              go_roundw
              case rel => exact ⟨k + 1, v9, sL, by go_num, by omega, HN1.out, Lib.hid HT10.out.tail0⟩
              case measure => simp [intOf]; omega
      · obtain ⟨rfl, rfl⟩ := HI.out hk3
        have hkq : (qk == 3) = false := by simpa using hk3
        clear HI HJ
        go_wp2_with fail
        have HTn := HT6
        clear HT6
        have H0 := Lib.hid (Below.refl W6.heap.size W6)
        go_loopw [16] (fun vm wr => ∃ m : Nat, vm = .int .i64 m ∧ m ≤ b ∧ Hid (Below W6.heap.size W6 wr)) (fun vm _ => b - (intOf vm).toNat)
        case atStart => exact ⟨0, rfl, Nat.zero_le _, H0⟩
        case round =>
          clear H0
          obtain ⟨m, rfl, hm, HBm⟩ := hrel
          by_cases hlm : m < b
          · go_wp2_with fail
            go_loopw [17] (fun vr wr => ∃ r : Nat, vr = .int .i64 r ∧ r ≤ c ∧ Hid (Below W6.heap.size W6 wr)) (fun vr _ => c - (intOf vr).toNat)
            case atStart => exact ⟨0, rfl, Nat.zero_le _, HBm⟩
            case round =>
              clear HBm
              obtain ⟨j, rfl, hj, HBm⟩ := hrel
              by_cases hlj : j < c
              · have HG := Lib.hid (Reg_c (HTn.out.on HBm.out).h2 m j)
                have HG2 : Hid (∀ V, Below W6.heap.size W6 V → _) := Lib.hid (fun V hV => Reg_c (HTn.out.on hV).h1 m j)
                dsimp only at HG HG2
                skip
                generalize sT.g 0 m j = xx at *
                go_wp2_with fail
                refine HG.out.mono ?_
                rintro e V1 ⟨rfl, hV1⟩
                have HB1 := Lib.hid (belowOn HBm.out hV1)
                clear HG HBm hV1
                go_wp2_with fail
                refine (HG2.out _ HB1.out).mono ?_
                rintro e V2 ⟨rfl, hV2⟩
                have HB2 := Lib.hid (belowOn HB1.out hV2)
                clear HG2 HB1 hV2
                go_wp2_with fail
                go_roundw
                case rel => exact ⟨j + 1, by go_num, by omega, HB2⟩
                case measure => simp [intOf]; omega
              · obtain rfl : j = c := by omega
                go_wp2_with fail
                go_roundw
                case rel => exact ⟨m + 1, by go_num, by omega, HBm⟩
                case measure => simp [intOf]; omega
          · obtain rfl : m = b := by omega
            have HT9 := Lib.hid ((HTn.out.on (belowOn HBm.out (Below.refl _ _).drew)).third)
            clear HTn HBm a0 a1 a2 a3 a4 a5
            obtain ⟨a0, a1, a2, a3, a4, a5⟩ := HQ.out _ HT9.out.old
            go_wp2_with fail
            refine wp_region_held_drew (S := (fun w' => w'.cell? ⟨ab, off + k * 6, none⟩ = some (.int .i64 qm) ∧ w'.cell? ⟨ab, off + k * 6 + 1, none⟩ = some (.int .i64 qk) ∧ w'.cell? ⟨ab, off + k * 6 + 2, none⟩ = some (.int .i64 qx) ∧ w'.cell? ⟨ab, off + k * 6 + 3, none⟩ = some (.int .i64 qy) ∧ w'.cell? ⟨ab, off + k * 6 + 4, none⟩ = some (.int .i64 qz) ∧ w'.cell? ⟨ab, off + k * 6 + 5, none⟩ = some (.bool qf))) (by kernel_rfl) ?_ (fun hHeld => ?_)
            · exact ⟨a0, a1, a2, a3, a4, a5⟩
            refine wpAnyH_take (i := 0) (oi := { dst := some 153, op := Op.move (Operand.tmp 9), type := 27, pos := "law.go:172", after := #[], guard := none }) (v := ?vi0) rfl (by kernel_rfl) (by kernel_rfl) (by kernel_rfl) (fun _ _ _ h => h) (Or.inl ⟨by rfl, ?hyi0⟩) hHeld ?_
            case hyi0 => (intro w hSw; (try dsimp only at hSw); go_simp; (try with_reducible rfl))
            try simp only [Act.put, List.setIfInBounds_toArray, List.set_cons_zero, List.set_cons_succ]
            refine wpAnyH_take (i := 1) (oi := { dst := some 154, op := Op.move (Operand.tmp 3), type := 22, pos := "law.go:172", after := #[], guard := none }) (v := ?vi1) rfl (by kernel_rfl) (by kernel_rfl) (by kernel_rfl) (fun _ _ _ h => h) (Or.inl ⟨by rfl, ?hyi1⟩) hHeld ?_
            case hyi1 => (intro w hSw; (try dsimp only at hSw); go_simp; (try with_reducible rfl))
            try simp only [Act.put, List.setIfInBounds_toArray, List.set_cons_zero, List.set_cons_succ]
            refine wpAnyH_take (i := 2) (oi := { dst := some 155, op := Op.move (Operand.tmp 11), type := 3, pos := "law.go:172", after := #[], guard := none }) (v := ?vi2) rfl (by kernel_rfl) (by kernel_rfl) (by kernel_rfl) (fun _ _ _ h => h) (Or.inl ⟨by rfl, ?hyi2⟩) hHeld ?_
            case hyi2 => (intro w hSw; (try dsimp only at hSw); go_simp; (try with_reducible rfl))
            try simp only [Act.put, List.setIfInBounds_toArray, List.set_cons_zero, List.set_cons_succ]
            refine wpAnyH_take (i := 3) (oi := { dst := some 156, op := Op.indexAddr 22 (Operand.tmp 154) (Operand.tmp 155), type := 0, pos := "law.go:172", after := #[{ on := 1, ground := Ground.data }, { on := 2, ground := Ground.data }], guard := none }) (v := ?vi3) rfl (by kernel_rfl) (by kernel_rfl) (by kernel_rfl) (fun _ _ _ h => h) (Or.inl ⟨by rfl, ?hyi3⟩) hHeld ?_
            case hyi3 => (intro w hSw; (try dsimp only at hSw); go_simp; (try with_reducible rfl))
            try simp only [Act.put, List.setIfInBounds_toArray, List.set_cons_zero, List.set_cons_succ]
            refine wpAnyH_take (i := 4) (oi := { dst := some 157, op := Op.fieldAddr 37 (Operand.tmp 156) 0, type := 0, pos := "law.go:172", after := #[{ on := 3, ground := Ground.data }], guard := none }) (v := ?vi4) rfl (by kernel_rfl) (by kernel_rfl) (by kernel_rfl) (fun _ _ _ h => h) (Or.inl ⟨by rfl, ?hyi4⟩) hHeld ?_
            case hyi4 => (intro w hSw; (try dsimp only at hSw); go_simp; (try with_reducible rfl))
            try simp only [Act.put, List.setIfInBounds_toArray, List.set_cons_zero, List.set_cons_succ]
            refine wpAnyH_take (i := 5) (oi := { dst := some 158, op := Op.load 3 (Operand.tmp 157), type := 3, pos := "law.go:172", after := #[{ on := 4, ground := Ground.data }], guard := none }) (v := ?vi5) rfl (by kernel_rfl) (by kernel_rfl) (by kernel_rfl) (fun _ _ _ h => h) (Or.inl ⟨by rfl, ?hyi5⟩) hHeld ?_
            case hyi5 => (intro w hSw; (try dsimp only at hSw); go_simp; (try with_reducible rfl))
            try simp only [Act.put, List.setIfInBounds_toArray, List.set_cons_zero, List.set_cons_succ]
            refine wpAnyH_take (i := 6) (oi := { dst := some 159, op := Op.move (Operand.tmp 3), type := 22, pos := "law.go:172", after := #[], guard := none }) (v := ?vi6) rfl (by kernel_rfl) (by kernel_rfl) (by kernel_rfl) (fun _ _ _ h => h) (Or.inl ⟨by rfl, ?hyi6⟩) hHeld ?_
            case hyi6 => (intro w hSw; (try dsimp only at hSw); go_simp; (try with_reducible rfl))
            try simp only [Act.put, List.setIfInBounds_toArray, List.set_cons_zero, List.set_cons_succ]
            refine wpAnyH_take (i := 7) (oi := { dst := some 160, op := Op.move (Operand.tmp 11), type := 3, pos := "law.go:172", after := #[], guard := none }) (v := ?vi7) rfl (by kernel_rfl) (by kernel_rfl) (by kernel_rfl) (fun _ _ _ h => h) (Or.inl ⟨by rfl, ?hyi7⟩) hHeld ?_
            case hyi7 => (intro w hSw; (try dsimp only at hSw); go_simp; (try with_reducible rfl))
            try simp only [Act.put, List.setIfInBounds_toArray, List.set_cons_zero, List.set_cons_succ]
            refine wpAnyH_take (i := 8) (oi := { dst := some 161, op := Op.indexAddr 22 (Operand.tmp 159) (Operand.tmp 160), type := 0, pos := "law.go:172", after := #[{ on := 6, ground := Ground.data }, { on := 7, ground := Ground.data }], guard := none }) (v := ?vi8) rfl (by kernel_rfl) (by kernel_rfl) (by kernel_rfl) (fun _ _ _ h => h) (Or.inl ⟨by rfl, ?hyi8⟩) hHeld ?_
            case hyi8 => (intro w hSw; (try dsimp only at hSw); go_simp; (try with_reducible rfl))
            try simp only [Act.put, List.setIfInBounds_toArray, List.set_cons_zero, List.set_cons_succ]
            refine wpAnyH_take (i := 9) (oi := { dst := some 162, op := Op.fieldAddr 37 (Operand.tmp 161) 1, type := 0, pos := "law.go:172", after := #[{ on := 8, ground := Ground.data }], guard := none }) (v := ?vi9) rfl (by kernel_rfl) (by kernel_rfl) (by kernel_rfl) (fun _ _ _ h => h) (Or.inl ⟨by rfl, ?hyi9⟩) hHeld ?_
            case hyi9 => (intro w hSw; (try dsimp only at hSw); go_simp; (try with_reducible rfl))
            try simp only [Act.put, List.setIfInBounds_toArray, List.set_cons_zero, List.set_cons_succ]
            refine wpAnyH_take (i := 10) (oi := { dst := some 163, op := Op.load 35 (Operand.tmp 162), type := 35, pos := "law.go:172", after := #[{ on := 9, ground := Ground.data }], guard := none }) (v := ?vi10) rfl (by kernel_rfl) (by kernel_rfl) (by kernel_rfl) (fun _ _ _ h => h) (Or.inl ⟨by rfl, ?hyi10⟩) hHeld ?_
            case hyi10 => (intro w hSw; (try dsimp only at hSw); go_simp; (try with_reducible rfl))
            try simp only [Act.put, List.setIfInBounds_toArray, List.set_cons_zero, List.set_cons_succ]
            refine wpAnyH_take (i := 11) (oi := { dst := some 164, op := Op.move (Operand.tmp 3), type := 22, pos := "law.go:172", after := #[], guard := none }) (v := ?vi11) rfl (by kernel_rfl) (by kernel_rfl) (by kernel_rfl) (fun _ _ _ h => h) (Or.inl ⟨by rfl, ?hyi11⟩) hHeld ?_
            case hyi11 => (intro w hSw; (try dsimp only at hSw); go_simp; (try with_reducible rfl))
            try simp only [Act.put, List.setIfInBounds_toArray, List.set_cons_zero, List.set_cons_succ]
            refine wpAnyH_take (i := 12) (oi := { dst := some 165, op := Op.move (Operand.tmp 11), type := 3, pos := "law.go:172", after := #[], guard := none }) (v := ?vi12) rfl (by kernel_rfl) (by kernel_rfl) (by kernel_rfl) (fun _ _ _ h => h) (Or.inl ⟨by rfl, ?hyi12⟩) hHeld ?_
            case hyi12 => (intro w hSw; (try dsimp only at hSw); go_simp; (try with_reducible rfl))
            try simp only [Act.put, List.setIfInBounds_toArray, List.set_cons_zero, List.set_cons_succ]
            refine wpAnyH_take (i := 13) (oi := { dst := some 166, op := Op.indexAddr 22 (Operand.tmp 164) (Operand.tmp 165), type := 0, pos := "law.go:172", after := #[{ on := 11, ground := Ground.data }, { on := 12, ground := Ground.data }], guard := none }) (v := ?vi13) rfl (by kernel_rfl) (by kernel_rfl) (by kernel_rfl) (fun _ _ _ h => h) (Or.inl ⟨by rfl, ?hyi13⟩) hHeld ?_
            case hyi13 => (intro w hSw; (try dsimp only at hSw); go_simp; (try with_reducible rfl))
            try simp only [Act.put, List.setIfInBounds_toArray, List.set_cons_zero, List.set_cons_succ]
            refine wpAnyH_take (i := 14) (oi := { dst := some 167, op := Op.fieldAddr 37 (Operand.tmp 166) 2, type := 0, pos := "law.go:172", after := #[{ on := 13, ground := Ground.data }], guard := none }) (v := ?vi14) rfl (by kernel_rfl) (by kernel_rfl) (by kernel_rfl) (fun _ _ _ h => h) (Or.inl ⟨by rfl, ?hyi14⟩) hHeld ?_
            case hyi14 => (intro w hSw; (try dsimp only at hSw); go_simp; (try with_reducible rfl))
            try simp only [Act.put, List.setIfInBounds_toArray, List.set_cons_zero, List.set_cons_succ]
            refine wpAnyH_take (i := 15) (oi := { dst := some 168, op := Op.load 4 (Operand.tmp 167), type := 4, pos := "law.go:172", after := #[{ on := 14, ground := Ground.data }], guard := none }) (v := ?vi15) rfl (by kernel_rfl) (by kernel_rfl) (by kernel_rfl) (fun _ _ _ h => h) (Or.inl ⟨by rfl, ?hyi15⟩) hHeld ?_
            case hyi15 => (intro w hSw; (try dsimp only at hSw); go_simp; (try with_reducible rfl))
            try simp only [Act.put, List.setIfInBounds_toArray, List.set_cons_zero, List.set_cons_succ]
            refine wpAnyH_ready (rs := [16]) (by kernel_rfl) (by simp) ?_
            refine AllReadyH.cons (o := { dst := some 169, op := Op.call { callee := Callee.value (Operand.func 12), args := #[Operand.tmp 153, Operand.tmp 158, Operand.tmp 163, Operand.tmp 168], argTypes := #[27, 3, 35, 4] }, type := 3, pos := "law.go:172", after := #[{ on := 0, ground := Ground.data }, { on := 5, ground := Ground.data }, { on := 10, ground := Ground.data }, { on := 15, ground := Ground.data }], guard := none }) rfl (fun K hK => ?_) AllReadyH.nil
            go_simp
            refine (HDoL.out _ _ _ _ _ HT9.out.old HT9.out.h1).mono ?_
            rintro e V9 hP
            obtain ⟨rfl, v9, hP2⟩ := HT9.out.act hP
            have HT10 := Lib.hid hP2
            clear hP hP2 HT9
            clear a0 a1 a2 a3 a4 a5 hHeld
            obtain ⟨a0, a1, a2, a3, a4, a5⟩ := HQ.out _ HT10.out.old
            refine hK.out _ _ ?_ (fun hHeld => ?_)
            · exact ⟨a0, a1, a2, a3, a4, a5⟩
            clear hK K
            try simp only [Act.put, List.setIfInBounds_toArray, List.set_cons_zero, List.set_cons_succ]
            refine wpAnyH_done (by kernel_rfl) ?_ _
            clear hHeld a0 a1 a2 a3 a4 a5 HQ
            go_wp2_with fail
            go_roundw
            case rel => exact ⟨k + 1, v9, sL, by go_num, by omega, HN1.out, Lib.hid HT10.out.tail0⟩
            case measure => simp [intOf]; omega
    · obtain rfl : k = n := by omega
      go_wp2_with fail
      go_ret
      exact ⟨rfl, HT.out.old⟩
theorem full_any (b c d : Int) (a : Option Addr) (n cap : Nat) (g : Nat → ActN) (w : World) (hS : SpansAt w) (hRw : RowsAt w) (hAct : GivenActs w a n g) : Calls Tryd.prog 6 #[.int .i64 b, .int .i64 c, .int .i64 d, .slice a n cap] w fun e w' => e = .returned (.bool true) ∧ Below w.heap.size w w' := by
  by_cases hr : Right 2 b c d
  · obtain ⟨b, rfl⟩ := nat_of' (show 0 ≤ b by unfold Right at hr; omega)
    obtain ⟨c, rfl⟩ := nat_of' (show 0 ≤ c by unfold Right at hr; omega)
    obtain ⟨d, rfl⟩ := nat_of' (show 0 ≤ d by unfold Right at hr; omega)
    by_cases h1 : 12 < b
    · exact full_great1 b c d hr a n cap h1 w hS hRw
    by_cases h2 : 8 < c
    · exact full_great2 b c d hr a n cap h1 h2 w hS hRw
    by_cases h3 : 8 < d
    · exact full_great3 b c d hr a n cap h1 h2 h3 w hS hRw
    by_cases h4 : 60 < n
    · exact full_great4 b c d hr a n cap h1 h2 h3 h4 hAct.1 w hS hRw
    exact full_right b c d hr a n cap g h1 h2 h3 (by omega) w hS hRw hAct
  · exact full_wrong b c d hr a n cap w hS hRw
end Go.Proofs.YthlpmkjhiifibaaDoor
