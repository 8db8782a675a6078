/- The law IdealPairs, for all three numbers: true. -/
import Derived.Test.YthlpmkjhiifibaaDoorIdealPairsA
namespace Go.Proofs.YthlpmkjhiifibaaDoor
open Go Go.RowKit
set_option maxRecDepth 100000
attribute [local go_sem ↓] Go.wp_at_zero Go.wp_at_succ

set_option maxHeartbeats 3200000 in
theorem pairs_any (a b c : Nat) (ha : a < 256) (hb : b < 256) (hc : c < 256) (w : World) (hS : SpansAt w) (hRw : RowsAt w) : Calls Tryd.prog 5 #[.int .u8 a, .int .u8 b, .int .u8 c] w fun e w' => e = .returned (.bool true) ∧ Below w.heap.size w w' := by
  have HA := Lib.hid (awake_c w hS hRw)
  have HN : Hid (∀ W, SpansAt W → _) := Lib.hid (fun W hW => New_yes 2 4 1 (by decide) W hW)
  have hmf : ∀ (fn : Fn) (first cap : Array Value) (w : World), (Instr.makeFunc fn first cap).run Tryd.prog w = .ok (.func fn first cap) w := fun _ _ _ _ => rfl
  have HS := Lib.hid hS
  have HRw := Lib.hid hRw
  have HZ := Lib.hid (ps_small ha hb hc)
  clear hS hRw
  go_enter Tryd.func5, Tryd.ntmps5
  go_wp2_with fail
  refine HA.out.mono ?_
  rintro e W1 ⟨rfl, hW1⟩
  have HB1 := Lib.hid hW1
  clear hW1 HA
  go_wp2_with fail
  refine (HN.out _ (HS.out.below HB1.out)).mono ?_
  rintro e W2 ⟨X, R, L, rfl, hs2, l1, l2, l3, hW2⟩
  have HV0 : Hid (VarAt w (W2.alloc (.cells #[.pointer (some ⟨X, 0, none⟩)] 27)) W2.heap.size X R L (.slice none 0 0) st0) := Lib.hid (by
    have hz := HB1.out.size
    have h0 := Stores.new (w := w) (belowOn HB1.out hW2) hs2 (by omega) (by omega) (by omega)
    have hz2 := h0.old.size
    refine ⟨h0.on (below_new _ _), by rw [World.cell?_alloc_new]; rfl, by omega, fun hf => ?_⟩
    have := hs2.lt _ hf; omega)
  clear hW2 HB1 HN hs2 l1 l2 l3
  obtain ⟨r1, HD1⟩ : ∃ r, Hid (∀ (B : Nat) (W : World) (v : Value), VarAt w W B X R L v st0 → Calls Tryd.prog 21 #[.int .i64 0, .int .i64 1, .int .i64 0, .int .i64 (a : Int), .int .i64 0, .pointer (some ⟨B, 0, none⟩)] W (VarPost w B X R L (ps1 a b c) r)) := ⟨_, Lib.hid (fun B W v h => do_c h HS.out HRw.out (by decide) 0 1 0 (a : Int) 0)⟩
  obtain ⟨r2, HD2⟩ : ∃ r, Hid (∀ (B : Nat) (W : World) (v : Value), VarAt w W B X R L v (ps1 a b c) → Calls Tryd.prog 21 #[.int .i64 0, .int .i64 1, .int .i64 1, .int .i64 (b : Int), .int .i64 0, .pointer (some ⟨B, 0, none⟩)] W (VarPost w B X R L (ps2 a b c) r)) := ⟨_, Lib.hid (fun B W v h => do_c h HS.out HRw.out (by have := HZ.out; omega) 0 1 1 (b : Int) 0)⟩
  obtain ⟨r3, HD3⟩ : ∃ r, Hid (∀ (B : Nat) (W : World) (v : Value), VarAt w W B X R L v (ps2 a b c) → Calls Tryd.prog 21 #[.int .i64 0, .int .i64 3, .int .i64 2, .int .i64 0, .int .i64 1, .pointer (some ⟨B, 0, none⟩)] W (VarPost w B X R L (ps3 a b c) r)) := ⟨_, Lib.hid (fun B W v h => do_c h HS.out HRw.out (by have := HZ.out; omega) 0 3 2 0 1)⟩
  obtain ⟨r4, HD4⟩ : ∃ r, Hid (∀ (B : Nat) (W : World) (v : Value), VarAt w W B X R L v (ps3 a b c) → Calls Tryd.prog 21 #[.int .i64 0, .int .i64 9, .int .i64 0, .int .i64 2, .int .i64 0, .pointer (some ⟨B, 0, none⟩)] W (VarPost w B X R L (ps4 a b c) r)) := ⟨_, Lib.hid (fun B W v h => do_c h HS.out HRw.out (by have := HZ.out; omega) 0 9 0 2 0)⟩
  obtain ⟨r5, HD5⟩ : ∃ r, Hid (∀ (B : Nat) (W : World) (v : Value), VarAt w W B X R L v (ps4 a b c) → Calls Tryd.prog 21 #[.int .i64 1, .int .i64 8, .int .i64 0, .int .i64 0, .int .i64 0, .pointer (some ⟨B, 0, none⟩)] W (VarPost w B X R L (ps5 a b c) r)) := ⟨_, Lib.hid (fun B W v h => do_c h HS.out HRw.out (by have := HZ.out; omega) 1 8 0 0 0)⟩
  obtain ⟨r6, HD6⟩ : ∃ r, Hid (∀ (B : Nat) (W : World) (v : Value), VarAt w W B X R L v (ps5 a b c) → Calls Tryd.prog 21 #[.int .i64 1, .int .i64 1, .int .i64 1, .int .i64 (c : Int), .int .i64 0, .pointer (some ⟨B, 0, none⟩)] W (VarPost w B X R L (ps6 a b c) r)) := ⟨_, Lib.hid (fun B W v h => do_c h HS.out HRw.out (by have := HZ.out; omega) 1 1 1 (c : Int) 0)⟩
  obtain ⟨r7, HD7⟩ : ∃ r, Hid (∀ (B : Nat) (W : World) (v : Value), VarAt w W B X R L v (ps6 a b c) → Calls Tryd.prog 21 #[.int .i64 1, .int .i64 7, .int .i64 0, .int .i64 1, .int .i64 0, .pointer (some ⟨B, 0, none⟩)] W (VarPost w B X R L (ps7 a b c) r)) := ⟨_, Lib.hid (fun B W v h => do_c h HS.out HRw.out (by have := HZ.out; omega) 1 7 0 1 0)⟩
  have HD8 : Hid (∀ (B : Nat) (W : World) (v : Value), VarAt w W B X R L v (ps7 a b c) → Calls Tryd.prog 21 #[.int .i64 0, .int .i64 4, .int .i64 3, .int .i64 2, .int .i64 0, .pointer (some ⟨B, 0, none⟩)] W (VarPost w B X R L (ps8 a b c) 1)) := Lib.hid (fun B W v h => by
    have := do_c h HS.out HRw.out (by have := HZ.out; omega) 0 4 3 2 0
    rw [pr8 ha hb hc] at this; exact this)
  have HD9 : Hid (∀ (B : Nat) (W : World) (v : Value), VarAt w W B X R L v (ps8 a b c) → Calls Tryd.prog 21 #[.int .i64 0, .int .i64 5, .int .i64 0, .int .i64 2, .int .i64 0, .pointer (some ⟨B, 0, none⟩)] W (VarPost w B X R L (ps9 a b c) 1)) := Lib.hid (fun B W v h => by
    have := do_c h HS.out HRw.out (by have := HZ.out; omega) 0 5 0 2 0
    rw [pr9 ha hb hc] at this; exact this)
  have HD10 : Hid (∀ (B : Nat) (W : World) (v : Value), VarAt w W B X R L v (ps9 a b c) → Calls Tryd.prog 21 #[.int .i64 0, .int .i64 4, .int .i64 1, .int .i64 1, .int .i64 0, .pointer (some ⟨B, 0, none⟩)] W (VarPost w B X R L (ps10 a b c) 4)) := Lib.hid (fun B W v h => by
    have := do_c h HS.out HRw.out (by have := HZ.out; omega) 0 4 1 1 0
    rw [pr10 ha hb hc] at this; exact this)
  have HD11 : Hid (∀ (B : Nat) (W : World) (v : Value), VarAt w W B X R L v (ps10 a b c) → Calls Tryd.prog 21 #[.int .i64 0, .int .i64 10, .int .i64 3, .int .i64 0, .int .i64 0, .pointer (some ⟨B, 0, none⟩)] W (VarPost w B X R L (ps11 a b c) (if a = c then 2 else 3))) := Lib.hid (fun B W v h => by
    have := do_c h HS.out HRw.out (by have := HZ.out; omega) 0 10 3 0 0
    rw [pr11 ha hb hc] at this; exact this)
  have HD12 : Hid (∀ (B : Nat) (W : World) (v : Value), VarAt w W B X R L v (ps11 a b c) → Calls Tryd.prog 21 #[.int .i64 1, .int .i64 11, .int .i64 0, .int .i64 0, .int .i64 0, .pointer (some ⟨B, 0, none⟩)] W (VarPost w B X R L (ps11 a b c) 3)) := Lib.hid (fun B W v h => by
    have := do_c h HS.out HRw.out (by have := HZ.out; omega) 1 11 0 0 0
    rw [pr12 ha hb hc, ask_same 2 4 1 _ 1 11 0 0 0 false (.inr rfl)] at this; exact this)
  have HD13 : Hid (∀ (B : Nat) (W : World) (v : Value), VarAt w W B X R L v (ps11 a b c) → Calls Tryd.prog 21 #[.int .i64 1, .int .i64 11, .int .i64 1, .int .i64 0, .int .i64 0, .pointer (some ⟨B, 0, none⟩)] W (VarPost w B X R L (ps11 a b c) 2)) := Lib.hid (fun B W v h => by
    have := do_c h HS.out HRw.out (by have := HZ.out; omega) 1 11 1 0 0
    rw [pr13 ha hb hc, ask_same 2 4 1 _ 1 11 1 0 0 false (.inr rfl)] at this; exact this)
  have HG3 : Hid (∀ (B : Nat) (W : World) (v : Value), VarAt w W B X R L v (ps11 a b c) → Calls Tryd.prog 15 #[.pointer (some ⟨X, 0, none⟩), .int .i64 0, .int .i64 3] W fun e w' => e = .returned (.int .u64 ((a : Int) * 2)) ∧ Below W.heap.size W w') := Lib.hid (fun B W v h => by
    have := Reg_c h.st.h1 0 3
    dsimp only at this
    rw [pv3 ha hb hc, show ((2 * a : Nat) : Int) = (a : Int) * 2 by omega] at this; exact this)
  have HG0 : Hid (∀ (B : Nat) (W : World) (v : Value), VarAt w W B X R L v (ps11 a b c) → Calls Tryd.prog 15 #[.pointer (some ⟨X, 0, none⟩), .int .i64 0, .int .i64 0] W fun e w' => e = .returned (.int .u64 ((c : Int) * 2)) ∧ Below W.heap.size W w') := Lib.hid (fun B W v h => by
    have := Reg_c h.st.h1 0 0
    dsimp only at this
    rw [pv0 ha hb hc, show ((2 * c : Nat) : Int) = (c : Int) * 2 by omega] at this; exact this)
  have HG1 : Hid (∀ (B : Nat) (W : World) (v : Value), VarAt w W B X R L v (ps11 a b c) → Calls Tryd.prog 15 #[.pointer (some ⟨X, 0, none⟩), .int .i64 0, .int .i64 1] W fun e w' => e = .returned (.int .u64 ((b : Int) * 2)) ∧ Below W.heap.size W w') := Lib.hid (fun B W v h => by
    have := Reg_c h.st.h1 0 1
    dsimp only at this
    rw [pv1 ha hb hc, show ((2 * b : Nat) : Int) = (b : Int) * 2 by omega] at this; exact this)
  generalize ps11 a b c = q11 at *
  generalize ps10 a b c = q10 at *
  generalize ps9 a b c = q9 at *
  generalize ps8 a b c = q8 at *
  generalize ps7 a b c = q7 at *
  generalize ps6 a b c = q6 at *
  generalize ps5 a b c = q5 at *
  generalize ps4 a b c = q4 at *
  generalize ps3 a b c = q3 at *
  generalize ps2 a b c = q2 at *
  generalize ps1 a b c = q1 at *
  clear HZ HS HRw
  go_wp2_with fail
  generalize W2.alloc (.cells #[.pointer (some ⟨X, 0, none⟩)] 27) = W3 at *
  generalize W2.heap.size = B at *
  refine (HD1.out _ _ _ HV0.out).mono ?_
  rintro e V1 ⟨rfl, v1, hV⟩
  have HV1 := Lib.hid hV
  clear hV HV0 HD1
  go_wp2_with fail
  refine (HD2.out _ _ _ HV1.out).mono ?_
  rintro e V2 ⟨rfl, v2, hV⟩
  have HV2 := Lib.hid hV
  clear hV HV1 HD2
  go_wp2_with fail
  refine (HD3.out _ _ _ HV2.out).mono ?_
  rintro e V3 ⟨rfl, v3, hV⟩
  have HV3 := Lib.hid hV
  clear hV HV2 HD3
  go_wp2_with fail
  refine (HD4.out _ _ _ HV3.out).mono ?_
  rintro e V4 ⟨rfl, v4, hV⟩
  have HV4 := Lib.hid hV
  clear hV HV3 HD4
  go_wp2_with fail
  refine (HD5.out _ _ _ HV4.out).mono ?_
  rintro e V5 ⟨rfl, v5, hV⟩
  have HV5 := Lib.hid hV
  clear hV HV4 HD5
  go_wp2_with fail
  refine (HD6.out _ _ _ HV5.out).mono ?_
  rintro e V6 ⟨rfl, v6, hV⟩
  have HV6 := Lib.hid hV
  clear hV HV5 HD6
  go_wp2_with fail
  refine (HD7.out _ _ _ HV6.out).mono ?_
  rintro e V7 ⟨rfl, v7, hV⟩
  have HV7 := Lib.hid hV
  clear hV HV6 HD7
  go_wp2_with fail
  refine (HD8.out _ _ _ HV7.out).mono ?_
  rintro e V8 ⟨rfl, v8, hV⟩
  have HV8 := Lib.hid hV
  clear hV HV7 HD8
  go_wp2_with fail
  refine (HD9.out _ _ _ HV8.out).mono ?_
  rintro e V9 ⟨rfl, v9, hV⟩
  have HV9 := Lib.hid hV
  clear hV HV8 HD9
  go_wp2_with fail
  refine (HD10.out _ _ _ HV9.out).mono ?_
  rintro e V10 ⟨rfl, v10, hV⟩
  have HV10 := Lib.hid hV
  clear hV HV9 HD10
  go_wp2_with fail
  refine (HD11.out _ _ _ HV10.out).mono ?_
  rintro e V11 ⟨rfl, v11, hV⟩
  have HV11 := Lib.hid hV
  clear hV HV10 HD11
  by_cases hac : a = c
  · subst hac
    rw [if_pos rfl]
    have hbx := HV11.out.box
    go_wp2_with fail
    refine (HG3.out _ _ _ HV11.out).mono ?_
    rintro e V12 ⟨rfl, hW⟩
    have HV12 := Lib.hid (HV11.out.on hW)
    clear hW HV11 HG3 hbx
    have hbx := HV12.out.box
    go_wp2_with fail
    refine (HG0.out _ _ _ HV12.out).mono ?_
    rintro e V13 ⟨rfl, hW⟩
    have HV13 := Lib.hid (HV12.out.on hW)
    clear hW HV12 HG0 hbx
    have hbx := HV13.out.box
    go_wp2_with fail
    refine (HG1.out _ _ _ HV13.out).mono ?_
    rintro e V14 ⟨rfl, hW⟩
    have HV14 := Lib.hid (HV13.out.on hW)
    clear hW HV13 HG1 hbx
    have hbx := HV14.out.box
    go_wp2_with fail
    refine (HD12.out _ _ _ HV14.out).mono ?_
    rintro e V15 ⟨rfl, v15, hV⟩
    have HV15 := Lib.hid hV
    clear hV HV14 HD12
    clear hbx
    go_wp2_with fail
    refine (HD13.out _ _ _ HV15.out).mono ?_
    rintro e V16 ⟨rfl, v16, hV⟩
    have HV16 := Lib.hid hV
    clear hV HV15 HD13
    go_wp2_with fail
    go_ret
    exact ⟨rfl, HV16.out.st.old⟩
  · rw [if_neg hac]
    have q : ¬ (a : Int) = (c : Int) := by omega
    have e' : ((a : Int) == (c : Int)) = false := by simpa using q
    clear q
    have hbx := HV11.out.box
    go_wp2_with fail
    refine (HG3.out _ _ _ HV11.out).mono ?_
    rintro e V12 ⟨rfl, hW⟩
    have HV12 := Lib.hid (HV11.out.on hW)
    clear hW HV11 HG3 hbx
    have hbx := HV12.out.box
    go_wp2_with fail
    refine (HG0.out _ _ _ HV12.out).mono ?_
    rintro e V13 ⟨rfl, hW⟩
    have HV13 := Lib.hid (HV12.out.on hW)
    clear hW HV12 HG0 hbx
    have hbx := HV13.out.box
    go_wp2_with fail
    refine (HG1.out _ _ _ HV13.out).mono ?_
    rintro e V14 ⟨rfl, hW⟩
    have HV14 := Lib.hid (HV13.out.on hW)
    clear hW HV13 HG1 hbx
    have hbx := HV14.out.box
    go_wp2_with fail
    refine (HD12.out _ _ _ HV14.out).mono ?_
    rintro e V15 ⟨rfl, v15, hV⟩
    have HV15 := Lib.hid hV
    clear hV HV14 HD12
    clear hbx
    go_wp2_with fail
    refine (HD13.out _ _ _ HV15.out).mono ?_
    rintro e V16 ⟨rfl, v16, hV⟩
    have HV16 := Lib.hid hV
    clear hV HV15 HD13
    go_wp2_with fail
    go_ret
    exact ⟨rfl, HV16.out.st.old⟩
end Go.Proofs.YthlpmkjhiifibaaDoor
