/- The document's Check of an operation, for every operation. -/
import Derived.Test.YthlpmkjhiifibaaDoorOpCheck
namespace Go.Proofs.YthlpmkjhiifibaaDoor
open Go Go.RowKit
set_option maxRecDepth 100000
attribute [local go_sem ↓] Go.wp_at_zero Go.wp_at_succ

/-- A number that an int can be. -/
def inI (x : Int) : Prop := -9223372036854775808 ≤ x ∧ x ≤ 9223372036854775807
/-- The document's test of the i-th number. -/
def okI (c d x y z : Int) (m i : Nat) : Prop := (codeF m i ≠ 0 → 0 ≤ numF x y z i) ∧ (codeF m i = 1 → numF x y z i < c) ∧ (codeF m i = 2 → numF x y z i < d)
theorem codeF_cases (m i : Nat) : codeF m i = 0 ∨ codeF m i = 1 ∨ codeF m i = 2 ∨ codeF m i = 3 := by
  unfold codeF
  split <;> simp
set_option maxHeartbeats 1600000 in
theorem ok_same {m : Nat} (h1 : 1 ≤ m) (h2 : m ≤ 11) (c d x y z : Int) (hx : inI x) (hy : inI y) (hz : inI z) : (∀ i, i < 3 → okI c d x y z m i) ↔ ∀ p ∈ nums m x y z, okP c d p := by
  have key : (∀ i, i < 3 → okI c d x y z m i) ↔ okI c d x y z m 0 ∧ okI c d x y z m 1 ∧ okI c d x y z m 2 :=
    ⟨fun h => ⟨h 0 (by omega), h 1 (by omega), h 2 (by omega)⟩, fun h i hi => by
      obtain rfl | rfl | rfl : i = 0 ∨ i = 1 ∨ i = 2 := by omega
      · exact h.1
      · exact h.2.1
      · exact h.2.2⟩
  rw [key]
  unfold inI at hx hy hz
  obtain rfl | rfl | rfl | rfl | rfl | rfl | rfl | rfl | rfl | rfl | rfl := kind_cases h1 h2
  all_goals
    simp [okI, okP, nums, numsH, hsL, codeF, numF, lastF, List.range, List.range.loop]
    omega
/-- A configuration and an operation in two blocks of the call's own. -/
structure TwoAt (w W : World) (a b c d k x y z : Int) : Prop where
  cfg : Arr4 W w.heap.size 25 a b c d
  op : Arr4 W (w.heap.size + 1) 35 k x y z
  old : Below w.heap.size w W
theorem TwoAt.on {w W W' : World} {a b c d k x y z : Int} (h : TwoAt w W a b c d k x y z) (hb : Below W.heap.size W W') : TwoAt w W' a b c d k x y z := ⟨h.cfg.below hb, h.op.below hb, belowOn h.old hb⟩
theorem TwoAt.new (w : World) (a b c d k x y z : Int) : TwoAt w ((w.alloc (.cells #[.int .i64 a, .int .i64 b, .int .i64 c, .int .i64 d] 25)).alloc (.cells #[.int .i64 k, .int .i64 x, .int .i64 y, .int .i64 z] 35)) a b c d k x y z := by
  refine ⟨(Arr4.new w _ a b c d).below (below_new _ _), ?_, below_on (below_new w _) _⟩
  have := Arr4.new (w.alloc (.cells #[.int .i64 a, .int .i64 b, .int .i64 c, .int .i64 d] 25)) 35 k x y z
  rw [show (w.alloc (.cells #[.int .i64 a, .int .i64 b, .int .i64 c, .int .i64 d] 25)).heap.size = w.heap.size + 1 by simp] at this
  exact this
theorem refCheck_notRight (a b c d k x y z : Int) (hr : ¬ Right a b c d) (w : World) :
    Calls Tryd.prog 32 #[.agg #[.int .i64 a, .int .i64 b, .int .i64 c, .int .i64 d], .agg #[.int .i64 k, .int .i64 x, .int .i64 y, .int .i64 z]] w fun e w' => e = .returned (.int .i64 1) ∧ Below w.heap.size w w' := by
  have H0 := Lib.hid (TwoAt.new w a b c d k x y z)
  have HC := Lib.hid (refRight_wrong a b c d hr)
  clear hr
  go_enter Tryd.func32, Tryd.ntmps32
  go_wp2_with fail
  refine (HC.out _).mono ?_
  rintro e W ⟨rfl, hW⟩
  have H1 := Lib.hid (H0.out.on hW)
  clear H0 HC hW
  go_wp2_with fail
  go_ret
  exact ⟨rfl, H1.out.old⟩
theorem refCheck_notKind (a b c d k x y z : Int) (hr : Right a b c d) (hk : ¬ okK k) (w : World) :
    Calls Tryd.prog 32 #[.agg #[.int .i64 a, .int .i64 b, .int .i64 c, .int .i64 d], .agg #[.int .i64 k, .int .i64 x, .int .i64 y, .int .i64 z]] w fun e w' => e = .returned (.int .i64 4) ∧ Below w.heap.size w w' := by
  have H0 := Lib.hid (TwoAt.new w a b c d k x y z)
  have HC := Lib.hid (refRight_right a b c d hr)
  have HK := Lib.hid (refName_no k hk)
  clear hr hk
  go_enter Tryd.func32, Tryd.ntmps32
  go_wp2_with fail
  refine (HC.out _).mono ?_
  rintro e W ⟨rfl, hW⟩
  have H1 := Lib.hid (H0.out.on hW)
  obtain ⟨o0, _, _, _, _⟩ := H1.out.op.cells
  clear H0 HC hW
  go_wp2_with fail
  refine (HK.out _).mono ?_
  rintro e W2 ⟨rfl, rfl⟩
  clear HK
  go_wp2_with fail
  go_ret
  exact ⟨rfl, H1.out.old⟩
theorem nmL_ne {m : Nat} (h1 : 1 ≤ m) (h2 : m ≤ 11) : nmL m ≠ [] := by
  obtain rfl | rfl | rfl | rfl | rfl | rfl | rfl | rfl | rfl | rfl | rfl := kind_cases h1 h2
  all_goals decide
set_option maxHeartbeats 6400000 in
theorem refCheck_kind (a b c d : Int) (m : Nat) (h1 : 1 ≤ m) (h2 : m ≤ 11) (x y z : Int) (hx : inI x) (hy : inI y) (hz : inI z) (hr : Right a b c d) (w : World) :
    Calls Tryd.prog 32 #[.agg #[.int .i64 a, .int .i64 b, .int .i64 c, .int .i64 d], .agg #[.int .i64 (m : Int), .int .i64 x, .int .i64 y, .int .i64 z]] w fun e w' => e = .returned (.int .i64 (if ∀ p ∈ nums m x y z, okP c d p then 0 else 2)) ∧ Below w.heap.size w w' := by
  have HV0 : Hid ((∀ i, i < 3 → okI c d x y z m i) → (if ∀ p ∈ nums m x y z, okP c d p then 0 else 2 : Int) = 0) := Lib.hid (fun h => if_pos ((ok_same h1 h2 c d x y z hx hy hz).1 h))
  have HV2 : Hid ((¬ ∀ i, i < 3 → okI c d x y z m i) → (if ∀ p ∈ nums m x y z, okP c d p then 0 else 2 : Int) = 2) := Lib.hid (fun h => if_neg (fun h' => h ((ok_same h1 h2 c d x y z hx hy hz).2 h')))
  generalize (if ∀ p ∈ nums m x y z, okP c d p then 0 else 2 : Int) = V at *
  have H0 := Lib.hid (TwoAt.new w a b c d m x y z)
  have HC := Lib.hid (refRight_right a b c d hr)
  have HK := Lib.hid (refName_yes m h1 h2)
  have HP := Lib.hid (refPart_yes m h1 h2)
  have hnm : (nmL m == []) = false := by have := nmL_ne h1 h2; simpa using this
  have HM := Lib.hid (refNumber_c (m : Int) x y z)
  clear hr h1 h2 hx hy hz
  generalize nmL m = nm at *
  go_enter Tryd.func32, Tryd.ntmps32
  go_wp2_with fail
  refine (HC.out _).mono ?_
  rintro e W ⟨rfl, hW⟩
  have H1 := Lib.hid (H0.out.on hW)
  obtain ⟨o0, _, _, _, _⟩ := H1.out.op.cells
  clear H0 HC hW
  go_wp2_with fail
  refine (HK.out _).mono ?_
  rintro e W2 ⟨rfl, rfl⟩
  clear HK o0
  go_wp2_with fail
  go_loopw [5] (fun vi wr => ∃ k : Nat, vi = .int .i64 k ∧ k ≤ 3 ∧ Hid (∀ i, i < k → okI c d x y z m i) ∧ Hid (TwoAt w wr a b c d m x y z)) (fun vi _ => 3 - (intOf vi).toNat)
  case atStart => exact ⟨0, rfl, by omega, Lib.hid (fun i hi => by omega), H1⟩
  case round =>
    clear H1
    obtain ⟨k, rfl, hk, HI, HT⟩ := hrel
    by_cases hlt : k < 3
    · obtain ⟨o0, o1, o2, o3, _⟩ := HT.out.op.cells
      go_wp2_with fail
      refine (HM.out k hlt _).mono ?_
      rintro e W1 ⟨rfl, hW1⟩
      have HT1 := Lib.hid (HT.out.on hW1)
      clear o0 o1 o2 o3 HT hW1
      obtain ⟨o0, _, _, _, _⟩ := HT1.out.op.cells
      go_wp2_with fail
      refine (HP.out k hlt _).mono ?_
      rintro e W2 ⟨rfl, rfl⟩
      obtain ⟨c0, c1, c2, c3, _⟩ := HT1.out.cfg.cells
      have HY : Hid (okI c d x y z m k → ∀ i, i < k + 1 → okI c d x y z m i) := Lib.hid (fun h i hi => by
        by_cases e : i < k
        · exact HI.out i e
        · obtain rfl : i = k := by omega
          exact h)
      have HN : Hid ((¬ okI c d x y z m k) → V = 2) := Lib.hid (fun h => HV2.out (fun h' => h (h' k hlt)))
      have hcc := codeF_cases m k
      unfold okI at HY HN
      clear o0 HI
      generalize codeF m k = cf at *
      generalize numF x y z k = n at *
      obtain rfl | rfl | rfl | rfl := hcc
      · have HY1 := Lib.hid (HY.out ⟨by simp, by simp, by simp⟩)
        clear HY HN
        go_wp2
        go_roundw
        case rel => exact ⟨k + 1, by go_num, by omega, HY1, HT1⟩
        case measure => simp [intOf]; omega
      · by_cases hn : n < 0
        · have HN1 := Lib.hid (HN.out (fun h => by have := h.1 (by simp); omega))
          clear HY HN
          go_wp2
          go_ret
          rw [HN1.out]
          exact ⟨rfl, HT1.out.old⟩
        · by_cases hc' : n < c
          · have HY1 := Lib.hid (HY.out ⟨fun _ => by omega, fun _ => hc', by simp⟩)
            have hq : decide (c ≤ n) = false := decide_eq_false (by omega)
            clear HY HN
            go_wp2
            go_roundw
            case rel => exact ⟨k + 1, by go_num, by omega, HY1, HT1⟩
            case measure => simp [intOf]; omega
          · have HN1 := Lib.hid (HN.out (fun h => by have := h.2.1 rfl; omega))
            have hq : decide (c ≤ n) = true := decide_eq_true (by omega)
            clear HY HN
            go_wp2
            go_ret
            rw [HN1.out]
            exact ⟨rfl, HT1.out.old⟩
      · by_cases hn : n < 0
        · have HN1 := Lib.hid (HN.out (fun h => by have := h.1 (by simp); omega))
          clear HY HN
          go_wp2
          go_ret
          rw [HN1.out]
          exact ⟨rfl, HT1.out.old⟩
        · by_cases hc' : n < d
          · have HY1 := Lib.hid (HY.out ⟨fun _ => by omega, by simp, fun _ => hc'⟩)
            have hq : decide (d ≤ n) = false := decide_eq_false (by omega)
            clear HY HN
            go_wp2
            go_roundw
            case rel => exact ⟨k + 1, by go_num, by omega, HY1, HT1⟩
            case measure => simp [intOf]; omega
          · have HN1 := Lib.hid (HN.out (fun h => by have := h.2.2 rfl; omega))
            have hq : decide (d ≤ n) = true := decide_eq_true (by omega)
            clear HY HN
            go_wp2
            go_ret
            rw [HN1.out]
            exact ⟨rfl, HT1.out.old⟩
      · by_cases hn : n < 0
        · have HN1 := Lib.hid (HN.out (fun h => by have := h.1 (by simp); omega))
          clear HY HN
          go_wp2
          go_ret
          rw [HN1.out]
          exact ⟨rfl, HT1.out.old⟩
        · have HY1 := Lib.hid (HY.out ⟨fun _ => by omega, by simp, by simp⟩)
          clear HY HN
          go_wp2
          go_roundw
          case rel => exact ⟨k + 1, by go_num, by omega, HY1, HT1⟩
          case measure => simp [intOf]; omega
    · obtain rfl : k = 3 := by omega
      have HV := Lib.hid (HV0.out HI.out)
      clear HI HV0 HV2
      go_wp2
      go_ret
      rw [HV.out]
      exact ⟨rfl, HT.out.old⟩
theorem refCheck_c (a b c d k x y z : Int) (hx : inI x) (hy : inI y) (hz : inI z) (w : World) :
    Calls Tryd.prog 32 #[.agg #[.int .i64 a, .int .i64 b, .int .i64 c, .int .i64 d], .agg #[.int .i64 k, .int .i64 x, .int .i64 y, .int .i64 z]] w fun e w' => e = .returned (.int .i64 (checkF a b c d k x y z)) ∧ Below w.heap.size w w' := by
  unfold checkF
  by_cases hr : Right a b c d
  · rw [if_pos hr]
    by_cases hk : okK k
    · rw [if_pos hk]
      obtain ⟨m, rfl, h1, h2⟩ := hk.nat
      exact refCheck_kind a b c d m h1 h2 x y z hx hy hz hr w
    · rw [if_neg hk]
      exact refCheck_notKind a b c d k x y z hr hk w
  · rw [if_neg hr]
    exact refCheck_notRight a b c d k x y z hr w
end Go.Proofs.YthlpmkjhiifibaaDoor
