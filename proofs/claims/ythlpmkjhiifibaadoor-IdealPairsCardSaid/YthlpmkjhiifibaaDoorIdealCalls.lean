/- Package ideal's hasMut, own, at, Reg, Glob, Car, Cdr and Len, at every number, of a store and of a nil one. -/
import Derived.Test.YthlpmkjhiifibaaDoorIdealAt
namespace Go.Proofs.YthlpmkjhiifibaaDoor
open Go Go.RowKit
set_option maxRecDepth 100000
attribute [local go_sem ↓] Go.wp_at_zero Go.wp_at_succ

section
variable {w : World} {X R L : Nat} {v : Value} {b c d : Nat} {s : St}
theorem hasMut_nil (m : Int) (w : World) : Calls Tryd.prog 23 #[.pointer none, .int .i64 m] w fun e w' => e = .returned (.bool false) ∧ w = w' := by
  go_enter Tryd.func23, Tryd.ntmps23
  go_wp2
  go_ret
  exact ⟨rfl, rfl⟩
theorem hasMut_yes (h : StoreAt w X R L v b c d s) (m : Nat) (hm : m < b) : Calls Tryd.prog 23 #[.pointer (some ⟨X, 0, none⟩), .int .i64 m] w fun e w' => e = .returned (.bool true) ∧ w = w' := by
  obtain ⟨_, c1, _⟩ := h.cells
  clear h
  have hd : decide ((m : Int) < (b : Int)) = true := decide_eq_true (by omega)
  go_enter Tryd.func23, Tryd.ntmps23
  go_wp2
  go_ret
  exact ⟨rfl, rfl⟩
theorem hasMut_no (h : StoreAt w X R L v b c d s) (m : Int) (hm : ¬ (0 ≤ m ∧ m < b)) : Calls Tryd.prog 23 #[.pointer (some ⟨X, 0, none⟩), .int .i64 m] w fun e w' => e = .returned (.bool false) ∧ w = w' := by
  obtain ⟨_, c1, _⟩ := h.cells
  clear h
  by_cases h0 : 0 ≤ m
  · have h1 : ¬ m < b := by omega
    have hd : decide (m < (b : Int)) = false := decide_eq_false h1
    clear hm
    go_enter Tryd.func23, Tryd.ntmps23
    go_wp2
    go_ret
    exact ⟨rfl, rfl⟩
  · clear hm
    have hd : decide (0 ≤ m) = false := decide_eq_false h0
    go_enter Tryd.func23, Tryd.ntmps23
    go_wp2
    go_ret
    exact ⟨rfl, rfl⟩
theorem own_c (h : StoreAt w X R L v b c d s) (m : Nat) (hm : m < b) : Calls Tryd.prog 25 #[.pointer (some ⟨X, 0, none⟩), .int .i64 m] w fun e w' => e = .returned (.slice (some ⟨R, m * c, none⟩) c (b * c - m * c)) ∧ Below w.heap.size w w' := by
  obtain ⟨_, _, c2, _, c4, _⟩ := h.cells
  have hn := h.n1
  have hp := h.prod
  have hle : m * c + c ≤ b * c := by
    have := Nat.mul_le_mul_right c (show m + 1 ≤ b by omega)
    rw [Nat.add_mul] at this; omega
  clear h
  have hc1 : 1 ≤ c := hn.2.2.1
  have hw1 : IntKind.i64.wrap ((m : Int) * (c : Int)) = ((m * c : Nat) : Int) := by rw [← Int.natCast_mul]; exact IntWalk.i64_in _ (by omega)
  have HB : Hid (Below w.heap.size w w.drew) := Lib.hid (Below.refl _ _).drew
  clear hn
  generalize m * c = q at *
  generalize b * c = nn at *
  have hw2 : IntKind.i64.wrap ((q : Int) + (c : Int)) = ((q + c : Nat) : Int) := by rw [← Int.natCast_add]; exact IntWalk.i64_in _ (by omega)
  have he : q + c - q = c := by omega
  go_enter Tryd.func25, Tryd.ntmps25
  go_wp2_with fail
  go_region
  all_goals go_wp2
  all_goals go_ret
  rw [he]
  exact ⟨rfl, HB.out⟩
/-- An element of a list of words; 0, if there is none of that number. -/
theorem atW_in (B off n cap : Nat) (f : Nat → Nat) (w : World) (i : Nat) (hi : i < n) (hc : w.cell? ⟨B, off + i, none⟩ = some (.int .u64 (f i))) : Calls Tryd.prog 38 #[.slice (some ⟨B, off, none⟩) n cap, .int .i64 i] w fun e w' => e = .returned (.int .u64 (f i)) ∧ w = w' := by
  generalize f i = x at *
  have hd : decide ((n : Int) ≤ (i : Int)) = false := decide_eq_false (by omega)
  go_enter Tryd.func38, Tryd.ntmps38
  go_wp2
  go_ret
  exact ⟨rfl, rfl⟩
theorem atW_out (a : Option Addr) (n cap : Nat) (w : World) (i : Int) (hi : ¬ (0 ≤ i ∧ i < n)) : Calls Tryd.prog 38 #[.slice a n cap, .int .i64 i] w fun e w' => e = .returned (.int .u64 0) ∧ w = w' := by
  by_cases h0 : i < 0
  · clear hi
    go_enter Tryd.func38, Tryd.ntmps38
    go_wp2
    go_ret
    exact ⟨rfl, rfl⟩
  · have h1 : (n : Int) ≤ i := by omega
    have hd : decide ((n : Int) ≤ i) = true := decide_eq_true h1
    clear hi
    go_enter Tryd.func38, Tryd.ntmps38
    go_wp2
    go_ret
    exact ⟨rfl, rfl⟩
theorem atC_in (B n cap : Nat) (x y : Nat) (w : World) (i : Nat) (hi : i < n) (hx : w.cell? ⟨B, i * 2, none⟩ = some (.int .u64 x)) (hy : w.cell? ⟨B, i * 2 + 1, none⟩ = some (.int .u64 y)) : Calls Tryd.prog 39 #[.slice (some ⟨B, 0, none⟩) n cap, .int .i64 i] w fun e w' => e = .returned (.agg #[.int .u64 x, .int .u64 y]) ∧ Below w.heap.size w w' := by
  have hd : decide ((n : Int) ≤ (i : Int)) = false := decide_eq_false (by omega)
  have hlt : B < w.heap.size := lt_of_cell hx
  have hne : B ≠ w.heap.size := by omega
  have HB := Lib.hid (below_new w (.cells #[.int .u64 x, .int .u64 y] 72))
  go_enter Tryd.func39, Tryd.ntmps39
  go_wp2
  refine bodyPost_ret (v := .agg #[.int .u64 x, .int .u64 y]) (by simp [results, Tryd.f39, go_sem]) rfl ?_
  exact ⟨rfl, HB.out⟩
theorem atC_out (a : Option Addr) (n cap : Nat) (w : World) (i : Int) (hi : ¬ (0 ≤ i ∧ i < n)) : Calls Tryd.prog 39 #[.slice a n cap, .int .i64 i] w fun e w' => e = .returned (.agg #[.int .u64 0, .int .u64 0]) ∧ Below w.heap.size w w' := by
  by_cases h0 : i < 0
  · clear hi
    go_enter Tryd.func39, Tryd.ntmps39
    go_wp2
    refine bodyPost_ret (v := .agg #[.int .u64 0, .int .u64 0]) (by simp [results, Tryd.f39, go_sem]) rfl ?_
    exact ⟨rfl, below_on (below_new _ _) _⟩
  · have h1 : (n : Int) ≤ i := by omega
    have hd : decide ((n : Int) ≤ i) = true := decide_eq_true h1
    clear hi
    go_enter Tryd.func39, Tryd.ntmps39
    go_wp2
    refine bodyPost_ret (v := .agg #[.int .u64 0, .int .u64 0]) (by simp [results, Tryd.f39, go_sem]) rfl ?_
    exact ⟨rfl, below_on (below_new _ _) _⟩
theorem Reg_nil (m r : Int) (w : World) : Calls Tryd.prog 15 #[.pointer none, .int .i64 m, .int .i64 r] w fun e w' => e = .returned (.int .u64 0) ∧ w = w' := by
  go_enter Tryd.func15, Tryd.ntmps15
  go_wp2_with fail
  refine (hasMut_nil m _).mono ?_
  rintro e W ⟨rfl, rfl⟩
  go_wp2_with fail
  go_ret
  exact ⟨rfl, rfl⟩
theorem Reg_c (h : StoreAt w X R L v b c d s) (m r : Int) : Calls Tryd.prog 15 #[.pointer (some ⟨X, 0, none⟩), .int .i64 m, .int .i64 r] w fun e w' => e = .returned (.int .u64 (s.g 0 m r)) ∧ Below w.heap.size w w' := by
  by_cases hm : 0 ≤ m ∧ m < b
  · obtain ⟨k, rfl⟩ : ∃ k : Nat, m = k := ⟨m.toNat, by omega⟩
    have hk : k < b := by omega
    have HM := Lib.hid (hasMut_yes h k hk)
    have HO := Lib.hid (own_c h k hk)
    have HA : Hid (∀ W, Below w.heap.size w W → Calls Tryd.prog 38 #[.slice (some ⟨R, k * c, none⟩) c (b * c - k * c), .int .i64 r] W fun e w' => e = .returned (.int .u64 (s.g 0 k r)) ∧ W = w') := Lib.hid (fun W hW => by
      by_cases hr : 0 ≤ r ∧ r < c
      · obtain ⟨j, rfl⟩ : ∃ j : Nat, r = j := ⟨r.toNat, by omega⟩
        exact atW_in R (k * c) c _ (fun j => s.g 0 k j) W j (by omega) ((h.below hW).reg hk (by omega))
      · rw [h.inv.z 0 k r (fun hd => by unfold dom at hd; omega)]
        exact atW_out _ c _ W r hr)
    clear h hm hk
    generalize s.g 0 k r = x at *
    generalize k * c = q at *
    generalize b * c - q = cc at *
    go_enter Tryd.func15, Tryd.ntmps15
    go_wp2_with fail
    refine HM.out.mono ?_
    rintro e W ⟨rfl, rfl⟩
    clear HM
    go_wp2_with fail
    refine HO.out.mono ?_
    rintro e W ⟨rfl, hW⟩
    have HB := Lib.hid hW
    clear HO hW
    go_wp2_with fail
    refine (HA.out W HB.out).mono ?_
    rintro e W2 ⟨rfl, rfl⟩
    clear HA
    go_wp2_with fail
    go_ret
    exact ⟨rfl, HB.out⟩
  · have HM := Lib.hid (hasMut_no h m hm)
    have hz : s.g 0 m r = 0 := h.inv.z 0 m r (fun hd => by unfold dom at hd; omega)
    rw [hz]
    clear h hm hz
    go_enter Tryd.func15, Tryd.ntmps15
    go_wp2_with fail
    refine HM.out.mono ?_
    rintro e W ⟨rfl, rfl⟩
    go_wp2_with fail
    go_ret
    exact ⟨rfl, Below.refl _ _⟩
theorem Glob_nil (g : Int) (w : World) : Calls Tryd.prog 16 #[.pointer none, .int .i64 g] w fun e w' => e = .returned (.int .u64 0) ∧ w = w' := by
  go_enter Tryd.func16, Tryd.ntmps16
  go_wp2
  go_ret
  exact ⟨rfl, rfl⟩
theorem Glob_c (h : StoreAt w X R L v b c d s) (g : Int) : Calls Tryd.prog 16 #[.pointer (some ⟨X, 0, none⟩), .int .i64 g] w fun e w' => e = .returned (.int .u64 (s.g 1 g 0)) ∧ Below w.heap.size w w' := by
  obtain ⟨_, _, _, _, _, c5, _, _⟩ := h.cells
  have HA : Hid (Calls Tryd.prog 38 #[.slice (some ⟨L, 0, none⟩) d d, .int .i64 g] w fun e w' => e = .returned (.int .u64 (s.g 1 g 0)) ∧ w = w') := Lib.hid (by
    by_cases hr : 0 ≤ g ∧ g < d
    · obtain ⟨j, rfl⟩ : ∃ j : Nat, g = j := ⟨g.toNat, by omega⟩
      exact atW_in L 0 d _ (fun j => s.g 1 j 0) w j (by omega) (by rw [Nat.zero_add]; exact h.glob (by omega))
    · rw [h.inv.z 1 g 0 (fun hd => by unfold dom at hd; omega)]
      exact atW_out _ d _ w g hr)
  clear h
  generalize s.g 1 g 0 = x at *
  go_enter Tryd.func16, Tryd.ntmps16
  go_wp2_with fail
  refine HA.out.mono ?_
  rintro e W ⟨rfl, rfl⟩
  go_wp2_with fail
  go_ret
  exact ⟨rfl, Below.refl _ _⟩
theorem made_at (h : StoreAt w X R L v b c d s) (i : Int) : Calls Tryd.prog 39 #[v, .int .i64 i] w fun e w' => e = .returned (.agg #[.int .u64 (s.g 2 i 0), .int .u64 (s.g 3 i 0)]) ∧ Below w.heap.size w w' := by
  by_cases hi : 0 ≤ i ∧ i < s.n
  · obtain ⟨j, rfl⟩ : ∃ j : Nat, i = j := ⟨i.toNat, by omega⟩
    obtain ⟨M, cap, rfl, h1, h2, _⟩ := h.cell2 (i := j) (by omega)
    exact atC_in M s.n cap _ _ w j (by omega) h1 h2
  · obtain ⟨a, cap, rfl⟩ := h.made.form
    rw [h.inv.z 2 i 0 (fun hd => by unfold dom at hd; omega), h.inv.z 3 i 0 (fun hd => by unfold dom at hd; omega)]
    exact atC_out a s.n cap w i hi
theorem field_pair (x y : Int) (W : World) : (Instr.field 72 (.agg #[.int .u64 x, .int .u64 y]) 0).run Tryd.prog W = .ok (.agg #[.int .u64 x, .int .u64 y]) W := by kernel_rfl
theorem field_car (x y : Int) (W : World) : (Instr.field 70 (.agg #[.int .u64 x, .int .u64 y]) 0).run Tryd.prog W = .ok (.int .u64 x) W := by kernel_rfl
theorem field_cdr (x y : Int) (W : World) : (Instr.field 70 (.agg #[.int .u64 x, .int .u64 y]) 1).run Tryd.prog W = .ok (.int .u64 y) W := by kernel_rfl
theorem Car_nil (i : Int) (w : World) : Calls Tryd.prog 17 #[.pointer none, .int .i64 i] w fun e w' => e = .returned (.int .u64 0) ∧ w = w' := by
  go_enter Tryd.func17, Tryd.ntmps17
  go_wp2
  go_ret
  exact ⟨rfl, rfl⟩
theorem Car_c (h : StoreAt w X R L v b c d s) (i : Int) : Calls Tryd.prog 17 #[.pointer (some ⟨X, 0, none⟩), .int .i64 i] w fun e w' => e = .returned (.int .u64 (s.g 2 i 0)) ∧ Below w.heap.size w w' := by
  obtain ⟨_, _, _, _, _, _, c6, _⟩ := h.cells
  have HA := Lib.hid (made_at h i)
  clear h
  generalize s.g 2 i 0 = x at *
  generalize s.g 3 i 0 = y at *
  have hf := field_pair (x : Int) (y : Int); have hf0 := field_car (x : Int) (y : Int); have hf1 := field_cdr (x : Int) (y : Int)
  go_enter Tryd.func17, Tryd.ntmps17
  go_wp2_with fail
  refine HA.out.mono ?_
  rintro e W ⟨rfl, hW⟩
  have HB := Lib.hid hW
  clear hW HA
  go_wp2_with fail
  go_ret
  exact ⟨rfl, HB.out⟩
theorem Cdr_nil (i : Int) (w : World) : Calls Tryd.prog 18 #[.pointer none, .int .i64 i] w fun e w' => e = .returned (.int .u64 0) ∧ w = w' := by
  go_enter Tryd.func18, Tryd.ntmps18
  go_wp2
  go_ret
  exact ⟨rfl, rfl⟩
theorem Cdr_c (h : StoreAt w X R L v b c d s) (i : Int) : Calls Tryd.prog 18 #[.pointer (some ⟨X, 0, none⟩), .int .i64 i] w fun e w' => e = .returned (.int .u64 (s.g 3 i 0)) ∧ Below w.heap.size w w' := by
  obtain ⟨_, _, _, _, _, _, c6, _⟩ := h.cells
  have HA := Lib.hid (made_at h i)
  clear h
  generalize s.g 2 i 0 = x at *
  generalize s.g 3 i 0 = y at *
  have hf := field_pair (x : Int) (y : Int); have hf0 := field_car (x : Int) (y : Int); have hf1 := field_cdr (x : Int) (y : Int)
  go_enter Tryd.func18, Tryd.ntmps18
  go_wp2_with fail
  refine HA.out.mono ?_
  rintro e W ⟨rfl, hW⟩
  have HB := Lib.hid hW
  clear hW HA
  go_wp2_with fail
  go_ret
  exact ⟨rfl, HB.out⟩
theorem Len_nil (w : World) : Calls Tryd.prog 19 #[.pointer none] w fun e w' => e = .returned (.int .i64 0) ∧ w = w' := by
  go_enter Tryd.func19, Tryd.ntmps19
  go_wp2
  go_ret
  exact ⟨rfl, rfl⟩
theorem Len_c (h : StoreAt w X R L v b c d s) : Calls Tryd.prog 19 #[.pointer (some ⟨X, 0, none⟩)] w fun e w' => e = .returned (.int .i64 s.n) ∧ w = w' := by
  obtain ⟨_, _, _, _, _, _, c6, _⟩ := h.cells
  obtain ⟨a, cap, rfl⟩ := h.made.form
  clear h
  generalize s.n = n at *
  go_enter Tryd.func19, Tryd.ntmps19
  go_wp2
  go_ret
  exact ⟨rfl, rfl⟩
end
end Go.Proofs.YthlpmkjhiifibaaDoor
