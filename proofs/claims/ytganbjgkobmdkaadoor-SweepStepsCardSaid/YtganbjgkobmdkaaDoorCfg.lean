/- Package config's numbers, Check and sum: for every configuration whether it is right; for a few small numbers their sum; of what was there nothing has turned. -/
import Derived.Test.YtganbjgkobmdkaaDoorProg
import Derived.WalkKit
import Derived.WalkSmall
import Derived.IntWalk
import Derived.BigCall
import Derived.Lib.Hide
namespace Go.Proofs.YtganbjgkobmdkaaDoor
open Go Go.RowKit
set_option maxRecDepth 100000

/-- A configuration is right. -/
def Right (a b c d : Int) : Prop := 2 ≤ a ∧ a ≤ 4096 ∧ 1 ≤ b ∧ b ≤ 63 ∧ 1 ≤ c ∧ c ≤ 64 ∧ 0 ≤ d ∧ d ≤ 64
/-- The table of spans, as its text lays it. -/
def SpansAt (w : World) : Prop :=
  (w.cell? ⟨0, 0, none⟩ = some (.string ⟨#[99, 101, 108, 108, 115]⟩) ∧ w.cell? ⟨0, 1, none⟩ = some (.int .i64 2) ∧ w.cell? ⟨0, 2, none⟩ = some (.int .i64 4096)) ∧
  (w.cell? ⟨0, 3, none⟩ = some (.string ⟨#[109, 117, 116, 115]⟩) ∧ w.cell? ⟨0, 4, none⟩ = some (.int .i64 1) ∧ w.cell? ⟨0, 5, none⟩ = some (.int .i64 63)) ∧
  (w.cell? ⟨0, 6, none⟩ = some (.string ⟨#[114, 101, 103, 115]⟩) ∧ w.cell? ⟨0, 7, none⟩ = some (.int .i64 1) ∧ w.cell? ⟨0, 8, none⟩ = some (.int .i64 64)) ∧
  (w.cell? ⟨0, 9, none⟩ = some (.string ⟨#[103, 108, 111, 98, 115]⟩) ∧ w.cell? ⟨0, 10, none⟩ = some (.int .i64 0) ∧ w.cell? ⟨0, 11, none⟩ = some (.int .i64 64))
theorem lt_of_cell {w : World} {b off : Nat} {v : Value} (h : w.cell? ⟨b, off, none⟩ = some v) : b < w.heap.size := by
  rcases Nat.lt_or_ge b w.heap.size with h' | h'
  · exact h'
  · simp [World.cell?, Array.getElem?_eq_none h'] at h
theorem SpansAt.below {w w' : World} (h : SpansAt w) (hb : Below w.heap.size w w') : SpansAt w' := by
  have hl := lt_of_cell h.1.1
  have key : ∀ j v, w.cell? ⟨0, j, none⟩ = some v → w'.cell? ⟨0, j, none⟩ = some v := fun j v e => (hb.cell (p := ⟨_, j, none⟩) hl).trans e
  obtain ⟨⟨a1, a2, a3⟩, ⟨b1, b2, b3⟩, ⟨c1, c2, c3⟩, ⟨d1, d2, d3⟩⟩ := h
  exact ⟨⟨key _ _ a1, key _ _ a2, key _ _ a3⟩, ⟨key _ _ b1, key _ _ b2, key _ _ b3⟩, ⟨key _ _ c1, key _ _ c2, key _ _ c3⟩, ⟨key _ _ d1, key _ _ d2, key _ _ d3⟩⟩

/-- A block behind the heap. -/
theorem below_new (w : World) (o : Obj) : Below w.heap.size w (w.alloc o) := (Below.refl _ w).alloc (Nat.le_refl _) _
theorem below_on {w w' : World} (h : Below w.heap.size w w') (o : Obj) : Below w.heap.size w (w'.alloc o) := h.trans ((below_new w' o).mono h.size)
theorem belowOn {w w1 w2 : World} (h : Below w.heap.size w w1) (h2 : Below w1.heap.size w1 w2) : Below w.heap.size w w2 := h.trans (h2.mono h.size)
theorem numbers_c (a b c d : Int) (w : World) :
    Calls Tryd.prog 62 #[.agg #[.int .i64 a, .int .i64 b, .int .i64 c, .int .i64 d]] w fun e w' => e = .returned (.agg #[.int .i64 a, .int .i64 b, .int .i64 c, .int .i64 d]) ∧ Below w.heap.size w w' := by
  go_enter Tryd.func62, Tryd.ntmps62
  go_wp2
  refine bodyPost_ret (v := .agg #[.int .i64 a, .int .i64 b, .int .i64 c, .int .i64 d]) (by simp [results, Tryd.f62, go_sem]) rfl ?_
  exact ⟨rfl, below_on (below_new _ _) _⟩
theorem index0 (a b c d : Int) (W : World) : (Instr.index 106 (.agg #[.int .i64 a, .int .i64 b, .int .i64 c, .int .i64 d]) (.int .i64 0)).run Tryd.prog W = .ok (.int .i64 a) W := by kernel_rfl
theorem index1 (a b c d : Int) (W : World) : (Instr.index 106 (.agg #[.int .i64 a, .int .i64 b, .int .i64 c, .int .i64 d]) (.int .i64 1)).run Tryd.prog W = .ok (.int .i64 b) W := by kernel_rfl
theorem index2 (a b c d : Int) (W : World) : (Instr.index 106 (.agg #[.int .i64 a, .int .i64 b, .int .i64 c, .int .i64 d]) (.int .i64 2)).run Tryd.prog W = .ok (.int .i64 c) W := by kernel_rfl
theorem index3 (a b c d : Int) (W : World) : (Instr.index 106 (.agg #[.int .i64 a, .int .i64 b, .int .i64 c, .int .i64 d]) (.int .i64 3)).run Tryd.prog W = .ok (.int .i64 d) W := by kernel_rfl
/-- How far Check is: the numbers ahead of k are right. -/
def rightTo (a b c d : Int) (k : Nat) : Prop := (0 < k → 2 ≤ a ∧ a ≤ 4096) ∧ (1 < k → 1 ≤ b ∧ b ≤ 63) ∧ (2 < k → 1 ≤ c ∧ c ≤ 64) ∧ (3 < k → 0 ≤ d ∧ d ≤ 64)
set_option maxHeartbeats 3200000 in
theorem check_any (a b c d : Int) (w : World) (hS : SpansAt w) :
    Calls Tryd.prog 54 #[.agg #[.int .i64 a, .int .i64 b, .int .i64 c, .int .i64 d]] w fun e w' => ∃ r : Int, e = .returned (.int .i64 r) ∧ (Right a b c d ∧ r = 0 ∨ ¬ Right a b c d ∧ r = 2) ∧ Below w.heap.size w w' := by
  have HS := Lib.hid hS; clear hS
  have HW := Lib.hid (below_new w (.cells #[.int .i64 a, .int .i64 b, .int .i64 c, .int .i64 d] 23))
  go_enter Tryd.func54, Tryd.ntmps54
  go_wp2_with fail
  refine (numbers_c a b c d _).mono ?_
  rintro e W ⟨rfl, hW⟩
  have hB := belowOn HW.out hW
  have HS1 := Lib.hid (HS.out.below hB)
  have HB := Lib.hid hB
  clear hW hB HS HW
  go_wp2_with fail
  obtain ⟨⟨a1, a2, a3⟩, ⟨b1, b2, b3⟩, ⟨c1, c2, c3⟩, ⟨d1, d2, d3⟩⟩ := HS1.out
  have i0 := index0 a b c d; have i1 := index1 a b c d; have i2 := index2 a b c d; have i3 := index3 a b c d
  go_loop [7] (fun vi => ∃ k : Nat, vi = .int .i64 k ∧ k ≤ 4 ∧ Hid (rightTo a b c d k)) (fun vi => 4 - (intOf vi).toNat)
  case atStart => exact ⟨0, rfl, by omega, Lib.hid ⟨by omega, by omega, by omega, by omega⟩⟩
  case round =>
    obtain ⟨k, rfl, hk, HR⟩ := hrel
    obtain rfl | rfl | rfl | rfl | rfl : k = 0 ∨ k = 1 ∨ k = 2 ∨ k = 3 ∨ k = 4 := by omega
    · by_cases h1 : a < 2
      · have HN : Hid (¬ Right a b c d) := Lib.hid (fun h => by unfold Right at h; omega)
        clear HR HS1
        go_wp2
        go_ret
        exact ⟨2, rfl, .inr ⟨HN.out, rfl⟩, HB.out⟩
      · by_cases h2 : 4096 < a
        · have HN : Hid (¬ Right a b c d) := Lib.hid (fun h => by unfold Right at h; omega)
          clear HR HS1
          go_wp2
          go_ret
          exact ⟨2, rfl, .inr ⟨HN.out, rfl⟩, HB.out⟩
        · have HN : Hid (rightTo a b c d 1) := Lib.hid (by have := HR.out; unfold rightTo at *; omega)
          clear HR HS1
          go_wp2
          go_round
          case rel => exact ⟨1, by go_num, by omega, HN⟩
          case measure => simp [intOf]
    · by_cases h1 : b < 1
      · have HN : Hid (¬ Right a b c d) := Lib.hid (fun h => by unfold Right at h; omega)
        clear HR HS1
        go_wp2
        go_ret
        exact ⟨2, rfl, .inr ⟨HN.out, rfl⟩, HB.out⟩
      · by_cases h2 : 63 < b
        · have HN : Hid (¬ Right a b c d) := Lib.hid (fun h => by unfold Right at h; omega)
          clear HR HS1
          go_wp2
          go_ret
          exact ⟨2, rfl, .inr ⟨HN.out, rfl⟩, HB.out⟩
        · have HN : Hid (rightTo a b c d 2) := Lib.hid (by have := HR.out; unfold rightTo at *; omega)
          clear HR HS1
          go_wp2
          go_round
          case rel => exact ⟨2, by go_num, by omega, HN⟩
          case measure => simp [intOf]
    · by_cases h1 : c < 1
      · have HN : Hid (¬ Right a b c d) := Lib.hid (fun h => by unfold Right at h; omega)
        clear HR HS1
        go_wp2
        go_ret
        exact ⟨2, rfl, .inr ⟨HN.out, rfl⟩, HB.out⟩
      · by_cases h2 : 64 < c
        · have HN : Hid (¬ Right a b c d) := Lib.hid (fun h => by unfold Right at h; omega)
          clear HR HS1
          go_wp2
          go_ret
          exact ⟨2, rfl, .inr ⟨HN.out, rfl⟩, HB.out⟩
        · have HN : Hid (rightTo a b c d 3) := Lib.hid (by have := HR.out; unfold rightTo at *; omega)
          clear HR HS1
          go_wp2
          go_round
          case rel => exact ⟨3, by go_num, by omega, HN⟩
          case measure => simp [intOf]
    · by_cases h1 : d < 0
      · have HN : Hid (¬ Right a b c d) := Lib.hid (fun h => by unfold Right at h; omega)
        clear HR HS1
        go_wp2
        go_ret
        exact ⟨2, rfl, .inr ⟨HN.out, rfl⟩, HB.out⟩
      · by_cases h2 : 64 < d
        · have HN : Hid (¬ Right a b c d) := Lib.hid (fun h => by unfold Right at h; omega)
          clear HR HS1
          go_wp2
          go_ret
          exact ⟨2, rfl, .inr ⟨HN.out, rfl⟩, HB.out⟩
        · have HN : Hid (rightTo a b c d 4) := Lib.hid (by have := HR.out; unfold rightTo at *; omega)
          clear HR HS1
          go_wp2
          go_round
          case rel => exact ⟨4, by go_num, by omega, HN⟩
          case measure => simp [intOf]
    · have HN : Hid (Right a b c d) := Lib.hid (by have := HR.out; unfold rightTo at this; unfold Right; omega)
      clear HR HS1
      go_wp2
      go_ret
      exact ⟨0, rfl, .inl ⟨HN.out, rfl⟩, HB.out⟩
theorem check_right (a b c d : Int) (hr : Right a b c d) (w : World) (hS : SpansAt w) :
    Calls Tryd.prog 54 #[.agg #[.int .i64 a, .int .i64 b, .int .i64 c, .int .i64 d]] w fun e w' => e = .returned (.int .i64 0) ∧ Below w.heap.size w w' :=
  (check_any a b c d w hS).mono fun e w' ⟨r, he, hx, hb⟩ => by
    rcases hx with ⟨_, rfl⟩ | ⟨hn, _⟩
    · exact ⟨he, hb⟩
    · exact absurd hr hn
theorem check_wrong (a b c d : Int) (hr : ¬ Right a b c d) (w : World) (hS : SpansAt w) :
    Calls Tryd.prog 54 #[.agg #[.int .i64 a, .int .i64 b, .int .i64 c, .int .i64 d]] w fun e w' => e = .returned (.int .i64 2) ∧ Below w.heap.size w w' :=
  (check_any a b c d w hS).mono fun e w' ⟨r, he, hx, hb⟩ => by
    rcases hx with ⟨hn, _⟩ | ⟨_, rfl⟩
    · exact absurd hn hr
    · exact ⟨he, hb⟩
/- sum -/
def sumTo (zs : List Int) (k : Nat) : Int := (zs.take k).sum
theorem sumTo_next (zs : List Int) (k : Nat) (h : k < zs.length) : sumTo zs (k + 1) = sumTo zs k + zs.getD k 0 := by
  unfold sumTo
  rw [List.take_succ_eq_append_getElem h, List.sum_append]
  simp [List.getD, List.getElem?_eq_getElem h]
theorem sumTo_le (zs : List Int) (hz : ∀ x ∈ zs, 0 ≤ x ∧ x ≤ 100000) (k : Nat) : 0 ≤ sumTo zs k ∧ sumTo zs k ≤ 100000 * (k : Int) := by
  induction k with
  | zero => simp [sumTo]
  | succ k ih =>
    by_cases h : k < zs.length
    · rw [sumTo_next zs k h]
      have := hz (zs.getD k 0) (by simp [List.getD, List.getElem?_eq_getElem h])
      omega
    · have : sumTo zs (k + 1) = sumTo zs k := by
        unfold sumTo
        rw [List.take_of_length_le (by omega), List.take_of_length_le (by omega)]
      rw [this]; omega
theorem sum_c (zs : List Int) (hl : zs.length ≤ 4) (hz : ∀ x ∈ zs, 0 ≤ x ∧ x ≤ 100000) (b cap : Nat) (w : World) (hr : ∀ j, j < zs.length → w.cell? ⟨b, j, none⟩ = some (.int .i64 (zs.getD j 0))) :
    Calls Tryd.prog 63 #[.slice (some ⟨b, 0, none⟩) zs.length cap] w fun e w' => e = .returned (.int .i64 zs.sum) ∧ w = w' := by
  have HZ := Lib.hid hz; have HR := Lib.hid hr; clear hz hr
  go_enter Tryd.func63, Tryd.ntmps63
  go_wp2
  go_loop [3, 8] (fun vs vi => ∃ (k : Nat) (s : Int), vi = .int .i64 k ∧ k ≤ zs.length ∧ vs = .int .i64 s ∧ 0 ≤ s ∧ s ≤ 400000 ∧ Hid (s = sumTo zs k)) (fun _ vi => zs.length - (intOf vi).toNat)
  case atStart => exact ⟨0, 0, rfl, Nat.zero_le _, rfl, by omega, by omega, Lib.hid (by simp [sumTo])⟩
  case round =>
    obtain ⟨k, s, rfl, hk, rfl, h0, h1, HE⟩ := hrel
    by_cases hlt : k < zs.length
    · have hc := HR.out k hlt
      have hle := sumTo_le zs HZ.out (k + 1)
      have hx := HZ.out (zs.getD k 0) (by simp [List.getD, List.getElem?_eq_getElem hlt])
      have HN : Hid (s + zs.getD k 0 = sumTo zs (k + 1)) := Lib.hid (by rw [sumTo_next zs k hlt, ← HE.out])
      rw [← HN.out] at hle
      generalize zs.getD k 0 = x at *
      have hle1 : 0 ≤ s + x := hle.1
      have hle2 : s + x ≤ 400000 := by omega
      clear hle HE
      go_wp2
      go_round
      case rel => exact ⟨k + 1, s + x, by go_num, by omega, by go_num, by omega, by omega, HN⟩
      case measure => simp [intOf]; omega
    · obtain rfl : k = zs.length := by omega
      have HN : Hid (s = zs.sum) := Lib.hid (by rw [HE.out]; simp [sumTo])
      clear HE
      go_wp2
      go_ret
      refine ⟨?_, rfl⟩
      rw [← HN.out]; rfl
end Go.Proofs.YtganbjgkobmdkaaDoor
