/- Package ideal's cellOf, wordOf, truth, take and replace. -/
import Derived.Test.YthlpmkjhiifibaaDoorIdealCopy2
namespace Go.Proofs.YthlpmkjhiifibaaDoor
open Go Go.RowKit
set_option maxRecDepth 100000
attribute [local go_sem ↓] Go.wp_at_zero Go.wp_at_succ

section
variable {w : World} {X R L : Nat} {v : Value} {b c d : Nat} {s : St}
theorem truth_c (r : Bool) (w : World) : Calls Tryd.prog 29 #[.bool r] w fun e w' => e = .returned (.int .i64 (if r then 2 else 3)) ∧ w = w' := by
  cases r
  all_goals
    go_enter Tryd.func29, Tryd.ntmps29
    go_wp2
    go_ret
    exact ⟨rfl, rfl⟩
theorem wordOf_c (n : Nat) (h : n < 9223372036854775808) (w : World) : Calls Tryd.prog 46 #[.int .i64 n] w fun e w' => e = .returned (.int .u64 ((2 * n + 1 : Nat) : Int)) ∧ w = w' := by
  go_enter Tryd.func46, Tryd.ntmps46
  go_wp2
  go_ret
  refine ⟨retInt ?_, rfl⟩
  exact or_one n h
theorem cellOf_even (X : Nat) (w : World) (x : Nat) (hx : x < 18446744073709551616) (hp : x % 2 = 0) : Calls Tryd.prog 47 #[.pointer (some ⟨X, 0, none⟩), .int .u64 x] w fun e w' => e = .returned (.pointer none) ∧ w = w' := by
  have HA := Lib.hid (isAtom_even x hx hp)
  clear hp
  go_enter Tryd.func47, Tryd.ntmps47
  go_wp2_with fail
  refine (HA.out _).mono ?_
  rintro e W ⟨rfl, rfl⟩
  clear HA
  go_wp2_with fail
  go_ret
  exact ⟨rfl, rfl⟩
theorem cellOf_odd {M cap : Nat} (h : StoreAt w X R L (.slice (some ⟨M, 0, none⟩) s.n cap) b c d s) (x : Nat) (hx : x < 18446744073709551616) (hp : x % 2 = 1) (hn : x / 2 < s.n) : Calls Tryd.prog 47 #[.pointer (some ⟨X, 0, none⟩), .int .u64 x] w fun e w' => e = .returned (.pointer (some ⟨M, x / 2 * 2, none⟩)) ∧ w = w' := by
  have HA := Lib.hid (isAtom_odd x hx hp)
  obtain ⟨_, _, _, _, _, _, c6, _⟩ := h.cells
  have hf := h.few
  clear h hp
  generalize s.n = n at *
  have hx2 : x / 2 < 9223372036854775808 := by omega
  go_enter Tryd.func47, Tryd.ntmps47
  go_wp2_with fail
  refine (HA.out _).mono ?_
  rintro e W ⟨rfl, rfl⟩
  clear HA
  go_wp2_with fail
  go_ret
  exact ⟨rfl, rfl⟩
/-- What a part of Do answers that makes no cell. -/
def ActPost (w : World) (X R L : Nat) (v : Value) (b c d : Nat) (s : St) (r : Int) (e : Ending) (w' : World) : Prop := e = .returned (.int .i64 r) ∧ StoreAt w' X R L v b c d s ∧ Sav (foot X R L v) w w'
theorem take_atom (h : StoreAt w X R L v b c d s) (m y : Nat) (k x z : Int) (hm : m < b) (hy : y < c) (he : s.g 0 m y % 2 = 0) (cc : Nat) :
    Calls Tryd.prog 27 #[.pointer (some ⟨X, 0, none⟩), .slice (some ⟨R, m * c, none⟩) c cc, .agg #[.int .i64 k, .int .i64 x, .int .i64 y, .int .i64 z]] w (ActPost w X R L v b c d s 4) := by
  have HB := Lib.hid (below_new w (.cells #[.int .i64 k, .int .i64 x, .int .i64 y, .int .i64 z] 35))
  have HH := Lib.hid (h.below HB.out)
  have HC := Lib.hid (cellOf_even X (w.alloc (.cells #[.int .i64 k, .int .i64 x, .int .i64 y, .int .i64 z] 35)) (s.g 0 m y) (h.inv.u _ _ _) he)
  have hreg := h.reg hm hy
  have hR := h.regs.lt
  have hR2 : R ≠ w.heap.size := by omega
  clear h he hm
  generalize m * c = q at *
  generalize s.g 0 m y = u at *
  go_enter Tryd.func27, Tryd.ntmps27
  go_wp2_with fail
  refine HC.out.mono ?_
  rintro e W ⟨rfl, rfl⟩
  clear HC
  go_wp2_with fail
  go_ret
  exact ⟨rfl, HH.out, .of HB.out⟩
theorem take_car {M cap : Nat} (h : StoreAt w X R L (.slice (some ⟨M, 0, none⟩) s.n cap) b c d s) (m x y : Nat) (z : Int) (hm : m < b) (hx : x < c) (hy : y < c) (he : s.g 0 m y % 2 = 1) (cc : Nat) :
    Calls Tryd.prog 27 #[.pointer (some ⟨X, 0, none⟩), .slice (some ⟨R, m * c, none⟩) c cc, .agg #[.int .i64 4, .int .i64 x, .int .i64 y, .int .i64 z]] w (ActPost w X R L (.slice (some ⟨M, 0, none⟩) s.n cap) b c d ⟨putG s.g 0 m x (s.g 2 ((s.g 0 m y / 2 : Nat) : Int) 0), s.n⟩ 1) := by
  have HB := Lib.hid (below_new w (.cells #[.int .i64 4, .int .i64 x, .int .i64 y, .int .i64 z] 35))
  have HH := Lib.hid (h.below HB.out)
  have hn : s.g 0 m y / 2 < s.n := h.inv.odd _ _ _ he
  have HC := Lib.hid (cellOf_odd HH.out (s.g 0 m y) (h.inv.u _ _ _) he hn)
  obtain ⟨M', cap', e, hcar, hcdr, _⟩ := h.cell2 hn
  cases e
  have hregx := h.reg hm hx
  have hfz := h.regs.frozen (m * c + x)
  have hreg := h.reg hm hy
  have hR := h.regs.lt
  have hR2 : R ≠ w.heap.size := by omega
  have hM := lt_of_cell hcar
  have hM2 : M ≠ w.heap.size := by omega
  have HS := Lib.hid (h.setReg (m := m) (r := x) (x := s.g 2 ((s.g 0 m y / 2 : Nat) : Int) 0) hm hx (h.inv.put (.inl ⟨rfl, by omega, by omega, by omega, by omega⟩) (h.inv.u _ _ _) (h.inv.odd _ _ _)))
  clear h he hm
  generalize m * c = q at *
  generalize s.g 2 ((s.g 0 m y / 2 : Nat) : Int) 0 = u2 at *
  generalize s.g 3 ((s.g 0 m y / 2 : Nat) : Int) 0 = u3 at *
  generalize s.g 0 m y = u at *
  generalize s.g 0 m x = ux at *
  go_enter Tryd.func27, Tryd.ntmps27
  go_wp2_with fail
  refine HC.out.mono ?_
  rintro e W ⟨rfl, rfl⟩
  clear HC
  go_wp2_with fail
  go_region
  all_goals go_wp2_with fail
  all_goals go_ret
  all_goals exact ⟨rfl, (HS.out.below (below_new _ _)).drew, (((Sav.refl (S := foot X R L (.slice (some ⟨M, 0, none⟩) s.n cap)) (w := w)).set (p := ⟨R, q + x, none⟩) (.inl (.inr (.inl rfl))) _).alloc _).drew⟩
theorem take_cdr {M cap : Nat} (h : StoreAt w X R L (.slice (some ⟨M, 0, none⟩) s.n cap) b c d s) (m x y : Nat) (z : Int) (hm : m < b) (hx : x < c) (hy : y < c) (he : s.g 0 m y % 2 = 1) (cc : Nat) :
    Calls Tryd.prog 27 #[.pointer (some ⟨X, 0, none⟩), .slice (some ⟨R, m * c, none⟩) c cc, .agg #[.int .i64 5, .int .i64 x, .int .i64 y, .int .i64 z]] w (ActPost w X R L (.slice (some ⟨M, 0, none⟩) s.n cap) b c d ⟨putG s.g 0 m x (s.g 3 ((s.g 0 m y / 2 : Nat) : Int) 0), s.n⟩ 1) := by
  have HB := Lib.hid (below_new w (.cells #[.int .i64 5, .int .i64 x, .int .i64 y, .int .i64 z] 35))
  have HH := Lib.hid (h.below HB.out)
  have hn : s.g 0 m y / 2 < s.n := h.inv.odd _ _ _ he
  have HC := Lib.hid (cellOf_odd HH.out (s.g 0 m y) (h.inv.u _ _ _) he hn)
  obtain ⟨M', cap', e, hcar, hcdr, _⟩ := h.cell2 hn
  cases e
  have hregx := h.reg hm hx
  have hfz := h.regs.frozen (m * c + x)
  have hreg := h.reg hm hy
  have hR := h.regs.lt
  have hR2 : R ≠ w.heap.size := by omega
  have hM := lt_of_cell hcar
  have hM2 : M ≠ w.heap.size := by omega
  have HS := Lib.hid (h.setReg (m := m) (r := x) (x := s.g 3 ((s.g 0 m y / 2 : Nat) : Int) 0) hm hx (h.inv.put (.inl ⟨rfl, by omega, by omega, by omega, by omega⟩) (h.inv.u _ _ _) (h.inv.odd _ _ _)))
  clear h he hm
  generalize m * c = q at *
  generalize s.g 2 ((s.g 0 m y / 2 : Nat) : Int) 0 = u2 at *
  generalize s.g 3 ((s.g 0 m y / 2 : Nat) : Int) 0 = u3 at *
  generalize s.g 0 m y = u at *
  generalize s.g 0 m x = ux at *
  go_enter Tryd.func27, Tryd.ntmps27
  go_wp2_with fail
  refine HC.out.mono ?_
  rintro e W ⟨rfl, rfl⟩
  clear HC
  go_wp2_with fail
  go_region
  all_goals go_wp2_with fail
  all_goals go_ret
  all_goals exact ⟨rfl, (HS.out.below (below_new _ _)).drew, (((Sav.refl (S := foot X R L (.slice (some ⟨M, 0, none⟩) s.n cap)) (w := w)).set (p := ⟨R, q + x, none⟩) (.inl (.inr (.inl rfl))) _).alloc _).drew⟩
theorem replace_atom (h : StoreAt w X R L v b c d s) (m x : Nat) (k y z : Int) (hm : m < b) (hx : x < c) (he : s.g 0 m x % 2 = 0) (cc : Nat) :
    Calls Tryd.prog 28 #[.pointer (some ⟨X, 0, none⟩), .slice (some ⟨R, m * c, none⟩) c cc, .agg #[.int .i64 k, .int .i64 x, .int .i64 y, .int .i64 z]] w (ActPost w X R L v b c d s 4) := by
  have HB := Lib.hid (below_new w (.cells #[.int .i64 k, .int .i64 x, .int .i64 y, .int .i64 z] 35))
  have HH := Lib.hid (h.below HB.out)
  have HC := Lib.hid (cellOf_even X (w.alloc (.cells #[.int .i64 k, .int .i64 x, .int .i64 y, .int .i64 z] 35)) (s.g 0 m x) (h.inv.u _ _ _) he)
  have hreg := h.reg hm hx
  have hR := h.regs.lt
  have hR2 : R ≠ w.heap.size := by omega
  clear h he hm
  generalize m * c = q at *
  generalize s.g 0 m x = u at *
  go_enter Tryd.func28, Tryd.ntmps28
  go_wp2_with fail
  refine HC.out.mono ?_
  rintro e W ⟨rfl, rfl⟩
  clear HC
  go_wp2_with fail
  go_ret
  exact ⟨rfl, HH.out, .of HB.out⟩
theorem replace_car {M cap : Nat} (h : StoreAt w X R L (.slice (some ⟨M, 0, none⟩) s.n cap) b c d s) (m x y : Nat) (z : Int) (hm : m < b) (hx : x < c) (hy : y < c) (he : s.g 0 m x % 2 = 1) (cc : Nat) :
    Calls Tryd.prog 28 #[.pointer (some ⟨X, 0, none⟩), .slice (some ⟨R, m * c, none⟩) c cc, .agg #[.int .i64 6, .int .i64 x, .int .i64 y, .int .i64 z]] w (ActPost w X R L (.slice (some ⟨M, 0, none⟩) s.n cap) b c d ⟨putG s.g 2 ((s.g 0 m x / 2 : Nat) : Int) 0 (s.g 0 m y), s.n⟩ 1) := by
  have HB := Lib.hid (below_new w (.cells #[.int .i64 6, .int .i64 x, .int .i64 y, .int .i64 z] 35))
  have HH := Lib.hid (h.below HB.out)
  have hn : s.g 0 m x / 2 < s.n := h.inv.odd _ _ _ he
  have HC := Lib.hid (cellOf_odd HH.out (s.g 0 m x) (h.inv.u _ _ _) he hn)
  obtain ⟨M', cap', e, hcar, hcdr, hfr⟩ := h.cell2 hn
  cases e
  have hfz := hfr (s.g 0 m x / 2 * 2)
  clear hfr
  have hregx := h.reg hm hx
  have hreg := h.reg hm hy
  have hR := h.regs.lt
  have hR2 : R ≠ w.heap.size := by omega
  have hM := lt_of_cell hcar
  have hM2 : M ≠ w.heap.size := by omega
  have HS := Lib.hid (h.setCar (i := s.g 0 m x / 2) (x := s.g 0 m y) (h.inv.put (.inr (.inr ⟨by omega, by omega, by omega, rfl⟩)) (h.inv.u _ _ _) (h.inv.odd _ _ _)))
  clear h he hm
  generalize m * c = q at *
  generalize s.g 2 ((s.g 0 m x / 2 : Nat) : Int) 0 = u2 at *
  generalize s.g 3 ((s.g 0 m x / 2 : Nat) : Int) 0 = u3 at *
  generalize s.g 0 m x = ux at *
  generalize s.g 0 m y = u at *
  go_enter Tryd.func28, Tryd.ntmps28
  go_wp2_with fail
  refine HC.out.mono ?_
  rintro e W ⟨rfl, rfl⟩
  clear HC
  go_wp2_with fail
  all_goals go_ret
  all_goals exact ⟨rfl, HS.out.below (below_new _ _), ((Sav.refl (S := foot X R L (.slice (some ⟨M, 0, none⟩) s.n cap)) (w := w)).set (p := ⟨M, ux / 2 * 2, none⟩) (.inl (.inr (.inr (.inr rfl)))) _).alloc _⟩
theorem replace_cdr {M cap : Nat} (h : StoreAt w X R L (.slice (some ⟨M, 0, none⟩) s.n cap) b c d s) (m x y : Nat) (z : Int) (hm : m < b) (hx : x < c) (hy : y < c) (he : s.g 0 m x % 2 = 1) (cc : Nat) :
    Calls Tryd.prog 28 #[.pointer (some ⟨X, 0, none⟩), .slice (some ⟨R, m * c, none⟩) c cc, .agg #[.int .i64 7, .int .i64 x, .int .i64 y, .int .i64 z]] w (ActPost w X R L (.slice (some ⟨M, 0, none⟩) s.n cap) b c d ⟨putG s.g 3 ((s.g 0 m x / 2 : Nat) : Int) 0 (s.g 0 m y), s.n⟩ 1) := by
  have HB := Lib.hid (below_new w (.cells #[.int .i64 7, .int .i64 x, .int .i64 y, .int .i64 z] 35))
  have HH := Lib.hid (h.below HB.out)
  have hn : s.g 0 m x / 2 < s.n := h.inv.odd _ _ _ he
  have HC := Lib.hid (cellOf_odd HH.out (s.g 0 m x) (h.inv.u _ _ _) he hn)
  obtain ⟨M', cap', e, hcar, hcdr, hfr⟩ := h.cell2 hn
  cases e
  have hfz := hfr (s.g 0 m x / 2 * 2 + 1)
  clear hfr
  have hregx := h.reg hm hx
  have hreg := h.reg hm hy
  have hR := h.regs.lt
  have hR2 : R ≠ w.heap.size := by omega
  have hM := lt_of_cell hcar
  have hM2 : M ≠ w.heap.size := by omega
  have HS := Lib.hid (h.setCdr (i := s.g 0 m x / 2) (x := s.g 0 m y) (h.inv.put (.inr (.inr ⟨by omega, by omega, by omega, rfl⟩)) (h.inv.u _ _ _) (h.inv.odd _ _ _)))
  clear h he hm
  generalize m * c = q at *
  generalize s.g 2 ((s.g 0 m x / 2 : Nat) : Int) 0 = u2 at *
  generalize s.g 3 ((s.g 0 m x / 2 : Nat) : Int) 0 = u3 at *
  generalize s.g 0 m x = ux at *
  generalize s.g 0 m y = u at *
  go_enter Tryd.func28, Tryd.ntmps28
  go_wp2_with fail
  refine HC.out.mono ?_
  rintro e W ⟨rfl, rfl⟩
  clear HC
  go_wp2_with fail
  all_goals go_ret
  all_goals exact ⟨rfl, HS.out.below (below_new _ _), ((Sav.refl (S := foot X R L (.slice (some ⟨M, 0, none⟩) s.n cap)) (w := w)).set (p := ⟨M, ux / 2 * 2 + 1, none⟩) (.inl (.inr (.inr (.inr rfl)))) _).alloc _⟩
end
end Go.Proofs.YthlpmkjhiifibaaDoor
