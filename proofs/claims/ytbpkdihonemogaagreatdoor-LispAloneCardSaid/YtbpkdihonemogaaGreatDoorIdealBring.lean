/- Package ideal's bring: set, move, get and put. -/
import Derived.Test.YtbpkdihonemogaaGreatDoorM12
import Derived.Deep.RegionWith
namespace Go.Proofs.YtbpkdihonemogaaGreatDoor.Il
open Go Go.RowKit
set_option maxRecDepth 100000
attribute [local go_sem ↓] Go.wp_at_zero Go.wp_at_succ

section
variable {w : World} {X R L : Nat} {v : Value} {b c d : Nat} {s : St}
theorem bring_set (h : StoreAt w X R L v b c d s) (m x y : Nat) (z : Int) (hm : m < b) (hx : x < c) (hy : y < 9223372036854775808) (cc : Nat) :
    Calls Tryz.prog 50 #[.pointer (some ⟨X, 0, none⟩), .slice (some ⟨R, m * c, none⟩) c cc, .agg #[.int .i64 1, .int .i64 x, .int .i64 y, .int .i64 z]] w (ActPost w X R L v b c d ⟨putG s.g 0 m x (2 * y), s.n⟩ 1) := by
  have HA := Lib.hid (atom_pos y hy)
  have hregx := h.reg hm hx
  have hfz := h.regs.frozen (m * c + x)
  have hR := h.regs.lt
  have hR2 : R ≠ w.heap.size := by omega
  have HS := Lib.hid (h.setReg (m := m) (r := x) (x := 2 * y) hm hx (h.inv.put (.inl ⟨rfl, by omega, by omega, by omega, by omega⟩) (by omega) (by omega)))
  clear h hm
  generalize m * c = q at *
  generalize 2 * y = u at *
  generalize s.g 0 m x = ux at *
  go_enter Tryz.func50, Tryz.ntmps50
  go_wp2_with fail
  go_region_with (go_at_call 80; refine (HA.out _).mono ?_; rintro e w' ⟨rfl, rfl⟩)
  all_goals go_wp2_with fail
  all_goals go_ret
  all_goals exact ⟨rfl, (HS.out.below (below_new _ _)).drew, (((Sav.refl (S := foot X R L v) (w := w)).set (p := ⟨R, q + x, none⟩) (.inl (.inr (.inl rfl))) _).alloc _).drew⟩
theorem bring_move (h : StoreAt w X R L v b c d s) (m x y : Nat) (z : Int) (hm : m < b) (hx : x < c) (hy : y < c) (cc : Nat) :
    Calls Tryz.prog 50 #[.pointer (some ⟨X, 0, none⟩), .slice (some ⟨R, m * c, none⟩) c cc, .agg #[.int .i64 2, .int .i64 x, .int .i64 y, .int .i64 z]] w (ActPost w X R L v b c d ⟨putG s.g 0 m x (s.g 0 m y), s.n⟩ 1) := by
  have hregx := h.reg hm hx
  have hregy := h.reg hm hy
  have hfz := h.regs.frozen (m * c + x)
  have hR := h.regs.lt
  have hR2 : R ≠ w.heap.size := by omega
  have HS := Lib.hid (h.setReg (m := m) (r := x) (x := s.g 0 m y) hm hx (h.inv.put (.inl ⟨rfl, by omega, by omega, by omega, by omega⟩) (h.inv.u _ _ _) (h.inv.odd _ _ _)))
  clear h hm
  generalize m * c = q at *
  generalize s.g 0 m x = ux at *
  generalize s.g 0 m y = u at *
  go_enter Tryz.func50, Tryz.ntmps50
  go_wp2_with fail
  go_region
  all_goals go_wp2_with fail
  all_goals go_ret
  all_goals exact ⟨rfl, (HS.out.below (below_new _ _)).drew, (((Sav.refl (S := foot X R L v) (w := w)).set (p := ⟨R, q + x, none⟩) (.inl (.inr (.inl rfl))) _).alloc _).drew⟩
theorem bring_get (h : StoreAt w X R L v b c d s) (m x y : Nat) (z : Int) (hm : m < b) (hx : x < c) (hy : y < d) (cc : Nat) :
    Calls Tryz.prog 50 #[.pointer (some ⟨X, 0, none⟩), .slice (some ⟨R, m * c, none⟩) c cc, .agg #[.int .i64 8, .int .i64 x, .int .i64 y, .int .i64 z]] w (ActPost w X R L v b c d ⟨putG s.g 0 m x (s.g 1 y 0), s.n⟩ 1) := by
  have hregx := h.reg hm hx
  have hg := h.glob hy
  obtain ⟨_, _, _, _, _, c5, _, _⟩ := h.cells
  have hfz := h.regs.frozen (m * c + x)
  have hR := h.regs.lt
  have hR2 : R ≠ w.heap.size := by omega
  have hL := h.globs.lt
  have hL2 : L ≠ w.heap.size := by omega
  have hX := lt_of_cell c5
  have hX2 : X ≠ w.heap.size := by omega
  have HS := Lib.hid (h.setReg (m := m) (r := x) (x := s.g 1 y 0) hm hx (h.inv.put (.inl ⟨rfl, by omega, by omega, by omega, by omega⟩) (h.inv.u _ _ _) (h.inv.odd _ _ _)))
  clear h hm
  generalize m * c = q at *
  generalize s.g 0 m x = ux at *
  generalize s.g 1 y 0 = u at *
  go_enter Tryz.func50, Tryz.ntmps50
  go_wp2_with fail
  go_region
  all_goals go_wp2_with fail
  all_goals go_ret
  all_goals exact ⟨rfl, (HS.out.below (below_new _ _)).drew, (((Sav.refl (S := foot X R L v) (w := w)).set (p := ⟨R, q + x, none⟩) (.inl (.inr (.inl rfl))) _).alloc _).drew⟩
theorem bring_put (h : StoreAt w X R L v b c d s) (m x y : Nat) (z : Int) (hm : m < b) (hx : x < d) (hy : y < c) (cc : Nat) :
    Calls Tryz.prog 50 #[.pointer (some ⟨X, 0, none⟩), .slice (some ⟨R, m * c, none⟩) c cc, .agg #[.int .i64 9, .int .i64 x, .int .i64 y, .int .i64 z]] w (ActPost w X R L v b c d ⟨putG s.g 1 x 0 (s.g 0 m y), s.n⟩ 1) := by
  have hregy := h.reg hm hy
  have hg := h.glob hx
  obtain ⟨_, _, _, _, _, c5, _, _⟩ := h.cells
  have hfz := h.globs.frozen x
  have hR := h.regs.lt
  have hR2 : R ≠ w.heap.size := by omega
  have hL := h.globs.lt
  have hL2 : L ≠ w.heap.size := by omega
  have hX := lt_of_cell c5
  have hX2 : X ≠ w.heap.size := by omega
  have HS := Lib.hid (h.setGlob (r := x) (x := s.g 0 m y) (h.inv.put (.inr (.inl ⟨rfl, by omega, by omega, rfl⟩)) (h.inv.u _ _ _) (h.inv.odd _ _ _)))
  clear h hm
  generalize m * c = q at *
  generalize s.g 1 x 0 = ux at *
  generalize s.g 0 m y = u at *
  go_enter Tryz.func50, Tryz.ntmps50
  go_wp2_with fail
  go_region
  all_goals go_wp2_with fail
  all_goals go_ret
  all_goals exact ⟨rfl, (HS.out.below (below_new _ _)).drew, (((Sav.refl (S := foot X R L v) (w := w)).set (p := ⟨L, x, none⟩) (.inl (.inr (.inr (.inl rfl)))) _).alloc _).drew⟩
end
end Go.Proofs.YtbpkdihonemogaaGreatDoor.Il
