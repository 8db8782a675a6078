/- The document's places, and its Cell, of layer 18. -/
import Derived.Test.YthdcapkchjamoaaGreatDoorColF
import Derived.Test.YthdcapkchjamoaaGreatDoorPlaceRef
namespace Go.Proofs.YthdcapkchjamoaaGreatDoor
open Go Go.RowKit
set_option maxRecDepth 100000
attribute [local go_sem ↓] Go.wp_at_zero Go.wp_at_succ

theorem srat_0 {w : World} {X : Nat} {va : Option Addr} {cap N : Nat} {C : Cf} {s : Dy} (hH : RAt w X va cap N C s) (hr : Right C.a C.b C.c C.d) (i : Int) :
    Calls Tryz.prog 57 #[.pointer (some ⟨X, 0, none⟩), .int .i64 4, .int .i64 i] w fun e w' => e = .returned (.int .i64 (partP C.a C.b C.c C.d 0 i)) ∧ Below w.heap.size w w' := by
  have HA : Hid (∀ W, Calls Tryz.prog 86 #[(.agg #[.int .i64 C.a, .int .i64 C.b, .int .i64 C.c, .int .i64 C.d]), .agg #[.int .i64 4, .int .i64 i, .int .i64 0]] W fun e w' => e = .returned (.int .i64 (partP C.a C.b C.c C.d 0 i)) ∧ Below W.heap.size W w') := Lib.hid (fun W => refAt_car C.a C.b C.c C.d i hr W)
  obtain ⟨_, ⟨h1, h2, h3, h4⟩, _⟩ := hH.cells
  clear hH hr
  go_enter Tryz.func57, Tryz.ntmps57
  go_wp2_with fail
  refine (HA.out _).mono ?_
  rintro e W1 ⟨rfl, hb⟩
  clear HA h1 h2 h3 h4
  go_wp2_with fail
  go_ret
  exact ⟨rfl, hb⟩
theorem srat_1 {w : World} {X : Nat} {va : Option Addr} {cap N : Nat} {C : Cf} {s : Dy} (hH : RAt w X va cap N C s) (hr : Right C.a C.b C.c C.d) (i : Int) :
    Calls Tryz.prog 57 #[.pointer (some ⟨X, 0, none⟩), .int .i64 5, .int .i64 i] w fun e w' => e = .returned (.int .i64 (partP C.a C.b C.c C.d 1 i)) ∧ Below w.heap.size w w' := by
  have HA : Hid (∀ W, Calls Tryz.prog 86 #[(.agg #[.int .i64 C.a, .int .i64 C.b, .int .i64 C.c, .int .i64 C.d]), .agg #[.int .i64 5, .int .i64 i, .int .i64 0]] W fun e w' => e = .returned (.int .i64 (partP C.a C.b C.c C.d 1 i)) ∧ Below W.heap.size W w') := Lib.hid (fun W => refAt_cdr C.a C.b C.c C.d i hr W)
  obtain ⟨_, ⟨h1, h2, h3, h4⟩, _⟩ := hH.cells
  clear hH hr
  go_enter Tryz.func57, Tryz.ntmps57
  go_wp2_with fail
  refine (HA.out _).mono ?_
  rintro e W1 ⟨rfl, hb⟩
  clear HA h1 h2 h3 h4
  go_wp2_with fail
  go_ret
  exact ⟨rfl, hb⟩
theorem srat_2 {w : World} {X : Nat} {va : Option Addr} {cap N : Nat} {C : Cf} {s : Dy} (hH : RAt w X va cap N C s) (hr : Right C.a C.b C.c C.d) (i : Int) :
    Calls Tryz.prog 57 #[.pointer (some ⟨X, 0, none⟩), .int .i64 6, .int .i64 i] w fun e w' => e = .returned (.int .i64 (partP C.a C.b C.c C.d 2 i)) ∧ Below w.heap.size w w' := by
  have HA : Hid (∀ W, Calls Tryz.prog 86 #[(.agg #[.int .i64 C.a, .int .i64 C.b, .int .i64 C.c, .int .i64 C.d]), .agg #[.int .i64 6, .int .i64 i, .int .i64 0]] W fun e w' => e = .returned (.int .i64 (partP C.a C.b C.c C.d 2 i)) ∧ Below W.heap.size W w') := Lib.hid (fun W => refAt_colour C.a C.b C.c C.d i hr W)
  obtain ⟨_, ⟨h1, h2, h3, h4⟩, _⟩ := hH.cells
  clear hH hr
  go_enter Tryz.func57, Tryz.ntmps57
  go_wp2_with fail
  refine (HA.out _).mono ?_
  rintro e W1 ⟨rfl, hb⟩
  clear HA h1 h2 h3 h4
  go_wp2_with fail
  go_ret
  exact ⟨rfl, hb⟩
theorem rCellW_c (k : Int) (w : World) : Calls Tryz.prog 58 #[.int .i64 k] w fun e w' => e = .returned (.int .u64 (cellW k)) ∧ w = w' := by
  unfold cellW
  by_cases h : 0 ≤ k ∧ k < 4096
  · rw [if_pos h]
    obtain ⟨h1, h2⟩ := h
    have d1 : ¬ k < 0 := by omega
    have d2 : ¬ 4095 < k := by omega
    have hv : IntKind.u64.wrap k = k := IntWalk.u64_in _ (by omega)
    have hw : IntKind.u64.wrap (k * 2) = 2 * k := by rw [IntWalk.u64_in (k * 2) (by omega)]; omega
    have hx : IntKind.u64.wrap (2 * k + 1) = 2 * k + 1 := IntWalk.u64_in _ (by omega)
    clear h1 h2
    go_enter Tryz.func58, Tryz.ntmps58
    go_wp2_with fail
    go_ret
    exact ⟨rfl, rfl⟩
  · rw [if_neg h]
    by_cases h0 : k < 0
    · clear h
      go_enter Tryz.func58, Tryz.ntmps58
      go_wp2_with fail
      go_ret
      exact ⟨rfl, rfl⟩
    · have d1 : decide (k < 0) = false := decide_eq_false h0
      have d2 : 4095 < k := by omega
      clear h h0
      go_enter Tryz.func58, Tryz.ntmps58
      go_wp2_with fail
      go_ret
      exact ⟨rfl, rfl⟩
end Go.Proofs.YthdcapkchjamoaaGreatDoor
