/- What OpChecks needs beside Check: names and results of every kind and number; the law's own memory. -/
import Derived.Test.YtaiioflhkmflgaaDoorOpTexts
namespace Go.Proofs.YtaiioflhkmflgaaDoor
open Go Go.RowKit
set_option maxRecDepth 100000

theorem name_any (k : Int) (w : World) (hR : RowsAt w) : Calls Tryd.prog 12 #[.int .i64 k] w fun e w' => e = .returned (.string ⟨(nmL k.toNat).toArray⟩) ∧ w = w' := by
  by_cases hk : okK k
  · obtain ⟨m, rfl, h1, h2⟩ := hk.nat
    exact name_yes m h1 h2 w hR
  · rw [nmL_out (no_nat hk)]
    exact name_no k hk w
theorem refName_any (k : Int) (w : World) : Calls Tryd.prog 13 #[.int .i64 k] w fun e w' => e = .returned (.string ⟨(nmL k.toNat).toArray⟩) ∧ w = w' := by
  by_cases hk : okK k
  · obtain ⟨m, rfl, h1, h2⟩ := hk.nat
    exact refName_yes m h1 h2 w
  · rw [nmL_out (no_nat hk)]
    exact refName_no k hk w
theorem rtL_out {m : Nat} (h : m = 0 ∨ 7 ≤ m) : rtL m = [] := by
  unfold rtL
  split <;> first | rfl | omega
theorem ret_any (k : Int) (w : World) (hR : ResAt w) : Calls Tryd.prog 14 #[.int .i64 k] w fun e w' => e = .returned (.string ⟨(rtL k.toNat).toArray⟩) ∧ w = w' := by
  by_cases hk : 0 ≤ k ∧ k < 7
  · obtain ⟨m, rfl⟩ : ∃ m : Nat, k = m := ⟨k.toNat, by omega⟩
    exact ret_yes m (by omega) w hR
  · rw [rtL_out (by omega)]
    exact ret_no k (by omega) w
theorem refRet_any (k : Int) (w : World) : Calls Tryd.prog 15 #[.int .i64 k] w fun e w' => e = .returned (.string ⟨(rtL k.toNat).toArray⟩) ∧ w = w' := by
  by_cases hk : 0 ≤ k ∧ k < 7
  · obtain ⟨m, rfl⟩ : ∃ m : Nat, k = m := ⟨k.toNat, by omega⟩
    exact refRet_yes m (by omega) w
  · rw [rtL_out (by omega)]
    exact refRet_no k (by omega) w
/-- A cell of one value in a block, which may be written. -/
def One (W : World) (B : Nat) (v : Value) : Prop := W.cell? ⟨B, 0, none⟩ = some v ∧ W.frozen? ⟨B, 0, none⟩ = false
theorem One.lt {W : World} {B : Nat} {v : Value} (h : One W B v) : B < W.heap.size := lt_of_cell h.1
theorem One.on {W W' : World} {B : Nat} {v : Value} (h : One W B v) (hb : Below W.heap.size W W') : One W' B v := ⟨(hb.cell (p := ⟨_, 0, none⟩) h.lt).trans h.1, (hb.frozen (p := ⟨_, 0, none⟩) h.lt).trans h.2⟩
theorem One.own {A A' : World} {row : Option Nat} {B : Nat} {v : Value} (h : One A B v) (hg : A.grownBy A' row) (hr : ∀ r, row = some r → ∃ o : Obj, A.heap[r]? = some o ∧ o.isCells = false) : One A' B v := ⟨cell_kept h.1 hg hr, (frozen_kept h.1 hg hr).trans h.2⟩
theorem One.set {W : World} {B : Nat} {v : Value} (h : One W B v) (u : Value) : One (W.setCell ⟨B, 0, none⟩ u) B u := ⟨World.cell?_setCell_same' W _ _ (by rw [h.1]; rfl), by rw [World.frozen?_setCell]; exact h.2⟩
theorem One.far {W : World} {B C : Nat} {v : Value} (h : One W B v) (hne : C ≠ B) (u : Value) : One (W.setCell ⟨C, 0, none⟩ u) B v :=
  ⟨by rw [World.cell?_setCell_other _ _ _ _ (by simp only [ne_eq, Addr.mk.injEq]; omega)]; exact h.1, by rw [World.frozen?_setCell]; exact h.2⟩
theorem One.new (W : World) (v : Value) (t : TypeId) : One (W.alloc (.cells #[v] t)) W.heap.size v := ⟨by rw [World.cell?_alloc_new]; rfl, World.frozen?_alloc_new W #[v] t 0⟩
/-- The law's own memory: the configuration, the operation, the result; what is wanted, and how many there were. -/
structure ChksAt (w W : World) (B N : Nat) (v : Value) (a b c d k x y z : Int) (rl : List Int) (n : Nat) : Prop where
  cfg : Arr4 W w.heap.size 23 a b c d
  op : Arr4 W (w.heap.size + 1) 25 k x y z
  res : One W (w.heap.size + 2) (.bool false)
  want : One W B v
  cnt : One W N (.int .i64 (n : Int))
  row : W.ownsRow (w.heap.size + 3) 3 1 v rl.length (rl.map intV)
  old : Below w.heap.size w W
  bn : w.heap.size + 3 ≤ B ∧ w.heap.size + 3 ≤ N ∧ B ≠ N
  ne : v.ownBlock ≠ some N
theorem ChksAt.on {w W W' : World} {B N : Nat} {v : Value} {a b c d k x y z : Int} {rl : List Int} {n : Nat} (h : ChksAt w W B N v a b c d k x y z rl n) (hb : Below W.heap.size W W') : ChksAt w W' B N v a b c d k x y z rl n :=
  ⟨h.cfg.below hb, h.op.below hb, h.res.on hb, h.want.on hb, h.cnt.on hb, ownsRow_below4 h.row hb, belowOn h.old hb, h.bn, h.ne⟩
theorem ChksAt.own {w A A' : World} {row : Option Nat} {B N : Nat} {v : Value} {a b c d k x y z : Int} {rl : List Int} {n : Nat} (h : ChksAt w A B N v a b c d k x y z rl n) (hg : A.grownBy A' row) (hr : ∀ r, row = some r → w.heap.size ≤ r ∧ ∃ o : Obj, A.heap[r]? = some o ∧ o.isCells = false) : ChksAt w A' B N v a b c d k x y z rl n :=
  have hr' : ∀ r, row = some r → ∃ o : Obj, A.heap[r]? = some o ∧ o.isCells = false := fun r e => (hr r e).2
  ⟨h.cfg.own hg hr', h.op.own hg hr', h.res.own hg hr', h.want.own hg hr', h.cnt.own hg hr', row_own h.row hg hr', h.old.grown hg h.old.size (fun k e => (hr k e).1), h.bn, h.ne⟩
theorem ChksAt.next {w W : World} {B N : Nat} {v : Value} {a b c d k x y z : Int} {rl : List Int} {n : Nat} (h : ChksAt w W B N v a b c d k x y z rl n) : ChksAt w (W.setCell ⟨N, 0, none⟩ (.int .i64 ((n : Int) + 1))) B N v a b c d k x y z rl (n + 1) := by
  obtain ⟨b1, b2, b3⟩ := h.bn
  refine ⟨h.cfg.other (Below.heap_setCell W _ _ _ (by simp; omega)), h.op.other (Below.heap_setCell W _ _ _ (by simp; omega)), h.res.far (by omega) _, h.want.far (by omega) _, ?_, h.row.kept (grownBy_setCell' W N _) (.inr h.ne), h.old.setCell (p := ⟨N, 0, none⟩) (by simp only; omega) _, h.bn, h.ne⟩
  have := h.cnt.set (.int .i64 ((n : Int) + 1))
  simpa using this
theorem ChksAt.get {w W : World} {B N : Nat} {v : Value} {a b c d k x y z : Int} {rl : List Int} {n : Nat} (h : ChksAt w W B N v a b c d k x y z rl n) {i : Nat} {u : Int} (hu : rl[i]? = some u) : ∃ g cap, v = .slice (some ⟨g, 0, none⟩) rl.length cap ∧ W.cell? ⟨g, i, none⟩ = some (.int .i64 u) := by
  have hi := (List.getElem?_eq_some_iff.1 hu).1
  obtain ⟨g, cap, rfl, hg, hgl⟩ := h.row.form (by omega)
  refine ⟨g, cap, rfl, ?_⟩
  have := h.row.cells rfl i (.int .i64 u) (by rw [List.getElem?_map, hu]; rfl)
  rw [Lib.add_plain, Nat.zero_add] at this
  exact this
theorem prefix_at {α : Type} {l pre : List α} {x : α} (h : pre ++ [x] <+: l) : l[pre.length]? = some x := by
  obtain ⟨t, rfl⟩ := h
  simp
end Go.Proofs.YtaiioflhkmflgaaDoor
