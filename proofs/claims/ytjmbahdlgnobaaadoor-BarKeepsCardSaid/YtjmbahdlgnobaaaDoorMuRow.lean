/- A row of mutators: its cells, one that is laid into it, one that is made. -/
import Derived.Test.YtjmbahdlgnobaaaDoorM2
namespace Go.Proofs.YtjmbahdlgnobaaaDoor
open Go Go.RowKit
set_option maxRecDepth 100000
attribute [local go_sem ↓] Go.wp_at_zero Go.wp_at_succ

/-- A cell of a mutator. -/
def mcellM (m : Mu) : Nat → Value
  | 0 => .int .i64 m.l
  | 1 => .int .i64 m.q1
  | 2 => .int .i64 m.q2
  | 3 => .int .i64 m.q3
  | 4 => .int .i64 m.q4
  | 5 => .int .u64 m.m1
  | 6 => .int .u64 m.m2
  | 7 => .int .u64 m.m3
  | 8 => .int .u64 m.m4
  | 9 => .int .u64 m.m5
  | 10 => .int .u64 m.p
  | 11 => .int .i64 m.bk
  | 12 => .int .i64 m.rt
  | _ => .int .i64 0
/-- A row of mutators. -/
def MusAt (w : World) (R k : Nat) (g : Nat → Mu) : Prop := w.rowIs R 49 (13 * k) (fun p => mcellM (g (p / 13)) (p % 13))
/-- The i-th is another one. -/
def updM (g : Nat → Mu) (i : Nat) (m : Mu) : Nat → Mu := fun j => if j = i then m else g j
theorem updM_at (g : Nat → Mu) (i : Nat) (m : Mu) : updM g i m i = m := if_pos rfl
theorem updM_ne (g : Nat → Mu) {i j : Nat} (m : Mu) (h : j ≠ i) : updM g i m j = g j := if_neg h
/-- One is laid into it. -/
abbrev putM (w : World) (R o : Nat) (m : Mu) : World := ((((((((((((w.setCell ⟨R, o, none⟩ (.int .i64 m.l)).setCell ⟨R, o + 1, none⟩ (.int .i64 m.q1)).setCell ⟨R, o + 2, none⟩ (.int .i64 m.q2)).setCell ⟨R, o + 3, none⟩ (.int .i64 m.q3)).setCell ⟨R, o + 4, none⟩ (.int .i64 m.q4)).setCell ⟨R, o + 5, none⟩ (.int .u64 m.m1)).setCell ⟨R, o + 6, none⟩ (.int .u64 m.m2)).setCell ⟨R, o + 7, none⟩ (.int .u64 m.m3)).setCell ⟨R, o + 8, none⟩ (.int .u64 m.m4)).setCell ⟨R, o + 9, none⟩ (.int .u64 m.m5)).setCell ⟨R, o + 10, none⟩ (.int .u64 m.p)).setCell ⟨R, o + 11, none⟩ (.int .i64 m.bk)).setCell ⟨R, o + 12, none⟩ (.int .i64 m.rt)
namespace MusAt
variable {w w' : World} {R k : Nat} {g : Nat → Mu}
theorem cellAt (h : MusAt w R k g) {i : Nat} (hi : i < k) (j : Nat) (hj : j < 13) : w.cell? ⟨R, i * 13 + j, none⟩ = some (mcellM (g i) j) := by
  have := World.rowIs.cell h (i := i * 13 + j) (by omega)
  rw [show (i * 13 + j) / 13 = i by omega, show (i * 13 + j) % 13 = j by omega] at this
  exact this
theorem cells (h : MusAt w R k g) {i : Nat} (hi : i < k) : w.cell? ⟨R, i * 13, none⟩ = some (.int .i64 (g i).l) ∧ w.cell? ⟨R, i * 13 + 1, none⟩ = some (.int .i64 (g i).q1) ∧ w.cell? ⟨R, i * 13 + 2, none⟩ = some (.int .i64 (g i).q2) ∧ w.cell? ⟨R, i * 13 + 3, none⟩ = some (.int .i64 (g i).q3) ∧ w.cell? ⟨R, i * 13 + 4, none⟩ = some (.int .i64 (g i).q4) ∧ w.cell? ⟨R, i * 13 + 5, none⟩ = some (.int .u64 (g i).m1) ∧ w.cell? ⟨R, i * 13 + 6, none⟩ = some (.int .u64 (g i).m2) ∧ w.cell? ⟨R, i * 13 + 7, none⟩ = some (.int .u64 (g i).m3) ∧ w.cell? ⟨R, i * 13 + 8, none⟩ = some (.int .u64 (g i).m4) ∧ w.cell? ⟨R, i * 13 + 9, none⟩ = some (.int .u64 (g i).m5) ∧ w.cell? ⟨R, i * 13 + 10, none⟩ = some (.int .u64 (g i).p) ∧ w.cell? ⟨R, i * 13 + 11, none⟩ = some (.int .i64 (g i).bk) ∧ w.cell? ⟨R, i * 13 + 12, none⟩ = some (.int .i64 (g i).rt) :=
  ⟨h.cellAt hi 0 (by omega), h.cellAt hi 1 (by omega), h.cellAt hi 2 (by omega), h.cellAt hi 3 (by omega), h.cellAt hi 4 (by omega), h.cellAt hi 5 (by omega), h.cellAt hi 6 (by omega), h.cellAt hi 7 (by omega), h.cellAt hi 8 (by omega), h.cellAt hi 9 (by omega), h.cellAt hi 10 (by omega), h.cellAt hi 11 (by omega), h.cellAt hi 12 (by omega)⟩
theorem frozen (h : MusAt w R k g) (j : Nat) : w.frozen? ⟨R, j, none⟩ = false := World.rowIs.frozen h j
theorem lt (h : MusAt w R k g) : R < w.heap.size := World.rowIs.lt h
theorem other (h : MusAt w R k g) (e : w'.heap[R]? = w.heap[R]?) : MusAt w' R k g := World.rowIs.of_block h e
theorem below (h : MusAt w R k g) (hb : Below w.heap.size w w') : MusAt w' R k g := h.other (hb.block _ h.lt)
theorem congr {g' : Nat → Mu} (h : MusAt w R k g) (e : ∀ i, i < k → g i = g' i) : MusAt w R k g' := World.rowIs.congr h (fun p hp => by show mcellM _ _ = mcellM _ _; rw [e (p / 13) (by omega)])
theorem put (h : MusAt w R k g) (i : Nat) (m : Mu) : MusAt (putM w R (i * 13) m) R k (updM g i m) := by
  refine World.rowIs.congr (((((((((((((World.rowIs.set h (i * 13) _).set (i * 13 + 1) _).set (i * 13 + 2) _).set (i * 13 + 3) _).set (i * 13 + 4) _).set (i * 13 + 5) _).set (i * 13 + 6) _).set (i * 13 + 7) _).set (i * 13 + 8) _).set (i * 13 + 9) _).set (i * 13 + 10) _).set (i * 13 + 11) _).set (i * 13 + 12) _) (fun p hp => ?_)
  unfold updM
  by_cases e : p / 13 = i
  · rw [if_pos e]
    obtain ⟨r, hr, rfl⟩ : ∃ r, r < 13 ∧ p = i * 13 + r := ⟨p % 13, by omega, by omega⟩
    rw [show (i * 13 + r) % 13 = r by omega]
    rcases (by omega : r = 0 ∨ r = 1 ∨ r = 2 ∨ r = 3 ∨ r = 4 ∨ r = 5 ∨ r = 6 ∨ r = 7 ∨ r = 8 ∨ r = 9 ∨ r = 10 ∨ r = 11 ∨ r = 12) with rfl | rfl | rfl | rfl | rfl | rfl | rfl | rfl | rfl | rfl | rfl | rfl | rfl
    all_goals simp [mcellM]
  · rw [if_neg e, if_neg (by omega), if_neg (by omega), if_neg (by omega), if_neg (by omega), if_neg (by omega), if_neg (by omega), if_neg (by omega), if_neg (by omega), if_neg (by omega), if_neg (by omega), if_neg (by omega), if_neg (by omega), if_neg (by omega)]
theorem setL (h : MusAt w R k g) (i : Nat) (l : Int) : MusAt (w.setCell ⟨R, i * 13, none⟩ (.int .i64 l)) R k (updM g i { g i with l := l }) := by
  refine World.rowIs.congr (World.rowIs.set h (i * 13) (.int .i64 l)) (fun p _ => ?_)
  unfold updM
  by_cases e : p = i * 13
  · rw [if_pos e, if_pos (by omega), show p % 13 = 0 by omega]; rfl
  · rw [if_neg e]
    by_cases e2 : p / 13 = i
    · rw [if_pos e2, e2]
      obtain ⟨r, hr, hr2⟩ : ∃ r, r < 13 ∧ p % 13 = r := ⟨p % 13, by omega, rfl⟩
      have h0 : ¬ r = 0 := by omega
      rw [hr2]
      rcases (by omega : r = 0 ∨ r = 1 ∨ r = 2 ∨ r = 3 ∨ r = 4 ∨ r = 5 ∨ r = 6 ∨ r = 7 ∨ r = 8 ∨ r = 9 ∨ r = 10 ∨ r = 11 ∨ r = 12) with rfl | rfl | rfl | rfl | rfl | rfl | rfl | rfl | rfl | rfl | rfl | rfl | rfl
      all_goals first | rfl | exact absurd rfl h0
    · rw [if_neg e2]
end MusAt
theorem heap_putM (w : World) (R o : Nat) (m : Mu) {B : Nat} (hB : B ≠ R) : (putM w R o m).heap[B]? = w.heap[B]? :=
  (Below.heap_setCell _ _ _ _ hB).trans ((Below.heap_setCell _ _ _ _ hB).trans ((Below.heap_setCell _ _ _ _ hB).trans ((Below.heap_setCell _ _ _ _ hB).trans ((Below.heap_setCell _ _ _ _ hB).trans ((Below.heap_setCell _ _ _ _ hB).trans ((Below.heap_setCell _ _ _ _ hB).trans ((Below.heap_setCell _ _ _ _ hB).trans ((Below.heap_setCell _ _ _ _ hB).trans ((Below.heap_setCell _ _ _ _ hB).trans ((Below.heap_setCell _ _ _ _ hB).trans ((Below.heap_setCell _ _ _ _ hB).trans (Below.heap_setCell _ _ _ _ hB))))))))))))
theorem size_putM (w : World) (R o : Nat) (m : Mu) : (putM w R o m).heap.size = w.heap.size := by simp [World.setCell]
theorem Sav.putM {S : Nat → Prop} {w w' : World} (h : Sav S w w') {R : Nat} (hR : S R ∨ w.heap.size ≤ R) (o : Nat) (m : Mu) : Sav S w (putM w' R o m) :=
  ((((((((((((h.set (p := ⟨R, o, none⟩) hR _).set (p := ⟨R, o + 1, none⟩) hR _).set (p := ⟨R, o + 2, none⟩) hR _).set (p := ⟨R, o + 3, none⟩) hR _).set (p := ⟨R, o + 4, none⟩) hR _).set (p := ⟨R, o + 5, none⟩) hR _).set (p := ⟨R, o + 6, none⟩) hR _).set (p := ⟨R, o + 7, none⟩) hR _).set (p := ⟨R, o + 8, none⟩) hR _).set (p := ⟨R, o + 9, none⟩) hR _).set (p := ⟨R, o + 10, none⟩) hR _).set (p := ⟨R, o + 11, none⟩) hR _).set (p := ⟨R, o + 12, none⟩) hR _
/-- A mutator at first. -/
def mu0 : Mu := ⟨0, 0, 0, 0, 0, 0, 0, 0, 0, 0, 0, 0, 0⟩
theorem infoMut : (Tryd.prog.info? 49).map (fun i => (i.zero, i.size, i.bytes)) = some (some (.agg #[.int .i64 0, .int .i64 0, .int .i64 0, .int .i64 0, .int .i64 0, .int .u64 0, .int .u64 0, .int .u64 0, .int .u64 0, .int .u64 0, .int .u64 0, .int .i64 0, .int .i64 0]), 13, 104) := by kernel_rfl
def zM : Array Value := #[.int .i64 0, .int .i64 0, .int .i64 0, .int .i64 0, .int .i64 0, .int .u64 0, .int .u64 0, .int .u64 0, .int .u64 0, .int .u64 0, .int .u64 0, .int .i64 0, .int .i64 0]
theorem make_muts (n : Nat) (hn : n ≤ 1000) (w : World) : (Instr.makeSlice 44 (.int .i64 (n : Int)) (.int .i64 (n : Int))).run Tryd.prog w = .ok (.slice (some ⟨w.heap.size, 0, none⟩) n n) (w.alloc (.cells (madeCells zM (n * 13)) 49)) := by
  obtain ⟨i, hi, hzz⟩ := Option.map_eq_some_iff.1 infoMut
  simp only [Prod.mk.injEq] at hzz
  obtain ⟨hz, hs, hb⟩ := hzz
  have hr := run_make (P := Tryd.prog) w 44 49 i _ Tryd.underlying44 hi hz .i64 .i64 n n (by omega) (Int.le_refl _) (by rw [hb]; omega) (by omega)
  simp only [Int.toNat_natCast, hs] at hr
  exact hr
theorem mus_made (w : World) (k : Nat) : MusAt (w.alloc (.cells (madeCells zM (k * 13)) 49)) w.heap.size k (fun _ => mu0) := by
  refine ⟨_, newBlock _ _, ?_, fun p hp => ?_⟩
  · rw [size_madeCells, Nat.mul_comm]
  · have hp : p < k * 13 := by omega
    obtain ⟨r, hr, hp2⟩ : ∃ r, r < 13 ∧ p % 13 = r := ⟨p % 13, by omega, rfl⟩
    have : (madeCells zM (k * 13))[p]? = some (zM[p % 13]?.getD default) := by simp [madeCells, hp, zM]
    rw [this, hp2]
    show _ = some (mcellM mu0 (p % 13))
    rw [hp2]
    rcases (by omega : r = 0 ∨ r = 1 ∨ r = 2 ∨ r = 3 ∨ r = 4 ∨ r = 5 ∨ r = 6 ∨ r = 7 ∨ r = 8 ∨ r = 9 ∨ r = 10 ∨ r = 11 ∨ r = 12) with rfl | rfl | rfl | rfl | rfl | rfl | rfl | rfl | rfl | rfl | rfl | rfl | rfl
    all_goals rfl
end Go.Proofs.YtjmbahdlgnobaaaDoor
