/- Some tasks at a lock, in memory, as the law TicketQueue has them. -/
import Derived.Test.YtglmecdbafceoaaDoorTickAwake
import Derived.Test.YtglmecdbafceoaaDoorTickHolds
import Derived.Test.YtglmecdbafceoaaDoorTickPure
import Derived.Test.YtglmecdbafceoaaDoorSlid
namespace Go.Proofs.YtglmecdbafceoaaDoor
open Go Go.RowKit
set_option maxRecDepth 100000
attribute [local go_sem ↓] Go.wp_at_zero Go.wp_at_succ

/-- A cell of a mutator that has nothing but a line and a ticket. -/
def mcell (l t : Int) (j : Nat) : Value := if j = 0 then .int .i64 l else if j = 9 then .int .u64 t else if 5 ≤ j ∧ j ≤ 10 then .int .u64 0 else .int .i64 0
/-- A row of such mutators. -/
def MutsAt (w : World) (R k : Nat) (line tk : Nat → Int) : Prop := w.rowIs R 30 (13 * k) (fun p => mcell (line (p / 13)) (tk (p / 13)) (p % 13))
/-- One is laid into it. -/
abbrev putO (w : World) (R o : Nat) (l t : Int) : World := ((((((((((((w.setCell ⟨R, o, none⟩ (.int .i64 l)).setCell ⟨R, o + 1, none⟩ (.int .i64 0)).setCell ⟨R, o + 2, none⟩ (.int .i64 0)).setCell ⟨R, o + 3, none⟩ (.int .i64 0)).setCell ⟨R, o + 4, none⟩ (.int .i64 0)).setCell ⟨R, o + 5, none⟩ (.int .u64 0)).setCell ⟨R, o + 6, none⟩ (.int .u64 0)).setCell ⟨R, o + 7, none⟩ (.int .u64 0)).setCell ⟨R, o + 8, none⟩ (.int .u64 0)).setCell ⟨R, o + 9, none⟩ (.int .u64 t)).setCell ⟨R, o + 10, none⟩ (.int .u64 0)).setCell ⟨R, o + 11, none⟩ (.int .i64 0)).setCell ⟨R, o + 12, none⟩ (.int .i64 0)
namespace MutsAt
variable {w w' : World} {R k : Nat} {line tk : Nat → Int}
theorem cellAt (h : MutsAt w R k line tk) {i : Nat} (hi : i < k) (j : Nat) (hj : j < 13) : w.cell? ⟨R, i * 13 + j, none⟩ = some (mcell (line i) (tk i) j) := by
  have := World.rowIs.cell h (i := i * 13 + j) (by omega)
  rw [show (i * 13 + j) / 13 = i by omega, show (i * 13 + j) % 13 = j by omega] at this
  exact this
theorem cells (h : MutsAt w R k line tk) {i : Nat} (hi : i < k) : w.cell? ⟨R, i * 13, none⟩ = some (.int .i64 (line i)) ∧ w.cell? ⟨R, i * 13 + 1, none⟩ = some (.int .i64 0) ∧ w.cell? ⟨R, i * 13 + 2, none⟩ = some (.int .i64 0) ∧ w.cell? ⟨R, i * 13 + 3, none⟩ = some (.int .i64 0) ∧ w.cell? ⟨R, i * 13 + 4, none⟩ = some (.int .i64 0) ∧ w.cell? ⟨R, i * 13 + 5, none⟩ = some (.int .u64 0) ∧ w.cell? ⟨R, i * 13 + 6, none⟩ = some (.int .u64 0) ∧ w.cell? ⟨R, i * 13 + 7, none⟩ = some (.int .u64 0) ∧ w.cell? ⟨R, i * 13 + 8, none⟩ = some (.int .u64 0) ∧ w.cell? ⟨R, i * 13 + 9, none⟩ = some (.int .u64 (tk i)) ∧ w.cell? ⟨R, i * 13 + 10, none⟩ = some (.int .u64 0) ∧ w.cell? ⟨R, i * 13 + 11, none⟩ = some (.int .i64 0) ∧ w.cell? ⟨R, i * 13 + 12, none⟩ = some (.int .i64 0) :=
  ⟨h.cellAt hi 0 (by omega), h.cellAt hi 1 (by omega), h.cellAt hi 2 (by omega), h.cellAt hi 3 (by omega), h.cellAt hi 4 (by omega), h.cellAt hi 5 (by omega), h.cellAt hi 6 (by omega), h.cellAt hi 7 (by omega), h.cellAt hi 8 (by omega), h.cellAt hi 9 (by omega), h.cellAt hi 10 (by omega), h.cellAt hi 11 (by omega), h.cellAt hi 12 (by omega)⟩
theorem frozen (h : MutsAt w R k line tk) (j : Nat) : w.frozen? ⟨R, j, none⟩ = false := World.rowIs.frozen h j
theorem lt (h : MutsAt w R k line tk) : R < w.heap.size := World.rowIs.lt h
theorem other (h : MutsAt w R k line tk) (e : w'.heap[R]? = w.heap[R]?) : MutsAt w' R k line tk := World.rowIs.of_block h e
theorem put (h : MutsAt w R k line tk) (i : Nat) (l t : Int) : MutsAt (putO w R (i * 13) l t) R k (upd line i l) (upd tk i t) := by
  unfold MutsAt at *
  refine World.rowIs.congr (((((((((((((h.set (i * 13) _).set (i * 13 + 1) _).set (i * 13 + 2) _).set (i * 13 + 3) _).set (i * 13 + 4) _).set (i * 13 + 5) _).set (i * 13 + 6) _).set (i * 13 + 7) _).set (i * 13 + 8) _).set (i * 13 + 9) _).set (i * 13 + 10) _).set (i * 13 + 11) _).set (i * 13 + 12) _) (fun p hp => ?_)
  unfold upd
  by_cases e : p / 13 = i
  · rw [if_pos e, if_pos e]
    obtain ⟨r, hr, rfl⟩ : ∃ r, r < 13 ∧ p = i * 13 + r := ⟨p % 13, by omega, by omega⟩
    rw [show (i * 13 + r) % 13 = r by omega]
    rcases (by omega : r = 0 ∨ r = 1 ∨ r = 2 ∨ r = 3 ∨ r = 4 ∨ r = 5 ∨ r = 6 ∨ r = 7 ∨ r = 8 ∨ r = 9 ∨ r = 10 ∨ r = 11 ∨ r = 12) with rfl | rfl | rfl | rfl | rfl | rfl | rfl | rfl | rfl | rfl | rfl | rfl | rfl
    all_goals simp [mcell]
  · rw [if_neg e, if_neg e, if_neg (by omega), if_neg (by omega), if_neg (by omega), if_neg (by omega), if_neg (by omega), if_neg (by omega), if_neg (by omega), if_neg (by omega), if_neg (by omega), if_neg (by omega), if_neg (by omega), if_neg (by omega), if_neg (by omega)]
end MutsAt
theorem heap_putO (w : World) (R o : Nat) (l t : Int) {B : Nat} (hB : B ≠ R) : (putO w R o l t).heap[B]? = w.heap[B]? :=
  (Below.heap_setCell _ _ _ _ hB).trans ((Below.heap_setCell _ _ _ _ hB).trans ((Below.heap_setCell _ _ _ _ hB).trans ((Below.heap_setCell _ _ _ _ hB).trans ((Below.heap_setCell _ _ _ _ hB).trans ((Below.heap_setCell _ _ _ _ hB).trans ((Below.heap_setCell _ _ _ _ hB).trans ((Below.heap_setCell _ _ _ _ hB).trans ((Below.heap_setCell _ _ _ _ hB).trans ((Below.heap_setCell _ _ _ _ hB).trans ((Below.heap_setCell _ _ _ _ hB).trans ((Below.heap_setCell _ _ _ _ hB).trans (Below.heap_setCell _ _ _ _ hB))))))))))))
theorem size_putO (w : World) (R o : Nat) (l t : Int) : (putO w R o l t).heap.size = w.heap.size := by simp [World.setCell]
theorem Sav.putO {S : Nat → Prop} {w w' : World} (h : Sav S w w') {R : Nat} (hR : S R ∨ w.heap.size ≤ R) (o : Nat) (l t : Int) : Sav S w (putO w' R o l t) :=
  ((((((((((((h.set (p := ⟨R, o, none⟩) hR _).set (p := ⟨R, o + 1, none⟩) hR _).set (p := ⟨R, o + 2, none⟩) hR _).set (p := ⟨R, o + 3, none⟩) hR _).set (p := ⟨R, o + 4, none⟩) hR _).set (p := ⟨R, o + 5, none⟩) hR _).set (p := ⟨R, o + 6, none⟩) hR _).set (p := ⟨R, o + 7, none⟩) hR _).set (p := ⟨R, o + 8, none⟩) hR _).set (p := ⟨R, o + 9, none⟩) hR _).set (p := ⟨R, o + 10, none⟩) hR _).set (p := ⟨R, o + 11, none⟩) hR _).set (p := ⟨R, o + 12, none⟩) hR _
/-- Who is inside, as the law has it. -/
def insV : Option Nat → Int
  | none => -1
  | some i => i
abbrev C13 : Cf := ⟨13, 2, 1, 1, 0⟩
/-- Some tasks at a lock, in memory: h's block is B; the row of mutators B + 1 and its slice B + 2; order's slice B + 3; the row got B + 4 and its slice B + 5; inside B + 6. -/
structure QAt (w W : World) (B H A G k : Nat) (v : Value) (q : Que) : Prop where
  old : Below w.heap.size w W
  lo : w.heap.size ≤ H ∧ w.heap.size ≤ G ∧ H < B ∧ A < B ∧ G < B
  hand : ∃ s : Dy, HAt W H A G C13 s ∧ s.U ∧ s.f 3 = q.nx ∧ s.f 4 = q.sv
  bh : W.heap[B]? = some (.cells #[.pointer (some ⟨H, 0, none⟩)] 33 (0, 0))
  ba : W.heap[B + 2]? = some (.cells #[.slice (some ⟨B + 1, 0, none⟩) k k] 47 (0, 0))
  all : MutsAt W (B + 1) k q.line q.tk
  bo : W.heap[B + 3]? = some (.cells #[v] 48 (0, 0))
  row : Slid W (B + 7) v q.order
  got : W.rowIs (B + 4) 3 k (fun j => .int .i64 (q.got j))
  bg : W.heap[B + 5]? = some (.cells #[.slice (some ⟨B + 4, 0, none⟩) k k] 48 (0, 0))
  bi : W.heap[B + 6]? = some (.cells #[.int .i64 (insV q.ins)] 3 (0, 0))
namespace QAt
variable {w W V : World} {B H A G k : Nat} {v : Value} {q : Que}
theorem lt (h : QAt w W B H A G k v q) : B + 6 < W.heap.size := (Array.getElem?_eq_some_iff.1 h.bi).1
theorem cells (h : QAt w W B H A G k v q) : W.cell? ⟨B, 0, none⟩ = some (.pointer (some ⟨H, 0, none⟩)) ∧ W.cell? ⟨B + 2, 0, none⟩ = some (.slice (some ⟨B + 1, 0, none⟩) k k) ∧ W.cell? ⟨B + 3, 0, none⟩ = some v ∧ W.cell? ⟨B + 5, 0, none⟩ = some (.slice (some ⟨B + 4, 0, none⟩) k k) ∧ W.cell? ⟨B + 6, 0, none⟩ = some (.int .i64 (insV q.ins)) :=
  ⟨by simp [World.cell?, h.bh], by simp [World.cell?, h.ba], by simp [World.cell?, h.bo], by simp [World.cell?, h.bg], by simp [World.cell?, h.bi]⟩
theorem froz (h : QAt w W B H A G k v q) : W.frozen? ⟨B + 3, 0, none⟩ = false ∧ W.frozen? ⟨B + 6, 0, none⟩ = false := ⟨by simp [World.frozen?, h.bo], by simp [World.frozen?, h.bi]⟩
/-- Blocks beside all of it have turned. -/
theorem apart {S : Nat → Prop} (h : QAt w W B H A G k v q) (hs : Sav S W V) (ha : ∀ j, S j → B + 7 ≤ j ∧ v.ownBlock ≠ some j) : QAt w V B H A G k v q := by
  have hl := h.lt; have h1 := h.lo; have h0 := h.old.size
  have key : ∀ j, j < B + 7 → V.heap[j]? = W.heap[j]? := fun j hj => hs.block j (by omega) (fun e => by have := (ha j e).1; omega)
  obtain ⟨s, hH, hu, e3, e4⟩ := h.hand
  exact ⟨h.old.trans (hs.below h0 (fun j hj e => by have := (ha j e).1; omega)), h.lo, ⟨s, hH.other (key _ (by omega)) (key _ (by omega)) (key _ (by omega)), hu, e3, e4⟩, (key _ (by omega)).trans h.bh, (key _ (by omega)).trans h.ba, h.all.other (key _ (by omega)), (key _ (by omega)).trans h.bo,
    h.row.other (fun j hj => hs.block j (h.row.own hj).2 (fun e => (ha j e).2 hj)), h.got.of_block (key _ (by omega)), (key _ (by omega)).trans h.bg, (key _ (by omega)).trans h.bi⟩
theorem below (h : QAt w W B H A G k v q) (hb : Below W.heap.size W V) : QAt w V B H A G k v q := h.apart (Sav.of (S := fun _ => False) hb) (fun _ e => e.elim)
theorem drew (h : QAt w W B H A G k v q) : QAt w W.drew B H A G k v q := h.below (Below.refl _ _).drew
/-- The hand has done an access. -/
theorem act (h : QAt w W B H A G k v q) {s : Dy} (hH : HAt V H A G C13 s) (hu : s.U) (hs : Sav (HG H G) W V) : QAt w V B H A G k v { q with nx := s.f 3, sv := s.f 4 } := by
  have hl := h.lt; have h1 := h.lo; have h0 := h.old.size
  have key : ∀ j, j < W.heap.size → B ≤ j → V.heap[j]? = W.heap[j]? := fun j hj hB => hs.block j hj (fun e => by rcases e with e | e <;> omega)
  exact ⟨h.old.trans (hs.below h0 (fun j hj e => by rcases e with e | e <;> omega)), h.lo, ⟨s, hH, hu, rfl, rfl⟩, (key _ (by omega) (by omega)).trans h.bh, (key _ (by omega) (by omega)).trans h.ba, h.all.other (key _ (by omega) (by omega)), (key _ (by omega) (by omega)).trans h.bo,
    h.row.other (fun j hj => key j (h.row.own hj).2 (by have := (h.row.own hj).1; omega)), h.got.of_block (key _ (by omega) (by omega)), (key _ (by omega) (by omega)).trans h.bg, (key _ (by omega) (by omega)).trans h.bi⟩
/-- One block of its own has turned: all others lie. -/
theorem one (h : QAt w W B H A G k v q) {j : Nat} (hj : B ≤ j) (h7 : j < B + 7) (hs : Sav (fun i => i = j) W V) : Below w.heap.size w V ∧ (∃ s : Dy, HAt V H A G C13 s ∧ s.U ∧ s.f 3 = q.nx ∧ s.f 4 = q.sv) ∧ (∀ i, B ≤ i → i < B + 7 → i ≠ j → V.heap[i]? = W.heap[i]?) ∧ Slid V (B + 7) v q.order := by
  have hl := h.lt; have h1 := h.lo; have h0 := h.old.size
  have key : ∀ i, i < B + 7 → i ≠ j → V.heap[i]? = W.heap[i]? := fun i hi hne => hs.block i (by omega) (fun e => hne e)
  obtain ⟨s, hH, hu, e3, e4⟩ := h.hand
  exact ⟨h.old.trans (hs.below h0 (fun i hi e => by omega)), ⟨s, hH.other (key _ (by omega) (by omega)) (key _ (by omega) (by omega)) (key _ (by omega) (by omega)), hu, e3, e4⟩, fun i _ h2 h3 => key i h2 h3, h.row.other (fun i hi => hs.block i (h.row.own hi).2 (fun e => by have := (h.row.own hi).1; omega))⟩
theorem setIns (h : QAt w W B H A G k v q) (o : Option Nat) : QAt w (W.setCell ⟨B + 6, 0, none⟩ (.int .i64 (insV o))) B H A G k v { q with ins := o } := by
  obtain ⟨k1, k2, k3, k4⟩ := h.one (j := B + 6) (by omega) (by omega) ((Sav.of (S := fun i => i = B + 6) (Below.refl _ _)).set (p := ⟨B + 6, 0, none⟩) (.inl rfl) (.int .i64 (insV o)))
  exact ⟨k1, h.lo, k2, (k3 _ (by omega) (by omega) (by omega)).trans h.bh, (k3 _ (by omega) (by omega) (by omega)).trans h.ba, h.all.other (k3 _ (by omega) (by omega) (by omega)), (k3 _ (by omega) (by omega) (by omega)).trans h.bo, k4, h.got.of_block (k3 _ (by omega) (by omega) (by omega)), (k3 _ (by omega) (by omega) (by omega)).trans h.bg, by simp [World.setCell, Array.getElem?_modify, h.bi]⟩
theorem setGot (h : QAt w W B H A G k v q) (i : Nat) (z : Int) : QAt w (W.setCell ⟨B + 4, i, none⟩ (.int .i64 z)) B H A G k v { q with got := upd q.got i z } := by
  obtain ⟨k1, k2, k3, k4⟩ := h.one (j := B + 4) (by omega) (by omega) ((Sav.of (S := fun i => i = B + 4) (Below.refl _ _)).set (p := ⟨B + 4, i, none⟩) (.inl rfl) (.int .i64 z))
  exact ⟨k1, h.lo, k2, (k3 _ (by omega) (by omega) (by omega)).trans h.bh, (k3 _ (by omega) (by omega) (by omega)).trans h.ba, h.all.other (k3 _ (by omega) (by omega) (by omega)), (k3 _ (by omega) (by omega) (by omega)).trans h.bo, k4, (h.got.set i (.int .i64 z)).congr (fun j _ => by
    show (if j = i then _ else _) = Value.int .i64 (upd q.got i z j)
    unfold upd
    by_cases e : j = i
    · rw [if_pos e, if_pos e]
    · rw [if_neg e, if_neg e]), (k3 _ (by omega) (by omega) (by omega)).trans h.bg, (k3 _ (by omega) (by omega) (by omega)).trans h.bi⟩
theorem setAll (h : QAt w W B H A G k v q) (i : Nat) (l t : Int) : QAt w (putO W (B + 1) (i * 13) l t) B H A G k v { q with line := upd q.line i l, tk := upd q.tk i t } := by
  obtain ⟨k1, k2, k3, k4⟩ := h.one (j := B + 1) (by omega) (by omega) ((Sav.of (S := fun i => i = B + 1) (Below.refl _ _)).putO (R := B + 1) (.inl rfl) (i * 13) l t)
  exact ⟨k1, h.lo, k2, (k3 _ (by omega) (by omega) (by omega)).trans h.bh, (k3 _ (by omega) (by omega) (by omega)).trans h.ba, h.all.put i l t, (k3 _ (by omega) (by omega) (by omega)).trans h.bo, k4, h.got.of_block (k3 _ (by omega) (by omega) (by omega)), (k3 _ (by omega) (by omega) (by omega)).trans h.bg, (k3 _ (by omega) (by omega) (by omega)).trans h.bi⟩
/-- The order is another one, whose row has been laid. -/
theorem setOrd (h : QAt w W B H A G k v q) {v' : Value} {l : List Nat} (hl : Slid W (B + 7) v' l) : QAt w (W.setCell ⟨B + 3, 0, none⟩ v') B H A G k v' { q with order := l } := by
  obtain ⟨k1, k2, k3, _⟩ := h.one (j := B + 3) (by omega) (by omega) ((Sav.of (S := fun i => i = B + 3) (Below.refl _ _)).set (p := ⟨B + 3, 0, none⟩) (.inl rfl) v')
  exact ⟨k1, h.lo, k2, (k3 _ (by omega) (by omega) (by omega)).trans h.bh, (k3 _ (by omega) (by omega) (by omega)).trans h.ba, h.all.other (k3 _ (by omega) (by omega) (by omega)), by simp [World.setCell, Array.getElem?_modify, h.bo], hl.other (fun i hi => Below.heap_setCell _ _ _ _ (fun e => by have := (hl.own hi).1; have e : i = B + 3 := e; omega)), h.got.of_block (k3 _ (by omega) (by omega) (by omega)), (k3 _ (by omega) (by omega) (by omega)).trans h.bg, (k3 _ (by omega) (by omega) (by omega)).trans h.bi⟩
/-- The order's row has grown, or is a new one. -/
theorem grow (h : QAt w W B H A G k v q) {v' : Value} {l : List Nat} (hs : Sav (fun j => v.ownBlock = some j) W V) (hr : Slid V (B + 7) v' l) : (V.cell? ⟨B + 3, 0, none⟩ = some v ∧ V.frozen? ⟨B + 3, 0, none⟩ = false) ∧ QAt w (V.setCell ⟨B + 3, 0, none⟩ v') B H A G k v' { q with order := l } := by
  have hl := h.lt; have h1 := h.lo; have h0 := h.old.size
  have key : ∀ j, j < B + 7 → V.heap[j]? = W.heap[j]? := fun j hj => hs.block j (by omega) (fun e => by have := (h.row.own e).1; omega)
  have k3 : ∀ j, j < B + 7 → j ≠ B + 3 → (V.setCell ⟨B + 3, 0, none⟩ v').heap[j]? = W.heap[j]? := fun j hj hne => (Below.heap_setCell _ _ _ _ hne).trans (key j hj)
  obtain ⟨s, hH, hu, e3, e4⟩ := h.hand
  have hb : V.heap[B + 3]? = _ := (key _ (by omega)).trans h.bo
  refine ⟨⟨by simp [World.cell?, hb], by simp [World.frozen?, hb]⟩, ?_⟩
  exact ⟨(h.old.trans (hs.below h0 (fun j hj e => by have := (h.row.own e).1; omega))).setCell (p := ⟨B + 3, 0, none⟩) (by show w.heap.size ≤ B + 3; omega) _, h.lo, ⟨s, hH.other (k3 _ (by omega) (by omega)) (k3 _ (by omega) (by omega)) (k3 _ (by omega) (by omega)), hu, e3, e4⟩, (k3 _ (by omega) (by omega)).trans h.bh, (k3 _ (by omega) (by omega)).trans h.ba, h.all.other (k3 _ (by omega) (by omega)),
    by simp [World.setCell, Array.getElem?_modify, hb], hr.other (fun i hi => Below.heap_setCell _ _ _ _ (fun e => by have := (hr.own hi).1; have e : i = B + 3 := e; omega)), h.got.of_block (k3 _ (by omega) (by omega)), (k3 _ (by omega) (by omega)).trans h.bg, (k3 _ (by omega) (by omega)).trans h.bi⟩
end QAt
end Go.Proofs.YtglmecdbafceoaaDoor
