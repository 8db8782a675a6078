/- How far a mutator is, as a value and as cells, beside a hand and the document's. -/
import Derived.Test.YtjmbahdlgnobaaaDoorHandCalls
import Derived.Test.YtjmbahdlgnobaaaDoorM1
import Derived.Test.YtjmbahdlgnobaaaDoorHandNew
namespace Go.Proofs.YtjmbahdlgnobaaaDoor
open Go Go.RowKit
set_option maxRecDepth 100000
attribute [local go_sem ↓] Go.wp_at_zero Go.wp_at_succ

/-- How far a mutator is. -/
abbrev mutV (l p bk q1 q2 q3 q4 m1 m2 m3 m4 m5 rt : Int) : Value := .agg #[.int .i64 l, .int .i64 q1, .int .i64 q2, .int .i64 q3, .int .i64 q4, .int .u64 m1, .int .u64 m2, .int .u64 m3, .int .u64 m4, .int .u64 m5, .int .u64 p, .int .i64 bk, .int .i64 rt]
/-- How far a mutator is lies in block B. -/
def Mut13 (w : World) (B : Nat) (l p bk q1 q2 q3 q4 m1 m2 m3 m4 m5 rt : Int) : Prop := w.heap[B]? = some (.cells #[.int .i64 l, .int .i64 q1, .int .i64 q2, .int .i64 q3, .int .i64 q4, .int .u64 m1, .int .u64 m2, .int .u64 m3, .int .u64 m4, .int .u64 m5, .int .u64 p, .int .i64 bk, .int .i64 rt] 49 (0, 0))
/-- It is laid into block B. -/
abbrev put13 (w : World) (B : Nat) (l p bk q1 q2 q3 q4 m1 m2 m3 m4 m5 rt : Int) : World := (((((((((((((w.setCell ⟨B, 0, none⟩ (.int .i64 l)).setCell ⟨B, 1, none⟩ (.int .i64 q1)).setCell ⟨B, 2, none⟩ (.int .i64 q2)).setCell ⟨B, 3, none⟩ (.int .i64 q3)).setCell ⟨B, 4, none⟩ (.int .i64 q4)).setCell ⟨B, 5, none⟩ (.int .u64 m1)).setCell ⟨B, 6, none⟩ (.int .u64 m2)).setCell ⟨B, 7, none⟩ (.int .u64 m3)).setCell ⟨B, 8, none⟩ (.int .u64 m4)).setCell ⟨B, 9, none⟩ (.int .u64 m5)).setCell ⟨B, 10, none⟩ (.int .u64 p)).setCell ⟨B, 11, none⟩ (.int .i64 bk)).setCell ⟨B, 12, none⟩ (.int .i64 rt))
namespace Mut13
variable {w w' : World} {B : Nat} {l p bk q1 q2 q3 q4 m1 m2 m3 m4 m5 rt : Int}
theorem cells (h : Mut13 w B l p bk q1 q2 q3 q4 m1 m2 m3 m4 m5 rt) : w.cell? ⟨B, 0, none⟩ = some (.int .i64 l) ∧ w.cell? ⟨B, 1, none⟩ = some (.int .i64 q1) ∧ w.cell? ⟨B, 2, none⟩ = some (.int .i64 q2) ∧ w.cell? ⟨B, 3, none⟩ = some (.int .i64 q3) ∧ w.cell? ⟨B, 4, none⟩ = some (.int .i64 q4) ∧ w.cell? ⟨B, 5, none⟩ = some (.int .u64 m1) ∧ w.cell? ⟨B, 6, none⟩ = some (.int .u64 m2) ∧ w.cell? ⟨B, 7, none⟩ = some (.int .u64 m3) ∧ w.cell? ⟨B, 8, none⟩ = some (.int .u64 m4) ∧ w.cell? ⟨B, 9, none⟩ = some (.int .u64 m5) ∧ w.cell? ⟨B, 10, none⟩ = some (.int .u64 p) ∧ w.cell? ⟨B, 11, none⟩ = some (.int .i64 bk) ∧ w.cell? ⟨B, 12, none⟩ = some (.int .i64 rt) ∧ (∀ j, w.frozen? ⟨B, j, none⟩ = false) := by
  unfold Mut13 at h
  refine ⟨by simp [World.cell?, h], by simp [World.cell?, h], by simp [World.cell?, h], by simp [World.cell?, h], by simp [World.cell?, h], by simp [World.cell?, h], by simp [World.cell?, h], by simp [World.cell?, h], by simp [World.cell?, h], by simp [World.cell?, h], by simp [World.cell?, h], by simp [World.cell?, h], by simp [World.cell?, h], fun j => by simp [World.frozen?, h]⟩
theorem lt (h : Mut13 w B l p bk q1 q2 q3 q4 m1 m2 m3 m4 m5 rt) : B < w.heap.size := (Array.getElem?_eq_some_iff.1 h).1
theorem other (h : Mut13 w B l p bk q1 q2 q3 q4 m1 m2 m3 m4 m5 rt) (e : w'.heap[B]? = w.heap[B]?) : Mut13 w' B l p bk q1 q2 q3 q4 m1 m2 m3 m4 m5 rt := e.trans h
theorem below (h : Mut13 w B l p bk q1 q2 q3 q4 m1 m2 m3 m4 m5 rt) (hb : Below w.heap.size w w') : Mut13 w' B l p bk q1 q2 q3 q4 m1 m2 m3 m4 m5 rt := h.other (hb.block _ h.lt)
theorem new (w : World) (l p bk q1 q2 q3 q4 m1 m2 m3 m4 m5 rt : Int) : Mut13 (w.alloc (.cells #[.int .i64 l, .int .i64 q1, .int .i64 q2, .int .i64 q3, .int .i64 q4, .int .u64 m1, .int .u64 m2, .int .u64 m3, .int .u64 m4, .int .u64 m5, .int .u64 p, .int .i64 bk, .int .i64 rt] 49)) w.heap.size l p bk q1 q2 q3 q4 m1 m2 m3 m4 m5 rt := newBlock _ _
theorem put (h : Mut13 w B l p bk q1 q2 q3 q4 m1 m2 m3 m4 m5 rt) (l' p' bk' q1' q2' q3' q4' m1' m2' m3' m4' m5' rt' : Int) : Mut13 (put13 w B l' p' bk' q1' q2' q3' q4' m1' m2' m3' m4' m5' rt') B l' p' bk' q1' q2' q3' q4' m1' m2' m3' m4' m5' rt' := by
  unfold Mut13 at *; simp [World.setCell, Array.getElem?_modify, h]
end Mut13
theorem heap_put13 (w : World) (H : Nat) (l p bk q1 q2 q3 q4 m1 m2 m3 m4 m5 rt : Int) {B : Nat} (hB : B ≠ H) : (put13 w H l p bk q1 q2 q3 q4 m1 m2 m3 m4 m5 rt).heap[B]? = w.heap[B]? :=
  (Below.heap_setCell _ _ _ _ hB).trans ((Below.heap_setCell _ _ _ _ hB).trans ((Below.heap_setCell _ _ _ _ hB).trans ((Below.heap_setCell _ _ _ _ hB).trans ((Below.heap_setCell _ _ _ _ hB).trans ((Below.heap_setCell _ _ _ _ hB).trans ((Below.heap_setCell _ _ _ _ hB).trans ((Below.heap_setCell _ _ _ _ hB).trans ((Below.heap_setCell _ _ _ _ hB).trans ((Below.heap_setCell _ _ _ _ hB).trans ((Below.heap_setCell _ _ _ _ hB).trans ((Below.heap_setCell _ _ _ _ hB).trans (Below.heap_setCell _ _ _ _ hB))))))))))))
theorem Sav.put13 {S : Nat → Prop} {w w' : World} (h : Sav S w w') {C : Nat} (hC : S C ∨ w.heap.size ≤ C) (l p bk q1 q2 q3 q4 m1 m2 m3 m4 m5 rt : Int) : Sav S w (put13 w' C l p bk q1 q2 q3 q4 m1 m2 m3 m4 m5 rt) :=
  ((((((((((((h.set (p := ⟨C, 0, none⟩) hC _).set (p := ⟨C, 1, none⟩) hC _).set (p := ⟨C, 2, none⟩) hC _).set (p := ⟨C, 3, none⟩) hC _).set (p := ⟨C, 4, none⟩) hC _).set (p := ⟨C, 5, none⟩) hC _).set (p := ⟨C, 6, none⟩) hC _).set (p := ⟨C, 7, none⟩) hC _).set (p := ⟨C, 8, none⟩) hC _).set (p := ⟨C, 9, none⟩) hC _).set (p := ⟨C, 10, none⟩) hC _).set (p := ⟨C, 11, none⟩) hC _).set (p := ⟨C, 12, none⟩) hC _
theorem HandAt.put13 {w : World} {H A G n : Nat} {f : Nat → Int} {a b c d k i x y o : Int} (h : HandAt w H A G n f a b c d k i x y o) {C : Nat} (h0 : C ≠ H) (h1 : C ≠ A) (h2 : C ≠ G) (l p bk q1 q2 q3 q4 m1 m2 m3 m4 m5 rt : Int) : HandAt (put13 w C l p bk q1 q2 q3 q4 m1 m2 m3 m4 m5 rt) H A G n f a b c d k i x y o :=
  h.other (heap_put13 _ _ _ _ _ _ _ _ _ _ _ _ _ _ _ h0.symm) (heap_put13 _ _ _ _ _ _ _ _ _ _ _ _ _ _ _ h1.symm) (heap_put13 _ _ _ _ _ _ _ _ _ _ _ _ _ _ _ h2.symm)
theorem HandAt.setOther {w : World} {H A G n : Nat} {f : Nat → Int} {a b c d k i x y o : Int} (h : HandAt w H A G n f a b c d k i x y o) {p : Addr} (h0 : p.block ≠ H) (h1 : p.block ≠ A) (h2 : p.block ≠ G) (v : Value) : HandAt (w.setCell p v) H A G n f a b c d k i x y o :=
  h.other (Below.heap_setCell _ _ _ _ h0.symm) (Below.heap_setCell _ _ _ _ h1.symm) (Below.heap_setCell _ _ _ _ h2.symm)
/-- What a step answers. -/
def StPost (w : World) (H A G n : Nat) (f' : Nat → Int) (a b c d k i x y o : Int) (v : Value) (e : Ending) (w' : World) : Prop :=
  e = .returned v ∧ HandAt w' H A G n f' a b c d k i x y o ∧ Sav (HG H G) w w'
theorem sR {X : Nat} {va : Option Addr} {B : Nat} (h1 : B ≠ X) (h2 : ∀ R, va = some ⟨R, 0, none⟩ → R ≠ B) : ¬ RS X va B := by
  rintro (e | e)
  · exact h1 e
  · exact h2 B e rfl
theorem fst_u64 {a b c d : Int} (hr : Right a b c d) (j : Nat) : U64 (fstV a b c d j) := by
  unfold fstV
  by_cases h : (spotF b c d j).1 = 5 ∧ (spotF b c d j).2.1 + 1 < a
  · rw [if_pos h]
    have h0 := spot_five_pos hr j h.1
    have h1 := h.2
    unfold Right at hr
    unfold U64
    omega
  · rw [if_neg h]
    by_cases h2 : (spotF b c d j).1 = 0 ∧ (spotF b c d j).2.1 = 0
    · rw [if_pos h2]; unfold U64; omega
    · rw [if_neg h2]; unfold U64; omega
theorem right0 : Right 2 1 1 0 := by unfold Right; omega
/-- A hand's blocks lie behind what was there. -/
theorem Sav.old {H G : Nat} {w W V : World} (h : Sav (HG H G) W V) (hb : Below w.heap.size w W) (h1 : w.heap.size ≤ H) (h2 : w.heap.size ≤ G) : Below w.heap.size w V :=
  hb.trans (h.below hb.size (fun k hk e => by rcases e with e | e <;> omega))
end Go.Proofs.YtjmbahdlgnobaaaDoor
