/- How far a mutator is, as a value and as cells, beside a hand and the document's. -/
import Derived.Test.YtganbjgkobmdkaaDoorHandCalls
import Derived.Test.YtganbjgkobmdkaaDoorM1
import Derived.Test.YtganbjgkobmdkaaDoorHandNew
namespace Go.Proofs.YtganbjgkobmdkaaDoor
open Go Go.RowKit
set_option maxRecDepth 100000
attribute [local go_sem ↓] Go.wp_at_zero Go.wp_at_succ

theorem HandAt.setOther {w : World} {H A G n : Nat} {f : Nat → Int} {a b c d k i x y o : Int} (h : HandAt w H A G n f a b c d k i x y o) {p : Addr} (h0 : p.block ≠ H) (h1 : p.block ≠ A) (h2 : p.block ≠ G) (v : Value) : HandAt (w.setCell p v) H A G n f a b c d k i x y o :=
  h.other (Below.heap_setCell _ _ _ _ h0.symm) (Below.heap_setCell _ _ _ _ h1.symm) (Below.heap_setCell _ _ _ _ h2.symm)
/-- What a step answers. -/
def StPost (w : World) (H A G n : Nat) (f' : Nat → Int) (a b c d k i x y o : Int) (v : Value) (e : Ending) (w' : World) : Prop :=
  e = .returned v ∧ HandAt w' H A G n f' a b c d k i x y o ∧ Sav (HG H G) w w'
theorem sR {X : Nat} {va : Option Addr} {B : Nat} (h1 : B ≠ X) (h2 : ∀ R, va = some ⟨R, 0, none⟩ → R ≠ B) : ¬ RS X va B := by
  rintro (e | e)
  · exact h1 e
  · exact h2 B e rfl
theorem fst_u64 {a b c d : Int} (hr : Right a b c d) (j : Nat) : U64 (fstV a b c d j) := by
  unfold fstV
  by_cases h : (spotF b c d j).1 = 5 ∧ (spotF b c d j).2.1 + 1 < a
  · rw [if_pos h]
    have h0 := spot_five_pos hr j h.1
    have h1 := h.2
    unfold Right at hr
    unfold U64
    omega
  · rw [if_neg h]
    by_cases h2 : (spotF b c d j).1 = 0 ∧ (spotF b c d j).2.1 = 0
    · rw [if_pos h2]; unfold U64; omega
    · rw [if_neg h2]; unfold U64; omega
theorem right0 : Right 2 1 1 0 := by unfold Right; omega
/-- A hand's blocks lie behind what was there. -/
theorem Sav.old {H G : Nat} {w W V : World} (h : Sav (HG H G) W V) (hb : Below w.heap.size w W) (h1 : w.heap.size ≤ H) (h2 : w.heap.size ≤ G) : Below w.heap.size w V :=
  hb.trans (h.below hb.size (fun k hk e => by rcases e with e | e <;> omega))
end Go.Proofs.YtganbjgkobmdkaaDoor
