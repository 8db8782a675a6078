/- The document's Do over a row of words of one's own: an access at a place that is there, of each kind; of no kind; at a place that isn't there. -/
import Derived.Test.YtpieobegcaeopaaDoorArenaDo
namespace Go.Proofs.YtpieobegcaeopaaDoor
open Go Go.RowKit
set_option maxRecDepth 100000
/-- What the document's Do answers at a place that is there. -/
def RefPost (w : World) (R n : Nat) (f' : Nat → Int) (v : Value) (e : Ending) (w' : World) : Prop := e = .returned (.tuple #[v, .bool true]) ∧ RowAt w' R 32 n f' ∧ Only R w w'
theorem ref_same {w : World} {R n : Nat} {f : Nat → Int} (h : RowAt w R 32 n f) (v : Value) (o1 o2 : Obj) : RefPost w R n f v (.returned (.tuple #[v, .bool true])) ((w.alloc o1).alloc o2) :=
  ⟨rfl, (h.below (below_new _ _)).below (below_new _ _), .of (below_on (below_new _ _) _)⟩
theorem ref_set {w : World} {R n : Nat} {f : Nat → Int} (h : RowAt w R 32 n f) (j : Nat) (x : Int) (v : Value) (o1 o2 : Obj) : RefPost w R n (upd f j x) v (.returned (.tuple #[v, .bool true])) (((w.setCell ⟨R, j, none⟩ (.int .u64 x)).alloc o1).alloc o2) :=
  ⟨rfl, ((h.set j x).below (below_new _ _)).below (below_new _ _), ((Only.of (Below.refl _ _)).set (p := ⟨R, j, none⟩) (.inl rfl) _).trans (.of (below_on (below_new _ _) _))⟩
theorem Do_good {A G n : Nat} {f : Nat → Int} {w : World} (hA : ArenaAt w A G n f) (k : Int) (j : Nat) (hj : j < n) (x y o : Int) (hk : 1 ≤ k ∧ k ≤ 4) (hu : U64 (f j)) :
    Calls Tryd.prog 29 #[.pointer (some ⟨A, 0, none⟩), accV k j x y o] w (DoPost w A G n (doF f k j x y) (accV k j x y (f j)) true) := by
  obtain rfl | rfl | rfl | rfl : k = 1 ∨ k = 2 ∨ k = 3 ∨ k = 4 := by omega
  · exact Do_load hA j hj x y o
  · exact Do_store hA j hj x y o
  · by_cases hx : f j = x
    · rw [show doF f 3 j x y = upd f j y by unfold doF; rw [if_neg (by decide), if_pos rfl, if_pos hx]]
      exact Do_hit hA j hj x y o hx
    · rw [show doF f 3 j x y = f by unfold doF; rw [if_neg (by decide), if_pos rfl, if_neg hx]]
      exact Do_miss hA j hj x y o hx
  · exact Do_add hA j hj x y o hu
theorem Do_bad {A G n : Nat} {f : Nat → Int} {w : World} (hA : ArenaAt w A G n f) (k i x y o : Int) (h : ¬ (1 ≤ k ∧ k ≤ 4 ∧ 0 ≤ i ∧ i < n)) :
    Calls Tryd.prog 29 #[.pointer (some ⟨A, 0, none⟩), accV k i x y o] w (DoPost w A G n f (accV 0 0 0 0 0) false) := by
  by_cases hi : 0 ≤ i ∧ i < n
  · obtain ⟨j, rfl⟩ : ∃ j : Nat, i = j := ⟨i.toNat, by omega⟩
    exact Do_none hA k j (by omega) x y o (by omega)
  · exact (Do_out k i x y o (fun W hW => noPlace_out (hA.below hW) hi)).mono fun e w' ⟨h1, h2⟩ => ⟨h1, hA.below h2, .of h2⟩
end Go.Proofs.YtpieobegcaeopaaDoor
