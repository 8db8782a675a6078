/- What the rows of this seat share: a slice of words that was read, as an argument. -/
import Derived.Test.YtnklmklknphojaaRows
import Derived.Test.YtnklmklknphojaaArenaRows
import Derived.ProofKit
import Derived.OpenShut
import Derived.Below
import Derived.ChangeSame
import Derived.JoinedOf
import Derived.SizedLaws
import Derived.Carry
import Derived.Laws.Entries
namespace Go.Proofs.Ytnklmklknphojaa
open Go Go.ChangeShapes Go.WideShapes Go.ChangeAt Go.WideMaps Go.WideElems Go.RowKit
theorem own : ownKnob Try.prog.godebug = none := by kernel_rfl
theorem laidOut : laidOutB Try.prog = true := by kernel_rfl
theorem cellsWord : Try.prog.cellsOf 29 = 1 := by kernel_rfl
theorem u64_of {x : Int} (h : (Lit.int .u64 x).wf = true) : U64 x := by have := bounds_u64 h; unfold U64; omega
/-- Words that were handed in. -/
def Given (W : World) (a : Option Addr) (n cap : Nat) (f : Nat → Int) : Prop := n ≤ 9223372036854775807 ∧ WordsAt W a n f ∧ (∀ j, U64 (f j)) ∧ (a = none → n = 0 ∧ cap = 0)
theorem given_of {H : Type} {enc : TypeId × Value → H} {W : World} {base b0 : Nat} {r : Reach} {v : Value} {d : DataW H} {p : List MemPlace}
    (hval : Value.okWide Try.prog W r b0 22 v) (h : DataW.Trod enc Try.prog W base (fun _ => true) true 22 v d p) :
    ∃ a n cap f, v = .slice a n cap ∧ Given W a n cap f := by
  obtain ⟨a0, len0, cap0, rfl⟩ := okWide_slice Try.underlying22 hval
  obtain ⟨fuel, hf⟩ := h
  rcases open_ints Try.underlying22 Try.underlying29 cellsWord hf with ⟨hcs, _⟩ | ⟨x, l, c, zs, hcs, _, hl, hm, hz, _, hcell, hwz⟩
  · simp [Value.cells] at hcs
    obtain ⟨rfl, rfl, rfl⟩ := hcs
    exact ⟨none, 0, 0, fun _ => 0, rfl, by omega, .inl rfl, fun _ => ⟨Int.le_refl 0, show (0 : Int) < 18446744073709551616 by decide⟩, fun _ => ⟨rfl, rfl⟩⟩
  · simp [Value.cells] at hcs
    obtain ⟨rfl, rfl, rfl⟩ := hcs
    refine ⟨some x, len0, cap0, fun j => zs[j]?.getD 0, rfl, by unfold maxLen at hm; omega, ?_, fun j => (by have := range_u64 hwz j; unfold U64; omega : U64 (zs[j]?.getD 0)), fun e => by cases e⟩
    have hz' : cap0 = zs.length := by simpa using hz.symm
    by_cases h0 : len0 = 0
    · exact .inl h0
    · obtain ⟨b, off, rfl, hc'⟩ := ints_at hcell (show 0 < zs.length by omega)
      exact .inr ⟨b, off, rfl, lt_of_cell (hc' 0 (by omega)), fun j hj => by rw [hc' j (by omega)]; simp [List.getD]⟩
end Go.Proofs.Ytnklmklknphojaa
