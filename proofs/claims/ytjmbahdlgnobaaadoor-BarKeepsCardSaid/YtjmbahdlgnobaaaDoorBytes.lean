/- A slice of bytes that was handed in. -/
import Derived.Test.YtjmbahdlgnobaaaDoorCfg
namespace Go.Proofs.YtjmbahdlgnobaaaDoor
open Go Go.RowKit
/-- A slice of bytes. -/
def BytesAt (w : World) (a : Option Addr) (n : Nat) (f : Nat → Nat) : Prop := n = 0 ∨ ∃ b off, a = some ⟨b, off, none⟩ ∧ b < w.heap.size ∧ ∀ j, j < n → w.cell? ⟨b, off + j, none⟩ = some (.int .u8 (f j : Int))
theorem BytesAt.below {w w' : World} {a : Option Addr} {n : Nat} {f : Nat → Nat} (h : BytesAt w a n f) (hb : Below w.heap.size w w') : BytesAt w' a n f := by
  rcases h with h | ⟨b, off, h1, h2, h3⟩
  · exact .inl h
  · exact .inr ⟨b, off, h1, by have := hb.size; omega, fun j hj => (hb.cell (p := ⟨b, off + j, none⟩) h2).trans (h3 j hj)⟩
def GivenB (W : World) (a : Option Addr) (n : Nat) (f : Nat → Nat) : Prop := n ≤ 9223372036854775807 ∧ BytesAt W a n f ∧ ∀ j, f j < 256
end Go.Proofs.YtjmbahdlgnobaaaDoor
