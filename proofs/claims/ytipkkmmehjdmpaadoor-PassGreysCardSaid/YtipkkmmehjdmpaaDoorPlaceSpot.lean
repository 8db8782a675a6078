/- What a place is, as the document counts; rows of one's own that lie on. -/
import Derived.Test.YtipkkmmehjdmpaaDoorPlaceAt
import Derived.Deep.AppendLies
import Derived.Laws.OwnMore
import Derived.OwnWalk
import Derived.WalkSpells
namespace Go.Proofs.YtipkkmmehjdmpaaDoor
open Go Go.RowKit
set_option maxRecDepth 100000

/-- What lies at a place: its kind, and its numbers. -/
def spotF (b c d n : Int) : Int × Int × Int :=
  if n < 5 then (0, n, 0) else if n < 5 + b then (1, n - 5, 0) else if n < 5 + b + d then (2, n - (5 + b), 0)
  else if n < 5 + b + d + b * c then (3, (n - (5 + b + d)) / c, (n - (5 + b + d)) % c) else (4 + (n - (5 + b + d + b * c)) % 3, (n - (5 + b + d + b * c)) / 3, 0)
theorem ownsRow_below4 {w w' : World} {base : Nat} {e : TypeId} {size : Nat} {v : Value} {n : Nat} {xs : List Value} (h : w.ownsRow base e size v n xs) (hb : Below w.heap.size w w') : w'.ownsRow base e size v n xs :=
  h.kept (row := none) ⟨hb.os, hb.tape, hb.output, hb.size, fun k hk _ => hb.block k hk⟩ (by cases h' : v.ownBlock with | none => exact .inl rfl | some x => exact .inr (by simp))
end Go.Proofs.YtipkkmmehjdmpaaDoor
