/- The places of what there is, in a right configuration. -/
import Derived.Test.YtipkkmmehjdmpaaDoorPlaceAt
namespace Go.Proofs.YtipkkmmehjdmpaaDoor
open Go Go.RowKit
theorem rootP_in {a b c d : Int} (hr : Right a b c d) (j : Int) (h0 : 0 < j) (h1 : j < 1 + d + b * c) : rootP a b c d j = 4 + b + j := by
  have h : (0 ≤ j ∧ j < 1 + d + b * c) ∧ Right a b c d := ⟨by omega, hr⟩
  unfold rootP; rw [if_pos h, if_neg (by omega)]
theorem globP_in {a b c d : Int} (hr : Right a b c d) (g : Int) (h0 : 0 ≤ g) (h1 : g < d) : globP a b c d g = 5 + b + g := by unfold globP; rw [if_pos ⟨⟨h0, h1⟩, hr⟩]
theorem regP_in {a b c d : Int} (hr : Right a b c d) (i r : Int) (h0 : 0 ≤ i) (h1 : i < b) (h2 : 0 ≤ r) (h3 : r < c) : regP a b c d i r = 5 + b + d + i * c + r := by unfold regP; rw [if_pos ⟨⟨⟨h0, h1⟩, h2, h3⟩, hr⟩]
theorem inP_in {a b c d : Int} (hr : Right a b c d) (i : Int) (h0 : 0 ≤ i) (h1 : i < b) : inP a b c d i = 5 + i := by unfold inP; rw [if_pos ⟨⟨h0, h1⟩, hr⟩]
theorem partP_in {a b c d : Int} (hr : Right a b c d) (k i : Int) (h0 : 0 ≤ i) (h1 : i < a) : partP a b c d k i = 5 + b + d + b * c + 3 * i + k := by unfold partP; rw [if_pos ⟨⟨h0, h1⟩, hr⟩]
end Go.Proofs.YtipkkmmehjdmpaaDoor
