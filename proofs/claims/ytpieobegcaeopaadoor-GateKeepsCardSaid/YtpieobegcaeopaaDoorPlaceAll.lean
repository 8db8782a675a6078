/- The document's list of what lies at each place (All), for every configuration: of a right one what spotF tells of each place, in their order; of any other none. -/
import Derived.Test.YtpieobegcaeopaaDoorPlaceRef
import Derived.Test.YtpieobegcaeopaaDoorPlaceSpot
namespace Go.Proofs.YtpieobegcaeopaaDoor
open Go Go.RowKit
set_option maxRecDepth 100000

def trip (s : Int × Int × Int) : List Value := [.int .i64 s.1, .int .i64 s.2.1, .int .i64 s.2.2]
def flat (b c d : Int) (n : Nat) : List Value := (List.range n).flatMap fun j : Nat => trip (spotF b c d (j : Int))
theorem flat_succ (b c d : Int) (n : Nat) : flat b c d (n + 1) = flat b c d n ++ trip (spotF b c d n) := by
  unfold flat; rw [List.range_succ, List.flatMap_append]; simp
theorem flat_length (b c d : Int) (n : Nat) : (flat b c d n).length = n * 3 := by
  induction n with
  | zero => rfl
  | succ n ih => rw [flat_succ, List.length_append, ih]; simp [trip]; omega
theorem flat_at (b c d : Int) (n j k : Nat) (hj : j < n) (hk : k < 3) : (flat b c d n)[j * 3 + k]? = (trip (spotF b c d j))[k]? := by
  induction n with
  | zero => omega
  | succ n ih =>
    rw [flat_succ]
    by_cases h : j < n
    · rw [List.getElem?_append_left (by rw [flat_length]; omega)]; exact ih h
    · obtain rfl : j = n := by omega
      rw [List.getElem?_append_right (by rw [flat_length]; omega), flat_length]
      congr 1; omega
theorem spot_once {b c d n : Int} (h : n < 5) : spotF b c d n = (0, n, 0) := by unfold spotF; rw [if_pos h]
theorem spot_in {b c d n : Int} (h : ¬ n < 5) (h1 : n < 5 + b) : spotF b c d n = (1, n - 5, 0) := by unfold spotF; rw [if_neg h, if_pos h1]
theorem spot_glob {b c d n : Int} (h : ¬ n < 5) (h1 : ¬ n < 5 + b) (h2 : n < 5 + b + d) : spotF b c d n = (2, n - (5 + b), 0) := by unfold spotF; rw [if_neg h, if_neg h1, if_pos h2]
theorem spot_reg {a b c d : Int} (hr : Right a b c d) {i r n : Int} (h0 : 0 ≤ i) (h1 : i < b) (h2 : 0 ≤ r) (h3 : r < c) (hn : n = 5 + b + d + i * c + r) : spotF b c d n = (3, i, r) := by
  have hm := prod_lt hr h0 h1 h2 h3
  unfold Right at hr
  have he : n - (5 + b + d) = r + c * i := by rw [hn, Int.mul_comm c i]; omega
  have hdm := (Int.ediv_emod_unique (a := n - (5 + b + d)) (b := c) (r := r) (q := i) (by omega)).2 ⟨he.symm, h2, h3⟩
  unfold spotF; rw [if_neg (by omega), if_neg (by omega), if_neg (by omega), if_pos (by omega), hdm.1, hdm.2]
theorem spot_cell {a b c d : Int} (hr : Right a b c d) {i k n : Int} (h0 : 0 ≤ i) (h2 : 0 ≤ k) (h3 : k < 3) (hn : n = 5 + b + d + b * c + 3 * i + k) : spotF b c d n = (4 + k, i, 0) := by
  have hp := hr.prod
  unfold Right at hr
  unfold spotF; rw [if_neg (by omega), if_neg (by omega), if_neg (by omega), if_neg (by omega)]
  rw [show (n - (5 + b + d + b * c)) % 3 = k by omega, show (n - (5 + b + d + b * c)) / 3 = i by omega]
end Go.Proofs.YtpieobegcaeopaaDoor
