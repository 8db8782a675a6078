/- The document's list of what lies at each place (All), for every configuration: of a right one what spotF tells of each place, in their order; of any other none. -/
import Derived.Test.YtipkkmmehjdmpaaDoorPlaceRef
import Derived.Test.YtipkkmmehjdmpaaDoorPlaceSpot
namespace Go.Proofs.YtipkkmmehjdmpaaDoor
open Go Go.RowKit
set_option maxRecDepth 100000

def trip (s : Int × Int × Int) : List Value := [.int .i64 s.1, .int .i64 s.2.1, .int .i64 s.2.2]
def flat (b c d : Int) (n : Nat) : List Value := (List.range n).flatMap fun j : Nat => trip (spotF b c d (j : Int))
theorem flat_succ (b c d : Int) (n : Nat) : flat b c d (n + 1) = flat b c d n ++ trip (spotF b c d n) := by
  unfold flat; rw [List.range_succ, List.flatMap_append]; simp
theorem flat_length (b c d : Int) (n : Nat) : (flat b c d n).length = n * 3 := by
  induction n with
  | zero => rfl
  | succ n ih => rw [flat_succ, List.length_append, ih]; simp [trip]; omega
theorem flat_at (b c d : Int) (n j k : Nat) (hj : j < n) (hk : k < 3) : (flat b c d n)[j * 3 + k]? = (trip (spotF b c d j))[k]? := by
  induction n with
  | zero => omega
  | succ n ih =>
    rw [flat_succ]
    by_cases h : j < n
    · rw [List.getElem?_append_left (by rw [flat_length]; omega)]; exact ih h
    · obtain rfl : j = n := by omega
      rw [List.getElem?_append_right (by rw [flat_length]; omega), flat_length]
      congr 1; omega
theorem spot_once {b c d n : Int} (h : n < 5) : spotF b c d n = (0, n, 0) := by unfold spotF; rw [if_pos h]
theorem spot_in {b c d n : Int} (h : ¬ n < 5) (h1 : n < 5 + b) : spotF b c d n = (1, n - 5, 0) := by unfold spotF; rw [if_neg h, if_pos h1]
theorem spot_glob {b c d n : Int} (h : ¬ n < 5) (h1 : ¬ n < 5 + b) (h2 : n < 5 + b + d) : spotF b c d n = (2, n - (5 + b), 0) := by unfold spotF; rw [if_neg h, if_neg h1, if_pos h2]
theorem spot_reg {a b c d : Int} (hr : Right a b c d) {i r n : Int} (h0 : 0 ≤ i) (h1 : i < b) (h2 : 0 ≤ r) (h3 : r < c) (hn : n = 5 + b + d + i * c + r) : spotF b c d n = (3, i, r) := by
  have hm := prod_lt hr h0 h1 h2 h3
  unfold Right at hr
  have he : n - (5 + b + d) = r + c * i := by rw [hn, Int.mul_comm c i]; omega
  have hdm := (Int.ediv_emod_unique (a := n - (5 + b + d)) (b := c) (r := r) (q := i) (by omega)).2 ⟨he.symm, h2, h3⟩
  unfold spotF; rw [if_neg (by omega), if_neg (by omega), if_neg (by omega), if_pos (by omega), hdm.1, hdm.2]
theorem spot_cell {a b c d : Int} (hr : Right a b c d) {i k n : Int} (h0 : 0 ≤ i) (h2 : 0 ≤ k) (h3 : k < 3) (hn : n = 5 + b + d + b * c + 3 * i + k) : spotF b c d n = (4 + k, i, 0) := by
  have hp := hr.prod
  unfold Right at hr
  unfold spotF; rw [if_neg (by omega), if_neg (by omega), if_neg (by omega), if_neg (by omega)]
  rw [show (n - (5 + b + d + b * c)) % 3 = k by omega, show (n - (5 + b + d + b * c)) / 3 = i by omega]
/-- How far All is: the first n places' spots lie in a row of its own. -/
structure Spots (w wr : World) (v : Value) (a b c d : Int) (n : Nat) : Prop where
  row : wr.ownsRow (w.heap.size + 1) 57 3 v n (flat b c d n)
  old : Below w.heap.size w wr
  box : BoxAt wr w.heap.size a b c d
theorem Spots.add {w wr w2 : World} {v v' : Value} {a b c d : Int} {n m : Nat} {news : List Value} (h : Spots w wr v a b c d n) (o : Obj) (hg : (wr.alloc o).grownBy w2 v.ownBlock)
    (hown : w2.ownsRow (w.heap.size + 1) 57 3 v' (n + m) (flat b c d n ++ news)) (e : flat b c d (n + m) = flat b c d n ++ news) : Spots w w2 v' a b c d (n + m) := by
  have hl := lt_of_cell h.box.1
  have hs : w.heap.size ≤ wr.heap.size := h.old.size
  have hne : some w.heap.size ≠ v.ownBlock := fun e => by have := (h.row.lt _ e.symm).1; omega
  have hb := h.box.below (below_new wr o)
  have k : ∀ j x, (wr.alloc o).cell? ⟨w.heap.size, j, none⟩ = some x → w2.cell? ⟨w.heap.size, j, none⟩ = some x := fun j x hx => by
    rw [hg.cell_far ⟨w.heap.size, j, none⟩ (by simp; omega) hne]; exact hx
  exact ⟨e ▸ hown, (below_on h.old o).grown hg (by simp; omega) (fun j e => by have := (h.row.lt j e).1; omega), ⟨k _ _ hb.1, k _ _ hb.2.1, k _ _ hb.2.2.1, k _ _ hb.2.2.2⟩⟩
theorem infoSpot : (Tryd.prog.info? 57).map (fun i => (i.zero, i.size, i.bytes)) = some (some (.agg #[.int .i64 0, .int .i64 0, .int .i64 0]), 3, 24) := by kernel_rfl
/-- What All answers. -/
def AllPost (w : World) (a b c d : Int) (e : Ending) (w' : World) : Prop :=
  ∃ (g cap n : Nat), e = .returned (.slice (some ⟨g, 0, none⟩) n cap) ∧ (n : Int) = 5 + b + d + b * c + 3 * a ∧ w'.ownsRow (w.heap.size + 1) 57 3 (.slice (some ⟨g, 0, none⟩) n cap) n (flat b c d n) ∧ Below w.heap.size w w'
end Go.Proofs.YtipkkmmehjdmpaaDoor
