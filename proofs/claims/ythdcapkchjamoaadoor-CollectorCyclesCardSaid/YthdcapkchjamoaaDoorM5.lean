/- Laid together: HandRef, HandRefCalls, PlaceSpot, PlaceAll, PlaceIn. -/
import Derived.Test.YthdcapkchjamoaaDoorM4
import Derived.Test.YthdcapkchjamoaaDoorPlaceRef
import Derived.Test.YthdcapkchjamoaaDoorPlaceAt
import Derived.Deep.AppendLies
import Derived.Laws.OwnMore
import Derived.OwnWalk
import Derived.WalkSpells
/- The document's hand: Do, Load, Store, Cas, Add, at every place; Field, of every word and part; the document's Great. -/
namespace Go.Proofs.YthdcapkchjamoaaDoor
open Go Go.RowKit
set_option maxRecDepth 100000
attribute [local go_sem ↓] Go.wp_at_zero Go.wp_at_succ

theorem OnlyO.sav {va : Option Addr} {w w' : World} (h : OnlyO va w w') {S : Nat → Prop} (hs : ∀ k, va = some ⟨k, 0, none⟩ → S k) : Sav S w w' := ⟨h.os, h.tape, h.output, h.size, fun k hk hn => h.block k hk (fun e => hn (hs k e))⟩
/-- What the document's hand may turn. -/
def RS (X : Nat) (va : Option Addr) : Nat → Prop := fun k => k = X ∨ va = some ⟨k, 0, none⟩
theorem MineAt.other {N : Nat} {w w' : World} {va : Option Addr} {n : Nat} {f : Nat → Int} (h : MineAt N w va n f) (e : ∀ R, va = some ⟨R, 0, none⟩ → R < w.heap.size → w'.heap[R]? = w.heap[R]?) : MineAt N w' va n f := by
  rcases h with h | ⟨R, rfl, hR, hr⟩
  · exact .inl h
  · exact .inr ⟨R, rfl, hR, hr.other (e R rfl hr.lt)⟩
/-- The document's hand at X: its configuration, its words, and the access. -/
structure RHandAt (w : World) (X : Nat) (va : Option Addr) (n cap N : Nat) (f : Nat → Int) (a b c d k i x y o : Int) : Prop where
  nL : ∀ R, va = some ⟨R, 0, none⟩ → X ≠ R
  box : w.heap[X]? = some (.cells #[.int .i64 a, .int .i64 b, .int .i64 c, .int .i64 d, .slice va n cap, .int .i64 k, .int .i64 i, .int .u64 x, .int .u64 y, .int .u64 o] 62 (0, 0))
  mine : MineAt N w va n f
namespace RHandAt
variable {w w' : World} {X : Nat} {va : Option Addr} {n cap N : Nat} {f f' : Nat → Int} {a b c d k i x y o : Int}
theorem cells (h : RHandAt w X va n cap N f a b c d k i x y o) : w.cell? ⟨X, 4, none⟩ = some (.slice va n cap) ∧ BoxAt w X a b c d ∧ w.cell? ⟨X, 5, none⟩ = some (.int .i64 k) ∧ w.cell? ⟨X, 6, none⟩ = some (.int .i64 i) ∧ w.cell? ⟨X, 7, none⟩ = some (.int .u64 x) ∧ w.cell? ⟨X, 8, none⟩ = some (.int .u64 y) ∧ w.cell? ⟨X, 9, none⟩ = some (.int .u64 o) ∧ (∀ j, w.frozen? ⟨X, j, none⟩ = false) := by
  have h := h.box
  refine ⟨by simp [World.cell?, h], ⟨by simp [World.cell?, h], by simp [World.cell?, h], by simp [World.cell?, h], by simp [World.cell?, h]⟩, by simp [World.cell?, h], by simp [World.cell?, h], by simp [World.cell?, h], by simp [World.cell?, h], by simp [World.cell?, h], fun j => by simp [World.frozen?, h]⟩
theorem lt (h : RHandAt w X va n cap N f a b c d k i x y o) : X < w.heap.size := (Array.getElem?_eq_some_iff.1 h.box).1
theorem other (h : RHandAt w X va n cap N f a b c d k i x y o) (e1 : w'.heap[X]? = w.heap[X]?) (e2 : ∀ R, va = some ⟨R, 0, none⟩ → R < w.heap.size → w'.heap[R]? = w.heap[R]?) : RHandAt w' X va n cap N f a b c d k i x y o := ⟨h.nL, e1.trans h.box, h.mine.other e2⟩
theorem below (h : RHandAt w X va n cap N f a b c d k i x y o) (hb : Below w.heap.size w w') : RHandAt w' X va n cap N f a b c d k i x y o := h.other (hb.block _ h.lt) (fun R _ hR => hb.block R hR)
theorem drew (h : RHandAt w X va n cap N f a b c d k i x y o) : RHandAt w.drew X va n cap N f a b c d k i x y o := h.other rfl (fun _ _ _ => rfl)
theorem act (h : RHandAt w X va n cap N f a b c d k i x y o) (ho : OnlyO va w w') (hm : MineAt N w' va n f') : RHandAt w' X va n cap N f' a b c d k i x y o := ⟨h.nL, (ho.block X h.lt (fun e => h.nL X e rfl)).trans h.box, hm⟩
theorem put (h : RHandAt w X va n cap N f a b c d k i x y o) {C : Nat} (h0 : X ≠ C) (h1 : ∀ R, va = some ⟨R, 0, none⟩ → R < w.heap.size → R ≠ C) (k' i' x' y' o' : Int) : RHandAt (put5 w C k' i' x' y' o') X va n cap N f a b c d k i x y o :=
  h.other (heap_put5 _ _ _ _ _ _ _ h0) (fun R e hR => heap_put5 _ _ _ _ _ _ _ (h1 R e hR))
theorem note (h : RHandAt w X va n cap N f a b c d k i x y o) (k' i' x' y' o' : Int) : RHandAt (putH w X k' i' x' y' o') X va n cap N f a b c d k' i' x' y' o' := by
  refine ⟨h.nL, ?_, h.mine.other (fun R e _ => heap_putH _ _ _ _ _ _ _ (h.nL R e).symm)⟩
  have h := h.box
  simp [World.setCell, Array.getElem?_modify, h]
end RHandAt
/-- What a call of the document's hand answers. -/
def RPost (w : World) (X : Nat) (va : Option Addr) (n cap N : Nat) (f' : Nat → Int) (a b c d k i x y o : Int) (v : Value) (e : Ending) (w' : World) : Prop :=
  e = .returned v ∧ RHandAt w' X va n cap N f' a b c d k i x y o ∧ Sav (RS X va) w w'
end Go.Proofs.YthdcapkchjamoaaDoor
/- The document's hand: Load, Store, Cas, Add, at every place; Field, of every word and part; the document's Great. -/
namespace Go.Proofs.YthdcapkchjamoaaDoor
open Go Go.RowKit
set_option maxRecDepth 100000
attribute [local go_sem ↓] Go.wp_at_zero Go.wp_at_succ

theorem refIsCell_no (v : Nat) (hv : v < 18446744073709551616) (h : ¬ isC v) (w : World) :
    Calls Tryd.prog 21 #[.int .u64 v] w fun e w' => e = .returned (.int .i64 (-1)) ∧ w = w' := by
  unfold isC at h
  by_cases hp : v % 2 = 0
  · exact refIsCell_even v hv hp w
  · exact refIsCell_other v hv (by omega) (by omega) w
/-- More than is looked at. -/
def grt (a b c d : Int) : Prop := 30 < a ∨ 12 < b ∨ 8 < c ∨ 8 < d
theorem great_1 (a b c d : Int) (h1 : 30 < a) (w : World) :
    Calls Tryd.prog 16 #[.agg #[.int .i64 a, .int .i64 b, .int .i64 c, .int .i64 d]] w fun e w' => e = .returned (.bool true) ∧ Below w.heap.size w w' := by
  go_enter Tryd.func16, Tryd.ntmps16
  go_wp2
  go_ret
  exact ⟨rfl, below_new _ _⟩
theorem great_2 (a b c d : Int) (h1 : ¬ 30 < a) (h2 : 12 < b) (w : World) :
    Calls Tryd.prog 16 #[.agg #[.int .i64 a, .int .i64 b, .int .i64 c, .int .i64 d]] w fun e w' => e = .returned (.bool true) ∧ Below w.heap.size w w' := by
  go_enter Tryd.func16, Tryd.ntmps16
  go_wp2
  go_ret
  exact ⟨rfl, below_new _ _⟩
theorem great_3 (a b c d : Int) (h1 : ¬ 30 < a) (h2 : ¬ 12 < b) (h3 : 8 < c) (w : World) :
    Calls Tryd.prog 16 #[.agg #[.int .i64 a, .int .i64 b, .int .i64 c, .int .i64 d]] w fun e w' => e = .returned (.bool true) ∧ Below w.heap.size w w' := by
  go_enter Tryd.func16, Tryd.ntmps16
  go_wp2
  go_ret
  exact ⟨rfl, below_new _ _⟩
theorem great_4 (a b c d : Int) (h1 : ¬ 30 < a) (h2 : ¬ 12 < b) (h3 : ¬ 8 < c) (h4 : 8 < d) (w : World) :
    Calls Tryd.prog 16 #[.agg #[.int .i64 a, .int .i64 b, .int .i64 c, .int .i64 d]] w fun e w' => e = .returned (.bool true) ∧ Below w.heap.size w w' := by
  go_enter Tryd.func16, Tryd.ntmps16
  go_wp2
  go_ret
  exact ⟨rfl, below_new _ _⟩
theorem great_0 (a b c d : Int) (h1 : ¬ 30 < a) (h2 : ¬ 12 < b) (h3 : ¬ 8 < c) (h4 : ¬ 8 < d) (w : World) :
    Calls Tryd.prog 16 #[.agg #[.int .i64 a, .int .i64 b, .int .i64 c, .int .i64 d]] w fun e w' => e = .returned (.bool false) ∧ Below w.heap.size w w' := by
  go_enter Tryd.func16, Tryd.ntmps16
  go_wp2
  go_ret
  exact ⟨rfl, below_new _ _⟩
theorem great_yes (a b c d : Int) (h : grt a b c d) (w : World) :
    Calls Tryd.prog 16 #[.agg #[.int .i64 a, .int .i64 b, .int .i64 c, .int .i64 d]] w fun e w' => e = .returned (.bool true) ∧ Below w.heap.size w w' := by
  unfold grt at h
  by_cases h1 : 30 < a
  · exact great_1 a b c d h1 w
  by_cases h2 : 12 < b
  · exact great_2 a b c d h1 h2 w
  by_cases h3 : 8 < c
  · exact great_3 a b c d h1 h2 h3 w
  exact great_4 a b c d h1 h2 h3 (by omega) w
theorem great_no (a b c d : Int) (h : ¬ grt a b c d) (w : World) :
    Calls Tryd.prog 16 #[.agg #[.int .i64 a, .int .i64 b, .int .i64 c, .int .i64 d]] w fun e w' => e = .returned (.bool false) ∧ Below w.heap.size w w' := by
  unfold grt at h
  exact great_0 a b c d (by omega) (by omega) (by omega) (by omega) w
end Go.Proofs.YthdcapkchjamoaaDoor
/- What a place is, as the document counts; rows of one's own that lie on. -/
namespace Go.Proofs.YthdcapkchjamoaaDoor
open Go Go.RowKit
set_option maxRecDepth 100000

/-- What lies at a place: its kind, and its numbers. -/
def spotF (b c d n : Int) : Int × Int × Int :=
  if n < 5 then (0, n, 0) else if n < 5 + b then (1, n - 5, 0) else if n < 5 + b + d then (2, n - (5 + b), 0)
  else if n < 5 + b + d + b * c then (3, (n - (5 + b + d)) / c, (n - (5 + b + d)) % c) else (4 + (n - (5 + b + d + b * c)) % 3, (n - (5 + b + d + b * c)) / 3, 0)
theorem ownsRow_below4 {w w' : World} {base : Nat} {e : TypeId} {size : Nat} {v : Value} {n : Nat} {xs : List Value} (h : w.ownsRow base e size v n xs) (hb : Below w.heap.size w w') : w'.ownsRow base e size v n xs :=
  h.kept (row := none) ⟨hb.os, hb.tape, hb.output, hb.size, fun k hk _ => hb.block k hk⟩ (by cases h' : v.ownBlock with | none => exact .inl rfl | some x => exact .inr (by simp))
end Go.Proofs.YthdcapkchjamoaaDoor
/- The document's list of what lies at each place (All), for every configuration: of a right one what spotF tells of each place, in their order; of any other none. -/
namespace Go.Proofs.YthdcapkchjamoaaDoor
open Go Go.RowKit
set_option maxRecDepth 100000

def trip (s : Int × Int × Int) : List Value := [.int .i64 s.1, .int .i64 s.2.1, .int .i64 s.2.2]
def flat (b c d : Int) (n : Nat) : List Value := (List.range n).flatMap fun j : Nat => trip (spotF b c d (j : Int))
theorem flat_succ (b c d : Int) (n : Nat) : flat b c d (n + 1) = flat b c d n ++ trip (spotF b c d n) := by
  unfold flat; rw [List.range_succ, List.flatMap_append]; simp
theorem flat_length (b c d : Int) (n : Nat) : (flat b c d n).length = n * 3 := by
  induction n with
  | zero => rfl
  | succ n ih => rw [flat_succ, List.length_append, ih]; simp [trip]; omega
theorem flat_at (b c d : Int) (n j k : Nat) (hj : j < n) (hk : k < 3) : (flat b c d n)[j * 3 + k]? = (trip (spotF b c d j))[k]? := by
  induction n with
  | zero => omega
  | succ n ih =>
    rw [flat_succ]
    by_cases h : j < n
    · rw [List.getElem?_append_left (by rw [flat_length]; omega)]; exact ih h
    · obtain rfl : j = n := by omega
      rw [List.getElem?_append_right (by rw [flat_length]; omega), flat_length]
      congr 1; omega
theorem spot_once {b c d n : Int} (h : n < 5) : spotF b c d n = (0, n, 0) := by unfold spotF; rw [if_pos h]
theorem spot_in {b c d n : Int} (h : ¬ n < 5) (h1 : n < 5 + b) : spotF b c d n = (1, n - 5, 0) := by unfold spotF; rw [if_neg h, if_pos h1]
theorem spot_glob {b c d n : Int} (h : ¬ n < 5) (h1 : ¬ n < 5 + b) (h2 : n < 5 + b + d) : spotF b c d n = (2, n - (5 + b), 0) := by unfold spotF; rw [if_neg h, if_neg h1, if_pos h2]
theorem spot_reg {a b c d : Int} (hr : Right a b c d) {i r n : Int} (h0 : 0 ≤ i) (h1 : i < b) (h2 : 0 ≤ r) (h3 : r < c) (hn : n = 5 + b + d + i * c + r) : spotF b c d n = (3, i, r) := by
  have hm := prod_lt hr h0 h1 h2 h3
  unfold Right at hr
  have he : n - (5 + b + d) = r + c * i := by rw [hn, Int.mul_comm c i]; omega
  have hdm := (Int.ediv_emod_unique (a := n - (5 + b + d)) (b := c) (r := r) (q := i) (by omega)).2 ⟨he.symm, h2, h3⟩
  unfold spotF; rw [if_neg (by omega), if_neg (by omega), if_neg (by omega), if_pos (by omega), hdm.1, hdm.2]
theorem spot_cell {a b c d : Int} (hr : Right a b c d) {i k n : Int} (h0 : 0 ≤ i) (h2 : 0 ≤ k) (h3 : k < 3) (hn : n = 5 + b + d + b * c + 3 * i + k) : spotF b c d n = (4 + k, i, 0) := by
  have hp := hr.prod
  unfold Right at hr
  unfold spotF; rw [if_neg (by omega), if_neg (by omega), if_neg (by omega), if_neg (by omega)]
  rw [show (n - (5 + b + d + b * c)) % 3 = k by omega, show (n - (5 + b + d + b * c)) / 3 = i by omega]
/-- How far All is: the first n places' spots lie in a row of its own. -/
structure Spots (w wr : World) (v : Value) (a b c d : Int) (n : Nat) : Prop where
  row : wr.ownsRow (w.heap.size + 1) 66 3 v n (flat b c d n)
  old : Below w.heap.size w wr
  box : BoxAt wr w.heap.size a b c d
theorem Spots.add {w wr w2 : World} {v v' : Value} {a b c d : Int} {n m : Nat} {news : List Value} (h : Spots w wr v a b c d n) (o : Obj) (hg : (wr.alloc o).grownBy w2 v.ownBlock)
    (hown : w2.ownsRow (w.heap.size + 1) 66 3 v' (n + m) (flat b c d n ++ news)) (e : flat b c d (n + m) = flat b c d n ++ news) : Spots w w2 v' a b c d (n + m) := by
  have hl := lt_of_cell h.box.1
  have hs : w.heap.size ≤ wr.heap.size := h.old.size
  have hne : some w.heap.size ≠ v.ownBlock := fun e => by have := (h.row.lt _ e.symm).1; omega
  have hb := h.box.below (below_new wr o)
  have k : ∀ j x, (wr.alloc o).cell? ⟨w.heap.size, j, none⟩ = some x → w2.cell? ⟨w.heap.size, j, none⟩ = some x := fun j x hx => by
    rw [hg.cell_far ⟨w.heap.size, j, none⟩ (by simp; omega) hne]; exact hx
  exact ⟨e ▸ hown, (below_on h.old o).grown hg (by simp; omega) (fun j e => by have := (h.row.lt j e).1; omega), ⟨k _ _ hb.1, k _ _ hb.2.1, k _ _ hb.2.2.1, k _ _ hb.2.2.2⟩⟩
theorem infoSpot : (Tryd.prog.info? 66).map (fun i => (i.zero, i.size, i.bytes)) = some (some (.agg #[.int .i64 0, .int .i64 0, .int .i64 0]), 3, 24) := by kernel_rfl
/-- What All answers. -/
def AllPost (w : World) (a b c d : Int) (e : Ending) (w' : World) : Prop :=
  ∃ (g cap n : Nat), e = .returned (.slice (some ⟨g, 0, none⟩) n cap) ∧ (n : Int) = 5 + b + d + b * c + 3 * a ∧ w'.ownsRow (w.heap.size + 1) 66 3 (.slice (some ⟨g, 0, none⟩) n cap) n (flat b c d n) ∧ Below w.heap.size w w'
end Go.Proofs.YthdcapkchjamoaaDoor
/- The places of what there is, in a right configuration. -/
namespace Go.Proofs.YthdcapkchjamoaaDoor
open Go Go.RowKit
theorem rootP_in {a b c d : Int} (hr : Right a b c d) (j : Int) (h0 : 0 < j) (h1 : j < 1 + d + b * c) : rootP a b c d j = 4 + b + j := by
  have h : (0 ≤ j ∧ j < 1 + d + b * c) ∧ Right a b c d := ⟨by omega, hr⟩
  unfold rootP; rw [if_pos h, if_neg (by omega)]
theorem globP_in {a b c d : Int} (hr : Right a b c d) (g : Int) (h0 : 0 ≤ g) (h1 : g < d) : globP a b c d g = 5 + b + g := by unfold globP; rw [if_pos ⟨⟨h0, h1⟩, hr⟩]
theorem regP_in {a b c d : Int} (hr : Right a b c d) (i r : Int) (h0 : 0 ≤ i) (h1 : i < b) (h2 : 0 ≤ r) (h3 : r < c) : regP a b c d i r = 5 + b + d + i * c + r := by unfold regP; rw [if_pos ⟨⟨⟨h0, h1⟩, h2, h3⟩, hr⟩]
theorem inP_in {a b c d : Int} (hr : Right a b c d) (i : Int) (h0 : 0 ≤ i) (h1 : i < b) : inP a b c d i = 5 + i := by unfold inP; rw [if_pos ⟨⟨h0, h1⟩, hr⟩]
theorem partP_in {a b c d : Int} (hr : Right a b c d) (k i : Int) (h0 : 0 ≤ i) (h1 : i < a) : partP a b c d k i = 5 + b + d + b * c + 3 * i + k := by unfold partP; rw [if_pos ⟨⟨h0, h1⟩, hr⟩]
end Go.Proofs.YthdcapkchjamoaaDoor
