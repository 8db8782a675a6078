/- Laid together: HandRefCalls, PlaceSpot, PlaceAll, PlaceIn. -/
import Derived.Test.YthdcapkchjamoaaGreatDoorHandRef
import Derived.Test.YthdcapkchjamoaaGreatDoorPlaceAt
import Derived.Deep.AppendLies
import Derived.Laws.OwnMore
import Derived.OwnWalk
import Derived.WalkSpells
import Derived.Test.YthdcapkchjamoaaGreatDoorPlaceRef
/- The document's hand: Load, Store, Cas, Add, at every place; Field, of every word and part; the document's Great. -/
namespace Go.Proofs.YthdcapkchjamoaaGreatDoor
open Go Go.RowKit
set_option maxRecDepth 100000
attribute [local go_sem ↓] Go.wp_at_zero Go.wp_at_succ

theorem rLoad_c {X : Nat} {va : Option Addr} {n cap N : Nat} {f : Nat → Int} {a b c d k0 i0 x0 y0 o0 : Int} {w : World} (hH : RHandAt w X va n cap N f a b c d k0 i0 x0 y0 o0) (hL : ∀ R, va = some ⟨R, 0, none⟩ → R < w.heap.size) (i : Int) :
    Calls Tryz.prog 48 #[.pointer (some ⟨X, 0, none⟩), .int .i64 i] w (RPost w X va n cap N (wordsQ n f 1 i 0 0) a b c d (z5 n 1 i 1) (z5 n 1 i i) (z5 n 1 i 0) (z5 n 1 i 0) (z5 n 1 i (f i.toNat)) (.int .u64 (z5 n 1 i (f i.toNat)))) := by
  have HN := Lib.hid (rDo_c hH hL 1 i 0 0 0)
  generalize wordsQ n f 1 i 0 0 = f' at *
  generalize z5 n 1 i 1 = K1 at *
  generalize z5 n 1 i i = I1 at *
  generalize z5 n 1 i 0 = X1 at *
  generalize z5 n 1 i (f i.toNat) = O1 at *
  clear hH hL
  go_enter Tryz.func48, Tryz.ntmps48
  go_wp2_with fail
  refine HN.out.mono ?_
  rintro e W ⟨rfl, hF, hs⟩
  have HF := Lib.hid hF; have HQ := Lib.hid hs; clear hF hs HN
  go_wp2_with fail
  go_ret
  exact ⟨rfl, HF.out, HQ.out⟩
theorem rStore_c {X : Nat} {va : Option Addr} {n cap N : Nat} {f : Nat → Int} {a b c d k0 i0 x0 y0 o0 : Int} {w : World} (hH : RHandAt w X va n cap N f a b c d k0 i0 x0 y0 o0) (hL : ∀ R, va = some ⟨R, 0, none⟩ → R < w.heap.size) (i x : Int) :
    Calls Tryz.prog 53 #[.pointer (some ⟨X, 0, none⟩), .int .i64 i, .int .u64 x] w (RPost w X va n cap N (wordsQ n f 2 i x 0) a b c d (z5 n 2 i 2) (z5 n 2 i i) (z5 n 2 i x) (z5 n 2 i 0) (z5 n 2 i (f i.toNat)) (.tuple #[])) := by
  have HN := Lib.hid (rDo_c hH hL 2 i x 0 0)
  generalize wordsQ n f 2 i x 0 = f' at *
  generalize z5 n 2 i 2 = K1 at *
  generalize z5 n 2 i i = I1 at *
  generalize z5 n 2 i x = X1 at *
  generalize z5 n 2 i 0 = Y1 at *
  generalize z5 n 2 i (f i.toNat) = O1 at *
  clear hH hL
  go_enter Tryz.func53, Tryz.ntmps53
  go_wp2_with fail
  refine HN.out.mono ?_
  rintro e W ⟨rfl, hF, hs⟩
  have HF := Lib.hid hF; have HQ := Lib.hid hs; clear hF hs HN
  go_wp2_with fail
  go_end0
  exact ⟨rfl, HF.out, HQ.out⟩
theorem rCas_c {X : Nat} {va : Option Addr} {n cap N : Nat} {f : Nat → Int} {a b c d k0 i0 x0 y0 o0 : Int} {w : World} (hH : RHandAt w X va n cap N f a b c d k0 i0 x0 y0 o0) (hL : ∀ R, va = some ⟨R, 0, none⟩ → R < w.heap.size) (i x y : Int) :
    Calls Tryz.prog 51 #[.pointer (some ⟨X, 0, none⟩), .int .i64 i, .int .u64 x, .int .u64 y] w (RPost w X va n cap N (wordsQ n f 3 i x y) a b c d (z5 n 3 i 3) (z5 n 3 i i) (z5 n 3 i x) (z5 n 3 i y) (z5 n 3 i (f i.toNat)) (.bool (casB n f i x))) := by
  have HN := Lib.hid (rDo_c hH hL 3 i x y 0)
  by_cases h : okD n 3 i
  · have hz : casB n f i x = (z5 n 3 i (f i.toNat) == x) := by unfold casB z5; rw [decide_eq_true h, if_pos h, Bool.true_and]
    have h3 : z5 n 3 i 3 = 3 := by unfold z5; rw [if_pos h]
    rw [h3] at HN
    rw [hz, h3]; clear hz h3
    generalize wordsQ n f 3 i x y = f' at *
    generalize z5 n 3 i i = I1 at *
    generalize z5 n 3 i x = X1 at *
    generalize z5 n 3 i y = Y1 at *
    generalize z5 n 3 i (f i.toNat) = O1 at *
    clear hH hL h
    go_enter Tryz.func51, Tryz.ntmps51
    go_wp2_with fail
    refine HN.out.mono ?_
    rintro e W ⟨rfl, hF, hs⟩
    have HF := Lib.hid hF; have HQ := Lib.hid hs; clear hF hs HN
    obtain ⟨_, _, h5, _⟩ := HF.out.cells
    go_wp2_with fail
    go_ret
    exact ⟨rfl, HF.out, HQ.out⟩
  · have hz : casB n f i x = false := by unfold casB; rw [decide_eq_false h, Bool.false_and]
    have h3 : z5 n 3 i 3 = 0 := by unfold z5; rw [if_neg h]
    rw [h3] at HN
    rw [hz, h3]; clear hz h3
    generalize wordsQ n f 3 i x y = f' at *
    generalize z5 n 3 i i = I1 at *
    generalize z5 n 3 i x = X1 at *
    generalize z5 n 3 i y = Y1 at *
    generalize z5 n 3 i (f i.toNat) = O1 at *
    clear hH hL h
    go_enter Tryz.func51, Tryz.ntmps51
    go_wp2_with fail
    refine HN.out.mono ?_
    rintro e W ⟨rfl, hF, hs⟩
    have HF := Lib.hid hF; have HQ := Lib.hid hs; clear hF hs HN
    obtain ⟨_, _, h5, _⟩ := HF.out.cells
    go_wp2_with fail
    go_ret
    exact ⟨rfl, HF.out, HQ.out⟩
theorem refIsCell_no (v : Nat) (hv : v < 18446744073709551616) (h : ¬ isC v) (w : World) :
    Calls Tryz.prog 50 #[.int .u64 v] w fun e w' => e = .returned (.int .i64 (-1)) ∧ w = w' := by
  unfold isC at h
  by_cases hp : v % 2 = 0
  · exact refIsCell_even v hv hp w
  · exact refIsCell_other v hv (by omega) (by omega) w
theorem rField_c {X : Nat} {va : Option Addr} {n cap N : Nat} {f : Nat → Int} {a b c d k0 i0 x0 y0 o0 : Int} {w : World} (hH : RHandAt w X va n cap N f a b c d k0 i0 x0 y0 o0) (hr : Right a b c d) (v : Nat) (hv : v < 18446744073709551616) (p : Int) :
    Calls Tryz.prog 52 #[.pointer (some ⟨X, 0, none⟩), .int .u64 v, .int .i64 p] w fun e w' => e = .returned (.int .i64 (fieldP a b c d v p)) ∧ Below w.heap.size w w' := by
  obtain ⟨_, ⟨h1, h2, h3, h4⟩, _⟩ := hH.cells
  clear hH
  by_cases h : isC v
  · have HI := Lib.hid (refIsCell_cell v h.2 h.1 w)
    generalize hm : v / 2 = m at *
    by_cases h0 : p = 0 ∨ p = 1 ∨ p = 2
    · have HE : Hid (fieldP a b c d v p = partP a b c d p (m : Int)) := Lib.hid (by unfold fieldP; rw [if_pos ⟨h, by omega⟩, hm])
      generalize fieldP a b c d v p = R at *
      clear hm h
      rcases h0 with rfl | rfl | rfl
      · have HP := Lib.hid (refAt_car a b c d (m : Int) hr w)
        rw [← HE.out] at HP
        clear HE hr
        go_enter Tryz.func52, Tryz.ntmps52
        go_wp2_with fail
        refine HI.out.mono ?_
        rintro e W ⟨rfl, rfl⟩
        go_wp2_with fail
        refine HP.out.mono ?_
        rintro e W ⟨rfl, hW⟩
        have HB := Lib.hid hW; clear hW
        go_wp2_with fail
        go_ret
        exact ⟨rfl, HB.out⟩
      · have HP := Lib.hid (refAt_cdr a b c d (m : Int) hr w)
        rw [← HE.out] at HP
        clear HE hr
        go_enter Tryz.func52, Tryz.ntmps52
        go_wp2_with fail
        refine HI.out.mono ?_
        rintro e W ⟨rfl, rfl⟩
        go_wp2_with fail
        refine HP.out.mono ?_
        rintro e W ⟨rfl, hW⟩
        have HB := Lib.hid hW; clear hW
        go_wp2_with fail
        go_ret
        exact ⟨rfl, HB.out⟩
      · have HP := Lib.hid (refAt_colour a b c d (m : Int) hr w)
        rw [← HE.out] at HP
        clear HE hr
        go_enter Tryz.func52, Tryz.ntmps52
        go_wp2_with fail
        refine HI.out.mono ?_
        rintro e W ⟨rfl, rfl⟩
        go_wp2_with fail
        refine HP.out.mono ?_
        rintro e W ⟨rfl, hW⟩
        have HB := Lib.hid hW; clear hW
        go_wp2_with fail
        go_ret
        exact ⟨rfl, HB.out⟩
    · have HE : Hid (fieldP a b c d v p = -1) := Lib.hid (by unfold fieldP; rw [if_neg (fun h' => h0 (by omega))])
      generalize fieldP a b c d v p = R at *
      by_cases hp : p < 0
      · clear hm h hr h0
        go_enter Tryz.func52, Tryz.ntmps52
        go_wp2_with fail
        refine HI.out.mono ?_
        rintro e W ⟨rfl, rfl⟩
        go_wp2_with fail
        go_ret
        exact ⟨by rw [HE.out]; rfl, Below.refl _ _⟩
      · have hp2 : 2 < p := by omega
        clear hm h hr h0
        go_enter Tryz.func52, Tryz.ntmps52
        go_wp2_with fail
        refine HI.out.mono ?_
        rintro e W ⟨rfl, rfl⟩
        go_wp2_with fail
        go_ret
        exact ⟨by rw [HE.out]; rfl, Below.refl _ _⟩
  · have HI := Lib.hid (refIsCell_no v hv h w)
    have HE : Hid (fieldP a b c d v p = -1) := Lib.hid (by unfold fieldP; rw [if_neg (fun h' => h h'.1)])
    generalize fieldP a b c d v p = R at *
    clear h hr
    go_enter Tryz.func52, Tryz.ntmps52
    go_wp2_with fail
    refine HI.out.mono ?_
    rintro e W ⟨rfl, rfl⟩
    go_wp2_with fail
    go_ret
    exact ⟨by rw [HE.out]; rfl, Below.refl _ _⟩
/-- More than is looked at. -/
def grt (a b c d : Int) : Prop := 30 < a ∨ 12 < b ∨ 8 < c ∨ 8 < d
theorem great_1 (a b c d : Int) (h1 : 30 < a) (w : World) :
    Calls Tryz.prog 19 #[.agg #[.int .i64 a, .int .i64 b, .int .i64 c, .int .i64 d]] w fun e w' => e = .returned (.bool true) ∧ Below w.heap.size w w' := by
  go_enter Tryz.func19, Tryz.ntmps19
  go_wp2
  go_ret
  exact ⟨rfl, below_new _ _⟩
theorem great_2 (a b c d : Int) (h1 : ¬ 30 < a) (h2 : 12 < b) (w : World) :
    Calls Tryz.prog 19 #[.agg #[.int .i64 a, .int .i64 b, .int .i64 c, .int .i64 d]] w fun e w' => e = .returned (.bool true) ∧ Below w.heap.size w w' := by
  go_enter Tryz.func19, Tryz.ntmps19
  go_wp2
  go_ret
  exact ⟨rfl, below_new _ _⟩
theorem great_3 (a b c d : Int) (h1 : ¬ 30 < a) (h2 : ¬ 12 < b) (h3 : 8 < c) (w : World) :
    Calls Tryz.prog 19 #[.agg #[.int .i64 a, .int .i64 b, .int .i64 c, .int .i64 d]] w fun e w' => e = .returned (.bool true) ∧ Below w.heap.size w w' := by
  go_enter Tryz.func19, Tryz.ntmps19
  go_wp2
  go_ret
  exact ⟨rfl, below_new _ _⟩
theorem great_4 (a b c d : Int) (h1 : ¬ 30 < a) (h2 : ¬ 12 < b) (h3 : ¬ 8 < c) (h4 : 8 < d) (w : World) :
    Calls Tryz.prog 19 #[.agg #[.int .i64 a, .int .i64 b, .int .i64 c, .int .i64 d]] w fun e w' => e = .returned (.bool true) ∧ Below w.heap.size w w' := by
  go_enter Tryz.func19, Tryz.ntmps19
  go_wp2
  go_ret
  exact ⟨rfl, below_new _ _⟩
theorem great_0 (a b c d : Int) (h1 : ¬ 30 < a) (h2 : ¬ 12 < b) (h3 : ¬ 8 < c) (h4 : ¬ 8 < d) (w : World) :
    Calls Tryz.prog 19 #[.agg #[.int .i64 a, .int .i64 b, .int .i64 c, .int .i64 d]] w fun e w' => e = .returned (.bool false) ∧ Below w.heap.size w w' := by
  go_enter Tryz.func19, Tryz.ntmps19
  go_wp2
  go_ret
  exact ⟨rfl, below_new _ _⟩
theorem great_yes (a b c d : Int) (h : grt a b c d) (w : World) :
    Calls Tryz.prog 19 #[.agg #[.int .i64 a, .int .i64 b, .int .i64 c, .int .i64 d]] w fun e w' => e = .returned (.bool true) ∧ Below w.heap.size w w' := by
  unfold grt at h
  by_cases h1 : 30 < a
  · exact great_1 a b c d h1 w
  by_cases h2 : 12 < b
  · exact great_2 a b c d h1 h2 w
  by_cases h3 : 8 < c
  · exact great_3 a b c d h1 h2 h3 w
  exact great_4 a b c d h1 h2 h3 (by omega) w
theorem great_no (a b c d : Int) (h : ¬ grt a b c d) (w : World) :
    Calls Tryz.prog 19 #[.agg #[.int .i64 a, .int .i64 b, .int .i64 c, .int .i64 d]] w fun e w' => e = .returned (.bool false) ∧ Below w.heap.size w w' := by
  unfold grt at h
  exact great_0 a b c d (by omega) (by omega) (by omega) (by omega) w
end Go.Proofs.YthdcapkchjamoaaGreatDoor
/- What a place is, as the document counts; rows of one's own that lie on. -/
namespace Go.Proofs.YthdcapkchjamoaaGreatDoor
open Go Go.RowKit
set_option maxRecDepth 100000

/-- What lies at a place: its kind, and its numbers. -/
def spotF (b c d n : Int) : Int × Int × Int :=
  if n < 5 then (0, n, 0) else if n < 5 + b then (1, n - 5, 0) else if n < 5 + b + d then (2, n - (5 + b), 0)
  else if n < 5 + b + d + b * c then (3, (n - (5 + b + d)) / c, (n - (5 + b + d)) % c) else (4 + (n - (5 + b + d + b * c)) % 3, (n - (5 + b + d + b * c)) / 3, 0)
theorem ownsRow_below4 {w w' : World} {base : Nat} {e : TypeId} {size : Nat} {v : Value} {n : Nat} {xs : List Value} (h : w.ownsRow base e size v n xs) (hb : Below w.heap.size w w') : w'.ownsRow base e size v n xs :=
  h.kept (row := none) ⟨hb.os, hb.tape, hb.output, hb.size, fun k hk _ => hb.block k hk⟩ (by cases h' : v.ownBlock with | none => exact .inl rfl | some x => exact .inr (by simp))
end Go.Proofs.YthdcapkchjamoaaGreatDoor
/- The document's list of what lies at each place (All), for every configuration: of a right one what spotF tells of each place, in their order; of any other none. -/
namespace Go.Proofs.YthdcapkchjamoaaGreatDoor
open Go Go.RowKit
set_option maxRecDepth 100000

def trip (s : Int × Int × Int) : List Value := [.int .i64 s.1, .int .i64 s.2.1, .int .i64 s.2.2]
def flat (b c d : Int) (n : Nat) : List Value := (List.range n).flatMap fun j : Nat => trip (spotF b c d (j : Int))
theorem flat_succ (b c d : Int) (n : Nat) : flat b c d (n + 1) = flat b c d n ++ trip (spotF b c d n) := by
  unfold flat; rw [List.range_succ, List.flatMap_append]; simp
theorem flat_length (b c d : Int) (n : Nat) : (flat b c d n).length = n * 3 := by
  induction n with
  | zero => rfl
  | succ n ih => rw [flat_succ, List.length_append, ih]; simp [trip]; omega
theorem flat_at (b c d : Int) (n j k : Nat) (hj : j < n) (hk : k < 3) : (flat b c d n)[j * 3 + k]? = (trip (spotF b c d j))[k]? := by
  induction n with
  | zero => omega
  | succ n ih =>
    rw [flat_succ]
    by_cases h : j < n
    · rw [List.getElem?_append_left (by rw [flat_length]; omega)]; exact ih h
    · obtain rfl : j = n := by omega
      rw [List.getElem?_append_right (by rw [flat_length]; omega), flat_length]
      congr 1; omega
theorem spot_once {b c d n : Int} (h : n < 5) : spotF b c d n = (0, n, 0) := by unfold spotF; rw [if_pos h]
theorem spot_in {b c d n : Int} (h : ¬ n < 5) (h1 : n < 5 + b) : spotF b c d n = (1, n - 5, 0) := by unfold spotF; rw [if_neg h, if_pos h1]
theorem spot_glob {b c d n : Int} (h : ¬ n < 5) (h1 : ¬ n < 5 + b) (h2 : n < 5 + b + d) : spotF b c d n = (2, n - (5 + b), 0) := by unfold spotF; rw [if_neg h, if_neg h1, if_pos h2]
theorem spot_reg {a b c d : Int} (hr : Right a b c d) {i r n : Int} (h0 : 0 ≤ i) (h1 : i < b) (h2 : 0 ≤ r) (h3 : r < c) (hn : n = 5 + b + d + i * c + r) : spotF b c d n = (3, i, r) := by
  have hm := prod_lt hr h0 h1 h2 h3
  unfold Right at hr
  have he : n - (5 + b + d) = r + c * i := by rw [hn, Int.mul_comm c i]; omega
  have hdm := (Int.ediv_emod_unique (a := n - (5 + b + d)) (b := c) (r := r) (q := i) (by omega)).2 ⟨he.symm, h2, h3⟩
  unfold spotF; rw [if_neg (by omega), if_neg (by omega), if_neg (by omega), if_pos (by omega), hdm.1, hdm.2]
theorem spot_cell {a b c d : Int} (hr : Right a b c d) {i k n : Int} (h0 : 0 ≤ i) (h2 : 0 ≤ k) (h3 : k < 3) (hn : n = 5 + b + d + b * c + 3 * i + k) : spotF b c d n = (4 + k, i, 0) := by
  have hp := hr.prod
  unfold Right at hr
  unfold spotF; rw [if_neg (by omega), if_neg (by omega), if_neg (by omega), if_neg (by omega)]
  rw [show (n - (5 + b + d + b * c)) % 3 = k by omega, show (n - (5 + b + d + b * c)) / 3 = i by omega]
/-- How far All is: the first n places' spots lie in a row of its own. -/
structure Spots (w wr : World) (v : Value) (a b c d : Int) (n : Nat) : Prop where
  row : wr.ownsRow (w.heap.size + 1) 117 3 v n (flat b c d n)
  old : Below w.heap.size w wr
  box : BoxAt wr w.heap.size a b c d
theorem Spots.add {w wr w2 : World} {v v' : Value} {a b c d : Int} {n m : Nat} {news : List Value} (h : Spots w wr v a b c d n) (o : Obj) (hg : (wr.alloc o).grownBy w2 v.ownBlock)
    (hown : w2.ownsRow (w.heap.size + 1) 117 3 v' (n + m) (flat b c d n ++ news)) (e : flat b c d (n + m) = flat b c d n ++ news) : Spots w w2 v' a b c d (n + m) := by
  have hl := lt_of_cell h.box.1
  have hs : w.heap.size ≤ wr.heap.size := h.old.size
  have hne : some w.heap.size ≠ v.ownBlock := fun e => by have := (h.row.lt _ e.symm).1; omega
  have hb := h.box.below (below_new wr o)
  have k : ∀ j x, (wr.alloc o).cell? ⟨w.heap.size, j, none⟩ = some x → w2.cell? ⟨w.heap.size, j, none⟩ = some x := fun j x hx => by
    rw [hg.cell_far ⟨w.heap.size, j, none⟩ (by simp; omega) hne]; exact hx
  exact ⟨e ▸ hown, (below_on h.old o).grown hg (by simp; omega) (fun j e => by have := (h.row.lt j e).1; omega), ⟨k _ _ hb.1, k _ _ hb.2.1, k _ _ hb.2.2.1, k _ _ hb.2.2.2⟩⟩
theorem infoSpot : (Tryz.prog.info? 117).map (fun i => (i.zero, i.size, i.bytes)) = some (some (.agg #[.int .i64 0, .int .i64 0, .int .i64 0]), 3, 24) := by kernel_rfl
/-- What All answers. -/
def AllPost (w : World) (a b c d : Int) (e : Ending) (w' : World) : Prop :=
  ∃ (g cap n : Nat), e = .returned (.slice (some ⟨g, 0, none⟩) n cap) ∧ (n : Int) = 5 + b + d + b * c + 3 * a ∧ w'.ownsRow (w.heap.size + 1) 117 3 (.slice (some ⟨g, 0, none⟩) n cap) n (flat b c d n) ∧ Below w.heap.size w w'
end Go.Proofs.YthdcapkchjamoaaGreatDoor
/- The places of what there is, in a right configuration. -/
namespace Go.Proofs.YthdcapkchjamoaaGreatDoor
open Go Go.RowKit
theorem rootP_in {a b c d : Int} (hr : Right a b c d) (j : Int) (h0 : 0 < j) (h1 : j < 1 + d + b * c) : rootP a b c d j = 4 + b + j := by
  have h : (0 ≤ j ∧ j < 1 + d + b * c) ∧ Right a b c d := ⟨by omega, hr⟩
  unfold rootP; rw [if_pos h, if_neg (by omega)]
theorem globP_in {a b c d : Int} (hr : Right a b c d) (g : Int) (h0 : 0 ≤ g) (h1 : g < d) : globP a b c d g = 5 + b + g := by unfold globP; rw [if_pos ⟨⟨h0, h1⟩, hr⟩]
theorem regP_in {a b c d : Int} (hr : Right a b c d) (i r : Int) (h0 : 0 ≤ i) (h1 : i < b) (h2 : 0 ≤ r) (h3 : r < c) : regP a b c d i r = 5 + b + d + i * c + r := by unfold regP; rw [if_pos ⟨⟨⟨h0, h1⟩, h2, h3⟩, hr⟩]
theorem inP_in {a b c d : Int} (hr : Right a b c d) (i : Int) (h0 : 0 ≤ i) (h1 : i < b) : inP a b c d i = 5 + i := by unfold inP; rw [if_pos ⟨⟨h0, h1⟩, hr⟩]
theorem partP_in {a b c d : Int} (hr : Right a b c d) (k i : Int) (h0 : 0 ≤ i) (h1 : i < a) : partP a b c d k i = 5 + b + d + b * c + 3 * i + k := by unfold partP; rw [if_pos ⟨⟨h0, h1⟩, hr⟩]
end Go.Proofs.YthdcapkchjamoaaGreatDoor
