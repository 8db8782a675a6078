/- Laid together: PopReach, PopList. -/
import Derived.Test.YthdcapkchjamoaaDoorM13
import Derived.Test.YthdcapkchjamoaaDoorM4
import Derived.Test.YthdcapkchjamoaaDoorPlaceFirst
import Derived.Deep.AppendLies
import Derived.Deep.Onto
import Derived.Deep.LoopGhost
import Derived.WalkMore
/- How far a list has been gone along: the cells so far, and the word that they lead to. -/
namespace Go.Proofs.YthdcapkchjamoaaDoor
open Go Go.RowKit

/-- From the word w the cells of L lead, by nx, to the word u. -/
def ReachL (nx : Nat → Int) (a : Nat) : Int → List Nat → Int → Prop
  | w, [], u => w = u
  | w, i :: l, u => w = 2 * (i : Int) + 1 ∧ i < a ∧ ReachL nx a (nx i) l u
theorem ReachL.snoc {nx : Nat → Int} {a : Nat} : ∀ {w u : Int} {L : List Nat} {i : Nat}, ReachL nx a w L u → u = 2 * (i : Int) + 1 → i < a → ReachL nx a w (L ++ [i]) (nx i)
  | _, _, [], _, h, hu, hi => ⟨h.trans hu, hi, rfl⟩
  | _, _, _ :: _, _, h, hu, hi => ⟨h.1, h.2.1, ReachL.snoc h.2.2 hu hi⟩
theorem ReachL.chain {nx : Nat → Int} {a : Nat} : ∀ {w u : Int} {L M : List Nat}, ReachL nx a w L u → ChainL nx a w M → ∃ K, M = L ++ K ∧ ChainL nx a u K
  | w, u, [], M, h, hM => ⟨M, rfl, by rw [← (show w = u from h)]; exact hM⟩
  | w, u, i :: l, [], h, hM => by
    have e1 := h.1
    have e2 : w = 0 := hM
    omega
  | w, u, i :: l, j :: m, h, hM => by
    have e1 := h.1
    have e2 := hM.1
    obtain rfl : i = j := by omega
    obtain ⟨K, e, hK⟩ := ReachL.chain h.2.2 hM.2.2
    exact ⟨K, by rw [e]; rfl, hK⟩
theorem ReachL.ends {nx : Nat → Int} {a : Nat} : ∀ {w : Int} {L : List Nat}, ReachL nx a w L 0 → ChainL nx a w L
  | _, [], h => h
  | _, _ :: _, h => ⟨h.1, h.2.1, ReachL.ends h.2.2⟩
theorem ReachL.lt {nx : Nat → Int} {a : Nat} : ∀ {w u : Int} {L : List Nat} {i : Nat}, ReachL nx a w L u → i ∈ L → i < a
  | _, _, j :: l, i, h, hi => by
    rcases List.mem_cons.1 hi with e | e
    · subst e; exact h.2.1
    · exact ReachL.lt h.2.2 e
/-- It is a list: nil behind at least one cell. -/
theorem ReachL.found {nx : Nat → Int} {a : Nat} {w : Int} {L : List Nat} (h : ReachL nx a w L 0) (hL : L ≠ []) : listF nx a w = some L := listF_some.2 ⟨h.ends, hL⟩
theorem listF_none {nx : Nat → Int} {a : Nat} {w : Int} (h : ∀ M, ChainL nx a w M → M ≠ [] → False) : listF nx a w = none := by
  cases e : listF nx a w with
  | none => rfl
  | some M => obtain ⟨h1, h2⟩ := listF_some.1 e; exact (h M h1 h2).elim
/-- It is none: what comes is neither a cell of the map nor nil behind a cell. -/
theorem ReachL.stuck {nx : Nat → Int} {a : Nat} {w u : Int} {L : List Nat} (h : ReachL nx a w L u) (h1 : ∀ i : Nat, u = 2 * (i : Int) + 1 → ¬ i < a) (h2 : u ≠ 0 ∨ L = []) : listF nx a w = none :=
  listF_none fun M hM hne => by
    obtain ⟨K, e, hK⟩ := h.chain hM
    cases K with
    | nil =>
      have e0 : u = 0 := hK
      rcases h2 with h2 | h2
      · exact h2 e0
      · rw [h2] at e; exact hne e
    | cons j K => exact h1 j hK.1 hK.2.1
/-- It is none: a cell comes twice. -/
theorem ReachL.twice {nx : Nat → Int} {a : Nat} {w u : Int} {L : List Nat} {i : Nat} (h : ReachL nx a w L u) (hu : u = 2 * (i : Int) + 1) (hi : i ∈ L) : listF nx a w = none :=
  listF_none fun M hM _ => by
    obtain ⟨K, e, hK⟩ := h.chain hM
    cases K with
    | nil => have e0 : u = 0 := hK; omega
    | cons j K =>
      have e1 := hK.1
      obtain rfl : i = j := by omega
      have hn := hM.nodup
      rw [e] at hn
      exact (List.nodup_append.1 hn).2.2 i hi i (List.mem_cons_self ..) rfl
/-- It is none: there are more cells than the map has. -/
theorem ReachL.long {nx : Nat → Int} {a : Nat} {w u : Int} {L : List Nat} (h : ReachL nx a w L u) (hl : a < L.length) : listF nx a w = none :=
  listF_none fun M hM _ => by
    obtain ⟨K, e, _⟩ := h.chain hM
    have := hM.length
    rw [e, List.length_append] at this
    omega
/-- How far the program is: the cells so far, unlike, and the place of the word that they lead to. -/
structure Way (f : Nat → Int) (nx : Nat → Int) (a n : Nat) (L : List Nat) (p : Nat) : Prop where
  reach : ReachL nx a (f 0) L (f p)
  nodup : L.Nodup
  lt : p < n
theorem Way.first (f nx : Nat → Int) (a : Nat) {n : Nat} (hn : 0 < n) : Way f nx a n [] 0 := ⟨rfl, List.nodup_nil, hn⟩
theorem Way.next {f nx : Nat → Int} {a n : Nat} {L : List Nat} {p i q : Nat} (h : Way f nx a n L p) (hu : f p = 2 * (i : Int) + 1) (hi : i < a) (hm : ¬ i ∈ L) (hq : q < n) (e : nx i = f q) : Way f nx a n (L ++ [i]) q :=
  ⟨e ▸ h.reach.snoc hu hi, List.nodup_append.2 ⟨h.nodup, List.nodup_cons.2 ⟨by simp, List.nodup_nil⟩, fun x hx y hy e2 => by
    have e3 : y = i := by simpa using hy
    rw [e2, e3] at hx
    exact hm hx⟩, hq⟩
theorem Way.le {f nx : Nat → Int} {a n : Nat} {L : List Nat} {p : Nat} (h : Way f nx a n L p) : L.length ≤ a := nodup_le h.nodup (fun _ hi => h.reach.lt hi)
/-- Where the cdr of a cell lies. -/
def cdrP (b c d : Int) (i : Nat) : Nat := (5 + b + d + b * c + 3 * (i : Int) + 1).toNat
end Go.Proofs.YthdcapkchjamoaaDoor
/- Package pop's List, of any words: the cells of the free list, or none. -/
namespace Go.Proofs.YthdcapkchjamoaaDoor
open Go Go.RowKit
set_option maxRecDepth 100000
attribute [local go_sem ↓] Go.wp_at_zero Go.wp_at_succ

theorem word_nat {x : Int} (h : U64 x) : ∃ v : Nat, x = v ∧ v < 18446744073709551616 := by obtain ⟨h1, h2⟩ := h; exact ⟨x.toNat, by omega, by omega⟩
theorem infoInt : (Tryd.prog.info? 3).map (fun i => (i.zero, i.size, i.bytes)) = some (some (.int .i64 0), 1, 8) := by kernel_rfl
theorem infoBool : (Tryd.prog.info? 4).map (fun i => (i.zero, i.size, i.bytes)) = some (some (.bool false), 1, 1) := by kernel_rfl
theorem make_bools (n : Nat) (hn : n ≤ 20000) (w : World) : (Instr.makeSlice 33 (.int .i64 (n : Int)) (.int .i64 (n : Int))).run Tryd.prog w = .ok (.slice (some ⟨w.heap.size, 0, none⟩) n n) (w.alloc (.cells (madeCells #[.bool false] n) 4)) :=
  run_make_row' 33 4 (.bool false) 1 Tryd.underlying33 infoBool rfl .i64 .i64 n (by omega) (by omega) w
/-- Numbers as values. -/
def intsV (L : List Nat) : List Value := L.map fun (i : Nat) => Value.int .i64 (i : Int)
theorem intsV_snoc (L : List Nat) (i : Nat) : intsV (L ++ [i]) = intsV L ++ [.int .i64 (i : Int)] := by simp [intsV]
theorem intsV_length (L : List Nat) : (intsV L).length = L.length := by simp [intsV]
/-- What List answers. -/
def ListPost (w : World) (r : Option (List Nat)) (e : Ending) (w' : World) : Prop :=
  ∃ v, e = .returned (.tuple #[v, .bool r.isSome]) ∧ w'.ownsRow w.heap.size 3 1 v (r.getD []).length (intsV (r.getD [])) ∧ Below w.heap.size w w'
theorem ListPost.none {w w' : World} (h : Below w.heap.size w w') : ListPost w Option.none (.returned (.tuple #[.slice Option.none 0 0, .bool false])) w' := ⟨_, rfl, World.ownsRow_nil _ _ _ _, h⟩
/-- What comes behind a cell. -/
def nxF (b c d : Int) (f : Nat → Int) (i : Nat) : Int := f (cdrP b c d i)
theorem cdrP_part {a b c d : Int} (hr : Right a b c d) {i : Nat} (hi : (i : Int) < a) : partP a b c d 1 (i : Int) = (cdrP b c d i : Int) ∧ ((cdrP b c d i : Nat) : Int) < 5 + b + d + b * c + 3 * a ∧ 5 ≤ cdrP b c d i := by
  have hp := hr.prod
  rw [partP_in hr 1 i (by omega) hi]
  unfold cdrP
  unfold Right at hr
  omega
/-- How far List is. -/
structure LSt (w wr : World) (v : Value) (f : Nat → Int) (a b c d : Int) (m n M G : Nat) (L : List Nat) (p : Nat) : Prop where
  old : Below w.heap.size w wr
  lo : w.heap.size ≤ M
  mg : M < G
  way : Way f (nxF b c d f) m n L p
  row : wr.ownsRow (G + 1) 3 1 v L.length (intsV L)
  met : wr.rowIs G 4 m (fun j => .bool (decide (j ∈ L)))
  map : BoxAt wr M a b c d
  size : G + 1 ≤ wr.heap.size
theorem LSt.first {w V W : World} (f : Nat → Int) (a b c d : Int) {m n : Nat} (hn : 0 < n) (hb : Below w.heap.size w V) (t : TypeId) (hb2 : Below (V.alloc (.cells #[.int .i64 a, .int .i64 b, .int .i64 c, .int .i64 d] t)).heap.size (V.alloc (.cells #[.int .i64 a, .int .i64 b, .int .i64 c, .int .i64 d] t)) W) :
    LSt w (W.alloc (.cells (madeCells #[.bool false] m) 4)) (.slice none 0 0) f a b c d m n V.heap.size W.heap.size [] 0 := by
  have hs := hb2.size
  rw [show (V.alloc (.cells #[.int .i64 a, .int .i64 b, .int .i64 c, .int .i64 d] t)).heap.size = V.heap.size + 1 by simp] at hs
  refine ⟨below_on (belowOn (below_on hb _) hb2) _, hb.size, by omega, Way.first f _ m hn, World.ownsRow_nil _ _ _ _, ?_, ((BoxAt.new V a b c d t).below hb2).below (below_new _ _), by simp⟩
  exact (World.rowIs_made W (.bool false) m 4).congr (fun i _ => by simp)
theorem LSt.add {w wr w2 : World} {v v' : Value} {f : Nat → Int} {a b c d : Int} {m n M G : Nat} {L : List Nat} {p i q : Nat} (h : LSt w wr v f a b c d m n M G L p) (hw : Way f (nxF b c d f) m n (L ++ [i]) q) (o : Obj)
    (hg : ((wr.setCell ⟨G, i, none⟩ (.bool true)).alloc o).grownBy w2 v.ownBlock) (hown : w2.ownsRow (G + 1) 3 1 v' (L.length + 1) (intsV L ++ [.int .i64 (i : Int)])) : LSt w w2 v' f a b c d m n M G (L ++ [i]) q := by
  have hrow := fun j e => h.row.lt j e
  have hM1 : G < wr.heap.size := h.met.lt
  have hsz := h.size
  have hlo := h.lo
  have hmg := h.mg
  have hne : ∀ k, k < G + 1 → some k ≠ v.ownBlock := fun k hk e => by have := (hrow k e.symm).1; omega
  have hb1 : Below w.heap.size w ((wr.setCell ⟨G, i, none⟩ (.bool true)).alloc o) := (h.old.setCell (p := ⟨G, i, none⟩) (by show w.heap.size ≤ G; omega) (.bool true)).alloc (by have := h.old.size; simpa [World.setCell] using this) o
  have hsz1 : ((wr.setCell ⟨G, i, none⟩ (.bool true)).alloc o).heap.size = wr.heap.size + 1 := by simp [World.setCell]
  have keep : ∀ k, k < G + 1 → w2.heap[k]? = (wr.setCell ⟨G, i, none⟩ (.bool true)).heap[k]? := fun k hk => by
    rw [hg.block k (by omega) (hne k hk)]
    exact (below_new (wr.setCell ⟨G, i, none⟩ (.bool true)) o).block k (by simp [World.setCell]; omega)
  refine ⟨hb1.grown hg (by rw [hsz1]; have := h.old.size; omega) (fun k e => by have := (hrow k e).1; omega), hlo, hmg, hw, ?_, ?_, ?_, by have := hg.size; omega⟩
  · rw [intsV_snoc, List.length_append]; exact hown
  · refine ((h.met.set i (.bool true)).of_block (keep G (by omega))).congr (fun j _ => ?_)
    by_cases e : j = i
    · rw [if_pos e, e]; simp
    · rw [if_neg e]; simp [e]
  · have hk : w2.heap[M]? = wr.heap[M]? := (keep M (by omega)).trans (Below.heap_setCell _ _ _ _ (by show M ≠ G; omega))
    obtain ⟨h1, h2, h3, h4⟩ := h.map
    exact ⟨(World.cell?_of_block hk).trans h1, (World.cell?_of_block hk).trans h2, (World.cell?_of_block hk).trans h3, (World.cell?_of_block hk).trans h4⟩
theorem LSt.below {w wr w2 : World} {v : Value} {f : Nat → Int} {a b c d : Int} {m n M G : Nat} {L : List Nat} {p : Nat} (h : LSt w wr v f a b c d m n M G L p) (hb : Below wr.heap.size wr w2) : LSt w w2 v f a b c d m n M G L p :=
  ⟨belowOn h.old hb, h.lo, h.mg, h.way, ownsRow_below4 h.row hb, h.met.of_block (hb.block _ h.met.lt), h.map.below hb, Nat.le_trans h.size hb.size⟩
theorem LSt.mine {w wr : World} {v : Value} {f : Nat → Int} {a b c d : Int} {m n M G : Nat} {L : List Nat} {p : Nat} (h : LSt w wr v f a b c d m n M G L p) : wr.ownsRow w.heap.size 3 1 v L.length (intsV L) := h.row.mono (by have := h.lo; have := h.mg; omega)
end Go.Proofs.YthdcapkchjamoaaDoor
