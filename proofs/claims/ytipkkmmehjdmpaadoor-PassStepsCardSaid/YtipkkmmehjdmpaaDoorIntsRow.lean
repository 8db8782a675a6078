/- Numbers in a row of one's own, and one that grows; the document's Ints. -/
import Derived.Test.YtipkkmmehjdmpaaDoorPlaceSpot
import Derived.Test.YtipkkmmehjdmpaaDoorCfgRef
import Derived.Test.YtipkkmmehjdmpaaDoorArena
import Derived.Deep.AppendLies
import Derived.Deep.Onto
import Derived.WalkMore
namespace Go.Proofs.YtipkkmmehjdmpaaDoor
open Go Go.RowKit
set_option maxRecDepth 100000
attribute [local go_sem ↓] Go.wp_at_zero Go.wp_at_succ

theorem infoInt : (Tryd.prog.info? 3).map (fun i => (i.zero, i.size, i.bytes)) = some (some (.int .i64 0), 1, 8) := by kernel_rfl
/-- Numbers as values. -/
def intsV (L : List Nat) : List Value := L.map fun (i : Nat) => Value.int .i64 (i : Int)
theorem intsV_snoc (L : List Nat) (i : Nat) : intsV (L ++ [i]) = intsV L ++ [.int .i64 (i : Int)] := by simp [intsV]
theorem intsV_length (L : List Nat) : (intsV L).length = L.length := by simp [intsV]
/-- A slice of these numbers. -/
def IntsAt (w : World) (a : Option Addr) (L : List Nat) : Prop := L = [] ∨ ∃ b off, a = some ⟨b, off, none⟩ ∧ b < w.heap.size ∧ ∀ j, j < L.length → w.cell? ⟨b, off + j, none⟩ = some (.int .i64 ((L.getD j 0 : Nat) : Int))
theorem IntsAt.below {w w' : World} {a : Option Addr} {L : List Nat} (h : IntsAt w a L) (hb : Below w.heap.size w w') : IntsAt w' a L := by
  rcases h with h | ⟨b, off, e, h1, h2⟩
  · exact .inl h
  · exact .inr ⟨b, off, e, Nat.lt_of_lt_of_le h1 hb.size, fun j hj => (hb.cell (p := ⟨b, off + j, none⟩) h1).trans (h2 j hj)⟩
theorem IntsAt.drew {w : World} {a : Option Addr} {L : List Nat} (h : IntsAt w a L) : IntsAt w.drew a L := h
theorem IntsAt.at' {w : World} {a : Option Addr} {L : List Nat} (h : IntsAt w a L) {j : Nat} (hj : j < L.length) : ∃ b off, a = some ⟨b, off, none⟩ ∧ w.cell? ⟨b, off + j, none⟩ = some (.int .i64 ((L.getD j 0 : Nat) : Int)) := by
  rcases h with h | ⟨b, off, e, _, h2⟩
  · rw [h] at hj; exact absurd hj (Nat.not_lt_zero _)
  · exact ⟨b, off, e, h2 j hj⟩
theorem IntsAt.set {w : World} {a : Option Addr} {L : List Nat} (h : IntsAt w a L) {p : Addr} (hp : ∀ b off, a = some ⟨b, off, none⟩ → b ≠ p.block) (v : Value) : IntsAt (w.setCell p v) a L := by
  rcases h with h | ⟨b, off, e, h1, h2⟩
  · exact .inl h
  · refine .inr ⟨b, off, e, by simpa [World.setCell] using h1, fun j hj => ?_⟩
    have hb : (w.setCell p v).heap[b]? = w.heap[b]? := Below.heap_setCell _ _ _ _ (hp b off e)
    exact (World.cell?_of_block (a := ⟨b, off + j, none⟩) hb).trans (h2 j hj)
theorem IntsAt.tail {w : World} {g o i : Nat} {L : List Nat} (h : IntsAt w (some ⟨g, o, none⟩) (i :: L)) : IntsAt w (some ⟨g, o + 1, none⟩) L := by
  rcases h with h | ⟨b, off, e, h1, h2⟩
  · cases h
  · obtain ⟨rfl, rfl⟩ : g = b ∧ o = off := by simpa using e
    refine .inr ⟨g, o + 1, rfl, h1, fun j hj => ?_⟩
    have := h2 (j + 1) (by simp; omega)
    rw [show o + 1 + j = o + (j + 1) by omega]
    exact this
theorem intsV_get (L : List Nat) (j : Nat) (hj : j < L.length) : (intsV L)[j]? = some (.int .i64 ((L.getD j 0 : Nat) : Int)) := by
  unfold intsV
  rw [List.getElem?_map, List.getElem?_eq_getElem hj]
  simp [List.getD, hj]
/-- A row of the call's own is a slice of these numbers. -/
theorem IntsAt.own {w : World} {base : Nat} {v : Value} {L : List Nat} (h : w.ownsRow base 3 1 v L.length (intsV L)) : ∃ a cap, v = .slice a L.length cap ∧ IntsAt w a L ∧ (∀ g, v.ownBlock = some g → base ≤ g ∧ g < w.heap.size) ∧ (a = none ∨ ∃ g, a = some ⟨g, 0, none⟩) ∧ L.length ≤ cap := by
  have hlt := fun g e => h.lt g e
  rcases h.2 with ⟨e, h0⟩ | ⟨g, cap, cur, e, hb, hg, h1, h2, h3, h4⟩
  · have hL : L = [] := List.length_eq_zero_iff.1 h0
    subst hL
    exact ⟨none, 0, e, .inl rfl, hlt, .inl rfl, Nat.le_refl _⟩
  · refine ⟨_, cap, e, .inr ⟨g, 0, rfl, (Array.getElem?_eq_some_iff.1 hg).1, fun j hj => ?_⟩, hlt, .inr ⟨g, rfl⟩, h1⟩
    have h5 : cur.toList[j]? = some (.int .i64 ((L.getD j 0 : Nat) : Int)) := by
      rw [← intsV_get L j hj, ← h4, List.getElem?_take, if_pos (by omega)]
    rw [Nat.zero_add]
    simp only [World.cell?, hg]
    rw [← h5]; simp
set_option maxHeartbeats 1600000 in
theorem ints_c (L : List Nat) (hL : L.length ≤ 20000) (a1 a2 : Option Addr) (c1 c2 : Nat) (w : World) (h1 : IntsAt w a1 L) (h2 : IntsAt w a2 L) :
    Calls Tryd.prog 14 #[.slice a1 L.length c1, .slice a2 L.length c2] w fun e w' => e = .returned (.bool true) ∧ Below w.heap.size w w' := by
  have HR := Lib.hid h1; have HR2 := Lib.hid h2; clear h1 h2
  generalize hn : L.length = n at *
  have HN := Lib.hid hn
  clear hn
  go_enter Tryd.func14, Tryd.ntmps14
  go_wp2
  go_loopw [5] (fun vi wr => ∃ k : Nat, vi = .int .i64 k ∧ k ≤ n ∧ Below w.heap.size w wr) (fun vi _ => n - (intOf vi).toNat)
  case atStart => exact ⟨0, rfl, Nat.zero_le _, Below.refl _ _⟩
  case round =>
    obtain ⟨k, rfl, hk, hb⟩ := hrel
    by_cases hlt : k < n
    · obtain ⟨b, off, rfl, hc⟩ := (HR.out.below hb).at' (j := k) (by rw [HN.out]; exact hlt)
      obtain ⟨b2, off2, rfl, hc2⟩ := (HR2.out.below hb).at' (j := k) (by rw [HN.out]; exact hlt)
      generalize L.getD k 0 = x at hc hc2
      go_wp2
      go_region
      all_goals
        go_wp2
        go_roundw
        case rel => exact ⟨k + 1, by go_num, by omega, by first | exact hb.drew | exact hb.drew.drew | exact hb⟩
        case measure => simp [intOf]; omega
    · obtain rfl : k = n := by omega
      go_wp2
      go_ret
      exact ⟨rfl, hb⟩
/-- A call answers these numbers, in a row of its own. -/
def NumsPost (w : World) (L : List Nat) (e : Ending) (w' : World) : Prop := ∃ v, e = .returned v ∧ w'.ownsRow w.heap.size 3 1 v L.length (intsV L) ∧ Below w.heap.size w w'
theorem NumsPost.none {w w' : World} (h : Below w.heap.size w w') : NumsPost w [] (.returned (.slice Option.none 0 0)) w' := ⟨_, rfl, World.ownsRow_nil _ _ _ _, h⟩
/-- A list of numbers that grows, of a call that has a configuration in block X. -/
structure NLt (w wr : World) (v : Value) (X : Nat) (a b c d : Int) (L : List Nat) : Prop where
  old : Below w.heap.size w wr
  lo : w.heap.size ≤ X
  row : wr.ownsRow (X + 1) 3 1 v L.length (intsV L)
  map : BoxAt wr X a b c d
namespace NLt
variable {w wr w2 : World} {v v' : Value} {X : Nat} {a b c d : Int} {L : List Nat}
theorem below (h : NLt w wr v X a b c d L) (hb : Below wr.heap.size wr w2) : NLt w w2 v X a b c d L := ⟨belowOn h.old hb, h.lo, ownsRow_below4 h.row hb, h.map.below hb⟩
theorem mine (h : NLt w wr v X a b c d L) : wr.ownsRow w.heap.size 3 1 v L.length (intsV L) := h.row.mono (by have := h.lo; omega)
theorem post (h : NLt w wr v X a b c d L) : NumsPost w L (.returned v) wr := ⟨_, rfl, h.mine, h.old⟩
theorem add (h : NLt w wr v X a b c d L) (i : Nat) (o : Obj) (hg : (wr.alloc o).grownBy w2 v.ownBlock) (hown : w2.ownsRow (X + 1) 3 1 v' (L.length + 1) (intsV L ++ [.int .i64 (i : Int)])) : NLt w w2 v' X a b c d (L ++ [i]) := by
  have hl := lt_of_cell h.map.1
  have hlo := h.lo
  have hs : w.heap.size ≤ wr.heap.size := h.old.size
  have hne : some X ≠ v.ownBlock := fun e => by have := (h.row.lt _ e.symm).1; omega
  have hb := h.map.below (below_new wr o)
  have k : ∀ j x, (wr.alloc o).cell? ⟨X, j, none⟩ = some x → w2.cell? ⟨X, j, none⟩ = some x := fun j x hx => by
    rw [hg.cell_far ⟨X, j, none⟩ (by simp; omega) hne]; exact hx
  exact ⟨(below_on h.old o).grown hg (by simp; omega) (fun j e => by have := (h.row.lt j e).1; omega), hlo, by rw [intsV_snoc, List.length_append]; exact hown, ⟨k _ _ hb.1, k _ _ hb.2.1, k _ _ hb.2.2.1, k _ _ hb.2.2.2⟩⟩
end NLt
end Go.Proofs.YtipkkmmehjdmpaaDoor
