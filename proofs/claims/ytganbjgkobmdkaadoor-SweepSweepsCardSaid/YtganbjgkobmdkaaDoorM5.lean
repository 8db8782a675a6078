/- Laid together: PopInts, SweepSweepsA. -/
import Derived.Test.YtganbjgkobmdkaaDoorM4
import Derived.Test.YtganbjgkobmdkaaDoorSweepPure
import Derived.Test.YtganbjgkobmdkaaDoorPopRefList
import Derived.Test.YtganbjgkobmdkaaDoorColWk
/- The document's Ints, of two rows of numbers that are the same. -/
namespace Go.Proofs.YtganbjgkobmdkaaDoor
open Go Go.RowKit
set_option maxRecDepth 100000
attribute [local go_sem ↓] Go.wp_at_zero Go.wp_at_succ

/-- A slice of these numbers. -/
def IntsAt (w : World) (a : Option Addr) (L : List Nat) : Prop := L = [] ∨ ∃ b off, a = some ⟨b, off, none⟩ ∧ b < w.heap.size ∧ ∀ j, j < L.length → w.cell? ⟨b, off + j, none⟩ = some (.int .i64 ((L.getD j 0 : Nat) : Int))
theorem IntsAt.below {w w' : World} {a : Option Addr} {L : List Nat} (h : IntsAt w a L) (hb : Below w.heap.size w w') : IntsAt w' a L := by
  rcases h with h | ⟨b, off, e, h1, h2⟩
  · exact .inl h
  · exact .inr ⟨b, off, e, Nat.lt_of_lt_of_le h1 hb.size, fun j hj => (hb.cell (p := ⟨b, off + j, none⟩) h1).trans (h2 j hj)⟩
theorem IntsAt.drew {w : World} {a : Option Addr} {L : List Nat} (h : IntsAt w a L) : IntsAt w.drew a L := h
theorem IntsAt.at' {w : World} {a : Option Addr} {L : List Nat} (h : IntsAt w a L) {j : Nat} (hj : j < L.length) : ∃ b off, a = some ⟨b, off, none⟩ ∧ w.cell? ⟨b, off + j, none⟩ = some (.int .i64 ((L.getD j 0 : Nat) : Int)) := by
  rcases h with h | ⟨b, off, e, _, h2⟩
  · rw [h] at hj; exact absurd hj (Nat.not_lt_zero _)
  · exact ⟨b, off, e, h2 j hj⟩
theorem IntsAt.set {w : World} {a : Option Addr} {L : List Nat} (h : IntsAt w a L) {p : Addr} (hp : ∀ b off, a = some ⟨b, off, none⟩ → b ≠ p.block) (v : Value) : IntsAt (w.setCell p v) a L := by
  rcases h with h | ⟨b, off, e, h1, h2⟩
  · exact .inl h
  · refine .inr ⟨b, off, e, by simpa [World.setCell] using h1, fun j hj => ?_⟩
    have hb : (w.setCell p v).heap[b]? = w.heap[b]? := Below.heap_setCell _ _ _ _ (hp b off e)
    exact (World.cell?_of_block (a := ⟨b, off + j, none⟩) hb).trans (h2 j hj)
theorem IntsAt.tail {w : World} {g o i : Nat} {L : List Nat} (h : IntsAt w (some ⟨g, o, none⟩) (i :: L)) : IntsAt w (some ⟨g, o + 1, none⟩) L := by
  rcases h with h | ⟨b, off, e, h1, h2⟩
  · cases h
  · obtain ⟨rfl, rfl⟩ : g = b ∧ o = off := by simpa using e
    refine .inr ⟨g, o + 1, rfl, h1, fun j hj => ?_⟩
    have := h2 (j + 1) (by simp; omega)
    rw [show o + 1 + j = o + (j + 1) by omega]
    exact this
theorem intsV_get (L : List Nat) (j : Nat) (hj : j < L.length) : (intsV L)[j]? = some (.int .i64 ((L.getD j 0 : Nat) : Int)) := by
  unfold intsV
  rw [List.getElem?_map, List.getElem?_eq_getElem hj]
  simp [List.getD, hj]
/-- A row of the call's own is a slice of these numbers. -/
theorem IntsAt.own {w : World} {base : Nat} {v : Value} {L : List Nat} (h : w.ownsRow base 3 1 v L.length (intsV L)) : ∃ a cap, v = .slice a L.length cap ∧ IntsAt w a L ∧ (∀ g, v.ownBlock = some g → base ≤ g ∧ g < w.heap.size) ∧ (a = none ∨ ∃ g, a = some ⟨g, 0, none⟩) ∧ L.length ≤ cap := by
  have hlt := fun g e => h.lt g e
  rcases h.2 with ⟨e, h0⟩ | ⟨g, cap, cur, e, hb, hg, h1, h2, h3, h4⟩
  · have hL : L = [] := List.length_eq_zero_iff.1 h0
    subst hL
    exact ⟨none, 0, e, .inl rfl, hlt, .inl rfl, Nat.le_refl _⟩
  · refine ⟨_, cap, e, .inr ⟨g, 0, rfl, (Array.getElem?_eq_some_iff.1 hg).1, fun j hj => ?_⟩, hlt, .inr ⟨g, rfl⟩, h1⟩
    have h5 : cur.toList[j]? = some (.int .i64 ((L.getD j 0 : Nat) : Int)) := by
      rw [← intsV_get L j hj, ← h4, List.getElem?_take, if_pos (by omega)]
    rw [Nat.zero_add]
    simp only [World.cell?, hg]
    rw [← h5]; simp
set_option maxHeartbeats 1600000 in
theorem ints_c (L : List Nat) (hL : L.length ≤ 20000) (a1 a2 : Option Addr) (c1 c2 : Nat) (w : World) (h1 : IntsAt w a1 L) (h2 : IntsAt w a2 L) :
    Calls Tryd.prog 14 #[.slice a1 L.length c1, .slice a2 L.length c2] w fun e w' => e = .returned (.bool true) ∧ Below w.heap.size w w' := by
  have HR := Lib.hid h1; have HR2 := Lib.hid h2; clear h1 h2
  generalize hn : L.length = n at *
  have HN := Lib.hid hn
  clear hn
  go_enter Tryd.func14, Tryd.ntmps14
  go_wp2
  go_loopw [5] (fun vi wr => ∃ k : Nat, vi = .int .i64 k ∧ k ≤ n ∧ Below w.heap.size w wr) (fun vi _ => n - (intOf vi).toNat)
  case atStart => exact ⟨0, rfl, Nat.zero_le _, Below.refl _ _⟩
  case round =>
    obtain ⟨k, rfl, hk, hb⟩ := hrel
    by_cases hlt : k < n
    · obtain ⟨b, off, rfl, hc⟩ := (HR.out.below hb).at' (j := k) (by rw [HN.out]; exact hlt)
      obtain ⟨b2, off2, rfl, hc2⟩ := (HR2.out.below hb).at' (j := k) (by rw [HN.out]; exact hlt)
      generalize L.getD k 0 = x at hc hc2
      go_wp2
      go_region
      all_goals
        go_wp2
        go_roundw
        case rel => exact ⟨k + 1, by go_num, by omega, by first | exact hb.drew | exact hb.drew.drew | exact hb⟩
        case measure => simp [intOf]; omega
    · obtain rfl : k = n := by omega
      go_wp2
      go_ret
      exact ⟨rfl, hb⟩
end Go.Proofs.YtganbjgkobmdkaaDoor
/- What the law SweepSweeps carries; a sweep's end; the document's list of any words. -/
namespace Go.Proofs.YtganbjgkobmdkaaDoor
open Go Go.RowKit
set_option maxRecDepth 100000
attribute [local go_sem ↓] Go.wp_at_zero Go.wp_at_succ

theorem ownsRow_block {w w' : World} {base : Nat} {e : TypeId} {size : Nat} {v : Value} {n : Nat} {xs : List Value} (h : w.ownsRow base e size v n xs) (hb : ∀ k, v.ownBlock = some k → w'.heap[k]? = w.heap[k]?) : w'.ownsRow base e size v n xs := by
  refine ⟨h.1, ?_⟩
  rcases h.2 with hn | ⟨g, cap, cur, rfl, hb', hgg, rest⟩
  · exact .inl hn
  · exact .inr ⟨g, cap, cur, rfl, hb', (hb g rfl).trans hgg, rest⟩
theorem IntsAt.block {w w' : World} {g : Nat} {L : List Nat} (h : IntsAt w (some ⟨g, 0, none⟩) L) (hb : w'.heap[g]? = w.heap[g]?) (hs : w.heap.size ≤ w'.heap.size) : IntsAt w' (some ⟨g, 0, none⟩) L := by
  rcases h with h | ⟨b, off, e, h1, h2⟩
  · exact .inl h
  · obtain ⟨rfl, rfl⟩ : g = b ∧ 0 = off := by simpa using e
    exact .inr ⟨g, 0, rfl, Nat.lt_of_lt_of_le h1 hs, fun j hj => (World.cell?_of_block (a := ⟨g, 0 + j, none⟩) hb).trans (h2 j hj)⟩
/-- A sweep's law: the collector in block B beside the hand, the list at first in block g, the list that is looked for as a row that grows (above M). -/
structure SwW (w wr : World) (H A G B g M : Nat) (C : Cf) (s : Dy) (x : Co) (v : Value) (K L : List Nat) : Prop where
  ck : CkW w wr H A G B C s x
  row : wr.ownsRow M 3 1 v K.length (intsV K)
  list : IntsAt wr (some ⟨g, 0, none⟩) L
  le : M ≤ wr.heap.size
  wM : w.heap.size ≤ M
  lt : H < M ∧ A < M ∧ G < M ∧ B < M ∧ g < M
  gl : g < wr.heap.size
  ne : g ≠ H ∧ g ≠ G ∧ g ≠ B
namespace SwW
variable {w W V : World} {H A G B g M : Nat} {C : Cf} {s s' : Dy} {x : Co} {v v' : Value} {K L : List Nat}
theorem below (h : SwW w W H A G B g M C s x v K L) (hb : Below W.heap.size W V) : SwW w V H A G B g M C s x v K L :=
  ⟨h.ck.below hb, ownsRow_below4 h.row hb, h.list.below hb, Nat.le_trans h.le hb.size, h.wM, h.lt, Nat.lt_of_lt_of_le h.gl hb.size, h.ne⟩
theorem drew (h : SwW w W H A G B g M C s x v K L) : SwW w W.drew H A G B g M C s x v K L := h.below (Below.refl _ _).drew
theorem step (h : SwW w W H A G B g M C s x v K L) {u : Value} {e : Ending} (hp : HP W H A G C s' u e V) : e = .returned u ∧ SwW w V H A G B g M C s' x v K L := by
  obtain ⟨he, hc⟩ := h.ck.step hp
  have l := h.lt; have n := h.ne
  refine ⟨he, hc, ownsRow_block h.row (fun k hk => hp.2.2.block k (h.row.lt k hk).2 (fun e => ?_)), h.list.block (hp.2.2.block g h.gl (fun e => e.elim n.1 n.2.1)) hp.2.2.size, Nat.le_trans h.le hp.2.2.size, h.wM, l, Nat.lt_of_lt_of_le h.gl hp.2.2.size, n⟩
  have := (h.row.lt k hk).1
  rcases e with e | e <;> omega
theorem put (h : SwW w W H A G B g M C s x v K L) (y : Co) : SwW w (put9 W B y.l y.j y.c y.m y.a y.p y.fd y.tl y.cy) H A G B g M C s y v K L := by
  have l := h.lt; have n := h.ne
  have hz := size_put9 W B y.l y.j y.c y.m y.a y.p y.fd y.tl y.cy
  refine ⟨h.ck.put y, ownsRow_block h.row (fun k hk => heap_put9 W B _ _ _ _ _ _ _ _ _ ?_), h.list.block (heap_put9 W B _ _ _ _ _ _ _ _ _ n.2.2) (by rw [hz]; exact Nat.le_refl _), by rw [hz]; exact h.le, h.wM, l, by rw [hz]; exact h.gl, n⟩
  have := (h.row.lt k hk).1
  omega
theorem grow (h : SwW w W H A G B g M C s x v K L) {w2 : World} {K' : List Nat} (hg : W.grownBy w2 v.ownBlock) (hown : w2.ownsRow M 3 1 v' K'.length (intsV K')) : SwW w w2 H A G B g M C s x v' K' L := by
  have l := h.lt; have n := h.ne; have hle := h.le
  have sz : W.heap.size ≤ w2.heap.size := hg.size
  have key : ∀ k, k < M → w2.heap[k]? = W.heap[k]? := fun k hk => hg.block k (by omega) (fun e => by have := (h.row.lt k e.symm).1; omega)
  have c := h.ck
  exact ⟨⟨c.old.grown hg (by have := c.old.size; omega) (fun k e => by have := (h.row.lt k e).1; have := h.wM; omega), c.hand.other (key H l.1) (key A l.2.1) (key G l.2.2.1), c.col.other (key B l.2.2.2.1), c.lo, c.ne⟩, hown, h.list.block (key g l.2.2.2.2) sz, Nat.le_trans hle sz, h.wM, l, Nat.lt_of_lt_of_le h.gl sz, n⟩
/-- At first: an empty row. -/
theorem first (h : CkW w W H A G B C s x) (hI : IntsAt W (some ⟨g, 0, none⟩) L) (hg : g < W.heap.size) (n : g ≠ H ∧ g ≠ G ∧ g ≠ B) : SwW w (W.alloc (.cells #[] 3)) H A G B g W.heap.size C s x (.slice (some ⟨W.heap.size, 0, none⟩) 0 0) [] L :=
  ⟨h.below (below_new _ _), ⟨rfl, .inr ⟨W.heap.size, 0, #[], rfl, Nat.le_refl _, newBlock W _, Nat.le_refl _, Nat.zero_le _, rfl, rfl⟩⟩, hI.below (below_new _ _), by simp, h.old.size, ⟨h.hand.lt, h.hand.ar.lt, h.hand.ar.row.lt, h.col.lt, hg⟩, by simp; omega, n⟩
end SwW
/-- The document's list of any words, or that there is none. -/
theorem rlist_any (a b c d : Int) (va : Option Addr) (n c0 : Nat) (f : Nat → Int) (hu : ∀ j, U64 (f j)) (w : World) (hW : WordsAt w va n f) :
    Calls Tryd.prog 12 #[.agg #[.int .i64 a, .int .i64 b, .int .i64 c, .int .i64 d], .slice va n c0] w fun e w' => ∃ r, ListPost w r e w' := by
  by_cases hr : Right a b c d
  · by_cases hn : (n : Int) = 5 + b + d + b * c + 3 * a
    · exact (rlist_right a b c d hr va n c0 f hn hu w hW).mono (fun e w' h => ⟨_, h⟩)
    · exact (rlist_len a b c d hr va n c0 hn w).mono (fun e w' h => ⟨_, h⟩)
  · exact (rlist_wrong a b c d hr va n c0 w).mono (fun e w' h => ⟨_, h⟩)
/-- A place ahead of the cells. -/
theorem sp_low {C : Cf} {k : Nat} (h : (k : Int) < 5 + C.b + C.d + C.b * C.c) : (spotF C.b C.c C.d k).1 < 4 := by
  unfold spotF
  split
  · simp
  · split
    · simp
    · split
      · simp
      · simp
theorem part_at {C : Cf} (hC : CfOK C) {i : Nat} (hi : (i : Int) < C.a) : (colI C i : Int) = 5 + C.b + C.d + C.b * C.c + 3 * (i : Int) + 2 ∧ (carI C i : Int) = 5 + C.b + C.d + C.b * C.c + 3 * (i : Int) ∧ (cdrI C i : Int) = 5 + C.b + C.d + C.b * C.c + 3 * (i : Int) + 1 := by
  have e : ∀ q : Int, partP C.a C.b C.c C.d q i = 5 + C.b + C.d + C.b * C.c + 3 * (i : Int) + q := fun q => by unfold partP; rw [if_pos ⟨⟨by omega, hi⟩, hC.right⟩]
  have h1 := (colI_sp hC hi).1; have h2 := (carI_sp hC hi).1; have h3 := (cdrI_sp hC hi).1
  rw [e] at h1 h2 h3
  exact ⟨by omega, by omega, by omega⟩
/-- What a sweep's end is. -/
theorem SwSt.fin {C : Cf} {f0 f : Nat → Int} {L0 : List Nat} {cy : Int} {n : Nat} {W : List Nat} {x : Co} (h : SwSt C f0 f L0 cy n W x) (hl : ¬ 20 ≤ x.l) :
    x.l = 1 ∧ x.cy = cy + 1 ∧ listF (nxF C.b C.c C.d f) C.a.toNat (f 0) = some (L0 ++ W) ∧ (∀ k : Nat, (k : Int) < 5 + C.b + C.d + C.b * C.c → f k = f0 k) ∧
      ∀ i : Nat, (i : Int) < C.a → (f0 (colI C i) = 0 → f (carI C i) = 0 ∧ f (colI C i) = 0) ∧ (f0 (colI C i) = 2 → f (carI C i) = f0 (carI C i) ∧ f (colI C i) = 0) ∧ (f0 (colI C i) ≠ 0 → f0 (colI C i) ≠ 2 → f (carI C i) = f0 (carI C i) ∧ f (colI C i) = f0 (colI C i)) ∧ (f0 (colI C i) ≠ 0 → L0.getLast? ≠ some i → f (cdrI C i) = f0 (cdrI C i)) := by
  rcases h.line with ⟨g, _⟩ | ⟨e1, e2, e3⟩
  · exact absurd g hl
  obtain ⟨t, _, ht⟩ := h.tl
  refine ⟨e1, e3, listF_some.2 ⟨h.chain, fun e => by rw [e] at ht; cases ht⟩, fun k hk => h.base k (sp_low hk), fun i hi => ⟨fun h0 => ⟨?_, ?_⟩, fun h2 => ⟨?_, ?_⟩, fun h0 h2 => ⟨?_, ?_⟩, fun h0 hL => h.cdr i hi h0 hL⟩⟩
  · rw [h.car i hi, if_pos ⟨h0, .inl (by omega)⟩]
  · rw [h.col i hi, if_neg (by omega), h0]
  · rw [h.car i hi, if_neg (by omega)]
  · rw [h.col i hi, if_pos ⟨h2, by omega⟩]
  · rw [h.car i hi, if_neg (fun q => h0 q.1)]
  · rw [h.col i hi, if_neg (fun q => h2 q.1)]
end Go.Proofs.YtganbjgkobmdkaaDoor
