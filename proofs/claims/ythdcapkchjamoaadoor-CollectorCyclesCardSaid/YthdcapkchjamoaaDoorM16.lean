/- Laid together: PopInts, SweepSweepsA, ColRows, CyclesPure, ColCyA, ColRoots. -/
import Derived.Test.YthdcapkchjamoaaDoorM14
import Derived.Test.YthdcapkchjamoaaDoorSweepPure
import Derived.Test.YthdcapkchjamoaaDoorPopRefList
import Derived.Test.YthdcapkchjamoaaDoorM13
import Derived.Test.YthdcapkchjamoaaDoorM15
/- The document's Ints, of two rows of numbers that are the same. -/
namespace Go.Proofs.YthdcapkchjamoaaDoor
open Go Go.RowKit
set_option maxRecDepth 100000
attribute [local go_sem ↓] Go.wp_at_zero Go.wp_at_succ

/-- A slice of these numbers. -/
def IntsAt (w : World) (a : Option Addr) (L : List Nat) : Prop := L = [] ∨ ∃ b off, a = some ⟨b, off, none⟩ ∧ b < w.heap.size ∧ ∀ j, j < L.length → w.cell? ⟨b, off + j, none⟩ = some (.int .i64 ((L.getD j 0 : Nat) : Int))
theorem IntsAt.below {w w' : World} {a : Option Addr} {L : List Nat} (h : IntsAt w a L) (hb : Below w.heap.size w w') : IntsAt w' a L := by
  rcases h with h | ⟨b, off, e, h1, h2⟩
  · exact .inl h
  · exact .inr ⟨b, off, e, Nat.lt_of_lt_of_le h1 hb.size, fun j hj => (hb.cell (p := ⟨b, off + j, none⟩) h1).trans (h2 j hj)⟩
theorem IntsAt.drew {w : World} {a : Option Addr} {L : List Nat} (h : IntsAt w a L) : IntsAt w.drew a L := h
theorem IntsAt.at' {w : World} {a : Option Addr} {L : List Nat} (h : IntsAt w a L) {j : Nat} (hj : j < L.length) : ∃ b off, a = some ⟨b, off, none⟩ ∧ w.cell? ⟨b, off + j, none⟩ = some (.int .i64 ((L.getD j 0 : Nat) : Int)) := by
  rcases h with h | ⟨b, off, e, _, h2⟩
  · rw [h] at hj; exact absurd hj (Nat.not_lt_zero _)
  · exact ⟨b, off, e, h2 j hj⟩
theorem IntsAt.set {w : World} {a : Option Addr} {L : List Nat} (h : IntsAt w a L) {p : Addr} (hp : ∀ b off, a = some ⟨b, off, none⟩ → b ≠ p.block) (v : Value) : IntsAt (w.setCell p v) a L := by
  rcases h with h | ⟨b, off, e, h1, h2⟩
  · exact .inl h
  · refine .inr ⟨b, off, e, by simpa [World.setCell] using h1, fun j hj => ?_⟩
    have hb : (w.setCell p v).heap[b]? = w.heap[b]? := Below.heap_setCell _ _ _ _ (hp b off e)
    exact (World.cell?_of_block (a := ⟨b, off + j, none⟩) hb).trans (h2 j hj)
theorem IntsAt.tail {w : World} {g o i : Nat} {L : List Nat} (h : IntsAt w (some ⟨g, o, none⟩) (i :: L)) : IntsAt w (some ⟨g, o + 1, none⟩) L := by
  rcases h with h | ⟨b, off, e, h1, h2⟩
  · cases h
  · obtain ⟨rfl, rfl⟩ : g = b ∧ o = off := by simpa using e
    refine .inr ⟨g, o + 1, rfl, h1, fun j hj => ?_⟩
    have := h2 (j + 1) (by simp; omega)
    rw [show o + 1 + j = o + (j + 1) by omega]
    exact this
theorem intsV_get (L : List Nat) (j : Nat) (hj : j < L.length) : (intsV L)[j]? = some (.int .i64 ((L.getD j 0 : Nat) : Int)) := by
  unfold intsV
  rw [List.getElem?_map, List.getElem?_eq_getElem hj]
  simp [List.getD, hj]
/-- A row of the call's own is a slice of these numbers. -/
theorem IntsAt.own {w : World} {base : Nat} {v : Value} {L : List Nat} (h : w.ownsRow base 3 1 v L.length (intsV L)) : ∃ a cap, v = .slice a L.length cap ∧ IntsAt w a L ∧ (∀ g, v.ownBlock = some g → base ≤ g ∧ g < w.heap.size) ∧ (a = none ∨ ∃ g, a = some ⟨g, 0, none⟩) ∧ L.length ≤ cap := by
  have hlt := fun g e => h.lt g e
  rcases h.2 with ⟨e, h0⟩ | ⟨g, cap, cur, e, hb, hg, h1, h2, h3, h4⟩
  · have hL : L = [] := List.length_eq_zero_iff.1 h0
    subst hL
    exact ⟨none, 0, e, .inl rfl, hlt, .inl rfl, Nat.le_refl _⟩
  · refine ⟨_, cap, e, .inr ⟨g, 0, rfl, (Array.getElem?_eq_some_iff.1 hg).1, fun j hj => ?_⟩, hlt, .inr ⟨g, rfl⟩, h1⟩
    have h5 : cur.toList[j]? = some (.int .i64 ((L.getD j 0 : Nat) : Int)) := by
      rw [← intsV_get L j hj, ← h4, List.getElem?_take, if_pos (by omega)]
    rw [Nat.zero_add]
    simp only [World.cell?, hg]
    rw [← h5]; simp
end Go.Proofs.YthdcapkchjamoaaDoor
/- What the law SweepSweeps carries; a sweep's end; the document's list of any words. -/
namespace Go.Proofs.YthdcapkchjamoaaDoor
open Go Go.RowKit
set_option maxRecDepth 100000
attribute [local go_sem ↓] Go.wp_at_zero Go.wp_at_succ

theorem ownsRow_block {w w' : World} {base : Nat} {e : TypeId} {size : Nat} {v : Value} {n : Nat} {xs : List Value} (h : w.ownsRow base e size v n xs) (hb : ∀ k, v.ownBlock = some k → w'.heap[k]? = w.heap[k]?) : w'.ownsRow base e size v n xs := by
  refine ⟨h.1, ?_⟩
  rcases h.2 with hn | ⟨g, cap, cur, rfl, hb', hgg, rest⟩
  · exact .inl hn
  · exact .inr ⟨g, cap, cur, rfl, hb', (hb g rfl).trans hgg, rest⟩
theorem IntsAt.block {w w' : World} {g : Nat} {L : List Nat} (h : IntsAt w (some ⟨g, 0, none⟩) L) (hb : w'.heap[g]? = w.heap[g]?) (hs : w.heap.size ≤ w'.heap.size) : IntsAt w' (some ⟨g, 0, none⟩) L := by
  rcases h with h | ⟨b, off, e, h1, h2⟩
  · exact .inl h
  · obtain ⟨rfl, rfl⟩ : g = b ∧ 0 = off := by simpa using e
    exact .inr ⟨g, 0, rfl, Nat.lt_of_lt_of_le h1 hs, fun j hj => (World.cell?_of_block (a := ⟨g, 0 + j, none⟩) hb).trans (h2 j hj)⟩
/-- A sweep's law: the collector in block B beside the hand, the list at first in block g, the list that is looked for as a row that grows (above M). -/
structure SwW (w wr : World) (H A G B g M : Nat) (C : Cf) (s : Dy) (x : Co) (v : Value) (K L : List Nat) : Prop where
  ck : CkW w wr H A G B C s x
  row : wr.ownsRow M 3 1 v K.length (intsV K)
  list : IntsAt wr (some ⟨g, 0, none⟩) L
  le : M ≤ wr.heap.size
  wM : w.heap.size ≤ M
  lt : H < M ∧ A < M ∧ G < M ∧ B < M ∧ g < M
  gl : g < wr.heap.size
  ne : g ≠ H ∧ g ≠ G ∧ g ≠ B
namespace SwW
variable {w W V : World} {H A G B g M : Nat} {C : Cf} {s s' : Dy} {x : Co} {v v' : Value} {K L : List Nat}
theorem below (h : SwW w W H A G B g M C s x v K L) (hb : Below W.heap.size W V) : SwW w V H A G B g M C s x v K L :=
  ⟨h.ck.below hb, ownsRow_below4 h.row hb, h.list.below hb, Nat.le_trans h.le hb.size, h.wM, h.lt, Nat.lt_of_lt_of_le h.gl hb.size, h.ne⟩
theorem drew (h : SwW w W H A G B g M C s x v K L) : SwW w W.drew H A G B g M C s x v K L := h.below (Below.refl _ _).drew
theorem step (h : SwW w W H A G B g M C s x v K L) {u : Value} {e : Ending} (hp : HP W H A G C s' u e V) : e = .returned u ∧ SwW w V H A G B g M C s' x v K L := by
  obtain ⟨he, hc⟩ := h.ck.step hp
  have l := h.lt; have n := h.ne
  refine ⟨he, hc, ownsRow_block h.row (fun k hk => hp.2.2.block k (h.row.lt k hk).2 (fun e => ?_)), h.list.block (hp.2.2.block g h.gl (fun e => e.elim n.1 n.2.1)) hp.2.2.size, Nat.le_trans h.le hp.2.2.size, h.wM, l, Nat.lt_of_lt_of_le h.gl hp.2.2.size, n⟩
  have := (h.row.lt k hk).1
  rcases e with e | e <;> omega
theorem put (h : SwW w W H A G B g M C s x v K L) (y : Co) : SwW w (put9 W B y.l y.j y.c y.m y.a y.p y.fd y.tl y.cy) H A G B g M C s y v K L := by
  have l := h.lt; have n := h.ne
  have hz := size_put9 W B y.l y.j y.c y.m y.a y.p y.fd y.tl y.cy
  refine ⟨h.ck.put y, ownsRow_block h.row (fun k hk => heap_put9 W B _ _ _ _ _ _ _ _ _ ?_), h.list.block (heap_put9 W B _ _ _ _ _ _ _ _ _ n.2.2) (by rw [hz]; exact Nat.le_refl _), by rw [hz]; exact h.le, h.wM, l, by rw [hz]; exact h.gl, n⟩
  have := (h.row.lt k hk).1
  omega
theorem grow (h : SwW w W H A G B g M C s x v K L) {w2 : World} {K' : List Nat} (hg : W.grownBy w2 v.ownBlock) (hown : w2.ownsRow M 3 1 v' K'.length (intsV K')) : SwW w w2 H A G B g M C s x v' K' L := by
  have l := h.lt; have n := h.ne; have hle := h.le
  have sz : W.heap.size ≤ w2.heap.size := hg.size
  have key : ∀ k, k < M → w2.heap[k]? = W.heap[k]? := fun k hk => hg.block k (by omega) (fun e => by have := (h.row.lt k e.symm).1; omega)
  have c := h.ck
  exact ⟨⟨c.old.grown hg (by have := c.old.size; omega) (fun k e => by have := (h.row.lt k e).1; have := h.wM; omega), c.hand.other (key H l.1) (key A l.2.1) (key G l.2.2.1), c.col.other (key B l.2.2.2.1), c.lo, c.ne⟩, hown, h.list.block (key g l.2.2.2.2) sz, Nat.le_trans hle sz, h.wM, l, Nat.lt_of_lt_of_le h.gl sz, n⟩
/-- At first: an empty row. -/
theorem first (h : CkW w W H A G B C s x) (hI : IntsAt W (some ⟨g, 0, none⟩) L) (hg : g < W.heap.size) (n : g ≠ H ∧ g ≠ G ∧ g ≠ B) : SwW w (W.alloc (.cells #[] 3)) H A G B g W.heap.size C s x (.slice (some ⟨W.heap.size, 0, none⟩) 0 0) [] L :=
  ⟨h.below (below_new _ _), ⟨rfl, .inr ⟨W.heap.size, 0, #[], rfl, Nat.le_refl _, newBlock W _, Nat.le_refl _, Nat.zero_le _, rfl, rfl⟩⟩, hI.below (below_new _ _), by simp, h.old.size, ⟨h.hand.lt, h.hand.ar.lt, h.hand.ar.row.lt, h.col.lt, hg⟩, by simp; omega, n⟩
end SwW
/-- The document's list of any words, or that there is none. -/
theorem rlist_any (a b c d : Int) (va : Option Addr) (n c0 : Nat) (f : Nat → Int) (hu : ∀ j, U64 (f j)) (w : World) (hW : WordsAt w va n f) :
    Calls Tryd.prog 6 #[.agg #[.int .i64 a, .int .i64 b, .int .i64 c, .int .i64 d], .slice va n c0] w fun e w' => ∃ r, ListPost w r e w' := by
  by_cases hr : Right a b c d
  · by_cases hn : (n : Int) = 5 + b + d + b * c + 3 * a
    · exact (rlist_right a b c d hr va n c0 f hn hu w hW).mono (fun e w' h => ⟨_, h⟩)
    · exact (rlist_len a b c d hr va n c0 hn w).mono (fun e w' h => ⟨_, h⟩)
  · exact (rlist_wrong a b c d hr va n c0 w).mono (fun e w' h => ⟨_, h⟩)
/-- A place ahead of the cells. -/
theorem sp_low {C : Cf} {k : Nat} (h : (k : Int) < 5 + C.b + C.d + C.b * C.c) : (spotF C.b C.c C.d k).1 < 4 := by
  unfold spotF
  split
  · simp
  · split
    · simp
    · split
      · simp
      · simp
theorem part_at {C : Cf} (hC : CfOK C) {i : Nat} (hi : (i : Int) < C.a) : (colI C i : Int) = 5 + C.b + C.d + C.b * C.c + 3 * (i : Int) + 2 ∧ (carI C i : Int) = 5 + C.b + C.d + C.b * C.c + 3 * (i : Int) ∧ (cdrI C i : Int) = 5 + C.b + C.d + C.b * C.c + 3 * (i : Int) + 1 := by
  have e : ∀ q : Int, partP C.a C.b C.c C.d q i = 5 + C.b + C.d + C.b * C.c + 3 * (i : Int) + q := fun q => by unfold partP; rw [if_pos ⟨⟨by omega, hi⟩, hC.right⟩]
  have h1 := (colI_sp hC hi).1; have h2 := (carI_sp hC hi).1; have h3 := (cdrI_sp hC hi).1
  rw [e] at h1 h2 h3
  exact ⟨by omega, by omega, by omega⟩
/-- What a sweep's end is. -/
theorem SwSt.fin {C : Cf} {f0 f : Nat → Int} {L0 : List Nat} {cy : Int} {n : Nat} {W : List Nat} {x : Co} (h : SwSt C f0 f L0 cy n W x) (hl : ¬ 20 ≤ x.l) :
    x.l = 1 ∧ x.cy = cy + 1 ∧ listF (nxF C.b C.c C.d f) C.a.toNat (f 0) = some (L0 ++ W) ∧ (∀ k : Nat, (k : Int) < 5 + C.b + C.d + C.b * C.c → f k = f0 k) ∧
      ∀ i : Nat, (i : Int) < C.a → (f0 (colI C i) = 0 → f (carI C i) = 0 ∧ f (colI C i) = 0) ∧ (f0 (colI C i) = 2 → f (carI C i) = f0 (carI C i) ∧ f (colI C i) = 0) ∧ (f0 (colI C i) ≠ 0 → f0 (colI C i) ≠ 2 → f (carI C i) = f0 (carI C i) ∧ f (colI C i) = f0 (colI C i)) ∧ (f0 (colI C i) ≠ 0 → L0.getLast? ≠ some i → f (cdrI C i) = f0 (cdrI C i)) := by
  rcases h.line with ⟨g, _⟩ | ⟨e1, e2, e3⟩
  · exact absurd g hl
  obtain ⟨t, _, ht⟩ := h.tl
  refine ⟨e1, e3, listF_some.2 ⟨h.chain, fun e => by rw [e] at ht; cases ht⟩, fun k hk => h.base k (sp_low hk), fun i hi => ⟨fun h0 => ⟨?_, ?_⟩, fun h2 => ⟨?_, ?_⟩, fun h0 h2 => ⟨?_, ?_⟩, fun h0 hL => h.cdr i hi h0 hL⟩⟩
  · rw [h.car i hi, if_pos ⟨h0, .inl (by omega)⟩]
  · rw [h.col i hi, if_neg (by omega), h0]
  · rw [h.car i hi, if_neg (by omega)]
  · rw [h.col i hi, if_pos ⟨h2, by omega⟩]
  · rw [h.car i hi, if_neg (fun q => h0 q.1)]
  · rw [h.col i hi, if_neg (fun q => h2 q.1)]
end Go.Proofs.YthdcapkchjamoaaDoor
/- Rows of words by their list; rows of bools. -/
namespace Go.Proofs.YthdcapkchjamoaaDoor
open Go Go.RowKit
set_option maxRecDepth 100000
attribute [local go_sem ↓] Go.wp_at_zero Go.wp_at_succ

/-- Words as values. -/
def wdsV (l : List Int) : List Value := l.map (Value.int .u64)
theorem wdsV_length (l : List Int) : (wdsV l).length = l.length := by simp [wdsV]
theorem wdsV_append (l m : List Int) : wdsV (l ++ m) = wdsV l ++ wdsV m := by simp [wdsV]
theorem wdsV_one {l : List Int} : ∀ u ∈ wdsV l, u.oneCell' = true := fun u hu => by
  unfold wdsV at hu; obtain ⟨x, _, rfl⟩ := List.mem_map.1 hu; rfl
/-- A slice of these words. -/
def WdsAt (w : World) (a : Option Addr) (l : List Int) : Prop := l = [] ∨ ∃ b off, a = some ⟨b, off, none⟩ ∧ b < w.heap.size ∧ ∀ (j : Nat) (x : Int), l[j]? = some x → w.cell? ⟨b, off + j, none⟩ = some (.int .u64 x)
theorem WdsAt.below {w w' : World} {a : Option Addr} {l : List Int} (h : WdsAt w a l) (hb : Below w.heap.size w w') : WdsAt w' a l := by
  rcases h with h | ⟨b, off, e, h1, h2⟩
  · exact .inl h
  · exact .inr ⟨b, off, e, Nat.lt_of_lt_of_le h1 hb.size, fun j x hx => (hb.cell (p := ⟨b, off + j, none⟩) h1).trans (h2 j x hx)⟩
theorem WdsAt.news {w : World} {ad : Addr} {l : List Int} (h : WdsAt w (some ad) l) (hl : l ≠ []) : ∀ j u, (wdsV l)[j]? = some u → w.cell? (ad.add j) = some u := fun j u hu => by
  rcases h with h | ⟨b, off, e, _, h2⟩
  · exact absurd h hl
  · obtain rfl := Option.some.inj e
    unfold wdsV at hu
    rw [List.getElem?_map] at hu
    cases hx : l[j]? with
    | none => rw [hx] at hu; cases hu
    | some x =>
      rw [hx] at hu
      obtain rfl := Option.some.inj hu
      rw [Addr.add_lit]; exact h2 j x hx
/-- A row of the call's own is a slice of these words. -/
theorem WdsAt.own {w : World} {base : Nat} {v : Value} {l : List Int} (h : w.ownsRow base 35 1 v l.length (wdsV l)) : ∃ a cap, v = .slice a l.length cap ∧ WdsAt w a l ∧ (a = none ∨ ∃ g, a = some ⟨g, 0, none⟩ ∧ base ≤ g ∧ g < w.heap.size) ∧ l.length ≤ cap := by
  rcases h.2 with ⟨e, h0⟩ | ⟨g, cap, cur, e, hb, hg, h1, h2, h3, h4⟩
  · have hL : l = [] := List.length_eq_zero_iff.1 h0
    subst hL
    exact ⟨none, 0, e, .inl rfl, .inl rfl, Nat.le_refl _⟩
  · have hgl := (Array.getElem?_eq_some_iff.1 hg).1
    refine ⟨_, cap, e, .inr ⟨g, 0, rfl, hgl, fun j x hx => ?_⟩, .inr ⟨g, rfl, hb, hgl⟩, h1⟩
    have hj : j < l.length := (List.getElem?_eq_some_iff.1 hx).1
    have h5 : cur.toList[j]? = some (.int .u64 x) := by
      have : (wdsV l)[j]? = some (.int .u64 x) := by unfold wdsV; rw [List.getElem?_map, hx]; rfl
      rw [← this, ← h4, List.getElem?_take, if_pos (by omega)]
    rw [Nat.zero_add]
    simp only [World.cell?, hg]
    rw [← h5]; simp
/-- A row of the call's own without its last one. -/
theorem ownsRow_cut {w : World} {base g n cap : Nat} {e : TypeId} {xs : List Value} {x : Value} (h : w.ownsRow base e 1 (.slice (some ⟨g, 0, none⟩) (n + 1) cap) (n + 1) (xs ++ [x])) (hx : xs.length = n) : w.ownsRow base e 1 (.slice (some ⟨g, 0, none⟩) n cap) n xs := by
  rcases h.2 with ⟨e, _⟩ | ⟨g', cap', cur, e, hb, hg, h1, h2, h3, h4⟩
  · cases e
  · simp only [Value.slice.injEq, Option.some.injEq, Addr.mk.injEq, and_true, true_and] at e
    obtain ⟨rfl, rfl⟩ := e
    refine ⟨by omega, .inr ⟨g, cap, cur, rfl, hb, hg, by omega, h2, h3, ?_⟩⟩
    have := congrArg (List.take n) h4
    rw [List.take_take, List.take_left' hx] at this
    rw [← this]
    congr 1
    omega
/-- At a step of a region that draws its order: an append of as many as there are, none too. -/
theorem step_append_own {P : Program} {w : World} {ops : Array Oper} {o : Oper} {a : Act} {K : Act → World → Prop} {Q : Exit → Act → World → Prop} {E : Prop} (hgd : o.guard = none) (s x : Operand) (t : TypeId)
    (ho : o.op = .call { callee := .builtin .append, args := #[s, x], argTypes := #[t, t] })
    (base : Nat) (e : TypeId) (i : TypeInfo) (z : Value) (size bytes : Nat) (ht : P.underlying t = some (.slice e)) (hi : P.info? e = some i) (hz : i.zero = some z)
    (hsize : i.size = size) (hby : i.bytes = bytes) (hzs : z.cells.size = size) (hsz : 0 < size)
    (v : Value) (n : Nat) (xs : List Value) (hs : a.eval s = v) (hown : w.ownsRow base e size v n xs)
    (ad : Addr) (m c : Nat) (news : List Value) (hx : a.eval x = .slice (some ad) m c) (hl : news.length = m * size) (hnews : ∀ j u, news[j]? = some u → w.cell? (ad.add j) = some u) (h1 : ∀ u ∈ news, u.oneCell' = true)
    (h63 : n + m ≤ maxLen) (hbytes : (n + m) * bytes ≤ 140737488355328) (hbase : base ≤ w.heap.size)
    (h : ∀ v' w', w'.ownsRow base e size v' (n + m) (xs ++ news) → w.grownBy w' v.ownBlock → (v' = .slice none 0 0 ↔ v = .slice none 0 0 ∧ m = 0) → K (a.put o.dst v') w') :
    if Region.wanted o (yielded ops a.tmps) = true then Oper.wp P o a w K Q else E := by
  have hw : Region.wanted o (yielded ops a.tmps) = true := by simp [Region.wanted, hgd]
  rw [if_pos hw]
  exact wp_append_own w s x t ho base e i z size bytes ht hi hz hsize hby hzs hsz v n xs hs hown ad m c news hx hl hnews h1 h63 hbytes hbase h
/-- Bools o 0, o 1, .. lie at the first n places of block R. -/
def BoolAt (w : World) (R : Nat) (n : Nat) (o : Nat → Bool) : Prop :=
  ∃ c : Array Value, w.heap[R]? = some (.cells c 4 (0, 0)) ∧ n ≤ c.size ∧ ∀ j, j < n → c[j]? = some (.bool (o j))
namespace BoolAt
variable {w w' : World} {R n : Nat} {o q : Nat → Bool}
theorem cell (h : BoolAt w R n o) {j : Nat} (hj : j < n) : w.cell? ⟨R, j, none⟩ = some (.bool (o j)) := by
  obtain ⟨c, hb, _, hc⟩ := h; simp [World.cell?, hb, hc j hj]
theorem frozen (h : BoolAt w R n o) (j : Nat) : w.frozen? ⟨R, j, none⟩ = false := by
  obtain ⟨c, hb, _, _⟩ := h; simp [World.frozen?, hb]
theorem lt (h : BoolAt w R n o) : R < w.heap.size := by
  obtain ⟨c, hb, _, _⟩ := h; exact (Array.getElem?_eq_some_iff.1 hb).1
theorem congr (h : BoolAt w R n o) (e : ∀ j, j < n → o j = q j) : BoolAt w R n q := by
  obtain ⟨c, hb, hn, hc⟩ := h; exact ⟨c, hb, hn, fun j hj => by rw [hc j hj, e j hj]⟩
theorem other (h : BoolAt w R n o) (e : w'.heap[R]? = w.heap[R]?) : BoolAt w' R n o := by
  obtain ⟨c, hb, hn, hc⟩ := h; exact ⟨c, e.trans hb, hn, hc⟩
theorem below (h : BoolAt w R n o) (hb : Below w.heap.size w w') : BoolAt w' R n o := h.other (hb.block _ h.lt)
theorem drew (h : BoolAt w R n o) : BoolAt w.drew R n o := h
theorem set (h : BoolAt w R n o) (p : Nat) (x : Bool) : BoolAt (w.setCell ⟨R, p, none⟩ (.bool x)) R n (fun j => if j = p then x else o j) := by
  obtain ⟨c, hb, hn, hc⟩ := h
  refine ⟨c.setIfInBounds p (.bool x), by simp [World.setCell, Array.getElem?_modify, hb], by simpa using hn, fun j hj => ?_⟩
  rw [Array.getElem?_setIfInBounds]
  by_cases e : j = p
  · subst e; rw [if_pos rfl, if_pos (by omega)]; simp
  · rw [if_neg (fun h => e h.symm), hc j hj]; simp [e]
theorem setOther (h : BoolAt w R n o) {p : Addr} (hp : p.block ≠ R) (v : Value) : BoolAt (w.setCell p v) R n o := h.other (Below.heap_setCell _ _ _ _ (fun e => hp e.symm))
end BoolAt
theorem BoolAt.made (w : World) (n : Nat) : BoolAt (w.alloc (.cells (madeCells #[.bool false] n) 4)) w.heap.size n (fun _ => false) :=
  ⟨_, newBlock _ _, by rw [size_madeCells]; exact Nat.le_refl _, fun j hj => by simp [madeCells, hj, Nat.mod_one]⟩
/-- Slices of words, by their list. -/
theorem WordsAt.wds {w : World} {a : Option Addr} {n : Nat} {f : Nat → Int} (h : WordsAt w a n f) (lo m : Nat) (hm : lo + m ≤ n) (hm0 : 0 < m) : ∃ b off, a = some ⟨b, off, none⟩ ∧ WdsAt w (some ⟨b, off + lo, none⟩) ((List.range m).map fun j => f (lo + j)) := by
  rcases h with h | ⟨b, off, e, h1, h2⟩
  · omega
  · refine ⟨b, off, e, .inr ⟨b, off + lo, rfl, h1, fun j x hx => ?_⟩⟩
    rw [List.getElem?_map] at hx
    by_cases hj : j < m
    · rw [List.getElem?_range hj] at hx
      obtain rfl := Option.some.inj hx
      rw [show off + lo + j = off + (lo + j) by omega]
      exact h2 (lo + j) (by omega)
    · rw [List.getElem?_eq_none (by simp; omega)] at hx; cases hx
/-- What a call that makes a row of words answers. -/
def WdsPost (w : World) (l : List Int) (e : Ending) (w' : World) : Prop := ∃ v, e = .returned v ∧ w'.ownsRow w.heap.size 35 1 v l.length (wdsV l) ∧ Below w.heap.size w w'
/-- The roots' words, as a list. -/
def rootsL (b d bc : Nat) (f : Nat → Int) : List Int := f 0 :: (List.range (d + bc)).map fun j => f (5 + b + j)
theorem rootsL_mem {C : Cf} (hC : CfOK C) {b d bc : Nat} (hb : C.b = b) (hd : C.d = d) (hbc : C.b * C.c = bc) (f : Nat → Int) (w : Int) : RootS C f w ↔ w ∈ rootsL b d bc f := by
  have hp : ∀ j : Int, 0 ≤ j → j < rootsN C → rootW C f j = f (if j = 0 then 0 else (4 + C.b + j).toNat) := fun j h0 h1 => by
    unfold rootW rootP
    unfold rootsN at h1
    rw [if_pos ⟨⟨h0, h1⟩, hC.right⟩]
    split <;> rfl
  have hN : rootsN C = 1 + d + bc := by unfold rootsN; rw [hbc, hd]
  unfold RootS rootsL
  rw [List.mem_cons, List.mem_map]
  constructor
  · rintro ⟨j, h0, h1, e⟩
    rw [hp j h0 h1] at e
    by_cases hj : j = 0
    · rw [if_pos hj] at e; exact .inl e.symm
    · rw [if_neg hj] at e
      refine .inr ⟨(j - 1).toNat, List.mem_range.2 (by omega), ?_⟩
      rw [← e]; congr 1; omega
  · rintro (e | ⟨j, hj, e⟩)
    · exact ⟨0, by omega, by omega, by rw [hp 0 (by omega) (by omega), if_pos rfl]; exact e.symm⟩
    · have hj := List.mem_range.1 hj
      refine ⟨(j : Int) + 1, by omega, by omega, ?_⟩
      rw [hp _ (by omega) (by omega), if_neg (by omega), ← e]; congr 1; omega
end Go.Proofs.YthdcapkchjamoaaDoor
/- A whole cycle of the collector with nobody else about, step by step, without memory. -/
namespace Go.Proofs.YthdcapkchjamoaaDoor
open Go Go.RowKit
set_option maxRecDepth 100000

theorem rootS_tl (C : Cf) (s : Dy) (x : Co) : (rootS C s x).2.1.tl = x.tl ∧ (rootS C s x).2.1.cy = x.cy := by
  unfold rootS nextRoot
  repeat' split
  all_goals exact ⟨rfl, rfl⟩
theorem nextCell_tl (C : Cf) (x : Co) : (nextCell C x).tl = x.tl ∧ (nextCell C x).cy = x.cy := by
  unfold nextCell
  repeat' split
  all_goals exact ⟨rfl, rfl⟩
theorem passS_tl (C : Cf) (s : Dy) (x : Co) : (passS C s x).2.1.tl = x.tl ∧ (passS C s x).2.1.cy = x.cy := by
  unfold passS
  split
  · exact ⟨rfl, rfl⟩
  split
  · dsimp only; split
    · exact ⟨rfl, rfl⟩
    · exact nextCell_tl C x
  split
  · exact ⟨rfl, rfl⟩
  split
  · exact ⟨rfl, rfl⟩
  split
  · exact ⟨rfl, rfl⟩
  split
  · exact ⟨rfl, rfl⟩
  split
  · exact nextCell_tl C _
  · exact ⟨rfl, rfl⟩
theorem nextMut_tl (C : Cf) (x : Co) (n k : Int) : (nextMut C x n k).tl = x.tl ∧ (nextMut C x n k).cy = x.cy := by
  unfold nextMut
  split
  all_goals exact ⟨rfl, rfl⟩
theorem shutS_tl (C : Cf) (s : Dy) (x : Co) : (shutS C s x).2.1.tl = x.tl ∧ (shutS C s x).2.1.cy = x.cy := by
  unfold shutS
  split
  · dsimp only; split
    · exact ⟨rfl, rfl⟩
    · exact nextMut_tl C _ _ _
  split
  · dsimp only; split
    · exact ⟨rfl, rfl⟩
    · exact nextMut_tl C _ _ _
  split
  · exact ⟨rfl, rfl⟩
  split
  · dsimp only; split
    · exact ⟨rfl, rfl⟩
    · exact nextMut_tl C _ _ _
  split
  · dsimp only; split
    · exact ⟨rfl, rfl⟩
    · exact ⟨rfl, rfl⟩
  split
  · exact ⟨rfl, rfl⟩
  split
  · exact ⟨rfl, rfl⟩
  · exact ⟨rfl, rfl⟩
/-- All roots' cells are shaded. -/
def RtDone (C : Cf) (f0 f1 : Nat → Int) : Prop := ∀ i, 0 ≤ i → i < rootsN C → 0 ≤ colP C (rootW C f0 i) → f1 (colP C (rootW C f0 i)).toNat ≠ 0
/-- How many steps the roots and the passes take at most; and a cycle. -/
def cyA (C : Cf) : Nat := 2 * (rootsN C).toNat
def cyB (C : Cf) : Nat := cyA C + (C.a.toNat + 1) * (6 * C.a.toNat + 1) + 1
def cyM (C : Cf) : Int := (C.a + 1) * (6 * C.a + 1) + 3 * rootsN C + 5 * C.a + 2 * C.b + 10
/-- What is so behind a cycle. -/
def CyEnd (C : Cf) (f0 : Nat → Int) (L0 : List Nat) (f : Nat → Int) : Prop :=
  ∃ W : List Nat, ChainL (nxF C.b C.c C.d f) C.a.toNat (f 0) (L0 ++ W) ∧ ∀ i : Nat, (i : Int) < C.a → (i ∈ L0 ++ W ↔ i ∈ L0 ∨ ¬ Rch C f0 (KeptS C f0) i) ∧ f (colI C i) = 0
/-- How far a cycle is, behind N steps and fl flips. -/
inductive CcSt (C : Cf) (f0 : Nat → Int) (L0 : List Nat) (t : Nat) (f : Nat → Int) (N : Nat) (fl : Int) (x : Co) : Prop
  | roots : RtSt C f0 f N x → x.l = 1 ∨ x.l = 2 → x.tl = t → x.cy = 0 → fl = 0 → CcSt C f0 L0 t f N fl x
  | passes (f1 : Nat → Int) (n1 n P : Nat) (L : List Nat) : RtNear C f0 f1 → RtDone C f0 f1 → n1 ≤ cyA C → N = n1 + n → PsSt C f1 f n P L x → KeptI C f0 f → x.l ≠ 10 → x.tl = t → x.cy = 0 → fl = 0 → CcSt C f0 L0 t f N fl x
  | bar (fm : Nat → Int) (n1 n : Nat) : Marked C f0 fm → fm 2 = 0 → n1 ≤ cyB C → N = n1 + n → DtSt C fm f n fl x → (n : Int) < 2 * C.b + 3 → x.tl = t → x.cy = 0 → CcSt C f0 L0 t f N fl x
  | sweep (fm : Nat → Int) (n1 n : Nat) (W : List Nat) : Marked C f0 fm → (n1 : Int) ≤ cyB C + 2 * C.b + 3 → N = n1 + n → SwSt C (upd fm 1 0) f L0 0 n W x → 20 ≤ x.l → fl = 1 → x.cy = 0 → CcSt C f0 L0 t f N fl x
  | over : CyEnd C f0 L0 f → fl = 1 → x.cy = 1 → CcSt C f0 L0 t f N fl x
theorem CcSt.first {C : Cf} {f0 : Nat → Int} {L0 : List Nat} {t : Nat} (hO : CyOK C f0 L0 t) (x : Co) (hl : x.l = 1) (hj : x.j = 0) (ht : x.tl = t) (hc : x.cy = 0) : CcSt C f0 L0 t f0 0 0 x :=
  .roots (RtSt.first C hO.ok f0 x hl hj) (.inl hl) ht hc rfl
/-- What is on the free list is kept. -/
theorem CyOK.list_kept {C : Cf} {f0 : Nat → Int} {L0 : List Nat} {t : Nat} (hO : CyOK C f0 L0 t) : ∀ i ∈ L0, Rch C f0 (KeptS C f0) i := by
  have hC := hO.ok
  refine chain_reached hC (w := f0 0) (fun i e hi => ?_) hO.chain
  refine .base (.inl ⟨0, by omega, by have := rootsN_pos hC; omega, ?_⟩) hi
  have hr : rootP C.a C.b C.c C.d 0 = 0 := by
    unfold rootP
    have hp := rootsN_pos hC
    unfold rootsN at hp
    rw [if_pos ⟨⟨by omega, by omega⟩, hC.right⟩, if_pos rfl]
  unfold rootW
  rw [hr]
  exact e
/-- Behind the sweep. -/
theorem SwSt.end {C : Cf} {f0 fm f : Nat → Int} {L0 W : List Nat} {t n : Nat} {x : Co} (hO : CyOK C f0 L0 t) (hM : Marked C f0 fm) (h : SwSt C (upd fm 1 0) f L0 0 n W x) (hl : ¬ 20 ≤ x.l) : CyEnd C f0 L0 f ∧ x.cy = 1 := by
  have hC := hO.ok
  rcases h.line with ⟨e, _⟩ | ⟨_, hc, hcy⟩
  · omega
  have hcol : ∀ i : Nat, (i : Int) < C.a → upd fm 1 0 (colI C i) = fm (colI C i) := fun i hi => by
    unfold upd; rw [if_neg]
    intro e
    have := (colI_sp hC hi).2.2
    rw [e, sp_once _ _ _ (by omega)] at this
    have := congrArg (·.1) this
    simp at this
  refine ⟨⟨W, h.chain, fun i hi => ⟨?_, ?_⟩⟩, by omega⟩
  · constructor
    · intro hm
      rcases List.mem_append.1 hm with hm | hm
      · exact .inl hm
      · refine .inr (fun hR => ?_)
        have e := (h.app i hm).2
        rw [hcol i hi, ((hM.col i hi).2).2 hR] at e
        exact absurd e (by decide)
    · rintro (hm | hn)
      · exact List.mem_append.2 (.inl hm)
      · refine List.mem_append.2 (.inr (h.all i (by omega) ?_))
        rw [hcol i hi]
        rcases (hM.col i hi).1 with e | e
        · exact e
        · exact absurd ((hM.col i hi).2.1 e) hn
  · rw [h.col i hi, hcol i hi]
    rcases (hM.col i hi).1 with e | e
    · rw [e]; simp
    · rw [e, if_pos ⟨rfl, by omega⟩]
/-- A step of a cycle. -/
theorem CcSt.go {C : Cf} {f0 : Nat → Int} {L0 : List Nat} {t : Nat} (hO : CyOK C f0 L0 t) {s : Dy} {N : Nat} {fl : Int} {x : Co} (h : CcSt C f0 L0 t s.f N fl x) (hx : x.cy = 0) :
    ∃ s' x' what, colS C s x = (s', x', what) ∧ (N : Int) < cyM C ∧ CcSt C f0 L0 t s'.f (N + 1) (fl + if what = 1 then 1 else 0) x' ∧
      (what = 1 → ∀ i : Nat, (i : Int) < C.a → (s'.f (colI C i) = 0 ∨ s'.f (colI C i) = 2) ∧ (s'.f (colI C i) = 2 ↔ Rch C f0 (KeptS C f0) i)) := by
  have hC := hO.ok
  have h4 := hC.a4
  have hrp := rootsN_pos hC
  have hclr : s.clr.f = s.f := rfl
  have hprod : (((C.a.toNat + 1) * (6 * C.a.toNat + 1) : Nat) : Int) = (C.a + 1) * (6 * C.a + 1) := by
    have : ((C.a.toNat : Nat) : Int) = C.a := by omega
    push_cast
    rw [this]
  generalize hq : (C.a + 1) * (6 * C.a + 1) = q at hprod
  generalize hqn : (C.a.toNat + 1) * (6 * C.a.toNat + 1) = qn at hprod
  have hA : (cyA C : Int) = 2 * rootsN C := by unfold cyA; omega
  have hB : (cyB C : Int) = 2 * rootsN C + q + 1 := by unfold cyB; rw [hqn]; omega
  have hMx : cyM C = q + 3 * rootsN C + 5 * C.a + 2 * C.b + 10 := by unfold cyM; rw [hq]
  cases h with
  | roots h hl ht hc hf =>
    obtain ⟨s', x', e, h', hn⟩ := RtSt.go (s := s.clr) hC h hl
    have hle := (stepsN_le C f0 (rootsN C).toNat).1
    have htl := rootS_tl C s.clr x
    rw [e] at htl
    refine ⟨s', x', 0, by unfold colS; rw [if_pos hl, e], by omega, ?_, fun q => by omega⟩
    by_cases hl' : x'.l = 1 ∨ x'.l = 2
    · exact .roots h' hl' (htl.1.trans ht) (htl.2.trans hc) (by simp [hf])
    · have hl3 : x'.l = 3 := by rcases h'.line with ⟨e, _⟩ | ⟨e, _⟩ | ⟨e, _⟩ <;> omega
      have hj : x'.j = rootsN C := by rcases h'.line with ⟨e, _⟩ | ⟨e, _⟩ | ⟨_, e, _⟩ <;> omega
      exact .passes s'.f (N + 1) 0 0 [] h'.near (fun i i0 i1 => h'.done i i0 (by omega)) (by unfold cyA; omega) rfl (PsSt.first C s'.f x' hl3) (h'.near.kept hO) (by omega) (htl.1.trans ht) (htl.2.trans hc) (by simp [hf])
  | passes f1 n1 n P L hr hd hn1 hN h hK hl ht hc hf =>
    obtain ⟨s', x', L', e, h', _, hn⟩ := PsSt.go (s := s.clr) hC h hl
    rw [hqn] at hn
    have hk := PsSt.kept (s := s.clr) hO (fun k hk => hr.other hC hk) h hK hl
    have htl := passS_tl C s.clr x
    rw [e] at htl hk
    have hrange : 3 ≤ x.l ∧ x.l ≤ 9 := by rcases h.line with ⟨e, _⟩ | ⟨e1, e2, _⟩ | ⟨e, _⟩ <;> omega
    refine ⟨s', x', 0, by unfold colS; rw [if_neg (by omega), if_pos hrange, e], by omega, ?_, fun q => by omega⟩
    by_cases hl' : x'.l = 10
    · obtain ⟨hm, h2⟩ := marked_of hO hr hd h' hk hl'
      have hm0 : x'.m = 0 := by rcases h'.line with ⟨e, _⟩ | ⟨_, e2, _⟩ | ⟨_, _, _, e, _⟩ <;> omega
      refine .bar s'.f (N + 1) 0 hm h2 (by unfold cyB; omega) rfl (.inl ⟨by omega, hl', by omega, rfl, by simp [hf]⟩) (by omega) (htl.1.trans ht) (htl.2.trans hc)
    · exact .passes f1 n1 (n + 1) _ L' hr hd hn1 (by omega) h' hk hl' (htl.1.trans ht) (htl.2.trans hc) (by simp [hf])
  | bar fm n1 n hm h2 hn1 hN h hn ht hc =>
    have hid : ∀ m : Nat, (m : Int) < C.b → fm (5 + m) % 4 = 0 := fun m hm' => by
      have hsp : (spotF C.b C.c C.d ((5 + m : Nat) : Int)).1 = 1 := by
        rw [spot_in (by omega) (by omega)]
      rw [hm.near (5 + m) (by rw [hsp]; decide) (by omega), hO.idle m hm']; rfl
    obtain ⟨s', x', b, e, h'⟩ := DtSt.go (s := s.clr) hC hid h hn
    have htl := shutS_tl C s.clr x
    rw [e] at htl
    have hrange : 10 ≤ x.l ∧ x.l ≤ 16 := by rcases h with ⟨_, e, _⟩ | ⟨_, e, _⟩ | ⟨i, _, _, e, _⟩ | ⟨_, e, _⟩ | ⟨_, _, ⟨e, _⟩ | ⟨e, _⟩⟩ | ⟨e, _⟩ <;> omega
    refine ⟨s', x', if b then 1 else 0, by unfold colS; rw [if_neg (by omega), if_neg (by omega), if_pos hrange, e], by omega, ?_, ?_⟩
    · have hfl : fl + (if (if b then (1 : Int) else 0) = 1 then 1 else 0) = fl + if b then 1 else 0 := by cases b <;> rfl
      rw [hfl]
      by_cases hn' : ((n + 1 : Nat) : Int) < 2 * C.b + 3
      · exact .bar fm n1 (n + 1) hm h2 hn1 (by omega) h' hn' (htl.1.trans ht) (htl.2.trans hc)
      · have hend : s'.f = upd fm 1 0 ∧ x'.l = 20 ∧ x'.c = 0 ∧ (fl + if b then 1 else 0) = 1 := by
          rcases h' with ⟨e, _⟩ | ⟨e, _⟩ | ⟨i, e, _⟩ | ⟨e, _⟩ | ⟨e, _⟩ | ⟨_, ef, ⟨e1, e2, _, e3⟩ | ⟨_, e, _⟩⟩
          · omega
          · omega
          · omega
          · omega
          · omega
          · exact ⟨ef, e1, e2, e3⟩
          · exact absurd h2 e
        obtain ⟨ef, e1, e2, e3⟩ := hend
        rw [ef]
        have hnear : ∀ k : Nat, (spotF C.b C.c C.d k).1 ≠ 6 → k ≠ 2 → k ≠ 1 → upd fm 1 0 k = f0 k := fun k k6 k2 k1 => by
          unfold upd; rw [if_neg k1]; exact hm.near k k6 k2
        refine .sweep fm (N + 1) 0 [] hm (by omega) rfl ?_ (by omega) e3 (htl.2.trans hc)
        have hfirst := SwSt.first (f0 := upd fm 1 0) hC (L0 := L0) ?_ hO.last x' e1 e2 (htl.1.trans ht)
        · rw [htl.2.trans hc] at hfirst; exact hfirst
        · rw [hnear 0 (by rw [sp_once _ _ _ (by omega)]; decide) (by omega) (by omega)]
          refine hO.chain.congr (fun i hi => ?_)
          have hil := (hO.list_kept i hi).lt
          have hs := (cdrI_sp hC hil).2.2
          rw [nxF_cdr hC _ hil, nxF_cdr hC _ hil]
          refine (hnear _ (by rw [hs]; simp) (fun q => ?_) (fun q => ?_)).symm
          · rw [q, sp_once _ _ _ (by omega)] at hs; have := congrArg (·.1) hs; simp at this
          · rw [q, sp_once _ _ _ (by omega)] at hs; have := congrArg (·.1) hs; simp at this
    · intro hw i hi
      have hb : b = true := by cases b <;> simp_all
      have hf : s'.f = upd fm 1 1 := by
        subst hb
        have h0 : 0 ≤ fl ∧ ((n : Int) = 2 * C.b + 2 → fl = 1) := by
          rcases h with ⟨_, _, _, _, e⟩ | ⟨_, _, _, _, e⟩ | ⟨i, _, _, _, _, _, e⟩ | ⟨_, _, _, e⟩ | ⟨_, _, ⟨_, _, e⟩ | ⟨_, e, _⟩⟩ | ⟨e, _⟩
          · omega
          · omega
          · omega
          · omega
          · omega
          · exact absurd h2 e
          · omega
        simp only [if_true] at h'
        rcases h' with ⟨_, _, _, _, e⟩ | ⟨_, _, _, _, e⟩ | ⟨i, _, _, _, _, _, e⟩ | ⟨_, _, _, e⟩ | ⟨_, e, _⟩ | ⟨_, _, ⟨_, _, _, e⟩ | ⟨_, e, _⟩⟩
        · omega
        · omega
        · omega
        · omega
        · exact e
        · omega
        · exact absurd h2 e
      have hcol : upd fm 1 1 (colI C i) = fm (colI C i) := by
        unfold upd; rw [if_neg]
        intro e
        have := (colI_sp hC hi).2.2
        rw [e, sp_once _ _ _ (by omega)] at this
        have := congrArg (·.1) this
        simp at this
      rw [hf, hcol]
      exact hm.col i hi
  | sweep fm n1 n W hm hn1 hN h hl hf hc =>
    have hcol : ∀ i : Nat, (i : Int) < C.a → upd fm 1 0 (colI C i) = fm (colI C i) := fun i hi => by
      unfold upd; rw [if_neg]
      intro e
      have := (colI_sp hC hi).2.2
      rw [e, sp_once _ _ _ (by omega)] at this
      have := congrArg (·.1) this
      simp at this
    have hnw : ∀ i ∈ L0, upd fm 1 0 (colI C i) ≠ 0 := fun i hi => by
      have hR := hO.list_kept i hi
      rw [hcol i hR.lt, ((hm.col i hR.lt).2).2 hR]; decide
    obtain ⟨s', x', what, e, h', hn, _⟩ := SwSt.go (s := s.clr) hC hnw h hl
    have hwhat : what ≠ 1 := by
      have : (sweepS C s.clr x).2.2.1 ≠ 1 := by
        unfold sweepS cycN
        repeat' split
        all_goals (dsimp only; omega)
      rw [e] at this; exact this
    refine ⟨s', x', what, by unfold colS; rw [if_neg (by omega), if_neg (by omega), if_neg (by omega), e], by omega, ?_, fun q => absurd q hwhat⟩
    rw [if_neg hwhat]
    by_cases hl' : 20 ≤ x'.l
    · refine .sweep fm n1 (n + 1) _ hm hn1 (by omega) h' hl' (by omega) ?_
      rcases h'.line with ⟨_, _, _, _, e, _⟩ | ⟨e, _⟩
      · exact e
      · omega
    · obtain ⟨he, hcy⟩ := SwSt.end hO hm h' hl'
      exact .over he (by omega) hcy
  | over _ _ h => omega
end Go.Proofs.YthdcapkchjamoaaDoor
/- What the law CollectorCycles carries. -/
namespace Go.Proofs.YthdcapkchjamoaaDoor
open Go Go.RowKit
set_option maxRecDepth 100000
attribute [local go_sem ↓] Go.wp_at_zero Go.wp_at_succ

/-- Where the collector is stays within the map. -/
def CoB (C : Cf) (x : Co) : Prop := (0 ≤ x.j ∧ x.j ≤ rootsN C ∧ (x.l = 1 ∨ x.l = 2 → x.j < rootsN C)) ∧ (0 ≤ x.c ∧ x.c ≤ C.a ∧ ((4 ≤ x.l ∧ x.l ≤ 9) ∨ (20 ≤ x.l ∧ x.l ≤ 24) → x.c < C.a)) ∧ (0 ≤ x.m ∧ x.m ≤ C.b ∧ (10 ≤ x.l ∧ x.l ≤ 16 → x.m < C.b))
theorem colS_B {C : Cf} (ha : 1 ≤ C.a) (hb : 1 ≤ C.b) (hN : 1 ≤ rootsN C) {s : Dy} {x : Co} (h : CoB C x) : CoB C (colS C s x).2.1 := by
  obtain ⟨l, j, c, m, xa, p, fd, tl, cy⟩ := x
  unfold CoB at *
  dsimp only at h
  have nr : ∀ y : Co, y.j = j → y.c = c → y.m = m → j < rootsN C → CoB C (nextRoot C y) := fun y e1 e2 e3 hl => by
    unfold CoB nextRoot
    split
    · dsimp only; rw [e1, e2, e3] at *; omega
    · dsimp only; rw [e1, e2, e3] at *; omega
  have nc : ∀ y : Co, y.j = j → y.c = c → y.m = m → c < C.a → CoB C (nextCell C y) := fun y e1 e2 e3 hl => by
    unfold CoB nextCell
    split
    · dsimp only; rw [e1, e2, e3] at *; omega
    · split <;> (dsimp only; rw [e1, e2] at *; omega)
  have nm : ∀ (y : Co) (n k : Int), y.j = j → y.c = c → y.m = m → m < C.b → (n = 10 ∨ n = 12) → (k = 11 ∨ k = 13) → CoB C (nextMut C y n k) := fun y n k e1 e2 e3 hl hn hk => by
    unfold CoB nextMut
    split
    · dsimp only; rw [e1, e2, e3] at *; omega
    · dsimp only; rw [e1, e2] at *; omega
  have ns : ∀ y : Co, y.j = j → y.c = c → y.m = m → c < C.a → CoB C (nextSwept C y) := fun y e1 e2 e3 hl => by
    unfold CoB nextSwept
    split
    · dsimp only; rw [e1, e2, e3] at *; omega
    · dsimp only; rw [e1, e2, e3] at *; omega
  unfold colS
  dsimp only
  split
  · unfold rootS
    dsimp only
    split
    · dsimp only
      split
      · dsimp only; omega
      · exact nr _ rfl rfl rfl (by omega)
    split
    · exact nr _ rfl rfl rfl (by omega)
    · dsimp only; omega
  split
  · unfold passS
    dsimp only
    split
    · dsimp only; omega
    split
    · dsimp only
      split
      · dsimp only; omega
      · exact nc _ rfl rfl rfl (by omega)
    split
    · dsimp only; split <;> omega
    split
    · dsimp only; omega
    split
    · dsimp only; split <;> omega
    split
    · dsimp only; omega
    split
    · exact nc _ rfl rfl rfl (by omega)
    · dsimp only; omega
  split
  · unfold shutS
    dsimp only
    split
    · dsimp only
      split
      · dsimp only; omega
      · exact nm _ _ _ rfl rfl rfl (by omega) (.inl rfl) (.inl rfl)
    split
    · dsimp only
      split
      · dsimp only; omega
      · exact nm _ _ _ rfl rfl rfl (by omega) (.inl rfl) (.inl rfl)
    split
    · dsimp only; omega
    split
    · dsimp only
      split
      · dsimp only; omega
      · exact nm _ _ _ rfl rfl rfl (by omega) (.inr rfl) (.inr rfl)
    split
    · dsimp only; split <;> (dsimp only; omega)
    split
    · dsimp only; omega
    split
    · dsimp only; omega
    · dsimp only; omega
  · unfold sweepS
    dsimp only
    split
    · dsimp only
      split
      · dsimp only; omega
      split
      · dsimp only; omega
      · exact ns _ rfl rfl rfl (by omega)
    split
    · dsimp only; omega
    split
    · dsimp only; omega
    split
    · exact ns _ rfl rfl rfl (by omega)
    split
    · exact ns _ rfl rfl rfl (by omega)
    · dsimp only; omega
theorem IntsAt.block' {w w' : World} {g : Nat} {L : List Nat} (h : IntsAt w (some ⟨g, 0, none⟩) L) (hb : w'.heap[g]? = w.heap[g]?) (hs : w.heap.size ≤ w'.heap.size) : IntsAt w' (some ⟨g, 0, none⟩) L := h.block hb hs
/-- The law's cycle: the collector in block B beside the hand; the list at first in block g; what is live, and what is kept, as rows of bools. -/
structure CyW (w wr : World) (H A G B g P Q : Nat) (C : Cf) (N : Nat) (s : Dy) (x : Co) (L : List Nat) (o1 o2 : Nat → Bool) : Prop where
  ck : CkW w wr H A G B C s x
  list : IntsAt wr (some ⟨g, 0, none⟩) L
  gl : g < wr.heap.size
  live : BoolAt wr P N o1
  kept : BoolAt wr Q N o2
  ng : g ≠ H ∧ g ≠ G ∧ g ≠ B
  np : P ≠ H ∧ P ≠ G ∧ P ≠ B
  nq : Q ≠ H ∧ Q ≠ G ∧ Q ≠ B
namespace CyW
variable {w W V : World} {H A G B g P Q N : Nat} {C : Cf} {s s' : Dy} {x : Co} {L : List Nat} {o1 o2 : Nat → Bool}
theorem below (h : CyW w W H A G B g P Q C N s x L o1 o2) (hb : Below W.heap.size W V) : CyW w V H A G B g P Q C N s x L o1 o2 :=
  ⟨h.ck.below hb, h.list.below hb, Nat.lt_of_lt_of_le h.gl hb.size, h.live.below hb, h.kept.below hb, h.ng, h.np, h.nq⟩
theorem step (h : CyW w W H A G B g P Q C N s x L o1 o2) {u : Value} {e : Ending} (hp : HP W H A G C s' u e V) : e = .returned u ∧ CyW w V H A G B g P Q C N s' x L o1 o2 := by
  obtain ⟨he, hc⟩ := h.ck.step hp
  have a := h.ng; have b := h.np; have c := h.nq
  exact ⟨he, hc, h.list.block (hp.2.2.block g h.gl (fun e => e.elim a.1 a.2.1)) hp.2.2.size, Nat.lt_of_lt_of_le h.gl hp.2.2.size, h.live.other (hp.2.2.block P h.live.lt (fun e => e.elim b.1 b.2.1)), h.kept.other (hp.2.2.block Q h.kept.lt (fun e => e.elim c.1 c.2.1)), a, b, c⟩
theorem put (h : CyW w W H A G B g P Q C N s x L o1 o2) (y : Co) : CyW w (put9 W B y.l y.j y.c y.m y.a y.p y.fd y.tl y.cy) H A G B g P Q C N s y L o1 o2 := by
  have a := h.ng; have b := h.np; have c := h.nq
  have hz := size_put9 W B y.l y.j y.c y.m y.a y.p y.fd y.tl y.cy
  exact ⟨h.ck.put y, h.list.block (heap_put9 W B _ _ _ _ _ _ _ _ _ a.2.2) (by rw [hz]; exact Nat.le_refl _), by rw [hz]; exact h.gl, h.live.other (heap_put9 W B _ _ _ _ _ _ _ _ _ b.2.2), h.kept.other (heap_put9 W B _ _ _ _ _ _ _ _ _ c.2.2), a, b, c⟩
end CyW
/-- Behind the cycle: what is there then in Z, the list at first in g, the one that is there then in y, what is kept in Q, and two rows of bools of the law's own. -/
structure EnW (w W : World) (Z X g y Q R S : Nat) (C : Cf) (N : Nat) (v0 : Option Addr) (f f' : Nat → Int) (L K : List Nat) (o2 r t : Nat → Bool) : Prop where
  rn : RnB w W Z X C v0 f f'
  list : IntsAt W (some ⟨g, 0, none⟩) L
  free : IntsAt W (some ⟨y, 0, none⟩) K
  kept : BoolAt W Q N o2
  on : BoolAt W R N r
  was : BoolAt W S N t
  gl : g < W.heap.size ∧ y < W.heap.size
  lo : w.heap.size ≤ R ∧ w.heap.size ≤ S ∧ R ≠ S
  nr : Z ≠ R ∧ X ≠ R ∧ g ≠ R ∧ y ≠ R ∧ Q ≠ R
  ns : Z ≠ S ∧ X ≠ S ∧ g ≠ S ∧ y ≠ S ∧ Q ≠ S
  vr : ∀ b off, v0 = some ⟨b, off, none⟩ → b ≠ R ∧ b ≠ S
/-- The law's first part: the hand, the list, and which cells were grey, as a row of bools in Y. -/
structure PhW (w W : World) (H A G g Y N : Nat) (C : Cf) (s : Dy) (L : List Nat) (o : Nat → Bool) : Prop where
  old : Below w.heap.size w W
  hand : HAt W H A G C s
  list : IntsAt W (some ⟨g, 0, none⟩) L
  grey : BoolAt W Y N o
  gl : g < W.heap.size
  lo : w.heap.size ≤ H ∧ w.heap.size ≤ G ∧ w.heap.size ≤ Y
  ny : Y ≠ H ∧ Y ≠ A ∧ Y ≠ G ∧ Y ≠ g
  ng : g ≠ H ∧ g ≠ G
namespace PhW
variable {w W V : World} {H A G g Y N : Nat} {C : Cf} {s : Dy} {L : List Nat} {o : Nat → Bool}
theorem below (h : PhW w W H A G g Y N C s L o) (hb : Below W.heap.size W V) : PhW w V H A G g Y N C s L o :=
  ⟨belowOn h.old hb, h.hand.below hb, h.list.below hb, h.grey.below hb, Nat.lt_of_lt_of_le h.gl hb.size, h.lo, h.ny, h.ng⟩
theorem set (h : PhW w W H A G g Y N C s L o) (k : Nat) (b : Bool) {q : Nat → Bool} (hq : ∀ j, j < N → (if j = k then b else o j) = q j) : PhW w (W.setCell ⟨Y, k, none⟩ (.bool b)) H A G g Y N C s L q :=
  have n := h.ny
  ⟨h.old.setCell (p := ⟨Y, k, none⟩) h.lo.2.2 _, h.hand.setOther (p := ⟨Y, k, none⟩) n.1 n.2.1 n.2.2.1 _, h.list.block (Below.heap_setCell _ _ _ _ n.2.2.2.symm) (by simp [World.setCell]), (h.grey.set k b).congr hq, by simpa [World.setCell] using h.gl, h.lo, n, h.ng⟩
theorem first (hb : Below w.heap.size w W) (hH : HAt W H A G C s) (hI : IntsAt W (some ⟨g, 0, none⟩) L) (hg : g < W.heap.size) (l1 : w.heap.size ≤ H) (l2 : w.heap.size ≤ G) (ng : g ≠ H ∧ g ≠ G) : PhW w (W.alloc (.cells (madeCells #[.bool false] N) 4)) H A G g W.heap.size N C s L (fun _ => false) :=
  ⟨below_on hb _, hH.below (below_new _ _), hI.below (below_new _ _), BoolAt.made W N, by simp; omega, ⟨l1, l2, hb.size⟩, ⟨by have := hH.lt; omega, by have := hH.ar.lt; omega, by have := hH.ar.row.lt; omega, by omega⟩, ng⟩
end PhW
/-- The grey cells' words. -/
def grL (C : Cf) (f : Nat → Int) : Nat → List Int
  | 0 => []
  | k + 1 => if f (colI C k) = 1 then grL C f k ++ [2 * (k : Int) + 1] else grL C f k
theorem grL_len (C : Cf) (f : Nat → Int) : ∀ k, (grL C f k).length ≤ k
  | 0 => Nat.le_refl _
  | k + 1 => by
    have := grL_len C f k
    unfold grL
    split
    · rw [List.length_append]; simp; omega
    · omega
theorem grL_mem (C : Cf) (f : Nat → Int) (w : Int) : ∀ k, w ∈ grL C f k ↔ ∃ i : Nat, i < k ∧ f (colI C i) = 1 ∧ w = 2 * (i : Int) + 1
  | 0 => by simp [grL]
  | k + 1 => by
    unfold grL
    have ih := grL_mem C f w k
    split
    · rename_i h
      rw [List.mem_append, ih, List.mem_singleton]
      constructor
      · rintro (⟨i, h1, h2, h3⟩ | h3)
        · exact ⟨i, by omega, h2, h3⟩
        · exact ⟨k, by omega, h, h3⟩
      · rintro ⟨i, h1, h2, h3⟩
        by_cases e : i = k
        · subst e; exact .inr h3
        · exact .inl ⟨i, by omega, h2, h3⟩
    · rename_i h
      rw [ih]
      constructor
      · rintro ⟨i, h1, h2, h3⟩
        exact ⟨i, by omega, h2, h3⟩
      · rintro ⟨i, h1, h2, h3⟩
        by_cases e : i = k
        · subst e; exact absurd h2 h
        · exact ⟨i, by omega, h2, h3⟩
theorem grL_kept {C : Cf} {f : Nat → Int} {N : Nat} (hN : C.a = N) {RL : List Int} (hR : ∀ w, RootS C f w ↔ w ∈ RL) (i : Nat) : Rch C f (fun x => x ∈ grL C f N ++ RL) i ↔ Rch C f (KeptS C f) i := by
  have e : ∀ w, w ∈ grL C f N ++ RL ↔ KeptS C f w := fun w => by
    unfold KeptS
    rw [List.mem_append, grL_mem, hR, Or.comm]
    constructor
    · rintro (h | ⟨i, h1, h2, h3⟩)
      · exact .inl h
      · exact .inr ⟨i, by omega, h2, h3⟩
    · rintro (h | ⟨i, h1, h2, h3⟩)
      · exact .inl h
      · exact .inr ⟨i, by omega, h2, h3⟩
  exact ⟨fun h => h.mono (fun w hw => (e w).1 hw), fun h => h.mono (fun w hw => (e w).2 hw)⟩
theorem root_live {C : Cf} {f : Nat → Int} {RL : List Int} (hR : ∀ w, RootS C f w ↔ w ∈ RL) {i : Nat} (h : Rch C f (fun x => x ∈ RL) i) : Rch C f (KeptS C f) i := h.mono (fun w hw => .inl ((hR w).2 hw))
/-- The law's second part: the collector in B beside the hand, the list, the grey cells. -/
structure PhC (w W : World) (H A G B g Y N : Nat) (C : Cf) (s : Dy) (x : Co) (L : List Nat) (o : Nat → Bool) : Prop where
  ck : CkW w W H A G B C s x
  list : IntsAt W (some ⟨g, 0, none⟩) L
  grey : BoolAt W Y N o
  gl : g < W.heap.size
namespace PhC
variable {w W V : World} {H A G B g Y N : Nat} {C : Cf} {s : Dy} {x : Co} {L : List Nat} {o : Nat → Bool}
theorem below (h : PhC w W H A G B g Y N C s x L o) (hb : Below W.heap.size W V) : PhC w V H A G B g Y N C s x L o :=
  ⟨h.ck.below hb, h.list.below hb, h.grey.below hb, Nat.lt_of_lt_of_le h.gl hb.size⟩
theorem first (h : PhW w W H A G g Y N C s L o) (x : Co) : PhC w (W.alloc (.cells #[.int .i64 x.l, .int .i64 x.j, .int .i64 x.c, .int .i64 x.m, .int .u64 x.a, .int .u64 x.p, .bool x.fd, .int .i64 x.tl, .int .i64 x.cy] 37)) H A G W.heap.size g Y N C s x L o :=
  ⟨CkW.first h.old h.hand h.lo.1 h.lo.2.1 x, h.list.below (below_new _ _), h.grey.below (below_new _ _), by have := h.gl; simp; omega⟩
end PhC
end Go.Proofs.YthdcapkchjamoaaDoor
/- The document's Roots. -/
namespace Go.Proofs.YthdcapkchjamoaaDoor
open Go Go.RowKit
set_option maxRecDepth 100000
attribute [local go_sem ↓] Go.wp_at_zero Go.wp_at_succ

set_option maxHeartbeats 3200000 in
theorem rRoots19_c (N b c d : Int) {n c0 bn dn bc base : Nat} {va : Option Addr} {f : Nat → Int} (hb : b = (bn : Int)) (hbase : 5 + bn + dn + bc = base) (hm0 : 0 < dn + bc) (hN : (n : Int) - 3 * N = (base : Int)) (hN0 : 0 ≤ N ∧ N ≤ 5000) (hn20 : n ≤ 20000) (hcap : n ≤ c0) (w : World) (hW : WordsAt w va n f) :
    Calls Tryd.prog 9 #[.agg #[.int .i64 N, .int .i64 b, .int .i64 c, .int .i64 d], .slice va n c0] w (WdsPost w (rootsL bn dn bc f)) := by
  subst hb
  have hbn : base ≤ n := by omega
  have HB0 := Lib.hid (below_new w (.cells #[.int .i64 N, .int .i64 (bn : Int), .int .i64 c, .int .i64 d] 23))
  have HX0 := Lib.hid (BoxAt.new w N (bn : Int) c d 23)
  obtain ⟨bz, off, rfl, hw⟩ := (hW.below HB0.out).wds (5 + bn) (dn + bc) (by omega) hm0
  have HWd := Lib.hid hw
  have c0' : (w.alloc (.cells #[.int .i64 N, .int .i64 (bn : Int), .int .i64 c, .int .i64 d] 23)).cell? ⟨bz, off, none⟩ = some (.int .u64 (f 0)) := by
    obtain ⟨b', off', e, h⟩ := (hW.below HB0.out).at' (k := 0) (by omega)
    obtain ⟨rfl, rfl⟩ : bz = b' ∧ off = off' := by simpa using e
    exact h
  obtain ⟨i0, hi, hz0, hz1, hz2⟩ := info_parts infoWord
  obtain ⟨x0, x1, x2, x3⟩ := HX0.out
  obtain ⟨lo, hlo⟩ : ∃ lo, 5 + bn = lo := ⟨_, rfl⟩
  rw [hlo] at HWd
  obtain ⟨m, hm⟩ : ∃ m, dn + bc = m := ⟨_, rfl⟩
  rw [hm] at HWd hm0
  have hRL : rootsL bn dn bc f = [f 0] ++ (List.range m).map (fun j => f (lo + j)) := by unfold rootsL; rw [hlo, hm]; rfl
  rw [hRL]
  have w1 : IntKind.i64.wrap (5 + (bn : Int)) = (lo : Int) := by rw [IntWalk.i64_in _ (by omega)]; omega
  have w2 : IntKind.i64.wrap (3 * N) = 3 * N := IntWalk.i64_in _ (by omega)
  have w3 : IntKind.i64.wrap ((n : Int) - 3 * N) = (base : Int) := by rw [hN]; exact IntWalk.i64_in _ (by omega)
  have l0 : (0 : Int) ≤ (base : Int) := by omega
  have l1 : lo ≤ base := by omega
  have l2 : (base : Int) ≤ (c0 : Int) := by omega
  have l4 : base - lo = m := by omega
  have l5 : ¬ c0 = lo := by omega
  have hn0 : (0 : Int) < (n : Int) := by omega
  have hmx : m ≤ 20000 := by omega
  have hml : ((List.range m).map (fun j => f (lo + j))).length = m := by simp
  generalize hq : (List.range m).map (fun j => f (lo + j)) = q at *
  generalize f 0 = f0 at *
  generalize hW0 : w.alloc (.cells #[.int .i64 N, .int .i64 (bn : Int), .int .i64 c, .int .i64 d] 23) = W0 at *
  have HOwn := Lib.hid (show (W0.alloc (.cells #[.int .u64 f0] 35)).ownsRow W0.heap.size 35 1 (.slice (some ⟨W0.heap.size, 0, none⟩) 1 1) 1 (wdsV [f0]) from ⟨rfl, .inr ⟨W0.heap.size, 1, #[.int .u64 f0], rfl, Nat.le_refl _, newBlock W0 _, Nat.le_refl _, by unfold maxLen; omega, rfl, rfl⟩⟩)
  have HWe := Lib.hid (HWd.out.below (below_new W0 (.cells #[.int .u64 f0] 35)))
  have hqn : q ≠ [] := fun e => by rw [e] at hml; simp at hml; omega
  have HNw := Lib.hid (HWe.out.news hqn)
  have HLn : Hid ((wdsV q).length = m * 1) := Lib.hid (by rw [wdsV_length, hml]; omega)
  clear hW hw hRL hlo hm hbase hN hN0 hn20 hcap hbn hq HWd HX0
  subst hW0
  go_enter Tryd.func9, Tryd.ntmps9
  go_wp2_with (at_builtin; go_loud (refine wpList_append_lies _ (by rfl) _ _ _ (by rfl) (w.heap.size + 1) 35 i0 _ 1 8 Tryd.underlying24 hi hz0 hz1 hz2 rfl (by omega) _ 1 (wdsV [f0]) (by rfl) (by have := HOwn.out; rw [show (w.alloc (.cells #[.int .i64 N, .int .i64 (bn : Int), .int .i64 c, .int .i64 d] 23)).heap.size = w.heap.size + 1 by simp] at this; exact this) ⟨bz, off + lo, none⟩ m (c0 - lo) (wdsV q) (by rfl) HLn.out HNw.out wdsV_one hm0 (by unfold maxLen; omega) (by omega) (by simp) (w.heap.size + 1 + 1) (by simp) ?_; intro gg cap w2 hown1 hgrow hat hlt2))
  go_ret
  have e : (f0 :: q).length = 1 + m := by rw [List.length_cons, hml]; omega
  refine ⟨.slice (some ⟨gg, 0, none⟩) (1 + m) cap, rfl, ?_, ?_⟩
  · show w2.ownsRow _ _ _ _ (f0 :: q).length (wdsV [f0] ++ wdsV q)
    rw [e]; exact hown1.mono (by omega)
  · exact ((HB0.out.alloc (by simp) _)).grown hgrow (by simp; omega) (fun k e => by cases e; exact Nat.le_succ _)
end Go.Proofs.YthdcapkchjamoaaDoor
