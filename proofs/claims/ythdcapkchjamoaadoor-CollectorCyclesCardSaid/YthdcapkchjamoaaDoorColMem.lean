/- How far the collector is, as a value and as cells, beside a hand and the document's. -/
import Derived.Test.YthdcapkchjamoaaDoorM6
import Derived.Test.YthdcapkchjamoaaDoorTwo
namespace Go.Proofs.YthdcapkchjamoaaDoor
open Go Go.RowKit
set_option maxRecDepth 100000
attribute [local go_sem ↓] Go.wp_at_zero Go.wp_at_succ

/-- How far the collector is, as a value. -/
abbrev colV (l j c m a p : Int) (fd : Bool) (tl cy : Int) : Value := .agg #[.int .i64 l, .int .i64 j, .int .i64 c, .int .i64 m, .int .u64 a, .int .u64 p, .bool fd, .int .i64 tl, .int .i64 cy]
abbrev Co.v (x : Co) : Value := colV x.l x.j x.c x.m x.a x.p x.fd x.tl x.cy
/-- How far the collector is lies in block B. -/
def Col9 (w : World) (B : Nat) (l j c m a p : Int) (fd : Bool) (tl cy : Int) : Prop := w.heap[B]? = some (.cells #[.int .i64 l, .int .i64 j, .int .i64 c, .int .i64 m, .int .u64 a, .int .u64 p, .bool fd, .int .i64 tl, .int .i64 cy] 37 (0, 0))
abbrev CoAt (w : World) (B : Nat) (x : Co) : Prop := Col9 w B x.l x.j x.c x.m x.a x.p x.fd x.tl x.cy
/-- It is laid into block B. -/
abbrev put9 (w : World) (B : Nat) (l j c m a p : Int) (fd : Bool) (tl cy : Int) : World := (((((((((w.setCell ⟨B, 0, none⟩ (.int .i64 l)).setCell ⟨B, 1, none⟩ (.int .i64 j)).setCell ⟨B, 2, none⟩ (.int .i64 c)).setCell ⟨B, 3, none⟩ (.int .i64 m)).setCell ⟨B, 4, none⟩ (.int .u64 a)).setCell ⟨B, 5, none⟩ (.int .u64 p)).setCell ⟨B, 6, none⟩ (.bool fd)).setCell ⟨B, 7, none⟩ (.int .i64 tl)).setCell ⟨B, 8, none⟩ (.int .i64 cy))
namespace Col9
variable {w w' : World} {B : Nat} {l j c m a p : Int} {fd : Bool} {tl cy : Int}
theorem cells (h : Col9 w B l j c m a p fd tl cy) : w.cell? ⟨B, 0, none⟩ = some (.int .i64 l) ∧ w.cell? ⟨B, 1, none⟩ = some (.int .i64 j) ∧ w.cell? ⟨B, 2, none⟩ = some (.int .i64 c) ∧ w.cell? ⟨B, 3, none⟩ = some (.int .i64 m) ∧ w.cell? ⟨B, 4, none⟩ = some (.int .u64 a) ∧ w.cell? ⟨B, 5, none⟩ = some (.int .u64 p) ∧ w.cell? ⟨B, 6, none⟩ = some (.bool fd) ∧ w.cell? ⟨B, 7, none⟩ = some (.int .i64 tl) ∧ w.cell? ⟨B, 8, none⟩ = some (.int .i64 cy) ∧ (∀ j, w.frozen? ⟨B, j, none⟩ = false) := by
  unfold Col9 at h
  refine ⟨by simp [World.cell?, h], by simp [World.cell?, h], by simp [World.cell?, h], by simp [World.cell?, h], by simp [World.cell?, h], by simp [World.cell?, h], by simp [World.cell?, h], by simp [World.cell?, h], by simp [World.cell?, h], fun j => by simp [World.frozen?, h]⟩
theorem lt (h : Col9 w B l j c m a p fd tl cy) : B < w.heap.size := (Array.getElem?_eq_some_iff.1 h).1
theorem other (h : Col9 w B l j c m a p fd tl cy) (e : w'.heap[B]? = w.heap[B]?) : Col9 w' B l j c m a p fd tl cy := e.trans h
theorem below (h : Col9 w B l j c m a p fd tl cy) (hb : Below w.heap.size w w') : Col9 w' B l j c m a p fd tl cy := h.other (hb.block _ h.lt)
theorem new (w : World) (l j c m a p : Int) (fd : Bool) (tl cy : Int) : Col9 (w.alloc (.cells #[.int .i64 l, .int .i64 j, .int .i64 c, .int .i64 m, .int .u64 a, .int .u64 p, .bool fd, .int .i64 tl, .int .i64 cy] 37)) w.heap.size l j c m a p fd tl cy := newBlock _ _
theorem put (h : Col9 w B l j c m a p fd tl cy) (l' j' c' m' a' p' : Int) (fd' : Bool) (tl' cy' : Int) : Col9 (put9 w B l' j' c' m' a' p' fd' tl' cy') B l' j' c' m' a' p' fd' tl' cy' := by
  unfold Col9 at *; simp [World.setCell, Array.getElem?_modify, h]
theorem savR {V : World} {X : Nat} {va : Option Addr} (h : Col9 w B l j c m a p fd tl cy) (hs : Sav (RS X va) w V) (h1 : B ≠ X) (h2 : ∀ R, va = some ⟨R, 0, none⟩ → R ≠ B) : Col9 V B l j c m a p fd tl cy :=
  h.other (hs.block B h.lt (fun e => e.elim h1 (fun e => h2 B e rfl)))
theorem savH {V : World} {H G : Nat} (h : Col9 w B l j c m a p fd tl cy) (hs : Sav (HG H G) w V) (h1 : B ≠ H) (h2 : B ≠ G) : Col9 V B l j c m a p fd tl cy :=
  h.other (hs.block B h.lt (fun e => e.elim h1 h2))
theorem setOther (h : Col9 w B l j c m a p fd tl cy) {q : Addr} (hq : q.block ≠ B) (v : Value) : Col9 (w.setCell q v) B l j c m a p fd tl cy :=
  h.other (Below.heap_setCell _ _ _ _ hq.symm)
theorem setL (h : Col9 w B l j c m a p fd tl cy) (z : Int) : Col9 (w.setCell ⟨B, 0, none⟩ (.int .i64 z)) B z j c m a p fd tl cy := by
  unfold Col9 at *; simp [World.setCell, Array.getElem?_modify, h]
theorem setJ (h : Col9 w B l j c m a p fd tl cy) (z : Int) : Col9 (w.setCell ⟨B, 1, none⟩ (.int .i64 z)) B l z c m a p fd tl cy := by
  unfold Col9 at *; simp [World.setCell, Array.getElem?_modify, h]
theorem setC (h : Col9 w B l j c m a p fd tl cy) (z : Int) : Col9 (w.setCell ⟨B, 2, none⟩ (.int .i64 z)) B l j z m a p fd tl cy := by
  unfold Col9 at *; simp [World.setCell, Array.getElem?_modify, h]
theorem setM (h : Col9 w B l j c m a p fd tl cy) (z : Int) : Col9 (w.setCell ⟨B, 3, none⟩ (.int .i64 z)) B l j c z a p fd tl cy := by
  unfold Col9 at *; simp [World.setCell, Array.getElem?_modify, h]
theorem setA (h : Col9 w B l j c m a p fd tl cy) (z : Int) : Col9 (w.setCell ⟨B, 4, none⟩ (.int .u64 z)) B l j c m z p fd tl cy := by
  unfold Col9 at *; simp [World.setCell, Array.getElem?_modify, h]
theorem setP (h : Col9 w B l j c m a p fd tl cy) (z : Int) : Col9 (w.setCell ⟨B, 5, none⟩ (.int .u64 z)) B l j c m a z fd tl cy := by
  unfold Col9 at *; simp [World.setCell, Array.getElem?_modify, h]
theorem setFD (h : Col9 w B l j c m a p fd tl cy) (z : Bool) : Col9 (w.setCell ⟨B, 6, none⟩ (.bool z)) B l j c m a p z tl cy := by
  unfold Col9 at *; simp [World.setCell, Array.getElem?_modify, h]
theorem setTL (h : Col9 w B l j c m a p fd tl cy) (z : Int) : Col9 (w.setCell ⟨B, 7, none⟩ (.int .i64 z)) B l j c m a p fd z cy := by
  unfold Col9 at *; simp [World.setCell, Array.getElem?_modify, h]
theorem setCY (h : Col9 w B l j c m a p fd tl cy) (z : Int) : Col9 (w.setCell ⟨B, 8, none⟩ (.int .i64 z)) B l j c m a p fd tl z := by
  unfold Col9 at *; simp [World.setCell, Array.getElem?_modify, h]
end Col9
theorem heap_put9 (w : World) (H : Nat) (l j c m a p : Int) (fd : Bool) (tl cy : Int) {B : Nat} (hB : B ≠ H) : (put9 w H l j c m a p fd tl cy).heap[B]? = w.heap[B]? :=
  (Below.heap_setCell _ _ _ _ hB).trans ((Below.heap_setCell _ _ _ _ hB).trans ((Below.heap_setCell _ _ _ _ hB).trans ((Below.heap_setCell _ _ _ _ hB).trans ((Below.heap_setCell _ _ _ _ hB).trans ((Below.heap_setCell _ _ _ _ hB).trans ((Below.heap_setCell _ _ _ _ hB).trans ((Below.heap_setCell _ _ _ _ hB).trans (Below.heap_setCell _ _ _ _ hB))))))))
theorem size_put9 (w : World) (B : Nat) (l j c m a p : Int) (fd : Bool) (tl cy : Int) : (put9 w B l j c m a p fd tl cy).heap.size = w.heap.size := by simp [World.setCell]
theorem Sav.put9 {S : Nat → Prop} {w w' : World} (h : Sav S w w') {C : Nat} (hC : S C ∨ w.heap.size ≤ C) (l j c m a p : Int) (fd : Bool) (tl cy : Int) : Sav S w (put9 w' C l j c m a p fd tl cy) :=
  (((((((((h.set (p := ⟨C, 0, none⟩) hC _).set (p := ⟨C, 1, none⟩) hC _).set (p := ⟨C, 2, none⟩) hC _).set (p := ⟨C, 3, none⟩) hC _).set (p := ⟨C, 4, none⟩) hC _).set (p := ⟨C, 5, none⟩) hC _).set (p := ⟨C, 6, none⟩) hC _).set (p := ⟨C, 7, none⟩) hC _).set (p := ⟨C, 8, none⟩) hC _)
theorem HandAt.put9 {w : World} {H A G n : Nat} {f : Nat → Int} {a b c d k i x y o : Int} (h : HandAt w H A G n f a b c d k i x y o) {C : Nat} (h0 : C ≠ H) (h1 : C ≠ A) (h2 : C ≠ G) (l' j' c' m' a' p' : Int) (fd' : Bool) (tl' cy' : Int) : HandAt (put9 w C l' j' c' m' a' p' fd' tl' cy') H A G n f a b c d k i x y o :=
  h.other (heap_put9 _ _ _ _ _ _ _ _ _ _ _ h0.symm) (heap_put9 _ _ _ _ _ _ _ _ _ _ _ h1.symm) (heap_put9 _ _ _ _ _ _ _ _ _ _ _ h2.symm)
theorem RHandAt.put9 {w : World} {X : Nat} {va : Option Addr} {n cap N : Nat} {f : Nat → Int} {a b c d k i x y o : Int} (h : RHandAt w X va n cap N f a b c d k i x y o) {B : Nat} (h0 : B ≠ X) (h1 : ∀ R, va = some ⟨R, 0, none⟩ → R ≠ B) (l' j' c' m' a' p' : Int) (fd' : Bool) (tl' cy' : Int) : RHandAt (put9 w B l' j' c' m' a' p' fd' tl' cy') X va n cap N f a b c d k i x y o :=
  h.other (heap_put9 _ _ _ _ _ _ _ _ _ _ _ h0.symm) (fun R e _ => heap_put9 _ _ _ _ _ _ _ _ _ _ _ (h1 R e))
theorem Two.put9 {w W : World} {P : Pl} {C : Cf} {s t : Dy} (h : Two w W P C s t) {B : Nat} (hB : w.heap.size ≤ B) (ho : P.Out B) (l j c m a p : Int) (fd : Bool) (tl cy : Int) : Two w (put9 W B l j c m a p fd tl cy) P C s t :=
  have h := h.both
  ⟨((Sav.of (S := fun _ => False) h.old).put9 (.inr hB) _ _ _ _ _ _ _ _ _).below (Nat.le_refl _) (fun _ _ e => e), h.hand.put9 ho.1 ho.2.1 ho.2.2.1 _ _ _ _ _ _ _ _ _, h.ref.put9 ho.2.2.2.1 ho.2.2.2.2 _ _ _ _ _ _ _ _ _, h.lH, h.lG, h.lX, fun R e => ⟨(h.lR R e).1, by rw [size_put9]; exact (h.lR R e).2.1, (h.lR R e).2.2⟩, h.xH, h.xA, h.xG⟩
/-- The configuration's table is no hand's. -/
theorem spans_sav {w w' : World} {H A G : Nat} {C : Cf} {s : Dy} (hn : 0 < C.n) (hS : SpansAt w) (hH : HAt w H A G C s) (hs : Sav (HG H G) w w') : SpansAt w' := by
  have hl := lt_of_cell hS.1.1
  have nH : 0 ≠ H := by
    intro e
    have h1 := hS.1.1
    have h2 := hH.cells.1
    rw [← e, h1] at h2
    cases h2
  have nG : 0 ≠ G := by
    intro e
    have h1 := hS.1.1
    have h2 := hH.ar.row.cell hn
    rw [← e, h1] at h2
    cases h2
  have key : ∀ j v, w.cell? ⟨0, j, none⟩ = some v → w'.cell? ⟨0, j, none⟩ = some v := fun j v e => by
    have hb := hs.block _ hl (fun e => e.elim nH nG)
    rw [← e]
    unfold World.cell?
    rw [hb]
  obtain ⟨⟨a1, a2, a3⟩, ⟨b1, b2, b3⟩, ⟨c1, c2, c3⟩, ⟨d1, d2, d3⟩⟩ := hS
  exact ⟨⟨key _ _ a1, key _ _ a2, key _ _ a3⟩, ⟨key _ _ b1, key _ _ b2, key _ _ b3⟩, ⟨key _ _ c1, key _ _ c2, key _ _ c3⟩, ⟨key _ _ d1, key _ _ d2, key _ _ d3⟩⟩
end Go.Proofs.YthdcapkchjamoaaDoor
