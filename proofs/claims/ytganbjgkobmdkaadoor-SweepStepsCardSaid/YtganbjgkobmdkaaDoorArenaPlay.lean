/- An arena and a row of words of one's own, side by side: what is done to the one leaves the other alone. -/
import Derived.Test.YtganbjgkobmdkaaDoorArenaDo
namespace Go.Proofs.YtganbjgkobmdkaaDoor
open Go Go.RowKit
set_option maxRecDepth 100000

/-- Of what was there nothing has turned but the block that a slice begins at. -/
structure OnlyO (a : Option Addr) (w w' : World) : Prop where
  os : w'.os = w.os
  tape : w'.tape = w.tape
  output : w'.output = w.output
  size : w.heap.size ≤ w'.heap.size
  block : ∀ k, k < w.heap.size → a ≠ some ⟨k, 0, none⟩ → w'.heap[k]? = w.heap[k]?
/-- How it stands: the arena has the words f, the document's row the words h. -/
structure Play (w wr : World) (A G : Nat) (a : Option Addr) (n N M : Nat) (f h : Nat → Int) : Prop where
  old : Below w.heap.size w wr
  ar : ArenaAt wr A G n f
  mine : MineAt N wr a n h
  big : M ≤ wr.heap.size
  g0 : w.heap.size ≤ G
  apart : ∀ R, a = some ⟨R, 0, none⟩ → w.heap.size ≤ R ∧ R ≠ A ∧ R ≠ G ∧ R < M
namespace Play
variable {w wr W : World} {A G : Nat} {a : Option Addr} {n N M : Nat} {f f' h h' : Nat → Int}
theorem below (p : Play w wr A G a n N M f h) (hb : Below wr.heap.size wr W) : Play w W A G a n N M f h :=
  ⟨belowOn p.old hb, p.ar.below hb, p.mine.below hb, Nat.le_trans p.big hb.size, p.g0, p.apart⟩
theorem act (p : Play w wr A G a n N M f h) (ho : Only G wr W) (ha : ArenaAt W A G n f') : Play w W A G a n N M f' h := by
  refine ⟨p.old.trans (ho.below p.old.size p.g0), ha, ?_, Nat.le_trans p.big ho.size, p.g0, p.apart⟩
  rcases p.mine with e | ⟨R, e, hR, hr⟩
  · exact .inl e
  · exact .inr ⟨R, e, hR, hr.other (ho.block R hr.lt (p.apart R e).2.2.1)⟩
theorem ref (p : Play w wr A G a n N M f h) (ho : OnlyO a wr W) (hm : MineAt N W a n h') : Play w W A G a n N M f h' := by
  have ne : ∀ k, k < w.heap.size → a ≠ some ⟨k, 0, none⟩ := fun k hk e => by have := (p.apart k e).1; omega
  exact ⟨p.old.trans ⟨ho.os, ho.tape, ho.output, ho.size, fun k hk => ho.block k (by have := p.old.size; omega) (ne k hk)⟩, p.ar.other (ho.block A p.ar.lt (fun e => (p.apart A e).2.1 rfl)) (ho.block G p.ar.row.lt (fun e => (p.apart G e).2.2.1 rfl)), hm, Nat.le_trans p.big ho.size, p.g0, p.apart⟩
/-- A word of the row of one's own is written. -/
theorem put {R : Nat} (p : Play w wr A G (some ⟨R, 0, none⟩) n N M f h) (hn : 0 < n) (j : Nat) (s : Int) : Play w (wr.setCell ⟨R, j, none⟩ (.int .u64 s)) A G (some ⟨R, 0, none⟩) n N M f (upd h j s) := by
  refine p.ref ⟨rfl, rfl, rfl, by simp [World.setCell], fun k hk ne => Below.heap_setCell _ _ _ _ (fun e => ne (by rw [e]))⟩ ?_
  rcases p.mine with e | ⟨R', e, hR, hr⟩
  · omega
  · cases e
    exact .inr ⟨R, rfl, hR, hr.set j s⟩
/-- .. and what lies there. -/
theorem at' {b : Option Addr} (p : Play w wr A G b n N M f h) {j : Nat} (hj : j < n) : ∃ R, b = some ⟨R, 0, none⟩ ∧ wr.cell? ⟨R, j, none⟩ = some (.int .u64 (h j)) ∧ wr.frozen? ⟨R, j, none⟩ = false := by
  rcases p.mine with e | ⟨R, e, hR, hr⟩
  · omega
  · exact ⟨R, e, hr.cell hj, hr.frozen j⟩
end Play
end Go.Proofs.YtganbjgkobmdkaaDoor
