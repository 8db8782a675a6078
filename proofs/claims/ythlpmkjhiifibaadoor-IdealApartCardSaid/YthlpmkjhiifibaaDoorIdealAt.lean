/- The ideal store in memory: its numbers, registers, globals and cells; what is told of each place; what a call leaves alone. -/
import Derived.Test.YthlpmkjhiifibaaDoorIdealPlain
import Derived.Test.YthlpmkjhiifibaaDoorWordBase
import Derived.Deep.OwnRows
import Derived.Deep.AppendLies
import Derived.OwnWalk
import Derived.WalkSpells
import Derived.RegionTactic
namespace Go.Proofs.YthlpmkjhiifibaaDoor
open Go Go.RowKit
set_option maxRecDepth 100000

theorem newBlock (w : World) (o : Obj) : (w.alloc o).heap[w.heap.size]? = some o := by unfold World.alloc; exact Array.getElem?_push_size
/-- What may have turned: what S names, and what is new. -/
structure Sav (S : Nat → Prop) (w w' : World) : Prop where
  os : w'.os = w.os
  tape : w'.tape = w.tape
  output : w'.output = w.output
  size : w.heap.size ≤ w'.heap.size
  block : ∀ k, k < w.heap.size → ¬ S k → w'.heap[k]? = w.heap[k]?
namespace Sav
variable {S S' : Nat → Prop} {w w' w'' : World}
theorem refl : Sav S w w := ⟨rfl, rfl, rfl, Nat.le_refl _, fun _ _ _ => rfl⟩
theorem of (h : Below w.heap.size w w') : Sav S w w' := ⟨h.os, h.tape, h.output, h.size, fun k hk _ => h.block k hk⟩
theorem trans (h : Sav S w w') (k : Sav S w' w'') : Sav S w w'' :=
  ⟨k.os.trans h.os, k.tape.trans h.tape, k.output.trans h.output, Nat.le_trans h.size k.size, fun i hi hn => (k.block i (Nat.lt_of_lt_of_le hi h.size) hn).trans (h.block i hi hn)⟩
/-- Two steps, the second of which may also turn what is new behind the first's beginning. -/
theorem then' (h : Sav S w w') (k : Sav S' w' w'') (hs : ∀ i, i < w.heap.size → S' i → S i) : Sav S w w'' :=
  ⟨k.os.trans h.os, k.tape.trans h.tape, k.output.trans h.output, Nat.le_trans h.size k.size, fun i hi hn => (k.block i (Nat.lt_of_lt_of_le hi h.size) (fun e => hn (hs i hi e))).trans (h.block i hi hn)⟩
theorem mono (h : Sav S w w') (hs : ∀ k, S k → S' k) : Sav S' w w' := ⟨h.os, h.tape, h.output, h.size, fun k hk hn => h.block k hk (fun e => hn (hs k e))⟩
theorem set (h : Sav S w w') {p : Addr} (hp : S p.block ∨ w.heap.size ≤ p.block) (v : Value) : Sav S w (w'.setCell p v) :=
  ⟨h.os, h.tape, h.output, by have := h.size; simpa [World.setCell] using this, fun k hk hn => (Below.heap_setCell _ _ _ _ (fun e => by
    rcases hp with hp | hp
    · exact hn (e ▸ hp)
    · omega)).trans (h.block k hk hn)⟩
theorem alloc (h : Sav S w w') (o : Obj) : Sav S w (w'.alloc o) := ⟨h.os, h.tape, h.output, by have := h.size; simp; omega, fun k hk hn => (Below.heap_alloc _ _ _ (by have := h.size; omega)).trans (h.block k hk hn)⟩
theorem drew (h : Sav S w w') : Sav S w w'.drew := ⟨h.os, h.tape, h.output, h.size, h.block⟩
theorem below (h : Sav S w w') {B : Nat} (h1 : B ≤ w.heap.size) (h2 : ∀ k, k < B → ¬ S k) : Below B w w' := ⟨h.os, h.tape, h.output, h.size, fun k hk => h.block k (by omega) (h2 k hk)⟩
end Sav
/-- What a place holds then. -/
def updN (f : Nat → Nat) (j : Nat) (x : Nat) : Nat → Nat := fun i => if i = j then x else f i
/-- Words f 0, f 1, .. lie at the first n places of block R. -/
def RowN (w : World) (R : Nat) (t : TypeId) (n : Nat) (f : Nat → Nat) : Prop :=
  ∃ c : Array Value, w.heap[R]? = some (.cells c t (0, 0)) ∧ n ≤ c.size ∧ ∀ j, j < n → c[j]? = some (.int .u64 (f j))
namespace RowN
variable {w w' : World} {R : Nat} {t : TypeId} {n : Nat} {f g : Nat → Nat}
theorem cell (h : RowN w R t n f) {j : Nat} (hj : j < n) : w.cell? ⟨R, j, none⟩ = some (.int .u64 (f j)) := by
  obtain ⟨c, hb, _, hc⟩ := h; simp [World.cell?, hb, hc j hj]
theorem frozen (h : RowN w R t n f) (j : Nat) : w.frozen? ⟨R, j, none⟩ = false := by
  obtain ⟨c, hb, _, _⟩ := h; simp [World.frozen?, hb]
theorem lt (h : RowN w R t n f) : R < w.heap.size := by
  obtain ⟨c, hb, _, _⟩ := h; exact (Array.getElem?_eq_some_iff.1 hb).1
theorem congr (h : RowN w R t n f) (e : ∀ j, j < n → f j = g j) : RowN w R t n g := by
  obtain ⟨c, hb, hn, hc⟩ := h; exact ⟨c, hb, hn, fun j hj => by rw [hc j hj, e j hj]⟩
theorem other (h : RowN w R t n f) (e : w'.heap[R]? = w.heap[R]?) : RowN w' R t n f := by
  obtain ⟨c, hb, hn, hc⟩ := h; exact ⟨c, e.trans hb, hn, hc⟩
theorem set (h : RowN w R t n f) (p : Nat) (x : Nat) : RowN (w.setCell ⟨R, p, none⟩ (.int .u64 x)) R t n (updN f p x) := by
  obtain ⟨c, hb, hn, hc⟩ := h
  refine ⟨c.setIfInBounds p (.int .u64 x), by simp [World.setCell, Array.getElem?_modify, hb], by simpa using hn, fun j hj => ?_⟩
  rw [Array.getElem?_setIfInBounds]
  unfold updN
  by_cases e : j = p
  · subst e; rw [if_pos rfl, if_pos rfl, if_pos (by omega)]
  · rw [if_neg (fun h => e h.symm), if_neg e, hc j hj]
end RowN
theorem RowN.made (w : World) (n : Nat) (t : TypeId) : RowN (w.alloc (.cells (madeCells #[.int .u64 0] n) t)) w.heap.size t n (fun _ => 0) :=
  ⟨_, newBlock _ _, by rw [size_madeCells]; exact Nat.le_refl _, fun j hj => by simp [madeCells, hj, Nat.mod_one]⟩
/-- The values of n cells of two words each. -/
def wordsL (n : Nat) (f : Nat → Nat) : List Value := (List.range n).map fun j => .int .u64 (f j)
theorem wordsL_get (n : Nat) (f : Nat → Nat) (j : Nat) (h : j < n) : (wordsL n f)[j]? = some (.int .u64 (f j)) := by simp [wordsL, h]
theorem wordsL_len (n : Nat) (f : Nat → Nat) : (wordsL n f).length = n := by simp [wordsL]
/-- A slice of n cells that were made. -/
def MadeAt (w : World) (v : Value) (n : Nat) (f : Nat → Nat) : Prop := w.ownsRow 0 72 2 v n (wordsL (n * 2) f)
namespace MadeAt
variable {w w' : World} {v : Value} {n : Nat} {f g : Nat → Nat}
theorem form (h : MadeAt w v n f) : ∃ a cap, v = .slice a n cap := by
  rcases h.2 with ⟨rfl, rfl⟩ | ⟨g, cap, cur, rfl, _⟩
  · exact ⟨_, _, rfl⟩
  · exact ⟨_, _, rfl⟩
theorem row (h : MadeAt w v n f) (hn : 0 < n) : ∃ M cap, v = .slice (some ⟨M, 0, none⟩) n cap ∧ RowN w M 72 (n * 2) f := by
  rcases h.2 with ⟨_, h0⟩ | ⟨M, cap, cur, hv, _, hM, hnc, _, hs, ht⟩
  · omega
  · refine ⟨M, cap, hv, cur, hM, by rw [hs]; exact Nat.mul_le_mul_right _ hnc, fun j hj => ?_⟩
    have e := congrArg (·[j]?) ht
    simp only [List.getElem?_take, hj, if_true, wordsL_get _ _ _ hj] at e
    simpa using e
theorem other (h : MadeAt w v n f) (e : ∀ k, v.ownBlock = some k → w'.heap[k]? = w.heap[k]?) : MadeAt w' v n f := by
  refine ⟨h.1, ?_⟩
  rcases h.2 with h0 | ⟨M, cap, cur, rfl, hb, hM, rest⟩
  · exact .inl h0
  · exact .inr ⟨M, cap, cur, rfl, hb, (e M rfl).trans hM, rest⟩
theorem lt (h : MadeAt w v n f) : ∀ k, v.ownBlock = some k → k < w.heap.size := fun k e => (World.ownsRow.lt h k e).2
theorem congr (h : MadeAt w v n f) (e : ∀ j, j < n * 2 → f j = g j) : MadeAt w v n g := by
  have : wordsL (n * 2) g = wordsL (n * 2) f := List.map_congr_left (fun j hj => by rw [e j (List.mem_range.1 hj)])
  unfold MadeAt; rw [this]; exact h
theorem set {M cap : Nat} (h : MadeAt w (.slice (some ⟨M, 0, none⟩) n cap) n f) (p x : Nat) : MadeAt (w.setCell ⟨M, p, none⟩ (.int .u64 x)) (.slice (some ⟨M, 0, none⟩) n cap) n (updN f p x) := by
  refine ⟨by rw [wordsL_len], ?_⟩
  rcases h.2 with ⟨h0, _⟩ | ⟨M', cap', cur, hv, hb, hM, hnc, hcm, hs, ht⟩
  · cases h0
  · cases hv
    refine .inr ⟨M, cap, cur.setIfInBounds p (.int .u64 x), rfl, hb, by simp [World.setCell, Array.getElem?_modify, hM], hnc, hcm, by simpa using hs, ?_⟩
    apply List.ext_getElem?
    intro j
    by_cases hj : j < n * 2
    · have e := congrArg (·[j]?) ht
      simp only [List.getElem?_take, hj, if_true, wordsL_get _ _ _ hj] at e
      have hlt : j < cur.size := by rw [hs]; exact Nat.lt_of_lt_of_le hj (Nat.mul_le_mul_right _ hnc)
      rw [List.getElem?_take, if_pos hj, wordsL_get _ _ _ hj]
      unfold updN
      by_cases ej : j = p
      · subst ej
        simp [hlt]
      · rw [if_neg ej]
        have : (cur.setIfInBounds p (Value.int .u64 x)).toList[j]? = cur.toList[j]? := by
          rw [Array.toList_setIfInBounds, List.getElem?_set_ne (fun e' => ej e'.symm)]
        rw [this]; exact e
    · rw [List.getElem?_take, if_neg hj, List.getElem?_eq_none (by rw [wordsL_len]; omega)]
end MadeAt
def regF (s : St) (c : Nat) (j : Nat) : Nat := s.g 0 ((j / c : Nat) : Int) ((j % c : Nat) : Int)
def globF (s : St) (j : Nat) : Nat := s.g 1 (j : Int) 0
def madeF (s : St) (j : Nat) : Nat := s.g (2 + ((j % 2 : Nat) : Int)) ((j / 2 : Nat) : Int) 0
/-- The blocks of a store. -/
def foot (X R L : Nat) (v : Value) (k : Nat) : Prop := k = X ∨ k = R ∨ k = L ∨ v.ownBlock = some k
/-- A store at X. -/
structure StoreAt (w : World) (X R L : Nat) (v : Value) (b c d : Nat) (s : St) : Prop where
  box : w.heap[X]? = some (.cells #[.int .i64 2, .int .i64 b, .int .i64 c, .int .i64 d, .slice (some ⟨R, 0, none⟩) (b * c) (b * c), .slice (some ⟨L, 0, none⟩) d d, v] 52 (0, 0))
  regs : RowN w R 41 (b * c) (regF s c)
  globs : RowN w L 41 d (globF s)
  made : MadeAt w v s.n (madeF s)
  xR : X ≠ R
  xL : X ≠ L
  rL : R ≠ L
  vX : v.ownBlock ≠ some X
  vR : v.ownBlock ≠ some R
  vL : v.ownBlock ≠ some L
  inv : Inv b c d s
  right : Right 2 b c d
  few : s.n ≤ 1000000
namespace StoreAt
variable {w w' : World} {X R L : Nat} {v : Value} {b c d : Nat} {s : St}
theorem cells (h : StoreAt w X R L v b c d s) : w.cell? ⟨X, 0, none⟩ = some (.int .i64 2) ∧ w.cell? ⟨X, 1, none⟩ = some (.int .i64 b) ∧ w.cell? ⟨X, 2, none⟩ = some (.int .i64 c) ∧ w.cell? ⟨X, 3, none⟩ = some (.int .i64 d) ∧ w.cell? ⟨X, 4, none⟩ = some (.slice (some ⟨R, 0, none⟩) (b * c) (b * c)) ∧ w.cell? ⟨X, 5, none⟩ = some (.slice (some ⟨L, 0, none⟩) d d) ∧ w.cell? ⟨X, 6, none⟩ = some v ∧ (∀ j, w.frozen? ⟨X, j, none⟩ = false) := by
  have h := h.box
  refine ⟨by simp [World.cell?, h], by simp [World.cell?, h], by simp [World.cell?, h], by simp [World.cell?, h], by simp [World.cell?, h], by simp [World.cell?, h], by simp [World.cell?, h], fun j => by simp [World.frozen?, h]⟩
theorem lt (h : StoreAt w X R L v b c d s) : ∀ k, foot X R L v k → k < w.heap.size := by
  rintro k (rfl | rfl | rfl | e)
  · exact (Array.getElem?_eq_some_iff.1 h.box).1
  · exact h.regs.lt
  · exact h.globs.lt
  · exact h.made.lt k e
theorem other (h : StoreAt w X R L v b c d s) (e : ∀ k, foot X R L v k → w'.heap[k]? = w.heap[k]?) : StoreAt w' X R L v b c d s :=
  ⟨(e X (.inl rfl)).trans h.box, h.regs.other (e R (.inr (.inl rfl))), h.globs.other (e L (.inr (.inr (.inl rfl)))), h.made.other (fun k hk => e k (.inr (.inr (.inr hk)))), h.xR, h.xL, h.rL, h.vX, h.vR, h.vL, h.inv, h.right, h.few⟩
theorem below (h : StoreAt w X R L v b c d s) (hb : Below w.heap.size w w') : StoreAt w' X R L v b c d s := h.other (fun k hk => hb.block k (h.lt k hk))
theorem drew (h : StoreAt w X R L v b c d s) : StoreAt w.drew X R L v b c d s := h.other (fun _ _ => rfl)
theorem sav (h : StoreAt w X R L v b c d s) {S : Nat → Prop} (hb : Sav S w w') (hs : ∀ k, foot X R L v k → ¬ S k) : StoreAt w' X R L v b c d s := h.other (fun k hk => hb.block k (h.lt k hk) (hs k hk))
theorem n1 (h : StoreAt w X R L v b c d s) : 1 ≤ b ∧ b ≤ 63 ∧ 1 ≤ c ∧ c ≤ 64 ∧ d ≤ 64 := by have := h.right; unfold Right at this; omega
theorem prod (h : StoreAt w X R L v b c d s) : b * c ≤ 4032 := by
  have h1 := h.n1
  exact Nat.mul_le_mul h1.2.1 h1.2.2.2.1
/-- A register's cell. -/
theorem reg (h : StoreAt w X R L v b c d s) {m r : Nat} (hm : m < b) (hr : r < c) : w.cell? ⟨R, m * c + r, none⟩ = some (.int .u64 (s.g 0 m r)) := by
  have hlt : m * c + r < b * c := by
    have := Nat.mul_le_mul_right c (show m + 1 ≤ b by omega)
    rw [Nat.add_mul] at this; omega
  have := h.regs.cell hlt
  unfold regF at this
  rwa [show (m * c + r) / c = m by rw [Nat.mul_comm, Nat.mul_add_div (by omega), Nat.div_eq_of_lt hr, Nat.add_zero], show (m * c + r) % c = r by rw [Nat.mul_comm, Nat.mul_add_mod, Nat.mod_eq_of_lt hr]] at this
theorem setReg (h : StoreAt w X R L v b c d s) {m r x : Nat} (_ : m < b) (hr : r < c) (hi : Inv b c d ⟨putG s.g 0 m r x, s.n⟩) : StoreAt (w.setCell ⟨R, m * c + r, none⟩ (.int .u64 x)) X R L v b c d ⟨putG s.g 0 m r x, s.n⟩ := by
  refine ⟨(Below.heap_setCell _ _ _ _ h.xR).trans h.box, (h.regs.set (m * c + r) x).congr (fun j hj => ?_), (h.globs.other (Below.heap_setCell _ _ _ _ h.rL.symm)).congr (fun j _ => ?_), (h.made.other (fun k e => Below.heap_setCell _ _ _ _ (fun e' => h.vR (e.trans (by rw [e']))))).congr (fun j _ => ?_), h.xR, h.xL, h.rL, h.vX, h.vR, h.vL, hi, h.right, h.few⟩
  · unfold updN regF putG
    dsimp only
    have hc : 0 < c := by omega
    by_cases e : j = m * c + r
    · subst e
      rw [if_pos rfl, if_pos]
      refine ⟨rfl, ?_, ?_⟩
      · rw [show (m * c + r) / c = m by rw [Nat.mul_comm, Nat.mul_add_div hc, Nat.div_eq_of_lt hr, Nat.add_zero]]
      · rw [show (m * c + r) % c = r by rw [Nat.mul_comm, Nat.mul_add_mod, Nat.mod_eq_of_lt hr]]
    · rw [if_neg e, if_neg]
      rintro ⟨_, h1, h2⟩
      have h1' : j / c = m := by omega
      have h2' : j % c = r := by omega
      exact e (by rw [← h1', ← h2', Nat.mul_comm]; exact (Nat.div_add_mod j c).symm)
  · exact (putG_kind s.g (k' := 1) (k := 0) (i := m) (j := r) x (by decide)).symm
  · exact (putG_kind s.g (k' := 2 + ((j % 2 : Nat) : Int)) (k := 0) x (by omega)).symm
theorem glob (h : StoreAt w X R L v b c d s) {g : Nat} (hg : g < d) : w.cell? ⟨L, g, none⟩ = some (.int .u64 (s.g 1 g 0)) := h.globs.cell hg
theorem setGlob (h : StoreAt w X R L v b c d s) {r x : Nat} (hi : Inv b c d ⟨putG s.g 1 r 0 x, s.n⟩) : StoreAt (w.setCell ⟨L, r, none⟩ (.int .u64 x)) X R L v b c d ⟨putG s.g 1 r 0 x, s.n⟩ := by
  refine ⟨(Below.heap_setCell _ _ _ _ h.xL).trans h.box, (h.regs.other (Below.heap_setCell _ _ _ _ h.rL)).congr (fun j _ => ?_), (h.globs.set r x).congr (fun j hj => ?_), (h.made.other (fun k e => Below.heap_setCell _ _ _ _ (fun e' => h.vL (e.trans (by rw [e']))))).congr (fun j _ => ?_), h.xR, h.xL, h.rL, h.vX, h.vR, h.vL, hi, h.right, h.few⟩
  · exact (putG_kind s.g (k' := 0) (k := 1) (i := r) (j := 0) x (by decide)).symm
  · unfold updN globF putG
    dsimp only
    by_cases e : j = r
    · subst e; rw [if_pos rfl, if_pos ⟨rfl, rfl, rfl⟩]
    · rw [if_neg e, if_neg (fun h => e (by omega))]
  · exact (putG_kind s.g (k' := 2 + ((j % 2 : Nat) : Int)) (k := 1) x (by omega)).symm
/-- The words of a cell. -/
theorem cell2 (h : StoreAt w X R L v b c d s) {i : Nat} (hi : i < s.n) : ∃ M cap, v = .slice (some ⟨M, 0, none⟩) s.n cap ∧ w.cell? ⟨M, i * 2, none⟩ = some (.int .u64 (s.g 2 i 0)) ∧ w.cell? ⟨M, i * 2 + 1, none⟩ = some (.int .u64 (s.g 3 i 0)) ∧ (∀ j, w.frozen? ⟨M, j, none⟩ = false) := by
  obtain ⟨M, cap, hv, hr⟩ := h.made.row (by omega)
  have c0 := hr.cell (j := i * 2) (by omega)
  have c1 := hr.cell (j := i * 2 + 1) (by omega)
  unfold madeF at c0 c1
  rw [show i * 2 / 2 = i by omega, show i * 2 % 2 = 0 by omega] at c0
  rw [show (i * 2 + 1) / 2 = i by omega, show (i * 2 + 1) % 2 = 1 by omega] at c1
  exact ⟨M, cap, hv, c0, c1, hr.frozen⟩
theorem setCar {M cap : Nat} (h : StoreAt w X R L (.slice (some ⟨M, 0, none⟩) s.n cap) b c d s) {i x : Nat} (hi : Inv b c d ⟨putG s.g 2 i 0 x, s.n⟩) : StoreAt (w.setCell ⟨M, i * 2, none⟩ (.int .u64 x)) X R L (.slice (some ⟨M, 0, none⟩) s.n cap) b c d ⟨putG s.g 2 i 0 x, s.n⟩ := by
  refine ⟨(Below.heap_setCell _ _ _ _ (fun e => h.vX (by rw [e]; rfl))).trans h.box, (h.regs.other (Below.heap_setCell _ _ _ _ (fun e => h.vR (by rw [e]; rfl)))).congr (fun j _ => ?_), (h.globs.other (Below.heap_setCell _ _ _ _ (fun e => h.vL (by rw [e]; rfl)))).congr (fun j _ => ?_), (h.made.set (i * 2) x).congr (fun j _ => ?_), h.xR, h.xL, h.rL, h.vX, h.vR, h.vL, hi, h.right, h.few⟩
  · exact (putG_kind s.g (k' := 0) (k := 2) (i := i) (j := 0) x (by decide)).symm
  · exact (putG_kind s.g (k' := 1) (k := 2) (i := i) (j := 0) x (by decide)).symm
  · unfold updN madeF putG
    dsimp only
    by_cases e : j = i * 2
    · subst e; rw [if_pos rfl, if_pos (by omega)]
    · rw [if_neg e, if_neg (fun h => e (by omega))]
theorem setCdr {M cap : Nat} (h : StoreAt w X R L (.slice (some ⟨M, 0, none⟩) s.n cap) b c d s) {i x : Nat} (hi : Inv b c d ⟨putG s.g 3 i 0 x, s.n⟩) : StoreAt (w.setCell ⟨M, i * 2 + 1, none⟩ (.int .u64 x)) X R L (.slice (some ⟨M, 0, none⟩) s.n cap) b c d ⟨putG s.g 3 i 0 x, s.n⟩ := by
  refine ⟨(Below.heap_setCell _ _ _ _ (fun e => h.vX (by rw [e]; rfl))).trans h.box, (h.regs.other (Below.heap_setCell _ _ _ _ (fun e => h.vR (by rw [e]; rfl)))).congr (fun j _ => ?_), (h.globs.other (Below.heap_setCell _ _ _ _ (fun e => h.vL (by rw [e]; rfl)))).congr (fun j _ => ?_), (h.made.set (i * 2 + 1) x).congr (fun j _ => ?_), h.xR, h.xL, h.rL, h.vX, h.vR, h.vL, hi, h.right, h.few⟩
  · exact (putG_kind s.g (k' := 0) (k := 3) (i := i) (j := 0) x (by decide)).symm
  · exact (putG_kind s.g (k' := 1) (k := 3) (i := i) (j := 0) x (by decide)).symm
  · unfold updN madeF putG
    dsimp only
    by_cases e : j = i * 2 + 1
    · subst e; rw [if_pos rfl, if_pos (by omega)]
    · rw [if_neg e, if_neg (fun h => e (by omega))]
end StoreAt
end Go.Proofs.YthlpmkjhiifibaaDoor
