/- Laid together: Mut, HandBoth, Mem, GateMap, Bar. -/
import Derived.Test.YtbpkdihonemogaaGreatDoorM4
import Derived.Test.YtbpkdihonemogaaGreatDoorHandNew
import Derived.Test.YtbpkdihonemogaaGreatDoorM1
import Derived.Lib.Hide
import Derived.Maps.OwnSet
/- How far a mutator is, as a value and as cells, beside a hand and the document's. -/
namespace Go.Proofs.YtbpkdihonemogaaGreatDoor
open Go Go.RowKit
set_option maxRecDepth 100000
attribute [local go_sem ↓] Go.wp_at_zero Go.wp_at_succ

/-- How far a mutator is. -/
abbrev mutV (l p bk q1 q2 q3 q4 m1 m2 m3 m4 m5 rt : Int) : Value := .agg #[.int .i64 l, .int .i64 q1, .int .i64 q2, .int .i64 q3, .int .i64 q4, .int .u64 m1, .int .u64 m2, .int .u64 m3, .int .u64 m4, .int .u64 m5, .int .u64 p, .int .i64 bk, .int .i64 rt]
/-- How far a mutator is lies in block B. -/
def Mut13 (w : World) (B : Nat) (l p bk q1 q2 q3 q4 m1 m2 m3 m4 m5 rt : Int) : Prop := w.heap[B]? = some (.cells #[.int .i64 l, .int .i64 q1, .int .i64 q2, .int .i64 q3, .int .i64 q4, .int .u64 m1, .int .u64 m2, .int .u64 m3, .int .u64 m4, .int .u64 m5, .int .u64 p, .int .i64 bk, .int .i64 rt] 30 (0, 0))
/-- It is laid into block B. -/
abbrev put13 (w : World) (B : Nat) (l p bk q1 q2 q3 q4 m1 m2 m3 m4 m5 rt : Int) : World := (((((((((((((w.setCell ⟨B, 0, none⟩ (.int .i64 l)).setCell ⟨B, 1, none⟩ (.int .i64 q1)).setCell ⟨B, 2, none⟩ (.int .i64 q2)).setCell ⟨B, 3, none⟩ (.int .i64 q3)).setCell ⟨B, 4, none⟩ (.int .i64 q4)).setCell ⟨B, 5, none⟩ (.int .u64 m1)).setCell ⟨B, 6, none⟩ (.int .u64 m2)).setCell ⟨B, 7, none⟩ (.int .u64 m3)).setCell ⟨B, 8, none⟩ (.int .u64 m4)).setCell ⟨B, 9, none⟩ (.int .u64 m5)).setCell ⟨B, 10, none⟩ (.int .u64 p)).setCell ⟨B, 11, none⟩ (.int .i64 bk)).setCell ⟨B, 12, none⟩ (.int .i64 rt))
namespace Mut13
variable {w w' : World} {B : Nat} {l p bk q1 q2 q3 q4 m1 m2 m3 m4 m5 rt : Int}
theorem cells (h : Mut13 w B l p bk q1 q2 q3 q4 m1 m2 m3 m4 m5 rt) : w.cell? ⟨B, 0, none⟩ = some (.int .i64 l) ∧ w.cell? ⟨B, 1, none⟩ = some (.int .i64 q1) ∧ w.cell? ⟨B, 2, none⟩ = some (.int .i64 q2) ∧ w.cell? ⟨B, 3, none⟩ = some (.int .i64 q3) ∧ w.cell? ⟨B, 4, none⟩ = some (.int .i64 q4) ∧ w.cell? ⟨B, 5, none⟩ = some (.int .u64 m1) ∧ w.cell? ⟨B, 6, none⟩ = some (.int .u64 m2) ∧ w.cell? ⟨B, 7, none⟩ = some (.int .u64 m3) ∧ w.cell? ⟨B, 8, none⟩ = some (.int .u64 m4) ∧ w.cell? ⟨B, 9, none⟩ = some (.int .u64 m5) ∧ w.cell? ⟨B, 10, none⟩ = some (.int .u64 p) ∧ w.cell? ⟨B, 11, none⟩ = some (.int .i64 bk) ∧ w.cell? ⟨B, 12, none⟩ = some (.int .i64 rt) ∧ (∀ j, w.frozen? ⟨B, j, none⟩ = false) := by
  unfold Mut13 at h
  refine ⟨by simp [World.cell?, h], by simp [World.cell?, h], by simp [World.cell?, h], by simp [World.cell?, h], by simp [World.cell?, h], by simp [World.cell?, h], by simp [World.cell?, h], by simp [World.cell?, h], by simp [World.cell?, h], by simp [World.cell?, h], by simp [World.cell?, h], by simp [World.cell?, h], by simp [World.cell?, h], fun j => by simp [World.frozen?, h]⟩
theorem lt (h : Mut13 w B l p bk q1 q2 q3 q4 m1 m2 m3 m4 m5 rt) : B < w.heap.size := (Array.getElem?_eq_some_iff.1 h).1
theorem other (h : Mut13 w B l p bk q1 q2 q3 q4 m1 m2 m3 m4 m5 rt) (e : w'.heap[B]? = w.heap[B]?) : Mut13 w' B l p bk q1 q2 q3 q4 m1 m2 m3 m4 m5 rt := e.trans h
theorem below (h : Mut13 w B l p bk q1 q2 q3 q4 m1 m2 m3 m4 m5 rt) (hb : Below w.heap.size w w') : Mut13 w' B l p bk q1 q2 q3 q4 m1 m2 m3 m4 m5 rt := h.other (hb.block _ h.lt)
theorem new (w : World) (l p bk q1 q2 q3 q4 m1 m2 m3 m4 m5 rt : Int) : Mut13 (w.alloc (.cells #[.int .i64 l, .int .i64 q1, .int .i64 q2, .int .i64 q3, .int .i64 q4, .int .u64 m1, .int .u64 m2, .int .u64 m3, .int .u64 m4, .int .u64 m5, .int .u64 p, .int .i64 bk, .int .i64 rt] 30)) w.heap.size l p bk q1 q2 q3 q4 m1 m2 m3 m4 m5 rt := newBlock _ _
theorem put (h : Mut13 w B l p bk q1 q2 q3 q4 m1 m2 m3 m4 m5 rt) (l' p' bk' q1' q2' q3' q4' m1' m2' m3' m4' m5' rt' : Int) : Mut13 (put13 w B l' p' bk' q1' q2' q3' q4' m1' m2' m3' m4' m5' rt') B l' p' bk' q1' q2' q3' q4' m1' m2' m3' m4' m5' rt' := by
  unfold Mut13 at *; simp [World.setCell, Array.getElem?_modify, h]
end Mut13
theorem heap_put13 (w : World) (H : Nat) (l p bk q1 q2 q3 q4 m1 m2 m3 m4 m5 rt : Int) {B : Nat} (hB : B ≠ H) : (put13 w H l p bk q1 q2 q3 q4 m1 m2 m3 m4 m5 rt).heap[B]? = w.heap[B]? :=
  (Below.heap_setCell _ _ _ _ hB).trans ((Below.heap_setCell _ _ _ _ hB).trans ((Below.heap_setCell _ _ _ _ hB).trans ((Below.heap_setCell _ _ _ _ hB).trans ((Below.heap_setCell _ _ _ _ hB).trans ((Below.heap_setCell _ _ _ _ hB).trans ((Below.heap_setCell _ _ _ _ hB).trans ((Below.heap_setCell _ _ _ _ hB).trans ((Below.heap_setCell _ _ _ _ hB).trans ((Below.heap_setCell _ _ _ _ hB).trans ((Below.heap_setCell _ _ _ _ hB).trans ((Below.heap_setCell _ _ _ _ hB).trans (Below.heap_setCell _ _ _ _ hB))))))))))))
theorem Sav.put13 {S : Nat → Prop} {w w' : World} (h : Sav S w w') {C : Nat} (hC : S C ∨ w.heap.size ≤ C) (l p bk q1 q2 q3 q4 m1 m2 m3 m4 m5 rt : Int) : Sav S w (put13 w' C l p bk q1 q2 q3 q4 m1 m2 m3 m4 m5 rt) :=
  ((((((((((((h.set (p := ⟨C, 0, none⟩) hC _).set (p := ⟨C, 1, none⟩) hC _).set (p := ⟨C, 2, none⟩) hC _).set (p := ⟨C, 3, none⟩) hC _).set (p := ⟨C, 4, none⟩) hC _).set (p := ⟨C, 5, none⟩) hC _).set (p := ⟨C, 6, none⟩) hC _).set (p := ⟨C, 7, none⟩) hC _).set (p := ⟨C, 8, none⟩) hC _).set (p := ⟨C, 9, none⟩) hC _).set (p := ⟨C, 10, none⟩) hC _).set (p := ⟨C, 11, none⟩) hC _).set (p := ⟨C, 12, none⟩) hC _
theorem HandAt.put13 {w : World} {H A G n : Nat} {f : Nat → Int} {a b c d k i x y o : Int} (h : HandAt w H A G n f a b c d k i x y o) {C : Nat} (h0 : C ≠ H) (h1 : C ≠ A) (h2 : C ≠ G) (l p bk q1 q2 q3 q4 m1 m2 m3 m4 m5 rt : Int) : HandAt (put13 w C l p bk q1 q2 q3 q4 m1 m2 m3 m4 m5 rt) H A G n f a b c d k i x y o :=
  h.other (heap_put13 _ _ _ _ _ _ _ _ _ _ _ _ _ _ _ h0.symm) (heap_put13 _ _ _ _ _ _ _ _ _ _ _ _ _ _ _ h1.symm) (heap_put13 _ _ _ _ _ _ _ _ _ _ _ _ _ _ _ h2.symm)
theorem HandAt.setOther {w : World} {H A G n : Nat} {f : Nat → Int} {a b c d k i x y o : Int} (h : HandAt w H A G n f a b c d k i x y o) {p : Addr} (h0 : p.block ≠ H) (h1 : p.block ≠ A) (h2 : p.block ≠ G) (v : Value) : HandAt (w.setCell p v) H A G n f a b c d k i x y o :=
  h.other (Below.heap_setCell _ _ _ _ h0.symm) (Below.heap_setCell _ _ _ _ h1.symm) (Below.heap_setCell _ _ _ _ h2.symm)
/-- What a step answers. -/
def StPost (w : World) (H A G n : Nat) (f' : Nat → Int) (a b c d k i x y o : Int) (v : Value) (e : Ending) (w' : World) : Prop :=
  e = .returned v ∧ HandAt w' H A G n f' a b c d k i x y o ∧ Sav (HG H G) w w'
theorem sR {X : Nat} {va : Option Addr} {B : Nat} (h1 : B ≠ X) (h2 : ∀ R, va = some ⟨R, 0, none⟩ → R ≠ B) : ¬ RS X va B := by
  rintro (e | e)
  · exact h1 e
  · exact h2 B e rfl
theorem fst_u64 {a b c d : Int} (hr : Right a b c d) (j : Nat) : U64 (fstV a b c d j) := by
  unfold fstV
  by_cases h : (spotF b c d j).1 = 5 ∧ (spotF b c d j).2.1 + 1 < a
  · rw [if_pos h]
    have h0 := spot_five_pos hr j h.1
    have h1 := h.2
    unfold Right at hr
    unfold U64
    omega
  · rw [if_neg h]
    by_cases h2 : (spotF b c d j).1 = 0 ∧ (spotF b c d j).2.1 = 0
    · rw [if_pos h2]; unfold U64; omega
    · rw [if_neg h2]; unfold U64; omega
theorem right0 : Right 2 1 1 0 := by unfold Right; omega
/-- A hand's blocks lie behind what was there. -/
theorem Sav.old {H G : Nat} {w W V : World} (h : Sav (HG H G) W V) (hb : Below w.heap.size w W) (h1 : w.heap.size ≤ H) (h2 : w.heap.size ≤ G) : Below w.heap.size w V :=
  hb.trans (h.below hb.size (fun k hk e => by rcases e with e | e <;> omega))
end Go.Proofs.YtbpkdihonemogaaGreatDoor
/- A hand and the document's hand side by side: what is done to the one leaves the other alone; each call of both. Acts, as they are handed in. -/
namespace Go.Proofs.YtbpkdihonemogaaGreatDoor
open Go Go.RowKit
set_option maxRecDepth 100000

/-- The numbers of an act. -/
structure ActN where
  k : Int
  i : Int
  x : Int
  y : Int
/-- The four cells of an act. -/
def ActAt (w : World) (b off : Nat) (q : ActN) : Prop :=
  w.cell? ⟨b, off, none⟩ = some (.int .i64 q.k) ∧ w.cell? ⟨b, off + 1, none⟩ = some (.int .i64 q.i) ∧ w.cell? ⟨b, off + 2, none⟩ = some (.int .u64 q.x) ∧ w.cell? ⟨b, off + 3, none⟩ = some (.int .u64 q.y)
theorem ActAt.other {w w' : World} {b off : Nat} {q : ActN} (h : ActAt w b off q) (e : w'.heap[b]? = w.heap[b]?) : ActAt w' b off q := by
  have key : ∀ z, w'.cell? ⟨b, z, none⟩ = w.cell? ⟨b, z, none⟩ := fun z => World.cell?_of_block (w := w) (a := ⟨b, z, none⟩) e
  exact ⟨(key _).trans h.1, (key _).trans h.2.1, (key _).trans h.2.2.1, (key _).trans h.2.2.2⟩
theorem ActAt.of {w : World} {B : Nat} {t : TypeId} {k i x y : Int} (h : w.heap[B]? = some (.cells #[.int .i64 k, .int .i64 i, .int .u64 x, .int .u64 y] t (0, 0))) : ActAt w B 0 ⟨k, i, x, y⟩ :=
  ⟨by simp [World.cell?, h], by simp [World.cell?, h], by simp [World.cell?, h], by simp [World.cell?, h]⟩
/-- What a slice value of acts holds, in a world. -/
def ActsAt (w : World) (a : Option Addr) (n : Nat) (g : Nat → ActN) : Prop :=
  n = 0 ∨ ∃ b off, a = some ⟨b, off, none⟩ ∧ b < w.heap.size ∧ ∀ j, j < n → ActAt w b (off + j * 4) (g j)
theorem ActsAt.below {w w' : World} {a : Option Addr} {n : Nat} {g : Nat → ActN} (h : ActsAt w a n g) (hb : Below w.heap.size w w') : ActsAt w' a n g := by
  rcases h with h | ⟨b, off, h1, h2, h3⟩
  · exact .inl h
  · exact .inr ⟨b, off, h1, by have := hb.size; omega, fun j hj => (h3 j hj).other (hb.block b h2)⟩
theorem ActsAt.at' {w : World} {a : Option Addr} {n : Nat} {g : Nat → ActN} (h : ActsAt w a n g) {j : Nat} (hj : j < n) : ∃ b off, a = some ⟨b, off, none⟩ ∧ b < w.heap.size ∧ ActAt w b (off + j * 4) (g j) := by
  rcases h with h | ⟨b, off, h1, h2, h3⟩
  · omega
  · exact ⟨b, off, h1, h2, h3 j hj⟩
/-- Words that were handed in. -/
def Given (W : World) (a : Option Addr) (n cap : Nat) (f : Nat → Int) : Prop := n ≤ 9223372036854775807 ∧ WordsAt W a n f ∧ (∀ j, U64 (f j)) ∧ (a = none → n = 0 ∧ cap = 0)
/-- Acts that were handed in. -/
def GivenActs (W : World) (a : Option Addr) (n : Nat) (g : Nat → ActN) : Prop := n ≤ 9223372036854775807 ∧ ActsAt W a n g ∧ ∀ j, j < n → U64 (g j).x ∧ U64 (g j).y
theorem upd_u64 {f : Nat → Int} (hf : ∀ j, U64 (f j)) (j : Nat) {z : Int} (hz : U64 z) (i : Nat) : U64 (upd f j z i) := by
  unfold upd
  by_cases e : i = j
  · rw [if_pos e]; exact hz
  · rw [if_neg e]; exact hf i
theorem wordsQ_u64 {n : Nat} {f : Nat → Int} (hf : ∀ j, U64 (f j)) (k i : Int) {x y : Int} (hx : U64 x) (hy : U64 y) (j : Nat) : U64 (wordsQ n f k i x y j) := by
  unfold wordsQ
  by_cases h : okD n k i
  · rw [if_pos h]; unfold doF
    by_cases h2 : k = 2
    · rw [if_pos h2]; exact upd_u64 hf _ hx j
    · rw [if_neg h2]
      by_cases h3 : k = 3
      · rw [if_pos h3]
        by_cases e : f i.toNat = x
        · rw [if_pos e]; exact upd_u64 hf _ hy j
        · rw [if_neg e]; exact hf j
      · rw [if_neg h3]
        by_cases h4 : k = 4
        · rw [if_pos h4]; exact upd_u64 hf _ (sumW_u64 _ _) j
        · rw [if_neg h4]; exact hf j
  · rw [if_neg h]; exact hf j
theorem u64_zero : U64 0 := by unfold U64; omega
/-- What both may turn. -/
def AllS (H G X : Nat) (va : Option Addr) : Nat → Prop := fun k => k = H ∨ k = G ∨ k = X ∨ va = some ⟨k, 0, none⟩
/-- A hand, and the document's hand. -/
structure Both (w W : World) (H A G X : Nat) (va : Option Addr) (n cap N : Nat) (a b c d : Int) (f : Nat → Int) (k i x y o : Int) (f2 : Nat → Int) (k2 i2 x2 y2 o2 : Int) : Prop where
  old : Below w.heap.size w W
  hand : HandAt W H A G n f a b c d k i x y o
  ref : RHandAt W X va n cap N f2 a b c d k2 i2 x2 y2 o2
  lH : w.heap.size ≤ H
  lG : w.heap.size ≤ G
  lX : w.heap.size ≤ X
  lR : ∀ R, va = some ⟨R, 0, none⟩ → w.heap.size ≤ R ∧ R < W.heap.size ∧ R ≠ H ∧ R ≠ A ∧ R ≠ G
  xH : X ≠ H
  xA : X ≠ A
  xG : X ≠ G
namespace Both
variable {w W V : World} {H A G X : Nat} {va : Option Addr} {n cap N : Nat} {a b c d : Int} {f f' f2 : Nat → Int} {k i x y o k2 i2 x2 y2 o2 k' i' x' y' o' : Int}
theorem below (h : Both w W H A G X va n cap N a b c d f k i x y o f2 k2 i2 x2 y2 o2) (hb : Below W.heap.size W V) : Both w V H A G X va n cap N a b c d f k i x y o f2 k2 i2 x2 y2 o2 :=
  ⟨belowOn h.old hb, h.hand.below hb, h.ref.below hb, h.lH, h.lG, h.lX, fun R e => ⟨(h.lR R e).1, by have := (h.lR R e).2.1; have := hb.size; omega, (h.lR R e).2.2⟩, h.xH, h.xA, h.xG⟩
theorem drew (h : Both w W H A G X va n cap N a b c d f k i x y o f2 k2 i2 x2 y2 o2) : Both w W.drew H A G X va n cap N a b c d f k i x y o f2 k2 i2 x2 y2 o2 :=
  ⟨h.old.drew, h.hand.drew, h.ref.drew, h.lH, h.lG, h.lX, h.lR, h.xH, h.xA, h.xG⟩
theorem ltR (h : Both w W H A G X va n cap N a b c d f k i x y o f2 k2 i2 x2 y2 o2) : ∀ R, va = some ⟨R, 0, none⟩ → R < W.heap.size := fun R e => (h.lR R e).2.1
/-- What is done to the hand leaves the document's alone. -/
theorem act (h : Both w W H A G X va n cap N a b c d f k i x y o f2 k2 i2 x2 y2 o2) (hs : Sav (HG H G) W V) (hH : HandAt V H A G n f' a b c d k' i' x' y' o') : Both w V H A G X va n cap N a b c d f' k' i' x' y' o' f2 k2 i2 x2 y2 o2 := by
  refine ⟨h.old.trans (hs.below h.old.size (fun k hk e => ?_)), hH, ⟨h.ref.nL, (hs.block X h.ref.lt ?_).trans h.ref.box, h.ref.mine.other (fun R e hR => hs.block R hR ?_)⟩, h.lH, h.lG, h.lX, fun R e => ⟨(h.lR R e).1, by have := (h.lR R e).2.1; have := hs.size; omega, (h.lR R e).2.2⟩, h.xH, h.xA, h.xG⟩
  · rcases e with e | e
    · have := h.lH; omega
    · have := h.lG; omega
  · rintro (e | e)
    · exact h.xH e
    · exact h.xG e
  · rintro (e' | e')
    · exact (h.lR R e).2.2.1 e'
    · exact (h.lR R e).2.2.2.2 e'
/-- What is done to the document's leaves the hand alone. -/
theorem doc (h : Both w W H A G X va n cap N a b c d f k i x y o f2 k2 i2 x2 y2 o2) (hs : Sav (RS X va) W V) (hH : RHandAt V X va n cap N f' a b c d k' i' x' y' o') : Both w V H A G X va n cap N a b c d f k i x y o f' k' i' x' y' o' := by
  refine ⟨h.old.trans (hs.below h.old.size (fun k hk e => ?_)), h.hand.other (hs.block H h.hand.lt ?_) (hs.block A h.hand.ar.lt ?_) (hs.block G h.hand.ar.row.lt ?_), hH, h.lH, h.lG, h.lX, fun R e => ⟨(h.lR R e).1, by have := (h.lR R e).2.1; have := hs.size; omega, (h.lR R e).2.2⟩, h.xH, h.xA, h.xG⟩
  · rcases e with e | e
    · have := h.lX; omega
    · have := (h.lR _ e).1; omega
  · rintro (e | e)
    · exact h.xH e.symm
    · exact (h.lR _ e).2.2.1 rfl
  · rintro (e | e)
    · exact h.xA e.symm
    · exact (h.lR _ e).2.2.2.1 rfl
  · rintro (e | e)
    · exact h.xG e.symm
    · exact (h.lR _ e).2.2.2.2 rfl
/-- A block of the law's own, behind both, lies on. -/
theorem apart (h : Both w W H A G X va n cap N a b c d f k i x y o f2 k2 i2 x2 y2 o2) {B : Nat} (hB : W.heap.size ≤ B) : ¬ AllS H G X va B := by
  rintro (e | e | e | e)
  · have := h.hand.lt; omega
  · have := h.hand.ar.row.lt; omega
  · have := h.ref.lt; omega
  · have := (h.lR _ e).2.1; omega
end Both
end Go.Proofs.YtbpkdihonemogaaGreatDoor
/- What a hand holds, and how far a mutator is, as one thing each; blocks beside them. -/
namespace Go.Proofs.YtbpkdihonemogaaGreatDoor
open Go Go.RowKit
set_option maxRecDepth 100000
attribute [local go_sem ↓] Go.wp_at_zero Go.wp_at_succ

/-- The number of words, and the numbers of a map. -/
structure Cf where
  n : Nat
  a : Int
  b : Int
  c : Int
  d : Int
/-- All words, and the access that was noted. -/
structure Dy where
  f : Nat → Int
  k : Int
  i : Int
  x : Int
  y : Int
  o : Int
/-- All words are words. -/
def Dy.U (s : Dy) : Prop := ∀ j, U64 (s.f j)
/-- An access is done, and noted. -/
def Dy.act (C : Cf) (s : Dy) (k i x y : Int) : Dy := ⟨wordsQ C.n s.f k i x y, z5 C.n k i k, z5 C.n k i i, z5 C.n k i x, z5 C.n k i y, z5 C.n k i (s.f i.toNat)⟩
theorem Dy.U.act {s : Dy} (h : s.U) (C : Cf) (k i : Int) {x y : Int} (hx : U64 x) (hy : U64 y) : (s.act C k i x y).U := fun j => wordsQ_u64 h k i hx hy j
/-- A hand with these words; the document's hand. -/
abbrev HAt (w : World) (H A G : Nat) (C : Cf) (s : Dy) : Prop := HandAt w H A G C.n s.f C.a C.b C.c C.d s.k s.i s.x s.y s.o
abbrev RAt (w : World) (X : Nat) (va : Option Addr) (cap N : Nat) (C : Cf) (s : Dy) : Prop := RHandAt w X va C.n cap N s.f C.a C.b C.c C.d s.k s.i s.x s.y s.o
/-- What a call of a hand, or of the document's, answers. -/
def HP (w : World) (H A G : Nat) (C : Cf) (s : Dy) (v : Value) (e : Ending) (w' : World) : Prop := e = .returned v ∧ HAt w' H A G C s ∧ Sav (HG H G) w w'
def RP (w : World) (X : Nat) (va : Option Addr) (cap N : Nat) (C : Cf) (s : Dy) (v : Value) (e : Ending) (w' : World) : Prop := e = .returned v ∧ RAt w' X va cap N C s ∧ Sav (RS X va) w w'
/-- How far a mutator is. -/
structure Mu where
  l : Int
  q1 : Int
  q2 : Int
  q3 : Int
  q4 : Int
  m1 : Int
  m2 : Int
  m3 : Int
  m4 : Int
  m5 : Int
  p : Int
  bk : Int
  rt : Int
abbrev Mu.v (m : Mu) : Value := .agg #[.int .i64 m.l, .int .i64 m.q1, .int .i64 m.q2, .int .i64 m.q3, .int .i64 m.q4, .int .u64 m.m1, .int .u64 m.m2, .int .u64 m.m3, .int .u64 m.m4, .int .u64 m.m5, .int .u64 m.p, .int .i64 m.bk, .int .i64 m.rt]
/-- Its words are words. -/
def Mu.U (m : Mu) : Prop := U64 m.m1 ∧ U64 m.m2 ∧ U64 m.m3 ∧ U64 m.m4 ∧ U64 m.m5 ∧ U64 m.p
/-- It lies in block B. -/
abbrev MuAt (w : World) (B : Nat) (m : Mu) : Prop := Mut13 w B m.l m.p m.bk m.q1 m.q2 m.q3 m.q4 m.m1 m.m2 m.m3 m.m4 m.m5 m.rt
/-- Everything is as it was in what a call of the document's hand leaves alone. -/
theorem Mut13.savR {w V : World} {X : Nat} {va : Option Addr} {B : Nat} {l p bk q1 q2 q3 q4 m1 m2 m3 m4 m5 rt : Int} (h : Mut13 w B l p bk q1 q2 q3 q4 m1 m2 m3 m4 m5 rt) (hs : Sav (RS X va) w V) (h1 : B ≠ X) (h2 : ∀ R, va = some ⟨R, 0, none⟩ → R ≠ B) : Mut13 V B l p bk q1 q2 q3 q4 m1 m2 m3 m4 m5 rt :=
  h.other (hs.block B h.lt (fun e => e.elim h1 (fun e => h2 B e rfl)))
theorem Mut13.savH {w V : World} {H G : Nat} {B : Nat} {l p bk q1 q2 q3 q4 m1 m2 m3 m4 m5 rt : Int} (h : Mut13 w B l p bk q1 q2 q3 q4 m1 m2 m3 m4 m5 rt) (hs : Sav (HG H G) w V) (h1 : B ≠ H) (h2 : B ≠ G) : Mut13 V B l p bk q1 q2 q3 q4 m1 m2 m3 m4 m5 rt :=
  h.other (hs.block B h.lt (fun e => e.elim h1 h2))
/-- The cells of a mutator turned: a field. -/
theorem Mut13.setL {w : World} {B : Nat} {l p bk q1 q2 q3 q4 m1 m2 m3 m4 m5 rt : Int} (h : Mut13 w B l p bk q1 q2 q3 q4 m1 m2 m3 m4 m5 rt) (z : Int) : Mut13 (w.setCell ⟨B, 0, none⟩ (.int .i64 z)) B z p bk q1 q2 q3 q4 m1 m2 m3 m4 m5 rt := by
  unfold Mut13 at *; simp [World.setCell, Array.getElem?_modify, h]
theorem Mut13.setP {w : World} {B : Nat} {l p bk q1 q2 q3 q4 m1 m2 m3 m4 m5 rt : Int} (h : Mut13 w B l p bk q1 q2 q3 q4 m1 m2 m3 m4 m5 rt) (z : Int) : Mut13 (w.setCell ⟨B, 10, none⟩ (.int .u64 z)) B l z bk q1 q2 q3 q4 m1 m2 m3 m4 m5 rt := by
  unfold Mut13 at *; simp [World.setCell, Array.getElem?_modify, h]
theorem Mut13.setB {w : World} {B : Nat} {l p bk q1 q2 q3 q4 m1 m2 m3 m4 m5 rt : Int} (h : Mut13 w B l p bk q1 q2 q3 q4 m1 m2 m3 m4 m5 rt) (z : Int) : Mut13 (w.setCell ⟨B, 11, none⟩ (.int .i64 z)) B l p z q1 q2 q3 q4 m1 m2 m3 m4 m5 rt := by
  unfold Mut13 at *; simp [World.setCell, Array.getElem?_modify, h]
theorem Mut13.setOther {w : World} {B : Nat} {l p bk q1 q2 q3 q4 m1 m2 m3 m4 m5 rt : Int} (h : Mut13 w B l p bk q1 q2 q3 q4 m1 m2 m3 m4 m5 rt) {q : Addr} (hq : q.block ≠ B) (v : Value) : Mut13 (w.setCell q v) B l p bk q1 q2 q3 q4 m1 m2 m3 m4 m5 rt :=
  h.other (Below.heap_setCell _ _ _ _ hq.symm)
theorem RHandAt.setOther {w : World} {X : Nat} {va : Option Addr} {n cap N : Nat} {f : Nat → Int} {a b c d k i x y o : Int} (h : RHandAt w X va n cap N f a b c d k i x y o) {p : Addr} (h0 : p.block ≠ X) (h1 : ∀ R, va = some ⟨R, 0, none⟩ → R ≠ p.block) (v : Value) : RHandAt (w.setCell p v) X va n cap N f a b c d k i x y o :=
  h.other (Below.heap_setCell _ _ _ _ h0.symm) (fun R e _ => Below.heap_setCell _ _ _ _ (h1 R e))
theorem RHandAt.put13 {w : World} {X : Nat} {va : Option Addr} {n cap N : Nat} {f : Nat → Int} {a b c d k i x y o : Int} (h : RHandAt w X va n cap N f a b c d k i x y o) {B : Nat} (h0 : B ≠ X) (h1 : ∀ R, va = some ⟨R, 0, none⟩ → R ≠ B) (l p bk q1 q2 q3 q4 m1 m2 m3 m4 m5 rt : Int) : RHandAt (put13 w B l p bk q1 q2 q3 q4 m1 m2 m3 m4 m5 rt) X va n cap N f a b c d k i x y o :=
  h.other (heap_put13 _ _ _ _ _ _ _ _ _ _ _ _ _ _ _ h0.symm) (fun R e _ => heap_put13 _ _ _ _ _ _ _ _ _ _ _ _ _ _ _ (h1 R e))
end Go.Proofs.YtbpkdihonemogaaGreatDoor
/- First lines: a map that a function makes of a literal. -/
namespace Go.Proofs.YtbpkdihonemogaaGreatDoor
open Go Go.RowKit
set_option maxRecDepth 100000
attribute [local go_sem ↓] Go.wp_at_zero Go.wp_at_succ

/-- An operation's first line. -/
def firstL (k : Int) : Int :=
  if k = 1 then 10 else if k = 2 then 11 else if k = 3 then 30 else if k = 4 then 13 else if k = 5 then 13 else if k = 6 then 16 else if k = 7 then 16 else if k = 8 then 19 else if k = 9 then 20 else if k = 10 then 22 else if k = 11 then 24 else 90
/-- What a map tells of a kind: its line, or that it hasn't got it. -/
def Tells (D : DataW Unit) (k : Int) (v : Option Int) : Prop := Maps.has D (.int .i64 k) = v.isSome ∧ D.atKey (.int .i64 k) (.lit (.int .i64 0)) = .lit (.int .i64 (v.getD 0))
theorem Tells.put {D : DataW Unit} {k : Int} {v : Option Int} (hD : Maps.IsMap D) (h : Tells D k v) (j x : Int) (hj : (Lit.int .i64 j).wf = true) : Tells (D.put (.int .i64 j) (.lit (.int .i64 x))) k (if k = j then some x else v) := by
  by_cases e : k = j
  · subst e
    rw [if_pos rfl]
    exact ⟨Maps.has_put_same hD (k := .int .i64 k) trivial _, Maps.atKey_put_same hD (k := .int .i64 k) trivial _ _⟩
  · rw [if_neg e]
    have hne : (Lit.int .i64 k) ≠ .int .i64 j := fun q => e (by injection q)
    exact ⟨(Maps.has_put_other hne _).trans h.1, (Maps.atKey_put_other hne _ _).trans h.2⟩
/-- The same, or nothing. -/
def lineO (k : Int) : Option Int := (if k = 11 then some 24 else (if k = 10 then some 22 else (if k = 9 then some 20 else (if k = 8 then some 19 else (if k = 7 then some 16 else (if k = 6 then some 16 else (if k = 5 then some 13 else (if k = 4 then some 13 else (if k = 3 then some 30 else (if k = 2 then some 11 else (if k = 1 then some 10 else none)))))))))))
theorem firstL_of (k : Int) : (match lineO k with | some v => v | none => (90 : Int)) = firstL k := by
  unfold firstL lineO
  by_cases e11 : k = 11
  · subst e11; rfl
  rw [if_neg e11]
  by_cases e10 : k = 10
  · subst e10; rfl
  rw [if_neg e10]
  by_cases e9 : k = 9
  · subst e9; rfl
  rw [if_neg e9]
  by_cases e8 : k = 8
  · subst e8; rfl
  rw [if_neg e8]
  by_cases e7 : k = 7
  · subst e7; rfl
  rw [if_neg e7]
  by_cases e6 : k = 6
  · subst e6; rfl
  rw [if_neg e6]
  by_cases e5 : k = 5
  · subst e5; rfl
  rw [if_neg e5]
  by_cases e4 : k = 4
  · subst e4; rfl
  rw [if_neg e4]
  by_cases e3 : k = 3
  · subst e3; rfl
  rw [if_neg e3]
  by_cases e2 : k = 2
  · subst e2; rfl
  rw [if_neg e2]
  by_cases e1 : k = 1
  · subst e1; rfl
  rw [if_neg e1]
  rw [if_neg e1, if_neg e2, if_neg e3, if_neg e4, if_neg e5, if_neg e6, if_neg e7, if_neg e8, if_neg e9, if_neg e10, if_neg e11]
theorem keyedInt : Maps.Keyed Tryz.prog 3 := Maps.int_keyed Tryz.underlying3
theorem zeroInt (w : World) : (zeroValue 3).run Tryz.prog w = .ok (.int .i64 0) w := by kernel_rfl
theorem i64wf {k : Int} (h : -9223372036854775808 ≤ k ∧ k ≤ 9223372036854775807) : (Lit.int .i64 k).wf = true := WalkArith.wf_i64 h
/-- The map of first lines. -/
def LinesPost (w : World) (e : Ending) (w' : World) : Prop := ∃ D : DataW Unit, e = .returned (.map (some w.heap.size)) ∧ w'.ownsMap Tryz.prog 3 (plainElem Tryz.prog 3) w.heap.size 11 D ∧ (∀ k, Tells D k (lineO k)) ∧ Below w.heap.size w w'
set_option maxHeartbeats 1600000 in
theorem lines_c (w : World) : Calls Tryz.prog 124 #[] w (LinesPost w) := by
  have hmm := @run_makeMap Tryz.prog
  have o0 := World.ownsMap_made (H := Unit) w Tryz.prog 3 (plainElem Tryz.prog 3)
  have b0 : Below w.heap.size w (w.alloc (.map #[] 0)) := below_new w _
  have i0 : Maps.IsMap (.map [] : DataW Unit) := Maps.isMap_empty
  have t0 : ∀ k, Tells (.map [] : DataW Unit) k none := fun k => ⟨rfl, rfl⟩
  obtain ⟨V1, r1, o1, g1⟩ := o0.update keyedInt Tryz.underlying156 (by unfold maxLen; omega) (key := .int .i64 1) (val := .int .i64 10) (Maps.keyOf_int_mk Tryz.underlying3 (by decide)) (plainElem_int Tryz.underlying3 (by decide))
  have b1 := b0.grown g1 b0.size (fun j hj => by cases hj; exact Nat.le_refl _)
  have i1 := i0.put (.int .i64 1) (.lit (.int .i64 10))
  have t1 := fun q => (t0 q).put i0 1 10 (by decide)
  clear o0 g1 b0 i0 t0
  obtain ⟨V2, r2, o2, g2⟩ := o1.update keyedInt Tryz.underlying156 (by unfold maxLen; omega) (key := .int .i64 2) (val := .int .i64 11) (Maps.keyOf_int_mk Tryz.underlying3 (by decide)) (plainElem_int Tryz.underlying3 (by decide))
  have b2 := b1.grown g2 b1.size (fun j hj => by cases hj; exact Nat.le_refl _)
  have i2 := i1.put (.int .i64 2) (.lit (.int .i64 11))
  have t2 := fun q => (t1 q).put i1 2 11 (by decide)
  clear o1 g2 b1 i1 t1
  obtain ⟨V3, r3, o3, g3⟩ := o2.update keyedInt Tryz.underlying156 (by unfold maxLen; omega) (key := .int .i64 3) (val := .int .i64 30) (Maps.keyOf_int_mk Tryz.underlying3 (by decide)) (plainElem_int Tryz.underlying3 (by decide))
  have b3 := b2.grown g3 b2.size (fun j hj => by cases hj; exact Nat.le_refl _)
  have i3 := i2.put (.int .i64 3) (.lit (.int .i64 30))
  have t3 := fun q => (t2 q).put i2 3 30 (by decide)
  clear o2 g3 b2 i2 t2
  obtain ⟨V4, r4, o4, g4⟩ := o3.update keyedInt Tryz.underlying156 (by unfold maxLen; omega) (key := .int .i64 4) (val := .int .i64 13) (Maps.keyOf_int_mk Tryz.underlying3 (by decide)) (plainElem_int Tryz.underlying3 (by decide))
  have b4 := b3.grown g4 b3.size (fun j hj => by cases hj; exact Nat.le_refl _)
  have i4 := i3.put (.int .i64 4) (.lit (.int .i64 13))
  have t4 := fun q => (t3 q).put i3 4 13 (by decide)
  clear o3 g4 b3 i3 t3
  obtain ⟨V5, r5, o5, g5⟩ := o4.update keyedInt Tryz.underlying156 (by unfold maxLen; omega) (key := .int .i64 5) (val := .int .i64 13) (Maps.keyOf_int_mk Tryz.underlying3 (by decide)) (plainElem_int Tryz.underlying3 (by decide))
  have b5 := b4.grown g5 b4.size (fun j hj => by cases hj; exact Nat.le_refl _)
  have i5 := i4.put (.int .i64 5) (.lit (.int .i64 13))
  have t5 := fun q => (t4 q).put i4 5 13 (by decide)
  clear o4 g5 b4 i4 t4
  obtain ⟨V6, r6, o6, g6⟩ := o5.update keyedInt Tryz.underlying156 (by unfold maxLen; omega) (key := .int .i64 6) (val := .int .i64 16) (Maps.keyOf_int_mk Tryz.underlying3 (by decide)) (plainElem_int Tryz.underlying3 (by decide))
  have b6 := b5.grown g6 b5.size (fun j hj => by cases hj; exact Nat.le_refl _)
  have i6 := i5.put (.int .i64 6) (.lit (.int .i64 16))
  have t6 := fun q => (t5 q).put i5 6 16 (by decide)
  clear o5 g6 b5 i5 t5
  obtain ⟨V7, r7, o7, g7⟩ := o6.update keyedInt Tryz.underlying156 (by unfold maxLen; omega) (key := .int .i64 7) (val := .int .i64 16) (Maps.keyOf_int_mk Tryz.underlying3 (by decide)) (plainElem_int Tryz.underlying3 (by decide))
  have b7 := b6.grown g7 b6.size (fun j hj => by cases hj; exact Nat.le_refl _)
  have i7 := i6.put (.int .i64 7) (.lit (.int .i64 16))
  have t7 := fun q => (t6 q).put i6 7 16 (by decide)
  clear o6 g7 b6 i6 t6
  obtain ⟨V8, r8, o8, g8⟩ := o7.update keyedInt Tryz.underlying156 (by unfold maxLen; omega) (key := .int .i64 8) (val := .int .i64 19) (Maps.keyOf_int_mk Tryz.underlying3 (by decide)) (plainElem_int Tryz.underlying3 (by decide))
  have b8 := b7.grown g8 b7.size (fun j hj => by cases hj; exact Nat.le_refl _)
  have i8 := i7.put (.int .i64 8) (.lit (.int .i64 19))
  have t8 := fun q => (t7 q).put i7 8 19 (by decide)
  clear o7 g8 b7 i7 t7
  obtain ⟨V9, r9, o9, g9⟩ := o8.update keyedInt Tryz.underlying156 (by unfold maxLen; omega) (key := .int .i64 9) (val := .int .i64 20) (Maps.keyOf_int_mk Tryz.underlying3 (by decide)) (plainElem_int Tryz.underlying3 (by decide))
  have b9 := b8.grown g9 b8.size (fun j hj => by cases hj; exact Nat.le_refl _)
  have i9 := i8.put (.int .i64 9) (.lit (.int .i64 20))
  have t9 := fun q => (t8 q).put i8 9 20 (by decide)
  clear o8 g9 b8 i8 t8
  obtain ⟨V10, r10, o10, g10⟩ := o9.update keyedInt Tryz.underlying156 (by unfold maxLen; omega) (key := .int .i64 10) (val := .int .i64 22) (Maps.keyOf_int_mk Tryz.underlying3 (by decide)) (plainElem_int Tryz.underlying3 (by decide))
  have b10 := b9.grown g10 b9.size (fun j hj => by cases hj; exact Nat.le_refl _)
  have i10 := i9.put (.int .i64 10) (.lit (.int .i64 22))
  have t10 := fun q => (t9 q).put i9 10 22 (by decide)
  clear o9 g10 b9 i9 t9
  obtain ⟨V11, r11, o11, g11⟩ := o10.update keyedInt Tryz.underlying156 (by unfold maxLen; omega) (key := .int .i64 11) (val := .int .i64 24) (Maps.keyOf_int_mk Tryz.underlying3 (by decide)) (plainElem_int Tryz.underlying3 (by decide))
  have b11 := b10.grown g11 b10.size (fun j hj => by cases hj; exact Nat.le_refl _)
  have i11 := i10.put (.int .i64 11) (.lit (.int .i64 24))
  have t11 := fun q => (t10 q).put i10 11 24 (by decide)
  clear o10 g11 b10 i10 t10
  have O := Lib.hid o11; have BB := Lib.hid b11; have TT := Lib.hid t11
  clear o11 b11 t11 i11
  go_enter Tryz.func124, Tryz.ntmps124
  go_wp2_with fail
  go_ret
  exact ⟨_, rfl, O.out, TT.out, BB.out⟩
set_option maxHeartbeats 1600000 in
theorem First_c (k : Int) (hk : -9223372036854775808 ≤ k ∧ k ≤ 9223372036854775807) (w : World) :
    Calls Tryz.prog 91 #[.int .i64 k] w fun e w' => e = .returned (.int .i64 (firstL k)) ∧ Below w.heap.size w w' := by
  have HL := Lib.hid (lines_c w)
  have hf := firstL_of k
  generalize firstL k = z at *
  go_enter Tryz.func91, Tryz.ntmps91
  go_wp2_with fail
  refine HL.out.mono ?_
  rintro e V ⟨D, rfl, ho, ht, hb⟩
  obtain ⟨u, ps, hrun, hv⟩ := ho.look_ok keyedInt Tryz.underlying156 (zeroInt V) (plainElem_int Tryz.underlying3 (by decide)) (Maps.keyOf_int_mk Tryz.underlying3 (WalkArith.wf_i64 hk))
  obtain ⟨c, rfl, hc, _⟩ := plainElem_int_inv Tryz.underlying3 hv
  have ht := ht k
  generalize lineO k = O at hf ht
  obtain ⟨t1, t2⟩ := ht
  rw [t1] at hrun
  rw [t2] at hc
  have HB := Lib.hid hb
  clear hv t1 t2 ho hb
  rcases O with _ | x
  · have hrun : (Instr.lookup 156 (.map (some w.heap.size)) (.int .i64 k) true).run Tryz.prog V = .ok (.tuple #[.int .i64 c, .bool false]) V := hrun
    have hf : (90 : Int) = z := hf
    subst hf
    clear hc
    go_wp2_with fail
    go_ret
    exact ⟨rfl, HB.out⟩
  · have hrun : (Instr.lookup 156 (.map (some w.heap.size)) (.int .i64 k) true).run Tryz.prog V = .ok (.tuple #[.int .i64 c, .bool true]) V := hrun
    have hc : x = c := by have := congrArg Prod.fst hc; simpa using this
    subst hc
    have hf : x = z := hf
    subst hf
    go_wp2_with fail
    go_ret
    exact ⟨rfl, HB.out⟩
end Go.Proofs.YtbpkdihonemogaaGreatDoor
/- Package barrier's goOn and Begin, and the document's Begin, of every word. -/
namespace Go.Proofs.YtbpkdihonemogaaGreatDoor
open Go Go.RowKit
set_option maxRecDepth 100000
attribute [local go_sem ↓] Go.wp_at_zero Go.wp_at_succ

theorem goOn_c (l p bk q1 q2 q3 q4 m1 m2 m3 m4 m5 rt n : Int) (w : World) :
    Calls Tryz.prog 127 #[(mutV l p bk q1 q2 q3 q4 m1 m2 m3 m4 m5 rt), .int .i64 n] w fun e w' => e = .returned (mutV n 0 0 q1 q2 q3 q4 m1 m2 m3 m4 m5 rt) ∧ Below w.heap.size w w' := by
  go_enter Tryz.func127, Tryz.ntmps127
  go_wp2_with fail
  refine bodyPost_ret (v := (mutV n 0 0 q1 q2 q3 q4 m1 m2 m3 m4 m5 rt)) (by simp [results, Tryz.f127, go_sem]) rfl ?_
  exact ⟨rfl, below_on (below_new _ _) _⟩
/-- Where a mutator is that is to shade a word. -/
def begL (v : Nat) (k : Int) : Int := if isC v then 80 else k
def begP (v : Nat) : Int := if isC v then (v : Int) else 0
def begB (v : Nat) (k : Int) : Int := if isC v then k else 0
theorem Begin_c (l p bk q1 q2 q3 q4 m1 m2 m3 m4 m5 rt : Int) (v : Nat) (hv : v < 18446744073709551616) (n : Int) (w : World) :
    Calls Tryz.prog 98 #[(mutV l p bk q1 q2 q3 q4 m1 m2 m3 m4 m5 rt), .int .u64 v, .int .i64 n] w fun e w' => e = .returned (mutV (begL v n) (begP v) (begB v n) q1 q2 q3 q4 m1 m2 m3 m4 m5 rt) ∧ Below w.heap.size w w' := by
  have hb := below_on (below_new w (.cells #[.int .i64 l, .int .i64 q1, .int .i64 q2, .int .i64 q3, .int .i64 q4, .int .u64 m1, .int .u64 m2, .int .u64 m3, .int .u64 m4, .int .u64 m5, .int .u64 p, .int .i64 bk, .int .i64 rt] 30)) (.cells #[.int .i64 0, .int .i64 0, .int .i64 0, .int .i64 0, .int .i64 0, .int .u64 0, .int .u64 0, .int .u64 0, .int .u64 0, .int .u64 0, .int .u64 0, .int .i64 0, .int .i64 0] 30)
  have HX := Lib.hid ((Mut13.new w l p bk q1 q2 q3 q4 m1 m2 m3 m4 m5 rt).below (below_new _ (.cells #[.int .i64 0, .int .i64 0, .int .i64 0, .int .i64 0, .int .i64 0, .int .u64 0, .int .u64 0, .int .u64 0, .int .u64 0, .int .u64 0, .int .u64 0, .int .i64 0, .int .i64 0] 30)))
  have HY : Hid (Mut13 ((w.alloc (.cells #[.int .i64 l, .int .i64 q1, .int .i64 q2, .int .i64 q3, .int .i64 q4, .int .u64 m1, .int .u64 m2, .int .u64 m3, .int .u64 m4, .int .u64 m5, .int .u64 p, .int .i64 bk, .int .i64 rt] 30)).alloc (.cells #[.int .i64 0, .int .i64 0, .int .i64 0, .int .i64 0, .int .i64 0, .int .u64 0, .int .u64 0, .int .u64 0, .int .u64 0, .int .u64 0, .int .u64 0, .int .i64 0, .int .i64 0] 30)) (w.heap.size + 1) 0 0 0 0 0 0 0 0 0 0 0 0 0) := Lib.hid (by have := Mut13.new (w.alloc (.cells #[.int .i64 l, .int .i64 q1, .int .i64 q2, .int .i64 q3, .int .i64 q4, .int .u64 m1, .int .u64 m2, .int .u64 m3, .int .u64 m4, .int .u64 m5, .int .u64 p, .int .i64 bk, .int .i64 rt] 30)) 0 0 0 0 0 0 0 0 0 0 0 0 0; simpa using this)
  have HB := Lib.hid hb; clear hb
  unfold begL begP begB
  by_cases h : isC v
  · rw [if_pos h, if_pos h, if_pos h]
    have HI := Lib.hid (isCell_cell v h.2 h.1)
    clear h
    go_enter Tryz.func98, Tryz.ntmps98
    go_wp2_with fail
    refine (HI.out _).mono ?_
    rintro e W ⟨rfl, rfl⟩
    go_wp2_with fail
    refine bodyPost_ret (v := (mutV 80 (v : Int) n q1 q2 q3 q4 m1 m2 m3 m4 m5 rt)) (by simp [results, Tryz.f98, go_sem]) rfl ?_
    exact ⟨rfl, below_on (below_new _ _) _⟩
  · rw [if_neg h, if_neg h, if_neg h]
    have HI := Lib.hid (isCell_no v hv h)
    have HG := Lib.hid (goOn_c l p bk q1 q2 q3 q4 m1 m2 m3 m4 m5 rt n)
    clear h
    obtain ⟨b0, b1, b2, b3, b4, b5, b6, b7, b8, b9, b10, b11, b12, bf⟩ := HX.out.cells
    go_enter Tryz.func98, Tryz.ntmps98
    go_wp2_with fail
    refine (HI.out _).mono ?_
    rintro e W ⟨rfl, rfl⟩
    go_wp2_with fail
    refine (HG.out _).mono ?_
    rintro e W ⟨rfl, hW⟩
    have HB2 := Lib.hid (belowOn HB.out hW)
    have HY2 := Lib.hid (HY.out.below hW)
    clear hW HB HY HX b0 b1 b2 b3 b4 b5 b6 b7 b8 b9 b10 b11 b12 bf
    obtain ⟨c0, c1, c2, c3, c4, c5, c6, c7, c8, c9, c10, c11, c12, cf⟩ := HY2.out.cells
    obtain ⟨s0, s1, s2, s3, s4, s5, s6, s7, s8, s9, s10, s11, s12, _⟩ := (HY2.out.put n 0 0 q1 q2 q3 q4 m1 m2 m3 m4 m5 rt).cells
    go_wp2_with fail
    refine bodyPost_ret (v := (mutV n 0 0 q1 q2 q3 q4 m1 m2 m3 m4 m5 rt)) (by simp [results, Tryz.f98, go_sem, s0, s1, s2, s3, s4, s5, s6, s7, s8, s9, s10, s11, s12]) rfl ?_
    exact ⟨rfl, ((Sav.of (S := fun _ => False) HB2.out).put13 (.inr (by omega)) _ _ _ _ _ _ _ _ _ _ _ _ _).below (Nat.le_refl _) (fun _ _ e => e)⟩
end Go.Proofs.YtbpkdihonemogaaGreatDoor
