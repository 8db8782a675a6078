/- A hand and the document's hand side by side: what is done to the one leaves the other alone; each call of both. Acts, as they are handed in. -/
import Derived.Test.YtganbjgkobmdkaaDoorHandNew
import Derived.Test.YtganbjgkobmdkaaDoorM1
namespace Go.Proofs.YtganbjgkobmdkaaDoor
open Go Go.RowKit
set_option maxRecDepth 100000

/-- The numbers of an act. -/
structure ActN where
  k : Int
  i : Int
  x : Int
  y : Int
/-- The four cells of an act. -/
def ActAt (w : World) (b off : Nat) (q : ActN) : Prop :=
  w.cell? ⟨b, off, none⟩ = some (.int .i64 q.k) ∧ w.cell? ⟨b, off + 1, none⟩ = some (.int .i64 q.i) ∧ w.cell? ⟨b, off + 2, none⟩ = some (.int .u64 q.x) ∧ w.cell? ⟨b, off + 3, none⟩ = some (.int .u64 q.y)
theorem ActAt.other {w w' : World} {b off : Nat} {q : ActN} (h : ActAt w b off q) (e : w'.heap[b]? = w.heap[b]?) : ActAt w' b off q := by
  have key : ∀ z, w'.cell? ⟨b, z, none⟩ = w.cell? ⟨b, z, none⟩ := fun z => World.cell?_of_block (w := w) (a := ⟨b, z, none⟩) e
  exact ⟨(key _).trans h.1, (key _).trans h.2.1, (key _).trans h.2.2.1, (key _).trans h.2.2.2⟩
theorem ActAt.of {w : World} {B : Nat} {t : TypeId} {k i x y : Int} (h : w.heap[B]? = some (.cells #[.int .i64 k, .int .i64 i, .int .u64 x, .int .u64 y] t (0, 0))) : ActAt w B 0 ⟨k, i, x, y⟩ :=
  ⟨by simp [World.cell?, h], by simp [World.cell?, h], by simp [World.cell?, h], by simp [World.cell?, h]⟩
/-- What a slice value of acts holds, in a world. -/
def ActsAt (w : World) (a : Option Addr) (n : Nat) (g : Nat → ActN) : Prop :=
  n = 0 ∨ ∃ b off, a = some ⟨b, off, none⟩ ∧ b < w.heap.size ∧ ∀ j, j < n → ActAt w b (off + j * 4) (g j)
theorem ActsAt.below {w w' : World} {a : Option Addr} {n : Nat} {g : Nat → ActN} (h : ActsAt w a n g) (hb : Below w.heap.size w w') : ActsAt w' a n g := by
  rcases h with h | ⟨b, off, h1, h2, h3⟩
  · exact .inl h
  · exact .inr ⟨b, off, h1, by have := hb.size; omega, fun j hj => (h3 j hj).other (hb.block b h2)⟩
theorem ActsAt.at' {w : World} {a : Option Addr} {n : Nat} {g : Nat → ActN} (h : ActsAt w a n g) {j : Nat} (hj : j < n) : ∃ b off, a = some ⟨b, off, none⟩ ∧ b < w.heap.size ∧ ActAt w b (off + j * 4) (g j) := by
  rcases h with h | ⟨b, off, h1, h2, h3⟩
  · omega
  · exact ⟨b, off, h1, h2, h3 j hj⟩
/-- Words that were handed in. -/
def Given (W : World) (a : Option Addr) (n cap : Nat) (f : Nat → Int) : Prop := n ≤ 9223372036854775807 ∧ WordsAt W a n f ∧ (∀ j, U64 (f j)) ∧ (a = none → n = 0 ∧ cap = 0)
/-- Acts that were handed in. -/
def GivenActs (W : World) (a : Option Addr) (n : Nat) (g : Nat → ActN) : Prop := n ≤ 9223372036854775807 ∧ ActsAt W a n g ∧ ∀ j, j < n → U64 (g j).x ∧ U64 (g j).y
theorem upd_u64 {f : Nat → Int} (hf : ∀ j, U64 (f j)) (j : Nat) {z : Int} (hz : U64 z) (i : Nat) : U64 (upd f j z i) := by
  unfold upd
  by_cases e : i = j
  · rw [if_pos e]; exact hz
  · rw [if_neg e]; exact hf i
theorem wordsQ_u64 {n : Nat} {f : Nat → Int} (hf : ∀ j, U64 (f j)) (k i : Int) {x y : Int} (hx : U64 x) (hy : U64 y) (j : Nat) : U64 (wordsQ n f k i x y j) := by
  unfold wordsQ
  by_cases h : okD n k i
  · rw [if_pos h]; unfold doF
    by_cases h2 : k = 2
    · rw [if_pos h2]; exact upd_u64 hf _ hx j
    · rw [if_neg h2]
      by_cases h3 : k = 3
      · rw [if_pos h3]
        by_cases e : f i.toNat = x
        · rw [if_pos e]; exact upd_u64 hf _ hy j
        · rw [if_neg e]; exact hf j
      · rw [if_neg h3]
        by_cases h4 : k = 4
        · rw [if_pos h4]; exact upd_u64 hf _ (sumW_u64 _ _) j
        · rw [if_neg h4]; exact hf j
  · rw [if_neg h]; exact hf j
theorem u64_zero : U64 0 := by unfold U64; omega
/-- What both may turn. -/
def AllS (H G X : Nat) (va : Option Addr) : Nat → Prop := fun k => k = H ∨ k = G ∨ k = X ∨ va = some ⟨k, 0, none⟩
/-- A hand, and the document's hand. -/
structure Both (w W : World) (H A G X : Nat) (va : Option Addr) (n cap N : Nat) (a b c d : Int) (f : Nat → Int) (k i x y o : Int) (f2 : Nat → Int) (k2 i2 x2 y2 o2 : Int) : Prop where
  old : Below w.heap.size w W
  hand : HandAt W H A G n f a b c d k i x y o
  ref : RHandAt W X va n cap N f2 a b c d k2 i2 x2 y2 o2
  lH : w.heap.size ≤ H
  lG : w.heap.size ≤ G
  lX : w.heap.size ≤ X
  lR : ∀ R, va = some ⟨R, 0, none⟩ → w.heap.size ≤ R ∧ R < W.heap.size ∧ R ≠ H ∧ R ≠ A ∧ R ≠ G
  xH : X ≠ H
  xA : X ≠ A
  xG : X ≠ G
namespace Both
variable {w W V : World} {H A G X : Nat} {va : Option Addr} {n cap N : Nat} {a b c d : Int} {f f' f2 : Nat → Int} {k i x y o k2 i2 x2 y2 o2 k' i' x' y' o' : Int}
theorem below (h : Both w W H A G X va n cap N a b c d f k i x y o f2 k2 i2 x2 y2 o2) (hb : Below W.heap.size W V) : Both w V H A G X va n cap N a b c d f k i x y o f2 k2 i2 x2 y2 o2 :=
  ⟨belowOn h.old hb, h.hand.below hb, h.ref.below hb, h.lH, h.lG, h.lX, fun R e => ⟨(h.lR R e).1, by have := (h.lR R e).2.1; have := hb.size; omega, (h.lR R e).2.2⟩, h.xH, h.xA, h.xG⟩
theorem drew (h : Both w W H A G X va n cap N a b c d f k i x y o f2 k2 i2 x2 y2 o2) : Both w W.drew H A G X va n cap N a b c d f k i x y o f2 k2 i2 x2 y2 o2 :=
  ⟨h.old.drew, h.hand.drew, h.ref.drew, h.lH, h.lG, h.lX, h.lR, h.xH, h.xA, h.xG⟩
theorem ltR (h : Both w W H A G X va n cap N a b c d f k i x y o f2 k2 i2 x2 y2 o2) : ∀ R, va = some ⟨R, 0, none⟩ → R < W.heap.size := fun R e => (h.lR R e).2.1
/-- What is done to the hand leaves the document's alone. -/
theorem act (h : Both w W H A G X va n cap N a b c d f k i x y o f2 k2 i2 x2 y2 o2) (hs : Sav (HG H G) W V) (hH : HandAt V H A G n f' a b c d k' i' x' y' o') : Both w V H A G X va n cap N a b c d f' k' i' x' y' o' f2 k2 i2 x2 y2 o2 := by
  refine ⟨h.old.trans (hs.below h.old.size (fun k hk e => ?_)), hH, ⟨h.ref.nL, (hs.block X h.ref.lt ?_).trans h.ref.box, h.ref.mine.other (fun R e hR => hs.block R hR ?_)⟩, h.lH, h.lG, h.lX, fun R e => ⟨(h.lR R e).1, by have := (h.lR R e).2.1; have := hs.size; omega, (h.lR R e).2.2⟩, h.xH, h.xA, h.xG⟩
  · rcases e with e | e
    · have := h.lH; omega
    · have := h.lG; omega
  · rintro (e | e)
    · exact h.xH e
    · exact h.xG e
  · rintro (e' | e')
    · exact (h.lR R e).2.2.1 e'
    · exact (h.lR R e).2.2.2.2 e'
/-- What is done to the document's leaves the hand alone. -/
theorem doc (h : Both w W H A G X va n cap N a b c d f k i x y o f2 k2 i2 x2 y2 o2) (hs : Sav (RS X va) W V) (hH : RHandAt V X va n cap N f' a b c d k' i' x' y' o') : Both w V H A G X va n cap N a b c d f k i x y o f' k' i' x' y' o' := by
  refine ⟨h.old.trans (hs.below h.old.size (fun k hk e => ?_)), h.hand.other (hs.block H h.hand.lt ?_) (hs.block A h.hand.ar.lt ?_) (hs.block G h.hand.ar.row.lt ?_), hH, h.lH, h.lG, h.lX, fun R e => ⟨(h.lR R e).1, by have := (h.lR R e).2.1; have := hs.size; omega, (h.lR R e).2.2⟩, h.xH, h.xA, h.xG⟩
  · rcases e with e | e
    · have := h.lX; omega
    · have := (h.lR _ e).1; omega
  · rintro (e | e)
    · exact h.xH e.symm
    · exact (h.lR _ e).2.2.1 rfl
  · rintro (e | e)
    · exact h.xA e.symm
    · exact (h.lR _ e).2.2.2.1 rfl
  · rintro (e | e)
    · exact h.xG e.symm
    · exact (h.lR _ e).2.2.2.2 rfl
/-- A block of the law's own, behind both, lies on. -/
theorem apart (h : Both w W H A G X va n cap N a b c d f k i x y o f2 k2 i2 x2 y2 o2) {B : Nat} (hB : W.heap.size ≤ B) : ¬ AllS H G X va B := by
  rintro (e | e | e | e)
  · have := h.hand.lt; omega
  · have := h.hand.ar.row.lt; omega
  · have := h.ref.lt; omega
  · have := (h.lR _ e).2.1; omega
end Both
theorem both_load {w : World} {H A G X : Nat} {va : Option Addr} {n cap N : Nat} {a b c d : Int} {f : Nat → Int} (hu : ∀ j, U64 (f j)) (k0 i0 x0 y0 o0 : Int) (i : Int) :
    ∃ (f' : Nat → Int) (k' i' x' y' o' : Int) (v : Int), (∀ j, U64 (f' j)) ∧
      (∀ W, Both w W H A G X va n cap N a b c d f k0 i0 x0 y0 o0 f k0 i0 x0 y0 o0 → Calls Tryd.prog 44 #[.pointer (some ⟨H, 0, none⟩), .int .i64 i] W fun e V => e = .returned (.int .u64 v) ∧ Both w V H A G X va n cap N a b c d f' k' i' x' y' o' f k0 i0 x0 y0 o0 ∧ Sav (AllS H G X va) W V) ∧
      (∀ W, Both w W H A G X va n cap N a b c d f' k' i' x' y' o' f k0 i0 x0 y0 o0 → Calls Tryd.prog 27 #[.pointer (some ⟨X, 0, none⟩), .int .i64 i] W fun e V => e = .returned (.int .u64 v) ∧ Both w V H A G X va n cap N a b c d f' k' i' x' y' o' f' k' i' x' y' o' ∧ Sav (AllS H G X va) W V) :=
  ⟨wordsQ n f 1 i 0 0, z5 n 1 i 1, z5 n 1 i i, z5 n 1 i 0, z5 n 1 i 0, z5 n 1 i (f i.toNat), z5 n 1 i (f i.toNat), wordsQ_u64 hu 1 i u64_zero u64_zero,
    fun _ hB => (hLoad_c hB.hand hu i).mono fun _ _ ⟨h1, h2, h3⟩ => ⟨h1, hB.act h3 h2, h3.mono (fun _ e => e.elim .inl (fun e => .inr (.inl e)))⟩,
    fun _ hB => (rLoad_c hB.ref hB.ltR i).mono fun _ _ ⟨h1, h2, h3⟩ => ⟨h1, hB.doc h3 h2, h3.mono (fun _ e => e.elim (fun e => .inr (.inr (.inl e))) (fun e => .inr (.inr (.inr e))))⟩⟩
theorem both_store {w : World} {H A G X : Nat} {va : Option Addr} {n cap N : Nat} {a b c d : Int} {f : Nat → Int} (hu : ∀ j, U64 (f j)) (k0 i0 x0 y0 o0 : Int) (i x : Int) (hx : U64 x) :
    ∃ (f' : Nat → Int) (k' i' x' y' o' : Int), (∀ j, U64 (f' j)) ∧
      (∀ W, Both w W H A G X va n cap N a b c d f k0 i0 x0 y0 o0 f k0 i0 x0 y0 o0 → Calls Tryd.prog 16 #[.pointer (some ⟨H, 0, none⟩), .int .i64 i, .int .u64 x] W fun e V => e = .returned (.tuple #[]) ∧ Both w V H A G X va n cap N a b c d f' k' i' x' y' o' f k0 i0 x0 y0 o0 ∧ Sav (AllS H G X va) W V) ∧
      (∀ W, Both w W H A G X va n cap N a b c d f' k' i' x' y' o' f k0 i0 x0 y0 o0 → Calls Tryd.prog 29 #[.pointer (some ⟨X, 0, none⟩), .int .i64 i, .int .u64 x] W fun e V => e = .returned (.tuple #[]) ∧ Both w V H A G X va n cap N a b c d f' k' i' x' y' o' f' k' i' x' y' o' ∧ Sav (AllS H G X va) W V) :=
  ⟨wordsQ n f 2 i x 0, z5 n 2 i 2, z5 n 2 i i, z5 n 2 i x, z5 n 2 i 0, z5 n 2 i (f i.toNat), wordsQ_u64 hu 2 i hx u64_zero,
    fun _ hB => (hStore_c hB.hand hu i x).mono fun _ _ ⟨h1, h2, h3⟩ => ⟨h1, hB.act h3 h2, h3.mono (fun _ e => e.elim .inl (fun e => .inr (.inl e)))⟩,
    fun _ hB => (rStore_c hB.ref hB.ltR i x).mono fun _ _ ⟨h1, h2, h3⟩ => ⟨h1, hB.doc h3 h2, h3.mono (fun _ e => e.elim (fun e => .inr (.inr (.inl e))) (fun e => .inr (.inr (.inr e))))⟩⟩
end Go.Proofs.YtganbjgkobmdkaaDoor
