/- Laid together: Mut, HandBoth, Mem, Spots, ColPure. -/
import Derived.Test.YthdcapkchjamoaaGreatDoorM4
import Derived.Test.YthdcapkchjamoaaGreatDoorM5
import Derived.Test.YthdcapkchjamoaaGreatDoorHandNew
/- How far a mutator is, as a value and as cells, beside a hand and the document's. -/
namespace Go.Proofs.YthdcapkchjamoaaGreatDoor
open Go Go.RowKit
set_option maxRecDepth 100000
attribute [local go_sem ↓] Go.wp_at_zero Go.wp_at_succ

theorem HandAt.setOther {w : World} {H A G n : Nat} {f : Nat → Int} {a b c d k i x y o : Int} (h : HandAt w H A G n f a b c d k i x y o) {p : Addr} (h0 : p.block ≠ H) (h1 : p.block ≠ A) (h2 : p.block ≠ G) (v : Value) : HandAt (w.setCell p v) H A G n f a b c d k i x y o :=
  h.other (Below.heap_setCell _ _ _ _ h0.symm) (Below.heap_setCell _ _ _ _ h1.symm) (Below.heap_setCell _ _ _ _ h2.symm)
/-- What a step answers. -/
def StPost (w : World) (H A G n : Nat) (f' : Nat → Int) (a b c d k i x y o : Int) (v : Value) (e : Ending) (w' : World) : Prop :=
  e = .returned v ∧ HandAt w' H A G n f' a b c d k i x y o ∧ Sav (HG H G) w w'
theorem sR {X : Nat} {va : Option Addr} {B : Nat} (h1 : B ≠ X) (h2 : ∀ R, va = some ⟨R, 0, none⟩ → R ≠ B) : ¬ RS X va B := by
  rintro (e | e)
  · exact h1 e
  · exact h2 B e rfl
theorem fst_u64 {a b c d : Int} (hr : Right a b c d) (j : Nat) : U64 (fstV a b c d j) := by
  unfold fstV
  by_cases h : (spotF b c d j).1 = 5 ∧ (spotF b c d j).2.1 + 1 < a
  · rw [if_pos h]
    have h0 := spot_five_pos hr j h.1
    have h1 := h.2
    unfold Right at hr
    unfold U64
    omega
  · rw [if_neg h]
    by_cases h2 : (spotF b c d j).1 = 0 ∧ (spotF b c d j).2.1 = 0
    · rw [if_pos h2]; unfold U64; omega
    · rw [if_neg h2]; unfold U64; omega
theorem right0 : Right 2 1 1 0 := by unfold Right; omega
/-- A hand's blocks lie behind what was there. -/
theorem Sav.old {H G : Nat} {w W V : World} (h : Sav (HG H G) W V) (hb : Below w.heap.size w W) (h1 : w.heap.size ≤ H) (h2 : w.heap.size ≤ G) : Below w.heap.size w V :=
  hb.trans (h.below hb.size (fun k hk e => by rcases e with e | e <;> omega))
end Go.Proofs.YthdcapkchjamoaaGreatDoor
/- A hand and the document's hand side by side: what is done to the one leaves the other alone; each call of both. Acts, as they are handed in. -/
namespace Go.Proofs.YthdcapkchjamoaaGreatDoor
open Go Go.RowKit
set_option maxRecDepth 100000

/-- The numbers of an act. -/
structure ActN where
  k : Int
  i : Int
  x : Int
  y : Int
/-- The four cells of an act. -/
def ActAt (w : World) (b off : Nat) (q : ActN) : Prop :=
  w.cell? ⟨b, off, none⟩ = some (.int .i64 q.k) ∧ w.cell? ⟨b, off + 1, none⟩ = some (.int .i64 q.i) ∧ w.cell? ⟨b, off + 2, none⟩ = some (.int .u64 q.x) ∧ w.cell? ⟨b, off + 3, none⟩ = some (.int .u64 q.y)
theorem ActAt.other {w w' : World} {b off : Nat} {q : ActN} (h : ActAt w b off q) (e : w'.heap[b]? = w.heap[b]?) : ActAt w' b off q := by
  have key : ∀ z, w'.cell? ⟨b, z, none⟩ = w.cell? ⟨b, z, none⟩ := fun z => World.cell?_of_block (w := w) (a := ⟨b, z, none⟩) e
  exact ⟨(key _).trans h.1, (key _).trans h.2.1, (key _).trans h.2.2.1, (key _).trans h.2.2.2⟩
theorem ActAt.of {w : World} {B : Nat} {t : TypeId} {k i x y : Int} (h : w.heap[B]? = some (.cells #[.int .i64 k, .int .i64 i, .int .u64 x, .int .u64 y] t (0, 0))) : ActAt w B 0 ⟨k, i, x, y⟩ :=
  ⟨by simp [World.cell?, h], by simp [World.cell?, h], by simp [World.cell?, h], by simp [World.cell?, h]⟩
/-- What a slice value of acts holds, in a world. -/
def ActsAt (w : World) (a : Option Addr) (n : Nat) (g : Nat → ActN) : Prop :=
  n = 0 ∨ ∃ b off, a = some ⟨b, off, none⟩ ∧ b < w.heap.size ∧ ∀ j, j < n → ActAt w b (off + j * 4) (g j)
theorem ActsAt.below {w w' : World} {a : Option Addr} {n : Nat} {g : Nat → ActN} (h : ActsAt w a n g) (hb : Below w.heap.size w w') : ActsAt w' a n g := by
  rcases h with h | ⟨b, off, h1, h2, h3⟩
  · exact .inl h
  · exact .inr ⟨b, off, h1, by have := hb.size; omega, fun j hj => (h3 j hj).other (hb.block b h2)⟩
theorem ActsAt.at' {w : World} {a : Option Addr} {n : Nat} {g : Nat → ActN} (h : ActsAt w a n g) {j : Nat} (hj : j < n) : ∃ b off, a = some ⟨b, off, none⟩ ∧ b < w.heap.size ∧ ActAt w b (off + j * 4) (g j) := by
  rcases h with h | ⟨b, off, h1, h2, h3⟩
  · omega
  · exact ⟨b, off, h1, h2, h3 j hj⟩
/-- Words that were handed in. -/
def Given (W : World) (a : Option Addr) (n cap : Nat) (f : Nat → Int) : Prop := n ≤ 9223372036854775807 ∧ WordsAt W a n f ∧ (∀ j, U64 (f j)) ∧ (a = none → n = 0 ∧ cap = 0)
/-- Acts that were handed in. -/
def GivenActs (W : World) (a : Option Addr) (n : Nat) (g : Nat → ActN) : Prop := n ≤ 9223372036854775807 ∧ ActsAt W a n g ∧ ∀ j, j < n → U64 (g j).x ∧ U64 (g j).y
theorem upd_u64 {f : Nat → Int} (hf : ∀ j, U64 (f j)) (j : Nat) {z : Int} (hz : U64 z) (i : Nat) : U64 (upd f j z i) := by
  unfold upd
  by_cases e : i = j
  · rw [if_pos e]; exact hz
  · rw [if_neg e]; exact hf i
theorem wordsQ_u64 {n : Nat} {f : Nat → Int} (hf : ∀ j, U64 (f j)) (k i : Int) {x y : Int} (hx : U64 x) (hy : U64 y) (j : Nat) : U64 (wordsQ n f k i x y j) := by
  unfold wordsQ
  by_cases h : okD n k i
  · rw [if_pos h]; unfold doF
    by_cases h2 : k = 2
    · rw [if_pos h2]; exact upd_u64 hf _ hx j
    · rw [if_neg h2]
      by_cases h3 : k = 3
      · rw [if_pos h3]
        by_cases e : f i.toNat = x
        · rw [if_pos e]; exact upd_u64 hf _ hy j
        · rw [if_neg e]; exact hf j
      · rw [if_neg h3]
        by_cases h4 : k = 4
        · rw [if_pos h4]; exact upd_u64 hf _ (sumW_u64 _ _) j
        · rw [if_neg h4]; exact hf j
  · rw [if_neg h]; exact hf j
theorem u64_zero : U64 0 := by unfold U64; omega
/-- What both may turn. -/
def AllS (H G X : Nat) (va : Option Addr) : Nat → Prop := fun k => k = H ∨ k = G ∨ k = X ∨ va = some ⟨k, 0, none⟩
/-- A hand, and the document's hand. -/
structure Both (w W : World) (H A G X : Nat) (va : Option Addr) (n cap N : Nat) (a b c d : Int) (f : Nat → Int) (k i x y o : Int) (f2 : Nat → Int) (k2 i2 x2 y2 o2 : Int) : Prop where
  old : Below w.heap.size w W
  hand : HandAt W H A G n f a b c d k i x y o
  ref : RHandAt W X va n cap N f2 a b c d k2 i2 x2 y2 o2
  lH : w.heap.size ≤ H
  lG : w.heap.size ≤ G
  lX : w.heap.size ≤ X
  lR : ∀ R, va = some ⟨R, 0, none⟩ → w.heap.size ≤ R ∧ R < W.heap.size ∧ R ≠ H ∧ R ≠ A ∧ R ≠ G
  xH : X ≠ H
  xA : X ≠ A
  xG : X ≠ G
namespace Both
variable {w W V : World} {H A G X : Nat} {va : Option Addr} {n cap N : Nat} {a b c d : Int} {f f' f2 : Nat → Int} {k i x y o k2 i2 x2 y2 o2 k' i' x' y' o' : Int}
theorem below (h : Both w W H A G X va n cap N a b c d f k i x y o f2 k2 i2 x2 y2 o2) (hb : Below W.heap.size W V) : Both w V H A G X va n cap N a b c d f k i x y o f2 k2 i2 x2 y2 o2 :=
  ⟨belowOn h.old hb, h.hand.below hb, h.ref.below hb, h.lH, h.lG, h.lX, fun R e => ⟨(h.lR R e).1, by have := (h.lR R e).2.1; have := hb.size; omega, (h.lR R e).2.2⟩, h.xH, h.xA, h.xG⟩
theorem drew (h : Both w W H A G X va n cap N a b c d f k i x y o f2 k2 i2 x2 y2 o2) : Both w W.drew H A G X va n cap N a b c d f k i x y o f2 k2 i2 x2 y2 o2 :=
  ⟨h.old.drew, h.hand.drew, h.ref.drew, h.lH, h.lG, h.lX, h.lR, h.xH, h.xA, h.xG⟩
theorem ltR (h : Both w W H A G X va n cap N a b c d f k i x y o f2 k2 i2 x2 y2 o2) : ∀ R, va = some ⟨R, 0, none⟩ → R < W.heap.size := fun R e => (h.lR R e).2.1
/-- What is done to the hand leaves the document's alone. -/
theorem act (h : Both w W H A G X va n cap N a b c d f k i x y o f2 k2 i2 x2 y2 o2) (hs : Sav (HG H G) W V) (hH : HandAt V H A G n f' a b c d k' i' x' y' o') : Both w V H A G X va n cap N a b c d f' k' i' x' y' o' f2 k2 i2 x2 y2 o2 := by
  refine ⟨h.old.trans (hs.below h.old.size (fun k hk e => ?_)), hH, ⟨h.ref.nL, (hs.block X h.ref.lt ?_).trans h.ref.box, h.ref.mine.other (fun R e hR => hs.block R hR ?_)⟩, h.lH, h.lG, h.lX, fun R e => ⟨(h.lR R e).1, by have := (h.lR R e).2.1; have := hs.size; omega, (h.lR R e).2.2⟩, h.xH, h.xA, h.xG⟩
  · rcases e with e | e
    · have := h.lH; omega
    · have := h.lG; omega
  · rintro (e | e)
    · exact h.xH e
    · exact h.xG e
  · rintro (e' | e')
    · exact (h.lR R e).2.2.1 e'
    · exact (h.lR R e).2.2.2.2 e'
/-- What is done to the document's leaves the hand alone. -/
theorem doc (h : Both w W H A G X va n cap N a b c d f k i x y o f2 k2 i2 x2 y2 o2) (hs : Sav (RS X va) W V) (hH : RHandAt V X va n cap N f' a b c d k' i' x' y' o') : Both w V H A G X va n cap N a b c d f k i x y o f' k' i' x' y' o' := by
  refine ⟨h.old.trans (hs.below h.old.size (fun k hk e => ?_)), h.hand.other (hs.block H h.hand.lt ?_) (hs.block A h.hand.ar.lt ?_) (hs.block G h.hand.ar.row.lt ?_), hH, h.lH, h.lG, h.lX, fun R e => ⟨(h.lR R e).1, by have := (h.lR R e).2.1; have := hs.size; omega, (h.lR R e).2.2⟩, h.xH, h.xA, h.xG⟩
  · rcases e with e | e
    · have := h.lX; omega
    · have := (h.lR _ e).1; omega
  · rintro (e | e)
    · exact h.xH e.symm
    · exact (h.lR _ e).2.2.1 rfl
  · rintro (e | e)
    · exact h.xA e.symm
    · exact (h.lR _ e).2.2.2.1 rfl
  · rintro (e | e)
    · exact h.xG e.symm
    · exact (h.lR _ e).2.2.2.2 rfl
/-- A block of the law's own, behind both, lies on. -/
theorem apart (h : Both w W H A G X va n cap N a b c d f k i x y o f2 k2 i2 x2 y2 o2) {B : Nat} (hB : W.heap.size ≤ B) : ¬ AllS H G X va B := by
  rintro (e | e | e | e)
  · have := h.hand.lt; omega
  · have := h.hand.ar.row.lt; omega
  · have := h.ref.lt; omega
  · have := (h.lR _ e).2.1; omega
end Both
theorem both_load {w : World} {H A G X : Nat} {va : Option Addr} {n cap N : Nat} {a b c d : Int} {f : Nat → Int} (hu : ∀ j, U64 (f j)) (k0 i0 x0 y0 o0 : Int) (i : Int) :
    ∃ (f' : Nat → Int) (k' i' x' y' o' : Int) (v : Int), (∀ j, U64 (f' j)) ∧
      (∀ W, Both w W H A G X va n cap N a b c d f k0 i0 x0 y0 o0 f k0 i0 x0 y0 o0 → Calls Tryz.prog 11 #[.pointer (some ⟨H, 0, none⟩), .int .i64 i] W fun e V => e = .returned (.int .u64 v) ∧ Both w V H A G X va n cap N a b c d f' k' i' x' y' o' f k0 i0 x0 y0 o0 ∧ Sav (AllS H G X va) W V) ∧
      (∀ W, Both w W H A G X va n cap N a b c d f' k' i' x' y' o' f k0 i0 x0 y0 o0 → Calls Tryz.prog 48 #[.pointer (some ⟨X, 0, none⟩), .int .i64 i] W fun e V => e = .returned (.int .u64 v) ∧ Both w V H A G X va n cap N a b c d f' k' i' x' y' o' f' k' i' x' y' o' ∧ Sav (AllS H G X va) W V) :=
  ⟨wordsQ n f 1 i 0 0, z5 n 1 i 1, z5 n 1 i i, z5 n 1 i 0, z5 n 1 i 0, z5 n 1 i (f i.toNat), z5 n 1 i (f i.toNat), wordsQ_u64 hu 1 i u64_zero u64_zero,
    fun _ hB => (hLoad_c hB.hand hu i).mono fun _ _ ⟨h1, h2, h3⟩ => ⟨h1, hB.act h3 h2, h3.mono (fun _ e => e.elim .inl (fun e => .inr (.inl e)))⟩,
    fun _ hB => (rLoad_c hB.ref hB.ltR i).mono fun _ _ ⟨h1, h2, h3⟩ => ⟨h1, hB.doc h3 h2, h3.mono (fun _ e => e.elim (fun e => .inr (.inr (.inl e))) (fun e => .inr (.inr (.inr e))))⟩⟩
theorem both_store {w : World} {H A G X : Nat} {va : Option Addr} {n cap N : Nat} {a b c d : Int} {f : Nat → Int} (hu : ∀ j, U64 (f j)) (k0 i0 x0 y0 o0 : Int) (i x : Int) (hx : U64 x) :
    ∃ (f' : Nat → Int) (k' i' x' y' o' : Int), (∀ j, U64 (f' j)) ∧
      (∀ W, Both w W H A G X va n cap N a b c d f k0 i0 x0 y0 o0 f k0 i0 x0 y0 o0 → Calls Tryz.prog 76 #[.pointer (some ⟨H, 0, none⟩), .int .i64 i, .int .u64 x] W fun e V => e = .returned (.tuple #[]) ∧ Both w V H A G X va n cap N a b c d f' k' i' x' y' o' f k0 i0 x0 y0 o0 ∧ Sav (AllS H G X va) W V) ∧
      (∀ W, Both w W H A G X va n cap N a b c d f' k' i' x' y' o' f k0 i0 x0 y0 o0 → Calls Tryz.prog 53 #[.pointer (some ⟨X, 0, none⟩), .int .i64 i, .int .u64 x] W fun e V => e = .returned (.tuple #[]) ∧ Both w V H A G X va n cap N a b c d f' k' i' x' y' o' f' k' i' x' y' o' ∧ Sav (AllS H G X va) W V) :=
  ⟨wordsQ n f 2 i x 0, z5 n 2 i 2, z5 n 2 i i, z5 n 2 i x, z5 n 2 i 0, z5 n 2 i (f i.toNat), wordsQ_u64 hu 2 i hx u64_zero,
    fun _ hB => (hStore_c hB.hand hu i x).mono fun _ _ ⟨h1, h2, h3⟩ => ⟨h1, hB.act h3 h2, h3.mono (fun _ e => e.elim .inl (fun e => .inr (.inl e)))⟩,
    fun _ hB => (rStore_c hB.ref hB.ltR i x).mono fun _ _ ⟨h1, h2, h3⟩ => ⟨h1, hB.doc h3 h2, h3.mono (fun _ e => e.elim (fun e => .inr (.inr (.inl e))) (fun e => .inr (.inr (.inr e))))⟩⟩
theorem both_cas {w : World} {H A G X : Nat} {va : Option Addr} {n cap N : Nat} {a b c d : Int} {f : Nat → Int} (hu : ∀ j, U64 (f j)) (k0 i0 x0 y0 o0 : Int) (i x y : Int) (hx : U64 x) (hy : U64 y) :
    ∃ (f' : Nat → Int) (k' i' x' y' o' : Int) (v : Bool), (∀ j, U64 (f' j)) ∧
      (∀ W, Both w W H A G X va n cap N a b c d f k0 i0 x0 y0 o0 f k0 i0 x0 y0 o0 → Calls Tryz.prog 72 #[.pointer (some ⟨H, 0, none⟩), .int .i64 i, .int .u64 x, .int .u64 y] W fun e V => e = .returned (.bool v) ∧ Both w V H A G X va n cap N a b c d f' k' i' x' y' o' f k0 i0 x0 y0 o0 ∧ Sav (AllS H G X va) W V) ∧
      (∀ W, Both w W H A G X va n cap N a b c d f' k' i' x' y' o' f k0 i0 x0 y0 o0 → Calls Tryz.prog 51 #[.pointer (some ⟨X, 0, none⟩), .int .i64 i, .int .u64 x, .int .u64 y] W fun e V => e = .returned (.bool v) ∧ Both w V H A G X va n cap N a b c d f' k' i' x' y' o' f' k' i' x' y' o' ∧ Sav (AllS H G X va) W V) :=
  ⟨wordsQ n f 3 i x y, z5 n 3 i 3, z5 n 3 i i, z5 n 3 i x, z5 n 3 i y, z5 n 3 i (f i.toNat), casB n f i x, wordsQ_u64 hu 3 i hx hy,
    fun _ hB => (hCas_c hB.hand hu i x y).mono fun _ _ ⟨h1, h2, h3⟩ => ⟨h1, hB.act h3 h2, h3.mono (fun _ e => e.elim .inl (fun e => .inr (.inl e)))⟩,
    fun _ hB => (rCas_c hB.ref hB.ltR i x y).mono fun _ _ ⟨h1, h2, h3⟩ => ⟨h1, hB.doc h3 h2, h3.mono (fun _ e => e.elim (fun e => .inr (.inr (.inl e))) (fun e => .inr (.inr (.inr e))))⟩⟩
end Go.Proofs.YthdcapkchjamoaaGreatDoor
/- What a hand holds, and how far a mutator is, as one thing each; blocks beside them. -/
namespace Go.Proofs.YthdcapkchjamoaaGreatDoor
open Go Go.RowKit
set_option maxRecDepth 100000
attribute [local go_sem ↓] Go.wp_at_zero Go.wp_at_succ

/-- The number of words, and the numbers of a map. -/
structure Cf where
  n : Nat
  a : Int
  b : Int
  c : Int
  d : Int
/-- All words, and the access that was noted. -/
structure Dy where
  f : Nat → Int
  k : Int
  i : Int
  x : Int
  y : Int
  o : Int
/-- All words are words. -/
def Dy.U (s : Dy) : Prop := ∀ j, U64 (s.f j)
/-- An access is done, and noted. -/
def Dy.act (C : Cf) (s : Dy) (k i x y : Int) : Dy := ⟨wordsQ C.n s.f k i x y, z5 C.n k i k, z5 C.n k i i, z5 C.n k i x, z5 C.n k i y, z5 C.n k i (s.f i.toNat)⟩
theorem Dy.U.act {s : Dy} (h : s.U) (C : Cf) (k i : Int) {x y : Int} (hx : U64 x) (hy : U64 y) : (s.act C k i x y).U := fun j => wordsQ_u64 h k i hx hy j
/-- A hand with these words; the document's hand. -/
abbrev HAt (w : World) (H A G : Nat) (C : Cf) (s : Dy) : Prop := HandAt w H A G C.n s.f C.a C.b C.c C.d s.k s.i s.x s.y s.o
abbrev RAt (w : World) (X : Nat) (va : Option Addr) (cap N : Nat) (C : Cf) (s : Dy) : Prop := RHandAt w X va C.n cap N s.f C.a C.b C.c C.d s.k s.i s.x s.y s.o
/-- What a call of a hand, or of the document's, answers. -/
def HP (w : World) (H A G : Nat) (C : Cf) (s : Dy) (v : Value) (e : Ending) (w' : World) : Prop := e = .returned v ∧ HAt w' H A G C s ∧ Sav (HG H G) w w'
def RP (w : World) (X : Nat) (va : Option Addr) (cap N : Nat) (C : Cf) (s : Dy) (v : Value) (e : Ending) (w' : World) : Prop := e = .returned v ∧ RAt w' X va cap N C s ∧ Sav (RS X va) w w'
/-- How far a mutator is. -/
structure Mu where
  l : Int
  q1 : Int
  q2 : Int
  q3 : Int
  q4 : Int
  m1 : Int
  m2 : Int
  m3 : Int
  m4 : Int
  m5 : Int
  p : Int
  bk : Int
  rt : Int
abbrev Mu.v (m : Mu) : Value := .agg #[.int .i64 m.l, .int .i64 m.q1, .int .i64 m.q2, .int .i64 m.q3, .int .i64 m.q4, .int .u64 m.m1, .int .u64 m.m2, .int .u64 m.m3, .int .u64 m.m4, .int .u64 m.m5, .int .u64 m.p, .int .i64 m.bk, .int .i64 m.rt]
/-- Its words are words. -/
def Mu.U (m : Mu) : Prop := U64 m.m1 ∧ U64 m.m2 ∧ U64 m.m3 ∧ U64 m.m4 ∧ U64 m.m5 ∧ U64 m.p
theorem RHandAt.setOther {w : World} {X : Nat} {va : Option Addr} {n cap N : Nat} {f : Nat → Int} {a b c d k i x y o : Int} (h : RHandAt w X va n cap N f a b c d k i x y o) {p : Addr} (h0 : p.block ≠ X) (h1 : ∀ R, va = some ⟨R, 0, none⟩ → R ≠ p.block) (v : Value) : RHandAt (w.setCell p v) X va n cap N f a b c d k i x y o :=
  h.other (Below.heap_setCell _ _ _ _ h0.symm) (fun R e _ => Below.heap_setCell _ _ _ _ (h1 R e))
end Go.Proofs.YthdcapkchjamoaaGreatDoor
/- Places and what lies there; what an access does to words; a configuration that fits the number of words. -/
namespace Go.Proofs.YthdcapkchjamoaaGreatDoor
open Go Go.RowKit
set_option maxRecDepth 100000

theorem words_load (n : Nat) (f : Nat → Int) (i : Int) : wordsQ n f 1 i 0 0 = f := by
  unfold wordsQ
  by_cases h : okD n 1 i
  · rw [if_pos h]; rfl
  · rw [if_neg h]
theorem words_store (n : Nat) (f : Nat → Int) (i x : Int) (h : 0 ≤ i ∧ i < n) : wordsQ n f 2 i x 0 = upd f i.toNat x := by
  unfold wordsQ
  rw [if_pos (show okD n 2 i from ⟨by omega, by omega, h.1, h.2⟩)]; rfl
theorem z5_in {n : Nat} {k i : Int} (v : Int) (hk : 1 ≤ k ∧ k ≤ 4) (h : 0 ≤ i ∧ i < n) : z5 n k i v = v := by
  unfold z5
  rw [if_pos (show okD n k i from ⟨hk.1, hk.2, h.1, h.2⟩)]
theorem field_cell {a b c d : Int} {i : Nat} (hi : i < 4096) (p : Int) (hp : 0 ≤ p ∧ p ≤ 2) : fieldP a b c d (2 * i + 1) p = partP a b c d p (i : Int) := by
  unfold fieldP
  rw [if_pos ⟨⟨by omega, by omega⟩, hp⟩, show (2 * i + 1) / 2 = i by omega]
theorem cell_isC {i : Nat} (h : i < 4096) : isC (2 * i + 1) := ⟨by omega, by omega⟩
/-- Where the configuration's numbers fit the number of words. -/
structure CfOK (C : Cf) : Prop where
  right : Right C.a C.b C.c C.d
  size : (C.n : Int) = 5 + C.b + C.d + C.b * C.c + 3 * C.a
theorem CfOK.pos {C : Cf} (h : CfOK C) : 0 < C.n := by have := h.right.prod; have h1 := h.right; have h2 := h.size; unfold Right at h1; omega
theorem CfOK.a4 {C : Cf} (h : CfOK C) : 2 ≤ C.a ∧ C.a ≤ 4096 ∧ 1 ≤ C.b ∧ 1 ≤ C.c ∧ 0 ≤ C.d := by have := h.right; unfold Right at this; omega
theorem CfOK.four {C : Cf} (h : CfOK C) : 4 < C.n := by have := h.right.prod; have h1 := h.right; have h2 := h.size; unfold Right at h1; omega
theorem sp_reg {C : Cf} (h : CfOK C) {i r : Int} (h0 : 0 ≤ i) (h1 : i < C.b) (h2 : 0 ≤ r) (h3 : r < C.c) : spotF C.b C.c C.d ((regP C.a C.b C.c C.d i r).toNat : Int) = (3, i, r) ∧ 0 ≤ regP C.a C.b C.c C.d i r ∧ regP C.a C.b C.c C.d i r < C.n := by
  have hr := h.right
  have hp := prod_lt hr h0 h1 h2 h3
  have hs := h.size
  rw [regP_in hr i r h0 h1 h2 h3]
  have hq := hr
  unfold Right at hq
  exact ⟨spot_reg hr h0 h1 h2 h3 (by omega), by omega, by omega⟩
theorem sp_glob {C : Cf} (h : CfOK C) {i : Int} (h0 : 0 ≤ i) (h1 : i < C.d) : spotF C.b C.c C.d ((globP C.a C.b C.c C.d i).toNat : Int) = (2, i, 0) ∧ 0 ≤ globP C.a C.b C.c C.d i ∧ globP C.a C.b C.c C.d i < C.n := by
  have hr := h.right
  have hp := hr.prod
  have hs := h.size
  rw [globP_in hr i h0 h1]
  unfold Right at hr
  refine ⟨?_, by omega, by omega⟩
  rw [spot_glob (by omega) (by omega) (by omega), show ((5 + C.b + i).toNat : Int) - (5 + C.b) = i by omega]
theorem sp_part {C : Cf} (h : CfOK C) {k i : Int} (h0 : 0 ≤ i) (h1 : i < C.a) (h2 : 0 ≤ k) (h3 : k < 3) : spotF C.b C.c C.d ((partP C.a C.b C.c C.d k i).toNat : Int) = (4 + k, i, 0) ∧ 0 ≤ partP C.a C.b C.c C.d k i ∧ partP C.a C.b C.c C.d k i < C.n := by
  have hr := h.right
  have hp := hr.prod
  have hs := h.size
  rw [partP_in hr k i h0 h1]
  have hq := hr
  unfold Right at hq
  exact ⟨spot_cell hr h0 h2 h3 (by omega), by omega, by omega⟩
theorem sp_once (b c d : Int) {j : Nat} (h : j < 5) : spotF b c d (j : Int) = (0, (j : Int), 0) := spot_once (by omega)
theorem upd_spot {b c d : Int} {f : Nat → Int} {p j : Nat} {w : Int} (h : spotF b c d j ≠ spotF b c d p) : upd f p w j = f j := by
  unfold upd
  rw [if_neg (fun e => h (by rw [e]))]
theorem upd_at (f : Nat → Int) (p : Nat) (w : Int) : upd f p w p = w := by unfold upd; rw [if_pos rfl]
/-- The words, and no access. -/
def Dy.clr (s : Dy) : Dy := ⟨s.f, 0, 0, 0, 0, 0⟩
/-- What is loaded at a place. -/
def ldP (C : Cf) (s : Dy) (P : Int) : Int := z5 C.n 1 P (s.f P.toNat)
end Go.Proofs.YthdcapkchjamoaaGreatDoor
/- How far the collector is, as one structure; a step of the layers 15 to 19, each as one function, without memory. -/
namespace Go.Proofs.YthdcapkchjamoaaGreatDoor
open Go Go.RowKit
set_option maxRecDepth 100000

/-- How far the collector is. -/
structure Co where
  l : Int
  j : Int
  c : Int
  m : Int
  a : Int
  p : Int
  fd : Bool
  tl : Int
  cy : Int
/-- Its words are words. -/
def Co.U (x : Co) : Prop := U64 x.a ∧ U64 x.p
/-- How many roots there are. -/
def rootsN (C : Cf) : Int := 1 + C.d + C.b * C.c
/-- The next root. -/
def nextRoot (C : Cf) (x : Co) : Co := { x with p := 0, j := x.j + 1, l := if x.j + 1 < rootsN C then 1 else 3 }
/-- A step of layer 15. -/
def rootS (C : Cf) (s : Dy) (x : Co) : Dy × Co × Bool :=
  if x.l = 1 then (s.act C 1 (rootP C.a C.b C.c C.d x.j) 0 0, (if isC (ldP C s (rootP C.a C.b C.c C.d x.j)).toNat then { x with p := ldP C s (rootP C.a C.b C.c C.d x.j), l := 2 } else nextRoot C x), true)
  else if x.l = 2 then (s.act C 3 (fieldP C.a C.b C.c C.d x.p.toNat 2) 0 1, nextRoot C x, true)
  else (s, x, false)
/-- How many roots were shaded. -/
def scanN (x : Co) : Int := if x.l = 1 ∨ x.l = 2 then x.j else if 2 < x.l ∧ x.l < 17 then -1 else 0
/-- The next cell of a pass. -/
def nextCell (C : Cf) (x : Co) : Co := if x.c + 1 < C.a then { x with c := x.c + 1, l := 4 } else if x.fd then { x with c := x.c + 1, l := 3 } else { x with c := x.c + 1, m := 0, l := 10 }
/-- A step of layer 16. -/
def passS (C : Cf) (s : Dy) (x : Co) : Dy × Co × Bool :=
  if x.l = 3 then (s.act C 2 2 0 0, { x with c := 0, fd := false, l := 4 }, true)
  else if x.l = 4 then (s.act C 1 (partP C.a C.b C.c C.d 2 x.c) 0 0, (if ldP C s (partP C.a C.b C.c C.d 2 x.c) = 1 then { x with l := 5 } else nextCell C x), true)
  else if x.l = 5 then (s.act C 1 (partP C.a C.b C.c C.d 0 x.c) 0 0, { x with a := ldP C s (partP C.a C.b C.c C.d 0 x.c), l := if isC (ldP C s (partP C.a C.b C.c C.d 0 x.c)).toNat then 6 else 7 }, true)
  else if x.l = 6 then (s.act C 3 (fieldP C.a C.b C.c C.d x.a.toNat 2) 0 1, { x with l := 7 }, true)
  else if x.l = 7 then (s.act C 1 (partP C.a C.b C.c C.d 1 x.c) 0 0, { x with a := ldP C s (partP C.a C.b C.c C.d 1 x.c), l := if isC (ldP C s (partP C.a C.b C.c C.d 1 x.c)).toNat then 8 else 9 }, true)
  else if x.l = 8 then (s.act C 3 (fieldP C.a C.b C.c C.d x.a.toNat 2) 0 1, { x with l := 9 }, true)
  else if x.l = 9 then (s.act C 2 (partP C.a C.b C.c C.d 2 x.c) 2 0, nextCell C { x with a := 0, fd := true }, true)
  else (s, x, false)
/-- The next mutator. -/
def nextMut (C : Cf) (x : Co) (n k : Int) : Co := if x.m + 1 < C.b then { x with m := x.m + 1, l := n } else { x with m := 0, l := k }
/-- A step of layer 17: the flip, and whether it is a line of this layer. -/
def shutS (C : Cf) (s : Dy) (x : Co) : Dy × Co × Bool × Bool :=
  if x.l = 10 then (s.act C 1 (inP C.a C.b C.c C.d x.m) 0 0, (if ldP C s (inP C.a C.b C.c C.d x.m) % 4 = 1 ∨ ldP C s (inP C.a C.b C.c C.d x.m) % 4 = 3 then { x with a := ldP C s (inP C.a C.b C.c C.d x.m), l := 16 } else nextMut C { x with a := 0 } 10 11), false, true)
  else if x.l = 16 then (s.act C 1 (inP C.a C.b C.c C.d x.m) 0 0, (if ldP C s (inP C.a C.b C.c C.d x.m) = x.a ∨ ldP C s (inP C.a C.b C.c C.d x.m) % 4 = 3 then { x with a := ldP C s (inP C.a C.b C.c C.d x.m), l := 16 } else nextMut C { x with a := 0 } 10 11), false, true)
  else if x.l = 11 then (s.act C 2 1 1 0, { x with l := 12 }, false, true)
  else if x.l = 12 then (s.act C 1 (inP C.a C.b C.c C.d x.m) 0 0, (if ldP C s (inP C.a C.b C.c C.d x.m) % 4 = 1 ∨ ldP C s (inP C.a C.b C.c C.d x.m) % 4 = 2 then x else nextMut C x 12 13), false, true)
  else if x.l = 13 then (s.act C 1 2 0 0, (if ldP C s 2 = 0 then { x with l := 14 } else { x with l := 15 }), decide (ldP C s 2 = 0), true)
  else if x.l = 14 then (s.act C 2 1 0 0, { x with c := 0, l := 20 }, false, true)
  else if x.l = 15 then (s.act C 2 1 0 0, { x with l := 3 }, false, true)
  else (s, x, false, false)
/-- The next cell of a sweep, and whether the cycle is over. -/
def nextSwept (C : Cf) (x : Co) : Co := if x.c + 1 < C.a then { x with c := x.c + 1, l := 20 } else { x with c := x.c + 1, cy := x.cy + 1, l := 1, j := 0, p := 0 }
def cycN (C : Cf) (x : Co) : Int := if x.c + 1 < C.a then 0 else 3
/-- A cell's word. -/
def cellW (i : Int) : Int := if 0 ≤ i ∧ i < 4096 then 2 * i + 1 else 0
/-- A step of layer 18: what it was, and whether it is a line of this layer. -/
def sweepS (C : Cf) (s : Dy) (x : Co) : Dy × Co × Int × Bool :=
  if x.l = 20 then (s.act C 1 (partP C.a C.b C.c C.d 2 x.c) 0 0, (if ldP C s (partP C.a C.b C.c C.d 2 x.c) = 0 then { x with l := 21 } else if ldP C s (partP C.a C.b C.c C.d 2 x.c) = 2 then { x with l := 24 } else nextSwept C x),
    (if ldP C s (partP C.a C.b C.c C.d 2 x.c) = 0 then 0 else if ldP C s (partP C.a C.b C.c C.d 2 x.c) = 2 then 0 else cycN C x), true)
  else if x.l = 21 then (s.act C 2 (partP C.a C.b C.c C.d 0 x.c) 0 0, { x with l := 22 }, 0, true)
  else if x.l = 22 then (s.act C 2 (partP C.a C.b C.c C.d 1 x.c) 0 0, { x with l := 23 }, 0, true)
  else if x.l = 23 then (s.act C 2 (partP C.a C.b C.c C.d 1 x.tl) (cellW x.c) 0, nextSwept C { x with tl := x.c }, 2 + cycN C x, true)
  else if x.l = 24 then (s.act C 2 (partP C.a C.b C.c C.d 2 x.c) 0 0, nextSwept C x, cycN C x, true)
  else (s, x, 0, false)
/-- A step of layer 19, and what it was. -/
def colS (C : Cf) (s : Dy) (x : Co) : Dy × Co × Int :=
  if x.l = 1 ∨ x.l = 2 then ((rootS C s.clr x).1, (rootS C s.clr x).2.1, 0)
  else if 3 ≤ x.l ∧ x.l ≤ 9 then ((passS C s.clr x).1, (passS C s.clr x).2.1, 0)
  else if 10 ≤ x.l ∧ x.l ≤ 16 then ((shutS C s.clr x).1, (shutS C s.clr x).2.1, if (shutS C s.clr x).2.2.1 then 1 else 0)
  else ((sweepS C s.clr x).1, (sweepS C s.clr x).2.1, (sweepS C s.clr x).2.2.1)
end Go.Proofs.YthdcapkchjamoaaGreatDoor
