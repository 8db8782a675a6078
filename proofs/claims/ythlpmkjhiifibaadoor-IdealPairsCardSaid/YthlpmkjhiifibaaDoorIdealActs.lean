/- Acts as they are handed in; a store and the document's side by side: what is done to the one leaves the other alone; the document's Great. -/
import Derived.Test.YthlpmkjhiifibaaDoorIdealSame
namespace Go.Proofs.YthlpmkjhiifibaaDoor
open Go Go.RowKit
set_option maxRecDepth 100000
attribute [local go_sem ↓] Go.wp_at_zero Go.wp_at_succ

/-- What an act is. -/
structure ActN where
  m : Int
  k : Int
  x : Int
  y : Int
  z : Int
  full : Bool
/-- The six cells of an act. -/
def ActAt (w : World) (b off : Nat) (q : ActN) : Prop :=
  w.cell? ⟨b, off, none⟩ = some (.int .i64 q.m) ∧ w.cell? ⟨b, off + 1, none⟩ = some (.int .i64 q.k) ∧ w.cell? ⟨b, off + 2, none⟩ = some (.int .i64 q.x) ∧ w.cell? ⟨b, off + 3, none⟩ = some (.int .i64 q.y) ∧ w.cell? ⟨b, off + 4, none⟩ = some (.int .i64 q.z) ∧ w.cell? ⟨b, off + 5, none⟩ = some (.bool q.full)
theorem ActAt.other {w w' : World} {b off : Nat} {q : ActN} (h : ActAt w b off q) (e : w'.heap[b]? = w.heap[b]?) : ActAt w' b off q := by
  have key : ∀ z, w'.cell? ⟨b, z, none⟩ = w.cell? ⟨b, z, none⟩ := fun z => World.cell?_of_block (w := w) (a := ⟨b, z, none⟩) e
  exact ⟨(key _).trans h.1, (key _).trans h.2.1, (key _).trans h.2.2.1, (key _).trans h.2.2.2.1, (key _).trans h.2.2.2.2.1, (key _).trans h.2.2.2.2.2⟩
/-- What a slice value of acts holds, in a world. -/
def ActsAt (w : World) (a : Option Addr) (n : Nat) (g : Nat → ActN) : Prop :=
  n = 0 ∨ ∃ b off, a = some ⟨b, off, none⟩ ∧ b < w.heap.size ∧ ∀ j, j < n → ActAt w b (off + j * 6) (g j)
theorem ActsAt.below {w w' : World} {a : Option Addr} {n : Nat} {g : Nat → ActN} (h : ActsAt w a n g) (hb : Below w.heap.size w w') : ActsAt w' a n g := by
  rcases h with h | ⟨b, off, h1, h2, h3⟩
  · exact .inl h
  · exact .inr ⟨b, off, h1, by have := hb.size; omega, fun j hj => (h3 j hj).other (hb.block b h2)⟩
theorem ActsAt.at' {w : World} {a : Option Addr} {n : Nat} {g : Nat → ActN} (h : ActsAt w a n g) {j : Nat} (hj : j < n) : ∃ b off, a = some ⟨b, off, none⟩ ∧ b < w.heap.size ∧ ActAt w b (off + j * 6) (g j) := by
  rcases h with h | ⟨b, off, h1, h2, h3⟩
  · omega
  · exact ⟨b, off, h1, h2, h3 j hj⟩
/-- Acts that were handed in. -/
def GivenActs (W : World) (a : Option Addr) (n : Nat) (g : Nat → ActN) : Prop := n ≤ 9223372036854775807 ∧ ActsAt W a n g ∧ ∀ j, j < n → inI (g j).x ∧ inI (g j).y ∧ inI (g j).z
/-- A store, and the document's. -/
structure Pair (w W : World) (X R L : Nat) (v : Value) (Y : Nat) (u : Value) (b c d : Nat) (s s2 : St) (N : Nat) : Prop where
  old : Below w.heap.size w W
  st : StoreAt W X R L v b c d s
  doc : DocAt W Y u b c d s2 N
  fs : ∀ k, foot X R L v k → w.heap.size ≤ k
  fd : ∀ k, dfoot Y u k → w.heap.size ≤ k
  ap : ∀ k, foot X R L v k → ¬ dfoot Y u k
namespace Pair
variable {w W W' : World} {X R L : Nat} {v : Value} {Y : Nat} {u : Value} {b c d : Nat} {s s' s2 s2' : St} {N N' : Nat} {r : Int} {e : Ending} {a : Value}
theorem on (h : Pair w W X R L v Y u b c d s s2 N) (hb : Below W.heap.size W W') : Pair w W' X R L v Y u b c d s s2 N := ⟨belowOn h.old hb, h.st.below hb, h.doc.below hb, h.fs, h.fd, h.ap⟩
theorem act (h : Pair w W X R L v Y u b c d s s2 N) (hp : DoPost W X R L v b c d s' r e W') : e = .returned (.int .i64 r) ∧ ∃ v', Pair w W' X R L v' Y u b c d s' s2 N := by
  obtain ⟨v', he, hs', ho, hs⟩ := hp
  have hsz := h.old.size
  refine ⟨he, v', h.old.trans (hs.below h.old.size (fun k hk hf => by have := h.fs k hf; omega)), hs', h.doc.sav hs (fun k hk hf => h.ap k hf hk), ?_, h.fd, ?_⟩
  · rintro k (e | e | e | e)
    · exact h.fs k (.inl e)
    · exact h.fs k (.inr (.inl e))
    · exact h.fs k (.inr (.inr (.inl e)))
    · rcases ho k e with e | e
      · exact h.fs k (.inr (.inr (.inr e)))
      · omega
  · rintro k (e | e | e | e) hd
    · exact h.ap k (.inl e) hd
    · exact h.ap k (.inr (.inl e)) hd
    · exact h.ap k (.inr (.inr (.inl e))) hd
    · rcases ho k e with e | e
      · exact h.ap k (.inr (.inr (.inr e))) hd
      · have := h.doc.lt k hd; omega
theorem book (h : Pair w W X R L v Y u b c d s s2 N) (hp : PutPost W Y u b c d s2' N' a e W') : e = .returned a ∧ ∃ u', Pair w W' X R L v Y u' b c d s s2' N' := by
  obtain ⟨u', he, hs', ho, hs⟩ := hp
  have hsz := h.old.size
  refine ⟨he, u', h.old.trans (hs.below h.old.size (fun k hk hf => by have := h.fd k hf; omega)), h.st.sav hs (fun k hk hf => h.ap k hk hf), hs', h.fs, ?_, ?_⟩
  · rintro k (e | e)
    · exact h.fd k (.inl e)
    · rcases ho k e with e | e
      · exact h.fd k (.inr e)
      · omega
  · rintro k hk (e | e)
    · exact h.ap k hk (.inl e)
    · rcases ho k e with e | e
      · exact h.ap k hk (.inr e)
      · have := h.st.lt k hk; omega
end Pair
/-- More than is looked at. -/
def grt (a b c d : Int) : Prop := 30 < a ∨ 12 < b ∨ 8 < c ∨ 8 < d
theorem great_1 (a b c d : Int) (h1 : 30 < a) (w : World) :
    Calls Tryd.prog 8 #[.agg #[.int .i64 a, .int .i64 b, .int .i64 c, .int .i64 d]] w fun e w' => e = .returned (.bool true) ∧ Below w.heap.size w w' := by
  go_enter Tryd.func8, Tryd.ntmps8
  go_wp2
  go_ret
  exact ⟨rfl, below_new _ _⟩
theorem great_2 (a b c d : Int) (h1 : ¬ 30 < a) (h2 : 12 < b) (w : World) :
    Calls Tryd.prog 8 #[.agg #[.int .i64 a, .int .i64 b, .int .i64 c, .int .i64 d]] w fun e w' => e = .returned (.bool true) ∧ Below w.heap.size w w' := by
  go_enter Tryd.func8, Tryd.ntmps8
  go_wp2
  go_ret
  exact ⟨rfl, below_new _ _⟩
theorem great_3 (a b c d : Int) (h1 : ¬ 30 < a) (h2 : ¬ 12 < b) (h3 : 8 < c) (w : World) :
    Calls Tryd.prog 8 #[.agg #[.int .i64 a, .int .i64 b, .int .i64 c, .int .i64 d]] w fun e w' => e = .returned (.bool true) ∧ Below w.heap.size w w' := by
  go_enter Tryd.func8, Tryd.ntmps8
  go_wp2
  go_ret
  exact ⟨rfl, below_new _ _⟩
theorem great_4 (a b c d : Int) (h1 : ¬ 30 < a) (h2 : ¬ 12 < b) (h3 : ¬ 8 < c) (h4 : 8 < d) (w : World) :
    Calls Tryd.prog 8 #[.agg #[.int .i64 a, .int .i64 b, .int .i64 c, .int .i64 d]] w fun e w' => e = .returned (.bool true) ∧ Below w.heap.size w w' := by
  go_enter Tryd.func8, Tryd.ntmps8
  go_wp2
  go_ret
  exact ⟨rfl, below_new _ _⟩
theorem great_0 (a b c d : Int) (h1 : ¬ 30 < a) (h2 : ¬ 12 < b) (h3 : ¬ 8 < c) (h4 : ¬ 8 < d) (w : World) :
    Calls Tryd.prog 8 #[.agg #[.int .i64 a, .int .i64 b, .int .i64 c, .int .i64 d]] w fun e w' => e = .returned (.bool false) ∧ Below w.heap.size w w' := by
  go_enter Tryd.func8, Tryd.ntmps8
  go_wp2
  go_ret
  exact ⟨rfl, below_new _ _⟩
theorem great_yes (a b c d : Int) (h : grt a b c d) (w : World) :
    Calls Tryd.prog 8 #[.agg #[.int .i64 a, .int .i64 b, .int .i64 c, .int .i64 d]] w fun e w' => e = .returned (.bool true) ∧ Below w.heap.size w w' := by
  unfold grt at h
  by_cases h1 : 30 < a
  · exact great_1 a b c d h1 w
  by_cases h2 : 12 < b
  · exact great_2 a b c d h1 h2 w
  by_cases h3 : 8 < c
  · exact great_3 a b c d h1 h2 h3 w
  exact great_4 a b c d h1 h2 h3 (by omega) w
theorem great_no (a b c d : Int) (h : ¬ grt a b c d) (w : World) :
    Calls Tryd.prog 8 #[.agg #[.int .i64 a, .int .i64 b, .int .i64 c, .int .i64 d]] w fun e w' => e = .returned (.bool false) ∧ Below w.heap.size w w' := by
  unfold grt at h
  exact great_0 a b c d (by omega) (by omega) (by omega) (by omega) w
end Go.Proofs.YthlpmkjhiifibaaDoor
