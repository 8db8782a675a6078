/- The document's answer for reading a configuration, for every text of at most 200 bytes: the right configuration whose text it is, or the error's number 3 and no configuration. -/
import Derived.Test.YtiifeocfphojaaaDoorCfgSpot
namespace Go.Proofs.YtiifeocfphojaaaDoor
open Go Go.RowKit
set_option maxRecDepth 100000

/-- Four numbers lie in block B. -/
def ArrF (w : World) (B : Nat) (f : Nat → Int) : Prop := w.heap[B]? = some (.cells #[.int .i64 (f 0), .int .i64 (f 1), .int .i64 (f 2), .int .i64 (f 3)] 37 (0, 0))
theorem ArrF.at {w : World} {B : Nat} {f : Nat → Int} (h : ArrF w B f) {k : Nat} (hk : k < 4) : w.cell? ⟨B, k, none⟩ = some (.int .i64 (f k)) := by
  unfold ArrF at h
  obtain rfl | rfl | rfl | rfl : k = 0 ∨ k = 1 ∨ k = 2 ∨ k = 3 := by omega
  all_goals simp [World.cell?, h]
theorem ArrF.free {w : World} {B : Nat} {f : Nat → Int} (h : ArrF w B f) (j : Nat) : w.frozen? ⟨B, j, none⟩ = false := by
  unfold ArrF at h; simp [World.frozen?, h]
def setF (f : Nat → Int) (k : Nat) (v : Int) : Nat → Int := fun j => if j = k then v else f j
theorem ArrF.set {w : World} {B : Nat} {f : Nat → Int} (h : ArrF w B f) {k : Nat} (hk : k < 4) (v : Int) : ArrF (w.setCell ⟨B, k, none⟩ (.int .i64 v)) B (setF f k v) := by
  unfold ArrF at *
  obtain rfl | rfl | rfl | rfl : k = 0 ∨ k = 1 ∨ k = 2 ∨ k = 3 := by omega
  all_goals simp [World.setCell, Array.getElem?_modify, h, setF]
/-- The memory of the document's Parse: its answer's place, the numbers, and what was there. -/
structure Mem (w wr : World) (f : Nat → Int) : Prop where
  res : Arr4 wr w.heap.size 23 0 0 0 0
  nums : ArrF wr (w.heap.size + 1) f
  old : Below w.heap.size w wr
theorem Mem.set {w wr : World} {f : Nat → Int} (h : Mem w wr f) {k : Nat} (hk : k < 4) (v : Int) : Mem w (wr.setCell ⟨w.heap.size + 1, k, none⟩ (.int .i64 v)) (setF f k v) :=
  ⟨h.res.other (setCell_block (by omega)), h.nums.set hk v, h.old.setCell (p := ⟨w.heap.size + 1, k, none⟩) (by simp only; omega) _⟩
theorem Mem.drew {w wr : World} {f : Nat → Int} (h : Mem w wr f) : Mem w wr.drew f := ⟨h.res, h.nums, h.old.drew⟩
/-- What is known at the k-th name, if it is a text. -/
def AtName (S : List UInt8) (k p : Nat) (f : Nat → Int) : Prop :=
  ∀ a b c d, IsText S a b c d → (k < 4 → S.drop p = restL a b c d k) ∧ ∀ j, j < 4 → f j = if j < k then numL a b c d j else 0
/-- .. within the k-th name. -/
def InName (S : List UInt8) (k p : Nat) (f : Nat → Int) : Prop :=
  ∀ a b c d, IsText S a b c d → (∃ y, S.drop p = y ++ 32 :: (Lib.itoa (numL a b c d k) ++ tailL a b c d k) ∧ (32 : UInt8) ∉ y) ∧ ∀ j, j < 4 → f j = if j < k then numL a b c d j else 0
/-- .. within the k-th number. -/
def InNum (S : List UInt8) (k p : Nat) (f : Nat → Int) : Prop :=
  ∀ a b c d, IsText S a b c d → ∃ y z, Lib.itoa (numL a b c d k) = y ++ z ∧ S.drop p = z ++ tailL a b c d k ∧ f k = valL y ∧ ∀ j, j < 4 → j ≠ k → f j = if j < k then numL a b c d j else 0
theorem AtName.enter {S : List UInt8} {k p : Nat} {f : Nat → Int} (hk : k < 4) (h : AtName S k p f) : InName S k p f := fun a b c d ht =>
  ⟨⟨nameL k, by rw [(h a b c d ht).1 hk, restL_parts a b c d k hk], nameL_plain k⟩, (h a b c d ht).2⟩
theorem InName.next {S : List UInt8} {k p : Nat} {f : Nat → Int} {x : UInt8} (h : InName S k p f) (hx : S[p]? = some x) (hn : x ≠ 32) : InName S k (p + 1) f := fun a b c d ht => by
  obtain ⟨⟨y, hy, hp⟩, hf⟩ := h a b c d ht
  cases y with
  | nil => exact absurd (Option.some.inj (hx.symm.trans (drop_one hy).1)) hn
  | cons q y => exact ⟨⟨y, (drop_one hy).2.1, fun hm => hp (by simp [hm])⟩, hf⟩
theorem InName.leave {S : List UInt8} {k p : Nat} {f : Nat → Int} (h : InName S k p f) (hk : k < 4) (hx : ∀ x, S[p]? = some x → x = 32) : InNum S k (p + 1) f := fun a b c d ht => by
  obtain ⟨⟨y, hy, hp⟩, hf⟩ := h a b c d ht
  cases y with
  | nil => exact ⟨[], _, by simp, (drop_one hy).2.1, by rw [hf k hk, if_neg (by omega)]; rfl, fun j hj _ => hf j hj⟩
  | cons q y => exact absurd (hx q (drop_one hy).1) (fun e => hp (by simp [e]))
theorem InNum.next {S : List UInt8} {k p : Nat} {f : Nat → Int} {x : UInt8} {v : Int} (h : InNum S k p f) (hx : S[p]? = some x) (hn : x ≠ 32) (hv : 0 ≤ f k → f k ≤ 4096 → v = 10 * f k + (x.toNat : Int) - 48) : InNum S k (p + 1) (setF f k v) := fun a b c d ht => by
  obtain ⟨y, z, hz, hp, hf, ho⟩ := h a b c d ht
  have hs := spot_small ht.1 hz
  rw [← hf] at hs
  cases z with
  | nil =>
    exfalso
    unfold tailL at hp
    split at hp
    · exact hn (Option.some.inj (hx.symm.trans (drop_one hp).1))
    · have := List.getElem?_eq_none (l := S) (i := p) (by have := congrArg List.length hp; simp at this; omega)
      rw [this] at hx; cases hx
  | cons q z =>
    obtain ⟨h1, h2, _⟩ := drop_one hp
    obtain rfl : x = q := Option.some.inj (hx.symm.trans h1)
    refine ⟨y ++ [x], z, by simp [hz], h2, ?_, fun j hj hne => ?_⟩
    · rw [valL_snoc, ← hf]; simp only [setF, if_pos]; exact hv hs.1 hs.2
    · simp only [setF, if_neg hne]; exact ho j hj hne
theorem InNum.leave {S : List UInt8} {k p : Nat} {f : Nat → Int} (h : InNum S k p f) (hx : (∀ x, S[p]? = some x → x = 32) ∨ 10000 ≤ f k) : AtName S (k + 1) (p + 1) f := fun a b c d ht => by
  obtain ⟨y, z, hz, hp, hf, ho⟩ := h a b c d ht
  have hs := spot_small ht.1 hz
  rw [← hf] at hs
  have hx : ∀ x, S[p]? = some x → x = 32 := by
    rcases hx with hx | hx
    · exact hx
    · omega
  cases z with
  | cons q z =>
    exfalso
    have e := hx q (drop_one hp).1
    have := itoa_digit (numL_right ht.1 k).1 q (by rw [hz]; simp)
    rw [e] at this
    simp at this
  | nil =>
    refine ⟨fun hk => ?_, fun j hj => ?_⟩
    · unfold tailL at hp
      rw [if_pos (by omega)] at hp
      exact (drop_one hp).2.1
    · by_cases e : j = k
      · subst e
        rw [if_pos (by omega), hf]
        have := valL_itoa (numL_right ht.1 j).1
        rw [hz, List.append_nil] at this
        exact this
      · rw [ho j hj e]
        by_cases h1 : j < k
        · rw [if_pos h1, if_pos (by omega)]
        · rw [if_neg h1, if_neg (by omega)]
end Go.Proofs.YtiifeocfphojaaaDoor
