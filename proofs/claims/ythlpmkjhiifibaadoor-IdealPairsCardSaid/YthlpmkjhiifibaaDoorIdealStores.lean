/- Several stores side by side: what is done to one leaves the others alone; what an operation leaves alone, and what being told to be full changes. -/
import Derived.Test.YthlpmkjhiifibaaDoorIdealActs
namespace Go.Proofs.YthlpmkjhiifibaaDoor
open Go Go.RowKit
set_option maxRecDepth 100000

/-- Where a store lies, and what it is. -/
structure Ref where
  X : Nat
  R : Nat
  L : Nat
  v : Value
  s : St
def Ref.foot (q : Ref) (k : Nat) : Prop := Proofs.YthlpmkjhiifibaaDoor.foot q.X q.R q.L q.v k
/-- Stores that are apart, all of them new. -/
structure Stores (w W : World) (b c d : Nat) (l : List Ref) : Prop where
  old : Below w.heap.size w W
  st : ∀ q ∈ l, StoreAt W q.X q.R q.L q.v b c d q.s
  up : ∀ q ∈ l, ∀ k, q.foot k → w.heap.size ≤ k
  ap : l.Pairwise (fun p q => ∀ k, p.foot k → ¬ q.foot k)
namespace Stores
variable {w W W' : World} {b c d : Nat} {l l' : List Ref} {q p o : Ref} {s' : St} {r : Int} {e : Ending}
theorem on (h : Stores w W b c d l) (hb : Below W.heap.size W W') : Stores w W' b c d l := ⟨belowOn h.old hb, fun q hq => (h.st q hq).below hb, h.up, h.ap⟩
theorem perm (h : Stores w W b c d l) (hp : l.Perm l') : Stores w W b c d l' :=
  ⟨h.old, fun q hq => h.st q (hp.mem_iff.2 hq), fun q hq => h.up q (hp.mem_iff.2 hq), hp.pairwise h.ap (fun h k hk hn => h k hn hk)⟩
theorem h1 (h : Stores w W b c d (q :: l)) : StoreAt W q.X q.R q.L q.v b c d q.s := h.st q (by simp)
theorem h2 (h : Stores w W b c d (q :: p :: l)) : StoreAt W p.X p.R p.L p.v b c d p.s := h.st p (by simp)
theorem h3 (h : Stores w W b c d (q :: p :: o :: l)) : StoreAt W o.X o.R o.L o.v b c d o.s := h.st o (by simp)
theorem tail (h : Stores w W b c d (q :: l)) : Stores w W b c d l := ⟨h.old, fun p hp => h.st p (List.mem_cons_of_mem _ hp), fun p hp => h.up p (List.mem_cons_of_mem _ hp), (List.pairwise_cons.1 h.ap).2⟩
theorem swap (h : Stores w W b c d (q :: p :: l)) : Stores w W b c d (p :: q :: l) := h.perm (List.Perm.swap _ _ _)
theorem third (h : Stores w W b c d (q :: p :: o :: l)) : Stores w W b c d (o :: q :: p :: l) := h.perm (((List.Perm.swap o p l).cons q).trans (List.Perm.swap o q (p :: l)))
/-- An operation at the first. -/
theorem act (h : Stores w W b c d (q :: l)) (hp : DoPost W q.X q.R q.L q.v b c d s' r e W') : e = .returned (.int .i64 r) ∧ ∃ v', Stores w W' b c d (⟨q.X, q.R, q.L, v', s'⟩ :: l) := by
  obtain ⟨v', he, hs', ho, hs⟩ := hp
  have hsz := h.old.size
  have hap := List.pairwise_cons.1 h.ap
  refine ⟨he, v', h.old.trans (hs.below h.old.size (fun k hk hf => by have := h.up q (by simp) k hf; omega)), ?_, ?_, List.pairwise_cons.2 ⟨?_, hap.2⟩⟩
  · intro p hp
    rcases List.mem_cons.1 hp with rfl | hp
    · exact hs'
    · exact (h.st p (List.mem_cons_of_mem _ hp)).sav hs (fun k hk hf => hap.1 p hp k hf hk)
  · intro p hp k hk
    rcases List.mem_cons.1 hp with rfl | hp
    · rcases hk with e | e | e | e
      · exact h.up q (by simp) k (.inl e)
      · exact h.up q (by simp) k (.inr (.inl e))
      · exact h.up q (by simp) k (.inr (.inr (.inl e)))
      · rcases ho k e with e | e
        · exact h.up q (by simp) k (.inr (.inr (.inr e)))
        · omega
    · exact h.up p (List.mem_cons_of_mem _ hp) k hk
  · intro p hp k hk hn
    rcases hk with e | e | e | e
    · exact hap.1 p hp k (.inl e) hn
    · exact hap.1 p hp k (.inr (.inl e)) hn
    · exact hap.1 p hp k (.inr (.inr (.inl e))) hn
    · rcases ho k e with e | e
      · exact hap.1 p hp k (.inr (.inr (.inr e))) hn
      · have := (h.st p (List.mem_cons_of_mem _ hp)).lt k hn; omega
/-- A copy of any of them. -/
theorem copy {s : St} (h : Stores w W b c d l) (hp : CopyPost W b c d s e W') : ∃ q : Ref, e = .returned (.pointer (some ⟨q.X, 0, none⟩)) ∧ q.s = s ∧ Stores w W' b c d (q :: l) := by
  obtain ⟨X, R, L, v, he, hs', hup, hb⟩ := hp
  have hsz := h.old.size
  refine ⟨⟨X, R, L, v, s⟩, he, rfl, belowOn h.old hb, ?_, ?_, List.pairwise_cons.2 ⟨?_, h.ap⟩⟩
  · intro p hp
    rcases List.mem_cons.1 hp with rfl | hp
    · exact hs'
    · exact (h.st p hp).below hb
  · intro p hp k hk
    rcases List.mem_cons.1 hp with rfl | hp
    · have := hup k hk; omega
    · exact h.up p hp k hk
  · intro p hp k hk hn
    have := hup k hk
    have := (h.st p hp).lt k hn; omega
theorem new {X R L : Nat} (hB : Below w.heap.size w W) (hs : StoreAt W X R L (.slice none 0 0) b c d st0) (h1 : w.heap.size ≤ X) (h2 : w.heap.size ≤ R) (h3 : w.heap.size ≤ L) : Stores w W b c d [⟨X, R, L, .slice none 0 0, st0⟩] := by
  refine ⟨hB, fun q hq => ?_, fun q hq k hk => ?_, List.pairwise_singleton _ _⟩
  · obtain rfl : q = _ := by simpa using hq
    exact hs
  · obtain rfl : q = _ := by simpa using hq
    rcases hk with e | e | e | e
    · exact e ▸ h1
    · exact e ▸ h2
    · exact e ▸ h3
    · simp [Value.ownBlock] at e
end Stores
/- what being told to be full changes -/
theorem full_other (b c d : Nat) (s : St) (m k x y z : Int) (hk : k ≠ 3) (f f' : Bool) : doR b c d s m k x y z f = doR b c d s m k x y z f' ∧ doS b c d s m k x y z f = doS b c d s m k x y z f' := by
  unfold doR doS resK nxtK
  simp [hk]
theorem full_cons (b c d : Nat) (s : St) (m x y z : Int) (hg : goodOp b c d m 3 x y z) : doR b c d s m 3 x y z true = 5 ∧ doS b c d s m 3 x y z true = s ∧ doR b c d s m 3 x y z false = 1 ∧ (doS b c d s m 3 x y z false).n = s.n + 1 := by
  unfold doR doS
  simp [hg, resK, nxtK]
theorem full_bad (b c d : Nat) (s : St) (m k x y z : Int) (hg : ¬ goodOp b c d m k x y z) (f : Bool) : doR b c d s m k x y z f = 6 ∧ doS b c d s m k x y z f = s := by
  unfold doR doS
  simp [hg]
/- what an operation leaves alone -/
/-- A kind that asks: nothing is changed. -/
theorem ask_same (b c d : Nat) (s : St) (m k x y z : Int) (f : Bool) (hk : k = 10 ∨ k = 11) : doS b c d s m k x y z f = s := by
  unfold doS nxtK
  rcases hk with rfl | rfl <;> simp
/-- The others never answer true or false, nor nothing. -/
theorem res_not (b c d : Nat) (s : St) (m k x y z : Int) (f : Bool) (hk : k ≠ 10) (hk' : k ≠ 11) : doR b c d s m k x y z f ≠ 2 ∧ doR b c d s m k x y z f ≠ 3 ∧ doR b c d s m k x y z f ≠ 0 := by
  unfold doR resK
  simp only [hk, hk', if_false]
  repeat' split
  all_goals (refine ⟨by decide, by decide, by decide⟩)
/-- A register that is another mutator's, or another one, is as it was. -/
theorem reg_same (b c d : Nat) (s : St) (m k x y z : Int) (f : Bool) (i j : Int) (h : ¬ (i = m ∧ j = x)) : (doS b c d s m k x y z f).g 0 i j = s.g 0 i j := by
  have h' : ¬ ((0 : Int) = 0 ∧ i = m ∧ j = x) := fun e => h e.2
  unfold doS
  split
  · unfold nxtK
    repeat' split
    all_goals first
      | rfl
      | (dsimp only; rw [putG_other _ _ h']; done)
      | (dsimp only; rw [putG_other _ _ h', putG_kind _ _ (by decide), putG_kind _ _ (by decide)]; done)
      | (dsimp only; rw [putG_kind _ _ (by decide)]; done)
  · rfl
/-- A kind that changes no cell leaves the cells that there were. -/
theorem cell_same (b c d : Nat) (s : St) (m k x y z : Int) (f : Bool) (i : Int) (hi : i < s.n) (hk : k ≠ 6) (hk' : k ≠ 7) : (doS b c d s m k x y z f).g 2 i 0 = s.g 2 i 0 ∧ (doS b c d s m k x y z f).g 3 i 0 = s.g 3 i 0 := by
  have hne : i ≠ (s.n : Int) := by omega
  unfold doS
  split
  · unfold nxtK
    simp only [hk, hk', if_false]
    repeat' split
    all_goals (simp [putG, hne])
  · exact ⟨rfl, rfl⟩
end Go.Proofs.YthlpmkjhiifibaaDoor
