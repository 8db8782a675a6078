/- The ideal store as a function of the place: what an operation makes of it, its result, and what always holds of it. -/
import Derived.Test.YtbpkdihonemogaaGreatDoorM2
namespace Go.Proofs.YtbpkdihonemogaaGreatDoor
open Go Go.RowKit
set_option maxRecDepth 100000

/-- What lies where: in a register (0, of the mutator and its number), a global (1), a car (2), a cdr (3). -/
abbrev Vals := Int → Int → Int → Nat
def putG (g : Vals) (k i j : Int) (w : Nat) : Vals := fun k' i' j' => if k' = k ∧ i' = i ∧ j' = j then w else g k' i' j'
theorem putG_same (g : Vals) (k i j : Int) (w : Nat) : putG g k i j w k i j = w := if_pos ⟨rfl, rfl, rfl⟩
theorem putG_other (g : Vals) {k i j k' i' j' : Int} (w : Nat) (h : ¬ (k' = k ∧ i' = i ∧ j' = j)) : putG g k i j w k' i' j' = g k' i' j' := if_neg h
theorem putG_kind (g : Vals) {k i j k' i' j' : Int} (w : Nat) (h : k' ≠ k) : putG g k i j w k' i' j' = g k' i' j' := if_neg (fun e => h e.1)
/-- All that a store is: its values, and how many cells were made. -/
structure St where
  g : Vals
  n : Nat
/-- The mutator is there, and the operation is right. -/
def goodOp (b c d : Nat) (m k x y z : Int) : Prop := 0 ≤ m ∧ m < b ∧ checkF 2 b c d k x y z = 0
instance (b c d : Nat) (m k x y z : Int) : Decidable (goodOp b c d m k x y z) := by unfold goodOp; exact inferInstance
/-- The result of an operation that is right. -/
def resK (s : St) (m k x y : Int) (full : Bool) : Int :=
  if k = 3 then (if full then 5 else 1)
  else if k = 4 then (if s.g 0 m y % 2 = 0 then 4 else 1)
  else if k = 5 then (if s.g 0 m y % 2 = 0 then 4 else 1)
  else if k = 6 then (if s.g 0 m x % 2 = 0 then 4 else 1)
  else if k = 7 then (if s.g 0 m x % 2 = 0 then 4 else 1)
  else if k = 10 then (if s.g 0 m x = s.g 0 m y then 2 else 3)
  else if k = 11 then (if s.g 0 m x % 2 = 0 then 2 else 3)
  else 1
/-- The store behind an operation that is right. -/
def nxtK (s : St) (m k x y z : Int) (full : Bool) : St :=
  if k = 1 then ⟨putG s.g 0 m x (2 * y.toNat), s.n⟩
  else if k = 2 then ⟨putG s.g 0 m x (s.g 0 m y), s.n⟩
  else if k = 3 then (if full then s else ⟨putG (putG (putG s.g 2 s.n 0 (s.g 0 m y)) 3 s.n 0 (s.g 0 m z)) 0 m x (2 * s.n + 1), s.n + 1⟩)
  else if k = 4 then (if s.g 0 m y % 2 = 0 then s else ⟨putG s.g 0 m x (s.g 2 ((s.g 0 m y / 2 : Nat) : Int) 0), s.n⟩)
  else if k = 5 then (if s.g 0 m y % 2 = 0 then s else ⟨putG s.g 0 m x (s.g 3 ((s.g 0 m y / 2 : Nat) : Int) 0), s.n⟩)
  else if k = 6 then (if s.g 0 m x % 2 = 0 then s else ⟨putG s.g 2 ((s.g 0 m x / 2 : Nat) : Int) 0 (s.g 0 m y), s.n⟩)
  else if k = 7 then (if s.g 0 m x % 2 = 0 then s else ⟨putG s.g 3 ((s.g 0 m x / 2 : Nat) : Int) 0 (s.g 0 m y), s.n⟩)
  else if k = 8 then ⟨putG s.g 0 m x (s.g 1 y 0), s.n⟩
  else if k = 9 then ⟨putG s.g 1 x 0 (s.g 0 m y), s.n⟩
  else s
def doR (b c d : Nat) (s : St) (m k x y z : Int) (full : Bool) : Int := if goodOp b c d m k x y z then resK s m k x y full else 6
def doS (b c d : Nat) (s : St) (m k x y z : Int) (full : Bool) : St := if goodOp b c d m k x y z then nxtK s m k x y z full else s
/-- There is such a place. -/
def dom (b c d n : Nat) (k i j : Int) : Prop := (k = 0 ∧ 0 ≤ i ∧ i < b ∧ 0 ≤ j ∧ j < c) ∨ (k = 1 ∧ 0 ≤ i ∧ i < d ∧ j = 0) ∨ ((k = 2 ∨ k = 3) ∧ 0 ≤ i ∧ i < n ∧ j = 0)
/-- What always holds of a store. -/
structure Inv (b c d : Nat) (s : St) : Prop where
  u : ∀ k i j, s.g k i j < 18446744073709551616
  odd : ∀ k i j, s.g k i j % 2 = 1 → s.g k i j / 2 < s.n
  z : ∀ k i j, ¬ dom b c d s.n k i j → s.g k i j = 0
theorem Inv.put {b c d n : Nat} {g : Vals} (h : Inv b c d ⟨g, n⟩) {k i j : Int} {w : Nat} (hd : dom b c d n k i j) (hu : w < 18446744073709551616) (ho : w % 2 = 1 → w / 2 < n) : Inv b c d ⟨putG g k i j w, n⟩ := by
  refine ⟨fun k' i' j' => ?_, fun k' i' j' => ?_, fun k' i' j' hn => ?_⟩
  · simp only [putG]; split
    · exact hu
    · exact h.u _ _ _
  · simp only [putG]; split
    · exact ho
    · exact h.odd _ _ _
  · simp only [putG]; split
    · rename_i e; obtain ⟨rfl, rfl, rfl⟩ := e; exact absurd hd hn
    · exact h.z _ _ _ hn
theorem Inv.grow {b c d n : Nat} {g : Vals} (h : Inv b c d ⟨g, n⟩) : Inv b c d ⟨g, n + 1⟩ := by
  refine ⟨h.u, fun k i j e => ?_, fun k i j hn => h.z k i j (fun hd => hn ?_)⟩
  · have := h.odd k i j e
    show g k i j / 2 < n + 1
    have : g k i j / 2 < n := this
    omega
  · unfold dom at hd ⊢
    simp only at hd ⊢
    omega
theorem Inv.new (b c d : Nat) : Inv b c d ⟨fun _ _ _ => 0, 0⟩ := ⟨fun _ _ _ => by simp, fun _ _ _ h => by simp at h, fun _ _ _ _ => rfl⟩
theorem goodOp.right {b c d : Nat} {m k x y z : Int} (h : goodOp b c d m k x y z) : okK k ∧ (∀ p ∈ nums k x y z, okP c d p) := by
  obtain ⟨_, _, h⟩ := h
  unfold checkF at h
  split at h
  · split at h
    · split at h
      · exact ⟨by assumption, by assumption⟩
      · cases h
    · cases h
  · cases h
set_option maxHeartbeats 1600000 in
/-- What is right of an operation's numbers. -/
theorem goodOp.nums {b c d : Nat} {m k x y z : Int} (h : goodOp b c d m k x y z) : (1 ≤ k ∧ k ≤ 11) ∧ (k ≠ 9 → 0 ≤ x ∧ x < c) ∧ (k = 9 → 0 ≤ x ∧ x < d) ∧ (k = 1 → 0 ≤ y ∧ y ≤ 9223372036854775807) ∧ (k = 8 → 0 ≤ y ∧ y < d) ∧ (k ≠ 1 → k ≠ 8 → k ≠ 11 → 0 ≤ y ∧ y < c) ∧ (k = 3 → 0 ≤ z ∧ z < c) := by
  obtain ⟨hk, hp⟩ := h.right
  obtain ⟨q, rfl, h1, h2⟩ := hk.nat
  clear h
  refine ⟨by omega, ?_⟩
  obtain rfl | rfl | rfl | rfl | rfl | rfl | rfl | rfl | rfl | rfl | rfl := kind_cases h1 h2
  all_goals
    simp [okP, Proofs.YtbpkdihonemogaaGreatDoor.nums, numsH, hsL, numF, lastF, List.range, List.range.loop] at hp
    simp
    omega
theorem Inv.nxt {b c d : Nat} {s : St} (h : Inv b c d s) {m k x y z : Int} (full : Bool) (hg : goodOp b c d m k x y z) (hn : s.n < 4611686018427387904) : Inv b c d (nxtK s m k x y z full) := by
  obtain ⟨hk, h1, h2, h3, h4, h5, h6⟩ := hg.nums
  obtain ⟨m0, m1, _⟩ := hg
  obtain ⟨g, n⟩ := s
  have hreg : ∀ {k : Int}, k ≠ 9 → (0 ≤ x ∧ x < c) → dom b c d n 0 m x := fun _ e => .inl ⟨rfl, m0, m1, e.1, e.2⟩
  have hcell : ∀ r, g 0 m r % 2 = 1 → ∀ q : Int, (q = 2 ∨ q = 3) → dom b c d n q ((g 0 m r / 2 : Nat) : Int) 0 := fun r e q hq => .inr (.inr ⟨hq, by omega, by have : g 0 m r / 2 < n := h.odd 0 m r e; omega, rfl⟩)
  unfold nxtK
  simp only at hn ⊢
  split
  · subst k; exact h.put (hreg (k := 1) (by decide) (h1 (by decide))) (by have := h3 rfl; omega) (by omega)
  split
  · subst k; exact h.put (hreg (k := 2) (by decide) (h1 (by decide))) (h.u _ _ _) (h.odd _ _ _)
  split
  · subst k
    cases full
    · refine ((h.grow.put (k := 2) (i := n) (j := 0) (.inr (.inr ⟨.inl rfl, by omega, by omega, rfl⟩)) (h.u 0 m y) (fun e => Nat.lt_succ_of_lt (h.odd 0 m y e))).put (k := 3) (i := n) (j := 0) (.inr (.inr ⟨.inr rfl, by omega, by omega, rfl⟩)) (h.u 0 m z) (fun e => Nat.lt_succ_of_lt (h.odd 0 m z e))).put (k := 0) (i := m) (j := x) ?_ (by omega) (by omega)
      have := h1 (by decide)
      exact .inl ⟨rfl, m0, m1, this.1, this.2⟩
    · exact h
  split
  · subst k; split
    · exact h
    · exact h.put (hreg (k := 4) (by decide) (h1 (by decide))) (h.u _ _ _) (h.odd _ _ _)
  split
  · subst k; split
    · exact h
    · exact h.put (hreg (k := 5) (by decide) (h1 (by decide))) (h.u _ _ _) (h.odd _ _ _)
  split
  · subst k; split
    · exact h
    · exact h.put (hcell x (by omega) 2 (.inl rfl)) (h.u _ _ _) (h.odd _ _ _)
  split
  · subst k; split
    · exact h
    · exact h.put (hcell x (by omega) 3 (.inr rfl)) (h.u _ _ _) (h.odd _ _ _)
  split
  · subst k; exact h.put (hreg (k := 8) (by decide) (h1 (by decide))) (h.u _ _ _) (h.odd _ _ _)
  split
  · subst k; exact h.put (.inr (.inl ⟨rfl, (h2 rfl).1, (h2 rfl).2, rfl⟩)) (h.u _ _ _) (h.odd _ _ _)
  · exact h
theorem Inv.does {b c d : Nat} {s : St} (h : Inv b c d s) (m k x y z : Int) (full : Bool) (hn : s.n < 4611686018427387904) : Inv b c d (doS b c d s m k x y z full) := by
  unfold doS
  split
  · exact h.nxt full (by assumption) hn
  · exact h
theorem nxtK_n (s : St) (m k x y z : Int) (full : Bool) : (nxtK s m k x y z full).n ≤ s.n + 1 ∧ s.n ≤ (nxtK s m k x y z full).n := by
  unfold nxtK
  repeat' split
  all_goals (constructor <;> simp)
theorem doS_n (b c d : Nat) (s : St) (m k x y z : Int) (full : Bool) : (doS b c d s m k x y z full).n ≤ s.n + 1 ∧ s.n ≤ (doS b c d s m k x y z full).n := by
  unfold doS
  split
  · exact nxtK_n s m k x y z full
  · omega
end Go.Proofs.YtbpkdihonemogaaGreatDoor
