/- Plain lemmas: the names of two places that lie side by side are unlike, and no name is empty. -/
import Derived.Test.YtdhejdehlomppaaDoorPlaceRefName
import Derived.Test.YtdhejdehlomppaaDoorWordPlain
namespace Go.Proofs.YtdhejdehlomppaaDoor
open Go

theorem itoa_pos {n : Int} (h0 : 0 ≤ n) : Lib.itoa n = Lib.decDigits n.toNat := by unfold Lib.itoa; rw [if_neg (by omega)]
theorem itoa_inj {m n : Int} (h0 : 0 ≤ m) (h1 : 0 ≤ n) (h : Lib.itoa m = Lib.itoa n) : m = n := by
  rw [itoa_pos h0, itoa_pos h1] at h
  have := dec_inj _ _ h
  omega
theorem cut_at {p p' q q' : List UInt8} (hp : ∀ c ∈ p, c ≠ 32) (hp' : ∀ c ∈ p', c ≠ 32) (h : p ++ 32 :: q = p' ++ 32 :: q') : p = p' ∧ q = q' := by
  induction p generalizing p' with
  | nil =>
    cases p' with
    | nil => simpa using h
    | cons a r => simp at h; exact absurd h.1.symm (hp' a (by simp))
  | cons a r ih =>
    cases p' with
    | nil => simp at h; exact absurd h.1 (hp a (by simp))
    | cons a' r' =>
      simp only [List.cons_append, List.cons.injEq] at h
      have := ih (fun c hc => hp c (by simp [hc])) (fun c hc => hp' c (by simp [hc])) h.2
      exact ⟨by rw [h.1, this.1], this.2⟩
theorem itoa_no32 {n : Int} (h0 : 0 ≤ n) : ∀ c ∈ Lib.itoa n, c ≠ 32 := fun c hc e => by
  rw [itoa_pos h0] at hc
  have := dec_digit _ c hc
  subst e
  simp at this
theorem nm1_inj {s : List UInt8} {x y : Int} (hx : 0 ≤ x) (hy : 0 ≤ y) (h : nm s [x] = nm s [y]) : x = y := by
  rw [nm_one, nm_one] at h
  exact itoa_inj hx hy (List.append_cancel_left h)
theorem nm2_inj {s : List UInt8} {x y x' y' : Int} (hx : 0 ≤ x) (hy : 0 ≤ y) (hx' : 0 ≤ x') (hy' : 0 ≤ y') (h : nm s [x, y] = nm s [x', y']) : x = x' ∧ y = y' := by
  rw [nm_two, nm_two] at h
  simp only [List.append_assoc] at h
  have h1 := List.append_cancel_left (List.append_cancel_left h)
  have h2 := cut_at (itoa_no32 hx) (itoa_no32 hx') (by simpa using h1)
  exact ⟨itoa_inj hx hx' h2.1, itoa_inj hy hy' h2.2⟩
/-- The first two letters of a name. -/
theorem nm_two_letters {s : List UInt8} {zs : List Int} (h : 2 ≤ s.length) (hz : zs.length = 1 ∨ zs.length = 2) : (nm s zs).take 2 = s.take 2 := by
  match zs, hz with
  | [x], _ => rw [nm_one, List.append_assoc, List.take_append_of_le_length h]
  | [x, y], _ => rw [nm_two, List.append_assoc, List.append_assoc, List.append_assoc, List.take_append_of_le_length h]
theorem nameOf_letters {k x y : Int} (hk : 1 ≤ k ∧ k ≤ 6) : (nameOf (k, x, y)).take 2 = (kindN k).take 2 := by
  unfold nameOf
  rw [if_neg (by simp only; omega)]
  by_cases h3 : k = 3
  · subst h3; rw [if_pos rfl]; exact nm_two_letters (by decide) (.inr rfl)
  · rw [if_neg (by simpa using h3)]
    refine nm_two_letters ?_ (.inl rfl)
    obtain rfl | rfl | rfl | rfl | rfl : k = 1 ∨ k = 2 ∨ k = 4 ∨ k = 5 ∨ k = 6 := by omega
    all_goals (dsimp only; decide)
theorem kinds_apart {k k' : Int} (hk : 1 ≤ k ∧ k ≤ 6) (hk' : 1 ≤ k' ∧ k' ≤ 6) (h : (kindN k).take 2 = (kindN k').take 2) : k = k' := by
  obtain rfl | rfl | rfl | rfl | rfl | rfl : k = 1 ∨ k = 2 ∨ k = 3 ∨ k = 4 ∨ k = 5 ∨ k = 6 := by omega
  all_goals
    obtain rfl | rfl | rfl | rfl | rfl | rfl : k' = 1 ∨ k' = 2 ∨ k' = 3 ∨ k' = 4 ∨ k' = 5 ∨ k' = 6 := by omega
    all_goals first | rfl | (exact absurd h (by decide))
theorem nameOf_other {k x y : Int} (h0 : k ≠ 0) (h3 : k ≠ 3) : nameOf (k, x, y) = nm (kindN k) [x] := by unfold nameOf; rw [if_neg (by simpa using h0), if_neg (by simpa using h3)]
/-- What lies at a place: its kind, and its numbers' bounds. -/
theorem spot_kinds {a b c d : Int} (hr : Right a b c d) {n : Int} (h5 : 5 ≤ n) : 1 ≤ (spotF b c d n).1 ∧ (spotF b c d n).1 ≤ 6 ∧ 0 ≤ (spotF b c d n).2.1 ∧ 0 ≤ (spotF b c d n).2.2 := by
  have hp := hr.prod
  unfold Right at hr
  unfold spotF
  rw [if_neg (by omega)]
  by_cases h6 : n < 5 + b
  · rw [if_pos h6]; simp only; omega
  rw [if_neg h6]
  by_cases h7 : n < 5 + b + d
  · rw [if_pos h7]; simp only; omega
  rw [if_neg h7]
  by_cases h8 : n < 5 + b + d + b * c
  · rw [if_pos h8]
    exact ⟨by simp, by simp, Int.ediv_nonneg (by omega) (by omega), Int.emod_nonneg _ (by omega)⟩
  · rw [if_neg h8]; simp only; omega
theorem spots_apart {a b c d : Int} (hr : Right a b c d) {n : Int} (h5 : 5 < n) (hk : (spotF b c d n).1 = (spotF b c d (n - 1)).1) (hx : (spotF b c d n).2.1 = (spotF b c d (n - 1)).2.1) : (spotF b c d n).1 = 3 ∧ (spotF b c d n).2.2 ≠ (spotF b c d (n - 1)).2.2 := by
  have hp := hr.prod
  unfold Right at hr
  unfold spotF at *
  rw [if_neg (by omega), if_neg (by omega : ¬ n - 1 < 5)] at *
  by_cases h6 : n < 5 + b
  · rw [if_pos h6, if_pos (by omega : n - 1 < 5 + b)] at *; simp only at hx; omega
  rw [if_neg h6] at *
  by_cases h6' : n - 1 < 5 + b
  · rw [if_pos h6'] at *
    by_cases h7 : n < 5 + b + d
    · rw [if_pos h7] at *; simp at hk
    rw [if_neg h7] at *
    by_cases h8 : n < 5 + b + d + b * c
    · rw [if_pos h8] at *; simp at hk
    · omega
  rw [if_neg h6'] at *
  by_cases h7 : n < 5 + b + d
  · rw [if_pos h7, if_pos (by omega : n - 1 < 5 + b + d)] at *; simp only at hx; omega
  rw [if_neg h7] at *
  by_cases h7' : n - 1 < 5 + b + d
  · rw [if_pos h7'] at *
    by_cases h8 : n < 5 + b + d + b * c
    · rw [if_pos h8] at *; simp at hk
    · omega
  rw [if_neg h7'] at *
  by_cases h8 : n < 5 + b + d + b * c
  · rw [if_pos h8, if_pos (by omega : n - 1 < 5 + b + d + b * c)] at *
    refine ⟨rfl, fun hy => ?_⟩
    simp only at hx hy
    have e1 := Int.mul_ediv_add_emod (n - (5 + b + d)) c
    have e2 := Int.mul_ediv_add_emod (n - 1 - (5 + b + d)) c
    rw [hx, hy] at e1
    omega
  rw [if_neg h8] at *
  by_cases h8' : n - 1 < 5 + b + d + b * c
  · rw [if_pos h8'] at *; simp only at hk; omega
  · rw [if_neg h8'] at *; simp only at hk; omega
theorem names_apart {a b c d : Int} (hr : Right a b c d) {n : Int} (h0 : 0 < n) : nameOf (spotF b c d n) ≠ nameOf (spotF b c d (n - 1)) := by
  by_cases h5 : n < 5
  · rw [spot_once h5, spot_once (by omega)]
    obtain rfl | rfl | rfl | rfl : n = 1 ∨ n = 2 ∨ n = 3 ∨ n = 4 := by omega
    all_goals decide
  by_cases h5' : n = 5
  · subst h5'
    rw [spot_once (show (5 : Int) - 1 < 5 by omega)]
    obtain ⟨k1, k2, _, _⟩ := spot_kinds hr (n := 5) (by omega)
    generalize spotF b c d 5 = s at *
    obtain ⟨k, x, y⟩ := s
    intro h
    have h1 := congrArg (List.take 2) h
    rw [nameOf_letters ⟨k1, k2⟩] at h1
    dsimp only at k1 k2 h1
    clear h
    obtain rfl | rfl | rfl | rfl | rfl | rfl : k = 1 ∨ k = 2 ∨ k = 3 ∨ k = 4 ∨ k = 5 ∨ k = 6 := by omega
    all_goals exact absurd h1 (by decide)
  · obtain ⟨k1, k2, k3, k4⟩ := spot_kinds hr (n := n) (by omega)
    obtain ⟨l1, l2, l3, l4⟩ := spot_kinds hr (n := n - 1) (by omega)
    have hap := spots_apart hr (n := n) (by omega)
    generalize spotF b c d n = s at *
    generalize spotF b c d (n - 1) = s' at *
    obtain ⟨k, x, y⟩ := s
    obtain ⟨k', x', y'⟩ := s'
    simp only at *
    intro h
    have h1 := congrArg (List.take 2) h
    rw [nameOf_letters ⟨k1, k2⟩, nameOf_letters ⟨l1, l2⟩] at h1
    have hkk := kinds_apart ⟨k1, k2⟩ ⟨l1, l2⟩ h1
    subst hkk
    by_cases h3 : k = 3
    · subst h3
      obtain ⟨e1, e2⟩ := nm2_inj k3 k4 l3 l4 (show nm (kindN 3) [x, y] = nm (kindN 3) [x', y'] from h)
      exact (hap rfl e1).2 e2
    · rw [nameOf_other (by omega) h3, nameOf_other (by omega) h3] at h
      exact h3 (hap rfl (nm1_inj k3 l3 h)).1
theorem name_some {a b c d : Int} (hr : Right a b c d) {n : Int} (h0 : 0 ≤ n) : ∃ x l, nameOf (spotF b c d n) = x :: l := by
  cases h : nameOf (spotF b c d n) with
  | cons x l => exact ⟨x, l, rfl⟩
  | nil =>
    by_cases h5 : n < 5
    · rw [spot_once h5] at h
      obtain rfl | rfl | rfl | rfl | rfl : n = 0 ∨ n = 1 ∨ n = 2 ∨ n = 3 ∨ n = 4 := by omega
      all_goals exact absurd h (by decide)
    · obtain ⟨k1, k2, _, _⟩ := spot_kinds hr (n := n) (by omega)
      generalize spotF b c d n = s at *
      obtain ⟨k, x, y⟩ := s
      have h1 := congrArg (List.take 2) h
      rw [nameOf_letters ⟨k1, k2⟩] at h1
      dsimp only at k1 k2 h1
      obtain rfl | rfl | rfl | rfl | rfl | rfl : k = 1 ∨ k = 2 ∨ k = 3 ∨ k = 4 ∨ k = 5 ∨ k = 6 := by omega
      all_goals exact absurd h1 (by decide)
end Go.Proofs.YtdhejdehlomppaaDoor
