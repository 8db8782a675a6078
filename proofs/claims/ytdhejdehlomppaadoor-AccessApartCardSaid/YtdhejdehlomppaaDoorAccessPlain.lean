/- Plain lemmas: right accesses with the same text are the same. -/
import Derived.Test.YtdhejdehlomppaaDoorAccessText
namespace Go.Proofs.YtdhejdehlomppaaDoor
open Go

theorem tail_nil : Lib.joinTail [32] [] = [] := rfl
theorem tail_cons (y : List UInt8) (r : List (List UInt8)) : Lib.joinTail [32] (y :: r) = 32 :: (y ++ Lib.joinTail [32] r) := by simp [Lib.joinTail]
theorem tail_append (r q : List (List UInt8)) : Lib.joinTail [32] (r ++ q) = Lib.joinTail [32] r ++ Lib.joinTail [32] q := by simp [Lib.joinTail]
/-- Words without a space are told from their row. -/
theorem words_inj (r : List (List UInt8)) : ∀ (r' : List (List UInt8)) (x x' : List UInt8), (∀ c ∈ x, c ≠ 32) → (∀ c ∈ x', c ≠ 32) → (∀ y ∈ r, ∀ c ∈ y, c ≠ 32) → (∀ y ∈ r', ∀ c ∈ y, c ≠ 32) → x ++ Lib.joinTail [32] r = x' ++ Lib.joinTail [32] r' → x = x' ∧ r = r' := by
  induction r with
  | nil =>
    intro r' x x' hx hx' _ _ h
    cases r' with
    | nil => simp [tail_nil] at h; exact ⟨h, rfl⟩
    | cons y' r' =>
      rw [tail_nil, tail_cons, List.append_nil] at h
      exact absurd rfl (hx 32 (by rw [h]; simp))
  | cons y r ih =>
    intro r' x x' hx hx' hr hr' h
    cases r' with
    | nil =>
      rw [tail_nil, tail_cons, List.append_nil] at h
      exact absurd rfl (hx' 32 (by rw [← h]; simp))
    | cons y' r' =>
      rw [tail_cons, tail_cons] at h
      obtain ⟨h1, h2⟩ := cut_at hx hx' h
      obtain ⟨h3, h4⟩ := ih r' y y' (hr y (by simp)) (hr' y' (by simp)) (fun z hz => hr z (by simp [hz])) (fun z hz => hr' z (by simp [hz])) h2
      exact ⟨h1, by rw [h3, h4]⟩
/-- A name's words. -/
def nameW (s : Int × Int × Int) : List (List UInt8) := if s.1 = 0 then [onceN s.2.1] else if s.1 = 3 then [kindN 3, Lib.itoa s.2.1, Lib.itoa s.2.2] else [kindN s.1, Lib.itoa s.2.1]
theorem nameW_some (s : Int × Int × Int) : ∃ n0 ns, nameW s = n0 :: ns ∧ nameOf s = n0 ++ Lib.joinTail [32] ns := by
  unfold nameW nameOf
  by_cases h0 : s.1 = 0
  · rw [if_pos h0, if_pos h0]; exact ⟨_, _, rfl, by rw [tail_nil, List.append_nil]⟩
  · rw [if_neg h0, if_neg h0]
    by_cases h3 : s.1 = 3
    · rw [if_pos h3, if_pos h3]; exact ⟨_, _, rfl, by unfold nm; rw [Lib.join_cons]; rfl⟩
    · rw [if_neg h3, if_neg h3]; exact ⟨_, _, rfl, by unfold nm; rw [Lib.join_cons]; rfl⟩
theorem accT_words (b c d k p : Int) (x y o : Nat) : accT b c d k p x y o = kindT k ++ Lib.joinTail [32] (nameW (spotF b c d p) ++ ((usedW k x y).map textB ++ [[119, 97, 115], textB o])) := by
  unfold accT accL
  rw [Lib.join_cons]
  obtain ⟨n0, ns, h1, h2⟩ := nameW_some (spotF b c d p)
  rw [h1, h2, List.cons_append, tail_cons, tail_cons, tail_append ns, List.append_assoc]
theorem kindT_no32 (k : Int) : ∀ c ∈ kindT k, c ≠ 32 := by
  unfold kindT
  repeat (split; · decide)
  decide
theorem kindN_no32 (k : Int) : ∀ c ∈ kindN k, c ≠ 32 := by
  unfold kindN
  repeat (split; · decide)
  decide
theorem onceN_no32 (k : Int) : ∀ c ∈ onceN k, c ≠ 32 := by
  unfold onceN
  repeat (split; · decide)
  decide
theorem textB_no32 (n : Nat) : ∀ c ∈ textB n, c ≠ 32 := fun c hc e => by
  unfold textB at hc
  rcases List.mem_append.1 hc with h | h
  · subst e
    unfold markB at h
    split at h
    · simp at h
    · split at h <;> simp at h
  · have := dec_digit _ c h
    subst e
    simp at this
theorem spot_pos {a b c d : Int} (hr : Right a b c d) {n : Int} (h0 : 0 ≤ n) : 0 ≤ (spotF b c d n).2.1 ∧ 0 ≤ (spotF b c d n).2.2 := by
  by_cases h5 : n < 5
  · rw [spot_once h5]; exact ⟨h0, by simp⟩
  · exact (spot_kinds hr (n := n) (by omega)).2.2
theorem nameW_no32 {a b c d : Int} (hr : Right a b c d) {n : Int} (h0 : 0 ≤ n) : ∀ y ∈ nameW (spotF b c d n), ∀ c ∈ y, c ≠ 32 := by
  obtain ⟨h1, h2⟩ := spot_pos hr h0
  generalize spotF b c d n = s at *
  unfold nameW
  intro y hy
  split at hy
  · simp at hy; subst hy; exact onceN_no32 _
  · split at hy
    · simp at hy
      rcases hy with rfl | rfl | rfl
      · exact kindN_no32 _
      · exact itoa_no32 h1
      · exact itoa_no32 h2
    · simp at hy
      rcases hy with rfl | rfl
      · exact kindN_no32 _
      · exact itoa_no32 h1
/-- Where a thing lies. -/
def unspot (b c d : Int) (s : Int × Int × Int) : Int := if s.1 = 1 then 5 + s.2.1 else if s.1 = 2 then 5 + b + s.2.1 else if s.1 = 3 then 5 + b + d + (c * s.2.1 + s.2.2) else 5 + b + d + b * c + 3 * s.2.1 + (s.1 - 4)
theorem spot_back {a b c d : Int} (_ : Right a b c d) {n : Int} (h5 : 5 ≤ n) : unspot b c d (spotF b c d n) = n := by
  unfold spotF
  rw [if_neg (by omega)]
  by_cases h6 : n < 5 + b
  · rw [if_pos h6]; simp [unspot]; omega
  rw [if_neg h6]
  by_cases h7 : n < 5 + b + d
  · rw [if_pos h7]; simp [unspot]; omega
  rw [if_neg h7]
  by_cases h8 : n < 5 + b + d + b * c
  · rw [if_pos h8]
    have e := Int.mul_ediv_add_emod (n - (5 + b + d)) c
    unfold unspot
    rw [if_neg (by simp), if_neg (by simp), if_pos rfl]
    simp only
    omega
  · rw [if_neg h8]
    unfold unspot
    simp only
    rw [if_neg (by omega), if_neg (by omega), if_neg (by omega)]
    omega
theorem name_inj {a b c d : Int} (hr : Right a b c d) {n n' : Int} (h0 : 0 ≤ n) (h0' : 0 ≤ n') (h : nameOf (spotF b c d n) = nameOf (spotF b c d n')) : n = n' := by
  have once_far : ∀ m m' : Int, 0 ≤ m → m < 5 → 5 ≤ m' → nameOf (spotF b c d m) ≠ nameOf (spotF b c d m') := by
    intro m m' hm hm5 hm' e
    rw [spot_once hm5] at e
    obtain ⟨k1, k2, _, _⟩ := spot_kinds hr (n := m') hm'
    generalize spotF b c d m' = s at *
    obtain ⟨k, x, y⟩ := s
    have h1 := congrArg (List.take 2) e
    rw [nameOf_letters ⟨k1, k2⟩] at h1
    dsimp only at k1 k2 h1
    clear e
    obtain rfl | rfl | rfl | rfl | rfl : m = 0 ∨ m = 1 ∨ m = 2 ∨ m = 3 ∨ m = 4 := by omega
    all_goals
      obtain rfl | rfl | rfl | rfl | rfl | rfl : k = 1 ∨ k = 2 ∨ k = 3 ∨ k = 4 ∨ k = 5 ∨ k = 6 := by omega
      all_goals exact absurd h1 (by decide)
  by_cases h5 : n < 5
  · by_cases h5' : n' < 5
    · rw [spot_once h5, spot_once h5'] at h
      obtain rfl | rfl | rfl | rfl | rfl : n = 0 ∨ n = 1 ∨ n = 2 ∨ n = 3 ∨ n = 4 := by omega
      all_goals
        obtain rfl | rfl | rfl | rfl | rfl : n' = 0 ∨ n' = 1 ∨ n' = 2 ∨ n' = 3 ∨ n' = 4 := by omega
        all_goals first | rfl | (exact absurd h (by decide))
    · exact absurd h (once_far n n' h0 h5 (by omega))
  · by_cases h5' : n' < 5
    · exact absurd h.symm (once_far n' n h0' h5' (by omega))
    · obtain ⟨k1, k2, k3, k4⟩ := spot_kinds hr (n := n) (by omega)
      obtain ⟨l1, l2, l3, l4⟩ := spot_kinds hr (n := n') (by omega)
      have e1 := spot_back hr (n := n) (by omega)
      have e2 := spot_back hr (n := n') (by omega)
      generalize spotF b c d n = s at *
      generalize spotF b c d n' = s' at *
      obtain ⟨k, x, y⟩ := s
      obtain ⟨k', x', y'⟩ := s'
      simp only at k1 k2 k3 k4 l1 l2 l3 l4
      have h1 := congrArg (List.take 2) h
      rw [nameOf_letters ⟨k1, k2⟩, nameOf_letters ⟨l1, l2⟩] at h1
      have hkk := kinds_apart ⟨k1, k2⟩ ⟨l1, l2⟩ h1
      subst hkk
      by_cases h3 : k = 3
      · subst h3
        obtain ⟨f1, f2⟩ := nm2_inj k3 k4 l3 l4 (show nm (kindN 3) [x, y] = nm (kindN 3) [x', y'] from h)
        subst f1; subst f2
        rw [← e1, ← e2]
      · rw [nameOf_other (by omega) h3, nameOf_other (by omega) h3] at h
        have f1 := nm1_inj k3 l3 h
        subst f1
        have e3 : unspot b c d (k, x, y) = unspot b c d (k, x, y') := by unfold unspot; simp only [if_neg h3]
        rw [← e1, ← e2, e3]
theorem kindT_inj {k k' : Int} (hk : 1 ≤ k ∧ k ≤ 4) (hk' : 1 ≤ k' ∧ k' ≤ 4) (h : kindT k = kindT k') : k = k' := by
  obtain rfl | rfl | rfl | rfl : k = 1 ∨ k = 2 ∨ k = 3 ∨ k = 4 := by omega
  all_goals
    obtain rfl | rfl | rfl | rfl : k' = 1 ∨ k' = 2 ∨ k' = 3 ∨ k' = 4 := by omega
    all_goals first | rfl | (exact absurd h (by decide))
theorem accT_inj {a b c d k p k' p' : Int} {x y o x' y' o' : Nat} (h : RightA a b c d k p x y) (h' : RightA a b c d k' p' x' y')
    (hx : x < 18446744073709551616) (hy : y < 18446744073709551616) (ho : o < 18446744073709551616) (hx' : x' < 18446744073709551616) (hy' : y' < 18446744073709551616) (ho' : o' < 18446744073709551616)
    (e : accT b c d k p x y o = accT b c d k' p' x' y' o') : k = k' ∧ p = p' ∧ x = x' ∧ y = y' ∧ o = o' := by
  obtain ⟨hk, hp, hu1, hu2⟩ := h
  obtain ⟨hk', hp', hu1', hu2'⟩ := h'
  have hr := right_of_size hp.1 hp.2
  rw [accT_words, accT_words] at e
  have nosp : ∀ (k p : Int) (x y o : Nat), 0 ≤ p → ∀ z ∈ nameW (spotF b c d p) ++ ((usedW k x y).map textB ++ [[119, 97, 115], textB o]), ∀ q ∈ z, q ≠ 32 := by
    intro k p x y o h0 z hz
    rcases List.mem_append.1 hz with hz | hz
    · exact nameW_no32 hr h0 z hz
    · rcases List.mem_append.1 hz with hz | hz
      · obtain ⟨n, _, rfl⟩ := List.mem_map.1 hz
        exact textB_no32 n
      · simp at hz
        rcases hz with rfl | rfl
        · decide
        · exact textB_no32 o
  obtain ⟨e1, e2⟩ := words_inj _ _ _ _ (kindT_no32 k) (kindT_no32 k') (nosp k p x y o hp.1) (nosp k' p' x' y' o' hp'.1) e
  have hkk := kindT_inj hk hk' e1
  subst hkk
  obtain ⟨e3, e4⟩ := List.append_inj' e2 (by simp [usedW_len])
  obtain ⟨e5, e6⟩ := List.append_inj' e4 rfl
  have hpp : p = p' := by
    refine name_inj hr hp.1 hp'.1 ?_
    obtain ⟨n0, ns, g1, g2⟩ := nameW_some (spotF b c d p)
    obtain ⟨n0', ns', g1', g2'⟩ := nameW_some (spotF b c d p')
    rw [g1, g1'] at e3
    obtain ⟨f1, f2⟩ := List.cons.inj e3
    rw [g2, g2', f1, f2]
  have hoo : o = o' := textB_inj ho ho' (by simpa using e6)
  refine ⟨rfl, hpp, ?_, ?_, hoo⟩
  · rcases cntK_cases k with hc | hc | hc
    · have := hu1 hc; have := hu1' hc; omega
    · unfold usedW at e5; rw [hc] at e5
      exact textB_inj hx hx' (by simpa using e5)
    · unfold usedW at e5; rw [hc] at e5
      have e7 : textB x = textB x' ∧ textB y = textB y' := by simpa using e5
      exact textB_inj hx hx' e7.1
  · rcases cntK_cases k with hc | hc | hc
    · have := hu2 (by omega); have := hu2' (by omega); omega
    · have := hu2 (by omega); have := hu2' (by omega); omega
    · unfold usedW at e5; rw [hc] at e5
      have e7 : textB x = textB x' ∧ textB y = textB y' := by simpa using e5
      exact textB_inj hy hy' e7.2
end Go.Proofs.YtdhejdehlomppaaDoor
