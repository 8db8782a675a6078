/- Plain lemmas: a numeral is read again; a text of words is split into its words; unlike right configurations have unlike texts. -/
import Derived.Test.YtiifeocfphojaaaDoorCfgText
import Derived.Lib.AtoiAllCases
import Derived.Lib.SplitLaws
import Derived.Lib.IndexLaws
import Derived.Lib.ItoaMem
namespace Go.Proofs.YtiifeocfphojaaaDoor
open Go

theorem dec_step {u : Nat} (h : ¬ u < 10) : Lib.decDigits u = Lib.decDigits (u / 10) ++ [UInt8.ofNat (48 + u % 10)] := by rw [Lib.decDigits, dif_neg h]
theorem dec_ne (u : Nat) : Lib.decDigits u ≠ [] := by
  by_cases h : u < 10
  · rw [Lib.decDigits_one h]; simp
  · rw [dec_step h]; simp
theorem toNat_dig (k : Nat) (h : k < 10) : (UInt8.ofNat (48 + k)).toNat = 48 + k := by
  rw [UInt8.toNat_ofNat']; omega
theorem dec_digit (u : Nat) : ∀ c ∈ Lib.decDigits u, 48 ≤ c.toNat ∧ c.toNat ≤ 57 := by
  induction u using Nat.strongRecOn with
  | ind u ih =>
    by_cases h : u < 10
    · rw [Lib.decDigits_one h]; intro c hc
      simp only [List.mem_singleton] at hc; subst hc; rw [toNat_dig _ h]; omega
    · rw [dec_step h]; intro c hc
      rcases List.mem_append.1 hc with hc | hc
      · exact ih (u / 10) (by omega) c hc
      · simp only [List.mem_singleton] at hc; subst hc; rw [toNat_dig _ (by omega)]; omega
theorem parse_append : ∀ (l r : List UInt8) (acc a : Nat), Lib.parseUint10 acc l = .ok a → Lib.parseUint10 acc (l ++ r) = Lib.parseUint10 a r
  | [], r, acc, a, h => by simp only [Lib.parseUint10] at h; cases h; rfl
  | c :: l, r, acc, a, h => by
    rw [List.cons_append]
    generalize hz : Lib.parseUint10 a r = z
    unfold Lib.parseUint10 at h ⊢
    split at h
    · split at h
      · cases h
      · split at h
        · cases h
        · rename_i h1 h2 h3
          rw [if_pos h1, if_neg h2, if_neg h3]
          rw [← hz]; exact parse_append l r _ a h
    · cases h
theorem parse_dec (u : Nat) : u ≤ 9223372036854775807 → Lib.parseUint10 0 (Lib.decDigits u) = .ok u := by
  induction u using Nat.strongRecOn with
  | ind u ih =>
    intro hu
    by_cases h : u < 10
    · rw [Lib.decDigits_one h]
      unfold Lib.parseUint10
      rw [toNat_dig _ h, if_pos (by omega), if_neg (by omega), if_neg (by omega)]
      unfold Lib.parseUint10
      rw [show 0 * 10 + (48 + u - 48) = u by omega]
    · rw [dec_step h, parse_append _ _ _ _ (ih (u / 10) (by omega) (by omega))]
      unfold Lib.parseUint10
      rw [toNat_dig _ (by omega), if_pos (by omega), if_neg (by omega), if_neg (by omega)]
      unfold Lib.parseUint10
      rw [show u / 10 * 10 + (48 + u % 10 - 48) = u by omega]
theorem atoi_dec (u : Nat) (hu : u ≤ 9223372036854775807) : Lib.atoiAll (Lib.decDigits u) = .ok (u : Int) := by
  cases hl : Lib.decDigits u with
  | nil => exact absurd hl (dec_ne u)
  | cons c r =>
    have hc := dec_digit u c (by rw [hl]; simp)
    rw [Lib.atoiAll_plain c r (by omega) (by omega), Lib.parseMag, if_neg (by simp), ← hl, parse_dec u hu]
    unfold Lib.signless
    simp only
    rw [if_neg (by omega)]
theorem itoa_nat {n : Int} (h0 : 0 ≤ n) : Lib.itoa n = Lib.decDigits n.toNat := by unfold Lib.itoa; rw [if_neg (by omega)]
theorem atoi_itoa {n : Int} (h0 : 0 ≤ n) (h1 : n ≤ 4096) : Lib.atoiAll (Lib.itoa n) = .ok n := by
  rw [itoa_nat h0, atoi_dec _ (by omega)]
  congr 1
  omega
theorem itoa_digit {n : Int} (h0 : 0 ≤ n) : ∀ c ∈ Lib.itoa n, 48 ≤ c.toNat ∧ c.toNat ≤ 57 := by rw [itoa_nat h0]; exact dec_digit _
/- splitting -/
theorem occ_one (s : List UInt8) (c : UInt8) (j : Nat) : Lib.occAt s [c] j = (s[j]? == some c) := by
  unfold Lib.occAt
  rw [← List.head?_drop]
  cases h : s.drop j with
  | nil => rfl
  | cons x r =>
    have e : ([c] : List UInt8).isPrefixOf (x :: r) = (c == x) := by simp [List.isPrefixOf]
    rw [e, List.head?_cons, Option.some_beq_some]
    exact BEq.comm
theorem index_word (x r : List UInt8) (c : UInt8) (h : c ∉ x) : Lib.index (x ++ c :: r) [c] = (x.length : Nat) := by
  refine Lib.index_first (by simp) ?_ ?_
  · rw [occ_one]; simp
  · intro j hj
    rw [occ_one, List.getElem?_append_left hj]
    rw [beq_eq_false_iff_ne]
    intro e
    exact h (List.mem_of_getElem? e)
theorem index_no (x : List UInt8) (c : UInt8) (h : c ∉ x) : Lib.index x [c] = -1 := by
  refine Lib.index_none fun j _ => ?_
  rw [occ_one, beq_eq_false_iff_ne]
  intro e
  exact h (List.mem_of_getElem? e)
theorem join_two (x y : List UInt8) (ws : List (List UInt8)) (c : UInt8) : Lib.join (x :: y :: ws) [c] = x ++ c :: Lib.join (y :: ws) [c] := by
  rw [Lib.join_cons, Lib.join_cons]
  simp [Lib.joinTail]
theorem split_join (c : UInt8) : ∀ (ws : List (List UInt8)) (x : List UInt8) (k : Nat), (∀ l ∈ x :: ws, c ∉ l) → ws.length ≤ k → Lib.splitK [c] 0 k (Lib.join (x :: ws) [c]) = x :: ws
  | [], x, k, h, _ => by
    rw [Lib.join_one]
    have hi := index_no x c (h x (by simp))
    cases k with
    | zero => rfl
    | succ k => unfold Lib.splitK; rw [hi]; rfl
  | y :: ws, x, 0, _, hk => by simp at hk
  | y :: ws, x, k + 1, h, hk => by
    have hi := index_word x (Lib.join (y :: ws) [c]) c (h x (by simp))
    rw [join_two]
    unfold Lib.splitK
    rw [hi, if_neg (by rw [beq_iff_eq]; omega)]
    have e1 : (x ++ c :: Lib.join (y :: ws) [c]).take ((x.length : Int).toNat + 0) = x := by simp
    have e2 : (x ++ c :: Lib.join (y :: ws) [c]).drop ((x.length : Int).toNat + [c].length) = Lib.join (y :: ws) [c] := by
      simp [List.drop_append]
    rw [e1, e2, split_join c ws y k (fun l hl => h l (by simp at hl ⊢; right; exact hl)) (by simpa using hk)]
/-- The text s is that of the right configuration. -/
def IsText (s : List UInt8) (a b c d : Int) : Prop := Right a b c d ∧ s = textC a b c d
theorem words_plain {a b c d : Int} (h : Right a b c d) : ∀ l ∈ wordsL a b c d, (32 : UInt8) ∉ l := by
  obtain ⟨h1, h2, h3, h4, h5, h6, h7, h8⟩ := h
  have key : ∀ n : Int, 0 ≤ n → (32 : UInt8) ∉ Lib.itoa n := fun n hn hm => by
    have := itoa_digit hn 32 hm
    simp at this
  intro l hl
  simp only [wordsL, List.mem_cons, List.not_mem_nil, or_false] at hl
  rcases hl with rfl | rfl | rfl | rfl | rfl | rfl | rfl | rfl
  · decide
  · exact key _ (by omega)
  · decide
  · exact key _ (by omega)
  · decide
  · exact key _ (by omega)
  · decide
  · exact key _ (by omega)
theorem text_split {a b c d : Int} (h : Right a b c d) (k : Nat) (hk : 7 ≤ k) : Lib.splitK [32] 0 k (textC a b c d) = wordsL a b c d :=
  split_join 32 _ _ k (words_plain h) hk
theorem IsText.inj {s : List UInt8} {a b c d a' b' c' d' : Int} (h : IsText s a b c d) (h' : IsText s a' b' c' d') : a = a' ∧ b = b' ∧ c = c' ∧ d = d' := by
  have e : wordsL a b c d = wordsL a' b' c' d' := by rw [← text_split h.1 7 (by omega), ← text_split h'.1 7 (by omega), ← h.2, ← h'.2]
  simp only [wordsL, List.cons.injEq, and_true, true_and] at e
  obtain ⟨e1, e2, e3, e4⟩ := e
  obtain ⟨⟨h1, h2, h3, h4, h5, h6, h7, h8⟩, _⟩ := h
  obtain ⟨⟨g1, g2, g3, g4, g5, g6, g7, g8⟩, _⟩ := h'
  have key : ∀ x y : Int, 0 ≤ x → x ≤ 4096 → 0 ≤ y → y ≤ 4096 → Lib.itoa x = Lib.itoa y → x = y := fun x y hx hx' hy hy' e => by
    have h1 := atoi_itoa hx hx'
    rw [e, atoi_itoa hy hy'] at h1
    cases h1; rfl
  exact ⟨key _ _ (by omega) (by omega) (by omega) (by omega) e1, key _ _ (by omega) (by omega) (by omega) (by omega) e2, key _ _ (by omega) (by omega) (by omega) (by omega) e3, key _ _ (by omega) (by omega) (by omega) (by omega) e4⟩
theorem IsText.long {s : List UInt8} {a b c d : Int} (h : IsText s a b c d) : 9 ≤ s.length := by
  rw [h.2]
  unfold textC wordsL
  rw [Lib.join_length]
  simp [Lib.lens]
  omega
end Go.Proofs.YtiifeocfphojaaaDoor
