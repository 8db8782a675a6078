/- Plain lemmas on the texts of operations: a numeral is read again; a text of words is split into its words; the operation of a text, without the numbers that it hasn't, is told from it. -/
import Derived.Test.YtaiioflhkmflgaaDoorOpRefText
import Derived.Lib.AtoiAllCases
import Derived.Lib.SplitLaws
import Derived.Lib.IndexLaws
import Derived.Lib.ItoaMem
namespace Go.Proofs.YtaiioflhkmflgaaDoor
open Go

theorem parse_append : ∀ (l r : List UInt8) (acc a : Nat), Lib.parseUint10 acc l = .ok a → Lib.parseUint10 acc (l ++ r) = Lib.parseUint10 a r
  | [], r, acc, a, h => by simp only [Lib.parseUint10] at h; cases h; rfl
  | c :: l, r, acc, a, h => by
    rw [List.cons_append]
    generalize hz : Lib.parseUint10 a r = z
    unfold Lib.parseUint10 at h ⊢
    split at h
    · split at h
      · cases h
      · split at h
        · cases h
        · rename_i h1 h2 h3
          rw [if_pos h1, if_neg h2, if_neg h3]
          rw [← hz]; exact parse_append l r _ a h
    · cases h
theorem parse_dec (u : Nat) : u ≤ 9223372036854775807 → Lib.parseUint10 0 (Lib.decDigits u) = .ok u := by
  induction u using Nat.strongRecOn with
  | ind u ih =>
    intro hu
    by_cases h : u < 10
    · rw [Lib.decDigits_one h]
      unfold Lib.parseUint10
      rw [toNat_dig _ h, if_pos (by omega), if_neg (by omega), if_neg (by omega)]
      unfold Lib.parseUint10
      rw [show 0 * 10 + (48 + u - 48) = u by omega]
    · rw [dec_step h, parse_append _ _ _ _ (ih (u / 10) (by omega) (by omega))]
      unfold Lib.parseUint10
      rw [toNat_dig _ (by omega), if_pos (by omega), if_neg (by omega), if_neg (by omega)]
      unfold Lib.parseUint10
      rw [show u / 10 * 10 + (48 + u % 10 - 48) = u by omega]
theorem atoi_dec (u : Nat) (hu : u ≤ 9223372036854775807) : Lib.atoiAll (Lib.decDigits u) = .ok (u : Int) := by
  cases hl : Lib.decDigits u with
  | nil => exact absurd hl (dec_ne u)
  | cons c r =>
    have hc := dec_digit u c (by rw [hl]; simp)
    rw [Lib.atoiAll_plain c r (by omega) (by omega), Lib.parseMag, if_neg (by simp), ← hl, parse_dec u hu]
    unfold Lib.signless
    simp only
    rw [if_neg (by omega)]
theorem itoa_nat {n : Int} (h0 : 0 ≤ n) : Lib.itoa n = Lib.decDigits n.toNat := by unfold Lib.itoa; rw [if_neg (by omega)]
theorem atoi_itoa {n : Int} (h0 : 0 ≤ n) (h1 : n ≤ 9223372036854775807) : Lib.atoiAll (Lib.itoa n) = .ok n := by
  rw [itoa_nat h0, atoi_dec _ (by omega)]
  congr 1
  omega
theorem itoa_digit {n : Int} (h0 : 0 ≤ n) : ∀ c ∈ Lib.itoa n, 48 ≤ c.toNat ∧ c.toNat ≤ 57 := by rw [itoa_nat h0]; exact dec_digit _
/- splitting -/
theorem occ_one (s : List UInt8) (c : UInt8) (j : Nat) : Lib.occAt s [c] j = (s[j]? == some c) := by
  unfold Lib.occAt
  rw [← List.head?_drop]
  cases h : s.drop j with
  | nil => rfl
  | cons x r =>
    have e : ([c] : List UInt8).isPrefixOf (x :: r) = (c == x) := by simp [List.isPrefixOf]
    rw [e, List.head?_cons, Option.some_beq_some]
    exact BEq.comm
theorem index_word (x r : List UInt8) (c : UInt8) (h : c ∉ x) : Lib.index (x ++ c :: r) [c] = (x.length : Nat) := by
  refine Lib.index_first (by simp) ?_ ?_
  · rw [occ_one]; simp
  · intro j hj
    rw [occ_one, List.getElem?_append_left hj]
    rw [beq_eq_false_iff_ne]
    intro e
    exact h (List.mem_of_getElem? e)
theorem index_no (x : List UInt8) (c : UInt8) (h : c ∉ x) : Lib.index x [c] = -1 := by
  refine Lib.index_none fun j _ => ?_
  rw [occ_one, beq_eq_false_iff_ne]
  intro e
  exact h (List.mem_of_getElem? e)
theorem join_two (x y : List UInt8) (ws : List (List UInt8)) (c : UInt8) : Lib.join (x :: y :: ws) [c] = x ++ c :: Lib.join (y :: ws) [c] := by
  rw [Lib.join_cons, Lib.join_cons]
  simp [Lib.joinTail]
theorem split_join (c : UInt8) : ∀ (ws : List (List UInt8)) (x : List UInt8) (k : Nat), (∀ l ∈ x :: ws, c ∉ l) → ws.length ≤ k → Lib.splitK [c] 0 k (Lib.join (x :: ws) [c]) = x :: ws
  | [], x, k, h, _ => by
    rw [Lib.join_one]
    have hi := index_no x c (h x (by simp))
    cases k with
    | zero => rfl
    | succ k => unfold Lib.splitK; rw [hi]; rfl
  | y :: ws, x, 0, _, hk => by simp at hk
  | y :: ws, x, k + 1, h, hk => by
    have hi := index_word x (Lib.join (y :: ws) [c]) c (h x (by simp))
    rw [join_two]
    unfold Lib.splitK
    rw [hi, if_neg (by rw [beq_iff_eq]; omega)]
    have e1 : (x ++ c :: Lib.join (y :: ws) [c]).take ((x.length : Int).toNat + 0) = x := by simp
    have e2 : (x ++ c :: Lib.join (y :: ws) [c]).drop ((x.length : Int).toNat + [c].length) = Lib.join (y :: ws) [c] := by
      simp [List.drop_append]
    rw [e1, e2, split_join c ws y k (fun l hl => h l (by simp at hl ⊢; right; exact hl)) (by simpa using hk)]
/-- The text s is that of the operation, which has 0 for the numbers that its kind hasn't. -/
structure IsText (s : List UInt8) (k a b c : Int) : Prop where
  kind : okK k
  na : 0 ≤ a ∧ inI a
  nb : 0 ≤ b ∧ inI b
  nc : 0 ≤ c ∧ inI c
  pb : plB k b = b
  pc : plC k c = c
  text : s = Lib.join (textL k a b c) [32]
theorem IsText.num {s : List UInt8} {k a b c : Int} (h : IsText s k a b c) (i : Nat) : 0 ≤ numF a b c i ∧ inI (numF a b c i) := by
  unfold numF
  split
  · exact h.na
  · exact h.nb
  · exact h.nc
theorem IsText.ok {s : List UInt8} {k a b c : Int} (h : IsText s k a b c) : okT k a b c := ⟨h.kind, fun p hp => by
  unfold nums numsH at hp
  obtain ⟨i, _, rfl⟩ := List.mem_map.1 hp
  exact (h.num i).1⟩
theorem IsText.eq {s : List UInt8} {k a b c : Int} (h : IsText s k a b c) : s = textF k a b c := by
  rw [h.text]; exact (if_pos h.ok).symm
theorem words_eq (k a b c : Int) : wordsN (nums k a b c) = (List.range (hsL k.toNat).length).map fun i => Lib.itoa (numF a b c i) := by
  unfold wordsN nums numsH
  rw [List.map_map]; rfl
theorem nmL_plain (m : Nat) : (32 : UInt8) ∉ nmL m := by
  unfold nmL
  split <;> decide
theorem IsText.plain {s : List UInt8} {k a b c : Int} (h : IsText s k a b c) : ∀ l ∈ textL k a b c, (32 : UInt8) ∉ l := by
  intro l hl
  unfold textL at hl
  rcases List.mem_cons.1 hl with rfl | hl
  · exact nmL_plain _
  · rw [words_eq] at hl
    obtain ⟨i, _, rfl⟩ := List.mem_map.1 hl
    intro hm
    have := itoa_digit (h.num i).1 32 hm
    simp at this
theorem textL_length (k a b c : Int) : (textL k a b c).length = 1 + (hsL k.toNat).length := by
  unfold textL; rw [words_eq]; simp; omega
theorem IsText.split {s : List UInt8} {k a b c : Int} (h : IsText s k a b c) (n : Nat) (hn : (hsL k.toNat).length ≤ n) : Lib.splitK [32] 0 n s = textL k a b c := by
  rw [h.text]
  have := h.plain
  unfold textL at this ⊢
  exact split_join 32 _ _ n this (by rw [words_eq]; simpa using hn)
theorem nmL_inj {m m' : Nat} (h : 1 ≤ m ∧ m ≤ 11) (h' : 1 ≤ m' ∧ m' ≤ 11) (e : nmL m = nmL m') : m = m' := by
  have key : ∀ i : Fin 12, ∀ j : Fin 12, 1 ≤ i.val → 1 ≤ j.val → nmL i.val = nmL j.val → i.val = j.val := by decide
  exact key ⟨m, by omega⟩ ⟨m', by omega⟩ h.1 h'.1 e
theorem itoa_inj {x y : Int} (hx : 0 ≤ x ∧ inI x) (hy : 0 ≤ y ∧ inI y) (e : Lib.itoa x = Lib.itoa y) : x = y := by
  have h1 := atoi_itoa hx.1 hx.2.2
  rw [e, atoi_itoa hy.1 hy.2.2] at h1
  cases h1; rfl
/-- A number that the kind hasn't is 0. -/
theorem IsText.zero {s : List UInt8} {k a b c : Int} (h : IsText s k a b c) {i : Nat} (hi : i < 3) (hl : (hsL k.toNat).length ≤ i) : numF a b c i = 0 := by
  have hc : codeF k.toNat i = 0 := by unfold codeF; rw [List.getElem?_eq_none hl]
  obtain rfl | rfl | rfl : i = 0 ∨ i = 1 ∨ i = 2 := by omega
  · obtain ⟨m, rfl, h1, h2⟩ := h.kind.nat
    obtain rfl | rfl | rfl | rfl | rfl | rfl | rfl | rfl | rfl | rfl | rfl := kind_cases h1 h2
    all_goals simp [hsL] at hl
  · have := h.pb
    unfold plB at this
    rw [if_pos hc] at this
    exact this.symm
  · have := h.pc
    unfold plC at this
    rw [if_pos hc] at this
    exact this.symm
theorem IsText.inj {s : List UInt8} {k a b c k' a' b' c' : Int} (h : IsText s k a b c) (h' : IsText s k' a' b' c') : k = k' ∧ a = a' ∧ b = b' ∧ c = c' := by
  have e : textL k a b c = textL k' a' b' c' := by rw [← h.split 3 (hsL_short _), ← h'.split 3 (hsL_short _)]
  unfold textL at e
  rw [List.cons.injEq] at e
  obtain ⟨e1, e2⟩ := e
  have hk := h.kind; have hk' := h'.kind
  unfold okK at hk hk'
  have ek : k.toNat = k'.toNat := nmL_inj (by omega) (by omega) e1
  obtain rfl : k = k' := by omega
  rw [words_eq, words_eq] at e2
  have key : ∀ i, i < 3 → numF a b c i = numF a' b' c' i := fun i hi => by
    by_cases hl : (hsL k.toNat).length ≤ i
    · rw [h.zero hi hl, h'.zero hi hl]
    · have := congrArg (fun l => l[i]?) e2
      simp [show i < (hsL k.toNat).length by omega] at this
      exact itoa_inj (h.num i) (h'.num i) this
  exact ⟨rfl, key 0 (by omega), key 1 (by omega), key 2 (by omega)⟩
theorem IsText.long {s : List UInt8} {k a b c : Int} (h : IsText s k a b c) : (hsL k.toNat).length < s.length := by
  rw [h.text]
  obtain ⟨m, rfl, h1, h2⟩ := h.kind.nat
  have hp : 0 < (nmL m).length := List.length_pos_iff.2 (nmL_ne h1 h2)
  have hw : (wordsN (nums (m : Int) a b c)).length = (hsL m).length := by rw [words_eq]; simp
  show (hsL m).length < _
  unfold textL
  rw [Lib.join_length, ← hw]
  have hlen : Lib.lens (nmL (m : Int).toNat :: wordsN (nums (m : Int) a b c)) = (nmL m).length + Lib.lens (wordsN (nums (m : Int) a b c)) := by
    show Lib.lens (nmL m :: _) = _
    simp [Lib.lens]
  rw [hlen]
  simp only [List.length_cons, List.length_nil]
  omega
/-- The words of a text, as the library splits it. -/
theorem IsText.pieces {S : ByteArray} {k a b c : Int} (h : IsText S.data.toList k a b c) : (Lib.splitB ⟨#[32]⟩ 0 (min 4 (S.size + 1) - 1) S).map (·.data.toList) = textL k a b c := by
  have hl := h.long
  have hs := hsL_short k.toNat
  have hz : S.data.toList.length = S.size := by simp
  rw [Lib.splitB_data, show (⟨#[32]⟩ : ByteArray).data.toList = [32] from rfl, h.split _ (by omega)]
theorem splitB_small (sep : ByteArray) : ∀ (k : Nat) (S : ByteArray), ∀ p ∈ Lib.splitB sep 0 k S, p.size ≤ S.size
  | 0, S, p, h => by simp [Lib.splitB] at h; subst h; exact Nat.le_refl _
  | k + 1, S, p, h => by
    unfold Lib.splitB at h
    split at h
    · simp at h; subst h; exact Nat.le_refl _
    · rcases List.mem_cons.1 h with rfl | h
      · rw [ByteArray.size_extract]; omega
      · have := splitB_small sep k _ p h
        rw [ByteArray.size_extract] at this
        omega
theorem splitB_some (sep : ByteArray) (k : Nat) (S : ByteArray) : ∃ p r, Lib.splitB sep 0 k S = p :: r := by
  cases k with
  | zero => exact ⟨S, [], rfl⟩
  | succ k =>
    unfold Lib.splitB
    split
    · exact ⟨_, _, rfl⟩
    · exact ⟨_, _, rfl⟩
theorem IsText.piece {S : ByteArray} {k a b c : Int} (h : IsText S.data.toList k a b c) {p : ByteArray} {r : List ByteArray} (e : Lib.splitB ⟨#[32]⟩ 0 (min 4 (S.size + 1) - 1) S = p :: r) :
    p.data.toList = nmL k.toNat ∧ r.length = (hsL k.toNat).length ∧ ∀ i u, r[i]? = some u → Lib.atoiAll u.data.toList = .ok (numF a b c i) := by
  have hp := h.pieces
  rw [e] at hp
  unfold textL at hp
  rw [List.map_cons, List.cons.injEq] at hp
  obtain ⟨h1, h2⟩ := hp
  rw [words_eq] at h2
  refine ⟨h1, ?_, fun i u hu => ?_⟩
  · have := congrArg List.length h2
    simpa using this
  · have := congrArg (fun l => l[i]?) h2
    simp only [List.getElem?_map, hu, Option.map_some] at this
    have hi : i < (hsL k.toNat).length := by
      have hl := congrArg List.length h2
      simp at hl
      have := (List.getElem?_eq_some_iff.1 hu).1
      omega
    rw [List.getElem?_range hi, Option.map_some, Option.some.injEq] at this
    rw [this]
    exact atoi_itoa (h.num i).1 (h.num i).2.2
end Go.Proofs.YtaiioflhkmflgaaDoor
