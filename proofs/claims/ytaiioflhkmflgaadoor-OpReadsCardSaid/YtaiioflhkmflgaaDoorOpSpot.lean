/- Plain lemmas on the text of an operation, for the document's way of reading it: what is behind each place, and what the digits ahead of a place spell. -/
import Derived.Test.YtaiioflhkmflgaaDoorOpParse
namespace Go.Proofs.YtaiioflhkmflgaaDoor
open Go Go.RowKit

/-- What digits spell. -/
def valL (l : List UInt8) : Int := l.foldl (fun n c => 10 * n + (c.toNat : Int) - 48) 0
theorem valL_nil : valL [] = 0 := rfl
theorem valL_snoc (l : List UInt8) (c : UInt8) : valL (l ++ [c]) = 10 * valL l + (c.toNat : Int) - 48 := by simp [valL]
theorem valL_dec (u : Nat) : valL (Lib.decDigits u) = u := by
  induction u using Nat.strongRecOn with
  | ind u ih =>
    by_cases h : u < 10
    · rw [Lib.decDigits_one h]
      show 10 * 0 + ((UInt8.ofNat (48 + u)).toNat : Int) - 48 = u
      rw [toNat_dig _ h]; omega
    · rw [dec_step h, valL_snoc, ih (u / 10) (by omega), toNat_dig _ (by omega)]; omega
theorem valL_itoa {n : Int} (h : 0 ≤ n) : valL (Lib.itoa n) = n := by rw [itoa_nat h, valL_dec]; omega
theorem fold_le : ∀ (l : List UInt8) (n : Int), 0 ≤ n → (∀ c ∈ l, 48 ≤ c.toNat ∧ c.toNat ≤ 57) → n ≤ l.foldl (fun n c => 10 * n + (c.toNat : Int) - 48) n
  | [], n, _, _ => Int.le_refl _
  | c :: l, n, hn, h => by
    have hc := h c (by simp)
    have := fold_le l (10 * n + (c.toNat : Int) - 48) (by omega) (fun x hx => h x (by simp [hx]))
    simp only [List.foldl_cons]
    omega
theorem valL_pos (l : List UInt8) (h : ∀ c ∈ l, 48 ≤ c.toNat ∧ c.toNat ≤ 57) : 0 ≤ valL l := fold_le l 0 (by omega) h
theorem valL_le (l r : List UInt8) (h : ∀ c ∈ l ++ r, 48 ≤ c.toNat ∧ c.toNat ≤ 57) : valL l ≤ valL (l ++ r) := by
  have h1 := valL_pos l (fun x hx => h x (by simp [hx]))
  have h2 := fold_le r (valL l) h1 (fun x hx => h x (by simp [hx]))
  unfold valL at *
  rw [List.foldl_append]
  exact h2
theorem drop_one {l : List UInt8} {n : Nat} {x : UInt8} {r : List UInt8} (h : l.drop n = x :: r) : l[n]? = some x ∧ l.drop (n + 1) = r ∧ n < l.length := by
  have h0 : n < l.length := by
    rcases Nat.lt_or_ge n l.length with h' | h'
    · exact h'
    · rw [List.drop_eq_nil_of_le h'] at h; cases h
  rw [List.drop_eq_getElem_cons h0] at h
  injection h with h1 h2
  exact ⟨by rw [List.getElem?_eq_getElem h0, h1], h2, h0⟩
theorem nDigits_lt : ∀ (k u : Nat), u < 10 ^ (k + 1) → Lib.nDigits u ≤ k + 1
  | 0, u, h => by rw [Lib.nDigits_small (by simpa using h)]; omega
  | k + 1, u, h => by
    by_cases h10 : u < 10
    · rw [Lib.nDigits_small h10]; omega
    · rw [Lib.nDigits_big h10]
      have := nDigits_lt k (u / 10) (by rw [Nat.pow_succ] at h; omega)
      omega
theorem itoa_19 {n : Int} (h0 : 0 ≤ n) (h1 : n ≤ 9223372036854775807) : (Lib.itoa n).length ≤ 19 := by
  rw [itoa_nat h0, Lib.decDigits_length]
  exact nDigits_lt 18 _ (by omega)
/-- What is left of a text from its q-th number on. -/
def tl (ws : List (List UInt8)) (q : Nat) : List UInt8 := ((ws.drop q).map (fun l => 32 :: l)).flatten
theorem tl_next {ws : List (List UInt8)} {q : Nat} {y : List UInt8} (h : ws[q]? = some y) : tl ws q = 32 :: (y ++ tl ws (q + 1)) := by
  obtain ⟨h1, h2⟩ := List.getElem?_eq_some_iff.1 h
  unfold tl
  rw [List.drop_eq_getElem_cons h1, h2]
  simp
theorem tl_end {ws : List (List UInt8)} {q : Nat} (h : ws.length ≤ q) : tl ws q = [] := by
  unfold tl
  rw [List.drop_eq_nil_of_le h]; rfl
theorem tl_form (ws : List (List UInt8)) (q : Nat) : tl ws q = [] ∨ ∃ r, tl ws q = 32 :: r := by
  cases h : ws[q]? with
  | none => exact .inl (tl_end (List.getElem?_eq_none_iff.1 h))
  | some y => exact .inr ⟨_, tl_next h⟩
theorem join_tl (x : List UInt8) (ws : List (List UInt8)) : Lib.join (x :: ws) [32] = x ++ tl ws 0 := by
  rw [Lib.join_cons]
  unfold tl Lib.joinTail
  rfl
def wsL (k a b c : Int) : List (List UInt8) := wordsN (nums k a b c)
theorem ws_at {k : Int} (a b c : Int) {q : Nat} (h : q < (hsL k.toNat).length) : (wsL k a b c)[q]? = some (Lib.itoa (numF a b c q)) := by
  unfold wsL
  rw [words_eq, List.getElem?_map, List.getElem?_range h]; rfl
theorem ws_len (k a b c : Int) : (wsL k a b c).length = (hsL k.toNat).length := by unfold wsL; rw [words_eq]; simp
theorem hs_pos {k : Int} (h : okK k) : 0 < (hsL k.toNat).length := by
  obtain ⟨m, rfl, h1, h2⟩ := h.nat
  obtain rfl | rfl | rfl | rfl | rfl | rfl | rfl | rfl | rfl | rfl | rfl := kind_cases h1 h2
  all_goals decide
/-- .. within the word. -/
def InName (S : List UInt8) (p : Nat) : Prop := ∀ k a b c, IsText S k a b c → ∃ y, S.drop p = y ++ tl (wsL k a b c) 0 ∧ (32 : UInt8) ∉ y
/-- What is known ahead of the q-th number, if it is a text. -/
def AtNum (S : List UInt8) (q p : Nat) (f : Nat → Int) : Prop :=
  ∀ k a b c, IsText S k a b c → q ≤ (hsL k.toNat).length ∧ S.drop p = tl (wsL k a b c) q ∧ ∀ i, i < q → f i = numF a b c i
/-- .. within the q-th number, behind n of its digits. -/
def InNum (S : List UInt8) (q p n : Nat) (f : Nat → Int) : Prop :=
  ∀ k a b c, IsText S k a b c → q < (hsL k.toNat).length ∧ (∀ i, i < q → f i = numF a b c i) ∧ ∃ y z, Lib.itoa (numF a b c q) = y ++ z ∧ S.drop p = z ++ tl (wsL k a b c) (q + 1) ∧ f q = valL y ∧ y.length = n
theorem InName.start (S : List UInt8) : InName S 0 := fun k a b c h => ⟨nmL k.toNat, by rw [List.drop_zero, h.text]; exact join_tl _ _, nmL_plain _⟩
theorem InName.next {S : List UInt8} {p : Nat} {x : UInt8} (h : InName S p) (hx : S[p]? = some x) (hn : x ≠ 32) : InName S (p + 1) := fun k a b c ht => by
  obtain ⟨y, hy, hp⟩ := h k a b c ht
  cases y with
  | nil =>
    rw [List.nil_append, tl_next (ws_at a b c (hs_pos ht.kind))] at hy
    exact absurd (Option.some.inj (hx.symm.trans (drop_one hy).1)) hn
  | cons q y => exact ⟨y, (drop_one hy).2.1, fun hm => hp (by simp [hm])⟩
theorem InName.leave {S : List UInt8} {p : Nat} {f : Nat → Int} (h : InName S p) (hx : ∀ x, S[p]? = some x → x = 32) : AtNum S 0 p f := fun k a b c ht => by
  obtain ⟨y, hy, hp⟩ := h k a b c ht
  cases y with
  | nil => exact ⟨by omega, hy, fun i hi => by omega⟩
  | cons q y => exact absurd (hx q (drop_one hy).1) (fun e => hp (by simp [e]))
theorem AtNum.enter {S : List UInt8} {q p : Nat} {f : Nat → Int} {x : UInt8} (h : AtNum S q p f) (hx : S[p]? = some x) (hf : f q = 0) : InNum S q (p + 1) 0 f := fun k a b c ht => by
  obtain ⟨h1, h2, h3⟩ := h k a b c ht
  have hl := (List.getElem?_eq_some_iff.1 hx).1
  have hlt : q < (hsL k.toNat).length := by
    rcases Nat.lt_or_ge q (hsL k.toNat).length with h' | h'
    · exact h'
    · rw [tl_end (by rw [ws_len]; exact h')] at h2
      have := congrArg List.length h2
      simp at this
      omega
  rw [tl_next (ws_at a b c hlt)] at h2
  exact ⟨hlt, h3, [], _, by simp, (drop_one h2).2.1, by rw [hf]; rfl, rfl⟩
/-- The next letter of a number. -/
theorem InNum.digit {S : List UInt8} {q p n : Nat} {f : Nat → Int} {x : UInt8} (h : InNum S q p n f) (hx : S[p]? = some x) (hn : x ≠ 32) {k a b c : Int} (ht : IsText S k a b c) :
    (48 ≤ x.toNat ∧ x.toNat ≤ 57) ∧ n ≤ 18 ∧ 10 * f q + (x.toNat : Int) - 48 ≤ 9223372036854775807 ∧ ∃ y z, Lib.itoa (numF a b c q) = y ++ x :: z ∧ S.drop (p + 1) = z ++ tl (wsL k a b c) (q + 1) ∧ f q = valL y ∧ y.length = n := by
  obtain ⟨h1, h2, y, z, hz, hp, hf, hl⟩ := h k a b c ht
  cases z with
  | nil =>
    exfalso
    rw [List.nil_append] at hp
    rcases tl_form (wsL k a b c) (q + 1) with e | ⟨r, e⟩
    · rw [e] at hp
      have hl := (List.getElem?_eq_some_iff.1 hx).1
      have := congrArg List.length hp
      simp at this
      omega
    · rw [e] at hp
      exact hn (Option.some.inj (hx.symm.trans (drop_one hp).1))
  | cons u z =>
    obtain ⟨g1, g2, _⟩ := drop_one hp
    obtain rfl : x = u := Option.some.inj (hx.symm.trans g1)
    have hd := itoa_digit (ht.num q).1
    have h19 := itoa_19 (ht.num q).1 (ht.num q).2.2
    have hv := valL_itoa (ht.num q).1
    rw [hz] at hd h19 hv
    refine ⟨hd x (by simp), ?_, ?_, y, z, hz, g2, hf, hl⟩
    · simp at h19; omega
    · have e : y ++ x :: z = (y ++ [x]) ++ z := by simp
      rw [e] at hd hv
      have := valL_le (y ++ [x]) z hd
      rw [hv, valL_snoc, ← hf] at this
      have := (ht.num q).2.2
      omega
theorem InNum.next {S : List UInt8} {q p n : Nat} {f : Nat → Int} {x : UInt8} {v : Int} (h : InNum S q p n f) (hx : S[p]? = some x) (hn : x ≠ 32) (hv : v = 10 * f q + (x.toNat : Int) - 48) : InNum S q (p + 1) (n + 1) (setF f q v) := fun k a b c ht => by
  obtain ⟨_, _, _, y, z, hz, hp, hf, hl⟩ := h.digit hx hn ht
  obtain ⟨h1, h2, _⟩ := h k a b c ht
  refine ⟨h1, fun i hi => ?_, y ++ [x], z, by simp [hz], hp, ?_, by simp [hl]⟩
  · simp only [setF, if_neg (show i ≠ q by omega)]; exact h2 i hi
  · rw [valL_snoc, ← hf]; simp only [setF, if_pos]; exact hv
theorem InNum.leave {S : List UInt8} {q p n : Nat} {f : Nat → Int} (h : InNum S q p n f) (hx : ∀ x, S[p]? = some x → x = 32) : AtNum S (q + 1) p f := fun k a b c ht => by
  obtain ⟨h1, h2, y, z, hz, hp, hf, hl⟩ := h k a b c ht
  cases z with
  | cons u z =>
    exfalso
    have e := hx u (drop_one hp).1
    have := itoa_digit (ht.num q).1 u (by rw [hz]; simp)
    rw [e] at this
    simp at this
  | nil =>
    refine ⟨by omega, hp, fun i hi => ?_⟩
    by_cases e : i < q
    · exact h2 i e
    · obtain rfl : i = q := by omega
      rw [hf]
      have := valL_itoa (ht.num i).1
      rw [hz, List.append_nil] at this
      exact this
theorem AtNum.fin {S : List UInt8} {q p : Nat} {f : Nat → Int} (h : AtNum S q p f) (hx : S.length ≤ p ∨ 4 ≤ q) (hf : ∀ i, q ≤ i → f i = 0) {k a b c : Int} (ht : IsText S k a b c) : f 0 = a ∧ f 1 = b ∧ f 2 = c := by
  obtain ⟨h1, h2, h3⟩ := h k a b c ht
  have hs := hsL_short k.toNat
  have hq : q = (hsL k.toNat).length := by
    rcases hx with hx | hx
    · rcases Nat.lt_or_ge q (hsL k.toNat).length with h' | h'
      · rw [tl_next (ws_at a b c h'), List.drop_eq_nil_of_le hx] at h2
        cases h2
      · omega
    · omega
  have key : ∀ i, i < 3 → f i = numF a b c i := fun i hi => by
    by_cases e : i < q
    · exact h3 i e
    · rw [hf i (by omega), ht.zero hi (by omega)]
  exact ⟨key 0 (by omega), key 1 (by omega), key 2 (by omega)⟩
end Go.Proofs.YtaiioflhkmflgaaDoor
