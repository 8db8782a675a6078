/- Plain lemmas on decimal numerals: a numeral is read again; unlike words have unlike texts. -/
import Derived.Lib.ItoaNum
import Derived.Lib.ItoaLen
import Derived.Lib.ParseIntB
namespace Go.Proofs.YtlnnnjlmfndlbaaDoor
open Go

theorem dec_step {u : Nat} (h : ¬ u < 10) : Lib.decDigits u = Lib.decDigits (u / 10) ++ [UInt8.ofNat (48 + u % 10)] := by rw [Lib.decDigits, dif_neg h]
theorem dec_ne (u : Nat) : Lib.decDigits u ≠ [] := by
  by_cases h : u < 10
  · rw [Lib.decDigits_one h]; simp
  · rw [dec_step h]; simp
theorem toNat_dig (k : Nat) (h : k < 10) : (UInt8.ofNat (48 + k)).toNat = 48 + k := by
  rw [UInt8.toNat_ofNat']; omega
theorem dec_digit (u : Nat) : ∀ c ∈ Lib.decDigits u, 48 ≤ c.toNat ∧ c.toNat ≤ 57 := by
  induction u using Nat.strongRecOn with
  | ind u ih =>
    by_cases h : u < 10
    · rw [Lib.decDigits_one h]; intro c hc
      simp only [List.mem_singleton] at hc; subst hc; rw [toNat_dig _ h]; omega
    · rw [dec_step h]; intro c hc
      rcases List.mem_append.1 hc with hc | hc
      · exact ih (u / 10) (by omega) c hc
      · simp only [List.mem_singleton] at hc; subst hc; rw [toNat_dig _ (by omega)]; omega
theorem parse_append (M : Nat) : ∀ (l r : List UInt8) (acc a : Nat), Lib.parseUintM M acc l = .ok a → Lib.parseUintM M acc (l ++ r) = Lib.parseUintM M a r
  | [], r, acc, a, h => by simp only [Lib.parseUintM] at h; cases h; rfl
  | c :: l, r, acc, a, h => by
    rw [List.cons_append]
    generalize hz : Lib.parseUintM M a r = z
    unfold Lib.parseUintM at h ⊢
    split at h
    · split at h
      · cases h
      · split at h
        · cases h
        · rename_i h1 h2 h3
          rw [if_pos h1, if_neg h2, if_neg h3]
          rw [← hz]; exact parse_append M l r _ a h
    · cases h
theorem parse_dec (u : Nat) : u ≤ 9223372036854775807 → Lib.parseUintM 9223372036854775807 0 (Lib.decDigits u) = .ok u := by
  induction u using Nat.strongRecOn with
  | ind u ih =>
    intro hu
    by_cases h : u < 10
    · rw [Lib.decDigits_one h]
      unfold Lib.parseUintM
      rw [toNat_dig _ h, if_pos (by omega), if_neg (by omega), if_neg (by omega)]
      unfold Lib.parseUintM
      rw [show 0 * 10 + (48 + u - 48) = u by omega]
    · rw [dec_step h, parse_append _ _ _ _ _ (ih (u / 10) (by omega) (by omega))]
      unfold Lib.parseUintM
      rw [toNat_dig _ (by omega), if_pos (by omega), if_neg (by omega), if_neg (by omega)]
      unfold Lib.parseUintM
      rw [show u / 10 * 10 + (48 + u % 10 - 48) = u by omega]
theorem parse_le : ∀ (l : List UInt8) (acc u : Nat), acc ≤ 9223372036854775807 → Lib.parseUintM 9223372036854775807 acc l = .ok u → u ≤ 9223372036854775807
  | [], acc, u, h, e => by simp only [Lib.parseUintM] at e; cases e; exact h
  | c :: l, acc, u, h, e => by
    unfold Lib.parseUintM at e
    split at e
    · split at e
      · cases e
      · split at e
        · cases e
        · exact parse_le l _ u (by omega) e
    · cases e

def markB (n : Nat) : List UInt8 := if n % 2 = 0 then [] else if n < 8192 then [35] else [63]
def textB (n : Nat) : List UInt8 := markB n ++ Lib.decDigits (n / 2)
theorem dec_inj {a b : Nat} (ha : a ≤ 9223372036854775807) (hb : b ≤ 9223372036854775807) (h : Lib.decDigits a = Lib.decDigits b) : a = b := by
  have h1 := parse_dec a ha
  rw [h, parse_dec b hb] at h1
  cases h1; rfl
theorem dec_head (u : Nat) (c : UInt8) (l : List UInt8) (h : Lib.decDigits u = c :: l) : 48 ≤ c.toNat ∧ c.toNat ≤ 57 := dec_digit u c (by rw [h]; simp)
theorem textB_inj {n m : Nat} (hn : n < 18446744073709551616) (hm : m < 18446744073709551616) (h : textB n = textB m) : n = m := by
  unfold textB markB at h
  have key : ∀ (c : UInt8) (l : List UInt8) (u : Nat), (c = 35 ∨ c = 63) → c :: l ≠ Lib.decDigits u := by
    intro c l u hc e
    have := dec_head u c l e.symm
    rcases hc with rfl | rfl <;> simp at this
  by_cases h1 : n % 2 = 0 <;> by_cases h2 : m % 2 = 0
  · rw [if_pos h1, if_pos h2] at h
    have := dec_inj (by omega) (by omega) h
    omega
  · rw [if_pos h1, if_neg h2] at h
    exfalso
    split at h
    · exact key 35 _ _ (Or.inl rfl) h.symm
    · exact key 63 _ _ (Or.inr rfl) h.symm
  · rw [if_neg h1, if_pos h2] at h
    exfalso
    split at h
    · exact key 35 _ _ (Or.inl rfl) h
    · exact key 63 _ _ (Or.inr rfl) h
  · rw [if_neg h1, if_neg h2] at h
    have hd : Lib.decDigits (n / 2) = Lib.decDigits (m / 2) := by
      split at h <;> split at h <;> simp at h <;> exact h
    have := dec_inj (by omega) (by omega) hd
    omega
theorem textB_short (n : Nat) (h : n < 18446744073709551616) : (markB n).length ≤ 1 ∧ (Lib.decDigits (n / 2)).length ≤ 20 := by
  refine ⟨?_, ?_⟩
  · unfold markB; split; · simp
    split <;> simp
  · rw [Lib.decDigits_length]; exact Lib.nDigits_le20 _ (by omega)
theorem dec_short (u : Nat) (h : u ≤ 9223372036854775807) : (Lib.decDigits u).length ≤ 19 := by
  rw [Lib.decDigits_length]
  rcases Nat.lt_or_ge (Lib.nDigits u) 20 with h1 | h1
  · omega
  · exfalso
    have h20 := Lib.nDigits_le20 u (by omega)
    have hp := Lib.decDigits_length u
    have : Lib.nDigits u = 20 := by omega
    have hlow : 10 ^ 19 ≤ u := by
      rcases Nat.lt_or_ge u (10 ^ 19) with h2 | h2
      · exfalso
        have key : ∀ (k u : Nat), u < 10 ^ (k + 1) → Lib.nDigits u ≤ k + 1 := by
          intro k
          induction k with
          | zero => intro u hu; rw [Lib.nDigits_small (by omega)]; omega
          | succ k ih =>
            intro u hu
            by_cases h10 : u < 10
            · rw [Lib.nDigits_small h10]; omega
            · rw [Lib.nDigits_big h10]
              have := ih (u / 10) (by rw [Nat.pow_succ] at hu; omega)
              omega
        have := key 18 u h2
        omega
      · exact h2
    omega
end Go.Proofs.YtlnnnjlmfndlbaaDoor
