/- Plain lemmas on decimal numerals: unlike numbers have unlike numerals, unlike words unlike texts. -/
import Derived.Test.YtdhejdehlomppaaDoorDigits
import Derived.Lib.ItoaNum
import Derived.Lib.ItoaLen
namespace Go.Proofs.YtdhejdehlomppaaDoor
open Go

theorem dec_inj : ∀ (u v : Nat), Lib.decDigits u = Lib.decDigits v → u = v := by
  intro u
  induction u using Nat.strongRecOn with
  | ind u ih =>
    intro v h
    by_cases hu : u < 10
    · by_cases hv : v < 10
      · rw [Lib.decDigits_one hu, Lib.decDigits_one hv] at h
        have h1 := congrArg (fun l => (l.headD 0).toNat) h
        simp only [List.headD_cons] at h1
        rw [toNat_dig _ hu, toNat_dig _ hv] at h1
        omega
      · rw [Lib.decDigits_one hu, dec_step hv] at h
        have h1 := congrArg List.length h
        have h2 := List.length_pos_iff.2 (dec_ne (v / 10))
        rw [List.length_append] at h1
        simp only [List.length_cons, List.length_nil] at h1
        omega
    · by_cases hv : v < 10
      · rw [Lib.decDigits_one hv, dec_step hu] at h
        have h1 := congrArg List.length h
        have h2 := List.length_pos_iff.2 (dec_ne (u / 10))
        rw [List.length_append] at h1
        simp only [List.length_cons, List.length_nil] at h1
        omega
      · rw [dec_step hu, dec_step hv] at h
        have h1 := List.append_inj' h rfl
        have h2 := ih (u / 10) (by omega) _ h1.1
        have h3 := congrArg (fun l => (l.headD 0).toNat) h1.2
        simp only [List.headD_cons] at h3
        rw [toNat_dig _ (by omega), toNat_dig _ (by omega)] at h3
        omega
def markB (n : Nat) : List UInt8 := if n % 2 = 0 then [] else if n < 8192 then [35] else [63]
def textB (n : Nat) : List UInt8 := markB n ++ Lib.decDigits (n / 2)
theorem dec_head (u : Nat) (c : UInt8) (l : List UInt8) (h : Lib.decDigits u = c :: l) : 48 ≤ c.toNat ∧ c.toNat ≤ 57 := dec_digit u c (by rw [h]; simp)
theorem textB_inj {n m : Nat} (_ : n < 18446744073709551616) (_ : m < 18446744073709551616) (h : textB n = textB m) : n = m := by
  unfold textB markB at h
  have key : ∀ (c : UInt8) (l : List UInt8) (u : Nat), (c = 35 ∨ c = 63) → c :: l ≠ Lib.decDigits u := by
    intro c l u hc e
    have := dec_head u c l e.symm
    rcases hc with rfl | rfl <;> simp at this
  by_cases h1 : n % 2 = 0 <;> by_cases h2 : m % 2 = 0
  · rw [if_pos h1, if_pos h2] at h
    have := dec_inj _ _ h
    omega
  · rw [if_pos h1, if_neg h2] at h
    exfalso
    split at h
    · exact key 35 _ _ (Or.inl rfl) h.symm
    · exact key 63 _ _ (Or.inr rfl) h.symm
  · rw [if_neg h1, if_pos h2] at h
    exfalso
    split at h
    · exact key 35 _ _ (Or.inl rfl) h
    · exact key 63 _ _ (Or.inr rfl) h
  · rw [if_neg h1, if_neg h2] at h
    have hd : Lib.decDigits (n / 2) = Lib.decDigits (m / 2) := by
      split at h <;> split at h <;> simp at h <;> exact h
    have := dec_inj _ _ hd
    omega
theorem textB_short (n : Nat) (h : n < 18446744073709551616) : (markB n).length ≤ 1 ∧ (Lib.decDigits (n / 2)).length ≤ 20 := by
  refine ⟨?_, ?_⟩
  · unfold markB; split; · simp
    split <;> simp
  · rw [Lib.decDigits_length]; exact Lib.nDigits_le20 _ (by omega)
end Go.Proofs.YtdhejdehlomppaaDoor
