/- Plain lemmas on the text of a right configuration, for the document's way of reading it: what is behind each place, and what the digits ahead of a place spell. -/
import Derived.Test.YtiifeocfphojaaaDoorCfgRefText
namespace Go.Proofs.YtiifeocfphojaaaDoor
open Go

def nameL (k : Nat) : List UInt8 := if k = 0 then [99, 101, 108, 108, 115] else if k = 1 then [109, 117, 116, 115] else if k = 2 then [114, 101, 103, 115] else [103, 108, 111, 98, 115]
def numL (a b c d : Int) (k : Nat) : Int := if k = 0 then a else if k = 1 then b else if k = 2 then c else d
/-- What is left of the text from its k-th name on. -/
def restL (a b c d : Int) (k : Nat) : List UInt8 := Lib.join ((wordsL a b c d).drop (2 * k)) [32]
def tailL (a b c d : Int) (k : Nat) : List UInt8 := if k < 3 then 32 :: restL a b c d (k + 1) else []
theorem restL_parts (a b c d : Int) (k : Nat) (hk : k < 4) : restL a b c d k = nameL k ++ 32 :: (Lib.itoa (numL a b c d k) ++ tailL a b c d k) := by
  obtain rfl | rfl | rfl | rfl : k = 0 ∨ k = 1 ∨ k = 2 ∨ k = 3 := by omega
  · show Lib.join (_ :: _ :: _) [32] = _
    rw [join_two]
    show _ ++ 32 :: Lib.join (_ :: _ :: _) [32] = _
    rw [join_two]; rfl
  · show Lib.join (_ :: _ :: _) [32] = _
    rw [join_two]
    show _ ++ 32 :: Lib.join (_ :: _ :: _) [32] = _
    rw [join_two]; rfl
  · show Lib.join (_ :: _ :: _) [32] = _
    rw [join_two]
    show _ ++ 32 :: Lib.join (_ :: _ :: _) [32] = _
    rw [join_two]; rfl
  · show Lib.join (_ :: _ :: []) [32] = _
    rw [join_two, Lib.join_one]
    simp [nameL, numL, tailL]
theorem nameL_plain (k : Nat) : (32 : UInt8) ∉ nameL k := by
  unfold nameL
  split
  · decide
  · split
    · decide
    · split <;> decide
theorem numL_right {a b c d : Int} (h : Right a b c d) (k : Nat) : 0 ≤ numL a b c d k ∧ numL a b c d k ≤ 4096 := by
  obtain ⟨h1, h2, h3, h4, h5, h6, h7, h8⟩ := h
  unfold numL
  split
  · omega
  · split
    · omega
    · split <;> omega
/-- What digits spell. -/
def valL (l : List UInt8) : Int := l.foldl (fun n c => 10 * n + (c.toNat : Int) - 48) 0
theorem valL_nil : valL [] = 0 := rfl
theorem valL_snoc (l : List UInt8) (c : UInt8) : valL (l ++ [c]) = 10 * valL l + (c.toNat : Int) - 48 := by simp [valL]
theorem valL_dec (u : Nat) : valL (Lib.decDigits u) = u := by
  induction u using Nat.strongRecOn with
  | ind u ih =>
    by_cases h : u < 10
    · rw [Lib.decDigits_one h]
      show 10 * 0 + ((UInt8.ofNat (48 + u)).toNat : Int) - 48 = u
      rw [toNat_dig _ h]; omega
    · rw [dec_step h, valL_snoc, ih (u / 10) (by omega), toNat_dig _ (by omega)]; omega
theorem valL_itoa {n : Int} (h : 0 ≤ n) : valL (Lib.itoa n) = n := by rw [itoa_nat h, valL_dec]; omega
theorem fold_le : ∀ (l : List UInt8) (n : Int), 0 ≤ n → (∀ c ∈ l, 48 ≤ c.toNat ∧ c.toNat ≤ 57) → n ≤ l.foldl (fun n c => 10 * n + (c.toNat : Int) - 48) n
  | [], n, _, _ => Int.le_refl _
  | c :: l, n, hn, h => by
    have hc := h c (by simp)
    have := fold_le l (10 * n + (c.toNat : Int) - 48) (by omega) (fun x hx => h x (by simp [hx]))
    simp only [List.foldl_cons]
    omega
theorem valL_pos (l : List UInt8) (h : ∀ c ∈ l, 48 ≤ c.toNat ∧ c.toNat ≤ 57) : 0 ≤ valL l := fold_le l 0 (by omega) h
theorem valL_le (l r : List UInt8) (h : ∀ c ∈ l ++ r, 48 ≤ c.toNat ∧ c.toNat ≤ 57) : valL l ≤ valL (l ++ r) := by
  have h1 := valL_pos l (fun x hx => h x (by simp [hx]))
  have h2 := fold_le r (valL l) h1 (fun x hx => h x (by simp [hx]))
  unfold valL at *
  rw [List.foldl_append]
  exact h2
/-- A place in the digits of the k-th number: what they spell so far is small. -/
theorem spot_small {a b c d : Int} (h : Right a b c d) {k : Nat} {y z : List UInt8} (e : Lib.itoa (numL a b c d k) = y ++ z) : 0 ≤ valL y ∧ valL y ≤ 4096 := by
  have hd := itoa_digit (numL_right h k).1
  rw [e] at hd
  have h1 := valL_pos y (fun x hx => hd x (by simp [hx]))
  have h2 := valL_le y z hd
  rw [← e, valL_itoa (numL_right h k).1] at h2
  have := (numL_right h k).2
  omega
theorem drop_one {l : List UInt8} {n : Nat} {x : UInt8} {r : List UInt8} (h : l.drop n = x :: r) : l[n]? = some x ∧ l.drop (n + 1) = r ∧ n < l.length := by
  have h0 : n < l.length := by
    rcases Nat.lt_or_ge n l.length with h' | h'
    · exact h'
    · rw [List.drop_eq_nil_of_le h'] at h; cases h
  rw [List.drop_eq_getElem_cons h0] at h
  injection h with h1 h2
  exact ⟨by rw [List.getElem?_eq_getElem h0, h1], h2, h0⟩
end Go.Proofs.YtiifeocfphojaaaDoor
