/- What a step of layer 14 turns: one word at most, by the access that is noted, and none of another mutator's; words stay words. -/
import Derived.Test.YtbpkdihonemogaaGreatDoorLispKinds
namespace Go.Proofs.YtbpkdihonemogaaGreatDoor
open Go Go.RowKit
set_option maxRecDepth 100000

/-- A place that is none of another mutator's. -/
def MineP (C : Cf) (m : Int) (j : Int) : Prop := ∀ o : Int, 0 ≤ o → o < C.b → o ≠ m → j ≠ 5 + o ∧ ¬ (5 + C.b + C.d + o * C.c ≤ j ∧ j < 5 + C.b + C.d + o * C.c + C.c)
/-- What an access makes of words. -/
inductive Acts (C : Cf) (m : Int) (s : Dy) : Dy → Prop
  | none : Acts C m s s
  | load (i : Int) : Acts C m s (s.act C 1 i 0 0)
  | other (k i x y : Int) : 2 ≤ k → (0 ≤ i → i < C.n → MineP C m i) → Acts C m s (s.act C k i x y)
theorem doF_other (f : Nat → Int) (k : Int) (p j : Nat) (x y : Int) (h : j ≠ p) : doF f k p x y j = f j := by
  unfold doF upd
  repeat' split
  all_goals simp [h]
theorem Acts.touch {C : Cf} {m : Int} {s s' : Dy} (h : Acts C m s s') {j : Nat} (hj : s'.f j ≠ s.f j) : s'.i = j ∧ 2 ≤ s'.k ∧ s'.o = s.f j ∧ MineP C m j := by
  cases h with
  | none => exact absurd rfl hj
  | load i => exact absurd (by show wordsQ C.n s.f 1 i 0 0 j = s.f j; rw [words_load]) hj
  | other k i x y hk hm =>
    have hj' : wordsQ C.n s.f k i x y j ≠ s.f j := hj
    unfold wordsQ at hj'
    by_cases ho : okD C.n k i
    · rw [if_pos ho] at hj'
      have hi : j = i.toNat := Classical.byContradiction fun e => hj' (doF_other s.f k i.toNat j x y e)
      have ho' := ho
      unfold okD at ho'
      have e : (j : Int) = i := by omega
      refine ⟨?_, ?_, ?_, ?_⟩
      · show z5 C.n k i i = j; rw [z5_in _ ⟨ho'.1, ho'.2.1⟩ ⟨ho'.2.2.1, ho'.2.2.2⟩, e]
      · show 2 ≤ z5 C.n k i k; rw [z5_in _ ⟨ho'.1, ho'.2.1⟩ ⟨ho'.2.2.1, ho'.2.2.2⟩]; exact hk
      · show z5 C.n k i (s.f i.toNat) = s.f j; rw [z5_in _ ⟨ho'.1, ho'.2.1⟩ ⟨ho'.2.2.1, ho'.2.2.2⟩, hi]
      · rw [e]; exact hm ho'.2.2.1 ho'.2.2.2
    · rw [if_neg ho] at hj'; exact absurd rfl hj'
theorem mine_once (C : Cf) (hC : CfOK C) (m : Int) {j : Int} (h : j < 5) : MineP C m j := by
  have h4 := hC.a4
  intro o h0 h1 _
  have : 0 ≤ o * C.c := Int.mul_nonneg h0 (by omega)
  exact ⟨by omega, by omega⟩
theorem mine_in (C : Cf) (hC : CfOK C) (m : Int) : 0 ≤ inP C.a C.b C.c C.d m → MineP C m (inP C.a C.b C.c C.d m) := by
  intro hp
  have h4 := hC.a4
  by_cases hm : 0 ≤ m ∧ m < C.b
  · rw [inP_in hC.right m hm.1 hm.2]
    intro o h0 h1 hne
    have : 0 ≤ o * C.c := Int.mul_nonneg h0 (by omega)
    exact ⟨by omega, by omega⟩
  · have e : inP C.a C.b C.c C.d m = -1 := by unfold inP; rw [if_neg (fun h => hm h.1)]
    omega
theorem mine_reg (C : Cf) (hC : CfOK C) (m r : Int) : 0 ≤ regP C.a C.b C.c C.d m r → MineP C m (regP C.a C.b C.c C.d m r) := by
  intro hp
  have h4 := hC.a4
  by_cases hm : (0 ≤ m ∧ m < C.b) ∧ 0 ≤ r ∧ r < C.c
  · obtain ⟨⟨m0, m1⟩, r0, r1⟩ := hm
    rw [regP_in hC.right m r m0 m1 r0 r1]
    intro o h0 h1 hne
    have e0 : 0 ≤ m * C.c := Int.mul_nonneg m0 (by omega)
    have e1 : 0 ≤ o * C.c := Int.mul_nonneg h0 (by omega)
    refine ⟨by omega, fun h => ?_⟩
    rcases (by omega : o < m ∨ m < o) with h2 | h2
    · have : (o + 1) * C.c ≤ m * C.c := Int.mul_le_mul_of_nonneg_right (by omega) (by omega)
      rw [Int.add_mul] at this
      omega
    · have : (m + 1) * C.c ≤ o * C.c := Int.mul_le_mul_of_nonneg_right (by omega) (by omega)
      rw [Int.add_mul] at this
      omega
  · have e : regP C.a C.b C.c C.d m r = -1 := by unfold regP; rw [if_neg (fun h => hm h.1)]
    omega
theorem prod_le {C : Cf} (hC : CfOK C) {o : Int} (h0 : 0 ≤ o) (h1 : o < C.b) : 0 ≤ o * C.c ∧ o * C.c + C.c ≤ C.b * C.c := by
  have h4 := hC.a4
  refine ⟨Int.mul_nonneg h0 (by omega), ?_⟩
  have : (o + 1) * C.c ≤ C.b * C.c := Int.mul_le_mul_of_nonneg_right (by omega) (by omega)
  rw [Int.add_mul] at this
  omega
theorem mine_glob (C : Cf) (hC : CfOK C) (m i : Int) : 0 ≤ globP C.a C.b C.c C.d i → MineP C m (globP C.a C.b C.c C.d i) := by
  intro hp
  by_cases hm : 0 ≤ i ∧ i < C.d
  · rw [globP_in hC.right i hm.1 hm.2]
    intro o h0 h1 _
    have := prod_le hC h0 h1
    exact ⟨by omega, by omega⟩
  · have e : globP C.a C.b C.c C.d i = -1 := by unfold globP; rw [if_neg (fun h => hm h.1)]
    omega
theorem mine_part (C : Cf) (hC : CfOK C) (m k i : Int) (hk : 0 ≤ k) : 0 ≤ partP C.a C.b C.c C.d k i → MineP C m (partP C.a C.b C.c C.d k i) := by
  intro hp
  have h4 := hC.a4
  have hpr := hC.right.prod
  by_cases hm : 0 ≤ i ∧ i < C.a
  · rw [partP_in hC.right k i hm.1 hm.2]
    intro o h0 h1 _
    have := prod_le hC h0 h1
    exact ⟨by omega, by omega⟩
  · have e : partP C.a C.b C.c C.d k i = -1 := by unfold partP; rw [if_neg (fun h => hm h.1)]
    omega
theorem mine_field (C : Cf) (hC : CfOK C) (m : Int) (v : Nat) (p : Int) : 0 ≤ fieldP C.a C.b C.c C.d v p → MineP C m (fieldP C.a C.b C.c C.d v p) := by
  intro hp
  unfold fieldP at hp ⊢
  by_cases h : isC v ∧ 0 ≤ p ∧ p ≤ 2
  · rw [if_pos h] at hp ⊢
    exact mine_part C hC m p _ h.2.1 hp
  · rw [if_neg h] at hp; omega
theorem lisp_acts {C : Cf} (hC : CfOK C) (s : Dy) (m : Int) (x : Mu) : Acts C m s.clr (lispS C s m x).1 := by
  unfold lispS
  split
  · unfold gateS
    repeat' split
    all_goals first | exact .none | exact .load _ | exact .other _ _ _ _ (by omega) (fun h _ => mine_in C hC m h)
  · split
    · unfold tickS
      repeat' split
      all_goals first | exact .none | exact .load _ | exact .other _ _ _ _ (by omega) (fun _ _ => mine_once C hC m (by omega))
    · split
      · unfold popS
        repeat' split
        all_goals first | exact .none | exact .load _ | exact .other _ _ _ _ (by omega) (fun _ _ => mine_once C hC m (by omega))
      · split
        · unfold barS
          repeat' split
          all_goals first | exact .none | exact .other _ _ _ _ (by omega) (fun h _ => mine_field C hC m _ _ h) | exact .other _ _ _ _ (by omega) (fun _ _ => mine_once C hC m (by omega))
        · unfold ownS
          by_cases h10 : x.l = 10
          · rw [if_pos h10]; exact .other 2 _ _ 0 (by omega) (fun h _ => mine_reg C hC m _ h)
          rw [if_neg h10]
          by_cases h11 : x.l = 11
          · rw [if_pos h11]; exact .load _
          rw [if_neg h11]
          by_cases h12 : x.l = 12
          · rw [if_pos h12]; exact .other 2 _ _ 0 (by omega) (fun h _ => mine_reg C hC m _ h)
          rw [if_neg h12]
          by_cases h13 : x.l = 13
          · rw [if_pos h13]; exact .load _
          rw [if_neg h13]
          by_cases h14 : x.l = 14
          · rw [if_pos h14]; exact .load _
          rw [if_neg h14]
          by_cases h15 : x.l = 15
          · rw [if_pos h15]; exact .other 2 _ _ 0 (by omega) (fun h _ => mine_reg C hC m _ h)
          rw [if_neg h15]
          by_cases h16 : x.l = 16
          · rw [if_pos h16]; exact .load _
          rw [if_neg h16]
          by_cases h17 : x.l = 17
          · rw [if_pos h17]; exact .load _
          rw [if_neg h17]
          by_cases h18 : x.l = 18
          · rw [if_pos h18]; exact .other 2 _ _ 0 (by omega) (fun h _ => mine_field C hC m _ _ h)
          rw [if_neg h18]
          by_cases h19 : x.l = 19
          · rw [if_pos h19]; exact .load _
          rw [if_neg h19]
          by_cases h20 : x.l = 20
          · rw [if_pos h20]; exact .load _
          rw [if_neg h20]
          by_cases h21 : x.l = 21
          · rw [if_pos h21]; exact .other 2 _ _ 0 (by omega) (fun h _ => mine_glob C hC m _ h)
          rw [if_neg h21]
          by_cases h22 : x.l = 22
          · rw [if_pos h22]; exact .load _
          rw [if_neg h22]
          by_cases h23 : x.l = 23
          · rw [if_pos h23]; exact .load _
          rw [if_neg h23]
          by_cases h24 : x.l = 24
          · rw [if_pos h24]; exact .load _
          rw [if_neg h24]
          by_cases h30 : x.l = 30
          · rw [if_pos h30]; exact .load _
          rw [if_neg h30]
          by_cases h31 : x.l = 31
          · rw [if_pos h31]; exact .load _
          rw [if_neg h31]
          by_cases h38 : x.l = 38
          · rw [if_pos h38]; exact .other 2 _ _ 0 (by omega) (fun h _ => mine_field C hC m _ _ h)
          rw [if_neg h38]
          by_cases h39 : x.l = 39
          · rw [if_pos h39]; exact .other 2 _ _ 0 (by omega) (fun h _ => mine_field C hC m _ _ h)
          rw [if_neg h39]
          by_cases h40 : x.l = 40
          · rw [if_pos h40]; exact .other 2 _ _ 0 (by omega) (fun h _ => mine_reg C hC m _ h)
          rw [if_neg h40]
          exact .none
end Go.Proofs.YtbpkdihonemogaaGreatDoor
