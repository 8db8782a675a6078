/- Some tasks at a lock, without memory: what always holds of their tickets, and how long each may have to wait. -/
import Derived.Test.YtglmecdbafceoaaDoorArena
namespace Go.Proofs.YtglmecdbafceoaaDoor
open Go Go.RowKit
set_option maxRecDepth 100000

/-- Some tasks at a lock: the two words, each one's line and ticket, who waits, who holds it, and how often each got it. -/
structure Que where
  nx : Int
  sv : Int
  line : Nat → Int
  tk : Nat → Int
  order : List Nat
  ins : Option Nat
  got : Nat → Int
/-- A word that is so far behind another one. -/
def offW (a : Int) (n : Nat) : Int := (a + (n : Int)) % 18446744073709551616
/-- One holds the lock. -/
def Que.held (q : Que) : Nat := if q.ins = none then 0 else 1
/-- A step of a task. -/
def Que.step (q : Que) (i : Nat) : Que :=
  if q.line i = 32 then { q with nx := sumW q.nx 1, tk := upd q.tk i q.nx, line := upd q.line i 33, order := q.order ++ [i] }
  else if q.line i = 33 then
    (if q.sv = q.tk i then { q with line := upd q.line i 37, order := q.order.tail, ins := some i, got := upd q.got i (q.got i + 1) } else q)
  else { q with sv := sumW q.sv 1, ins := none, line := upd q.line i 32 }
/-- What always holds of k tasks. -/
structure Que.Inv (q : Que) (k : Nat) : Prop where
  kk : k ≤ 6
  sv : 0 ≤ q.sv ∧ q.sv < 18446744073709551616
  nodup : q.order.Nodup
  ord : ∀ i, i ∈ q.order → i < k ∧ q.line i = 33
  line : ∀ i, i < k → (q.line i = 32 ∧ q.ins ≠ some i) ∨ (q.line i = 33 ∧ i ∈ q.order) ∨ (q.line i = 37 ∧ q.ins = some i)
  hold : ∀ i, q.ins = some i → i < k ∧ q.line i = 37 ∧ 0 < q.got i
  nx : q.nx = offW q.sv (q.held + q.order.length)
  tk : ∀ j i, q.order[j]? = some i → q.tk i = offW q.sv (q.held + j)
  got : ∀ i, 0 ≤ q.got i
theorem nodup_len : ∀ (k : Nat) (l : List Nat), l.Nodup → (∀ i, i ∈ l → i < k) → l.length ≤ k
  | 0, l, _, h => by
    cases l with
    | nil => exact Nat.le_refl _
    | cons a t => exact absurd (h a (List.mem_cons_self ..)) (by omega)
  | k + 1, l, hn, h => by
    by_cases hk : k ∈ l
    · have h1 := nodup_len k (l.erase k) (hn.erase k) (fun i hi => by
        have h2 := (List.Nodup.mem_erase_iff hn).1 hi
        have := h i h2.2
        have := h2.1
        omega)
      have h2 := List.length_erase_of_mem hk
      omega
    · exact Nat.le_succ_of_le (nodup_len k l hn (fun i hi => by
        have := h i hi
        have : i ≠ k := fun e => hk (e ▸ hi)
        omega))
theorem Que.Inv.len {q : Que} {k : Nat} (h : q.Inv k) : q.order.length + q.held ≤ k := by
  unfold Que.held
  cases hi : q.ins with
  | none => simp; exact nodup_len k _ h.nodup (fun i hi => (h.ord i hi).1)
  | some a =>
    have h1 := h.hold a hi
    have h2 : a ∉ q.order := fun e => by have := (h.ord a e).2; rw [h1.2.1] at this; omega
    have := nodup_len k (a :: q.order) (List.nodup_cons.2 ⟨h2, h.nodup⟩) (fun i hi => by
      rcases List.mem_cons.1 hi with e | e
      · rw [e]; exact h1.1
      · exact (h.ord i e).1)
    simpa using this
theorem offW_zero {a : Int} (h : 0 ≤ a ∧ a < 18446744073709551616) : offW a 0 = a := by unfold offW; omega
theorem offW_ne {a : Int} {n : Nat} (h0 : 0 < n) (h6 : n ≤ 7) : ¬ a = offW a n := by unfold offW; omega
theorem offW_sum (a : Int) (n : Nat) : sumW (offW a n) 1 = offW a (n + 1) := by unfold offW sumW; omega
theorem offW_shift (a : Int) (n : Nat) : offW (sumW a 1) n = offW a (1 + n) := by unfold offW sumW; omega
theorem sumW_in (a b : Int) : 0 ≤ sumW a b ∧ sumW a b < 18446744073709551616 := by unfold sumW; omega
/-- Whose turn it is. -/
theorem Que.Inv.turn {q : Que} {k i : Nat} (h : q.Inv k) (hi : i < k) (hl : q.line i = 33) : q.sv = q.tk i ↔ q.ins = none ∧ q.order.head? = some i := by
  have hm : i ∈ q.order := by
    rcases h.line i hi with e | e | e
    · omega
    · exact e.2
    · omega
  obtain ⟨j, hj, e⟩ := List.mem_iff_getElem.1 hm
  have ht := h.tk j i (by rw [List.getElem?_eq_getElem hj, e])
  have hlen := h.len
  have hk := h.kk
  rw [ht]
  constructor
  · intro e2
    have h0 : q.held + j = 0 := by
      refine Classical.byContradiction fun hne => ?_
      exact offW_ne (by omega : 0 < q.held + j) (by omega) e2
    have hin : q.ins = none := by
      unfold Que.held at h0
      refine Classical.byContradiction fun hne => ?_
      rw [if_neg hne] at h0; omega
    refine ⟨hin, ?_⟩
    have hj0 : j = 0 := by omega
    subst hj0
    rw [List.head?_eq_getElem?, List.getElem?_eq_getElem hj, e]
  · rintro ⟨h1, h2⟩
    rw [List.head?_eq_getElem?] at h2
    have hj0 : j = 0 := by
      obtain ⟨h4, h5⟩ := List.getElem?_eq_some_iff.1 h2
      refine Classical.byContradiction fun hne => ?_
      exact List.pairwise_iff_getElem.1 h.nodup 0 j h4 hj (by omega) (h5.trans e.symm)
    subst hj0
    unfold Que.held
    rw [if_pos h1, offW_zero h.sv]
theorem Que.Inv.step {q : Que} {k i : Nat} (h : q.Inv k) (hi : i < k) : (q.step i).Inv k := by
  have hlen := h.len
  have hk := h.kk
  unfold Que.step
  by_cases h32 : q.line i = 32
  · rw [if_pos h32]
    have hni : i ∉ q.order := fun e => by have := (h.ord i e).2; omega
    refine ⟨h.kk, h.sv, ?_, ?_, ?_, ?_, ?_, ?_, h.got⟩
    · exact List.nodup_append.2 ⟨h.nodup, by simp, fun a ha b hb e => by simp at hb; rw [e, hb] at ha; exact hni ha⟩
    · intro a ha
      show a < k ∧ upd q.line i 33 a = 33
      unfold upd
      by_cases e : a = i
      · rw [if_pos e]; exact ⟨e ▸ hi, rfl⟩
      · rw [if_neg e]
        rcases List.mem_append.1 ha with e2 | e2
        · exact h.ord a e2
        · simp at e2; exact absurd e2 e
    · intro a ha
      show (upd q.line i 33 a = 32 ∧ _) ∨ (upd q.line i 33 a = 33 ∧ a ∈ q.order ++ [i]) ∨ (upd q.line i 33 a = 37 ∧ _)
      unfold upd
      by_cases e : a = i
      · rw [if_pos e]; exact .inr (.inl ⟨rfl, by rw [e]; simp⟩)
      · rw [if_neg e]
        rcases h.line a ha with e2 | e2 | e2
        · exact .inl e2
        · exact .inr (.inl ⟨e2.1, List.mem_append_left _ e2.2⟩)
        · exact .inr (.inr e2)
    · intro a ha
      have h1 := h.hold a ha
      show a < k ∧ upd q.line i 33 a = 37 ∧ _
      unfold upd
      rw [if_neg (fun e => by rw [e] at h1; omega)]
      exact h1
    · show sumW q.nx 1 = offW q.sv (q.held + (q.order ++ [i]).length)
      rw [h.nx, offW_sum, List.length_append]
      rfl
    · intro j a hj
      show upd q.tk i q.nx a = offW q.sv (q.held + j)
      have hj : (q.order ++ [i])[j]? = some a := hj
      rw [List.getElem?_append] at hj
      by_cases hjl : j < q.order.length
      · rw [if_pos hjl] at hj
        have ha : a ∈ q.order := List.mem_of_getElem? hj
        unfold upd
        rw [if_neg (fun e : a = i => hni (by rw [← e]; exact ha))]
        exact h.tk j a hj
      · rw [if_neg hjl] at hj
        have hj0 : j = q.order.length := by
          have := (List.getElem?_eq_some_iff.1 hj).1
          simp at this
          omega
        rw [hj0] at hj
        simp at hj
        unfold upd
        rw [if_pos hj.symm, h.nx, hj0]
  · rw [if_neg h32]
    by_cases h33 : q.line i = 33
    · rw [if_pos h33]
      by_cases ht : q.sv = q.tk i
      · rw [if_pos ht]
        obtain ⟨hin, hh⟩ := (h.turn hi h33).1 ht
        obtain ⟨l, hl⟩ : ∃ l, q.order = i :: l := by
          cases ho : q.order with
          | nil => rw [ho] at hh; simp at hh
          | cons a l => rw [ho] at hh; simp at hh; exact ⟨l, by rw [hh]⟩
        have hnd := h.nodup
        rw [hl] at hnd
        obtain ⟨hil, hnl⟩ := List.nodup_cons.1 hnd
        have hheld : q.held = 0 := by unfold Que.held; rw [if_pos hin]
        refine ⟨h.kk, h.sv, ?_, ?_, ?_, ?_, ?_, ?_, ?_⟩
        · show q.order.tail.Nodup
          rw [hl]; exact hnl
        · intro a ha
          have ha : a ∈ q.order.tail := ha
          rw [hl] at ha
          have h1 := h.ord a (by rw [hl]; exact List.mem_cons_of_mem _ ha)
          show a < k ∧ upd q.line i 37 a = 33
          unfold upd
          rw [if_neg (fun e : a = i => hil (by rw [← e]; exact ha))]
          exact h1
        · intro a ha
          show (upd q.line i 37 a = 32 ∧ _) ∨ (upd q.line i 37 a = 33 ∧ a ∈ q.order.tail) ∨ (upd q.line i 37 a = 37 ∧ some i = some a)
          unfold upd
          by_cases e : a = i
          · rw [if_pos e]; exact .inr (.inr ⟨rfl, by rw [e]⟩)
          · rw [if_neg e]
            rcases h.line a ha with e2 | e2 | e2
            · exact .inl ⟨e2.1, fun e3 => e (Option.some.inj e3).symm⟩
            · refine .inr (.inl ⟨e2.1, ?_⟩)
              have := e2.2
              rw [hl] at this ⊢
              rcases List.mem_cons.1 this with e3 | e3
              · exact absurd e3 e
              · exact e3
            · rw [hin] at e2; exact absurd e2.2 (by simp)
        · intro a ha
          obtain rfl : i = a := Option.some.inj ha
          refine ⟨hi, ?_, ?_⟩
          · show upd q.line i 37 i = 37
            unfold upd; rw [if_pos rfl]
          · show 0 < upd q.got i (q.got i + 1) i
            unfold upd; rw [if_pos rfl]; have := h.got i; omega
        · show q.nx = offW q.sv (1 + q.order.tail.length)
          rw [h.nx, hheld, hl]
          simp only [List.length_cons, List.tail_cons]
          congr 1
          omega
        · intro j a hj
          have hj : q.order.tail[j]? = some a := hj
          rw [hl] at hj
          show q.tk a = offW q.sv (1 + j)
          have := h.tk (j + 1) a (by rw [hl]; exact hj)
          rw [hheld] at this
          rw [this]
          congr 1
          omega
        · intro a
          show 0 ≤ upd q.got i (q.got i + 1) a
          unfold upd
          have h1 := h.got a; have h2 := h.got i
          by_cases e : a = i
          · rw [if_pos e]; omega
          · rw [if_neg e]; exact h1
      · rw [if_neg ht]; exact h
    · rw [if_neg h33]
      have h37 : q.line i = 37 ∧ q.ins = some i := by
        rcases h.line i hi with e | e | e
        · exact absurd e.1 h32
        · exact absurd e.1 h33
        · exact e
      have hni : i ∉ q.order := fun e => by have := (h.ord i e).2; omega
      have hheld : q.held = 1 := by unfold Que.held; rw [h37.2]; rfl
      refine ⟨h.kk, sumW_in _ _, h.nodup, ?_, ?_, ?_, ?_, ?_, h.got⟩
      · intro a ha
        show a < k ∧ upd q.line i 32 a = 33
        unfold upd
        rw [if_neg (fun e : a = i => hni (by rw [← e]; exact ha))]
        exact h.ord a ha
      · intro a ha
        show (upd q.line i 32 a = 32 ∧ none ≠ some a) ∨ (upd q.line i 32 a = 33 ∧ _) ∨ (upd q.line i 32 a = 37 ∧ _)
        unfold upd
        by_cases e : a = i
        · rw [if_pos e]; exact .inl ⟨rfl, by simp⟩
        · rw [if_neg e]
          rcases h.line a ha with e2 | e2 | e2
          · exact .inl ⟨e2.1, by simp⟩
          · exact .inr (.inl e2)
          · rw [h37.2] at e2; exact absurd (Option.some.inj e2.2).symm e
      · intro a ha; exact absurd (show none = some a from ha) (by simp)
      · show q.nx = offW (sumW q.sv 1) (0 + q.order.length)
        rw [h.nx, offW_shift, hheld]
        congr 1
        omega
      · intro j a hj
        have := h.tk j a hj
        show q.tk a = offW (sumW q.sv 1) (0 + j)
        rw [this, offW_shift, hheld]
        congr 1
        omega
theorem idx_append {l : List Nat} {t i : Nat} (h : t ∈ l) : (l ++ [i]).idxOf t = l.idxOf t := by rw [List.idxOf_append, if_pos h]
theorem idx_cons {l : List Nat} {t i : Nat} (h : ¬ i = t) : (i :: l).idxOf t = l.idxOf t + 1 := by
  have hb : (i == t) = false := by simpa using h
  rw [List.idxOf_cons, hb]; rfl
/-- How many picks from i on until j is picked, of k in turns. -/
def distP (k i j : Nat) : Nat := if i ≤ j then j - i + 1 else j + k - i + 1
/-- Who is picked next. -/
def nextP (k i : Nat) : Nat := if i + 1 = k then 0 else i + 1
theorem distP_same (k i : Nat) : distP k i i = 1 := by unfold distP; rw [if_pos (Nat.le_refl _)]; omega
theorem distP_le {k i j : Nat} (hj : j < k) : distP k i j ≤ k := by unfold distP; split <;> omega
theorem distP_pos (k i j : Nat) : 1 ≤ distP k i j := by unfold distP; split <;> omega
theorem distP_next {k i j : Nat} (hi : i < k) (hj : j < k) (h : ¬ i = j) : distP k (nextP k i) j + 1 = distP k i j := by
  unfold distP nextP; repeat' split
  all_goals omega
/-- How many picks from i on the task t may still have to wait for the lock. -/
def Que.wait (q : Que) (k t i : Nat) : Nat :=
  if q.line t = 32 then 2 * k * k + 2 * k + distP k i t
  else 2 * k * q.order.idxOf t + (match q.ins with
    | some h => k + distP k i h
    | none => match q.order.head? with
      | some h => distP k i h
      | none => 0)
theorem Que.wait_some {q : Que} {k t i h : Nat} (hl : ¬ q.line t = 32) (hi : q.ins = some h) : q.wait k t i = 2 * k * q.order.idxOf t + (k + distP k i h) := by
  unfold Que.wait; rw [if_neg hl, hi]
theorem Que.wait_none {q : Que} {k t i h : Nat} (hl : ¬ q.line t = 32) (hi : q.ins = none) (ho : q.order.head? = some h) : q.wait k t i = 2 * k * q.order.idxOf t + distP k i h := by
  unfold Que.wait; rw [if_neg hl, hi]; simp only; rw [ho]
theorem mul_lt {k n : Nat} (h : n < k) : 2 * k * n + 2 * k ≤ 2 * k * k := by
  have := Nat.mul_le_mul_left (2 * k) (show n + 1 ≤ k from h)
  rw [Nat.mul_add, Nat.mul_one] at this
  exact this
theorem Que.wait_first {q : Que} {k t i : Nat} (h : q.Inv k) (ht : t < k) (hg : ¬ 0 < q.got t) : q.wait k t i ≤ 2 * k * k + 3 * k := by
  have hlen := h.len
  by_cases hl : q.line t = 32
  · unfold Que.wait
    rw [if_pos hl]
    have := distP_le (i := i) ht
    omega
  · have hm : t ∈ q.order := by
      rcases h.line t ht with e | e | e
      · exact absurd e.1 hl
      · exact e.2
      · exact absurd (h.hold t e.2).2.2 hg
    have hx := List.idxOf_lt_length_of_mem hm
    have hm2 := mul_lt (k := k) (show q.order.idxOf t < k by omega)
    cases hi : q.ins with
    | some a =>
      rw [Que.wait_some hl hi]
      have := distP_le (i := i) (h.hold a hi).1
      omega
    | none =>
      obtain ⟨a, ha⟩ : ∃ a, q.order.head? = some a := by
        cases ho : q.order with
        | nil => rw [ho] at hm; simp at hm
        | cons a l => exact ⟨a, rfl⟩
      rw [Que.wait_none hl hi ha]
      have := distP_le (i := i) (h.ord a (List.mem_of_mem_head? ha)).1
      omega
theorem Que.wait_step {q : Que} {k t i : Nat} (h : q.Inv k) (ht : t < k) (hi : i < k) (hg : ¬ 0 < q.got t) :
    (q.step i).wait k t (nextP k i) + 1 ≤ q.wait k t i ∨ 0 < (q.step i).got t := by
  have hlen := h.len
  have hI := h.step hi
  -- where t is
  by_cases hl : q.line t = 32
  · -- t hasn't drawn
    have hw : q.wait k t i = 2 * k * k + 2 * k + distP k i t := by unfold Que.wait; rw [if_pos hl]
    rw [hw]
    by_cases e : i = t
    · subst e
      have hs : q.step i = { q with nx := sumW q.nx 1, tk := upd q.tk i q.nx, line := upd q.line i 33, order := q.order ++ [i] } := by unfold Que.step; rw [if_pos hl]
      have hg2 : ¬ 0 < (q.step i).got i := by rw [hs]; exact hg
      left
      have hl2 : ¬ (q.step i).line i = 32 := by rw [hs]; show ¬ upd q.line i 33 i = 32; unfold upd; rw [if_pos rfl]; omega
      have hm : i ∈ (q.step i).order := by rw [hs]; show i ∈ q.order ++ [i]; simp
      have hx := List.idxOf_lt_length_of_mem hm
      have hlen2 := hI.len
      have hm2 := mul_lt (k := k) (show (q.step i).order.idxOf i < k by omega)
      rw [distP_same]
      cases hin : (q.step i).ins with
      | some a =>
        rw [Que.wait_some hl2 hin]
        have := distP_le (i := nextP k i) (hI.hold a hin).1
        omega
      | none =>
        obtain ⟨a, ha⟩ : ∃ a, (q.step i).order.head? = some a := by
          cases ho : (q.step i).order with
          | nil => rw [ho] at hm; simp at hm
          | cons a l => exact ⟨a, rfl⟩
        rw [Que.wait_none hl2 hin ha]
        have := distP_le (i := nextP k i) (hI.ord a (List.mem_of_mem_head? ha)).1
        omega
    · left
      have hl2 : (q.step i).line t = 32 := by
        unfold Que.step
        repeat' split
        · show upd q.line i 33 t = 32; unfold upd; rw [if_neg (fun e2 => e e2.symm)]; exact hl
        · show upd q.line i 37 t = 32; unfold upd; rw [if_neg (fun e2 => e e2.symm)]; exact hl
        · exact hl
        · show upd q.line i 32 t = 32; unfold upd; rw [if_neg (fun e2 => e e2.symm)]; exact hl
      have hw2 : (q.step i).wait k t (nextP k i) = 2 * k * k + 2 * k + distP k (nextP k i) t := by unfold Que.wait; rw [if_pos hl2]
      rw [hw2]
      have := distP_next hi ht e
      omega
  · have hm : t ∈ q.order := by
      rcases h.line t ht with e | e | e
      · exact absurd e.1 hl
      · exact e.2
      · exact absurd (h.hold t e.2).2.2 hg
    have h33 : q.line t = 33 := (h.ord t hm).2
    cases hin : q.ins with
    | some a =>
      obtain ⟨hak, ha37, _⟩ := h.hold a hin
      rw [Que.wait_some hl hin]
      by_cases e : i = a
      · -- the holder gives it back
        subst e
        have hs : q.step i = { q with sv := sumW q.sv 1, ins := none, line := upd q.line i 32 } := by
          unfold Que.step; rw [if_neg (by omega), if_neg (by omega)]
        left
        have hti : ¬ t = i := fun e2 => by rw [e2] at h33; omega
        have hl2 : ¬ (q.step i).line t = 32 := by rw [hs]; show ¬ upd q.line i 32 t = 32; unfold upd; rw [if_neg hti]; exact hl
        obtain ⟨b, hb⟩ : ∃ b, q.order.head? = some b := by
          cases ho : q.order with
          | nil => rw [ho] at hm; simp at hm
          | cons b l => exact ⟨b, rfl⟩
        have hw2 := Que.wait_none (q := q.step i) (k := k) (t := t) (i := nextP k i) (h := b) hl2 (by rw [hs]) (by rw [hs]; exact hb)
        rw [hw2]
        have ho : (q.step i).order = q.order := by rw [hs]
        rw [ho, distP_same]
        have := distP_le (i := nextP k i) (h.ord b (List.mem_of_mem_head? hb)).1
        omega
      · left
        have hne : ¬ q.sv = q.tk i ∨ ¬ q.line i = 33 := by
          by_cases e3 : q.line i = 33
          · exact .inl (fun e4 => by have := ((h.turn hi e3).1 e4).1; rw [hin] at this; cases this)
          · exact .inr e3
        have hi37 : ¬ q.line i = 37 := fun e4 => by
          rcases h.line i hi with e5 | e5 | e5
          · omega
          · omega
          · rw [hin] at e5; exact e (Option.some.inj e5.2).symm
        have hs : (q.step i).ins = some a ∧ (q.step i).order.idxOf t = q.order.idxOf t ∧ ¬ (q.step i).line t = 32 := by
          unfold Que.step
          by_cases e1 : q.line i = 32
          · rw [if_pos e1]
            refine ⟨hin, idx_append hm, ?_⟩
            show ¬ upd q.line i 33 t = 32
            unfold upd; rw [if_neg (fun e2 : t = i => by rw [e2] at h33; omega)]; exact hl
          · rw [if_neg e1]
            have e3 : q.line i = 33 := by
              rcases h.line i hi with e5 | e5 | e5
              · exact absurd e5.1 e1
              · exact e5.1
              · exact absurd e5.1 hi37
            rw [if_pos e3]
            have e4 : ¬ q.sv = q.tk i := hne.elim id (fun e5 => absurd e3 e5)
            rw [if_neg e4]
            exact ⟨hin, rfl, hl⟩
        rw [Que.wait_some hs.2.2 hs.1, hs.2.1]
        have := distP_next hi hak e
        omega
    | none =>
      obtain ⟨a, ha⟩ : ∃ a, q.order.head? = some a := by
        cases ho : q.order with
        | nil => rw [ho] at hm; simp at hm
        | cons a l => exact ⟨a, rfl⟩
      have hao := h.ord a (List.mem_of_mem_head? ha)
      rw [Que.wait_none hl hin ha]
      by_cases e : i = a
      · subst e
        have hsv : q.sv = q.tk i := (h.turn hi hao.2).2 ⟨hin, ha⟩
        have hs : q.step i = { q with line := upd q.line i 37, order := q.order.tail, ins := some i, got := upd q.got i (q.got i + 1) } := by
          unfold Que.step; rw [if_neg (by omega), if_pos hao.2, if_pos hsv]
        by_cases hti : t = i
        · right
          rw [hs, hti]
          show 0 < upd q.got i (q.got i + 1) i
          unfold upd; rw [if_pos rfl]; have := h.got i; omega
        · left
          have hl2 : ¬ (q.step i).line t = 32 := by rw [hs]; show ¬ upd q.line i 37 t = 32; unfold upd; rw [if_neg hti]; exact hl
          have hw2 := Que.wait_some (q := q.step i) (k := k) (t := t) (i := nextP k i) (h := i) hl2 (by rw [hs])
          rw [hw2]
          have ho : (q.step i).order = q.order.tail := by rw [hs]
          rw [ho, distP_same]
          obtain ⟨l, hl3⟩ : ∃ l, q.order = i :: l := by
            cases ho : q.order with
            | nil => rw [ho] at ha; simp at ha
            | cons b l => rw [ho] at ha; simp at ha; exact ⟨l, by rw [ha]⟩
          rw [hl3, List.tail_cons, idx_cons (fun e2 => hti e2.symm), Nat.mul_add, Nat.mul_one]
          have := distP_le (i := nextP k i) hi
          omega
      · left
        have hi37 : ¬ q.line i = 37 := fun e4 => by
          rcases h.line i hi with e5 | e5 | e5
          · omega
          · omega
          · rw [hin] at e5; cases e5.2
        have hs : (q.step i).ins = none ∧ (q.step i).order.head? = some a ∧ (q.step i).order.idxOf t = q.order.idxOf t ∧ ¬ (q.step i).line t = 32 := by
          unfold Que.step
          by_cases e1 : q.line i = 32
          · rw [if_pos e1]
            refine ⟨hin, ?_, idx_append hm, ?_⟩
            · show (q.order ++ [i]).head? = some a
              cases ho : q.order with
              | nil => rw [ho] at ha; simp at ha
              | cons b l => rw [ho] at ha; simpa using ha
            · show ¬ upd q.line i 33 t = 32
              unfold upd; rw [if_neg (fun e2 : t = i => by rw [e2] at h33; omega)]; exact hl
          · rw [if_neg e1]
            have e3 : q.line i = 33 := by
              rcases h.line i hi with e5 | e5 | e5
              · exact absurd e5.1 e1
              · exact e5.1
              · exact absurd e5.1 hi37
            rw [if_pos e3]
            have e4 : ¬ q.sv = q.tk i := fun e5 => by
              have := ((h.turn hi e3).1 e5).2
              rw [ha] at this
              exact e (Option.some.inj this).symm
            rw [if_neg e4]
            exact ⟨hin, ha, rfl, hl⟩
        rw [Que.wait_none hs.2.2.2 hs.1 hs.2.1, hs.2.2.1]
        have := distP_next hi hao.1 e
        omega
/-- What was got isn't lost. -/
theorem Que.got_step {q : Que} {t i : Nat} (h : 0 < q.got t) : 0 < (q.step i).got t := by
  unfold Que.step
  repeat' split
  · exact h
  · show 0 < upd q.got i (q.got i + 1) t
    unfold upd
    by_cases e : t = i
    · rw [if_pos e, ← e]; omega
    · rw [if_neg e]; exact h
  · exact h
  · exact h
end Go.Proofs.YtglmecdbafceoaaDoor
