/- The free list without memory: chains of cells by a function that tells what comes behind each. -/
import Derived.Test.YtganbjgkobmdkaaDoorWordBase
namespace Go.Proofs.YtganbjgkobmdkaaDoor
open Go Go.RowKit

/-- From the word w on, by nx, come the cells of the list, and nil behind the last one. -/
def ChainL (nx : Nat → Int) (a : Nat) : Int → List Nat → Prop
  | w, [] => w = 0
  | w, i :: l => w = 2 * (i : Int) + 1 ∧ i < a ∧ ChainL nx a (nx i) l
theorem ChainL.uniq {nx : Nat → Int} {a : Nat} : ∀ {w : Int} {l m : List Nat}, ChainL nx a w l → ChainL nx a w m → l = m
  | _, [], [], _, _ => rfl
  | w, [], j :: m, h1, h2 => by
    have e1 : w = 0 := h1
    have e2 : w = 2 * (j : Int) + 1 := h2.1
    omega
  | w, i :: l, [], h1, h2 => by
    have e1 : w = 0 := h2
    have e2 : w = 2 * (i : Int) + 1 := h1.1
    omega
  | w, i :: l, j :: m, h1, h2 => by
    have e1 := h1.1
    have e2 := h2.1
    obtain rfl : i = j := by omega
    rw [ChainL.uniq h1.2.2 h2.2.2]
/-- What is behind a cell of a chain is a chain. -/
theorem ChainL.behind {nx : Nat → Int} {a : Nat} : ∀ {w : Int} {l : List Nat} {i : Nat}, ChainL nx a w l → i ∈ l → ∃ m, ChainL nx a (nx i) m ∧ m.length < l.length
  | w, j :: l, i, h, hi => by
    rcases List.mem_cons.1 hi with e | e
    · subst e
      exact ⟨l, h.2.2, by simp⟩
    · obtain ⟨m, h1, h2⟩ := ChainL.behind h.2.2 e
      exact ⟨m, h1, by simp; omega⟩
/-- No cell comes twice. -/
theorem ChainL.nodup {nx : Nat → Int} {a : Nat} : ∀ {w : Int} {l : List Nat}, ChainL nx a w l → l.Nodup
  | _, [], _ => List.nodup_nil
  | _, j :: l, h => by
    refine List.nodup_cons.2 ⟨fun hj => ?_, ChainL.nodup h.2.2⟩
    obtain ⟨m, h1, h2⟩ := ChainL.behind h.2.2 hj
    rw [ChainL.uniq h1 h.2.2] at h2
    omega
theorem ChainL.lt {nx : Nat → Int} {a : Nat} : ∀ {w : Int} {l : List Nat} {i : Nat}, ChainL nx a w l → i ∈ l → i < a
  | _, j :: l, i, h, hi => by
    rcases List.mem_cons.1 hi with e | e
    · subst e; exact h.2.1
    · exact ChainL.lt h.2.2 e
/-- Unlike numbers below a are a of them at most. -/
theorem nodup_le : ∀ {a : Nat} {l : List Nat}, l.Nodup → (∀ i ∈ l, i < a) → l.length ≤ a
  | 0, l, _, h => by
    cases l with
    | nil => exact Nat.le_refl _
    | cons i l => exact absurd (h i (List.mem_cons_self ..)) (by omega)
  | a + 1, l, hn, h => by
    have h1 := nodup_le (a := a) (l := l.filter (fun i => i != a)) (hn.filter _) (fun i hi => by
      obtain ⟨h1, h2⟩ := List.mem_filter.1 hi
      have := h i h1
      have h3 : i ≠ a := by simpa using h2
      omega)
    have h2 : l.length ≤ (l.filter (fun i => i != a)).length + 1 := by
      clear h h1
      induction l with
      | nil => simp
      | cons i l ih =>
        obtain ⟨h3, h4⟩ := List.nodup_cons.1 hn
        by_cases e : i = a
        · subst e
          have : l.filter (fun j => j != i) = l := List.filter_eq_self.2 (fun j hj => by
            have : j ≠ i := fun e => h3 (e ▸ hj)
            simpa using this)
          simp [this]
        · have := ih h4
          simp [e]
          omega
    omega
theorem ChainL.length {nx : Nat → Int} {a : Nat} {w : Int} {l : List Nat} (h : ChainL nx a w l) : l.length ≤ a := nodup_le h.nodup (fun _ hi => h.lt hi)
/-- A chain doesn't hang on what is behind cells that aren't its own. -/
theorem ChainL.congr {nx ny : Nat → Int} {a : Nat} : ∀ {w : Int} {l : List Nat}, ChainL nx a w l → (∀ i ∈ l, nx i = ny i) → ChainL ny a w l
  | _, [], h, _ => h
  | _, i :: l, h, e => ⟨h.1, h.2.1, by rw [← e i (List.mem_cons_self ..)]; exact ChainL.congr h.2.2 (fun j hj => e j (List.mem_cons_of_mem _ hj))⟩
/-- A word that leads to a cell of the map. -/
def leads (a : Nat) (w : Int) : Bool := w % 2 == 1 && decide (0 ≤ w) && decide (w / 2 < (a : Int))
theorem leads_iff {a : Nat} {w : Int} : leads a w = true ↔ ∃ i : Nat, w = 2 * (i : Int) + 1 ∧ i < a := by
  unfold leads
  constructor
  · intro h
    simp at h
    exact ⟨(w / 2).toNat, by omega, by omega⟩
  · rintro ⟨i, rfl, hi⟩
    simp
    omega
/-- As far as k more cells: the cells till nil, or none. -/
def pathL (nx : Nat → Int) (a : Nat) : Nat → Int → Option (List Nat)
  | 0, w => if w = 0 then some [] else none
  | k + 1, w => if w = 0 then some [] else if leads a w then (pathL nx a k (nx (w / 2).toNat)).map ((w / 2).toNat :: ·) else none
theorem pathL_some {nx : Nat → Int} {a : Nat} : ∀ {k : Nat} {w : Int} {l : List Nat}, pathL nx a k w = some l ↔ ChainL nx a w l ∧ l.length ≤ k
  | 0, w, l => by
    unfold pathL
    by_cases e : w = 0
    · subst e
      rw [if_pos rfl]
      constructor
      · intro h; cases h; exact ⟨rfl, Nat.le_refl _⟩
      · rintro ⟨_, h⟩
        cases l with
        | nil => rfl
        | cons i l => simp at h
    · rw [if_neg e]
      constructor
      · intro h; cases h
      · rintro ⟨h, h2⟩
        cases l with
        | nil => exact absurd h e
        | cons i l => simp at h2
  | k + 1, w, l => by
    unfold pathL
    by_cases e : w = 0
    · subst e
      rw [if_pos rfl]
      constructor
      · intro h; cases h; exact ⟨rfl, Nat.zero_le _⟩
      · rintro ⟨h, _⟩
        have h0 : ChainL nx a 0 [] := rfl
        rw [ChainL.uniq h h0]
    · rw [if_neg e]
      by_cases hl : leads a w = true
      · rw [if_pos hl]
        obtain ⟨i, hi, hia⟩ := leads_iff.1 hl
        have ei : (w / 2).toNat = i := by omega
        rw [ei]
        constructor
        · intro h
          obtain ⟨m, hm, rfl⟩ := Option.map_eq_some_iff.1 h
          obtain ⟨h1, h2⟩ := pathL_some.1 hm
          exact ⟨⟨hi, hia, h1⟩, by simp; omega⟩
        · rintro ⟨h1, h2⟩
          cases l with
          | nil => exact absurd h1 e
          | cons j m =>
            have ej := h1.1
            obtain rfl : i = j := by omega
            rw [pathL_some.2 ⟨h1.2.2, by simp at h2; omega⟩]
            rfl
      · rw [if_neg hl]
        constructor
        · intro h; cases h
        · rintro ⟨h1, _⟩
          cases l with
          | nil => exact absurd h1 e
          | cons j m => exact absurd (leads_iff.2 ⟨j, h1.1, h1.2.1⟩) hl
/-- The free list from the word w on: at least one cell, and nil behind the last one; or none. -/
def listF (nx : Nat → Int) (a : Nat) (w : Int) : Option (List Nat) := if leads a w then (pathL nx a (a - 1) (nx (w / 2).toNat)).map ((w / 2).toNat :: ·) else none
theorem listF_some {nx : Nat → Int} {a : Nat} {w : Int} {l : List Nat} : listF nx a w = some l ↔ ChainL nx a w l ∧ l ≠ [] := by
  unfold listF
  by_cases hl : leads a w = true
  · rw [if_pos hl]
    obtain ⟨i, hi, hia⟩ := leads_iff.1 hl
    have ei : (w / 2).toNat = i := by omega
    rw [ei]
    constructor
    · intro h
      obtain ⟨m, hm, rfl⟩ := Option.map_eq_some_iff.1 h
      exact ⟨⟨hi, hia, (pathL_some.1 hm).1⟩, by simp⟩
    · rintro ⟨h1, h2⟩
      cases l with
      | nil => exact absurd rfl h2
      | cons j m =>
        have ej := h1.1
        obtain rfl : i = j := by omega
        have := h1.length
        rw [pathL_some.2 ⟨h1.2.2, by simp at this; omega⟩]
        rfl
  · rw [if_neg hl]
    constructor
    · intro h; cases h
    · rintro ⟨h1, h2⟩
      cases l with
      | nil => exact absurd rfl h2
      | cons j m => exact absurd (leads_iff.2 ⟨j, h1.1, h1.2.1⟩) hl
end Go.Proofs.YtganbjgkobmdkaaDoor
