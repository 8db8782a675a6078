/- Laid together: PopRefH, PopRefN, PopRefL, PopRefT, PopRef, Spots, PopPure, PopReach, PopList, PopTakeP, LispPure, LispU. -/
import Derived.Test.YtbpkdihonemogaaGreatDoorPopStep
import Derived.Test.YtbpkdihonemogaaGreatDoorM5
import Derived.Test.YtbpkdihonemogaaGreatDoorM4
import Derived.Deep.AppendLies
import Derived.Deep.Onto
import Derived.Deep.LoopGhost
import Derived.WalkMore
import Derived.Test.YtbpkdihonemogaaGreatDoorBarRef
import Derived.Test.YtbpkdihonemogaaGreatDoorM6
import Derived.Test.YtbpkdihonemogaaGreatDoorGateStep
import Derived.Test.YtbpkdihonemogaaGreatDoorIdealPlain
/- A step of the document's layer 13: line 34, and any other line. -/
namespace Go.Proofs.YtbpkdihonemogaaGreatDoor
open Go Go.RowKit
set_option maxRecDepth 100000
attribute [local go_sem ↓] Go.wp_at_zero Go.wp_at_succ

end Go.Proofs.YtbpkdihonemogaaGreatDoor
/- A step of the document's layer 13: line 35, a cell. -/
namespace Go.Proofs.YtbpkdihonemogaaGreatDoor
open Go Go.RowKit
set_option maxRecDepth 100000
attribute [local go_sem ↓] Go.wp_at_zero Go.wp_at_succ

end Go.Proofs.YtbpkdihonemogaaGreatDoor
/- A step of the document's layer 13: line 35, no cell. -/
namespace Go.Proofs.YtbpkdihonemogaaGreatDoor
open Go Go.RowKit
set_option maxRecDepth 100000
attribute [local go_sem ↓] Go.wp_at_zero Go.wp_at_succ

end Go.Proofs.YtbpkdihonemogaaGreatDoor
/- A step of the document's layer 13: line 36. -/
namespace Go.Proofs.YtbpkdihonemogaaGreatDoor
open Go Go.RowKit
set_option maxRecDepth 100000
attribute [local go_sem ↓] Go.wp_at_zero Go.wp_at_succ

end Go.Proofs.YtbpkdihonemogaaGreatDoor
/- A step of both as one function. -/
namespace Go.Proofs.YtbpkdihonemogaaGreatDoor
open Go Go.RowKit
set_option maxRecDepth 100000
attribute [local go_sem ↓] Go.wp_at_zero Go.wp_at_succ

/-- What line 35 loads. -/
def popN (C : Cf) (s : Dy) (m : Mu) : Int := z5 C.n 1 (fieldP C.a C.b C.c C.d m.m3.toNat 1) (s.f (fieldP C.a C.b C.c C.d m.m3.toNat 1).toNat)
/-- A step of layer 13: words and access, how far it is, whether it was the linearising step, whether it was a line of this layer. -/
def popS (C : Cf) (s : Dy) (m : Mu) : Dy × Mu × Bool × Bool :=
  if m.l = 34 then (s.act C 1 0 0 0, { m with l := 35, m3 := z5 C.n 1 0 (s.f 0) }, false, true)
  else if m.l = 35 then (s.act C 1 (fieldP C.a C.b C.c C.d m.m3.toNat 1) 0 0, (if isC (popN C s m).toNat then { m with l := 36, m4 := popN C s m } else { m with l := 41, m4 := popN C s m, rt := 5 }), !decide (isC (popN C s m).toNat), true)
  else if m.l = 36 then (s.act C 2 0 m.m4 0, { m with l := begL m.m4.toNat 37, p := begP m.m4.toNat, bk := begB m.m4.toNat 37 }, true, true)
  else (s, m, false, false)
theorem z5_u64 {n : Nat} {k i x : Int} (h : U64 x) : U64 (z5 n k i x) := by
  unfold z5
  by_cases e : okD n k i
  · rw [if_pos e]; exact h
  · rw [if_neg e]; exact u64_zero
theorem begP_u64 (v : Nat) (hv : v < 18446744073709551616) : U64 (begP v) := by
  unfold begP
  by_cases e : isC v
  · rw [if_pos e]; unfold U64; omega
  · rw [if_neg e]; exact u64_zero
theorem popS_U {C : Cf} {s : Dy} (h : s.U) (m : Mu) (hm : m.U) : (popS C s m).1.U ∧ (popS C s m).2.1.U := by
  have h0 := u64_zero
  unfold popS
  unfold Mu.U at hm
  split
  · exact ⟨h.act C 1 0 h0 h0, hm.1, hm.2.1, z5_u64 (h 0), hm.2.2.2.1, hm.2.2.2.2.1, hm.2.2.2.2.2⟩
  · split
    · refine ⟨h.act C 1 _ h0 h0, ?_⟩
      have hN : U64 (popN C s m) := z5_u64 (h _)
      split
      · exact ⟨hm.1, hm.2.1, hm.2.2.1, hN, hm.2.2.2.2.1, hm.2.2.2.2.2⟩
      · exact ⟨hm.1, hm.2.1, hm.2.2.1, hN, hm.2.2.2.2.1, hm.2.2.2.2.2⟩
    · split
      · refine ⟨h.act C 2 0 hm.2.2.2.1 h0, hm.1, hm.2.1, hm.2.2.1, hm.2.2.2.1, hm.2.2.2.2.1, begP_u64 _ ?_⟩
        obtain ⟨h1, h2⟩ := hm.2.2.2.1; omega
      · exact ⟨h, hm⟩
theorem pop_c {w : World} {H A G : Nat} {C : Cf} {s : Dy} (hH : HAt w H A G C s) (hu : s.U) (hS : SpansAt w) (m : Mu) (hm : m.U) :
    Calls Tryz.prog 71 #[.pointer (some ⟨H, 0, none⟩), m.v] w (HP w H A G C (popS C s m).1 (.tuple #[(popS C s m).2.1.v, .bool (popS C s m).2.2.1, .bool (popS C s m).2.2.2])) := by
  obtain ⟨l, q1, q2, q3, q4, m1, m2, m3, m4, m5, p, bk, rt⟩ := m
  unfold popS popN
  unfold Mu.U at hm
  dsimp only at hm ⊢
  by_cases e : l = 34
  · subst e; rw [if_pos rfl]; exact pStep_head hH hu p bk q1 q2 q3 q4 m1 m2 m3 m4 m5 rt
  · rw [if_neg e]
    by_cases e2 : l = 35
    · subst e2; rw [if_pos rfl]
      obtain ⟨v, rfl, hv⟩ := u64_nat' hm.2.2.1
      simp only [Int.toNat_natCast]
      obtain ⟨u, hT, hu6⟩ := u64_nat' (z5_u64 (n := C.n) (k := 1) (i := fieldP C.a C.b C.c C.d v 1) (hu (fieldP C.a C.b C.c C.d v 1).toNat))
      simp only [hT, Int.toNat_natCast]
      by_cases hc : isC u
      · simp only [hc, decide_true, Bool.not_true]
        exact pStep_next hH hu hS v hv u hu6 hT hc p bk q1 q2 q3 q4 m1 m2 m4 m5 rt
      · simp only [hc, decide_false, Bool.not_false]
        exact pStep_last hH hu hS v hv u hu6 hT hc p bk q1 q2 q3 q4 m1 m2 m4 m5 rt
    · rw [if_neg e2]
      by_cases e3 : l = 36
      · subst e3; rw [if_pos rfl]
        obtain ⟨v, rfl, hv⟩ := u64_nat' hm.2.2.2.1
        simp only [Int.toNat_natCast]
        exact pStep_take hH hu v hv p bk q1 q2 q3 q4 m1 m2 m3 m5 rt
      · rw [if_neg e3]; exact pStep_other hH l p bk q1 q2 q3 q4 m1 m2 m3 m4 m5 rt e e2 e3
end Go.Proofs.YtbpkdihonemogaaGreatDoor
/- Places and what lies there; what an access does to words; a configuration that fits the number of words. -/
namespace Go.Proofs.YtbpkdihonemogaaGreatDoor
open Go Go.RowKit
set_option maxRecDepth 100000

theorem words_load (n : Nat) (f : Nat → Int) (i : Int) : wordsQ n f 1 i 0 0 = f := by
  unfold wordsQ
  by_cases h : okD n 1 i
  · rw [if_pos h]; rfl
  · rw [if_neg h]
theorem words_store (n : Nat) (f : Nat → Int) (i x : Int) (h : 0 ≤ i ∧ i < n) : wordsQ n f 2 i x 0 = upd f i.toNat x := by
  unfold wordsQ
  rw [if_pos (show okD n 2 i from ⟨by omega, by omega, h.1, h.2⟩)]; rfl
theorem z5_in {n : Nat} {k i : Int} (v : Int) (hk : 1 ≤ k ∧ k ≤ 4) (h : 0 ≤ i ∧ i < n) : z5 n k i v = v := by
  unfold z5
  rw [if_pos (show okD n k i from ⟨hk.1, hk.2, h.1, h.2⟩)]
theorem field_cell {a b c d : Int} {i : Nat} (hi : i < 4096) (p : Int) (hp : 0 ≤ p ∧ p ≤ 2) : fieldP a b c d (2 * i + 1) p = partP a b c d p (i : Int) := by
  unfold fieldP
  rw [if_pos ⟨⟨by omega, by omega⟩, hp⟩, show (2 * i + 1) / 2 = i by omega]
theorem cell_isC {i : Nat} (h : i < 4096) : isC (2 * i + 1) := ⟨by omega, by omega⟩
/-- Where the configuration's numbers fit the number of words. -/
structure CfOK (C : Cf) : Prop where
  right : Right C.a C.b C.c C.d
  size : (C.n : Int) = 5 + C.b + C.d + C.b * C.c + 3 * C.a
theorem CfOK.pos {C : Cf} (h : CfOK C) : 0 < C.n := by have := h.right.prod; have h1 := h.right; have h2 := h.size; unfold Right at h1; omega
theorem CfOK.a4 {C : Cf} (h : CfOK C) : 2 ≤ C.a ∧ C.a ≤ 4096 ∧ 1 ≤ C.b ∧ 1 ≤ C.c ∧ 0 ≤ C.d := by have := h.right; unfold Right at this; omega
theorem CfOK.four {C : Cf} (h : CfOK C) : 4 < C.n := by have := h.right.prod; have h1 := h.right; have h2 := h.size; unfold Right at h1; omega
theorem sp_reg {C : Cf} (h : CfOK C) {i r : Int} (h0 : 0 ≤ i) (h1 : i < C.b) (h2 : 0 ≤ r) (h3 : r < C.c) : spotF C.b C.c C.d ((regP C.a C.b C.c C.d i r).toNat : Int) = (3, i, r) ∧ 0 ≤ regP C.a C.b C.c C.d i r ∧ regP C.a C.b C.c C.d i r < C.n := by
  have hr := h.right
  have hp := prod_lt hr h0 h1 h2 h3
  have hs := h.size
  rw [regP_in hr i r h0 h1 h2 h3]
  have hq := hr
  unfold Right at hq
  exact ⟨spot_reg hr h0 h1 h2 h3 (by omega), by omega, by omega⟩
theorem sp_glob {C : Cf} (h : CfOK C) {i : Int} (h0 : 0 ≤ i) (h1 : i < C.d) : spotF C.b C.c C.d ((globP C.a C.b C.c C.d i).toNat : Int) = (2, i, 0) ∧ 0 ≤ globP C.a C.b C.c C.d i ∧ globP C.a C.b C.c C.d i < C.n := by
  have hr := h.right
  have hp := hr.prod
  have hs := h.size
  rw [globP_in hr i h0 h1]
  unfold Right at hr
  refine ⟨?_, by omega, by omega⟩
  rw [spot_glob (by omega) (by omega) (by omega), show ((5 + C.b + i).toNat : Int) - (5 + C.b) = i by omega]
theorem sp_part {C : Cf} (h : CfOK C) {k i : Int} (h0 : 0 ≤ i) (h1 : i < C.a) (h2 : 0 ≤ k) (h3 : k < 3) : spotF C.b C.c C.d ((partP C.a C.b C.c C.d k i).toNat : Int) = (4 + k, i, 0) ∧ 0 ≤ partP C.a C.b C.c C.d k i ∧ partP C.a C.b C.c C.d k i < C.n := by
  have hr := h.right
  have hp := hr.prod
  have hs := h.size
  rw [partP_in hr k i h0 h1]
  have hq := hr
  unfold Right at hq
  exact ⟨spot_cell hr h0 h2 h3 (by omega), by omega, by omega⟩
theorem sp_once (b c d : Int) {j : Nat} (h : j < 5) : spotF b c d (j : Int) = (0, (j : Int), 0) := spot_once (by omega)
theorem upd_spot {b c d : Int} {f : Nat → Int} {p j : Nat} {w : Int} (h : spotF b c d j ≠ spotF b c d p) : upd f p w j = f j := by
  unfold upd
  rw [if_neg (fun e => h (by rw [e]))]
theorem upd_at (f : Nat → Int) (p : Nat) (w : Int) : upd f p w p = w := by unfold upd; rw [if_pos rfl]
/-- The words, and no access. -/
def Dy.clr (s : Dy) : Dy := ⟨s.f, 0, 0, 0, 0, 0⟩
/-- What is loaded at a place. -/
def ldP (C : Cf) (s : Dy) (P : Int) : Int := z5 C.n 1 P (s.f P.toNat)
end Go.Proofs.YtbpkdihonemogaaGreatDoor
/- The free list without memory: chains of cells by a function that tells what comes behind each. -/
namespace Go.Proofs.YtbpkdihonemogaaGreatDoor
open Go Go.RowKit

/-- From the word w on, by nx, come the cells of the list, and nil behind the last one. -/
def ChainL (nx : Nat → Int) (a : Nat) : Int → List Nat → Prop
  | w, [] => w = 0
  | w, i :: l => w = 2 * (i : Int) + 1 ∧ i < a ∧ ChainL nx a (nx i) l
theorem ChainL.uniq {nx : Nat → Int} {a : Nat} : ∀ {w : Int} {l m : List Nat}, ChainL nx a w l → ChainL nx a w m → l = m
  | _, [], [], _, _ => rfl
  | w, [], j :: m, h1, h2 => by
    have e1 : w = 0 := h1
    have e2 : w = 2 * (j : Int) + 1 := h2.1
    omega
  | w, i :: l, [], h1, h2 => by
    have e1 : w = 0 := h2
    have e2 : w = 2 * (i : Int) + 1 := h1.1
    omega
  | w, i :: l, j :: m, h1, h2 => by
    have e1 := h1.1
    have e2 := h2.1
    obtain rfl : i = j := by omega
    rw [ChainL.uniq h1.2.2 h2.2.2]
/-- What is behind a cell of a chain is a chain. -/
theorem ChainL.behind {nx : Nat → Int} {a : Nat} : ∀ {w : Int} {l : List Nat} {i : Nat}, ChainL nx a w l → i ∈ l → ∃ m, ChainL nx a (nx i) m ∧ m.length < l.length
  | w, j :: l, i, h, hi => by
    rcases List.mem_cons.1 hi with e | e
    · subst e
      exact ⟨l, h.2.2, by simp⟩
    · obtain ⟨m, h1, h2⟩ := ChainL.behind h.2.2 e
      exact ⟨m, h1, by simp; omega⟩
/-- No cell comes twice. -/
theorem ChainL.nodup {nx : Nat → Int} {a : Nat} : ∀ {w : Int} {l : List Nat}, ChainL nx a w l → l.Nodup
  | _, [], _ => List.nodup_nil
  | _, j :: l, h => by
    refine List.nodup_cons.2 ⟨fun hj => ?_, ChainL.nodup h.2.2⟩
    obtain ⟨m, h1, h2⟩ := ChainL.behind h.2.2 hj
    rw [ChainL.uniq h1 h.2.2] at h2
    omega
theorem ChainL.lt {nx : Nat → Int} {a : Nat} : ∀ {w : Int} {l : List Nat} {i : Nat}, ChainL nx a w l → i ∈ l → i < a
  | _, j :: l, i, h, hi => by
    rcases List.mem_cons.1 hi with e | e
    · subst e; exact h.2.1
    · exact ChainL.lt h.2.2 e
/-- Unlike numbers below a are a of them at most. -/
theorem nodup_le : ∀ {a : Nat} {l : List Nat}, l.Nodup → (∀ i ∈ l, i < a) → l.length ≤ a
  | 0, l, _, h => by
    cases l with
    | nil => exact Nat.le_refl _
    | cons i l => exact absurd (h i (List.mem_cons_self ..)) (by omega)
  | a + 1, l, hn, h => by
    have h1 := nodup_le (a := a) (l := l.filter (fun i => i != a)) (hn.filter _) (fun i hi => by
      obtain ⟨h1, h2⟩ := List.mem_filter.1 hi
      have := h i h1
      have h3 : i ≠ a := by simpa using h2
      omega)
    have h2 : l.length ≤ (l.filter (fun i => i != a)).length + 1 := by
      clear h h1
      induction l with
      | nil => simp
      | cons i l ih =>
        obtain ⟨h3, h4⟩ := List.nodup_cons.1 hn
        by_cases e : i = a
        · subst e
          have : l.filter (fun j => j != i) = l := List.filter_eq_self.2 (fun j hj => by
            have : j ≠ i := fun e => h3 (e ▸ hj)
            simpa using this)
          simp [this]
        · have := ih h4
          simp [e]
          omega
    omega
theorem ChainL.length {nx : Nat → Int} {a : Nat} {w : Int} {l : List Nat} (h : ChainL nx a w l) : l.length ≤ a := nodup_le h.nodup (fun _ hi => h.lt hi)
/-- A chain doesn't hang on what is behind cells that aren't its own. -/
theorem ChainL.congr {nx ny : Nat → Int} {a : Nat} : ∀ {w : Int} {l : List Nat}, ChainL nx a w l → (∀ i ∈ l, nx i = ny i) → ChainL ny a w l
  | _, [], h, _ => h
  | _, i :: l, h, e => ⟨h.1, h.2.1, by rw [← e i (List.mem_cons_self ..)]; exact ChainL.congr h.2.2 (fun j hj => e j (List.mem_cons_of_mem _ hj))⟩
/-- A word that leads to a cell of the map. -/
def leads (a : Nat) (w : Int) : Bool := w % 2 == 1 && decide (0 ≤ w) && decide (w / 2 < (a : Int))
theorem leads_iff {a : Nat} {w : Int} : leads a w = true ↔ ∃ i : Nat, w = 2 * (i : Int) + 1 ∧ i < a := by
  unfold leads
  constructor
  · intro h
    simp at h
    exact ⟨(w / 2).toNat, by omega, by omega⟩
  · rintro ⟨i, rfl, hi⟩
    simp
    omega
/-- As far as k more cells: the cells till nil, or none. -/
def pathL (nx : Nat → Int) (a : Nat) : Nat → Int → Option (List Nat)
  | 0, w => if w = 0 then some [] else none
  | k + 1, w => if w = 0 then some [] else if leads a w then (pathL nx a k (nx (w / 2).toNat)).map ((w / 2).toNat :: ·) else none
theorem pathL_some {nx : Nat → Int} {a : Nat} : ∀ {k : Nat} {w : Int} {l : List Nat}, pathL nx a k w = some l ↔ ChainL nx a w l ∧ l.length ≤ k
  | 0, w, l => by
    unfold pathL
    by_cases e : w = 0
    · subst e
      rw [if_pos rfl]
      constructor
      · intro h; cases h; exact ⟨rfl, Nat.le_refl _⟩
      · rintro ⟨_, h⟩
        cases l with
        | nil => rfl
        | cons i l => simp at h
    · rw [if_neg e]
      constructor
      · intro h; cases h
      · rintro ⟨h, h2⟩
        cases l with
        | nil => exact absurd h e
        | cons i l => simp at h2
  | k + 1, w, l => by
    unfold pathL
    by_cases e : w = 0
    · subst e
      rw [if_pos rfl]
      constructor
      · intro h; cases h; exact ⟨rfl, Nat.zero_le _⟩
      · rintro ⟨h, _⟩
        have h0 : ChainL nx a 0 [] := rfl
        rw [ChainL.uniq h h0]
    · rw [if_neg e]
      by_cases hl : leads a w = true
      · rw [if_pos hl]
        obtain ⟨i, hi, hia⟩ := leads_iff.1 hl
        have ei : (w / 2).toNat = i := by omega
        rw [ei]
        constructor
        · intro h
          obtain ⟨m, hm, rfl⟩ := Option.map_eq_some_iff.1 h
          obtain ⟨h1, h2⟩ := pathL_some.1 hm
          exact ⟨⟨hi, hia, h1⟩, by simp; omega⟩
        · rintro ⟨h1, h2⟩
          cases l with
          | nil => exact absurd h1 e
          | cons j m =>
            have ej := h1.1
            obtain rfl : i = j := by omega
            rw [pathL_some.2 ⟨h1.2.2, by simp at h2; omega⟩]
            rfl
      · rw [if_neg hl]
        constructor
        · intro h; cases h
        · rintro ⟨h1, _⟩
          cases l with
          | nil => exact absurd h1 e
          | cons j m => exact absurd (leads_iff.2 ⟨j, h1.1, h1.2.1⟩) hl
/-- The free list from the word w on: at least one cell, and nil behind the last one; or none. -/
def listF (nx : Nat → Int) (a : Nat) (w : Int) : Option (List Nat) := if leads a w then (pathL nx a (a - 1) (nx (w / 2).toNat)).map ((w / 2).toNat :: ·) else none
theorem listF_some {nx : Nat → Int} {a : Nat} {w : Int} {l : List Nat} : listF nx a w = some l ↔ ChainL nx a w l ∧ l ≠ [] := by
  unfold listF
  by_cases hl : leads a w = true
  · rw [if_pos hl]
    obtain ⟨i, hi, hia⟩ := leads_iff.1 hl
    have ei : (w / 2).toNat = i := by omega
    rw [ei]
    constructor
    · intro h
      obtain ⟨m, hm, rfl⟩ := Option.map_eq_some_iff.1 h
      exact ⟨⟨hi, hia, (pathL_some.1 hm).1⟩, by simp⟩
    · rintro ⟨h1, h2⟩
      cases l with
      | nil => exact absurd rfl h2
      | cons j m =>
        have ej := h1.1
        obtain rfl : i = j := by omega
        have := h1.length
        rw [pathL_some.2 ⟨h1.2.2, by simp at this; omega⟩]
        rfl
  · rw [if_neg hl]
    constructor
    · intro h; cases h
    · rintro ⟨h1, h2⟩
      cases l with
      | nil => exact absurd rfl h2
      | cons j m => exact absurd (leads_iff.2 ⟨j, h1.1, h1.2.1⟩) hl
end Go.Proofs.YtbpkdihonemogaaGreatDoor
/- How far a list has been gone along: the cells so far, and the word that they lead to. -/
namespace Go.Proofs.YtbpkdihonemogaaGreatDoor
open Go Go.RowKit

/-- From the word w the cells of L lead, by nx, to the word u. -/
def ReachL (nx : Nat → Int) (a : Nat) : Int → List Nat → Int → Prop
  | w, [], u => w = u
  | w, i :: l, u => w = 2 * (i : Int) + 1 ∧ i < a ∧ ReachL nx a (nx i) l u
theorem ReachL.snoc {nx : Nat → Int} {a : Nat} : ∀ {w u : Int} {L : List Nat} {i : Nat}, ReachL nx a w L u → u = 2 * (i : Int) + 1 → i < a → ReachL nx a w (L ++ [i]) (nx i)
  | _, _, [], _, h, hu, hi => ⟨h.trans hu, hi, rfl⟩
  | _, _, _ :: _, _, h, hu, hi => ⟨h.1, h.2.1, ReachL.snoc h.2.2 hu hi⟩
theorem ReachL.chain {nx : Nat → Int} {a : Nat} : ∀ {w u : Int} {L M : List Nat}, ReachL nx a w L u → ChainL nx a w M → ∃ K, M = L ++ K ∧ ChainL nx a u K
  | w, u, [], M, h, hM => ⟨M, rfl, by rw [← (show w = u from h)]; exact hM⟩
  | w, u, i :: l, [], h, hM => by
    have e1 := h.1
    have e2 : w = 0 := hM
    omega
  | w, u, i :: l, j :: m, h, hM => by
    have e1 := h.1
    have e2 := hM.1
    obtain rfl : i = j := by omega
    obtain ⟨K, e, hK⟩ := ReachL.chain h.2.2 hM.2.2
    exact ⟨K, by rw [e]; rfl, hK⟩
theorem ReachL.ends {nx : Nat → Int} {a : Nat} : ∀ {w : Int} {L : List Nat}, ReachL nx a w L 0 → ChainL nx a w L
  | _, [], h => h
  | _, _ :: _, h => ⟨h.1, h.2.1, ReachL.ends h.2.2⟩
theorem ReachL.lt {nx : Nat → Int} {a : Nat} : ∀ {w u : Int} {L : List Nat} {i : Nat}, ReachL nx a w L u → i ∈ L → i < a
  | _, _, j :: l, i, h, hi => by
    rcases List.mem_cons.1 hi with e | e
    · subst e; exact h.2.1
    · exact ReachL.lt h.2.2 e
/-- It is a list: nil behind at least one cell. -/
theorem ReachL.found {nx : Nat → Int} {a : Nat} {w : Int} {L : List Nat} (h : ReachL nx a w L 0) (hL : L ≠ []) : listF nx a w = some L := listF_some.2 ⟨h.ends, hL⟩
theorem listF_none {nx : Nat → Int} {a : Nat} {w : Int} (h : ∀ M, ChainL nx a w M → M ≠ [] → False) : listF nx a w = none := by
  cases e : listF nx a w with
  | none => rfl
  | some M => obtain ⟨h1, h2⟩ := listF_some.1 e; exact (h M h1 h2).elim
/-- It is none: what comes is neither a cell of the map nor nil behind a cell. -/
theorem ReachL.stuck {nx : Nat → Int} {a : Nat} {w u : Int} {L : List Nat} (h : ReachL nx a w L u) (h1 : ∀ i : Nat, u = 2 * (i : Int) + 1 → ¬ i < a) (h2 : u ≠ 0 ∨ L = []) : listF nx a w = none :=
  listF_none fun M hM hne => by
    obtain ⟨K, e, hK⟩ := h.chain hM
    cases K with
    | nil =>
      have e0 : u = 0 := hK
      rcases h2 with h2 | h2
      · exact h2 e0
      · rw [h2] at e; exact hne e
    | cons j K => exact h1 j hK.1 hK.2.1
/-- It is none: a cell comes twice. -/
theorem ReachL.twice {nx : Nat → Int} {a : Nat} {w u : Int} {L : List Nat} {i : Nat} (h : ReachL nx a w L u) (hu : u = 2 * (i : Int) + 1) (hi : i ∈ L) : listF nx a w = none :=
  listF_none fun M hM _ => by
    obtain ⟨K, e, hK⟩ := h.chain hM
    cases K with
    | nil => have e0 : u = 0 := hK; omega
    | cons j K =>
      have e1 := hK.1
      obtain rfl : i = j := by omega
      have hn := hM.nodup
      rw [e] at hn
      exact (List.nodup_append.1 hn).2.2 i hi i (List.mem_cons_self ..) rfl
/-- It is none: there are more cells than the map has. -/
theorem ReachL.long {nx : Nat → Int} {a : Nat} {w u : Int} {L : List Nat} (h : ReachL nx a w L u) (hl : a < L.length) : listF nx a w = none :=
  listF_none fun M hM _ => by
    obtain ⟨K, e, _⟩ := h.chain hM
    have := hM.length
    rw [e, List.length_append] at this
    omega
/-- How far the program is: the cells so far, unlike, and the place of the word that they lead to. -/
structure Way (f : Nat → Int) (nx : Nat → Int) (a n : Nat) (L : List Nat) (p : Nat) : Prop where
  reach : ReachL nx a (f 0) L (f p)
  nodup : L.Nodup
  lt : p < n
theorem Way.first (f nx : Nat → Int) (a : Nat) {n : Nat} (hn : 0 < n) : Way f nx a n [] 0 := ⟨rfl, List.nodup_nil, hn⟩
theorem Way.next {f nx : Nat → Int} {a n : Nat} {L : List Nat} {p i q : Nat} (h : Way f nx a n L p) (hu : f p = 2 * (i : Int) + 1) (hi : i < a) (hm : ¬ i ∈ L) (hq : q < n) (e : nx i = f q) : Way f nx a n (L ++ [i]) q :=
  ⟨e ▸ h.reach.snoc hu hi, List.nodup_append.2 ⟨h.nodup, List.nodup_cons.2 ⟨by simp, List.nodup_nil⟩, fun x hx y hy e2 => by
    have e3 : y = i := by simpa using hy
    rw [e2, e3] at hx
    exact hm hx⟩, hq⟩
theorem Way.le {f nx : Nat → Int} {a n : Nat} {L : List Nat} {p : Nat} (h : Way f nx a n L p) : L.length ≤ a := nodup_le h.nodup (fun _ hi => h.reach.lt hi)
/-- Where the cdr of a cell lies. -/
def cdrP (b c d : Int) (i : Nat) : Nat := (5 + b + d + b * c + 3 * (i : Int) + 1).toNat
end Go.Proofs.YtbpkdihonemogaaGreatDoor
/- Package pop's List, of any words: the cells of the free list, or none. -/
namespace Go.Proofs.YtbpkdihonemogaaGreatDoor
open Go Go.RowKit
set_option maxRecDepth 100000
attribute [local go_sem ↓] Go.wp_at_zero Go.wp_at_succ

theorem word_nat {x : Int} (h : U64 x) : ∃ v : Nat, x = v ∧ v < 18446744073709551616 := by obtain ⟨h1, h2⟩ := h; exact ⟨x.toNat, by omega, by omega⟩
theorem infoInt : (Tryz.prog.info? 3).map (fun i => (i.zero, i.size, i.bytes)) = some (some (.int .i64 0), 1, 8) := by kernel_rfl
theorem infoBool : (Tryz.prog.info? 4).map (fun i => (i.zero, i.size, i.bytes)) = some (some (.bool false), 1, 1) := by kernel_rfl
/-- Numbers as values. -/
def intsV (L : List Nat) : List Value := L.map fun (i : Nat) => Value.int .i64 (i : Int)
theorem intsV_snoc (L : List Nat) (i : Nat) : intsV (L ++ [i]) = intsV L ++ [.int .i64 (i : Int)] := by simp [intsV]
theorem intsV_length (L : List Nat) : (intsV L).length = L.length := by simp [intsV]
/-- What List answers. -/
def ListPost (w : World) (r : Option (List Nat)) (e : Ending) (w' : World) : Prop :=
  ∃ v, e = .returned (.tuple #[v, .bool r.isSome]) ∧ w'.ownsRow w.heap.size 3 1 v (r.getD []).length (intsV (r.getD [])) ∧ Below w.heap.size w w'
theorem ListPost.none {w w' : World} (h : Below w.heap.size w w') : ListPost w Option.none (.returned (.tuple #[.slice Option.none 0 0, .bool false])) w' := ⟨_, rfl, World.ownsRow_nil _ _ _ _, h⟩
/-- What comes behind a cell. -/
def nxF (b c d : Int) (f : Nat → Int) (i : Nat) : Int := f (cdrP b c d i)
theorem cdrP_part {a b c d : Int} (hr : Right a b c d) {i : Nat} (hi : (i : Int) < a) : partP a b c d 1 (i : Int) = (cdrP b c d i : Int) ∧ ((cdrP b c d i : Nat) : Int) < 5 + b + d + b * c + 3 * a ∧ 5 ≤ cdrP b c d i := by
  have hp := hr.prod
  rw [partP_in hr 1 i (by omega) hi]
  unfold cdrP
  unfold Right at hr
  omega
/-- How far List is. -/
structure LSt (w wr : World) (v : Value) (f : Nat → Int) (a b c d : Int) (m n M G : Nat) (L : List Nat) (p : Nat) : Prop where
  old : Below w.heap.size w wr
  lo : w.heap.size ≤ M
  mg : M < G
  way : Way f (nxF b c d f) m n L p
  row : wr.ownsRow (G + 1) 3 1 v L.length (intsV L)
  met : wr.rowIs G 4 m (fun j => .bool (decide (j ∈ L)))
  map : BoxAt wr M a b c d
  size : G + 1 ≤ wr.heap.size
theorem LSt.first {w V W : World} (f : Nat → Int) (a b c d : Int) {m n : Nat} (hn : 0 < n) (hb : Below w.heap.size w V) (t : TypeId) (hb2 : Below (V.alloc (.cells #[.int .i64 a, .int .i64 b, .int .i64 c, .int .i64 d] t)).heap.size (V.alloc (.cells #[.int .i64 a, .int .i64 b, .int .i64 c, .int .i64 d] t)) W) :
    LSt w (W.alloc (.cells (madeCells #[.bool false] m) 4)) (.slice none 0 0) f a b c d m n V.heap.size W.heap.size [] 0 := by
  have hs := hb2.size
  rw [show (V.alloc (.cells #[.int .i64 a, .int .i64 b, .int .i64 c, .int .i64 d] t)).heap.size = V.heap.size + 1 by simp] at hs
  refine ⟨below_on (belowOn (below_on hb _) hb2) _, hb.size, by omega, Way.first f _ m hn, World.ownsRow_nil _ _ _ _, ?_, ((BoxAt.new V a b c d t).below hb2).below (below_new _ _), by simp⟩
  exact (World.rowIs_made W (.bool false) m 4).congr (fun i _ => by simp)
theorem LSt.add {w wr w2 : World} {v v' : Value} {f : Nat → Int} {a b c d : Int} {m n M G : Nat} {L : List Nat} {p i q : Nat} (h : LSt w wr v f a b c d m n M G L p) (hw : Way f (nxF b c d f) m n (L ++ [i]) q) (o : Obj)
    (hg : ((wr.setCell ⟨G, i, none⟩ (.bool true)).alloc o).grownBy w2 v.ownBlock) (hown : w2.ownsRow (G + 1) 3 1 v' (L.length + 1) (intsV L ++ [.int .i64 (i : Int)])) : LSt w w2 v' f a b c d m n M G (L ++ [i]) q := by
  have hrow := fun j e => h.row.lt j e
  have hM1 : G < wr.heap.size := h.met.lt
  have hsz := h.size
  have hlo := h.lo
  have hmg := h.mg
  have hne : ∀ k, k < G + 1 → some k ≠ v.ownBlock := fun k hk e => by have := (hrow k e.symm).1; omega
  have hb1 : Below w.heap.size w ((wr.setCell ⟨G, i, none⟩ (.bool true)).alloc o) := (h.old.setCell (p := ⟨G, i, none⟩) (by show w.heap.size ≤ G; omega) (.bool true)).alloc (by have := h.old.size; simpa [World.setCell] using this) o
  have hsz1 : ((wr.setCell ⟨G, i, none⟩ (.bool true)).alloc o).heap.size = wr.heap.size + 1 := by simp [World.setCell]
  have keep : ∀ k, k < G + 1 → w2.heap[k]? = (wr.setCell ⟨G, i, none⟩ (.bool true)).heap[k]? := fun k hk => by
    rw [hg.block k (by omega) (hne k hk)]
    exact (below_new (wr.setCell ⟨G, i, none⟩ (.bool true)) o).block k (by simp [World.setCell]; omega)
  refine ⟨hb1.grown hg (by rw [hsz1]; have := h.old.size; omega) (fun k e => by have := (hrow k e).1; omega), hlo, hmg, hw, ?_, ?_, ?_, by have := hg.size; omega⟩
  · rw [intsV_snoc, List.length_append]; exact hown
  · refine ((h.met.set i (.bool true)).of_block (keep G (by omega))).congr (fun j _ => ?_)
    by_cases e : j = i
    · rw [if_pos e, e]; simp
    · rw [if_neg e]; simp [e]
  · have hk : w2.heap[M]? = wr.heap[M]? := (keep M (by omega)).trans (Below.heap_setCell _ _ _ _ (by show M ≠ G; omega))
    obtain ⟨h1, h2, h3, h4⟩ := h.map
    exact ⟨(World.cell?_of_block hk).trans h1, (World.cell?_of_block hk).trans h2, (World.cell?_of_block hk).trans h3, (World.cell?_of_block hk).trans h4⟩
theorem LSt.below {w wr w2 : World} {v : Value} {f : Nat → Int} {a b c d : Int} {m n M G : Nat} {L : List Nat} {p : Nat} (h : LSt w wr v f a b c d m n M G L p) (hb : Below wr.heap.size wr w2) : LSt w w2 v f a b c d m n M G L p :=
  ⟨belowOn h.old hb, h.lo, h.mg, h.way, ownsRow_below4 h.row hb, h.met.of_block (hb.block _ h.met.lt), h.map.below hb, Nat.le_trans h.size hb.size⟩
theorem LSt.mine {w wr : World} {v : Value} {f : Nat → Int} {a b c d : Int} {m n M G : Nat} {L : List Nat} {p : Nat} (h : LSt w wr v f a b c d m n M G L p) : wr.ownsRow w.heap.size 3 1 v L.length (intsV L) := h.row.mono (by have := h.lo; have := h.mg; omega)
end Go.Proofs.YtbpkdihonemogaaGreatDoor
/- Taking a cell off a list, without memory: each line's step, and how it goes from the line 34 to its end. -/
namespace Go.Proofs.YtbpkdihonemogaaGreatDoor
open Go Go.RowKit
set_option maxRecDepth 100000

theorem pop34 (C : Cf) (hn : 0 < C.n) (s : Dy) (m : Mu) (hl : m.l = 34) : popS C s m = (⟨s.f, 1, 0, 0, 0, s.f 0⟩, { m with l := 35, m3 := s.f 0 }, false, true) := by
  unfold popS
  rw [if_pos hl, z5_in (s.f 0) (by omega) (by omega)]
  unfold Dy.act
  rw [words_load, z5_in _ (by omega) (by omega), z5_in _ (by omega) (by omega), z5_in _ (by omega) (by omega)]
  rfl
theorem CfOK.cdr {C : Cf} (h : CfOK C) {i : Nat} (hi : (i : Int) < C.a) : fieldP C.a C.b C.c C.d (2 * i + 1) 1 = (cdrP C.b C.c C.d i : Int) ∧ cdrP C.b C.c C.d i < C.n ∧ 5 ≤ cdrP C.b C.c C.d i := by
  have h1 := cdrP_part h.right hi
  have h2 := h.right
  have h3 := h.size
  unfold Right at h2
  refine ⟨by rw [field_cell (by omega) 1 (by omega)]; exact h1.1, by omega, h1.2.2⟩
theorem pop35 (C : Cf) (h : CfOK C) (s : Dy) (m : Mu) (hl : m.l = 35) {i : Nat} (hi : (i : Int) < C.a) (h3 : m.m3 = 2 * (i : Int) + 1) :
    popS C s m = (⟨s.f, 1, cdrP C.b C.c C.d i, 0, 0, nxF C.b C.c C.d s.f i⟩, (if isC (nxF C.b C.c C.d s.f i).toNat then { m with l := 36, m4 := nxF C.b C.c C.d s.f i } else { m with l := 41, m4 := nxF C.b C.c C.d s.f i, rt := 5 }), !decide (isC (nxF C.b C.c C.d s.f i).toNat), true) := by
  obtain ⟨e1, e2, _⟩ := h.cdr hi
  have e3 : m.m3.toNat = 2 * i + 1 := by omega
  have hN : popN C s m = nxF C.b C.c C.d s.f i := by
    unfold popN
    rw [e3, e1, z5_in _ (by omega) (by omega)]
    rfl
  unfold popS
  rw [if_neg (by omega), if_pos hl]
  simp only [hN, e3, e1]
  unfold Dy.act
  rw [words_load, z5_in _ (by omega) (by omega), z5_in _ (by omega) (by omega), z5_in _ (by omega) (by omega), z5_in _ (by omega) (by omega)]
  rfl
theorem pop36 (C : Cf) (hn : 0 < C.n) (s : Dy) (m : Mu) (hl : m.l = 36) (h4 : isC m.m4.toNat) (h40 : 0 ≤ m.m4) : popS C s m = (⟨upd s.f 0 m.m4, 2, 0, m.m4, 0, s.f 0⟩, { m with l := 80, p := m.m4, bk := 37 }, true, true) := by
  unfold popS
  rw [if_neg (by omega), if_neg (by omega), if_pos hl]
  unfold begL begP begB Dy.act
  rw [words_store _ _ _ _ (by omega), if_pos h4, if_pos h4, if_pos h4, z5_in _ (by omega) (by omega), z5_in _ (by omega) (by omega), z5_in _ (by omega) (by omega), z5_in _ (by omega) (by omega), Int.toNat_of_nonneg h40]
  rfl
/-- A mutator that has nothing but a line, a first cell, the next one, what is to be shaded, where it goes on, and a result. -/
abbrev hM (l h n p bk rt : Int) : Mu := ⟨l, 0, 0, 0, 0, 0, 0, h, n, 0, p, bk, rt⟩
/-- How far taking the cell i is, behind which is u: k steps, of which lin were linearising ones. -/
def TkSt (f : Nat → Int) (i : Nat) (u : Nat) (k : Nat) (lin : Int) (s : Dy) (m : Mu) : Prop :=
  (k = 0 ∧ lin = 0 ∧ s.f = f ∧ m = hM 34 0 0 0 0 0) ∨ (k = 1 ∧ lin = 0 ∧ s.f = f ∧ m = hM 35 (2 * (i : Int) + 1) 0 0 0 0) ∨
  (k = 2 ∧ lin = 0 ∧ s.f = f ∧ m = hM 36 (2 * (i : Int) + 1) u 0 0 0 ∧ isC u) ∨ (k = 2 ∧ lin = 1 ∧ s.f = f ∧ m = hM 41 (2 * (i : Int) + 1) u 0 0 5 ∧ ¬ isC u) ∨
  (k = 3 ∧ lin = 1 ∧ s.f = upd f 0 u ∧ m = hM 80 (2 * (i : Int) + 1) u u 37 0 ∧ isC u)
theorem TkSt.U {f : Nat → Int} (hf : ∀ j, U64 (f j)) {i u k : Nat} {lin : Int} (hi : i < 4096) (hu : u < 18446744073709551616) {s : Dy} {m : Mu} (h : TkSt f i u k lin s m) : s.U ∧ m.U := by
  have h0 := u64_zero
  have hw : U64 (2 * (i : Int) + 1) := by unfold U64; omega
  have hu2 : U64 (u : Int) := by unfold U64; omega
  rcases h with ⟨_, _, e, rfl⟩ | ⟨_, _, e, rfl⟩ | ⟨_, _, e, rfl, _⟩ | ⟨_, _, e, rfl, _⟩ | ⟨_, _, e, rfl, _⟩
  · exact ⟨fun j => by rw [e]; exact hf j, h0, h0, h0, h0, h0, h0⟩
  · exact ⟨fun j => by rw [e]; exact hf j, h0, h0, hw, h0, h0, h0⟩
  · exact ⟨fun j => by rw [e]; exact hf j, h0, h0, hw, hu2, h0, h0⟩
  · exact ⟨fun j => by rw [e]; exact hf j, h0, h0, hw, hu2, h0, h0⟩
  · exact ⟨fun j => by rw [e]; exact upd_u64 hf 0 hu2 j, h0, h0, hw, hu2, h0, hu2⟩
theorem TkSt.go {C : Cf} (hC : CfOK C) {f : Nat → Int} {i u k : Nat} {lin : Int} (hi : (i : Int) < C.a) (hf0 : f 0 = 2 * (i : Int) + 1) (hu : nxF C.b C.c C.d f i = u) {s : Dy} {m : Mu} (h : TkSt f i u k lin s m) (hk : k < 3) (h1 : 34 ≤ m.l) (h2 : m.l ≤ 36) :
    ∃ s' m' b, popS C s m = (s', m', b, true) ∧ TkSt f i u (k + 1) (lin + if b then 1 else 0) s' m' := by
  obtain ⟨sf, sk, si, sx, sy, so⟩ := s
  rcases h with ⟨rfl, rfl, e, rfl⟩ | ⟨rfl, rfl, e, rfl⟩ | ⟨rfl, rfl, e, rfl, hc⟩ | ⟨rfl, rfl, e, rfl, hc⟩ | ⟨rfl, rfl, e, rfl, hc⟩
  · dsimp only at e; subst e
    refine ⟨_, _, _, pop34 C hC.pos _ _ rfl, .inr (.inl ⟨rfl, rfl, rfl, ?_⟩)⟩
    dsimp only; rw [hf0]
  · dsimp only at e; subst e
    have hp := pop35 C hC ⟨sf, sk, si, sx, sy, so⟩ (hM 35 (2 * (i : Int) + 1) 0 0 0 0) rfl hi rfl
    dsimp only at hp
    simp only [hu, Int.toNat_natCast] at hp
    by_cases hc : isC u
    · rw [if_pos hc, decide_eq_true hc] at hp
      exact ⟨_, _, _, hp, .inr (.inr (.inl ⟨rfl, rfl, rfl, rfl, hc⟩))⟩
    · rw [if_neg hc, decide_eq_false hc] at hp
      exact ⟨_, _, _, hp, .inr (.inr (.inr (.inl ⟨rfl, rfl, rfl, rfl, hc⟩)))⟩
  · dsimp only at e; subst e
    refine ⟨_, _, _, pop36 C hC.pos _ _ rfl (by simpa using hc) (by dsimp only; omega), .inr (.inr (.inr (.inr ⟨rfl, rfl, rfl, rfl, hc⟩)))⟩
  · exact absurd h2 (by dsimp only; omega)
  · omega
theorem TkSt.lin {f : Nat → Int} {i u k : Nat} {lin : Int} {s : Dy} {m : Mu} (h : TkSt f i u k lin s m) : 0 ≤ lin ∧ lin ≤ 1 := by
  rcases h with ⟨rfl, rfl, _⟩ | ⟨rfl, rfl, _⟩ | ⟨rfl, rfl, _⟩ | ⟨rfl, rfl, _⟩ | ⟨rfl, rfl, _⟩ <;> omega
/-- Where it ends. -/
theorem TkSt.ends {f : Nat → Int} {i u k : Nat} {lin : Int} {s : Dy} {m : Mu} (h : TkSt f i u k lin s m) (hk : ¬ (k < 3 ∧ 34 ≤ m.l ∧ m.l ≤ 36)) :
    lin = 1 ∧ ((k = 2 ∧ s.f = f ∧ m = hM 41 (2 * (i : Int) + 1) u 0 0 5 ∧ ¬ isC u) ∨ (k = 3 ∧ s.f = upd f 0 u ∧ m = hM 80 (2 * (i : Int) + 1) u u 37 0 ∧ isC u)) := by
  rcases h with ⟨rfl, rfl, e, rfl⟩ | ⟨rfl, rfl, e, rfl⟩ | ⟨rfl, rfl, e, rfl, hc⟩ | ⟨rfl, rfl, e, rfl, hc⟩ | ⟨rfl, rfl, e, rfl, hc⟩
  · exact absurd ⟨by omega, by dsimp only; omega, by dsimp only; omega⟩ hk
  · exact absurd ⟨by omega, by dsimp only; omega, by dsimp only; omega⟩ hk
  · exact absurd ⟨by omega, by dsimp only; omega, by dsimp only; omega⟩ hk
  · exact ⟨rfl, .inl ⟨rfl, e, rfl, hc⟩⟩
  · exact ⟨rfl, .inr ⟨rfl, e, rfl, hc⟩⟩
/-- A list's first cell, the word behind it, and the rest. -/
theorem chain_last {nx : Nat → Int} {a i : Nat} {u : Nat} {L : List Nat} (ha : a ≤ 4096) (h : ChainL nx a (nx i) L) (hu : nx i = u) (hc : ¬ isC u) : L = [] := by
  cases L with
  | nil => rfl
  | cons j l =>
    have h1 := h.1
    have h2 := h.2.1
    exact absurd (by unfold isC; omega : isC u) hc
theorem chain_more {nx : Nat → Int} {a i : Nat} {u : Nat} {L : List Nat} (h : ChainL nx a (nx i) L) (hu : nx i = u) (hc : isC u) : ∃ j l, L = j :: l ∧ u = 2 * j + 1 ∧ j < a := by
  cases L with
  | nil => have h1 : nx i = 0 := h; unfold isC at hc; omega
  | cons j l => exact ⟨j, l, rfl, by have := h.1; omega, h.2.1⟩
/-- Behind taking it the list is that of the others. -/
theorem chain_taken {b c d : Int} {a : Nat} {f : Nat → Int} {u : Int} {L : List Nat} (h : ChainL (nxF b c d f) a u L) (h5 : ∀ j, j < a → 5 ≤ cdrP b c d j) : ChainL (nxF b c d (upd f 0 u)) a ((upd f 0 u) 0) L := by
  have e : (upd f 0 u) 0 = u := rfl
  rw [e]
  refine h.congr (fun j hj => ?_)
  have := h5 j (h.lt hj)
  unfold nxF upd
  rw [if_neg (by omega)]
/-- A hand and a mutator in blocks behind what was there. -/
structure TkW (w W : World) (H A G B : Nat) (C : Cf) (s : Dy) (m : Mu) : Prop where
  old : Below w.heap.size w W
  hand : HAt W H A G C s
  mu : MuAt W B m
  lo : w.heap.size ≤ H ∧ w.heap.size ≤ G ∧ w.heap.size ≤ B
  ne : B ≠ H ∧ B ≠ A ∧ B ≠ G
theorem TkW.below {w W V : World} {H A G B : Nat} {C : Cf} {s : Dy} {m : Mu} (h : TkW w W H A G B C s m) (hb : Below W.heap.size W V) : TkW w V H A G B C s m := ⟨belowOn h.old hb, h.hand.below hb, h.mu.below hb, h.lo, h.ne⟩
theorem TkW.step {w W V : World} {H A G B : Nat} {C : Cf} {s s' : Dy} {m : Mu} (h : TkW w W H A G B C s m) {v : Value} {e : Ending} (hp : HP W H A G C s' v e V) : e = .returned v ∧ TkW w V H A G B C s' m :=
  ⟨hp.1, hp.2.2.old h.old h.lo.1 h.lo.2.1, hp.2.1, Mut13.savH h.mu hp.2.2 h.ne.1 h.ne.2.2, h.lo, h.ne⟩
theorem TkW.put {w W : World} {H A G B : Nat} {C : Cf} {s : Dy} {m : Mu} (h : TkW w W H A G B C s m) (m' : Mu) : TkW w (put13 W B m'.l m'.p m'.bk m'.q1 m'.q2 m'.q3 m'.q4 m'.m1 m'.m2 m'.m3 m'.m4 m'.m5 m'.rt) H A G B C s m' :=
  ⟨((Sav.of (S := fun _ => False) h.old).put13 (.inr h.lo.2.2) _ _ _ _ _ _ _ _ _ _ _ _ _).below (Nat.le_refl _) (fun _ _ e => e), h.hand.put13 h.ne.1 h.ne.2.1 h.ne.2.2 _ _ _ _ _ _ _ _ _ _ _ _ _, Mut13.put h.mu _ _ _ _ _ _ _ _ _ _ _ _ _, h.lo, h.ne⟩
theorem TkW.first {w W : World} {H A G : Nat} {C : Cf} {s : Dy} (hb : Below w.heap.size w W) (hH : HAt W H A G C s) (l1 : w.heap.size ≤ H) (l2 : w.heap.size ≤ G) (m : Mu) :
    TkW w (W.alloc (.cells #[.int .i64 m.l, .int .i64 m.q1, .int .i64 m.q2, .int .i64 m.q3, .int .i64 m.q4, .int .u64 m.m1, .int .u64 m.m2, .int .u64 m.m3, .int .u64 m.m4, .int .u64 m.m5, .int .u64 m.p, .int .i64 m.bk, .int .i64 m.rt] 30)) H A G W.heap.size C s m :=
  ⟨below_on hb _, hH.below (below_new _ _), Mut13.new _ _ _ _ _ _ _ _ _ _ _ _ _ _, ⟨l1, l2, hb.size⟩, ⟨by have := hH.lt; omega, by have := hH.ar.lt; omega, by have := hH.ar.row.lt; omega⟩⟩
end Go.Proofs.YtbpkdihonemogaaGreatDoor
/- A step of layer 14 as one function; how an operation goes to its end, without memory. -/
namespace Go.Proofs.YtbpkdihonemogaaGreatDoor
open Go Go.RowKit
set_option maxRecDepth 100000

/-- An atom's word. -/
def atomW (b : Int) : Int := if b < 0 then 0 else 2 * b
/-- car and rplaca: the car; else the cdr. -/
def partK (k : Int) : Int := if k = 4 ∨ k = 6 then 0 else 1
/-- To shade a word, and go on at a line. -/
def begM (x : Mu) (w k : Int) : Mu := { x with l := begL w.toNat k, p := begP w.toNat, bk := begB w.toNat k }
/-- The lines of layer 14's own. -/
def ownS (C : Cf) (s : Dy) (m : Int) (x : Mu) : Dy × Mu × Bool × Bool :=
  if x.l = 10 then (s.act C 2 (regP C.a C.b C.c C.d m x.q2) (atomW x.q3) 0, { x with l := 90, rt := 1 }, true, false)
  else if x.l = 11 then (s.act C 1 (regP C.a C.b C.c C.d m x.q3) 0 0, { x with l := 12, m1 := ldP C s (regP C.a C.b C.c C.d m x.q3) }, false, false)
  else if x.l = 12 then (s.act C 2 (regP C.a C.b C.c C.d m x.q2) x.m1 0, begM { x with rt := 1 } x.m1 90, true, false)
  else if x.l = 13 then (s.act C 1 (regP C.a C.b C.c C.d m x.q3) 0 0, (if isC (ldP C s (regP C.a C.b C.c C.d m x.q3)).toNat then { x with l := 14, m1 := ldP C s (regP C.a C.b C.c C.d m x.q3) } else { x with l := 90, m1 := ldP C s (regP C.a C.b C.c C.d m x.q3), rt := 4 }), !decide (isC (ldP C s (regP C.a C.b C.c C.d m x.q3)).toNat), false)
  else if x.l = 14 then (s.act C 1 (fieldP C.a C.b C.c C.d x.m1.toNat (partK x.q1)) 0 0, { x with l := 15, m2 := ldP C s (fieldP C.a C.b C.c C.d x.m1.toNat (partK x.q1)) }, true, false)
  else if x.l = 15 then (s.act C 2 (regP C.a C.b C.c C.d m x.q2) x.m2 0, begM { x with rt := 1 } x.m2 90, false, false)
  else if x.l = 16 then (s.act C 1 (regP C.a C.b C.c C.d m x.q2) 0 0, (if isC (ldP C s (regP C.a C.b C.c C.d m x.q2)).toNat then { x with l := 17, m1 := ldP C s (regP C.a C.b C.c C.d m x.q2) } else { x with l := 90, m1 := ldP C s (regP C.a C.b C.c C.d m x.q2), rt := 4 }), !decide (isC (ldP C s (regP C.a C.b C.c C.d m x.q2)).toNat), false)
  else if x.l = 17 then (s.act C 1 (regP C.a C.b C.c C.d m x.q3) 0 0, { x with l := 18, m2 := ldP C s (regP C.a C.b C.c C.d m x.q3) }, false, false)
  else if x.l = 18 then (s.act C 2 (fieldP C.a C.b C.c C.d x.m1.toNat (partK x.q1)) x.m2 0, begM { x with rt := 1 } x.m2 90, true, false)
  else if x.l = 19 then (s.act C 1 (globP C.a C.b C.c C.d x.q3) 0 0, { x with l := 15, m2 := ldP C s (globP C.a C.b C.c C.d x.q3) }, true, false)
  else if x.l = 20 then (s.act C 1 (regP C.a C.b C.c C.d m x.q3) 0 0, { x with l := 21, m2 := ldP C s (regP C.a C.b C.c C.d m x.q3) }, false, false)
  else if x.l = 21 then (s.act C 2 (globP C.a C.b C.c C.d x.q2) x.m2 0, begM { x with rt := 1 } x.m2 90, true, false)
  else if x.l = 22 then (s.act C 1 (regP C.a C.b C.c C.d m x.q2) 0 0, { x with l := 23, m1 := ldP C s (regP C.a C.b C.c C.d m x.q2) }, false, false)
  else if x.l = 23 then (s.act C 1 (regP C.a C.b C.c C.d m x.q3) 0 0, { x with l := 90, m2 := ldP C s (regP C.a C.b C.c C.d m x.q3), rt := if x.m1 = ldP C s (regP C.a C.b C.c C.d m x.q3) then 2 else 3 }, true, false)
  else if x.l = 24 then (s.act C 1 (regP C.a C.b C.c C.d m x.q2) 0 0, { x with l := 90, m1 := ldP C s (regP C.a C.b C.c C.d m x.q2), rt := if isC (ldP C s (regP C.a C.b C.c C.d m x.q2)).toNat then 3 else 2 }, true, false)
  else if x.l = 30 then (s.act C 1 (regP C.a C.b C.c C.d m x.q3) 0 0, { x with l := 31, m1 := ldP C s (regP C.a C.b C.c C.d m x.q3) }, false, false)
  else if x.l = 31 then (s.act C 1 (regP C.a C.b C.c C.d m x.q4) 0 0, { x with l := 32, m2 := ldP C s (regP C.a C.b C.c C.d m x.q4) }, false, false)
  else if x.l = 38 then (s.act C 2 (fieldP C.a C.b C.c C.d x.m3.toNat 0) x.m1 0, begM x x.m1 39, false, false)
  else if x.l = 39 then (s.act C 2 (fieldP C.a C.b C.c C.d x.m3.toNat 1) x.m2 0, begM x x.m2 40, false, false)
  else if x.l = 40 then (s.act C 2 (regP C.a C.b C.c C.d m x.q2) x.m3 0, begM { x with rt := 1 } x.m3 90, false, false)
  else (s, x, false, false)
def isGate (l : Int) : Bool := l == 1 || l == 2 || l == 3 || l == 4 || l == 5 || l == 6 || l == 90
def isTick (l : Int) : Bool := l == 32 || l == 33 || l == 37 || l == 41
def isPop (l : Int) : Bool := l == 34 || l == 35 || l == 36
def isBar (l : Int) : Bool := l == 80 || l == 81
/-- A step of layer 14. -/
def lispS (C : Cf) (s : Dy) (m : Int) (x : Mu) : Dy × Mu × Bool × Bool :=
  if isGate x.l = true then ((gateS C s.clr m x).1, (gateS C s.clr m x).2.1, false, (gateS C s.clr m x).2.1.l == 0)
  else if isTick x.l = true then ((tickS C s.clr x).1, (tickS C s.clr x).2.1, false, false)
  else if isPop x.l = true then ((popS C s.clr x).1, (popS C s.clr x).2.1, (popS C s.clr x).2.2.1, false)
  else if isBar x.l = true then ((barS C s.clr x).1, (barS C s.clr x).2.1, false, (barS C s.clr x).2.1.l == 0)
  else ownS C s.clr m x
/-- A step from words f and a mutator x: to words f' and x', whether it is the linearising one, and whether it is done. -/
def Stp (C : Cf) (m : Int) (f : Nat → Int) (x : Mu) (f' : Nat → Int) (x' : Mu) (lin done : Bool) : Prop := ∀ s : Dy, s.f = f → ∃ s', lispS C s m x = (s', x', lin, done) ∧ s'.f = f'
def bI (b : Bool) : Int := if b then 1 else 0
/-- In j more steps, l of them linearising ones, it is done. -/
inductive EndsF (C : Cf) (m : Int) : Nat → Int → (Nat → Int) → Mu → (Nat → Int) → Mu → Prop
  | last {f f' : Nat → Int} {x x' : Mu} {b : Bool} : Stp C m f x f' x' b true → EndsF C m 1 (bI b) f x f' x'
  | more {f f1 fE : Nat → Int} {x x1 xE : Mu} {b : Bool} {j : Nat} {l : Int} : Stp C m f x f1 x1 b false → EndsF C m j l f1 x1 fE xE → EndsF C m (j + 1) (bI b + l) f x fE xE
/-- What a loop over its steps needs: the next step, and that it is done or goes on. -/
theorem EndsF.go {C : Cf} {m : Int} {j : Nat} {l : Int} {f fE : Nat → Int} {x xE : Mu} (h : EndsF C m j l f x fE xE) {s : Dy} (hs : s.f = f) :
    ∃ s' x' b d, lispS C s m x = (s', x', b, d) ∧ ((d = true ∧ s'.f = fE ∧ x' = xE ∧ l = bI b) ∨ (d = false ∧ ∃ j' l', j = j' + 1 ∧ l = bI b + l' ∧ EndsF C m j' l' s'.f x' fE xE)) := by
  cases h with
  | last h1 =>
    obtain ⟨s', e, e2⟩ := h1 s hs
    exact ⟨s', _, _, _, e, .inl ⟨rfl, e2, rfl, rfl⟩⟩
  | more h1 h2 =>
    obtain ⟨s', e, e2⟩ := h1 s hs
    exact ⟨s', _, _, _, e, .inr ⟨rfl, _, _, rfl, rfl, by rw [e2]; exact h2⟩⟩
theorem EndsF.pos {C : Cf} {m : Int} {j : Nat} {l : Int} {f fE : Nat → Int} {x xE : Mu} (h : EndsF C m j l f x fE xE) : 0 < j := by cases h <;> omega
/-- It ends within J steps, l of them linearising ones, so that Q holds. -/
def Fin14 (C : Cf) (m : Int) (J : Nat) (l : Int) (f : Nat → Int) (x : Mu) (Q : (Nat → Int) → Mu → Prop) : Prop := ∃ j fE xE, j ≤ J ∧ EndsF C m j l f x fE xE ∧ Q fE xE
theorem Fin14.last {C : Cf} {m : Int} {f f' : Nat → Int} {x x' : Mu} {Q : (Nat → Int) → Mu → Prop} (h : Stp C m f x f' x' false true) (hq : Q f' x') : Fin14 C m 1 0 f x Q := ⟨1, f', x', Nat.le_refl _, .last h, hq⟩
theorem Fin14.step {C : Cf} {m : Int} {J : Nat} {l : Int} {f f1 : Nat → Int} {x x1 : Mu} {Q : (Nat → Int) → Mu → Prop} (h : Stp C m f x f1 x1 false false) (hf : Fin14 C m J l f1 x1 Q) : Fin14 C m (J + 1) l f x Q := by
  obtain ⟨j, fE, xE, h1, h2, h3⟩ := hf
  exact ⟨j + 1, fE, xE, by omega, by have := EndsF.more h h2; simpa [bI] using this, h3⟩
theorem Fin14.lin {C : Cf} {m : Int} {J : Nat} {l : Int} {f f1 : Nat → Int} {x x1 : Mu} {Q : (Nat → Int) → Mu → Prop} (h : Stp C m f x f1 x1 true false) (hf : Fin14 C m J l f1 x1 Q) : Fin14 C m (J + 1) (1 + l) f x Q := by
  obtain ⟨j, fE, xE, h1, h2, h3⟩ := hf
  exact ⟨j + 1, fE, xE, by omega, by have := EndsF.more h h2; simpa [bI] using this, h3⟩
theorem Fin14.le {C : Cf} {m : Int} {J J' : Nat} {l : Int} {f : Nat → Int} {x : Mu} {Q : (Nat → Int) → Mu → Prop} (h : Fin14 C m J l f x Q) (hJ : J ≤ J') : Fin14 C m J' l f x Q := by
  obtain ⟨j, fE, xE, h1, h2⟩ := h
  exact ⟨j, fE, xE, by omega, h2⟩
theorem Fin14.mono {C : Cf} {m : Int} {J : Nat} {l : Int} {f : Nat → Int} {x : Mu} {Q Q' : (Nat → Int) → Mu → Prop} (h : Fin14 C m J l f x Q) (hQ : ∀ f x, Q f x → Q' f x) : Fin14 C m J l f x Q' := by
  obtain ⟨j, fE, xE, h1, h2, h3⟩ := h
  exact ⟨j, fE, xE, h1, h2, hQ _ _ h3⟩
end Go.Proofs.YtbpkdihonemogaaGreatDoor
/- Words stay words in a step of layer 14; its operation stays as it is. -/
namespace Go.Proofs.YtbpkdihonemogaaGreatDoor
open Go Go.RowKit
set_option maxRecDepth 100000

theorem begM_U {x : Mu} (h : x.U) {w : Int} (hw : U64 w) (k : Int) : (begM x w k).U := by
  obtain ⟨h1, h2, h3, h4, h5, _⟩ := h
  refine ⟨h1, h2, h3, h4, h5, begP_u64 _ ?_⟩
  unfold U64 at hw; omega
theorem toNat_lt {w : Int} (h : U64 w) : w.toNat < 18446744073709551616 := by unfold U64 at h; omega
theorem ldP_U {C : Cf} {s : Dy} (h : s.U) (P : Int) : U64 (ldP C s P) := z5_u64 (h _)
theorem atomW_U {b : Int} (h : b ≤ 9223372036854775807) : U64 (atomW b) := by
  unfold atomW U64
  split <;> omega
theorem gateS_mU {C : Cf} {s : Dy} (m : Int) {x : Mu} (h : x.U) : (gateS C s m x).2.1.U := by
  unfold gateS
  unfold Mu.U at *
  repeat' split
  all_goals exact h
theorem tickS_mU {C : Cf} {s : Dy} (hs : s.U) {x : Mu} (h : x.U) : (tickS C s x).2.1.U := by
  obtain ⟨h1, h2, h3, h4, h5, h6⟩ := h
  unfold tickS
  repeat' split
  all_goals first | exact ⟨h1, h2, h3, h4, h5, h6⟩ | exact ⟨h1, h2, h3, h4, z5_u64 (hs _), h6⟩
theorem barS_mU {C : Cf} {s : Dy} {x : Mu} (h : x.U) : (barS C s x).2.1.U := by
  obtain ⟨h1, h2, h3, h4, h5, h6⟩ := h
  unfold barS
  repeat' split
  all_goals first | exact ⟨h1, h2, h3, h4, h5, h6⟩ | exact ⟨h1, h2, h3, h4, h5, u64_zero⟩
theorem ownS_U {C : Cf} {s : Dy} (hs : s.U) (m : Int) {x : Mu} (h : x.U) (hq : x.q3 ≤ 9223372036854775807) : (ownS C s m x).1.U ∧ (ownS C s m x).2.1.U := by
  have hx := h
  obtain ⟨h1, h2, h3, h4, h5, h6⟩ := h
  have hz := u64_zero
  have hl : ∀ P, U64 (ldP C s P) := ldP_U hs
  unfold ownS
  by_cases e10 : x.l = 10
  · rw [if_pos e10]; exact ⟨hs.act C 2 _ (atomW_U hq) hz, h1, h2, h3, h4, h5, h6⟩
  rw [if_neg e10]
  by_cases e11 : x.l = 11
  · rw [if_pos e11]; exact ⟨hs.act C 1 _ hz hz, hl _, h2, h3, h4, h5, h6⟩
  rw [if_neg e11]
  by_cases e12 : x.l = 12
  · rw [if_pos e12]; exact ⟨hs.act C 2 _ h1 hz, h1, h2, h3, h4, h5, begP_u64 _ (toNat_lt h1)⟩
  rw [if_neg e12]
  by_cases e13 : x.l = 13
  · rw [if_pos e13]; exact ⟨hs.act C 1 _ hz hz, by dsimp only; split <;> exact ⟨hl _, h2, h3, h4, h5, h6⟩⟩
  rw [if_neg e13]
  by_cases e14 : x.l = 14
  · rw [if_pos e14]; exact ⟨hs.act C 1 _ hz hz, h1, hl _, h3, h4, h5, h6⟩
  rw [if_neg e14]
  by_cases e15 : x.l = 15
  · rw [if_pos e15]; exact ⟨hs.act C 2 _ h2 hz, h1, h2, h3, h4, h5, begP_u64 _ (toNat_lt h2)⟩
  rw [if_neg e15]
  by_cases e16 : x.l = 16
  · rw [if_pos e16]; exact ⟨hs.act C 1 _ hz hz, by dsimp only; split <;> exact ⟨hl _, h2, h3, h4, h5, h6⟩⟩
  rw [if_neg e16]
  by_cases e17 : x.l = 17
  · rw [if_pos e17]; exact ⟨hs.act C 1 _ hz hz, h1, hl _, h3, h4, h5, h6⟩
  rw [if_neg e17]
  by_cases e18 : x.l = 18
  · rw [if_pos e18]; exact ⟨hs.act C 2 _ h2 hz, h1, h2, h3, h4, h5, begP_u64 _ (toNat_lt h2)⟩
  rw [if_neg e18]
  by_cases e19 : x.l = 19
  · rw [if_pos e19]; exact ⟨hs.act C 1 _ hz hz, h1, hl _, h3, h4, h5, h6⟩
  rw [if_neg e19]
  by_cases e20 : x.l = 20
  · rw [if_pos e20]; exact ⟨hs.act C 1 _ hz hz, h1, hl _, h3, h4, h5, h6⟩
  rw [if_neg e20]
  by_cases e21 : x.l = 21
  · rw [if_pos e21]; exact ⟨hs.act C 2 _ h2 hz, h1, h2, h3, h4, h5, begP_u64 _ (toNat_lt h2)⟩
  rw [if_neg e21]
  by_cases e22 : x.l = 22
  · rw [if_pos e22]; exact ⟨hs.act C 1 _ hz hz, hl _, h2, h3, h4, h5, h6⟩
  rw [if_neg e22]
  by_cases e23 : x.l = 23
  · rw [if_pos e23]; exact ⟨hs.act C 1 _ hz hz, h1, hl _, h3, h4, h5, h6⟩
  rw [if_neg e23]
  by_cases e24 : x.l = 24
  · rw [if_pos e24]; exact ⟨hs.act C 1 _ hz hz, hl _, h2, h3, h4, h5, h6⟩
  rw [if_neg e24]
  by_cases e30 : x.l = 30
  · rw [if_pos e30]; exact ⟨hs.act C 1 _ hz hz, hl _, h2, h3, h4, h5, h6⟩
  rw [if_neg e30]
  by_cases e31 : x.l = 31
  · rw [if_pos e31]; exact ⟨hs.act C 1 _ hz hz, h1, hl _, h3, h4, h5, h6⟩
  rw [if_neg e31]
  by_cases e38 : x.l = 38
  · rw [if_pos e38]; exact ⟨hs.act C 2 _ h1 hz, h1, h2, h3, h4, h5, begP_u64 _ (toNat_lt h1)⟩
  rw [if_neg e38]
  by_cases e39 : x.l = 39
  · rw [if_pos e39]; exact ⟨hs.act C 2 _ h2 hz, h1, h2, h3, h4, h5, begP_u64 _ (toNat_lt h2)⟩
  rw [if_neg e39]
  by_cases e40 : x.l = 40
  · rw [if_pos e40]; exact ⟨hs.act C 2 _ h3 hz, h1, h2, h3, h4, h5, begP_u64 _ (toNat_lt h3)⟩
  rw [if_neg e40]
  exact ⟨hs, hx⟩
theorem lispS_U {C : Cf} {s : Dy} (hs : s.U) (m : Int) {x : Mu} (h : x.U) (hq : x.q3 ≤ 9223372036854775807) : (lispS C s m x).1.U ∧ (lispS C s m x).2.1.U := by
  have hc : s.clr.U := hs
  unfold lispS
  split
  · exact ⟨gateS_U hc m x, gateS_mU m h⟩
  · split
    · exact ⟨tickS_U hc x, tickS_mU hc h⟩
    · split
      · exact popS_U hc x h
      · split
        · exact ⟨barS_U hc x, barS_mU h⟩
        · exact ownS_U hc m h hq
/-- Its operation stays as it is. -/
theorem lispS_q {C : Cf} {s : Dy} (m : Int) (x : Mu) : (lispS C s m x).2.1.q1 = x.q1 ∧ (lispS C s m x).2.1.q2 = x.q2 ∧ (lispS C s m x).2.1.q3 = x.q3 ∧ (lispS C s m x).2.1.q4 = x.q4 := by
  unfold lispS
  split
  · unfold gateS; repeat' split
    all_goals exact ⟨rfl, rfl, rfl, rfl⟩
  · split
    · unfold tickS; repeat' split
      all_goals exact ⟨rfl, rfl, rfl, rfl⟩
    · split
      · unfold popS; repeat' split
        all_goals exact ⟨rfl, rfl, rfl, rfl⟩
      · split
        · unfold barS; repeat' split
          all_goals exact ⟨rfl, rfl, rfl, rfl⟩
        · unfold ownS
          by_cases e10 : x.l = 10
          · rw [if_pos e10]; exact ⟨rfl, rfl, rfl, rfl⟩
          rw [if_neg e10]
          by_cases e11 : x.l = 11
          · rw [if_pos e11]; exact ⟨rfl, rfl, rfl, rfl⟩
          rw [if_neg e11]
          by_cases e12 : x.l = 12
          · rw [if_pos e12]; exact ⟨rfl, rfl, rfl, rfl⟩
          rw [if_neg e12]
          by_cases e13 : x.l = 13
          · rw [if_pos e13]; exact (by dsimp only; split <;> exact ⟨rfl, rfl, rfl, rfl⟩)
          rw [if_neg e13]
          by_cases e14 : x.l = 14
          · rw [if_pos e14]; exact ⟨rfl, rfl, rfl, rfl⟩
          rw [if_neg e14]
          by_cases e15 : x.l = 15
          · rw [if_pos e15]; exact ⟨rfl, rfl, rfl, rfl⟩
          rw [if_neg e15]
          by_cases e16 : x.l = 16
          · rw [if_pos e16]; exact (by dsimp only; split <;> exact ⟨rfl, rfl, rfl, rfl⟩)
          rw [if_neg e16]
          by_cases e17 : x.l = 17
          · rw [if_pos e17]; exact ⟨rfl, rfl, rfl, rfl⟩
          rw [if_neg e17]
          by_cases e18 : x.l = 18
          · rw [if_pos e18]; exact ⟨rfl, rfl, rfl, rfl⟩
          rw [if_neg e18]
          by_cases e19 : x.l = 19
          · rw [if_pos e19]; exact ⟨rfl, rfl, rfl, rfl⟩
          rw [if_neg e19]
          by_cases e20 : x.l = 20
          · rw [if_pos e20]; exact ⟨rfl, rfl, rfl, rfl⟩
          rw [if_neg e20]
          by_cases e21 : x.l = 21
          · rw [if_pos e21]; exact ⟨rfl, rfl, rfl, rfl⟩
          rw [if_neg e21]
          by_cases e22 : x.l = 22
          · rw [if_pos e22]; exact ⟨rfl, rfl, rfl, rfl⟩
          rw [if_neg e22]
          by_cases e23 : x.l = 23
          · rw [if_pos e23]; exact ⟨rfl, rfl, rfl, rfl⟩
          rw [if_neg e23]
          by_cases e24 : x.l = 24
          · rw [if_pos e24]; exact ⟨rfl, rfl, rfl, rfl⟩
          rw [if_neg e24]
          by_cases e30 : x.l = 30
          · rw [if_pos e30]; exact ⟨rfl, rfl, rfl, rfl⟩
          rw [if_neg e30]
          by_cases e31 : x.l = 31
          · rw [if_pos e31]; exact ⟨rfl, rfl, rfl, rfl⟩
          rw [if_neg e31]
          by_cases e38 : x.l = 38
          · rw [if_pos e38]; exact ⟨rfl, rfl, rfl, rfl⟩
          rw [if_neg e38]
          by_cases e39 : x.l = 39
          · rw [if_pos e39]; exact ⟨rfl, rfl, rfl, rfl⟩
          rw [if_neg e39]
          by_cases e40 : x.l = 40
          · rw [if_pos e40]; exact ⟨rfl, rfl, rfl, rfl⟩
          rw [if_neg e40]
          exact ⟨rfl, rfl, rfl, rfl⟩
end Go.Proofs.YtbpkdihonemogaaGreatDoor
