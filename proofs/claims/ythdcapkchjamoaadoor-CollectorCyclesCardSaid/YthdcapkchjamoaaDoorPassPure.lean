/- Passes over all cells, without memory. -/
import Derived.Test.YthdcapkchjamoaaDoorM13
namespace Go.Proofs.YthdcapkchjamoaaDoor
open Go Go.RowKit
set_option maxRecDepth 100000

/-- The colour's place of a cell; its car's; its cdr's. -/
def colI (C : Cf) (i : Nat) : Nat := (partP C.a C.b C.c C.d 2 i).toNat
def carI (C : Cf) (i : Nat) : Nat := (partP C.a C.b C.c C.d 0 i).toNat
def cdrI (C : Cf) (i : Nat) : Nat := (partP C.a C.b C.c C.d 1 i).toNat
theorem colI_sp {C : Cf} (hC : CfOK C) {i : Nat} (hi : (i : Int) < C.a) : (colI C i : Int) = partP C.a C.b C.c C.d 2 i ∧ colI C i < C.n ∧ spotF C.b C.c C.d (colI C i) = (6, (i : Int), 0) := by
  obtain ⟨e1, e2, e3⟩ := sp_part hC (k := 2) (i := i) (by omega) hi (by omega) (by omega)
  unfold colI
  exact ⟨by omega, by omega, e1⟩
theorem carI_sp {C : Cf} (hC : CfOK C) {i : Nat} (hi : (i : Int) < C.a) : (carI C i : Int) = partP C.a C.b C.c C.d 0 i ∧ carI C i < C.n ∧ spotF C.b C.c C.d (carI C i) = (4, (i : Int), 0) := by
  obtain ⟨e1, e2, e3⟩ := sp_part hC (k := 0) (i := i) (by omega) hi (by omega) (by omega)
  unfold carI
  exact ⟨by omega, by omega, e1⟩
theorem cdrI_sp {C : Cf} (hC : CfOK C) {i : Nat} (hi : (i : Int) < C.a) : (cdrI C i : Int) = partP C.a C.b C.c C.d 1 i ∧ cdrI C i < C.n ∧ spotF C.b C.c C.d (cdrI C i) = (5, (i : Int), 0) := by
  obtain ⟨e1, e2, e3⟩ := sp_part hC (k := 1) (i := i) (by omega) hi (by omega) (by omega)
  unfold cdrI
  exact ⟨by omega, by omega, e1⟩
theorem colI_inj {C : Cf} (hC : CfOK C) {i j : Nat} (hi : (i : Int) < C.a) (hj : (j : Int) < C.a) (h : colI C i = colI C j) : i = j := by
  have e1 := (colI_sp hC hi).2.2
  have e2 := (colI_sp hC hj).2.2
  rw [h, e2] at e1
  have := congrArg (·.2.1) e1
  simp at this
  omega
/-- The colour that a word leads to isn't White (or it leads to none). -/
def ToCol (C : Cf) (f : Nat → Int) (w : Int) : Prop := 0 ≤ colP C w → f (colP C w).toNat ≠ 0
/-- What a word's colour is: that of the cell it leads to. -/
theorem colP_cell {C : Cf} (hC : CfOK C) {w : Int} (h : 0 ≤ colP C w) : ∃ i : Nat, (i : Int) < C.a ∧ (colP C w).toNat = colI C i := by
  obtain ⟨_, _, _, h4, h5⟩ := colP_spot hC h
  exact ⟨w.toNat / 2, h4, by rw [h5]; rfl⟩
/-- How far passes are: n steps, P passes begun; L: the cells that were blackened. -/
structure PsSt (C : Cf) (f0 f : Nat → Int) (n P : Nat) (L : List Nat) (x : Co) : Prop where
  near : ∀ k : Nat, (spotF C.b C.c C.d k).1 ≠ 6 → k ≠ 2 → f k = f0 k
  cols : ∀ i : Nat, (i : Int) < C.a → f (colI C i) = f0 (colI C i) ∨ (f0 (colI C i) = 0 ∧ f (colI C i) = 1) ∨ ((f0 (colI C i) = 0 ∨ f0 (colI C i) = 1) ∧ f (colI C i) = 2 ∧ i ∈ L)
  nodup : L.Nodup
  mem : ∀ i ∈ L, (i : Int) < C.a ∧ f (colI C i) = 2
  edges : ∀ i ∈ L, ToCol C f (f0 (carI C i)) ∧ ToCol C f (f0 (cdrI C i))
  line : (x.l = 3 ∧ P ≤ L.length ∧ n ≤ P * (6 * C.a.toNat + 1)) ∨
    (4 ≤ x.l ∧ x.l ≤ 9 ∧ f 2 = 0 ∧ 0 ≤ x.c ∧ x.c < C.a ∧ 1 ≤ P ∧ (x.fd = true → P ≤ L.length) ∧ P ≤ L.length + 1 ∧ n ≤ (P - 1) * (6 * C.a.toNat + 1) + 1 + 6 * x.c.toNat + (x.l.toNat - 4) ∧
      (x.l = 4 → x.fd = false → ∀ i : Nat, (i : Int) < x.c → f (colI C i) ≠ 1) ∧ (5 ≤ x.l → f (colI C x.c.toNat) = 1) ∧ (x.l = 6 → x.a = f0 (carI C x.c.toNat)) ∧ (x.l = 8 → x.a = f0 (cdrI C x.c.toNat)) ∧
      (7 ≤ x.l → ToCol C f (f0 (carI C x.c.toNat))) ∧ (x.l = 9 → ToCol C f (f0 (cdrI C x.c.toNat)))) ∨
    (x.l = 10 ∧ x.fd = false ∧ f 2 = 0 ∧ x.m = 0 ∧ ∀ i : Nat, (i : Int) < C.a → f (colI C i) ≠ 1)
theorem PsSt.first (C : Cf) (f0 : Nat → Int) (x : Co) (hl : x.l = 3) : PsSt C f0 f0 0 0 [] x :=
  ⟨fun _ _ _ => rfl, fun _ _ => .inl rfl, List.nodup_nil, fun _ h => (by cases h), fun _ h => (by cases h), .inl ⟨hl, Nat.le_refl _, Nat.zero_le _⟩⟩
theorem PsSt.len {C : Cf} {f0 f : Nat → Int} {n P : Nat} {L : List Nat} {x : Co} (h : PsSt C f0 f n P L x) : L.length ≤ C.a.toNat := nodup_le h.nodup (fun i hi => by have := (h.mem i hi).1; omega)
/-- Shading White cells leaves what is known. -/
theorem ToCol.cas {C : Cf} {f : Nat → Int} {w v : Int} (h : ToCol C f w) : ToCol C (wordsQ C.n f 3 (colP C v) 0 1) w := by
  intro hw
  rw [cas_col]
  split
  · unfold upd
    split
    · decide
    · exact h hw
  · exact h hw
theorem ToCol.shaded {C : Cf} (hC : CfOK C) (f : Nat → Int) (v : Int) : ToCol C (wordsQ C.n f 3 (colP C v) 0 1) v := by
  intro hw
  rw [cas_col]
  by_cases hk : okD C.n 3 (colP C v) ∧ f (colP C v).toNat = 0
  · rw [if_pos hk, upd_at]; decide
  · rw [if_neg hk]
    intro h0
    exact hk ⟨⟨by omega, by omega, hw, (colP_spot hC hw).1⟩, h0⟩
theorem ToCol.set {C : Cf} {f : Nat → Int} {w : Int} (h : ToCol C f w) (p : Nat) {x : Int} (hx : x ≠ 0) : ToCol C (upd f p x) w := by
  intro hw
  unfold upd
  split
  · exact hx
  · exact h hw
theorem cas_near {C : Cf} (hC : CfOK C) (f : Nat → Int) (v : Int) {k : Nat} (hk : (spotF C.b C.c C.d k).1 ≠ 6) : wordsQ C.n f 3 (colP C v) 0 1 k = f k := by
  rw [cas_col]
  by_cases ho : okD C.n 3 (colP C v) ∧ f (colP C v).toNat = 0
  · rw [if_pos ho]
    unfold upd
    rw [if_neg]
    intro e
    apply hk
    have h1 := ho.1
    unfold okD at h1
    rw [e]
    exact (colP_spot hC h1.2.2.1).2.1
  · rw [if_neg ho]
theorem cas_cell {C : Cf} (f : Nat → Int) (v : Int) (k : Nat) : wordsQ C.n f 3 (colP C v) 0 1 k = f k ∨ (f k = 0 ∧ wordsQ C.n f 3 (colP C v) 0 1 k = 1) := by
  rw [cas_col]
  by_cases ho : okD C.n 3 (colP C v) ∧ f (colP C v).toNat = 0
  · rw [if_pos ho]
    unfold upd
    by_cases e : k = (colP C v).toNat
    · rw [if_pos e]; exact .inr ⟨by rw [e]; exact ho.2, rfl⟩
    · rw [if_neg e]; exact .inl rfl
  · rw [if_neg ho]; exact .inl rfl
/-- What shading keeps of a state of passes. -/
theorem PsSt.shade {C : Cf} (hC : CfOK C) {f0 f : Nat → Int} {n P : Nat} {L : List Nat} {x : Co} (h : PsSt C f0 f n P L x) (v : Int) :
    (∀ k : Nat, (spotF C.b C.c C.d k).1 ≠ 6 → k ≠ 2 → wordsQ C.n f 3 (colP C v) 0 1 k = f0 k) ∧
    (∀ i : Nat, (i : Int) < C.a → wordsQ C.n f 3 (colP C v) 0 1 (colI C i) = f0 (colI C i) ∨ (f0 (colI C i) = 0 ∧ wordsQ C.n f 3 (colP C v) 0 1 (colI C i) = 1) ∨ ((f0 (colI C i) = 0 ∨ f0 (colI C i) = 1) ∧ wordsQ C.n f 3 (colP C v) 0 1 (colI C i) = 2 ∧ i ∈ L)) ∧
    (∀ i ∈ L, (i : Int) < C.a ∧ wordsQ C.n f 3 (colP C v) 0 1 (colI C i) = 2) ∧ (∀ i ∈ L, ToCol C (wordsQ C.n f 3 (colP C v) 0 1) (f0 (carI C i)) ∧ ToCol C (wordsQ C.n f 3 (colP C v) 0 1) (f0 (cdrI C i))) := by
  refine ⟨fun k h6 h2 => (cas_near hC f v h6).trans (h.near k h6 h2), fun i hi => ?_, fun i hi => ?_, fun i hi => ⟨(h.edges i hi).1.cas, (h.edges i hi).2.cas⟩⟩
  · rcases cas_cell (C := C) f v (colI C i) with e | ⟨e1, e2⟩
    · rw [e]; exact h.cols i hi
    · rw [e2]
      rcases h.cols i hi with e3 | ⟨_, e3⟩ | ⟨_, e3, _⟩
      · exact .inr (.inl ⟨by rw [← e3]; exact e1, rfl⟩)
      · rw [e3] at e1; exact absurd e1 (by decide)
      · rw [e3] at e1; exact absurd e1 (by decide)
  · obtain ⟨h1, h2⟩ := h.mem i hi
    rcases cas_cell (C := C) f v (colI C i) with e | ⟨e1, _⟩
    · exact ⟨h1, e.trans h2⟩
    · rw [h2] at e1; exact absurd e1 (by decide)
theorem PsSt.go {C : Cf} (hC : CfOK C) {s : Dy} {f0 : Nat → Int} {n P : Nat} {L : List Nat} {x : Co} (h : PsSt C f0 s.f n P L x) (hl : x.l ≠ 10) :
    ∃ s' x' L', passS C s x = (s', x', true) ∧ PsSt C f0 s'.f (n + 1) (P + if x.l = 3 then 1 else 0) L' x' ∧ (x.l = 3 → P + 1 ≤ C.a.toNat + 1) ∧ n ≤ (C.a.toNat + 1) * (6 * C.a.toNat + 1) := by
  have h4 := hC.a4
  have hlen := h.len
  have hn5 := hC.four
  have hd : ∀ k : Nat, (k : Int) < C.a → colI C k ≠ 2 := fun k hk e => by
    have := (colI_sp hC hk).2.2
    rw [e, sp_once _ _ _ (by omega)] at this
    have := congrArg (·.1) this
    simp at this
  rcases h.line with ⟨e, hP, hn⟩ | ⟨g1, g2, g3, c0, c1, p1, pf, pL, hn, i4, i5, i6, i8, i7, i9⟩ | ⟨e, _⟩
  · have hw : (s.act C 2 2 0 0).f = upd s.f 2 0 := words_store C.n s.f 2 0 (by omega)
    refine ⟨s.act C 2 2 0 0, { x with c := 0, fd := false, l := 4 }, L, by unfold passS; rw [if_pos e], ?_, fun _ => by omega, ?_⟩
    · rw [if_pos e, hw]
      refine ⟨fun k h6 h2 => ?_, fun i hi => ?_, h.nodup, fun i hi => ?_, fun i hi => ?_, .inr (.inl ⟨by show (4 : Int) ≤ 4; decide, by show (4 : Int) ≤ 9; decide, upd_at _ _ _, by show (0 : Int) ≤ 0; decide, by show (0 : Int) < C.a; omega, by omega, fun q => (by cases q), by omega, ?_, ?_, ?_, ?_, ?_, ?_, ?_⟩)⟩
      · unfold upd; rw [if_neg h2]; exact h.near k h6 h2
      · have e2 : upd s.f 2 0 (colI C i) = s.f (colI C i) := by unfold upd; rw [if_neg (hd i hi)]
        rw [e2]; exact h.cols i hi
      · obtain ⟨h1, h2⟩ := h.mem i hi
        have e2 : upd s.f 2 0 (colI C i) = s.f (colI C i) := by unfold upd; rw [if_neg (hd i h1)]
        exact ⟨h1, by rw [e2]; exact h2⟩
      · have hto : ∀ w, ToCol C s.f w → ToCol C (upd s.f 2 0) w := fun w q hw => by
          obtain ⟨j, hj, ej⟩ := colP_cell hC hw
          unfold upd
          rw [if_neg (by rw [ej]; exact hd j hj)]
          exact q hw
        exact ⟨hto _ (h.edges i hi).1, hto _ (h.edges i hi).2⟩
      · show n + 1 ≤ (P + 1 - 1) * (6 * C.a.toNat + 1) + 1 + 6 * (0 : Int).toNat + ((4 : Int).toNat - 4)
        simp; omega
      · intro _ _ i hi; have hi : (i : Int) < 0 := hi; omega
      · intro q; have q : (5 : Int) ≤ 4 := q; omega
      · intro q; have q : (4 : Int) = 6 := q; omega
      · intro q; have q : (4 : Int) = 8 := q; omega
      · intro q; have q : (7 : Int) ≤ 4 := q; omega
      · intro q; have q : (4 : Int) = 9 := q; omega
    · have h1 : P * (6 * C.a.toNat + 1) ≤ (C.a.toNat + 1) * (6 * C.a.toNat + 1) := Nat.mul_le_mul_right _ (by omega)
      omega
  · have hbound : n ≤ (C.a.toNat + 1) * (6 * C.a.toNat + 1) := by
      have h1 : (P - 1) * (6 * C.a.toNat + 1) ≤ C.a.toNat * (6 * C.a.toNat + 1) := Nat.mul_le_mul_right _ (by omega)
      rw [Nat.add_mul]
      omega
    obtain ⟨c, hc⟩ : ∃ c : Nat, x.c = c := ⟨x.c.toNat, by omega⟩
    obtain ⟨xl, xj, xc, xm, xa, xp, xfd, xtl, xcy⟩ := x
    dsimp only at *
    subst hc
    simp only [Int.toNat_natCast] at *
    have hcol := colI_sp hC (i := c) c1
    have hcar := carI_sp hC (i := c) c1
    have hcdr := cdrI_sp hC (i := c) c1
    have hld : ∀ (p : Int) (q : Nat), (q : Int) = p → q < C.n → ldP C s p = s.f q := fun p q e1 e2 => by
      unfold ldP; rw [z5_in _ (by omega) (by omega), ← e1, Int.toNat_natCast]
    have hwl : ∀ p, (s.act C 1 p 0 0).f = s.f := fun p => words_load _ _ _
    have next : ∀ (g : Nat → Int) (L' : List Nat) (fd' : Bool) (a' : Int) (s' : Dy), s'.f = g → (∀ k : Nat, (spotF C.b C.c C.d k).1 ≠ 6 → k ≠ 2 → g k = f0 k) →
        (∀ i : Nat, (i : Int) < C.a → g (colI C i) = f0 (colI C i) ∨ (f0 (colI C i) = 0 ∧ g (colI C i) = 1) ∨ ((f0 (colI C i) = 0 ∨ f0 (colI C i) = 1) ∧ g (colI C i) = 2 ∧ i ∈ L')) →
        L'.Nodup → (∀ i ∈ L', (i : Int) < C.a ∧ g (colI C i) = 2) → (∀ i ∈ L', ToCol C g (f0 (carI C i)) ∧ ToCol C g (f0 (cdrI C i))) → g 2 = 0 → (fd' = true → P ≤ L'.length) → P ≤ L'.length + 1 →
        n + 1 ≤ (P - 1) * (6 * C.a.toNat + 1) + 1 + 6 * (c + 1) → (fd' = false → ∀ i : Nat, i < c + 1 → g (colI C i) ≠ 1) → PsSt C f0 s'.f (n + 1) P L' (nextCell C ⟨xl, xj, c, xm, a', xp, fd', xtl, xcy⟩) := by
      intro g L' fd' a' s' hs' q1 q2 q3 q4 q5 q6 q7 q8 q9 q10
      rw [hs']
      refine ⟨q1, q2, q3, q4, q5, ?_⟩
      unfold nextCell
      dsimp only
      by_cases hca : (c : Int) + 1 < C.a
      · rw [if_pos hca]
        refine .inr (.inl ⟨by show (4 : Int) ≤ 4; decide, by show (4 : Int) ≤ 9; decide, q6, by show (0 : Int) ≤ (c : Int) + 1; omega, hca, p1, q7, q8, ?_, ?_, ?_, ?_, ?_, ?_, ?_⟩)
        · show n + 1 ≤ (P - 1) * (6 * C.a.toNat + 1) + 1 + 6 * ((c : Int) + 1).toNat + ((4 : Int).toNat - 4)
          rw [show ((c : Int) + 1).toNat = c + 1 by omega]
          simp; omega
        · intro _ hf i hi
          exact q10 hf i (by have hi : (i : Int) < (c : Int) + 1 := hi; omega)
        · intro q; have q : (5 : Int) ≤ 4 := q; omega
        · intro q; have q : (4 : Int) = 6 := q; omega
        · intro q; have q : (4 : Int) = 8 := q; omega
        · intro q; have q : (7 : Int) ≤ 4 := q; omega
        · intro q; have q : (4 : Int) = 9 := q; omega
      · rw [if_neg hca]
        cases fd' with
        | true =>
          refine .inl ⟨rfl, q7 rfl, ?_⟩
          obtain ⟨P', rfl⟩ : ∃ P', P = P' + 1 := ⟨P - 1, by omega⟩
          rw [Nat.add_mul]
          rw [show P' + 1 - 1 = P' by omega] at q9
          have : c + 1 ≤ C.a.toNat := by omega
          omega
        | false => exact .inr (.inr ⟨rfl, rfl, q6, rfl, fun i hi => q10 rfl i (by omega)⟩)
    have stay : ∀ (l' a' : Int) (s' : Dy), s'.f = s.f → 5 ≤ l' → l' ≤ 9 → n + 1 ≤ (P - 1) * (6 * C.a.toNat + 1) + 1 + 6 * c + (l'.toNat - 4) → s.f (colI C c) = 1 → (l' = 6 → a' = f0 (carI C c)) → (l' = 8 → a' = f0 (cdrI C c)) → (7 ≤ l' → ToCol C s.f (f0 (carI C c))) → (l' = 9 → ToCol C s.f (f0 (cdrI C c))) →
        PsSt C f0 s'.f (n + 1) P L ⟨l', xj, c, xm, a', xp, xfd, xtl, xcy⟩ := by
      intro l' a' s' hs' m5 m9 q1 q2 q3 q4 q5 q6
      rw [hs']
      refine ⟨h.near, h.cols, h.nodup, h.mem, h.edges, .inr (.inl ⟨by show (4 : Int) ≤ l'; omega, m9, g3, c0, c1, p1, pf, pL, q1, ?_, fun _ => q2, q3, q4, q5, q6⟩)⟩
      intro q; have q : l' = 4 := q; omega
    have cass : ∀ (v l' : Int) (s' : Dy), s'.f = wordsQ C.n s.f 3 (colP C v) 0 1 → (l' = 7 ∨ l' = 9) → n + 1 ≤ (P - 1) * (6 * C.a.toNat + 1) + 1 + 6 * c + (l'.toNat - 4) → s.f (colI C c) = 1 → ToCol C s'.f (f0 (carI C c)) → (l' = 9 → ToCol C s'.f (f0 (cdrI C c))) →
        PsSt C f0 s'.f (n + 1) P L ⟨l', xj, c, xm, xa, xp, xfd, xtl, xcy⟩ := by
      intro v l' s' hs' m q1 q2 q3 q4
      obtain ⟨w1, w2, w3, w4⟩ := h.shade hC v
      have k2 : wordsQ C.n s.f 3 (colP C v) 0 1 2 = 0 := (cas_near hC s.f v (by rw [show ((2 : Nat) : Int) = ((2 : Nat) : Int) from rfl, sp_once _ _ _ (by omega)]; simp)).trans g3
      have kc : wordsQ C.n s.f 3 (colP C v) 0 1 (colI C c) = 1 := by
        rcases cas_cell (C := C) s.f v (colI C c) with e | ⟨e, _⟩
        · rw [e]; exact q2
        · rw [q2] at e; exact absurd e (by decide)
      rw [hs'] at q3 q4 ⊢
      refine ⟨w1, w2, h.nodup, w3, w4, .inr (.inl ⟨by show (4 : Int) ≤ l'; omega, by show l' ≤ 9; omega, k2, c0, c1, p1, pf, pL, q1, ?_, fun _ => kc, ?_, ?_, fun _ => q3, q4⟩)⟩
      · intro q; have q : l' = 4 := q; omega
      · intro q; have q : l' = 6 := q; omega
      · intro q; have q : l' = 8 := q; omega
    have hne : ¬ xl = 3 := by omega
    have fin : ∀ {s' : Dy} {x' : Co} {L' : List Nat}, passS C s ⟨xl, xj, c, xm, xa, xp, xfd, xtl, xcy⟩ = (s', x', true) → PsSt C f0 s'.f (n + 1) P L' x' →
        ∃ s' x' L', passS C s ⟨xl, xj, c, xm, xa, xp, xfd, xtl, xcy⟩ = (s', x', true) ∧ PsSt C f0 s'.f (n + 1) (P + if xl = 3 then 1 else 0) L' x' ∧ (xl = 3 → P + 1 ≤ C.a.toNat + 1) ∧ n ≤ (C.a.toNat + 1) * (6 * C.a.toNat + 1) :=
      fun e1 e2 => ⟨_, _, _, e1, by rw [if_neg hne]; exact e2, fun q => absurd q hne, hbound⟩
    rcases (by omega : xl = 4 ∨ xl = 5 ∨ xl = 6 ∨ xl = 7 ∨ xl = 8 ∨ xl = 9) with rfl | rfl | rfl | rfl | rfl | rfl
    · have el := hld _ _ hcol.1 hcol.2.1
      by_cases hg : s.f (colI C c) = 1
      · refine fin (s' := s.act C 1 (partP C.a C.b C.c C.d 2 (c : Int)) 0 0) (x' := ⟨5, xj, c, xm, xa, xp, xfd, xtl, xcy⟩) ?_ (stay 5 xa _ (hwl _) (by decide) (by decide) (by simp at hn ⊢; omega) hg (fun q => by omega) (fun q => by omega) (fun q => by omega) (fun q => by omega))
        simp [passS, el, hg]
      · refine fin (s' := s.act C 1 (partP C.a C.b C.c C.d 2 (c : Int)) 0 0) (x' := nextCell C ⟨4, xj, c, xm, xa, xp, xfd, xtl, xcy⟩) ?_ (next s.f L xfd xa _ (hwl _) h.near h.cols h.nodup h.mem h.edges g3 pf pL (by simp at hn; omega) ?_)
        · simp [passS, el, hg]
        · intro hf i hi
          by_cases e : i = c
          · subst e; exact hg
          · exact i4 rfl hf i (by omega)
    · have el := hld _ _ hcar.1 hcar.2.1
      have ew : s.f (carI C c) = f0 (carI C c) := h.near _ (by rw [hcar.2.2]; simp) (fun e => by have := hcar.2.2; rw [e, sp_once _ _ _ (by omega)] at this; have := congrArg (·.1) this; simp at this)
      rw [ew] at el
      by_cases hc : isC (f0 (carI C c)).toNat
      · refine fin (s' := s.act C 1 (partP C.a C.b C.c C.d 0 (c : Int)) 0 0) (x' := ⟨6, xj, c, xm, f0 (carI C c), xp, xfd, xtl, xcy⟩) ?_ (stay 6 _ _ (hwl _) (by decide) (by decide) (by simp at hn ⊢; omega) (i5 (by decide)) (fun _ => rfl) (fun q => by omega) (fun q => by omega) (fun q => by omega))
        simp [passS, el, hc]
      · refine fin (s' := s.act C 1 (partP C.a C.b C.c C.d 0 (c : Int)) 0 0) (x' := ⟨7, xj, c, xm, f0 (carI C c), xp, xfd, xtl, xcy⟩) ?_ (stay 7 _ _ (hwl _) (by decide) (by decide) (by simp at hn ⊢; omega) (i5 (by decide)) (fun q => by omega) (fun q => by omega) (fun _ hw => absurd (colP_spot hC hw).2.2.1 hc) (fun q => by omega))
        simp [passS, el, hc]
    · have ea : xa = f0 (carI C c) := i6 rfl
      refine fin (s' := s.act C 3 (colP C xa) 0 1) (x' := ⟨7, xj, c, xm, xa, xp, xfd, xtl, xcy⟩) ?_ (cass xa 7 _ rfl (.inl rfl) (by simp at hn ⊢; omega) (i5 (by decide)) (by rw [← ea]; exact ToCol.shaded hC s.f xa) (fun q => by omega))
      simp [passS, colP]
    · have el := hld _ _ hcdr.1 hcdr.2.1
      have ew : s.f (cdrI C c) = f0 (cdrI C c) := h.near _ (by rw [hcdr.2.2]; simp) (fun e => by have := hcdr.2.2; rw [e, sp_once _ _ _ (by omega)] at this; have := congrArg (·.1) this; simp at this)
      rw [ew] at el
      by_cases hc : isC (f0 (cdrI C c)).toNat
      · refine fin (s' := s.act C 1 (partP C.a C.b C.c C.d 1 (c : Int)) 0 0) (x' := ⟨8, xj, c, xm, f0 (cdrI C c), xp, xfd, xtl, xcy⟩) ?_ (stay 8 _ _ (hwl _) (by decide) (by decide) (by simp at hn ⊢; omega) (i5 (by decide)) (fun q => by omega) (fun _ => rfl) (fun _ => i7 (by decide)) (fun q => by omega))
        simp [passS, el, hc]
      · refine fin (s' := s.act C 1 (partP C.a C.b C.c C.d 1 (c : Int)) 0 0) (x' := ⟨9, xj, c, xm, f0 (cdrI C c), xp, xfd, xtl, xcy⟩) ?_ (stay 9 _ _ (hwl _) (by decide) (by decide) (by simp at hn ⊢; omega) (i5 (by decide)) (fun q => by omega) (fun q => by omega) (fun _ => i7 (by decide)) (fun _ hw => absurd (colP_spot hC hw).2.2.1 hc))
        simp [passS, el, hc]
    · have ea : xa = f0 (cdrI C c) := i8 rfl
      refine fin (s' := s.act C 3 (colP C xa) 0 1) (x' := ⟨9, xj, c, xm, xa, xp, xfd, xtl, xcy⟩) ?_ (cass xa 9 _ rfl (.inr rfl) (by simp at hn ⊢; omega) (i5 (by decide)) (i7 (by decide)).cas (fun _ => by rw [← ea]; exact ToCol.shaded hC s.f xa))
      simp [passS, colP]
    · have hgr := i5 (by decide)
      have hw : (s.act C 2 (partP C.a C.b C.c C.d 2 (c : Int)) 2 0).f = upd s.f (colI C c) 2 := words_store C.n s.f _ 2 (by omega)
      have hnot : ¬ c ∈ L := fun hm => by have := (h.mem c hm).2; rw [hgr] at this; exact absurd this (by decide)
      have other : ∀ i : Nat, (i : Int) < C.a → i ≠ c → upd s.f (colI C c) 2 (colI C i) = s.f (colI C i) := fun i hi e => by
        unfold upd; rw [if_neg (fun q => e (colI_inj hC hi c1 q))]
      refine fin (s' := s.act C 2 (partP C.a C.b C.c C.d 2 (c : Int)) 2 0) (x' := nextCell C ⟨9, xj, c, xm, 0, xp, true, xtl, xcy⟩) (L' := L ++ [c]) ?_ (next _ (L ++ [c]) true 0 _ hw ?_ ?_ ?_ ?_ ?_ ?_ (fun _ => by simp; omega) (by simp; omega) (by simp at hn; omega) (fun q => by cases q))
      · simp [passS]
      · intro k h6 h2
        unfold upd
        rw [if_neg (fun e => h6 (by rw [e, hcol.2.2]))]
        exact h.near k h6 h2
      · intro i hi
        by_cases e : i = c
        · subst e
          refine .inr (.inr ⟨?_, upd_at _ _ _, by simp⟩)
          rcases h.cols i hi with e1 | ⟨e1, _⟩ | ⟨e1, _⟩
          · rw [← e1]; exact .inr hgr
          · exact .inl e1
          · exact e1
        · rw [other i hi e]
          rcases h.cols i hi with e1 | e1 | ⟨e1, e2, e3⟩
          · exact .inl e1
          · exact .inr (.inl e1)
          · exact .inr (.inr ⟨e1, e2, by simp [e3]⟩)
      · exact List.nodup_append.2 ⟨h.nodup, List.nodup_cons.2 ⟨by simp, List.nodup_nil⟩, fun u hu v hv e2 => by
          have e3 : v = c := by simpa using hv
          rw [e2, e3] at hu
          exact hnot hu⟩
      · intro i hi
        rcases List.mem_append.1 hi with hi | hi
        · obtain ⟨h1, h2⟩ := h.mem i hi
          refine ⟨h1, ?_⟩
          rw [other i h1 (fun e => hnot (e ▸ hi))]; exact h2
        · have e : i = c := by simpa using hi
          subst e; exact ⟨c1, upd_at _ _ _⟩
      · intro i hi
        rcases List.mem_append.1 hi with hi | hi
        · exact ⟨(h.edges i hi).1.set _ (by decide), (h.edges i hi).2.set _ (by decide)⟩
        · have e : i = c := by simpa using hi
          subst e; exact ⟨(i7 (by decide)).set _ (by decide), (i9 rfl).set _ (by decide)⟩
      · unfold upd; rw [if_neg (fun e => hd c c1 e.symm)]; exact g3
  · exact absurd e hl
/-- A pass over a memory without a grey cell, behind n steps. -/
def QuSt (C : Cf) (f0 f : Nat → Int) (n : Nat) (x : Co) : Prop :=
  (n = 0 ∧ x.l = 3 ∧ f = f0) ∨ (1 ≤ n ∧ (n : Int) ≤ C.a ∧ x.l = 4 ∧ x.c = (n : Int) - 1 ∧ x.fd = false ∧ f = upd f0 2 0) ∨ ((n : Int) = C.a + 1 ∧ x.l = 10 ∧ x.fd = false ∧ x.m = 0 ∧ f = upd f0 2 0)
theorem QuSt.go {C : Cf} (hC : CfOK C) {s : Dy} {f0 : Nat → Int} (hg : ∀ i : Nat, (i : Int) < C.a → f0 (colI C i) ≠ 1) {n : Nat} {x : Co} (h : QuSt C f0 s.f n x) (hn : (n : Int) ≤ C.a) :
    (x.l = 3 ∨ x.l = 4) ∧ ∃ s' x', passS C s x = (s', x', true) ∧ QuSt C f0 s'.f (n + 1) x' := by
  have h4 := hC.a4
  have hn5 := hC.four
  obtain ⟨xl, xj, xc, xm, xa, xp, xfd, xtl, xcy⟩ := x
  rcases h with ⟨rfl, e, hf⟩ | ⟨h1, h2, e, ec, hfd, hf⟩ | ⟨e, _⟩
  · dsimp only at e; subst e
    refine ⟨.inl rfl, s.act C 2 2 0 0, ⟨4, xj, 0, xm, xa, xp, false, xtl, xcy⟩, by simp [passS], .inr (.inl ⟨by omega, by omega, rfl, by simp, rfl, ?_⟩)⟩
    rw [← hf]; exact words_store C.n s.f 2 0 (by omega)
  · dsimp only at e ec hfd; subst e; subst hfd
    obtain ⟨c, rfl⟩ : ∃ c : Nat, n = c + 1 := ⟨n - 1, by omega⟩
    have hc : xc = (c : Int) := by omega
    subst hc
    have c1 : (c : Int) < C.a := by omega
    have hcol := colI_sp hC (i := c) c1
    have hne : colI C c ≠ 2 := fun e => by
      have := hcol.2.2
      rw [e, sp_once _ _ _ (by omega)] at this
      have := congrArg (·.1) this
      simp at this
    have el : ldP C s (partP C.a C.b C.c C.d 2 (c : Int)) = s.f (colI C c) := by
      unfold ldP; rw [z5_in _ (by omega) (by omega), ← hcol.1, Int.toNat_natCast]
    have hv : ¬ s.f (colI C c) = 1 := by rw [hf]; unfold upd; rw [if_neg hne]; exact hg c c1
    have hw : (s.act C 1 (partP C.a C.b C.c C.d 2 (c : Int)) 0 0).f = s.f := words_load _ _ _
    refine ⟨.inr rfl, s.act C 1 (partP C.a C.b C.c C.d 2 (c : Int)) 0 0, nextCell C ⟨4, xj, c, xm, xa, xp, false, xtl, xcy⟩, by simp [passS, el, hv], ?_⟩
    rw [hw]
    unfold nextCell
    dsimp only
    by_cases hca : (c : Int) + 1 < C.a
    · rw [if_pos hca]
      exact .inr (.inl ⟨by omega, by omega, rfl, by show (c : Int) + 1 = ((c + 1 + 1 : Nat) : Int) - 1; omega, rfl, hf⟩)
    · rw [if_neg hca]
      exact .inr (.inr ⟨by omega, rfl, rfl, rfl, hf⟩)
  · omega
end Go.Proofs.YthdcapkchjamoaaDoor
