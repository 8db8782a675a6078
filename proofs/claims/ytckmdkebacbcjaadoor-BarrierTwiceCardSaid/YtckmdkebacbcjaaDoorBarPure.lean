/- What shading makes of all words, step by step; blocks apart from two hands. -/
import Derived.Test.YtckmdkebacbcjaaDoorBarBoth
namespace Go.Proofs.YtckmdkebacbcjaaDoor
open Go Go.RowKit
set_option maxRecDepth 100000
attribute [local go_sem ↓] Go.wp_at_zero Go.wp_at_succ

/-- Behind all steps of shading nothing but a white cell's colour and dirty has turned. -/
structure Shaded (n : Nat) (f g : Nat → Int) (p : Int) : Prop where
  at' : ∀ k : Nat, (k : Int) = p → f k = 0 → g k = 1 ∧ g 2 = 1
  dirty : 0 ≤ p → f p.toNat = 0 → g 2 = 1
  other : ∀ k : Nat, ¬ ((k : Int) = p ∧ f k = 0) → ¬ ((k : Int) = 2 ∧ 0 ≤ p ∧ f p.toNat = 0) → g k = f k
  again : wordsQ n g 3 p 0 1 = g ∧ casB n g p 0 = false
theorem casB_in {n : Nat} {f : Nat → Int} {p : Int} (h : casB n f p 0 = true) : okD n 3 p ∧ f p.toNat = 0 := by
  unfold casB at h
  simp only [Bool.and_eq_true, decide_eq_true_eq, beq_iff_eq] at h
  exact h
theorem casB_no {n : Nat} {f : Nat → Int} {p : Int} (h : ¬ casB n f p 0 = true) : okD n 3 p → ¬ f p.toNat = 0 := by
  intro h1 h2
  apply h
  unfold casB
  simp only [Bool.and_eq_true, decide_eq_true_eq, beq_iff_eq]
  exact ⟨h1, h2⟩
theorem cas_lost {n : Nat} {f : Nat → Int} {p : Int} (h : ¬ casB n f p 0 = true) : wordsQ n f 3 p 0 1 = f := by
  unfold wordsQ
  by_cases h1 : okD n 3 p
  · rw [if_pos h1]
    unfold doF
    rw [if_neg (by omega), if_pos rfl, if_neg (casB_no h h1)]
  · rw [if_neg h1]
theorem cas_won {n : Nat} {f : Nat → Int} {p : Int} (h : casB n f p 0 = true) : wordsQ n f 3 p 0 1 = upd f p.toNat 1 := by
  obtain ⟨h1, h2⟩ := casB_in h
  unfold wordsQ
  rw [if_pos h1]
  unfold doF
  rw [if_neg (by omega), if_pos rfl, if_pos h2]
theorem store_dirty {n : Nat} (f : Nat → Int) (hn : 2 < n) : wordsQ n f 2 2 1 0 = upd f 2 1 := by
  unfold wordsQ
  rw [if_pos ⟨by omega, by omega, by omega, by omega⟩]
  unfold doF
  rw [if_pos rfl]
  rfl
theorem Shaded.lost {n : Nat} {f : Nat → Int} {p : Int} (hp : p < n) (h : ¬ casB n f p 0 = true) : Shaded n f f p := by
  have h3 : 0 ≤ p → ¬ f p.toNat = 0 := fun h0 => casB_no h ⟨by omega, by omega, h0, hp⟩
  refine ⟨fun k e e2 => ?_, fun h0 e2 => absurd e2 (h3 h0), fun _ _ _ => rfl, cas_lost h, by simpa using h⟩
  subst e
  exact absurd e2 (h3 (by omega))
theorem Shaded.won {n : Nat} {f : Nat → Int} {p : Int} (hp : 5 ≤ p) (h : casB n f p 0 = true) : Shaded n f (wordsQ n (wordsQ n f 3 p 0 1) 2 2 1 0) p := by
  obtain ⟨h1, h2⟩ := casB_in h
  have hn : 2 < n := by unfold okD at h1; omega
  rw [cas_won h, store_dirty _ hn]
  have hg : upd (upd f p.toNat 1) 2 1 p.toNat = 1 := by
    unfold upd; rw [if_neg (by omega), if_pos rfl]
  have hc : ¬ casB n (upd (upd f p.toNat 1) 2 1) p 0 = true := fun e => by have := (casB_in e).2; rw [hg] at this; omega
  refine ⟨fun k e _ => ?_, fun _ _ => ?_, fun k e1 e2 => ?_, cas_lost hc, by simpa using hc⟩
  · have : k = p.toNat := by omega
    rw [this]
    exact ⟨hg, by unfold upd; rw [if_pos rfl]⟩
  · unfold upd; rw [if_pos rfl]
  · unfold upd
    by_cases e : k = 2
    · exact absurd ⟨by omega, by omega, h2⟩ e2
    · rw [if_neg e]
      by_cases e3 : k = p.toNat
      · exact absurd ⟨by omega, by rw [e3]; exact h2⟩ e1
      · rw [if_neg e3]
/-- A mutator that has nothing but a word to shade. -/
abbrev onlyM (l p bk : Int) : Mu := ⟨l, 0, 0, 0, 0, 0, 0, 0, 0, 0, p, bk, 0⟩
/-- All steps of shading a word. -/
structure Run (C : Cf) (s : Dy) (v : Nat) (bk : Int) (K : Nat) (st : Nat → Dy × Mu) : Prop where
  two : K ≤ 2
  first : st 0 = (s, onlyM (begL v bk) (begP v) (begB v bk))
  line : ∀ k, k < K → (st k).2.l = 80 ∨ (st k).2.l = 81
  next : ∀ k, k < K → barS C (st k).1 (st k).2 = ((st (k + 1)).1, (st (k + 1)).2, true)
  last : (st K).2 = onlyM bk 0 0
  u : ∀ k, (st k).1.U
  up : ∀ k, U64 (st k).2.p
  words : Shaded C.n s.f (st K).1.f (fieldP C.a C.b C.c C.d v 2)
theorem field_lt {a b c d : Int} (hr : Right a b c d) {n : Nat} (hn : (n : Int) = 5 + b + d + b * c + 3 * a) (v : Nat) : fieldP a b c d v 2 < n ∧ (fieldP a b c d v 2 = -1 ∨ 5 ≤ fieldP a b c d v 2) := by
  have := hr.prod
  unfold fieldP partP
  unfold Right at hr
  by_cases h : isC v ∧ (0 : Int) ≤ 2 ∧ (2 : Int) ≤ 2
  · rw [if_pos h]
    by_cases h2 : ((0 : Int) ≤ ((v / 2 : Nat) : Int) ∧ ((v / 2 : Nat) : Int) < a) ∧ Right a b c d
    · rw [if_pos h2]; obtain ⟨⟨h3, h4⟩, _⟩ := h2; omega
    · rw [if_neg h2]; omega
  · rw [if_neg h]; omega
theorem run_any {C : Cf} {s : Dy} (hu : s.U) (hr : Right C.a C.b C.c C.d) (hn : (C.n : Int) = 5 + C.b + C.d + C.b * C.c + 3 * C.a) (v : Nat) (hv : v < 18446744073709551616) (bk : Int) : ∃ K st, Run C s v bk K st := by
  obtain ⟨hp, hp5⟩ := field_lt hr hn v
  have hv6 : U64 (v : Int) := by unfold U64; omega
  by_cases h : isC v
  · have e0 : onlyM (begL v bk) (begP v) (begB v bk) = onlyM 80 v bk := by unfold begL begP begB; rw [if_pos h, if_pos h, if_pos h]
    by_cases hc : casB C.n s.f (fieldP C.a C.b C.c C.d v 2) 0 = true
    · refine ⟨2, fun k => match k with | 0 => (s, onlyM 80 v bk) | 1 => (s.act C 3 (fieldP C.a C.b C.c C.d v 2) 0 1, onlyM 81 0 bk) | _ => ((s.act C 3 (fieldP C.a C.b C.c C.d v 2) 0 1).act C 2 2 1 0, onlyM bk 0 0), by omega, by rw [e0]; rfl, ?_, ?_, rfl, ?_, ?_, ?_⟩
      · intro k hk
        rcases (by omega : k = 0 ∨ k = 1) with rfl | rfl
        · exact .inl rfl
        · exact .inr rfl
      · intro k hk
        rcases (by omega : k = 0 ∨ k = 1) with rfl | rfl
        · show barS C s (onlyM 80 v bk) = _
          unfold barS
          simp only [Int.toNat_natCast, hc, if_true]
        · show barS C _ (onlyM 81 0 bk) = _
          unfold barS
          simp only [if_true]
          rw [if_neg (by omega)]
      · intro k
        have h1 := hu.act C 3 (fieldP C.a C.b C.c C.d v 2) u64_zero (y := 1) (by unfold U64; omega)
        match k with
        | 0 => exact hu
        | 1 => exact h1
        | _ + 2 => exact h1.act C 2 2 (by unfold U64; omega) u64_zero
      · intro k
        match k with
        | 0 => exact hv6
        | 1 => exact u64_zero
        | _ + 2 => exact u64_zero
      · exact Shaded.won (by have := (casB_in hc).1; unfold okD at this; omega) hc
    · refine ⟨1, fun k => match k with | 0 => (s, onlyM 80 v bk) | _ => (s.act C 3 (fieldP C.a C.b C.c C.d v 2) 0 1, onlyM bk 0 0), by omega, by rw [e0]; rfl, ?_, ?_, rfl, ?_, ?_, ?_⟩
      · intro k hk
        obtain rfl : k = 0 := by omega
        exact .inl rfl
      · intro k hk
        obtain rfl : k = 0 := by omega
        show barS C s (onlyM 80 v bk) = _
        unfold barS
        simp only [Int.toNat_natCast, hc, if_true]
        rfl
      · intro k
        match k with
        | 0 => exact hu
        | _ + 1 => exact hu.act C 3 _ u64_zero (by unfold U64; omega)
      · intro k
        match k with
        | 0 => exact hv6
        | _ + 1 => exact u64_zero
      · show Shaded C.n s.f (wordsQ C.n s.f 3 _ 0 1) _
        rw [cas_lost hc]
        exact Shaded.lost hp hc
  · have e0 : onlyM (begL v bk) (begP v) (begB v bk) = onlyM bk 0 0 := by unfold begL begP begB; rw [if_neg h, if_neg h, if_neg h]
    have hf : fieldP C.a C.b C.c C.d v 2 = -1 := by unfold fieldP; rw [if_neg (fun k => h k.1)]
    refine ⟨0, fun _ => (s, onlyM bk 0 0), by omega, by rw [e0], fun k hk => absurd hk (by omega), fun k hk => absurd hk (by omega), rfl, fun _ => hu, fun _ => u64_zero, ?_⟩
    exact Shaded.lost hp (fun e => by have := (casB_in e).1; unfold okD at this; omega)
/-- A block lies apart from both hands. -/
def Pl.Out (P : Pl) (B : Nat) : Prop := B ≠ P.H ∧ B ≠ P.A ∧ B ≠ P.G ∧ B ≠ P.X ∧ ∀ R, P.va = some ⟨R, 0, none⟩ → R ≠ B
theorem Two.out {w W : World} {P : Pl} {C : Cf} {s t : Dy} (h : Two w W P C s t) {B : Nat} (hB : W.heap.size ≤ B) : P.Out B := by
  have h1 := h.hand.lt; have h2 := h.hand.ar.lt; have h3 := h.hand.ar.row.lt; have h4 := h.ref.lt
  exact ⟨by omega, by omega, by omega, by omega, fun R e => by have := h.ltR R e; omega⟩
theorem Pl.Out.notS {P : Pl} {B : Nat} (h : P.Out B) : ¬ AllS P.H P.G P.X P.va B := by
  rintro (e | e | e | e)
  · exact h.1 e
  · exact h.2.2.1 e
  · exact h.2.2.2.1 e
  · exact h.2.2.2.2 B e rfl
theorem size_put13 (w : World) (B : Nat) (l p bk q1 q2 q3 q4 m1 m2 m3 m4 m5 rt : Int) : (put13 w B l p bk q1 q2 q3 q4 m1 m2 m3 m4 m5 rt).heap.size = w.heap.size := by simp [World.setCell]
theorem Two.put {w W : World} {P : Pl} {C : Cf} {s t : Dy} (h : Two w W P C s t) {B : Nat} (hB : w.heap.size ≤ B) (ho : P.Out B) (l p bk q1 q2 q3 q4 m1 m2 m3 m4 m5 rt : Int) : Two w (put13 W B l p bk q1 q2 q3 q4 m1 m2 m3 m4 m5 rt) P C s t :=
  have h := h.both
  ⟨((Sav.of (S := fun _ => False) h.old).put13 (.inr hB) _ _ _ _ _ _ _ _ _ _ _ _ _).below (Nat.le_refl _) (fun _ _ e => e), h.hand.put13 ho.1 ho.2.1 ho.2.2.1 _ _ _ _ _ _ _ _ _ _ _ _ _, h.ref.put13 ho.2.2.2.1 ho.2.2.2.2 _ _ _ _ _ _ _ _ _ _ _ _ _, h.lH, h.lG, h.lX, fun R e => ⟨(h.lR R e).1, by rw [size_put13]; exact (h.lR R e).2.1, (h.lR R e).2.2⟩, h.xH, h.xA, h.xG⟩
end Go.Proofs.YtckmdkebacbcjaaDoor
