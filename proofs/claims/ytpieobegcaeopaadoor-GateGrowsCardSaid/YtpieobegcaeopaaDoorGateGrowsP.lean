/- An operation's way in and out, without memory. -/
import Derived.Test.YtpieobegcaeopaaDoorGateAwake
namespace Go.Proofs.YtpieobegcaeopaaDoor
open Go Go.RowKit
set_option maxRecDepth 100000
attribute [local go_sem ↓] Go.wp_at_zero Go.wp_at_succ

abbrev mL (l : Int) : Mu := mS l 11
theorem gr_1 (s : Dy) : gateS C13 s 0 (mL 1) = (⟨upd s.f 5 (sumW (s.f 5) 1), 4, 5, 1, 0, s.f 5⟩, mL 2, true) := rfl
theorem gr_2 (s : Dy) : gateS C13 s 0 (mL 2) = (⟨s.f, 1, 1, 0, 0, s.f 1⟩, mL (if s.f 1 = 0 then 3 else 4), true) := rfl
theorem gr_3 (s : Dy) : gateS C13 s 0 (mL 3) = (⟨upd s.f 5 (sumW (s.f 5) 1), 4, 5, 1, 0, s.f 5⟩, mL 24, true) := rfl
theorem gr_4 (s : Dy) : gateS C13 s 0 (mL 4) = (⟨upd s.f 5 (sumW (s.f 5) 2), 4, 5, 2, 0, s.f 5⟩, mL 5, true) := rfl
theorem gr_5 (s : Dy) : gateS C13 s 0 (mL 5) = (⟨s.f, 1, 1, 0, 0, s.f 1⟩, mL (if s.f 1 = 0 then 6 else 5), true) := rfl
theorem gr_6 (s : Dy) : gateS C13 s 0 (mL 6) = (⟨upd s.f 5 (sumW (s.f 5) 3), 4, 5, 3, 0, s.f 5⟩, mL 24, true) := rfl
theorem gr_90 (s : Dy) : gateS C13 s 0 (mL 90) = (⟨upd s.f 5 (sumW (s.f 5) 2), 4, 5, 2, 0, s.f 5⟩, mL 0, true) := rfl
theorem gr_open (s : Dy) : (s.act C13 2 1 0 0).f = upd s.f 1 0 := rfl
theorem upd_at (f : Nat → Int) (j : Nat) (x : Int) : upd f j x j = x := if_pos rfl
theorem upd_ne (f : Nat → Int) {i j : Nat} (x : Int) (h : i ≠ j) : upd f j x i = f i := if_neg h
/-- Where an operation that has to wait N times, or not at all, is, behind j steps: its line, how often it still has to wait, its in. -/
def GrSt (st : Int) (N : Nat) (l n : Int) (j : Nat) (last : Int) (s : Dy) : Prop :=
  s.U ∧ s.f 5 = last ∧ (0 ≤ st ∧ st ≤ 4611686018427387900) ∧ N < 100 ∧
  ((l = 1 ∧ n = N ∧ j = 0 ∧ last = st ∧ (0 < N → s.f 1 = 1) ∧ (N = 0 → s.f 1 = 0)) ∨
   (l = 2 ∧ n = N ∧ j = 1 ∧ last = st + 1 ∧ (0 < N → s.f 1 = 1) ∧ (N = 0 → s.f 1 = 0)) ∨
   (l = 3 ∧ N = 0 ∧ n = 0 ∧ j = 2 ∧ last = st + 1) ∨
   (l = 4 ∧ 0 < N ∧ n = N ∧ j = 2 ∧ last = st + 1 ∧ s.f 1 = 1) ∨
   (l = 5 ∧ 1 ≤ n ∧ n ≤ N ∧ (j : Int) = 3 + (N - n) ∧ last = st + 3 ∧ s.f 1 = 1) ∨
   (l = 6 ∧ 0 < N ∧ n = 0 ∧ j = 3 + N ∧ last = st + 3) ∨
   (l = 24 ∧ n = 0 ∧ (N = 0 ∧ j = 3 ∧ last = st + 2 ∨ 0 < N ∧ j = 4 + N ∧ last = st + 6)))
/-- What is there ahead of the step: who waited often enough finds the gate open. -/
def grS (l n : Int) (s : Dy) : Dy := if l = 5 ∧ n - 1 ≤ 0 then s.act C13 2 1 0 0 else s
def grN (l n : Int) : Int := if l = 5 then n - 1 else n
theorem grS_U {l n : Int} {s : Dy} (h : s.U) : (grS l n s).U := by
  unfold grS
  split
  · exact h.act C13 2 1 u64_zero u64_zero
  · exact h
/-- What a step comes to. -/
def GrGo (st : Int) (N : Nat) (l n : Int) (j : Nat) (last : Int) (s : Dy) : Prop :=
  ∃ l' now s', gateS C13 (grS l n s) 0 (mL l) = (s', mL l', true) ∧ s'.f 5 = now ∧ GrSt st N l' (grN l n) (j + 1) now s' ∧ last ≤ now ∧ 0 ≤ grN l n
theorem GrSt.go {st : Int} {N : Nat} {l n : Int} {j : Nat} {last : Int} {s : Dy} (h : GrSt st N l n j last s) (hl : l ≠ 24) : GrGo st N l n j last s := by
  obtain ⟨hU, h5, hst, hN, hc⟩ := h
  rcases hc with ⟨rfl, rfl, rfl, rfl, hg, hg0⟩ | ⟨rfl, rfl, rfl, rfl, hg, hg0⟩ | ⟨rfl, rfl, rfl, rfl, rfl⟩ | ⟨rfl, hN0, rfl, rfl, rfl, hg⟩ | ⟨rfl, hn1, hnN, hj, rfl, hg⟩ | ⟨rfl, hN0, rfl, rfl, rfl⟩ | ⟨rfl, _⟩
  · have e : sumW (s.f 5) 1 = s.f 5 + 1 := by unfold sumW; omega
    refine ⟨2, s.f 5 + 1, _, (gr_1 s), (show upd s.f 5 (sumW (s.f 5) 1) 5 = s.f 5 + 1 from (upd_at _ _ _).trans e), ⟨upd_u64 hU 5 (sumW_u64 _ _), (show upd s.f 5 (sumW (s.f 5) 1) 5 = s.f 5 + 1 from (upd_at _ _ _).trans e), hst, hN, .inr (.inl ⟨rfl, rfl, rfl, by omega, fun h => hg h, fun h => hg0 h⟩)⟩, by omega, by show (0 : Int) ≤ (N : Int); omega⟩
  · by_cases hN0 : N = 0
    · have f1 := hg0 hN0
      subst hN0
      refine ⟨3, s.f 5, ⟨s.f, 1, 1, 0, 0, s.f 1⟩, (gr_2 s).trans (by rw [if_pos f1]), rfl, ⟨hU, rfl, hst, hN, .inr (.inr (.inl ⟨rfl, rfl, rfl, rfl, by omega⟩))⟩, by omega, by show (0 : Int) ≤ 0; omega⟩
    · have f1 := hg (by omega)
      refine ⟨4, s.f 5, ⟨s.f, 1, 1, 0, 0, s.f 1⟩, (gr_2 s).trans (by rw [if_neg (by omega)]), rfl, ⟨hU, rfl, hst, hN, .inr (.inr (.inr (.inl ⟨rfl, by omega, rfl, rfl, by omega, f1⟩)))⟩, by omega, by show (0 : Int) ≤ (N : Int); omega⟩
  · have e : sumW (s.f 5) 1 = s.f 5 + 1 := by unfold sumW; omega
    refine ⟨24, s.f 5 + 1, _, (gr_3 s), (show upd s.f 5 (sumW (s.f 5) 1) 5 = s.f 5 + 1 from (upd_at _ _ _).trans e), ⟨upd_u64 hU 5 (sumW_u64 _ _), (show upd s.f 5 (sumW (s.f 5) 1) 5 = s.f 5 + 1 from (upd_at _ _ _).trans e), hst, hN, .inr (.inr (.inr (.inr (.inr (.inr ⟨rfl, rfl, .inl ⟨rfl, rfl, by omega⟩⟩)))))⟩, by omega, by show (0 : Int) ≤ 0; omega⟩
  · have e : sumW (s.f 5) 2 = s.f 5 + 2 := by unfold sumW; omega
    refine ⟨5, s.f 5 + 2, _, (gr_4 s), (show upd s.f 5 (sumW (s.f 5) 2) 5 = s.f 5 + 2 from (upd_at _ _ _).trans e), ⟨upd_u64 hU 5 (sumW_u64 _ _), (show upd s.f 5 (sumW (s.f 5) 2) 5 = s.f 5 + 2 from (upd_at _ _ _).trans e), hst, hN, .inr (.inr (.inr (.inr (.inl ⟨rfl, by show (1 : Int) ≤ (N : Int); omega, by show (N : Int) ≤ N; omega, by show ((2 + 1 : Nat) : Int) = 3 + ((N : Int) - N); omega, by omega, hg⟩))))⟩, by omega, by show (0 : Int) ≤ (N : Int); omega⟩
  · have eN : grN 5 n = n - 1 := if_pos rfl
    by_cases h0 : n - 1 ≤ 0
    · have eS : grS 5 n s = s.act C13 2 1 0 0 := if_pos ⟨rfl, h0⟩
      have f1 : (s.act C13 2 1 0 0).f 1 = 0 := rfl
      have f5 : (s.act C13 2 1 0 0).f 5 = s.f 5 := rfl
      have hU' := hU.act C13 2 1 u64_zero u64_zero
      unfold GrGo
      rw [eN, eS]
      refine ⟨6, s.f 5, ⟨(s.act C13 2 1 0 0).f, 1, 1, 0, 0, (s.act C13 2 1 0 0).f 1⟩, (gr_5 _).trans (by rw [if_pos f1]), f5, ⟨hU', f5, hst, hN, .inr (.inr (.inr (.inr (.inr (.inl ⟨rfl, by omega, by omega, by omega, by omega⟩)))))⟩, by omega, by omega⟩
    · have eS : grS 5 n s = s := if_neg (by omega)
      unfold GrGo
      rw [eN, eS]
      refine ⟨5, s.f 5, ⟨s.f, 1, 1, 0, 0, s.f 1⟩, (gr_5 _).trans (by rw [if_neg (by omega)]), rfl, ⟨hU, rfl, hst, hN, .inr (.inr (.inr (.inr (.inl ⟨rfl, by omega, by omega, by omega, by omega, hg⟩))))⟩, by omega, by omega⟩
  · have e : sumW (s.f 5) 3 = s.f 5 + 3 := by unfold sumW; omega
    refine ⟨24, s.f 5 + 3, _, (gr_6 s), (show upd s.f 5 (sumW (s.f 5) 3) 5 = s.f 5 + 3 from (upd_at _ _ _).trans e), ⟨upd_u64 hU 5 (sumW_u64 _ _), (show upd s.f 5 (sumW (s.f 5) 3) 5 = s.f 5 + 3 from (upd_at _ _ _).trans e), hst, hN, .inr (.inr (.inr (.inr (.inr (.inr ⟨rfl, rfl, .inr ⟨hN0, by omega, by omega⟩⟩)))))⟩, by omega, by show (0 : Int) ≤ 0; omega⟩
  · exact absurd rfl hl
theorem GrSt.le {st : Int} {N : Nat} {l n : Int} {j : Nat} {last : Int} {s : Dy} (h : GrSt st N l n j last s) : j ≤ 103 := by
  obtain ⟨hU, h5, hst, hN, hc⟩ := h
  omega
theorem GrSt.fin {st : Int} {N : Nat} {n : Int} {j : Nat} {last : Int} {s : Dy} (h : GrSt st N 24 n j last s) : last % 4 = (st + 2) % 4 ∧ (N = 0 → last + 2 = st + 4) ∧ (0 < N → last + 2 = st + 8) ∧ U64 last ∧ 0 ≤ st ∧ st ≤ 4611686018427387900 ∧ s.U ∧ s.f 5 = last := by
  obtain ⟨hU, h5, hst, hN, hc⟩ := h
  have hu := hU 5
  rw [h5] at hu
  refine ⟨by omega, by omega, by omega, hu, hst.1, hst.2, hU, h5⟩
theorem GrSt.line {st : Int} {N : Nat} {l n : Int} {j : Nat} {last : Int} {s : Dy} (h : GrSt st N l n j last s) : -1000 ≤ n ∧ n ≤ 1000 ∧ U64 last := by
  obtain ⟨hU, h5, hst, hN, hc⟩ := h
  have hu := hU 5
  rw [h5] at hu
  exact ⟨by omega, by omega, hu⟩
end Go.Proofs.YtpieobegcaeopaaDoor
