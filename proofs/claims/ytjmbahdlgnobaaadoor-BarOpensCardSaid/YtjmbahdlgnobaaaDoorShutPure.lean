/- The gate shut and opened, and some mutators that go in and out, without memory. -/
import Derived.Test.YtjmbahdlgnobaaaDoorM2
import Derived.Test.YtjmbahdlgnobaaaDoorGateKeepsP
namespace Go.Proofs.YtjmbahdlgnobaaaDoor
open Go Go.RowKit
set_option maxRecDepth 100000

/-- A step of the gate leaves another mutator's in alone. -/
theorem gate_others {k : Nat} (hk : 1 ≤ k ∧ k ≤ 5) (s : Dy) {m : Nat} (hm : m < k) (x : Mu) {j : Nat} (hj : j ≠ m) : (gateS (CK k) s m x).1.f (5 + j) = s.f (5 + j) := by
  have hu : ∀ z, (s.act (CK k) 4 (inP 2 k 1 0 m) z 0).f (5 + j) = s.f (5 + j) := fun z => by rw [actK hk hm]; exact if_neg (by omega)
  have hl : (s.act (CK k) 1 1 0 0).f (5 + j) = s.f (5 + j) := by rw [lookK]
  unfold gateS
  repeat' split
  all_goals first | exact hu _ | exact hl | rfl
/-- Where a mutator is left. -/
def bkL (l : Int) : Prop := l = 0 ∨ l = 2 ∨ l = 3 ∨ l = 4 ∨ l = 5 ∨ l = 6 ∨ l = 24
/-- A mutator's step, and where it comes from and goes to. -/
def BkGo (k : Nat) (cl : Bool) (ln kd : Nat → Int) (s : Dy) (m : Nat) : Prop :=
  ∃ ly s', gateS (CK k) s m (mL (goL1 (goL0 (ln m)))) = (s', mL ly, true) ∧ KpSt k cl (upd ln m ly) (upd kd m 11) s' ∧ (∀ j, j ≠ m → s'.f (5 + j) = s.f (5 + j)) ∧ bkL ly ∧ (ln m = 0 ∨ kd m = 11) ∧
    (cl = false → ly ≠ 4) ∧ (cl = false → ¬ (ln m = 4 ∨ ln m = 5 ∨ ln m = 6) → ¬ (ly = 4 ∨ ly = 5 ∨ ly = 6)) ∧ (cl = true → ly ≠ 6) ∧ (cl = true → (ln m = 0 ∨ ln m = 2 ∨ ln m = 4 ∨ ln m = 5) → (ly = 0 ∨ ly = 2 ∨ ly = 4 ∨ ly = 5))
theorem bk_step {k : Nat} (hk : 1 ≤ k ∧ k ≤ 5) {cl : Bool} {ln kd : Nat → Int} {s : Dy} (h : KpSt k cl ln kd s) {m : Nat} (hm : m < k) : BkGo k cl ln kd s m := by
  have hi := h.2.2 m hm
  have ho := fun j (hj : j ≠ m) => gate_others hk s hm (mL (goL1 (goL0 (ln m)))) hj
  have fin : ∀ (ly sy : Int), KpGo k cl ln kd s m (goL1 (goL0 (ln m))) ly sy → bkL ly → (ln m = 0 ∨ kd m = 11) → (cl = false → ly ≠ 4) → (cl = false → ¬ (ln m = 4 ∨ ln m = 5 ∨ ln m = 6) → ¬ (ly = 4 ∨ ly = 5 ∨ ly = 6)) → (cl = true → ly ≠ 6) → (cl = true → (ln m = 0 ∨ ln m = 2 ∨ ln m = 4 ∨ ln m = 5) → (ly = 0 ∨ ly = 2 ∨ ly = 4 ∨ ly = 5)) → BkGo k cl ln kd s m := fun ly sy hG a b c d e f => by
    obtain ⟨s', v, hg, _, _, _, hK⟩ := hG
    exact ⟨ly, s', hg, hK, fun j hj => by have := ho j hj; rw [hg] at this; exact this, a, b, c, d, e, f⟩
  unfold LineIn at hi
  cases cl
  · rcases hi with ⟨hl, _⟩ | ⟨hl | hl | hl, hkd, _⟩ | ⟨hl | hl, hkd, _⟩ | ⟨hl, hkd, _⟩
    · exact fin 2 1 (by rw [hl]; exact kp_1_o hk h hm hl) (by unfold bkL; omega) (.inl hl) (by omega) (by omega) (fun e => by cases e) (fun e => by cases e)
    · exact fin 3 1 (by rw [hl]; exact kp_2_o hk h hm hl) (by unfold bkL; omega) (.inr hkd) (by omega) (by omega) (fun e => by cases e) (fun e => by cases e)
    · exact fin 24 2 (by rw [hl]; exact kp_3_o hk h hm hl) (by unfold bkL; omega) (.inr hkd) (by omega) (by omega) (fun e => by cases e) (fun e => by cases e)
    · exact fin 5 3 (by rw [hl]; exact kp_4_o hk h hm hl) (by unfold bkL; omega) (.inr hkd) (by omega) (by omega) (fun e => by cases e) (fun e => by cases e)
    · exact fin 6 3 (by rw [hl]; exact kp_5_o hk h hm hl) (by unfold bkL; omega) (.inr hkd) (by omega) (by omega) (fun e => by cases e) (fun e => by cases e)
    · exact fin 24 2 (by rw [hl]; exact kp_6_o hk h hm hl) (by unfold bkL; omega) (.inr hkd) (by omega) (by omega) (fun e => by cases e) (fun e => by cases e)
    · exact fin 0 0 (by rw [hl]; exact kp_90_o hk h hm hl) (by unfold bkL; omega) (.inr hkd) (by omega) (by omega) (fun e => by cases e) (fun e => by cases e)
  · rcases hi with ⟨hl, _⟩ | ⟨hl | hl | hl, hkd, _⟩ | ⟨hl | hl, hkd, _⟩ | ⟨hl, hkd, _⟩
    · exact fin 2 1 (by rw [hl]; exact kp_1_c hk h hm hl) (by unfold bkL; omega) (.inl hl) (fun e => by cases e) (fun e => by cases e) (by omega) (by omega)
    · exact fin 4 1 (by rw [hl]; exact kp_2_c hk h hm hl) (by unfold bkL; omega) (.inr hkd) (fun e => by cases e) (fun e => by cases e) (by omega) (by omega)
    · exact fin 24 2 (by rw [hl]; exact kp_3_c hk h hm hl) (by unfold bkL; omega) (.inr hkd) (fun e => by cases e) (fun e => by cases e) (by omega) (by omega)
    · exact fin 5 3 (by rw [hl]; exact kp_4_c hk h hm hl) (by unfold bkL; omega) (.inr hkd) (fun e => by cases e) (fun e => by cases e) (by omega) (by omega)
    · exact fin 5 3 (by rw [hl]; exact kp_5_c hk h hm hl) (by unfold bkL; omega) (.inr hkd) (fun e => by cases e) (fun e => by cases e) (by omega) (by omega)
    · exact fin 24 2 (by rw [hl]; exact kp_6_c hk h hm hl) (by unfold bkL; omega) (.inr hkd) (fun e => by cases e) (fun e => by cases e) (by omega) (by omega)
    · exact fin 0 0 (by rw [hl]; exact kp_90_c hk h hm hl) (by unfold bkL; omega) (.inr hkd) (fun e => by cases e) (fun e => by cases e) (by omega) (by omega)
/-- The collector at the gate, and where mutators may be then. -/
def BkCo (k : Nat) (cl : Bool) (ln : Nat → Int) (s : Dy) (x : Co) : Prop :=
  (x.l = 10 ∧ cl = false ∧ 0 ≤ x.m ∧ x.m < k ∧ ∀ j : Nat, (j : Int) < x.m → ¬ (ln j = 4 ∨ ln j = 5 ∨ ln j = 6)) ∨
  (x.l = 16 ∧ cl = false ∧ 0 ≤ x.m ∧ x.m < k ∧ (∀ j : Nat, (j : Int) < x.m → ¬ (ln j = 4 ∨ ln j = 5 ∨ ln j = 6)) ∧ (ln x.m.toNat = 4 → s.f (5 + x.m.toNat) = x.a)) ∨
  (x.l = 11 ∧ cl = false ∧ x.m = 0 ∧ ∀ j : Nat, j < k → ¬ (ln j = 4 ∨ ln j = 5 ∨ ln j = 6)) ∨
  (x.l = 12 ∧ cl = true ∧ 0 ≤ x.m ∧ x.m < k ∧ (∀ j : Nat, j < k → ln j ≠ 6) ∧ ∀ j : Nat, (j : Int) < x.m → (ln j = 0 ∨ ln j = 2 ∨ ln j = 4 ∨ ln j = 5)) ∨
  ((x.l = 13 ∨ x.l = 14 ∨ x.l = 15) ∧ cl = true ∧ ∀ j : Nat, j < k → (ln j = 0 ∨ ln j = 2 ∨ ln j = 4 ∨ ln j = 5)) ∨
  ((x.l = 3 ∨ x.l = 20) ∧ cl = false)
/-- .. stays so while a mutator goes on. -/
theorem BkCo.mut {k : Nat} {cl : Bool} {ln : Nat → Int} {s s' : Dy} {x : Co} (h : BkCo k cl ln s x) {m : Nat} {ly : Int} (ho : ∀ j, j ≠ m → s'.f (5 + j) = s.f (5 + j))
    (h1 : cl = false → ly ≠ 4) (h2 : cl = false → ¬ (ln m = 4 ∨ ln m = 5 ∨ ln m = 6) → ¬ (ly = 4 ∨ ly = 5 ∨ ly = 6)) (h3 : cl = true → ly ≠ 6) (h4 : cl = true → (ln m = 0 ∨ ln m = 2 ∨ ln m = 4 ∨ ln m = 5) → (ly = 0 ∨ ly = 2 ∨ ly = 4 ∨ ly = 5)) : BkCo k cl (upd ln m ly) s' x := by
  have u : ∀ j, upd ln m ly j = if j = m then ly else ln j := fun j => rfl
  rcases h with ⟨a, b, c, d, e⟩ | ⟨a, b, c, d, e, f⟩ | ⟨a, b, c, e⟩ | ⟨a, b, c, d, e, f⟩ | ⟨a, b, e⟩ | ⟨a, b⟩
  · refine .inl ⟨a, b, c, d, fun j hj => ?_⟩
    rw [u]; split
    · subst j; exact h2 b (e m hj)
    · exact e j hj
  · refine .inr (.inl ⟨a, b, c, d, fun j hj => ?_, fun hq => ?_⟩)
    · rw [u]; split
      · subst j; exact h2 b (e m hj)
      · exact e j hj
    · rw [u] at hq
      by_cases e2 : x.m.toNat = m
      · rw [if_pos e2] at hq; exact absurd hq (h1 b)
      · rw [if_neg e2] at hq; rw [ho _ e2]; exact f hq
  · refine .inr (.inr (.inl ⟨a, b, c, fun j hj => ?_⟩))
    rw [u]; split
    · subst j; exact h2 b (e m hj)
    · exact e j hj
  · refine .inr (.inr (.inr (.inl ⟨a, b, c, d, fun j hj => ?_, fun j hj => ?_⟩)))
    · rw [u]; split
      · exact h3 b
      · exact e j hj
    · rw [u]; split
      · subst j; exact h4 b (f m hj)
      · exact f j hj
  · refine .inr (.inr (.inr (.inr (.inl ⟨a, b, fun j hj => ?_⟩))))
    rw [u]; split
    · subst j; exact h4 b (e m hj)
    · exact e j hj
  · exact .inr (.inr (.inr (.inr (.inr ⟨a, b⟩))))
theorem ldK {k : Nat} (hk : 1 ≤ k ∧ k ≤ 5) (s : Dy) {m : Nat} (hm : m < k) : ldP (CK k) s (inP 2 k 1 0 m) = s.f (5 + m) := by
  rw [inP_in (rightK hk) m (by omega) (by omega)]
  unfold ldP
  rw [z5_in _ (by omega) (by dsimp only; omega), show (5 + (m : Int)).toNat = 5 + m by omega]
theorem lookI {k : Nat} (s : Dy) (i : Int) : (s.act (CK k) 1 i 0 0).f = s.f := words_load _ _ _
theorem KpSt.same {k : Nat} {cl : Bool} {ln kd : Nat → Int} {s s' : Dy} (h : KpSt k cl ln kd s) (e : s'.f = s.f) : KpSt k cl ln kd s' := by
  obtain ⟨h1, h2, h3⟩ := h
  exact ⟨fun j => by rw [e]; exact h1 j, by rw [e]; exact h2, fun m hm => by rw [e]; exact h3 m hm⟩
/-- The collector's step at the gate; when it shuts it nobody has found it closed. -/
theorem BkCo.col {k : Nat} (hk : 1 ≤ k ∧ k ≤ 5) {cl : Bool} {ln kd : Nat → Int} {s : Dy} {x : Co} (hK : KpSt k cl ln kd s) (h : BkCo k cl ln s x) (hl : x.l ≠ 3 ∧ x.l ≠ 20) :
    ∃ s' x' fl cl', shutS (CK k) s x = (s', x', fl, true) ∧ KpSt k cl' ln kd s' ∧ BkCo k cl' ln s' x' ∧ (x.l = 11 → ∀ j : Nat, j < k → ¬ (ln j = 4 ∨ ln j = 5)) := by
  obtain ⟨xl, xj, xc, xm, xa, xp, xfd, xtl, xcy⟩ := x
  have nx : ∀ {s' : Dy} {a' : Int} {m : Nat}, s'.f = s.f → m < k → cl = false → (∀ j : Nat, j < m → ¬ (ln j = 4 ∨ ln j = 5 ∨ ln j = 6)) → ¬ (ln m = 4 ∨ ln m = 5 ∨ ln m = 6) →
      BkCo k cl ln s' (nextMut (CK k) ⟨xl, xj, xc, m, a', xp, xfd, xtl, xcy⟩ 10 11) := fun {s'} {a'} {m} hs hm hcl hj hnm => by
    unfold nextMut
    dsimp only
    by_cases e : (m : Int) + 1 < k
    · rw [if_pos e]
      refine .inl ⟨rfl, hcl, by dsimp only; omega, e, fun j hjm => ?_⟩
      have hjm : (j : Int) < (m : Int) + 1 := hjm
      by_cases e2 : j = m
      · subst e2; exact hnm
      · exact hj j (by omega)
    · rw [if_neg e]
      refine .inr (.inr (.inl ⟨rfl, hcl, rfl, fun j hjk => ?_⟩))
      by_cases e2 : j = m
      · subst e2; exact hnm
      · exact hj j (by omega)
  rcases h with ⟨a, b, c, d, e⟩ | ⟨a, b, c, d, e, f⟩ | ⟨a, b, c, e⟩ | ⟨a, b, c, d, e, f⟩ | ⟨a, b, e⟩ | ⟨a, b⟩
  · dsimp only at a c d e; subst a
    obtain ⟨m, rfl⟩ : ∃ m : Nat, xm = m := ⟨xm.toNat, by omega⟩
    have hm : m < k := by omega
    have hi := hK.2.2 m hm
    have el := ldK hk s hm
    by_cases hv : s.f (5 + m) % 4 = 1 ∨ s.f (5 + m) % 4 = 3
    · refine ⟨s.act (CK k) 1 (inP 2 k 1 0 m) 0 0, ⟨16, xj, xc, m, s.f (5 + m), xp, xfd, xtl, xcy⟩, false, cl, ?_, hK.same (lookI s _), .inr (.inl ⟨rfl, b, c, d, e, fun _ => ?_⟩), fun q => by dsimp only at q; omega⟩
      · simp only [shutS, el, hv]; rfl
      · show (s.act (CK k) 1 _ 0 0).f (5 + (m : Int).toNat) = _; rw [lookI, Int.toNat_natCast]
    · refine ⟨s.act (CK k) 1 (inP 2 k 1 0 m) 0 0, nextMut (CK k) ⟨10, xj, xc, m, 0, xp, xfd, xtl, xcy⟩ 10 11, false, cl, ?_, hK.same (lookI s _), nx (lookI s _) hm b (fun j hj => e j (by omega)) ?_, fun q => by dsimp only at q; omega⟩
      · simp only [shutS, el, hv]; rfl
      · unfold LineIn at hi; omega
  · dsimp only at a c d e f; subst a
    obtain ⟨m, rfl⟩ : ∃ m : Nat, xm = m := ⟨xm.toNat, by omega⟩
    have hm : m < k := by omega
    have hi := hK.2.2 m hm
    have el := ldK hk s hm
    rw [Int.toNat_natCast] at f
    by_cases hv : s.f (5 + m) = xa ∨ s.f (5 + m) % 4 = 3
    · refine ⟨s.act (CK k) 1 (inP 2 k 1 0 m) 0 0, ⟨16, xj, xc, m, s.f (5 + m), xp, xfd, xtl, xcy⟩, false, cl, ?_, hK.same (lookI s _), .inr (.inl ⟨rfl, b, c, d, e, fun _ => ?_⟩), fun q => by dsimp only at q; omega⟩
      · simp only [shutS, el, hv]; rfl
      · show (s.act (CK k) 1 _ 0 0).f (5 + (m : Int).toNat) = _; rw [lookI, Int.toNat_natCast]
    · refine ⟨s.act (CK k) 1 (inP 2 k 1 0 m) 0 0, nextMut (CK k) ⟨16, xj, xc, m, 0, xp, xfd, xtl, xcy⟩ 10 11, false, cl, ?_, hK.same (lookI s _), nx (lookI s _) hm b (fun j hj => e j (by omega)) ?_, fun q => by dsimp only at q; omega⟩
      · simp only [shutS, el, hv]; rfl
      · unfold LineIn at hi
        rintro (q | q | q)
        · exact hv (.inl (f q))
        · omega
        · omega
  · dsimp only at a c e; subst a; subst c
    refine ⟨s.act (CK k) 2 1 1 0, ⟨12, xj, xc, 0, xa, xp, xfd, xtl, xcy⟩, false, true, by simp [shutS], hK.turn true 1 rfl, .inr (.inr (.inr (.inl ⟨rfl, rfl, by dsimp only; omega, by dsimp only; omega, fun j hj q => e j hj (by omega), fun j hj => by have hj : (j : Int) < 0 := hj; omega⟩))), fun _ j hj q => e j hj (by omega)⟩
  · dsimp only at a c d e f; subst a
    obtain ⟨m, rfl⟩ : ∃ m : Nat, xm = m := ⟨xm.toNat, by omega⟩
    have hm : m < k := by omega
    have hi := hK.2.2 m hm
    have h6 := e m hm
    have el := ldK hk s hm
    by_cases hv : s.f (5 + m) % 4 = 1 ∨ s.f (5 + m) % 4 = 2
    · refine ⟨s.act (CK k) 1 (inP 2 k 1 0 m) 0 0, ⟨12, xj, xc, m, xa, xp, xfd, xtl, xcy⟩, false, cl, ?_, hK.same (lookI s _), .inr (.inr (.inr (.inl ⟨rfl, b, c, d, e, f⟩))), fun q => by dsimp only at q; omega⟩
      simp only [shutS, el, hv]; rfl
    · have hmm : ln m = 0 ∨ ln m = 2 ∨ ln m = 4 ∨ ln m = 5 := by unfold LineIn at hi; omega
      refine ⟨s.act (CK k) 1 (inP 2 k 1 0 m) 0 0, nextMut (CK k) ⟨12, xj, xc, m, xa, xp, xfd, xtl, xcy⟩ 12 13, false, cl, ?_, hK.same (lookI s _), ?_, fun q => by dsimp only at q; omega⟩
      · simp only [shutS, el, hv]; rfl
      · unfold nextMut
        dsimp only
        by_cases e3 : (m : Int) + 1 < k
        · rw [if_pos e3]
          refine .inr (.inr (.inr (.inl ⟨rfl, b, by dsimp only; omega, e3, e, fun j hj => ?_⟩)))
          have hj : (j : Int) < (m : Int) + 1 := hj
          by_cases e2 : j = m
          · subst e2; exact hmm
          · exact f j (by omega)
        · rw [if_neg e3]
          refine .inr (.inr (.inr (.inr (.inl ⟨.inl rfl, b, fun j hj => ?_⟩))))
          by_cases e2 : j = m
          · subst e2; exact hmm
          · exact f j (by omega)
  · dsimp only at a e
    rcases a with a | a | a
    · subst a
      by_cases hv : ldP (CK k) s 2 = 0
      · exact ⟨s.act (CK k) 1 2 0 0, ⟨14, xj, xc, xm, xa, xp, xfd, xtl, xcy⟩, true, cl, by simp [shutS, hv], hK.same (lookI s _), .inr (.inr (.inr (.inr (.inl ⟨.inr (.inl rfl), b, e⟩)))), fun q => by dsimp only at q; omega⟩
      · exact ⟨s.act (CK k) 1 2 0 0, ⟨15, xj, xc, xm, xa, xp, xfd, xtl, xcy⟩, false, cl, by simp [shutS, hv], hK.same (lookI s _), .inr (.inr (.inr (.inr (.inl ⟨.inr (.inr rfl), b, e⟩)))), fun q => by dsimp only at q; omega⟩
    · subst a
      exact ⟨s.act (CK k) 2 1 0 0, ⟨20, xj, 0, xm, xa, xp, xfd, xtl, xcy⟩, false, false, by simp [shutS], hK.turn false 0 rfl, .inr (.inr (.inr (.inr (.inr ⟨.inr rfl, rfl⟩)))), fun q => by dsimp only at q; omega⟩
    · subst a
      exact ⟨s.act (CK k) 2 1 0 0, ⟨3, xj, xc, xm, xa, xp, xfd, xtl, xcy⟩, false, false, by simp [shutS], hK.turn false 0 rfl, .inr (.inr (.inr (.inr (.inr ⟨.inl rfl, rfl⟩)))), fun q => by dsimp only at q; omega⟩
  · dsimp only at a hl; omega
end Go.Proofs.YtjmbahdlgnobaaaDoor
