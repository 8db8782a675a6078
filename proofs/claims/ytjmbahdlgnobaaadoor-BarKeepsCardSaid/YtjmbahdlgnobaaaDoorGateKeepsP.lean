/- Any picks of some mutators and of one that turns the gate, without memory. -/
import Derived.Test.YtjmbahdlgnobaaaDoorGateStep
import Derived.Test.YtjmbahdlgnobaaaDoorM2
import Derived.Test.YtjmbahdlgnobaaaDoorPlaceFirst
import Derived.Test.YtjmbahdlgnobaaaDoorM1
import Derived.Test.YtjmbahdlgnobaaaDoorMut
namespace Go.Proofs.YtjmbahdlgnobaaaDoor
open Go Go.RowKit
set_option maxRecDepth 100000
attribute [local go_sem ↓] Go.wp_at_zero Go.wp_at_succ

/-- A mutator that has nothing but a line and a kind; one with an atom operation. -/
abbrev mS (l q : Int) : Mu := ⟨l, q, 0, 0, 0, 0, 0, 0, 0, 0, 0, 0, 0⟩
abbrev mL (l : Int) : Mu := mS l 11
theorem upd_ne (f : Nat → Int) {i j : Nat} (x : Int) (h : i ≠ j) : upd f j x i = f i := if_neg h
/-- The words and the map of k mutators. -/
abbrev CK (k : Nat) : Cf := ⟨11 + 2 * k, 2, k, 1, 0⟩
theorem rightK {k : Nat} (h : 1 ≤ k ∧ k ≤ 5) : Right 2 k 1 0 := by unfold Right; omega
theorem fst_gate {k : Nat} (h : 1 ≤ k ∧ k ≤ 5) : fstV 2 k 1 0 1 = 0 := by
  rcases (by omega : k = 1 ∨ k = 2 ∨ k = 3 ∨ k = 4 ∨ k = 5) with rfl | rfl | rfl | rfl | rfl
  all_goals rfl
theorem fst_in {k : Nat} (h : 1 ≤ k ∧ k ≤ 5) {m : Nat} (hm : m < k) : fstV 2 k 1 0 (5 + m) = 0 := by
  rcases (by omega : m = 0 ∨ m = 1 ∨ m = 2 ∨ m = 3 ∨ m = 4) with rfl | rfl | rfl | rfl | rfl
  all_goals rcases (by omega : k = 1 ∨ k = 2 ∨ k = 3 ∨ k = 4 ∨ k = 5) with rfl | rfl | rfl | rfl | rfl
  all_goals first | rfl | omega
theorem actK {k : Nat} (h : 1 ≤ k ∧ k ≤ 5) {m : Nat} (hm : m < k) (s : Dy) (z : Int) : (s.act (CK k) 4 (inP 2 k 1 0 m) z 0).f = upd s.f (5 + m) (sumW (s.f (5 + m)) z) := by
  rw [inP_in (rightK h) m (by omega) (by omega)]
  show wordsQ (11 + 2 * k) s.f 4 (5 + (m : Int)) z 0 = _
  unfold wordsQ
  rw [if_pos (by unfold okD; omega)]
  show upd s.f (5 + (m : Int)).toNat (sumW (s.f (5 + (m : Int)).toNat) z) = _
  rw [show (5 + (m : Int)).toNat = 5 + m by omega]
theorem seeK (k : Nat) (v : Int) : z5 (CK k).n 1 1 v = v := if_pos (by unfold okD; dsimp only; omega)
theorem lookK (k : Nat) (s : Dy) : (s.act (CK k) 1 1 0 0).f = s.f := by
  show wordsQ (11 + 2 * k) s.f 1 1 0 0 = _
  unfold wordsQ
  split
  · rfl
  · rfl
theorem turnK (k : Nat) (s : Dy) (z : Int) : (s.act (CK k) 2 1 z 0).f = upd s.f 1 z := by
  show wordsQ (11 + 2 * k) s.f 2 1 z 0 = _
  unfold wordsQ
  rw [if_pos (by unfold okD; omega)]
  rfl
/-- What a mutator's in says fits where it is. -/
def LineIn (l q v : Int) : Prop :=
  (l = 0 ∧ v % 4 = 0) ∨ ((l = 2 ∨ l = 3 ∨ l = 4) ∧ q = 11 ∧ v % 4 = 1) ∨ ((l = 5 ∨ l = 6) ∧ q = 11 ∧ v % 4 = 3) ∨ (l = 24 ∧ q = 11 ∧ v % 4 = 2)
/-- The gate and all ins, behind any picks. -/
def KpSt (k : Nat) (cl : Bool) (ln kd : Nat → Int) (s : Dy) : Prop :=
  s.U ∧ s.f 1 = (if cl then 1 else 0) ∧ ∀ m, m < k → LineIn (ln m) (kd m) (s.f (5 + m))
theorem KpSt.first {k : Nat} (h : 1 ≤ k ∧ k ≤ 5) : KpSt k false (fun _ => 0) (fun _ => 0) ⟨fstV 2 k 1 0, 0, 0, 0, 0, 0⟩ :=
  ⟨fst_u64 (rightK h), fst_gate h, fun m hm => .inl ⟨rfl, by show fstV 2 k 1 0 (5 + m) % 4 = 0; rw [fst_in h hm]; rfl⟩⟩
/-- The gate is turned. -/
theorem KpSt.turn {k : Nat} {cl : Bool} {ln kd : Nat → Int} {s : Dy} (h : KpSt k cl ln kd s) (cl' : Bool) (z : Int) (hz : z = if cl' then 1 else 0) : KpSt k cl' ln kd (s.act (CK k) 2 1 z 0) := by
  refine ⟨h.1.act (CK k) 2 1 (by unfold U64; subst hz; cases cl' <;> decide) u64_zero, ?_, fun m hm => ?_⟩
  · rw [turnK, ← hz]; exact if_pos rfl
  · rw [turnK]
    have : upd s.f 1 z (5 + m) = s.f (5 + m) := if_neg (by omega)
    rw [this]
    exact h.2.2 m hm
/-- What a mutator's step comes to. -/
def KpGo (k : Nat) (cl : Bool) (ln kd : Nat → Int) (s : Dy) (m : Nat) (lx ly sy : Int) : Prop :=
  ∃ s' v, gateS (CK k) s m (mL lx) = (s', mL ly, true) ∧ s'.f (5 + m) = v ∧ U64 v ∧ v % 4 = sy ∧ KpSt k cl (upd ln m ly) (upd kd m 11) s'
theorem KpSt.add {k : Nat} (hk : 1 ≤ k ∧ k ≤ 5) {cl : Bool} {ln kd : Nat → Int} {s : Dy} (h : KpSt k cl ln kd s) {m : Nat} (hm : m < k) (lx ly z sy : Int) (hz : U64 z)
    (hg : gateS (CK k) s m (mL lx) = (s.act (CK k) 4 (inP 2 k 1 0 m) z 0, mL ly, true)) (hs : (s.f (5 + m) + z) % 4 = sy) (hl : ∀ v, v % 4 = sy → LineIn ly 11 v) : KpGo k cl ln kd s m lx ly sy := by
  have hu := h.1.act (CK k) 4 (inP 2 k 1 0 m) hz u64_zero
  have e5 : (s.act (CK k) 4 (inP 2 k 1 0 m) z 0).f (5 + m) = sumW (s.f (5 + m)) z := by rw [actK hk hm]; exact if_pos rfl
  have e4 : sumW (s.f (5 + m)) z % 4 = sy := by unfold sumW; omega
  refine ⟨_, _, hg, e5, sumW_u64 _ _, e4, hu, ?_, fun j hj => ?_⟩
  · rw [actK hk hm]
    have : upd s.f (5 + m) (sumW (s.f (5 + m)) z) 1 = s.f 1 := if_neg (by omega)
    rw [this]; exact h.2.1
  · rw [actK hk hm]
    by_cases e : j = m
    · subst e
      rw [upd_at, upd_at, upd_at]
      exact hl _ e4
    · rw [upd_ne _ _ e, upd_ne _ _ e, upd_ne _ _ (by omega)]
      exact h.2.2 j hj
theorem KpSt.see {k : Nat} {cl : Bool} {ln kd : Nat → Int} {s : Dy} (h : KpSt k cl ln kd s) {m : Nat} (lx ly sy : Int)
    (hg : gateS (CK k) s m (mL lx) = (s.act (CK k) 1 1 0 0, mL ly, true)) (hs : s.f (5 + m) % 4 = sy) (hl : ∀ v, v % 4 = sy → LineIn ly 11 v) : KpGo k cl ln kd s m lx ly sy := by
  refine ⟨_, _, hg, rfl, ?_, ?_, h.1.act (CK k) 1 1 u64_zero u64_zero, ?_, fun j hj => ?_⟩
  · rw [lookK]; exact h.1 _
  · rw [lookK]; exact hs
  · rw [lookK]; exact h.2.1
  · rw [lookK]
    by_cases e : j = m
    · subst e
      rw [upd_at, upd_at]
      exact hl _ hs
    · rw [upd_ne _ _ e, upd_ne _ _ e]
      exact h.2.2 j hj
theorem kp_1_o {k : Nat} (hk : 1 ≤ k ∧ k ≤ 5) {ln kd : Nat → Int} {s : Dy} (h : KpSt k false ln kd s) {m : Nat} (hm : m < k) (hl : ln m = 0) : KpGo k false ln kd s m 1 2 1 := by
  have hi := h.2.2 m hm
  unfold LineIn at hi
  rw [hl] at hi
  exact h.add hk hm 1 2 1 1 (by unfold U64; omega) rfl (by omega) (fun v hv => .inr (.inl ⟨by omega, rfl, hv⟩))
theorem kp_2_o {k : Nat} (_ : 1 ≤ k ∧ k ≤ 5) {ln kd : Nat → Int} {s : Dy} (h : KpSt k false ln kd s) {m : Nat} (hm : m < k) (hl : ln m = 2) : KpGo k false ln kd s m 2 3 1 := by
  have hi := h.2.2 m hm
  unfold LineIn at hi
  rw [hl] at hi
  have hg : s.f 1 = 0 := h.2.1
  exact h.see 2 3 1 (by
    show (_, mL (if z5 (CK k).n 1 1 (s.f 1) = 0 then 3 else 4), true) = _
    rw [seeK, hg]; rfl) (by omega) (fun v hv => .inr (.inl ⟨by omega, rfl, hv⟩))
theorem kp_3_o {k : Nat} (hk : 1 ≤ k ∧ k ≤ 5) {ln kd : Nat → Int} {s : Dy} (h : KpSt k false ln kd s) {m : Nat} (hm : m < k) (hl : ln m = 3) : KpGo k false ln kd s m 3 24 2 := by
  have hi := h.2.2 m hm
  unfold LineIn at hi
  rw [hl] at hi
  exact h.add hk hm 3 24 1 2 (by unfold U64; omega) rfl (by omega) (fun v hv => .inr (.inr (.inr ⟨rfl, rfl, hv⟩)))
theorem kp_4_o {k : Nat} (hk : 1 ≤ k ∧ k ≤ 5) {ln kd : Nat → Int} {s : Dy} (h : KpSt k false ln kd s) {m : Nat} (hm : m < k) (hl : ln m = 4) : KpGo k false ln kd s m 4 5 3 := by
  have hi := h.2.2 m hm
  unfold LineIn at hi
  rw [hl] at hi
  exact h.add hk hm 4 5 2 3 (by unfold U64; omega) rfl (by omega) (fun v hv => .inr (.inr (.inl ⟨by omega, rfl, hv⟩)))
theorem kp_5_o {k : Nat} (_ : 1 ≤ k ∧ k ≤ 5) {ln kd : Nat → Int} {s : Dy} (h : KpSt k false ln kd s) {m : Nat} (hm : m < k) (hl : ln m = 5) : KpGo k false ln kd s m 5 6 3 := by
  have hi := h.2.2 m hm
  unfold LineIn at hi
  rw [hl] at hi
  have hg : s.f 1 = 0 := h.2.1
  exact h.see 5 6 3 (by
    show (_, mL (if z5 (CK k).n 1 1 (s.f 1) = 0 then 6 else 5), true) = _
    rw [seeK, hg]; rfl) (by omega) (fun v hv => .inr (.inr (.inl ⟨by omega, rfl, hv⟩)))
theorem kp_6_o {k : Nat} (hk : 1 ≤ k ∧ k ≤ 5) {ln kd : Nat → Int} {s : Dy} (h : KpSt k false ln kd s) {m : Nat} (hm : m < k) (hl : ln m = 6) : KpGo k false ln kd s m 6 24 2 := by
  have hi := h.2.2 m hm
  unfold LineIn at hi
  rw [hl] at hi
  exact h.add hk hm 6 24 3 2 (by unfold U64; omega) rfl (by omega) (fun v hv => .inr (.inr (.inr ⟨rfl, rfl, hv⟩)))
theorem kp_90_o {k : Nat} (hk : 1 ≤ k ∧ k ≤ 5) {ln kd : Nat → Int} {s : Dy} (h : KpSt k false ln kd s) {m : Nat} (hm : m < k) (hl : ln m = 24) : KpGo k false ln kd s m 90 0 0 := by
  have hi := h.2.2 m hm
  unfold LineIn at hi
  rw [hl] at hi
  exact h.add hk hm 90 0 2 0 (by unfold U64; omega) rfl (by omega) (fun v hv => .inl ⟨rfl, hv⟩)
theorem kp_1_c {k : Nat} (hk : 1 ≤ k ∧ k ≤ 5) {ln kd : Nat → Int} {s : Dy} (h : KpSt k true ln kd s) {m : Nat} (hm : m < k) (hl : ln m = 0) : KpGo k true ln kd s m 1 2 1 := by
  have hi := h.2.2 m hm
  unfold LineIn at hi
  rw [hl] at hi
  exact h.add hk hm 1 2 1 1 (by unfold U64; omega) rfl (by omega) (fun v hv => .inr (.inl ⟨by omega, rfl, hv⟩))
theorem kp_2_c {k : Nat} (_ : 1 ≤ k ∧ k ≤ 5) {ln kd : Nat → Int} {s : Dy} (h : KpSt k true ln kd s) {m : Nat} (hm : m < k) (hl : ln m = 2) : KpGo k true ln kd s m 2 4 1 := by
  have hi := h.2.2 m hm
  unfold LineIn at hi
  rw [hl] at hi
  have hg : s.f 1 = 1 := h.2.1
  exact h.see 2 4 1 (by
    show (_, mL (if z5 (CK k).n 1 1 (s.f 1) = 0 then 3 else 4), true) = _
    rw [seeK, hg]; rfl) (by omega) (fun v hv => .inr (.inl ⟨by omega, rfl, hv⟩))
theorem kp_3_c {k : Nat} (hk : 1 ≤ k ∧ k ≤ 5) {ln kd : Nat → Int} {s : Dy} (h : KpSt k true ln kd s) {m : Nat} (hm : m < k) (hl : ln m = 3) : KpGo k true ln kd s m 3 24 2 := by
  have hi := h.2.2 m hm
  unfold LineIn at hi
  rw [hl] at hi
  exact h.add hk hm 3 24 1 2 (by unfold U64; omega) rfl (by omega) (fun v hv => .inr (.inr (.inr ⟨rfl, rfl, hv⟩)))
theorem kp_4_c {k : Nat} (hk : 1 ≤ k ∧ k ≤ 5) {ln kd : Nat → Int} {s : Dy} (h : KpSt k true ln kd s) {m : Nat} (hm : m < k) (hl : ln m = 4) : KpGo k true ln kd s m 4 5 3 := by
  have hi := h.2.2 m hm
  unfold LineIn at hi
  rw [hl] at hi
  exact h.add hk hm 4 5 2 3 (by unfold U64; omega) rfl (by omega) (fun v hv => .inr (.inr (.inl ⟨by omega, rfl, hv⟩)))
theorem kp_5_c {k : Nat} (_ : 1 ≤ k ∧ k ≤ 5) {ln kd : Nat → Int} {s : Dy} (h : KpSt k true ln kd s) {m : Nat} (hm : m < k) (hl : ln m = 5) : KpGo k true ln kd s m 5 5 3 := by
  have hi := h.2.2 m hm
  unfold LineIn at hi
  rw [hl] at hi
  have hg : s.f 1 = 1 := h.2.1
  exact h.see 5 5 3 (by
    show (_, mL (if z5 (CK k).n 1 1 (s.f 1) = 0 then 6 else 5), true) = _
    rw [seeK, hg]; rfl) (by omega) (fun v hv => .inr (.inr (.inl ⟨by omega, rfl, hv⟩)))
theorem kp_6_c {k : Nat} (hk : 1 ≤ k ∧ k ≤ 5) {ln kd : Nat → Int} {s : Dy} (h : KpSt k true ln kd s) {m : Nat} (hm : m < k) (hl : ln m = 6) : KpGo k true ln kd s m 6 24 2 := by
  have hi := h.2.2 m hm
  unfold LineIn at hi
  rw [hl] at hi
  exact h.add hk hm 6 24 3 2 (by unfold U64; omega) rfl (by omega) (fun v hv => .inr (.inr (.inr ⟨rfl, rfl, hv⟩)))
theorem kp_90_c {k : Nat} (hk : 1 ≤ k ∧ k ≤ 5) {ln kd : Nat → Int} {s : Dy} (h : KpSt k true ln kd s) {m : Nat} (hm : m < k) (hl : ln m = 24) : KpGo k true ln kd s m 90 0 0 := by
  have hi := h.2.2 m hm
  unfold LineIn at hi
  rw [hl] at hi
  exact h.add hk hm 90 0 2 0 (by unfold U64; omega) rfl (by omega) (fun v hv => .inl ⟨rfl, hv⟩)
/-- The line that is done, by the line where a mutator is left. -/
def goL0 (l : Int) : Int := if l = 0 then 1 else l
def goL1 (l : Int) : Int := if l = 24 then 90 else l
/-- What the law looks at behind a step, by the line then. -/
def SaysOk (ly v : Int) : Prop := (ly = 0 ∧ v % 4 = 0) ∨ ((ly = 2 ∨ ly = 4) ∧ v % 4 = 1) ∨ (ly = 3 ∧ v % 4 = 1) ∨ ((ly = 5 ∨ ly = 6) ∧ v % 4 = 3) ∨ (ly = 24 ∧ v % 4 = 2)
/-- A mutator's step, whatever line it is on. -/
def KpStep (k : Nat) (cl : Bool) (ln kd : Nat → Int) (s : Dy) (m : Nat) : Prop :=
  ∃ ly s' v, gateS (CK k) s m (mL (goL1 (goL0 (ln m)))) = (s', mL ly, true) ∧ s'.f (5 + m) = v ∧ U64 v ∧ SaysOk ly v ∧ KpSt k cl (upd ln m ly) (upd kd m 11) s' ∧
    (cl = true → insB (goL1 (goL0 (ln m))) = false → insB ly = false) ∧ (cl = false → goL1 (goL0 (ln m)) = 5 → insB ly = true) ∧ (ln m = 0 ∨ kd m = 11)
theorem KpSt.step {k : Nat} (hk : 1 ≤ k ∧ k ≤ 5) {cl : Bool} {ln kd : Nat → Int} {s : Dy} (h : KpSt k cl ln kd s) {m : Nat} (hm : m < k) : KpStep k cl ln kd s m := by
  have hi := h.2.2 m hm
  unfold LineIn at hi
  cases cl
  · rcases hi with ⟨hl, _⟩ | ⟨hl | hl | hl, hkd, _⟩ | ⟨hl | hl, hkd, _⟩ | ⟨hl, hkd, _⟩
    · obtain ⟨s', v, hg, h5, hv, h4, hK⟩ := kp_1_o hk h hm hl
      unfold KpStep
      rw [hl]
      exact ⟨2, s', v, hg, h5, hv, .inr (.inl ⟨.inl rfl, h4⟩), hK, (fun e => absurd e (by decide)), (fun _ e => absurd e (by decide)), .inl rfl⟩
    · obtain ⟨s', v, hg, h5, hv, h4, hK⟩ := kp_2_o hk h hm hl
      unfold KpStep
      rw [hl]
      exact ⟨3, s', v, hg, h5, hv, .inr (.inr (.inl ⟨rfl, h4⟩)), hK, (fun e => absurd e (by decide)), (fun _ e => absurd e (by decide)), .inr hkd⟩
    · obtain ⟨s', v, hg, h5, hv, h4, hK⟩ := kp_3_o hk h hm hl
      unfold KpStep
      rw [hl]
      exact ⟨24, s', v, hg, h5, hv, .inr (.inr (.inr (.inr ⟨rfl, h4⟩))), hK, (fun e => absurd e (by decide)), (fun _ e => absurd e (by decide)), .inr hkd⟩
    · obtain ⟨s', v, hg, h5, hv, h4, hK⟩ := kp_4_o hk h hm hl
      unfold KpStep
      rw [hl]
      exact ⟨5, s', v, hg, h5, hv, .inr (.inr (.inr (.inl ⟨.inl rfl, h4⟩))), hK, (fun e => absurd e (by decide)), (fun _ e => absurd e (by decide)), .inr hkd⟩
    · obtain ⟨s', v, hg, h5, hv, h4, hK⟩ := kp_5_o hk h hm hl
      unfold KpStep
      rw [hl]
      exact ⟨6, s', v, hg, h5, hv, .inr (.inr (.inr (.inl ⟨.inr rfl, h4⟩))), hK, (fun e => absurd e (by decide)), (fun _ _ => rfl), .inr hkd⟩
    · obtain ⟨s', v, hg, h5, hv, h4, hK⟩ := kp_6_o hk h hm hl
      unfold KpStep
      rw [hl]
      exact ⟨24, s', v, hg, h5, hv, .inr (.inr (.inr (.inr ⟨rfl, h4⟩))), hK, (fun e => absurd e (by decide)), (fun _ e => absurd e (by decide)), .inr hkd⟩
    · obtain ⟨s', v, hg, h5, hv, h4, hK⟩ := kp_90_o hk h hm hl
      unfold KpStep
      rw [hl]
      exact ⟨0, s', v, hg, h5, hv, .inl ⟨rfl, h4⟩, hK, (fun e => absurd e (by decide)), (fun _ e => absurd e (by decide)), .inr hkd⟩
  · rcases hi with ⟨hl, _⟩ | ⟨hl | hl | hl, hkd, _⟩ | ⟨hl | hl, hkd, _⟩ | ⟨hl, hkd, _⟩
    · obtain ⟨s', v, hg, h5, hv, h4, hK⟩ := kp_1_c hk h hm hl
      unfold KpStep
      rw [hl]
      exact ⟨2, s', v, hg, h5, hv, .inr (.inl ⟨.inl rfl, h4⟩), hK, (fun _ _ => rfl), (fun e => absurd e (by decide)), .inl rfl⟩
    · obtain ⟨s', v, hg, h5, hv, h4, hK⟩ := kp_2_c hk h hm hl
      unfold KpStep
      rw [hl]
      exact ⟨4, s', v, hg, h5, hv, .inr (.inl ⟨.inr rfl, h4⟩), hK, (fun _ _ => rfl), (fun e => absurd e (by decide)), .inr hkd⟩
    · obtain ⟨s', v, hg, h5, hv, h4, hK⟩ := kp_3_c hk h hm hl
      unfold KpStep
      rw [hl]
      exact ⟨24, s', v, hg, h5, hv, .inr (.inr (.inr (.inr ⟨rfl, h4⟩))), hK, (fun _ e => absurd e (by decide)), (fun e => absurd e (by decide)), .inr hkd⟩
    · obtain ⟨s', v, hg, h5, hv, h4, hK⟩ := kp_4_c hk h hm hl
      unfold KpStep
      rw [hl]
      exact ⟨5, s', v, hg, h5, hv, .inr (.inr (.inr (.inl ⟨.inl rfl, h4⟩))), hK, (fun _ _ => rfl), (fun e => absurd e (by decide)), .inr hkd⟩
    · obtain ⟨s', v, hg, h5, hv, h4, hK⟩ := kp_5_c hk h hm hl
      unfold KpStep
      rw [hl]
      exact ⟨5, s', v, hg, h5, hv, .inr (.inr (.inr (.inl ⟨.inl rfl, h4⟩))), hK, (fun _ _ => rfl), (fun e => absurd e (by decide)), .inr hkd⟩
    · obtain ⟨s', v, hg, h5, hv, h4, hK⟩ := kp_6_c hk h hm hl
      unfold KpStep
      rw [hl]
      exact ⟨24, s', v, hg, h5, hv, .inr (.inr (.inr (.inr ⟨rfl, h4⟩))), hK, (fun _ e => absurd e (by decide)), (fun e => absurd e (by decide)), .inr hkd⟩
    · obtain ⟨s', v, hg, h5, hv, h4, hK⟩ := kp_90_c hk h hm hl
      unfold KpStep
      rw [hl]
      exact ⟨0, s', v, hg, h5, hv, .inl ⟨rfl, h4⟩, hK, (fun _ e => absurd e (by decide)), (fun e => absurd e (by decide)), .inr hkd⟩
end Go.Proofs.YtjmbahdlgnobaaaDoor
