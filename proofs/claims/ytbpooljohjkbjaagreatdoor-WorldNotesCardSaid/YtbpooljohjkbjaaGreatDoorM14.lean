/- Laid together: LispSt, LispMem, LispSet, LispLd, LispKinds, WNoteP, WBnd, WMut, WBeginP, WPickP, WPickW, WBeginQ, WBeginA. -/
import Derived.Test.YtbpooljohjkbjaaGreatDoorM6
import Derived.Test.YtbpooljohjkbjaaGreatDoorM3
import Derived.Test.YtbpooljohjkbjaaGreatDoorM8
import Derived.Test.YtbpooljohjkbjaaGreatDoorM9
import Derived.Test.YtbpooljohjkbjaaGreatDoorM10
import Derived.Test.YtbpooljohjkbjaaGreatDoorM11
import Derived.Test.YtbpooljohjkbjaaGreatDoorM12
import Derived.Test.YtbpooljohjkbjaaGreatDoorM13
import Derived.Test.YtbpooljohjkbjaaGreatDoorM7
import Derived.Test.YtbpooljohjkbjaaGreatDoorWStepD
import Derived.Test.YtbpooljohjkbjaaGreatDoorColDo
import Derived.Deep.Cut
import Derived.Test.YtbpooljohjkbjaaGreatDoorM1
import Derived.Test.YtbpooljohjkbjaaGreatDoorM4
/- The steps of layer 14's own lines. -/
namespace Go.Proofs.YtbpooljohjkbjaaGreatDoor
open Go Go.RowKit
set_option maxRecDepth 100000
end Go.Proofs.YtbpooljohjkbjaaGreatDoor
/- Memory beside the ideal store, without memory: what lies at which place, what stores and shading make of it. -/
namespace Go.Proofs.YtbpooljohjkbjaaGreatDoor
open Go Go.RowKit
set_option maxRecDepth 100000
end Go.Proofs.YtbpooljohjkbjaaGreatDoor
/- Memory that is the ideal store's, and what a store, or shading, makes of it. -/
namespace Go.Proofs.YtbpooljohjkbjaaGreatDoor
open Go Go.RowKit
set_option maxRecDepth 100000
end Go.Proofs.YtbpooljohjkbjaaGreatDoor
/- Loads and stores beside the ideal store; a fresh cell; the steps of taking it. -/
namespace Go.Proofs.YtbpooljohjkbjaaGreatDoor
open Go Go.RowKit
set_option maxRecDepth 100000
end Go.Proofs.YtbpooljohjkbjaaGreatDoor
/- An operation by itself is the ideal store's, kind by kind. -/
namespace Go.Proofs.YtbpooljohjkbjaaGreatDoor
open Go Go.RowKit
set_option maxRecDepth 100000
end Go.Proofs.YtbpooljohjkbjaaGreatDoor
/- Where the linearising step is; what is told of picks (no memory). -/
namespace Go.Proofs.YtbpooljohjkbjaaGreatDoor
open Go Go.RowKit
set_option maxRecDepth 100000
section
def NtM (ph : Bool) (x : Mu) : Prop :=
  (ph = false ∧ okK x.q1 ∧ (x.l = 1 ∨ x.l = 2 ∨ x.l = 3 ∨ x.l = 4 ∨ x.l = 5 ∨ x.l = 6 ∨ x.l = 10 ∨ x.l = 11 ∨ x.l = 12 ∨ x.l = 13 ∨ x.l = 14 ∨ x.l = 16 ∨ x.l = 17 ∨ x.l = 18 ∨ x.l = 19 ∨ x.l = 20 ∨ x.l = 21 ∨ x.l = 22 ∨ x.l = 23 ∨ x.l = 24 ∨ x.l = 30 ∨ x.l = 31 ∨ x.l = 32 ∨ x.l = 33 ∨ x.l = 34 ∨ x.l = 35 ∨ x.l = 36)) ∨
  (ph = true ∧ (x.l = 15 ∨ x.l = 37 ∨ x.l = 38 ∨ x.l = 39 ∨ x.l = 40 ∨ ((x.l = 90 ∨ x.l = 41) ∧ 1 ≤ x.rt ∧ x.rt ≤ 5) ∨ ((x.l = 80 ∨ x.l = 81) ∧ (x.bk = 37 ∨ x.bk = 39 ∨ x.bk = 40 ∨ (x.bk = 90 ∧ 1 ≤ x.rt ∧ x.rt ≤ 5)))))
theorem NtM.ne {ph : Bool} {x : Mu} (h : NtM ph x) : x.l ≠ 0 := by
  rcases h with ⟨_, _, h⟩ | ⟨_, h⟩ <;> omega
theorem NtM.shade {x : Mu} {w k : Int} (h : k = 37 ∨ k = 39 ∨ k = 40 ∨ (k = 90 ∧ 1 ≤ x.rt ∧ x.rt ≤ 5)) : NtM true (begM x w k) := by
  refine .inr ⟨rfl, ?_⟩
  unfold begM begL begB
  dsimp only
  split <;> omega
theorem firstL_ok {k : Int} (h : okK k) : firstL k = 10 ∨ firstL k = 11 ∨ firstL k = 30 ∨ firstL k = 13 ∨ firstL k = 16 ∨ firstL k = 19 ∨ firstL k = 20 ∨ firstL k = 22 ∨ firstL k = 24 := by
  unfold okK at h
  unfold firstL
  repeat' split
  all_goals omega
end
section
structure NtN (ph : Bool) (r : Dy × Mu × Bool × Bool) : Prop where
  lin : r.2.2.1 = true → ph = false ∧ r.2.2.2 = false
  done : r.2.2.2 = true → ph = true ∧ r.2.1.l = 0 ∧ 1 ≤ r.2.1.rt ∧ r.2.1.rt ≤ 5
  more : r.2.2.2 = false → NtM (ph || r.2.2.1) r.2.1
theorem lispS_gate {C : Cf} {s : Dy} {m : Int} {x : Mu} (h : isGate x.l = true) : lispS C s m x = ((gateS C s.clr m x).1, (gateS C s.clr m x).2.1, false, (gateS C s.clr m x).2.1.l == 0) := by
  unfold lispS; rw [if_pos h]
theorem lispS_tick {C : Cf} {s : Dy} {m : Int} {x : Mu} (h0 : isGate x.l = false) (h : isTick x.l = true) : lispS C s m x = ((tickS C s.clr x).1, (tickS C s.clr x).2.1, false, false) := by
  unfold lispS; rw [h0, h]; rfl
theorem lispS_pop {C : Cf} {s : Dy} {m : Int} {x : Mu} (h0 : isGate x.l = false) (h1 : isTick x.l = false) (h : isPop x.l = true) : lispS C s m x = ((popS C s.clr x).1, (popS C s.clr x).2.1, (popS C s.clr x).2.2.1, false) := by
  unfold lispS; rw [h0, h1, h]; rfl
theorem lispS_bar {C : Cf} {s : Dy} {m : Int} {x : Mu} (h0 : isGate x.l = false) (h1 : isTick x.l = false) (h2 : isPop x.l = false) (h : isBar x.l = true) : lispS C s m x = ((barS C s.clr x).1, (barS C s.clr x).2.1, false, (barS C s.clr x).2.1.l == 0) := by
  unfold lispS; rw [h0, h1, h2, h]; rfl
theorem lispS_own {C : Cf} {s : Dy} {m : Int} {x : Mu} (h0 : isGate x.l = false) (h1 : isTick x.l = false) (h2 : isPop x.l = false) (h : isBar x.l = false) : lispS C s m x = ownS C s.clr m x := by
  unfold lispS; rw [h0, h1, h2, h]; rfl
section
variable {C : Cf} {s : Dy} {m : Int} {x : Mu} {ph : Bool}
theorem nt_gate (h : isGate x.l = true) {y : Mu} (e : (gateS C s.clr m x).2.1 = y) (hl : NtM ph y) : NtN ph (lispS C s m x) := by
  rw [lispS_gate h, e]
  have hd : (y.l == 0) = false := by simpa using hl.ne
  rw [hd]
  exact ⟨fun e => absurd e (by simp), fun e => absurd e (by simp), fun _ => by simpa using hl⟩
theorem nt_tick (h0 : isGate x.l = false) (h : isTick x.l = true) {y : Mu} (e : (tickS C s.clr x).2.1 = y) (hl : NtM ph y) : NtN ph (lispS C s m x) := by
  rw [lispS_tick h0 h, e]
  exact ⟨fun e => absurd e (by simp), fun e => absurd e (by simp), fun _ => by simpa using hl⟩
theorem nt_pop (h0 : isGate x.l = false) (h1 : isTick x.l = false) (h : isPop x.l = true) {y : Mu} {b : Bool} (e : (popS C s.clr x).2.1 = y) (e2 : (popS C s.clr x).2.2.1 = b) (hb : b = true → ph = false) (hl : NtM (ph || b) y) : NtN ph (lispS C s m x) := by
  rw [lispS_pop h0 h1 h, e, e2]
  exact ⟨fun e => ⟨hb e, rfl⟩, fun e => absurd e (by simp), fun _ => hl⟩
theorem nt_bar (h0 : isGate x.l = false) (h1 : isTick x.l = false) (h2 : isPop x.l = false) (h : isBar x.l = true) {y : Mu} (e : (barS C s.clr x).2.1 = y) (hl : NtM ph y) : NtN ph (lispS C s m x) := by
  rw [lispS_bar h0 h1 h2 h, e]
  have hd : (y.l == 0) = false := by simpa using hl.ne
  rw [hd]
  exact ⟨fun e => absurd e (by simp), fun e => absurd e (by simp), fun _ => by simpa using hl⟩
theorem nt_own (h0 : isGate x.l = false) (h1 : isTick x.l = false) (h2 : isPop x.l = false) (h : isBar x.l = false) {y : Mu} {b : Bool} (e : (ownS C s.clr m x).2.1 = y) (e2 : (ownS C s.clr m x).2.2.1 = b) (e3 : (ownS C s.clr m x).2.2.2 = false) (hb : b = true → ph = false) (hl : NtM (ph || b) y) : NtN ph (lispS C s m x) := by
  rw [lispS_own h0 h1 h2 h]
  exact ⟨fun e => ⟨hb (e2.symm.trans e), e3⟩, fun e => absurd (e3.symm.trans e) (by simp), fun _ => by rw [e2, e]; exact hl⟩
end
theorem ntA {l q1 q2 q3 q4 m1 m2 m3 m4 m5 p bk rt : Int} (hk : okK q1) (h : (l = 1 ∨ l = 2 ∨ l = 3 ∨ l = 4 ∨ l = 5 ∨ l = 6 ∨ l = 10 ∨ l = 11 ∨ l = 12 ∨ l = 13 ∨ l = 14 ∨ l = 16 ∨ l = 17 ∨ l = 18 ∨ l = 19 ∨ l = 20 ∨ l = 21 ∨ l = 22 ∨ l = 23 ∨ l = 24 ∨ l = 30 ∨ l = 31 ∨ l = 32 ∨ l = 33 ∨ l = 34 ∨ l = 35 ∨ l = 36)) : NtM false ⟨l, q1, q2, q3, q4, m1, m2, m3, m4, m5, p, bk, rt⟩ := .inl ⟨rfl, hk, h⟩
theorem ntB {l q1 q2 q3 q4 m1 m2 m3 m4 m5 p bk rt : Int} (h : l = 15 ∨ l = 37 ∨ l = 38 ∨ l = 39 ∨ l = 40 ∨ ((l = 90 ∨ l = 41) ∧ 1 ≤ rt ∧ rt ≤ 5)) : NtM true ⟨l, q1, q2, q3, q4, m1, m2, m3, m4, m5, p, bk, rt⟩ := .inr ⟨rfl, by dsimp only; omega⟩
set_option maxHeartbeats 6400000 in
theorem nt_step {C : Cf} {s : Dy} {m : Int} {ph : Bool} {x : Mu} (h : NtM ph x) : NtN ph (lispS C s m x) := by
  obtain ⟨l, q1, q2, q3, q4, m1, m2, m3, m4, m5, p, bk, rt⟩ := x
  rcases h with ⟨rfl, hk, h⟩ | ⟨rfl, h⟩
  · dsimp only at hk h
    have hf := firstL_ok hk
    rcases h with rfl | rfl | rfl | rfl | rfl | rfl | rfl | rfl | rfl | rfl | rfl | rfl | rfl | rfl | rfl | rfl | rfl | rfl | rfl | rfl | rfl | rfl | rfl | rfl | rfl | rfl | rfl
    · exact nt_gate rfl rfl (ntA hk (by omega))
    · exact nt_gate rfl rfl (ntA hk (by split <;> omega))
    · exact nt_gate rfl rfl (ntA hk (by dsimp only; omega))
    · exact nt_gate rfl rfl (ntA hk (by omega))
    · exact nt_gate rfl rfl (ntA hk (by split <;> omega))
    · exact nt_gate rfl rfl (ntA hk (by dsimp only; omega))
    · exact nt_own (b := true) rfl rfl rfl rfl rfl rfl rfl (fun _ => rfl) (ntB (by omega))
    · exact nt_own (b := false) rfl rfl rfl rfl rfl rfl rfl (fun _ => rfl) (ntA hk (by omega))
    · exact nt_own (b := true) rfl rfl rfl rfl rfl rfl rfl (fun _ => rfl) (NtM.shade (by dsimp only; omega))
    · by_cases hc : isC (ldP C s.clr (regP C.a C.b C.c C.d m q3)).toNat
      · exact nt_own (b := false) rfl rfl rfl rfl (if_pos hc) (by show (!decide _) = false; rw [decide_eq_true hc]; rfl) rfl (fun _ => rfl) (ntA hk (by omega))
      · exact nt_own (b := true) rfl rfl rfl rfl (if_neg hc) (by show (!decide _) = true; rw [decide_eq_false hc]; rfl) rfl (fun _ => rfl) (ntB (by omega))
    · exact nt_own (b := true) rfl rfl rfl rfl rfl rfl rfl (fun _ => rfl) (ntB (by omega))
    · by_cases hc : isC (ldP C s.clr (regP C.a C.b C.c C.d m q2)).toNat
      · exact nt_own (b := false) rfl rfl rfl rfl (if_pos hc) (by show (!decide _) = false; rw [decide_eq_true hc]; rfl) rfl (fun _ => rfl) (ntA hk (by omega))
      · exact nt_own (b := true) rfl rfl rfl rfl (if_neg hc) (by show (!decide _) = true; rw [decide_eq_false hc]; rfl) rfl (fun _ => rfl) (ntB (by omega))
    · exact nt_own (b := false) rfl rfl rfl rfl rfl rfl rfl (fun _ => rfl) (ntA hk (by omega))
    · exact nt_own (b := true) rfl rfl rfl rfl rfl rfl rfl (fun _ => rfl) (NtM.shade (by dsimp only; omega))
    · exact nt_own (b := true) rfl rfl rfl rfl rfl rfl rfl (fun _ => rfl) (ntB (by omega))
    · exact nt_own (b := false) rfl rfl rfl rfl rfl rfl rfl (fun _ => rfl) (ntA hk (by omega))
    · exact nt_own (b := true) rfl rfl rfl rfl rfl rfl rfl (fun _ => rfl) (NtM.shade (by dsimp only; omega))
    · exact nt_own (b := false) rfl rfl rfl rfl rfl rfl rfl (fun _ => rfl) (ntA hk (by omega))
    · exact nt_own (b := true) rfl rfl rfl rfl rfl rfl rfl (fun _ => rfl) (ntB (by dsimp only; split <;> omega))
    · exact nt_own (b := true) rfl rfl rfl rfl rfl rfl rfl (fun _ => rfl) (ntB (by dsimp only; split <;> omega))
    · exact nt_own (b := false) rfl rfl rfl rfl rfl rfl rfl (fun _ => rfl) (ntA hk (by omega))
    · exact nt_own (b := false) rfl rfl rfl rfl rfl rfl rfl (fun _ => rfl) (ntA hk (by omega))
    · exact nt_tick rfl rfl rfl (ntA hk (by omega))
    · by_cases hc : z5 C.n 1 4 (s.clr.f 4) = m5
      · exact nt_tick rfl rfl (if_pos hc) (ntA hk (by omega))
      · exact nt_tick rfl rfl (if_neg hc) (ntA hk (by omega))
    · exact nt_pop (b := false) rfl rfl rfl rfl rfl (fun _ => rfl) (ntA hk (by omega))
    · by_cases hc : isC (popN C s.clr ⟨35, q1, q2, q3, q4, m1, m2, m3, m4, m5, p, bk, rt⟩).toNat
      · exact nt_pop (b := false) rfl rfl rfl (if_pos hc) (by show (!decide _) = false; rw [decide_eq_true hc]; rfl) (fun _ => rfl) (ntA hk (by omega))
      · exact nt_pop (b := true) rfl rfl rfl (if_neg hc) (by show (!decide _) = true; rw [decide_eq_false hc]; rfl) (fun _ => rfl) (ntB (by omega))
    · exact nt_pop (b := true) rfl rfl rfl rfl rfl (fun _ => rfl) (NtM.shade (x := ⟨36, q1, q2, q3, q4, m1, m2, m3, m4, m5, p, bk, rt⟩) (w := m4) (k := 37) (by omega))
  · dsimp only at h
    rcases h with rfl | rfl | rfl | rfl | rfl | ⟨rfl | rfl, hr⟩ | ⟨rfl | rfl, hb⟩
    · exact nt_own (b := false) rfl rfl rfl rfl rfl rfl rfl (fun e => absurd e (by simp)) (NtM.shade (by dsimp only; omega))
    · exact nt_tick rfl rfl rfl (ntB (by omega))
    · exact nt_own (b := false) rfl rfl rfl rfl rfl rfl rfl (fun e => absurd e (by simp)) (NtM.shade (by dsimp only; omega))
    · exact nt_own (b := false) rfl rfl rfl rfl rfl rfl rfl (fun e => absurd e (by simp)) (NtM.shade (by dsimp only; omega))
    · exact nt_own (b := false) rfl rfl rfl rfl rfl rfl rfl (fun e => absurd e (by simp)) (NtM.shade (by dsimp only; omega))
    · rw [lispS_gate rfl]
      exact ⟨fun e => absurd e (by simp), fun _ => ⟨rfl, rfl, hr⟩, fun e => absurd (show true = false from e) (by simp)⟩
    · exact nt_tick rfl rfl rfl (ntB (by dsimp only at hr ⊢; omega))
    · by_cases hc : casB C.n s.clr.f (fieldP C.a C.b C.c C.d p.toNat 2) 0
      · exact nt_bar rfl rfl rfl rfl (if_pos hc) (.inr ⟨rfl, by dsimp only; omega⟩)
      · exact nt_bar rfl rfl rfl rfl (if_neg hc) (.inr ⟨rfl, by dsimp only; omega⟩)
    · exact nt_bar (y := ⟨bk, q1, q2, q3, q4, m1, m2, m3, m4, m5, 0, 0, rt⟩) rfl rfl rfl rfl rfl (.inr ⟨rfl, by dsimp only; omega⟩)
end
section
abbrev Sg := (Nat → Nat) × (Nat → Nat)
def chk (b : Int) (pr : Nat → List Opn) (σ : Sg) (x : Nt) : Option Sg :=
  if x.p = b then (if 4 ≤ x.wh then some σ else none)
  else if x.p < 0 ∨ b < x.p ∨ 4 ≤ x.wh then none
  else if (pr x.p.toNat)[σ.1 x.p.toNat]? = some ⟨x.k, x.x, x.y, x.z⟩ then
    (if x.wh = 1 ∧ σ.2 x.p.toNat = 0 then some (σ.1, upn σ.2 x.p.toNat 1)
    else if x.wh = 2 ∧ σ.2 x.p.toNat = 1 then some (σ.1, upn σ.2 x.p.toNat 2)
    else if x.wh = 3 ∧ (σ.2 x.p.toNat = 2 ∧ 1 ≤ x.n ∧ x.n ≤ 5 ∨ σ.2 x.p.toNat = 1 ∧ x.n = 6) then some (upn σ.1 x.p.toNat (σ.1 x.p.toNat + 1), upn σ.2 x.p.toNat 0)
    else none)
  else none
def chks (b : Int) (pr : Nat → List Opn) : Sg → List Nt → Option Sg
  | σ, [] => some σ
  | σ, x :: l => (chk b pr σ x).bind fun σ' => chks b pr σ' l
theorem chks_app {b : Int} {pr : Nat → List Opn} {l l' : List Nt} {σ σ1 σ2 : Sg} (h : chks b pr σ l = some σ1) (h' : chks b pr σ1 l' = some σ2) : chks b pr σ (l ++ l') = some σ2 := by
  induction l generalizing σ with
  | nil => cases h; exact h'
  | cons x l ih =>
    rw [List.cons_append]
    unfold chks at h ⊢
    cases e : chk b pr σ x with
    | none => rw [e] at h; cases h
    | some σ' => rw [e] at h; exact ih h
def WiM (pr : List Opn) (x : Mu) (lf : List Opn) (a s : Nat) : Prop :=
  (x.l = 0 ∧ s = 0 ∧ lf = pr.drop a) ∨ (∃ ph, NtM ph x ∧ s = (if ph then 2 else 1) ∧ pr[a]? = some x.op ∧ lf = pr.drop (a + 1))
def WI (b : Int) (pr : Nat → List Opn) (S : Ws) (σ : Sg) : Prop := ∀ m : Nat, (m : Int) < b → WiM (pr m) (S.mu m) (S.lf m) (σ.1 m) (σ.2 m)
theorem lisp_op {C : Cf} {s : Dy} (m : Int) (x : Mu) : (lispS C s m x).2.1.op = x.op := by
  obtain ⟨h1, h2, h3, h4⟩ := lispS_q (C := C) (s := s) m x
  unfold Mu.op; rw [h1, h2, h3, h4]
theorem chk_mut {b : Int} {pr : Nat → List Opn} {σ : Sg} {m : Nat} (hm : (m : Int) < b) {o : Opn} {wh n : Int} (hw : ¬ 4 ≤ wh) (ho : (pr m)[σ.1 m]? = some o) :
    chk b pr σ (ntOp m wh o n) = (if wh = 1 ∧ σ.2 m = 0 then some (σ.1, upn σ.2 m 1)
    else if wh = 2 ∧ σ.2 m = 1 then some (σ.1, upn σ.2 m 2)
    else if wh = 3 ∧ (σ.2 m = 2 ∧ 1 ≤ n ∧ n ≤ 5 ∨ σ.2 m = 1 ∧ n = 6) then some (upn σ.1 m (σ.1 m + 1), upn σ.2 m 0)
    else none) := by
  unfold chk ntOp
  dsimp only
  rw [if_neg (by omega), if_neg (by omega), Int.toNat_natCast, if_pos ho]
theorem goM_chk {C : Cf} {S : Ws} {m : Nat} (hm : (m : Int) < C.b) {pr : Nat → List Opn} {σ : Sg} (hI : ∀ k : Nat, k ≠ m → (k : Int) < C.b → WiM (pr k) (S.mu k) (S.lf k) (σ.1 k) (σ.2 k))
    {x : Mu} {ph : Bool} (hx : NtM ph x) (hs : σ.2 m = (if ph then 2 else 1)) (ho : (pr m)[σ.1 m]? = some x.op) (hl : S.lf m = (pr m).drop (σ.1 m + 1)) :
    ∃ σ', chks C.b pr σ (mutNts m x.op (lispS C (Dy.of S.f) m x).2.1 (lispS C (Dy.of S.f) m x).2.2.1 (lispS C (Dy.of S.f) m x).2.2.2) = some σ' ∧
      WI C.b pr (⟨(lispS C (Dy.of S.f) m x).1.f, upn S.mu m (if (lispS C (Dy.of S.f) m x).2.2.2 then Mu.zero else (lispS C (Dy.of S.f) m x).2.1), S.lf, S.x⟩) σ' := by
  have hN := nt_step (C := C) (s := Dy.of S.f) (m := m) hx
  have hop := lisp_op (C := C) (s := Dy.of S.f) m x
  generalize lispS C (Dy.of S.f) m x = r at *
  obtain ⟨s', x', lin, done⟩ := r
  have h1 := hN.lin; have h2 := hN.done; have h3 := hN.more
  dsimp only at h1 h2 h3 hop ⊢
  have key : ∀ (σ' : Sg) (y : Mu), (∀ k, k ≠ m → σ'.1 k = σ.1 k ∧ σ'.2 k = σ.2 k) → WiM (pr m) y (S.lf m) (σ'.1 m) (σ'.2 m) → WI C.b pr ⟨s'.f, upn S.mu m y, S.lf, S.x⟩ σ' := by
    intro σ' y he hy k hk
    dsimp only
    by_cases e : k = m
    · subst e; rw [upn_at]; exact hy
    · rw [upn_ne _ _ e, (he k e).1, (he k e).2]; exact hI k e hk
  cases lin with
  | true =>
    obtain ⟨rfl, hd⟩ := h1 rfl
    subst hd
    have h3 := h3 rfl
    refine ⟨(σ.1, upn σ.2 m 2), ?_, key _ _ (fun k e => ⟨rfl, upn_ne _ _ e⟩) (.inr ⟨true, h3, upn_at _ _ _, show (pr m)[σ.1 m]? = some x'.op by rw [hop]; exact ho, hl⟩)⟩
    show (chk C.b pr σ (ntOp m 2 x.op (if x'.rt = 5 then 5 else 0))).bind _ = _
    rw [chk_mut hm (by omega) ho, if_neg (by omega), if_pos ⟨rfl, hs⟩]
    rfl
  | false =>
    cases done with
    | true =>
      obtain ⟨rfl, hz, hr⟩ := h2 rfl
      refine ⟨(upn σ.1 m (σ.1 m + 1), upn σ.2 m 0), ?_, key _ _ (fun k e => ⟨upn_ne _ _ e, upn_ne _ _ e⟩) (.inl ⟨rfl, upn_at _ _ _, show S.lf m = (pr m).drop (upn σ.1 m (σ.1 m + 1) m) by rw [upn_at]; exact hl⟩)⟩
      show (chk C.b pr σ (ntOp m 3 x.op x'.rt)).bind _ = _
      rw [chk_mut hm (by omega) ho, if_neg (by omega), if_neg (by omega), if_pos ⟨rfl, .inl ⟨hs, hr⟩⟩]
      rfl
    | false =>
      have h3 := h3 rfl
      rw [Bool.or_false] at h3
      refine ⟨σ, rfl, key _ _ (fun k e => ⟨rfl, rfl⟩) (.inr ⟨ph, h3, hs, show (pr m)[σ.1 m]? = some x'.op by rw [hop]; exact ho, hl⟩)⟩
theorem check_okK {a b c d k x y z : Int} (h : checkF a b c d k x y z = 0) : okK k := by
  unfold checkF at h
  by_cases h1 : Right a b c d
  · rw [if_pos h1] at h
    by_cases h2 : okK k
    · exact h2
    · rw [if_neg h2] at h; omega
  · rw [if_neg h1] at h; omega
theorem WI.ofM {C : Cf} {pr : Nat → List Opn} {S : Ws} {σ : Sg} (h : WI C.b pr S σ) (m : Nat) : ∀ k : Nat, k ≠ m → (k : Int) < C.b → WiM (pr k) (S.mu k) (S.lf k) (σ.1 k) (σ.2 k) := fun k _ hk => h k hk
theorem mut_chk {C : Cf} {S : Ws} {m : Nat} (hm : (m : Int) < C.b) {pr : Nat → List Opn} {σ : Sg} (hI : WI C.b pr S σ) :
    ∃ σ', chks C.b pr σ (mutPk C S m).2.nts = some σ' ∧ WI C.b pr (mutPk C S m).1 σ' := by
  unfold mutPk
  rcases hI m hm with ⟨h0, hs, hl⟩ | ⟨ph, hx, hs, ho, hl⟩
  · rw [if_neg (by omega)]
    cases e : S.lf m with
    | nil => exact ⟨σ, rfl, hI⟩
    | cons o l =>
      rw [hl] at e
      have ho : (pr m)[σ.1 m]? = some o := by
        have := congrArg (fun q => q[0]?) e
        simpa using this
      have hd : l = (pr m).drop (σ.1 m + 1) := by
        have := congrArg List.tail e
        rw [List.tail_drop] at this
        exact this.symm
      have hI' : ∀ (σ' : Sg) (k : Nat), (∀ k, k ≠ m → σ'.1 k = σ.1 k ∧ σ'.2 k = σ.2 k) → k ≠ m → (k : Int) < C.b → WiM (pr k) (S.mu k) (upn S.lf m l k) (σ'.1 k) (σ'.2 k) := by
        intro σ' k he ek hk
        rw [upn_ne _ _ ek, (he k ek).1, (he k ek).2]; exact hI k hk
      have c1 : chk C.b pr σ (ntOp m 1 o 0) = some (σ.1, upn σ.2 m 1) := by rw [chk_mut hm (by omega) ho, if_pos ⟨rfl, hs⟩]
      dsimp only
      cases hr : rightO C o with
      | true =>
        rw [if_pos rfl]
        have hk : okK o.k := check_okK (by unfold rightO at hr; simpa using hr)
        obtain ⟨σ', h1, h2⟩ := goM_chk (C := C) (S := { S with lf := upn S.lf m l }) hm (σ := (σ.1, upn σ.2 m 1)) (pr := pr) (fun k ek hk => hI' (σ.1, upn σ.2 m 1) k (fun k e => ⟨rfl, upn_ne _ _ e⟩) ek hk) (x := o.mu) (ph := false) (.inl ⟨rfl, hk, .inl rfl⟩) (upn_at _ _ _) ho (by dsimp only; rw [upn_at]; exact hd)
        refine ⟨σ', ?_, h2⟩
        have e1 : chks C.b pr σ [ntOp m 1 o 0] = some (σ.1, upn σ.2 m 1) := by unfold chks; rw [c1]; rfl
        exact chks_app e1 h1
      | false =>
        rw [if_neg (by simp)]
        refine ⟨(upn σ.1 m (σ.1 m + 1), upn (upn σ.2 m 1) m 0), ?_, fun k hk => ?_⟩
        · have e1 : chks C.b pr σ [ntOp m 1 o 0] = some (σ.1, upn σ.2 m 1) := by unfold chks; rw [c1]; rfl
          have e2 : chks C.b pr (σ.1, upn σ.2 m 1) [ntOp m 3 o 6] = some (upn σ.1 m (σ.1 m + 1), upn (upn σ.2 m 1) m 0) := by
            unfold chks
            rw [chk_mut hm (by omega) (σ := (σ.1, upn σ.2 m 1)) ho, if_neg (by omega), if_neg (by omega), if_pos ⟨rfl, .inr ⟨upn_at _ _ _, rfl⟩⟩]
            rfl
          exact chks_app e1 e2
        · dsimp only
          by_cases ek : k = m
          · subst ek; rw [upn_at, upn_at, upn_at]; exact .inl ⟨h0, rfl, hd⟩
          · rw [upn_ne _ _ ek, upn_ne _ _ ek, upn_ne _ _ ek, upn_ne _ _ ek]; exact hI k hk
  · rw [if_pos hx.ne]
    obtain ⟨σ', h1, h2⟩ := goM_chk hm (WI.ofM hI m) hx hs ho hl
    exact ⟨σ', h1, h2⟩
theorem col_chk {C : Cf} {S : Ws} {pr : Nat → List Opn} {σ : Sg} (hI : WI C.b pr S σ) :
    ∃ σ', chks C.b pr σ (colPk C S).2.nts = some σ' ∧ WI C.b pr (colPk C S).1 σ' := by
  refine ⟨σ, ?_, fun m hm => hI m hm⟩
  have hc : ∀ (wh n : Int), 4 ≤ wh → ∀ l, chks C.b pr σ (⟨C.b, wh, 0, 0, 0, 0, n⟩ :: l) = chks C.b pr σ l := by
    intro wh n hw l
    show (chk C.b pr σ ⟨C.b, wh, 0, 0, 0, 0, n⟩).bind _ = _
    unfold chk; dsimp only; rw [if_pos rfl, if_pos hw]; rfl
  unfold colPk Ev.of colNts
  dsimp only
  repeat' split
  all_goals simp only [List.nil_append, List.append_nil, List.cons_append]
  all_goals first | rfl | (rw [hc _ _ (by omega)]; rfl) | (rw [hc _ _ (by omega), hc _ _ (by omega)]; rfl) | (rw [hc _ _ (by omega), hc _ _ (by omega), hc _ _ (by omega)]; rfl)
theorem pick_chk {C : Cf} {S : Ws} {pr : Nat → List Opn} {σ : Sg} (hI : WI C.b pr S σ) (p : Int) :
    ∃ σ', chks C.b pr σ (pickS C S p).2.nts = some σ' ∧ WI C.b pr (pickS C S p).1 σ' := by
  unfold pickS
  split
  · exact ⟨σ, rfl, hI⟩
  · split
    · exact col_chk hI
    · exact mut_chk (by omega) hI
theorem run_chk {C : Cf} {pr : Nat → List Opn} (l : List Int) : ∀ {S : Ws} {σ : Sg}, WI C.b pr S σ → ∃ σ', chks C.b pr σ (runS C S l).2 = some σ' ∧ WI C.b pr (runS C S l).1 σ' := by
  induction l with
  | nil => intro S σ h; exact ⟨σ, rfl, h⟩
  | cons p l ih =>
    intro S σ h
    obtain ⟨σ1, h1, h2⟩ := pick_chk h p
    obtain ⟨σ2, h3, h4⟩ := ih h2
    exact ⟨σ2, chks_app h1 h3, h4⟩
theorem WI.busy {b : Int} {pr : Nat → List Opn} {S : Ws} {σ : Sg} (h : WI b pr S σ) {m : Nat} (hm : (m : Int) < b) : (S.mu m).l = 0 ↔ σ.2 m = 0 := by
  rcases h m hm with ⟨h0, hs, _⟩ | ⟨ph, hx, hs, _⟩
  · exact ⟨fun _ => hs, fun _ => h0⟩
  · exact ⟨fun e => absurd e hx.ne, fun e => by rw [hs] at e; cases ph <;> simp at e⟩
end
end Go.Proofs.YtbpooljohjkbjaaGreatDoor
/- The access of each pick; bounds behind any picks (no memory). -/
namespace Go.Proofs.YtbpooljohjkbjaaGreatDoor
open Go Go.RowKit
set_option maxRecDepth 100000
section
def iI (x : Int) : Prop := -9223372036854775808 ≤ x ∧ x ≤ 9223372036854775807
def Opn.B (o : Opn) : Prop := iI o.k ∧ iI o.x ∧ iI o.y ∧ iI o.z
structure MuB (x : Mu) : Prop where
  u : x.U
  op : x.op.B
  l : 0 ≤ x.l ∧ x.l ≤ 90
  bk : 0 ≤ x.bk ∧ x.bk ≤ 90
  rt : 0 ≤ x.rt ∧ x.rt ≤ 5
theorem begL_B (v : Nat) {k : Int} (h : 0 ≤ k ∧ k ≤ 90) : 0 ≤ begL v k ∧ begL v k ≤ 90 := by unfold begL; split <;> omega
theorem begB_B (v : Nat) {k : Int} (h : 0 ≤ k ∧ k ≤ 90) : 0 ≤ begB v k ∧ begB v k ≤ 90 := by unfold begB; split <;> omega
theorem firstL_B (k : Int) : 0 ≤ firstL k ∧ firstL k ≤ 90 := by
  unfold firstL
  repeat' split
  all_goals omega
theorem Opn.mu_B {o : Opn} (h : o.B) : MuB o.mu := ⟨⟨u64_zero, u64_zero, u64_zero, u64_zero, u64_zero, u64_zero⟩, h, by simp [Opn.mu], by simp [Opn.mu], by simp [Opn.mu]⟩
theorem Mu.zero_B : MuB Mu.zero := ⟨⟨u64_zero, u64_zero, u64_zero, u64_zero, u64_zero, u64_zero⟩, ⟨by unfold iI; simp [Mu.op, Mu.zero], by unfold iI; simp [Mu.op, Mu.zero], by unfold iI; simp [Mu.op, Mu.zero], by unfold iI; simp [Mu.op, Mu.zero]⟩, by simp [Mu.zero], by simp [Mu.zero], by simp [Mu.zero]⟩
def LBR (x : Mu) : Prop := (0 ≤ x.l ∧ x.l ≤ 90) ∧ (0 ≤ x.bk ∧ x.bk ≤ 90) ∧ (0 ≤ x.rt ∧ x.rt ≤ 5)
theorem ite_lbr {α : Type} {p : Prop} [Decidable p] {a b : Dy × Mu × α} (h1 : LBR a.2.1) (h2 : LBR b.2.1) : LBR (if p then a else b).2.1 := by split <;> assumption
theorem ite_lb2 {p : Prop} [Decidable p] {a b : Mu} (h1 : LBR a) (h2 : LBR b) : LBR (if p then a else b) := by split <;> assumption
theorem lbr_mk {l q1 q2 q3 q4 m1 m2 m3 m4 m5 p bk rt : Int} (h1 : 0 ≤ l ∧ l ≤ 90) (h2 : 0 ≤ bk ∧ bk ≤ 90) (h3 : 0 ≤ rt ∧ rt ≤ 5) : LBR ⟨l, q1, q2, q3, q4, m1, m2, m3, m4, m5, p, bk, rt⟩ := ⟨h1, h2, h3⟩
theorem ite_b {p : Prop} [Decidable p] {a b n : Int} (h1 : 0 ≤ a ∧ a ≤ n) (h2 : 0 ≤ b ∧ b ≤ n) : 0 ≤ (if p then a else b) ∧ (if p then a else b) ≤ n := by split <;> assumption
theorem lbr_beg {x : Mu} {v k : Int} (hk : 0 ≤ k ∧ k ≤ 90) (h3 : 0 ≤ x.rt ∧ x.rt ≤ 5) : LBR (begM x v k) := ⟨begL_B _ hk, begB_B _ hk, h3⟩
theorem lisp_lbr {C : Cf} {s : Dy} {m : Int} {x : Mu} (h : LBR x) : LBR (lispS C s m x).2.1 := by
  have hl := h.1; have hb := h.2.1; have hr := h.2.2
  unfold lispS
  split
  · unfold gateS
    repeat' first | exact h | apply ite_lbr | apply ite_lb2 | (refine lbr_mk ?_ ?_ ?_) | exact firstL_B _ | exact hb | exact hr | apply ite_b | omega
  split
  · unfold tickS
    repeat' first | exact h | apply ite_lbr | apply ite_lb2 | (refine lbr_mk ?_ ?_ ?_) | exact hb | exact hr | apply ite_b | omega
  split
  · unfold popS
    repeat' first | exact h | apply ite_lbr | apply ite_lb2 | (refine lbr_mk ?_ ?_ ?_) | exact begL_B _ (by omega) | exact begB_B _ (by omega) | exact hb | exact hr | apply ite_b | omega
  split
  · unfold barS
    repeat' first | exact h | apply ite_lbr | apply ite_lb2 | (refine lbr_mk ?_ ?_ ?_) | exact hb | exact hr | apply ite_b | omega
  · unfold ownS
    repeat' first | exact h | apply ite_lbr | apply ite_lb2 | exact lbr_beg (by omega) hr | exact lbr_beg (by omega) (by dsimp only; omega) | (refine lbr_mk ?_ ?_ ?_) | exact hb | exact hr | apply ite_b | omega
theorem lisp_B {C : Cf} {s : Dy} (hs : s.U) (m : Int) {x : Mu} (h : MuB x) : (lispS C s m x).1.U ∧ MuB (lispS C s m x).2.1 := by
  obtain ⟨hu, hx⟩ := lispS_U (C := C) hs m h.u h.op.2.2.1.2
  obtain ⟨h1, h2, h3⟩ := lisp_lbr (C := C) (s := s) (m := m) (x := x) ⟨h.l, h.bk, h.rt⟩
  exact ⟨hu, hx, by rw [lisp_op]; exact h.op, h1, h2, h3⟩
def CoN (N : Int) (x : Co) : Prop := (0 ≤ x.j ∧ x.j ≤ N) ∧ (0 ≤ x.c ∧ x.c ≤ N) ∧ (0 ≤ x.m ∧ x.m ≤ N) ∧ (0 ≤ x.cy ∧ x.cy ≤ N)
theorem CoN.mono {N N' : Int} {x : Co} (h : CoN N x) (hn : N ≤ N') : CoN N' x := by unfold CoN at *; omega
theorem CoN.mk {N l j c m a p : Int} {fd : Bool} {tl cy : Int} (h1 : 0 ≤ j ∧ j ≤ N) (h2 : 0 ≤ c ∧ c ≤ N) (h3 : 0 ≤ m ∧ m ≤ N) (h4 : 0 ≤ cy ∧ cy ≤ N) : CoN N ⟨l, j, c, m, a, p, fd, tl, cy⟩ := ⟨h1, h2, h3, h4⟩
theorem ite_con {α : Type} {N : Int} {p : Prop} [Decidable p] {a b : Dy × Co × α} (h1 : CoN N a.2.1) (h2 : CoN N b.2.1) : CoN N (if p then a else b).2.1 := by split <;> assumption
theorem ite_co2 {N : Int} {p : Prop} [Decidable p] {a b : Co} (h1 : CoN N a) (h2 : CoN N b) : CoN N (if p then a else b) := by split <;> assumption
section
variable {C : Cf} {N : Int} {x : Co}
theorem con_root (h : CoN N x) (hN : 0 ≤ N) : CoN (N + 1) (nextRoot C x) := by
  obtain ⟨h1, h2, h3, h4⟩ := h
  exact CoN.mk (by omega) (by omega) (by omega) (by omega)
theorem con_cell (h : CoN N x) (hN : 0 ≤ N) : CoN (N + 1) (nextCell C x) := by
  obtain ⟨h1, h2, h3, h4⟩ := h
  unfold nextCell
  repeat' first | apply ite_co2 | (refine CoN.mk ?_ ?_ ?_ ?_) | omega
theorem con_mut (h : CoN N x) (hN : 0 ≤ N) (n k : Int) : CoN (N + 1) (nextMut C x n k) := by
  obtain ⟨h1, h2, h3, h4⟩ := h
  unfold nextMut
  repeat' first | apply ite_co2 | (refine CoN.mk ?_ ?_ ?_ ?_) | omega
theorem con_swept (h : CoN N x) (hN : 0 ≤ N) : CoN (N + 1) (nextSwept C x) := by
  obtain ⟨h1, h2, h3, h4⟩ := h
  unfold nextSwept
  repeat' first | apply ite_co2 | (refine CoN.mk ?_ ?_ ?_ ?_) | omega
theorem col_con {s : Dy} (h : CoN N x) (hN : 0 ≤ N) : CoN (N + 1) (colS C s x).2.1 := by
  obtain ⟨h1, h2, h3, h4⟩ := id h
  unfold colS
  split
  · unfold rootS
    repeat' first | exact h.mono (by omega) | exact con_root h hN | apply ite_con | apply ite_co2 | (refine CoN.mk ?_ ?_ ?_ ?_) | omega
  split
  · unfold passS
    repeat' first | exact h.mono (by omega) | exact con_cell h hN | exact con_cell (CoN.mk h1 h2 h3 h4) hN | apply ite_con | apply ite_co2 | (refine CoN.mk ?_ ?_ ?_ ?_) | omega
  split
  · unfold shutS
    repeat' first | exact h.mono (by omega) | exact con_mut h hN _ _ | exact con_mut (CoN.mk h1 h2 h3 h4) hN _ _ | apply ite_con | apply ite_co2 | (refine CoN.mk ?_ ?_ ?_ ?_) | omega
  · unfold sweepS
    repeat' first | exact h.mono (by omega) | exact con_swept h hN | exact con_swept (CoN.mk h1 h2 h3 h4) hN | apply ite_con | apply ite_co2 | (refine CoN.mk ?_ ?_ ?_ ?_) | omega
end
theorem col_U {C : Cf} {s : Dy} (h : s.U) (x : Co) (hx : x.U) : (colS C s x).1.U ∧ (colS C s x).2.1.U := by
  have h' : s.clr.U := h
  unfold colS
  split
  · exact rootS_U h' x hx
  split
  · exact passS_U h' x hx
  split
  · exact shutS_U h' x hx
  · exact sweepS_U h' x hx
structure WsB (N : Int) (S : Ws) : Prop where
  f : ∀ j, U64 (S.f j)
  mu : ∀ m, MuB (S.mu m)
  lf : ∀ m, ∀ o ∈ S.lf m, o.B
  x : S.x.U
  n : CoN N S.x
theorem WsB.mono {N N' : Int} {S : Ws} (h : WsB N S) (hn : N ≤ N') : WsB N' S := ⟨h.f, h.mu, h.lf, h.x, h.n.mono hn⟩
theorem goM_B {C : Cf} {N : Int} {S : Ws} (h : WsB N S) (m : Nat) {x : Mu} (hx : MuB x) (pre : List Nt) : WsB N (goM C S m x pre).1 := by
  obtain ⟨h1, h2⟩ := lisp_B (C := C) (s := Dy.of S.f) h.f m hx
  refine ⟨h1, fun k => ?_, h.lf, h.x, h.n⟩
  show MuB (upn S.mu m _ k)
  by_cases e : k = m
  · subst e; rw [upn_at]; split
    · exact Mu.zero_B
    · exact h2
  · rw [upn_ne _ _ e]; exact h.mu k
theorem pick_B {C : Cf} {N : Int} {S : Ws} (h : WsB N S) (hN : 0 ≤ N) (p : Int) : WsB (N + 1) (pickS C S p).1 := by
  unfold pickS
  split
  · exact h.mono (by omega)
  split
  · obtain ⟨h1, h2⟩ := col_U (C := C) (s := Dy.of S.f) h.f S.x h.x
    exact ⟨h1, h.mu, h.lf, h2, col_con h.n hN⟩
  unfold mutPk
  split
  · exact (goM_B h _ (h.mu _) _).mono (by omega)
  split
  · exact h.mono (by omega)
  rename_i o l e
  have hl : ∀ k, ∀ q ∈ upn S.lf p.toNat l k, q.B := by
    intro k q hq
    by_cases ek : k = p.toNat
    · subst ek; rw [upn_at] at hq; exact h.lf _ q (by rw [e]; exact List.mem_cons_of_mem _ hq)
    · rw [upn_ne _ _ ek] at hq; exact h.lf k q hq
  have hb : WsB N { S with lf := upn S.lf p.toNat l } := ⟨h.f, h.mu, hl, h.x, h.n⟩
  split
  · exact (goM_B hb _ (Opn.mu_B (h.lf _ o (by rw [e]; exact List.mem_cons_self))) _).mono (by omega)
  · exact hb.mono (by omega)
theorem run_B {C : Cf} (l : List Int) : ∀ {N : Int} {S : Ws}, WsB N S → 0 ≤ N → WsB (N + l.length) (runS C S l).1 := by
  induction l with
  | nil => intro N S h _; exact h.mono (by simp)
  | cons p l ih =>
    intro N S h hN
    have := ih (pick_B (C := C) h hN p) (by omega)
    rw [show N + ((p :: l).length : Int) = N + 1 + l.length by simp; omega]
    exact this
end
end Go.Proofs.YtbpooljohjkbjaaGreatDoor
/- A mutator's step of the world is goM; the collector's pick is colPk. -/
namespace Go.Proofs.YtbpooljohjkbjaaGreatDoor
open Go Go.RowKit
set_option maxRecDepth 100000
attribute [local go_sem ↓] Go.wp_at_zero Go.wp_at_succ
theorem step_c {w : World} {q : WoK} {C : Cf} {S : Ws} (h : WoAt w q C S) (hf : (Dy.of S.f).U) {m : Nat} (hm : m < q.n) (hx : MuB (S.mu m)) {an : Option Addr} {ln cn : Nat} {L : List Nt} {base : Nat} (hn : NtR w base (.slice an ln cn) L) (hL : L.length ≤ 1) (h1 : q.hi ≤ base) (h2 : base ≤ w.heap.size) :
    Calls Tryz.prog 32 #[.pointer (some ⟨q.B, 0, none⟩), .int .i64 (m : Int), .slice an ln cn] w fun e w' => ∃ v, e = .returned v ∧ EvV base w' v (goM C S m (S.mu m) L).2 ∧ WoAt w' q C (goM C S m (S.mu m) L).1 ∧ Sav (Ib q base) w w' := by
  have hst : ∀ W s, HAt W q.H q.A q.G C s → SpansAt W → s.f = S.f → Calls Tryz.prog 46 #[.pointer (some ⟨q.H, 0, none⟩), .int .i64 (m : Int), (S.mu m).v] W (HP W q.H q.A q.G C (lispS C (Dy.of S.f) m (S.mu m)).1 (.tuple #[(lispS C (Dy.of S.f) m (S.mu m)).2.1.v, .bool (lispS C (Dy.of S.f) m (S.mu m)).2.2.1, .bool (lispS C (Dy.of S.f) m (S.mu m)).2.2.2])) := fun W s hh hS e => by
    rw [← lisp_dy C e]
    have o1 := hx.op.1; have o3 := hx.op.2.2.1; have b1 := hx.l
    unfold iI Mu.op at o1 o3
    exact lisp_c hh h.n0 (fun j => by rw [e]; exact hf j) hS m (S.mu m) hx.u o1 o3.2 (by omega)
  unfold goM
  obtain ⟨x, hxx⟩ : ∃ x, S.mu m = x := ⟨_, rfl⟩
  rw [hxx] at hst hx ⊢
  obtain ⟨r, hr⟩ : ∃ r, lispS C (Dy.of S.f) m x = r := ⟨_, rfl⟩
  simp only [hr] at hst ⊢
  clear hr
  obtain ⟨s', ⟨yl, yq1, yq2, yq3, yq4, ym1, ym2, ym3, ym4, ym5, yp, ybk, yrt⟩, lin, done⟩ := r
  dsimp only at hst ⊢
  cases lin <;> cases done
  · exact st_ff h hm hxx hn hL h1 h2 hst
  · exact st_ft h hm hxx hn hL h1 h2 hst
  · exact st_tf h hm hxx hn hL h1 h2 hst
  · exact st_tt h hm hxx hn hL h1 h2 hst
theorem collect_c {w : World} {q : WoK} {C : Cf} {S : Ws} (h : WoAt w q C S) (hf : (Dy.of S.f).U) (hx : S.x.U) (hb : -1000000 ≤ S.x.j ∧ S.x.j ≤ 1000000 ∧ -1000000 ≤ S.x.c ∧ S.x.c ≤ 1000000 ∧ -1000000 ≤ S.x.m ∧ S.x.m ≤ 1000000 ∧ -1000000 ≤ S.x.cy ∧ S.x.cy ≤ 1000000) :
    Calls Tryz.prog 31 #[.pointer (some ⟨q.B, 0, none⟩)] w fun e w' => ∃ v, e = .returned v ∧ EvV w.heap.size w' v (colPk C S).2 ∧ WoAt w' q C (colPk C S).1 ∧ Sav (Ib q w.heap.size) w w' := by
  have hst : ∀ W s, HAt W q.H q.A q.G C s → SpansAt W → s.f = S.f → Calls Tryz.prog 44 #[.pointer (some ⟨q.H, 0, none⟩), S.x.v] W (HP W q.H q.A q.G C (colS C (Dy.of S.f) S.x).1 (.tuple #[(colS C (Dy.of S.f) S.x).2.1.v, .int .i64 (colS C (Dy.of S.f) S.x).2.2])) := fun W s hh hS e => by
    rw [← col_dy C e]
    exact col_c hh (fun j => by rw [e]; exact hf j) hS h.right h.n0 S.x hx hb
  have ht := col_told C (Dy.of S.f) S.x
  unfold colPk
  dsimp only
  obtain ⟨r, hr⟩ : ∃ r, colS C (Dy.of S.f) S.x = r := ⟨_, rfl⟩
  simp only [hr] at hst ht ⊢
  clear hr
  obtain ⟨s', ⟨yl, yj, yc, ym, ya, yp, yfd, ytl, ycy⟩, wh⟩ := r
  dsimp only at hst ht ⊢
  rw [← ht.1]
  exact col_walk h ht.2 hst
end Go.Proofs.YtbpooljohjkbjaaGreatDoor
/- What begin carries. -/
namespace Go.Proofs.YtbpooljohjkbjaaGreatDoor
open Go Go.RowKit
set_option maxRecDepth 100000
attribute [local go_sem ↓] Go.wp_at_zero Go.wp_at_succ
theorem upn_upn {α : Type} (f : Nat → α) (i : Nat) (a b : α) : upn (upn f i a) i b = upn f i b := by funext j; unfold upn; split <;> rfl
theorem WoAt.left {w : World} {q : WoK} {C : Cf} {S : Ws} (h : WoAt w q C S) {m : Nat} (hm : m < q.n) {o : Opn} {l : List Opn} (hl : S.lf m = o :: l) : ∃ b off cap, w.cell? ⟨q.R, m * 14 + 13, none⟩ = some (.slice (some ⟨b, off, none⟩) (l.length + 1) cap) ∧ l.length + 1 ≤ cap ∧ OpAt w b off o ∧ LfSl w q.ops (.slice (some ⟨b, off + 4, none⟩) l.length (cap - 1)) l ∧ (cap = 1 → LfSl w q.ops (.slice (some ⟨b, off, none⟩) l.length 0) l) := by
  obtain ⟨lv, hmt, hlf⟩ := h.mt
  have h1 := hlf m hm
  rw [hl] at h1
  obtain ⟨b, off, cap, hv, hc, ho, hs, hs0⟩ := h1.cons
  exact ⟨b, off, cap, by rw [← hv]; exact hmt.cellL hm, hc, ho, hs, hs0⟩
theorem St0.setL {w W : World} {q : WoK} {C : Cf} {S : Ws} {s : Dy} {E base : Nat} (h : St0 w W q C S s E base (.slice none 0 0) []) (i : Nat) {v : Value} {l : List Opn} (hv : LfSl W q.ops v l) : St0 w (W.setCell ⟨q.R, i * 14 + 13, none⟩ v) q C { S with lf := upn S.lf i l } s E base (.slice none 0 0) [] := by
  have n := h.wo.ne; have hb := h.hb; have bE := h.bE
  have key : ∀ k, k ≠ q.R → (W.setCell ⟨q.R, i * 14 + 13, none⟩ v).heap[k]? = W.heap[k]? := fun k hk => Below.heap_setCell _ _ _ _ hk
  have hr := n.r.2
  exact ⟨h.wo.setL i hv, h.ha.other (key _ n.rh.symm) (key _ n.ra.symm) (key _ n.rg.symm), h.ev.other (key _ (by omega)), World.ownsRow_nil _ _ _ _, h.sav.set (p := ⟨q.R, i * 14 + 13, none⟩) (.inl (.inl n.r)) _, hb, bE, h.rE⟩
theorem op_new (W : World) (o : Opn) : OpAt (W.alloc (.cells #[.int .i64 o.k, .int .i64 o.x, .int .i64 o.y, .int .i64 o.z] 58)) W.heap.size 0 o := by
  have hb := newBlock W (.cells #[.int .i64 o.k, .int .i64 o.x, .int .i64 o.y, .int .i64 o.z] 58)
  generalize W.alloc (.cells #[.int .i64 o.k, .int .i64 o.x, .int .i64 o.y, .int .i64 o.z] 58) = V at *
  generalize W.heap.size = B at *
  exact ⟨by simp [World.cell?, hb], by simp [World.cell?, hb], by simp [World.cell?, hb], by simp [World.cell?, hb]⟩
end Go.Proofs.YtbpooljohjkbjaaGreatDoor
/- What Pick carries. -/
namespace Go.Proofs.YtbpooljohjkbjaaGreatDoor
open Go Go.RowKit
set_option maxRecDepth 100000
attribute [local go_sem ↓] Go.wp_at_zero Go.wp_at_succ
theorem ev_ret {w W V : World} {q : WoK} {C : Cf} {S S' : Ws} {E : Nat} (_ : WoAt W q C S) (hE : EvAt W E false 0 0 0 0 0 (.slice none 0 0)) (hh : q.hi ≤ E) (hw : w.heap.size ≤ E) (sv : Sav (Ib q w.heap.size) w W) (hV : WoAt V q C S') {r : Bool} {k i x y o : Int} {nv : Value} {ev : Ev}
    (hv : EvV W.heap.size V (.agg #[.bool r, .int .i64 k, .int .i64 i, .int .u64 x, .int .u64 y, .int .u64 o, nv]) ev) (sv2 : Sav (Ib q W.heap.size) W V) :
    EvAt V E false 0 0 0 0 0 (.slice none 0 0) ∧ EvAt (putE V E r k i x y o nv) E r k i x y o nv ∧ EvV w.heap.size (putE V E r k i x y o nv) (.agg #[.bool r, .int .i64 k, .int .i64 i, .int .u64 x, .int .u64 y, .int .u64 o, nv]) ev ∧ WoAt (putE V E r k i x y o nv) q C S' ∧ Sav (Ib q w.heap.size) w (putE V E r k i x y o nv) := by
  have hlt := hE.lt
  have hE2 : EvAt V E false 0 0 0 0 0 (.slice none 0 0) := hE.other (sv2.block _ hlt (fun e => e.elim (fun e => by have := e.2; omega) (fun e => by omega)))
  have key : ∀ j, j ≠ E → (putE V E r k i x y o nv).heap[j]? = V.heap[j]? := fun j hj => heap_putE V E r k i x y o nv hj
  have hs := sv.size
  obtain ⟨nv', e, hn, ho⟩ := hv
  have hh' := hV.ne.h
  refine ⟨hE2, hE2.put r k i x y o nv, ⟨nv', e, ?_, fun k e => by have := ho k e; omega⟩, hV.out (hV.env.other (key _ (by have := hV.glo.1; have := hh'.1; have := hh'.2; omega)) (key _ (by have := hV.glo.2; have := hh'.1; have := hh'.2; omega))) (by rw [size_putE]; exact Nat.le_refl _) (fun j _ h2 => key j (by omega)), (sv.trans (sv2.mono (fun k e => e.imp id (fun e => by omega)))).putE (.inl (.inr hw)) r k i x y o nv⟩
  obtain ⟨a, cap, rfl, hn⟩ := hn
  refine ⟨a, cap, rfl, hn.imp id ?_⟩
  rintro ⟨b, off, rfl, h'⟩
  exact ⟨b, off, rfl, fun k hk => (h' k hk).other (key b (by have := ho b rfl; omega))⟩
theorem WoAt.leftV {w : World} {q : WoK} {C : Cf} {S : Ws} (h : WoAt w q C S) {m : Nat} (hm : m < q.n) : ∃ a cap, w.cell? ⟨q.R, m * 14 + 13, none⟩ = some (.slice a (S.lf m).length cap) := by
  obtain ⟨lv, hmt, hlf⟩ := h.mt
  obtain ⟨a, cap, hv, _⟩ := hlf m hm
  exact ⟨a, cap, by rw [← hv]; exact hmt.cellL hm⟩
end Go.Proofs.YtbpooljohjkbjaaGreatDoor
/- Pick, way by way. -/
namespace Go.Proofs.YtbpooljohjkbjaaGreatDoor
open Go Go.RowKit
set_option maxRecDepth 100000
attribute [local go_sem ↓] Go.wp_at_zero Go.wp_at_succ
set_option maxHeartbeats 6400000 in
theorem pk_col {w : World} {q : WoK} {C : Cf} {S : Ws} (h : WoAt w q C S) {ran : Bool} {k1 i1 x1 y1 o1 : Int} {nts : List Nt} {S' : Ws} (hst : ∀ W, WoAt W q C S → Calls Tryz.prog 31 #[.pointer (some ⟨q.B, 0, none⟩)] W fun e w' => ∃ v, e = .returned v ∧ EvV W.heap.size w' v ⟨ran, k1, i1, x1, y1, o1, nts⟩ ∧ WoAt w' q C S' ∧ Sav (Ib q W.heap.size) W w') : Calls Tryz.prog 12 #[.pointer (some ⟨q.B, 0, none⟩), .int .i64 C.b] w fun e w' => ∃ v, e = .returned v ∧ EvV w.heap.size w' v ⟨ran, k1, i1, x1, y1, o1, nts⟩ ∧ WoAt w' q C S' ∧ Sav (Ib q w.heap.size) w w' := by
  have HW := Lib.hid (h.below (below_new w (.cells #[.bool false, .int .i64 0, .int .i64 0, .int .u64 0, .int .u64 0, .int .u64 0, .slice none 0 0] 41)))
  have HE := Lib.hid (EvAt.new w)
  have HSv : Hid (Sav (Ib q w.heap.size) w (w.alloc (.cells #[.bool false, .int .i64 0, .int .i64 0, .int .u64 0, .int .u64 0, .int .u64 0, .slice none 0 0] 41))) := Lib.hid (Sav.of (below_new w _))
  have HEh := Lib.hid h.hi
  have HN : Hid (∀ W, WoAt W q C S → Calls Tryz.prog 29 #[.pointer (some ⟨q.B, 0, none⟩)] W fun e w' => e = .returned (.bool false) ∧ W = w') := Lib.hid (fun W h => wNone_c h)
  have HC : Hid (∀ W, WoAt W q C S → Calls Tryz.prog 30 #[.pointer (some ⟨q.B, 0, none⟩)] W fun e w' => e = .returned (.int .i64 C.b) ∧ W = w') := Lib.hid (fun W h => wCol_c h)
  have HX := Lib.hid hst
  clear h hst
  go_enter Tryz.func12, Tryz.ntmps12
  go_upto_region 1 with fail
  generalize w.alloc (.cells #[.bool false, .int .i64 0, .int .i64 0, .int .u64 0, .int .u64 0, .int .u64 0, .slice none 0 0] 41) = W at *
  go_wp2_with fail
  refine (HN.out _ HW.out).mono ?_
  rintro e V ⟨rfl, rfl⟩
  go_wp2_with fail
  refine (HC.out _ HW.out).mono ?_
  rintro e V ⟨rfl, rfl⟩
  go_wp2_with fail
  refine (HX.out _ HW.out).mono ?_
  rintro e V ⟨v, rfl, ⟨⟨nv, rfl, hnt, hno⟩, hWo, hSv⟩⟩
  obtain ⟨an, cn, rfl, _⟩ := id hnt
  have HR' := ev_ret HW.out HE.out HEh.out (Nat.le_refl _) HSv.out hWo ⟨_, rfl, hnt, hno⟩ hSv
  obtain ⟨v0, v1, v2, v3, v4, v5, v6, ef⟩ := HR'.1.cells
  dsimp only [putE] at HR'
  have HR := Lib.hid HR'
  clear HR' hnt hno hWo hSv
  go_wp2_with fail
  obtain ⟨e0, e1, e2, e3, e4, e5, e6, _⟩ := HR.out.2.1.cells
  refine bodyPost_ret (v := .agg #[.bool ran, .int .i64 k1, .int .i64 i1, .int .u64 x1, .int .u64 y1, .int .u64 o1, .slice an nts.length cn]) (by simp [results, Tryz.f12, go_sem, e0, e1, e2, e3, e4, e5, e6]) rfl ?_
  exact ⟨_, rfl, HR.out.2.2.1, HR.out.2.2.2.1, HR.out.2.2.2.2⟩
set_option maxHeartbeats 6400000 in
theorem pk_step {w : World} {q : WoK} {C : Cf} {S : Ws} (h : WoAt w q C S) {p : Int} (hne : ¬ p = C.b) {ran : Bool} {k1 i1 x1 y1 o1 : Int} {nts : List Nt} {S' : Ws} (hbz : ∀ W, WoAt W q C S → Calls Tryz.prog 15 #[.pointer (some ⟨q.B, 0, none⟩), .int .i64 p] W fun e w' => e = .returned (.bool true) ∧ W = w') (hst : ∀ W, WoAt W q C S → Calls Tryz.prog 32 #[.pointer (some ⟨q.B, 0, none⟩), .int .i64 p, .slice none 0 0] W fun e w' => ∃ v, e = .returned v ∧ EvV W.heap.size w' v ⟨ran, k1, i1, x1, y1, o1, nts⟩ ∧ WoAt w' q C S' ∧ Sav (Ib q W.heap.size) W w') : Calls Tryz.prog 12 #[.pointer (some ⟨q.B, 0, none⟩), .int .i64 p] w fun e w' => ∃ v, e = .returned v ∧ EvV w.heap.size w' v ⟨ran, k1, i1, x1, y1, o1, nts⟩ ∧ WoAt w' q C S' ∧ Sav (Ib q w.heap.size) w w' := by
  have HW := Lib.hid (h.below (below_new w (.cells #[.bool false, .int .i64 0, .int .i64 0, .int .u64 0, .int .u64 0, .int .u64 0, .slice none 0 0] 41)))
  have HE := Lib.hid (EvAt.new w)
  have HSv : Hid (Sav (Ib q w.heap.size) w (w.alloc (.cells #[.bool false, .int .i64 0, .int .i64 0, .int .u64 0, .int .u64 0, .int .u64 0, .slice none 0 0] 41))) := Lib.hid (Sav.of (below_new w _))
  have HEh := Lib.hid h.hi
  have HN : Hid (∀ W, WoAt W q C S → Calls Tryz.prog 29 #[.pointer (some ⟨q.B, 0, none⟩)] W fun e w' => e = .returned (.bool false) ∧ W = w') := Lib.hid (fun W h => wNone_c h)
  have HC : Hid (∀ W, WoAt W q C S → Calls Tryz.prog 30 #[.pointer (some ⟨q.B, 0, none⟩)] W fun e w' => e = .returned (.int .i64 C.b) ∧ W = w') := Lib.hid (fun W h => wCol_c h)
  have HX := Lib.hid hst; have HY := Lib.hid hbz
  have gne : (p == C.b) = false := by simpa using hne
  clear h hst hbz hne
  go_enter Tryz.func12, Tryz.ntmps12
  go_upto_region 1 with fail
  generalize w.alloc (.cells #[.bool false, .int .i64 0, .int .i64 0, .int .u64 0, .int .u64 0, .int .u64 0, .slice none 0 0] 41) = W at *
  go_wp2_with fail
  refine (HN.out _ HW.out).mono ?_
  rintro e V ⟨rfl, rfl⟩
  go_wp2_with fail
  refine (HC.out _ HW.out).mono ?_
  rintro e V ⟨rfl, rfl⟩
  go_wp2_with fail
  refine (HY.out _ HW.out).mono ?_
  rintro e V ⟨rfl, rfl⟩
  go_wp2_with fail
  refine (HX.out _ HW.out).mono ?_
  rintro e V ⟨v, rfl, ⟨⟨nv, rfl, hnt, hno⟩, hWo, hSv⟩⟩
  obtain ⟨an, cn, rfl, _⟩ := id hnt
  have HR' := ev_ret HW.out HE.out HEh.out (Nat.le_refl _) HSv.out hWo ⟨_, rfl, hnt, hno⟩ hSv
  obtain ⟨v0, v1, v2, v3, v4, v5, v6, ef⟩ := HR'.1.cells
  dsimp only [putE] at HR'
  have HR := Lib.hid HR'
  clear HR' hnt hno hWo hSv
  go_wp2_with fail
  obtain ⟨e0, e1, e2, e3, e4, e5, e6, _⟩ := HR.out.2.1.cells
  refine bodyPost_ret (v := .agg #[.bool ran, .int .i64 k1, .int .i64 i1, .int .u64 x1, .int .u64 y1, .int .u64 o1, .slice an nts.length cn]) (by simp [results, Tryz.f12, go_sem, e0, e1, e2, e3, e4, e5, e6]) rfl ?_
  exact ⟨_, rfl, HR.out.2.2.1, HR.out.2.2.2.1, HR.out.2.2.2.2⟩
set_option maxHeartbeats 6400000 in
theorem pk_begin {w : World} {q : WoK} {C : Cf} {S : Ws} (h : WoAt w q C S) {m : Nat} (hm : m < q.n) (hlf : 0 < (S.lf m).length) (hne : ¬ (m : Int) = C.b) {ran : Bool} {k1 i1 x1 y1 o1 : Int} {nts : List Nt} {S' : Ws} (hbz : ∀ W, WoAt W q C S → Calls Tryz.prog 15 #[.pointer (some ⟨q.B, 0, none⟩), .int .i64 (m : Int)] W fun e w' => e = .returned (.bool false) ∧ W = w') (hhs : ∀ W, WoAt W q C S → Calls Tryz.prog 33 #[.pointer (some ⟨q.B, 0, none⟩), .int .i64 (m : Int)] W fun e w' => e = .returned (.bool true) ∧ W = w') (hst : ∀ W, WoAt W q C S → Calls Tryz.prog 34 #[.pointer (some ⟨q.B, 0, none⟩), .int .i64 (m : Int)] W fun e w' => ∃ v, e = .returned v ∧ EvV W.heap.size w' v ⟨ran, k1, i1, x1, y1, o1, nts⟩ ∧ WoAt w' q C S' ∧ Sav (Ib q W.heap.size) W w') : Calls Tryz.prog 12 #[.pointer (some ⟨q.B, 0, none⟩), .int .i64 (m : Int)] w fun e w' => ∃ v, e = .returned v ∧ EvV w.heap.size w' v ⟨ran, k1, i1, x1, y1, o1, nts⟩ ∧ WoAt w' q C S' ∧ Sav (Ib q w.heap.size) w w' := by
  have HW := Lib.hid (h.below (below_new w (.cells #[.bool false, .int .i64 0, .int .i64 0, .int .u64 0, .int .u64 0, .int .u64 0, .slice none 0 0] 41)))
  have HE := Lib.hid (EvAt.new w)
  have HSv : Hid (Sav (Ib q w.heap.size) w (w.alloc (.cells #[.bool false, .int .i64 0, .int .i64 0, .int .u64 0, .int .u64 0, .int .u64 0, .slice none 0 0] 41))) := Lib.hid (Sav.of (below_new w _))
  have HEh := Lib.hid h.hi
  have HN : Hid (∀ W, WoAt W q C S → Calls Tryz.prog 29 #[.pointer (some ⟨q.B, 0, none⟩)] W fun e w' => e = .returned (.bool false) ∧ W = w') := Lib.hid (fun W h => wNone_c h)
  have HC : Hid (∀ W, WoAt W q C S → Calls Tryz.prog 30 #[.pointer (some ⟨q.B, 0, none⟩)] W fun e w' => e = .returned (.int .i64 C.b) ∧ W = w') := Lib.hid (fun W h => wCol_c h)
  have HX := Lib.hid hst; have HY := Lib.hid hbz; have HZ := Lib.hid hhs
  have gne : ((m : Int) == C.b) = false := by simpa using hne
  obtain ⟨a, cap, c13⟩ := HW.out.leftV hm
  obtain ⟨N, hN⟩ : ∃ N, (S.lf m).length = N := ⟨_, rfl⟩
  rw [hN] at c13 hlf
  have dN : decide (0 < N) = true := decide_eq_true (by omega)
  have hm0 : (0 : Int) ≤ (m : Int) := by omega
  have hmn : (m : Int) < (q.n : Int) := by omega
  obtain ⟨_, b1, _⟩ := HW.out.bk.cells
  clear h hst hbz hne hhs hlf hN hm
  go_enter Tryz.func12, Tryz.ntmps12
  go_upto_region 1 with fail
  generalize w.alloc (.cells #[.bool false, .int .i64 0, .int .i64 0, .int .u64 0, .int .u64 0, .int .u64 0, .slice none 0 0] 41) = W at *
  go_wp2_with fail
  refine (HN.out _ HW.out).mono ?_
  rintro e V ⟨rfl, rfl⟩
  go_wp2_with fail
  refine (HC.out _ HW.out).mono ?_
  rintro e V ⟨rfl, rfl⟩
  go_wp2_with fail
  refine (HY.out _ HW.out).mono ?_
  rintro e V ⟨rfl, rfl⟩
  go_wp2_with fail
  refine (HZ.out _ HW.out).mono ?_
  rintro e V ⟨rfl, rfl⟩
  go_wp2_with fail
  refine (HX.out _ HW.out).mono ?_
  rintro e V ⟨v, rfl, ⟨⟨nv, rfl, hnt, hno⟩, hWo, hSv⟩⟩
  obtain ⟨an, cn, rfl, _⟩ := id hnt
  have HR' := ev_ret HW.out HE.out HEh.out (Nat.le_refl _) HSv.out hWo ⟨_, rfl, hnt, hno⟩ hSv
  obtain ⟨v0, v1, v2, v3, v4, v5, v6, ef⟩ := HR'.1.cells
  dsimp only [putE] at HR'
  have HR := Lib.hid HR'
  clear HR' hnt hno hWo hSv
  go_wp2_with fail
  obtain ⟨e0, e1, e2, e3, e4, e5, e6, _⟩ := HR.out.2.1.cells
  refine bodyPost_ret (v := .agg #[.bool ran, .int .i64 k1, .int .i64 i1, .int .u64 x1, .int .u64 y1, .int .u64 o1, .slice an nts.length cn]) (by simp [results, Tryz.f12, go_sem, e0, e1, e2, e3, e4, e5, e6]) rfl ?_
  exact ⟨_, rfl, HR.out.2.2.1, HR.out.2.2.2.1, HR.out.2.2.2.2⟩
set_option maxHeartbeats 6400000 in
theorem pk_none {w : World} {q : WoK} {C : Cf} {S : Ws} (h : WoAt w q C S) {p : Int} (hne : ¬ p = C.b) (hbz : ∀ W, WoAt W q C S → Calls Tryz.prog 15 #[.pointer (some ⟨q.B, 0, none⟩), .int .i64 p] W fun e w' => e = .returned (.bool false) ∧ W = w') (hhs : ∀ W, WoAt W q C S → Calls Tryz.prog 33 #[.pointer (some ⟨q.B, 0, none⟩), .int .i64 p] W fun e w' => e = .returned (.bool false) ∧ W = w') : Calls Tryz.prog 12 #[.pointer (some ⟨q.B, 0, none⟩), .int .i64 p] w fun e w' => ∃ v, e = .returned v ∧ EvV w.heap.size w' v noEv ∧ WoAt w' q C S ∧ Sav (Ib q w.heap.size) w w' := by
  have HW := Lib.hid (h.below (below_new w (.cells #[.bool false, .int .i64 0, .int .i64 0, .int .u64 0, .int .u64 0, .int .u64 0, .slice none 0 0] 41)))
  have HE := Lib.hid (EvAt.new w)
  have HSv : Hid (Sav (Ib q w.heap.size) w (w.alloc (.cells #[.bool false, .int .i64 0, .int .i64 0, .int .u64 0, .int .u64 0, .int .u64 0, .slice none 0 0] 41))) := Lib.hid (Sav.of (below_new w _))
  have HEh := Lib.hid h.hi
  have HN : Hid (∀ W, WoAt W q C S → Calls Tryz.prog 29 #[.pointer (some ⟨q.B, 0, none⟩)] W fun e w' => e = .returned (.bool false) ∧ W = w') := Lib.hid (fun W h => wNone_c h)
  have HC : Hid (∀ W, WoAt W q C S → Calls Tryz.prog 30 #[.pointer (some ⟨q.B, 0, none⟩)] W fun e w' => e = .returned (.int .i64 C.b) ∧ W = w') := Lib.hid (fun W h => wCol_c h)
  have HY := Lib.hid hbz; have HZ := Lib.hid hhs
  have gne : (p == C.b) = false := by simpa using hne
  clear h hbz hne hhs
  go_enter Tryz.func12, Tryz.ntmps12
  go_upto_region 1 with fail
  generalize w.alloc (.cells #[.bool false, .int .i64 0, .int .i64 0, .int .u64 0, .int .u64 0, .int .u64 0, .slice none 0 0] 41) = W at *
  go_wp2_with fail
  refine (HN.out _ HW.out).mono ?_
  rintro e V ⟨rfl, rfl⟩
  go_wp2_with fail
  refine (HC.out _ HW.out).mono ?_
  rintro e V ⟨rfl, rfl⟩
  go_wp2_with fail
  refine (HY.out _ HW.out).mono ?_
  rintro e V ⟨rfl, rfl⟩
  go_wp2_with fail
  refine (HZ.out _ HW.out).mono ?_
  rintro e V ⟨rfl, rfl⟩
  have HR' := ev_ret HW.out HE.out HEh.out (Nat.le_refl _) HSv.out HW.out (ev := noEv) ⟨_, rfl, nts_none _, fun k e => by cases e⟩ (Sav.of (Below.refl _ _))
  obtain ⟨v0, v1, v2, v3, v4, v5, v6, ef⟩ := HR'.1.cells
  dsimp only [putE] at HR'
  have HR := Lib.hid HR'
  clear HR'
  go_wp2_with fail
  obtain ⟨e0, e1, e2, e3, e4, e5, e6, _⟩ := HR.out.2.1.cells
  refine bodyPost_ret (v := .agg #[.bool false, .int .i64 0, .int .i64 0, .int .u64 0, .int .u64 0, .int .u64 0, .slice none 0 0]) (by simp [results, Tryz.f12, go_sem, e0, e1, e2, e3, e4, e5, e6, v0, v1, v2, v3, v4, v5, v6]) rfl ?_
  exact ⟨_, rfl, HR.out.2.2.1, HR.out.2.2.2.1, HR.out.2.2.2.2⟩
set_option maxHeartbeats 6400000 in
theorem pk_empty {w : World} {q : WoK} {C : Cf} {S : Ws} (h : WoAt w q C S) {m : Nat} (hm : m < q.n) (hlf : (S.lf m).length = 0) (hne : ¬ (m : Int) = C.b) (hbz : ∀ W, WoAt W q C S → Calls Tryz.prog 15 #[.pointer (some ⟨q.B, 0, none⟩), .int .i64 (m : Int)] W fun e w' => e = .returned (.bool false) ∧ W = w') (hhs : ∀ W, WoAt W q C S → Calls Tryz.prog 33 #[.pointer (some ⟨q.B, 0, none⟩), .int .i64 (m : Int)] W fun e w' => e = .returned (.bool true) ∧ W = w') : Calls Tryz.prog 12 #[.pointer (some ⟨q.B, 0, none⟩), .int .i64 (m : Int)] w fun e w' => ∃ v, e = .returned v ∧ EvV w.heap.size w' v noEv ∧ WoAt w' q C S ∧ Sav (Ib q w.heap.size) w w' := by
  have HW := Lib.hid (h.below (below_new w (.cells #[.bool false, .int .i64 0, .int .i64 0, .int .u64 0, .int .u64 0, .int .u64 0, .slice none 0 0] 41)))
  have HE := Lib.hid (EvAt.new w)
  have HSv : Hid (Sav (Ib q w.heap.size) w (w.alloc (.cells #[.bool false, .int .i64 0, .int .i64 0, .int .u64 0, .int .u64 0, .int .u64 0, .slice none 0 0] 41))) := Lib.hid (Sav.of (below_new w _))
  have HEh := Lib.hid h.hi
  have HN : Hid (∀ W, WoAt W q C S → Calls Tryz.prog 29 #[.pointer (some ⟨q.B, 0, none⟩)] W fun e w' => e = .returned (.bool false) ∧ W = w') := Lib.hid (fun W h => wNone_c h)
  have HC : Hid (∀ W, WoAt W q C S → Calls Tryz.prog 30 #[.pointer (some ⟨q.B, 0, none⟩)] W fun e w' => e = .returned (.int .i64 C.b) ∧ W = w') := Lib.hid (fun W h => wCol_c h)
  have HY := Lib.hid hbz; have HZ := Lib.hid hhs
  have gne : ((m : Int) == C.b) = false := by simpa using hne
  obtain ⟨a, cap, c13⟩ := HW.out.leftV hm
  rw [hlf] at c13
  have hm0 : (0 : Int) ≤ (m : Int) := by omega
  have hmn : (m : Int) < (q.n : Int) := by omega
  obtain ⟨_, b1, _⟩ := HW.out.bk.cells
  clear h hbz hne hhs hlf hm
  go_enter Tryz.func12, Tryz.ntmps12
  go_upto_region 1 with fail
  generalize w.alloc (.cells #[.bool false, .int .i64 0, .int .i64 0, .int .u64 0, .int .u64 0, .int .u64 0, .slice none 0 0] 41) = W at *
  go_wp2_with fail
  refine (HN.out _ HW.out).mono ?_
  rintro e V ⟨rfl, rfl⟩
  go_wp2_with fail
  refine (HC.out _ HW.out).mono ?_
  rintro e V ⟨rfl, rfl⟩
  go_wp2_with fail
  refine (HY.out _ HW.out).mono ?_
  rintro e V ⟨rfl, rfl⟩
  go_wp2_with fail
  refine (HZ.out _ HW.out).mono ?_
  rintro e V ⟨rfl, rfl⟩
  have HR' := ev_ret HW.out HE.out HEh.out (Nat.le_refl _) HSv.out HW.out (ev := noEv) ⟨_, rfl, nts_none _, fun k e => by cases e⟩ (Sav.of (Below.refl _ _))
  obtain ⟨v0, v1, v2, v3, v4, v5, v6, ef⟩ := HR'.1.cells
  dsimp only [putE] at HR'
  have HR := Lib.hid HR'
  clear HR'
  go_wp2_with fail
  obtain ⟨e0, e1, e2, e3, e4, e5, e6, _⟩ := HR.out.2.1.cells
  refine bodyPost_ret (v := .agg #[.bool false, .int .i64 0, .int .i64 0, .int .u64 0, .int .u64 0, .int .u64 0, .slice none 0 0]) (by simp [results, Tryz.f12, go_sem, e0, e1, e2, e3, e4, e5, e6, v0, v1, v2, v3, v4, v5, v6]) rfl ?_
  exact ⟨_, rfl, HR.out.2.2.1, HR.out.2.2.2.1, HR.out.2.2.2.2⟩
end Go.Proofs.YtbpooljohjkbjaaGreatDoor
/- What begin carries, once more. -/
namespace Go.Proofs.YtbpooljohjkbjaaGreatDoor
open Go Go.RowKit
set_option maxRecDepth 100000
attribute [local go_sem ↓] Go.wp_at_zero Go.wp_at_succ
theorem nt_row (W : World) (n : Nt) : NtR (W.alloc (.cells #[.int .i64 n.p, .int .i64 n.wh, .int .i64 n.k, .int .i64 n.x, .int .i64 n.y, .int .i64 n.z, .int .i64 n.n] 68)) W.heap.size (.slice (some ⟨W.heap.size, 0, none⟩) 1 1) [n] :=
  ⟨rfl, .inr ⟨W.heap.size, 1, _, rfl, Nat.le_refl _, newBlock W _, Nat.le_refl _, by unfold maxLen; omega, rfl, rfl⟩⟩
theorem ev_ret' {w W V : World} {q : WoK} {C : Cf} {S S' : Ws} {s : Dy} {nv0 : Value} {L0 : List Nt} (h : St0 w W q C S s w.heap.size w.heap.size nv0 L0) {T : Nat} (hT : w.heap.size < T) (hV : WoAt V q C S') {r : Bool} {k i x y o : Int} {nv : Value} {ev : Ev}
    (hv : EvV T V (.agg #[.bool r, .int .i64 k, .int .i64 i, .int .u64 x, .int .u64 y, .int .u64 o, nv]) ev) (sv2 : Sav (Ib q T) W V) :
    EvAt V w.heap.size false 0 0 0 0 0 (.slice none 0 0) ∧ EvAt (putE V w.heap.size r k i x y o nv) w.heap.size r k i x y o nv ∧ EvV w.heap.size (putE V w.heap.size r k i x y o nv) (.agg #[.bool r, .int .i64 k, .int .i64 i, .int .u64 x, .int .u64 y, .int .u64 o, nv]) ev ∧ WoAt (putE V w.heap.size r k i x y o nv) q C S' ∧ Sav (Ib q w.heap.size) w (putE V w.heap.size r k i x y o nv) := by
  have hlt := h.ev.lt; have hb := h.hb
  have hE2 : EvAt V w.heap.size false 0 0 0 0 0 (.slice none 0 0) := h.ev.other (sv2.block _ hlt (fun e => e.elim (fun e => by have := e.2; omega) (fun e => by omega)))
  have key : ∀ j, j ≠ w.heap.size → (putE V w.heap.size r k i x y o nv).heap[j]? = V.heap[j]? := fun j hj => heap_putE V w.heap.size r k i x y o nv hj
  obtain ⟨nv', e, hn, ho⟩ := hv
  have hh' := hV.ne.h
  refine ⟨hE2, hE2.put r k i x y o nv, ⟨nv', e, ?_, fun k e => by have := ho k e; omega⟩, hV.out (hV.env.other (key _ (by have := hV.glo.1; have := hh'.1; have := hh'.2; omega)) (key _ (by have := hV.glo.2; have := hh'.1; have := hh'.2; omega))) (by rw [size_putE]; exact Nat.le_refl _) (fun j _ h2 => key j (by omega)), (h.sav.trans (sv2.mono (fun k e => e.imp id (fun e => by omega)))).putE (.inr (Nat.le_refl _)) r k i x y o nv⟩
  obtain ⟨a, cap, rfl, hn⟩ := hn
  refine ⟨a, cap, rfl, hn.imp id ?_⟩
  rintro ⟨b, off, rfl, h'⟩
  exact ⟨b, off, rfl, fun k hk => (h' k hk).other (key b (by have := ho b rfl; omega))⟩
theorem bad_fin {w W : World} {q : WoK} {C : Cf} {S : Ws} {s : Dy} {nv0 : Value} {L0 : List Nt} (h : St0 w W q C S s w.heap.size w.heap.size nv0 L0) (n m : Nt) :
    EvAt ((putE W w.heap.size true 0 0 0 0 0 (.slice (some ⟨W.heap.size, 0, none⟩) 2 2)).alloc (.cells #[.int .i64 n.p, .int .i64 n.wh, .int .i64 n.k, .int .i64 n.x, .int .i64 n.y, .int .i64 n.z, .int .i64 n.n, .int .i64 m.p, .int .i64 m.wh, .int .i64 m.k, .int .i64 m.x, .int .i64 m.y, .int .i64 m.z, .int .i64 m.n] 68)) w.heap.size true 0 0 0 0 0 (.slice (some ⟨W.heap.size, 0, none⟩) 2 2) ∧ EvV w.heap.size ((putE W w.heap.size true 0 0 0 0 0 (.slice (some ⟨W.heap.size, 0, none⟩) 2 2)).alloc (.cells #[.int .i64 n.p, .int .i64 n.wh, .int .i64 n.k, .int .i64 n.x, .int .i64 n.y, .int .i64 n.z, .int .i64 n.n, .int .i64 m.p, .int .i64 m.wh, .int .i64 m.k, .int .i64 m.x, .int .i64 m.y, .int .i64 m.z, .int .i64 m.n] 68)) (.agg #[.bool true, .int .i64 0, .int .i64 0, .int .u64 0, .int .u64 0, .int .u64 0, .slice (some ⟨W.heap.size, 0, none⟩) 2 2]) ⟨true, 0, 0, 0, 0, 0, [n, m]⟩ ∧ WoAt ((putE W w.heap.size true 0 0 0 0 0 (.slice (some ⟨W.heap.size, 0, none⟩) 2 2)).alloc (.cells #[.int .i64 n.p, .int .i64 n.wh, .int .i64 n.k, .int .i64 n.x, .int .i64 n.y, .int .i64 n.z, .int .i64 n.n, .int .i64 m.p, .int .i64 m.wh, .int .i64 m.k, .int .i64 m.x, .int .i64 m.y, .int .i64 m.z, .int .i64 m.n] 68)) q C S ∧ Sav (Ib q w.heap.size) w ((putE W w.heap.size true 0 0 0 0 0 (.slice (some ⟨W.heap.size, 0, none⟩) 2 2)).alloc (.cells #[.int .i64 n.p, .int .i64 n.wh, .int .i64 n.k, .int .i64 n.x, .int .i64 n.y, .int .i64 n.z, .int .i64 n.n, .int .i64 m.p, .int .i64 m.wh, .int .i64 m.k, .int .i64 m.x, .int .i64 m.y, .int .i64 m.z, .int .i64 m.n] 68)) := by
  have hb := h.hb; have hl := h.ev.lt
  have e1 := h.ev.put true 0 0 0 0 0 (.slice (some ⟨W.heap.size, 0, none⟩) 2 2)
  have key : ∀ j, j ≠ w.heap.size → (putE W w.heap.size true 0 0 0 0 0 (.slice (some ⟨W.heap.size, 0, none⟩) 2 2)).heap[j]? = W.heap[j]? := fun j hj => heap_putE W w.heap.size _ _ _ _ _ _ _ hj
  have hh := h.wo.ne.h
  have hz := size_putE W w.heap.size true 0 0 0 0 0 (.slice (some ⟨W.heap.size, 0, none⟩) 2 2)
  have hw : WoAt (putE W w.heap.size true 0 0 0 0 0 (.slice (some ⟨W.heap.size, 0, none⟩) 2 2)) q C S := h.wo.out (h.wo.env.other (key _ (by have := h.wo.glo.1; have := hh.1; have := hh.2; omega)) (key _ (by have := h.wo.glo.2; have := hh.1; have := hh.2; omega))) (by rw [hz]; exact Nat.le_refl _) (fun j _ h2 => key j (by omega))
  have hs : Sav (Ib q w.heap.size) w (putE W w.heap.size true 0 0 0 0 0 (.slice (some ⟨W.heap.size, 0, none⟩) 2 2)) := h.sav.putE (.inr (Nat.le_refl _)) _ _ _ _ _ _ _
  have hn := nts_two (putE W w.heap.size true 0 0 0 0 0 (.slice (some ⟨W.heap.size, 0, none⟩) 2 2)) n m
  rw [hz] at hn
  generalize putE W w.heap.size true 0 0 0 0 0 (.slice (some ⟨W.heap.size, 0, none⟩) 2 2) = X at *
  exact ⟨e1.other ((below_new X _).block _ e1.lt), ⟨_, rfl, hn, fun k e => by cases e; show w.heap.size ≤ W.heap.size; omega⟩, hw.below (below_new X _), hs.trans (Sav.of (below_new X _))⟩
end Go.Proofs.YtbpooljohjkbjaaGreatDoor
/- begin of an operation that isn't right. -/
namespace Go.Proofs.YtbpooljohjkbjaaGreatDoor
open Go Go.RowKit
set_option maxRecDepth 100000
attribute [local go_sem ↓] Go.wp_at_zero Go.wp_at_succ
set_option maxHeartbeats 12800000 in
theorem begin_bad {w : World} {q : WoK} {C : Cf} {S : Ws} (h : WoAt w q C S) {m : Nat} (hm : m < q.n) {ok ox oy oz : Int} {l : List Opn} (hl : S.lf m = ⟨ok, ox, oy, oz⟩ :: l)  (hck : (checkF C.a C.b C.c C.d ok ox oy oz == 0) = false) :
    Calls Tryz.prog 34 #[.pointer (some ⟨q.B, 0, none⟩), .int .i64 (m : Int)] w fun e w' => ∃ v, e = .returned v ∧ EvV w.heap.size w' v ⟨true, 0, 0, 0, 0, 0, [(⟨(m : Int), 1, ok, ox, oy, oz, 0⟩ : Nt), (⟨(m : Int), 3, ok, ox, oy, oz, 6⟩ : Nt)]⟩ ∧ WoAt w' q C { S with lf := upn S.lf m l } ∧ Sav (Ib q w.heap.size) w w' := by
  have Hck := Lib.hid hck
  clear hck
  obtain ⟨s, hs, h0⟩ := St0.start (nv := .slice none 0 0) (L := []) h (World.ownsRow_nil _ _ _ _) h.hi (Nat.le_refl _)
  obtain ⟨b, off, cap, hv, hc, ho, _, _⟩ := h0.wo.left hm hl
  obtain ⟨p0, p1, p2, p3⟩ := ho
  have HB0 := Lib.hid h0
  have hm0 : (0 : Int) ≤ (m : Int) := by omega
  have hmn : (m : Int) < (q.n : Int) := by omega
  obtain ⟨b0, b1, _⟩ := h0.wo.bk.cells
  obtain ⟨N, hN⟩ : ∃ N, l.length + 1 = N := ⟨_, rfl⟩
  rw [hN] at hv hc
  have hN0 : 0 < N := by omega
  have hN1 : (0 : Int) < (N : Int) := by omega
  have Hhl := Lib.hid hl; have HhN := Lib.hid hN; have Hhm := Lib.hid hm
  clear h h0 hs hc hl hN hm
  go_enter Tryz.func34, Tryz.ntmps34
  go_upto_region 1 with fail
  generalize w.alloc (.cells #[.bool false, .int .i64 0, .int .i64 0, .int .u64 0, .int .u64 0, .int .u64 0, .slice none 0 0] 41) = w1 at *
  go_upto_region 3 with fail
  have HB1 := Lib.hid (HB0.out.below (below_new w1 (.cells #[.int .i64 ok, .int .i64 ox, .int .i64 oy, .int .i64 oz] 58)))
  have HO1 := Lib.hid (op_new w1 ⟨ok, ox, oy, oz⟩)
  have hOB : w1.heap.size ≠ q.R := by have := HB0.out.ev.lt; have := HB0.out.wo.ne.r.2; have := HB0.out.hb; omega
  have hOE : w1.heap.size ≠ w.heap.size := by have := HB0.out.ev.lt; omega
  clear b0 b1 p0 p1 p2 p3 hv hN0 hN1 HB0
  generalize (w1.alloc (.cells #[.int .i64 ok, .int .i64 ox, .int .i64 oy, .int .i64 oz] 58)) = w2 at *
  generalize w1.heap.size = O at *
  obtain ⟨b, off, cap, hv, hc, _, hsl, hsl0⟩ := HB1.out.wo.left Hhm.out Hhl.out
  rw [HhN.out] at hv hc
  have HSl := Lib.hid hsl; have HSl0 := Lib.hid hsl0
  have rf : ∀ j, w2.frozen? ⟨q.R, j, none⟩ = false := by obtain ⟨lv, hmt, _⟩ := HB1.out.wo.mt; exact fun j => World.rowIs.frozen hmt j
  obtain ⟨p0, p1, p2, p3⟩ := HO1.out
  clear hsl hsl0
  by_cases hc1 : cap = 1
  · subst hc1
    have hN9 : N = 1 := by have := HhN.out; omega
    subst hN9
    have hl0 : l.length = 0 := by have := HhN.out; omega
    have HV' := HSl0.out rfl
    rw [hl0] at HV'
    have HV := Lib.hid HV'
    clear HV' hl0
    go_upto_region 4 with fail
    have HB2 := Lib.hid (HB1.out.setL m HV.out)
    have HO2 := Lib.hid (HO1.out.other (V := (w2.setCell ⟨q.R, m * 14 + 13, none⟩ (.slice (some ⟨b, off, none⟩) 0 0))) (Below.heap_setCell _ _ _ _ hOB))
    clear HB1 HO1 HV HSl HSl0 hv hc rf p0 p1 p2 p3
    generalize (w2.setCell ⟨q.R, m * 14 + 13, none⟩ (.slice (some ⟨b, off, none⟩) 0 0)) = w3 at *
    obtain ⟨p0, p1, p2, p3⟩ := HO2.out
    go_upto_region 5 with fail
    have HB3 := Lib.hid (HB2.out.below (below_new w3 (.cells #[.int .i64 (m : Int), .int .i64 1, .int .i64 ok, .int .i64 ox, .int .i64 oy, .int .i64 oz, .int .i64 0] 68)))
    have HO3 := Lib.hid (HO2.out.other (V := (w3.alloc (.cells #[.int .i64 (m : Int), .int .i64 1, .int .i64 ok, .int .i64 ox, .int .i64 oy, .int .i64 oz, .int .i64 0] 68))) ((below_new w3 _).block _ HO2.out.lt))
    have HN1 := Lib.hid (nt_new w3 (⟨(m : Int), 1, ok, ox, oy, oz, 0⟩ : Nt))
    have hNR : w3.heap.size ≠ q.R := by have := HB2.out.ev.lt; have := HB2.out.wo.ne.r.2; have := HB2.out.hb; omega
    clear HB2 HO2 p0 p1 p2 p3
    generalize (w3.alloc (.cells #[.int .i64 (m : Int), .int .i64 1, .int .i64 ok, .int .i64 ox, .int .i64 oy, .int .i64 oz, .int .i64 0] 68)) = w4 at *
    generalize w3.heap.size = N1 at *
    have HB4 := Lib.hid HB3.out.drew
    have HO4 := Lib.hid (HO3.out.other (V := w4.drew) rfl)
    have HN2 := Lib.hid (HN1.out.other (V := w4.drew) rfl)
    clear HB3 HO3 HN1
    obtain ⟨p0, p1, p2, p3⟩ := HO4.out
    obtain ⟨b0, _⟩ := HB4.out.wo.bk.cells
    obtain ⟨_, ⟨m1, m2, m3, m4⟩, _⟩ := HB4.out.ha.cells
    refine wp_region_held_drew (S := (fun w' => w'.cell? ⟨q.B, 0, none⟩ = some (.pointer (some ⟨q.H, 0, none⟩)) ∧ w'.cell? ⟨q.H, 1, none⟩ = some (.int .i64 C.a) ∧ w'.cell? ⟨q.H, 2, none⟩ = some (.int .i64 C.b) ∧ w'.cell? ⟨q.H, 3, none⟩ = some (.int .i64 C.c) ∧ w'.cell? ⟨q.H, 4, none⟩ = some (.int .i64 C.d) ∧ w'.cell? ⟨O, 0, none⟩ = some (.int .i64 ok) ∧ w'.cell? ⟨O, 1, none⟩ = some (.int .i64 ox) ∧ w'.cell? ⟨O, 2, none⟩ = some (.int .i64 oy) ∧ w'.cell? ⟨O, 3, none⟩ = some (.int .i64 oz))) (by kernel_rfl) ?_ (fun hHeld => ?_)
    · exact ⟨b0, m1, m2, m3, m4, p0, p1, p2, p3⟩
    refine tk 0 rfl hHeld ?_
    refine tk 1 rfl hHeld ?_
    refine tk 2 rfl hHeld ?_
    refine tk 3 rfl hHeld ?_
    refine tk 4 rfl hHeld ?_
    refine tk 5 rfl hHeld ?_
    refine tk 6 rfl hHeld ?_
    refine tk 7 rfl hHeld ?_
    refine tk 8 rfl hHeld ?_
    refine wpAnyH_ready (rs := [9]) (by kernel_rfl) (by simp) ?_
    refine AllReadyH.cons (o := _) rfl (fun K hK => ?_) AllReadyH.nil
    go_simp
    refine (opCheck_c C.a C.b C.c C.d ok ox oy oz _ HB4.out.wo.env.1 HB4.out.wo.env.2).mono ?_
    rintro e V5 ⟨rfl, hb⟩
    have HB5 := Lib.hid (HB4.out.below hb)
    have HO5 := Lib.hid (HO4.out.other (hb.block _ HO4.out.lt))
    have HN3 := Lib.hid (HN2.out.other (hb.block _ (lt_of_cell HN2.out.1)))
    clear hb HB4 HO4 HN2 hHeld b0 m1 m2 m3 m4 p0 p1 p2 p3
    obtain ⟨p0, p1, p2, p3⟩ := HO5.out
    obtain ⟨b0, _⟩ := HB5.out.wo.bk.cells
    obtain ⟨_, ⟨m1, m2, m3, m4⟩, _⟩ := HB5.out.ha.cells
    refine hK.out _ _ ?_ (fun hHeld => ?_)
    · exact ⟨b0, m1, m2, m3, m4, p0, p1, p2, p3⟩
    clear hK K
    try simp only [Act.put, List.setIfInBounds_toArray, List.set_cons_zero, List.set_cons_succ]
    refine tk 10 rfl hHeld ?_
    refine wpAnyH_done (by kernel_rfl) ?_ _
    clear hHeld b0 m1 m2 m3 m4
    have gck := Hck.out
    generalize checkF C.a C.b C.c C.d ok ox oy oz = ck at *
    go_upto_region 7 with fail
    have HB6 := Lib.hid (HB5.out.below (below_new V5 (.cells #[.int .i64 (m : Int), .int .i64 3, .int .i64 ok, .int .i64 ox, .int .i64 oy, .int .i64 oz, .int .i64 6] 68)))
    have HN4 := Lib.hid (HN3.out.other (V := (V5.alloc (.cells #[.int .i64 (m : Int), .int .i64 3, .int .i64 ok, .int .i64 ox, .int .i64 oy, .int .i64 oz, .int .i64 6] 68))) ((below_new V5 _).block _ (lt_of_cell HN3.out.1)))
    have HM := Lib.hid (nt_new V5 (⟨(m : Int), 3, ok, ox, oy, oz, 6⟩ : Nt))
    clear HB5 HO5 HN3 p0 p1 p2 p3 gck
    generalize (V5.alloc (.cells #[.int .i64 (m : Int), .int .i64 3, .int .i64 ok, .int .i64 ox, .int .i64 oy, .int .i64 oz, .int .i64 6] 68)) = w6 at *
    generalize V5.heap.size = N2 at *
    have hT : w6.heap.size ≠ w.heap.size := by have := HB6.out.ev.lt; omega
    have hT2 : w.heap.size ≤ w6.heap.size := by have := HB6.out.ev.lt; omega
    have HFN' := bad_fin HB6.out (⟨(m : Int), 1, ok, ox, oy, oz, 0⟩ : Nt) (⟨(m : Int), 3, ok, ox, oy, oz, 6⟩ : Nt)
    dsimp only [putE] at HFN'
    have HFN := Lib.hid HFN'
    clear HFN'
    obtain ⟨n0, n1, n2, n3, n4, n5, n6⟩ := HN4.out
    obtain ⟨u0, u1, u2, u3, u4, u5, u6⟩ := HM.out
    dsimp only at n0 n1 n2 n3 n4 n5 n6 u0 u1 u2 u3 u4 u5 u6
    obtain ⟨v0, v1, v2, v3, v4, v5, v6, ef⟩ := HB6.out.ev.cells
    clear HN4 HM HB6
    have hT3 : w.heap.size ≠ w6.heap.size := fun e => hT e.symm
    have hT4 : w.heap.size < w6.heap.size := by omega
    clear hT hT2 hOE hOB
    go_wp2_with fail
    obtain ⟨e0, e1, e2, e3, e4, e5, e6, _⟩ := HFN.out.1.cells
    refine bodyPost_ret (v := .agg #[.bool true, .int .i64 0, .int .i64 0, .int .u64 0, .int .u64 0, .int .u64 0, .slice (some ⟨w6.heap.size, 0, none⟩) 2 2]) (by simp [results, Tryz.f34, go_sem, e0, e1, e2, e3, e4, e5, e6]) rfl ?_
    exact ⟨_, rfl, HFN.out.2.1, HFN.out.2.2.1, HFN.out.2.2.2⟩
  · have k1' : 0 < cap := by have := HhN.out; omega
    have k2 : (N : Int) ≤ (cap : Int) := by omega
    have k3 : (1 : Int) ≤ (N : Int) := by have := HhN.out; omega
    have k4 : ¬ (cap : Int) = 1 := by omega
    have k5 : (0 : Int) ≤ (N : Int) := by omega
    have HV' := HSl.out
    rw [show l.length = N - 1 by have := HhN.out; omega] at HV'
    have HV := Lib.hid HV'
    clear HV'
    go_upto_region 4 with fail
    clear k1' k2 k3 k4 k5 hc1
    have HB2 := Lib.hid (HB1.out.setL m HV.out)
    have HO2 := Lib.hid (HO1.out.other (V := (w2.setCell ⟨q.R, m * 14 + 13, none⟩ (.slice (some ⟨b, off + 4, none⟩) (N - 1) (cap - 1)))) (Below.heap_setCell _ _ _ _ hOB))
    clear HB1 HO1 HV HSl HSl0 hv hc rf p0 p1 p2 p3
    generalize (w2.setCell ⟨q.R, m * 14 + 13, none⟩ (.slice (some ⟨b, off + 4, none⟩) (N - 1) (cap - 1))) = w3 at *
    obtain ⟨p0, p1, p2, p3⟩ := HO2.out
    go_upto_region 5 with fail
    have HB3 := Lib.hid (HB2.out.below (below_new w3 (.cells #[.int .i64 (m : Int), .int .i64 1, .int .i64 ok, .int .i64 ox, .int .i64 oy, .int .i64 oz, .int .i64 0] 68)))
    have HO3 := Lib.hid (HO2.out.other (V := (w3.alloc (.cells #[.int .i64 (m : Int), .int .i64 1, .int .i64 ok, .int .i64 ox, .int .i64 oy, .int .i64 oz, .int .i64 0] 68))) ((below_new w3 _).block _ HO2.out.lt))
    have HN1 := Lib.hid (nt_new w3 (⟨(m : Int), 1, ok, ox, oy, oz, 0⟩ : Nt))
    have hNR : w3.heap.size ≠ q.R := by have := HB2.out.ev.lt; have := HB2.out.wo.ne.r.2; have := HB2.out.hb; omega
    clear HB2 HO2 p0 p1 p2 p3
    generalize (w3.alloc (.cells #[.int .i64 (m : Int), .int .i64 1, .int .i64 ok, .int .i64 ox, .int .i64 oy, .int .i64 oz, .int .i64 0] 68)) = w4 at *
    generalize w3.heap.size = N1 at *
    have HB4 := Lib.hid HB3.out.drew
    have HO4 := Lib.hid (HO3.out.other (V := w4.drew) rfl)
    have HN2 := Lib.hid (HN1.out.other (V := w4.drew) rfl)
    clear HB3 HO3 HN1
    obtain ⟨p0, p1, p2, p3⟩ := HO4.out
    obtain ⟨b0, _⟩ := HB4.out.wo.bk.cells
    obtain ⟨_, ⟨m1, m2, m3, m4⟩, _⟩ := HB4.out.ha.cells
    refine wp_region_held_drew (S := (fun w' => w'.cell? ⟨q.B, 0, none⟩ = some (.pointer (some ⟨q.H, 0, none⟩)) ∧ w'.cell? ⟨q.H, 1, none⟩ = some (.int .i64 C.a) ∧ w'.cell? ⟨q.H, 2, none⟩ = some (.int .i64 C.b) ∧ w'.cell? ⟨q.H, 3, none⟩ = some (.int .i64 C.c) ∧ w'.cell? ⟨q.H, 4, none⟩ = some (.int .i64 C.d) ∧ w'.cell? ⟨O, 0, none⟩ = some (.int .i64 ok) ∧ w'.cell? ⟨O, 1, none⟩ = some (.int .i64 ox) ∧ w'.cell? ⟨O, 2, none⟩ = some (.int .i64 oy) ∧ w'.cell? ⟨O, 3, none⟩ = some (.int .i64 oz))) (by kernel_rfl) ?_ (fun hHeld => ?_)
    · exact ⟨b0, m1, m2, m3, m4, p0, p1, p2, p3⟩
    refine tk 0 rfl hHeld ?_
    refine tk 1 rfl hHeld ?_
    refine tk 2 rfl hHeld ?_
    refine tk 3 rfl hHeld ?_
    refine tk 4 rfl hHeld ?_
    refine tk 5 rfl hHeld ?_
    refine tk 6 rfl hHeld ?_
    refine tk 7 rfl hHeld ?_
    refine tk 8 rfl hHeld ?_
    refine wpAnyH_ready (rs := [9]) (by kernel_rfl) (by simp) ?_
    refine AllReadyH.cons (o := _) rfl (fun K hK => ?_) AllReadyH.nil
    go_simp
    refine (opCheck_c C.a C.b C.c C.d ok ox oy oz _ HB4.out.wo.env.1 HB4.out.wo.env.2).mono ?_
    rintro e V5 ⟨rfl, hb⟩
    have HB5 := Lib.hid (HB4.out.below hb)
    have HO5 := Lib.hid (HO4.out.other (hb.block _ HO4.out.lt))
    have HN3 := Lib.hid (HN2.out.other (hb.block _ (lt_of_cell HN2.out.1)))
    clear hb HB4 HO4 HN2 hHeld b0 m1 m2 m3 m4 p0 p1 p2 p3
    obtain ⟨p0, p1, p2, p3⟩ := HO5.out
    obtain ⟨b0, _⟩ := HB5.out.wo.bk.cells
    obtain ⟨_, ⟨m1, m2, m3, m4⟩, _⟩ := HB5.out.ha.cells
    refine hK.out _ _ ?_ (fun hHeld => ?_)
    · exact ⟨b0, m1, m2, m3, m4, p0, p1, p2, p3⟩
    clear hK K
    try simp only [Act.put, List.setIfInBounds_toArray, List.set_cons_zero, List.set_cons_succ]
    refine tk 10 rfl hHeld ?_
    refine wpAnyH_done (by kernel_rfl) ?_ _
    clear hHeld b0 m1 m2 m3 m4
    have gck := Hck.out
    generalize checkF C.a C.b C.c C.d ok ox oy oz = ck at *
    go_upto_region 7 with fail
    have HB6 := Lib.hid (HB5.out.below (below_new V5 (.cells #[.int .i64 (m : Int), .int .i64 3, .int .i64 ok, .int .i64 ox, .int .i64 oy, .int .i64 oz, .int .i64 6] 68)))
    have HN4 := Lib.hid (HN3.out.other (V := (V5.alloc (.cells #[.int .i64 (m : Int), .int .i64 3, .int .i64 ok, .int .i64 ox, .int .i64 oy, .int .i64 oz, .int .i64 6] 68))) ((below_new V5 _).block _ (lt_of_cell HN3.out.1)))
    have HM := Lib.hid (nt_new V5 (⟨(m : Int), 3, ok, ox, oy, oz, 6⟩ : Nt))
    clear HB5 HO5 HN3 p0 p1 p2 p3 gck
    generalize (V5.alloc (.cells #[.int .i64 (m : Int), .int .i64 3, .int .i64 ok, .int .i64 ox, .int .i64 oy, .int .i64 oz, .int .i64 6] 68)) = w6 at *
    generalize V5.heap.size = N2 at *
    have hT : w6.heap.size ≠ w.heap.size := by have := HB6.out.ev.lt; omega
    have hT2 : w.heap.size ≤ w6.heap.size := by have := HB6.out.ev.lt; omega
    have HFN' := bad_fin HB6.out (⟨(m : Int), 1, ok, ox, oy, oz, 0⟩ : Nt) (⟨(m : Int), 3, ok, ox, oy, oz, 6⟩ : Nt)
    dsimp only [putE] at HFN'
    have HFN := Lib.hid HFN'
    clear HFN'
    obtain ⟨n0, n1, n2, n3, n4, n5, n6⟩ := HN4.out
    obtain ⟨u0, u1, u2, u3, u4, u5, u6⟩ := HM.out
    dsimp only at n0 n1 n2 n3 n4 n5 n6 u0 u1 u2 u3 u4 u5 u6
    obtain ⟨v0, v1, v2, v3, v4, v5, v6, ef⟩ := HB6.out.ev.cells
    clear HN4 HM HB6
    have hT3 : w.heap.size ≠ w6.heap.size := fun e => hT e.symm
    have hT4 : w.heap.size < w6.heap.size := by omega
    clear hT hT2 hOE hOB
    go_wp2_with fail
    obtain ⟨e0, e1, e2, e3, e4, e5, e6, _⟩ := HFN.out.1.cells
    refine bodyPost_ret (v := .agg #[.bool true, .int .i64 0, .int .i64 0, .int .u64 0, .int .u64 0, .int .u64 0, .slice (some ⟨w6.heap.size, 0, none⟩) 2 2]) (by simp [results, Tryz.f34, go_sem, e0, e1, e2, e3, e4, e5, e6]) rfl ?_
    exact ⟨_, rfl, HFN.out.2.1, HFN.out.2.2.1, HFN.out.2.2.2⟩
end Go.Proofs.YtbpooljohjkbjaaGreatDoor
