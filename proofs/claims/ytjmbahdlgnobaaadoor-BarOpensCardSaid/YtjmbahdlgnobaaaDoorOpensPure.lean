/- Some mutators that go in and out and the gate that is shut and opened, each picked once a round: by a plain run of what matters, without memory. -/
import Derived.Test.YtjmbahdlgnobaaaDoorShutPure
namespace Go.Proofs.YtjmbahdlgnobaaaDoor
open Go Go.RowKit
set_option maxRecDepth 100000

/-- What matters: whether it is shut, ins, lines, how often each went out; the collector's line, mutator, word; how often it began anew. -/
structure BoS where
  sh : Bool
  ins : List Nat
  ln : List Nat
  got : List Nat
  cl : Nat
  cm : Nat
  ca : Nat
  n : Nat
def boInc : List Nat → Nat → Nat → List Nat
  | [], _, _ => []
  | x :: l, 0, z => (x + z) :: l
  | x :: l, m+1, z => x :: boInc l m z
def boPut : List Nat → Nat → Nat → List Nat
  | [], _, _ => []
  | _ :: l, 0, z => z :: l
  | x :: l, m+1, z => x :: boPut l m z
def boGet : List Nat → Nat → Nat
  | [], _ => 0
  | x :: _, 0 => x
  | _ :: l, m+1 => boGet l m
def boMut (S : BoS) (m : Nat) : BoS :=
  if boGet S.ln m = 0 then { S with ins := boInc S.ins m 1, ln := boPut S.ln m 2 }
  else if boGet S.ln m = 2 then { S with ln := boPut S.ln m (if S.sh then 4 else 3) }
  else if boGet S.ln m = 3 then { S with ins := boInc S.ins m 1, ln := boPut S.ln m 24 }
  else if boGet S.ln m = 4 then { S with ins := boInc S.ins m 2, ln := boPut S.ln m 5 }
  else if boGet S.ln m = 5 then { S with ln := boPut S.ln m (if S.sh then 5 else 6) }
  else if boGet S.ln m = 6 then { S with ins := boInc S.ins m 3, ln := boPut S.ln m 24 }
  else { S with ins := boInc S.ins m 2, ln := boPut S.ln m 0, got := boInc S.got m 1 }
def boNext (k : Nat) (S : BoS) (n q : Nat) : BoS := if S.cm + 1 < k then { S with cm := S.cm + 1, cl := n } else { S with cm := 0, cl := q }
def boCol0 (k : Nat) (S : BoS) : BoS :=
  if S.cl = 10 then
    (if boGet S.ins S.cm % 4 = 1 ∨ boGet S.ins S.cm % 4 = 3 then { S with ca := boGet S.ins S.cm, cl := 16 } else boNext k { S with ca := 0 } 10 11)
  else if S.cl = 16 then
    (if boGet S.ins S.cm = S.ca ∨ boGet S.ins S.cm % 4 = 3 then { S with ca := boGet S.ins S.cm, cl := 16 } else boNext k { S with ca := 0 } 10 11)
  else if S.cl = 11 then { S with sh := true, cl := 12 }
  else if S.cl = 12 then
    (if boGet S.ins S.cm % 4 = 1 ∨ boGet S.ins S.cm % 4 = 2 then S else boNext k S 12 13)
  else if S.cl = 13 then { S with cl := 14 }
  else { S with sh := false, cl := 20 }
def boCol (k : Nat) (S : BoS) : BoS :=
  if S.cl = 20 then boCol0 k { S with cl := 10, cm := 0, n := S.n + 1 } else boCol0 k S
/-- Who is picked; one pick, a round's first picks, rounds. -/
def boWho (k r q i : Nat) : Nat := (i + q * r) % (k + 1)
def boPick (k r q : Nat) (S : BoS) (i : Nat) : BoS := if boWho k r q i = k then boCol k S else boMut S (boWho k r q i)
def boPicks (k r q : Nat) (S : BoS) : Nat → BoS
  | 0 => S
  | i+1 => boPick k r q (boPicks k r q S i) i
def boZeros : Nat → List Nat
  | 0 => []
  | n+1 => 0 :: boZeros n
def boFirst (k : Nat) : BoS := ⟨false, boZeros k, boZeros k, boZeros k, 10, 0, 0, 0⟩
def boRuns (k r : Nat) : Nat → BoS
  | 0 => boFirst k
  | q+1 => boPicks k r q (boRuns k r q) (k+1)
def boAll : List Nat → Bool
  | [] => true
  | x :: l => Nat.ble 2 x && boAll l
def boOK (S : BoS) : Bool := boAll S.got && Nat.ble 1 S.n
/-- Behind 23 rounds each has been in and out twice, and it was shut anew. -/
theorem bo_23 : ∀ k < 5, ∀ r < k + 2, boOK (boRuns (k + 1) r 23) = true := by decide +kernel
theorem boGet_inc (z : Nat) : ∀ (l : List Nat) (m j : Nat), boGet (boInc l m z) j = if j = m ∧ m < l.length then boGet l j + z else boGet l j
  | [], m, j => by simp [boInc]
  | x :: l, 0, 0 => by simp [boInc, boGet]
  | x :: l, 0, j+1 => by simp [boInc, boGet]
  | x :: l, m+1, 0 => by simp [boInc, boGet]
  | x :: l, m+1, j+1 => by simp [boInc, boGet, boGet_inc z l m j]
theorem boGet_put (z : Nat) : ∀ (l : List Nat) (m j : Nat), boGet (boPut l m z) j = if j = m ∧ m < l.length then z else boGet l j
  | [], m, j => by simp [boPut]
  | x :: l, 0, 0 => by simp [boPut, boGet]
  | x :: l, 0, j+1 => by simp [boPut, boGet]
  | x :: l, m+1, 0 => by simp [boPut, boGet]
  | x :: l, m+1, j+1 => by simp [boPut, boGet, boGet_put z l m j]
theorem boInc_len (z : Nat) : ∀ (l : List Nat) (m : Nat), (boInc l m z).length = l.length
  | [], m => rfl
  | x :: l, 0 => rfl
  | x :: l, m+1 => by simp [boInc, boInc_len z l m]
theorem boPut_len (z : Nat) : ∀ (l : List Nat) (m : Nat), (boPut l m z).length = l.length
  | [], m => rfl
  | x :: l, 0 => rfl
  | x :: l, m+1 => by simp [boPut, boPut_len z l m]
theorem boZeros_len : ∀ k, (boZeros k).length = k
  | 0 => rfl
  | k+1 => by simp [boZeros, boZeros_len k]
theorem boGet_zeros : ∀ k j, boGet (boZeros k) j = 0
  | 0, _ => rfl
  | _+1, 0 => rfl
  | k+1, j+1 => boGet_zeros k j
theorem boAll_get : ∀ {l : List Nat}, boAll l = true → ∀ m, m < l.length → 2 ≤ boGet l m
  | [], _, m, h => by simp at h
  | x :: l, h, 0, _ => by
    have := (Bool.and_eq_true_iff.1 h).1
    exact Nat.le_of_ble_eq_true this
  | x :: l, h, m+1, hm => boAll_get (Bool.and_eq_true_iff.1 h).2 m (by simpa using hm)
/-- It only grows. -/
def BoLe (S T : BoS) : Prop := S.n ≤ T.n ∧ ∀ m, boGet S.got m ≤ boGet T.got m
theorem BoLe.refl (S : BoS) : BoLe S S := ⟨Nat.le_refl _, fun _ => Nat.le_refl _⟩
theorem BoLe.trans {S T R : BoS} (h : BoLe S T) (h2 : BoLe T R) : BoLe S R := ⟨Nat.le_trans h.1 h2.1, fun m => Nat.le_trans (h.2 m) (h2.2 m)⟩
theorem boMut_le (S : BoS) (m : Nat) : BoLe S (boMut S m) := by
  unfold boMut
  repeat' split
  all_goals first | exact ⟨Nat.le_refl _, fun _ => Nat.le_refl _⟩ | exact ⟨Nat.le_refl _, fun j => by (dsimp only; rw [boGet_inc]; split <;> omega)⟩
theorem boNext_le (k : Nat) (S : BoS) (n q : Nat) : (boNext k S n q).n = S.n ∧ (boNext k S n q).got = S.got := by
  unfold boNext
  split <;> exact ⟨rfl, rfl⟩
theorem boCol0_le (k : Nat) (S : BoS) : (boCol0 k S).n = S.n ∧ (boCol0 k S).got = S.got := by
  unfold boCol0
  repeat' split
  all_goals first | exact ⟨rfl, rfl⟩ | exact boNext_le k _ _ _
theorem boCol_le (k : Nat) (S : BoS) : BoLe S (boCol k S) := by
  unfold boCol
  split
  · obtain ⟨h1, h2⟩ := boCol0_le k { S with cl := 10, cm := 0, n := S.n + 1 }
    exact ⟨by rw [h1]; exact Nat.le_succ _, fun m => by rw [h2]; exact Nat.le_refl _⟩
  · obtain ⟨h1, h2⟩ := boCol0_le k S
    exact ⟨by rw [h1]; exact Nat.le_refl _, fun m => by rw [h2]; exact Nat.le_refl _⟩
theorem boPick_le (k r q : Nat) (S : BoS) (i : Nat) : BoLe S (boPick k r q S i) := by
  unfold boPick
  split
  · exact boCol_le k S
  · exact boMut_le S _
theorem boPicks_le (k r q : Nat) (S : BoS) : ∀ i, BoLe S (boPicks k r q S i)
  | 0 => BoLe.refl S
  | i+1 => (boPicks_le k r q S i).trans (boPick_le k r q _ i)
theorem boRuns_le (k r : Nat) {n : Nat} : ∀ {q : Nat}, n ≤ q → BoLe (boRuns k r n) (boRuns k r q)
  | 0, h => by have : n = 0 := by omega
               subst this; exact BoLe.refl _
  | q+1, h => by
    by_cases e : n = q + 1
    · subst e; exact BoLe.refl _
    · exact (boRuns_le k r (q := q) (by omega)).trans (boPicks_le k r q _ (k + 1))
theorem boWho_mod (k r q i : Nat) : boWho k r q i = boWho k (r % (k + 1)) q i := by
  unfold boWho
  rw [Nat.add_mod, Nat.mul_mod, Nat.add_mod i, Nat.mul_mod q (r % (k + 1)), Nat.mod_mod]
theorem boPicks_mod (k r q : Nat) (S : BoS) : ∀ i, boPicks k r q S i = boPicks k (r % (k + 1)) q S i
  | 0 => rfl
  | i+1 => by
    show boPick k r q (boPicks k r q S i) i = boPick k (r % (k + 1)) q (boPicks k (r % (k + 1)) q S i) i
    rw [← boPicks_mod k r q S i]
    unfold boPick
    rw [← boWho_mod]
theorem boRuns_mod (k r : Nat) : ∀ q, boRuns k r q = boRuns k (r % (k + 1)) q
  | 0 => rfl
  | q+1 => by
    show boPicks k r q (boRuns k r q) (k + 1) = boPicks k (r % (k + 1)) q (boRuns k (r % (k + 1)) q) (k + 1)
    rw [boRuns_mod k r q, boPicks_mod]
/-- How it comes out. -/
theorem bo_end {k : Nat} (hk : 1 ≤ k ∧ k ≤ 5) (r q : Nat) (hq : 23 ≤ q) (hlen : (boRuns k r 23).got.length = k) : 1 ≤ (boRuns k r q).n ∧ ∀ m, m < k → 2 ≤ boGet (boRuns k r q).got m := by
  obtain ⟨k', rfl⟩ : ∃ k', k = k' + 1 := ⟨k - 1, by omega⟩
  have h := bo_23 k' (by omega) (r % (k' + 2)) (Nat.mod_lt _ (by omega))
  have e := boRuns_mod (k' + 1) r 23
  rw [← e] at h
  have hle := boRuns_le (k' + 1) r hq
  obtain ⟨h1, h2⟩ := Bool.and_eq_true_iff.1 h
  exact ⟨Nat.le_trans (Nat.le_of_ble_eq_true h2) hle.1, fun m hm => Nat.le_trans (boAll_get h1 m (by omega)) (hle.2 m)⟩
/-- The words and how far all are, behind at most N steps, are what the run tells. -/
structure BoSim (k N : Nat) (S : BoS) (s : Dy) (ln kd : Nat → Int) (x : Co) : Prop where
  u : s.U
  gate : s.f 1 = if S.sh then 1 else 0
  dirty : s.f 2 = 0
  ins : ∀ m, m < k → s.f (5 + m) = boGet S.ins m
  low : ∀ m, boGet S.ins m ≤ 3 * N
  lns : ∀ m, m < k → ln m = boGet S.ln m
  line : ∀ m, m < k → boGet S.ln m = 0 ∨ boGet S.ln m = 2 ∨ boGet S.ln m = 3 ∨ boGet S.ln m = 4 ∨ boGet S.ln m = 5 ∨ boGet S.ln m = 6 ∨ boGet S.ln m = 24
  kds : ∀ m, m < k → ln m ≠ 0 → kd m = 11
  col : x = ⟨S.cl, 0, 0, S.cm, S.ca, 0, false, 0, 0⟩
  cls : S.cl = 10 ∨ S.cl = 11 ∨ S.cl = 12 ∨ S.cl = 13 ∨ S.cl = 14 ∨ S.cl = 16 ∨ S.cl = 20
  cm : S.cm < k
  l1 : S.ins.length = k
  l2 : S.ln.length = k
  l3 : S.got.length = k
  gots : ∀ m, boGet S.got m ≤ N
  ns : S.n ≤ N
theorem BoSim.first {k : Nat} (hk : 1 ≤ k ∧ k ≤ 5) : BoSim k 0 (boFirst k) ⟨fstV 2 k 1 0, 0, 0, 0, 0, 0⟩ (fun _ => 0) (fun _ => 0) ⟨10, 0, 0, 0, 0, 0, false, 0, 0⟩ where
  u := fst_u64 (rightK hk)
  gate := fst_gate hk
  dirty := by
    rcases (by omega : k = 1 ∨ k = 2 ∨ k = 3 ∨ k = 4 ∨ k = 5) with rfl | rfl | rfl | rfl | rfl
    all_goals rfl
  ins := fun m hm => by show fstV 2 k 1 0 (5 + m) = _; rw [fst_in hk hm]; show 0 = ((boGet (boZeros k) m : Nat) : Int); rw [boGet_zeros]; rfl
  low := fun m => by show boGet (boZeros k) m ≤ _; rw [boGet_zeros]; omega
  lns := fun m _ => by show 0 = ((boGet (boZeros k) m : Nat) : Int); rw [boGet_zeros]; rfl
  line := fun m _ => .inl (boGet_zeros k m)
  kds := fun _ _ h => absurd rfl h
  col := rfl
  cls := .inl rfl
  cm := by show 0 < k; omega
  l1 := boZeros_len k
  l2 := boZeros_len k
  l3 := boZeros_len k
  gots := fun m => by show boGet (boZeros k) m ≤ _; rw [boGet_zeros]; omega
  ns := Nat.le_refl 0
/-- A mutator adds to its in. -/
theorem BoSim.add {k N : Nat} (hk : 1 ≤ k ∧ k ≤ 5) (hN : N ≤ 100000) {S : BoS} {s : Dy} {ln kd : Nat → Int} {x : Co} (h : BoSim k N S s ln kd x) {m : Nat} (hm : m < k) (z ly : Nat) (hz : z ≤ 3) (g : List Nat) (hg : g.length = k) (hgs : ∀ j, boGet g j ≤ N + 1)
    (hly : ly = 0 ∨ ly = 2 ∨ ly = 3 ∨ ly = 4 ∨ ly = 5 ∨ ly = 6 ∨ ly = 24) : BoSim k (N + 1) ⟨S.sh, boInc S.ins m z, boPut S.ln m ly, g, S.cl, S.cm, S.ca, S.n⟩ (s.act (CK k) 4 (inP 2 k 1 0 m) z 0) (upd ln m ly) (upd kd m 11) x where
  u := h.u.act (CK k) 4 (inP 2 k 1 0 m) (by unfold U64; omega) u64_zero
  gate := by rw [actK hk hm, upd_ne _ _ (by omega)]; exact h.gate
  dirty := by rw [actK hk hm, upd_ne _ _ (by omega)]; exact h.dirty
  ins := fun j hj => by
    rw [actK hk hm]
    show _ = ((boGet (boInc S.ins m z) j : Nat) : Int)
    rw [boGet_inc, h.l1]
    have e1 := h.ins j hj
    have e2 := h.low j
    by_cases e : j = m
    · subst e
      rw [upd_at, if_pos ⟨rfl, hj⟩, e1]
      unfold sumW
      omega
    · rw [upd_ne _ _ (by omega), if_neg (fun q => e q.1)]; exact e1
  low := fun j => by
    show boGet (boInc S.ins m z) j ≤ _
    rw [boGet_inc]
    have e2 := h.low j
    split <;> omega
  lns := fun j hj => by
    show _ = ((boGet (boPut S.ln m ly) j : Nat) : Int)
    rw [boGet_put, h.l2]
    by_cases e : j = m
    · subst e; rw [upd_at, if_pos ⟨rfl, hj⟩]
    · rw [upd_ne _ _ e, if_neg (fun q => e q.1)]; exact h.lns j hj
  line := fun j hj => by
    dsimp only
    rw [boGet_put, h.l2]
    by_cases e : j = m
    · rw [if_pos ⟨e, hm⟩]; exact hly
    · rw [if_neg (fun q => e q.1)]; exact h.line j hj
  kds := fun j hj hq => by
    by_cases e : j = m
    · subst e; exact upd_at _ _ _
    · rw [upd_ne _ _ e] at hq ⊢; exact h.kds j hj hq
  col := h.col
  cls := h.cls
  cm := h.cm
  l1 := (boInc_len z S.ins m).trans h.l1
  l2 := (boPut_len ly S.ln m).trans h.l2
  l3 := hg
  gots := hgs
  ns := Nat.le_succ_of_le h.ns
/-- A mutator looks at the gate. -/
theorem BoSim.see {k N : Nat} {S : BoS} {s : Dy} {ln kd : Nat → Int} {x : Co} (h : BoSim k N S s ln kd x) {m : Nat} (hm : m < k) (ly : Nat)
    (hly : ly = 0 ∨ ly = 2 ∨ ly = 3 ∨ ly = 4 ∨ ly = 5 ∨ ly = 6 ∨ ly = 24) : BoSim k (N + 1) ⟨S.sh, S.ins, boPut S.ln m ly, S.got, S.cl, S.cm, S.ca, S.n⟩ (s.act (CK k) 1 1 0 0) (upd ln m ly) (upd kd m 11) x where
  u := h.u.act (CK k) 1 1 u64_zero u64_zero
  gate := by rw [lookK]; exact h.gate
  dirty := by rw [lookK]; exact h.dirty
  ins := fun j hj => by rw [lookK]; exact h.ins j hj
  low := fun j => by have := h.low j; show boGet S.ins j ≤ _; omega
  lns := fun j hj => by
    show _ = ((boGet (boPut S.ln m ly) j : Nat) : Int)
    rw [boGet_put, h.l2]
    by_cases e : j = m
    · subst e; rw [upd_at, if_pos ⟨rfl, hj⟩]
    · rw [upd_ne _ _ e, if_neg (fun q => e q.1)]; exact h.lns j hj
  line := fun j hj => by
    dsimp only
    rw [boGet_put, h.l2]
    by_cases e : j = m
    · rw [if_pos ⟨e, hm⟩]; exact hly
    · rw [if_neg (fun q => e q.1)]; exact h.line j hj
  kds := fun j hj hq => by
    by_cases e : j = m
    · subst e; exact upd_at _ _ _
    · rw [upd_ne _ _ e] at hq ⊢; exact h.kds j hj hq
  col := h.col
  cls := h.cls
  cm := h.cm
  l1 := h.l1
  l2 := (boPut_len ly S.ln m).trans h.l2
  l3 := h.l3
  gots := fun j => Nat.le_succ_of_le (h.gots j)
  ns := Nat.le_succ_of_le h.ns
/-- A mutator's step. -/
theorem BoSim.mut {k N : Nat} (hk : 1 ≤ k ∧ k ≤ 5) (hN : N ≤ 100000) {S : BoS} {s : Dy} {ln kd : Nat → Int} {x : Co} (h : BoSim k N S s ln kd x) {m : Nat} (hm : m < k) :
    ∃ s' ly, gateS (CK k) s m (mL (goL1 (goL0 (ln m)))) = (s', mL ly, true) ∧ BoSim k (N + 1) (boMut S m) s' (upd ln m ly) (upd kd m 11) x ∧ ∀ j, boGet (boMut S m).got j = if j = m ∧ ln m = 24 then boGet S.got j + 1 else boGet S.got j := by
  have hl := h.lns m hm
  have hg := h.gate
  have gs : ∀ j, boGet S.got j ≤ N + 1 := fun j => Nat.le_succ_of_le (h.gots j)
  rcases h.line m hm with e | e | e | e | e | e | e
  · have hM : boMut S m = ⟨S.sh, boInc S.ins m 1, boPut S.ln m 2, S.got, S.cl, S.cm, S.ca, S.n⟩ := by unfold boMut; rw [if_pos e]
    rw [e] at hl
    refine ⟨_, 2, ?_, by rw [hM]; exact h.add hk hN hm 1 2 (by omega) S.got h.l3 gs (by omega), fun j => by rw [hM]; exact (if_neg (fun q : j = m ∧ ln m = 24 => by omega)).symm⟩
    rw [hl]; rfl
  · have hM : boMut S m = ⟨S.sh, S.ins, boPut S.ln m (if S.sh then 4 else 3), S.got, S.cl, S.cm, S.ca, S.n⟩ := by unfold boMut; rw [if_neg (by omega), if_pos e]
    rw [e] at hl
    have := h.see hm (if S.sh then 4 else 3) (by cases S.sh <;> simp)
    refine ⟨_, (((if S.sh then 4 else 3) : Nat) : Int), ?_, by rw [hM]; exact this, fun j => by rw [hM]; exact (if_neg (fun q : j = m ∧ ln m = 24 => by omega)).symm⟩
    rw [hl]
    show (_, mL (if z5 (CK k).n 1 1 (s.f 1) = 0 then 3 else 4), true) = _
    rw [seeK, hg]; cases S.sh <;> rfl
  · have hM : boMut S m = ⟨S.sh, boInc S.ins m 1, boPut S.ln m 24, S.got, S.cl, S.cm, S.ca, S.n⟩ := by unfold boMut; rw [if_neg (by omega), if_neg (by omega), if_pos e]
    rw [e] at hl
    refine ⟨_, 24, ?_, by rw [hM]; exact h.add hk hN hm 1 24 (by omega) S.got h.l3 gs (by omega), fun j => by rw [hM]; exact (if_neg (fun q : j = m ∧ ln m = 24 => by omega)).symm⟩
    rw [hl]; rfl
  · have hM : boMut S m = ⟨S.sh, boInc S.ins m 2, boPut S.ln m 5, S.got, S.cl, S.cm, S.ca, S.n⟩ := by unfold boMut; rw [if_neg (by omega), if_neg (by omega), if_neg (by omega), if_pos e]
    rw [e] at hl
    refine ⟨_, 5, ?_, by rw [hM]; exact h.add hk hN hm 2 5 (by omega) S.got h.l3 gs (by omega), fun j => by rw [hM]; exact (if_neg (fun q : j = m ∧ ln m = 24 => by omega)).symm⟩
    rw [hl]; rfl
  · have hM : boMut S m = ⟨S.sh, S.ins, boPut S.ln m (if S.sh then 5 else 6), S.got, S.cl, S.cm, S.ca, S.n⟩ := by unfold boMut; rw [if_neg (by omega), if_neg (by omega), if_neg (by omega), if_neg (by omega), if_pos e]
    rw [e] at hl
    have := h.see hm (if S.sh then 5 else 6) (by cases S.sh <;> simp)
    refine ⟨_, (((if S.sh then 5 else 6) : Nat) : Int), ?_, by rw [hM]; exact this, fun j => by rw [hM]; exact (if_neg (fun q : j = m ∧ ln m = 24 => by omega)).symm⟩
    rw [hl]
    show (_, mL (if z5 (CK k).n 1 1 (s.f 1) = 0 then 6 else 5), true) = _
    rw [seeK, hg]; cases S.sh <;> rfl
  · have hM : boMut S m = ⟨S.sh, boInc S.ins m 3, boPut S.ln m 24, S.got, S.cl, S.cm, S.ca, S.n⟩ := by unfold boMut; rw [if_neg (by omega), if_neg (by omega), if_neg (by omega), if_neg (by omega), if_neg (by omega), if_pos e]
    rw [e] at hl
    refine ⟨_, 24, ?_, by rw [hM]; exact h.add hk hN hm 3 24 (by omega) S.got h.l3 gs (by omega), fun j => by rw [hM]; exact (if_neg (fun q : j = m ∧ ln m = 24 => by omega)).symm⟩
    rw [hl]; rfl
  · have hM : boMut S m = ⟨S.sh, boInc S.ins m 2, boPut S.ln m 0, boInc S.got m 1, S.cl, S.cm, S.ca, S.n⟩ := by unfold boMut; rw [if_neg (by omega), if_neg (by omega), if_neg (by omega), if_neg (by omega), if_neg (by omega), if_neg (by omega)]
    rw [e] at hl
    refine ⟨_, 0, ?_, by rw [hM]; exact h.add hk hN hm 2 0 (by omega) (boInc S.got m 1) ((boInc_len 1 S.got m).trans h.l3) (fun j => by rw [boGet_inc]; have := h.gots j; split <;> omega) (by omega), fun j => ?_⟩
    · rw [hl]; rfl
    · rw [hM]; show boGet (boInc S.got m 1) j = _
      rw [boGet_inc, h.l3]
      by_cases e2 : j = m
      · rw [if_pos ⟨e2, hm⟩, if_pos ⟨e2, hl⟩]
      · rw [if_neg (fun q => e2 q.1), if_neg (fun q => e2 q.1)]
/-- The collector begins anew. -/
def boTop (x : Co) : Co := if x.l = 3 ∨ x.l = 20 then { x with l := 10, m := 0 } else x
/-- Where nothing but the collector has gone on. -/
theorem BoSim.to {k N : Nat} {S T : BoS} {s s' : Dy} {ln kd : Nat → Int} {x x' : Co} (h : BoSim k N S s ln kd x) (hu : s'.U) (hg : s'.f 1 = if T.sh then 1 else 0) (hf : ∀ j, j ≠ 1 → s'.f j = s.f j)
    (e1 : T.ins = S.ins) (e2 : T.ln = S.ln) (e3 : T.got = S.got) (hx : x' = ⟨T.cl, 0, 0, T.cm, T.ca, 0, false, 0, 0⟩) (hc : T.cl = 10 ∨ T.cl = 11 ∨ T.cl = 12 ∨ T.cl = 13 ∨ T.cl = 14 ∨ T.cl = 16 ∨ T.cl = 20) (hm : T.cm < k) (hn : T.n ≤ N + 1) : BoSim k (N + 1) T s' ln kd x' where
  u := hu
  gate := hg
  dirty := by rw [hf 2 (by omega)]; exact h.dirty
  ins := fun m hm => by rw [hf _ (by omega), e1]; exact h.ins m hm
  low := fun m => by rw [e1]; have := h.low m; omega
  lns := by rw [e2]; exact h.lns
  line := by rw [e2]; exact h.line
  kds := h.kds
  col := hx
  cls := hc
  cm := hm
  l1 := by rw [e1]; exact h.l1
  l2 := by rw [e2]; exact h.l2
  l3 := by rw [e3]; exact h.l3
  gots := fun m => by rw [e3]; exact Nat.le_succ_of_le (h.gots m)
  ns := hn
theorem BoSim.col0 {k N : Nat} (hk : 1 ≤ k ∧ k ≤ 5) {S : BoS} {s : Dy} {ln kd : Nat → Int} {x : Co} (h : BoSim k N S s ln kd x) (hl : S.cl ≠ 20) (S' : BoS) (hS : S' = { S with n := S'.n }) (hn : S'.n ≤ N + 1) :
    ∃ s' x' fl, shutS (CK k) s x = (s', x', fl, true) ∧ BoSim k (N + 1) (boCol0 k S') s' ln kd x' := by
  have hm := h.cm
  obtain ⟨sh', zi', l', got', cl', zm', ca', n⟩ := S
  obtain ⟨sh, zi, l, got, cl, zm, ca, n'⟩ := S'
  simp only [BoS.mk.injEq] at hS
  obtain ⟨rfl, rfl, rfl, rfl, rfl, rfl, rfl, _⟩ := hS
  have hx := h.col
  dsimp only at hx hm hl hn
  subst hx
  have el := ldK hk s hm
  have ei := h.ins zm hm
  have hU := fun (i : Int) => h.u.act (CK k) 1 i u64_zero u64_zero
  have hcl := h.cls
  dsimp only at hcl ei
  rw [ei] at el
  have look : ∀ (ca' cl' : Nat), (cl' = 10 ∨ cl' = 11 ∨ cl' = 12 ∨ cl' = 13 ∨ cl' = 14 ∨ cl' = 16 ∨ cl' = 20) → ∀ i, BoSim k (N + 1) ⟨sh, zi, l, got, cl', zm, ca', n'⟩ (s.act (CK k) 1 i 0 0) ln kd ⟨cl', 0, 0, zm, ca', 0, false, 0, 0⟩ := fun ca' cl' hc i =>
    h.to (hU i) (by rw [lookI]; exact h.gate) (fun j _ => by rw [lookI]) rfl rfl rfl rfl hc hm hn
  have hnx : ∀ (a n q l0 : Nat), (n = 10 ∨ n = 12) → (q = 11 ∨ q = 13) → ∀ i, BoSim k (N + 1) (boNext k ⟨sh, zi, l, got, cl, zm, a, n'⟩ n q) (s.act (CK k) 1 i 0 0) ln kd (nextMut (CK k) ⟨l0, 0, 0, zm, a, 0, false, 0, 0⟩ n q) := fun a n q l0 hn1 hq1 i => by
    unfold boNext nextMut
    dsimp only
    by_cases e : zm + 1 < k
    · rw [if_pos e, if_pos (by omega)]
      exact h.to (hU i) (by rw [lookI]; exact h.gate) (fun j _ => by rw [lookI]) rfl rfl rfl (by simp) (by dsimp only; omega) e hn
    · rw [if_neg e, if_neg (by omega)]
      exact h.to (hU i) (by rw [lookI]; exact h.gate) (fun j _ => by rw [lookI]) rfl rfl rfl (by simp) (by dsimp only; omega) (by dsimp only; omega) hn
  rcases hcl with e | e | e | e | e | e | e
  · subst e
    by_cases hv : boGet zi zm % 4 = 1 ∨ boGet zi zm % 4 = 3
    · refine ⟨s.act (CK k) 1 (inP 2 k 1 0 zm) 0 0, ⟨16, 0, 0, zm, boGet zi zm, 0, false, 0, 0⟩, false, ?_, ?_⟩
      · have hv' : ((boGet zi zm : Nat) : Int) % 4 = 1 ∨ ((boGet zi zm : Nat) : Int) % 4 = 3 := by omega
        simp only [shutS, el, hv']; rfl
      · unfold boCol0; rw [if_pos rfl, if_pos hv]; exact look _ 16 (by omega) _
    · refine ⟨s.act (CK k) 1 (inP 2 k 1 0 zm) 0 0, nextMut (CK k) ⟨10, 0, 0, zm, 0, 0, false, 0, 0⟩ 10 11, false, ?_, ?_⟩
      · have hv' : ¬ (((boGet zi zm : Nat) : Int) % 4 = 1 ∨ ((boGet zi zm : Nat) : Int) % 4 = 3) := by omega
        simp only [shutS, el, hv']; rfl
      · unfold boCol0; rw [if_pos rfl, if_neg hv]; exact hnx 0 10 11 10 (by omega) (by omega) _
  · subst e
    exact ⟨s.act (CK k) 2 1 1 0, ⟨12, 0, 0, zm, ca, 0, false, 0, 0⟩, false, by simp [shutS],
      h.to (h.u.act (CK k) 2 1 (by unfold U64; omega) u64_zero) (by rw [turnK]; exact upd_at _ _ _) (fun j hj => by rw [turnK]; exact upd_ne _ _ hj) rfl rfl rfl rfl (by simp [boCol0]) hm hn⟩
  · subst e
    by_cases hv : boGet zi zm % 4 = 1 ∨ boGet zi zm % 4 = 2
    · refine ⟨s.act (CK k) 1 (inP 2 k 1 0 zm) 0 0, ⟨12, 0, 0, zm, ca, 0, false, 0, 0⟩, false, ?_, ?_⟩
      · have hv' : ((boGet zi zm : Nat) : Int) % 4 = 1 ∨ ((boGet zi zm : Nat) : Int) % 4 = 2 := by omega
        simp only [shutS, el, hv']; rfl
      · unfold boCol0; rw [if_neg (by simp), if_neg (by simp), if_neg (by simp), if_pos rfl, if_pos hv]; exact look _ 12 (by omega) _
    · refine ⟨s.act (CK k) 1 (inP 2 k 1 0 zm) 0 0, nextMut (CK k) ⟨12, 0, 0, zm, ca, 0, false, 0, 0⟩ 12 13, false, ?_, ?_⟩
      · have hv' : ¬ (((boGet zi zm : Nat) : Int) % 4 = 1 ∨ ((boGet zi zm : Nat) : Int) % 4 = 2) := by omega
        simp only [shutS, el, hv']; rfl
      · unfold boCol0; rw [if_neg (by simp), if_neg (by simp), if_neg (by simp), if_pos rfl, if_neg hv]; exact hnx ca 12 13 12 (by omega) (by omega) _
  · subst e
    have hd : ldP (CK k) s 2 = 0 := by unfold ldP; rw [z5_in _ (by omega) (by dsimp only; omega)]; exact h.dirty
    exact ⟨s.act (CK k) 1 2 0 0, ⟨14, 0, 0, zm, ca, 0, false, 0, 0⟩, true, by simp [shutS, hd], look ca 14 (by omega) 2⟩
  · subst e
    exact ⟨s.act (CK k) 2 1 0 0, ⟨20, 0, 0, zm, ca, 0, false, 0, 0⟩, false, by simp [shutS],
      h.to (h.u.act (CK k) 2 1 u64_zero u64_zero) (by rw [turnK]; exact upd_at _ _ _) (fun j hj => by rw [turnK]; exact upd_ne _ _ hj) rfl rfl rfl rfl (by simp [boCol0]) hm hn⟩
  · subst e
    by_cases hv : boGet zi zm = ca ∨ boGet zi zm % 4 = 3
    · refine ⟨s.act (CK k) 1 (inP 2 k 1 0 zm) 0 0, ⟨16, 0, 0, zm, boGet zi zm, 0, false, 0, 0⟩, false, ?_, ?_⟩
      · have hv' : ((boGet zi zm : Nat) : Int) = ca ∨ ((boGet zi zm : Nat) : Int) % 4 = 3 := by omega
        simp only [shutS, el, hv']; rfl
      · unfold boCol0; rw [if_neg (by simp), if_pos rfl, if_pos hv]; exact look _ 16 (by omega) _
    · refine ⟨s.act (CK k) 1 (inP 2 k 1 0 zm) 0 0, nextMut (CK k) ⟨16, 0, 0, zm, 0, 0, false, 0, 0⟩ 10 11, false, ?_, ?_⟩
      · have hv' : ¬ (((boGet zi zm : Nat) : Int) = ca ∨ ((boGet zi zm : Nat) : Int) % 4 = 3) := by omega
        simp only [shutS, el, hv']; rfl
      · unfold boCol0; rw [if_neg (by simp), if_pos rfl, if_neg hv]; exact hnx 0 10 11 16 (by omega) (by omega) _
  · exact absurd e hl
/-- The collector's step; where it was opened it begins anew. -/
theorem BoSim.go {k N : Nat} (hk : 1 ≤ k ∧ k ≤ 5) {S : BoS} {s : Dy} {ln kd : Nat → Int} {x : Co} (h : BoSim k N S s ln kd x) :
    ∃ s' x' fl, shutS (CK k) s (boTop x) = (s', x', fl, true) ∧ BoSim k (N + 1) (boCol k S) s' ln kd x' ∧ (boCol k S).got = S.got ∧ (boCol k S).n = if x.l = 3 ∨ x.l = 20 then S.n + 1 else S.n := by
  have hx := h.col
  have hm := h.cm
  have hn := h.ns
  have hls := h.cls
  by_cases e : S.cl = 20
  · have hl : x.l = 3 ∨ x.l = 20 := by rw [hx]; right; show (S.cl : Int) = 20; omega
    have h2 : BoSim k N { S with cl := 10, cm := 0 } s ln kd (boTop x) := by
      obtain ⟨a1, a2, a3, a4, a5, a6, a7, a8, a9, a10, a11, a12, a13, a14, a15, a16⟩ := h
      refine ⟨a1, a2, a3, a4, a5, a6, a7, a8, ?_, .inl rfl, by show 0 < k; omega, a12, a13, a14, a15, a16⟩
      unfold boTop
      rw [if_pos hl, hx]
      rfl
    obtain ⟨s', x', fl, e1, e2⟩ := BoSim.col0 hk h2 (by simp) { S with cl := 10, cm := 0, n := S.n + 1 } rfl (by show S.n + 1 ≤ N + 1; omega)
    have hc : boCol k S = boCol0 k { S with cl := 10, cm := 0, n := S.n + 1 } := by unfold boCol; rw [if_pos e]
    obtain ⟨e3, e4⟩ := boCol0_le k { S with cl := 10, cm := 0, n := S.n + 1 }
    exact ⟨s', x', fl, e1, by rw [hc]; exact e2, by rw [hc]; exact e4, by rw [hc, if_pos hl]; exact e3⟩
  · have hl : ¬ (x.l = 3 ∨ x.l = 20) := by rw [hx]; show ¬ ((S.cl : Int) = 3 ∨ (S.cl : Int) = 20); omega
    have ht : boTop x = x := by unfold boTop; rw [if_neg hl]
    obtain ⟨s', x', fl, e1, e2⟩ := BoSim.col0 hk h e S rfl (by omega)
    have hc : boCol k S = boCol0 k S := by unfold boCol; rw [if_neg e]
    obtain ⟨e3, e4⟩ := boCol0_le k S
    exact ⟨s', x', fl, by rw [ht]; exact e1, by rw [hc]; exact e2, by rw [hc]; exact e4, by rw [hc, if_neg hl]; exact e3⟩
end Go.Proofs.YtjmbahdlgnobaaaDoor
