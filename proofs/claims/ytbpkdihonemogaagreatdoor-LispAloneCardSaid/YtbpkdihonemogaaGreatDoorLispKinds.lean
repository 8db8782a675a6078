/- An operation by itself is the ideal store's, kind by kind. -/
import Derived.Test.YtbpkdihonemogaaGreatDoorM10
namespace Go.Proofs.YtbpkdihonemogaaGreatDoor
open Go Go.RowKit
set_option maxRecDepth 100000

theorem Near.lock34 {C : Cf} {f f' : Nat → Int} (hn : Near C f f') (h : f 3 = f 4) : f' 3 = f' 4 := by rw [hn.lock (.inl rfl), hn.lock (.inr rfl)]; exact h
theorem Fin14.lin1 {C : Cf} {m : Int} {J : Nat} {f f1 : Nat → Int} {x x1 : Mu} {Q : (Nat → Int) → Mu → Prop} (h : Stp C m f x f1 x1 true false) (hf : Fin14 C m J 0 f1 x1 Q) : Fin14 C m (J + 1) 1 f x Q := Fin14.lin (l := 0) h hf
/-- Behind an operation: its result, and that memory is the store's. -/
def Qd (C : Cf) (σ : St) (r : Int) (fE : Nat → Int) (xE : Mu) : Prop := xE.rt = r ∧ LMem C fE σ σ.n ∧ fE 3 = fE 4
theorem lock_r {C : Cf} (hC : CfOK C) {f : Nat → Int} (h : f 3 = f 4) {i r : Int} (h0 : 0 ≤ i) (h1 : i < C.b) (h2 : 0 ≤ r) (h3 : r < C.c) (w : Int) : upd f (regP C.a C.b C.c C.d i r).toNat w 3 = upd f (regP C.a C.b C.c C.d i r).toNat w 4 := by
  rw [lock_reg hC f h0 h1 h2 h3 w (by omega), lock_reg hC f h0 h1 h2 h3 w (by omega)]; exact h
theorem lock_g {C : Cf} (hC : CfOK C) {f : Nat → Int} (h : f 3 = f 4) {i : Int} (h0 : 0 ≤ i) (h1 : i < C.d) (w : Int) : upd f (globP C.a C.b C.c C.d i).toNat w 3 = upd f (globP C.a C.b C.c C.d i).toNat w 4 := by
  rw [lock_glob hC f h0 h1 w (by omega), lock_glob hC f h0 h1 w (by omega)]; exact h
theorem lock_p {C : Cf} (hC : CfOK C) {f : Nat → Int} (h : f 3 = f 4) {k : Int} {i : Nat} (h0 : (i : Int) < C.a) (hk : k = 0 ∨ k = 1) (w : Int) : upd f (partP C.a C.b C.c C.d k i).toNat w 3 = upd f (partP C.a C.b C.c C.d k i).toNat w 4 := by
  rcases hk with rfl | rfl
  · rw [lock_car hC f h0 w (by omega), lock_car hC f h0 w (by omega)]; exact h
  · rw [lock_cdr hC f h0 w (by omega), lock_cdr hC f h0 w (by omega)]; exact h
theorem setPart {C : Cf} (hC : CfOK C) {f : Nat → Int} {σ : St} {q : Nat} (h : LMem C f σ q) {i : Nat} (h0 : i < σ.n) {k : Int} (hk : k = 0 ∨ k = 1) (w : Nat) : LMem C (upd f (partP C.a C.b C.c C.d k i).toNat (w : Int)) ⟨putG σ.g (2 + k) i 0 w, σ.n⟩ q := by
  rcases hk with rfl | rfl
  · exact h.setCar hC h0 w
  · exact h.setCdr hC h0 w
theorem alone1 {C : Cf} (hC : CfOK C) {f : Nat → Int} {σ : St} (hM : LMem C f σ σ.n) (hl : f 3 = f 4) {m : Int} (hm : 0 ≤ m ∧ m < C.b) {x y z : Int} (hx : 0 ≤ x ∧ x < C.c) (hy : 0 ≤ y) : Fin14 C m 40 1 f ⟨1, 1, x, y, z, 0, 0, 0, 0, 0, 0, 0, 0⟩ (Qd C ⟨putG σ.g 0 m x (2 * y.toNat), σ.n⟩ 1) := by
  refine Fin14.enter (J := 37) hC hM.gate 1 x y z (fun f1 n1 => ?_)
  have M1 := hM.near hC n1
  have L1 := n1.lock34 hl
  have e := st10 C m f1 1 x y z 0 0 0 0 0 0 0 0
  rw [store_reg hC f1 hm.1 hm.2 hx.1 hx.2, show atomW y = ((2 * y.toNat : Nat) : Int) by unfold atomW; rw [if_neg (by omega)]; omega] at e
  refine Fin14.lin1 (J := 36) e ?_
  refine (Fin14.leave hC _ _ _ _ _ _ _ _ _ _ _ _ (fun f9 n9 => ?_)).le (by omega)
  exact ⟨rfl, (M1.setReg hC hm.1 hm.2 hx.1 hx.2 _).near hC n9, n9.lock34 (lock_r hC L1 hm.1 hm.2 hx.1 hx.2 _)⟩
theorem alone2 {C : Cf} (hC : CfOK C) {f : Nat → Int} {σ : St} (hM : LMem C f σ σ.n) (hl : f 3 = f 4) {m : Int} (hm : 0 ≤ m ∧ m < C.b) {x y z : Int} (hx : 0 ≤ x ∧ x < C.c) (hy : 0 ≤ y ∧ y < C.c) : Fin14 C m 40 1 f ⟨1, 2, x, y, z, 0, 0, 0, 0, 0, 0, 0, 0⟩ (Qd C ⟨putG σ.g 0 m x (σ.g 0 m y), σ.n⟩ 1) := by
  refine Fin14.enter (J := 37) hC hM.gate 2 x y z (fun f1 n1 => ?_)
  have M1 := hM.near hC n1
  have L1 := n1.lock34 hl
  have e := st11 C m f1 2 x y z 0 0 0 0 0 0 0 0
  rw [(ld_reg hC M1 hm.1 hm.2 hy.1 hy.2)] at e
  refine Fin14.step (J := 36) e ?_
  have e := st12 C m f1 2 x y z (σ.g 0 m y) 0 0 0 0 0 0 0
  rw [store_reg hC f1 hm.1 hm.2 hx.1 hx.2] at e
  refine Fin14.lin1 (J := 35) e ?_
  refine Fin14.shade (J := 33) hC _ _ _ (by decide) (fun f2 n2 => ?_)
  refine (Fin14.leave hC _ _ _ _ _ _ _ _ _ _ _ _ (fun f9 n9 => ?_)).le (by omega)
  exact ⟨rfl, ((M1.setReg hC hm.1 hm.2 hx.1 hx.2 _).near hC n2).near hC n9, n9.lock34 (n2.lock34 (lock_r hC L1 hm.1 hm.2 hx.1 hx.2 _))⟩
theorem alone45 {C : Cf} (hC : CfOK C) {f : Nat → Int} {σ : St} (hM : LMem C f σ σ.n) (hl : f 3 = f 4) {m : Int} (hm : 0 ≤ m ∧ m < C.b) (hI : Inv C.b.toNat C.c.toNat C.d.toNat σ) {k x y z : Int} (hk : k = 4 ∨ k = 5) (hx : 0 ≤ x ∧ x < C.c) (hy : 0 ≤ y ∧ y < C.c) :
    Fin14 C m 40 1 f ⟨1, k, x, y, z, 0, 0, 0, 0, 0, 0, 0, 0⟩ (if σ.g 0 m y % 2 = 0 then Qd C σ 4 else Qd C ⟨putG σ.g 0 m x (σ.g (2 + partK k) ((σ.g 0 m y / 2 : Nat) : Int) 0), σ.n⟩ 1) := by
  have hf : firstL k = 13 := by rcases hk with rfl | rfl <;> rfl
  have hp : partK k = 0 ∨ partK k = 1 := by rcases hk with rfl | rfl <;> simp [partK]
  refine Fin14.enter (J := 37) hC hM.gate k x y z (fun f1 n1 => ?_)
  have M1 := hM.near hC n1
  have L1 := n1.lock34 hl
  rw [hf]
  have hA := (ld_reg hC M1 hm.1 hm.2 hy.1 hy.2)
  have hc2 := word_isC hC hM hI 0 m y
  have ho := hI.odd 0 m y
  generalize hAA : σ.g 0 m y = A at *
  by_cases hev : A % 2 = 0
  · rw [if_pos hev]
    have e := st13n C m f1 k x y z 0 0 0 0 0 0 0 0 (by rw [hA, Int.toNat_natCast]; intro h; have := hc2.1 h; omega)
    rw [hA] at e
    refine Fin14.lin1 (J := 36) e ?_
    refine (Fin14.leave hC _ _ _ _ _ _ _ _ _ _ _ _ (fun f9 n9 => ?_)).le (by omega)
    exact ⟨rfl, M1.near hC n9, n9.lock34 L1⟩
  · rw [if_neg hev]
    have e := st13y C m f1 k x y z 0 0 0 0 0 0 0 0 (by rw [hA, Int.toNat_natCast]; exact hc2.2 (by omega))
    rw [hA] at e
    refine Fin14.step (J := 36) e ?_
    have hi : A / 2 < σ.n := ho (by omega)
    have h4 := hC.a4
    have hlt := hM.lt
    have hPl : fieldP C.a C.b C.c C.d ((A : Int)).toNat (partK k) = partP C.a C.b C.c C.d (partK k) ((A / 2 : Nat) : Int) := by
      rw [Int.toNat_natCast]
      have := field_cell (a := C.a) (b := C.b) (c := C.c) (d := C.d) (i := A / 2) (by omega) (partK k) (by omega)
      rw [show 2 * (A / 2) + 1 = A by omega] at this
      exact this
    have e := st14 C m f1 k x y z A 0 0 0 0 0 0 0
    rw [hPl, ld_part hC M1 hi _ hp] at e
    refine Fin14.lin1 (J := 35) e ?_
    have e := st15 C m f1 k x y z A (σ.g (2 + partK k) ((A / 2 : Nat) : Int) 0) 0 0 0 0 0 0
    rw [store_reg hC f1 hm.1 hm.2 hx.1 hx.2] at e
    refine Fin14.step (J := 34) e ?_
    refine Fin14.shade (J := 32) hC _ _ _ (by decide) (fun f2 n2 => ?_)
    refine (Fin14.leave hC _ _ _ _ _ _ _ _ _ _ _ _ (fun f9 n9 => ?_)).le (by omega)
    exact ⟨rfl, ((M1.setReg hC hm.1 hm.2 hx.1 hx.2 _).near hC n2).near hC n9, n9.lock34 (n2.lock34 (lock_r hC L1 hm.1 hm.2 hx.1 hx.2 _))⟩
theorem alone67 {C : Cf} (hC : CfOK C) {f : Nat → Int} {σ : St} (hM : LMem C f σ σ.n) (hl : f 3 = f 4) {m : Int} (hm : 0 ≤ m ∧ m < C.b) (hI : Inv C.b.toNat C.c.toNat C.d.toNat σ) {k x y z : Int} (hk : k = 6 ∨ k = 7) (hx : 0 ≤ x ∧ x < C.c) (hy : 0 ≤ y ∧ y < C.c) :
    Fin14 C m 40 1 f ⟨1, k, x, y, z, 0, 0, 0, 0, 0, 0, 0, 0⟩ (if σ.g 0 m x % 2 = 0 then Qd C σ 4 else Qd C ⟨putG σ.g (2 + partK k) ((σ.g 0 m x / 2 : Nat) : Int) 0 (σ.g 0 m y), σ.n⟩ 1) := by
  have hf : firstL k = 16 := by rcases hk with rfl | rfl <;> rfl
  have hp : partK k = 0 ∨ partK k = 1 := by rcases hk with rfl | rfl <;> simp [partK]
  refine Fin14.enter (J := 37) hC hM.gate k x y z (fun f1 n1 => ?_)
  have M1 := hM.near hC n1
  have L1 := n1.lock34 hl
  rw [hf]
  have hA := (ld_reg hC M1 hm.1 hm.2 hx.1 hx.2)
  have hB := (ld_reg hC M1 hm.1 hm.2 hy.1 hy.2)
  have hc2 := word_isC hC hM hI 0 m x
  have ho := hI.odd 0 m x
  generalize hAA : σ.g 0 m x = A at *
  by_cases hev : A % 2 = 0
  · rw [if_pos hev]
    have e := st16n C m f1 k x y z 0 0 0 0 0 0 0 0 (by rw [hA, Int.toNat_natCast]; intro h; have := hc2.1 h; omega)
    rw [hA] at e
    refine Fin14.lin1 (J := 36) e ?_
    refine (Fin14.leave hC _ _ _ _ _ _ _ _ _ _ _ _ (fun f9 n9 => ?_)).le (by omega)
    exact ⟨rfl, M1.near hC n9, n9.lock34 L1⟩
  · rw [if_neg hev]
    have e := st16y C m f1 k x y z 0 0 0 0 0 0 0 0 (by rw [hA, Int.toNat_natCast]; exact hc2.2 (by omega))
    rw [hA] at e
    refine Fin14.step (J := 36) e ?_
    have hi : A / 2 < σ.n := ho (by omega)
    have h4 := hC.a4
    have hlt := hM.lt
    have hPl : fieldP C.a C.b C.c C.d ((A : Int)).toNat (partK k) = partP C.a C.b C.c C.d (partK k) ((A / 2 : Nat) : Int) := by
      rw [Int.toNat_natCast]
      have := field_cell (a := C.a) (b := C.b) (c := C.c) (d := C.d) (i := A / 2) (by omega) (partK k) (by omega)
      rw [show 2 * (A / 2) + 1 = A by omega] at this
      exact this
    have e := st17 C m f1 k x y z A 0 0 0 0 0 0 0
    rw [hB] at e
    refine Fin14.step (J := 35) e ?_
    have e := st18 C m f1 k x y z A (σ.g 0 m y) 0 0 0 0 0 0
    rw [hPl, store_part hC f1 (by omega) hp] at e
    refine Fin14.lin1 (J := 34) e ?_
    refine Fin14.shade (J := 32) hC _ _ _ (by decide) (fun f2 n2 => ?_)
    refine (Fin14.leave hC _ _ _ _ _ _ _ _ _ _ _ _ (fun f9 n9 => ?_)).le (by omega)
    exact ⟨rfl, ((setPart hC M1 hi hp _).near hC n2).near hC n9, n9.lock34 (n2.lock34 (lock_p hC L1 (by omega) hp _))⟩
theorem alone8 {C : Cf} (hC : CfOK C) {f : Nat → Int} {σ : St} (hM : LMem C f σ σ.n) (hl : f 3 = f 4) {m : Int} (hm : 0 ≤ m ∧ m < C.b) {x y z : Int} (hx : 0 ≤ x ∧ x < C.c) (hy : 0 ≤ y ∧ y < C.d) : Fin14 C m 40 1 f ⟨1, 8, x, y, z, 0, 0, 0, 0, 0, 0, 0, 0⟩ (Qd C ⟨putG σ.g 0 m x (σ.g 1 y 0), σ.n⟩ 1) := by
  refine Fin14.enter (J := 37) hC hM.gate 8 x y z (fun f1 n1 => ?_)
  have M1 := hM.near hC n1
  have L1 := n1.lock34 hl
  have e := st19 C m f1 8 x y z 0 0 0 0 0 0 0 0
  rw [ld_glob hC M1 hy.1 hy.2] at e
  refine Fin14.lin1 (J := 36) e ?_
  have e := st15 C m f1 8 x y z 0 (σ.g 1 y 0) 0 0 0 0 0 0
  rw [store_reg hC f1 hm.1 hm.2 hx.1 hx.2] at e
  refine Fin14.step (J := 35) e ?_
  refine Fin14.shade (J := 33) hC _ _ _ (by decide) (fun f2 n2 => ?_)
  refine (Fin14.leave hC _ _ _ _ _ _ _ _ _ _ _ _ (fun f9 n9 => ?_)).le (by omega)
  exact ⟨rfl, ((M1.setReg hC hm.1 hm.2 hx.1 hx.2 _).near hC n2).near hC n9, n9.lock34 (n2.lock34 (lock_r hC L1 hm.1 hm.2 hx.1 hx.2 _))⟩
theorem alone9 {C : Cf} (hC : CfOK C) {f : Nat → Int} {σ : St} (hM : LMem C f σ σ.n) (hl : f 3 = f 4) {m : Int} (hm : 0 ≤ m ∧ m < C.b) {x y z : Int} (hx : 0 ≤ x ∧ x < C.d) (hy : 0 ≤ y ∧ y < C.c) : Fin14 C m 40 1 f ⟨1, 9, x, y, z, 0, 0, 0, 0, 0, 0, 0, 0⟩ (Qd C ⟨putG σ.g 1 x 0 (σ.g 0 m y), σ.n⟩ 1) := by
  refine Fin14.enter (J := 37) hC hM.gate 9 x y z (fun f1 n1 => ?_)
  have M1 := hM.near hC n1
  have L1 := n1.lock34 hl
  have e := st20 C m f1 9 x y z 0 0 0 0 0 0 0 0
  rw [(ld_reg hC M1 hm.1 hm.2 hy.1 hy.2)] at e
  refine Fin14.step (J := 36) e ?_
  have e := st21 C m f1 9 x y z 0 (σ.g 0 m y) 0 0 0 0 0 0
  rw [store_glob hC f1 hx.1 hx.2] at e
  refine Fin14.lin1 (J := 35) e ?_
  refine Fin14.shade (J := 33) hC _ _ _ (by decide) (fun f2 n2 => ?_)
  refine (Fin14.leave hC _ _ _ _ _ _ _ _ _ _ _ _ (fun f9 n9 => ?_)).le (by omega)
  exact ⟨rfl, ((M1.setGlob hC hx.1 hx.2 _).near hC n2).near hC n9, n9.lock34 (n2.lock34 (lock_g hC L1 hx.1 hx.2 _))⟩
theorem alone10 {C : Cf} (hC : CfOK C) {f : Nat → Int} {σ : St} (hM : LMem C f σ σ.n) (hl : f 3 = f 4) {m : Int} (hm : 0 ≤ m ∧ m < C.b) {x y z : Int} (hx : 0 ≤ x ∧ x < C.c) (hy : 0 ≤ y ∧ y < C.c) : Fin14 C m 40 1 f ⟨1, 10, x, y, z, 0, 0, 0, 0, 0, 0, 0, 0⟩ (Qd C σ (if σ.g 0 m x = σ.g 0 m y then 2 else 3)) := by
  refine Fin14.enter (J := 37) hC hM.gate 10 x y z (fun f1 n1 => ?_)
  have M1 := hM.near hC n1
  have L1 := n1.lock34 hl
  have e := st22 C m f1 10 x y z 0 0 0 0 0 0 0 0
  rw [(ld_reg hC M1 hm.1 hm.2 hx.1 hx.2)] at e
  refine Fin14.step (J := 36) e ?_
  have e := st23 C m f1 10 x y z (σ.g 0 m x) 0 0 0 0 0 0 0
  rw [(ld_reg hC M1 hm.1 hm.2 hy.1 hy.2)] at e
  refine Fin14.lin1 (J := 35) e ?_
  refine (Fin14.leave hC _ _ _ _ _ _ _ _ _ _ _ _ (fun f9 n9 => ?_)).le (by omega)
  refine ⟨?_, M1.near hC n9, n9.lock34 L1⟩
  dsimp only
  by_cases h : σ.g 0 m x = σ.g 0 m y
  · rw [if_pos h, if_pos (by rw [h])]
  · have h2 : ¬ ((σ.g 0 m x : Nat) : Int) = ((σ.g 0 m y : Nat) : Int) := by omega
    rw [if_neg h, if_neg h2]
theorem alone11 {C : Cf} (hC : CfOK C) {f : Nat → Int} {σ : St} (hM : LMem C f σ σ.n) (hl : f 3 = f 4) {m : Int} (hm : 0 ≤ m ∧ m < C.b) (hI : Inv C.b.toNat C.c.toNat C.d.toNat σ) {x y z : Int} (hx : 0 ≤ x ∧ x < C.c) : Fin14 C m 40 1 f ⟨1, 11, x, y, z, 0, 0, 0, 0, 0, 0, 0, 0⟩ (Qd C σ (if σ.g 0 m x % 2 = 0 then 2 else 3)) := by
  refine Fin14.enter (J := 37) hC hM.gate 11 x y z (fun f1 n1 => ?_)
  have M1 := hM.near hC n1
  have L1 := n1.lock34 hl
  have e := st24 C m f1 11 x y z 0 0 0 0 0 0 0 0
  have hc2 := word_isC hC hM hI 0 m x
  rw [(ld_reg hC M1 hm.1 hm.2 hx.1 hx.2), Int.toNat_natCast] at e
  refine Fin14.lin1 (J := 36) e ?_
  refine (Fin14.leave hC _ _ _ _ _ _ _ _ _ _ _ _ (fun f9 n9 => ?_)).le (by omega)
  refine ⟨?_, M1.near hC n9, n9.lock34 L1⟩
  dsimp only
  by_cases h : σ.g 0 m x % 2 = 0
  · rw [if_pos h, if_neg (fun e => by have := hc2.1 e; omega)]
  · rw [if_neg h, if_pos (hc2.2 (by omega))]
theorem alone3 {C : Cf} (hC : CfOK C) {f : Nat → Int} {σ : St} (hM : LMem C f σ σ.n) (hl : f 3 = f 4) {m : Int} (hm : 0 ≤ m ∧ m < C.b) {x y z : Int} (hx : 0 ≤ x ∧ x < C.c) (hy : 0 ≤ y ∧ y < C.c) (hz : 0 ≤ z ∧ z < C.c) : Fin14 C m 40 1 f ⟨1, 3, x, y, z, 0, 0, 0, 0, 0, 0, 0, 0⟩
    (if (σ.n : Int) + 1 = C.a then fun _ xE => xE.rt = 5 else Qd C ⟨putG (putG (putG σ.g 2 σ.n 0 (σ.g 0 m y)) 3 σ.n 0 (σ.g 0 m z)) 0 m x (2 * σ.n + 1), σ.n + 1⟩ 1) := by
  have hlt := hM.lt
  have h4 := hC.a4
  refine Fin14.enter (J := 37) hC hM.gate 3 x y z (fun f1 n1 => ?_)
  have M1 := hM.near hC n1
  have L1 := n1.lock34 hl
  have hA := (ld_reg hC M1 hm.1 hm.2 hy.1 hy.2)
  have hB := (ld_reg hC M1 hm.1 hm.2 hz.1 hz.2)
  generalize hAA : σ.g 0 m y = A at *
  generalize hBB : σ.g 0 m z = B at *
  have e := st30 C m f1 3 x y z 0 0 0 0 0 0 0 0
  rw [hA] at e
  refine Fin14.step (J := 36) e ?_
  have e := st31 C m f1 3 x y z A 0 0 0 0 0 0 0
  rw [hB] at e
  refine Fin14.step (J := 35) e ?_
  refine Fin14.step (J := 34) (st32 hC m f1 3 x y z A B 0 0 0 0 0 0) ?_
  have M2 := M1.once hC (.inl rfl) (sumW (f1 3) 1)
  have l3 : upd f1 3 (sumW (f1 3) 1) 3 = sumW (f1 3) 1 := upd_at _ _ _
  have l4 : upd f1 3 (sumW (f1 3) 1) 4 = f1 3 := by unfold upd; rw [if_neg (by omega)]; exact L1.symm
  generalize upd f1 3 (sumW (f1 3) 1) = f2 at *
  generalize f1 3 = T at *
  refine Fin14.step (J := 33) (st33 hC m f2 3 x y z A B 0 0 T 0 0 0 l4) ?_
  refine Fin14.step (J := 32) (st34 hC m f2 3 x y z A B 0 0 T 0 0 0) ?_
  rw [M2.free]
  have hcp := cdrP_part hC.right (i := σ.n) hlt
  have hpn : (partP C.a C.b C.c C.d 1 (σ.n : Int)).toNat = cdrP C.b C.c C.d σ.n := by rw [hcp.1]; rfl
  by_cases hfull : (σ.n : Int) + 1 = C.a
  · rw [if_pos hfull]
    have hu : f2 (cdrP C.b C.c C.d σ.n) = ((0 : Nat) : Int) := by rw [← hpn]; exact M2.last σ.n (Nat.le_refl _) hfull
    have e := st35 hC m f2 3 x y z A B 0 T 0 0 0 (i := σ.n) hlt hu
    have hn : ¬ isC 0 := by unfold isC; omega
    rw [if_neg hn, decide_eq_false hn] at e
    refine Fin14.lin1 (J := 31) e ?_
    refine Fin14.step (J := 30) (st41 hC m f2 3 x y z A B (2 * (σ.n : Int) + 1) ((0 : Nat) : Int) T 0 0 5) ?_
    refine (Fin14.leave hC _ _ _ _ _ _ _ _ _ _ _ _ (fun f9 n9 => ?_)).le (by omega)
    rfl
  · rw [if_neg hfull]
    have hq : (σ.n : Int) + 1 < C.a := by omega
    have hu : f2 (cdrP C.b C.c C.d σ.n) = ((2 * (σ.n + 1) + 1 : Nat) : Int) := by rw [← hpn, M2.next σ.n (Nat.le_refl _) hq]; omega
    have hc : isC (2 * (σ.n + 1) + 1) := cell_isC (by omega)
    have e := st35 hC m f2 3 x y z A B 0 T 0 0 0 (i := σ.n) hlt hu
    rw [if_pos hc, decide_eq_true hc] at e
    refine Fin14.step (J := 31) e ?_
    refine Fin14.lin1 (J := 30) (st36 hC m f2 3 x y z A B (2 * (σ.n : Int) + 1) T 0 0 0 hc) ?_
    have M3 := M2.take hC hq
    rw [show ((2 * (σ.n + 1) + 1 : Nat) : Int) = 2 * ((σ.n : Int) + 1) + 1 by omega]
    have l3' : upd f2 0 (2 * ((σ.n : Int) + 1) + 1) 3 = sumW T 1 := by unfold upd; rw [if_neg (by omega)]; exact l3
    have l4' : upd f2 0 (2 * ((σ.n : Int) + 1) + 1) 4 = T := by unfold upd; rw [if_neg (by omega)]; exact l4
    generalize upd f2 0 (2 * ((σ.n : Int) + 1) + 1) = f3 at *
    refine Fin14.shade (J := 28) hC _ _ _ (by decide) (fun f4 n4 => ?_)
    have M4 := M3.near hC n4
    have k3 : f4 3 = sumW T 1 := (n4.lock (.inl rfl)).trans l3'
    have k4 : f4 4 = T := (n4.lock (.inr rfl)).trans l4'
    refine Fin14.step (J := 27) (st37 hC m f4 3 x y z A B (2 * (σ.n : Int) + 1) (2 * ((σ.n : Int) + 1) + 1) T 0 0 0) ?_
    have M5 := M4.once hC (.inr rfl) (sumW (f4 4) 1)
    have L5 : upd f4 4 (sumW (f4 4) 1) 3 = upd f4 4 (sumW (f4 4) 1) 4 := by rw [upd_at, k4]; unfold upd; rw [if_neg (by omega)]; exact k3
    generalize upd f4 4 (sumW (f4 4) 1) = f5 at *
    have hH : ∀ p : Int, 0 ≤ p ∧ p ≤ 2 → fieldP C.a C.b C.c C.d (2 * (σ.n : Int) + 1).toNat p = partP C.a C.b C.c C.d p (σ.n : Int) := fun p hp => by
      rw [show (2 * (σ.n : Int) + 1).toNat = 2 * σ.n + 1 by omega]
      exact field_cell (by omega) p hp
    have e := st38 C m f5 3 x y z A B (2 * (σ.n : Int) + 1) (2 * ((σ.n : Int) + 1) + 1) T 0 0 0
    rw [hH 0 (by omega), store_part hC f5 hlt (.inl rfl)] at e
    refine Fin14.step (J := 26) e ?_
    have M6 := M5.fresh hC (i := σ.n) (k := 0) (by omega) (by omega) (.inl rfl) A
    have L6 := lock_p hC L5 (k := 0) (i := σ.n) hlt (.inl rfl) A
    have A6 : upd f5 (partP C.a C.b C.c C.d 0 (σ.n : Int)).toNat (A : Int) (partP C.a C.b C.c C.d 0 (σ.n : Int)).toNat = A := upd_at _ _ _
    generalize upd f5 (partP C.a C.b C.c C.d 0 (σ.n : Int)).toNat (A : Int) = f6 at *
    refine Fin14.shade (J := 24) hC _ _ _ (by decide) (fun f7 n7 => ?_)
    have M7 := M6.near hC n7
    have L7 := n7.lock34 L6
    have A7 : f7 (partP C.a C.b C.c C.d 0 (σ.n : Int)).toNat = A := (n7.part hC (by omega) hlt (.inl rfl)).trans A6
    have e := st39 C m f7 3 x y z A B (2 * (σ.n : Int) + 1) (2 * ((σ.n : Int) + 1) + 1) T 0 0 0
    rw [hH 1 (by omega), store_part hC f7 hlt (.inr rfl)] at e
    refine Fin14.step (J := 23) e ?_
    have M8 := M7.fresh hC (i := σ.n) (k := 1) (by omega) (by omega) (.inr rfl) B
    have L8 := lock_p hC L7 (k := 1) (i := σ.n) hlt (.inr rfl) B
    have A8 : upd f7 (partP C.a C.b C.c C.d 1 (σ.n : Int)).toNat (B : Int) (partP C.a C.b C.c C.d 0 (σ.n : Int)).toNat = A := (part_apart hC f7 (by omega) hlt _).trans A7
    have B8 : upd f7 (partP C.a C.b C.c C.d 1 (σ.n : Int)).toNat (B : Int) (partP C.a C.b C.c C.d 1 (σ.n : Int)).toNat = B := upd_at _ _ _
    generalize upd f7 (partP C.a C.b C.c C.d 1 (σ.n : Int)).toNat (B : Int) = f8 at *
    refine Fin14.shade (J := 21) hC _ _ _ (by decide) (fun g1 n8 => ?_)
    have M9 := (M8.near hC n8).grow ((n8.part hC (by omega) hlt (.inl rfl)).trans A8) ((n8.part hC (by omega) hlt (.inr rfl)).trans B8)
    have e := st40 C m g1 3 x y z A B (2 * (σ.n : Int) + 1) (2 * ((σ.n : Int) + 1) + 1) T 0 0 0
    rw [store_reg hC g1 hm.1 hm.2 hx.1 hx.2] at e
    refine Fin14.step (J := 20) e ?_
    refine Fin14.shade (J := 18) hC _ _ _ (by decide) (fun g2 n10 => ?_)
    refine (Fin14.leave hC _ _ _ _ _ _ _ _ _ _ _ _ (fun f9 n9 => ?_)).le (by omega)
    have MZ := M9.setReg hC hm.1 hm.2 hx.1 hx.2 (2 * σ.n + 1)
    rw [show ((2 * σ.n + 1 : Nat) : Int) = 2 * (σ.n : Int) + 1 by omega] at MZ
    exact ⟨rfl, (MZ.near hC n10).near hC n9, n9.lock34 (n10.lock34 (lock_r hC (n8.lock34 L8) hm.1 hm.2 hx.1 hx.2 _))⟩
/-- An operation by itself: it ends within 40 steps, one of them linearising, with the ideal store's result and memory; a cons at the last cell finds none. -/
theorem alone_any {C : Cf} (hC : CfOK C) {f : Nat → Int} {σ : St} (hM : LMem C f σ σ.n) (hl : f 3 = f 4) {m : Int} (hm : 0 ≤ m ∧ m < C.b) (hI : Inv C.b.toNat C.c.toNat C.d.toNat σ) {k x y z : Int} (hg : goodOp C.b.toNat C.c.toNat C.d.toNat m k x y z) :
    Fin14 C m 40 1 f ⟨1, k, x, y, z, 0, 0, 0, 0, 0, 0, 0, 0⟩ (fun fE xE => (k = 3 ∧ (σ.n : Int) + 1 = C.a ∧ xE.rt = 5) ∨ (¬ (k = 3 ∧ (σ.n : Int) + 1 = C.a) ∧ xE.rt = resK σ m k x y false ∧ xE.rt ≠ 5 ∧ LMem C fE (nxtK σ m k x y z false) (nxtK σ m k x y z false).n ∧ fE 3 = fE 4)) := by
  have h4 := hC.a4
  obtain ⟨⟨hk1, hk2⟩, h1, h2, h3, h5, h6, h7⟩ := hg.nums
  have hq : ∀ (σ' : St) (r : Int) fE xE, k ≠ 3 → r ≠ 5 → resK σ m k x y false = r → nxtK σ m k x y z false = σ' → Qd C σ' r fE xE → (k = 3 ∧ (σ.n : Int) + 1 = C.a ∧ xE.rt = 5) ∨ (¬ (k = 3 ∧ (σ.n : Int) + 1 = C.a) ∧ xE.rt = resK σ m k x y false ∧ xE.rt ≠ 5 ∧ LMem C fE (nxtK σ m k x y z false) (nxtK σ m k x y z false).n ∧ fE 3 = fE 4) := by
    intro σ' r fE xE hk3 hr e1 e2 hQ
    rw [e1, e2]
    exact .inr ⟨fun h => hk3 h.1, hQ.1, by rw [hQ.1]; exact hr, hQ.2.1, hQ.2.2⟩
  obtain ⟨q, rfl⟩ : ∃ q : Nat, k = q := ⟨k.toNat, by omega⟩
  obtain rfl | rfl | rfl | rfl | rfl | rfl | rfl | rfl | rfl | rfl | rfl := kind_cases (m := q) (by omega) (by omega)
  · exact (alone1 hC hM hl hm (by have := h1 (by decide); omega) (h3 rfl).1).mono (fun fE xE => hq _ 1 fE xE (by decide) (by decide) rfl rfl)
  · exact (alone2 hC hM hl hm (by have := h1 (by decide); omega) (by have := h6 (by decide) (by decide) (by decide); omega)).mono (fun fE xE => hq _ 1 fE xE (by decide) (by decide) rfl rfl)
  · have e := alone3 hC hM hl hm (x := x) (y := y) (z := z) (by have := h1 (by decide); omega) (by have := h6 (by decide) (by decide) (by decide); omega) (by have := h7 rfl; omega)
    by_cases hfull : (σ.n : Int) + 1 = C.a
    · rw [if_pos hfull] at e
      exact e.mono (fun fE xE h => .inl ⟨rfl, hfull, h⟩)
    · rw [if_neg hfull] at e
      refine e.mono (fun fE xE h => .inr ⟨fun h => hfull h.2, h.1, by rw [h.1]; decide, h.2.1, h.2.2⟩)
  · have e := alone45 hC hM hl hm hI (k := 4) (x := x) (y := y) (z := z) (.inl rfl) (by have := h1 (by decide); omega) (by have := h6 (by decide) (by decide) (by decide); omega)
    by_cases h : σ.g 0 m y % 2 = 0
    · rw [if_pos h] at e
      exact e.mono (fun fE xE => hq _ 4 fE xE (by decide) (by decide) (by simp [resK, h]) (by simp [nxtK, h]))
    · rw [if_neg h] at e
      exact e.mono (fun fE xE => hq _ 1 fE xE (by decide) (by decide) (by simp [resK, h]) (by simp [nxtK, h, partK]))
  · have e := alone45 hC hM hl hm hI (k := 5) (x := x) (y := y) (z := z) (.inr rfl) (by have := h1 (by decide); omega) (by have := h6 (by decide) (by decide) (by decide); omega)
    by_cases h : σ.g 0 m y % 2 = 0
    · rw [if_pos h] at e
      exact e.mono (fun fE xE => hq _ 4 fE xE (by decide) (by decide) (by simp [resK, h]) (by simp [nxtK, h]))
    · rw [if_neg h] at e
      exact e.mono (fun fE xE => hq _ 1 fE xE (by decide) (by decide) (by simp [resK, h]) (by simp [nxtK, h, partK]))
  · have e := alone67 hC hM hl hm hI (k := 6) (x := x) (y := y) (z := z) (.inl rfl) (by have := h1 (by decide); omega) (by have := h6 (by decide) (by decide) (by decide); omega)
    by_cases h : σ.g 0 m x % 2 = 0
    · rw [if_pos h] at e
      exact e.mono (fun fE xE => hq _ 4 fE xE (by decide) (by decide) (by simp [resK, h]) (by simp [nxtK, h]))
    · rw [if_neg h] at e
      exact e.mono (fun fE xE => hq _ 1 fE xE (by decide) (by decide) (by simp [resK, h]) (by simp [nxtK, h, partK]))
  · have e := alone67 hC hM hl hm hI (k := 7) (x := x) (y := y) (z := z) (.inr rfl) (by have := h1 (by decide); omega) (by have := h6 (by decide) (by decide) (by decide); omega)
    by_cases h : σ.g 0 m x % 2 = 0
    · rw [if_pos h] at e
      exact e.mono (fun fE xE => hq _ 4 fE xE (by decide) (by decide) (by simp [resK, h]) (by simp [nxtK, h]))
    · rw [if_neg h] at e
      exact e.mono (fun fE xE => hq _ 1 fE xE (by decide) (by decide) (by simp [resK, h]) (by simp [nxtK, h, partK]))
  · exact (alone8 hC hM hl hm (by have := h1 (by decide); omega) (by have := h5 rfl; omega)).mono (fun fE xE => hq _ 1 fE xE (by decide) (by decide) rfl rfl)
  · exact (alone9 hC hM hl hm (by have := h2 rfl; omega) (by have := h6 (by decide) (by decide) (by decide); omega)).mono (fun fE xE => hq _ 1 fE xE (by decide) (by decide) rfl rfl)
  · refine (alone10 hC hM hl hm (by have := h1 (by decide); omega) (by have := h6 (by decide) (by decide) (by decide); omega)).mono (fun fE xE => hq _ _ fE xE (by decide) ?_ rfl rfl)
    split <;> decide
  · refine (alone11 hC hM hl hm hI (by have := h1 (by decide); omega)).mono (fun fE xE => hq _ _ fE xE (by decide) ?_ rfl rfl)
    split <;> decide
end Go.Proofs.YtbpkdihonemogaaGreatDoor
