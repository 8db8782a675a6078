/- Laid together: LispDo, LispAwake. -/
import Derived.Test.YtbpkdihonemogaaGreatDoorLispStep
import Derived.Test.YtbpkdihonemogaaGreatDoorHandNew
import Derived.Test.YtbpkdihonemogaaGreatDoorM4
import Derived.Test.YtbpkdihonemogaaGreatDoorM7
import Derived.Test.YtbpkdihonemogaaGreatDoorM6
/- A step of package lisp, of every line, is lispS. -/
namespace Go.Proofs.YtbpkdihonemogaaGreatDoor
open Go Go.RowKit
set_option maxRecDepth 100000
attribute [local go_sem ↓] Go.wp_at_zero Go.wp_at_succ

theorem begL_ne (v : Nat) {k : Int} (hk : k ≠ 0) : begL v k ≠ 0 := by unfold begL; split <;> omega
theorem tickS_l {C : Cf} {s : Dy} {x : Mu} (h : isTick x.l = true) : ((tickS C s x).2.1.l == 0) = false := by
  unfold isTick at h; simp at h
  unfold tickS
  repeat' split
  all_goals first | rfl | (exfalso; omega) | (simp; omega)
theorem popS_l {C : Cf} {s : Dy} {x : Mu} (h : isPop x.l = true) : ((popS C s x).2.1.l == 0) = false := by
  unfold isPop at h; simp at h
  unfold popS
  repeat' split
  all_goals first | rfl | (exfalso; omega) | (simpa using begL_ne _ (by decide))
theorem ownS_l {C : Cf} {s : Dy} {m : Int} {x : Mu} (h : isOwn x.l = true) : ((ownS C s m x).2.1.l == 0) = false ∧ (ownS C s m x).2.2.2 = false := by
  unfold isOwn ownK at h
  unfold ownS
  by_cases e10 : x.l = 10
  · rw [if_pos e10]; exact ⟨by first | rfl | (dsimp only; split <;> rfl) | (simpa [begM] using begL_ne _ (by decide)), rfl⟩
  rw [if_neg e10]
  by_cases e11 : x.l = 11
  · rw [if_pos e11]; exact ⟨by first | rfl | (dsimp only; split <;> rfl) | (simpa [begM] using begL_ne _ (by decide)), rfl⟩
  rw [if_neg e11]
  by_cases e12 : x.l = 12
  · rw [if_pos e12]; exact ⟨by first | rfl | (dsimp only; split <;> rfl) | (simpa [begM] using begL_ne _ (by decide)), rfl⟩
  rw [if_neg e12]
  by_cases e13 : x.l = 13
  · rw [if_pos e13]; exact ⟨by first | rfl | (dsimp only; split <;> rfl) | (simpa [begM] using begL_ne _ (by decide)), rfl⟩
  rw [if_neg e13]
  by_cases e14 : x.l = 14
  · rw [if_pos e14]; exact ⟨by first | rfl | (dsimp only; split <;> rfl) | (simpa [begM] using begL_ne _ (by decide)), rfl⟩
  rw [if_neg e14]
  by_cases e15 : x.l = 15
  · rw [if_pos e15]; exact ⟨by first | rfl | (dsimp only; split <;> rfl) | (simpa [begM] using begL_ne _ (by decide)), rfl⟩
  rw [if_neg e15]
  by_cases e16 : x.l = 16
  · rw [if_pos e16]; exact ⟨by first | rfl | (dsimp only; split <;> rfl) | (simpa [begM] using begL_ne _ (by decide)), rfl⟩
  rw [if_neg e16]
  by_cases e17 : x.l = 17
  · rw [if_pos e17]; exact ⟨by first | rfl | (dsimp only; split <;> rfl) | (simpa [begM] using begL_ne _ (by decide)), rfl⟩
  rw [if_neg e17]
  by_cases e18 : x.l = 18
  · rw [if_pos e18]; exact ⟨by first | rfl | (dsimp only; split <;> rfl) | (simpa [begM] using begL_ne _ (by decide)), rfl⟩
  rw [if_neg e18]
  by_cases e19 : x.l = 19
  · rw [if_pos e19]; exact ⟨by first | rfl | (dsimp only; split <;> rfl) | (simpa [begM] using begL_ne _ (by decide)), rfl⟩
  rw [if_neg e19]
  by_cases e20 : x.l = 20
  · rw [if_pos e20]; exact ⟨by first | rfl | (dsimp only; split <;> rfl) | (simpa [begM] using begL_ne _ (by decide)), rfl⟩
  rw [if_neg e20]
  by_cases e21 : x.l = 21
  · rw [if_pos e21]; exact ⟨by first | rfl | (dsimp only; split <;> rfl) | (simpa [begM] using begL_ne _ (by decide)), rfl⟩
  rw [if_neg e21]
  by_cases e22 : x.l = 22
  · rw [if_pos e22]; exact ⟨by first | rfl | (dsimp only; split <;> rfl) | (simpa [begM] using begL_ne _ (by decide)), rfl⟩
  rw [if_neg e22]
  by_cases e23 : x.l = 23
  · rw [if_pos e23]; exact ⟨by first | rfl | (dsimp only; split <;> rfl) | (simpa [begM] using begL_ne _ (by decide)), rfl⟩
  rw [if_neg e23]
  by_cases e24 : x.l = 24
  · rw [if_pos e24]; exact ⟨by first | rfl | (dsimp only; split <;> rfl) | (simpa [begM] using begL_ne _ (by decide)), rfl⟩
  rw [if_neg e24]
  by_cases e30 : x.l = 30
  · rw [if_pos e30]; exact ⟨by first | rfl | (dsimp only; split <;> rfl) | (simpa [begM] using begL_ne _ (by decide)), rfl⟩
  rw [if_neg e30]
  by_cases e31 : x.l = 31
  · rw [if_pos e31]; exact ⟨by first | rfl | (dsimp only; split <;> rfl) | (simpa [begM] using begL_ne _ (by decide)), rfl⟩
  rw [if_neg e31]
  by_cases e38 : x.l = 38
  · rw [if_pos e38]; exact ⟨by first | rfl | (dsimp only; split <;> rfl) | (simpa [begM] using begL_ne _ (by decide)), rfl⟩
  rw [if_neg e38]
  by_cases e39 : x.l = 39
  · rw [if_pos e39]; exact ⟨by first | rfl | (dsimp only; split <;> rfl) | (simpa [begM] using begL_ne _ (by decide)), rfl⟩
  rw [if_neg e39]
  by_cases e40 : x.l = 40
  · rw [if_pos e40]; exact ⟨by first | rfl | (dsimp only; split <;> rfl) | (simpa [begM] using begL_ne _ (by decide)), rfl⟩
  rw [if_neg e40]
  simp only [if_neg e10, if_neg e11, if_neg e12, if_neg e13, if_neg e14, if_neg e15, if_neg e16, if_neg e17, if_neg e18, if_neg e19, if_neg e20, if_neg e21, if_neg e22, if_neg e23, if_neg e24, if_neg e30, if_neg e31, if_neg e38, if_neg e39, if_neg e40] at h
  cases h
theorem ownS_no {C : Cf} {s : Dy} {m : Int} {x : Mu} (h : isOwn x.l = false) : ownS C s m x = (s, x, false, false) := by
  have key : ∀ n : Int, (ownK n).isSome = true → x.l ≠ n := fun n hn e => by unfold isOwn at h; rw [e] at h; rw [h] at hn; cases hn
  unfold ownS
  rw [if_neg (key 10 rfl), if_neg (key 11 rfl), if_neg (key 12 rfl), if_neg (key 13 rfl), if_neg (key 14 rfl), if_neg (key 15 rfl), if_neg (key 16 rfl), if_neg (key 17 rfl), if_neg (key 18 rfl), if_neg (key 19 rfl), if_neg (key 20 rfl), if_neg (key 21 rfl), if_neg (key 22 rfl), if_neg (key 23 rfl), if_neg (key 24 rfl), if_neg (key 30 rfl), if_neg (key 31 rfl), if_neg (key 38 rfl), if_neg (key 39 rfl), if_neg (key 40 rfl)]
theorem lispS_of (C : Cf) (s : Dy) (m : Int) (x : Mu) : lispS C s m x = ((stepR C s.clr m x).1, (stepR C s.clr m x).2.1, (stepR C s.clr m x).2.2.1, (stepR C s.clr m x).2.2.2 && ((stepR C s.clr m x).2.1.l == 0)) := by
  unfold lispS stepR
  cases hg : isGate x.l with
  | true => simp only [if_true]; rfl
  | false =>
    cases ht : isTick x.l with
    | true => simp only [if_true, Bool.false_eq_true, if_false]; rw [tickS_l ht]; rfl
    | false =>
      cases hp : isPop x.l with
      | true =>
        have hb : isBar x.l = false := by unfold isPop at hp; unfold isBar; simp at hp ⊢; omega
        rw [hb]
        simp only [if_true, Bool.false_eq_true, if_false]; rw [popS_l hp]; rfl
      | false =>
        cases hb : isBar x.l with
        | true => simp only [if_true, Bool.false_eq_true, if_false]; rfl
        | false =>
          simp only [Bool.false_eq_true, if_false]
          cases ho : isOwn x.l with
          | true =>
            simp only [if_true]
            have h := ownS_l (C := C) (s := s.clr) (m := m) ho
            rw [h.1]
            exact Prod.ext rfl (Prod.ext rfl (Prod.ext rfl h.2))
          | false =>
            simp only [Bool.false_eq_true, if_false]
            rw [ownS_no ho]; rfl
set_option maxHeartbeats 3200000 in
theorem lisp_c {w : World} {H A G : Nat} {C : Cf} {s : Dy} (hH : HAt w H A G C s) (hn : 0 < C.n) (hu : s.U) (hS : SpansAt w) (m : Int) (x : Mu) (hx : x.U) (hq : -9223372036854775808 ≤ x.q1 ∧ x.q1 ≤ 9223372036854775807) (hq3 : x.q3 ≤ 9223372036854775807) (hl : -9223372036854775808 ≤ x.l ∧ x.l ≤ 9223372036854775807) :
    Calls Tryz.prog 20 #[.pointer (some ⟨H, 0, none⟩), .int .i64 m, x.v] w (HP w H A G C (lispS C s m x).1 (.tuple #[(lispS C s m x).2.1.v, .bool (lispS C s m x).2.2.1, .bool (lispS C s m x).2.2.2])) := by
  rw [lispS_of]
  have hb := below_on (below_new w (.cells #[.int .i64 x.l, .int .i64 x.q1, .int .i64 x.q2, .int .i64 x.q3, .int .i64 x.q4, .int .u64 x.m1, .int .u64 x.m2, .int .u64 x.m3, .int .u64 x.m4, .int .u64 x.m5, .int .u64 x.p, .int .i64 x.bk, .int .i64 x.rt] 30)) (.cells #[.int .i64 0, .int .i64 0, .int .i64 0, .int .i64 0, .int .i64 0, .int .u64 0, .int .u64 0, .int .u64 0, .int .u64 0, .int .u64 0, .int .u64 0, .int .i64 0, .int .i64 0] 30)
  have HX : Hid (MuAt ((w.alloc (.cells #[.int .i64 x.l, .int .i64 x.q1, .int .i64 x.q2, .int .i64 x.q3, .int .i64 x.q4, .int .u64 x.m1, .int .u64 x.m2, .int .u64 x.m3, .int .u64 x.m4, .int .u64 x.m5, .int .u64 x.p, .int .i64 x.bk, .int .i64 x.rt] 30)).alloc (.cells #[.int .i64 0, .int .i64 0, .int .i64 0, .int .i64 0, .int .i64 0, .int .u64 0, .int .u64 0, .int .u64 0, .int .u64 0, .int .u64 0, .int .u64 0, .int .i64 0, .int .i64 0] 30)) w.heap.size x) := Lib.hid ((Mut13.new w x.l x.p x.bk x.q1 x.q2 x.q3 x.q4 x.m1 x.m2 x.m3 x.m4 x.m5 x.rt).below (below_new _ (.cells #[.int .i64 0, .int .i64 0, .int .i64 0, .int .i64 0, .int .i64 0, .int .u64 0, .int .u64 0, .int .u64 0, .int .u64 0, .int .u64 0, .int .u64 0, .int .i64 0, .int .i64 0] 30)))
  have HY : Hid (MuAt ((w.alloc (.cells #[.int .i64 x.l, .int .i64 x.q1, .int .i64 x.q2, .int .i64 x.q3, .int .i64 x.q4, .int .u64 x.m1, .int .u64 x.m2, .int .u64 x.m3, .int .u64 x.m4, .int .u64 x.m5, .int .u64 x.p, .int .i64 x.bk, .int .i64 x.rt] 30)).alloc (.cells #[.int .i64 0, .int .i64 0, .int .i64 0, .int .i64 0, .int .i64 0, .int .u64 0, .int .u64 0, .int .u64 0, .int .u64 0, .int .u64 0, .int .u64 0, .int .i64 0, .int .i64 0] 30)) (w.heap.size + 1) (⟨0, 0, 0, 0, 0, 0, 0, 0, 0, 0, 0, 0, 0⟩ : Mu)) := Lib.hid (by have := Mut13.new (w.alloc (.cells #[.int .i64 x.l, .int .i64 x.q1, .int .i64 x.q2, .int .i64 x.q3, .int .i64 x.q4, .int .u64 x.m1, .int .u64 x.m2, .int .u64 x.m3, .int .u64 x.m4, .int .u64 x.m5, .int .u64 x.p, .int .i64 x.bk, .int .i64 x.rt] 30)) 0 0 0 0 0 0 0 0 0 0 0 0 0; simpa using this)
  have HF := Lib.hid (hH.below hb)
  have hlt : H < w.heap.size := hH.lt
  have hltA : A < w.heap.size := hH.ar.lt
  have hltG : G < w.heap.size := hH.ar.row.lt
  have HQ : Hid (Sav (HG H G) w _) := Lib.hid (Sav.of (S := HG H G) hb)
  have HSw := Lib.hid hS; have HFw := Lib.hid hH
  have hu' : s.clr.U := hu
  have HCL : Hid (∀ W, HAt W H A G C s → Calls Tryz.prog 40 #[.pointer (some ⟨H, 0, none⟩)] W (HP W H A G C s.clr (.tuple #[]))) := Lib.hid (fun W h => hClear_c (w := W) h)
  generalize s.clr = sc at *
  have HST : Hid (∀ W, HAt W H A G C sc → SpansAt W → Calls Tryz.prog 41 #[.pointer (some ⟨H, 0, none⟩), .int .i64 m, x.v] W (HP W H A G C (stepR C sc m x).1 (.tuple #[(stepR C sc m x).2.1.v, .bool (stepR C sc m x).2.2.1, .bool (stepR C sc m x).2.2.2]))) := Lib.hid (fun W h1 h2 => step_any (w := W) h1 hn hu' h2 m x hx hq hq3 hl)
  generalize (stepR C sc m x).1 = s' at *
  generalize (stepR C sc m x).2.1 = y at *
  generalize (stepR C sc m x).2.2.1 = lin at *
  generalize (stepR C sc m x).2.2.2 = ok at *
  clear hH hS hb hu hu' hx hq hq3 hl
  obtain ⟨a0, a1, a2, a3, a4, a5, a6, a7, a8, a9, a10, a11, a12, af⟩ := HX.out.cells
  go_enter Tryz.func20, Tryz.ntmps20
  go_wp2_with fail
  refine (HCL.out _ HF.out).mono ?_
  rintro e V1 ⟨rfl, hF, hs⟩
  have HX1 := Lib.hid (HX.out.savH hs (by omega) (by omega))
  have HY1 := Lib.hid (HY.out.savH hs (by omega) (by omega))
  have HQ1 := Lib.hid (HQ.out.trans hs)
  have HF1 := Lib.hid hF
  have HS1 := Lib.hid (spans_sav hn HSw.out HFw.out HQ1.out)
  clear hF hs HF HX HY HQ HCL HSw HFw a0 a1 a2 a3 a4 a5 a6 a7 a8 a9 a10 a11 a12 af
  obtain ⟨a0, a1, a2, a3, a4, a5, a6, a7, a8, a9, a10, a11, a12, af⟩ := HX1.out.cells
  go_wp2_with fail
  refine (HST.out _ HF1.out HS1.out).mono ?_
  rintro e V2 ⟨rfl, hF, hs⟩
  have HY2 := Lib.hid (HY1.out.savH hs (by omega) (by omega))
  have HQ2 := Lib.hid (HQ1.out.trans hs)
  have HF2 := Lib.hid hF
  clear hF hs HF1 HX1 HY1 HQ1 HS1 HST a0 a1 a2 a3 a4 a5 a6 a7 a8 a9 a10 a11 a12 af
  obtain ⟨c0, c1, c2, c3, c4, c5, c6, c7, c8, c9, c10, c11, c12, cf⟩ := HY2.out.cells
  obtain ⟨b0, b1, b2, b3, b4, b5, b6, b7, b8, b9, b10, b11, b12, bf⟩ := (HY2.out.put y.l y.p y.bk y.q1 y.q2 y.q3 y.q4 y.m1 y.m2 y.m3 y.m4 y.m5 y.rt).cells
  obtain ⟨s0, s1, s2, s3, s4, s5, s6, s7, s8, s9, s10, s11, s12, _⟩ := ((HY2.out.put y.l y.p y.bk y.q1 y.q2 y.q3 y.q4 y.m1 y.m2 y.m3 y.m4 y.m5 y.rt).put y.l y.p y.bk y.q1 y.q2 y.q3 y.q4 y.m1 y.m2 y.m3 y.m4 y.m5 y.rt).cells
  cases ok
  · go_wp2_with fail
    refine bodyPost_ret (v := .tuple #[y.v, .bool lin, .bool false]) (by simp [results, Tryz.f20, go_sem, s0, s1, s2, s3, s4, s5, s6, s7, s8, s9, s10, s11, s12]) rfl ?_
    exact ⟨rfl, (HF2.out.put13 (by omega) (by omega) (by omega) _ _ _ _ _ _ _ _ _ _ _ _ _).put13 (by omega) (by omega) (by omega) _ _ _ _ _ _ _ _ _ _ _ _ _, (HQ2.out.put13 (C := w.heap.size + 1) (.inr (by omega)) _ _ _ _ _ _ _ _ _ _ _ _ _).put13 (C := w.heap.size + 1) (.inr (by omega)) _ _ _ _ _ _ _ _ _ _ _ _ _⟩
  · go_wp2_with fail
    refine bodyPost_ret (v := .tuple #[y.v, .bool lin, .bool (y.l == 0)]) (by simp [results, Tryz.f20, go_sem, s0, s1, s2, s3, s4, s5, s6, s7, s8, s9, s10, s11, s12]) rfl ?_
    exact ⟨rfl, (HF2.out.put13 (by omega) (by omega) (by omega) _ _ _ _ _ _ _ _ _ _ _ _ _).put13 (by omega) (by omega) (by omega) _ _ _ _ _ _ _ _ _ _ _ _ _, (HQ2.out.put13 (C := w.heap.size + 1) (.inr (by omega)) _ _ _ _ _ _ _ _ _ _ _ _ _).put13 (C := w.heap.size + 1) (.inr (by omega)) _ _ _ _ _ _ _ _ _ _ _ _ _⟩
end Go.Proofs.YtbpkdihonemogaaGreatDoor
/- The first look of the laws of layer 14. -/
namespace Go.Proofs.YtbpkdihonemogaaGreatDoor
open Go Go.RowKit
set_option maxRecDepth 100000
attribute [local go_sem ↓] Go.wp_at_zero Go.wp_at_succ

abbrev C14 : Cf := ⟨13, 2, 1, 1, 0⟩
/-- What is there behind each step of the first look. -/
def stL : Nat → Dy × Mu
  | 0 => (⟨fstV 2 1 1 0, 0, 0, 0, 0, 0⟩, ⟨1, 1, 0, 5, 0, 0, 0, 0, 0, 0, 0, 0, 0⟩)
  | k + 1 => ((lispS C14 (stL k).1 0 (stL k).2).1, (lispS C14 (stL k).1 0 (stL k).2).2.1)
theorem stL_U : ∀ k, (stL k).1.U ∧ (stL k).2.U ∧ (stL k).2.q1 = 1 ∧ (stL k).2.q3 = 5
  | 0 => ⟨fst_u64 right0, ⟨u64_zero, u64_zero, u64_zero, u64_zero, u64_zero, u64_zero⟩, rfl, rfl⟩
  | k + 1 => by
    obtain ⟨h1, h2, h3, h4⟩ := stL_U k
    have h := lispS_U (C := C14) h1 0 h2 (by rw [h4]; omega)
    have q := lispS_q (C := C14) (s := (stL k).1) 0 (stL k).2
    exact ⟨h.1, h.2, q.1.trans h3, q.2.2.1.trans h4⟩
theorem stL_l {k : Nat} (h : k < 5) : (lispS C14 (stL k).1 0 (stL k).2).2.2.2 = decide (k = 4) ∧ -9223372036854775808 ≤ (stL k).2.l ∧ (stL k).2.l ≤ 9223372036854775807 := by
  rcases (by omega : k = 0 ∨ k = 1 ∨ k = 2 ∨ k = 3 ∨ k = 4) with rfl | rfl | rfl | rfl | rfl
  all_goals exact ⟨by decide +kernel, by decide +kernel, by decide +kernel⟩
theorem stL_5 : (stL 5).2.rt = 1 ∧ (stL 5).1.f 6 = 10 := ⟨by decide +kernel, by decide +kernel⟩
set_option maxHeartbeats 3200000 in
theorem awake_c (w : World) (hS : SpansAt w) :
    Calls Tryz.prog 6 #[] w fun e w' => e = .returned (.bool true) ∧ Below w.heap.size w w' := by
  have HN := Lib.hid (New_yes 2 1 1 0 right0 w hS)
  have HS := Lib.hid hS
  have HBG := Lib.hid (gBegin_c 1 0 5 0)
  have HL : Hid (∀ k W H A G, k < 5 → SpansAt W → HAt W H A G C14 (stL k).1 → Calls Tryz.prog 20 #[.pointer (some ⟨H, 0, none⟩), .int .i64 0, (stL k).2.v] W (HP W H A G C14 (stL (k + 1)).1 (.tuple #[(stL (k + 1)).2.v, .bool (lispS C14 (stL k).1 0 (stL k).2).2.2.1, .bool (decide (k = 4))]))) := Lib.hid (fun k W H A G hk h1 h2 => by
    have hu := stL_U k
    have hl := stL_l hk
    have := lisp_c (w := W) h2 (by decide) hu.1 h1 0 (stL k).2 hu.2.1 (by rw [hu.2.2.1]; omega) (by rw [hu.2.2.2]; omega) hl.2
    rw [hl.1] at this
    exact this)
  clear hS
  go_enter Tryz.func6, Tryz.ntmps6
  go_wp2_with fail
  refine HN.out.mono ?_
  rintro e W1 ⟨n, hn, H, A, G, rfl, hF, hb, l1, l2, l3⟩
  obtain rfl : n = 13 := by omega
  have HB1 := Lib.hid hb; have HF1 := Lib.hid hF
  clear hF hb HN hn l2
  go_wp2_with fail
  refine (HBG.out _).mono ?_
  rintro e W3 ⟨rfl, hb⟩
  have HT := Lib.hid (TkW.first (C := C14) (s := (stL 0).1) (belowOn HB1.out hb) (HF1.out.below hb) l1 l3 (⟨1, 1, 0, 5, 0, 0, 0, 0, 0, 0, 0, 0, 0⟩ : Mu))
  clear hb HB1 HF1 HBG l1 l3
  go_wp2_with fail
  generalize W3.alloc (.cells #[.int .i64 1, .int .i64 1, .int .i64 0, .int .i64 5, .int .i64 0, .int .u64 0, .int .u64 0, .int .u64 0, .int .u64 0, .int .u64 0, .int .u64 0, .int .i64 0, .int .i64 0] 30) = W4 at *
  generalize W3.heap.size = B at *
  go_loopw [4, 5] (fun vd vi wr => ∃ k : Nat, vi = .int .i64 k ∧ vd = .bool (decide (k = 5)) ∧ k ≤ 5 ∧ Hid (TkW w wr H A G B C14 (stL k).1 (stL k).2)) (fun _ vi _ => 5 - (intOf vi).toNat)
  case atStart => exact ⟨0, rfl, rfl, by omega, HT⟩
  case round =>
    clear HT
    obtain ⟨k, rfl, rfl, hk, HT⟩ := hrel
    by_cases hlt : k < 5
    · have hk0 : (0 : Int) ≤ (k : Int) := by omega
      have hk4 : (k : Int) < 9 := by omega
      have hd : decide (k = 5) = false := decide_eq_false (by omega)
      have hd1 : decide (k = 4) = decide (k + 1 = 5) := decide_eq_decide.2 (by omega)
      have HC := Lib.hid (HL.out k wr H A G hlt (HS.out.below HT.out.old) HT.out.hand)
      rw [hd1] at HC
      generalize hdn : decide (k + 1 = 5) = dn at *
      have HDN := Lib.hid hdn
      clear hdn
      generalize (lispS C14 (stL k).1 0 (stL k).2).2.2.1 = ln at *
      obtain ⟨b0, b1, b2, b3, b4, b5, b6, b7, b8, b9, b10, b11, b12, bf⟩ := HT.out.mu.cells
      generalize hs1 : (stL (k + 1)).1 = s' at *
      generalize hy1 : (stL (k + 1)).2 = y at *
      have HE := Lib.hid (And.intro hs1 hy1)
      clear hs1 hy1
      rw [hd]
      clear hd hd1
      go_wp2_with fail
      refine HC.out.mono ?_
      rintro e V hp
      obtain ⟨rfl, hT⟩ := HT.out.step hp
      have HT2 := Lib.hid hT
      clear hp hT HC HT b0 b1 b2 b3 b4 b5 b6 b7 b8 b9 b10 b11 b12 bf
      obtain ⟨b0, b1, b2, b3, b4, b5, b6, b7, b8, b9, b10, b11, b12, bf⟩ := HT2.out.mu.cells
      go_wp2_with fail
      go_roundw
      case rel => exact ⟨k + 1, by go_num, by rw [HDN.out], by omega, Lib.hid (by rw [HE.out.1, HE.out.2]; exact HT2.out.put y)⟩
      case measure => simp [intOf]; omega
    · obtain rfl : k = 5 := by omega
      have hr := stL_5
      have HA := Lib.hid HT.out.hand.ar
      have hLd := Lib.hid (fun (W : World) (h : ArenaAt W A G 13 (stL 5).1.f) => Load_in (w := W) h 6 (by decide))
      rw [hr.2] at hLd
      obtain ⟨b0, b1, b2, b3, b4, b5, b6, b7, b8, b9, b10, b11, b12, bf⟩ := HT.out.mu.cells
      rw [hr.1] at b12
      have hp0 : wr.cell? ⟨H, 0, none⟩ = some (.pointer (some ⟨A, 0, none⟩)) := HT.out.hand.cells.1
      have HB := Lib.hid HT.out.old
      clear hr HT HL hlt hk
      generalize (stL 5).1 = s5 at *
      generalize (stL 5).2 = y5 at *
      go_wp2_with fail
      refine (hLd.out _ HA.out).mono ?_
      rintro e V ⟨rfl, rfl⟩
      go_wp2_with fail
      go_ret
      exact ⟨rfl, HB.out⟩
end Go.Proofs.YtbpkdihonemogaaGreatDoor
