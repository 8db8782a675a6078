/- Laid together: LispDo, ColPure19, ColF, RootsCalls, SweepDoN. -/
import Derived.Test.YtbpooljohjkbjaaGreatDoorLispStep
import Derived.Test.YtbpooljohjkbjaaGreatDoorM4
import Derived.Test.YtbpooljohjkbjaaGreatDoorM1
import Derived.Test.YtbpooljohjkbjaaGreatDoorM3
/- A step of package lisp, of every line, is lispS. -/
namespace Go.Proofs.YtbpooljohjkbjaaGreatDoor
open Go Go.RowKit
set_option maxRecDepth 100000
attribute [local go_sem ↓] Go.wp_at_zero Go.wp_at_succ
theorem begL_ne (v : Nat) {k : Int} (hk : k ≠ 0) : begL v k ≠ 0 := by unfold begL; split <;> omega
theorem tickS_l {C : Cf} {s : Dy} {x : Mu} (h : isTick x.l = true) : ((tickS C s x).2.1.l == 0) = false := by
  unfold isTick at h; simp at h
  unfold tickS
  repeat' split
  all_goals first | rfl | (exfalso; omega) | (simp; omega)
theorem popS_l {C : Cf} {s : Dy} {x : Mu} (h : isPop x.l = true) : ((popS C s x).2.1.l == 0) = false := by
  unfold isPop at h; simp at h
  unfold popS
  repeat' split
  all_goals first | rfl | (exfalso; omega) | (simpa using begL_ne _ (by decide))
theorem ownS_l {C : Cf} {s : Dy} {m : Int} {x : Mu} (h : isOwn x.l = true) : ((ownS C s m x).2.1.l == 0) = false ∧ (ownS C s m x).2.2.2 = false := by
  unfold isOwn ownK at h
  unfold ownS
  by_cases e10 : x.l = 10
  · rw [if_pos e10]; exact ⟨by first | rfl | (dsimp only; split <;> rfl) | (simpa [begM] using begL_ne _ (by decide)), rfl⟩
  rw [if_neg e10]
  by_cases e11 : x.l = 11
  · rw [if_pos e11]; exact ⟨by first | rfl | (dsimp only; split <;> rfl) | (simpa [begM] using begL_ne _ (by decide)), rfl⟩
  rw [if_neg e11]
  by_cases e12 : x.l = 12
  · rw [if_pos e12]; exact ⟨by first | rfl | (dsimp only; split <;> rfl) | (simpa [begM] using begL_ne _ (by decide)), rfl⟩
  rw [if_neg e12]
  by_cases e13 : x.l = 13
  · rw [if_pos e13]; exact ⟨by first | rfl | (dsimp only; split <;> rfl) | (simpa [begM] using begL_ne _ (by decide)), rfl⟩
  rw [if_neg e13]
  by_cases e14 : x.l = 14
  · rw [if_pos e14]; exact ⟨by first | rfl | (dsimp only; split <;> rfl) | (simpa [begM] using begL_ne _ (by decide)), rfl⟩
  rw [if_neg e14]
  by_cases e15 : x.l = 15
  · rw [if_pos e15]; exact ⟨by first | rfl | (dsimp only; split <;> rfl) | (simpa [begM] using begL_ne _ (by decide)), rfl⟩
  rw [if_neg e15]
  by_cases e16 : x.l = 16
  · rw [if_pos e16]; exact ⟨by first | rfl | (dsimp only; split <;> rfl) | (simpa [begM] using begL_ne _ (by decide)), rfl⟩
  rw [if_neg e16]
  by_cases e17 : x.l = 17
  · rw [if_pos e17]; exact ⟨by first | rfl | (dsimp only; split <;> rfl) | (simpa [begM] using begL_ne _ (by decide)), rfl⟩
  rw [if_neg e17]
  by_cases e18 : x.l = 18
  · rw [if_pos e18]; exact ⟨by first | rfl | (dsimp only; split <;> rfl) | (simpa [begM] using begL_ne _ (by decide)), rfl⟩
  rw [if_neg e18]
  by_cases e19 : x.l = 19
  · rw [if_pos e19]; exact ⟨by first | rfl | (dsimp only; split <;> rfl) | (simpa [begM] using begL_ne _ (by decide)), rfl⟩
  rw [if_neg e19]
  by_cases e20 : x.l = 20
  · rw [if_pos e20]; exact ⟨by first | rfl | (dsimp only; split <;> rfl) | (simpa [begM] using begL_ne _ (by decide)), rfl⟩
  rw [if_neg e20]
  by_cases e21 : x.l = 21
  · rw [if_pos e21]; exact ⟨by first | rfl | (dsimp only; split <;> rfl) | (simpa [begM] using begL_ne _ (by decide)), rfl⟩
  rw [if_neg e21]
  by_cases e22 : x.l = 22
  · rw [if_pos e22]; exact ⟨by first | rfl | (dsimp only; split <;> rfl) | (simpa [begM] using begL_ne _ (by decide)), rfl⟩
  rw [if_neg e22]
  by_cases e23 : x.l = 23
  · rw [if_pos e23]; exact ⟨by first | rfl | (dsimp only; split <;> rfl) | (simpa [begM] using begL_ne _ (by decide)), rfl⟩
  rw [if_neg e23]
  by_cases e24 : x.l = 24
  · rw [if_pos e24]; exact ⟨by first | rfl | (dsimp only; split <;> rfl) | (simpa [begM] using begL_ne _ (by decide)), rfl⟩
  rw [if_neg e24]
  by_cases e30 : x.l = 30
  · rw [if_pos e30]; exact ⟨by first | rfl | (dsimp only; split <;> rfl) | (simpa [begM] using begL_ne _ (by decide)), rfl⟩
  rw [if_neg e30]
  by_cases e31 : x.l = 31
  · rw [if_pos e31]; exact ⟨by first | rfl | (dsimp only; split <;> rfl) | (simpa [begM] using begL_ne _ (by decide)), rfl⟩
  rw [if_neg e31]
  by_cases e38 : x.l = 38
  · rw [if_pos e38]; exact ⟨by first | rfl | (dsimp only; split <;> rfl) | (simpa [begM] using begL_ne _ (by decide)), rfl⟩
  rw [if_neg e38]
  by_cases e39 : x.l = 39
  · rw [if_pos e39]; exact ⟨by first | rfl | (dsimp only; split <;> rfl) | (simpa [begM] using begL_ne _ (by decide)), rfl⟩
  rw [if_neg e39]
  by_cases e40 : x.l = 40
  · rw [if_pos e40]; exact ⟨by first | rfl | (dsimp only; split <;> rfl) | (simpa [begM] using begL_ne _ (by decide)), rfl⟩
  rw [if_neg e40]
  simp only [if_neg e10, if_neg e11, if_neg e12, if_neg e13, if_neg e14, if_neg e15, if_neg e16, if_neg e17, if_neg e18, if_neg e19, if_neg e20, if_neg e21, if_neg e22, if_neg e23, if_neg e24, if_neg e30, if_neg e31, if_neg e38, if_neg e39, if_neg e40] at h
  cases h
theorem ownS_no {C : Cf} {s : Dy} {m : Int} {x : Mu} (h : isOwn x.l = false) : ownS C s m x = (s, x, false, false) := by
  have key : ∀ n : Int, (ownK n).isSome = true → x.l ≠ n := fun n hn e => by unfold isOwn at h; rw [e] at h; rw [h] at hn; cases hn
  unfold ownS
  rw [if_neg (key 10 rfl), if_neg (key 11 rfl), if_neg (key 12 rfl), if_neg (key 13 rfl), if_neg (key 14 rfl), if_neg (key 15 rfl), if_neg (key 16 rfl), if_neg (key 17 rfl), if_neg (key 18 rfl), if_neg (key 19 rfl), if_neg (key 20 rfl), if_neg (key 21 rfl), if_neg (key 22 rfl), if_neg (key 23 rfl), if_neg (key 24 rfl), if_neg (key 30 rfl), if_neg (key 31 rfl), if_neg (key 38 rfl), if_neg (key 39 rfl), if_neg (key 40 rfl)]
theorem lispS_of (C : Cf) (s : Dy) (m : Int) (x : Mu) : lispS C s m x = ((stepR C s.clr m x).1, (stepR C s.clr m x).2.1, (stepR C s.clr m x).2.2.1, (stepR C s.clr m x).2.2.2 && ((stepR C s.clr m x).2.1.l == 0)) := by
  unfold lispS stepR
  cases hg : isGate x.l with
  | true => simp only [if_true]; rfl
  | false =>
    cases ht : isTick x.l with
    | true => simp only [if_true, Bool.false_eq_true, if_false]; rw [tickS_l ht]; rfl
    | false =>
      cases hp : isPop x.l with
      | true =>
        have hb : isBar x.l = false := by unfold isPop at hp; unfold isBar; simp at hp ⊢; omega
        rw [hb]
        simp only [if_true, Bool.false_eq_true, if_false]; rw [popS_l hp]; rfl
      | false =>
        cases hb : isBar x.l with
        | true => simp only [if_true, Bool.false_eq_true, if_false]; rfl
        | false =>
          simp only [Bool.false_eq_true, if_false]
          cases ho : isOwn x.l with
          | true =>
            simp only [if_true]
            have h := ownS_l (C := C) (s := s.clr) (m := m) ho
            rw [h.1]
            exact Prod.ext rfl (Prod.ext rfl (Prod.ext rfl h.2))
          | false =>
            simp only [Bool.false_eq_true, if_false]
            rw [ownS_no ho]; rfl
set_option maxHeartbeats 3200000 in
theorem lisp_c {w : World} {H A G : Nat} {C : Cf} {s : Dy} (hH : HAt w H A G C s) (hn : 0 < C.n) (hu : s.U) (hS : SpansAt w) (m : Int) (x : Mu) (hx : x.U) (hq : -9223372036854775808 ≤ x.q1 ∧ x.q1 ≤ 9223372036854775807) (hq3 : x.q3 ≤ 9223372036854775807) (hl : -9223372036854775808 ≤ x.l ∧ x.l ≤ 9223372036854775807) :
    Calls Tryz.prog 46 #[.pointer (some ⟨H, 0, none⟩), .int .i64 m, x.v] w (HP w H A G C (lispS C s m x).1 (.tuple #[(lispS C s m x).2.1.v, .bool (lispS C s m x).2.2.1, .bool (lispS C s m x).2.2.2])) := by
  rw [lispS_of]
  have hb := below_on (below_new w (.cells #[.int .i64 x.l, .int .i64 x.q1, .int .i64 x.q2, .int .i64 x.q3, .int .i64 x.q4, .int .u64 x.m1, .int .u64 x.m2, .int .u64 x.m3, .int .u64 x.m4, .int .u64 x.m5, .int .u64 x.p, .int .i64 x.bk, .int .i64 x.rt] 60)) (.cells #[.int .i64 0, .int .i64 0, .int .i64 0, .int .i64 0, .int .i64 0, .int .u64 0, .int .u64 0, .int .u64 0, .int .u64 0, .int .u64 0, .int .u64 0, .int .i64 0, .int .i64 0] 60)
  have HX : Hid (MuAt ((w.alloc (.cells #[.int .i64 x.l, .int .i64 x.q1, .int .i64 x.q2, .int .i64 x.q3, .int .i64 x.q4, .int .u64 x.m1, .int .u64 x.m2, .int .u64 x.m3, .int .u64 x.m4, .int .u64 x.m5, .int .u64 x.p, .int .i64 x.bk, .int .i64 x.rt] 60)).alloc (.cells #[.int .i64 0, .int .i64 0, .int .i64 0, .int .i64 0, .int .i64 0, .int .u64 0, .int .u64 0, .int .u64 0, .int .u64 0, .int .u64 0, .int .u64 0, .int .i64 0, .int .i64 0] 60)) w.heap.size x) := Lib.hid ((Mut13.new w x.l x.p x.bk x.q1 x.q2 x.q3 x.q4 x.m1 x.m2 x.m3 x.m4 x.m5 x.rt).below (below_new _ (.cells #[.int .i64 0, .int .i64 0, .int .i64 0, .int .i64 0, .int .i64 0, .int .u64 0, .int .u64 0, .int .u64 0, .int .u64 0, .int .u64 0, .int .u64 0, .int .i64 0, .int .i64 0] 60)))
  have HY : Hid (MuAt ((w.alloc (.cells #[.int .i64 x.l, .int .i64 x.q1, .int .i64 x.q2, .int .i64 x.q3, .int .i64 x.q4, .int .u64 x.m1, .int .u64 x.m2, .int .u64 x.m3, .int .u64 x.m4, .int .u64 x.m5, .int .u64 x.p, .int .i64 x.bk, .int .i64 x.rt] 60)).alloc (.cells #[.int .i64 0, .int .i64 0, .int .i64 0, .int .i64 0, .int .i64 0, .int .u64 0, .int .u64 0, .int .u64 0, .int .u64 0, .int .u64 0, .int .u64 0, .int .i64 0, .int .i64 0] 60)) (w.heap.size + 1) (⟨0, 0, 0, 0, 0, 0, 0, 0, 0, 0, 0, 0, 0⟩ : Mu)) := Lib.hid (by have := Mut13.new (w.alloc (.cells #[.int .i64 x.l, .int .i64 x.q1, .int .i64 x.q2, .int .i64 x.q3, .int .i64 x.q4, .int .u64 x.m1, .int .u64 x.m2, .int .u64 x.m3, .int .u64 x.m4, .int .u64 x.m5, .int .u64 x.p, .int .i64 x.bk, .int .i64 x.rt] 60)) 0 0 0 0 0 0 0 0 0 0 0 0 0; simpa using this)
  have HF := Lib.hid (hH.below hb)
  have hlt : H < w.heap.size := hH.lt
  have hltA : A < w.heap.size := hH.ar.lt
  have hltG : G < w.heap.size := hH.ar.row.lt
  have HQ : Hid (Sav (HG H G) w _) := Lib.hid (Sav.of (S := HG H G) hb)
  have HSw := Lib.hid hS; have HFw := Lib.hid hH
  have hu' : s.clr.U := hu
  have HCL : Hid (∀ W, HAt W H A G C s → Calls Tryz.prog 78 #[.pointer (some ⟨H, 0, none⟩)] W (HP W H A G C s.clr (.tuple #[]))) := Lib.hid (fun W h => hClear_c (w := W) h)
  generalize s.clr = sc at *
  have HST : Hid (∀ W, HAt W H A G C sc → SpansAt W → Calls Tryz.prog 80 #[.pointer (some ⟨H, 0, none⟩), .int .i64 m, x.v] W (HP W H A G C (stepR C sc m x).1 (.tuple #[(stepR C sc m x).2.1.v, .bool (stepR C sc m x).2.2.1, .bool (stepR C sc m x).2.2.2]))) := Lib.hid (fun W h1 h2 => step_any (w := W) h1 hn hu' h2 m x hx hq hq3 hl)
  generalize (stepR C sc m x).1 = s' at *
  generalize (stepR C sc m x).2.1 = y at *
  generalize (stepR C sc m x).2.2.1 = lin at *
  generalize (stepR C sc m x).2.2.2 = ok at *
  clear hH hS hb hu hu' hx hq hq3 hl
  obtain ⟨a0, a1, a2, a3, a4, a5, a6, a7, a8, a9, a10, a11, a12, af⟩ := HX.out.cells
  go_enter Tryz.func46, Tryz.ntmps46
  go_wp2_with fail
  refine (HCL.out _ HF.out).mono ?_
  rintro e V1 ⟨rfl, hF, hs⟩
  have HX1 := Lib.hid (HX.out.savH hs (by omega) (by omega))
  have HY1 := Lib.hid (HY.out.savH hs (by omega) (by omega))
  have HQ1 := Lib.hid (HQ.out.trans hs)
  have HF1 := Lib.hid hF
  have HS1 := Lib.hid (lspans_sav hn HSw.out HFw.out HQ1.out)
  clear hF hs HF HX HY HQ HCL HSw HFw a0 a1 a2 a3 a4 a5 a6 a7 a8 a9 a10 a11 a12 af
  obtain ⟨a0, a1, a2, a3, a4, a5, a6, a7, a8, a9, a10, a11, a12, af⟩ := HX1.out.cells
  go_wp2_with fail
  refine (HST.out _ HF1.out HS1.out).mono ?_
  rintro e V2 ⟨rfl, hF, hs⟩
  have HY2 := Lib.hid (HY1.out.savH hs (by omega) (by omega))
  have HQ2 := Lib.hid (HQ1.out.trans hs)
  have HF2 := Lib.hid hF
  clear hF hs HF1 HX1 HY1 HQ1 HS1 HST a0 a1 a2 a3 a4 a5 a6 a7 a8 a9 a10 a11 a12 af
  obtain ⟨c0, c1, c2, c3, c4, c5, c6, c7, c8, c9, c10, c11, c12, cf⟩ := HY2.out.cells
  obtain ⟨b0, b1, b2, b3, b4, b5, b6, b7, b8, b9, b10, b11, b12, bf⟩ := (HY2.out.put y.l y.p y.bk y.q1 y.q2 y.q3 y.q4 y.m1 y.m2 y.m3 y.m4 y.m5 y.rt).cells
  obtain ⟨s0, s1, s2, s3, s4, s5, s6, s7, s8, s9, s10, s11, s12, _⟩ := ((HY2.out.put y.l y.p y.bk y.q1 y.q2 y.q3 y.q4 y.m1 y.m2 y.m3 y.m4 y.m5 y.rt).put y.l y.p y.bk y.q1 y.q2 y.q3 y.q4 y.m1 y.m2 y.m3 y.m4 y.m5 y.rt).cells
  cases ok
  · go_wp2_with fail
    refine bodyPost_ret (v := .tuple #[y.v, .bool lin, .bool false]) (by simp [results, Tryz.f46, go_sem, s0, s1, s2, s3, s4, s5, s6, s7, s8, s9, s10, s11, s12]) rfl ?_
    exact ⟨rfl, (HF2.out.put13 (by omega) (by omega) (by omega) _ _ _ _ _ _ _ _ _ _ _ _ _).put13 (by omega) (by omega) (by omega) _ _ _ _ _ _ _ _ _ _ _ _ _, (HQ2.out.put13 (C := w.heap.size + 1) (.inr (by omega)) _ _ _ _ _ _ _ _ _ _ _ _ _).put13 (C := w.heap.size + 1) (.inr (by omega)) _ _ _ _ _ _ _ _ _ _ _ _ _⟩
  · go_wp2_with fail
    refine bodyPost_ret (v := .tuple #[y.v, .bool lin, .bool (y.l == 0)]) (by simp [results, Tryz.f46, go_sem, s0, s1, s2, s3, s4, s5, s6, s7, s8, s9, s10, s11, s12]) rfl ?_
    exact ⟨rfl, (HF2.out.put13 (by omega) (by omega) (by omega) _ _ _ _ _ _ _ _ _ _ _ _ _).put13 (by omega) (by omega) (by omega) _ _ _ _ _ _ _ _ _ _ _ _ _, (HQ2.out.put13 (C := w.heap.size + 1) (.inr (by omega)) _ _ _ _ _ _ _ _ _ _ _ _ _).put13 (C := w.heap.size + 1) (.inr (by omega)) _ _ _ _ _ _ _ _ _ _ _ _ _⟩
end Go.Proofs.YtbpooljohjkbjaaGreatDoor
/- Whether the collector marks, how far it has swept; its step is a layer's, without memory. -/
namespace Go.Proofs.YtbpooljohjkbjaaGreatDoor
open Go Go.RowKit
set_option maxRecDepth 100000
attribute [local go_sem ↓] Go.wp_at_zero Go.wp_at_succ
theorem Dy.clr_U {s : Dy} (h : s.U) : s.clr.U := h
end Go.Proofs.YtbpooljohjkbjaaGreatDoor
/- How far the collector is in a call's own box, beside a hand and the document's; what IsCell tells of any word. -/
namespace Go.Proofs.YtbpooljohjkbjaaGreatDoor
open Go Go.RowKit
set_option maxRecDepth 100000
attribute [local go_sem ↓] Go.wp_at_zero Go.wp_at_succ
structure ColF (w W : World) (H A G : Nat) (C : Cf) (s : Dy) (x : Co) : Prop where
  col : CoAt W w.heap.size x
  res : Col9 W (w.heap.size + 1) 0 0 0 0 0 0 false 0 0
  hand : HAt W H A G C s
  sav : Sav (HG H G) w W
  lH : H < w.heap.size
  lA : A < w.heap.size
  lG : G < w.heap.size
namespace ColF
variable {w W V : World} {H A G : Nat} {C : Cf} {s s' : Dy} {x : Co}
theorem cells (h : ColF w W H A G C s x) : W.cell? ⟨w.heap.size, 0, none⟩ = some (.int .i64 x.l) ∧ W.cell? ⟨w.heap.size, 1, none⟩ = some (.int .i64 x.j) ∧ W.cell? ⟨w.heap.size, 2, none⟩ = some (.int .i64 x.c) ∧ W.cell? ⟨w.heap.size, 3, none⟩ = some (.int .i64 x.m) ∧ W.cell? ⟨w.heap.size, 4, none⟩ = some (.int .u64 x.a) ∧ W.cell? ⟨w.heap.size, 5, none⟩ = some (.int .u64 x.p) ∧ W.cell? ⟨w.heap.size, 6, none⟩ = some (.bool x.fd) ∧ W.cell? ⟨w.heap.size, 7, none⟩ = some (.int .i64 x.tl) ∧ W.cell? ⟨w.heap.size, 8, none⟩ = some (.int .i64 x.cy) ∧ (∀ j, W.frozen? ⟨w.heap.size, j, none⟩ = false) := h.col.cells
theorem cellsY (h : ColF w W H A G C s x) : W.cell? ⟨w.heap.size + 1, 0, none⟩ = some (.int .i64 0) ∧ W.cell? ⟨w.heap.size + 1, 1, none⟩ = some (.int .i64 0) ∧ W.cell? ⟨w.heap.size + 1, 2, none⟩ = some (.int .i64 0) ∧ W.cell? ⟨w.heap.size + 1, 3, none⟩ = some (.int .i64 0) ∧ W.cell? ⟨w.heap.size + 1, 4, none⟩ = some (.int .u64 0) ∧ W.cell? ⟨w.heap.size + 1, 5, none⟩ = some (.int .u64 0) ∧ W.cell? ⟨w.heap.size + 1, 6, none⟩ = some (.bool false) ∧ W.cell? ⟨w.heap.size + 1, 7, none⟩ = some (.int .i64 0) ∧ W.cell? ⟨w.heap.size + 1, 8, none⟩ = some (.int .i64 0) ∧ (∀ j, W.frozen? ⟨w.heap.size + 1, j, none⟩ = false) := h.res.cells
theorem below (h : ColF w W H A G C s x) (hb : Below W.heap.size W V) : ColF w V H A G C s x := ⟨h.col.below hb, h.res.below hb, h.hand.below hb, h.sav.trans (Sav.of hb), h.lH, h.lA, h.lG⟩
theorem drew (h : ColF w W H A G C s x) : ColF w W.drew H A G C s x := ⟨h.col.other rfl, h.res.other rfl, h.hand.drew, h.sav.trans (Sav.of (Below.refl _ _).drew), h.lH, h.lA, h.lG⟩
theorem handed (h : ColF w W H A G C s x) (hF : HAt V H A G C s') (hs : Sav (HG H G) W V) : ColF w V H A G C s' x :=
  ⟨h.col.savH hs (by have := h.lH; omega) (by have := h.lG; omega), h.res.savH hs (by have := h.lH; omega) (by have := h.lG; omega), hF, h.sav.trans hs, h.lH, h.lA, h.lG⟩
theorem setL (h : ColF w W H A G C s x) (z : Int) : ColF w (W.setCell ⟨w.heap.size, 0, none⟩ (.int .i64 z)) H A G C s { x with l := z } :=
  ⟨h.col.setL z, h.res.setOther (q := ⟨w.heap.size, 0, none⟩) (by show w.heap.size ≠ w.heap.size + 1; omega) _, h.hand.setOther (p := ⟨w.heap.size, 0, none⟩) (by have := h.lH; show w.heap.size ≠ H; omega) (by have := h.lA; show w.heap.size ≠ A; omega) (by have := h.lG; show w.heap.size ≠ G; omega) _, h.sav.set (p := ⟨w.heap.size, 0, none⟩) (.inr (Nat.le_refl _)) _, h.lH, h.lA, h.lG⟩
theorem setC (h : ColF w W H A G C s x) (z : Int) : ColF w (W.setCell ⟨w.heap.size, 2, none⟩ (.int .i64 z)) H A G C s { x with c := z } :=
  ⟨h.col.setC z, h.res.setOther (q := ⟨w.heap.size, 2, none⟩) (by show w.heap.size ≠ w.heap.size + 1; omega) _, h.hand.setOther (p := ⟨w.heap.size, 2, none⟩) (by have := h.lH; show w.heap.size ≠ H; omega) (by have := h.lA; show w.heap.size ≠ A; omega) (by have := h.lG; show w.heap.size ≠ G; omega) _, h.sav.set (p := ⟨w.heap.size, 2, none⟩) (.inr (Nat.le_refl _)) _, h.lH, h.lA, h.lG⟩
theorem setA (h : ColF w W H A G C s x) (z : Int) : ColF w (W.setCell ⟨w.heap.size, 4, none⟩ (.int .u64 z)) H A G C s { x with a := z } :=
  ⟨h.col.setA z, h.res.setOther (q := ⟨w.heap.size, 4, none⟩) (by show w.heap.size ≠ w.heap.size + 1; omega) _, h.hand.setOther (p := ⟨w.heap.size, 4, none⟩) (by have := h.lH; show w.heap.size ≠ H; omega) (by have := h.lA; show w.heap.size ≠ A; omega) (by have := h.lG; show w.heap.size ≠ G; omega) _, h.sav.set (p := ⟨w.heap.size, 4, none⟩) (.inr (Nat.le_refl _)) _, h.lH, h.lA, h.lG⟩
theorem setP (h : ColF w W H A G C s x) (z : Int) : ColF w (W.setCell ⟨w.heap.size, 5, none⟩ (.int .u64 z)) H A G C s { x with p := z } :=
  ⟨h.col.setP z, h.res.setOther (q := ⟨w.heap.size, 5, none⟩) (by show w.heap.size ≠ w.heap.size + 1; omega) _, h.hand.setOther (p := ⟨w.heap.size, 5, none⟩) (by have := h.lH; show w.heap.size ≠ H; omega) (by have := h.lA; show w.heap.size ≠ A; omega) (by have := h.lG; show w.heap.size ≠ G; omega) _, h.sav.set (p := ⟨w.heap.size, 5, none⟩) (.inr (Nat.le_refl _)) _, h.lH, h.lA, h.lG⟩
theorem setFD (h : ColF w W H A G C s x) (z : Bool) : ColF w (W.setCell ⟨w.heap.size, 6, none⟩ (.bool z)) H A G C s { x with fd := z } :=
  ⟨h.col.setFD z, h.res.setOther (q := ⟨w.heap.size, 6, none⟩) (by show w.heap.size ≠ w.heap.size + 1; omega) _, h.hand.setOther (p := ⟨w.heap.size, 6, none⟩) (by have := h.lH; show w.heap.size ≠ H; omega) (by have := h.lA; show w.heap.size ≠ A; omega) (by have := h.lG; show w.heap.size ≠ G; omega) _, h.sav.set (p := ⟨w.heap.size, 6, none⟩) (.inr (Nat.le_refl _)) _, h.lH, h.lA, h.lG⟩
theorem setTL (h : ColF w W H A G C s x) (z : Int) : ColF w (W.setCell ⟨w.heap.size, 7, none⟩ (.int .i64 z)) H A G C s { x with tl := z } :=
  ⟨h.col.setTL z, h.res.setOther (q := ⟨w.heap.size, 7, none⟩) (by show w.heap.size ≠ w.heap.size + 1; omega) _, h.hand.setOther (p := ⟨w.heap.size, 7, none⟩) (by have := h.lH; show w.heap.size ≠ H; omega) (by have := h.lA; show w.heap.size ≠ A; omega) (by have := h.lG; show w.heap.size ≠ G; omega) _, h.sav.set (p := ⟨w.heap.size, 7, none⟩) (.inr (Nat.le_refl _)) _, h.lH, h.lA, h.lG⟩
theorem put (h : ColF w W H A G C s x) (y : Co) : ColF w (put9 W w.heap.size y.l y.j y.c y.m y.a y.p y.fd y.tl y.cy) H A G C s y :=
  ⟨h.col.put _ _ _ _ _ _ _ _ _, h.res.other (heap_put9 _ _ _ _ _ _ _ _ _ _ _ (by omega)), h.hand.put9 (C := w.heap.size) (by have := h.lH; omega) (by have := h.lA; omega) (by have := h.lG; omega) _ _ _ _ _ _ _ _ _, h.sav.put9 (C := w.heap.size) (.inr (Nat.le_refl _)) _ _ _ _ _ _ _ _ _, h.lH, h.lA, h.lG⟩
theorem fin (h : ColF w W H A G C s x) (y : Co) : HAt (put9 W (w.heap.size + 1) y.l y.j y.c y.m y.a y.p y.fd y.tl y.cy) H A G C s ∧ Sav (HG H G) w (put9 W (w.heap.size + 1) y.l y.j y.c y.m y.a y.p y.fd y.tl y.cy) :=
  ⟨h.hand.put9 (C := w.heap.size + 1) (by have := h.lH; omega) (by have := h.lA; omega) (by have := h.lG; omega) _ _ _ _ _ _ _ _ _, h.sav.put9 (C := w.heap.size + 1) (.inr (by omega)) _ _ _ _ _ _ _ _ _⟩
theorem last (h : ColF w W H A G C s x) (y : Co) : CoAt (put9 W (w.heap.size + 1) y.l y.j y.c y.m y.a y.p y.fd y.tl y.cy) (w.heap.size + 1) y := h.res.put _ _ _ _ _ _ _ _ _
theorem start (hH : HAt w H A G C s) (x : Co) : ColF w ((w.alloc (.cells #[.int .i64 x.l, .int .i64 x.j, .int .i64 x.c, .int .i64 x.m, .int .u64 x.a, .int .u64 x.p, .bool x.fd, .int .i64 x.tl, .int .i64 x.cy] 49)).alloc (.cells #[.int .i64 0, .int .i64 0, .int .i64 0, .int .i64 0, .int .u64 0, .int .u64 0, .bool false, .int .i64 0, .int .i64 0] 49)) H A G C s x :=
  have hb := below_on (below_new w (.cells #[.int .i64 x.l, .int .i64 x.j, .int .i64 x.c, .int .i64 x.m, .int .u64 x.a, .int .u64 x.p, .bool x.fd, .int .i64 x.tl, .int .i64 x.cy] 49)) (.cells #[.int .i64 0, .int .i64 0, .int .i64 0, .int .i64 0, .int .u64 0, .int .u64 0, .bool false, .int .i64 0, .int .i64 0] 49)
  ⟨(Col9.new w x.l x.j x.c x.m x.a x.p x.fd x.tl x.cy).below (below_new _ _), by have := Col9.new (w.alloc (.cells #[.int .i64 x.l, .int .i64 x.j, .int .i64 x.c, .int .i64 x.m, .int .u64 x.a, .int .u64 x.p, .bool x.fd, .int .i64 x.tl, .int .i64 x.cy] 49)) 0 0 0 0 0 0 false 0 0; simpa using this, hH.below hb, Sav.of hb, hH.lt, hH.ar.lt, hH.ar.row.lt⟩
end ColF
namespace ColR
variable {w W V : World} {X : Nat} {va : Option Addr} {cap N : Nat} {C : Cf} {s s' : Dy} {x : Co}
end ColR
theorem u64_natc' {x : Int} (h : U64 x) : ∃ v : Nat, x = v ∧ v < 18446744073709551616 := by obtain ⟨h1, h2⟩ := h; exact ⟨x.toNat, by omega, by omega⟩
theorem z5_u64c {n : Nat} {k i x : Int} (h : U64 x) : U64 (z5 n k i x) := by
  unfold z5
  by_cases e : okD n k i
  · rw [if_pos e]; exact h
  · rw [if_neg e]; exact u64_zero
def cellK (v : Nat) : Int := if isC v then ((v / 2 : Nat) : Int) else 0
theorem isCell_c (v : Nat) (hv : v < 18446744073709551616) (w : World) :
    Calls Tryz.prog 125 #[.int .u64 (v : Int)] w fun e w' => e = .returned (.tuple #[.int .i64 (cellK v), .bool (decide (isC v))]) ∧ w = w' := by
  unfold cellK
  by_cases h : isC v
  · rw [if_pos h, decide_eq_true h]; exact isCell_cell v h.2 h.1 w
  · rw [if_neg h, decide_eq_false h]; exact isCell_no v hv h w
end Go.Proofs.YtbpooljohjkbjaaGreatDoor
/- next, Begin and Scanned of package roots; the document's Scanned. -/
namespace Go.Proofs.YtbpooljohjkbjaaGreatDoor
open Go Go.RowKit
set_option maxRecDepth 100000
attribute [local go_sem ↓] Go.wp_at_zero Go.wp_at_succ
theorem rootsN_right {C : Cf} (hr : Right C.a C.b C.c C.d) : 1 ≤ rootsN C ∧ rootsN C ≤ 5000 := by
  have hp := hr.prod
  unfold Right at hr
  unfold rootsN
  omega
theorem next_more (l j c m a p : Int) (fd : Bool) (tl cy : Int) (n : Int) (hn : 1 ≤ n ∧ n ≤ 5000) (hj : -1000000000000 ≤ j ∧ j ≤ 1000000000000) (h : j + 1 < n) (w : World) :
    Calls Tryz.prog 128 #[(colV l j c m a p fd tl cy), .int .i64 n] w fun e w' => e = .returned (colV 1 (j + 1) c m a 0 fd tl cy) ∧ Below w.heap.size w w' := by
  have hw1 : IntKind.i64.wrap (n - 1) = n - 1 := IntWalk.i64_in _ (by omega)
  have hw2 : IntKind.i64.wrap (j + 1) = j + 1 := IntWalk.i64_in _ (by omega)
  have hlt : j < n - 1 := by omega
  clear hn hj h
  go_enter Tryz.func128, Tryz.ntmps128
  go_wp2_with fail
  refine bodyPost_ret (v := (colV 1 (j + 1) c m a 0 fd tl cy)) (by simp [results, Tryz.f128, go_sem]) rfl ?_
  exact ⟨rfl, below_on (below_new _ _) _⟩
theorem next_over (l j c m a p : Int) (fd : Bool) (tl cy : Int) (n : Int) (hn : 1 ≤ n ∧ n ≤ 5000) (hj : -1000000000000 ≤ j ∧ j ≤ 1000000000000) (h : ¬ j + 1 < n) (w : World) :
    Calls Tryz.prog 128 #[(colV l j c m a p fd tl cy), .int .i64 n] w fun e w' => e = .returned (colV 3 (j + 1) c m a 0 fd tl cy) ∧ Below w.heap.size w w' := by
  have hw1 : IntKind.i64.wrap (n - 1) = n - 1 := IntWalk.i64_in _ (by omega)
  have hw2 : IntKind.i64.wrap (j + 1) = j + 1 := IntWalk.i64_in _ (by omega)
  have hlt : ¬ j < n - 1 := by omega
  clear hn hj h
  go_enter Tryz.func128, Tryz.ntmps128
  go_wp2_with fail
  refine bodyPost_ret (v := (colV 3 (j + 1) c m a 0 fd tl cy)) (by simp [results, Tryz.f128, go_sem]) rfl ?_
  exact ⟨rfl, below_on (below_new _ _) _⟩
theorem next_c (C : Cf) (hr : Right C.a C.b C.c C.d) (l j c m a p : Int) (fd : Bool) (tl cy : Int) (hj : -1000000000000 ≤ j ∧ j ≤ 1000000000000) (w : World) :
    Calls Tryz.prog 128 #[(colV l j c m a p fd tl cy), .int .i64 (1 + C.d + C.b * C.c)] w fun e w' => e = .returned (nextRoot C ⟨l, j, c, m, a, p, fd, tl, cy⟩).v ∧ Below w.heap.size w w' := by
  have hn := rootsN_right hr
  unfold nextRoot rootsN at *
  by_cases h : j + 1 < (1 + C.d + C.b * C.c)
  · simp only [if_pos h]; exact next_more l j c m a p fd tl cy _ hn hj h w
  · simp only [if_neg h]; exact next_over l j c m a p fd tl cy _ hn hj h w
theorem crBegin_c (l j c m a p : Int) (fd : Bool) (tl cy : Int) (w : World) :
    Calls Tryz.prog 41 #[(colV l j c m a p fd tl cy)] w fun e w' => e = .returned (colV 1 0 c m a 0 fd tl cy) ∧ Below w.heap.size w w' := by
  go_enter Tryz.func41, Tryz.ntmps41
  go_wp2_with fail
  refine bodyPost_ret (v := (colV 1 0 c m a 0 fd tl cy)) (by simp [results, Tryz.f41, go_sem]) rfl ?_
  exact ⟨rfl, below_on (below_new _ _) _⟩
end Go.Proofs.YtbpooljohjkbjaaGreatDoor
/- Cell of package word; goOn of package sweep. -/
namespace Go.Proofs.YtbpooljohjkbjaaGreatDoor
open Go Go.RowKit
set_option maxRecDepth 100000
attribute [local go_sem ↓] Go.wp_at_zero Go.wp_at_succ
theorem pCellW_c (k : Int) (w : World) : Calls Tryz.prog 76 #[.int .i64 k] w fun e w' => e = .returned (.int .u64 (cellW k)) ∧ w = w' := by
  unfold cellW
  by_cases h : 0 ≤ k ∧ k < 4096
  · rw [if_pos h]
    have h1 := cell_pos k.toNat (by omega) w
    rw [show ((k.toNat : Nat) : Int) = k by omega, show ((2 * k.toNat + 1 : Nat) : Int) = 2 * k + 1 by omega] at h1
    exact h1
  · rw [if_neg h]; exact cell_neg k (by omega) w
set_option maxHeartbeats 1600000 in
theorem sgo_more (l j c m a p : Int) (fd : Bool) (tl cy : Int) (n : Int) (_ : 1 ≤ n ∧ n ≤ 5000) (hc : -1000000000000 ≤ c ∧ c ≤ 1000000000000) (_ : -1000000000000 ≤ cy ∧ cy ≤ 1000000000000) (h : c + 1 < n) (w : World) :
    Calls Tryz.prog 136 #[(colV l j c m a p fd tl cy), .int .i64 n] w fun e w' => e = .returned (.tuple #[(colV 20 j (c + 1) m a p fd tl cy), .bool false]) ∧ Below w.heap.size w w' := by
  have hw1 : IntKind.i64.wrap (c + 1) = c + 1 := IntWalk.i64_in _ (by omega)
  have d1 : decide (n ≤ c) = false := decide_eq_false (by omega)
  have d2 : decide (n ≤ c + 1) = false := decide_eq_false (by omega)
  clear hc h
  go_enter Tryz.func136, Tryz.ntmps136
  go_wp2_with fail
  refine bodyPost_ret (v := .tuple #[(colV 20 j (c + 1) m a p fd tl cy), .bool false]) (by simp [results, Tryz.f136, go_sem]) rfl ?_
  exact ⟨rfl, below_on (below_new _ _) _⟩
set_option maxHeartbeats 1600000 in
theorem sgo_past (l j c m a p : Int) (fd : Bool) (tl cy : Int) (n : Int) (_ : 1 ≤ n ∧ n ≤ 5000) (hc : -1000000000000 ≤ c ∧ c ≤ 1000000000000) (hy : -1000000000000 ≤ cy ∧ cy ≤ 1000000000000) (h : n ≤ c) (w : World) :
    Calls Tryz.prog 136 #[(colV l j c m a p fd tl cy), .int .i64 n] w fun e w' => e = .returned (.tuple #[(colV 1 0 (c + 1) m a 0 fd tl (cy + 1)), .bool true]) ∧ Below w.heap.size w w' := by
  have hw1 : IntKind.i64.wrap (c + 1) = c + 1 := IntWalk.i64_in _ (by omega)
  have hw2 : IntKind.i64.wrap (cy + 1) = cy + 1 := IntWalk.i64_in _ (by omega)
  have d1 : decide (n ≤ c) = true := decide_eq_true (by omega)
  have HB2 := Lib.hid (below_on (below_new w (.cells #[.int .i64 l, .int .i64 j, .int .i64 (c + 1), .int .i64 m, .int .u64 a, .int .u64 p, .bool fd, .int .i64 tl, .int .i64 (cy + 1)] 49)) (.cells #[.int .i64 0, .int .i64 0, .int .i64 0, .int .i64 0, .int .u64 0, .int .u64 0, .bool false, .int .i64 0, .int .i64 0] 49))
  have HY2 := Lib.hid (show Col9 ((w.alloc (.cells #[.int .i64 l, .int .i64 j, .int .i64 (c + 1), .int .i64 m, .int .u64 a, .int .u64 p, .bool fd, .int .i64 tl, .int .i64 (cy + 1)] 49)).alloc (.cells #[.int .i64 0, .int .i64 0, .int .i64 0, .int .i64 0, .int .u64 0, .int .u64 0, .bool false, .int .i64 0, .int .i64 0] 49)) (w.heap.size + 1) 0 0 0 0 0 0 false 0 0 from (by have := Col9.new (w.alloc (.cells #[.int .i64 l, .int .i64 j, .int .i64 (c + 1), .int .i64 m, .int .u64 a, .int .u64 p, .bool fd, .int .i64 tl, .int .i64 (cy + 1)] 49)) 0 0 0 0 0 0 false 0 0; simpa using this))
  clear hc hy h
  have HBg : Hid (∀ W, Calls Tryz.prog 41 #[(colV l j (c + 1) m a p fd tl (cy + 1))] W fun e w' => e = .returned (colV 1 0 (c + 1) m a 0 fd tl (cy + 1)) ∧ Below W.heap.size W w') := Lib.hid (fun W => crBegin_c l j (c + 1) m a p fd tl (cy + 1) W)
  go_enter Tryz.func136, Tryz.ntmps136
  go_wp2_with fail
  generalize (w.alloc (.cells #[.int .i64 l, .int .i64 j, .int .i64 (c + 1), .int .i64 m, .int .u64 a, .int .u64 p, .bool fd, .int .i64 tl, .int .i64 (cy + 1)] 49)).alloc (.cells #[.int .i64 0, .int .i64 0, .int .i64 0, .int .i64 0, .int .u64 0, .int .u64 0, .bool false, .int .i64 0, .int .i64 0] 49) = W2 at *
  refine (HBg.out _).mono ?_
  rintro e W3 ⟨rfl, hb⟩
  have HB3 := Lib.hid (belowOn HB2.out hb); have HY3 := Lib.hid (HY2.out.below hb)
  clear hb HB2 HY2 HBg
  have HE := Lib.hid ((Sav.put9 (Sav.of (S := fun _ => False) HB3.out) (C := w.heap.size + 1) (.inr (by omega)) 1 0 (c + 1) m a 0 fd tl (cy + 1)).below (Nat.le_refl _) (fun _ _ e => e))
  obtain ⟨c0, c1, c2, c3, c4, c5, c6, c7, c8, cf⟩ := HY3.out.cells
  obtain ⟨s0, s1, s2, s3, s4, s5, s6, s7, s8, sf⟩ := (HY3.out.put 1 0 (c + 1) m a 0 fd tl (cy + 1)).cells
  go_wp2_with fail
  refine bodyPost_ret (v := .tuple #[(colV 1 0 (c + 1) m a 0 fd tl (cy + 1)), .bool true]) (by simp [results, Tryz.f136, go_sem, s0, s1, s2, s3, s4, s5, s6, s7, s8]) rfl ?_
  exact ⟨rfl, HE.out⟩
set_option maxHeartbeats 1600000 in
theorem sgo_last (l j c m a p : Int) (fd : Bool) (tl cy : Int) (n : Int) (_ : 1 ≤ n ∧ n ≤ 5000) (_ : -1000000000000 ≤ c ∧ c ≤ 1000000000000) (hy : -1000000000000 ≤ cy ∧ cy ≤ 1000000000000) (h : ¬ c + 1 < n) (h2 : ¬ n ≤ c) (w : World) :
    Calls Tryz.prog 136 #[(colV l j c m a p fd tl cy), .int .i64 n] w fun e w' => e = .returned (.tuple #[(colV 1 0 (c + 1) m a 0 fd tl (cy + 1)), .bool true]) ∧ Below w.heap.size w w' := by
  have hw1 : IntKind.i64.wrap (c + 1) = c + 1 := IntWalk.i64_in _ (by omega)
  have hw2 : IntKind.i64.wrap (cy + 1) = cy + 1 := IntWalk.i64_in _ (by omega)
  have d1 : decide (n ≤ c) = false := decide_eq_false (by omega)
  have d2 : decide (n ≤ c + 1) = true := decide_eq_true (by omega)
  have HB2 := Lib.hid (below_on (below_new w (.cells #[.int .i64 l, .int .i64 j, .int .i64 (c + 1), .int .i64 m, .int .u64 a, .int .u64 p, .bool fd, .int .i64 tl, .int .i64 (cy + 1)] 49)) (.cells #[.int .i64 0, .int .i64 0, .int .i64 0, .int .i64 0, .int .u64 0, .int .u64 0, .bool false, .int .i64 0, .int .i64 0] 49))
  have HY2 := Lib.hid (show Col9 ((w.alloc (.cells #[.int .i64 l, .int .i64 j, .int .i64 (c + 1), .int .i64 m, .int .u64 a, .int .u64 p, .bool fd, .int .i64 tl, .int .i64 (cy + 1)] 49)).alloc (.cells #[.int .i64 0, .int .i64 0, .int .i64 0, .int .i64 0, .int .u64 0, .int .u64 0, .bool false, .int .i64 0, .int .i64 0] 49)) (w.heap.size + 1) 0 0 0 0 0 0 false 0 0 from (by have := Col9.new (w.alloc (.cells #[.int .i64 l, .int .i64 j, .int .i64 (c + 1), .int .i64 m, .int .u64 a, .int .u64 p, .bool fd, .int .i64 tl, .int .i64 (cy + 1)] 49)) 0 0 0 0 0 0 false 0 0; simpa using this))
  clear hy h h2
  have HBg : Hid (∀ W, Calls Tryz.prog 41 #[(colV l j (c + 1) m a p fd tl (cy + 1))] W fun e w' => e = .returned (colV 1 0 (c + 1) m a 0 fd tl (cy + 1)) ∧ Below W.heap.size W w') := Lib.hid (fun W => crBegin_c l j (c + 1) m a p fd tl (cy + 1) W)
  go_enter Tryz.func136, Tryz.ntmps136
  go_wp2_with fail
  generalize (w.alloc (.cells #[.int .i64 l, .int .i64 j, .int .i64 (c + 1), .int .i64 m, .int .u64 a, .int .u64 p, .bool fd, .int .i64 tl, .int .i64 (cy + 1)] 49)).alloc (.cells #[.int .i64 0, .int .i64 0, .int .i64 0, .int .i64 0, .int .u64 0, .int .u64 0, .bool false, .int .i64 0, .int .i64 0] 49) = W2 at *
  refine (HBg.out _).mono ?_
  rintro e W3 ⟨rfl, hb⟩
  have HB3 := Lib.hid (belowOn HB2.out hb); have HY3 := Lib.hid (HY2.out.below hb)
  clear hb HB2 HY2 HBg
  have HE := Lib.hid ((Sav.put9 (Sav.of (S := fun _ => False) HB3.out) (C := w.heap.size + 1) (.inr (by omega)) 1 0 (c + 1) m a 0 fd tl (cy + 1)).below (Nat.le_refl _) (fun _ _ e => e))
  obtain ⟨c0, c1, c2, c3, c4, c5, c6, c7, c8, cf⟩ := HY3.out.cells
  obtain ⟨s0, s1, s2, s3, s4, s5, s6, s7, s8, sf⟩ := (HY3.out.put 1 0 (c + 1) m a 0 fd tl (cy + 1)).cells
  go_wp2_with fail
  refine bodyPost_ret (v := .tuple #[(colV 1 0 (c + 1) m a 0 fd tl (cy + 1)), .bool true]) (by simp [results, Tryz.f136, go_sem, s0, s1, s2, s3, s4, s5, s6, s7, s8]) rfl ?_
  exact ⟨rfl, HE.out⟩
theorem sgo_c (C : Cf) (hr : Right C.a C.b C.c C.d) (l j c m a p : Int) (fd : Bool) (tl cy : Int) (hc : -1000000000000 ≤ c ∧ c ≤ 1000000000000) (hy : -1000000000000 ≤ cy ∧ cy ≤ 1000000000000) (w : World) :
    Calls Tryz.prog 136 #[(colV l j c m a p fd tl cy), .int .i64 C.a] w fun e w' => e = .returned (.tuple #[(nextSwept C ⟨l, j, c, m, a, p, fd, tl, cy⟩).v, .bool (decide (¬ c + 1 < C.a))]) ∧ Below w.heap.size w w' := by
  have hn : 1 ≤ C.a ∧ C.a ≤ 5000 := by unfold Right at hr; omega
  unfold nextSwept
  by_cases h : c + 1 < C.a
  · simp only [if_pos h]; rw [decide_eq_false (fun q => q h)]; exact sgo_more l j c m a p fd tl cy _ hn hc hy h w
  · simp only [if_neg h]; rw [decide_eq_true h]
    by_cases h2 : C.a ≤ c
    · exact sgo_past l j c m a p fd tl cy _ hn hc hy h2 w
    · exact sgo_last l j c m a p fd tl cy _ hn hc hy h h2 w
end Go.Proofs.YtbpooljohjkbjaaGreatDoor
