/- A step of package pop from every line; of a nil hand. -/
import Derived.Test.YtbpooljohjkbjaaGreatDoorM4
import Derived.Test.YtbpooljohjkbjaaGreatDoorBar
namespace Go.Proofs.YtbpooljohjkbjaaGreatDoor
open Go Go.RowKit
set_option maxRecDepth 100000
attribute [local go_sem ↓] Go.wp_at_zero Go.wp_at_succ
theorem Mut13.setH {w : World} {B : Nat} {l p bk q1 q2 q3 q4 m1 m2 m3 m4 m5 rt : Int} (h : Mut13 w B l p bk q1 q2 q3 q4 m1 m2 m3 m4 m5 rt) (z : Int) : Mut13 (w.setCell ⟨B, 7, none⟩ (.int .u64 z)) B l p bk q1 q2 q3 q4 m1 m2 z m4 m5 rt := by
  unfold Mut13 at *; simp [World.setCell, Array.getElem?_modify, h]
theorem Mut13.setN {w : World} {B : Nat} {l p bk q1 q2 q3 q4 m1 m2 m3 m4 m5 rt : Int} (h : Mut13 w B l p bk q1 q2 q3 q4 m1 m2 m3 m4 m5 rt) (z : Int) : Mut13 (w.setCell ⟨B, 8, none⟩ (.int .u64 z)) B l p bk q1 q2 q3 q4 m1 m2 m3 z m5 rt := by
  unfold Mut13 at *; simp [World.setCell, Array.getElem?_modify, h]
theorem Mut13.setR {w : World} {B : Nat} {l p bk q1 q2 q3 q4 m1 m2 m3 m4 m5 rt : Int} (h : Mut13 w B l p bk q1 q2 q3 q4 m1 m2 m3 m4 m5 rt) (z : Int) : Mut13 (w.setCell ⟨B, 12, none⟩ (.int .i64 z)) B l p bk q1 q2 q3 q4 m1 m2 m3 m4 m5 z := by
  unfold Mut13 at *; simp [World.setCell, Array.getElem?_modify, h]
theorem u64_nat' {x : Int} (h : U64 x) : ∃ v : Nat, x = v ∧ v < 18446744073709551616 := by obtain ⟨h1, h2⟩ := h; exact ⟨x.toNat, by omega, by omega⟩
set_option maxHeartbeats 3200000 in
theorem pStep_head {w : World} {H A G : Nat} {C : Cf} {s : Dy} (hH : HAt w H A G C s) (hu : s.U)  (p bk q1 q2 q3 q4 m1 m2 m3 m4 m5 rt : Int) :
    Calls Tryz.prog 111 #[.pointer (some ⟨H, 0, none⟩), (mutV 34 p bk q1 q2 q3 q4 m1 m2 m3 m4 m5 rt)] w (HP w H A G C (s.act C 1 0 0 0) (.tuple #[(mutV 35 p bk q1 q2 q3 q4 m1 m2 (z5 C.n 1 0 (s.f 0)) m4 m5 rt), .bool false, .bool true])) := by
  have hb := (below_on (below_new w (.cells #[.int .i64 34, .int .i64 q1, .int .i64 q2, .int .i64 q3, .int .i64 q4, .int .u64 m1, .int .u64 m2, .int .u64 m3, .int .u64 m4, .int .u64 m5, .int .u64 p, .int .i64 bk, .int .i64 rt] 60)) (.cells #[.int .i64 0, .int .i64 0, .int .i64 0, .int .i64 0, .int .i64 0, .int .u64 0, .int .u64 0, .int .u64 0, .int .u64 0, .int .u64 0, .int .u64 0, .int .i64 0, .int .i64 0] 60))
  have hm : Mut13 ((w.alloc (.cells #[.int .i64 34, .int .i64 q1, .int .i64 q2, .int .i64 q3, .int .i64 q4, .int .u64 m1, .int .u64 m2, .int .u64 m3, .int .u64 m4, .int .u64 m5, .int .u64 p, .int .i64 bk, .int .i64 rt] 60)).alloc (.cells #[.int .i64 0, .int .i64 0, .int .i64 0, .int .i64 0, .int .i64 0, .int .u64 0, .int .u64 0, .int .u64 0, .int .u64 0, .int .u64 0, .int .u64 0, .int .i64 0, .int .i64 0] 60)) w.heap.size 34 p bk q1 q2 q3 q4 m1 m2 m3 m4 m5 rt := (Mut13.new w 34 p bk q1 q2 q3 q4 m1 m2 m3 m4 m5 rt).below (below_new _ _)
  have hy : Mut13 ((w.alloc (.cells #[.int .i64 34, .int .i64 q1, .int .i64 q2, .int .i64 q3, .int .i64 q4, .int .u64 m1, .int .u64 m2, .int .u64 m3, .int .u64 m4, .int .u64 m5, .int .u64 p, .int .i64 bk, .int .i64 rt] 60)).alloc (.cells #[.int .i64 0, .int .i64 0, .int .i64 0, .int .i64 0, .int .i64 0, .int .u64 0, .int .u64 0, .int .u64 0, .int .u64 0, .int .u64 0, .int .u64 0, .int .i64 0, .int .i64 0] 60)) (w.heap.size + 1) 0 0 0 0 0 0 0 0 0 0 0 0 0 := by
    have := Mut13.new (w.alloc (.cells #[.int .i64 34, .int .i64 q1, .int .i64 q2, .int .i64 q3, .int .i64 q4, .int .u64 m1, .int .u64 m2, .int .u64 m3, .int .u64 m4, .int .u64 m5, .int .u64 p, .int .i64 bk, .int .i64 rt] 60)) 0 0 0 0 0 0 0 0 0 0 0 0 0; simpa using this
  have HF := Lib.hid (hH.below hb)
  have hlt : H < w.heap.size := hH.lt
  have hltA : A < w.heap.size := hH.ar.lt
  have hltG : G < w.heap.size := hH.ar.row.lt
  have HQ : Hid (Sav (HG H G) w _) := Lib.hid (Sav.of (S := HG H G) hb)
  have HM := Lib.hid hm; have HY := Lib.hid hy
  have HD : Hid (∀ W, HAt W H A G C s → Calls Tryz.prog 123 #[.pointer (some ⟨H, 0, none⟩), .int .i64 0] W (HP W H A G C (s.act C 1 0 0 0) (.int .u64 (z5 C.n 1 0 (s.f 0))))) := Lib.hid (fun W hW => hLoad_c (w := W) hW hu 0)
  generalize (s.act C 1 0 0 0) = s' at *
  generalize (z5 C.n 1 0 (s.f 0)) = T at *
  clear hH hm hy hb hu
  obtain ⟨a0, a1, a2, a3, a4, a5, a6, a7, a8, a9, a10, a11, a12, af⟩ := HM.out.cells
  go_enter Tryz.func111, Tryz.ntmps111
  go_wp2_with fail
  refine (HD.out _ HF.out).mono ?_
  rintro e V2 ⟨rfl, hF, hs⟩
  have HF2 := Lib.hid hF
  have HM2 := Lib.hid (HM.out.savH hs (by omega) (by omega))
  have HY2 := Lib.hid (HY.out.savH hs (by omega) (by omega))
  have HQ2 := Lib.hid (HQ.out.trans hs)
  clear hs hF HF HM HY HQ
  clear HD a0 a1 a2 a3 a4 a5 a6 a7 a8 a9 a10 a11 a12 af
  have HM3 := Lib.hid ((HM2.out.setH T).setL 35)
  have HF3 := Lib.hid ((HF2.out.setOther (p := ⟨w.heap.size, 7, none⟩) (by show w.heap.size ≠ _; omega) (by show w.heap.size ≠ _; omega) (by show w.heap.size ≠ _; omega) (.int .u64 T)).setOther (p := ⟨w.heap.size, 0, none⟩) (by show w.heap.size ≠ _; omega) (by show w.heap.size ≠ _; omega) (by show w.heap.size ≠ _; omega) (.int .i64 35))
  have HQ3 := Lib.hid ((HQ2.out.set (p := ⟨w.heap.size, 7, none⟩) (.inr (Nat.le_refl _)) (.int .u64 T)).set (p := ⟨w.heap.size, 0, none⟩) (.inr (Nat.le_refl _)) (.int .i64 35))
  have HY3 := Lib.hid ((HY2.out.setOther (q := ⟨w.heap.size, 7, none⟩) (by show w.heap.size ≠ w.heap.size + 1; omega) (.int .u64 T)).setOther (q := ⟨w.heap.size, 0, none⟩) (by show w.heap.size ≠ w.heap.size + 1; omega) (.int .i64 35))
  obtain ⟨b0, b1, b2, b3, b4, b5, b6, b7, b8, b9, b10, b11, b12, bf⟩ := HM2.out.cells
  obtain ⟨d0, d1, d2, d3, d4, d5, d6, d7, d8, d9, d10, d11, d12, df⟩ := HM3.out.cells
  obtain ⟨c0, c1, c2, c3, c4, c5, c6, c7, c8, c9, c10, c11, c12, cf⟩ := HY3.out.cells
  obtain ⟨s0, s1, s2, s3, s4, s5, s6, s7, s8, s9, s10, s11, s12, _⟩ := (HY3.out.put 35 p bk q1 q2 q3 q4 m1 m2 T m4 m5 rt).cells
  clear HM2 HY2 HF2 HQ2 HM3
  go_wp2_with fail
  refine bodyPost_ret (v := .tuple #[(mutV 35 p bk q1 q2 q3 q4 m1 m2 T m4 m5 rt), .bool false, .bool true]) (by simp [results, Tryz.f111, go_sem, s0, s1, s2, s3, s4, s5, s6, s7, s8, s9, s10, s11, s12]) rfl ?_
  exact ⟨rfl, HF3.out.put13 (by omega) (by omega) (by omega) _ _ _ _ _ _ _ _ _ _ _ _ _, HQ3.out.put13 (C := w.heap.size + 1) (.inr (by omega)) _ _ _ _ _ _ _ _ _ _ _ _ _⟩
set_option maxHeartbeats 3200000 in
theorem look_next {w : World} {H A G : Nat} {C : Cf} {s : Dy} (hH : HAt w H A G C s) (hu : s.U) (hS : SpansAt w) (v : Nat) (hv : v < 18446744073709551616) (u : Nat) (_hu6 : u < 18446744073709551616) (hT : z5 C.n 1 (fieldP C.a C.b C.c C.d v 1) (s.f (fieldP C.a C.b C.c C.d v 1).toNat) = (u : Int)) (hc : isC u) (l p bk q1 q2 q3 q4 m1 m2 m4 m5 rt : Int) :
    Calls Tryz.prog 144 #[.pointer (some ⟨H, 0, none⟩), (mutV l p bk q1 q2 q3 q4 m1 m2 (v : Int) m4 m5 rt)] w (HP w H A G C (s.act C 1 (fieldP C.a C.b C.c C.d v 1) 0 0) (.tuple #[(mutV 36 p bk q1 q2 q3 q4 m1 m2 (v : Int) (u : Int) m5 rt), .bool false])) := by
  have hb := (below_on (below_new w (.cells #[.int .i64 l, .int .i64 q1, .int .i64 q2, .int .i64 q3, .int .i64 q4, .int .u64 m1, .int .u64 m2, .int .u64 (v : Int), .int .u64 m4, .int .u64 m5, .int .u64 p, .int .i64 bk, .int .i64 rt] 60)) (.cells #[.int .i64 0, .int .i64 0, .int .i64 0, .int .i64 0, .int .i64 0, .int .u64 0, .int .u64 0, .int .u64 0, .int .u64 0, .int .u64 0, .int .u64 0, .int .i64 0, .int .i64 0] 60))
  have hm : Mut13 ((w.alloc (.cells #[.int .i64 l, .int .i64 q1, .int .i64 q2, .int .i64 q3, .int .i64 q4, .int .u64 m1, .int .u64 m2, .int .u64 (v : Int), .int .u64 m4, .int .u64 m5, .int .u64 p, .int .i64 bk, .int .i64 rt] 60)).alloc (.cells #[.int .i64 0, .int .i64 0, .int .i64 0, .int .i64 0, .int .i64 0, .int .u64 0, .int .u64 0, .int .u64 0, .int .u64 0, .int .u64 0, .int .u64 0, .int .i64 0, .int .i64 0] 60)) w.heap.size l p bk q1 q2 q3 q4 m1 m2 (v : Int) m4 m5 rt := (Mut13.new w l p bk q1 q2 q3 q4 m1 m2 (v : Int) m4 m5 rt).below (below_new _ _)
  have hy : Mut13 ((w.alloc (.cells #[.int .i64 l, .int .i64 q1, .int .i64 q2, .int .i64 q3, .int .i64 q4, .int .u64 m1, .int .u64 m2, .int .u64 (v : Int), .int .u64 m4, .int .u64 m5, .int .u64 p, .int .i64 bk, .int .i64 rt] 60)).alloc (.cells #[.int .i64 0, .int .i64 0, .int .i64 0, .int .i64 0, .int .i64 0, .int .u64 0, .int .u64 0, .int .u64 0, .int .u64 0, .int .u64 0, .int .u64 0, .int .i64 0, .int .i64 0] 60)) (w.heap.size + 1) 0 0 0 0 0 0 0 0 0 0 0 0 0 := by
    have := Mut13.new (w.alloc (.cells #[.int .i64 l, .int .i64 q1, .int .i64 q2, .int .i64 q3, .int .i64 q4, .int .u64 m1, .int .u64 m2, .int .u64 (v : Int), .int .u64 m4, .int .u64 m5, .int .u64 p, .int .i64 bk, .int .i64 rt] 60)) 0 0 0 0 0 0 0 0 0 0 0 0 0; simpa using this
  have HF := Lib.hid (hH.below hb)
  have hlt : H < w.heap.size := hH.lt
  have hltA : A < w.heap.size := hH.ar.lt
  have hltG : G < w.heap.size := hH.ar.row.lt
  have HQ : Hid (Sav (HG H G) w _) := Lib.hid (Sav.of (S := HG H G) hb)
  have HM := Lib.hid hm; have HY := Lib.hid hy
  have HFd : Hid (∀ W, HAt W H A G C s → SpansAt W → Calls Tryz.prog 127 #[.pointer (some ⟨H, 0, none⟩), .int .u64 (v : Int), .int .i64 1] W fun e w' => e = .returned (.int .i64 (fieldP C.a C.b C.c C.d v 1)) ∧ Below W.heap.size W w') := Lib.hid (fun W hW hs => hField_c (w := W) hW hs v hv 1)
  have HD : Hid (∀ W, HAt W H A G C s → Calls Tryz.prog 123 #[.pointer (some ⟨H, 0, none⟩), .int .i64 (fieldP C.a C.b C.c C.d v 1)] W (HP W H A G C (s.act C 1 (fieldP C.a C.b C.c C.d v 1) 0 0) (.int .u64 (z5 C.n 1 (fieldP C.a C.b C.c C.d v 1) (s.f (fieldP C.a C.b C.c C.d v 1).toNat))))) := Lib.hid (fun W hW => hLoad_c (w := W) hW hu (fieldP C.a C.b C.c C.d v 1))
  have HI : Hid (∀ W, Calls Tryz.prog 125 #[.int .u64 (u : Int)] W fun e w' => e = .returned (.tuple #[.int .i64 ((u / 2 : Nat) : Int), .bool true]) ∧ W = w') := Lib.hid (fun W => isCell_cell u hc.2 hc.1 W)
  have HS := Lib.hid (hS.below hb)
  generalize (s.act C 1 (fieldP C.a C.b C.c C.d v 1) 0 0) = s' at *
  generalize (z5 C.n 1 (fieldP C.a C.b C.c C.d v 1) (s.f (fieldP C.a C.b C.c C.d v 1).toNat)) = T at *
  generalize (fieldP C.a C.b C.c C.d v 1) = P at *
  subst hT
  clear hc hv _hu6 hS
  clear hH hm hy hb hu
  obtain ⟨a0, a1, a2, a3, a4, a5, a6, a7, a8, a9, a10, a11, a12, af⟩ := HM.out.cells
  go_enter Tryz.func144, Tryz.ntmps144
  go_wp2_with fail
  refine (HFd.out _ HF.out HS.out).mono ?_
  rintro e V1 ⟨rfl, hb1⟩
  clear HFd HS a0 a1 a2 a3 a4 a5 a6 a7 a8 a9 a10 a11 a12 af
  have HF1 := Lib.hid (HF.out.below hb1); have HM1 := Lib.hid (HM.out.below hb1); have HY1 := Lib.hid (HY.out.below hb1); have HQ1 := Lib.hid (HQ.out.trans (Sav.of (S := HG H G) hb1))
  clear hb1 HF HM HY HQ
  obtain ⟨a0, a1, a2, a3, a4, a5, a6, a7, a8, a9, a10, a11, a12, af⟩ := HM1.out.cells
  go_wp2_with fail
  refine (HD.out _ HF1.out).mono ?_
  rintro e V2 ⟨rfl, hF, hs⟩
  clear HD a0 a1 a2 a3 a4 a5 a6 a7 a8 a9 a10 a11 a12 af
  have HFa := Lib.hid hF
  have HMa := Lib.hid (HM1.out.savH hs (by omega) (by omega))
  have HYa := Lib.hid (HY1.out.savH hs (by omega) (by omega))
  have HQa := Lib.hid (HQ1.out.trans hs)
  clear hs hF HF1 HM1 HY1 HQ1
  obtain ⟨a0, a1, a2, a3, a4, a5, a6, a7, a8, a9, a10, a11, a12, af⟩ := HMa.out.cells
  go_wp2_with fail
  refine (HI.out _).mono ?_
  rintro e V3 ⟨rfl, rfl⟩
  clear HI a0 a1 a2 a3 a4 a5 a6 a7 a8 a9 a10 a11 a12 af
  have HM2 := Lib.hid (HMa.out.setN (u : Int))
  have HF2 := Lib.hid (HFa.out.setOther (p := ⟨w.heap.size, 8, none⟩) (by show w.heap.size ≠ _; omega) (by show w.heap.size ≠ _; omega) (by show w.heap.size ≠ _; omega) (.int .u64 (u : Int)))
  have HQ2 := Lib.hid (HQa.out.set (p := ⟨w.heap.size, 8, none⟩) (.inr (Nat.le_refl _)) (.int .u64 (u : Int)))
  have HY2 := Lib.hid (HYa.out.setOther (q := ⟨w.heap.size, 8, none⟩) (by show w.heap.size ≠ w.heap.size + 1; omega) (.int .u64 (u : Int)))
  clear HMa HFa HQa HYa
  have HM3 := Lib.hid (HM2.out.setL 36)
  have HF3 := Lib.hid (HF2.out.setOther (p := ⟨w.heap.size, 0, none⟩) (by show w.heap.size ≠ _; omega) (by show w.heap.size ≠ _; omega) (by show w.heap.size ≠ _; omega) (.int .i64 36))
  have HQ3 := Lib.hid (HQ2.out.set (p := ⟨w.heap.size, 0, none⟩) (.inr (Nat.le_refl _)) (.int .i64 36))
  have HY3 := Lib.hid (HY2.out.setOther (q := ⟨w.heap.size, 0, none⟩) (by show w.heap.size ≠ w.heap.size + 1; omega) (.int .i64 36))
  obtain ⟨b0, b1, b2, b3, b4, b5, b6, b7, b8, b9, b10, b11, b12, bf⟩ := HM2.out.cells
  obtain ⟨d0, d1, d2, d3, d4, d5, d6, d7, d8, d9, d10, d11, d12, df⟩ := HM3.out.cells
  obtain ⟨c0, c1, c2, c3, c4, c5, c6, c7, c8, c9, c10, c11, c12, cf⟩ := HY3.out.cells
  obtain ⟨s0, s1, s2, s3, s4, s5, s6, s7, s8, s9, s10, s11, s12, _⟩ := (HY3.out.put 36 p bk q1 q2 q3 q4 m1 m2 (v : Int) (u : Int) m5 rt).cells
  clear HM2 HY2 HF2 HQ2 HM3
  go_wp2_with fail
  refine bodyPost_ret (v := .tuple #[(mutV 36 p bk q1 q2 q3 q4 m1 m2 (v : Int) (u : Int) m5 rt), .bool false]) (by simp [results, Tryz.f144, go_sem, s0, s1, s2, s3, s4, s5, s6, s7, s8, s9, s10, s11, s12]) rfl ?_
  exact ⟨rfl, HF3.out.put13 (by omega) (by omega) (by omega) _ _ _ _ _ _ _ _ _ _ _ _ _, HQ3.out.put13 (C := w.heap.size + 1) (.inr (by omega)) _ _ _ _ _ _ _ _ _ _ _ _ _⟩
set_option maxHeartbeats 3200000 in
theorem look_last {w : World} {H A G : Nat} {C : Cf} {s : Dy} (hH : HAt w H A G C s) (hu : s.U) (hS : SpansAt w) (v : Nat) (hv : v < 18446744073709551616) (u : Nat) (hu6 : u < 18446744073709551616) (hT : z5 C.n 1 (fieldP C.a C.b C.c C.d v 1) (s.f (fieldP C.a C.b C.c C.d v 1).toNat) = (u : Int)) (hc : ¬ isC u) (l p bk q1 q2 q3 q4 m1 m2 m4 m5 rt : Int) :
    Calls Tryz.prog 144 #[.pointer (some ⟨H, 0, none⟩), (mutV l p bk q1 q2 q3 q4 m1 m2 (v : Int) m4 m5 rt)] w (HP w H A G C (s.act C 1 (fieldP C.a C.b C.c C.d v 1) 0 0) (.tuple #[(mutV 41 p bk q1 q2 q3 q4 m1 m2 (v : Int) (u : Int) m5 5), .bool true])) := by
  have hb := (below_on (below_new w (.cells #[.int .i64 l, .int .i64 q1, .int .i64 q2, .int .i64 q3, .int .i64 q4, .int .u64 m1, .int .u64 m2, .int .u64 (v : Int), .int .u64 m4, .int .u64 m5, .int .u64 p, .int .i64 bk, .int .i64 rt] 60)) (.cells #[.int .i64 0, .int .i64 0, .int .i64 0, .int .i64 0, .int .i64 0, .int .u64 0, .int .u64 0, .int .u64 0, .int .u64 0, .int .u64 0, .int .u64 0, .int .i64 0, .int .i64 0] 60))
  have hm : Mut13 ((w.alloc (.cells #[.int .i64 l, .int .i64 q1, .int .i64 q2, .int .i64 q3, .int .i64 q4, .int .u64 m1, .int .u64 m2, .int .u64 (v : Int), .int .u64 m4, .int .u64 m5, .int .u64 p, .int .i64 bk, .int .i64 rt] 60)).alloc (.cells #[.int .i64 0, .int .i64 0, .int .i64 0, .int .i64 0, .int .i64 0, .int .u64 0, .int .u64 0, .int .u64 0, .int .u64 0, .int .u64 0, .int .u64 0, .int .i64 0, .int .i64 0] 60)) w.heap.size l p bk q1 q2 q3 q4 m1 m2 (v : Int) m4 m5 rt := (Mut13.new w l p bk q1 q2 q3 q4 m1 m2 (v : Int) m4 m5 rt).below (below_new _ _)
  have hy : Mut13 ((w.alloc (.cells #[.int .i64 l, .int .i64 q1, .int .i64 q2, .int .i64 q3, .int .i64 q4, .int .u64 m1, .int .u64 m2, .int .u64 (v : Int), .int .u64 m4, .int .u64 m5, .int .u64 p, .int .i64 bk, .int .i64 rt] 60)).alloc (.cells #[.int .i64 0, .int .i64 0, .int .i64 0, .int .i64 0, .int .i64 0, .int .u64 0, .int .u64 0, .int .u64 0, .int .u64 0, .int .u64 0, .int .u64 0, .int .i64 0, .int .i64 0] 60)) (w.heap.size + 1) 0 0 0 0 0 0 0 0 0 0 0 0 0 := by
    have := Mut13.new (w.alloc (.cells #[.int .i64 l, .int .i64 q1, .int .i64 q2, .int .i64 q3, .int .i64 q4, .int .u64 m1, .int .u64 m2, .int .u64 (v : Int), .int .u64 m4, .int .u64 m5, .int .u64 p, .int .i64 bk, .int .i64 rt] 60)) 0 0 0 0 0 0 0 0 0 0 0 0 0; simpa using this
  have HF := Lib.hid (hH.below hb)
  have hlt : H < w.heap.size := hH.lt
  have hltA : A < w.heap.size := hH.ar.lt
  have hltG : G < w.heap.size := hH.ar.row.lt
  have HQ : Hid (Sav (HG H G) w _) := Lib.hid (Sav.of (S := HG H G) hb)
  have HM := Lib.hid hm; have HY := Lib.hid hy
  have HFd : Hid (∀ W, HAt W H A G C s → SpansAt W → Calls Tryz.prog 127 #[.pointer (some ⟨H, 0, none⟩), .int .u64 (v : Int), .int .i64 1] W fun e w' => e = .returned (.int .i64 (fieldP C.a C.b C.c C.d v 1)) ∧ Below W.heap.size W w') := Lib.hid (fun W hW hs => hField_c (w := W) hW hs v hv 1)
  have HD : Hid (∀ W, HAt W H A G C s → Calls Tryz.prog 123 #[.pointer (some ⟨H, 0, none⟩), .int .i64 (fieldP C.a C.b C.c C.d v 1)] W (HP W H A G C (s.act C 1 (fieldP C.a C.b C.c C.d v 1) 0 0) (.int .u64 (z5 C.n 1 (fieldP C.a C.b C.c C.d v 1) (s.f (fieldP C.a C.b C.c C.d v 1).toNat))))) := Lib.hid (fun W hW => hLoad_c (w := W) hW hu (fieldP C.a C.b C.c C.d v 1))
  have HI : Hid (∀ W, Calls Tryz.prog 125 #[.int .u64 (u : Int)] W fun e w' => e = .returned (.tuple #[.int .i64 0, .bool false]) ∧ W = w') := Lib.hid (fun W => isCell_no u hu6 hc W)
  have HS := Lib.hid (hS.below hb)
  generalize (s.act C 1 (fieldP C.a C.b C.c C.d v 1) 0 0) = s' at *
  generalize (z5 C.n 1 (fieldP C.a C.b C.c C.d v 1) (s.f (fieldP C.a C.b C.c C.d v 1).toNat)) = T at *
  generalize (fieldP C.a C.b C.c C.d v 1) = P at *
  subst hT
  clear hc hv hu6 hS
  clear hH hm hy hb hu
  obtain ⟨a0, a1, a2, a3, a4, a5, a6, a7, a8, a9, a10, a11, a12, af⟩ := HM.out.cells
  go_enter Tryz.func144, Tryz.ntmps144
  go_wp2_with fail
  refine (HFd.out _ HF.out HS.out).mono ?_
  rintro e V1 ⟨rfl, hb1⟩
  clear HFd HS a0 a1 a2 a3 a4 a5 a6 a7 a8 a9 a10 a11 a12 af
  have HF1 := Lib.hid (HF.out.below hb1); have HM1 := Lib.hid (HM.out.below hb1); have HY1 := Lib.hid (HY.out.below hb1); have HQ1 := Lib.hid (HQ.out.trans (Sav.of (S := HG H G) hb1))
  clear hb1 HF HM HY HQ
  obtain ⟨a0, a1, a2, a3, a4, a5, a6, a7, a8, a9, a10, a11, a12, af⟩ := HM1.out.cells
  go_wp2_with fail
  refine (HD.out _ HF1.out).mono ?_
  rintro e V2 ⟨rfl, hF, hs⟩
  clear HD a0 a1 a2 a3 a4 a5 a6 a7 a8 a9 a10 a11 a12 af
  have HFa := Lib.hid hF
  have HMa := Lib.hid (HM1.out.savH hs (by omega) (by omega))
  have HYa := Lib.hid (HY1.out.savH hs (by omega) (by omega))
  have HQa := Lib.hid (HQ1.out.trans hs)
  clear hs hF HF1 HM1 HY1 HQ1
  obtain ⟨a0, a1, a2, a3, a4, a5, a6, a7, a8, a9, a10, a11, a12, af⟩ := HMa.out.cells
  go_wp2_with fail
  refine (HI.out _).mono ?_
  rintro e V3 ⟨rfl, rfl⟩
  clear HI a0 a1 a2 a3 a4 a5 a6 a7 a8 a9 a10 a11 a12 af
  have HM2 := Lib.hid (HMa.out.setN (u : Int))
  have HF2 := Lib.hid (HFa.out.setOther (p := ⟨w.heap.size, 8, none⟩) (by show w.heap.size ≠ _; omega) (by show w.heap.size ≠ _; omega) (by show w.heap.size ≠ _; omega) (.int .u64 (u : Int)))
  have HQ2 := Lib.hid (HQa.out.set (p := ⟨w.heap.size, 8, none⟩) (.inr (Nat.le_refl _)) (.int .u64 (u : Int)))
  have HY2 := Lib.hid (HYa.out.setOther (q := ⟨w.heap.size, 8, none⟩) (by show w.heap.size ≠ w.heap.size + 1; omega) (.int .u64 (u : Int)))
  clear HMa HFa HQa HYa
  have HM3 := Lib.hid ((HM2.out.setL 41).setR 5)
  have HF3 := Lib.hid ((HF2.out.setOther (p := ⟨w.heap.size, 0, none⟩) (by show w.heap.size ≠ _; omega) (by show w.heap.size ≠ _; omega) (by show w.heap.size ≠ _; omega) (.int .i64 41)).setOther (p := ⟨w.heap.size, 12, none⟩) (by show w.heap.size ≠ _; omega) (by show w.heap.size ≠ _; omega) (by show w.heap.size ≠ _; omega) (.int .i64 5))
  have HQ3 := Lib.hid ((HQ2.out.set (p := ⟨w.heap.size, 0, none⟩) (.inr (Nat.le_refl _)) (.int .i64 41)).set (p := ⟨w.heap.size, 12, none⟩) (.inr (Nat.le_refl _)) (.int .i64 5))
  have HY3 := Lib.hid ((HY2.out.setOther (q := ⟨w.heap.size, 0, none⟩) (by show w.heap.size ≠ w.heap.size + 1; omega) (.int .i64 41)).setOther (q := ⟨w.heap.size, 12, none⟩) (by show w.heap.size ≠ w.heap.size + 1; omega) (.int .i64 5))
  obtain ⟨b0, b1, b2, b3, b4, b5, b6, b7, b8, b9, b10, b11, b12, bf⟩ := HM2.out.cells
  obtain ⟨d0, d1, d2, d3, d4, d5, d6, d7, d8, d9, d10, d11, d12, df⟩ := HM3.out.cells
  obtain ⟨c0, c1, c2, c3, c4, c5, c6, c7, c8, c9, c10, c11, c12, cf⟩ := HY3.out.cells
  obtain ⟨s0, s1, s2, s3, s4, s5, s6, s7, s8, s9, s10, s11, s12, _⟩ := (HY3.out.put 41 p bk q1 q2 q3 q4 m1 m2 (v : Int) (u : Int) m5 5).cells
  clear HM2 HY2 HF2 HQ2 HM3
  go_wp2_with fail
  refine bodyPost_ret (v := .tuple #[(mutV 41 p bk q1 q2 q3 q4 m1 m2 (v : Int) (u : Int) m5 5), .bool true]) (by simp [results, Tryz.f144, go_sem, s0, s1, s2, s3, s4, s5, s6, s7, s8, s9, s10, s11, s12]) rfl ?_
  exact ⟨rfl, HF3.out.put13 (by omega) (by omega) (by omega) _ _ _ _ _ _ _ _ _ _ _ _ _, HQ3.out.put13 (C := w.heap.size + 1) (.inr (by omega)) _ _ _ _ _ _ _ _ _ _ _ _ _⟩
set_option maxHeartbeats 3200000 in
theorem pStep_next {w : World} {H A G : Nat} {C : Cf} {s : Dy} (hH : HAt w H A G C s) (hu : s.U) (hS : SpansAt w) (v : Nat) (hv : v < 18446744073709551616) (u : Nat) (hu6 : u < 18446744073709551616) (hT : z5 C.n 1 (fieldP C.a C.b C.c C.d v 1) (s.f (fieldP C.a C.b C.c C.d v 1).toNat) = (u : Int)) (hc : isC u) (p bk q1 q2 q3 q4 m1 m2 m4 m5 rt : Int) :
    Calls Tryz.prog 111 #[.pointer (some ⟨H, 0, none⟩), (mutV 35 p bk q1 q2 q3 q4 m1 m2 (v : Int) m4 m5 rt)] w (HP w H A G C (s.act C 1 (fieldP C.a C.b C.c C.d v 1) 0 0) (.tuple #[(mutV 36 p bk q1 q2 q3 q4 m1 m2 (v : Int) (u : Int) m5 rt), .bool false, .bool true])) := by
  have hb := (below_on (below_new w (.cells #[.int .i64 35, .int .i64 q1, .int .i64 q2, .int .i64 q3, .int .i64 q4, .int .u64 m1, .int .u64 m2, .int .u64 (v : Int), .int .u64 m4, .int .u64 m5, .int .u64 p, .int .i64 bk, .int .i64 rt] 60)) (.cells #[.int .i64 0, .int .i64 0, .int .i64 0, .int .i64 0, .int .i64 0, .int .u64 0, .int .u64 0, .int .u64 0, .int .u64 0, .int .u64 0, .int .u64 0, .int .i64 0, .int .i64 0] 60))
  have hm : Mut13 ((w.alloc (.cells #[.int .i64 35, .int .i64 q1, .int .i64 q2, .int .i64 q3, .int .i64 q4, .int .u64 m1, .int .u64 m2, .int .u64 (v : Int), .int .u64 m4, .int .u64 m5, .int .u64 p, .int .i64 bk, .int .i64 rt] 60)).alloc (.cells #[.int .i64 0, .int .i64 0, .int .i64 0, .int .i64 0, .int .i64 0, .int .u64 0, .int .u64 0, .int .u64 0, .int .u64 0, .int .u64 0, .int .u64 0, .int .i64 0, .int .i64 0] 60)) w.heap.size 35 p bk q1 q2 q3 q4 m1 m2 (v : Int) m4 m5 rt := (Mut13.new w 35 p bk q1 q2 q3 q4 m1 m2 (v : Int) m4 m5 rt).below (below_new _ _)
  have hy : Mut13 ((w.alloc (.cells #[.int .i64 35, .int .i64 q1, .int .i64 q2, .int .i64 q3, .int .i64 q4, .int .u64 m1, .int .u64 m2, .int .u64 (v : Int), .int .u64 m4, .int .u64 m5, .int .u64 p, .int .i64 bk, .int .i64 rt] 60)).alloc (.cells #[.int .i64 0, .int .i64 0, .int .i64 0, .int .i64 0, .int .i64 0, .int .u64 0, .int .u64 0, .int .u64 0, .int .u64 0, .int .u64 0, .int .u64 0, .int .i64 0, .int .i64 0] 60)) (w.heap.size + 1) 0 0 0 0 0 0 0 0 0 0 0 0 0 := by
    have := Mut13.new (w.alloc (.cells #[.int .i64 35, .int .i64 q1, .int .i64 q2, .int .i64 q3, .int .i64 q4, .int .u64 m1, .int .u64 m2, .int .u64 (v : Int), .int .u64 m4, .int .u64 m5, .int .u64 p, .int .i64 bk, .int .i64 rt] 60)) 0 0 0 0 0 0 0 0 0 0 0 0 0; simpa using this
  have HF := Lib.hid (hH.below hb)
  have hlt : H < w.heap.size := hH.lt
  have hltA : A < w.heap.size := hH.ar.lt
  have hltG : G < w.heap.size := hH.ar.row.lt
  have HQ : Hid (Sav (HG H G) w _) := Lib.hid (Sav.of (S := HG H G) hb)
  have HM := Lib.hid hm; have HY := Lib.hid hy
  have HD : Hid (∀ W, HAt W H A G C s → SpansAt W → Calls Tryz.prog 144 #[.pointer (some ⟨H, 0, none⟩), (mutV 35 p bk q1 q2 q3 q4 m1 m2 (v : Int) m4 m5 rt)] W (HP W H A G C (s.act C 1 (fieldP C.a C.b C.c C.d v 1) 0 0) (.tuple #[(mutV 36 p bk q1 q2 q3 q4 m1 m2 (v : Int) (u : Int) m5 rt), .bool false]))) := Lib.hid (fun W hW hs => look_next (w := W) hW hu hs v hv u hu6 hT hc 35 p bk q1 q2 q3 q4 m1 m2 m4 m5 rt)
  have HS := Lib.hid (hS.below hb)
  generalize (s.act C 1 (fieldP C.a C.b C.c C.d v 1) 0 0) = s' at *
  clear hT hc hv hu6 hS
  clear hH hm hy hb hu
  obtain ⟨a0, a1, a2, a3, a4, a5, a6, a7, a8, a9, a10, a11, a12, af⟩ := HM.out.cells
  go_enter Tryz.func111, Tryz.ntmps111
  go_wp2_with fail
  refine (HD.out _ HF.out HS.out).mono ?_
  rintro e V2 ⟨rfl, hF, hs⟩
  clear HD HS a0 a1 a2 a3 a4 a5 a6 a7 a8 a9 a10 a11 a12 af
  have HF2 := Lib.hid hF
  have HM2 := Lib.hid (HM.out.savH hs (by omega) (by omega))
  have HY2 := Lib.hid (HY.out.savH hs (by omega) (by omega))
  have HQ2 := Lib.hid (HQ.out.trans hs)
  clear hs hF HF HM HY HQ
  clear HM2
  obtain ⟨c0, c1, c2, c3, c4, c5, c6, c7, c8, c9, c10, c11, c12, cf⟩ := HY2.out.cells
  obtain ⟨b0, b1, b2, b3, b4, b5, b6, b7, b8, b9, b10, b11, b12, bf⟩ := (HY2.out.put 36 p bk q1 q2 q3 q4 m1 m2 (v : Int) (u : Int) m5 rt).cells
  obtain ⟨s0, s1, s2, s3, s4, s5, s6, s7, s8, s9, s10, s11, s12, _⟩ := ((HY2.out.put 36 p bk q1 q2 q3 q4 m1 m2 (v : Int) (u : Int) m5 rt).put 36 p bk q1 q2 q3 q4 m1 m2 (v : Int) (u : Int) m5 rt).cells
  go_wp2_with fail
  refine bodyPost_ret (v := .tuple #[(mutV 36 p bk q1 q2 q3 q4 m1 m2 (v : Int) (u : Int) m5 rt), .bool false, .bool true]) (by simp [results, Tryz.f111, go_sem, s0, s1, s2, s3, s4, s5, s6, s7, s8, s9, s10, s11, s12]) rfl ?_
  exact ⟨rfl, (HF2.out.put13 (by omega) (by omega) (by omega) _ _ _ _ _ _ _ _ _ _ _ _ _).put13 (by omega) (by omega) (by omega) _ _ _ _ _ _ _ _ _ _ _ _ _, (HQ2.out.put13 (C := w.heap.size + 1) (.inr (by omega)) _ _ _ _ _ _ _ _ _ _ _ _ _).put13 (C := w.heap.size + 1) (.inr (by omega)) _ _ _ _ _ _ _ _ _ _ _ _ _⟩
set_option maxHeartbeats 3200000 in
theorem pStep_last {w : World} {H A G : Nat} {C : Cf} {s : Dy} (hH : HAt w H A G C s) (hu : s.U) (hS : SpansAt w) (v : Nat) (hv : v < 18446744073709551616) (u : Nat) (hu6 : u < 18446744073709551616) (hT : z5 C.n 1 (fieldP C.a C.b C.c C.d v 1) (s.f (fieldP C.a C.b C.c C.d v 1).toNat) = (u : Int)) (hc : ¬ isC u) (p bk q1 q2 q3 q4 m1 m2 m4 m5 rt : Int) :
    Calls Tryz.prog 111 #[.pointer (some ⟨H, 0, none⟩), (mutV 35 p bk q1 q2 q3 q4 m1 m2 (v : Int) m4 m5 rt)] w (HP w H A G C (s.act C 1 (fieldP C.a C.b C.c C.d v 1) 0 0) (.tuple #[(mutV 41 p bk q1 q2 q3 q4 m1 m2 (v : Int) (u : Int) m5 5), .bool true, .bool true])) := by
  have hb := (below_on (below_new w (.cells #[.int .i64 35, .int .i64 q1, .int .i64 q2, .int .i64 q3, .int .i64 q4, .int .u64 m1, .int .u64 m2, .int .u64 (v : Int), .int .u64 m4, .int .u64 m5, .int .u64 p, .int .i64 bk, .int .i64 rt] 60)) (.cells #[.int .i64 0, .int .i64 0, .int .i64 0, .int .i64 0, .int .i64 0, .int .u64 0, .int .u64 0, .int .u64 0, .int .u64 0, .int .u64 0, .int .u64 0, .int .i64 0, .int .i64 0] 60))
  have hm : Mut13 ((w.alloc (.cells #[.int .i64 35, .int .i64 q1, .int .i64 q2, .int .i64 q3, .int .i64 q4, .int .u64 m1, .int .u64 m2, .int .u64 (v : Int), .int .u64 m4, .int .u64 m5, .int .u64 p, .int .i64 bk, .int .i64 rt] 60)).alloc (.cells #[.int .i64 0, .int .i64 0, .int .i64 0, .int .i64 0, .int .i64 0, .int .u64 0, .int .u64 0, .int .u64 0, .int .u64 0, .int .u64 0, .int .u64 0, .int .i64 0, .int .i64 0] 60)) w.heap.size 35 p bk q1 q2 q3 q4 m1 m2 (v : Int) m4 m5 rt := (Mut13.new w 35 p bk q1 q2 q3 q4 m1 m2 (v : Int) m4 m5 rt).below (below_new _ _)
  have hy : Mut13 ((w.alloc (.cells #[.int .i64 35, .int .i64 q1, .int .i64 q2, .int .i64 q3, .int .i64 q4, .int .u64 m1, .int .u64 m2, .int .u64 (v : Int), .int .u64 m4, .int .u64 m5, .int .u64 p, .int .i64 bk, .int .i64 rt] 60)).alloc (.cells #[.int .i64 0, .int .i64 0, .int .i64 0, .int .i64 0, .int .i64 0, .int .u64 0, .int .u64 0, .int .u64 0, .int .u64 0, .int .u64 0, .int .u64 0, .int .i64 0, .int .i64 0] 60)) (w.heap.size + 1) 0 0 0 0 0 0 0 0 0 0 0 0 0 := by
    have := Mut13.new (w.alloc (.cells #[.int .i64 35, .int .i64 q1, .int .i64 q2, .int .i64 q3, .int .i64 q4, .int .u64 m1, .int .u64 m2, .int .u64 (v : Int), .int .u64 m4, .int .u64 m5, .int .u64 p, .int .i64 bk, .int .i64 rt] 60)) 0 0 0 0 0 0 0 0 0 0 0 0 0; simpa using this
  have HF := Lib.hid (hH.below hb)
  have hlt : H < w.heap.size := hH.lt
  have hltA : A < w.heap.size := hH.ar.lt
  have hltG : G < w.heap.size := hH.ar.row.lt
  have HQ : Hid (Sav (HG H G) w _) := Lib.hid (Sav.of (S := HG H G) hb)
  have HM := Lib.hid hm; have HY := Lib.hid hy
  have HD : Hid (∀ W, HAt W H A G C s → SpansAt W → Calls Tryz.prog 144 #[.pointer (some ⟨H, 0, none⟩), (mutV 35 p bk q1 q2 q3 q4 m1 m2 (v : Int) m4 m5 rt)] W (HP W H A G C (s.act C 1 (fieldP C.a C.b C.c C.d v 1) 0 0) (.tuple #[(mutV 41 p bk q1 q2 q3 q4 m1 m2 (v : Int) (u : Int) m5 5), .bool true]))) := Lib.hid (fun W hW hs => look_last (w := W) hW hu hs v hv u hu6 hT hc 35 p bk q1 q2 q3 q4 m1 m2 m4 m5 rt)
  have HS := Lib.hid (hS.below hb)
  generalize (s.act C 1 (fieldP C.a C.b C.c C.d v 1) 0 0) = s' at *
  clear hT hc hv hu6 hS
  clear hH hm hy hb hu
  obtain ⟨a0, a1, a2, a3, a4, a5, a6, a7, a8, a9, a10, a11, a12, af⟩ := HM.out.cells
  go_enter Tryz.func111, Tryz.ntmps111
  go_wp2_with fail
  refine (HD.out _ HF.out HS.out).mono ?_
  rintro e V2 ⟨rfl, hF, hs⟩
  clear HD HS a0 a1 a2 a3 a4 a5 a6 a7 a8 a9 a10 a11 a12 af
  have HF2 := Lib.hid hF
  have HM2 := Lib.hid (HM.out.savH hs (by omega) (by omega))
  have HY2 := Lib.hid (HY.out.savH hs (by omega) (by omega))
  have HQ2 := Lib.hid (HQ.out.trans hs)
  clear hs hF HF HM HY HQ
  clear HM2
  obtain ⟨c0, c1, c2, c3, c4, c5, c6, c7, c8, c9, c10, c11, c12, cf⟩ := HY2.out.cells
  obtain ⟨b0, b1, b2, b3, b4, b5, b6, b7, b8, b9, b10, b11, b12, bf⟩ := (HY2.out.put 41 p bk q1 q2 q3 q4 m1 m2 (v : Int) (u : Int) m5 5).cells
  obtain ⟨s0, s1, s2, s3, s4, s5, s6, s7, s8, s9, s10, s11, s12, _⟩ := ((HY2.out.put 41 p bk q1 q2 q3 q4 m1 m2 (v : Int) (u : Int) m5 5).put 41 p bk q1 q2 q3 q4 m1 m2 (v : Int) (u : Int) m5 5).cells
  go_wp2_with fail
  refine bodyPost_ret (v := .tuple #[(mutV 41 p bk q1 q2 q3 q4 m1 m2 (v : Int) (u : Int) m5 5), .bool true, .bool true]) (by simp [results, Tryz.f111, go_sem, s0, s1, s2, s3, s4, s5, s6, s7, s8, s9, s10, s11, s12]) rfl ?_
  exact ⟨rfl, (HF2.out.put13 (by omega) (by omega) (by omega) _ _ _ _ _ _ _ _ _ _ _ _ _).put13 (by omega) (by omega) (by omega) _ _ _ _ _ _ _ _ _ _ _ _ _, (HQ2.out.put13 (C := w.heap.size + 1) (.inr (by omega)) _ _ _ _ _ _ _ _ _ _ _ _ _).put13 (C := w.heap.size + 1) (.inr (by omega)) _ _ _ _ _ _ _ _ _ _ _ _ _⟩
set_option maxHeartbeats 3200000 in
theorem pStep_take {w : World} {H A G : Nat} {C : Cf} {s : Dy} (hH : HAt w H A G C s) (hu : s.U) (v : Nat) (hv : v < 18446744073709551616) (p bk q1 q2 q3 q4 m1 m2 m3 m5 rt : Int) :
    Calls Tryz.prog 111 #[.pointer (some ⟨H, 0, none⟩), (mutV 36 p bk q1 q2 q3 q4 m1 m2 m3 (v : Int) m5 rt)] w (HP w H A G C (s.act C 2 0 v 0) (.tuple #[(mutV (begL v 37) (begP v) (begB v 37) q1 q2 q3 q4 m1 m2 m3 (v : Int) m5 rt), .bool true, .bool true])) := by
  have hb := (below_on (below_new w (.cells #[.int .i64 36, .int .i64 q1, .int .i64 q2, .int .i64 q3, .int .i64 q4, .int .u64 m1, .int .u64 m2, .int .u64 m3, .int .u64 (v : Int), .int .u64 m5, .int .u64 p, .int .i64 bk, .int .i64 rt] 60)) (.cells #[.int .i64 0, .int .i64 0, .int .i64 0, .int .i64 0, .int .i64 0, .int .u64 0, .int .u64 0, .int .u64 0, .int .u64 0, .int .u64 0, .int .u64 0, .int .i64 0, .int .i64 0] 60))
  have hm : Mut13 ((w.alloc (.cells #[.int .i64 36, .int .i64 q1, .int .i64 q2, .int .i64 q3, .int .i64 q4, .int .u64 m1, .int .u64 m2, .int .u64 m3, .int .u64 (v : Int), .int .u64 m5, .int .u64 p, .int .i64 bk, .int .i64 rt] 60)).alloc (.cells #[.int .i64 0, .int .i64 0, .int .i64 0, .int .i64 0, .int .i64 0, .int .u64 0, .int .u64 0, .int .u64 0, .int .u64 0, .int .u64 0, .int .u64 0, .int .i64 0, .int .i64 0] 60)) w.heap.size 36 p bk q1 q2 q3 q4 m1 m2 m3 (v : Int) m5 rt := (Mut13.new w 36 p bk q1 q2 q3 q4 m1 m2 m3 (v : Int) m5 rt).below (below_new _ _)
  have hy : Mut13 ((w.alloc (.cells #[.int .i64 36, .int .i64 q1, .int .i64 q2, .int .i64 q3, .int .i64 q4, .int .u64 m1, .int .u64 m2, .int .u64 m3, .int .u64 (v : Int), .int .u64 m5, .int .u64 p, .int .i64 bk, .int .i64 rt] 60)).alloc (.cells #[.int .i64 0, .int .i64 0, .int .i64 0, .int .i64 0, .int .i64 0, .int .u64 0, .int .u64 0, .int .u64 0, .int .u64 0, .int .u64 0, .int .u64 0, .int .i64 0, .int .i64 0] 60)) (w.heap.size + 1) 0 0 0 0 0 0 0 0 0 0 0 0 0 := by
    have := Mut13.new (w.alloc (.cells #[.int .i64 36, .int .i64 q1, .int .i64 q2, .int .i64 q3, .int .i64 q4, .int .u64 m1, .int .u64 m2, .int .u64 m3, .int .u64 (v : Int), .int .u64 m5, .int .u64 p, .int .i64 bk, .int .i64 rt] 60)) 0 0 0 0 0 0 0 0 0 0 0 0 0; simpa using this
  have HF := Lib.hid (hH.below hb)
  have hlt : H < w.heap.size := hH.lt
  have hltA : A < w.heap.size := hH.ar.lt
  have hltG : G < w.heap.size := hH.ar.row.lt
  have HQ : Hid (Sav (HG H G) w _) := Lib.hid (Sav.of (S := HG H G) hb)
  have HM := Lib.hid hm; have HY := Lib.hid hy
  have HD : Hid (∀ W, HAt W H A G C s → Calls Tryz.prog 129 #[.pointer (some ⟨H, 0, none⟩), .int .i64 0, .int .u64 v] W (HP W H A G C (s.act C 2 0 v 0) (.tuple #[]))) := Lib.hid (fun W hW => hStore_c (w := W) hW hu 0 v)
  generalize (s.act C 2 0 v 0) = s' at *
  have HB : Hid (∀ W, Calls Tryz.prog 145 #[(mutV 36 p bk q1 q2 q3 q4 m1 m2 m3 (v : Int) m5 rt), .int .u64 (v : Int), .int .i64 37] W fun e w' => e = .returned (mutV (begL v 37) (begP v) (begB v 37) q1 q2 q3 q4 m1 m2 m3 (v : Int) m5 rt) ∧ Below W.heap.size W w') := Lib.hid (fun W => Begin_c 36 p bk q1 q2 q3 q4 m1 m2 m3 (v : Int) m5 rt v hv 37 W)
  generalize begL v 37 = L at *
  generalize begP v = PP at *
  generalize begB v 37 = BB at *
  clear hv
  clear hH hm hy hb hu
  obtain ⟨a0, a1, a2, a3, a4, a5, a6, a7, a8, a9, a10, a11, a12, af⟩ := HM.out.cells
  go_enter Tryz.func111, Tryz.ntmps111
  go_wp2_with fail
  refine (HD.out _ HF.out).mono ?_
  rintro e V2 ⟨rfl, hF, hs⟩
  clear HD a0 a1 a2 a3 a4 a5 a6 a7 a8 a9 a10 a11 a12 af
  have HFa := Lib.hid hF
  have HMa := Lib.hid (HM.out.savH hs (by omega) (by omega))
  have HYa := Lib.hid (HY.out.savH hs (by omega) (by omega))
  have HQa := Lib.hid (HQ.out.trans hs)
  clear hs hF HF HM HY HQ
  obtain ⟨a0, a1, a2, a3, a4, a5, a6, a7, a8, a9, a10, a11, a12, af⟩ := HMa.out.cells
  go_wp2_with fail
  refine (HB.out _).mono ?_
  rintro e V3 ⟨rfl, hb3⟩
  clear HB a0 a1 a2 a3 a4 a5 a6 a7 a8 a9 a10 a11 a12 af
  have HF2 := Lib.hid (HFa.out.below hb3); have HM2 := Lib.hid (HMa.out.below hb3); have HY2 := Lib.hid (HYa.out.below hb3); have HQ2 := Lib.hid (HQa.out.trans (Sav.of (S := HG H G) hb3))
  clear hb3 HFa HMa HYa HQa
  clear HM2
  obtain ⟨c0, c1, c2, c3, c4, c5, c6, c7, c8, c9, c10, c11, c12, cf⟩ := HY2.out.cells
  obtain ⟨s0, s1, s2, s3, s4, s5, s6, s7, s8, s9, s10, s11, s12, _⟩ := (HY2.out.put L PP BB q1 q2 q3 q4 m1 m2 m3 (v : Int) m5 rt).cells
  go_wp2_with fail
  refine bodyPost_ret (v := .tuple #[(mutV L PP BB q1 q2 q3 q4 m1 m2 m3 (v : Int) m5 rt), .bool true, .bool true]) (by simp [results, Tryz.f111, go_sem, s0, s1, s2, s3, s4, s5, s6, s7, s8, s9, s10, s11, s12]) rfl ?_
  exact ⟨rfl, HF2.out.put13 (by omega) (by omega) (by omega) _ _ _ _ _ _ _ _ _ _ _ _ _, HQ2.out.put13 (C := w.heap.size + 1) (.inr (by omega)) _ _ _ _ _ _ _ _ _ _ _ _ _⟩
theorem pStep_other {w : World} {H A G : Nat} {C : Cf} {s : Dy} (hH : HAt w H A G C s) (l : Int) (p bk q1 q2 q3 q4 m1 m2 m3 m4 m5 rt : Int) (h0 : ¬ l = 34) (h1 : ¬ l = 35) (h2 : ¬ l = 36) :
    Calls Tryz.prog 111 #[.pointer (some ⟨H, 0, none⟩), (mutV l p bk q1 q2 q3 q4 m1 m2 m3 m4 m5 rt)] w (HP w H A G C s (.tuple #[(mutV l p bk q1 q2 q3 q4 m1 m2 m3 m4 m5 rt), .bool false, .bool false])) := by
  have HF := Lib.hid hH
  clear hH
  have g0 : (l == 34) = false := by simpa using h0
  have g1 : (l == 35) = false := by simpa using h1
  have g2 : (l == 36) = false := by simpa using h2
  go_enter Tryz.func111, Tryz.ntmps111
  go_wp2_with fail
  refine bodyPost_ret (v := .tuple #[(mutV l p bk q1 q2 q3 q4 m1 m2 m3 m4 m5 rt), .bool false, .bool false]) (by simp [results, Tryz.f111, go_sem]) rfl ?_
  refine ⟨rfl, HF.out.below (below_on (below_new _ _) _), Sav.of (below_on (below_new _ _) _)⟩
end Go.Proofs.YtbpooljohjkbjaaGreatDoor
