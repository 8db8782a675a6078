/- A step of package gate from every line, as one function; of a nil hand. -/
import Derived.Test.YtbpooljohjkbjaaGreatDoorM5
import Derived.Test.YtbpooljohjkbjaaGreatDoorPlaceAt
namespace Go.Proofs.YtbpooljohjkbjaaGreatDoor
open Go Go.RowKit
set_option maxRecDepth 100000
attribute [local go_sem ↓] Go.wp_at_zero Go.wp_at_succ
set_option maxHeartbeats 1600000 in
theorem gStep_enter {w : World} {H A G : Nat} {C : Cf} {s : Dy} (hH : HAt w H A G C s) (hu : s.U) (hS : SpansAt w) (m : Int) (p bk q1 q2 q3 q4 m1 m2 m3 m4 m5 rt : Int) :
    Calls Tryz.prog 108 #[.pointer (some ⟨H, 0, none⟩), .int .i64 m, (mutV 1 p bk q1 q2 q3 q4 m1 m2 m3 m4 m5 rt)] w (HP w H A G C (s.act C 4 (inP C.a C.b C.c C.d m) 1 0) (.tuple #[(mutV 2 p bk q1 q2 q3 q4 m1 m2 m3 m4 m5 rt), .bool true])) := by
  have hS2 := Lib.hid (hS.below (below_on (below_new w (.cells #[.int .i64 1, .int .i64 q1, .int .i64 q2, .int .i64 q3, .int .i64 q4, .int .u64 m1, .int .u64 m2, .int .u64 m3, .int .u64 m4, .int .u64 m5, .int .u64 p, .int .i64 bk, .int .i64 rt] 60)) (.cells #[.int .i64 0, .int .i64 0, .int .i64 0, .int .i64 0, .int .i64 0, .int .u64 0, .int .u64 0, .int .u64 0, .int .u64 0, .int .u64 0, .int .u64 0, .int .i64 0, .int .i64 0] 60)))
  have hb := (below_on (below_new w (.cells #[.int .i64 1, .int .i64 q1, .int .i64 q2, .int .i64 q3, .int .i64 q4, .int .u64 m1, .int .u64 m2, .int .u64 m3, .int .u64 m4, .int .u64 m5, .int .u64 p, .int .i64 bk, .int .i64 rt] 60)) (.cells #[.int .i64 0, .int .i64 0, .int .i64 0, .int .i64 0, .int .i64 0, .int .u64 0, .int .u64 0, .int .u64 0, .int .u64 0, .int .u64 0, .int .u64 0, .int .i64 0, .int .i64 0] 60))
  have hm : Mut13 ((w.alloc (.cells #[.int .i64 1, .int .i64 q1, .int .i64 q2, .int .i64 q3, .int .i64 q4, .int .u64 m1, .int .u64 m2, .int .u64 m3, .int .u64 m4, .int .u64 m5, .int .u64 p, .int .i64 bk, .int .i64 rt] 60)).alloc (.cells #[.int .i64 0, .int .i64 0, .int .i64 0, .int .i64 0, .int .i64 0, .int .u64 0, .int .u64 0, .int .u64 0, .int .u64 0, .int .u64 0, .int .u64 0, .int .i64 0, .int .i64 0] 60)) w.heap.size 1 p bk q1 q2 q3 q4 m1 m2 m3 m4 m5 rt := (Mut13.new w 1 p bk q1 q2 q3 q4 m1 m2 m3 m4 m5 rt).below (below_new _ _)
  have hy : Mut13 ((w.alloc (.cells #[.int .i64 1, .int .i64 q1, .int .i64 q2, .int .i64 q3, .int .i64 q4, .int .u64 m1, .int .u64 m2, .int .u64 m3, .int .u64 m4, .int .u64 m5, .int .u64 p, .int .i64 bk, .int .i64 rt] 60)).alloc (.cells #[.int .i64 0, .int .i64 0, .int .i64 0, .int .i64 0, .int .i64 0, .int .u64 0, .int .u64 0, .int .u64 0, .int .u64 0, .int .u64 0, .int .u64 0, .int .i64 0, .int .i64 0] 60)) (w.heap.size + 1) 0 0 0 0 0 0 0 0 0 0 0 0 0 := by
    have := Mut13.new (w.alloc (.cells #[.int .i64 1, .int .i64 q1, .int .i64 q2, .int .i64 q3, .int .i64 q4, .int .u64 m1, .int .u64 m2, .int .u64 m3, .int .u64 m4, .int .u64 m5, .int .u64 p, .int .i64 bk, .int .i64 rt] 60)) 0 0 0 0 0 0 0 0 0 0 0 0 0; simpa using this
  have HF := Lib.hid (hH.below hb)
  have hlt : H < w.heap.size := hH.lt
  have hltA : A < w.heap.size := hH.ar.lt
  have hltG : G < w.heap.size := hH.ar.row.lt
  have HQ : Hid (Sav (HG H G) w _) := Lib.hid (Sav.of (S := HG H G) hb)
  have HM := Lib.hid hm; have HY := Lib.hid hy
  have HI : Hid (∀ W, SpansAt W → Calls Tryz.prog 138 #[(.agg #[.int .i64 C.a, .int .i64 C.b, .int .i64 C.c, .int .i64 C.d]), .int .i64 m] W fun e w' => e = .returned (.int .i64 (inP C.a C.b C.c C.d m)) ∧ Below W.heap.size W w') := Lib.hid (fun W hW => In_c C.a C.b C.c C.d m W hW)
  generalize (inP C.a C.b C.c C.d m) = P at *
  have HD : Hid (∀ W, HAt W H A G C s → Calls Tryz.prog 137 #[.pointer (some ⟨H, 0, none⟩), .int .i64 P, .int .u64 1] W (HP W H A G C (s.act C 4 P 1 0) (.int .u64 (z5 C.n 4 P (s.f P.toNat))))) := Lib.hid (fun W hW => hAdd_c (w := W) hW hu P 1)
  generalize (s.act C 4 P 1 0) = s' at *
  generalize (z5 C.n 4 P (s.f P.toNat)) = T at *
  clear hH hm hy hu hS hb
  obtain ⟨_, ⟨h1, h2, h3, h4⟩, _⟩ := HF.out.cells
  obtain ⟨a0, a1, a2, a3, a4, a5, a6, a7, a8, a9, a10, a11, a12, af⟩ := HM.out.cells
  go_enter Tryz.func108, Tryz.ntmps108
  go_wp2_with fail
  refine (HI.out _ hS2.out).mono ?_
  rintro e V1 ⟨rfl, hb1⟩
  have HF1 := Lib.hid (HF.out.below hb1); have HM1 := Lib.hid (HM.out.below hb1); have HY1 := Lib.hid (HY.out.below hb1); have HQ1 := Lib.hid (HQ.out.trans (Sav.of (S := HG H G) hb1))
  clear hb1 HF HM HY HQ HI hS2 h1 h2 h3 h4 a0 a1 a2 a3 a4 a5 a6 a7 a8 a9 a10 a11 a12 af
  obtain ⟨a0, a1, a2, a3, a4, a5, a6, a7, a8, a9, a10, a11, a12, af⟩ := HM1.out.cells
  go_wp2_with fail
  refine (HD.out _ HF1.out).mono ?_
  rintro e V2 ⟨rfl, hF, hs⟩
  have HF2 := Lib.hid hF
  have HM2 := Lib.hid (HM1.out.savH hs (by omega) (by omega))
  have HY2 := Lib.hid (HY1.out.savH hs (by omega) (by omega))
  have HQ2 := Lib.hid (HQ1.out.trans hs)
  clear hs hF HF1 HM1 HY1 HQ1 HD a0 a1 a2 a3 a4 a5 a6 a7 a8 a9 a10 a11 a12 af
  have HM3 := Lib.hid (HM2.out.setL 2)
  have HF3 := Lib.hid (HF2.out.setOther (p := ⟨w.heap.size, 0, none⟩) (by show w.heap.size ≠ _; omega) (by show w.heap.size ≠ _; omega) (by show w.heap.size ≠ _; omega) (.int .i64 2))
  have HQ3 := Lib.hid (HQ2.out.set (p := ⟨w.heap.size, 0, none⟩) (.inr (Nat.le_refl _)) (.int .i64 2))
  have HY3 := Lib.hid (HY2.out.setOther (q := ⟨w.heap.size, 0, none⟩) (by show w.heap.size ≠ w.heap.size + 1; omega) (.int .i64 2))
  obtain ⟨b0, b1, b2, b3, b4, b5, b6, b7, b8, b9, b10, b11, b12, bf⟩ := HM2.out.cells
  obtain ⟨d0, d1, d2, d3, d4, d5, d6, d7, d8, d9, d10, d11, d12, df⟩ := HM3.out.cells
  obtain ⟨c0, c1, c2, c3, c4, c5, c6, c7, c8, c9, c10, c11, c12, cf⟩ := HY3.out.cells
  obtain ⟨s0, s1, s2, s3, s4, s5, s6, s7, s8, s9, s10, s11, s12, _⟩ := (HY3.out.put 2 p bk q1 q2 q3 q4 m1 m2 m3 m4 m5 rt).cells
  clear HM2 HY2 HF2 HQ2 HM3
  go_wp2_with fail
  refine bodyPost_ret (v := .tuple #[(mutV 2 p bk q1 q2 q3 q4 m1 m2 m3 m4 m5 rt), .bool true]) (by simp [results, Tryz.f108, go_sem, s0, s1, s2, s3, s4, s5, s6, s7, s8, s9, s10, s11, s12]) rfl ?_
  exact ⟨rfl, HF3.out.put13 (by omega) (by omega) (by omega) _ _ _ _ _ _ _ _ _ _ _ _ _, HQ3.out.put13 (C := w.heap.size + 1) (.inr (by omega)) _ _ _ _ _ _ _ _ _ _ _ _ _⟩
set_option maxHeartbeats 1600000 in
theorem gStep_look {w : World} {H A G : Nat} {C : Cf} {s : Dy} (hH : HAt w H A G C s) (hu : s.U) (hS : SpansAt w) (m : Int) (p bk q1 q2 q3 q4 m1 m2 m3 m4 m5 rt : Int) :
    Calls Tryz.prog 108 #[.pointer (some ⟨H, 0, none⟩), .int .i64 m, (mutV 2 p bk q1 q2 q3 q4 m1 m2 m3 m4 m5 rt)] w (HP w H A G C (s.act C 1 1 0 0) (.tuple #[(mutV (if z5 C.n 1 1 (s.f 1) = 0 then (3 : Int) else 4) p bk q1 q2 q3 q4 m1 m2 m3 m4 m5 rt), .bool true])) := by
  have hS2 := Lib.hid (hS.below (below_on (below_new w (.cells #[.int .i64 2, .int .i64 q1, .int .i64 q2, .int .i64 q3, .int .i64 q4, .int .u64 m1, .int .u64 m2, .int .u64 m3, .int .u64 m4, .int .u64 m5, .int .u64 p, .int .i64 bk, .int .i64 rt] 60)) (.cells #[.int .i64 0, .int .i64 0, .int .i64 0, .int .i64 0, .int .i64 0, .int .u64 0, .int .u64 0, .int .u64 0, .int .u64 0, .int .u64 0, .int .u64 0, .int .i64 0, .int .i64 0] 60)))
  have hb := (below_on (below_new w (.cells #[.int .i64 2, .int .i64 q1, .int .i64 q2, .int .i64 q3, .int .i64 q4, .int .u64 m1, .int .u64 m2, .int .u64 m3, .int .u64 m4, .int .u64 m5, .int .u64 p, .int .i64 bk, .int .i64 rt] 60)) (.cells #[.int .i64 0, .int .i64 0, .int .i64 0, .int .i64 0, .int .i64 0, .int .u64 0, .int .u64 0, .int .u64 0, .int .u64 0, .int .u64 0, .int .u64 0, .int .i64 0, .int .i64 0] 60))
  have hm : Mut13 ((w.alloc (.cells #[.int .i64 2, .int .i64 q1, .int .i64 q2, .int .i64 q3, .int .i64 q4, .int .u64 m1, .int .u64 m2, .int .u64 m3, .int .u64 m4, .int .u64 m5, .int .u64 p, .int .i64 bk, .int .i64 rt] 60)).alloc (.cells #[.int .i64 0, .int .i64 0, .int .i64 0, .int .i64 0, .int .i64 0, .int .u64 0, .int .u64 0, .int .u64 0, .int .u64 0, .int .u64 0, .int .u64 0, .int .i64 0, .int .i64 0] 60)) w.heap.size 2 p bk q1 q2 q3 q4 m1 m2 m3 m4 m5 rt := (Mut13.new w 2 p bk q1 q2 q3 q4 m1 m2 m3 m4 m5 rt).below (below_new _ _)
  have hy : Mut13 ((w.alloc (.cells #[.int .i64 2, .int .i64 q1, .int .i64 q2, .int .i64 q3, .int .i64 q4, .int .u64 m1, .int .u64 m2, .int .u64 m3, .int .u64 m4, .int .u64 m5, .int .u64 p, .int .i64 bk, .int .i64 rt] 60)).alloc (.cells #[.int .i64 0, .int .i64 0, .int .i64 0, .int .i64 0, .int .i64 0, .int .u64 0, .int .u64 0, .int .u64 0, .int .u64 0, .int .u64 0, .int .u64 0, .int .i64 0, .int .i64 0] 60)) (w.heap.size + 1) 0 0 0 0 0 0 0 0 0 0 0 0 0 := by
    have := Mut13.new (w.alloc (.cells #[.int .i64 2, .int .i64 q1, .int .i64 q2, .int .i64 q3, .int .i64 q4, .int .u64 m1, .int .u64 m2, .int .u64 m3, .int .u64 m4, .int .u64 m5, .int .u64 p, .int .i64 bk, .int .i64 rt] 60)) 0 0 0 0 0 0 0 0 0 0 0 0 0; simpa using this
  have HF := Lib.hid (hH.below hb)
  have hlt : H < w.heap.size := hH.lt
  have hltA : A < w.heap.size := hH.ar.lt
  have hltG : G < w.heap.size := hH.ar.row.lt
  have HQ : Hid (Sav (HG H G) w _) := Lib.hid (Sav.of (S := HG H G) hb)
  have HM := Lib.hid hm; have HY := Lib.hid hy
  have HD : Hid (∀ W, HAt W H A G C s → Calls Tryz.prog 139 #[.pointer (some ⟨H, 0, none⟩), .int .i64 3, .int .i64 4] W (HP W H A G C (s.act C 1 1 0 0) (.int .i64 (if z5 C.n 1 1 (s.f 1) = 0 then (3 : Int) else 4)))) := Lib.hid (fun W hW => look_c (w := W) hW hu 3 4)
  generalize (s.act C 1 1 0 0) = s' at *
  generalize (if z5 C.n 1 1 (s.f 1) = 0 then (3 : Int) else 4) = L at *
  clear hH hm hy hu hS hb hS2
  obtain ⟨a0, a1, a2, a3, a4, a5, a6, a7, a8, a9, a10, a11, a12, af⟩ := HM.out.cells
  go_enter Tryz.func108, Tryz.ntmps108
  go_wp2_with fail
  refine (HD.out _ HF.out).mono ?_
  rintro e V2 ⟨rfl, hF, hs⟩
  have HF2 := Lib.hid hF
  have HM2 := Lib.hid (HM.out.savH hs (by omega) (by omega))
  have HY2 := Lib.hid (HY.out.savH hs (by omega) (by omega))
  have HQ2 := Lib.hid (HQ.out.trans hs)
  clear hs hF HF HM HY HQ HD a0 a1 a2 a3 a4 a5 a6 a7 a8 a9 a10 a11 a12 af
  have HM3 := Lib.hid (HM2.out.setL L)
  have HF3 := Lib.hid (HF2.out.setOther (p := ⟨w.heap.size, 0, none⟩) (by show w.heap.size ≠ _; omega) (by show w.heap.size ≠ _; omega) (by show w.heap.size ≠ _; omega) (.int .i64 L))
  have HQ3 := Lib.hid (HQ2.out.set (p := ⟨w.heap.size, 0, none⟩) (.inr (Nat.le_refl _)) (.int .i64 L))
  have HY3 := Lib.hid (HY2.out.setOther (q := ⟨w.heap.size, 0, none⟩) (by show w.heap.size ≠ w.heap.size + 1; omega) (.int .i64 L))
  obtain ⟨b0, b1, b2, b3, b4, b5, b6, b7, b8, b9, b10, b11, b12, bf⟩ := HM2.out.cells
  obtain ⟨d0, d1, d2, d3, d4, d5, d6, d7, d8, d9, d10, d11, d12, df⟩ := HM3.out.cells
  obtain ⟨c0, c1, c2, c3, c4, c5, c6, c7, c8, c9, c10, c11, c12, cf⟩ := HY3.out.cells
  obtain ⟨s0, s1, s2, s3, s4, s5, s6, s7, s8, s9, s10, s11, s12, _⟩ := (HY3.out.put L p bk q1 q2 q3 q4 m1 m2 m3 m4 m5 rt).cells
  clear HM2 HY2 HF2 HQ2 HM3
  go_wp2_with fail
  refine bodyPost_ret (v := .tuple #[(mutV L p bk q1 q2 q3 q4 m1 m2 m3 m4 m5 rt), .bool true]) (by simp [results, Tryz.f108, go_sem, s0, s1, s2, s3, s4, s5, s6, s7, s8, s9, s10, s11, s12]) rfl ?_
  exact ⟨rfl, HF3.out.put13 (by omega) (by omega) (by omega) _ _ _ _ _ _ _ _ _ _ _ _ _, HQ3.out.put13 (C := w.heap.size + 1) (.inr (by omega)) _ _ _ _ _ _ _ _ _ _ _ _ _⟩
set_option maxHeartbeats 1600000 in
theorem gStep_run {w : World} {H A G : Nat} {C : Cf} {s : Dy} (hH : HAt w H A G C s) (hu : s.U) (hS : SpansAt w) (m : Int) (p bk q1 q2 q3 q4 m1 m2 m3 m4 m5 rt : Int) (hq1 : -9223372036854775808 ≤ q1 ∧ q1 ≤ 9223372036854775807) :
    Calls Tryz.prog 108 #[.pointer (some ⟨H, 0, none⟩), .int .i64 m, (mutV 3 p bk q1 q2 q3 q4 m1 m2 m3 m4 m5 rt)] w (HP w H A G C (s.act C 4 (inP C.a C.b C.c C.d m) 1 0) (.tuple #[(mutV (firstL q1) p bk q1 q2 q3 q4 m1 m2 m3 m4 m5 rt), .bool true])) := by
  have hS2 := Lib.hid (hS.below (below_on (below_new w (.cells #[.int .i64 3, .int .i64 q1, .int .i64 q2, .int .i64 q3, .int .i64 q4, .int .u64 m1, .int .u64 m2, .int .u64 m3, .int .u64 m4, .int .u64 m5, .int .u64 p, .int .i64 bk, .int .i64 rt] 60)) (.cells #[.int .i64 0, .int .i64 0, .int .i64 0, .int .i64 0, .int .i64 0, .int .u64 0, .int .u64 0, .int .u64 0, .int .u64 0, .int .u64 0, .int .u64 0, .int .i64 0, .int .i64 0] 60)))
  have hb := (below_on (below_new w (.cells #[.int .i64 3, .int .i64 q1, .int .i64 q2, .int .i64 q3, .int .i64 q4, .int .u64 m1, .int .u64 m2, .int .u64 m3, .int .u64 m4, .int .u64 m5, .int .u64 p, .int .i64 bk, .int .i64 rt] 60)) (.cells #[.int .i64 0, .int .i64 0, .int .i64 0, .int .i64 0, .int .i64 0, .int .u64 0, .int .u64 0, .int .u64 0, .int .u64 0, .int .u64 0, .int .u64 0, .int .i64 0, .int .i64 0] 60))
  have hm : Mut13 ((w.alloc (.cells #[.int .i64 3, .int .i64 q1, .int .i64 q2, .int .i64 q3, .int .i64 q4, .int .u64 m1, .int .u64 m2, .int .u64 m3, .int .u64 m4, .int .u64 m5, .int .u64 p, .int .i64 bk, .int .i64 rt] 60)).alloc (.cells #[.int .i64 0, .int .i64 0, .int .i64 0, .int .i64 0, .int .i64 0, .int .u64 0, .int .u64 0, .int .u64 0, .int .u64 0, .int .u64 0, .int .u64 0, .int .i64 0, .int .i64 0] 60)) w.heap.size 3 p bk q1 q2 q3 q4 m1 m2 m3 m4 m5 rt := (Mut13.new w 3 p bk q1 q2 q3 q4 m1 m2 m3 m4 m5 rt).below (below_new _ _)
  have hy : Mut13 ((w.alloc (.cells #[.int .i64 3, .int .i64 q1, .int .i64 q2, .int .i64 q3, .int .i64 q4, .int .u64 m1, .int .u64 m2, .int .u64 m3, .int .u64 m4, .int .u64 m5, .int .u64 p, .int .i64 bk, .int .i64 rt] 60)).alloc (.cells #[.int .i64 0, .int .i64 0, .int .i64 0, .int .i64 0, .int .i64 0, .int .u64 0, .int .u64 0, .int .u64 0, .int .u64 0, .int .u64 0, .int .u64 0, .int .i64 0, .int .i64 0] 60)) (w.heap.size + 1) 0 0 0 0 0 0 0 0 0 0 0 0 0 := by
    have := Mut13.new (w.alloc (.cells #[.int .i64 3, .int .i64 q1, .int .i64 q2, .int .i64 q3, .int .i64 q4, .int .u64 m1, .int .u64 m2, .int .u64 m3, .int .u64 m4, .int .u64 m5, .int .u64 p, .int .i64 bk, .int .i64 rt] 60)) 0 0 0 0 0 0 0 0 0 0 0 0 0; simpa using this
  have HF := Lib.hid (hH.below hb)
  have hlt : H < w.heap.size := hH.lt
  have hltA : A < w.heap.size := hH.ar.lt
  have hltG : G < w.heap.size := hH.ar.row.lt
  have HQ : Hid (Sav (HG H G) w _) := Lib.hid (Sav.of (S := HG H G) hb)
  have HM := Lib.hid hm; have HY := Lib.hid hy
  have HI : Hid (∀ W, SpansAt W → Calls Tryz.prog 138 #[(.agg #[.int .i64 C.a, .int .i64 C.b, .int .i64 C.c, .int .i64 C.d]), .int .i64 m] W fun e w' => e = .returned (.int .i64 (inP C.a C.b C.c C.d m)) ∧ Below W.heap.size W w') := Lib.hid (fun W hW => In_c C.a C.b C.c C.d m W hW)
  generalize (inP C.a C.b C.c C.d m) = P at *
  have HD : Hid (∀ W, HAt W H A G C s → Calls Tryz.prog 137 #[.pointer (some ⟨H, 0, none⟩), .int .i64 P, .int .u64 1] W (HP W H A G C (s.act C 4 P 1 0) (.int .u64 (z5 C.n 4 P (s.f P.toNat))))) := Lib.hid (fun W hW => hAdd_c (w := W) hW hu P 1)
  generalize (s.act C 4 P 1 0) = s' at *
  generalize (z5 C.n 4 P (s.f P.toNat)) = T at *
  have HK : Hid (∀ W, Calls Tryz.prog 140 #[.int .i64 q1] W fun e w' => e = .returned (.int .i64 (firstL q1)) ∧ Below W.heap.size W w') := Lib.hid (fun W => First_c q1 hq1 W)
  generalize firstL q1 = L at *
  clear hH hm hy hu hS hb hq1
  obtain ⟨_, ⟨h1, h2, h3, h4⟩, _⟩ := HF.out.cells
  obtain ⟨a0, a1, a2, a3, a4, a5, a6, a7, a8, a9, a10, a11, a12, af⟩ := HM.out.cells
  go_enter Tryz.func108, Tryz.ntmps108
  go_wp2_with fail
  refine (HI.out _ hS2.out).mono ?_
  rintro e V1 ⟨rfl, hb1⟩
  have HF1 := Lib.hid (HF.out.below hb1); have HM1 := Lib.hid (HM.out.below hb1); have HY1 := Lib.hid (HY.out.below hb1); have HQ1 := Lib.hid (HQ.out.trans (Sav.of (S := HG H G) hb1))
  clear hb1 HF HM HY HQ HI hS2 h1 h2 h3 h4 a0 a1 a2 a3 a4 a5 a6 a7 a8 a9 a10 a11 a12 af
  obtain ⟨a0, a1, a2, a3, a4, a5, a6, a7, a8, a9, a10, a11, a12, af⟩ := HM1.out.cells
  go_wp2_with fail
  refine (HD.out _ HF1.out).mono ?_
  rintro e V2 ⟨rfl, hF, hs⟩
  have HFa := Lib.hid hF
  have HMa := Lib.hid (HM1.out.savH hs (by omega) (by omega))
  have HYa := Lib.hid (HY1.out.savH hs (by omega) (by omega))
  have HQa := Lib.hid (HQ1.out.trans hs)
  clear hs hF HF1 HM1 HY1 HQ1 HD a0 a1 a2 a3 a4 a5 a6 a7 a8 a9 a10 a11 a12 af
  obtain ⟨a0, a1, a2, a3, a4, a5, a6, a7, a8, a9, a10, a11, a12, af⟩ := HMa.out.cells
  go_wp2_with fail
  refine (HK.out _).mono ?_
  rintro e V3 ⟨rfl, hb3⟩
  have HF2 := Lib.hid (HFa.out.below hb3); have HM2 := Lib.hid (HMa.out.below hb3); have HY2 := Lib.hid (HYa.out.below hb3); have HQ2 := Lib.hid (HQa.out.trans (Sav.of (S := HG H G) hb3))
  clear hb3 HFa HMa HYa HQa HK a0 a1 a2 a3 a4 a5 a6 a7 a8 a9 a10 a11 a12 af
  have HM3 := Lib.hid (HM2.out.setL L)
  have HF3 := Lib.hid (HF2.out.setOther (p := ⟨w.heap.size, 0, none⟩) (by show w.heap.size ≠ _; omega) (by show w.heap.size ≠ _; omega) (by show w.heap.size ≠ _; omega) (.int .i64 L))
  have HQ3 := Lib.hid (HQ2.out.set (p := ⟨w.heap.size, 0, none⟩) (.inr (Nat.le_refl _)) (.int .i64 L))
  have HY3 := Lib.hid (HY2.out.setOther (q := ⟨w.heap.size, 0, none⟩) (by show w.heap.size ≠ w.heap.size + 1; omega) (.int .i64 L))
  obtain ⟨b0, b1, b2, b3, b4, b5, b6, b7, b8, b9, b10, b11, b12, bf⟩ := HM2.out.cells
  obtain ⟨d0, d1, d2, d3, d4, d5, d6, d7, d8, d9, d10, d11, d12, df⟩ := HM3.out.cells
  obtain ⟨c0, c1, c2, c3, c4, c5, c6, c7, c8, c9, c10, c11, c12, cf⟩ := HY3.out.cells
  obtain ⟨s0, s1, s2, s3, s4, s5, s6, s7, s8, s9, s10, s11, s12, _⟩ := (HY3.out.put L p bk q1 q2 q3 q4 m1 m2 m3 m4 m5 rt).cells
  clear HM2 HY2 HF2 HQ2 HM3
  go_wp2_with fail
  refine bodyPost_ret (v := .tuple #[(mutV L p bk q1 q2 q3 q4 m1 m2 m3 m4 m5 rt), .bool true]) (by simp [results, Tryz.f108, go_sem, s0, s1, s2, s3, s4, s5, s6, s7, s8, s9, s10, s11, s12]) rfl ?_
  exact ⟨rfl, HF3.out.put13 (by omega) (by omega) (by omega) _ _ _ _ _ _ _ _ _ _ _ _ _, HQ3.out.put13 (C := w.heap.size + 1) (.inr (by omega)) _ _ _ _ _ _ _ _ _ _ _ _ _⟩
set_option maxHeartbeats 1600000 in
theorem gStep_say {w : World} {H A G : Nat} {C : Cf} {s : Dy} (hH : HAt w H A G C s) (hu : s.U) (hS : SpansAt w) (m : Int) (p bk q1 q2 q3 q4 m1 m2 m3 m4 m5 rt : Int) :
    Calls Tryz.prog 108 #[.pointer (some ⟨H, 0, none⟩), .int .i64 m, (mutV 4 p bk q1 q2 q3 q4 m1 m2 m3 m4 m5 rt)] w (HP w H A G C (s.act C 4 (inP C.a C.b C.c C.d m) 2 0) (.tuple #[(mutV 5 p bk q1 q2 q3 q4 m1 m2 m3 m4 m5 rt), .bool true])) := by
  have hS2 := Lib.hid (hS.below (below_on (below_new w (.cells #[.int .i64 4, .int .i64 q1, .int .i64 q2, .int .i64 q3, .int .i64 q4, .int .u64 m1, .int .u64 m2, .int .u64 m3, .int .u64 m4, .int .u64 m5, .int .u64 p, .int .i64 bk, .int .i64 rt] 60)) (.cells #[.int .i64 0, .int .i64 0, .int .i64 0, .int .i64 0, .int .i64 0, .int .u64 0, .int .u64 0, .int .u64 0, .int .u64 0, .int .u64 0, .int .u64 0, .int .i64 0, .int .i64 0] 60)))
  have hb := (below_on (below_new w (.cells #[.int .i64 4, .int .i64 q1, .int .i64 q2, .int .i64 q3, .int .i64 q4, .int .u64 m1, .int .u64 m2, .int .u64 m3, .int .u64 m4, .int .u64 m5, .int .u64 p, .int .i64 bk, .int .i64 rt] 60)) (.cells #[.int .i64 0, .int .i64 0, .int .i64 0, .int .i64 0, .int .i64 0, .int .u64 0, .int .u64 0, .int .u64 0, .int .u64 0, .int .u64 0, .int .u64 0, .int .i64 0, .int .i64 0] 60))
  have hm : Mut13 ((w.alloc (.cells #[.int .i64 4, .int .i64 q1, .int .i64 q2, .int .i64 q3, .int .i64 q4, .int .u64 m1, .int .u64 m2, .int .u64 m3, .int .u64 m4, .int .u64 m5, .int .u64 p, .int .i64 bk, .int .i64 rt] 60)).alloc (.cells #[.int .i64 0, .int .i64 0, .int .i64 0, .int .i64 0, .int .i64 0, .int .u64 0, .int .u64 0, .int .u64 0, .int .u64 0, .int .u64 0, .int .u64 0, .int .i64 0, .int .i64 0] 60)) w.heap.size 4 p bk q1 q2 q3 q4 m1 m2 m3 m4 m5 rt := (Mut13.new w 4 p bk q1 q2 q3 q4 m1 m2 m3 m4 m5 rt).below (below_new _ _)
  have hy : Mut13 ((w.alloc (.cells #[.int .i64 4, .int .i64 q1, .int .i64 q2, .int .i64 q3, .int .i64 q4, .int .u64 m1, .int .u64 m2, .int .u64 m3, .int .u64 m4, .int .u64 m5, .int .u64 p, .int .i64 bk, .int .i64 rt] 60)).alloc (.cells #[.int .i64 0, .int .i64 0, .int .i64 0, .int .i64 0, .int .i64 0, .int .u64 0, .int .u64 0, .int .u64 0, .int .u64 0, .int .u64 0, .int .u64 0, .int .i64 0, .int .i64 0] 60)) (w.heap.size + 1) 0 0 0 0 0 0 0 0 0 0 0 0 0 := by
    have := Mut13.new (w.alloc (.cells #[.int .i64 4, .int .i64 q1, .int .i64 q2, .int .i64 q3, .int .i64 q4, .int .u64 m1, .int .u64 m2, .int .u64 m3, .int .u64 m4, .int .u64 m5, .int .u64 p, .int .i64 bk, .int .i64 rt] 60)) 0 0 0 0 0 0 0 0 0 0 0 0 0; simpa using this
  have HF := Lib.hid (hH.below hb)
  have hlt : H < w.heap.size := hH.lt
  have hltA : A < w.heap.size := hH.ar.lt
  have hltG : G < w.heap.size := hH.ar.row.lt
  have HQ : Hid (Sav (HG H G) w _) := Lib.hid (Sav.of (S := HG H G) hb)
  have HM := Lib.hid hm; have HY := Lib.hid hy
  have HI : Hid (∀ W, SpansAt W → Calls Tryz.prog 138 #[(.agg #[.int .i64 C.a, .int .i64 C.b, .int .i64 C.c, .int .i64 C.d]), .int .i64 m] W fun e w' => e = .returned (.int .i64 (inP C.a C.b C.c C.d m)) ∧ Below W.heap.size W w') := Lib.hid (fun W hW => In_c C.a C.b C.c C.d m W hW)
  generalize (inP C.a C.b C.c C.d m) = P at *
  have HD : Hid (∀ W, HAt W H A G C s → Calls Tryz.prog 137 #[.pointer (some ⟨H, 0, none⟩), .int .i64 P, .int .u64 2] W (HP W H A G C (s.act C 4 P 2 0) (.int .u64 (z5 C.n 4 P (s.f P.toNat))))) := Lib.hid (fun W hW => hAdd_c (w := W) hW hu P 2)
  generalize (s.act C 4 P 2 0) = s' at *
  generalize (z5 C.n 4 P (s.f P.toNat)) = T at *
  clear hH hm hy hu hS hb
  obtain ⟨_, ⟨h1, h2, h3, h4⟩, _⟩ := HF.out.cells
  obtain ⟨a0, a1, a2, a3, a4, a5, a6, a7, a8, a9, a10, a11, a12, af⟩ := HM.out.cells
  go_enter Tryz.func108, Tryz.ntmps108
  go_wp2_with fail
  refine (HI.out _ hS2.out).mono ?_
  rintro e V1 ⟨rfl, hb1⟩
  have HF1 := Lib.hid (HF.out.below hb1); have HM1 := Lib.hid (HM.out.below hb1); have HY1 := Lib.hid (HY.out.below hb1); have HQ1 := Lib.hid (HQ.out.trans (Sav.of (S := HG H G) hb1))
  clear hb1 HF HM HY HQ HI hS2 h1 h2 h3 h4 a0 a1 a2 a3 a4 a5 a6 a7 a8 a9 a10 a11 a12 af
  obtain ⟨a0, a1, a2, a3, a4, a5, a6, a7, a8, a9, a10, a11, a12, af⟩ := HM1.out.cells
  go_wp2_with fail
  refine (HD.out _ HF1.out).mono ?_
  rintro e V2 ⟨rfl, hF, hs⟩
  have HF2 := Lib.hid hF
  have HM2 := Lib.hid (HM1.out.savH hs (by omega) (by omega))
  have HY2 := Lib.hid (HY1.out.savH hs (by omega) (by omega))
  have HQ2 := Lib.hid (HQ1.out.trans hs)
  clear hs hF HF1 HM1 HY1 HQ1 HD a0 a1 a2 a3 a4 a5 a6 a7 a8 a9 a10 a11 a12 af
  have HM3 := Lib.hid (HM2.out.setL 5)
  have HF3 := Lib.hid (HF2.out.setOther (p := ⟨w.heap.size, 0, none⟩) (by show w.heap.size ≠ _; omega) (by show w.heap.size ≠ _; omega) (by show w.heap.size ≠ _; omega) (.int .i64 5))
  have HQ3 := Lib.hid (HQ2.out.set (p := ⟨w.heap.size, 0, none⟩) (.inr (Nat.le_refl _)) (.int .i64 5))
  have HY3 := Lib.hid (HY2.out.setOther (q := ⟨w.heap.size, 0, none⟩) (by show w.heap.size ≠ w.heap.size + 1; omega) (.int .i64 5))
  obtain ⟨b0, b1, b2, b3, b4, b5, b6, b7, b8, b9, b10, b11, b12, bf⟩ := HM2.out.cells
  obtain ⟨d0, d1, d2, d3, d4, d5, d6, d7, d8, d9, d10, d11, d12, df⟩ := HM3.out.cells
  obtain ⟨c0, c1, c2, c3, c4, c5, c6, c7, c8, c9, c10, c11, c12, cf⟩ := HY3.out.cells
  obtain ⟨s0, s1, s2, s3, s4, s5, s6, s7, s8, s9, s10, s11, s12, _⟩ := (HY3.out.put 5 p bk q1 q2 q3 q4 m1 m2 m3 m4 m5 rt).cells
  clear HM2 HY2 HF2 HQ2 HM3
  go_wp2_with fail
  refine bodyPost_ret (v := .tuple #[(mutV 5 p bk q1 q2 q3 q4 m1 m2 m3 m4 m5 rt), .bool true]) (by simp [results, Tryz.f108, go_sem, s0, s1, s2, s3, s4, s5, s6, s7, s8, s9, s10, s11, s12]) rfl ?_
  exact ⟨rfl, HF3.out.put13 (by omega) (by omega) (by omega) _ _ _ _ _ _ _ _ _ _ _ _ _, HQ3.out.put13 (C := w.heap.size + 1) (.inr (by omega)) _ _ _ _ _ _ _ _ _ _ _ _ _⟩
set_option maxHeartbeats 1600000 in
theorem gStep_wait {w : World} {H A G : Nat} {C : Cf} {s : Dy} (hH : HAt w H A G C s) (hu : s.U) (hS : SpansAt w) (m : Int) (p bk q1 q2 q3 q4 m1 m2 m3 m4 m5 rt : Int) :
    Calls Tryz.prog 108 #[.pointer (some ⟨H, 0, none⟩), .int .i64 m, (mutV 5 p bk q1 q2 q3 q4 m1 m2 m3 m4 m5 rt)] w (HP w H A G C (s.act C 1 1 0 0) (.tuple #[(mutV (if z5 C.n 1 1 (s.f 1) = 0 then (6 : Int) else 5) p bk q1 q2 q3 q4 m1 m2 m3 m4 m5 rt), .bool true])) := by
  have hS2 := Lib.hid (hS.below (below_on (below_new w (.cells #[.int .i64 5, .int .i64 q1, .int .i64 q2, .int .i64 q3, .int .i64 q4, .int .u64 m1, .int .u64 m2, .int .u64 m3, .int .u64 m4, .int .u64 m5, .int .u64 p, .int .i64 bk, .int .i64 rt] 60)) (.cells #[.int .i64 0, .int .i64 0, .int .i64 0, .int .i64 0, .int .i64 0, .int .u64 0, .int .u64 0, .int .u64 0, .int .u64 0, .int .u64 0, .int .u64 0, .int .i64 0, .int .i64 0] 60)))
  have hb := (below_on (below_new w (.cells #[.int .i64 5, .int .i64 q1, .int .i64 q2, .int .i64 q3, .int .i64 q4, .int .u64 m1, .int .u64 m2, .int .u64 m3, .int .u64 m4, .int .u64 m5, .int .u64 p, .int .i64 bk, .int .i64 rt] 60)) (.cells #[.int .i64 0, .int .i64 0, .int .i64 0, .int .i64 0, .int .i64 0, .int .u64 0, .int .u64 0, .int .u64 0, .int .u64 0, .int .u64 0, .int .u64 0, .int .i64 0, .int .i64 0] 60))
  have hm : Mut13 ((w.alloc (.cells #[.int .i64 5, .int .i64 q1, .int .i64 q2, .int .i64 q3, .int .i64 q4, .int .u64 m1, .int .u64 m2, .int .u64 m3, .int .u64 m4, .int .u64 m5, .int .u64 p, .int .i64 bk, .int .i64 rt] 60)).alloc (.cells #[.int .i64 0, .int .i64 0, .int .i64 0, .int .i64 0, .int .i64 0, .int .u64 0, .int .u64 0, .int .u64 0, .int .u64 0, .int .u64 0, .int .u64 0, .int .i64 0, .int .i64 0] 60)) w.heap.size 5 p bk q1 q2 q3 q4 m1 m2 m3 m4 m5 rt := (Mut13.new w 5 p bk q1 q2 q3 q4 m1 m2 m3 m4 m5 rt).below (below_new _ _)
  have hy : Mut13 ((w.alloc (.cells #[.int .i64 5, .int .i64 q1, .int .i64 q2, .int .i64 q3, .int .i64 q4, .int .u64 m1, .int .u64 m2, .int .u64 m3, .int .u64 m4, .int .u64 m5, .int .u64 p, .int .i64 bk, .int .i64 rt] 60)).alloc (.cells #[.int .i64 0, .int .i64 0, .int .i64 0, .int .i64 0, .int .i64 0, .int .u64 0, .int .u64 0, .int .u64 0, .int .u64 0, .int .u64 0, .int .u64 0, .int .i64 0, .int .i64 0] 60)) (w.heap.size + 1) 0 0 0 0 0 0 0 0 0 0 0 0 0 := by
    have := Mut13.new (w.alloc (.cells #[.int .i64 5, .int .i64 q1, .int .i64 q2, .int .i64 q3, .int .i64 q4, .int .u64 m1, .int .u64 m2, .int .u64 m3, .int .u64 m4, .int .u64 m5, .int .u64 p, .int .i64 bk, .int .i64 rt] 60)) 0 0 0 0 0 0 0 0 0 0 0 0 0; simpa using this
  have HF := Lib.hid (hH.below hb)
  have hlt : H < w.heap.size := hH.lt
  have hltA : A < w.heap.size := hH.ar.lt
  have hltG : G < w.heap.size := hH.ar.row.lt
  have HQ : Hid (Sav (HG H G) w _) := Lib.hid (Sav.of (S := HG H G) hb)
  have HM := Lib.hid hm; have HY := Lib.hid hy
  have HD : Hid (∀ W, HAt W H A G C s → Calls Tryz.prog 139 #[.pointer (some ⟨H, 0, none⟩), .int .i64 6, .int .i64 5] W (HP W H A G C (s.act C 1 1 0 0) (.int .i64 (if z5 C.n 1 1 (s.f 1) = 0 then (6 : Int) else 5)))) := Lib.hid (fun W hW => look_c (w := W) hW hu 6 5)
  generalize (s.act C 1 1 0 0) = s' at *
  generalize (if z5 C.n 1 1 (s.f 1) = 0 then (6 : Int) else 5) = L at *
  clear hH hm hy hu hS hb hS2
  obtain ⟨a0, a1, a2, a3, a4, a5, a6, a7, a8, a9, a10, a11, a12, af⟩ := HM.out.cells
  go_enter Tryz.func108, Tryz.ntmps108
  go_wp2_with fail
  refine (HD.out _ HF.out).mono ?_
  rintro e V2 ⟨rfl, hF, hs⟩
  have HF2 := Lib.hid hF
  have HM2 := Lib.hid (HM.out.savH hs (by omega) (by omega))
  have HY2 := Lib.hid (HY.out.savH hs (by omega) (by omega))
  have HQ2 := Lib.hid (HQ.out.trans hs)
  clear hs hF HF HM HY HQ HD a0 a1 a2 a3 a4 a5 a6 a7 a8 a9 a10 a11 a12 af
  have HM3 := Lib.hid (HM2.out.setL L)
  have HF3 := Lib.hid (HF2.out.setOther (p := ⟨w.heap.size, 0, none⟩) (by show w.heap.size ≠ _; omega) (by show w.heap.size ≠ _; omega) (by show w.heap.size ≠ _; omega) (.int .i64 L))
  have HQ3 := Lib.hid (HQ2.out.set (p := ⟨w.heap.size, 0, none⟩) (.inr (Nat.le_refl _)) (.int .i64 L))
  have HY3 := Lib.hid (HY2.out.setOther (q := ⟨w.heap.size, 0, none⟩) (by show w.heap.size ≠ w.heap.size + 1; omega) (.int .i64 L))
  obtain ⟨b0, b1, b2, b3, b4, b5, b6, b7, b8, b9, b10, b11, b12, bf⟩ := HM2.out.cells
  obtain ⟨d0, d1, d2, d3, d4, d5, d6, d7, d8, d9, d10, d11, d12, df⟩ := HM3.out.cells
  obtain ⟨c0, c1, c2, c3, c4, c5, c6, c7, c8, c9, c10, c11, c12, cf⟩ := HY3.out.cells
  obtain ⟨s0, s1, s2, s3, s4, s5, s6, s7, s8, s9, s10, s11, s12, _⟩ := (HY3.out.put L p bk q1 q2 q3 q4 m1 m2 m3 m4 m5 rt).cells
  clear HM2 HY2 HF2 HQ2 HM3
  go_wp2_with fail
  refine bodyPost_ret (v := .tuple #[(mutV L p bk q1 q2 q3 q4 m1 m2 m3 m4 m5 rt), .bool true]) (by simp [results, Tryz.f108, go_sem, s0, s1, s2, s3, s4, s5, s6, s7, s8, s9, s10, s11, s12]) rfl ?_
  exact ⟨rfl, HF3.out.put13 (by omega) (by omega) (by omega) _ _ _ _ _ _ _ _ _ _ _ _ _, HQ3.out.put13 (C := w.heap.size + 1) (.inr (by omega)) _ _ _ _ _ _ _ _ _ _ _ _ _⟩
set_option maxHeartbeats 1600000 in
theorem gStep_wake {w : World} {H A G : Nat} {C : Cf} {s : Dy} (hH : HAt w H A G C s) (hu : s.U) (hS : SpansAt w) (m : Int) (p bk q1 q2 q3 q4 m1 m2 m3 m4 m5 rt : Int) (hq1 : -9223372036854775808 ≤ q1 ∧ q1 ≤ 9223372036854775807) :
    Calls Tryz.prog 108 #[.pointer (some ⟨H, 0, none⟩), .int .i64 m, (mutV 6 p bk q1 q2 q3 q4 m1 m2 m3 m4 m5 rt)] w (HP w H A G C (s.act C 4 (inP C.a C.b C.c C.d m) 3 0) (.tuple #[(mutV (firstL q1) p bk q1 q2 q3 q4 m1 m2 m3 m4 m5 rt), .bool true])) := by
  have hS2 := Lib.hid (hS.below (below_on (below_new w (.cells #[.int .i64 6, .int .i64 q1, .int .i64 q2, .int .i64 q3, .int .i64 q4, .int .u64 m1, .int .u64 m2, .int .u64 m3, .int .u64 m4, .int .u64 m5, .int .u64 p, .int .i64 bk, .int .i64 rt] 60)) (.cells #[.int .i64 0, .int .i64 0, .int .i64 0, .int .i64 0, .int .i64 0, .int .u64 0, .int .u64 0, .int .u64 0, .int .u64 0, .int .u64 0, .int .u64 0, .int .i64 0, .int .i64 0] 60)))
  have hb := (below_on (below_new w (.cells #[.int .i64 6, .int .i64 q1, .int .i64 q2, .int .i64 q3, .int .i64 q4, .int .u64 m1, .int .u64 m2, .int .u64 m3, .int .u64 m4, .int .u64 m5, .int .u64 p, .int .i64 bk, .int .i64 rt] 60)) (.cells #[.int .i64 0, .int .i64 0, .int .i64 0, .int .i64 0, .int .i64 0, .int .u64 0, .int .u64 0, .int .u64 0, .int .u64 0, .int .u64 0, .int .u64 0, .int .i64 0, .int .i64 0] 60))
  have hm : Mut13 ((w.alloc (.cells #[.int .i64 6, .int .i64 q1, .int .i64 q2, .int .i64 q3, .int .i64 q4, .int .u64 m1, .int .u64 m2, .int .u64 m3, .int .u64 m4, .int .u64 m5, .int .u64 p, .int .i64 bk, .int .i64 rt] 60)).alloc (.cells #[.int .i64 0, .int .i64 0, .int .i64 0, .int .i64 0, .int .i64 0, .int .u64 0, .int .u64 0, .int .u64 0, .int .u64 0, .int .u64 0, .int .u64 0, .int .i64 0, .int .i64 0] 60)) w.heap.size 6 p bk q1 q2 q3 q4 m1 m2 m3 m4 m5 rt := (Mut13.new w 6 p bk q1 q2 q3 q4 m1 m2 m3 m4 m5 rt).below (below_new _ _)
  have hy : Mut13 ((w.alloc (.cells #[.int .i64 6, .int .i64 q1, .int .i64 q2, .int .i64 q3, .int .i64 q4, .int .u64 m1, .int .u64 m2, .int .u64 m3, .int .u64 m4, .int .u64 m5, .int .u64 p, .int .i64 bk, .int .i64 rt] 60)).alloc (.cells #[.int .i64 0, .int .i64 0, .int .i64 0, .int .i64 0, .int .i64 0, .int .u64 0, .int .u64 0, .int .u64 0, .int .u64 0, .int .u64 0, .int .u64 0, .int .i64 0, .int .i64 0] 60)) (w.heap.size + 1) 0 0 0 0 0 0 0 0 0 0 0 0 0 := by
    have := Mut13.new (w.alloc (.cells #[.int .i64 6, .int .i64 q1, .int .i64 q2, .int .i64 q3, .int .i64 q4, .int .u64 m1, .int .u64 m2, .int .u64 m3, .int .u64 m4, .int .u64 m5, .int .u64 p, .int .i64 bk, .int .i64 rt] 60)) 0 0 0 0 0 0 0 0 0 0 0 0 0; simpa using this
  have HF := Lib.hid (hH.below hb)
  have hlt : H < w.heap.size := hH.lt
  have hltA : A < w.heap.size := hH.ar.lt
  have hltG : G < w.heap.size := hH.ar.row.lt
  have HQ : Hid (Sav (HG H G) w _) := Lib.hid (Sav.of (S := HG H G) hb)
  have HM := Lib.hid hm; have HY := Lib.hid hy
  have HI : Hid (∀ W, SpansAt W → Calls Tryz.prog 138 #[(.agg #[.int .i64 C.a, .int .i64 C.b, .int .i64 C.c, .int .i64 C.d]), .int .i64 m] W fun e w' => e = .returned (.int .i64 (inP C.a C.b C.c C.d m)) ∧ Below W.heap.size W w') := Lib.hid (fun W hW => In_c C.a C.b C.c C.d m W hW)
  generalize (inP C.a C.b C.c C.d m) = P at *
  have HD : Hid (∀ W, HAt W H A G C s → Calls Tryz.prog 137 #[.pointer (some ⟨H, 0, none⟩), .int .i64 P, .int .u64 3] W (HP W H A G C (s.act C 4 P 3 0) (.int .u64 (z5 C.n 4 P (s.f P.toNat))))) := Lib.hid (fun W hW => hAdd_c (w := W) hW hu P 3)
  generalize (s.act C 4 P 3 0) = s' at *
  generalize (z5 C.n 4 P (s.f P.toNat)) = T at *
  have HK : Hid (∀ W, Calls Tryz.prog 140 #[.int .i64 q1] W fun e w' => e = .returned (.int .i64 (firstL q1)) ∧ Below W.heap.size W w') := Lib.hid (fun W => First_c q1 hq1 W)
  generalize firstL q1 = L at *
  clear hH hm hy hu hS hb hq1
  obtain ⟨_, ⟨h1, h2, h3, h4⟩, _⟩ := HF.out.cells
  obtain ⟨a0, a1, a2, a3, a4, a5, a6, a7, a8, a9, a10, a11, a12, af⟩ := HM.out.cells
  go_enter Tryz.func108, Tryz.ntmps108
  go_wp2_with fail
  refine (HI.out _ hS2.out).mono ?_
  rintro e V1 ⟨rfl, hb1⟩
  have HF1 := Lib.hid (HF.out.below hb1); have HM1 := Lib.hid (HM.out.below hb1); have HY1 := Lib.hid (HY.out.below hb1); have HQ1 := Lib.hid (HQ.out.trans (Sav.of (S := HG H G) hb1))
  clear hb1 HF HM HY HQ HI hS2 h1 h2 h3 h4 a0 a1 a2 a3 a4 a5 a6 a7 a8 a9 a10 a11 a12 af
  obtain ⟨a0, a1, a2, a3, a4, a5, a6, a7, a8, a9, a10, a11, a12, af⟩ := HM1.out.cells
  go_wp2_with fail
  refine (HD.out _ HF1.out).mono ?_
  rintro e V2 ⟨rfl, hF, hs⟩
  have HFa := Lib.hid hF
  have HMa := Lib.hid (HM1.out.savH hs (by omega) (by omega))
  have HYa := Lib.hid (HY1.out.savH hs (by omega) (by omega))
  have HQa := Lib.hid (HQ1.out.trans hs)
  clear hs hF HF1 HM1 HY1 HQ1 HD a0 a1 a2 a3 a4 a5 a6 a7 a8 a9 a10 a11 a12 af
  obtain ⟨a0, a1, a2, a3, a4, a5, a6, a7, a8, a9, a10, a11, a12, af⟩ := HMa.out.cells
  go_wp2_with fail
  refine (HK.out _).mono ?_
  rintro e V3 ⟨rfl, hb3⟩
  have HF2 := Lib.hid (HFa.out.below hb3); have HM2 := Lib.hid (HMa.out.below hb3); have HY2 := Lib.hid (HYa.out.below hb3); have HQ2 := Lib.hid (HQa.out.trans (Sav.of (S := HG H G) hb3))
  clear hb3 HFa HMa HYa HQa HK a0 a1 a2 a3 a4 a5 a6 a7 a8 a9 a10 a11 a12 af
  have HM3 := Lib.hid (HM2.out.setL L)
  have HF3 := Lib.hid (HF2.out.setOther (p := ⟨w.heap.size, 0, none⟩) (by show w.heap.size ≠ _; omega) (by show w.heap.size ≠ _; omega) (by show w.heap.size ≠ _; omega) (.int .i64 L))
  have HQ3 := Lib.hid (HQ2.out.set (p := ⟨w.heap.size, 0, none⟩) (.inr (Nat.le_refl _)) (.int .i64 L))
  have HY3 := Lib.hid (HY2.out.setOther (q := ⟨w.heap.size, 0, none⟩) (by show w.heap.size ≠ w.heap.size + 1; omega) (.int .i64 L))
  obtain ⟨b0, b1, b2, b3, b4, b5, b6, b7, b8, b9, b10, b11, b12, bf⟩ := HM2.out.cells
  obtain ⟨d0, d1, d2, d3, d4, d5, d6, d7, d8, d9, d10, d11, d12, df⟩ := HM3.out.cells
  obtain ⟨c0, c1, c2, c3, c4, c5, c6, c7, c8, c9, c10, c11, c12, cf⟩ := HY3.out.cells
  obtain ⟨s0, s1, s2, s3, s4, s5, s6, s7, s8, s9, s10, s11, s12, _⟩ := (HY3.out.put L p bk q1 q2 q3 q4 m1 m2 m3 m4 m5 rt).cells
  clear HM2 HY2 HF2 HQ2 HM3
  go_wp2_with fail
  refine bodyPost_ret (v := .tuple #[(mutV L p bk q1 q2 q3 q4 m1 m2 m3 m4 m5 rt), .bool true]) (by simp [results, Tryz.f108, go_sem, s0, s1, s2, s3, s4, s5, s6, s7, s8, s9, s10, s11, s12]) rfl ?_
  exact ⟨rfl, HF3.out.put13 (by omega) (by omega) (by omega) _ _ _ _ _ _ _ _ _ _ _ _ _, HQ3.out.put13 (C := w.heap.size + 1) (.inr (by omega)) _ _ _ _ _ _ _ _ _ _ _ _ _⟩
set_option maxHeartbeats 1600000 in
theorem gStep_leave {w : World} {H A G : Nat} {C : Cf} {s : Dy} (hH : HAt w H A G C s) (hu : s.U) (hS : SpansAt w) (m : Int) (p bk q1 q2 q3 q4 m1 m2 m3 m4 m5 rt : Int) :
    Calls Tryz.prog 108 #[.pointer (some ⟨H, 0, none⟩), .int .i64 m, (mutV 90 p bk q1 q2 q3 q4 m1 m2 m3 m4 m5 rt)] w (HP w H A G C (s.act C 4 (inP C.a C.b C.c C.d m) 2 0) (.tuple #[(mutV 0 p bk q1 q2 q3 q4 m1 m2 m3 m4 m5 rt), .bool true])) := by
  have hS2 := Lib.hid (hS.below (below_on (below_new w (.cells #[.int .i64 90, .int .i64 q1, .int .i64 q2, .int .i64 q3, .int .i64 q4, .int .u64 m1, .int .u64 m2, .int .u64 m3, .int .u64 m4, .int .u64 m5, .int .u64 p, .int .i64 bk, .int .i64 rt] 60)) (.cells #[.int .i64 0, .int .i64 0, .int .i64 0, .int .i64 0, .int .i64 0, .int .u64 0, .int .u64 0, .int .u64 0, .int .u64 0, .int .u64 0, .int .u64 0, .int .i64 0, .int .i64 0] 60)))
  have hb := (below_on (below_new w (.cells #[.int .i64 90, .int .i64 q1, .int .i64 q2, .int .i64 q3, .int .i64 q4, .int .u64 m1, .int .u64 m2, .int .u64 m3, .int .u64 m4, .int .u64 m5, .int .u64 p, .int .i64 bk, .int .i64 rt] 60)) (.cells #[.int .i64 0, .int .i64 0, .int .i64 0, .int .i64 0, .int .i64 0, .int .u64 0, .int .u64 0, .int .u64 0, .int .u64 0, .int .u64 0, .int .u64 0, .int .i64 0, .int .i64 0] 60))
  have hm : Mut13 ((w.alloc (.cells #[.int .i64 90, .int .i64 q1, .int .i64 q2, .int .i64 q3, .int .i64 q4, .int .u64 m1, .int .u64 m2, .int .u64 m3, .int .u64 m4, .int .u64 m5, .int .u64 p, .int .i64 bk, .int .i64 rt] 60)).alloc (.cells #[.int .i64 0, .int .i64 0, .int .i64 0, .int .i64 0, .int .i64 0, .int .u64 0, .int .u64 0, .int .u64 0, .int .u64 0, .int .u64 0, .int .u64 0, .int .i64 0, .int .i64 0] 60)) w.heap.size 90 p bk q1 q2 q3 q4 m1 m2 m3 m4 m5 rt := (Mut13.new w 90 p bk q1 q2 q3 q4 m1 m2 m3 m4 m5 rt).below (below_new _ _)
  have hy : Mut13 ((w.alloc (.cells #[.int .i64 90, .int .i64 q1, .int .i64 q2, .int .i64 q3, .int .i64 q4, .int .u64 m1, .int .u64 m2, .int .u64 m3, .int .u64 m4, .int .u64 m5, .int .u64 p, .int .i64 bk, .int .i64 rt] 60)).alloc (.cells #[.int .i64 0, .int .i64 0, .int .i64 0, .int .i64 0, .int .i64 0, .int .u64 0, .int .u64 0, .int .u64 0, .int .u64 0, .int .u64 0, .int .u64 0, .int .i64 0, .int .i64 0] 60)) (w.heap.size + 1) 0 0 0 0 0 0 0 0 0 0 0 0 0 := by
    have := Mut13.new (w.alloc (.cells #[.int .i64 90, .int .i64 q1, .int .i64 q2, .int .i64 q3, .int .i64 q4, .int .u64 m1, .int .u64 m2, .int .u64 m3, .int .u64 m4, .int .u64 m5, .int .u64 p, .int .i64 bk, .int .i64 rt] 60)) 0 0 0 0 0 0 0 0 0 0 0 0 0; simpa using this
  have HF := Lib.hid (hH.below hb)
  have hlt : H < w.heap.size := hH.lt
  have hltA : A < w.heap.size := hH.ar.lt
  have hltG : G < w.heap.size := hH.ar.row.lt
  have HQ : Hid (Sav (HG H G) w _) := Lib.hid (Sav.of (S := HG H G) hb)
  have HM := Lib.hid hm; have HY := Lib.hid hy
  have HI : Hid (∀ W, SpansAt W → Calls Tryz.prog 138 #[(.agg #[.int .i64 C.a, .int .i64 C.b, .int .i64 C.c, .int .i64 C.d]), .int .i64 m] W fun e w' => e = .returned (.int .i64 (inP C.a C.b C.c C.d m)) ∧ Below W.heap.size W w') := Lib.hid (fun W hW => In_c C.a C.b C.c C.d m W hW)
  generalize (inP C.a C.b C.c C.d m) = P at *
  have HD : Hid (∀ W, HAt W H A G C s → Calls Tryz.prog 137 #[.pointer (some ⟨H, 0, none⟩), .int .i64 P, .int .u64 2] W (HP W H A G C (s.act C 4 P 2 0) (.int .u64 (z5 C.n 4 P (s.f P.toNat))))) := Lib.hid (fun W hW => hAdd_c (w := W) hW hu P 2)
  generalize (s.act C 4 P 2 0) = s' at *
  generalize (z5 C.n 4 P (s.f P.toNat)) = T at *
  clear hH hm hy hu hS hb
  obtain ⟨_, ⟨h1, h2, h3, h4⟩, _⟩ := HF.out.cells
  obtain ⟨a0, a1, a2, a3, a4, a5, a6, a7, a8, a9, a10, a11, a12, af⟩ := HM.out.cells
  go_enter Tryz.func108, Tryz.ntmps108
  go_wp2_with fail
  refine (HI.out _ hS2.out).mono ?_
  rintro e V1 ⟨rfl, hb1⟩
  have HF1 := Lib.hid (HF.out.below hb1); have HM1 := Lib.hid (HM.out.below hb1); have HY1 := Lib.hid (HY.out.below hb1); have HQ1 := Lib.hid (HQ.out.trans (Sav.of (S := HG H G) hb1))
  clear hb1 HF HM HY HQ HI hS2 h1 h2 h3 h4 a0 a1 a2 a3 a4 a5 a6 a7 a8 a9 a10 a11 a12 af
  obtain ⟨a0, a1, a2, a3, a4, a5, a6, a7, a8, a9, a10, a11, a12, af⟩ := HM1.out.cells
  go_wp2_with fail
  refine (HD.out _ HF1.out).mono ?_
  rintro e V2 ⟨rfl, hF, hs⟩
  have HF2 := Lib.hid hF
  have HM2 := Lib.hid (HM1.out.savH hs (by omega) (by omega))
  have HY2 := Lib.hid (HY1.out.savH hs (by omega) (by omega))
  have HQ2 := Lib.hid (HQ1.out.trans hs)
  clear hs hF HF1 HM1 HY1 HQ1 HD a0 a1 a2 a3 a4 a5 a6 a7 a8 a9 a10 a11 a12 af
  have HM3 := Lib.hid (HM2.out.setL 0)
  have HF3 := Lib.hid (HF2.out.setOther (p := ⟨w.heap.size, 0, none⟩) (by show w.heap.size ≠ _; omega) (by show w.heap.size ≠ _; omega) (by show w.heap.size ≠ _; omega) (.int .i64 0))
  have HQ3 := Lib.hid (HQ2.out.set (p := ⟨w.heap.size, 0, none⟩) (.inr (Nat.le_refl _)) (.int .i64 0))
  have HY3 := Lib.hid (HY2.out.setOther (q := ⟨w.heap.size, 0, none⟩) (by show w.heap.size ≠ w.heap.size + 1; omega) (.int .i64 0))
  obtain ⟨b0, b1, b2, b3, b4, b5, b6, b7, b8, b9, b10, b11, b12, bf⟩ := HM2.out.cells
  obtain ⟨d0, d1, d2, d3, d4, d5, d6, d7, d8, d9, d10, d11, d12, df⟩ := HM3.out.cells
  obtain ⟨c0, c1, c2, c3, c4, c5, c6, c7, c8, c9, c10, c11, c12, cf⟩ := HY3.out.cells
  obtain ⟨s0, s1, s2, s3, s4, s5, s6, s7, s8, s9, s10, s11, s12, _⟩ := (HY3.out.put 0 p bk q1 q2 q3 q4 m1 m2 m3 m4 m5 rt).cells
  clear HM2 HY2 HF2 HQ2 HM3
  go_wp2_with fail
  refine bodyPost_ret (v := .tuple #[(mutV 0 p bk q1 q2 q3 q4 m1 m2 m3 m4 m5 rt), .bool true]) (by simp [results, Tryz.f108, go_sem, s0, s1, s2, s3, s4, s5, s6, s7, s8, s9, s10, s11, s12]) rfl ?_
  exact ⟨rfl, HF3.out.put13 (by omega) (by omega) (by omega) _ _ _ _ _ _ _ _ _ _ _ _ _, HQ3.out.put13 (C := w.heap.size + 1) (.inr (by omega)) _ _ _ _ _ _ _ _ _ _ _ _ _⟩
theorem gStep_other {w : World} {H A G : Nat} {C : Cf} {s : Dy} (hH : HAt w H A G C s) (m l : Int) (p bk q1 q2 q3 q4 m1 m2 m3 m4 m5 rt : Int) (h1 : ¬ l = 1) (h2 : ¬ l = 2) (h3 : ¬ l = 3) (h4 : ¬ l = 4) (h5 : ¬ l = 5) (h6 : ¬ l = 6) (h90 : ¬ l = 90) :
    Calls Tryz.prog 108 #[.pointer (some ⟨H, 0, none⟩), .int .i64 m, (mutV l p bk q1 q2 q3 q4 m1 m2 m3 m4 m5 rt)] w (HP w H A G C s (.tuple #[(mutV l p bk q1 q2 q3 q4 m1 m2 m3 m4 m5 rt), .bool false])) := by
  have HF := Lib.hid hH
  clear hH
  have g1 : (l == 1) = false := by simpa using h1
  have g2 : (l == 2) = false := by simpa using h2
  have g3 : (l == 3) = false := by simpa using h3
  have g4 : (l == 4) = false := by simpa using h4
  have g5 : (l == 5) = false := by simpa using h5
  have g6 : (l == 6) = false := by simpa using h6
  have g90 : (l == 90) = false := by simpa using h90
  go_enter Tryz.func108, Tryz.ntmps108
  go_wp2_with fail
  refine bodyPost_ret (v := .tuple #[(mutV l p bk q1 q2 q3 q4 m1 m2 m3 m4 m5 rt), .bool false]) (by simp [results, Tryz.f108, go_sem]) rfl ?_
  refine ⟨rfl, HF.out.below (below_on (below_new _ _) _), Sav.of (below_on (below_new _ _) _)⟩
def gateS (C : Cf) (s : Dy) (m : Int) (x : Mu) : Dy × Mu × Bool :=
  if x.l = 1 then (s.act C 4 (inP C.a C.b C.c C.d m) 1 0, { x with l := 2 }, true)
  else if x.l = 2 then (s.act C 1 1 0 0, { x with l := if z5 C.n 1 1 (s.f 1) = 0 then 3 else 4 }, true)
  else if x.l = 3 then (s.act C 4 (inP C.a C.b C.c C.d m) 1 0, { x with l := firstL x.q1 }, true)
  else if x.l = 4 then (s.act C 4 (inP C.a C.b C.c C.d m) 2 0, { x with l := 5 }, true)
  else if x.l = 5 then (s.act C 1 1 0 0, { x with l := if z5 C.n 1 1 (s.f 1) = 0 then 6 else 5 }, true)
  else if x.l = 6 then (s.act C 4 (inP C.a C.b C.c C.d m) 3 0, { x with l := firstL x.q1 }, true)
  else if x.l = 90 then (s.act C 4 (inP C.a C.b C.c C.d m) 2 0, { x with l := 0 }, true)
  else (s, x, false)
theorem gateS_U {C : Cf} {s : Dy} (h : s.U) (m : Int) (x : Mu) : (gateS C s m x).1.U := by
  unfold gateS
  have h1 : U64 1 := by unfold U64; omega
  have h2 : U64 2 := by unfold U64; omega
  have h3 : U64 3 := by unfold U64; omega
  repeat' split
  all_goals first | exact h | exact h.act C _ _ h1 u64_zero | exact h.act C _ _ h2 u64_zero | exact h.act C _ _ h3 u64_zero | exact h.act C _ _ u64_zero u64_zero
theorem gate_c {w : World} {H A G : Nat} {C : Cf} {s : Dy} (hH : HAt w H A G C s) (hu : s.U) (hS : SpansAt w) (m : Int) (x : Mu) (hq : -9223372036854775808 ≤ x.q1 ∧ x.q1 ≤ 9223372036854775807) :
    Calls Tryz.prog 108 #[.pointer (some ⟨H, 0, none⟩), .int .i64 m, x.v] w (HP w H A G C (gateS C s m x).1 (.tuple #[(gateS C s m x).2.1.v, .bool (gateS C s m x).2.2])) := by
  obtain ⟨l, q1, q2, q3, q4, m1, m2, m3, m4, m5, p, bk, rt⟩ := x
  unfold gateS
  dsimp only at hq ⊢
  by_cases e1 : l = 1
  · subst e1; rw [if_pos rfl]; exact gStep_enter hH hu hS m p bk q1 q2 q3 q4 m1 m2 m3 m4 m5 rt
  rw [if_neg e1]
  by_cases e2 : l = 2
  · subst e2; rw [if_pos rfl]; exact gStep_look hH hu hS m p bk q1 q2 q3 q4 m1 m2 m3 m4 m5 rt
  rw [if_neg e2]
  by_cases e3 : l = 3
  · subst e3; rw [if_pos rfl]; exact gStep_run hH hu hS m p bk q1 q2 q3 q4 m1 m2 m3 m4 m5 rt hq
  rw [if_neg e3]
  by_cases e4 : l = 4
  · subst e4; rw [if_pos rfl]; exact gStep_say hH hu hS m p bk q1 q2 q3 q4 m1 m2 m3 m4 m5 rt
  rw [if_neg e4]
  by_cases e5 : l = 5
  · subst e5; rw [if_pos rfl]; exact gStep_wait hH hu hS m p bk q1 q2 q3 q4 m1 m2 m3 m4 m5 rt
  rw [if_neg e5]
  by_cases e6 : l = 6
  · subst e6; rw [if_pos rfl]; exact gStep_wake hH hu hS m p bk q1 q2 q3 q4 m1 m2 m3 m4 m5 rt hq
  rw [if_neg e6]
  by_cases e90 : l = 90
  · subst e90; rw [if_pos rfl]; exact gStep_leave hH hu hS m p bk q1 q2 q3 q4 m1 m2 m3 m4 m5 rt
  rw [if_neg e90]
  exact gStep_other hH m l p bk q1 q2 q3 q4 m1 m2 m3 m4 m5 rt e1 e2 e3 e4 e5 e6 e90
end Go.Proofs.YtbpooljohjkbjaaGreatDoor
