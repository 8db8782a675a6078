/- A step of the document's layer 13: line 35, no cell. -/
import Derived.Test.YtgjbabndpmkccaaDoorPopStep
namespace Go.Proofs.YtgjbabndpmkccaaDoor
open Go Go.RowKit
set_option maxRecDepth 100000
attribute [local go_sem ↓] Go.wp_at_zero Go.wp_at_succ

set_option maxHeartbeats 3200000 in
theorem rStep_last {w : World} {X : Nat} {va : Option Addr} {cap N : Nat} {C : Cf} {s : Dy} (hH : RAt w X va cap N C s) (hL : ∀ R, va = some ⟨R, 0, none⟩ → R < w.heap.size) (hr : Right C.a C.b C.c C.d) (v : Nat) (hv : v < 18446744073709551616) (u : Nat) (hu6 : u < 18446744073709551616) (hT : z5 C.n 1 (fieldP C.a C.b C.c C.d v 1) (s.f (fieldP C.a C.b C.c C.d v 1).toNat) = (u : Int)) (hc : ¬ isC u) (p bk q1 q2 q3 q4 m1 m2 m4 m5 rt : Int) :
    Calls Tryd.prog 10 #[.pointer (some ⟨X, 0, none⟩), (mutV 35 p bk q1 q2 q3 q4 m1 m2 (v : Int) m4 m5 rt)] w (RP w X va cap N C (s.act C 1 (fieldP C.a C.b C.c C.d v 1) 0 0) (.tuple #[(mutV 41 p bk q1 q2 q3 q4 m1 m2 (v : Int) (u : Int) m5 5), .bool true, .bool true])) := by
  have hb := (below_on (below_new w (.cells #[.int .i64 35, .int .i64 q1, .int .i64 q2, .int .i64 q3, .int .i64 q4, .int .u64 m1, .int .u64 m2, .int .u64 (v : Int), .int .u64 m4, .int .u64 m5, .int .u64 p, .int .i64 bk, .int .i64 rt] 30)) (.cells #[.int .i64 0, .int .i64 0, .int .i64 0, .int .i64 0, .int .i64 0, .int .u64 0, .int .u64 0, .int .u64 0, .int .u64 0, .int .u64 0, .int .u64 0, .int .i64 0, .int .i64 0] 30))
  have hm : Mut13 ((w.alloc (.cells #[.int .i64 35, .int .i64 q1, .int .i64 q2, .int .i64 q3, .int .i64 q4, .int .u64 m1, .int .u64 m2, .int .u64 (v : Int), .int .u64 m4, .int .u64 m5, .int .u64 p, .int .i64 bk, .int .i64 rt] 30)).alloc (.cells #[.int .i64 0, .int .i64 0, .int .i64 0, .int .i64 0, .int .i64 0, .int .u64 0, .int .u64 0, .int .u64 0, .int .u64 0, .int .u64 0, .int .u64 0, .int .i64 0, .int .i64 0] 30)) w.heap.size 35 p bk q1 q2 q3 q4 m1 m2 (v : Int) m4 m5 rt := (Mut13.new w 35 p bk q1 q2 q3 q4 m1 m2 (v : Int) m4 m5 rt).below (below_new _ _)
  have hy : Mut13 ((w.alloc (.cells #[.int .i64 35, .int .i64 q1, .int .i64 q2, .int .i64 q3, .int .i64 q4, .int .u64 m1, .int .u64 m2, .int .u64 (v : Int), .int .u64 m4, .int .u64 m5, .int .u64 p, .int .i64 bk, .int .i64 rt] 30)).alloc (.cells #[.int .i64 0, .int .i64 0, .int .i64 0, .int .i64 0, .int .i64 0, .int .u64 0, .int .u64 0, .int .u64 0, .int .u64 0, .int .u64 0, .int .u64 0, .int .i64 0, .int .i64 0] 30)) (w.heap.size + 1) 0 0 0 0 0 0 0 0 0 0 0 0 0 := by
    have := Mut13.new (w.alloc (.cells #[.int .i64 35, .int .i64 q1, .int .i64 q2, .int .i64 q3, .int .i64 q4, .int .u64 m1, .int .u64 m2, .int .u64 (v : Int), .int .u64 m4, .int .u64 m5, .int .u64 p, .int .i64 bk, .int .i64 rt] 30)) 0 0 0 0 0 0 0 0 0 0 0 0 0; simpa using this
  have HF := Lib.hid (hH.below hb)
  have hlt : X < w.heap.size := hH.lt
  have hne0 : ∀ R, va = some ⟨R, 0, none⟩ → R ≠ w.heap.size := fun R e => by have := hL R e; omega
  have hne1 : ∀ R, va = some ⟨R, 0, none⟩ → R ≠ w.heap.size + 1 := fun R e => by have := hL R e; omega
  have hl2 := hb.size
  have HLR : Hid (∀ R, va = some ⟨R, 0, none⟩ → R < ((w.alloc (.cells #[.int .i64 35, .int .i64 q1, .int .i64 q2, .int .i64 q3, .int .i64 q4, .int .u64 m1, .int .u64 m2, .int .u64 (v : Int), .int .u64 m4, .int .u64 m5, .int .u64 p, .int .i64 bk, .int .i64 rt] 30)).alloc (.cells #[.int .i64 0, .int .i64 0, .int .i64 0, .int .i64 0, .int .i64 0, .int .u64 0, .int .u64 0, .int .u64 0, .int .u64 0, .int .u64 0, .int .u64 0, .int .i64 0, .int .i64 0] 30)).heap.size) := Lib.hid (fun R e => Nat.lt_of_lt_of_le (hL R e) hl2)
  have HQ : Hid (Sav (RS X va) w _) := Lib.hid (Sav.of (S := RS X va) hb)
  have HM := Lib.hid hm; have HY := Lib.hid hy
  have HFd : Hid (∀ W, RAt W X va cap N C s → Calls Tryd.prog 29 #[.pointer (some ⟨X, 0, none⟩), .int .u64 (v : Int), .int .i64 1] W fun e w' => e = .returned (.int .i64 (fieldP C.a C.b C.c C.d v 1)) ∧ Below W.heap.size W w') := Lib.hid (fun W hW => rField_c (w := W) hW hr v hv 1)
  have HD : Hid (∀ W, RAt W X va cap N C s → (∀ R, va = some ⟨R, 0, none⟩ → R < W.heap.size) → Calls Tryd.prog 28 #[.pointer (some ⟨X, 0, none⟩), .int .i64 (fieldP C.a C.b C.c C.d v 1)] W (RP W X va cap N C (s.act C 1 (fieldP C.a C.b C.c C.d v 1) 0 0) (.int .u64 (z5 C.n 1 (fieldP C.a C.b C.c C.d v 1) (s.f (fieldP C.a C.b C.c C.d v 1).toNat))))) := Lib.hid (fun W hW hl => rLoad_c (w := W) hW hl (fieldP C.a C.b C.c C.d v 1))
  have HI : Hid (∀ W, Calls Tryd.prog 18 #[.int .u64 (u : Int)] W fun e w' => e = .returned (.int .i64 (-1)) ∧ W = w') := Lib.hid (fun W => refIsCell_no u hu6 hc W)
  generalize (s.act C 1 (fieldP C.a C.b C.c C.d v 1) 0 0) = s' at *
  generalize (z5 C.n 1 (fieldP C.a C.b C.c C.d v 1) (s.f (fieldP C.a C.b C.c C.d v 1).toNat)) = T at *
  generalize (fieldP C.a C.b C.c C.d v 1) = P at *
  subst hT
  clear hc hv hu6 hr
  clear hH hm hy hb hL hl2
  obtain ⟨a0, a1, a2, a3, a4, a5, a6, a7, a8, a9, a10, a11, a12, af⟩ := HM.out.cells
  go_enter Tryd.func10, Tryd.ntmps10
  go_wp2_with fail
  refine (HFd.out _ HF.out).mono ?_
  rintro e V1 ⟨rfl, hb1⟩
  clear HFd a0 a1 a2 a3 a4 a5 a6 a7 a8 a9 a10 a11 a12 af
  have HF1 := Lib.hid (HF.out.below hb1); have HM1 := Lib.hid (HM.out.below hb1); have HY1 := Lib.hid (HY.out.below hb1); have HQ1 := Lib.hid (HQ.out.trans (Sav.of (S := RS X va) hb1))
  have hsz1 := hb1.size
  have HLR1 : Hid (∀ R, va = some ⟨R, 0, none⟩ → R < V1.heap.size) := Lib.hid (fun R e => Nat.lt_of_lt_of_le (HLR.out R e) hsz1)
  clear HLR hsz1
  clear hb1 HF HM HY HQ
  obtain ⟨a0, a1, a2, a3, a4, a5, a6, a7, a8, a9, a10, a11, a12, af⟩ := HM1.out.cells
  go_wp2_with fail
  refine (HD.out _ HF1.out HLR1.out).mono ?_
  rintro e V2 ⟨rfl, hF, hs⟩
  clear HD a0 a1 a2 a3 a4 a5 a6 a7 a8 a9 a10 a11 a12 af
  have HFa := Lib.hid hF
  have HMa := Lib.hid (HM1.out.savR hs (by omega) hne0)
  have HYa := Lib.hid (HY1.out.savR hs (by omega) hne1)
  have HQa := Lib.hid (HQ1.out.trans hs)
  have hsza := hs.size
  have HLRa : Hid (∀ R, va = some ⟨R, 0, none⟩ → R < V2.heap.size) := Lib.hid (fun R e => Nat.lt_of_lt_of_le (HLR1.out R e) hsza)
  clear hs hF hsza HF1 HM1 HY1 HQ1 HLR1
  obtain ⟨a0, a1, a2, a3, a4, a5, a6, a7, a8, a9, a10, a11, a12, af⟩ := HMa.out.cells
  go_wp2_with fail
  refine (HI.out _).mono ?_
  rintro e V3 ⟨rfl, rfl⟩
  clear HI a0 a1 a2 a3 a4 a5 a6 a7 a8 a9 a10 a11 a12 af
  clear HLRa
  have HM2 := Lib.hid (HMa.out.setN (u : Int))
  have HF2 := Lib.hid (HFa.out.setOther (p := ⟨w.heap.size, 8, none⟩) (by show w.heap.size ≠ X; omega) hne0 (.int .u64 (u : Int)))
  have HQ2 := Lib.hid (HQa.out.set (p := ⟨w.heap.size, 8, none⟩) (.inr (Nat.le_refl _)) (.int .u64 (u : Int)))
  have HY2 := Lib.hid (HYa.out.setOther (q := ⟨w.heap.size, 8, none⟩) (by show w.heap.size ≠ w.heap.size + 1; omega) (.int .u64 (u : Int)))
  clear HMa HFa HQa HYa
  have HM3 := Lib.hid ((HM2.out.setR 5).setL 41)
  have HF3 := Lib.hid ((HF2.out.setOther (p := ⟨w.heap.size, 12, none⟩) (by show w.heap.size ≠ X; omega) hne0 (.int .i64 5)).setOther (p := ⟨w.heap.size, 0, none⟩) (by show w.heap.size ≠ X; omega) hne0 (.int .i64 41))
  have HQ3 := Lib.hid ((HQ2.out.set (p := ⟨w.heap.size, 12, none⟩) (.inr (Nat.le_refl _)) (.int .i64 5)).set (p := ⟨w.heap.size, 0, none⟩) (.inr (Nat.le_refl _)) (.int .i64 41))
  have HY3 := Lib.hid ((HY2.out.setOther (q := ⟨w.heap.size, 12, none⟩) (by show w.heap.size ≠ w.heap.size + 1; omega) (.int .i64 5)).setOther (q := ⟨w.heap.size, 0, none⟩) (by show w.heap.size ≠ w.heap.size + 1; omega) (.int .i64 41))
  obtain ⟨b0, b1, b2, b3, b4, b5, b6, b7, b8, b9, b10, b11, b12, bf⟩ := HM2.out.cells
  obtain ⟨d0, d1, d2, d3, d4, d5, d6, d7, d8, d9, d10, d11, d12, df⟩ := HM3.out.cells
  obtain ⟨c0, c1, c2, c3, c4, c5, c6, c7, c8, c9, c10, c11, c12, cf⟩ := HY3.out.cells
  obtain ⟨s0, s1, s2, s3, s4, s5, s6, s7, s8, s9, s10, s11, s12, _⟩ := (HY3.out.put 41 p bk q1 q2 q3 q4 m1 m2 (v : Int) (u : Int) m5 5).cells
  clear HM2 HY2 HF2 HQ2 HM3
  go_wp2_with fail
  refine bodyPost_ret (v := .tuple #[(mutV 41 p bk q1 q2 q3 q4 m1 m2 (v : Int) (u : Int) m5 5), .bool true, .bool true]) (by simp [results, Tryd.f10, go_sem, s0, s1, s2, s3, s4, s5, s6, s7, s8, s9, s10, s11, s12]) rfl ?_
  exact ⟨rfl, HF3.out.put13 (by omega) hne1 _ _ _ _ _ _ _ _ _ _ _ _ _, HQ3.out.put13 (C := w.heap.size + 1) (.inr (by omega)) _ _ _ _ _ _ _ _ _ _ _ _ _⟩
end Go.Proofs.YtgjbabndpmkccaaDoor
