/- A step of the document's layer 13: line 34, and any other line. -/
import Derived.Test.YtgjbabndpmkccaaDoorPopStep
namespace Go.Proofs.YtgjbabndpmkccaaDoor
open Go Go.RowKit
set_option maxRecDepth 100000
attribute [local go_sem ↓] Go.wp_at_zero Go.wp_at_succ

set_option maxHeartbeats 3200000 in
theorem rStep_head {w : World} {X : Nat} {va : Option Addr} {cap N : Nat} {C : Cf} {s : Dy} (hH : RAt w X va cap N C s) (hL : ∀ R, va = some ⟨R, 0, none⟩ → R < w.heap.size)  (p bk q1 q2 q3 q4 m1 m2 m3 m4 m5 rt : Int) :
    Calls Tryd.prog 10 #[.pointer (some ⟨X, 0, none⟩), (mutV 34 p bk q1 q2 q3 q4 m1 m2 m3 m4 m5 rt)] w (RP w X va cap N C (s.act C 1 0 0 0) (.tuple #[(mutV 35 p bk q1 q2 q3 q4 m1 m2 (z5 C.n 1 0 (s.f 0)) m4 m5 rt), .bool false, .bool true])) := by
  have hb := (below_on (below_new w (.cells #[.int .i64 34, .int .i64 q1, .int .i64 q2, .int .i64 q3, .int .i64 q4, .int .u64 m1, .int .u64 m2, .int .u64 m3, .int .u64 m4, .int .u64 m5, .int .u64 p, .int .i64 bk, .int .i64 rt] 30)) (.cells #[.int .i64 0, .int .i64 0, .int .i64 0, .int .i64 0, .int .i64 0, .int .u64 0, .int .u64 0, .int .u64 0, .int .u64 0, .int .u64 0, .int .u64 0, .int .i64 0, .int .i64 0] 30))
  have hm : Mut13 ((w.alloc (.cells #[.int .i64 34, .int .i64 q1, .int .i64 q2, .int .i64 q3, .int .i64 q4, .int .u64 m1, .int .u64 m2, .int .u64 m3, .int .u64 m4, .int .u64 m5, .int .u64 p, .int .i64 bk, .int .i64 rt] 30)).alloc (.cells #[.int .i64 0, .int .i64 0, .int .i64 0, .int .i64 0, .int .i64 0, .int .u64 0, .int .u64 0, .int .u64 0, .int .u64 0, .int .u64 0, .int .u64 0, .int .i64 0, .int .i64 0] 30)) w.heap.size 34 p bk q1 q2 q3 q4 m1 m2 m3 m4 m5 rt := (Mut13.new w 34 p bk q1 q2 q3 q4 m1 m2 m3 m4 m5 rt).below (below_new _ _)
  have hy : Mut13 ((w.alloc (.cells #[.int .i64 34, .int .i64 q1, .int .i64 q2, .int .i64 q3, .int .i64 q4, .int .u64 m1, .int .u64 m2, .int .u64 m3, .int .u64 m4, .int .u64 m5, .int .u64 p, .int .i64 bk, .int .i64 rt] 30)).alloc (.cells #[.int .i64 0, .int .i64 0, .int .i64 0, .int .i64 0, .int .i64 0, .int .u64 0, .int .u64 0, .int .u64 0, .int .u64 0, .int .u64 0, .int .u64 0, .int .i64 0, .int .i64 0] 30)) (w.heap.size + 1) 0 0 0 0 0 0 0 0 0 0 0 0 0 := by
    have := Mut13.new (w.alloc (.cells #[.int .i64 34, .int .i64 q1, .int .i64 q2, .int .i64 q3, .int .i64 q4, .int .u64 m1, .int .u64 m2, .int .u64 m3, .int .u64 m4, .int .u64 m5, .int .u64 p, .int .i64 bk, .int .i64 rt] 30)) 0 0 0 0 0 0 0 0 0 0 0 0 0; simpa using this
  have HF := Lib.hid (hH.below hb)
  have hlt : X < w.heap.size := hH.lt
  have hne0 : ∀ R, va = some ⟨R, 0, none⟩ → R ≠ w.heap.size := fun R e => by have := hL R e; omega
  have hne1 : ∀ R, va = some ⟨R, 0, none⟩ → R ≠ w.heap.size + 1 := fun R e => by have := hL R e; omega
  have hl2 := hb.size
  have HLR : Hid (∀ R, va = some ⟨R, 0, none⟩ → R < ((w.alloc (.cells #[.int .i64 34, .int .i64 q1, .int .i64 q2, .int .i64 q3, .int .i64 q4, .int .u64 m1, .int .u64 m2, .int .u64 m3, .int .u64 m4, .int .u64 m5, .int .u64 p, .int .i64 bk, .int .i64 rt] 30)).alloc (.cells #[.int .i64 0, .int .i64 0, .int .i64 0, .int .i64 0, .int .i64 0, .int .u64 0, .int .u64 0, .int .u64 0, .int .u64 0, .int .u64 0, .int .u64 0, .int .i64 0, .int .i64 0] 30)).heap.size) := Lib.hid (fun R e => Nat.lt_of_lt_of_le (hL R e) hl2)
  have HQ : Hid (Sav (RS X va) w _) := Lib.hid (Sav.of (S := RS X va) hb)
  have HM := Lib.hid hm; have HY := Lib.hid hy
  have HD : Hid (∀ W, RAt W X va cap N C s → (∀ R, va = some ⟨R, 0, none⟩ → R < W.heap.size) → Calls Tryd.prog 28 #[.pointer (some ⟨X, 0, none⟩), .int .i64 0] W (RP W X va cap N C (s.act C 1 0 0 0) (.int .u64 (z5 C.n 1 0 (s.f 0))))) := Lib.hid (fun W hW hl => rLoad_c (w := W) hW hl 0)
  generalize (s.act C 1 0 0 0) = s' at *
  generalize (z5 C.n 1 0 (s.f 0)) = T at *
  clear hH hm hy hb hL hl2
  obtain ⟨a0, a1, a2, a3, a4, a5, a6, a7, a8, a9, a10, a11, a12, af⟩ := HM.out.cells
  go_enter Tryd.func10, Tryd.ntmps10
  go_wp2_with fail
  refine (HD.out _ HF.out HLR.out).mono ?_
  rintro e V2 ⟨rfl, hF, hs⟩
  have HF2 := Lib.hid hF
  have HM2 := Lib.hid (HM.out.savR hs (by omega) hne0)
  have HY2 := Lib.hid (HY.out.savR hs (by omega) hne1)
  have HQ2 := Lib.hid (HQ.out.trans hs)
  have hsz2 := hs.size
  have HLR2 : Hid (∀ R, va = some ⟨R, 0, none⟩ → R < V2.heap.size) := Lib.hid (fun R e => Nat.lt_of_lt_of_le (HLR.out R e) hsz2)
  clear hs hF hsz2 HF HM HY HQ HLR
  clear HD a0 a1 a2 a3 a4 a5 a6 a7 a8 a9 a10 a11 a12 af
  have HM3 := Lib.hid ((HM2.out.setH T).setL 35)
  have HF3 := Lib.hid ((HF2.out.setOther (p := ⟨w.heap.size, 7, none⟩) (by show w.heap.size ≠ X; omega) hne0 (.int .u64 T)).setOther (p := ⟨w.heap.size, 0, none⟩) (by show w.heap.size ≠ X; omega) hne0 (.int .i64 35))
  have HQ3 := Lib.hid ((HQ2.out.set (p := ⟨w.heap.size, 7, none⟩) (.inr (Nat.le_refl _)) (.int .u64 T)).set (p := ⟨w.heap.size, 0, none⟩) (.inr (Nat.le_refl _)) (.int .i64 35))
  have HY3 := Lib.hid ((HY2.out.setOther (q := ⟨w.heap.size, 7, none⟩) (by show w.heap.size ≠ w.heap.size + 1; omega) (.int .u64 T)).setOther (q := ⟨w.heap.size, 0, none⟩) (by show w.heap.size ≠ w.heap.size + 1; omega) (.int .i64 35))
  obtain ⟨b0, b1, b2, b3, b4, b5, b6, b7, b8, b9, b10, b11, b12, bf⟩ := HM2.out.cells
  obtain ⟨d0, d1, d2, d3, d4, d5, d6, d7, d8, d9, d10, d11, d12, df⟩ := HM3.out.cells
  obtain ⟨c0, c1, c2, c3, c4, c5, c6, c7, c8, c9, c10, c11, c12, cf⟩ := HY3.out.cells
  obtain ⟨s0, s1, s2, s3, s4, s5, s6, s7, s8, s9, s10, s11, s12, _⟩ := (HY3.out.put 35 p bk q1 q2 q3 q4 m1 m2 T m4 m5 rt).cells
  clear HM2 HY2 HF2 HQ2 HM3
  go_wp2_with fail
  refine bodyPost_ret (v := .tuple #[(mutV 35 p bk q1 q2 q3 q4 m1 m2 T m4 m5 rt), .bool false, .bool true]) (by simp [results, Tryd.f10, go_sem, s0, s1, s2, s3, s4, s5, s6, s7, s8, s9, s10, s11, s12]) rfl ?_
  exact ⟨rfl, HF3.out.put13 (by omega) hne1 _ _ _ _ _ _ _ _ _ _ _ _ _, HQ3.out.put13 (C := w.heap.size + 1) (.inr (by omega)) _ _ _ _ _ _ _ _ _ _ _ _ _⟩
theorem rStep_other {w : World} {X : Nat} {va : Option Addr} {cap N : Nat} {C : Cf} {s : Dy} (hH : RAt w X va cap N C s) (l : Int) (p bk q1 q2 q3 q4 m1 m2 m3 m4 m5 rt : Int) (h0 : ¬ l = 34) (h1 : ¬ l = 35) (h2 : ¬ l = 36) :
    Calls Tryd.prog 10 #[.pointer (some ⟨X, 0, none⟩), (mutV l p bk q1 q2 q3 q4 m1 m2 m3 m4 m5 rt)] w (RP w X va cap N C s (.tuple #[(mutV l p bk q1 q2 q3 q4 m1 m2 m3 m4 m5 rt), .bool false, .bool false])) := by
  have HF := Lib.hid hH
  clear hH
  have g0 : (l == 34) = false := by simpa using h0
  have g1 : (l == 35) = false := by simpa using h1
  have g2 : (l == 36) = false := by simpa using h2
  go_enter Tryd.func10, Tryd.ntmps10
  go_wp2_with fail
  refine bodyPost_ret (v := .tuple #[(mutV l p bk q1 q2 q3 q4 m1 m2 m3 m4 m5 rt), .bool false, .bool false]) (by simp [results, Tryd.f10, go_sem]) rfl ?_
  refine ⟨rfl, HF.out.below (below_on (below_new _ _) _), Sav.of (below_on (below_new _ _) _)⟩
end Go.Proofs.YtgjbabndpmkccaaDoor
