/- A step of the document's layer 10 from every line; a step of both as one function. -/
import Derived.Test.YtckmdkebacbcjaaDoorMem
namespace Go.Proofs.YtckmdkebacbcjaaDoor
open Go Go.RowKit
set_option maxRecDepth 100000
attribute [local go_sem ↓] Go.wp_at_zero Go.wp_at_succ

theorem sR {X : Nat} {va : Option Addr} {B : Nat} (h1 : B ≠ X) (h2 : ∀ R, va = some ⟨R, 0, none⟩ → R ≠ B) : ¬ RS X va B := by
  rintro (e | e)
  · exact h1 e
  · exact h2 B e rfl
set_option maxHeartbeats 1600000 in
theorem rStep_shade {X : Nat} {va : Option Addr} {n cap N : Nat} {f : Nat → Int} {a b c d k0 i0 x0 y0 o0 : Int} {w : World} (hH : RHandAt w X va n cap N f a b c d k0 i0 x0 y0 o0) (hL : ∀ R, va = some ⟨R, 0, none⟩ → R < w.heap.size) (hr : Right a b c d) (v : Nat) (hv : v < 18446744073709551616) (bk q1 q2 q3 q4 m1 m2 m3 m4 m5 rt : Int) :
    Calls Tryd.prog 10 #[.pointer (some ⟨X, 0, none⟩), (mutV 80 (v : Int) bk q1 q2 q3 q4 m1 m2 m3 m4 m5 rt)] w (RPost w X va n cap N (wordsQ n f 3 (fieldP a b c d v 2) 0 1) a b c d (z5 n 3 (fieldP a b c d v 2) 3) (z5 n 3 (fieldP a b c d v 2) (fieldP a b c d v 2)) (z5 n 3 (fieldP a b c d v 2) 0) (z5 n 3 (fieldP a b c d v 2) 1) (z5 n 3 (fieldP a b c d v 2) (f (fieldP a b c d v 2).toNat)) (.tuple #[(mutV (if casB n f (fieldP a b c d v 2) 0 then 81 else bk) 0 (if casB n f (fieldP a b c d v 2) 0 then bk else 0) q1 q2 q3 q4 m1 m2 m3 m4 m5 rt), .bool true])) := by
  have hb := below_on (below_new w (.cells #[.int .i64 80, .int .i64 q1, .int .i64 q2, .int .i64 q3, .int .i64 q4, .int .u64 m1, .int .u64 m2, .int .u64 m3, .int .u64 m4, .int .u64 m5, .int .u64 (v : Int), .int .i64 bk, .int .i64 rt] 30)) (.cells #[.int .i64 0, .int .i64 0, .int .i64 0, .int .i64 0, .int .i64 0, .int .u64 0, .int .u64 0, .int .u64 0, .int .u64 0, .int .u64 0, .int .u64 0, .int .i64 0, .int .i64 0] 30)
  have hm : Mut13 ((w.alloc (.cells #[.int .i64 80, .int .i64 q1, .int .i64 q2, .int .i64 q3, .int .i64 q4, .int .u64 m1, .int .u64 m2, .int .u64 m3, .int .u64 m4, .int .u64 m5, .int .u64 (v : Int), .int .i64 bk, .int .i64 rt] 30)).alloc (.cells #[.int .i64 0, .int .i64 0, .int .i64 0, .int .i64 0, .int .i64 0, .int .u64 0, .int .u64 0, .int .u64 0, .int .u64 0, .int .u64 0, .int .u64 0, .int .i64 0, .int .i64 0] 30)) w.heap.size 80 (v : Int) bk q1 q2 q3 q4 m1 m2 m3 m4 m5 rt := (Mut13.new w 80 (v : Int) bk q1 q2 q3 q4 m1 m2 m3 m4 m5 rt).below (below_new _ _)
  have hy : Mut13 ((w.alloc (.cells #[.int .i64 80, .int .i64 q1, .int .i64 q2, .int .i64 q3, .int .i64 q4, .int .u64 m1, .int .u64 m2, .int .u64 m3, .int .u64 m4, .int .u64 m5, .int .u64 (v : Int), .int .i64 bk, .int .i64 rt] 30)).alloc (.cells #[.int .i64 0, .int .i64 0, .int .i64 0, .int .i64 0, .int .i64 0, .int .u64 0, .int .u64 0, .int .u64 0, .int .u64 0, .int .u64 0, .int .u64 0, .int .i64 0, .int .i64 0] 30)) (w.heap.size + 1) 0 0 0 0 0 0 0 0 0 0 0 0 0 := by
    have := Mut13.new (w.alloc (.cells #[.int .i64 80, .int .i64 q1, .int .i64 q2, .int .i64 q3, .int .i64 q4, .int .u64 m1, .int .u64 m2, .int .u64 m3, .int .u64 m4, .int .u64 m5, .int .u64 (v : Int), .int .i64 bk, .int .i64 rt] 30)) 0 0 0 0 0 0 0 0 0 0 0 0 0; simpa using this
  have hlt : X < w.heap.size := hH.lt
  have HF := Lib.hid (hH.below hb)
  have HD := Lib.hid (rField_c HF.out hr v hv 2)
  generalize hpl : (fieldP a b c d v 2) = pl at *
  have HC : Hid (∀ W, RHandAt W X va n cap N f a b c d k0 i0 x0 y0 o0 → (∀ R, va = some ⟨R, 0, none⟩ → R < W.heap.size) → _) := Lib.hid (fun W hW hl => rCas_c (w := W) hW hl pl 0 1)
  have HQ : Hid (Sav (RS X va) w _) := Lib.hid (Sav.of (S := RS X va) hb)
  have HM := Lib.hid hm; have HY := Lib.hid hy
  have hne0 : ∀ R, va = some ⟨R, 0, none⟩ → R ≠ w.heap.size := fun R e => by have := hL R e; omega
  have hne1 : ∀ R, va = some ⟨R, 0, none⟩ → R ≠ w.heap.size + 1 := fun R e => by have := hL R e; omega
  have hL2 : ∀ R, va = some ⟨R, 0, none⟩ → R < w.heap.size := hL
  generalize wordsQ n f 3 pl 0 1 = f' at *
  generalize z5 n 3 pl 3 = K1 at *
  generalize z5 n 3 pl pl = I1 at *
  generalize z5 n 3 pl 0 = X1 at *
  generalize z5 n 3 pl 1 = Y1 at *
  generalize z5 n 3 pl (f pl.toNat) = O1 at *
  generalize casB n f pl 0 = cb at *
  have HLR := Lib.hid hL2
  clear hH hm hy hb hpl hL hL2 hr
  cases cb
  · simp only [Bool.false_eq_true, if_false]
    obtain ⟨a00, a01, a02, a03, a04, a05, a06, a07, a08, a09, a010, a011, a012, a0f⟩ := HM.out.cells
    go_enter Tryd.func10, Tryd.ntmps10
    go_wp2_with fail
    refine HD.out.mono ?_
    rintro e V ⟨rfl, hV⟩
    have HF1 := Lib.hid (HF.out.below hV)
    have HM1 := Lib.hid (HM.out.below hV)
    have HY1 := Lib.hid (HY.out.below hV)
    have HQ1 := Lib.hid (HQ.out.trans (Sav.of (S := RS X va) hV))
    have hlV : w.heap.size + 1 < V.heap.size := HY1.out.lt
    have HL1 : Hid (∀ R, va = some ⟨R, 0, none⟩ → R < V.heap.size) := Lib.hid (fun R e => by have := HLR.out R e; omega)
    obtain ⟨b0, b1, b2, b3, b4, b5, b6, b7, b8, b9, b10, b11, b12, bf⟩ := HM1.out.cells
    clear hV HF HM HY HQ HD a00 a01 a02 a03 a04 a05 a06 a07 a08 a09 a010 a011 a012 a0f
    go_wp2_with fail
    refine (HC.out _ HF1.out HL1.out).mono ?_
    rintro e V2 ⟨rfl, hF, hs⟩
    have HF2 := Lib.hid hF
    have HM2 := Lib.hid (HM1.out.savR hs (by omega) hne0)
    have HY2 := Lib.hid (HY1.out.savR hs (by omega) hne1)
    have HQ2 := Lib.hid (HQ1.out.trans hs)
    clear hs hF HF1 HM1 HY1 HQ1 HC HL1 HLR b0 b1 b2 b3 b4 b5 b6 b7 b8 b9 b10 b11 b12 bf
    have HM3 := Lib.hid (((HM2.out.setP 0).setL bk).setB 0)
    have HF3 := Lib.hid (((HF2.out.setOther (p := ⟨w.heap.size, 10, none⟩) (by show w.heap.size ≠ X; omega) hne0 (.int .u64 0)).setOther (p := ⟨w.heap.size, 0, none⟩) (by show w.heap.size ≠ X; omega) hne0 (.int .i64 (bk))).setOther (p := ⟨w.heap.size, 11, none⟩) (by show w.heap.size ≠ X; omega) hne0 (.int .i64 0))
    have HQ3 := Lib.hid (((HQ2.out.set (p := ⟨w.heap.size, 10, none⟩) (.inr (Nat.le_refl _)) (.int .u64 0)).set (p := ⟨w.heap.size, 0, none⟩) (.inr (Nat.le_refl _)) (.int .i64 (bk))).set (p := ⟨w.heap.size, 11, none⟩) (.inr (Nat.le_refl _)) (.int .i64 0))
    have HY3 := Lib.hid (((HY2.out.setOther (q := ⟨w.heap.size, 10, none⟩) (by show w.heap.size ≠ w.heap.size + 1; omega) (.int .u64 0)).setOther (q := ⟨w.heap.size, 0, none⟩) (by show w.heap.size ≠ w.heap.size + 1; omega) (.int .i64 (bk))).setOther (q := ⟨w.heap.size, 11, none⟩) (by show w.heap.size ≠ w.heap.size + 1; omega) (.int .i64 0))
    obtain ⟨b0, b1, b2, b3, b4, b5, b6, b7, b8, b9, b10, b11, b12, bf⟩ := HM2.out.cells
    obtain ⟨d0, d1, d2, d3, d4, d5, d6, d7, d8, d9, d10, d11, d12, df⟩ := HM3.out.cells
    obtain ⟨c0, c1, c2, c3, c4, c5, c6, c7, c8, c9, c10, c11, c12, cf⟩ := HY3.out.cells
    obtain ⟨s0, s1, s2, s3, s4, s5, s6, s7, s8, s9, s10, s11, s12,_⟩ := (HY3.out.put (bk) 0 0 q1 q2 q3 q4 m1 m2 m3 m4 m5 rt).cells
    clear HM2 HY2 HF2 HQ2 HM3
    go_wp2_with fail
    refine bodyPost_ret (v := .tuple #[(mutV (bk) 0 0 q1 q2 q3 q4 m1 m2 m3 m4 m5 rt), .bool true]) (by simp [results, Tryd.f10, go_sem, s0, s1, s2, s3, s4, s5, s6, s7, s8, s9, s10, s11, s12]) rfl ?_
    exact ⟨rfl, HF3.out.put13 (by omega) hne1 _ _ _ _ _ _ _ _ _ _ _ _ _, HQ3.out.put13 (C := w.heap.size + 1) (.inr (by omega)) _ _ _ _ _ _ _ _ _ _ _ _ _⟩
  · simp only [if_true]
    obtain ⟨a00, a01, a02, a03, a04, a05, a06, a07, a08, a09, a010, a011, a012, a0f⟩ := HM.out.cells
    go_enter Tryd.func10, Tryd.ntmps10
    go_wp2_with fail
    refine HD.out.mono ?_
    rintro e V ⟨rfl, hV⟩
    have HF1 := Lib.hid (HF.out.below hV)
    have HM1 := Lib.hid (HM.out.below hV)
    have HY1 := Lib.hid (HY.out.below hV)
    have HQ1 := Lib.hid (HQ.out.trans (Sav.of (S := RS X va) hV))
    have hlV : w.heap.size + 1 < V.heap.size := HY1.out.lt
    have HL1 : Hid (∀ R, va = some ⟨R, 0, none⟩ → R < V.heap.size) := Lib.hid (fun R e => by have := HLR.out R e; omega)
    obtain ⟨b0, b1, b2, b3, b4, b5, b6, b7, b8, b9, b10, b11, b12, bf⟩ := HM1.out.cells
    clear hV HF HM HY HQ HD a00 a01 a02 a03 a04 a05 a06 a07 a08 a09 a010 a011 a012 a0f
    go_wp2_with fail
    refine (HC.out _ HF1.out HL1.out).mono ?_
    rintro e V2 ⟨rfl, hF, hs⟩
    have HF2 := Lib.hid hF
    have HM2 := Lib.hid (HM1.out.savR hs (by omega) hne0)
    have HY2 := Lib.hid (HY1.out.savR hs (by omega) hne1)
    have HQ2 := Lib.hid (HQ1.out.trans hs)
    clear hs hF HF1 HM1 HY1 HQ1 HC HL1 HLR b0 b1 b2 b3 b4 b5 b6 b7 b8 b9 b10 b11 b12 bf
    have HM3 := Lib.hid ((HM2.out.setP 0).setL 81)
    have HF3 := Lib.hid ((HF2.out.setOther (p := ⟨w.heap.size, 10, none⟩) (by show w.heap.size ≠ X; omega) hne0 (.int .u64 0)).setOther (p := ⟨w.heap.size, 0, none⟩) (by show w.heap.size ≠ X; omega) hne0 (.int .i64 81))
    have HQ3 := Lib.hid ((HQ2.out.set (p := ⟨w.heap.size, 10, none⟩) (.inr (Nat.le_refl _)) (.int .u64 0)).set (p := ⟨w.heap.size, 0, none⟩) (.inr (Nat.le_refl _)) (.int .i64 81))
    have HY3 := Lib.hid ((HY2.out.setOther (q := ⟨w.heap.size, 10, none⟩) (by show w.heap.size ≠ w.heap.size + 1; omega) (.int .u64 0)).setOther (q := ⟨w.heap.size, 0, none⟩) (by show w.heap.size ≠ w.heap.size + 1; omega) (.int .i64 81))
    obtain ⟨b0, b1, b2, b3, b4, b5, b6, b7, b8, b9, b10, b11, b12, bf⟩ := HM2.out.cells
    obtain ⟨d0, d1, d2, d3, d4, d5, d6, d7, d8, d9, d10, d11, d12, df⟩ := HM3.out.cells
    obtain ⟨c0, c1, c2, c3, c4, c5, c6, c7, c8, c9, c10, c11, c12, cf⟩ := HY3.out.cells
    obtain ⟨s0, s1, s2, s3, s4, s5, s6, s7, s8, s9, s10, s11, s12,_⟩ := (HY3.out.put 81 0 bk q1 q2 q3 q4 m1 m2 m3 m4 m5 rt).cells
    clear HM2 HY2 HF2 HQ2 HM3
    go_wp2_with fail
    refine bodyPost_ret (v := .tuple #[(mutV 81 0 bk q1 q2 q3 q4 m1 m2 m3 m4 m5 rt), .bool true]) (by simp [results, Tryd.f10, go_sem, s0, s1, s2, s3, s4, s5, s6, s7, s8, s9, s10, s11, s12]) rfl ?_
    exact ⟨rfl, HF3.out.put13 (by omega) hne1 _ _ _ _ _ _ _ _ _ _ _ _ _, HQ3.out.put13 (C := w.heap.size + 1) (.inr (by omega)) _ _ _ _ _ _ _ _ _ _ _ _ _⟩
set_option maxHeartbeats 1600000 in
theorem rStep_soil {X : Nat} {va : Option Addr} {n cap N : Nat} {f : Nat → Int} {a b c d k0 i0 x0 y0 o0 : Int} {w : World} (hH : RHandAt w X va n cap N f a b c d k0 i0 x0 y0 o0) (hL : ∀ R, va = some ⟨R, 0, none⟩ → R < w.heap.size) (p : Int) (bk q1 q2 q3 q4 m1 m2 m3 m4 m5 rt : Int) :
    Calls Tryd.prog 10 #[.pointer (some ⟨X, 0, none⟩), (mutV 81 p bk q1 q2 q3 q4 m1 m2 m3 m4 m5 rt)] w (RPost w X va n cap N (wordsQ n f 2 2 1 0) a b c d (z5 n 2 2 2) (z5 n 2 2 2) (z5 n 2 2 1) (z5 n 2 2 0) (z5 n 2 2 (f (Int.toNat 2))) (.tuple #[(mutV bk 0 0 q1 q2 q3 q4 m1 m2 m3 m4 m5 rt), .bool true])) := by
  have hb := below_on (below_new w (.cells #[.int .i64 81, .int .i64 q1, .int .i64 q2, .int .i64 q3, .int .i64 q4, .int .u64 m1, .int .u64 m2, .int .u64 m3, .int .u64 m4, .int .u64 m5, .int .u64 p, .int .i64 bk, .int .i64 rt] 30)) (.cells #[.int .i64 0, .int .i64 0, .int .i64 0, .int .i64 0, .int .i64 0, .int .u64 0, .int .u64 0, .int .u64 0, .int .u64 0, .int .u64 0, .int .u64 0, .int .i64 0, .int .i64 0] 30)
  have hm : Mut13 ((w.alloc (.cells #[.int .i64 81, .int .i64 q1, .int .i64 q2, .int .i64 q3, .int .i64 q4, .int .u64 m1, .int .u64 m2, .int .u64 m3, .int .u64 m4, .int .u64 m5, .int .u64 p, .int .i64 bk, .int .i64 rt] 30)).alloc (.cells #[.int .i64 0, .int .i64 0, .int .i64 0, .int .i64 0, .int .i64 0, .int .u64 0, .int .u64 0, .int .u64 0, .int .u64 0, .int .u64 0, .int .u64 0, .int .i64 0, .int .i64 0] 30)) w.heap.size 81 p bk q1 q2 q3 q4 m1 m2 m3 m4 m5 rt := (Mut13.new w 81 p bk q1 q2 q3 q4 m1 m2 m3 m4 m5 rt).below (below_new _ _)
  have hy : Mut13 ((w.alloc (.cells #[.int .i64 81, .int .i64 q1, .int .i64 q2, .int .i64 q3, .int .i64 q4, .int .u64 m1, .int .u64 m2, .int .u64 m3, .int .u64 m4, .int .u64 m5, .int .u64 p, .int .i64 bk, .int .i64 rt] 30)).alloc (.cells #[.int .i64 0, .int .i64 0, .int .i64 0, .int .i64 0, .int .i64 0, .int .u64 0, .int .u64 0, .int .u64 0, .int .u64 0, .int .u64 0, .int .u64 0, .int .i64 0, .int .i64 0] 30)) (w.heap.size + 1) 0 0 0 0 0 0 0 0 0 0 0 0 0 := by
    have := Mut13.new (w.alloc (.cells #[.int .i64 81, .int .i64 q1, .int .i64 q2, .int .i64 q3, .int .i64 q4, .int .u64 m1, .int .u64 m2, .int .u64 m3, .int .u64 m4, .int .u64 m5, .int .u64 p, .int .i64 bk, .int .i64 rt] 30)) 0 0 0 0 0 0 0 0 0 0 0 0 0; simpa using this
  have hlt : X < w.heap.size := hH.lt
  have HL0 : ∀ R, va = some ⟨R, 0, none⟩ → R < ((w.alloc (.cells #[.int .i64 81, .int .i64 q1, .int .i64 q2, .int .i64 q3, .int .i64 q4, .int .u64 m1, .int .u64 m2, .int .u64 m3, .int .u64 m4, .int .u64 m5, .int .u64 p, .int .i64 bk, .int .i64 rt] 30)).alloc (.cells #[.int .i64 0, .int .i64 0, .int .i64 0, .int .i64 0, .int .i64 0, .int .u64 0, .int .u64 0, .int .u64 0, .int .u64 0, .int .u64 0, .int .u64 0, .int .i64 0, .int .i64 0] 30)).heap.size := fun R e => by have := hL R e; simp; omega
  have HC := Lib.hid (rStore_c (hH.below hb) HL0 2 1)
  have HQ : Hid (Sav (RS X va) w _) := Lib.hid (Sav.of (S := RS X va) hb)
  have HM := Lib.hid hm; have HY := Lib.hid hy
  have hne0 : ∀ R, va = some ⟨R, 0, none⟩ → R ≠ w.heap.size := fun R e => by have := hL R e; omega
  have hne1 : ∀ R, va = some ⟨R, 0, none⟩ → R ≠ w.heap.size + 1 := fun R e => by have := hL R e; omega
  generalize wordsQ n f 2 2 1 0 = f' at *
  generalize z5 n 2 2 2 = K1 at *
  generalize z5 n 2 2 1 = X1 at *
  generalize z5 n 2 2 0 = Y1 at *
  generalize z5 n 2 2 (f (Int.toNat 2)) = O1 at *
  obtain ⟨b0, b1, b2, b3, b4, b5, b6, b7, b8, b9, b10, b11, b12, bf⟩ := HM.out.cells
  clear hH hm hy hb hL HL0
  go_enter Tryd.func10, Tryd.ntmps10
  go_wp2_with fail
  refine HC.out.mono ?_
  rintro e V2 ⟨rfl, hF, hs⟩
  have HF2 := Lib.hid hF
  have HM2 := Lib.hid (HM.out.savR hs (by omega) hne0)
  have HY2 := Lib.hid (HY.out.savR hs (by omega) hne1)
  have HQ2 := Lib.hid (HQ.out.trans hs)
  clear hs hF HM HY HQ HC b0 b1 b2 b3 b4 b5 b6 b7 b8 b9 b10 b11 b12 bf
  have HM3 := Lib.hid (((HM2.out.setP 0).setL bk).setB 0)
  have HF3 := Lib.hid (((HF2.out.setOther (p := ⟨w.heap.size, 10, none⟩) (by show w.heap.size ≠ X; omega) hne0 (.int .u64 0)).setOther (p := ⟨w.heap.size, 0, none⟩) (by show w.heap.size ≠ X; omega) hne0 (.int .i64 (bk))).setOther (p := ⟨w.heap.size, 11, none⟩) (by show w.heap.size ≠ X; omega) hne0 (.int .i64 0))
  have HQ3 := Lib.hid (((HQ2.out.set (p := ⟨w.heap.size, 10, none⟩) (.inr (Nat.le_refl _)) (.int .u64 0)).set (p := ⟨w.heap.size, 0, none⟩) (.inr (Nat.le_refl _)) (.int .i64 (bk))).set (p := ⟨w.heap.size, 11, none⟩) (.inr (Nat.le_refl _)) (.int .i64 0))
  have HY3 := Lib.hid (((HY2.out.setOther (q := ⟨w.heap.size, 10, none⟩) (by show w.heap.size ≠ w.heap.size + 1; omega) (.int .u64 0)).setOther (q := ⟨w.heap.size, 0, none⟩) (by show w.heap.size ≠ w.heap.size + 1; omega) (.int .i64 (bk))).setOther (q := ⟨w.heap.size, 11, none⟩) (by show w.heap.size ≠ w.heap.size + 1; omega) (.int .i64 0))
  obtain ⟨b0, b1, b2, b3, b4, b5, b6, b7, b8, b9, b10, b11, b12, bf⟩ := HM2.out.cells
  obtain ⟨d0, d1, d2, d3, d4, d5, d6, d7, d8, d9, d10, d11, d12, df⟩ := HM3.out.cells
  obtain ⟨c0, c1, c2, c3, c4, c5, c6, c7, c8, c9, c10, c11, c12, cf⟩ := HY3.out.cells
  obtain ⟨s0, s1, s2, s3, s4, s5, s6, s7, s8, s9, s10, s11, s12,_⟩ := (HY3.out.put (bk) 0 0 q1 q2 q3 q4 m1 m2 m3 m4 m5 rt).cells
  clear HM2 HY2 HF2 HQ2 HM3
  go_wp2_with fail
  refine bodyPost_ret (v := .tuple #[(mutV (bk) 0 0 q1 q2 q3 q4 m1 m2 m3 m4 m5 rt), .bool true]) (by simp [results, Tryd.f10, go_sem, s0, s1, s2, s3, s4, s5, s6, s7, s8, s9, s10, s11, s12]) rfl ?_
  exact ⟨rfl, HF3.out.put13 (by omega) hne1 _ _ _ _ _ _ _ _ _ _ _ _ _, HQ3.out.put13 (C := w.heap.size + 1) (.inr (by omega)) _ _ _ _ _ _ _ _ _ _ _ _ _⟩
theorem rStep_other {X : Nat} {va : Option Addr} {n cap N : Nat} {f : Nat → Int} {a b c d k0 i0 x0 y0 o0 : Int} {w : World} (hH : RHandAt w X va n cap N f a b c d k0 i0 x0 y0 o0) (l p bk q1 q2 q3 q4 m1 m2 m3 m4 m5 rt : Int) (h0 : ¬ l = 80) (h1 : ¬ l = 81) :
    Calls Tryd.prog 10 #[.pointer (some ⟨X, 0, none⟩), (mutV l p bk q1 q2 q3 q4 m1 m2 m3 m4 m5 rt)] w (RPost w X va n cap N f a b c d k0 i0 x0 y0 o0 (.tuple #[(mutV l p bk q1 q2 q3 q4 m1 m2 m3 m4 m5 rt), .bool false])) := by
  have HF := Lib.hid hH
  have g0 : (l != 80) = true := by simpa using h0
  have g1 : (l != 81) = true := by simpa using h1
  clear hH
  go_enter Tryd.func10, Tryd.ntmps10
  go_wp2_with fail
  refine bodyPost_ret (v := .tuple #[(mutV l p bk q1 q2 q3 q4 m1 m2 m3 m4 m5 rt), .bool false]) (by simp [results, Tryd.f10, go_sem]) rfl ?_
  refine ⟨rfl, HF.out.below (below_on (below_new _ _) _), Sav.of (below_on (below_new _ _) _)⟩

/-- A step of layer 10. -/
def barS (C : Cf) (s : Dy) (m : Mu) : Dy × Mu × Bool :=
  if m.l = 80 then (s.act C 3 (fieldP C.a C.b C.c C.d m.p.toNat 2) 0 1, (if casB C.n s.f (fieldP C.a C.b C.c C.d m.p.toNat 2) 0 then { m with l := 81, p := 0 } else { m with l := m.bk, p := 0, bk := 0 }), true)
  else if m.l = 81 then (s.act C 2 2 1 0, { m with l := m.bk, p := 0, bk := 0 }, true)
  else (s, m, false)
theorem barS_U {C : Cf} {s : Dy} (h : s.U) (m : Mu) : (barS C s m).1.U := by
  unfold barS
  by_cases e : m.l = 80
  · rw [if_pos e]; exact h.act C 3 _ u64_zero (by unfold U64; omega)
  · rw [if_neg e]
    by_cases e2 : m.l = 81
    · rw [if_pos e2]; exact h.act C 2 2 (by unfold U64; omega) u64_zero
    · rw [if_neg e2]; exact h
theorem bar_c {w : World} {H A G : Nat} {C : Cf} {s : Dy} (hH : HAt w H A G C s) (hu : s.U) (hS : SpansAt w) (m : Mu) (hp : U64 m.p) :
    Calls Tryd.prog 9 #[.pointer (some ⟨H, 0, none⟩), m.v] w (HP w H A G C (barS C s m).1 (.tuple #[(barS C s m).2.1.v, .bool (barS C s m).2.2])) := by
  obtain ⟨l, q1, q2, q3, q4, m1, m2, m3, m4, m5, p, bk, rt⟩ := m
  unfold barS
  dsimp only at hp ⊢
  by_cases e : l = 80
  · subst e
    obtain ⟨v, rfl, hv⟩ : ∃ v : Nat, p = v ∧ v < 18446744073709551616 := by obtain ⟨h1, h2⟩ := hp; exact ⟨p.toNat, by omega, by omega⟩
    have := Step_shade hH hu hS v hv bk q1 q2 q3 q4 m1 m2 m3 m4 m5 rt
    simp only [Int.toNat_natCast, if_true]
    by_cases hc : casB C.n s.f (fieldP C.a C.b C.c C.d v 2) 0 = true
    · rw [if_pos hc, if_pos hc] at this; rw [if_pos hc]; exact this
    · rw [if_neg hc, if_neg hc] at this; rw [if_neg hc]; exact this
  · rw [if_neg e]
    by_cases e2 : l = 81
    · subst e2; rw [if_pos rfl]; exact Step_soil hH hu p bk q1 q2 q3 q4 m1 m2 m3 m4 m5 rt
    · rw [if_neg e2]; exact Step_other hH l p bk q1 q2 q3 q4 m1 m2 m3 m4 m5 rt e e2
theorem rbar_c {w : World} {X : Nat} {va : Option Addr} {cap N : Nat} {C : Cf} {s : Dy} (hH : RAt w X va cap N C s) (hL : ∀ R, va = some ⟨R, 0, none⟩ → R < w.heap.size) (hr : Right C.a C.b C.c C.d) (m : Mu) (hp : U64 m.p) :
    Calls Tryd.prog 10 #[.pointer (some ⟨X, 0, none⟩), m.v] w (RP w X va cap N C (barS C s m).1 (.tuple #[(barS C s m).2.1.v, .bool (barS C s m).2.2])) := by
  obtain ⟨l, q1, q2, q3, q4, m1, m2, m3, m4, m5, p, bk, rt⟩ := m
  unfold barS
  dsimp only at hp ⊢
  by_cases e : l = 80
  · subst e
    obtain ⟨v, rfl, hv⟩ : ∃ v : Nat, p = v ∧ v < 18446744073709551616 := by obtain ⟨h1, h2⟩ := hp; exact ⟨p.toNat, by omega, by omega⟩
    have := rStep_shade hH hL hr v hv bk q1 q2 q3 q4 m1 m2 m3 m4 m5 rt
    simp only [Int.toNat_natCast, if_true]
    by_cases hc : casB C.n s.f (fieldP C.a C.b C.c C.d v 2) 0 = true
    · rw [if_pos hc, if_pos hc] at this; rw [if_pos hc]; exact this
    · rw [if_neg hc, if_neg hc] at this; rw [if_neg hc]; exact this
  · rw [if_neg e]
    by_cases e2 : l = 81
    · subst e2; rw [if_pos rfl]; exact rStep_soil hH hL p bk q1 q2 q3 q4 m1 m2 m3 m4 m5 rt
    · rw [if_neg e2]; exact rStep_other hH l p bk q1 q2 q3 q4 m1 m2 m3 m4 m5 rt e e2
end Go.Proofs.YtckmdkebacbcjaaDoor
