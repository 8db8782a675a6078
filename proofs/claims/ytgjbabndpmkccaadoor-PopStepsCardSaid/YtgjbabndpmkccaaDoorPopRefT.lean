/- A step of the document's layer 13: line 36. -/
import Derived.Test.YtgjbabndpmkccaaDoorPopStep
namespace Go.Proofs.YtgjbabndpmkccaaDoor
open Go Go.RowKit
set_option maxRecDepth 100000
attribute [local go_sem ↓] Go.wp_at_zero Go.wp_at_succ

set_option maxHeartbeats 3200000 in
theorem rStep_take {w : World} {X : Nat} {va : Option Addr} {cap N : Nat} {C : Cf} {s : Dy} (hH : RAt w X va cap N C s) (hL : ∀ R, va = some ⟨R, 0, none⟩ → R < w.heap.size) (v : Nat) (hv : v < 18446744073709551616) (p bk q1 q2 q3 q4 m1 m2 m3 m5 rt : Int) :
    Calls Tryd.prog 10 #[.pointer (some ⟨X, 0, none⟩), (mutV 36 p bk q1 q2 q3 q4 m1 m2 m3 (v : Int) m5 rt)] w (RP w X va cap N C (s.act C 2 0 v 0) (.tuple #[(mutV (begL v 37) (begP v) (begB v 37) q1 q2 q3 q4 m1 m2 m3 (v : Int) m5 rt), .bool true, .bool true])) := by
  have hb := (below_on (below_new w (.cells #[.int .i64 36, .int .i64 q1, .int .i64 q2, .int .i64 q3, .int .i64 q4, .int .u64 m1, .int .u64 m2, .int .u64 m3, .int .u64 (v : Int), .int .u64 m5, .int .u64 p, .int .i64 bk, .int .i64 rt] 30)) (.cells #[.int .i64 0, .int .i64 0, .int .i64 0, .int .i64 0, .int .i64 0, .int .u64 0, .int .u64 0, .int .u64 0, .int .u64 0, .int .u64 0, .int .u64 0, .int .i64 0, .int .i64 0] 30))
  have hm : Mut13 ((w.alloc (.cells #[.int .i64 36, .int .i64 q1, .int .i64 q2, .int .i64 q3, .int .i64 q4, .int .u64 m1, .int .u64 m2, .int .u64 m3, .int .u64 (v : Int), .int .u64 m5, .int .u64 p, .int .i64 bk, .int .i64 rt] 30)).alloc (.cells #[.int .i64 0, .int .i64 0, .int .i64 0, .int .i64 0, .int .i64 0, .int .u64 0, .int .u64 0, .int .u64 0, .int .u64 0, .int .u64 0, .int .u64 0, .int .i64 0, .int .i64 0] 30)) w.heap.size 36 p bk q1 q2 q3 q4 m1 m2 m3 (v : Int) m5 rt := (Mut13.new w 36 p bk q1 q2 q3 q4 m1 m2 m3 (v : Int) m5 rt).below (below_new _ _)
  have hy : Mut13 ((w.alloc (.cells #[.int .i64 36, .int .i64 q1, .int .i64 q2, .int .i64 q3, .int .i64 q4, .int .u64 m1, .int .u64 m2, .int .u64 m3, .int .u64 (v : Int), .int .u64 m5, .int .u64 p, .int .i64 bk, .int .i64 rt] 30)).alloc (.cells #[.int .i64 0, .int .i64 0, .int .i64 0, .int .i64 0, .int .i64 0, .int .u64 0, .int .u64 0, .int .u64 0, .int .u64 0, .int .u64 0, .int .u64 0, .int .i64 0, .int .i64 0] 30)) (w.heap.size + 1) 0 0 0 0 0 0 0 0 0 0 0 0 0 := by
    have := Mut13.new (w.alloc (.cells #[.int .i64 36, .int .i64 q1, .int .i64 q2, .int .i64 q3, .int .i64 q4, .int .u64 m1, .int .u64 m2, .int .u64 m3, .int .u64 (v : Int), .int .u64 m5, .int .u64 p, .int .i64 bk, .int .i64 rt] 30)) 0 0 0 0 0 0 0 0 0 0 0 0 0; simpa using this
  have HF := Lib.hid (hH.below hb)
  have hlt : X < w.heap.size := hH.lt
  have hne0 : ∀ R, va = some ⟨R, 0, none⟩ → R ≠ w.heap.size := fun R e => by have := hL R e; omega
  have hne1 : ∀ R, va = some ⟨R, 0, none⟩ → R ≠ w.heap.size + 1 := fun R e => by have := hL R e; omega
  have hl2 := hb.size
  have HLR : Hid (∀ R, va = some ⟨R, 0, none⟩ → R < ((w.alloc (.cells #[.int .i64 36, .int .i64 q1, .int .i64 q2, .int .i64 q3, .int .i64 q4, .int .u64 m1, .int .u64 m2, .int .u64 m3, .int .u64 (v : Int), .int .u64 m5, .int .u64 p, .int .i64 bk, .int .i64 rt] 30)).alloc (.cells #[.int .i64 0, .int .i64 0, .int .i64 0, .int .i64 0, .int .i64 0, .int .u64 0, .int .u64 0, .int .u64 0, .int .u64 0, .int .u64 0, .int .u64 0, .int .i64 0, .int .i64 0] 30)).heap.size) := Lib.hid (fun R e => Nat.lt_of_lt_of_le (hL R e) hl2)
  have HQ : Hid (Sav (RS X va) w _) := Lib.hid (Sav.of (S := RS X va) hb)
  have HM := Lib.hid hm; have HY := Lib.hid hy
  have HD : Hid (∀ W, RAt W X va cap N C s → (∀ R, va = some ⟨R, 0, none⟩ → R < W.heap.size) → Calls Tryd.prog 30 #[.pointer (some ⟨X, 0, none⟩), .int .i64 0, .int .u64 v] W (RP W X va cap N C (s.act C 2 0 v 0) (.tuple #[]))) := Lib.hid (fun W hW hl => rStore_c (w := W) hW hl 0 v)
  generalize (s.act C 2 0 v 0) = s' at *
  have HB : Hid (∀ W, Calls Tryd.prog 31 #[(mutV 36 p bk q1 q2 q3 q4 m1 m2 m3 (v : Int) m5 rt), .int .u64 (v : Int), .int .i64 37] W fun e w' => e = .returned (mutV (begL v 37) (begP v) (begB v 37) q1 q2 q3 q4 m1 m2 m3 (v : Int) m5 rt) ∧ Below W.heap.size W w') := Lib.hid (fun W => rBegin_c 36 p bk q1 q2 q3 q4 m1 m2 m3 (v : Int) m5 rt v hv 37 W)
  generalize begL v 37 = L at *
  generalize begP v = PP at *
  generalize begB v 37 = BB at *
  clear hv
  clear hH hm hy hb hL hl2
  obtain ⟨a0, a1, a2, a3, a4, a5, a6, a7, a8, a9, a10, a11, a12, af⟩ := HM.out.cells
  go_enter Tryd.func10, Tryd.ntmps10
  go_wp2_with fail
  refine (HD.out _ HF.out HLR.out).mono ?_
  rintro e V2 ⟨rfl, hF, hs⟩
  clear HD a0 a1 a2 a3 a4 a5 a6 a7 a8 a9 a10 a11 a12 af
  have HFa := Lib.hid hF
  have HMa := Lib.hid (HM.out.savR hs (by omega) hne0)
  have HYa := Lib.hid (HY.out.savR hs (by omega) hne1)
  have HQa := Lib.hid (HQ.out.trans hs)
  have hsza := hs.size
  have HLRa : Hid (∀ R, va = some ⟨R, 0, none⟩ → R < V2.heap.size) := Lib.hid (fun R e => Nat.lt_of_lt_of_le (HLR.out R e) hsza)
  clear hs hF hsza HF HM HY HQ HLR
  obtain ⟨a0, a1, a2, a3, a4, a5, a6, a7, a8, a9, a10, a11, a12, af⟩ := HMa.out.cells
  go_wp2_with fail
  refine (HB.out _).mono ?_
  rintro e V3 ⟨rfl, hb3⟩
  clear HB a0 a1 a2 a3 a4 a5 a6 a7 a8 a9 a10 a11 a12 af
  have HF2 := Lib.hid (HFa.out.below hb3); have HM2 := Lib.hid (HMa.out.below hb3); have HY2 := Lib.hid (HYa.out.below hb3); have HQ2 := Lib.hid (HQa.out.trans (Sav.of (S := RS X va) hb3))
  have hsz2 := hb3.size
  have HLR2 : Hid (∀ R, va = some ⟨R, 0, none⟩ → R < V3.heap.size) := Lib.hid (fun R e => Nat.lt_of_lt_of_le (HLRa.out R e) hsz2)
  clear HLRa hsz2
  clear hb3 HFa HMa HYa HQa
  clear HLR2
  clear HM2
  obtain ⟨c0, c1, c2, c3, c4, c5, c6, c7, c8, c9, c10, c11, c12, cf⟩ := HY2.out.cells
  obtain ⟨s0, s1, s2, s3, s4, s5, s6, s7, s8, s9, s10, s11, s12, _⟩ := (HY2.out.put L PP BB q1 q2 q3 q4 m1 m2 m3 (v : Int) m5 rt).cells
  go_wp2_with fail
  refine bodyPost_ret (v := .tuple #[(mutV L PP BB q1 q2 q3 q4 m1 m2 m3 (v : Int) m5 rt), .bool true, .bool true]) (by simp [results, Tryd.f10, go_sem, s0, s1, s2, s3, s4, s5, s6, s7, s8, s9, s10, s11, s12]) rfl ?_
  exact ⟨rfl, HF2.out.put13 (by omega) hne1 _ _ _ _ _ _ _ _ _ _ _ _ _, HQ2.out.put13 (C := w.heap.size + 1) (.inr (by omega)) _ _ _ _ _ _ _ _ _ _ _ _ _⟩
end Go.Proofs.YtgjbabndpmkccaaDoor
