/- The program's layer 17: its lines that look at an in. -/
import Derived.Test.YtbpooljohjkbjaaGreatDoorBarIn
import Derived.Deep.CutRange
namespace Go.Proofs.YtbpooljohjkbjaaGreatDoor
open Go Go.RowKit
set_option maxRecDepth 100000
attribute [local go_sem ↓] Go.wp_at_zero Go.wp_at_succ
set_option maxHeartbeats 3200000 in
theorem pb10_wait {w : World} {H A G : Nat} {C : Cf} {s : Dy} (hH : HAt w H A G C s) (hu : s.U) (hS : SpansAt w) (_ : Right C.a C.b C.c C.d) (hn : 0 < C.n) (j c m a p : Int) (fd : Bool) (tl cy : Int) (_ : -1000000000000 ≤ m ∧ m ≤ 1000000000000) (u : Nat) (hu6 : u < 18446744073709551616) (hT : z5 C.n 1 (inP C.a C.b C.c C.d m) (s.f (inP C.a C.b C.c C.d m).toNat) = (u : Int)) (hs : (u % 4 = 1 ∨ u % 4 = 3)) :
    Calls Tryz.prog 134 #[.pointer (some ⟨H, 0, none⟩), (colV 10 j c m a p fd tl cy)] w (HP w H A G C (s.act C 1 (inP C.a C.b C.c C.d m) 0 0) (.tuple #[(colV 16 j c m (u : Int) p fd tl cy), .bool false, .bool true])) := by
  have HC0 := Lib.hid (ColK.start hH ⟨10, j, c, m, a, p, fd, tl, cy⟩)
  have HIN : Hid (∀ W K X Y s' x', ColK w W K X Y H A G C s x' → s' = s → x'.m = m → Calls Tryz.prog 172 #[.pointer (some ⟨K, 0, none⟩), .pointer (some ⟨X, 0, none⟩)] W (HP W H A G C (s.act C 1 (inP C.a C.b C.c C.d m) 0 0) (.int .u64 u))) := Lib.hid (fun W K X Y _ x' h _ hm => by
    have a1 := h.lH; have a2 := h.lG; have b1 := h.lK; have b2 := h.lX
    have c3 := h.cells.2.2.2.1; rw [hm] at c3
    have := in_c (w := W) h.hand hu (spans_sav hn hS hH h.sav) h.cellK (by omega) (by omega) c3 (by omega) (by omega)
    rw [hT] at this; exact this)
  have HW : Hid (∀ W, Calls Tryz.prog 174 #[.int .u64 (u : Int)] W fun e w' => e = .returned (.bool true) ∧ W = w') := Lib.hid (fun W => by have := mayWait_c u hu6 W; rw [decide_eq_true hs] at this; exact this)
  generalize (s.act C 1 (inP C.a C.b C.c C.d m) 0 0) = s' at *
  have hmf : ∀ (fn : Fn) (first cap : Array Value) (w : World), (Instr.makeFunc fn first cap).run Tryz.prog w = .ok (.func fn first cap) w := fun _ _ _ _ => rfl
  clear hH hu hS hn hT hs hu6
  go_enter Tryz.func134, Tryz.ntmps134
  go_upto_region 1 with fail
  generalize (((w.alloc (.cells #[.pointer (some ⟨H, 0, none⟩)] 70)).alloc (.cells #[.int .i64 10, .int .i64 j, .int .i64 c, .int .i64 m, .int .u64 a, .int .u64 p, .bool fd, .int .i64 tl, .int .i64 cy] 49)).alloc (.cells #[.int .i64 0, .int .i64 0, .int .i64 0, .int .i64 0, .int .u64 0, .int .u64 0, .bool false, .int .i64 0, .int .i64 0] 49)) = V0 at *
  generalize w.heap.size + 1 + 1 = Y at *
  generalize w.heap.size + 1 = X at *
  generalize w.heap.size = K at *
  obtain ⟨a0, a1, a2, a3, a4, a5, a6, a7, a8, af⟩ := HC0.out.cells
  dsimp only at a0 a1 a2 a3 a4 a5 a6 a7 a8
  have k0 := HC0.out.cellK
  go_wp2_with fail
  refine (HIN.out _ _ _ _ s _ HC0.out rfl rfl).mono ?_
  rintro e V1 ⟨rfl, hF, hs⟩
  have HC1 := Lib.hid (HC0.out.handed hF hs)
  clear HC0 hF hs a0 a1 a2 a3 a4 a5 a6 a7 a8 af k0
  clear HIN
  obtain ⟨a0, a1, a2, a3, a4, a5, a6, a7, a8, af⟩ := HC1.out.cells
  dsimp only at a0 a1 a2 a3 a4 a5 a6 a7 a8
  have k0 := HC1.out.cellK
  go_wp2_with fail
  have HC2 := Lib.hid (HC1.out.setA (u : Int))
  clear HC1
  refine (HW.out _).mono ?_
  rintro e V2 ⟨rfl, rfl⟩
  clear HW a0 a1 a2 a3 a4 a5 a6 a7 a8 af k0
  obtain ⟨a0, a1, a2, a3, a4, a5, a6, a7, a8, af⟩ := HC2.out.cells
  dsimp only at a0 a1 a2 a3 a4 a5 a6 a7 a8
  have k0 := HC2.out.cellK
  clear a0 a1 a2 a3 a4 a5 a6 a7 a8 af k0
  skip
  have HCe := Lib.hid (HC2.out.setL 16)
  obtain ⟨b0, b1, b2, b3, b4, b5, b6, b7, b8, bf⟩ := HC2.out.cells
  dsimp only at b0 b1 b2 b3 b4 b5 b6 b7 b8
  obtain ⟨d0, d1, d2, d3, d4, d5, d6, d7, d8, df⟩ := HCe.out.cells
  dsimp only at d0 d1 d2 d3 d4 d5 d6 d7 d8
  obtain ⟨c0, c1, c2, c3, c4, c5, c6, c7, c8, cf⟩ := HCe.out.cellsY
  obtain ⟨s0, s1, s2, s3, s4, s5, s6, s7, s8, sf⟩ := (HCe.out.last ⟨16, j, c, m, (u : Int), p, fd, tl, cy⟩).cells
  dsimp only at s0 s1 s2 s3 s4 s5 s6 s7 s8
  have xy := HCe.out.xy
  clear HC2
  go_wp2_with fail
  refine bodyPost_ret (v := .tuple #[(colV 16 j c m (u : Int) p fd tl cy), .bool false, .bool true]) (by simp [results, Tryz.f134, go_sem, s0, s1, s2, s3, s4, s5, s6, s7, s8]) rfl ?_
  exact ⟨rfl, HCe.out.fin ⟨16, j, c, m, (u : Int), p, fd, tl, cy⟩⟩
set_option maxHeartbeats 3200000 in
theorem pb10_next {w : World} {H A G : Nat} {C : Cf} {s : Dy} (hH : HAt w H A G C s) (hu : s.U) (hS : SpansAt w) (_ : Right C.a C.b C.c C.d) (hn : 0 < C.n) (j c m a p : Int) (fd : Bool) (tl cy : Int) (hm : -1000000000000 ≤ m ∧ m ≤ 1000000000000) (u : Nat) (hu6 : u < 18446744073709551616) (hT : z5 C.n 1 (inP C.a C.b C.c C.d m) (s.f (inP C.a C.b C.c C.d m).toNat) = (u : Int)) (hs : ¬ (u % 4 = 1 ∨ u % 4 = 3)) :
    Calls Tryz.prog 134 #[.pointer (some ⟨H, 0, none⟩), (colV 10 j c m a p fd tl cy)] w (HP w H A G C (s.act C 1 (inP C.a C.b C.c C.d m) 0 0) (.tuple #[(nextMut C ⟨10, j, c, m, 0, p, fd, tl, cy⟩ 10 11).v, .bool false, .bool true])) := by
  have HC0 := Lib.hid (ColK.start hH ⟨10, j, c, m, a, p, fd, tl, cy⟩)
  have HIN : Hid (∀ W K X Y s' x', ColK w W K X Y H A G C s x' → s' = s → x'.m = m → Calls Tryz.prog 172 #[.pointer (some ⟨K, 0, none⟩), .pointer (some ⟨X, 0, none⟩)] W (HP W H A G C (s.act C 1 (inP C.a C.b C.c C.d m) 0 0) (.int .u64 u))) := Lib.hid (fun W K X Y _ x' h _ hm => by
    have a1 := h.lH; have a2 := h.lG; have b1 := h.lK; have b2 := h.lX
    have c3 := h.cells.2.2.2.1; rw [hm] at c3
    have := in_c (w := W) h.hand hu (spans_sav hn hS hH h.sav) h.cellK (by omega) (by omega) c3 (by omega) (by omega)
    rw [hT] at this; exact this)
  have HW : Hid (∀ W, Calls Tryz.prog 174 #[.int .u64 (u : Int)] W fun e w' => e = .returned (.bool false) ∧ W = w') := Lib.hid (fun W => by have := mayWait_c u hu6 W; rw [decide_eq_false hs] at this; exact this)
  have HGO : Hid (∀ V K X Y s', ColK w V K X Y H A G C s' ⟨10, j, c, m, 0, p, fd, tl, cy⟩ → Calls Tryz.prog 173 #[.int .i64 10, .int .i64 11, .pointer (some ⟨X, 0, none⟩), .pointer (some ⟨K, 0, none⟩)] V fun e w' => e = .returned (.tuple #[]) ∧ ColK w w' K X Y H A G C s' (nextMut C ⟨10, j, c, m, 0, p, fd, tl, cy⟩ 10 11)) := Lib.hid (fun V K X Y s' h => go_c 10 j c m 0 p fd tl cy h hm 10 11)
  generalize nextMut C ⟨10, j, c, m, 0, p, fd, tl, cy⟩ 10 11 = x2 at *
  obtain ⟨l', j', c', m', a', p', fd', tl', cy'⟩ := x2
  dsimp only [Co.v]
  generalize (s.act C 1 (inP C.a C.b C.c C.d m) 0 0) = s' at *
  have hmf : ∀ (fn : Fn) (first cap : Array Value) (w : World), (Instr.makeFunc fn first cap).run Tryz.prog w = .ok (.func fn first cap) w := fun _ _ _ _ => rfl
  clear hH hu hS hn hT hs hu6 hm
  go_enter Tryz.func134, Tryz.ntmps134
  go_upto_region 1 with fail
  generalize (((w.alloc (.cells #[.pointer (some ⟨H, 0, none⟩)] 70)).alloc (.cells #[.int .i64 10, .int .i64 j, .int .i64 c, .int .i64 m, .int .u64 a, .int .u64 p, .bool fd, .int .i64 tl, .int .i64 cy] 49)).alloc (.cells #[.int .i64 0, .int .i64 0, .int .i64 0, .int .i64 0, .int .u64 0, .int .u64 0, .bool false, .int .i64 0, .int .i64 0] 49)) = V0 at *
  generalize w.heap.size + 1 + 1 = Y at *
  generalize w.heap.size + 1 = X at *
  generalize w.heap.size = K at *
  obtain ⟨a0, a1, a2, a3, a4, a5, a6, a7, a8, af⟩ := HC0.out.cells
  dsimp only at a0 a1 a2 a3 a4 a5 a6 a7 a8
  have k0 := HC0.out.cellK
  go_wp2_with fail
  refine (HIN.out _ _ _ _ s _ HC0.out rfl rfl).mono ?_
  rintro e V1 ⟨rfl, hF, hs⟩
  have HC1 := Lib.hid (HC0.out.handed hF hs)
  clear HC0 hF hs a0 a1 a2 a3 a4 a5 a6 a7 a8 af k0
  clear HIN
  obtain ⟨a0, a1, a2, a3, a4, a5, a6, a7, a8, af⟩ := HC1.out.cells
  dsimp only at a0 a1 a2 a3 a4 a5 a6 a7 a8
  have k0 := HC1.out.cellK
  go_wp2_with fail
  have HC2 := Lib.hid (HC1.out.setA (u : Int))
  clear HC1
  refine (HW.out _).mono ?_
  rintro e V2 ⟨rfl, rfl⟩
  clear HW a0 a1 a2 a3 a4 a5 a6 a7 a8 af k0
  obtain ⟨a0, a1, a2, a3, a4, a5, a6, a7, a8, af⟩ := HC2.out.cells
  dsimp only at a0 a1 a2 a3 a4 a5 a6 a7 a8
  have k0 := HC2.out.cellK
  go_wp2_with fail
  have HC3 := Lib.hid (HC2.out.setA 0)
  clear HC2
  refine (HGO.out _ _ _ _ _ HC3.out).mono ?_
  rintro e V3 ⟨rfl, hF⟩
  have HC4 := Lib.hid hF
  clear HC3 hF
  clear HGO a0 a1 a2 a3 a4 a5 a6 a7 a8 af k0
  obtain ⟨a0, a1, a2, a3, a4, a5, a6, a7, a8, af⟩ := HC4.out.cells
  dsimp only at a0 a1 a2 a3 a4 a5 a6 a7 a8
  clear a0 a1 a2 a3 a4 a5 a6 a7 a8 af
  have HCe := Lib.hid HC4.out
  obtain ⟨d0, d1, d2, d3, d4, d5, d6, d7, d8, df⟩ := HCe.out.cells
  dsimp only at d0 d1 d2 d3 d4 d5 d6 d7 d8
  obtain ⟨c0, c1, c2, c3, c4, c5, c6, c7, c8, cf⟩ := HCe.out.cellsY
  obtain ⟨s0, s1, s2, s3, s4, s5, s6, s7, s8, sf⟩ := (HCe.out.last ⟨l', j', c', m', a', p', fd', tl', cy'⟩).cells
  dsimp only at s0 s1 s2 s3 s4 s5 s6 s7 s8
  have xy := HCe.out.xy
  clear HC4
  go_wp2_with fail
  refine bodyPost_ret (v := .tuple #[(colV l' j' c' m' a' p' fd' tl' cy'), .bool false, .bool true]) (by simp [results, Tryz.f134, go_sem, s0, s1, s2, s3, s4, s5, s6, s7, s8]) rfl ?_
  exact ⟨rfl, HCe.out.fin ⟨l', j', c', m', a', p', fd', tl', cy'⟩⟩
set_option maxHeartbeats 3200000 in
theorem pb16_same {w : World} {H A G : Nat} {C : Cf} {s : Dy} (hH : HAt w H A G C s) (hu : s.U) (hS : SpansAt w) (_ : Right C.a C.b C.c C.d) (hn : 0 < C.n) (j c m p : Int) (fd : Bool) (tl cy : Int) (_ : -1000000000000 ≤ m ∧ m ≤ 1000000000000) (v : Nat) (hv : v < 18446744073709551616) (u : Nat) (_ : u < 18446744073709551616) (hT : z5 C.n 1 (inP C.a C.b C.c C.d m) (s.f (inP C.a C.b C.c C.d m).toNat) = (u : Int)) (hs : u = v) :
    Calls Tryz.prog 134 #[.pointer (some ⟨H, 0, none⟩), (colV 16 j c m (v : Int) p fd tl cy)] w (HP w H A G C (s.act C 1 (inP C.a C.b C.c C.d m) 0 0) (.tuple #[(colV 16 j c m (u : Int) p fd tl cy), .bool false, .bool true])) := by
  subst hs
  have HC0 := Lib.hid (ColK.start hH ⟨16, j, c, m, (u : Int), p, fd, tl, cy⟩)
  have HIN : Hid (∀ W K X Y s' x', ColK w W K X Y H A G C s x' → s' = s → x'.m = m → Calls Tryz.prog 172 #[.pointer (some ⟨K, 0, none⟩), .pointer (some ⟨X, 0, none⟩)] W (HP W H A G C (s.act C 1 (inP C.a C.b C.c C.d m) 0 0) (.int .u64 u))) := Lib.hid (fun W K X Y _ x' h _ hm => by
    have a1 := h.lH; have a2 := h.lG; have b1 := h.lK; have b2 := h.lX
    have c3 := h.cells.2.2.2.1; rw [hm] at c3
    have := in_c (w := W) h.hand hu (spans_sav hn hS hH h.sav) h.cellK (by omega) (by omega) c3 (by omega) (by omega)
    rw [hT] at this; exact this)
  generalize (s.act C 1 (inP C.a C.b C.c C.d m) 0 0) = s' at *
  have hmf : ∀ (fn : Fn) (first cap : Array Value) (w : World), (Instr.makeFunc fn first cap).run Tryz.prog w = .ok (.func fn first cap) w := fun _ _ _ _ => rfl
  clear hH hu hS hn hT
  go_enter Tryz.func134, Tryz.ntmps134
  go_upto_region 1 with fail
  generalize (((w.alloc (.cells #[.pointer (some ⟨H, 0, none⟩)] 70)).alloc (.cells #[.int .i64 16, .int .i64 j, .int .i64 c, .int .i64 m, .int .u64 (u : Int), .int .u64 p, .bool fd, .int .i64 tl, .int .i64 cy] 49)).alloc (.cells #[.int .i64 0, .int .i64 0, .int .i64 0, .int .i64 0, .int .u64 0, .int .u64 0, .bool false, .int .i64 0, .int .i64 0] 49)) = V0 at *
  generalize w.heap.size + 1 + 1 = Y at *
  generalize w.heap.size + 1 = X at *
  generalize w.heap.size = K at *
  obtain ⟨a0, a1, a2, a3, a4, a5, a6, a7, a8, af⟩ := HC0.out.cells
  dsimp only at a0 a1 a2 a3 a4 a5 a6 a7 a8
  have k0 := HC0.out.cellK
  go_wp2_with fail
  refine (HIN.out _ _ _ _ s _ HC0.out rfl rfl).mono ?_
  rintro e V1 ⟨rfl, hF, hs⟩
  have HC1 := Lib.hid (HC0.out.handed hF hs)
  clear HC0 hF hs a0 a1 a2 a3 a4 a5 a6 a7 a8 af k0
  clear HIN
  obtain ⟨a0, a1, a2, a3, a4, a5, a6, a7, a8, af⟩ := HC1.out.cells
  dsimp only at a0 a1 a2 a3 a4 a5 a6 a7 a8
  have k0 := HC1.out.cellK
  clear a0 a1 a2 a3 a4 a5 a6 a7 a8 af k0
  have HCe := Lib.hid HC1.out
  obtain ⟨d0, d1, d2, d3, d4, d5, d6, d7, d8, df⟩ := HCe.out.cells
  dsimp only at d0 d1 d2 d3 d4 d5 d6 d7 d8
  obtain ⟨c0, c1, c2, c3, c4, c5, c6, c7, c8, cf⟩ := HCe.out.cellsY
  obtain ⟨s0, s1, s2, s3, s4, s5, s6, s7, s8, sf⟩ := (HCe.out.last ⟨16, j, c, m, (u : Int), p, fd, tl, cy⟩).cells
  dsimp only at s0 s1 s2 s3 s4 s5 s6 s7 s8
  have xy := HCe.out.xy
  clear HC1
  go_wp2_with fail
  refine bodyPost_ret (v := .tuple #[(colV 16 j c m (u : Int) p fd tl cy), .bool false, .bool true]) (by simp [results, Tryz.f134, go_sem, s0, s1, s2, s3, s4, s5, s6, s7, s8]) rfl ?_
  exact ⟨rfl, HCe.out.fin ⟨16, j, c, m, (u : Int), p, fd, tl, cy⟩⟩
set_option maxHeartbeats 3200000 in
theorem pb16_wait {w : World} {H A G : Nat} {C : Cf} {s : Dy} (hH : HAt w H A G C s) (hu : s.U) (hS : SpansAt w) (_ : Right C.a C.b C.c C.d) (hn : 0 < C.n) (j c m p : Int) (fd : Bool) (tl cy : Int) (_ : -1000000000000 ≤ m ∧ m ≤ 1000000000000) (v : Nat) (_ : v < 18446744073709551616) (u : Nat) (hu6 : u < 18446744073709551616) (hT : z5 C.n 1 (inP C.a C.b C.c C.d m) (s.f (inP C.a C.b C.c C.d m).toNat) = (u : Int)) (hv2 : ¬ u = v) (hs : u % 4 = 3) :
    Calls Tryz.prog 134 #[.pointer (some ⟨H, 0, none⟩), (colV 16 j c m (v : Int) p fd tl cy)] w (HP w H A G C (s.act C 1 (inP C.a C.b C.c C.d m) 0 0) (.tuple #[(colV 16 j c m (u : Int) p fd tl cy), .bool false, .bool true])) := by
  have HC0 := Lib.hid (ColK.start hH ⟨16, j, c, m, (v : Int), p, fd, tl, cy⟩)
  have HIN : Hid (∀ W K X Y s' x', ColK w W K X Y H A G C s x' → s' = s → x'.m = m → Calls Tryz.prog 172 #[.pointer (some ⟨K, 0, none⟩), .pointer (some ⟨X, 0, none⟩)] W (HP W H A G C (s.act C 1 (inP C.a C.b C.c C.d m) 0 0) (.int .u64 u))) := Lib.hid (fun W K X Y _ x' h _ hm => by
    have a1 := h.lH; have a2 := h.lG; have b1 := h.lK; have b2 := h.lX
    have c3 := h.cells.2.2.2.1; rw [hm] at c3
    have := in_c (w := W) h.hand hu (spans_sav hn hS hH h.sav) h.cellK (by omega) (by omega) c3 (by omega) (by omega)
    rw [hT] at this; exact this)
  have HY : Hid (∀ W, Calls Tryz.prog 175 #[.int .u64 (u : Int)] W fun e w' => e = .returned (.int .u64 ((u % 4 : Nat) : Int)) ∧ W = w') := Lib.hid (fun W => Says_c u hu6 W)
  generalize (s.act C 1 (inP C.a C.b C.c C.d m) 0 0) = s' at *
  have hq : ((u : Int) == (v : Int)) = false := by simp; omega
  rw [hs] at HY
  have hmf : ∀ (fn : Fn) (first cap : Array Value) (w : World), (Instr.makeFunc fn first cap).run Tryz.prog w = .ok (.func fn first cap) w := fun _ _ _ _ => rfl
  clear hH hu hS hn hT hu6 hs hv2
  go_enter Tryz.func134, Tryz.ntmps134
  go_upto_region 1 with fail
  generalize (((w.alloc (.cells #[.pointer (some ⟨H, 0, none⟩)] 70)).alloc (.cells #[.int .i64 16, .int .i64 j, .int .i64 c, .int .i64 m, .int .u64 (v : Int), .int .u64 p, .bool fd, .int .i64 tl, .int .i64 cy] 49)).alloc (.cells #[.int .i64 0, .int .i64 0, .int .i64 0, .int .i64 0, .int .u64 0, .int .u64 0, .bool false, .int .i64 0, .int .i64 0] 49)) = V0 at *
  generalize w.heap.size + 1 + 1 = Y at *
  generalize w.heap.size + 1 = X at *
  generalize w.heap.size = K at *
  obtain ⟨a0, a1, a2, a3, a4, a5, a6, a7, a8, af⟩ := HC0.out.cells
  dsimp only at a0 a1 a2 a3 a4 a5 a6 a7 a8
  have k0 := HC0.out.cellK
  go_wp2_with fail
  refine (HIN.out _ _ _ _ s _ HC0.out rfl rfl).mono ?_
  rintro e V1 ⟨rfl, hF, hs⟩
  have HC1 := Lib.hid (HC0.out.handed hF hs)
  clear HC0 hF hs a0 a1 a2 a3 a4 a5 a6 a7 a8 af k0
  clear HIN
  obtain ⟨a0, a1, a2, a3, a4, a5, a6, a7, a8, af⟩ := HC1.out.cells
  dsimp only at a0 a1 a2 a3 a4 a5 a6 a7 a8
  have k0 := HC1.out.cellK
  go_wp2_with fail
  refine (HY.out _).mono ?_
  rintro e V2 ⟨rfl, rfl⟩
  clear HY a0 a1 a2 a3 a4 a5 a6 a7 a8 af k0
  obtain ⟨a0, a1, a2, a3, a4, a5, a6, a7, a8, af⟩ := HC1.out.cells
  dsimp only at a0 a1 a2 a3 a4 a5 a6 a7 a8
  have k0 := HC1.out.cellK
  clear a0 a1 a2 a3 a4 a5 a6 a7 a8 af k0
  have HCe := Lib.hid (HC1.out.setA (u : Int))
  obtain ⟨b0, b1, b2, b3, b4, b5, b6, b7, b8, bf⟩ := HC1.out.cells
  dsimp only at b0 b1 b2 b3 b4 b5 b6 b7 b8
  obtain ⟨d0, d1, d2, d3, d4, d5, d6, d7, d8, df⟩ := HCe.out.cells
  dsimp only at d0 d1 d2 d3 d4 d5 d6 d7 d8
  obtain ⟨c0, c1, c2, c3, c4, c5, c6, c7, c8, cf⟩ := HCe.out.cellsY
  obtain ⟨s0, s1, s2, s3, s4, s5, s6, s7, s8, sf⟩ := (HCe.out.last ⟨16, j, c, m, (u : Int), p, fd, tl, cy⟩).cells
  dsimp only at s0 s1 s2 s3 s4 s5 s6 s7 s8
  have xy := HCe.out.xy
  clear HC1
  go_wp2_with fail
  refine bodyPost_ret (v := .tuple #[(colV 16 j c m (u : Int) p fd tl cy), .bool false, .bool true]) (by simp [results, Tryz.f134, go_sem, s0, s1, s2, s3, s4, s5, s6, s7, s8]) rfl ?_
  exact ⟨rfl, HCe.out.fin ⟨16, j, c, m, (u : Int), p, fd, tl, cy⟩⟩
set_option maxHeartbeats 3200000 in
theorem pb16_next {w : World} {H A G : Nat} {C : Cf} {s : Dy} (hH : HAt w H A G C s) (hu : s.U) (hS : SpansAt w) (_ : Right C.a C.b C.c C.d) (hn : 0 < C.n) (j c m p : Int) (fd : Bool) (tl cy : Int) (hm : -1000000000000 ≤ m ∧ m ≤ 1000000000000) (v : Nat) (_ : v < 18446744073709551616) (u : Nat) (hu6 : u < 18446744073709551616) (hT : z5 C.n 1 (inP C.a C.b C.c C.d m) (s.f (inP C.a C.b C.c C.d m).toNat) = (u : Int)) (hv2 : ¬ u = v) (hs : ¬ u % 4 = 3) :
    Calls Tryz.prog 134 #[.pointer (some ⟨H, 0, none⟩), (colV 16 j c m (v : Int) p fd tl cy)] w (HP w H A G C (s.act C 1 (inP C.a C.b C.c C.d m) 0 0) (.tuple #[(nextMut C ⟨16, j, c, m, 0, p, fd, tl, cy⟩ 10 11).v, .bool false, .bool true])) := by
  have HC0 := Lib.hid (ColK.start hH ⟨16, j, c, m, (v : Int), p, fd, tl, cy⟩)
  have HIN : Hid (∀ W K X Y s' x', ColK w W K X Y H A G C s x' → s' = s → x'.m = m → Calls Tryz.prog 172 #[.pointer (some ⟨K, 0, none⟩), .pointer (some ⟨X, 0, none⟩)] W (HP W H A G C (s.act C 1 (inP C.a C.b C.c C.d m) 0 0) (.int .u64 u))) := Lib.hid (fun W K X Y _ x' h _ hm => by
    have a1 := h.lH; have a2 := h.lG; have b1 := h.lK; have b2 := h.lX
    have c3 := h.cells.2.2.2.1; rw [hm] at c3
    have := in_c (w := W) h.hand hu (spans_sav hn hS hH h.sav) h.cellK (by omega) (by omega) c3 (by omega) (by omega)
    rw [hT] at this; exact this)
  have HY : Hid (∀ W, Calls Tryz.prog 175 #[.int .u64 (u : Int)] W fun e w' => e = .returned (.int .u64 ((u % 4 : Nat) : Int)) ∧ W = w') := Lib.hid (fun W => Says_c u hu6 W)
  have HGO : Hid (∀ V K X Y s', ColK w V K X Y H A G C s' ⟨16, j, c, m, 0, p, fd, tl, cy⟩ → Calls Tryz.prog 173 #[.int .i64 10, .int .i64 11, .pointer (some ⟨X, 0, none⟩), .pointer (some ⟨K, 0, none⟩)] V fun e w' => e = .returned (.tuple #[]) ∧ ColK w w' K X Y H A G C s' (nextMut C ⟨16, j, c, m, 0, p, fd, tl, cy⟩ 10 11)) := Lib.hid (fun V K X Y s' h => go_c 16 j c m 0 p fd tl cy h hm 10 11)
  generalize nextMut C ⟨16, j, c, m, 0, p, fd, tl, cy⟩ 10 11 = x2 at *
  obtain ⟨l', j', c', m', a', p', fd', tl', cy'⟩ := x2
  dsimp only [Co.v]
  generalize (s.act C 1 (inP C.a C.b C.c C.d m) 0 0) = s' at *
  have hq : ((u : Int) == (v : Int)) = false := by simp; omega
  generalize u % 4 = t4 at *
  have hne : ((t4 : Int) == 3) = false := by simp; omega
  have hmf : ∀ (fn : Fn) (first cap : Array Value) (w : World), (Instr.makeFunc fn first cap).run Tryz.prog w = .ok (.func fn first cap) w := fun _ _ _ _ => rfl
  clear hH hu hS hn hT hu6 hs hv2 hm
  go_enter Tryz.func134, Tryz.ntmps134
  go_upto_region 1 with fail
  generalize (((w.alloc (.cells #[.pointer (some ⟨H, 0, none⟩)] 70)).alloc (.cells #[.int .i64 16, .int .i64 j, .int .i64 c, .int .i64 m, .int .u64 (v : Int), .int .u64 p, .bool fd, .int .i64 tl, .int .i64 cy] 49)).alloc (.cells #[.int .i64 0, .int .i64 0, .int .i64 0, .int .i64 0, .int .u64 0, .int .u64 0, .bool false, .int .i64 0, .int .i64 0] 49)) = V0 at *
  generalize w.heap.size + 1 + 1 = Y at *
  generalize w.heap.size + 1 = X at *
  generalize w.heap.size = K at *
  obtain ⟨a0, a1, a2, a3, a4, a5, a6, a7, a8, af⟩ := HC0.out.cells
  dsimp only at a0 a1 a2 a3 a4 a5 a6 a7 a8
  have k0 := HC0.out.cellK
  go_wp2_with fail
  refine (HIN.out _ _ _ _ s _ HC0.out rfl rfl).mono ?_
  rintro e V1 ⟨rfl, hF, hs⟩
  have HC1 := Lib.hid (HC0.out.handed hF hs)
  clear HC0 hF hs a0 a1 a2 a3 a4 a5 a6 a7 a8 af k0
  clear HIN
  obtain ⟨a0, a1, a2, a3, a4, a5, a6, a7, a8, af⟩ := HC1.out.cells
  dsimp only at a0 a1 a2 a3 a4 a5 a6 a7 a8
  have k0 := HC1.out.cellK
  go_wp2_with fail
  refine (HY.out _).mono ?_
  rintro e V2 ⟨rfl, rfl⟩
  clear HY a0 a1 a2 a3 a4 a5 a6 a7 a8 af k0
  obtain ⟨a0, a1, a2, a3, a4, a5, a6, a7, a8, af⟩ := HC1.out.cells
  dsimp only at a0 a1 a2 a3 a4 a5 a6 a7 a8
  have k0 := HC1.out.cellK
  go_wp2_with fail
  have HC2 := Lib.hid (HC1.out.setA 0)
  clear HC1
  refine (HGO.out _ _ _ _ _ HC2.out).mono ?_
  rintro e V3 ⟨rfl, hF⟩
  have HC3 := Lib.hid hF
  clear HC2 hF
  clear HGO a0 a1 a2 a3 a4 a5 a6 a7 a8 af k0
  have HCe := Lib.hid HC3.out
  obtain ⟨d0, d1, d2, d3, d4, d5, d6, d7, d8, df⟩ := HCe.out.cells
  dsimp only at d0 d1 d2 d3 d4 d5 d6 d7 d8
  obtain ⟨c0, c1, c2, c3, c4, c5, c6, c7, c8, cf⟩ := HCe.out.cellsY
  obtain ⟨s0, s1, s2, s3, s4, s5, s6, s7, s8, sf⟩ := (HCe.out.last ⟨l', j', c', m', a', p', fd', tl', cy'⟩).cells
  dsimp only at s0 s1 s2 s3 s4 s5 s6 s7 s8
  have xy := HCe.out.xy
  clear HC3
  go_wp2_with fail
  refine bodyPost_ret (v := .tuple #[(colV l' j' c' m' a' p' fd' tl' cy'), .bool false, .bool true]) (by simp [results, Tryz.f134, go_sem, s0, s1, s2, s3, s4, s5, s6, s7, s8]) rfl ?_
  exact ⟨rfl, HCe.out.fin ⟨l', j', c', m', a', p', fd', tl', cy'⟩⟩
set_option maxHeartbeats 3200000 in
theorem pb12_stay {w : World} {H A G : Nat} {C : Cf} {s : Dy} (hH : HAt w H A G C s) (hu : s.U) (hS : SpansAt w) (_ : Right C.a C.b C.c C.d) (hn : 0 < C.n) (j c m a p : Int) (fd : Bool) (tl cy : Int) (_ : -1000000000000 ≤ m ∧ m ≤ 1000000000000) (u : Nat) (hu6 : u < 18446744073709551616) (hT : z5 C.n 1 (inP C.a C.b C.c C.d m) (s.f (inP C.a C.b C.c C.d m).toNat) = (u : Int)) (hs : ¬ (u % 4 = 0 ∨ u % 4 = 3)) :
    Calls Tryz.prog 134 #[.pointer (some ⟨H, 0, none⟩), (colV 12 j c m a p fd tl cy)] w (HP w H A G C (s.act C 1 (inP C.a C.b C.c C.d m) 0 0) (.tuple #[(colV 12 j c m a p fd tl cy), .bool false, .bool true])) := by
  have HC0 := Lib.hid (ColK.start hH ⟨12, j, c, m, a, p, fd, tl, cy⟩)
  have HIN : Hid (∀ W K X Y s' x', ColK w W K X Y H A G C s x' → s' = s → x'.m = m → Calls Tryz.prog 172 #[.pointer (some ⟨K, 0, none⟩), .pointer (some ⟨X, 0, none⟩)] W (HP W H A G C (s.act C 1 (inP C.a C.b C.c C.d m) 0 0) (.int .u64 u))) := Lib.hid (fun W K X Y _ x' h _ hm => by
    have a1 := h.lH; have a2 := h.lG; have b1 := h.lK; have b2 := h.lX
    have c3 := h.cells.2.2.2.1; rw [hm] at c3
    have := in_c (w := W) h.hand hu (spans_sav hn hS hH h.sav) h.cellK (by omega) (by omega) c3 (by omega) (by omega)
    rw [hT] at this; exact this)
  have HW : Hid (∀ W, Calls Tryz.prog 176 #[.int .u64 (u : Int)] W fun e w' => e = .returned (.bool false) ∧ W = w') := Lib.hid (fun W => by have := isOut_c u hu6 W; rw [decide_eq_false hs] at this; exact this)
  generalize (s.act C 1 (inP C.a C.b C.c C.d m) 0 0) = s' at *
  have hmf : ∀ (fn : Fn) (first cap : Array Value) (w : World), (Instr.makeFunc fn first cap).run Tryz.prog w = .ok (.func fn first cap) w := fun _ _ _ _ => rfl
  clear hH hu hS hn hT hs hu6
  go_enter Tryz.func134, Tryz.ntmps134
  go_upto_region 1 with fail
  generalize (((w.alloc (.cells #[.pointer (some ⟨H, 0, none⟩)] 70)).alloc (.cells #[.int .i64 12, .int .i64 j, .int .i64 c, .int .i64 m, .int .u64 a, .int .u64 p, .bool fd, .int .i64 tl, .int .i64 cy] 49)).alloc (.cells #[.int .i64 0, .int .i64 0, .int .i64 0, .int .i64 0, .int .u64 0, .int .u64 0, .bool false, .int .i64 0, .int .i64 0] 49)) = V0 at *
  generalize w.heap.size + 1 + 1 = Y at *
  generalize w.heap.size + 1 = X at *
  generalize w.heap.size = K at *
  obtain ⟨a0, a1, a2, a3, a4, a5, a6, a7, a8, af⟩ := HC0.out.cells
  dsimp only at a0 a1 a2 a3 a4 a5 a6 a7 a8
  have k0 := HC0.out.cellK
  go_wp2_with fail
  refine (HIN.out _ _ _ _ s _ HC0.out rfl rfl).mono ?_
  rintro e V1 ⟨rfl, hF, hs⟩
  have HC1 := Lib.hid (HC0.out.handed hF hs)
  clear HC0 hF hs a0 a1 a2 a3 a4 a5 a6 a7 a8 af k0
  clear HIN
  obtain ⟨a0, a1, a2, a3, a4, a5, a6, a7, a8, af⟩ := HC1.out.cells
  dsimp only at a0 a1 a2 a3 a4 a5 a6 a7 a8
  have k0 := HC1.out.cellK
  go_wp2_with fail
  refine (HW.out _).mono ?_
  rintro e V2 ⟨rfl, rfl⟩
  clear HW a0 a1 a2 a3 a4 a5 a6 a7 a8 af k0
  obtain ⟨a0, a1, a2, a3, a4, a5, a6, a7, a8, af⟩ := HC1.out.cells
  dsimp only at a0 a1 a2 a3 a4 a5 a6 a7 a8
  have k0 := HC1.out.cellK
  clear a0 a1 a2 a3 a4 a5 a6 a7 a8 af k0
  have HCe := Lib.hid HC1.out
  obtain ⟨d0, d1, d2, d3, d4, d5, d6, d7, d8, df⟩ := HCe.out.cells
  dsimp only at d0 d1 d2 d3 d4 d5 d6 d7 d8
  obtain ⟨c0, c1, c2, c3, c4, c5, c6, c7, c8, cf⟩ := HCe.out.cellsY
  obtain ⟨s0, s1, s2, s3, s4, s5, s6, s7, s8, sf⟩ := (HCe.out.last ⟨12, j, c, m, a, p, fd, tl, cy⟩).cells
  dsimp only at s0 s1 s2 s3 s4 s5 s6 s7 s8
  have xy := HCe.out.xy
  clear HC1
  go_wp2_with fail
  refine bodyPost_ret (v := .tuple #[(colV 12 j c m a p fd tl cy), .bool false, .bool true]) (by simp [results, Tryz.f134, go_sem, s0, s1, s2, s3, s4, s5, s6, s7, s8]) rfl ?_
  exact ⟨rfl, HCe.out.fin ⟨12, j, c, m, a, p, fd, tl, cy⟩⟩
set_option maxHeartbeats 3200000 in
theorem pb12_next {w : World} {H A G : Nat} {C : Cf} {s : Dy} (hH : HAt w H A G C s) (hu : s.U) (hS : SpansAt w) (_ : Right C.a C.b C.c C.d) (hn : 0 < C.n) (j c m a p : Int) (fd : Bool) (tl cy : Int) (hm : -1000000000000 ≤ m ∧ m ≤ 1000000000000) (u : Nat) (hu6 : u < 18446744073709551616) (hT : z5 C.n 1 (inP C.a C.b C.c C.d m) (s.f (inP C.a C.b C.c C.d m).toNat) = (u : Int)) (hs : (u % 4 = 0 ∨ u % 4 = 3)) :
    Calls Tryz.prog 134 #[.pointer (some ⟨H, 0, none⟩), (colV 12 j c m a p fd tl cy)] w (HP w H A G C (s.act C 1 (inP C.a C.b C.c C.d m) 0 0) (.tuple #[(nextMut C ⟨12, j, c, m, a, p, fd, tl, cy⟩ 12 13).v, .bool false, .bool true])) := by
  have HC0 := Lib.hid (ColK.start hH ⟨12, j, c, m, a, p, fd, tl, cy⟩)
  have HIN : Hid (∀ W K X Y s' x', ColK w W K X Y H A G C s x' → s' = s → x'.m = m → Calls Tryz.prog 172 #[.pointer (some ⟨K, 0, none⟩), .pointer (some ⟨X, 0, none⟩)] W (HP W H A G C (s.act C 1 (inP C.a C.b C.c C.d m) 0 0) (.int .u64 u))) := Lib.hid (fun W K X Y _ x' h _ hm => by
    have a1 := h.lH; have a2 := h.lG; have b1 := h.lK; have b2 := h.lX
    have c3 := h.cells.2.2.2.1; rw [hm] at c3
    have := in_c (w := W) h.hand hu (spans_sav hn hS hH h.sav) h.cellK (by omega) (by omega) c3 (by omega) (by omega)
    rw [hT] at this; exact this)
  have HW : Hid (∀ W, Calls Tryz.prog 176 #[.int .u64 (u : Int)] W fun e w' => e = .returned (.bool true) ∧ W = w') := Lib.hid (fun W => by have := isOut_c u hu6 W; rw [decide_eq_true hs] at this; exact this)
  have HGO : Hid (∀ V K X Y s', ColK w V K X Y H A G C s' ⟨12, j, c, m, a, p, fd, tl, cy⟩ → Calls Tryz.prog 173 #[.int .i64 12, .int .i64 13, .pointer (some ⟨X, 0, none⟩), .pointer (some ⟨K, 0, none⟩)] V fun e w' => e = .returned (.tuple #[]) ∧ ColK w w' K X Y H A G C s' (nextMut C ⟨12, j, c, m, a, p, fd, tl, cy⟩ 12 13)) := Lib.hid (fun V K X Y s' h => go_c 12 j c m a p fd tl cy h hm 12 13)
  generalize nextMut C ⟨12, j, c, m, a, p, fd, tl, cy⟩ 12 13 = x2 at *
  obtain ⟨l', j', c', m', a', p', fd', tl', cy'⟩ := x2
  dsimp only [Co.v]
  generalize (s.act C 1 (inP C.a C.b C.c C.d m) 0 0) = s' at *
  have hmf : ∀ (fn : Fn) (first cap : Array Value) (w : World), (Instr.makeFunc fn first cap).run Tryz.prog w = .ok (.func fn first cap) w := fun _ _ _ _ => rfl
  clear hH hu hS hn hT hs hu6 hm
  go_enter Tryz.func134, Tryz.ntmps134
  go_upto_region 1 with fail
  generalize (((w.alloc (.cells #[.pointer (some ⟨H, 0, none⟩)] 70)).alloc (.cells #[.int .i64 12, .int .i64 j, .int .i64 c, .int .i64 m, .int .u64 a, .int .u64 p, .bool fd, .int .i64 tl, .int .i64 cy] 49)).alloc (.cells #[.int .i64 0, .int .i64 0, .int .i64 0, .int .i64 0, .int .u64 0, .int .u64 0, .bool false, .int .i64 0, .int .i64 0] 49)) = V0 at *
  generalize w.heap.size + 1 + 1 = Y at *
  generalize w.heap.size + 1 = X at *
  generalize w.heap.size = K at *
  obtain ⟨a0, a1, a2, a3, a4, a5, a6, a7, a8, af⟩ := HC0.out.cells
  dsimp only at a0 a1 a2 a3 a4 a5 a6 a7 a8
  have k0 := HC0.out.cellK
  go_wp2_with fail
  refine (HIN.out _ _ _ _ s _ HC0.out rfl rfl).mono ?_
  rintro e V1 ⟨rfl, hF, hs⟩
  have HC1 := Lib.hid (HC0.out.handed hF hs)
  clear HC0 hF hs a0 a1 a2 a3 a4 a5 a6 a7 a8 af k0
  clear HIN
  obtain ⟨a0, a1, a2, a3, a4, a5, a6, a7, a8, af⟩ := HC1.out.cells
  dsimp only at a0 a1 a2 a3 a4 a5 a6 a7 a8
  have k0 := HC1.out.cellK
  go_wp2_with fail
  refine (HW.out _).mono ?_
  rintro e V2 ⟨rfl, rfl⟩
  clear HW a0 a1 a2 a3 a4 a5 a6 a7 a8 af k0
  obtain ⟨a0, a1, a2, a3, a4, a5, a6, a7, a8, af⟩ := HC1.out.cells
  dsimp only at a0 a1 a2 a3 a4 a5 a6 a7 a8
  have k0 := HC1.out.cellK
  go_wp2_with fail
  refine (HGO.out _ _ _ _ _ HC1.out).mono ?_
  rintro e V3 ⟨rfl, hF⟩
  have HC2 := Lib.hid hF
  clear HC1 hF
  clear HGO a0 a1 a2 a3 a4 a5 a6 a7 a8 af k0
  have HCe := Lib.hid HC2.out
  obtain ⟨d0, d1, d2, d3, d4, d5, d6, d7, d8, df⟩ := HCe.out.cells
  dsimp only at d0 d1 d2 d3 d4 d5 d6 d7 d8
  obtain ⟨c0, c1, c2, c3, c4, c5, c6, c7, c8, cf⟩ := HCe.out.cellsY
  obtain ⟨s0, s1, s2, s3, s4, s5, s6, s7, s8, sf⟩ := (HCe.out.last ⟨l', j', c', m', a', p', fd', tl', cy'⟩).cells
  dsimp only at s0 s1 s2 s3 s4 s5 s6 s7 s8
  have xy := HCe.out.xy
  clear HC2
  go_wp2_with fail
  refine bodyPost_ret (v := .tuple #[(colV l' j' c' m' a' p' fd' tl' cy'), .bool false, .bool true]) (by simp [results, Tryz.f134, go_sem, s0, s1, s2, s3, s4, s5, s6, s7, s8]) rfl ?_
  exact ⟨rfl, HCe.out.fin ⟨l', j', c', m', a', p', fd', tl', cy'⟩⟩
end Go.Proofs.YtbpooljohjkbjaaGreatDoor
