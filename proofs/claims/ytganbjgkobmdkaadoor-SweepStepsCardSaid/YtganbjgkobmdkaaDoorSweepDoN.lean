/- Cell of package word; goOn of package sweep. -/
import Derived.Test.YtganbjgkobmdkaaDoorColF
import Derived.Test.YtganbjgkobmdkaaDoorM2
import Derived.Test.YtganbjgkobmdkaaDoorM3
namespace Go.Proofs.YtganbjgkobmdkaaDoor
open Go Go.RowKit
set_option maxRecDepth 100000
attribute [local go_sem ↓] Go.wp_at_zero Go.wp_at_succ

theorem pCellW_c (k : Int) (w : World) : Calls Tryd.prog 46 #[.int .i64 k] w fun e w' => e = .returned (.int .u64 (cellW k)) ∧ w = w' := by
  unfold cellW
  by_cases h : 0 ≤ k ∧ k < 4096
  · rw [if_pos h]
    have h1 := cell_pos k.toNat (by omega) w
    rw [show ((k.toNat : Nat) : Int) = k by omega, show ((2 * k.toNat + 1 : Nat) : Int) = 2 * k + 1 by omega] at h1
    exact h1
  · rw [if_neg h]; exact cell_neg k (by omega) w
set_option maxHeartbeats 1600000 in
theorem sgo_more (l j c m a p : Int) (fd : Bool) (tl cy : Int) (n : Int) (_ : 1 ≤ n ∧ n ≤ 5000) (hc : -1000000000000 ≤ c ∧ c ≤ 1000000000000) (_ : -1000000000000 ≤ cy ∧ cy ≤ 1000000000000) (h : c + 1 < n) (w : World) :
    Calls Tryd.prog 26 #[(colV l j c m a p fd tl cy), .int .i64 n] w fun e w' => e = .returned (.tuple #[(colV 20 j (c + 1) m a p fd tl cy), .bool false]) ∧ Below w.heap.size w w' := by
  have hw1 : IntKind.i64.wrap (c + 1) = c + 1 := IntWalk.i64_in _ (by omega)
  have d1 : decide (n ≤ c) = false := decide_eq_false (by omega)
  have d2 : decide (n ≤ c + 1) = false := decide_eq_false (by omega)
  clear hc h
  go_enter Tryd.func26, Tryd.ntmps26
  go_wp2_with fail
  refine bodyPost_ret (v := .tuple #[(colV 20 j (c + 1) m a p fd tl cy), .bool false]) (by simp [results, Tryd.f26, go_sem]) rfl ?_
  exact ⟨rfl, below_on (below_new _ _) _⟩
set_option maxHeartbeats 1600000 in
theorem sgo_past (l j c m a p : Int) (fd : Bool) (tl cy : Int) (n : Int) (_ : 1 ≤ n ∧ n ≤ 5000) (hc : -1000000000000 ≤ c ∧ c ≤ 1000000000000) (hy : -1000000000000 ≤ cy ∧ cy ≤ 1000000000000) (h : n ≤ c) (w : World) :
    Calls Tryd.prog 26 #[(colV l j c m a p fd tl cy), .int .i64 n] w fun e w' => e = .returned (.tuple #[(colV 1 0 (c + 1) m a 0 fd tl (cy + 1)), .bool true]) ∧ Below w.heap.size w w' := by
  have hw1 : IntKind.i64.wrap (c + 1) = c + 1 := IntWalk.i64_in _ (by omega)
  have hw2 : IntKind.i64.wrap (cy + 1) = cy + 1 := IntWalk.i64_in _ (by omega)
  have d1 : decide (n ≤ c) = true := decide_eq_true (by omega)
  have HB2 := Lib.hid (below_on (below_new w (.cells #[.int .i64 l, .int .i64 j, .int .i64 (c + 1), .int .i64 m, .int .u64 a, .int .u64 p, .bool fd, .int .i64 tl, .int .i64 (cy + 1)] 28)) (.cells #[.int .i64 0, .int .i64 0, .int .i64 0, .int .i64 0, .int .u64 0, .int .u64 0, .bool false, .int .i64 0, .int .i64 0] 28))
  have HY2 := Lib.hid (show Col9 ((w.alloc (.cells #[.int .i64 l, .int .i64 j, .int .i64 (c + 1), .int .i64 m, .int .u64 a, .int .u64 p, .bool fd, .int .i64 tl, .int .i64 (cy + 1)] 28)).alloc (.cells #[.int .i64 0, .int .i64 0, .int .i64 0, .int .i64 0, .int .u64 0, .int .u64 0, .bool false, .int .i64 0, .int .i64 0] 28)) (w.heap.size + 1) 0 0 0 0 0 0 false 0 0 from (by have := Col9.new (w.alloc (.cells #[.int .i64 l, .int .i64 j, .int .i64 (c + 1), .int .i64 m, .int .u64 a, .int .u64 p, .bool fd, .int .i64 tl, .int .i64 (cy + 1)] 28)) 0 0 0 0 0 0 false 0 0; simpa using this))
  clear hc hy h
  have HBg : Hid (∀ W, Calls Tryd.prog 47 #[(colV l j (c + 1) m a p fd tl (cy + 1))] W fun e w' => e = .returned (colV 1 0 (c + 1) m a 0 fd tl (cy + 1)) ∧ Below W.heap.size W w') := Lib.hid (fun W => Begin_c l j (c + 1) m a p fd tl (cy + 1) W)
  go_enter Tryd.func26, Tryd.ntmps26
  go_wp2_with fail
  generalize (w.alloc (.cells #[.int .i64 l, .int .i64 j, .int .i64 (c + 1), .int .i64 m, .int .u64 a, .int .u64 p, .bool fd, .int .i64 tl, .int .i64 (cy + 1)] 28)).alloc (.cells #[.int .i64 0, .int .i64 0, .int .i64 0, .int .i64 0, .int .u64 0, .int .u64 0, .bool false, .int .i64 0, .int .i64 0] 28) = W2 at *
  refine (HBg.out _).mono ?_
  rintro e W3 ⟨rfl, hb⟩
  have HB3 := Lib.hid (belowOn HB2.out hb); have HY3 := Lib.hid (HY2.out.below hb)
  clear hb HB2 HY2 HBg
  have HE := Lib.hid ((Sav.put9 (Sav.of (S := fun _ => False) HB3.out) (C := w.heap.size + 1) (.inr (by omega)) 1 0 (c + 1) m a 0 fd tl (cy + 1)).below (Nat.le_refl _) (fun _ _ e => e))
  obtain ⟨c0, c1, c2, c3, c4, c5, c6, c7, c8, cf⟩ := HY3.out.cells
  obtain ⟨s0, s1, s2, s3, s4, s5, s6, s7, s8, sf⟩ := (HY3.out.put 1 0 (c + 1) m a 0 fd tl (cy + 1)).cells
  go_wp2_with fail
  refine bodyPost_ret (v := .tuple #[(colV 1 0 (c + 1) m a 0 fd tl (cy + 1)), .bool true]) (by simp [results, Tryd.f26, go_sem, s0, s1, s2, s3, s4, s5, s6, s7, s8]) rfl ?_
  exact ⟨rfl, HE.out⟩
set_option maxHeartbeats 1600000 in
theorem sgo_last (l j c m a p : Int) (fd : Bool) (tl cy : Int) (n : Int) (_ : 1 ≤ n ∧ n ≤ 5000) (_ : -1000000000000 ≤ c ∧ c ≤ 1000000000000) (hy : -1000000000000 ≤ cy ∧ cy ≤ 1000000000000) (h : ¬ c + 1 < n) (h2 : ¬ n ≤ c) (w : World) :
    Calls Tryd.prog 26 #[(colV l j c m a p fd tl cy), .int .i64 n] w fun e w' => e = .returned (.tuple #[(colV 1 0 (c + 1) m a 0 fd tl (cy + 1)), .bool true]) ∧ Below w.heap.size w w' := by
  have hw1 : IntKind.i64.wrap (c + 1) = c + 1 := IntWalk.i64_in _ (by omega)
  have hw2 : IntKind.i64.wrap (cy + 1) = cy + 1 := IntWalk.i64_in _ (by omega)
  have d1 : decide (n ≤ c) = false := decide_eq_false (by omega)
  have d2 : decide (n ≤ c + 1) = true := decide_eq_true (by omega)
  have HB2 := Lib.hid (below_on (below_new w (.cells #[.int .i64 l, .int .i64 j, .int .i64 (c + 1), .int .i64 m, .int .u64 a, .int .u64 p, .bool fd, .int .i64 tl, .int .i64 (cy + 1)] 28)) (.cells #[.int .i64 0, .int .i64 0, .int .i64 0, .int .i64 0, .int .u64 0, .int .u64 0, .bool false, .int .i64 0, .int .i64 0] 28))
  have HY2 := Lib.hid (show Col9 ((w.alloc (.cells #[.int .i64 l, .int .i64 j, .int .i64 (c + 1), .int .i64 m, .int .u64 a, .int .u64 p, .bool fd, .int .i64 tl, .int .i64 (cy + 1)] 28)).alloc (.cells #[.int .i64 0, .int .i64 0, .int .i64 0, .int .i64 0, .int .u64 0, .int .u64 0, .bool false, .int .i64 0, .int .i64 0] 28)) (w.heap.size + 1) 0 0 0 0 0 0 false 0 0 from (by have := Col9.new (w.alloc (.cells #[.int .i64 l, .int .i64 j, .int .i64 (c + 1), .int .i64 m, .int .u64 a, .int .u64 p, .bool fd, .int .i64 tl, .int .i64 (cy + 1)] 28)) 0 0 0 0 0 0 false 0 0; simpa using this))
  clear hy h h2
  have HBg : Hid (∀ W, Calls Tryd.prog 47 #[(colV l j (c + 1) m a p fd tl (cy + 1))] W fun e w' => e = .returned (colV 1 0 (c + 1) m a 0 fd tl (cy + 1)) ∧ Below W.heap.size W w') := Lib.hid (fun W => Begin_c l j (c + 1) m a p fd tl (cy + 1) W)
  go_enter Tryd.func26, Tryd.ntmps26
  go_wp2_with fail
  generalize (w.alloc (.cells #[.int .i64 l, .int .i64 j, .int .i64 (c + 1), .int .i64 m, .int .u64 a, .int .u64 p, .bool fd, .int .i64 tl, .int .i64 (cy + 1)] 28)).alloc (.cells #[.int .i64 0, .int .i64 0, .int .i64 0, .int .i64 0, .int .u64 0, .int .u64 0, .bool false, .int .i64 0, .int .i64 0] 28) = W2 at *
  refine (HBg.out _).mono ?_
  rintro e W3 ⟨rfl, hb⟩
  have HB3 := Lib.hid (belowOn HB2.out hb); have HY3 := Lib.hid (HY2.out.below hb)
  clear hb HB2 HY2 HBg
  have HE := Lib.hid ((Sav.put9 (Sav.of (S := fun _ => False) HB3.out) (C := w.heap.size + 1) (.inr (by omega)) 1 0 (c + 1) m a 0 fd tl (cy + 1)).below (Nat.le_refl _) (fun _ _ e => e))
  obtain ⟨c0, c1, c2, c3, c4, c5, c6, c7, c8, cf⟩ := HY3.out.cells
  obtain ⟨s0, s1, s2, s3, s4, s5, s6, s7, s8, sf⟩ := (HY3.out.put 1 0 (c + 1) m a 0 fd tl (cy + 1)).cells
  go_wp2_with fail
  refine bodyPost_ret (v := .tuple #[(colV 1 0 (c + 1) m a 0 fd tl (cy + 1)), .bool true]) (by simp [results, Tryd.f26, go_sem, s0, s1, s2, s3, s4, s5, s6, s7, s8]) rfl ?_
  exact ⟨rfl, HE.out⟩
theorem sgo_c (C : Cf) (hr : Right C.a C.b C.c C.d) (l j c m a p : Int) (fd : Bool) (tl cy : Int) (hc : -1000000000000 ≤ c ∧ c ≤ 1000000000000) (hy : -1000000000000 ≤ cy ∧ cy ≤ 1000000000000) (w : World) :
    Calls Tryd.prog 26 #[(colV l j c m a p fd tl cy), .int .i64 C.a] w fun e w' => e = .returned (.tuple #[(nextSwept C ⟨l, j, c, m, a, p, fd, tl, cy⟩).v, .bool (decide (¬ c + 1 < C.a))]) ∧ Below w.heap.size w w' := by
  have hn : 1 ≤ C.a ∧ C.a ≤ 5000 := by unfold Right at hr; omega
  unfold nextSwept
  by_cases h : c + 1 < C.a
  · simp only [if_pos h]; rw [decide_eq_false (fun q => q h)]; exact sgo_more l j c m a p fd tl cy _ hn hc hy h w
  · simp only [if_neg h]; rw [decide_eq_true h]
    by_cases h2 : C.a ≤ c
    · exact sgo_past l j c m a p fd tl cy _ hn hc hy h2 w
    · exact sgo_last l j c m a p fd tl cy _ hn hc hy h h2 w
end Go.Proofs.YtganbjgkobmdkaaDoor
