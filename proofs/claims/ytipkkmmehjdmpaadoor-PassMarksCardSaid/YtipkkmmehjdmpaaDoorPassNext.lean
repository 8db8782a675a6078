/- next and load of package pass. -/
import Derived.Test.YtipkkmmehjdmpaaDoorColF
import Derived.Test.YtipkkmmehjdmpaaDoorColPure
import Derived.Test.YtipkkmmehjdmpaaDoorPlaceAt
namespace Go.Proofs.YtipkkmmehjdmpaaDoor
open Go Go.RowKit
set_option maxRecDepth 100000
attribute [local go_sem ↓] Go.wp_at_zero Go.wp_at_succ

theorem pnext_more (l j c m a p : Int) (fd : Bool) (tl cy : Int) (n : Int) (hn : 1 ≤ n ∧ n ≤ 5000) (hc : -1000000000000 ≤ c ∧ c ≤ 1000000000000) (h : c + 1 < n) (w : World) :
    Calls Tryd.prog 35 #[(colV l j c m a p fd tl cy), .int .i64 n] w fun e w' => e = .returned (colV 4 j (c + 1) m a p fd tl cy) ∧ Below w.heap.size w w' := by
  have hw1 : IntKind.i64.wrap (n - 1) = n - 1 := IntWalk.i64_in _ (by omega)
  have hw2 : IntKind.i64.wrap (c + 1) = c + 1 := IntWalk.i64_in _ (by omega)
  have hlt : c < n - 1 := by omega
  clear hn hc h
  go_enter Tryd.func35, Tryd.ntmps35
  go_wp2_with fail
  refine bodyPost_ret (v := (colV 4 j (c + 1) m a p fd tl cy)) (by simp [results, Tryd.f35, go_sem]) rfl ?_
  exact ⟨rfl, below_on (below_new _ _) _⟩
theorem pnext_again (l j c m a p : Int) (tl cy : Int) (n : Int) (hn : 1 ≤ n ∧ n ≤ 5000) (hc : -1000000000000 ≤ c ∧ c ≤ 1000000000000) (h : ¬ c + 1 < n) (w : World) :
    Calls Tryd.prog 35 #[(colV l j c m a p true tl cy), .int .i64 n] w fun e w' => e = .returned (colV 3 j (c + 1) m a p true tl cy) ∧ Below w.heap.size w w' := by
  have hw1 : IntKind.i64.wrap (n - 1) = n - 1 := IntWalk.i64_in _ (by omega)
  have hw2 : IntKind.i64.wrap (c + 1) = c + 1 := IntWalk.i64_in _ (by omega)
  have hlt : ¬ c < n - 1 := by omega
  clear hn hc h
  go_enter Tryd.func35, Tryd.ntmps35
  go_wp2_with fail
  refine bodyPost_ret (v := (colV 3 j (c + 1) m a p true tl cy)) (by simp [results, Tryd.f35, go_sem]) rfl ?_
  exact ⟨rfl, below_on (below_new _ _) _⟩
theorem pnext_over (l j c m a p : Int) (tl cy : Int) (n : Int) (hn : 1 ≤ n ∧ n ≤ 5000) (hc : -1000000000000 ≤ c ∧ c ≤ 1000000000000) (h : ¬ c + 1 < n) (w : World) :
    Calls Tryd.prog 35 #[(colV l j c m a p false tl cy), .int .i64 n] w fun e w' => e = .returned (colV 10 j (c + 1) 0 a p false tl cy) ∧ Below w.heap.size w w' := by
  have hw1 : IntKind.i64.wrap (n - 1) = n - 1 := IntWalk.i64_in _ (by omega)
  have hw2 : IntKind.i64.wrap (c + 1) = c + 1 := IntWalk.i64_in _ (by omega)
  have hlt : ¬ c < n - 1 := by omega
  clear hn hc h
  go_enter Tryd.func35, Tryd.ntmps35
  go_wp2_with fail
  refine bodyPost_ret (v := (colV 10 j (c + 1) 0 a p false tl cy)) (by simp [results, Tryd.f35, go_sem]) rfl ?_
  exact ⟨rfl, below_on (below_new _ _) _⟩
theorem pnext_c (C : Cf) (hr : Right C.a C.b C.c C.d) (l j c m a p : Int) (fd : Bool) (tl cy : Int) (hc : -1000000000000 ≤ c ∧ c ≤ 1000000000000) (w : World) :
    Calls Tryd.prog 35 #[(colV l j c m a p fd tl cy), .int .i64 C.a] w fun e w' => e = .returned (nextCell C ⟨l, j, c, m, a, p, fd, tl, cy⟩).v ∧ Below w.heap.size w w' := by
  have hn : 1 ≤ C.a ∧ C.a ≤ 5000 := by unfold Right at hr; omega
  unfold nextCell
  by_cases h : c + 1 < C.a
  · simp only [if_pos h]; exact pnext_more l j c m a p fd tl cy _ hn hc h w
  · cases fd
    · simp only [if_neg h]; exact pnext_over l j c m a p tl cy _ hn hc h w
    · simp only [if_neg h]; exact pnext_again l j c m a p tl cy _ hn hc h w
set_option maxHeartbeats 3200000 in
theorem pload_cell {w : World} {H A G : Nat} {C : Cf} {s : Dy} (hH : HAt w H A G C s) (hu : s.U) (_ : SpansAt w) (_ : Right C.a C.b C.c C.d) (l j c m a p : Int) (fd : Bool) (tl cy : Int) (i : Int) (hl : 0 ≤ l ∧ l ≤ 100) (u : Nat) (hu6 : u < 18446744073709551616) (hT : z5 C.n 1 i (s.f i.toNat) = (u : Int)) (hcl : isC u) :
    Calls Tryd.prog 29 #[.pointer (some ⟨H, 0, none⟩), (colV l j c m a p fd tl cy), .int .i64 i] w (HP w H A G C (s.act C 1 i 0 0) (colV (l + 1) j c m (u : Int) p fd tl cy)) := by
  have HC0 := Lib.hid (ColF.start hH ⟨l, j, c, m, a, p, fd, tl, cy⟩)
  have HD : Hid (∀ W, HAt W H A G C s → Calls Tryd.prog 34 #[.pointer (some ⟨H, 0, none⟩), .int .i64 i] W (HP W H A G C (s.act C 1 i 0 0) (.int .u64 (z5 C.n 1 i (s.f (i).toNat))))) := Lib.hid (fun W hW => hLoad_c (w := W) hW hu i)
  have HI : Hid (∀ W, Calls Tryd.prog 52 #[.int .u64 (u : Int)] W fun e w' => e = .returned (.tuple #[.int .i64 (cellK u), .bool true]) ∧ W = w') := Lib.hid (fun W => by have := isCell_c u hu6 W; rw [decide_eq_true hcl] at this; exact this)
  generalize cellK u = k at *
  generalize (s.act C 1 i 0 0) = s' at *
  generalize (z5 C.n 1 i (s.f (i).toNat)) = T at *
  subst hT
  have hw1 : IntKind.i64.wrap (l + 1) = l + 1 := IntWalk.i64_in _ (by omega)
  clear hH hu hl hu6 hcl
  obtain ⟨a0, a1, a2, a3, a4, a5, a6, a7, a8, af⟩ := HC0.out.cells
  dsimp only at a0 a1 a2 a3 a4 a5 a6 a7 a8
  go_enter Tryd.func29, Tryd.ntmps29
  go_wp2_with fail
  refine (HD.out _ HC0.out.hand).mono ?_
  rintro e V1 ⟨rfl, hF, hs⟩
  have HC1 := Lib.hid (HC0.out.handed hF hs)
  clear HC0 hF hs
  clear HD a0 a1 a2 a3 a4 a5 a6 a7 a8 af
  obtain ⟨a0, a1, a2, a3, a4, a5, a6, a7, a8, af⟩ := HC1.out.cells
  dsimp only at a0 a1 a2 a3 a4 a5 a6 a7 a8
  go_wp2_with fail
  have HC2 := Lib.hid ((HC1.out.setA (u : Int)).setL (l + 1))
  clear HC1 a0 a1 a2 a3 a4 a5 a6 a7 a8 af
  obtain ⟨a0, a1, a2, a3, a4, a5, a6, a7, a8, af⟩ := HC2.out.cells
  dsimp only at a0 a1 a2 a3 a4 a5 a6 a7 a8
  refine (HI.out _).mono ?_
  rintro e V2 ⟨rfl, rfl⟩
  clear HI a0 a1 a2 a3 a4 a5 a6 a7 a8 af
  have HCe := Lib.hid HC2.out
  obtain ⟨d0, d1, d2, d3, d4, d5, d6, d7, d8, df⟩ := HCe.out.cells
  dsimp only at d0 d1 d2 d3 d4 d5 d6 d7 d8
  obtain ⟨c0, c1, c2, c3, c4, c5, c6, c7, c8, cf⟩ := HCe.out.cellsY
  obtain ⟨s0, s1, s2, s3, s4, s5, s6, s7, s8, sf⟩ := (HCe.out.last ⟨(l + 1), j, c, m, (u : Int), p, fd, tl, cy⟩).cells
  dsimp only at s0 s1 s2 s3 s4 s5 s6 s7 s8
  clear HC2 
  go_wp2_with fail
  refine bodyPost_ret (v := (colV (l + 1) j c m (u : Int) p fd tl cy)) (by simp [results, Tryd.f29, go_sem, s0, s1, s2, s3, s4, s5, s6, s7, s8]) rfl ?_
  exact ⟨rfl, HCe.out.fin ⟨(l + 1), j, c, m, (u : Int), p, fd, tl, cy⟩⟩
set_option maxHeartbeats 3200000 in
theorem pload_no {w : World} {H A G : Nat} {C : Cf} {s : Dy} (hH : HAt w H A G C s) (hu : s.U) (_ : SpansAt w) (_ : Right C.a C.b C.c C.d) (l j c m a p : Int) (fd : Bool) (tl cy : Int) (i : Int) (hl : 0 ≤ l ∧ l ≤ 100) (u : Nat) (hu6 : u < 18446744073709551616) (hT : z5 C.n 1 i (s.f i.toNat) = (u : Int)) (hcl : ¬ isC u) :
    Calls Tryd.prog 29 #[.pointer (some ⟨H, 0, none⟩), (colV l j c m a p fd tl cy), .int .i64 i] w (HP w H A G C (s.act C 1 i 0 0) (colV (l + 2) j c m (u : Int) p fd tl cy)) := by
  have HC0 := Lib.hid (ColF.start hH ⟨l, j, c, m, a, p, fd, tl, cy⟩)
  have HD : Hid (∀ W, HAt W H A G C s → Calls Tryd.prog 34 #[.pointer (some ⟨H, 0, none⟩), .int .i64 i] W (HP W H A G C (s.act C 1 i 0 0) (.int .u64 (z5 C.n 1 i (s.f (i).toNat))))) := Lib.hid (fun W hW => hLoad_c (w := W) hW hu i)
  have HI : Hid (∀ W, Calls Tryd.prog 52 #[.int .u64 (u : Int)] W fun e w' => e = .returned (.tuple #[.int .i64 (cellK u), .bool false]) ∧ W = w') := Lib.hid (fun W => by have := isCell_c u hu6 W; rw [decide_eq_false hcl] at this; exact this)
  generalize cellK u = k at *
  generalize (s.act C 1 i 0 0) = s' at *
  generalize (z5 C.n 1 i (s.f (i).toNat)) = T at *
  subst hT
  have hw1 : IntKind.i64.wrap (l + 1) = l + 1 := IntWalk.i64_in _ (by omega)
  have hw2 : IntKind.i64.wrap (l + 1 + 1) = l + 2 := by rw [IntWalk.i64_in _ (by omega)]; omega
  clear hH hu hl hu6 hcl
  obtain ⟨a0, a1, a2, a3, a4, a5, a6, a7, a8, af⟩ := HC0.out.cells
  dsimp only at a0 a1 a2 a3 a4 a5 a6 a7 a8
  go_enter Tryd.func29, Tryd.ntmps29
  go_wp2_with fail
  refine (HD.out _ HC0.out.hand).mono ?_
  rintro e V1 ⟨rfl, hF, hs⟩
  have HC1 := Lib.hid (HC0.out.handed hF hs)
  clear HC0 hF hs
  clear HD a0 a1 a2 a3 a4 a5 a6 a7 a8 af
  obtain ⟨a0, a1, a2, a3, a4, a5, a6, a7, a8, af⟩ := HC1.out.cells
  dsimp only at a0 a1 a2 a3 a4 a5 a6 a7 a8
  go_wp2_with fail
  have HC2 := Lib.hid ((HC1.out.setA (u : Int)).setL (l + 1))
  clear HC1 a0 a1 a2 a3 a4 a5 a6 a7 a8 af
  obtain ⟨a0, a1, a2, a3, a4, a5, a6, a7, a8, af⟩ := HC2.out.cells
  dsimp only at a0 a1 a2 a3 a4 a5 a6 a7 a8
  refine (HI.out _).mono ?_
  rintro e V2 ⟨rfl, rfl⟩
  clear HI a0 a1 a2 a3 a4 a5 a6 a7 a8 af
  have HCe := Lib.hid (HC2.out.setL (l + 2))
  obtain ⟨b0, b1, b2, b3, b4, b5, b6, b7, b8, bf⟩ := HC2.out.cells
  dsimp only at b0 b1 b2 b3 b4 b5 b6 b7 b8
  obtain ⟨d0, d1, d2, d3, d4, d5, d6, d7, d8, df⟩ := HCe.out.cells
  dsimp only at d0 d1 d2 d3 d4 d5 d6 d7 d8
  obtain ⟨c0, c1, c2, c3, c4, c5, c6, c7, c8, cf⟩ := HCe.out.cellsY
  obtain ⟨s0, s1, s2, s3, s4, s5, s6, s7, s8, sf⟩ := (HCe.out.last ⟨(l + 2), j, c, m, (u : Int), p, fd, tl, cy⟩).cells
  dsimp only at s0 s1 s2 s3 s4 s5 s6 s7 s8
  clear HC2 
  go_wp2_with fail
  refine bodyPost_ret (v := (colV (l + 2) j c m (u : Int) p fd tl cy)) (by simp [results, Tryd.f29, go_sem, s0, s1, s2, s3, s4, s5, s6, s7, s8]) rfl ?_
  exact ⟨rfl, HCe.out.fin ⟨(l + 2), j, c, m, (u : Int), p, fd, tl, cy⟩⟩
end Go.Proofs.YtipkkmmehjdmpaaDoor
