/- The document's layer 19: Marks, Begin; a step as one function. -/
import Derived.Test.YthdcapkchjamoaaGreatDoorM7
import Derived.Test.YthdcapkchjamoaaGreatDoorM9
import Derived.Test.YthdcapkchjamoaaGreatDoorM10
import Derived.Test.YthdcapkchjamoaaGreatDoorM11
import Derived.Test.YthdcapkchjamoaaGreatDoorM12
namespace Go.Proofs.YthdcapkchjamoaaGreatDoor
open Go Go.RowKit
set_option maxRecDepth 100000
attribute [local go_sem ↓] Go.wp_at_zero Go.wp_at_succ

theorem rMarks_c (l j c m a p : Int) (fd : Bool) (tl cy : Int) (w : World) : Calls Tryz.prog 6 #[(colV l j c m a p fd tl cy)] w fun e w' => e = .returned (.bool (marksL l)) ∧ Below w.heap.size w w' := by
  by_cases h0 : 0 < l
  · by_cases h1 : l < 14
    · have hm : marksL l = true := by unfold marksL; simp; omega
      rw [hm]
      have d0 : decide (0 < l) = true := decide_eq_true h0
      have d1 : decide (l < 14) = true := decide_eq_true h1
      clear hm h0 h1
      go_enter Tryz.func6, Tryz.ntmps6
      go_wp2_with fail
      go_ret
      exact ⟨rfl, below_new _ _⟩
    by_cases h2 : l = 15
    · subst h2
      rw [show marksL 15 = true from rfl]
      clear h0 h1
      go_enter Tryz.func6, Tryz.ntmps6
      go_wp2_with fail
      go_ret
      exact ⟨rfl, below_new _ _⟩
    by_cases h3 : l = 16
    · subst h3
      rw [show marksL 16 = true from rfl]
      clear h0 h1 h2
      go_enter Tryz.func6, Tryz.ntmps6
      go_wp2_with fail
      go_ret
      exact ⟨rfl, below_new _ _⟩
    have hm : marksL l = false := by unfold marksL; simp; omega
    rw [hm]
    have d0 : decide (0 < l) = true := decide_eq_true h0
    have d1 : decide (l < 14) = false := decide_eq_false h1
    have d2 : (l == 15) = false := by simpa using h2
    have d3 : (l == 16) = false := by simpa using h3
    clear hm h0 h1 h2 h3
    go_enter Tryz.func6, Tryz.ntmps6
    go_wp2_with fail
    go_ret
    exact ⟨rfl, below_new _ _⟩
  have hm : marksL l = false := by unfold marksL; simp; omega
  rw [hm]
  have d0 : decide (0 < l) = false := decide_eq_false h0
  have d2 : (l == 15) = false := by simp; omega
  have d3 : (l == 16) = false := by simp; omega
  clear hm h0
  go_enter Tryz.func6, Tryz.ntmps6
  go_wp2_with fail
  go_ret
  exact ⟨rfl, below_new _ _⟩
theorem rBegin19_c (a b c d : Int) (ha : -1000000 ≤ a ∧ a ≤ 1000000) (w : World) : Calls Tryz.prog 15 #[.agg #[.int .i64 a, .int .i64 b, .int .i64 c, .int .i64 d]] w fun e w' => e = .returned (colV 1 0 0 0 0 0 false (a - 1) 0) ∧ Below w.heap.size w w' := by
  have hw : IntKind.i64.wrap (a - 1) = a - 1 := IntWalk.i64_in _ (by omega)
  clear ha
  go_enter Tryz.func15, Tryz.ntmps15
  go_wp2_with fail
  refine bodyPost_ret (v := (colV 1 0 0 0 0 0 false (a - 1) 0)) (by simp [results, Tryz.f15, go_sem]) rfl ?_
  exact ⟨rfl, below_on (below_new _ _) _⟩
theorem size_putH0 (w : World) (X : Nat) : (putH w X 0 0 0 0 0).heap.size = w.heap.size := by simp [World.setCell]
theorem ColR.clear {w : World} {X : Nat} {va : Option Addr} {cap N : Nat} {C : Cf} {s : Dy} (hH : RAt w X va cap N C s) (hL : ∀ R, va = some ⟨R, 0, none⟩ → R < w.heap.size) (x : Co) : ColR w (((putH w X 0 0 0 0 0).alloc (.cells #[.int .i64 x.l, .int .i64 x.j, .int .i64 x.c, .int .i64 x.m, .int .u64 x.a, .int .u64 x.p, .bool x.fd, .int .i64 x.tl, .int .i64 x.cy] 28)).alloc (.cells #[.int .i64 0, .int .i64 0, .int .i64 0, .int .i64 0, .int .u64 0, .int .u64 0, .bool false, .int .i64 0, .int .i64 0] 28)) X va cap N C s.clr x := by
  have hz := size_putH0 w X
  have h := ColR.start (s := s.clr) (hH.note 0 0 0 0 0) (fun R e => by rw [hz]; exact hL R e) x
  have hs : Sav (RS X va) w (putH w X 0 0 0 0 0) := (((((Sav.of (Below.refl _ w)).set (p := ⟨X, 5, none⟩) (.inl (.inl rfl)) _).set (p := ⟨X, 6, none⟩) (.inl (.inl rfl)) _).set (p := ⟨X, 7, none⟩) (.inl (.inl rfl)) _).set (p := ⟨X, 8, none⟩) (.inl (.inl rfl)) _).set (p := ⟨X, 9, none⟩) (.inl (.inl rfl)) _
  obtain ⟨c1, c2, c3, c4, c5, c6⟩ := h
  rw [hz] at c1 c2 c5 c6
  exact ⟨c1, c2, c3, hs.trans c4, c5, c6⟩
set_option maxHeartbeats 3200000 in
theorem rcol_A {w : World} {X : Nat} {va : Option Addr} {cap N : Nat} {C : Cf} {s s' : Dy} (hH : RAt w X va cap N C s) (hL : ∀ R, va = some ⟨R, 0, none⟩ → R < w.heap.size) (l j c m a p : Int) (fd : Bool) (tl cy : Int) (y : Co) (bo : Bool) (h2 : l ≤ 2)
    (hst : ∀ W, RAt W X va cap N C s.clr → (∀ R, va = some ⟨R, 0, none⟩ → R < W.heap.size) → Calls Tryz.prog 27 #[.pointer (some ⟨X, 0, none⟩), (colV l j c m a p fd tl cy)] W (RP W X va cap N C s' (.tuple #[y.v, .bool bo]))) :
    Calls Tryz.prog 12 #[.pointer (some ⟨X, 0, none⟩), (colV l j c m a p fd tl cy)] w (RP w X va cap N C s' (.tuple #[y.v, .int .i64 0])) := by
  have HC0 := Lib.hid (ColR.start hH hL ⟨l, j, c, m, a, p, fd, tl, cy⟩)
  have HS := Lib.hid hst
  obtain ⟨_, _, h5, h6, h7, h8, h9', hf⟩ := hH.cells
  have d2 : decide (l ≤ 2) = true := decide_eq_true h2
  clear hst h2
  obtain ⟨a0, a1, a2, a3, a4, a5, a6, a7, a8, af⟩ := HC0.out.cells
  dsimp only at a0 a1 a2 a3 a4 a5 a6 a7 a8
  have hXw := HC0.out.lX
  have hXn : X ≠ w.heap.size := by omega
  have hXm : X ≠ w.heap.size + 1 := by omega
  go_enter Tryz.func12, Tryz.ntmps12
  go_wp2_with fail
  have HC1 : Hid (ColR w (((((((w.setCell ⟨X, 5, none⟩ (.int .i64 0)).setCell ⟨X, 6, none⟩ (.int .i64 0)).setCell ⟨X, 7, none⟩ (.int .u64 0)).setCell ⟨X, 8, none⟩ (.int .u64 0)).setCell ⟨X, 9, none⟩ (.int .u64 0)).alloc (.cells #[.int .i64 l, .int .i64 j, .int .i64 c, .int .i64 m, .int .u64 a, .int .u64 p, .bool fd, .int .i64 tl, .int .i64 cy] 28)).alloc (.cells #[.int .i64 0, .int .i64 0, .int .i64 0, .int .i64 0, .int .u64 0, .int .u64 0, .bool false, .int .i64 0, .int .i64 0] 28)) X va cap N C s.clr ⟨l, j, c, m, a, p, fd, tl, cy⟩) := Lib.hid (ColR.clear hH hL ⟨l, j, c, m, a, p, fd, tl, cy⟩)
  clear hH hL HC0 h5 h6 h7 h8 h9' hf hXw hXn hXm a0 a1 a2 a3 a4 a5 a6 a7 a8 af
  generalize ((((((w.setCell ⟨X, 5, none⟩ (.int .i64 0)).setCell ⟨X, 6, none⟩ (.int .i64 0)).setCell ⟨X, 7, none⟩ (.int .u64 0)).setCell ⟨X, 8, none⟩ (.int .u64 0)).setCell ⟨X, 9, none⟩ (.int .u64 0)).alloc (.cells #[.int .i64 l, .int .i64 j, .int .i64 c, .int .i64 m, .int .u64 a, .int .u64 p, .bool fd, .int .i64 tl, .int .i64 cy] 28)).alloc (.cells #[.int .i64 0, .int .i64 0, .int .i64 0, .int .i64 0, .int .u64 0, .int .u64 0, .bool false, .int .i64 0, .int .i64 0] 28) = W1 at *
  refine (HS.out _ HC1.out.hand HC1.out.ltR).mono ?_
  rintro e V1 ⟨rfl, hF, hs⟩
  have HC2 := Lib.hid (HC1.out.handed hF hs)
  clear hF hs HC1 HS
  have hBl : w.heap.size + 1 < V1.heap.size := HC2.out.size
  have hBn : w.heap.size + 1 ≠ V1.heap.size := by omega
  obtain ⟨c0, c1, c2, c3, c4, c5, c6, c7, c8, cf⟩ := HC2.out.cellsY
  obtain ⟨s0, s1, s2, s3, s4, s5, s6, s7, s8, sf⟩ := ((HC2.out.last y).below (below_new _ (.cells #[.int .i64 y.l, .int .i64 y.j, .int .i64 y.c, .int .i64 y.m, .int .u64 y.a, .int .u64 y.p, .bool y.fd, .int .i64 y.tl, .int .i64 y.cy] 28))).cells
  go_wp2_with fail
  refine bodyPost_ret (v := .tuple #[(colV y.l y.j y.c y.m y.a y.p y.fd y.tl y.cy), .int .i64 0]) (by simp [results, Tryz.f12, go_sem, s0, s1, s2, s3, s4, s5, s6, s7, s8]) rfl ?_
  exact ⟨rfl, (HC2.out.fin y).1.below (below_new _ _), (HC2.out.fin y).2.trans (Sav.of (below_new _ _))⟩
set_option maxHeartbeats 3200000 in
theorem rcol_B {w : World} {X : Nat} {va : Option Addr} {cap N : Nat} {C : Cf} {s s' : Dy} (hH : RAt w X va cap N C s) (hL : ∀ R, va = some ⟨R, 0, none⟩ → R < w.heap.size) (l j c m a p : Int) (fd : Bool) (tl cy : Int) (y : Co) (bo : Bool) (h2 : ¬ l ≤ 2) (h9 : l ≤ 9)
    (hst : ∀ W, RAt W X va cap N C s.clr → (∀ R, va = some ⟨R, 0, none⟩ → R < W.heap.size) → Calls Tryz.prog 28 #[.pointer (some ⟨X, 0, none⟩), (colV l j c m a p fd tl cy)] W (RP W X va cap N C s' (.tuple #[y.v, .bool bo]))) :
    Calls Tryz.prog 12 #[.pointer (some ⟨X, 0, none⟩), (colV l j c m a p fd tl cy)] w (RP w X va cap N C s' (.tuple #[y.v, .int .i64 0])) := by
  have HC0 := Lib.hid (ColR.start hH hL ⟨l, j, c, m, a, p, fd, tl, cy⟩)
  have HS := Lib.hid hst
  obtain ⟨_, _, h5, h6, h7, h8, h9', hf⟩ := hH.cells
  have d2 : decide (l ≤ 2) = false := decide_eq_false h2
  have d9 : decide (l ≤ 9) = true := decide_eq_true h9
  clear hst h2 h9
  obtain ⟨a0, a1, a2, a3, a4, a5, a6, a7, a8, af⟩ := HC0.out.cells
  dsimp only at a0 a1 a2 a3 a4 a5 a6 a7 a8
  have hXw := HC0.out.lX
  have hXn : X ≠ w.heap.size := by omega
  have hXm : X ≠ w.heap.size + 1 := by omega
  go_enter Tryz.func12, Tryz.ntmps12
  go_wp2_with fail
  have HC1 : Hid (ColR w (((((((w.setCell ⟨X, 5, none⟩ (.int .i64 0)).setCell ⟨X, 6, none⟩ (.int .i64 0)).setCell ⟨X, 7, none⟩ (.int .u64 0)).setCell ⟨X, 8, none⟩ (.int .u64 0)).setCell ⟨X, 9, none⟩ (.int .u64 0)).alloc (.cells #[.int .i64 l, .int .i64 j, .int .i64 c, .int .i64 m, .int .u64 a, .int .u64 p, .bool fd, .int .i64 tl, .int .i64 cy] 28)).alloc (.cells #[.int .i64 0, .int .i64 0, .int .i64 0, .int .i64 0, .int .u64 0, .int .u64 0, .bool false, .int .i64 0, .int .i64 0] 28)) X va cap N C s.clr ⟨l, j, c, m, a, p, fd, tl, cy⟩) := Lib.hid (ColR.clear hH hL ⟨l, j, c, m, a, p, fd, tl, cy⟩)
  clear hH hL HC0 h5 h6 h7 h8 h9' hf hXw hXn hXm a0 a1 a2 a3 a4 a5 a6 a7 a8 af
  generalize ((((((w.setCell ⟨X, 5, none⟩ (.int .i64 0)).setCell ⟨X, 6, none⟩ (.int .i64 0)).setCell ⟨X, 7, none⟩ (.int .u64 0)).setCell ⟨X, 8, none⟩ (.int .u64 0)).setCell ⟨X, 9, none⟩ (.int .u64 0)).alloc (.cells #[.int .i64 l, .int .i64 j, .int .i64 c, .int .i64 m, .int .u64 a, .int .u64 p, .bool fd, .int .i64 tl, .int .i64 cy] 28)).alloc (.cells #[.int .i64 0, .int .i64 0, .int .i64 0, .int .i64 0, .int .u64 0, .int .u64 0, .bool false, .int .i64 0, .int .i64 0] 28) = W1 at *
  refine (HS.out _ HC1.out.hand HC1.out.ltR).mono ?_
  rintro e V1 ⟨rfl, hF, hs⟩
  have HC2 := Lib.hid (HC1.out.handed hF hs)
  clear hF hs HC1 HS
  have hBl : w.heap.size + 1 < V1.heap.size := HC2.out.size
  have hBn : w.heap.size + 1 ≠ V1.heap.size := by omega
  obtain ⟨c0, c1, c2, c3, c4, c5, c6, c7, c8, cf⟩ := HC2.out.cellsY
  obtain ⟨s0, s1, s2, s3, s4, s5, s6, s7, s8, sf⟩ := ((HC2.out.last y).below (below_new _ (.cells #[.int .i64 y.l, .int .i64 y.j, .int .i64 y.c, .int .i64 y.m, .int .u64 y.a, .int .u64 y.p, .bool y.fd, .int .i64 y.tl, .int .i64 y.cy] 28))).cells
  go_wp2_with fail
  refine bodyPost_ret (v := .tuple #[(colV y.l y.j y.c y.m y.a y.p y.fd y.tl y.cy), .int .i64 0]) (by simp [results, Tryz.f12, go_sem, s0, s1, s2, s3, s4, s5, s6, s7, s8]) rfl ?_
  exact ⟨rfl, (HC2.out.fin y).1.below (below_new _ _), (HC2.out.fin y).2.trans (Sav.of (below_new _ _))⟩
set_option maxHeartbeats 3200000 in
theorem rcol_C_flip {w : World} {X : Nat} {va : Option Addr} {cap N : Nat} {C : Cf} {s s' : Dy} (hH : RAt w X va cap N C s) (hL : ∀ R, va = some ⟨R, 0, none⟩ → R < w.heap.size) (l j c m a p : Int) (fd : Bool) (tl cy : Int) (y : Co) (bo : Bool) (h2 : ¬ l ≤ 2) (h9 : ¬ l ≤ 9) (h16 : l ≤ 16)
    (hst : ∀ W, RAt W X va cap N C s.clr → (∀ R, va = some ⟨R, 0, none⟩ → R < W.heap.size) → Calls Tryz.prog 29 #[.pointer (some ⟨X, 0, none⟩), (colV l j c m a p fd tl cy)] W (RP W X va cap N C s' (.tuple #[y.v, .bool true, .bool bo]))) :
    Calls Tryz.prog 12 #[.pointer (some ⟨X, 0, none⟩), (colV l j c m a p fd tl cy)] w (RP w X va cap N C s' (.tuple #[y.v, .int .i64 1])) := by
  have HC0 := Lib.hid (ColR.start hH hL ⟨l, j, c, m, a, p, fd, tl, cy⟩)
  have HS := Lib.hid hst
  obtain ⟨_, _, h5, h6, h7, h8, h9', hf⟩ := hH.cells
  have d2 : decide (l ≤ 2) = false := decide_eq_false h2
  have d9 : decide (l ≤ 9) = false := decide_eq_false h9
  have d16 : decide (l ≤ 16) = true := decide_eq_true h16
  clear hst h2 h9 h16
  obtain ⟨a0, a1, a2, a3, a4, a5, a6, a7, a8, af⟩ := HC0.out.cells
  dsimp only at a0 a1 a2 a3 a4 a5 a6 a7 a8
  have hXw := HC0.out.lX
  have hXn : X ≠ w.heap.size := by omega
  have hXm : X ≠ w.heap.size + 1 := by omega
  go_enter Tryz.func12, Tryz.ntmps12
  go_wp2_with fail
  have HC1 : Hid (ColR w (((((((w.setCell ⟨X, 5, none⟩ (.int .i64 0)).setCell ⟨X, 6, none⟩ (.int .i64 0)).setCell ⟨X, 7, none⟩ (.int .u64 0)).setCell ⟨X, 8, none⟩ (.int .u64 0)).setCell ⟨X, 9, none⟩ (.int .u64 0)).alloc (.cells #[.int .i64 l, .int .i64 j, .int .i64 c, .int .i64 m, .int .u64 a, .int .u64 p, .bool fd, .int .i64 tl, .int .i64 cy] 28)).alloc (.cells #[.int .i64 0, .int .i64 0, .int .i64 0, .int .i64 0, .int .u64 0, .int .u64 0, .bool false, .int .i64 0, .int .i64 0] 28)) X va cap N C s.clr ⟨l, j, c, m, a, p, fd, tl, cy⟩) := Lib.hid (ColR.clear hH hL ⟨l, j, c, m, a, p, fd, tl, cy⟩)
  clear hH hL HC0 h5 h6 h7 h8 h9' hf hXw hXn hXm a0 a1 a2 a3 a4 a5 a6 a7 a8 af
  generalize ((((((w.setCell ⟨X, 5, none⟩ (.int .i64 0)).setCell ⟨X, 6, none⟩ (.int .i64 0)).setCell ⟨X, 7, none⟩ (.int .u64 0)).setCell ⟨X, 8, none⟩ (.int .u64 0)).setCell ⟨X, 9, none⟩ (.int .u64 0)).alloc (.cells #[.int .i64 l, .int .i64 j, .int .i64 c, .int .i64 m, .int .u64 a, .int .u64 p, .bool fd, .int .i64 tl, .int .i64 cy] 28)).alloc (.cells #[.int .i64 0, .int .i64 0, .int .i64 0, .int .i64 0, .int .u64 0, .int .u64 0, .bool false, .int .i64 0, .int .i64 0] 28) = W1 at *
  refine (HS.out _ HC1.out.hand HC1.out.ltR).mono ?_
  rintro e V1 ⟨rfl, hF, hs⟩
  have HC2 := Lib.hid (HC1.out.handed hF hs)
  clear hF hs HC1 HS
  have hBl : w.heap.size + 1 < V1.heap.size := HC2.out.size
  have hBn : w.heap.size + 1 ≠ V1.heap.size := by omega
  obtain ⟨c0, c1, c2, c3, c4, c5, c6, c7, c8, cf⟩ := HC2.out.cellsY
  obtain ⟨s0, s1, s2, s3, s4, s5, s6, s7, s8, sf⟩ := ((HC2.out.last y).below (below_new _ (.cells #[.int .i64 y.l, .int .i64 y.j, .int .i64 y.c, .int .i64 y.m, .int .u64 y.a, .int .u64 y.p, .bool y.fd, .int .i64 y.tl, .int .i64 y.cy] 28))).cells
  go_wp2_with fail
  refine bodyPost_ret (v := .tuple #[(colV y.l y.j y.c y.m y.a y.p y.fd y.tl y.cy), .int .i64 1]) (by simp [results, Tryz.f12, go_sem, s0, s1, s2, s3, s4, s5, s6, s7, s8]) rfl ?_
  exact ⟨rfl, (HC2.out.fin y).1.below (below_new _ _), (HC2.out.fin y).2.trans (Sav.of (below_new _ _))⟩
set_option maxHeartbeats 3200000 in
theorem rcol_C_no {w : World} {X : Nat} {va : Option Addr} {cap N : Nat} {C : Cf} {s s' : Dy} (hH : RAt w X va cap N C s) (hL : ∀ R, va = some ⟨R, 0, none⟩ → R < w.heap.size) (l j c m a p : Int) (fd : Bool) (tl cy : Int) (y : Co) (bo : Bool) (h2 : ¬ l ≤ 2) (h9 : ¬ l ≤ 9) (h16 : l ≤ 16)
    (hst : ∀ W, RAt W X va cap N C s.clr → (∀ R, va = some ⟨R, 0, none⟩ → R < W.heap.size) → Calls Tryz.prog 29 #[.pointer (some ⟨X, 0, none⟩), (colV l j c m a p fd tl cy)] W (RP W X va cap N C s' (.tuple #[y.v, .bool false, .bool bo]))) :
    Calls Tryz.prog 12 #[.pointer (some ⟨X, 0, none⟩), (colV l j c m a p fd tl cy)] w (RP w X va cap N C s' (.tuple #[y.v, .int .i64 0])) := by
  have HC0 := Lib.hid (ColR.start hH hL ⟨l, j, c, m, a, p, fd, tl, cy⟩)
  have HS := Lib.hid hst
  obtain ⟨_, _, h5, h6, h7, h8, h9', hf⟩ := hH.cells
  have d2 : decide (l ≤ 2) = false := decide_eq_false h2
  have d9 : decide (l ≤ 9) = false := decide_eq_false h9
  have d16 : decide (l ≤ 16) = true := decide_eq_true h16
  clear hst h2 h9 h16
  obtain ⟨a0, a1, a2, a3, a4, a5, a6, a7, a8, af⟩ := HC0.out.cells
  dsimp only at a0 a1 a2 a3 a4 a5 a6 a7 a8
  have hXw := HC0.out.lX
  have hXn : X ≠ w.heap.size := by omega
  have hXm : X ≠ w.heap.size + 1 := by omega
  go_enter Tryz.func12, Tryz.ntmps12
  go_wp2_with fail
  have HC1 : Hid (ColR w (((((((w.setCell ⟨X, 5, none⟩ (.int .i64 0)).setCell ⟨X, 6, none⟩ (.int .i64 0)).setCell ⟨X, 7, none⟩ (.int .u64 0)).setCell ⟨X, 8, none⟩ (.int .u64 0)).setCell ⟨X, 9, none⟩ (.int .u64 0)).alloc (.cells #[.int .i64 l, .int .i64 j, .int .i64 c, .int .i64 m, .int .u64 a, .int .u64 p, .bool fd, .int .i64 tl, .int .i64 cy] 28)).alloc (.cells #[.int .i64 0, .int .i64 0, .int .i64 0, .int .i64 0, .int .u64 0, .int .u64 0, .bool false, .int .i64 0, .int .i64 0] 28)) X va cap N C s.clr ⟨l, j, c, m, a, p, fd, tl, cy⟩) := Lib.hid (ColR.clear hH hL ⟨l, j, c, m, a, p, fd, tl, cy⟩)
  clear hH hL HC0 h5 h6 h7 h8 h9' hf hXw hXn hXm a0 a1 a2 a3 a4 a5 a6 a7 a8 af
  generalize ((((((w.setCell ⟨X, 5, none⟩ (.int .i64 0)).setCell ⟨X, 6, none⟩ (.int .i64 0)).setCell ⟨X, 7, none⟩ (.int .u64 0)).setCell ⟨X, 8, none⟩ (.int .u64 0)).setCell ⟨X, 9, none⟩ (.int .u64 0)).alloc (.cells #[.int .i64 l, .int .i64 j, .int .i64 c, .int .i64 m, .int .u64 a, .int .u64 p, .bool fd, .int .i64 tl, .int .i64 cy] 28)).alloc (.cells #[.int .i64 0, .int .i64 0, .int .i64 0, .int .i64 0, .int .u64 0, .int .u64 0, .bool false, .int .i64 0, .int .i64 0] 28) = W1 at *
  refine (HS.out _ HC1.out.hand HC1.out.ltR).mono ?_
  rintro e V1 ⟨rfl, hF, hs⟩
  have HC2 := Lib.hid (HC1.out.handed hF hs)
  clear hF hs HC1 HS
  have hBl : w.heap.size + 1 < V1.heap.size := HC2.out.size
  have hBn : w.heap.size + 1 ≠ V1.heap.size := by omega
  obtain ⟨c0, c1, c2, c3, c4, c5, c6, c7, c8, cf⟩ := HC2.out.cellsY
  obtain ⟨s0, s1, s2, s3, s4, s5, s6, s7, s8, sf⟩ := ((HC2.out.last y).below (below_new _ (.cells #[.int .i64 y.l, .int .i64 y.j, .int .i64 y.c, .int .i64 y.m, .int .u64 y.a, .int .u64 y.p, .bool y.fd, .int .i64 y.tl, .int .i64 y.cy] 28))).cells
  go_wp2_with fail
  refine bodyPost_ret (v := .tuple #[(colV y.l y.j y.c y.m y.a y.p y.fd y.tl y.cy), .int .i64 0]) (by simp [results, Tryz.f12, go_sem, s0, s1, s2, s3, s4, s5, s6, s7, s8]) rfl ?_
  exact ⟨rfl, (HC2.out.fin y).1.below (below_new _ _), (HC2.out.fin y).2.trans (Sav.of (below_new _ _))⟩
set_option maxHeartbeats 3200000 in
theorem rcol_D {w : World} {X : Nat} {va : Option Addr} {cap N : Nat} {C : Cf} {s s' : Dy} (hH : RAt w X va cap N C s) (hL : ∀ R, va = some ⟨R, 0, none⟩ → R < w.heap.size) (l j c m a p : Int) (fd : Bool) (tl cy : Int) (y : Co) (bo : Bool) (what : Int) (h2 : ¬ l ≤ 2) (h9 : ¬ l ≤ 9) (h16 : ¬ l ≤ 16)
    (hst : ∀ W, RAt W X va cap N C s.clr → (∀ R, va = some ⟨R, 0, none⟩ → R < W.heap.size) → Calls Tryz.prog 30 #[.pointer (some ⟨X, 0, none⟩), (colV l j c m a p fd tl cy)] W (RP W X va cap N C s' (.tuple #[y.v, .int .i64 what, .bool bo]))) :
    Calls Tryz.prog 12 #[.pointer (some ⟨X, 0, none⟩), (colV l j c m a p fd tl cy)] w (RP w X va cap N C s' (.tuple #[y.v, .int .i64 what])) := by
  have HC0 := Lib.hid (ColR.start hH hL ⟨l, j, c, m, a, p, fd, tl, cy⟩)
  have HS := Lib.hid hst
  obtain ⟨_, _, h5, h6, h7, h8, h9', hf⟩ := hH.cells
  have d2 : decide (l ≤ 2) = false := decide_eq_false h2
  have d9 : decide (l ≤ 9) = false := decide_eq_false h9
  have d16 : decide (l ≤ 16) = false := decide_eq_false h16
  clear hst h2 h9 h16
  obtain ⟨a0, a1, a2, a3, a4, a5, a6, a7, a8, af⟩ := HC0.out.cells
  dsimp only at a0 a1 a2 a3 a4 a5 a6 a7 a8
  have hXw := HC0.out.lX
  have hXn : X ≠ w.heap.size := by omega
  have hXm : X ≠ w.heap.size + 1 := by omega
  go_enter Tryz.func12, Tryz.ntmps12
  go_wp2_with fail
  have HC1 : Hid (ColR w (((((((w.setCell ⟨X, 5, none⟩ (.int .i64 0)).setCell ⟨X, 6, none⟩ (.int .i64 0)).setCell ⟨X, 7, none⟩ (.int .u64 0)).setCell ⟨X, 8, none⟩ (.int .u64 0)).setCell ⟨X, 9, none⟩ (.int .u64 0)).alloc (.cells #[.int .i64 l, .int .i64 j, .int .i64 c, .int .i64 m, .int .u64 a, .int .u64 p, .bool fd, .int .i64 tl, .int .i64 cy] 28)).alloc (.cells #[.int .i64 0, .int .i64 0, .int .i64 0, .int .i64 0, .int .u64 0, .int .u64 0, .bool false, .int .i64 0, .int .i64 0] 28)) X va cap N C s.clr ⟨l, j, c, m, a, p, fd, tl, cy⟩) := Lib.hid (ColR.clear hH hL ⟨l, j, c, m, a, p, fd, tl, cy⟩)
  clear hH hL HC0 h5 h6 h7 h8 h9' hf hXw hXn hXm a0 a1 a2 a3 a4 a5 a6 a7 a8 af
  generalize ((((((w.setCell ⟨X, 5, none⟩ (.int .i64 0)).setCell ⟨X, 6, none⟩ (.int .i64 0)).setCell ⟨X, 7, none⟩ (.int .u64 0)).setCell ⟨X, 8, none⟩ (.int .u64 0)).setCell ⟨X, 9, none⟩ (.int .u64 0)).alloc (.cells #[.int .i64 l, .int .i64 j, .int .i64 c, .int .i64 m, .int .u64 a, .int .u64 p, .bool fd, .int .i64 tl, .int .i64 cy] 28)).alloc (.cells #[.int .i64 0, .int .i64 0, .int .i64 0, .int .i64 0, .int .u64 0, .int .u64 0, .bool false, .int .i64 0, .int .i64 0] 28) = W1 at *
  refine (HS.out _ HC1.out.hand HC1.out.ltR).mono ?_
  rintro e V1 ⟨rfl, hF, hs⟩
  have HC2 := Lib.hid (HC1.out.handed hF hs)
  clear hF hs HC1 HS
  have hBl : w.heap.size + 1 < V1.heap.size := HC2.out.size
  have hBn : w.heap.size + 1 ≠ V1.heap.size := by omega
  obtain ⟨c0, c1, c2, c3, c4, c5, c6, c7, c8, cf⟩ := HC2.out.cellsY
  obtain ⟨s0, s1, s2, s3, s4, s5, s6, s7, s8, sf⟩ := ((HC2.out.last y).below (below_new _ (.cells #[.int .i64 y.l, .int .i64 y.j, .int .i64 y.c, .int .i64 y.m, .int .u64 y.a, .int .u64 y.p, .bool y.fd, .int .i64 y.tl, .int .i64 y.cy] 28))).cells
  go_wp2_with fail
  refine bodyPost_ret (v := .tuple #[(colV y.l y.j y.c y.m y.a y.p y.fd y.tl y.cy), .int .i64 what]) (by simp [results, Tryz.f12, go_sem, s0, s1, s2, s3, s4, s5, s6, s7, s8]) rfl ?_
  exact ⟨rfl, (HC2.out.fin y).1.below (below_new _ _), (HC2.out.fin y).2.trans (Sav.of (below_new _ _))⟩
theorem rcol_c {w : World} {X : Nat} {va : Option Addr} {cap N : Nat} {C : Cf} {s : Dy} (hH : RAt w X va cap N C s) (hL : ∀ R, va = some ⟨R, 0, none⟩ → R < w.heap.size) (hr : Right C.a C.b C.c C.d) (hu : s.U) (x : Co) (hx : x.U) (hb : -1000000 ≤ x.j ∧ x.j ≤ 1000000 ∧ -1000000 ≤ x.c ∧ x.c ≤ 1000000 ∧ -1000000 ≤ x.m ∧ x.m ≤ 1000000 ∧ -1000000 ≤ x.cy ∧ x.cy ≤ 1000000) :
    Calls Tryz.prog 12 #[.pointer (some ⟨X, 0, none⟩), x.v] w (RP w X va cap N C (colS C s x).1 (.tuple #[(colS C s x).2.1.v, .int .i64 (colS C s x).2.2])) := by
  have hu' : s.clr.U := hu
  obtain ⟨b1, b2, b3, b4, b5, b6, b7, b8⟩ := hb
  by_cases h2 : x.l ≤ 2
  · obtain ⟨e1, e2, e3⟩ := colS_low (C := C) (s := s) h2
    rw [e1, e2, e3]
    exact rcol_A hH hL x.l x.j x.c x.m x.a x.p x.fd x.tl x.cy _ _ h2 (fun W h1 h2 => rroot_c (w := W) h1 h2 hr hu' x hx (by omega))
  by_cases h9 : x.l ≤ 9
  · obtain ⟨e1, e2, e3⟩ := colS_pass (C := C) (s := s) h2 h9
    rw [e1, e2, e3]
    exact rcol_B hH hL x.l x.j x.c x.m x.a x.p x.fd x.tl x.cy _ _ h2 h9 (fun W h1 h2 => rpass_c (w := W) h1 h2 hr hu' x hx (by omega))
  by_cases h16 : x.l ≤ 16
  · obtain ⟨e1, e2, e3⟩ := colS_shut (C := C) (s := s) h9 h16
    rw [e1, e2, e3]
    have key := fun W h1 h2 => rbar17_c (w := W) (X := X) (va := va) (cap := cap) (N := N) (C := C) (s := s.clr) h1 h2 hr hu' x hx (by omega)
    cases hfl : (shutS C s.clr x).2.2.1
    · rw [hfl] at key
      exact rcol_C_no hH hL x.l x.j x.c x.m x.a x.p x.fd x.tl x.cy _ _ h2 h9 h16 key
    · rw [hfl] at key
      exact rcol_C_flip hH hL x.l x.j x.c x.m x.a x.p x.fd x.tl x.cy _ _ h2 h9 h16 key
  · obtain ⟨e1, e2, e3⟩ := colS_sweep (C := C) (s := s) h16
    rw [e1, e2, e3]
    exact rcol_D hH hL x.l x.j x.c x.m x.a x.p x.fd x.tl x.cy _ _ _ h2 h9 h16 (fun W h1 h2 => rsweep_c (w := W) h1 h2 hr hu' x hx (by omega))
end Go.Proofs.YthdcapkchjamoaaGreatDoor
