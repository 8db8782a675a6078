/- next, Begin and Scanned of package roots; the document's Scanned. -/
import Derived.Test.YtppajedeapikkaaDoorColF
import Derived.Test.YtppajedeapikkaaDoorRounds
import Derived.Test.YtppajedeapikkaaDoorCfgRef
namespace Go.Proofs.YtppajedeapikkaaDoor
open Go Go.RowKit
set_option maxRecDepth 100000
attribute [local go_sem ↓] Go.wp_at_zero Go.wp_at_succ

theorem rootsN_right {C : Cf} (hr : Right C.a C.b C.c C.d) : 1 ≤ rootsN C ∧ rootsN C ≤ 5000 := by
  have hp := hr.prod
  unfold Right at hr
  unfold rootsN
  omega
theorem next_more (l j c m a p : Int) (fd : Bool) (tl cy : Int) (n : Int) (hn : 1 ≤ n ∧ n ≤ 5000) (hj : -1000000000000 ≤ j ∧ j ≤ 1000000000000) (h : j + 1 < n) (w : World) :
    Calls Tryd.prog 34 #[(colV l j c m a p fd tl cy), .int .i64 n] w fun e w' => e = .returned (colV 1 (j + 1) c m a 0 fd tl cy) ∧ Below w.heap.size w w' := by
  have hw1 : IntKind.i64.wrap (n - 1) = n - 1 := IntWalk.i64_in _ (by omega)
  have hw2 : IntKind.i64.wrap (j + 1) = j + 1 := IntWalk.i64_in _ (by omega)
  have hlt : j < n - 1 := by omega
  clear hn hj h
  go_enter Tryd.func34, Tryd.ntmps34
  go_wp2_with fail
  refine bodyPost_ret (v := (colV 1 (j + 1) c m a 0 fd tl cy)) (by simp [results, Tryd.f34, go_sem]) rfl ?_
  exact ⟨rfl, below_on (below_new _ _) _⟩
theorem next_over (l j c m a p : Int) (fd : Bool) (tl cy : Int) (n : Int) (hn : 1 ≤ n ∧ n ≤ 5000) (hj : -1000000000000 ≤ j ∧ j ≤ 1000000000000) (h : ¬ j + 1 < n) (w : World) :
    Calls Tryd.prog 34 #[(colV l j c m a p fd tl cy), .int .i64 n] w fun e w' => e = .returned (colV 3 (j + 1) c m a 0 fd tl cy) ∧ Below w.heap.size w w' := by
  have hw1 : IntKind.i64.wrap (n - 1) = n - 1 := IntWalk.i64_in _ (by omega)
  have hw2 : IntKind.i64.wrap (j + 1) = j + 1 := IntWalk.i64_in _ (by omega)
  have hlt : ¬ j < n - 1 := by omega
  clear hn hj h
  go_enter Tryd.func34, Tryd.ntmps34
  go_wp2_with fail
  refine bodyPost_ret (v := (colV 3 (j + 1) c m a 0 fd tl cy)) (by simp [results, Tryd.f34, go_sem]) rfl ?_
  exact ⟨rfl, below_on (below_new _ _) _⟩
theorem next_c (C : Cf) (hr : Right C.a C.b C.c C.d) (l j c m a p : Int) (fd : Bool) (tl cy : Int) (hj : -1000000000000 ≤ j ∧ j ≤ 1000000000000) (w : World) :
    Calls Tryd.prog 34 #[(colV l j c m a p fd tl cy), .int .i64 (1 + C.d + C.b * C.c)] w fun e w' => e = .returned (nextRoot C ⟨l, j, c, m, a, p, fd, tl, cy⟩).v ∧ Below w.heap.size w w' := by
  have hn := rootsN_right hr
  unfold nextRoot rootsN at *
  by_cases h : j + 1 < (1 + C.d + C.b * C.c)
  · simp only [if_pos h]; exact next_more l j c m a p fd tl cy _ hn hj h w
  · simp only [if_neg h]; exact next_over l j c m a p fd tl cy _ hn hj h w
theorem Begin_c (l j c m a p : Int) (fd : Bool) (tl cy : Int) (w : World) :
    Calls Tryd.prog 9 #[(colV l j c m a p fd tl cy)] w fun e w' => e = .returned (colV 1 0 c m a 0 fd tl cy) ∧ Below w.heap.size w w' := by
  go_enter Tryd.func9, Tryd.ntmps9
  go_wp2_with fail
  refine bodyPost_ret (v := (colV 1 0 c m a 0 fd tl cy)) (by simp [results, Tryd.f9, go_sem]) rfl ?_
  exact ⟨rfl, below_on (below_new _ _) _⟩
theorem Scanned_c (x : Co) (w : World) :
    Calls Tryd.prog 7 #[x.v] w fun e w' => e = .returned (.int .i64 (scanN x)) ∧ Below w.heap.size w w' := by
  obtain ⟨l, j, c, m, a, p, fd, tl, cy⟩ := x
  unfold scanN
  dsimp only
  by_cases h1 : l = 1
  · subst h1
    rw [if_pos (.inl rfl)]
    go_enter Tryd.func7, Tryd.ntmps7
    go_wp2_with fail
    go_ret
    exact ⟨rfl, below_new _ _⟩
  by_cases h2 : l = 2
  · subst h2
    rw [if_pos (.inr rfl)]
    go_enter Tryd.func7, Tryd.ntmps7
    go_wp2_with fail
    go_ret
    exact ⟨rfl, below_new _ _⟩
  rw [if_neg (by omega)]
  have g1 : (l == 1) = false := by simpa using h1
  have g2 : (l == 2) = false := by simpa using h2
  by_cases h3 : 2 < l ∧ l < 17
  · rw [if_pos h3]
    obtain ⟨h3, h4⟩ := h3
    have q1 : 3 ≤ l := by omega
    have q2 : l ≤ 16 := by omega
    clear h3 h4 h1 h2
    go_enter Tryd.func7, Tryd.ntmps7
    go_wp2_with fail
    go_ret
    exact ⟨rfl, below_new _ _⟩
  rw [if_neg h3]
  by_cases h4 : 2 < l
  · have q1 : 3 ≤ l := by omega
    have q2 : ¬ l ≤ 16 := by omega
    clear h3 h4 h1 h2
    go_enter Tryd.func7, Tryd.ntmps7
    go_wp2_with fail
    go_ret
    exact ⟨rfl, below_new _ _⟩
  · have q1 : ¬ 3 ≤ l := by omega
    clear h3 h4 h1 h2
    go_enter Tryd.func7, Tryd.ntmps7
    go_wp2_with fail
    go_ret
    exact ⟨rfl, below_new _ _⟩
theorem rScanned_c (x : Co) (w : World) :
    Calls Tryd.prog 8 #[x.v] w fun e w' => e = .returned (.int .i64 (scanN x)) ∧ Below w.heap.size w w' := by
  obtain ⟨l, j, c, m, a, p, fd, tl, cy⟩ := x
  unfold scanN
  dsimp only
  by_cases h1 : l = 1
  · subst h1
    rw [if_pos (.inl rfl)]
    go_enter Tryd.func8, Tryd.ntmps8
    go_wp2_with fail
    go_ret
    exact ⟨rfl, below_new _ _⟩
  by_cases h2 : l = 2
  · subst h2
    rw [if_pos (.inr rfl)]
    go_enter Tryd.func8, Tryd.ntmps8
    go_wp2_with fail
    go_ret
    exact ⟨rfl, below_new _ _⟩
  rw [if_neg (by omega)]
  have g1 : (l == 1) = false := by simpa using h1
  have g2 : (l == 2) = false := by simpa using h2
  by_cases h3 : 2 < l ∧ l < 17
  · rw [if_pos h3]
    obtain ⟨h3, h4⟩ := h3
    have q1 : 2 < l := by omega
    have q2 : l < 17 := by omega
    clear h3 h4 h1 h2
    go_enter Tryd.func8, Tryd.ntmps8
    go_wp2_with fail
    go_ret
    exact ⟨rfl, below_new _ _⟩
  rw [if_neg h3]
  by_cases h4 : 2 < l
  · have q1 : 2 < l := by omega
    have q2 : ¬ l < 17 := by omega
    clear h3 h4 h1 h2
    go_enter Tryd.func8, Tryd.ntmps8
    go_wp2_with fail
    go_ret
    exact ⟨rfl, below_new _ _⟩
  · have q1 : ¬ 2 < l := by omega
    clear h3 h4 h1 h2
    go_enter Tryd.func8, Tryd.ntmps8
    go_wp2_with fail
    go_ret
    exact ⟨rfl, below_new _ _⟩
end Go.Proofs.YtppajedeapikkaaDoor
