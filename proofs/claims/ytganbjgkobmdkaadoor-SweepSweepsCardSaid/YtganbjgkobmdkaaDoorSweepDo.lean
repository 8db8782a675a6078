/- A step of package sweep as one function; Holds. -/
import Derived.Test.YtganbjgkobmdkaaDoorSweepDoA
import Derived.Test.YtganbjgkobmdkaaDoorSweepDoB
import Derived.Test.YtganbjgkobmdkaaDoorSweepRef
namespace Go.Proofs.YtganbjgkobmdkaaDoor
open Go Go.RowKit
set_option maxRecDepth 100000
attribute [local go_sem ↓] Go.wp_at_zero Go.wp_at_succ

set_option maxHeartbeats 3200000 in
theorem sp20_white {w : World} {H A G : Nat} {C : Cf} {s : Dy} (hH : HAt w H A G C s) (hu : s.U) (hS : SpansAt w) (hr : Right C.a C.b C.c C.d) (hn : 0 < C.n) (j c m a p : Int) (fd : Bool) (tl cy : Int) (T : Int) (hT : z5 C.n 1 (partP C.a C.b C.c C.d 2 c) (s.f (partP C.a C.b C.c C.d 2 c).toNat) = T) (h0 : T = 0) :
    Calls Tryd.prog 9 #[.pointer (some ⟨H, 0, none⟩), (colV 20 j c m a p fd tl cy)] w (HP w H A G C (s.act C 1 (partP C.a C.b C.c C.d 2 c) 0 0) (.tuple #[(colV 21 j c m a p fd tl cy), .int .i64 0, .bool true])) := by
  exact sw_hand hH hS hn 20 j c m a p fd tl cy 21 j c m a p fd tl cy (fun W h1 h2 => sd20_white (w := W) h1 hu h2 hr hn j c m a p fd tl cy T hT h0)
set_option maxHeartbeats 3200000 in
theorem sp20_black {w : World} {H A G : Nat} {C : Cf} {s : Dy} (hH : HAt w H A G C s) (hu : s.U) (hS : SpansAt w) (hr : Right C.a C.b C.c C.d) (hn : 0 < C.n) (j c m a p : Int) (fd : Bool) (tl cy : Int) (T : Int) (hT : z5 C.n 1 (partP C.a C.b C.c C.d 2 c) (s.f (partP C.a C.b C.c C.d 2 c).toNat) = T) (h0 : T = 2) :
    Calls Tryd.prog 9 #[.pointer (some ⟨H, 0, none⟩), (colV 20 j c m a p fd tl cy)] w (HP w H A G C (s.act C 1 (partP C.a C.b C.c C.d 2 c) 0 0) (.tuple #[(colV 24 j c m a p fd tl cy), .int .i64 0, .bool true])) := by
  exact sw_hand hH hS hn 20 j c m a p fd tl cy 24 j c m a p fd tl cy (fun W h1 h2 => sd20_black (w := W) h1 hu h2 hr hn j c m a p fd tl cy T hT h0)
set_option maxHeartbeats 3200000 in
theorem sp20_more {w : World} {H A G : Nat} {C : Cf} {s : Dy} (hH : HAt w H A G C s) (hu : s.U) (hS : SpansAt w) (hr : Right C.a C.b C.c C.d) (hn : 0 < C.n) (j c m a p : Int) (fd : Bool) (tl cy : Int) (hc : -1000000000000 ≤ c ∧ c ≤ 1000000000000) (hy : -1000000000000 ≤ cy ∧ cy ≤ 1000000000000) (hm : c + 1 < C.a) (T : Int) (hT : z5 C.n 1 (partP C.a C.b C.c C.d 2 c) (s.f (partP C.a C.b C.c C.d 2 c).toNat) = T) (h0 : ¬ T = 0) (h2 : ¬ T = 2) :
    Calls Tryd.prog 9 #[.pointer (some ⟨H, 0, none⟩), (colV 20 j c m a p fd tl cy)] w (HP w H A G C (s.act C 1 (partP C.a C.b C.c C.d 2 c) 0 0) (.tuple #[(colV 20 j (c + 1) m a p fd tl cy), .int .i64 0, .bool true])) := by
  have h := sw_fin_more hH hS hn hr 20 j c m a p fd tl cy 20 j c m a p fd tl cy (fun W h1 h3 => sd20_else (w := W) h1 hu h3 hr hn j c m a p fd tl cy T hT h0 h2) hc hy hm
  unfold nextSwept at h
  simp only [if_pos hm] at h
  exact h
set_option maxHeartbeats 3200000 in
theorem sp20_over {w : World} {H A G : Nat} {C : Cf} {s : Dy} (hH : HAt w H A G C s) (hu : s.U) (hS : SpansAt w) (hr : Right C.a C.b C.c C.d) (hn : 0 < C.n) (j c m a p : Int) (fd : Bool) (tl cy : Int) (hc : -1000000000000 ≤ c ∧ c ≤ 1000000000000) (hy : -1000000000000 ≤ cy ∧ cy ≤ 1000000000000) (hm : ¬ c + 1 < C.a) (T : Int) (hT : z5 C.n 1 (partP C.a C.b C.c C.d 2 c) (s.f (partP C.a C.b C.c C.d 2 c).toNat) = T) (h0 : ¬ T = 0) (h2 : ¬ T = 2) :
    Calls Tryd.prog 9 #[.pointer (some ⟨H, 0, none⟩), (colV 20 j c m a p fd tl cy)] w (HP w H A G C (s.act C 1 (partP C.a C.b C.c C.d 2 c) 0 0) (.tuple #[(colV 1 0 (c + 1) m a 0 fd tl (cy + 1)), .int .i64 3, .bool true])) := by
  have h := sw_fin_over hH hS hn hr 20 j c m a p fd tl cy 20 j c m a p fd tl cy (fun W h1 h3 => sd20_else (w := W) h1 hu h3 hr hn j c m a p fd tl cy T hT h0 h2) hc hy hm
  unfold nextSwept at h
  simp only [if_neg hm] at h
  exact h
set_option maxHeartbeats 3200000 in
theorem sp21 {w : World} {H A G : Nat} {C : Cf} {s : Dy} (hH : HAt w H A G C s) (hu : s.U) (hS : SpansAt w) (hr : Right C.a C.b C.c C.d) (hn : 0 < C.n) (j c m a p : Int) (fd : Bool) (tl cy : Int) :
    Calls Tryd.prog 9 #[.pointer (some ⟨H, 0, none⟩), (colV 21 j c m a p fd tl cy)] w (HP w H A G C (s.act C 2 (partP C.a C.b C.c C.d 0 c) 0 0) (.tuple #[(colV 22 j c m a p fd tl cy), .int .i64 0, .bool true])) := by
  exact sw_hand hH hS hn 21 j c m a p fd tl cy 22 j c m a p fd tl cy (fun W h1 h2 => sd21 (w := W) h1 hu h2 hr hn j c m a p fd tl cy)
set_option maxHeartbeats 3200000 in
theorem sp22 {w : World} {H A G : Nat} {C : Cf} {s : Dy} (hH : HAt w H A G C s) (hu : s.U) (hS : SpansAt w) (hr : Right C.a C.b C.c C.d) (hn : 0 < C.n) (j c m a p : Int) (fd : Bool) (tl cy : Int) :
    Calls Tryd.prog 9 #[.pointer (some ⟨H, 0, none⟩), (colV 22 j c m a p fd tl cy)] w (HP w H A G C (s.act C 2 (partP C.a C.b C.c C.d 1 c) 0 0) (.tuple #[(colV 23 j c m a p fd tl cy), .int .i64 0, .bool true])) := by
  exact sw_hand hH hS hn 22 j c m a p fd tl cy 23 j c m a p fd tl cy (fun W h1 h2 => sd22 (w := W) h1 hu h2 hr hn j c m a p fd tl cy)
set_option maxHeartbeats 3200000 in
theorem sp23_more {w : World} {H A G : Nat} {C : Cf} {s : Dy} (hH : HAt w H A G C s) (hu : s.U) (hS : SpansAt w) (hr : Right C.a C.b C.c C.d) (hn : 0 < C.n) (j c m a p : Int) (fd : Bool) (tl cy : Int) (hc : -1000000000000 ≤ c ∧ c ≤ 1000000000000) (hy : -1000000000000 ≤ cy ∧ cy ≤ 1000000000000) (hm : c + 1 < C.a) :
    Calls Tryd.prog 9 #[.pointer (some ⟨H, 0, none⟩), (colV 23 j c m a p fd tl cy)] w (HP w H A G C (s.act C 2 (partP C.a C.b C.c C.d 1 tl) (cellW c) 0) (.tuple #[(colV 20 j (c + 1) m a p fd c cy), .int .i64 2, .bool true])) := by
  have h := sw_app_more hH hS hn hr 23 j c m a p fd tl cy 23 j c m a p fd c cy (fun W h1 h2 => sd23 (w := W) h1 hu h2 hr hn j c m a p fd tl cy) hc hy hm
  unfold nextSwept at h
  simp only [if_pos hm] at h
  exact h
set_option maxHeartbeats 3200000 in
theorem sp23_over {w : World} {H A G : Nat} {C : Cf} {s : Dy} (hH : HAt w H A G C s) (hu : s.U) (hS : SpansAt w) (hr : Right C.a C.b C.c C.d) (hn : 0 < C.n) (j c m a p : Int) (fd : Bool) (tl cy : Int) (hc : -1000000000000 ≤ c ∧ c ≤ 1000000000000) (hy : -1000000000000 ≤ cy ∧ cy ≤ 1000000000000) (hm : ¬ c + 1 < C.a) :
    Calls Tryd.prog 9 #[.pointer (some ⟨H, 0, none⟩), (colV 23 j c m a p fd tl cy)] w (HP w H A G C (s.act C 2 (partP C.a C.b C.c C.d 1 tl) (cellW c) 0) (.tuple #[(colV 1 0 (c + 1) m a 0 fd c (cy + 1)), .int .i64 5, .bool true])) := by
  have h := sw_app_over hH hS hn hr 23 j c m a p fd tl cy 23 j c m a p fd c cy (fun W h1 h2 => sd23 (w := W) h1 hu h2 hr hn j c m a p fd tl cy) hc hy hm
  unfold nextSwept at h
  simp only [if_neg hm] at h
  exact h
set_option maxHeartbeats 3200000 in
theorem sp24_more {w : World} {H A G : Nat} {C : Cf} {s : Dy} (hH : HAt w H A G C s) (hu : s.U) (hS : SpansAt w) (hr : Right C.a C.b C.c C.d) (hn : 0 < C.n) (j c m a p : Int) (fd : Bool) (tl cy : Int) (hc : -1000000000000 ≤ c ∧ c ≤ 1000000000000) (hy : -1000000000000 ≤ cy ∧ cy ≤ 1000000000000) (hm : c + 1 < C.a) :
    Calls Tryd.prog 9 #[.pointer (some ⟨H, 0, none⟩), (colV 24 j c m a p fd tl cy)] w (HP w H A G C (s.act C 2 (partP C.a C.b C.c C.d 2 c) 0 0) (.tuple #[(colV 20 j (c + 1) m a p fd tl cy), .int .i64 0, .bool true])) := by
  have h := sw_fin_more hH hS hn hr 24 j c m a p fd tl cy 24 j c m a p fd tl cy (fun W h1 h2 => sd24 (w := W) h1 hu h2 hr hn j c m a p fd tl cy) hc hy hm
  unfold nextSwept at h
  simp only [if_pos hm] at h
  exact h
set_option maxHeartbeats 3200000 in
theorem sp24_over {w : World} {H A G : Nat} {C : Cf} {s : Dy} (hH : HAt w H A G C s) (hu : s.U) (hS : SpansAt w) (hr : Right C.a C.b C.c C.d) (hn : 0 < C.n) (j c m a p : Int) (fd : Bool) (tl cy : Int) (hc : -1000000000000 ≤ c ∧ c ≤ 1000000000000) (hy : -1000000000000 ≤ cy ∧ cy ≤ 1000000000000) (hm : ¬ c + 1 < C.a) :
    Calls Tryd.prog 9 #[.pointer (some ⟨H, 0, none⟩), (colV 24 j c m a p fd tl cy)] w (HP w H A G C (s.act C 2 (partP C.a C.b C.c C.d 2 c) 0 0) (.tuple #[(colV 1 0 (c + 1) m a 0 fd tl (cy + 1)), .int .i64 3, .bool true])) := by
  have h := sw_fin_over hH hS hn hr 24 j c m a p fd tl cy 24 j c m a p fd tl cy (fun W h1 h2 => sd24 (w := W) h1 hu h2 hr hn j c m a p fd tl cy) hc hy hm
  unfold nextSwept at h
  simp only [if_neg hm] at h
  exact h
set_option maxHeartbeats 3200000 in
theorem sp_other {w : World} {H A G : Nat} {C : Cf} {s : Dy} (hH : HAt w H A G C s) (hu : s.U) (hS : SpansAt w) (hr : Right C.a C.b C.c C.d) (hn : 0 < C.n) (l j c m a p : Int) (fd : Bool) (tl cy : Int) (g20 : ¬ l = 20) (g21 : ¬ l = 21) (g22 : ¬ l = 22) (g23 : ¬ l = 23) (g24 : ¬ l = 24) :
    Calls Tryd.prog 9 #[.pointer (some ⟨H, 0, none⟩), (colV l j c m a p fd tl cy)] w (HP w H A G C (s) (.tuple #[(colV l j c m a p fd tl cy), .int .i64 0, .bool false])) := by
  exact sw_alone hH hS hn l j c m a p fd tl cy (fun W h1 h2 => sd_other (w := W) h1 hu h2 hr hn l j c m a p fd tl cy g20 g21 g22 g23 g24)
theorem sweep_c {w : World} {H A G : Nat} {C : Cf} {s : Dy} (hH : HAt w H A G C s) (hu : s.U) (hS : SpansAt w) (hr : Right C.a C.b C.c C.d) (hn : 0 < C.n) (x : Co) (_ : x.U) (hb : -1000000000000 ≤ x.c ∧ x.c ≤ 1000000000000 ∧ -1000000000000 ≤ x.cy ∧ x.cy ≤ 1000000000000) :
    Calls Tryd.prog 9 #[.pointer (some ⟨H, 0, none⟩), x.v] w (HP w H A G C (sweepS C s x).1 (.tuple #[(sweepS C s x).2.1.v, .int .i64 (sweepS C s x).2.2.1, .bool (sweepS C s x).2.2.2])) := by
  obtain ⟨l, j, c, m, xa, p, fd, tl, cy⟩ := x
  obtain ⟨hc1, hc2, hy1, hy2⟩ := hb
  dsimp only at hc1 hc2 hy1 hy2
  have hc := And.intro hc1 hc2; have hy := And.intro hy1 hy2
  clear hc1 hc2 hy1 hy2
  unfold sweepS nextSwept cycN ldP
  dsimp only
  by_cases e20 : l = 20
  · subst e20; rw [if_pos rfl]
    obtain ⟨T, hT⟩ : ∃ T, z5 C.n 1 (partP C.a C.b C.c C.d 2 c) (s.f (partP C.a C.b C.c C.d 2 c).toNat) = T := ⟨_, rfl⟩
    simp only [hT]
    by_cases h0 : T = 0
    · subst h0; simp only [if_true]; exact sp20_white hH hu hS hr hn j c m xa p fd tl cy 0 hT rfl
    by_cases h2 : T = 2
    · subst h2; rw [if_neg h0, if_neg h0]; simp only [if_true]; exact sp20_black hH hu hS hr hn j c m xa p fd tl cy 2 hT rfl
    rw [if_neg h0, if_neg h0, if_neg h2, if_neg h2]
    by_cases hm : c + 1 < C.a
    · simp only [if_pos hm]; exact sp20_more hH hu hS hr hn j c m xa p fd tl cy hc hy hm T hT h0 h2
    · simp only [if_neg hm]; exact sp20_over hH hu hS hr hn j c m xa p fd tl cy hc hy hm T hT h0 h2
  rw [if_neg e20]
  by_cases e21 : l = 21
  · subst e21; rw [if_pos rfl]
    exact sp21 hH hu hS hr hn j c m xa p fd tl cy
  rw [if_neg e21]
  by_cases e22 : l = 22
  · subst e22; rw [if_pos rfl]
    exact sp22 hH hu hS hr hn j c m xa p fd tl cy
  rw [if_neg e22]
  by_cases e23 : l = 23
  · subst e23; rw [if_pos rfl]
    by_cases hm : c + 1 < C.a
    · simp only [if_pos hm]; exact sp23_more hH hu hS hr hn j c m xa p fd tl cy hc hy hm
    · simp only [if_neg hm]; exact sp23_over hH hu hS hr hn j c m xa p fd tl cy hc hy hm
  rw [if_neg e23]
  by_cases e24 : l = 24
  · subst e24; rw [if_pos rfl]
    by_cases hm : c + 1 < C.a
    · simp only [if_pos hm]; exact sp24_more hH hu hS hr hn j c m xa p fd tl cy hc hy hm
    · simp only [if_neg hm]; exact sp24_over hH hu hS hr hn j c m xa p fd tl cy hc hy hm
  rw [if_neg e24]
  exact sp_other hH hu hS hr hn l j c m xa p fd tl cy e20 e21 e22 e23 e24
theorem Holds_in_yes (l j c m a p : Int) (fd : Bool) (tl cy : Int) (q : Int) (h1 : 21 ≤ l) (h2 : l ≤ 23) (h : c = q) (w : World) : Calls Tryd.prog 6 #[(colV l j c m a p fd tl cy), .int .i64 q] w fun e w' => e = .returned (.bool true) ∧ Below w.heap.size w w' := by
  have e : (c == q) = true := by simpa using h
  rcases (by omega : l = 21 ∨ l = 22 ∨ l = 23) with rfl | rfl | rfl
  all_goals clear h1 h2 h
  all_goals
    go_enter Tryd.func6, Tryd.ntmps6
    go_wp2_with fail
    go_ret
    exact ⟨rfl, below_new _ _⟩
theorem Holds_in_no (l j c m a p : Int) (fd : Bool) (tl cy : Int) (q : Int) (h1 : 21 ≤ l) (h2 : l ≤ 23) (h : ¬ c = q) (w : World) : Calls Tryd.prog 6 #[(colV l j c m a p fd tl cy), .int .i64 q] w fun e w' => e = .returned (.bool false) ∧ Below w.heap.size w w' := by
  have e : (c == q) = false := by simpa using h
  rcases (by omega : l = 21 ∨ l = 22 ∨ l = 23) with rfl | rfl | rfl
  all_goals clear h1 h2 h
  all_goals
    go_enter Tryd.func6, Tryd.ntmps6
    go_wp2_with fail
    go_ret
    exact ⟨rfl, below_new _ _⟩
theorem Holds_out (l j c m a p : Int) (fd : Bool) (tl cy : Int) (q : Int) (h1 : ¬ (21 ≤ l ∧ l ≤ 23)) (w : World) : Calls Tryd.prog 6 #[(colV l j c m a p fd tl cy), .int .i64 q] w fun e w' => e = .returned (.bool false) ∧ Below w.heap.size w w' := by
  have e21 : (l == 21) = false := by simp; omega
  have e22 : (l == 22) = false := by simp; omega
  have e23 : (l == 23) = false := by simp; omega
  clear h1
  go_enter Tryd.func6, Tryd.ntmps6
  go_wp2_with fail
  go_ret
  exact ⟨rfl, below_new _ _⟩
end Go.Proofs.YtganbjgkobmdkaaDoor
