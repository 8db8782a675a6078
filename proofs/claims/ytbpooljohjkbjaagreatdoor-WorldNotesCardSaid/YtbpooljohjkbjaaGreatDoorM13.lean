/- Laid together: SweepRefN, SweepRefA, SweepRefB, SweepRef, SweepDo, ColDoA, ColQn, ColNil. -/
import Derived.Test.YtbpooljohjkbjaaGreatDoorM9
import Derived.Test.YtbpooljohjkbjaaGreatDoorM3
import Derived.Test.YtbpooljohjkbjaaGreatDoorM4
import Derived.Test.YtbpooljohjkbjaaGreatDoorSweepDoA
import Derived.Test.YtbpooljohjkbjaaGreatDoorSweepDoB
import Derived.Test.YtbpooljohjkbjaaGreatDoorColQ
import Derived.Test.YtbpooljohjkbjaaGreatDoorM10
import Derived.Test.YtbpooljohjkbjaaGreatDoorM11
import Derived.Test.YtbpooljohjkbjaaGreatDoorM12
/- The document's places, and its Cell, of layer 18. -/
namespace Go.Proofs.YtbpooljohjkbjaaGreatDoor
open Go Go.RowKit
set_option maxRecDepth 100000
attribute [local go_sem ↓] Go.wp_at_zero Go.wp_at_succ
end Go.Proofs.YtbpooljohjkbjaaGreatDoor
/- A step of the document's layer 18: lines 20, 21, 22 and any other. -/
namespace Go.Proofs.YtbpooljohjkbjaaGreatDoor
open Go Go.RowKit
set_option maxRecDepth 100000
attribute [local go_sem ↓] Go.wp_at_zero Go.wp_at_succ
end Go.Proofs.YtbpooljohjkbjaaGreatDoor
/- A step of the document's layer 18: lines 23 and 24. -/
namespace Go.Proofs.YtbpooljohjkbjaaGreatDoor
open Go Go.RowKit
set_option maxRecDepth 100000
attribute [local go_sem ↓] Go.wp_at_zero Go.wp_at_succ
end Go.Proofs.YtbpooljohjkbjaaGreatDoor
/- A step of the document's layer 18 as one function. -/
namespace Go.Proofs.YtbpooljohjkbjaaGreatDoor
open Go Go.RowKit
set_option maxRecDepth 100000
attribute [local go_sem ↓] Go.wp_at_zero Go.wp_at_succ
theorem nextSwept_U {C : Cf} {x : Co} (hx : x.U) : (nextSwept C x).U := by
  unfold nextSwept
  split
  · exact hx
  · exact ⟨hx.1, u64_zero⟩
theorem cellW_U (i : Int) : U64 (cellW i) := by unfold cellW U64; split <;> omega
theorem sweepS_U {C : Cf} {s : Dy} (h : s.U) (x : Co) (hx : x.U) : (sweepS C s x).1.U ∧ (sweepS C s x).2.1.U := by
  have h0 := u64_zero
  unfold sweepS
  split
  · refine ⟨h.act C 1 _ h0 h0, ?_⟩
    show Co.U (if _ then _ else _)
    split
    · exact hx
    split
    · exact hx
    · exact nextSwept_U hx
  split
  · exact ⟨h.act C 2 _ h0 h0, hx⟩
  split
  · exact ⟨h.act C 2 _ h0 h0, hx⟩
  split
  · exact ⟨h.act C 2 _ (cellW_U _) h0, nextSwept_U (x := { x with tl := x.c }) hx⟩
  split
  · exact ⟨h.act C 2 _ h0 h0, nextSwept_U hx⟩
  · exact ⟨h, hx⟩
end Go.Proofs.YtbpooljohjkbjaaGreatDoor
/- A step of package sweep as one function; Holds. -/
namespace Go.Proofs.YtbpooljohjkbjaaGreatDoor
open Go Go.RowKit
set_option maxRecDepth 100000
attribute [local go_sem ↓] Go.wp_at_zero Go.wp_at_succ
set_option maxHeartbeats 3200000 in
theorem sp20_white {w : World} {H A G : Nat} {C : Cf} {s : Dy} (hH : HAt w H A G C s) (hu : s.U) (hS : SpansAt w) (hr : Right C.a C.b C.c C.d) (hn : 0 < C.n) (j c m a p : Int) (fd : Bool) (tl cy : Int) (T : Int) (hT : z5 C.n 1 (partP C.a C.b C.c C.d 2 c) (s.f (partP C.a C.b C.c C.d 2 c).toNat) = T) (h0 : T = 0) :
    Calls Tryz.prog 107 #[.pointer (some ⟨H, 0, none⟩), (colV 20 j c m a p fd tl cy)] w (HP w H A G C (s.act C 1 (partP C.a C.b C.c C.d 2 c) 0 0) (.tuple #[(colV 21 j c m a p fd tl cy), .int .i64 0, .bool true])) := by
  exact sw_hand hH hS hn 20 j c m a p fd tl cy 21 j c m a p fd tl cy (fun W h1 h2 => sd20_white (w := W) h1 hu h2 hr hn j c m a p fd tl cy T hT h0)
set_option maxHeartbeats 3200000 in
theorem sp20_black {w : World} {H A G : Nat} {C : Cf} {s : Dy} (hH : HAt w H A G C s) (hu : s.U) (hS : SpansAt w) (hr : Right C.a C.b C.c C.d) (hn : 0 < C.n) (j c m a p : Int) (fd : Bool) (tl cy : Int) (T : Int) (hT : z5 C.n 1 (partP C.a C.b C.c C.d 2 c) (s.f (partP C.a C.b C.c C.d 2 c).toNat) = T) (h0 : T = 2) :
    Calls Tryz.prog 107 #[.pointer (some ⟨H, 0, none⟩), (colV 20 j c m a p fd tl cy)] w (HP w H A G C (s.act C 1 (partP C.a C.b C.c C.d 2 c) 0 0) (.tuple #[(colV 24 j c m a p fd tl cy), .int .i64 0, .bool true])) := by
  exact sw_hand hH hS hn 20 j c m a p fd tl cy 24 j c m a p fd tl cy (fun W h1 h2 => sd20_black (w := W) h1 hu h2 hr hn j c m a p fd tl cy T hT h0)
set_option maxHeartbeats 3200000 in
theorem sp20_more {w : World} {H A G : Nat} {C : Cf} {s : Dy} (hH : HAt w H A G C s) (hu : s.U) (hS : SpansAt w) (hr : Right C.a C.b C.c C.d) (hn : 0 < C.n) (j c m a p : Int) (fd : Bool) (tl cy : Int) (hc : -1000000000000 ≤ c ∧ c ≤ 1000000000000) (hy : -1000000000000 ≤ cy ∧ cy ≤ 1000000000000) (hm : c + 1 < C.a) (T : Int) (hT : z5 C.n 1 (partP C.a C.b C.c C.d 2 c) (s.f (partP C.a C.b C.c C.d 2 c).toNat) = T) (h0 : ¬ T = 0) (h2 : ¬ T = 2) :
    Calls Tryz.prog 107 #[.pointer (some ⟨H, 0, none⟩), (colV 20 j c m a p fd tl cy)] w (HP w H A G C (s.act C 1 (partP C.a C.b C.c C.d 2 c) 0 0) (.tuple #[(colV 20 j (c + 1) m a p fd tl cy), .int .i64 0, .bool true])) := by
  have h := sw_fin_more hH hS hn hr 20 j c m a p fd tl cy 20 j c m a p fd tl cy (fun W h1 h3 => sd20_else (w := W) h1 hu h3 hr hn j c m a p fd tl cy T hT h0 h2) hc hy hm
  unfold nextSwept at h
  simp only [if_pos hm] at h
  exact h
set_option maxHeartbeats 3200000 in
theorem sp20_over {w : World} {H A G : Nat} {C : Cf} {s : Dy} (hH : HAt w H A G C s) (hu : s.U) (hS : SpansAt w) (hr : Right C.a C.b C.c C.d) (hn : 0 < C.n) (j c m a p : Int) (fd : Bool) (tl cy : Int) (hc : -1000000000000 ≤ c ∧ c ≤ 1000000000000) (hy : -1000000000000 ≤ cy ∧ cy ≤ 1000000000000) (hm : ¬ c + 1 < C.a) (T : Int) (hT : z5 C.n 1 (partP C.a C.b C.c C.d 2 c) (s.f (partP C.a C.b C.c C.d 2 c).toNat) = T) (h0 : ¬ T = 0) (h2 : ¬ T = 2) :
    Calls Tryz.prog 107 #[.pointer (some ⟨H, 0, none⟩), (colV 20 j c m a p fd tl cy)] w (HP w H A G C (s.act C 1 (partP C.a C.b C.c C.d 2 c) 0 0) (.tuple #[(colV 1 0 (c + 1) m a 0 fd tl (cy + 1)), .int .i64 3, .bool true])) := by
  have h := sw_fin_over hH hS hn hr 20 j c m a p fd tl cy 20 j c m a p fd tl cy (fun W h1 h3 => sd20_else (w := W) h1 hu h3 hr hn j c m a p fd tl cy T hT h0 h2) hc hy hm
  unfold nextSwept at h
  simp only [if_neg hm] at h
  exact h
set_option maxHeartbeats 3200000 in
theorem sp21 {w : World} {H A G : Nat} {C : Cf} {s : Dy} (hH : HAt w H A G C s) (hu : s.U) (hS : SpansAt w) (hr : Right C.a C.b C.c C.d) (hn : 0 < C.n) (j c m a p : Int) (fd : Bool) (tl cy : Int) :
    Calls Tryz.prog 107 #[.pointer (some ⟨H, 0, none⟩), (colV 21 j c m a p fd tl cy)] w (HP w H A G C (s.act C 2 (partP C.a C.b C.c C.d 0 c) 0 0) (.tuple #[(colV 22 j c m a p fd tl cy), .int .i64 0, .bool true])) := by
  exact sw_hand hH hS hn 21 j c m a p fd tl cy 22 j c m a p fd tl cy (fun W h1 h2 => sd21 (w := W) h1 hu h2 hr hn j c m a p fd tl cy)
set_option maxHeartbeats 3200000 in
theorem sp22 {w : World} {H A G : Nat} {C : Cf} {s : Dy} (hH : HAt w H A G C s) (hu : s.U) (hS : SpansAt w) (hr : Right C.a C.b C.c C.d) (hn : 0 < C.n) (j c m a p : Int) (fd : Bool) (tl cy : Int) :
    Calls Tryz.prog 107 #[.pointer (some ⟨H, 0, none⟩), (colV 22 j c m a p fd tl cy)] w (HP w H A G C (s.act C 2 (partP C.a C.b C.c C.d 1 c) 0 0) (.tuple #[(colV 23 j c m a p fd tl cy), .int .i64 0, .bool true])) := by
  exact sw_hand hH hS hn 22 j c m a p fd tl cy 23 j c m a p fd tl cy (fun W h1 h2 => sd22 (w := W) h1 hu h2 hr hn j c m a p fd tl cy)
set_option maxHeartbeats 3200000 in
theorem sp23_more {w : World} {H A G : Nat} {C : Cf} {s : Dy} (hH : HAt w H A G C s) (hu : s.U) (hS : SpansAt w) (hr : Right C.a C.b C.c C.d) (hn : 0 < C.n) (j c m a p : Int) (fd : Bool) (tl cy : Int) (hc : -1000000000000 ≤ c ∧ c ≤ 1000000000000) (hy : -1000000000000 ≤ cy ∧ cy ≤ 1000000000000) (hm : c + 1 < C.a) :
    Calls Tryz.prog 107 #[.pointer (some ⟨H, 0, none⟩), (colV 23 j c m a p fd tl cy)] w (HP w H A G C (s.act C 2 (partP C.a C.b C.c C.d 1 tl) (cellW c) 0) (.tuple #[(colV 20 j (c + 1) m a p fd c cy), .int .i64 2, .bool true])) := by
  have h := sw_app_more hH hS hn hr 23 j c m a p fd tl cy 23 j c m a p fd c cy (fun W h1 h2 => sd23 (w := W) h1 hu h2 hr hn j c m a p fd tl cy) hc hy hm
  unfold nextSwept at h
  simp only [if_pos hm] at h
  exact h
set_option maxHeartbeats 3200000 in
theorem sp23_over {w : World} {H A G : Nat} {C : Cf} {s : Dy} (hH : HAt w H A G C s) (hu : s.U) (hS : SpansAt w) (hr : Right C.a C.b C.c C.d) (hn : 0 < C.n) (j c m a p : Int) (fd : Bool) (tl cy : Int) (hc : -1000000000000 ≤ c ∧ c ≤ 1000000000000) (hy : -1000000000000 ≤ cy ∧ cy ≤ 1000000000000) (hm : ¬ c + 1 < C.a) :
    Calls Tryz.prog 107 #[.pointer (some ⟨H, 0, none⟩), (colV 23 j c m a p fd tl cy)] w (HP w H A G C (s.act C 2 (partP C.a C.b C.c C.d 1 tl) (cellW c) 0) (.tuple #[(colV 1 0 (c + 1) m a 0 fd c (cy + 1)), .int .i64 5, .bool true])) := by
  have h := sw_app_over hH hS hn hr 23 j c m a p fd tl cy 23 j c m a p fd c cy (fun W h1 h2 => sd23 (w := W) h1 hu h2 hr hn j c m a p fd tl cy) hc hy hm
  unfold nextSwept at h
  simp only [if_neg hm] at h
  exact h
set_option maxHeartbeats 3200000 in
theorem sp24_more {w : World} {H A G : Nat} {C : Cf} {s : Dy} (hH : HAt w H A G C s) (hu : s.U) (hS : SpansAt w) (hr : Right C.a C.b C.c C.d) (hn : 0 < C.n) (j c m a p : Int) (fd : Bool) (tl cy : Int) (hc : -1000000000000 ≤ c ∧ c ≤ 1000000000000) (hy : -1000000000000 ≤ cy ∧ cy ≤ 1000000000000) (hm : c + 1 < C.a) :
    Calls Tryz.prog 107 #[.pointer (some ⟨H, 0, none⟩), (colV 24 j c m a p fd tl cy)] w (HP w H A G C (s.act C 2 (partP C.a C.b C.c C.d 2 c) 0 0) (.tuple #[(colV 20 j (c + 1) m a p fd tl cy), .int .i64 0, .bool true])) := by
  have h := sw_fin_more hH hS hn hr 24 j c m a p fd tl cy 24 j c m a p fd tl cy (fun W h1 h2 => sd24 (w := W) h1 hu h2 hr hn j c m a p fd tl cy) hc hy hm
  unfold nextSwept at h
  simp only [if_pos hm] at h
  exact h
set_option maxHeartbeats 3200000 in
theorem sp24_over {w : World} {H A G : Nat} {C : Cf} {s : Dy} (hH : HAt w H A G C s) (hu : s.U) (hS : SpansAt w) (hr : Right C.a C.b C.c C.d) (hn : 0 < C.n) (j c m a p : Int) (fd : Bool) (tl cy : Int) (hc : -1000000000000 ≤ c ∧ c ≤ 1000000000000) (hy : -1000000000000 ≤ cy ∧ cy ≤ 1000000000000) (hm : ¬ c + 1 < C.a) :
    Calls Tryz.prog 107 #[.pointer (some ⟨H, 0, none⟩), (colV 24 j c m a p fd tl cy)] w (HP w H A G C (s.act C 2 (partP C.a C.b C.c C.d 2 c) 0 0) (.tuple #[(colV 1 0 (c + 1) m a 0 fd tl (cy + 1)), .int .i64 3, .bool true])) := by
  have h := sw_fin_over hH hS hn hr 24 j c m a p fd tl cy 24 j c m a p fd tl cy (fun W h1 h2 => sd24 (w := W) h1 hu h2 hr hn j c m a p fd tl cy) hc hy hm
  unfold nextSwept at h
  simp only [if_neg hm] at h
  exact h
set_option maxHeartbeats 3200000 in
theorem sp_other {w : World} {H A G : Nat} {C : Cf} {s : Dy} (hH : HAt w H A G C s) (hu : s.U) (hS : SpansAt w) (hr : Right C.a C.b C.c C.d) (hn : 0 < C.n) (l j c m a p : Int) (fd : Bool) (tl cy : Int) (g20 : ¬ l = 20) (g21 : ¬ l = 21) (g22 : ¬ l = 22) (g23 : ¬ l = 23) (g24 : ¬ l = 24) :
    Calls Tryz.prog 107 #[.pointer (some ⟨H, 0, none⟩), (colV l j c m a p fd tl cy)] w (HP w H A G C (s) (.tuple #[(colV l j c m a p fd tl cy), .int .i64 0, .bool false])) := by
  exact sw_alone hH hS hn l j c m a p fd tl cy (fun W h1 h2 => sd_other (w := W) h1 hu h2 hr hn l j c m a p fd tl cy g20 g21 g22 g23 g24)
theorem sweep_c {w : World} {H A G : Nat} {C : Cf} {s : Dy} (hH : HAt w H A G C s) (hu : s.U) (hS : SpansAt w) (hr : Right C.a C.b C.c C.d) (hn : 0 < C.n) (x : Co) (_ : x.U) (hb : -1000000000000 ≤ x.c ∧ x.c ≤ 1000000000000 ∧ -1000000000000 ≤ x.cy ∧ x.cy ≤ 1000000000000) :
    Calls Tryz.prog 107 #[.pointer (some ⟨H, 0, none⟩), x.v] w (HP w H A G C (sweepS C s x).1 (.tuple #[(sweepS C s x).2.1.v, .int .i64 (sweepS C s x).2.2.1, .bool (sweepS C s x).2.2.2])) := by
  obtain ⟨l, j, c, m, xa, p, fd, tl, cy⟩ := x
  obtain ⟨hc1, hc2, hy1, hy2⟩ := hb
  dsimp only at hc1 hc2 hy1 hy2
  have hc := And.intro hc1 hc2; have hy := And.intro hy1 hy2
  clear hc1 hc2 hy1 hy2
  unfold sweepS nextSwept cycN ldP
  dsimp only
  by_cases e20 : l = 20
  · subst e20; rw [if_pos rfl]
    obtain ⟨T, hT⟩ : ∃ T, z5 C.n 1 (partP C.a C.b C.c C.d 2 c) (s.f (partP C.a C.b C.c C.d 2 c).toNat) = T := ⟨_, rfl⟩
    simp only [hT]
    by_cases h0 : T = 0
    · subst h0; simp only [if_true]; exact sp20_white hH hu hS hr hn j c m xa p fd tl cy 0 hT rfl
    by_cases h2 : T = 2
    · subst h2; rw [if_neg h0, if_neg h0]; simp only [if_true]; exact sp20_black hH hu hS hr hn j c m xa p fd tl cy 2 hT rfl
    rw [if_neg h0, if_neg h0, if_neg h2, if_neg h2]
    by_cases hm : c + 1 < C.a
    · simp only [if_pos hm]; exact sp20_more hH hu hS hr hn j c m xa p fd tl cy hc hy hm T hT h0 h2
    · simp only [if_neg hm]; exact sp20_over hH hu hS hr hn j c m xa p fd tl cy hc hy hm T hT h0 h2
  rw [if_neg e20]
  by_cases e21 : l = 21
  · subst e21; rw [if_pos rfl]
    exact sp21 hH hu hS hr hn j c m xa p fd tl cy
  rw [if_neg e21]
  by_cases e22 : l = 22
  · subst e22; rw [if_pos rfl]
    exact sp22 hH hu hS hr hn j c m xa p fd tl cy
  rw [if_neg e22]
  by_cases e23 : l = 23
  · subst e23; rw [if_pos rfl]
    by_cases hm : c + 1 < C.a
    · simp only [if_pos hm]; exact sp23_more hH hu hS hr hn j c m xa p fd tl cy hc hy hm
    · simp only [if_neg hm]; exact sp23_over hH hu hS hr hn j c m xa p fd tl cy hc hy hm
  rw [if_neg e23]
  by_cases e24 : l = 24
  · subst e24; rw [if_pos rfl]
    by_cases hm : c + 1 < C.a
    · simp only [if_pos hm]; exact sp24_more hH hu hS hr hn j c m xa p fd tl cy hc hy hm
    · simp only [if_neg hm]; exact sp24_over hH hu hS hr hn j c m xa p fd tl cy hc hy hm
  rw [if_neg e24]
  exact sp_other hH hu hS hr hn l j c m xa p fd tl cy e20 e21 e22 e23 e24
end Go.Proofs.YtbpooljohjkbjaaGreatDoor
/- Each function of the list does its layer's lines. -/
namespace Go.Proofs.YtbpooljohjkbjaaGreatDoor
open Go Go.RowKit
set_option maxRecDepth 100000
attribute [local go_sem ↓] Go.wp_at_zero Go.wp_at_succ
theorem lay0_c {w : World} {H A G : Nat} {C : Cf} {s : Dy} (hH : HAt w H A G C s) (hu : s.U) (hS : SpansAt w) (hr : Right C.a C.b C.c C.d) (hn : 0 < C.n) (x : Co) (hx : x.U) (hb : -1000000 ≤ x.j ∧ x.j ≤ 1000000 ∧ -1000000 ≤ x.c ∧ x.c ≤ 1000000 ∧ -1000000 ≤ x.m ∧ x.m ≤ 1000000 ∧ -1000000 ≤ x.cy ∧ x.cy ≤ 1000000) {Q : Nat} (hL : LayAt w Q) :
    Calls Tryz.prog 122 #[.pointer (some ⟨H, 0, none⟩), x.v, .pointer (some ⟨Q, 0, none⟩)] w (HP w H A G C (layN C s x 0).1 (.tuple #[(layN C s x 0).2.1.v, .int .i64 (layN C s x 0).2.2.1, .bool (layN C s x 0).2.2.2])) := by
  exact quiet1r_c hH hS hn hL.q0 x.l x.j x.c x.m x.a x.p x.fd x.tl x.cy (rootS C s x).2.1.l (rootS C s x).2.1.j (rootS C s x).2.1.c (rootS C s x).2.1.m (rootS C s x).2.1.a (rootS C s x).2.1.p (rootS C s x).2.1.fd (rootS C s x).2.1.tl (rootS C s x).2.1.cy (rootS C s x).2.2 (fun W h hs => root_c h hu hs hr hn x hx (by omega))
theorem lay1_c {w : World} {H A G : Nat} {C : Cf} {s : Dy} (hH : HAt w H A G C s) (hu : s.U) (hS : SpansAt w) (hr : Right C.a C.b C.c C.d) (hn : 0 < C.n) (x : Co) (hx : x.U) (hb : -1000000 ≤ x.j ∧ x.j ≤ 1000000 ∧ -1000000 ≤ x.c ∧ x.c ≤ 1000000 ∧ -1000000 ≤ x.m ∧ x.m ≤ 1000000 ∧ -1000000 ≤ x.cy ∧ x.cy ≤ 1000000) {Q : Nat} (hL : LayAt w Q) :
    Calls Tryz.prog 122 #[.pointer (some ⟨H, 0, none⟩), x.v, .pointer (some ⟨Q + 1, 0, none⟩)] w (HP w H A G C (layN C s x 1).1 (.tuple #[(layN C s x 1).2.1.v, .int .i64 (layN C s x 1).2.2.1, .bool (layN C s x 1).2.2.2])) := by
  exact quiet1p_c hH hS hn hL.q1 x.l x.j x.c x.m x.a x.p x.fd x.tl x.cy (passS C s x).2.1.l (passS C s x).2.1.j (passS C s x).2.1.c (passS C s x).2.1.m (passS C s x).2.1.a (passS C s x).2.1.p (passS C s x).2.1.fd (passS C s x).2.1.tl (passS C s x).2.1.cy (passS C s x).2.2 (fun W h hs => pass_c h hu hs hr hn x hx (by omega))
theorem lay2_c {w : World} {H A G : Nat} {C : Cf} {s : Dy} (hH : HAt w H A G C s) (hu : s.U) (hS : SpansAt w) (hr : Right C.a C.b C.c C.d) (hn : 0 < C.n) (x : Co) (hx : x.U) (hb : -1000000 ≤ x.j ∧ x.j ≤ 1000000 ∧ -1000000 ≤ x.c ∧ x.c ≤ 1000000 ∧ -1000000 ≤ x.m ∧ x.m ≤ 1000000 ∧ -1000000 ≤ x.cy ∧ x.cy ≤ 1000000) {Q : Nat} (_ : LayAt w Q) :
    Calls Tryz.prog 106 #[.pointer (some ⟨H, 0, none⟩), x.v] w (HP w H A G C (layN C s x 2).1 (.tuple #[(layN C s x 2).2.1.v, .int .i64 (layN C s x 2).2.2.1, .bool (layN C s x 2).2.2.2])) := by
  have hdo := fun W (h : HAt W H A G C s) hs => bar17_c h hu hs hr hn x hx (by omega)
  have hq : layN C s x 2 = ((shutS C s x).1, (shutS C s x).2.1, (if (shutS C s x).2.2.1 then 1 else 0), (shutS C s x).2.2.2) := rfl
  rw [hq]; clear hq
  generalize shutS C s x = q at *
  obtain ⟨s', y, fl, ok⟩ := q
  dsimp only at hdo ⊢
  cases fl
  · exact barN_c hH hS hn x.l x.j x.c x.m x.a x.p x.fd x.tl x.cy y.l y.j y.c y.m y.a y.p y.fd y.tl y.cy ok hdo
  · exact barY_c hH hS hn x.l x.j x.c x.m x.a x.p x.fd x.tl x.cy y.l y.j y.c y.m y.a y.p y.fd y.tl y.cy ok hdo
theorem lay3_c {w : World} {H A G : Nat} {C : Cf} {s : Dy} (hH : HAt w H A G C s) (hu : s.U) (hS : SpansAt w) (hr : Right C.a C.b C.c C.d) (hn : 0 < C.n) (x : Co) (hx : x.U) (hb : -1000000 ≤ x.j ∧ x.j ≤ 1000000 ∧ -1000000 ≤ x.c ∧ x.c ≤ 1000000 ∧ -1000000 ≤ x.m ∧ x.m ≤ 1000000 ∧ -1000000 ≤ x.cy ∧ x.cy ≤ 1000000) {Q : Nat} (_ : LayAt w Q) :
    Calls Tryz.prog 107 #[.pointer (some ⟨H, 0, none⟩), x.v] w (HP w H A G C (layN C s x 3).1 (.tuple #[(layN C s x 3).2.1.v, .int .i64 (layN C s x 3).2.2.1, .bool (layN C s x 3).2.2.2])) := by
  exact sweep_c hH hu hS hr hn x hx (by omega)
theorem Begin19_c (a b c d : Int) (ha : -1000000 ≤ a ∧ a ≤ 1000000) (w : World) : Calls Tryz.prog 24 #[.agg #[.int .i64 a, .int .i64 b, .int .i64 c, .int .i64 d]] w fun e w' => e = .returned (colV 1 0 0 0 0 0 false (a - 1) 0) ∧ Below w.heap.size w w' := by
  have hw : IntKind.i64.wrap (a - 1) = a - 1 := IntWalk.i64_in _ (by omega)
  clear ha
  have HB := Lib.hid (fun W => crBegin_c 0 0 0 0 0 0 false (a - 1) 0 W)
  have HA := Lib.hid (below_on (below_new w (.cells #[.int .i64 a, .int .i64 b, .int .i64 c, .int .i64 d] 23)) (.cells #[.int .i64 0, .int .i64 0, .int .i64 0, .int .i64 0, .int .u64 0, .int .u64 0, .bool false, .int .i64 0, .int .i64 0] 49))
  have HY := Lib.hid (Col9.new (w.alloc (.cells #[.int .i64 a, .int .i64 b, .int .i64 c, .int .i64 d] 23)) 0 0 0 0 0 0 false 0 0)
  have hz : (w.alloc (.cells #[.int .i64 a, .int .i64 b, .int .i64 c, .int .i64 d] 23)).heap.size = w.heap.size + 1 := by simp
  rw [hz] at HY
  clear hz
  go_enter Tryz.func24, Tryz.ntmps24
  go_wp2_with fail
  refine (HB.out _).mono ?_
  rintro e V1 ⟨rfl, hb⟩
  have HY1 := Lib.hid (HY.out.below hb)
  have HO := Lib.hid (belowOn HA.out hb)
  clear hb HA HY HB
  obtain ⟨c0, c1, c2, c3, c4, c5, c6, c7, c8, cf⟩ := HY1.out.cells
  have HYe := Lib.hid (HY1.out.put 1 0 0 0 0 0 false (a - 1) 0)
  have HOe := Lib.hid (((Sav.of (S := fun _ => False) HO.out).put9 (C := w.heap.size + 1) (.inr (by omega)) 1 0 0 0 0 0 false (a - 1) 0).below (Nat.le_refl _) (fun _ _ e => e))
  obtain ⟨s0, s1, s2, s3, s4, s5, s6, s7, s8, sf⟩ := HYe.out.cells
  go_wp2_with fail
  refine bodyPost_ret (v := (colV 1 0 0 0 0 0 false (a - 1) 0)) (by simp [results, Tryz.f24, go_sem, s0, s1, s2, s3, s4, s5, s6, s7, s8]) rfl ?_
  exact ⟨rfl, HOe.out⟩
end Go.Proofs.YtbpooljohjkbjaaGreatDoor
/- The functions of the list, with a nil hand. -/
namespace Go.Proofs.YtbpooljohjkbjaaGreatDoor
open Go Go.RowKit
set_option maxRecDepth 100000
attribute [local go_sem ↓] Go.wp_at_zero Go.wp_at_succ
end Go.Proofs.YtbpooljohjkbjaaGreatDoor
/- Marks, Swept; a step with a nil hand. -/
namespace Go.Proofs.YtbpooljohjkbjaaGreatDoor
open Go Go.RowKit
set_option maxRecDepth 100000
attribute [local go_sem ↓] Go.wp_at_zero Go.wp_at_succ
end Go.Proofs.YtbpooljohjkbjaaGreatDoor
