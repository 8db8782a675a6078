/- Laid together: ColLay, RootsStepA, RootsStepB, RootsStepC, RootsRefA, RootsRefB, RootsDo, PassNext, PassDoA. -/
import Derived.Test.YtbpooljohjkbjaaGreatDoorM9
import Derived.Test.YtbpooljohjkbjaaGreatDoorM1
import Derived.Test.YtbpooljohjkbjaaGreatDoorPlaceAt
import Derived.Test.YtbpooljohjkbjaaGreatDoorM3
import Derived.Test.YtbpooljohjkbjaaGreatDoorM4
/- What each layer makes of a line, without memory. -/
namespace Go.Proofs.YtbpooljohjkbjaaGreatDoor
open Go Go.RowKit
set_option maxRecDepth 100000
attribute [local go_sem ↓] Go.wp_at_zero Go.wp_at_succ
def layN (C : Cf) (s : Dy) (x : Co) (k : Nat) : Dy × Co × Int × Bool :=
  if k = 0 then ((rootS C s x).1, (rootS C s x).2.1, 0, (rootS C s x).2.2)
  else if k = 1 then ((passS C s x).1, (passS C s x).2.1, 0, (passS C s x).2.2)
  else if k = 2 then ((shutS C s x).1, (shutS C s x).2.1, (if (shutS C s x).2.2.1 then 1 else 0), (shutS C s x).2.2.2)
  else sweepS C s x
theorem rootS_ok (C : Cf) (s : Dy) (x : Co) : (rootS C s x).2.2 = decide (x.l = 1 ∨ x.l = 2) := by
  unfold rootS; split
  · simp; omega
  split
  · simp; omega
  · symm; rw [decide_eq_false]; omega
theorem passS_ok (C : Cf) (s : Dy) (x : Co) : (passS C s x).2.2 = decide (3 ≤ x.l ∧ x.l ≤ 9) := by
  unfold passS
  repeat' (split; · (symm; rw [decide_eq_true]; omega))
  symm; rw [decide_eq_false]; omega
theorem shutS_ok (C : Cf) (s : Dy) (x : Co) : (shutS C s x).2.2.2 = decide (10 ≤ x.l ∧ x.l ≤ 16) := by
  unfold shutS
  repeat' (split; · (symm; rw [decide_eq_true]; omega))
  symm; rw [decide_eq_false]; omega
theorem sweepS_ok (C : Cf) (s : Dy) (x : Co) : (sweepS C s x).2.2.2 = decide (20 ≤ x.l ∧ x.l ≤ 24) := by
  unfold sweepS
  repeat' (split; · (symm; rw [decide_eq_true]; omega))
  symm; rw [decide_eq_false]; omega
theorem rootS_no {C : Cf} {s : Dy} {x : Co} (h : ¬ (x.l = 1 ∨ x.l = 2)) : rootS C s x = (s, x, false) := by
  unfold rootS; rw [if_neg (by omega), if_neg (by omega)]
theorem passS_no {C : Cf} {s : Dy} {x : Co} (h : ¬ (3 ≤ x.l ∧ x.l ≤ 9)) : passS C s x = (s, x, false) := by
  unfold passS; rw [if_neg (by omega), if_neg (by omega), if_neg (by omega), if_neg (by omega), if_neg (by omega), if_neg (by omega), if_neg (by omega)]
theorem shutS_no {C : Cf} {s : Dy} {x : Co} (h : ¬ (10 ≤ x.l ∧ x.l ≤ 16)) : shutS C s x = (s, x, false, false) := by
  unfold shutS; rw [if_neg (by omega), if_neg (by omega), if_neg (by omega), if_neg (by omega), if_neg (by omega), if_neg (by omega), if_neg (by omega)]
theorem sweepS_no {C : Cf} {s : Dy} {x : Co} (h : ¬ (20 ≤ x.l ∧ x.l ≤ 24)) : sweepS C s x = (s, x, 0, false) := by
  unfold sweepS; rw [if_neg (by omega), if_neg (by omega), if_neg (by omega), if_neg (by omega), if_neg (by omega)]
theorem lay_no {C : Cf} {s : Dy} {x : Co} {k : Nat} (h : (layN C s x k).2.2.2 = false) : layN C s x k = (s, x, 0, false) := by
  unfold layN at h ⊢
  split at h
  · rename_i hk; rw [if_pos hk]; dsimp only at h; rw [rootS_ok] at h; rw [rootS_no (of_decide_eq_false h)]
  rename_i hk; rw [if_neg hk]
  split at h
  · rename_i hk; rw [if_pos hk]; dsimp only at h; rw [passS_ok] at h; rw [passS_no (of_decide_eq_false h)]
  rename_i hk; rw [if_neg hk]
  split at h
  · rename_i hk; rw [if_pos hk]; dsimp only at h; rw [shutS_ok] at h; rw [shutS_no (of_decide_eq_false h)]; rfl
  rename_i hk; rw [if_neg hk]
  rw [sweepS_ok] at h; rw [sweepS_no (of_decide_eq_false h)]
theorem lay_yes {C : Cf} {s : Dy} {x : Co} {k : Nat} (h : (layN C s.clr x k).2.2.2 = true) : layN C s.clr x k = ((colS C s x).1, (colS C s x).2.1, (colS C s x).2.2, true) := by
  unfold layN at h ⊢
  unfold colS
  split at h
  · rename_i hk; rw [if_pos hk]; dsimp only at h; rw [rootS_ok] at h; rw [if_pos (of_decide_eq_true h), rootS_ok, h]
  rename_i hk; rw [if_neg hk]
  split at h
  · rename_i hk; rw [if_pos hk]; dsimp only at h; rw [passS_ok] at h; have q := of_decide_eq_true h; have n1 : ¬ (x.l = 1 ∨ x.l = 2) := (by omega); rw [if_neg n1, if_pos q, passS_ok, h]
  rename_i hk; rw [if_neg hk]
  split at h
  · rename_i hk; rw [if_pos hk]; dsimp only at h; rw [shutS_ok] at h; have q := of_decide_eq_true h; have n1 : ¬ (x.l = 1 ∨ x.l = 2) := (by omega); have n2 : ¬ (3 ≤ x.l ∧ x.l ≤ 9) := (by omega); rw [if_neg n1, if_neg n2, if_pos q, shutS_ok, h]
  rename_i hk; rw [if_neg hk]
  rw [sweepS_ok] at h; have q := of_decide_eq_true h; have n1 : ¬ (x.l = 1 ∨ x.l = 2) := (by omega); have n2 : ¬ (3 ≤ x.l ∧ x.l ≤ 9) := (by omega); have n3 : ¬ (10 ≤ x.l ∧ x.l ≤ 16) := (by omega); rw [if_neg n1, if_neg n2, if_neg n3]
  have e := sweepS_ok C s.clr x
  rw [h] at e
  rw [← e]
theorem lay_none {C : Cf} {s : Dy} {x : Co} (h : ∀ i, i < 4 → (layN C s.clr x i).2.2.2 = false) : colS C s x = (s.clr, x, 0) := by
  have h0 := h 0 (by decide); have h1 := h 1 (by decide); have h2 := h 2 (by decide); have h3 := h 3 (by decide)
  have q0 : ¬ (x.l = 1 ∨ x.l = 2) := of_decide_eq_false ((rootS_ok C s.clr x).symm.trans h0)
  have q1 : ¬ (3 ≤ x.l ∧ x.l ≤ 9) := of_decide_eq_false ((passS_ok C s.clr x).symm.trans h1)
  have q2 : ¬ (10 ≤ x.l ∧ x.l ≤ 16) := of_decide_eq_false ((shutS_ok C s.clr x).symm.trans h2)
  have q3 : ¬ (20 ≤ x.l ∧ x.l ≤ 24) := of_decide_eq_false ((sweepS_ok C s.clr x).symm.trans h3)
  unfold colS
  rw [if_neg q0, if_neg q1, if_neg q2, sweepS_no q3]
end Go.Proofs.YtbpooljohjkbjaaGreatDoor
/- A step of package roots: line 1, a cell; other lines; a nil hand. -/
namespace Go.Proofs.YtbpooljohjkbjaaGreatDoor
open Go Go.RowKit
set_option maxRecDepth 100000
attribute [local go_sem ↓] Go.wp_at_zero Go.wp_at_succ
set_option maxHeartbeats 3200000 in
theorem roStep_cell {w : World} {H A G : Nat} {C : Cf} {s : Dy} (hH : HAt w H A G C s) (hu : s.U) (hS : SpansAt w) (_hr : Right C.a C.b C.c C.d) (j c m a p : Int) (fd : Bool) (tl cy : Int) (hn : 0 < C.n) (_hj : -1000000000000 ≤ j ∧ j ≤ 1000000000000) (u : Nat) (hu6 : u < 18446744073709551616) (hT : z5 C.n 1 (rootP C.a C.b C.c C.d j) (s.f (rootP C.a C.b C.c C.d j).toNat) = (u : Int)) (hc : isC u) :
    Calls Tryz.prog 104 #[.pointer (some ⟨H, 0, none⟩), (colV 1 j c m a p fd tl cy)] w (HP w H A G C (s.act C 1 (rootP C.a C.b C.c C.d j) 0 0) (.tuple #[(colV 2 j c m a (u : Int) fd tl cy), .bool true])) := by
  have HC0 := Lib.hid (ColF.start hH ⟨1, j, c, m, a, p, fd, tl, cy⟩)
  have HSP : Hid (∀ W s' x', ColF w W H A G C s' x' → SpansAt W) := Lib.hid (fun W s' x' h => spans_sav hn hS hH h.sav)
  have HRt : Hid (∀ W, SpansAt W → Calls Tryz.prog 124 #[(.agg #[.int .i64 C.a, .int .i64 C.b, .int .i64 C.c, .int .i64 C.d]), .int .i64 j] W fun e w' => e = .returned (.int .i64 (rootP C.a C.b C.c C.d j)) ∧ Below W.heap.size W w') := Lib.hid (fun W hW => Root_c C.a C.b C.c C.d j W hW)
  have HD : Hid (∀ W, HAt W H A G C s → Calls Tryz.prog 123 #[.pointer (some ⟨H, 0, none⟩), .int .i64 (rootP C.a C.b C.c C.d j)] W (HP W H A G C (s.act C 1 (rootP C.a C.b C.c C.d j) 0 0) (.int .u64 (z5 C.n 1 (rootP C.a C.b C.c C.d j) (s.f ((rootP C.a C.b C.c C.d j)).toNat))))) := Lib.hid (fun W hW => hLoad_c (w := W) hW hu (rootP C.a C.b C.c C.d j))
  have HI : Hid (∀ W, Calls Tryz.prog 125 #[.int .u64 (u : Int)] W fun e w' => e = .returned (.tuple #[.int .i64 (cellK u), .bool true]) ∧ W = w') := Lib.hid (fun W => by have := isCell_c u hu6 W; rw [decide_eq_true hc] at this; exact this)
  generalize cellK u = k at *
  generalize (s.act C 1 (rootP C.a C.b C.c C.d j) 0 0) = s' at *
  generalize (z5 C.n 1 (rootP C.a C.b C.c C.d j) (s.f ((rootP C.a C.b C.c C.d j)).toNat)) = T at *
  generalize (rootP C.a C.b C.c C.d j) = P at *
  subst hT
  clear hH hu hS hc hu6 hn
  obtain ⟨a0, a1, a2, a3, a4, a5, a6, a7, a8, af⟩ := HC0.out.cells
  dsimp only at a0 a1 a2 a3 a4 a5 a6 a7 a8
  obtain ⟨_, ⟨h1, h2, h3, h4⟩, _⟩ := HC0.out.hand.cells
  go_enter Tryz.func104, Tryz.ntmps104
  go_wp2_with fail
  refine wp_region_held_drew (S := (fun w' => w'.cell? ⟨H, 1, none⟩ = some (.int .i64 C.a) ∧ w'.cell? ⟨H, 2, none⟩ = some (.int .i64 C.b) ∧ w'.cell? ⟨H, 3, none⟩ = some (.int .i64 C.c) ∧ w'.cell? ⟨H, 4, none⟩ = some (.int .i64 C.d) ∧ w'.cell? ⟨w.heap.size, 1, none⟩ = some (.int .i64 j))) (by kernel_rfl) ?_ (fun hHeld => ?_)
  · exact ⟨h1, h2, h3, h4, a1⟩
  refine tk 0 rfl hHeld ?_
  refine tk 1 rfl hHeld ?_
  refine tk 2 rfl hHeld ?_
  refine tk 3 rfl hHeld ?_
  refine tk 4 rfl hHeld ?_
  refine tk 5 rfl hHeld ?_
  refine tk 6 rfl hHeld ?_
  refine wpAnyH_ready (rs := [7]) (by kernel_rfl) (by simp) ?_
  refine AllReadyH.cons (o := _) rfl (fun K hK => ?_) AllReadyH.nil
  go_simp
  have HC1 := Lib.hid HC0.out.drew
  clear HC0
  refine (HRt.out _ (HSP.out _ _ _ HC1.out)).mono ?_
  rintro e V1 ⟨rfl, hb⟩
  have HC2 := Lib.hid (HC1.out.below hb)
  clear HC1
  clear hb
  clear hHeld HRt h1 h2 h3 h4 a0 a1 a2 a3 a4 a5 a6 a7 a8 af
  obtain ⟨a0, a1, a2, a3, a4, a5, a6, a7, a8, af⟩ := HC2.out.cells
  dsimp only at a0 a1 a2 a3 a4 a5 a6 a7 a8
  obtain ⟨_, ⟨h1, h2, h3, h4⟩, _⟩ := HC2.out.hand.cells
  refine hK.out _ _ ?_ (fun hHeld => ?_)
  · exact ⟨h1, h2, h3, h4, a1⟩
  clear hK K
  try simp only [Act.put, List.setIfInBounds_toArray, List.set_cons_zero, List.set_cons_succ]
  refine wpAnyH_ready (rs := [8]) (by kernel_rfl) (by simp) ?_
  refine AllReadyH.cons (o := _) rfl (fun K hK => ?_) AllReadyH.nil
  go_simp
  refine (HD.out _ HC2.out.hand).mono ?_
  rintro e V2 ⟨rfl, hF, hs⟩
  have HC3 := Lib.hid (HC2.out.handed hF hs)
  clear HC2 hF hs
  clear hHeld HD h1 h2 h3 h4 a0 a1 a2 a3 a4 a5 a6 a7 a8 af
  obtain ⟨a0, a1, a2, a3, a4, a5, a6, a7, a8, af⟩ := HC3.out.cells
  dsimp only at a0 a1 a2 a3 a4 a5 a6 a7 a8
  obtain ⟨_, ⟨h1, h2, h3, h4⟩, _⟩ := HC3.out.hand.cells
  refine hK.out _ _ ?_ (fun hHeld => ?_)
  · exact ⟨h1, h2, h3, h4, a1⟩
  clear hK K
  try simp only [Act.put, List.setIfInBounds_toArray, List.set_cons_zero, List.set_cons_succ]
  refine tk 9 rfl hHeld ?_
  refine wpAnyH_ready (rs := [10]) (by kernel_rfl) (by simp) ?_
  refine AllReadyH.cons (o := _) rfl (fun K hK => ?_) AllReadyH.nil
  go_simp
  have HC4 := Lib.hid (HC3.out.setP (u : Int))
  clear hHeld HC3 h1 h2 h3 h4 a0 a1 a2 a3 a4 a5 a6 a7 a8 af
  obtain ⟨a0, a1, a2, a3, a4, a5, a6, a7, a8, af⟩ := HC4.out.cells
  dsimp only at a0 a1 a2 a3 a4 a5 a6 a7 a8
  obtain ⟨_, ⟨h1, h2, h3, h4⟩, _⟩ := HC4.out.hand.cells
  refine hK.out _ _ ?_ (fun hHeld => ?_)
  · exact ⟨h1, h2, h3, h4, a1⟩
  clear hK K
  try simp only [Act.put, List.setIfInBounds_toArray, List.set_cons_zero, List.set_cons_succ]
  refine wpAnyH_done (by kernel_rfl) ?_ _
  clear hHeld h1 h2 h3 h4 a0 a1 a2 a3 a4 a5 a6 a7 a8 af
  obtain ⟨a0, a1, a2, a3, a4, a5, a6, a7, a8, af⟩ := HC4.out.cells
  dsimp only at a0 a1 a2 a3 a4 a5 a6 a7 a8
  go_wp2_with fail
  refine (HI.out _).mono ?_
  rintro e V9 ⟨rfl, rfl⟩
  clear HI
  clear a0 a1 a2 a3 a4 a5 a6 a7 a8 af
  have HCe := Lib.hid (HC4.out.setL 2)
  obtain ⟨b0, b1, b2, b3, b4, b5, b6, b7, b8, bf⟩ := HC4.out.cells
  dsimp only at b0 b1 b2 b3 b4 b5 b6 b7 b8
  obtain ⟨d0, d1, d2, d3, d4, d5, d6, d7, d8, df⟩ := HCe.out.cells
  dsimp only at d0 d1 d2 d3 d4 d5 d6 d7 d8
  obtain ⟨c0, c1, c2, c3, c4, c5, c6, c7, c8, cf⟩ := HCe.out.cellsY
  obtain ⟨s0, s1, s2, s3, s4, s5, s6, s7, s8, sf⟩ := (HCe.out.last ⟨2, j, c, m, a, (u : Int), fd, tl, cy⟩).cells
  dsimp only at s0 s1 s2 s3 s4 s5 s6 s7 s8
  clear HC4 
  go_wp2_with fail
  refine bodyPost_ret (v := .tuple #[(colV 2 j c m a (u : Int) fd tl cy), .bool true]) (by simp [results, Tryz.f104, go_sem, s0, s1, s2, s3, s4, s5, s6, s7, s8]) rfl ?_
  exact ⟨rfl, HCe.out.fin ⟨2, j, c, m, a, (u : Int), fd, tl, cy⟩⟩
set_option maxHeartbeats 3200000 in
theorem roStep_other {w : World} {H A G : Nat} {C : Cf} {s : Dy} (hH : HAt w H A G C s) (_ : s.U) (_ : SpansAt w) (_ : Right C.a C.b C.c C.d) (l j c m a : Int) (fd : Bool) (tl cy : Int) (_ : 0 < C.n) (h1 : ¬ l = 1) (h2 : ¬ l = 2) (v : Nat) (hv : v < 18446744073709551616) :
    Calls Tryz.prog 104 #[.pointer (some ⟨H, 0, none⟩), (colV l j c m a (v : Int) fd tl cy)] w (HP w H A G C s (.tuple #[(colV l j c m a (v : Int) fd tl cy), .bool false])) := by
  have HF := Lib.hid hH
  have g1 : (l == 1) = false := by simpa using h1
  have g2 : (l == 2) = false := by simpa using h2
  clear h1 h2 hH
  have HI : Hid (∀ W, Calls Tryz.prog 125 #[.int .u64 (v : Int)] W fun e w' => e = .returned (.tuple #[.int .i64 (cellK v), .bool (decide (isC v))]) ∧ W = w') := Lib.hid (fun W => isCell_c v hv W)
  generalize cellK v = k at *
  generalize decide (isC v) = bo at *
  clear hv
  go_enter Tryz.func104, Tryz.ntmps104
  go_wp2_with fail
  refine (HI.out _).mono ?_
  rintro e V1 ⟨rfl, rfl⟩
  clear HI
  go_wp2_with fail
  refine bodyPost_ret (v := .tuple #[(colV l j c m a (v : Int) fd tl cy), .bool false]) (by simp [results, Tryz.f104, go_sem]) rfl ?_
  refine ⟨rfl, HF.out.below (below_on (below_new _ _) _), Sav.of (below_on (below_new _ _) _)⟩
end Go.Proofs.YtbpooljohjkbjaaGreatDoor
/- A step of package roots: line 1, no cell. -/
namespace Go.Proofs.YtbpooljohjkbjaaGreatDoor
open Go Go.RowKit
set_option maxRecDepth 100000
attribute [local go_sem ↓] Go.wp_at_zero Go.wp_at_succ
set_option maxHeartbeats 3200000 in
theorem roStep_no {w : World} {H A G : Nat} {C : Cf} {s : Dy} (hH : HAt w H A G C s) (hu : s.U) (hS : SpansAt w) (hr : Right C.a C.b C.c C.d) (j c m a p : Int) (fd : Bool) (tl cy : Int) (hn : 0 < C.n) (hj : -1000000000000 ≤ j ∧ j ≤ 1000000000000) (u : Nat) (hu6 : u < 18446744073709551616) (hT : z5 C.n 1 (rootP C.a C.b C.c C.d j) (s.f (rootP C.a C.b C.c C.d j).toNat) = (u : Int)) (hc : ¬ isC u) :
    Calls Tryz.prog 104 #[.pointer (some ⟨H, 0, none⟩), (colV 1 j c m a p fd tl cy)] w (HP w H A G C (s.act C 1 (rootP C.a C.b C.c C.d j) 0 0) (.tuple #[(nextRoot C ⟨1, j, c, m, a, p, fd, tl, cy⟩).v, .bool true])) := by
  have HC0 := Lib.hid (ColF.start hH ⟨1, j, c, m, a, p, fd, tl, cy⟩)
  have HSP : Hid (∀ W s' x', ColF w W H A G C s' x' → SpansAt W) := Lib.hid (fun W s' x' h => spans_sav hn hS hH h.sav)
  have HRt : Hid (∀ W, SpansAt W → Calls Tryz.prog 124 #[(.agg #[.int .i64 C.a, .int .i64 C.b, .int .i64 C.c, .int .i64 C.d]), .int .i64 j] W fun e w' => e = .returned (.int .i64 (rootP C.a C.b C.c C.d j)) ∧ Below W.heap.size W w') := Lib.hid (fun W hW => Root_c C.a C.b C.c C.d j W hW)
  have HD : Hid (∀ W, HAt W H A G C s → Calls Tryz.prog 123 #[.pointer (some ⟨H, 0, none⟩), .int .i64 (rootP C.a C.b C.c C.d j)] W (HP W H A G C (s.act C 1 (rootP C.a C.b C.c C.d j) 0 0) (.int .u64 (z5 C.n 1 (rootP C.a C.b C.c C.d j) (s.f ((rootP C.a C.b C.c C.d j)).toNat))))) := Lib.hid (fun W hW => hLoad_c (w := W) hW hu (rootP C.a C.b C.c C.d j))
  have HI : Hid (∀ W, Calls Tryz.prog 125 #[.int .u64 (u : Int)] W fun e w' => e = .returned (.tuple #[.int .i64 (cellK u), .bool false]) ∧ W = w') := Lib.hid (fun W => by have := isCell_c u hu6 W; rw [decide_eq_false hc] at this; exact this)
  generalize cellK u = k at *
  obtain ⟨y, hy⟩ : ∃ y, nextRoot C ⟨1, j, c, m, a, p, fd, tl, cy⟩ = y := ⟨_, rfl⟩
  have HNx : Hid (∀ W, Calls Tryz.prog 128 #[(colV 1 j c m a (u : Int) fd tl cy), .int .i64 (1 + C.d + C.b * C.c)] W fun e w' => e = .returned y.v ∧ Below W.heap.size W w') := Lib.hid (fun W => by rw [← hy]; exact next_c C hr 1 j c m a (u : Int) fd tl cy hj W)
  have HRo : Hid (∀ W, SpansAt W → Calls Tryz.prog 117 #[(.agg #[.int .i64 C.a, .int .i64 C.b, .int .i64 C.c, .int .i64 C.d])] W fun e w' => e = .returned (.int .i64 (1 + C.d + C.b * C.c)) ∧ Below W.heap.size W w') := Lib.hid (fun W hW => roots_right C.a C.b C.c C.d hr W hW)
  generalize (1 + C.d + C.b * C.c) = nn at *
  rw [hy]
  clear hy
  generalize (s.act C 1 (rootP C.a C.b C.c C.d j) 0 0) = s' at *
  generalize (z5 C.n 1 (rootP C.a C.b C.c C.d j) (s.f ((rootP C.a C.b C.c C.d j)).toNat)) = T at *
  generalize (rootP C.a C.b C.c C.d j) = P at *
  subst hT
  clear hH hu hS hr hc hu6 hj hn
  obtain ⟨a0, a1, a2, a3, a4, a5, a6, a7, a8, af⟩ := HC0.out.cells
  dsimp only at a0 a1 a2 a3 a4 a5 a6 a7 a8
  obtain ⟨_, ⟨h1, h2, h3, h4⟩, _⟩ := HC0.out.hand.cells
  go_enter Tryz.func104, Tryz.ntmps104
  go_wp2_with fail
  refine wp_region_held_drew (S := (fun w' => w'.cell? ⟨H, 1, none⟩ = some (.int .i64 C.a) ∧ w'.cell? ⟨H, 2, none⟩ = some (.int .i64 C.b) ∧ w'.cell? ⟨H, 3, none⟩ = some (.int .i64 C.c) ∧ w'.cell? ⟨H, 4, none⟩ = some (.int .i64 C.d) ∧ w'.cell? ⟨w.heap.size, 1, none⟩ = some (.int .i64 j))) (by kernel_rfl) ?_ (fun hHeld => ?_)
  · exact ⟨h1, h2, h3, h4, a1⟩
  refine tk 0 rfl hHeld ?_
  refine tk 1 rfl hHeld ?_
  refine tk 2 rfl hHeld ?_
  refine tk 3 rfl hHeld ?_
  refine tk 4 rfl hHeld ?_
  refine tk 5 rfl hHeld ?_
  refine tk 6 rfl hHeld ?_
  refine wpAnyH_ready (rs := [7]) (by kernel_rfl) (by simp) ?_
  refine AllReadyH.cons (o := _) rfl (fun K hK => ?_) AllReadyH.nil
  go_simp
  have HC1 := Lib.hid HC0.out.drew
  clear HC0
  refine (HRt.out _ (HSP.out _ _ _ HC1.out)).mono ?_
  rintro e V1 ⟨rfl, hb⟩
  have HC2 := Lib.hid (HC1.out.below hb)
  clear HC1
  clear hb
  clear hHeld HRt h1 h2 h3 h4 a0 a1 a2 a3 a4 a5 a6 a7 a8 af
  obtain ⟨a0, a1, a2, a3, a4, a5, a6, a7, a8, af⟩ := HC2.out.cells
  dsimp only at a0 a1 a2 a3 a4 a5 a6 a7 a8
  obtain ⟨_, ⟨h1, h2, h3, h4⟩, _⟩ := HC2.out.hand.cells
  refine hK.out _ _ ?_ (fun hHeld => ?_)
  · exact ⟨h1, h2, h3, h4, a1⟩
  clear hK K
  try simp only [Act.put, List.setIfInBounds_toArray, List.set_cons_zero, List.set_cons_succ]
  refine wpAnyH_ready (rs := [8]) (by kernel_rfl) (by simp) ?_
  refine AllReadyH.cons (o := _) rfl (fun K hK => ?_) AllReadyH.nil
  go_simp
  refine (HD.out _ HC2.out.hand).mono ?_
  rintro e V2 ⟨rfl, hF, hs⟩
  have HC3 := Lib.hid (HC2.out.handed hF hs)
  clear HC2 hF hs
  clear hHeld HD h1 h2 h3 h4 a0 a1 a2 a3 a4 a5 a6 a7 a8 af
  obtain ⟨a0, a1, a2, a3, a4, a5, a6, a7, a8, af⟩ := HC3.out.cells
  dsimp only at a0 a1 a2 a3 a4 a5 a6 a7 a8
  obtain ⟨_, ⟨h1, h2, h3, h4⟩, _⟩ := HC3.out.hand.cells
  refine hK.out _ _ ?_ (fun hHeld => ?_)
  · exact ⟨h1, h2, h3, h4, a1⟩
  clear hK K
  try simp only [Act.put, List.setIfInBounds_toArray, List.set_cons_zero, List.set_cons_succ]
  refine tk 9 rfl hHeld ?_
  refine wpAnyH_ready (rs := [10]) (by kernel_rfl) (by simp) ?_
  refine AllReadyH.cons (o := _) rfl (fun K hK => ?_) AllReadyH.nil
  go_simp
  have HC4 := Lib.hid (HC3.out.setP (u : Int))
  clear hHeld HC3 h1 h2 h3 h4 a0 a1 a2 a3 a4 a5 a6 a7 a8 af
  obtain ⟨a0, a1, a2, a3, a4, a5, a6, a7, a8, af⟩ := HC4.out.cells
  dsimp only at a0 a1 a2 a3 a4 a5 a6 a7 a8
  obtain ⟨_, ⟨h1, h2, h3, h4⟩, _⟩ := HC4.out.hand.cells
  refine hK.out _ _ ?_ (fun hHeld => ?_)
  · exact ⟨h1, h2, h3, h4, a1⟩
  clear hK K
  try simp only [Act.put, List.setIfInBounds_toArray, List.set_cons_zero, List.set_cons_succ]
  refine wpAnyH_done (by kernel_rfl) ?_ _
  clear hHeld h1 h2 h3 h4 a0 a1 a2 a3 a4 a5 a6 a7 a8 af
  obtain ⟨a0, a1, a2, a3, a4, a5, a6, a7, a8, af⟩ := HC4.out.cells
  dsimp only at a0 a1 a2 a3 a4 a5 a6 a7 a8
  go_wp2_with fail
  refine (HI.out _).mono ?_
  rintro e V9 ⟨rfl, rfl⟩
  clear HI
  obtain ⟨_, ⟨h1, h2, h3, h4⟩, _⟩ := HC4.out.hand.cells
  go_wp2_with fail
  skip
  refine wp_region_held_drew (S := (fun w' => w'.cell? ⟨H, 1, none⟩ = some (.int .i64 C.a) ∧ w'.cell? ⟨H, 2, none⟩ = some (.int .i64 C.b) ∧ w'.cell? ⟨H, 3, none⟩ = some (.int .i64 C.c) ∧ w'.cell? ⟨H, 4, none⟩ = some (.int .i64 C.d))) (by kernel_rfl) ?_ (fun hHeld => ?_)
  · exact ⟨h1, h2, h3, h4⟩
  refine tk 1 rfl hHeld ?_
  refine tk 2 rfl hHeld ?_
  refine tk 3 rfl hHeld ?_
  refine tk 4 rfl hHeld ?_
  refine tk 5 rfl hHeld ?_
  refine wpAnyH_ready (rs := [0, 6]) (by kernel_rfl) (by simp) ?_
  refine AllReadyH.cons (o := _) rfl (fun K hK => ?_) ?_
  · go_simp
    skip
    refine hK.out _ _ ?_ (fun hHeld => ?_)
    · exact ⟨h1, h2, h3, h4⟩
    clear hK K
    try simp only [Act.put, List.setIfInBounds_toArray, List.set_cons_zero, List.set_cons_succ]
    refine wpAnyH_ready (rs := [6]) (by kernel_rfl) (by simp) ?_
    refine AllReadyH.cons (o := _) rfl (fun K hK => ?_) AllReadyH.nil
    go_simp
    have HC5 := Lib.hid HC4.out.drew
    clear HC4
    refine (HRo.out _ (HSP.out _ _ _ HC5.out)).mono ?_
    rintro e V11 ⟨rfl, hb⟩
    have HC6 := Lib.hid (HC5.out.below hb)
    clear HC5
    clear hb
    clear hHeld HRo h1 h2 h3 h4 a0 a1 a2 a3 a4 a5 a6 a7 a8 af
    obtain ⟨a0, a1, a2, a3, a4, a5, a6, a7, a8, af⟩ := HC6.out.cells
    dsimp only at a0 a1 a2 a3 a4 a5 a6 a7 a8
    obtain ⟨_, ⟨h1, h2, h3, h4⟩, _⟩ := HC6.out.hand.cells
    refine hK.out _ _ ?_ (fun hHeld => ?_)
    · exact ⟨h1, h2, h3, h4⟩
    clear hK K
    try simp only [Act.put, List.setIfInBounds_toArray, List.set_cons_zero, List.set_cons_succ]
    refine wpAnyH_ready (rs := [7]) (by kernel_rfl) (by simp) ?_
    refine AllReadyH.cons (o := _) rfl (fun K hK => ?_) AllReadyH.nil
    go_simp
    refine (HNx.out _).mono ?_
    rintro e V12 ⟨rfl, hb⟩
    have HC7 := Lib.hid (HC6.out.below hb)
    clear HC6
    clear hb
    clear hHeld HNx h1 h2 h3 h4 a0 a1 a2 a3 a4 a5 a6 a7 a8 af
    obtain ⟨a0, a1, a2, a3, a4, a5, a6, a7, a8, af⟩ := HC7.out.cells
    dsimp only at a0 a1 a2 a3 a4 a5 a6 a7 a8
    obtain ⟨_, ⟨h1, h2, h3, h4⟩, _⟩ := HC7.out.hand.cells
    refine hK.out _ _ ?_ (fun hHeld => ?_)
    · exact ⟨h1, h2, h3, h4⟩
    clear hK K
    try simp only [Act.put, List.setIfInBounds_toArray, List.set_cons_zero, List.set_cons_succ]
    refine wpAnyH_ready (rs := [8]) (by kernel_rfl) (by simp) ?_
    refine AllReadyH.cons (o := _) rfl (fun K hK => ?_) AllReadyH.nil
    go_simp
    have HC8 := Lib.hid (HC7.out.put ⟨y.l, y.j, y.c, y.m, y.a, y.p, y.fd, y.tl, y.cy⟩)
    clear hHeld HC7 h1 h2 h3 h4 a0 a1 a2 a3 a4 a5 a6 a7 a8 af
    obtain ⟨_, ⟨h1, h2, h3, h4⟩, _⟩ := HC8.out.hand.cells
    refine hK.out _ _ ?_ (fun hHeld => ?_)
    · exact ⟨h1, h2, h3, h4⟩
    clear hK K
    try simp only [Act.put, List.setIfInBounds_toArray, List.set_cons_zero, List.set_cons_succ]
    refine wpAnyH_done (by kernel_rfl) ?_ _
    clear hHeld h1 h2 h3 h4
    have HCe := Lib.hid HC8.out
    obtain ⟨d0, d1, d2, d3, d4, d5, d6, d7, d8, df⟩ := HCe.out.cells
    dsimp only at d0 d1 d2 d3 d4 d5 d6 d7 d8
    obtain ⟨c0, c1, c2, c3, c4, c5, c6, c7, c8, cf⟩ := HCe.out.cellsY
    obtain ⟨s0, s1, s2, s3, s4, s5, s6, s7, s8, sf⟩ := (HCe.out.last ⟨y.l, y.j, y.c, y.m, y.a, y.p, y.fd, y.tl, y.cy⟩).cells
    dsimp only at s0 s1 s2 s3 s4 s5 s6 s7 s8
    clear HC8 
    go_wp2_with fail
    refine bodyPost_ret (v := .tuple #[(colV y.l y.j y.c y.m y.a y.p y.fd y.tl y.cy), .bool true]) (by simp [results, Tryz.f104, go_sem, s0, s1, s2, s3, s4, s5, s6, s7, s8]) rfl ?_
    exact ⟨rfl, HCe.out.fin ⟨y.l, y.j, y.c, y.m, y.a, y.p, y.fd, y.tl, y.cy⟩⟩
  refine AllReadyH.cons (o := _) rfl (fun K hK => ?_) AllReadyH.nil
  go_simp
  have HC5 := Lib.hid HC4.out.drew
  clear HC4
  refine (HRo.out _ (HSP.out _ _ _ HC5.out)).mono ?_
  rintro e V11 ⟨rfl, hb⟩
  have HC6 := Lib.hid (HC5.out.below hb)
  clear HC5
  clear hb
  clear hHeld HRo h1 h2 h3 h4 a0 a1 a2 a3 a4 a5 a6 a7 a8 af
  obtain ⟨a0, a1, a2, a3, a4, a5, a6, a7, a8, af⟩ := HC6.out.cells
  dsimp only at a0 a1 a2 a3 a4 a5 a6 a7 a8
  obtain ⟨_, ⟨h1, h2, h3, h4⟩, _⟩ := HC6.out.hand.cells
  refine hK.out _ _ ?_ (fun hHeld => ?_)
  · exact ⟨h1, h2, h3, h4⟩
  clear hK K
  try simp only [Act.put, List.setIfInBounds_toArray, List.set_cons_zero, List.set_cons_succ]
  refine wpAnyH_ready (rs := [0]) (by kernel_rfl) (by simp) ?_
  refine AllReadyH.cons (o := _) rfl (fun K hK => ?_) AllReadyH.nil
  go_simp
  skip
  refine hK.out _ _ ?_ (fun hHeld => ?_)
  · exact ⟨h1, h2, h3, h4⟩
  clear hK K
  try simp only [Act.put, List.setIfInBounds_toArray, List.set_cons_zero, List.set_cons_succ]
  refine wpAnyH_ready (rs := [7]) (by kernel_rfl) (by simp) ?_
  refine AllReadyH.cons (o := _) rfl (fun K hK => ?_) AllReadyH.nil
  go_simp
  refine (HNx.out _).mono ?_
  rintro e V12 ⟨rfl, hb⟩
  have HC7 := Lib.hid (HC6.out.below hb)
  clear HC6
  clear hb
  clear hHeld HNx h1 h2 h3 h4 a0 a1 a2 a3 a4 a5 a6 a7 a8 af
  obtain ⟨a0, a1, a2, a3, a4, a5, a6, a7, a8, af⟩ := HC7.out.cells
  dsimp only at a0 a1 a2 a3 a4 a5 a6 a7 a8
  obtain ⟨_, ⟨h1, h2, h3, h4⟩, _⟩ := HC7.out.hand.cells
  refine hK.out _ _ ?_ (fun hHeld => ?_)
  · exact ⟨h1, h2, h3, h4⟩
  clear hK K
  try simp only [Act.put, List.setIfInBounds_toArray, List.set_cons_zero, List.set_cons_succ]
  refine wpAnyH_ready (rs := [8]) (by kernel_rfl) (by simp) ?_
  refine AllReadyH.cons (o := _) rfl (fun K hK => ?_) AllReadyH.nil
  go_simp
  have HC8 := Lib.hid (HC7.out.put ⟨y.l, y.j, y.c, y.m, y.a, y.p, y.fd, y.tl, y.cy⟩)
  clear hHeld HC7 h1 h2 h3 h4 a0 a1 a2 a3 a4 a5 a6 a7 a8 af
  obtain ⟨_, ⟨h1, h2, h3, h4⟩, _⟩ := HC8.out.hand.cells
  refine hK.out _ _ ?_ (fun hHeld => ?_)
  · exact ⟨h1, h2, h3, h4⟩
  clear hK K
  try simp only [Act.put, List.setIfInBounds_toArray, List.set_cons_zero, List.set_cons_succ]
  refine wpAnyH_done (by kernel_rfl) ?_ _
  clear hHeld h1 h2 h3 h4
  have HCe := Lib.hid HC8.out
  obtain ⟨d0, d1, d2, d3, d4, d5, d6, d7, d8, df⟩ := HCe.out.cells
  dsimp only at d0 d1 d2 d3 d4 d5 d6 d7 d8
  obtain ⟨c0, c1, c2, c3, c4, c5, c6, c7, c8, cf⟩ := HCe.out.cellsY
  obtain ⟨s0, s1, s2, s3, s4, s5, s6, s7, s8, sf⟩ := (HCe.out.last ⟨y.l, y.j, y.c, y.m, y.a, y.p, y.fd, y.tl, y.cy⟩).cells
  dsimp only at s0 s1 s2 s3 s4 s5 s6 s7 s8
  clear HC8 
  go_wp2_with fail
  refine bodyPost_ret (v := .tuple #[(colV y.l y.j y.c y.m y.a y.p y.fd y.tl y.cy), .bool true]) (by simp [results, Tryz.f104, go_sem, s0, s1, s2, s3, s4, s5, s6, s7, s8]) rfl ?_
  exact ⟨rfl, HCe.out.fin ⟨y.l, y.j, y.c, y.m, y.a, y.p, y.fd, y.tl, y.cy⟩⟩
end Go.Proofs.YtbpooljohjkbjaaGreatDoor
/- A step of package roots: line 2. -/
namespace Go.Proofs.YtbpooljohjkbjaaGreatDoor
open Go Go.RowKit
set_option maxRecDepth 100000
attribute [local go_sem ↓] Go.wp_at_zero Go.wp_at_succ
set_option maxHeartbeats 3200000 in
theorem roStep_shade {w : World} {H A G : Nat} {C : Cf} {s : Dy} (hH : HAt w H A G C s) (hu : s.U) (hS : SpansAt w) (hr : Right C.a C.b C.c C.d) (j c m a : Int) (fd : Bool) (tl cy : Int) (hn : 0 < C.n) (hj : -1000000000000 ≤ j ∧ j ≤ 1000000000000) (v : Nat) (hv : v < 18446744073709551616) :
    Calls Tryz.prog 104 #[.pointer (some ⟨H, 0, none⟩), (colV 2 j c m a (v : Int) fd tl cy)] w (HP w H A G C (s.act C 3 (fieldP C.a C.b C.c C.d v 2) 0 1) (.tuple #[(nextRoot C ⟨2, j, c, m, a, (v : Int), fd, tl, cy⟩).v, .bool true])) := by
  have HC0 := Lib.hid (ColF.start hH ⟨2, j, c, m, a, (v : Int), fd, tl, cy⟩)
  have HSP : Hid (∀ W s' x', ColF w W H A G C s' x' → SpansAt W) := Lib.hid (fun W s' x' h => spans_sav hn hS hH h.sav)
  have HI : Hid (∀ W, Calls Tryz.prog 125 #[.int .u64 (v : Int)] W fun e w' => e = .returned (.tuple #[.int .i64 (cellK v), .bool (decide (isC v))]) ∧ W = w') := Lib.hid (fun W => isCell_c v hv W)
  generalize cellK v = k at *
  generalize decide (isC v) = bo at *
  have HFd : Hid (∀ W, HAt W H A G C s → SpansAt W → Calls Tryz.prog 127 #[.pointer (some ⟨H, 0, none⟩), .int .u64 (v : Int), .int .i64 2] W fun e w' => e = .returned (.int .i64 (fieldP C.a C.b C.c C.d v 2)) ∧ Below W.heap.size W w') := Lib.hid (fun W hW hs => hField_c (w := W) hW hs v hv 2)
  have HD : Hid (∀ W, HAt W H A G C s → Calls Tryz.prog 126 #[.pointer (some ⟨H, 0, none⟩), .int .i64 (fieldP C.a C.b C.c C.d v 2), .int .u64 0, .int .u64 1] W (HP W H A G C (s.act C 3 (fieldP C.a C.b C.c C.d v 2) 0 1) (.bool (casB C.n s.f (fieldP C.a C.b C.c C.d v 2) 0)))) := Lib.hid (fun W hW => hCas_c (w := W) hW hu (fieldP C.a C.b C.c C.d v 2) 0 1)
  generalize (s.act C 3 (fieldP C.a C.b C.c C.d v 2) 0 1) = s' at *
  generalize (casB C.n s.f (fieldP C.a C.b C.c C.d v 2) 0) = b2 at *
  generalize (fieldP C.a C.b C.c C.d v 2) = P at *
  obtain ⟨y, hy⟩ : ∃ y, nextRoot C ⟨2, j, c, m, a, (v : Int), fd, tl, cy⟩ = y := ⟨_, rfl⟩
  have HNx : Hid (∀ W, Calls Tryz.prog 128 #[(colV 2 j c m a (v : Int) fd tl cy), .int .i64 (1 + C.d + C.b * C.c)] W fun e w' => e = .returned y.v ∧ Below W.heap.size W w') := Lib.hid (fun W => by rw [← hy]; exact next_c C hr 2 j c m a (v : Int) fd tl cy hj W)
  have HRo : Hid (∀ W, SpansAt W → Calls Tryz.prog 117 #[(.agg #[.int .i64 C.a, .int .i64 C.b, .int .i64 C.c, .int .i64 C.d])] W fun e w' => e = .returned (.int .i64 (1 + C.d + C.b * C.c)) ∧ Below W.heap.size W w') := Lib.hid (fun W hW => roots_right C.a C.b C.c C.d hr W hW)
  generalize (1 + C.d + C.b * C.c) = nn at *
  rw [hy]
  clear hy
  clear hH hu hS hr hv hj hn
  obtain ⟨a0, a1, a2, a3, a4, a5, a6, a7, a8, af⟩ := HC0.out.cells
  dsimp only at a0 a1 a2 a3 a4 a5 a6 a7 a8
  go_enter Tryz.func104, Tryz.ntmps104
  go_wp2_with fail
  refine (HI.out _).mono ?_
  rintro e V1 ⟨rfl, rfl⟩
  clear HI
  go_wp2_with fail
  refine (HFd.out _ HC0.out.hand (HSP.out _ _ _ HC0.out)).mono ?_
  rintro e V2 ⟨rfl, hb⟩
  have HC1 := Lib.hid (HC0.out.below hb)
  clear HC0
  clear hb
  clear HFd a0 a1 a2 a3 a4 a5 a6 a7 a8 af
  obtain ⟨a0, a1, a2, a3, a4, a5, a6, a7, a8, af⟩ := HC1.out.cells
  dsimp only at a0 a1 a2 a3 a4 a5 a6 a7 a8
  go_wp2_with fail
  refine (HD.out _ HC1.out.hand).mono ?_
  rintro e V3 ⟨rfl, hF, hs⟩
  have HC2 := Lib.hid (HC1.out.handed hF hs)
  clear HC1 hF hs
  clear HD a0 a1 a2 a3 a4 a5 a6 a7 a8 af
  obtain ⟨a0, a1, a2, a3, a4, a5, a6, a7, a8, af⟩ := HC2.out.cells
  dsimp only at a0 a1 a2 a3 a4 a5 a6 a7 a8
  obtain ⟨_, ⟨h1, h2, h3, h4⟩, _⟩ := HC2.out.hand.cells
  go_wp2_with fail
  refine wp_region_held_drew (S := (fun w' => w'.cell? ⟨H, 1, none⟩ = some (.int .i64 C.a) ∧ w'.cell? ⟨H, 2, none⟩ = some (.int .i64 C.b) ∧ w'.cell? ⟨H, 3, none⟩ = some (.int .i64 C.c) ∧ w'.cell? ⟨H, 4, none⟩ = some (.int .i64 C.d))) (by kernel_rfl) ?_ (fun hHeld => ?_)
  · exact ⟨h1, h2, h3, h4⟩
  refine tk 1 rfl hHeld ?_
  refine tk 2 rfl hHeld ?_
  refine tk 3 rfl hHeld ?_
  refine tk 4 rfl hHeld ?_
  refine tk 5 rfl hHeld ?_
  refine wpAnyH_ready (rs := [0, 6]) (by kernel_rfl) (by simp) ?_
  refine AllReadyH.cons (o := _) rfl (fun K hK => ?_) ?_
  · go_simp
    skip
    refine hK.out _ _ ?_ (fun hHeld => ?_)
    · exact ⟨h1, h2, h3, h4⟩
    clear hK K
    try simp only [Act.put, List.setIfInBounds_toArray, List.set_cons_zero, List.set_cons_succ]
    refine wpAnyH_ready (rs := [6]) (by kernel_rfl) (by simp) ?_
    refine AllReadyH.cons (o := _) rfl (fun K hK => ?_) AllReadyH.nil
    go_simp
    have HC3 := Lib.hid HC2.out.drew
    clear HC2
    refine (HRo.out _ (HSP.out _ _ _ HC3.out)).mono ?_
    rintro e V11 ⟨rfl, hb⟩
    have HC4 := Lib.hid (HC3.out.below hb)
    clear HC3
    clear hb
    clear hHeld HRo h1 h2 h3 h4 a0 a1 a2 a3 a4 a5 a6 a7 a8 af
    obtain ⟨a0, a1, a2, a3, a4, a5, a6, a7, a8, af⟩ := HC4.out.cells
    dsimp only at a0 a1 a2 a3 a4 a5 a6 a7 a8
    obtain ⟨_, ⟨h1, h2, h3, h4⟩, _⟩ := HC4.out.hand.cells
    refine hK.out _ _ ?_ (fun hHeld => ?_)
    · exact ⟨h1, h2, h3, h4⟩
    clear hK K
    try simp only [Act.put, List.setIfInBounds_toArray, List.set_cons_zero, List.set_cons_succ]
    refine wpAnyH_ready (rs := [7]) (by kernel_rfl) (by simp) ?_
    refine AllReadyH.cons (o := _) rfl (fun K hK => ?_) AllReadyH.nil
    go_simp
    refine (HNx.out _).mono ?_
    rintro e V12 ⟨rfl, hb⟩
    have HC5 := Lib.hid (HC4.out.below hb)
    clear HC4
    clear hb
    clear hHeld HNx h1 h2 h3 h4 a0 a1 a2 a3 a4 a5 a6 a7 a8 af
    obtain ⟨a0, a1, a2, a3, a4, a5, a6, a7, a8, af⟩ := HC5.out.cells
    dsimp only at a0 a1 a2 a3 a4 a5 a6 a7 a8
    obtain ⟨_, ⟨h1, h2, h3, h4⟩, _⟩ := HC5.out.hand.cells
    refine hK.out _ _ ?_ (fun hHeld => ?_)
    · exact ⟨h1, h2, h3, h4⟩
    clear hK K
    try simp only [Act.put, List.setIfInBounds_toArray, List.set_cons_zero, List.set_cons_succ]
    refine wpAnyH_ready (rs := [8]) (by kernel_rfl) (by simp) ?_
    refine AllReadyH.cons (o := _) rfl (fun K hK => ?_) AllReadyH.nil
    go_simp
    have HC6 := Lib.hid (HC5.out.put ⟨y.l, y.j, y.c, y.m, y.a, y.p, y.fd, y.tl, y.cy⟩)
    clear hHeld HC5 h1 h2 h3 h4 a0 a1 a2 a3 a4 a5 a6 a7 a8 af
    obtain ⟨_, ⟨h1, h2, h3, h4⟩, _⟩ := HC6.out.hand.cells
    refine hK.out _ _ ?_ (fun hHeld => ?_)
    · exact ⟨h1, h2, h3, h4⟩
    clear hK K
    try simp only [Act.put, List.setIfInBounds_toArray, List.set_cons_zero, List.set_cons_succ]
    refine wpAnyH_done (by kernel_rfl) ?_ _
    clear hHeld h1 h2 h3 h4
    have HCe := Lib.hid HC6.out
    obtain ⟨d0, d1, d2, d3, d4, d5, d6, d7, d8, df⟩ := HCe.out.cells
    dsimp only at d0 d1 d2 d3 d4 d5 d6 d7 d8
    obtain ⟨c0, c1, c2, c3, c4, c5, c6, c7, c8, cf⟩ := HCe.out.cellsY
    obtain ⟨s0, s1, s2, s3, s4, s5, s6, s7, s8, sf⟩ := (HCe.out.last ⟨y.l, y.j, y.c, y.m, y.a, y.p, y.fd, y.tl, y.cy⟩).cells
    dsimp only at s0 s1 s2 s3 s4 s5 s6 s7 s8
    clear HC6 
    go_wp2_with fail
    refine bodyPost_ret (v := .tuple #[(colV y.l y.j y.c y.m y.a y.p y.fd y.tl y.cy), .bool true]) (by simp [results, Tryz.f104, go_sem, s0, s1, s2, s3, s4, s5, s6, s7, s8]) rfl ?_
    exact ⟨rfl, HCe.out.fin ⟨y.l, y.j, y.c, y.m, y.a, y.p, y.fd, y.tl, y.cy⟩⟩
  refine AllReadyH.cons (o := _) rfl (fun K hK => ?_) AllReadyH.nil
  go_simp
  have HC3 := Lib.hid HC2.out.drew
  clear HC2
  refine (HRo.out _ (HSP.out _ _ _ HC3.out)).mono ?_
  rintro e V11 ⟨rfl, hb⟩
  have HC4 := Lib.hid (HC3.out.below hb)
  clear HC3
  clear hb
  clear hHeld HRo h1 h2 h3 h4 a0 a1 a2 a3 a4 a5 a6 a7 a8 af
  obtain ⟨a0, a1, a2, a3, a4, a5, a6, a7, a8, af⟩ := HC4.out.cells
  dsimp only at a0 a1 a2 a3 a4 a5 a6 a7 a8
  obtain ⟨_, ⟨h1, h2, h3, h4⟩, _⟩ := HC4.out.hand.cells
  refine hK.out _ _ ?_ (fun hHeld => ?_)
  · exact ⟨h1, h2, h3, h4⟩
  clear hK K
  try simp only [Act.put, List.setIfInBounds_toArray, List.set_cons_zero, List.set_cons_succ]
  refine wpAnyH_ready (rs := [0]) (by kernel_rfl) (by simp) ?_
  refine AllReadyH.cons (o := _) rfl (fun K hK => ?_) AllReadyH.nil
  go_simp
  skip
  refine hK.out _ _ ?_ (fun hHeld => ?_)
  · exact ⟨h1, h2, h3, h4⟩
  clear hK K
  try simp only [Act.put, List.setIfInBounds_toArray, List.set_cons_zero, List.set_cons_succ]
  refine wpAnyH_ready (rs := [7]) (by kernel_rfl) (by simp) ?_
  refine AllReadyH.cons (o := _) rfl (fun K hK => ?_) AllReadyH.nil
  go_simp
  refine (HNx.out _).mono ?_
  rintro e V12 ⟨rfl, hb⟩
  have HC5 := Lib.hid (HC4.out.below hb)
  clear HC4
  clear hb
  clear hHeld HNx h1 h2 h3 h4 a0 a1 a2 a3 a4 a5 a6 a7 a8 af
  obtain ⟨a0, a1, a2, a3, a4, a5, a6, a7, a8, af⟩ := HC5.out.cells
  dsimp only at a0 a1 a2 a3 a4 a5 a6 a7 a8
  obtain ⟨_, ⟨h1, h2, h3, h4⟩, _⟩ := HC5.out.hand.cells
  refine hK.out _ _ ?_ (fun hHeld => ?_)
  · exact ⟨h1, h2, h3, h4⟩
  clear hK K
  try simp only [Act.put, List.setIfInBounds_toArray, List.set_cons_zero, List.set_cons_succ]
  refine wpAnyH_ready (rs := [8]) (by kernel_rfl) (by simp) ?_
  refine AllReadyH.cons (o := _) rfl (fun K hK => ?_) AllReadyH.nil
  go_simp
  have HC6 := Lib.hid (HC5.out.put ⟨y.l, y.j, y.c, y.m, y.a, y.p, y.fd, y.tl, y.cy⟩)
  clear hHeld HC5 h1 h2 h3 h4 a0 a1 a2 a3 a4 a5 a6 a7 a8 af
  obtain ⟨_, ⟨h1, h2, h3, h4⟩, _⟩ := HC6.out.hand.cells
  refine hK.out _ _ ?_ (fun hHeld => ?_)
  · exact ⟨h1, h2, h3, h4⟩
  clear hK K
  try simp only [Act.put, List.setIfInBounds_toArray, List.set_cons_zero, List.set_cons_succ]
  refine wpAnyH_done (by kernel_rfl) ?_ _
  clear hHeld h1 h2 h3 h4
  have HCe := Lib.hid HC6.out
  obtain ⟨d0, d1, d2, d3, d4, d5, d6, d7, d8, df⟩ := HCe.out.cells
  dsimp only at d0 d1 d2 d3 d4 d5 d6 d7 d8
  obtain ⟨c0, c1, c2, c3, c4, c5, c6, c7, c8, cf⟩ := HCe.out.cellsY
  obtain ⟨s0, s1, s2, s3, s4, s5, s6, s7, s8, sf⟩ := (HCe.out.last ⟨y.l, y.j, y.c, y.m, y.a, y.p, y.fd, y.tl, y.cy⟩).cells
  dsimp only at s0 s1 s2 s3 s4 s5 s6 s7 s8
  clear HC6 
  go_wp2_with fail
  refine bodyPost_ret (v := .tuple #[(colV y.l y.j y.c y.m y.a y.p y.fd y.tl y.cy), .bool true]) (by simp [results, Tryz.f104, go_sem, s0, s1, s2, s3, s4, s5, s6, s7, s8]) rfl ?_
  exact ⟨rfl, HCe.out.fin ⟨y.l, y.j, y.c, y.m, y.a, y.p, y.fd, y.tl, y.cy⟩⟩
end Go.Proofs.YtbpooljohjkbjaaGreatDoor
/- A step of the document's layer 15: line 1. -/
namespace Go.Proofs.YtbpooljohjkbjaaGreatDoor
open Go Go.RowKit
set_option maxRecDepth 100000
attribute [local go_sem ↓] Go.wp_at_zero Go.wp_at_succ
end Go.Proofs.YtbpooljohjkbjaaGreatDoor
/- A step of the document's layer 15: line 2, and any other line. -/
namespace Go.Proofs.YtbpooljohjkbjaaGreatDoor
open Go Go.RowKit
set_option maxRecDepth 100000
attribute [local go_sem ↓] Go.wp_at_zero Go.wp_at_succ
end Go.Proofs.YtbpooljohjkbjaaGreatDoor
/- A step of both as one function. -/
namespace Go.Proofs.YtbpooljohjkbjaaGreatDoor
open Go Go.RowKit
set_option maxRecDepth 100000
attribute [local go_sem ↓] Go.wp_at_zero Go.wp_at_succ
theorem rootS_U {C : Cf} {s : Dy} (h : s.U) (x : Co) (hx : x.U) : (rootS C s x).1.U ∧ (rootS C s x).2.1.U := by
  have h0 := u64_zero
  have h1 : U64 1 := by unfold U64; omega
  have hn : (nextRoot C x).U := by unfold nextRoot; exact ⟨hx.1, h0⟩
  unfold rootS
  split
  · refine ⟨h.act C 1 _ h0 h0, ?_⟩
    show Co.U (if _ then _ else _)
    split
    · exact ⟨hx.1, z5_u64c (h _)⟩
    · exact hn
  · split
    · exact ⟨h.act C 3 _ h0 h1, hn⟩
    · exact ⟨h, hx⟩
theorem root_c {w : World} {H A G : Nat} {C : Cf} {s : Dy} (hH : HAt w H A G C s) (hu : s.U) (hS : SpansAt w) (hr : Right C.a C.b C.c C.d) (hn : 0 < C.n) (x : Co) (hx : x.U) (hj : -1000000000000 ≤ x.j ∧ x.j ≤ 1000000000000) :
    Calls Tryz.prog 104 #[.pointer (some ⟨H, 0, none⟩), x.v] w (HP w H A G C (rootS C s x).1 (.tuple #[(rootS C s x).2.1.v, .bool (rootS C s x).2.2])) := by
  obtain ⟨l, j, c, m, a, p, fd, tl, cy⟩ := x
  obtain ⟨_, hp⟩ := hx
  dsimp only at hj hp
  obtain ⟨v, rfl, hv⟩ := u64_natc' hp
  unfold rootS ldP
  dsimp only
  by_cases e : l = 1
  · subst e; rw [if_pos rfl]
    obtain ⟨u, hT, hu6⟩ := u64_natc' (z5_u64c (n := C.n) (k := 1) (i := (rootP C.a C.b C.c C.d j)) (hu (rootP C.a C.b C.c C.d j).toNat))
    simp only [hT, Int.toNat_natCast]
    by_cases hc : isC u
    · simp only [if_pos hc]; exact roStep_cell hH hu hS hr j c m a (v : Int) fd tl cy hn hj u hu6 hT hc
    · simp only [if_neg hc]; exact roStep_no hH hu hS hr j c m a (v : Int) fd tl cy hn hj u hu6 hT hc
  rw [if_neg e]
  by_cases e2 : l = 2
  · subst e2; rw [if_pos rfl]; simp only [Int.toNat_natCast]; exact roStep_shade hH hu hS hr j c m a fd tl cy hn hj v hv
  rw [if_neg e2]; exact roStep_other hH hu hS hr l j c m a fd tl cy hn e e2 v hv
end Go.Proofs.YtbpooljohjkbjaaGreatDoor
/- next and load of package pass. -/
namespace Go.Proofs.YtbpooljohjkbjaaGreatDoor
open Go Go.RowKit
set_option maxRecDepth 100000
attribute [local go_sem ↓] Go.wp_at_zero Go.wp_at_succ
theorem pnext_more (l j c m a p : Int) (fd : Bool) (tl cy : Int) (n : Int) (hn : 1 ≤ n ∧ n ≤ 5000) (hc : -1000000000000 ≤ c ∧ c ≤ 1000000000000) (h : c + 1 < n) (w : World) :
    Calls Tryz.prog 133 #[(colV l j c m a p fd tl cy), .int .i64 n] w fun e w' => e = .returned (colV 4 j (c + 1) m a p fd tl cy) ∧ Below w.heap.size w w' := by
  have hw1 : IntKind.i64.wrap (n - 1) = n - 1 := IntWalk.i64_in _ (by omega)
  have hw2 : IntKind.i64.wrap (c + 1) = c + 1 := IntWalk.i64_in _ (by omega)
  have hlt : c < n - 1 := by omega
  clear hn hc h
  go_enter Tryz.func133, Tryz.ntmps133
  go_wp2_with fail
  refine bodyPost_ret (v := (colV 4 j (c + 1) m a p fd tl cy)) (by simp [results, Tryz.f133, go_sem]) rfl ?_
  exact ⟨rfl, below_on (below_new _ _) _⟩
theorem pnext_again (l j c m a p : Int) (tl cy : Int) (n : Int) (hn : 1 ≤ n ∧ n ≤ 5000) (hc : -1000000000000 ≤ c ∧ c ≤ 1000000000000) (h : ¬ c + 1 < n) (w : World) :
    Calls Tryz.prog 133 #[(colV l j c m a p true tl cy), .int .i64 n] w fun e w' => e = .returned (colV 3 j (c + 1) m a p true tl cy) ∧ Below w.heap.size w w' := by
  have hw1 : IntKind.i64.wrap (n - 1) = n - 1 := IntWalk.i64_in _ (by omega)
  have hw2 : IntKind.i64.wrap (c + 1) = c + 1 := IntWalk.i64_in _ (by omega)
  have hlt : ¬ c < n - 1 := by omega
  clear hn hc h
  go_enter Tryz.func133, Tryz.ntmps133
  go_wp2_with fail
  refine bodyPost_ret (v := (colV 3 j (c + 1) m a p true tl cy)) (by simp [results, Tryz.f133, go_sem]) rfl ?_
  exact ⟨rfl, below_on (below_new _ _) _⟩
theorem pnext_over (l j c m a p : Int) (tl cy : Int) (n : Int) (hn : 1 ≤ n ∧ n ≤ 5000) (hc : -1000000000000 ≤ c ∧ c ≤ 1000000000000) (h : ¬ c + 1 < n) (w : World) :
    Calls Tryz.prog 133 #[(colV l j c m a p false tl cy), .int .i64 n] w fun e w' => e = .returned (colV 10 j (c + 1) 0 a p false tl cy) ∧ Below w.heap.size w w' := by
  have hw1 : IntKind.i64.wrap (n - 1) = n - 1 := IntWalk.i64_in _ (by omega)
  have hw2 : IntKind.i64.wrap (c + 1) = c + 1 := IntWalk.i64_in _ (by omega)
  have hlt : ¬ c < n - 1 := by omega
  clear hn hc h
  go_enter Tryz.func133, Tryz.ntmps133
  go_wp2_with fail
  refine bodyPost_ret (v := (colV 10 j (c + 1) 0 a p false tl cy)) (by simp [results, Tryz.f133, go_sem]) rfl ?_
  exact ⟨rfl, below_on (below_new _ _) _⟩
theorem pnext_c (C : Cf) (hr : Right C.a C.b C.c C.d) (l j c m a p : Int) (fd : Bool) (tl cy : Int) (hc : -1000000000000 ≤ c ∧ c ≤ 1000000000000) (w : World) :
    Calls Tryz.prog 133 #[(colV l j c m a p fd tl cy), .int .i64 C.a] w fun e w' => e = .returned (nextCell C ⟨l, j, c, m, a, p, fd, tl, cy⟩).v ∧ Below w.heap.size w w' := by
  have hn : 1 ≤ C.a ∧ C.a ≤ 5000 := by unfold Right at hr; omega
  unfold nextCell
  by_cases h : c + 1 < C.a
  · simp only [if_pos h]; exact pnext_more l j c m a p fd tl cy _ hn hc h w
  · cases fd
    · simp only [if_neg h]; exact pnext_over l j c m a p tl cy _ hn hc h w
    · simp only [if_neg h]; exact pnext_again l j c m a p tl cy _ hn hc h w
set_option maxHeartbeats 3200000 in
theorem pload_cell {w : World} {H A G : Nat} {C : Cf} {s : Dy} (hH : HAt w H A G C s) (hu : s.U) (_ : SpansAt w) (_ : Right C.a C.b C.c C.d) (l j c m a p : Int) (fd : Bool) (tl cy : Int) (i : Int) (hl : 0 ≤ l ∧ l ≤ 100) (u : Nat) (hu6 : u < 18446744073709551616) (hT : z5 C.n 1 i (s.f i.toNat) = (u : Int)) (hcl : isC u) :
    Calls Tryz.prog 130 #[.pointer (some ⟨H, 0, none⟩), (colV l j c m a p fd tl cy), .int .i64 i] w (HP w H A G C (s.act C 1 i 0 0) (colV (l + 1) j c m (u : Int) p fd tl cy)) := by
  have HC0 := Lib.hid (ColF.start hH ⟨l, j, c, m, a, p, fd, tl, cy⟩)
  have HD : Hid (∀ W, HAt W H A G C s → Calls Tryz.prog 123 #[.pointer (some ⟨H, 0, none⟩), .int .i64 i] W (HP W H A G C (s.act C 1 i 0 0) (.int .u64 (z5 C.n 1 i (s.f (i).toNat))))) := Lib.hid (fun W hW => hLoad_c (w := W) hW hu i)
  have HI : Hid (∀ W, Calls Tryz.prog 125 #[.int .u64 (u : Int)] W fun e w' => e = .returned (.tuple #[.int .i64 (cellK u), .bool true]) ∧ W = w') := Lib.hid (fun W => by have := isCell_c u hu6 W; rw [decide_eq_true hcl] at this; exact this)
  generalize cellK u = k at *
  generalize (s.act C 1 i 0 0) = s' at *
  generalize (z5 C.n 1 i (s.f (i).toNat)) = T at *
  subst hT
  have hw1 : IntKind.i64.wrap (l + 1) = l + 1 := IntWalk.i64_in _ (by omega)
  clear hH hu hl hu6 hcl
  obtain ⟨a0, a1, a2, a3, a4, a5, a6, a7, a8, af⟩ := HC0.out.cells
  dsimp only at a0 a1 a2 a3 a4 a5 a6 a7 a8
  go_enter Tryz.func130, Tryz.ntmps130
  go_wp2_with fail
  refine (HD.out _ HC0.out.hand).mono ?_
  rintro e V1 ⟨rfl, hF, hs⟩
  have HC1 := Lib.hid (HC0.out.handed hF hs)
  clear HC0 hF hs
  clear HD a0 a1 a2 a3 a4 a5 a6 a7 a8 af
  obtain ⟨a0, a1, a2, a3, a4, a5, a6, a7, a8, af⟩ := HC1.out.cells
  dsimp only at a0 a1 a2 a3 a4 a5 a6 a7 a8
  go_wp2_with fail
  have HC2 := Lib.hid ((HC1.out.setA (u : Int)).setL (l + 1))
  clear HC1 a0 a1 a2 a3 a4 a5 a6 a7 a8 af
  obtain ⟨a0, a1, a2, a3, a4, a5, a6, a7, a8, af⟩ := HC2.out.cells
  dsimp only at a0 a1 a2 a3 a4 a5 a6 a7 a8
  refine (HI.out _).mono ?_
  rintro e V2 ⟨rfl, rfl⟩
  clear HI a0 a1 a2 a3 a4 a5 a6 a7 a8 af
  have HCe := Lib.hid HC2.out
  obtain ⟨d0, d1, d2, d3, d4, d5, d6, d7, d8, df⟩ := HCe.out.cells
  dsimp only at d0 d1 d2 d3 d4 d5 d6 d7 d8
  obtain ⟨c0, c1, c2, c3, c4, c5, c6, c7, c8, cf⟩ := HCe.out.cellsY
  obtain ⟨s0, s1, s2, s3, s4, s5, s6, s7, s8, sf⟩ := (HCe.out.last ⟨(l + 1), j, c, m, (u : Int), p, fd, tl, cy⟩).cells
  dsimp only at s0 s1 s2 s3 s4 s5 s6 s7 s8
  clear HC2 
  go_wp2_with fail
  refine bodyPost_ret (v := (colV (l + 1) j c m (u : Int) p fd tl cy)) (by simp [results, Tryz.f130, go_sem, s0, s1, s2, s3, s4, s5, s6, s7, s8]) rfl ?_
  exact ⟨rfl, HCe.out.fin ⟨(l + 1), j, c, m, (u : Int), p, fd, tl, cy⟩⟩
set_option maxHeartbeats 3200000 in
theorem pload_no {w : World} {H A G : Nat} {C : Cf} {s : Dy} (hH : HAt w H A G C s) (hu : s.U) (_ : SpansAt w) (_ : Right C.a C.b C.c C.d) (l j c m a p : Int) (fd : Bool) (tl cy : Int) (i : Int) (hl : 0 ≤ l ∧ l ≤ 100) (u : Nat) (hu6 : u < 18446744073709551616) (hT : z5 C.n 1 i (s.f i.toNat) = (u : Int)) (hcl : ¬ isC u) :
    Calls Tryz.prog 130 #[.pointer (some ⟨H, 0, none⟩), (colV l j c m a p fd tl cy), .int .i64 i] w (HP w H A G C (s.act C 1 i 0 0) (colV (l + 2) j c m (u : Int) p fd tl cy)) := by
  have HC0 := Lib.hid (ColF.start hH ⟨l, j, c, m, a, p, fd, tl, cy⟩)
  have HD : Hid (∀ W, HAt W H A G C s → Calls Tryz.prog 123 #[.pointer (some ⟨H, 0, none⟩), .int .i64 i] W (HP W H A G C (s.act C 1 i 0 0) (.int .u64 (z5 C.n 1 i (s.f (i).toNat))))) := Lib.hid (fun W hW => hLoad_c (w := W) hW hu i)
  have HI : Hid (∀ W, Calls Tryz.prog 125 #[.int .u64 (u : Int)] W fun e w' => e = .returned (.tuple #[.int .i64 (cellK u), .bool false]) ∧ W = w') := Lib.hid (fun W => by have := isCell_c u hu6 W; rw [decide_eq_false hcl] at this; exact this)
  generalize cellK u = k at *
  generalize (s.act C 1 i 0 0) = s' at *
  generalize (z5 C.n 1 i (s.f (i).toNat)) = T at *
  subst hT
  have hw1 : IntKind.i64.wrap (l + 1) = l + 1 := IntWalk.i64_in _ (by omega)
  have hw2 : IntKind.i64.wrap (l + 1 + 1) = l + 2 := by rw [IntWalk.i64_in _ (by omega)]; omega
  clear hH hu hl hu6 hcl
  obtain ⟨a0, a1, a2, a3, a4, a5, a6, a7, a8, af⟩ := HC0.out.cells
  dsimp only at a0 a1 a2 a3 a4 a5 a6 a7 a8
  go_enter Tryz.func130, Tryz.ntmps130
  go_wp2_with fail
  refine (HD.out _ HC0.out.hand).mono ?_
  rintro e V1 ⟨rfl, hF, hs⟩
  have HC1 := Lib.hid (HC0.out.handed hF hs)
  clear HC0 hF hs
  clear HD a0 a1 a2 a3 a4 a5 a6 a7 a8 af
  obtain ⟨a0, a1, a2, a3, a4, a5, a6, a7, a8, af⟩ := HC1.out.cells
  dsimp only at a0 a1 a2 a3 a4 a5 a6 a7 a8
  go_wp2_with fail
  have HC2 := Lib.hid ((HC1.out.setA (u : Int)).setL (l + 1))
  clear HC1 a0 a1 a2 a3 a4 a5 a6 a7 a8 af
  obtain ⟨a0, a1, a2, a3, a4, a5, a6, a7, a8, af⟩ := HC2.out.cells
  dsimp only at a0 a1 a2 a3 a4 a5 a6 a7 a8
  refine (HI.out _).mono ?_
  rintro e V2 ⟨rfl, rfl⟩
  clear HI a0 a1 a2 a3 a4 a5 a6 a7 a8 af
  have HCe := Lib.hid (HC2.out.setL (l + 2))
  obtain ⟨b0, b1, b2, b3, b4, b5, b6, b7, b8, bf⟩ := HC2.out.cells
  dsimp only at b0 b1 b2 b3 b4 b5 b6 b7 b8
  obtain ⟨d0, d1, d2, d3, d4, d5, d6, d7, d8, df⟩ := HCe.out.cells
  dsimp only at d0 d1 d2 d3 d4 d5 d6 d7 d8
  obtain ⟨c0, c1, c2, c3, c4, c5, c6, c7, c8, cf⟩ := HCe.out.cellsY
  obtain ⟨s0, s1, s2, s3, s4, s5, s6, s7, s8, sf⟩ := (HCe.out.last ⟨(l + 2), j, c, m, (u : Int), p, fd, tl, cy⟩).cells
  dsimp only at s0 s1 s2 s3 s4 s5 s6 s7 s8
  clear HC2 
  go_wp2_with fail
  refine bodyPost_ret (v := (colV (l + 2) j c m (u : Int) p fd tl cy)) (by simp [results, Tryz.f130, go_sem, s0, s1, s2, s3, s4, s5, s6, s7, s8]) rfl ?_
  exact ⟨rfl, HCe.out.fin ⟨(l + 2), j, c, m, (u : Int), p, fd, tl, cy⟩⟩
end Go.Proofs.YtbpooljohjkbjaaGreatDoor
/- A step of package pass: lines 3, 6, 8, any other line, and no hand. -/
namespace Go.Proofs.YtbpooljohjkbjaaGreatDoor
open Go Go.RowKit
set_option maxRecDepth 100000
attribute [local go_sem ↓] Go.wp_at_zero Go.wp_at_succ
set_option maxHeartbeats 3200000 in
theorem pStep_3 {w : World} {H A G : Nat} {C : Cf} {s : Dy} (hH : HAt w H A G C s) (hu : s.U) (_ : SpansAt w) (_ : Right C.a C.b C.c C.d) (_ : 0 < C.n) (j c m a p : Int) (fd : Bool) (tl cy : Int) :
    Calls Tryz.prog 105 #[.pointer (some ⟨H, 0, none⟩), (colV 3 j c m a p fd tl cy)] w (HP w H A G C (s.act C 2 2 0 0) (.tuple #[(colV 4 j 0 m a p false tl cy), .bool true])) := by
  have HC0 := Lib.hid (ColF.start hH ⟨3, j, c, m, a, p, fd, tl, cy⟩)
  have HD : Hid (∀ W, HAt W H A G C s → Calls Tryz.prog 129 #[.pointer (some ⟨H, 0, none⟩), .int .i64 2, .int .u64 0] W (HP W H A G C (s.act C 2 2 0 0) (.tuple #[]))) := Lib.hid (fun W hW => hStore_c (w := W) hW hu 2 0)
  generalize (s.act C 2 2 0 0) = s' at *
  clear hH hu
  obtain ⟨a0, a1, a2, a3, a4, a5, a6, a7, a8, af⟩ := HC0.out.cells
  dsimp only at a0 a1 a2 a3 a4 a5 a6 a7 a8
  go_enter Tryz.func105, Tryz.ntmps105
  go_wp2_with fail
  refine (HD.out _ HC0.out.hand).mono ?_
  rintro e V1 ⟨rfl, hF, hs⟩
  have HC1 := Lib.hid (HC0.out.handed hF hs)
  clear HC0 hF hs
  clear HD a0 a1 a2 a3 a4 a5 a6 a7 a8 af
  obtain ⟨a0, a1, a2, a3, a4, a5, a6, a7, a8, af⟩ := HC1.out.cells
  dsimp only at a0 a1 a2 a3 a4 a5 a6 a7 a8
  clear a0 a1 a2 a3 a4 a5 a6 a7 a8 af
  have HCe := Lib.hid (((HC1.out.setL 4).setC 0).setFD false)
  obtain ⟨b0, b1, b2, b3, b4, b5, b6, b7, b8, bf⟩ := HC1.out.cells
  dsimp only at b0 b1 b2 b3 b4 b5 b6 b7 b8
  obtain ⟨d0, d1, d2, d3, d4, d5, d6, d7, d8, df⟩ := HCe.out.cells
  dsimp only at d0 d1 d2 d3 d4 d5 d6 d7 d8
  obtain ⟨c0, c1, c2, c3, c4, c5, c6, c7, c8, cf⟩ := HCe.out.cellsY
  obtain ⟨s0, s1, s2, s3, s4, s5, s6, s7, s8, sf⟩ := (HCe.out.last ⟨4, j, 0, m, a, p, false, tl, cy⟩).cells
  dsimp only at s0 s1 s2 s3 s4 s5 s6 s7 s8
  clear HC1 
  go_wp2_with fail
  refine bodyPost_ret (v := .tuple #[(colV 4 j 0 m a p false tl cy), .bool true]) (by simp [results, Tryz.f105, go_sem, s0, s1, s2, s3, s4, s5, s6, s7, s8]) rfl ?_
  exact ⟨rfl, HCe.out.fin ⟨4, j, 0, m, a, p, false, tl, cy⟩⟩
set_option maxHeartbeats 3200000 in
theorem pStep_6 {w : World} {H A G : Nat} {C : Cf} {s : Dy} (hH : HAt w H A G C s) (hu : s.U) (hS : SpansAt w) (_ : Right C.a C.b C.c C.d) (hn : 0 < C.n) (j c m p : Int) (fd : Bool) (tl cy : Int) (v : Nat) (hv : v < 18446744073709551616) :
    Calls Tryz.prog 105 #[.pointer (some ⟨H, 0, none⟩), (colV 6 j c m (v : Int) p fd tl cy)] w (HP w H A G C (s.act C 3 (fieldP C.a C.b C.c C.d v 2) 0 1) (.tuple #[(colV 7 j c m (v : Int) p fd tl cy), .bool true])) := by
  have HC0 := Lib.hid (ColF.start hH ⟨6, j, c, m, (v : Int), p, fd, tl, cy⟩)
  have HSP : Hid (∀ W s' x', ColF w W H A G C s' x' → SpansAt W) := Lib.hid (fun W s' x' h => spans_sav hn hS hH h.sav)
  have HFd : Hid (∀ W, HAt W H A G C s → SpansAt W → Calls Tryz.prog 127 #[.pointer (some ⟨H, 0, none⟩), .int .u64 (v : Int), .int .i64 2] W fun e w' => e = .returned (.int .i64 (fieldP C.a C.b C.c C.d v 2)) ∧ Below W.heap.size W w') := Lib.hid (fun W hW hs => hField_c (w := W) hW hs v hv 2)
  have HD : Hid (∀ W, HAt W H A G C s → Calls Tryz.prog 126 #[.pointer (some ⟨H, 0, none⟩), .int .i64 (fieldP C.a C.b C.c C.d v 2), .int .u64 0, .int .u64 1] W (HP W H A G C (s.act C 3 (fieldP C.a C.b C.c C.d v 2) 0 1) (.bool (casB C.n s.f (fieldP C.a C.b C.c C.d v 2) 0)))) := Lib.hid (fun W hW => hCas_c (w := W) hW hu (fieldP C.a C.b C.c C.d v 2) 0 1)
  generalize (s.act C 3 (fieldP C.a C.b C.c C.d v 2) 0 1) = s' at *
  generalize (casB C.n s.f (fieldP C.a C.b C.c C.d v 2) 0) = b2 at *
  generalize (fieldP C.a C.b C.c C.d v 2) = P at *
  clear hH hu hS hv hn
  obtain ⟨a0, a1, a2, a3, a4, a5, a6, a7, a8, af⟩ := HC0.out.cells
  dsimp only at a0 a1 a2 a3 a4 a5 a6 a7 a8
  go_enter Tryz.func105, Tryz.ntmps105
  go_wp2_with fail
  refine (HFd.out _ HC0.out.hand (HSP.out _ _ _ HC0.out)).mono ?_
  rintro e V1 ⟨rfl, hb⟩
  have HC1 := Lib.hid (HC0.out.below hb)
  clear HC0
  clear hb
  clear HFd a0 a1 a2 a3 a4 a5 a6 a7 a8 af
  obtain ⟨a0, a1, a2, a3, a4, a5, a6, a7, a8, af⟩ := HC1.out.cells
  dsimp only at a0 a1 a2 a3 a4 a5 a6 a7 a8
  go_wp2_with fail
  refine (HD.out _ HC1.out.hand).mono ?_
  rintro e V2 ⟨rfl, hF, hs⟩
  have HC2 := Lib.hid (HC1.out.handed hF hs)
  clear HC1 hF hs
  clear HD a0 a1 a2 a3 a4 a5 a6 a7 a8 af
  obtain ⟨a0, a1, a2, a3, a4, a5, a6, a7, a8, af⟩ := HC2.out.cells
  dsimp only at a0 a1 a2 a3 a4 a5 a6 a7 a8
  clear a0 a1 a2 a3 a4 a5 a6 a7 a8 af
  have HCe := Lib.hid (HC2.out.setL 7)
  obtain ⟨b0, b1, b2, b3, b4, b5, b6, b7, b8, bf⟩ := HC2.out.cells
  dsimp only at b0 b1 b2 b3 b4 b5 b6 b7 b8
  obtain ⟨d0, d1, d2, d3, d4, d5, d6, d7, d8, df⟩ := HCe.out.cells
  dsimp only at d0 d1 d2 d3 d4 d5 d6 d7 d8
  obtain ⟨c0, c1, c2, c3, c4, c5, c6, c7, c8, cf⟩ := HCe.out.cellsY
  obtain ⟨s0, s1, s2, s3, s4, s5, s6, s7, s8, sf⟩ := (HCe.out.last ⟨7, j, c, m, (v : Int), p, fd, tl, cy⟩).cells
  dsimp only at s0 s1 s2 s3 s4 s5 s6 s7 s8
  clear HC2 
  go_wp2_with fail
  refine bodyPost_ret (v := .tuple #[(colV 7 j c m (v : Int) p fd tl cy), .bool true]) (by simp [results, Tryz.f105, go_sem, s0, s1, s2, s3, s4, s5, s6, s7, s8]) rfl ?_
  exact ⟨rfl, HCe.out.fin ⟨7, j, c, m, (v : Int), p, fd, tl, cy⟩⟩
set_option maxHeartbeats 3200000 in
theorem pStep_8 {w : World} {H A G : Nat} {C : Cf} {s : Dy} (hH : HAt w H A G C s) (hu : s.U) (hS : SpansAt w) (_ : Right C.a C.b C.c C.d) (hn : 0 < C.n) (j c m p : Int) (fd : Bool) (tl cy : Int) (v : Nat) (hv : v < 18446744073709551616) :
    Calls Tryz.prog 105 #[.pointer (some ⟨H, 0, none⟩), (colV 8 j c m (v : Int) p fd tl cy)] w (HP w H A G C (s.act C 3 (fieldP C.a C.b C.c C.d v 2) 0 1) (.tuple #[(colV 9 j c m (v : Int) p fd tl cy), .bool true])) := by
  have HC0 := Lib.hid (ColF.start hH ⟨8, j, c, m, (v : Int), p, fd, tl, cy⟩)
  have HSP : Hid (∀ W s' x', ColF w W H A G C s' x' → SpansAt W) := Lib.hid (fun W s' x' h => spans_sav hn hS hH h.sav)
  have HFd : Hid (∀ W, HAt W H A G C s → SpansAt W → Calls Tryz.prog 127 #[.pointer (some ⟨H, 0, none⟩), .int .u64 (v : Int), .int .i64 2] W fun e w' => e = .returned (.int .i64 (fieldP C.a C.b C.c C.d v 2)) ∧ Below W.heap.size W w') := Lib.hid (fun W hW hs => hField_c (w := W) hW hs v hv 2)
  have HD : Hid (∀ W, HAt W H A G C s → Calls Tryz.prog 126 #[.pointer (some ⟨H, 0, none⟩), .int .i64 (fieldP C.a C.b C.c C.d v 2), .int .u64 0, .int .u64 1] W (HP W H A G C (s.act C 3 (fieldP C.a C.b C.c C.d v 2) 0 1) (.bool (casB C.n s.f (fieldP C.a C.b C.c C.d v 2) 0)))) := Lib.hid (fun W hW => hCas_c (w := W) hW hu (fieldP C.a C.b C.c C.d v 2) 0 1)
  generalize (s.act C 3 (fieldP C.a C.b C.c C.d v 2) 0 1) = s' at *
  generalize (casB C.n s.f (fieldP C.a C.b C.c C.d v 2) 0) = b2 at *
  generalize (fieldP C.a C.b C.c C.d v 2) = P at *
  clear hH hu hS hv hn
  obtain ⟨a0, a1, a2, a3, a4, a5, a6, a7, a8, af⟩ := HC0.out.cells
  dsimp only at a0 a1 a2 a3 a4 a5 a6 a7 a8
  go_enter Tryz.func105, Tryz.ntmps105
  go_wp2_with fail
  refine (HFd.out _ HC0.out.hand (HSP.out _ _ _ HC0.out)).mono ?_
  rintro e V1 ⟨rfl, hb⟩
  have HC1 := Lib.hid (HC0.out.below hb)
  clear HC0
  clear hb
  clear HFd a0 a1 a2 a3 a4 a5 a6 a7 a8 af
  obtain ⟨a0, a1, a2, a3, a4, a5, a6, a7, a8, af⟩ := HC1.out.cells
  dsimp only at a0 a1 a2 a3 a4 a5 a6 a7 a8
  go_wp2_with fail
  refine (HD.out _ HC1.out.hand).mono ?_
  rintro e V2 ⟨rfl, hF, hs⟩
  have HC2 := Lib.hid (HC1.out.handed hF hs)
  clear HC1 hF hs
  clear HD a0 a1 a2 a3 a4 a5 a6 a7 a8 af
  obtain ⟨a0, a1, a2, a3, a4, a5, a6, a7, a8, af⟩ := HC2.out.cells
  dsimp only at a0 a1 a2 a3 a4 a5 a6 a7 a8
  clear a0 a1 a2 a3 a4 a5 a6 a7 a8 af
  have HCe := Lib.hid (HC2.out.setL 9)
  obtain ⟨b0, b1, b2, b3, b4, b5, b6, b7, b8, bf⟩ := HC2.out.cells
  dsimp only at b0 b1 b2 b3 b4 b5 b6 b7 b8
  obtain ⟨d0, d1, d2, d3, d4, d5, d6, d7, d8, df⟩ := HCe.out.cells
  dsimp only at d0 d1 d2 d3 d4 d5 d6 d7 d8
  obtain ⟨c0, c1, c2, c3, c4, c5, c6, c7, c8, cf⟩ := HCe.out.cellsY
  obtain ⟨s0, s1, s2, s3, s4, s5, s6, s7, s8, sf⟩ := (HCe.out.last ⟨9, j, c, m, (v : Int), p, fd, tl, cy⟩).cells
  dsimp only at s0 s1 s2 s3 s4 s5 s6 s7 s8
  clear HC2 
  go_wp2_with fail
  refine bodyPost_ret (v := .tuple #[(colV 9 j c m (v : Int) p fd tl cy), .bool true]) (by simp [results, Tryz.f105, go_sem, s0, s1, s2, s3, s4, s5, s6, s7, s8]) rfl ?_
  exact ⟨rfl, HCe.out.fin ⟨9, j, c, m, (v : Int), p, fd, tl, cy⟩⟩
set_option maxHeartbeats 3200000 in
theorem psStep_other {w : World} {H A G : Nat} {C : Cf} {s : Dy} (hH : HAt w H A G C s) (_ : s.U) (_ : SpansAt w) (_ : Right C.a C.b C.c C.d) (_ : 0 < C.n) (l j c m a p : Int) (fd : Bool) (tl cy : Int) (g3 : ¬ l = 3) (g4 : ¬ l = 4) (g5 : ¬ l = 5) (g6 : ¬ l = 6) (g7 : ¬ l = 7) (g8 : ¬ l = 8) (g9 : ¬ l = 9) :
    Calls Tryz.prog 105 #[.pointer (some ⟨H, 0, none⟩), (colV l j c m a p fd tl cy)] w (HP w H A G C s (.tuple #[(colV l j c m a p fd tl cy), .bool false])) := by
  have HF := Lib.hid hH
  have e3 : (l == 3) = false := by simpa using g3
  have e4 : (l == 4) = false := by simpa using g4
  have e5 : (l == 5) = false := by simpa using g5
  have e6 : (l == 6) = false := by simpa using g6
  have e7 : (l == 7) = false := by simpa using g7
  have e8 : (l == 8) = false := by simpa using g8
  have e9 : (l == 9) = false := by simpa using g9
  clear hH g3 g4 g5 g6 g7 g8 g9
  go_enter Tryz.func105, Tryz.ntmps105
  go_wp2_with fail
  refine bodyPost_ret (v := .tuple #[(colV l j c m a p fd tl cy), .bool false]) (by simp [results, Tryz.f105, go_sem]) rfl ?_
  refine ⟨rfl, HF.out.below (below_on (below_new _ _) _), Sav.of (below_on (below_new _ _) _)⟩
end Go.Proofs.YtbpooljohjkbjaaGreatDoor
