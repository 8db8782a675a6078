/- A step of package pass: lines 5 and 7. -/
import Derived.Test.YtbpooljohjkbjaaGreatDoorM1
import Derived.Test.YtbpooljohjkbjaaGreatDoorM10
namespace Go.Proofs.YtbpooljohjkbjaaGreatDoor
open Go Go.RowKit
set_option maxRecDepth 100000
attribute [local go_sem ↓] Go.wp_at_zero Go.wp_at_succ
set_option maxHeartbeats 3200000 in
theorem pStep_5_cell {w : World} {H A G : Nat} {C : Cf} {s : Dy} (hH : HAt w H A G C s) (hu : s.U) (hS : SpansAt w) (hr : Right C.a C.b C.c C.d) (hn : 0 < C.n) (j c m a p : Int) (fd : Bool) (tl cy : Int) (u : Nat) (hu6 : u < 18446744073709551616) (hT : z5 C.n 1 (partP C.a C.b C.c C.d 0 c) (s.f (partP C.a C.b C.c C.d 0 c).toNat) = (u : Int)) (hcl : isC u) :
    Calls Tryz.prog 105 #[.pointer (some ⟨H, 0, none⟩), (colV 5 j c m a p fd tl cy)] w (HP w H A G C (s.act C 1 (partP C.a C.b C.c C.d 0 c) 0 0) (.tuple #[(colV 6 j c m (u : Int) p fd tl cy), .bool true])) := by
  have HC0 := Lib.hid (ColF.start hH ⟨5, j, c, m, a, p, fd, tl, cy⟩)
  have HSP : Hid (∀ W s' x', ColF w W H A G C s' x' → SpansAt W) := Lib.hid (fun W s' x' h => spans_sav hn hS hH h.sav)
  have HCa : Hid (∀ W, SpansAt W → Calls Tryz.prog 131 #[(.agg #[.int .i64 C.a, .int .i64 C.b, .int .i64 C.c, .int .i64 C.d]), .int .i64 c] W fun e w' => e = .returned (.int .i64 (partP C.a C.b C.c C.d 0 c)) ∧ Below W.heap.size W w') := Lib.hid (fun W hW => Car_c C.a C.b C.c C.d c W hW)
  have HLo0 : ∀ W, HAt W H A G C s → SpansAt W → Calls Tryz.prog 130 #[.pointer (some ⟨H, 0, none⟩), (colV 5 j c m a p fd tl cy), .int .i64 (partP C.a C.b C.c C.d 0 c)] W (HP W H A G C (s.act C 1 (partP C.a C.b C.c C.d 0 c) 0 0) (colV 6 j c m (u : Int) p fd tl cy)) := fun W hW hs => pload_cell (w := W) hW hu hs hr 5 j c m a p fd tl cy (partP C.a C.b C.c C.d 0 c) (by omega) u hu6 hT hcl
  have HLo := Lib.hid HLo0
  clear HLo0 hT hcl hu6
  generalize (s.act C 1 (partP C.a C.b C.c C.d 0 c) 0 0) = s' at *
  generalize (partP C.a C.b C.c C.d 0 c) = P at *
  clear hH hu hS hr hn
  obtain ⟨a0, a1, a2, a3, a4, a5, a6, a7, a8, af⟩ := HC0.out.cells
  dsimp only at a0 a1 a2 a3 a4 a5 a6 a7 a8
  obtain ⟨_, ⟨h1, h2, h3, h4⟩, _⟩ := HC0.out.hand.cells
  go_enter Tryz.func105, Tryz.ntmps105
  go_wp2_with fail
  refine wp_region_held_drew (S := (fun w' => w'.cell? ⟨H, 1, none⟩ = some (.int .i64 C.a) ∧ w'.cell? ⟨H, 2, none⟩ = some (.int .i64 C.b) ∧ w'.cell? ⟨H, 3, none⟩ = some (.int .i64 C.c) ∧ w'.cell? ⟨H, 4, none⟩ = some (.int .i64 C.d) ∧ w'.cell? ⟨w.heap.size, 1, none⟩ = some (.int .i64 j) ∧ w'.cell? ⟨w.heap.size, 2, none⟩ = some (.int .i64 c) ∧ w'.cell? ⟨w.heap.size, 3, none⟩ = some (.int .i64 m) ∧ w'.cell? ⟨w.heap.size, 5, none⟩ = some (.int .u64 p) ∧ w'.cell? ⟨w.heap.size, 6, none⟩ = some (.bool fd) ∧ w'.cell? ⟨w.heap.size, 7, none⟩ = some (.int .i64 tl) ∧ w'.cell? ⟨w.heap.size, 8, none⟩ = some (.int .i64 cy))) (by kernel_rfl) ?_ (fun hHeld => ?_)
  · exact ⟨h1, h2, h3, h4, a1, a2, a3, a5, a6, a7, a8⟩
  refine tk 0 rfl hHeld ?_
  refine tk 2 rfl hHeld ?_
  refine tk 3 rfl hHeld ?_
  refine tk 4 rfl hHeld ?_
  refine tk 5 rfl hHeld ?_
  refine tk 6 rfl hHeld ?_
  refine tk 7 rfl hHeld ?_
  refine wpAnyH_ready (rs := [1, 8]) (by kernel_rfl) (by simp) ?_
  refine AllReadyH.cons (o := _) rfl (fun K hK => ?_) ?_
  · go_simp
    skip
    refine hK.out _ _ ?_ (fun hHeld => ?_)
    · exact ⟨h1, h2, h3, h4, a1, a2, a3, a5, a6, a7, a8⟩
    clear hK K
    try simp only [Act.put, List.setIfInBounds_toArray, List.set_cons_zero, List.set_cons_succ]
    refine wpAnyH_ready (rs := [8]) (by kernel_rfl) (by simp) ?_
    refine AllReadyH.cons (o := _) rfl (fun K hK => ?_) AllReadyH.nil
    go_simp
    have HC1 := Lib.hid HC0.out.drew
    clear HC0
    refine (HCa.out _ (HSP.out _ _ _ HC1.out)).mono ?_
    rintro e V11 ⟨rfl, hb⟩
    have HC2 := Lib.hid (HC1.out.below hb)
    clear HC1
    clear hb
    clear hHeld HCa h1 h2 h3 h4 a0 a1 a2 a3 a4 a5 a6 a7 a8 af
    obtain ⟨a0, a1, a2, a3, a4, a5, a6, a7, a8, af⟩ := HC2.out.cells
    dsimp only at a0 a1 a2 a3 a4 a5 a6 a7 a8
    obtain ⟨_, ⟨h1, h2, h3, h4⟩, _⟩ := HC2.out.hand.cells
    refine hK.out _ _ ?_ (fun hHeld => ?_)
    · exact ⟨h1, h2, h3, h4, a1, a2, a3, a5, a6, a7, a8⟩
    clear hK K
    try simp only [Act.put, List.setIfInBounds_toArray, List.set_cons_zero, List.set_cons_succ]
    refine wpAnyH_ready (rs := [9]) (by kernel_rfl) (by simp) ?_
    refine AllReadyH.cons (o := _) rfl (fun K hK => ?_) AllReadyH.nil
    go_simp
    refine (HLo.out _ HC2.out.hand (HSP.out _ _ _ HC2.out)).mono ?_
    rintro e V21 ⟨rfl, hF, hs⟩
    have HC3 := Lib.hid (HC2.out.handed hF hs)
    clear HC2 hF hs
    clear hHeld HLo h1 h2 h3 h4 a0 a1 a2 a3 a4 a5 a6 a7 a8 af
    obtain ⟨a0, a1, a2, a3, a4, a5, a6, a7, a8, af⟩ := HC3.out.cells
    dsimp only at a0 a1 a2 a3 a4 a5 a6 a7 a8
    obtain ⟨_, ⟨h1, h2, h3, h4⟩, _⟩ := HC3.out.hand.cells
    refine hK.out _ _ ?_ (fun hHeld => ?_)
    · exact ⟨h1, h2, h3, h4, a1, a2, a3, a5, a6, a7, a8⟩
    clear hK K
    try simp only [Act.put, List.setIfInBounds_toArray, List.set_cons_zero, List.set_cons_succ]
    refine wpAnyH_ready (rs := [10]) (by kernel_rfl) (by simp) ?_
    refine AllReadyH.cons (o := _) rfl (fun K hK => ?_) AllReadyH.nil
    go_simp
    have HC4 := Lib.hid (HC3.out.put ⟨6, j, c, m, (u : Int), p, fd, tl, cy⟩)
    clear hHeld HC3 h1 h2 h3 h4 a0 a1 a2 a3 a4 a5 a6 a7 a8 af
    obtain ⟨a0, a1, a2, a3, a4, a5, a6, a7, a8, af⟩ := HC4.out.cells
    dsimp only at a0 a1 a2 a3 a4 a5 a6 a7 a8
    obtain ⟨_, ⟨h1, h2, h3, h4⟩, _⟩ := HC4.out.hand.cells
    refine hK.out _ _ ?_ (fun hHeld => ?_)
    · exact ⟨h1, h2, h3, h4, a1, a2, a3, a5, a6, a7, a8⟩
    clear hK K
    try simp only [Act.put, List.setIfInBounds_toArray, List.set_cons_zero, List.set_cons_succ]
    refine wpAnyH_done (by kernel_rfl) ?_ _
    clear hHeld h1 h2 h3 h4 a0 a1 a2 a3 a4 a5 a6 a7 a8 af
    have HCe := Lib.hid HC4.out
    obtain ⟨d0, d1, d2, d3, d4, d5, d6, d7, d8, df⟩ := HCe.out.cells
    dsimp only at d0 d1 d2 d3 d4 d5 d6 d7 d8
    obtain ⟨c0, c1, c2, c3, c4, c5, c6, c7, c8, cf⟩ := HCe.out.cellsY
    obtain ⟨s0, s1, s2, s3, s4, s5, s6, s7, s8, sf⟩ := (HCe.out.last ⟨6, j, c, m, (u : Int), p, fd, tl, cy⟩).cells
    dsimp only at s0 s1 s2 s3 s4 s5 s6 s7 s8
    clear HC4 
    go_wp2_with fail
    refine bodyPost_ret (v := .tuple #[(colV 6 j c m (u : Int) p fd tl cy), .bool true]) (by simp [results, Tryz.f105, go_sem, s0, s1, s2, s3, s4, s5, s6, s7, s8]) rfl ?_
    exact ⟨rfl, HCe.out.fin ⟨6, j, c, m, (u : Int), p, fd, tl, cy⟩⟩
  refine AllReadyH.cons (o := _) rfl (fun K hK => ?_) AllReadyH.nil
  go_simp
  have HC1 := Lib.hid HC0.out.drew
  clear HC0
  refine (HCa.out _ (HSP.out _ _ _ HC1.out)).mono ?_
  rintro e V11 ⟨rfl, hb⟩
  have HC2 := Lib.hid (HC1.out.below hb)
  clear HC1
  clear hb
  clear hHeld HCa h1 h2 h3 h4 a0 a1 a2 a3 a4 a5 a6 a7 a8 af
  obtain ⟨a0, a1, a2, a3, a4, a5, a6, a7, a8, af⟩ := HC2.out.cells
  dsimp only at a0 a1 a2 a3 a4 a5 a6 a7 a8
  obtain ⟨_, ⟨h1, h2, h3, h4⟩, _⟩ := HC2.out.hand.cells
  refine hK.out _ _ ?_ (fun hHeld => ?_)
  · exact ⟨h1, h2, h3, h4, a1, a2, a3, a5, a6, a7, a8⟩
  clear hK K
  try simp only [Act.put, List.setIfInBounds_toArray, List.set_cons_zero, List.set_cons_succ]
  refine wpAnyH_ready (rs := [1]) (by kernel_rfl) (by simp) ?_
  refine AllReadyH.cons (o := _) rfl (fun K hK => ?_) AllReadyH.nil
  go_simp
  skip
  refine hK.out _ _ ?_ (fun hHeld => ?_)
  · exact ⟨h1, h2, h3, h4, a1, a2, a3, a5, a6, a7, a8⟩
  clear hK K
  try simp only [Act.put, List.setIfInBounds_toArray, List.set_cons_zero, List.set_cons_succ]
  refine wpAnyH_ready (rs := [9]) (by kernel_rfl) (by simp) ?_
  refine AllReadyH.cons (o := _) rfl (fun K hK => ?_) AllReadyH.nil
  go_simp
  refine (HLo.out _ HC2.out.hand (HSP.out _ _ _ HC2.out)).mono ?_
  rintro e V21 ⟨rfl, hF, hs⟩
  have HC3 := Lib.hid (HC2.out.handed hF hs)
  clear HC2 hF hs
  clear hHeld HLo h1 h2 h3 h4 a0 a1 a2 a3 a4 a5 a6 a7 a8 af
  obtain ⟨a0, a1, a2, a3, a4, a5, a6, a7, a8, af⟩ := HC3.out.cells
  dsimp only at a0 a1 a2 a3 a4 a5 a6 a7 a8
  obtain ⟨_, ⟨h1, h2, h3, h4⟩, _⟩ := HC3.out.hand.cells
  refine hK.out _ _ ?_ (fun hHeld => ?_)
  · exact ⟨h1, h2, h3, h4, a1, a2, a3, a5, a6, a7, a8⟩
  clear hK K
  try simp only [Act.put, List.setIfInBounds_toArray, List.set_cons_zero, List.set_cons_succ]
  refine wpAnyH_ready (rs := [10]) (by kernel_rfl) (by simp) ?_
  refine AllReadyH.cons (o := _) rfl (fun K hK => ?_) AllReadyH.nil
  go_simp
  have HC4 := Lib.hid (HC3.out.put ⟨6, j, c, m, (u : Int), p, fd, tl, cy⟩)
  clear hHeld HC3 h1 h2 h3 h4 a0 a1 a2 a3 a4 a5 a6 a7 a8 af
  obtain ⟨a0, a1, a2, a3, a4, a5, a6, a7, a8, af⟩ := HC4.out.cells
  dsimp only at a0 a1 a2 a3 a4 a5 a6 a7 a8
  obtain ⟨_, ⟨h1, h2, h3, h4⟩, _⟩ := HC4.out.hand.cells
  refine hK.out _ _ ?_ (fun hHeld => ?_)
  · exact ⟨h1, h2, h3, h4, a1, a2, a3, a5, a6, a7, a8⟩
  clear hK K
  try simp only [Act.put, List.setIfInBounds_toArray, List.set_cons_zero, List.set_cons_succ]
  refine wpAnyH_done (by kernel_rfl) ?_ _
  clear hHeld h1 h2 h3 h4 a0 a1 a2 a3 a4 a5 a6 a7 a8 af
  have HCe := Lib.hid HC4.out
  obtain ⟨d0, d1, d2, d3, d4, d5, d6, d7, d8, df⟩ := HCe.out.cells
  dsimp only at d0 d1 d2 d3 d4 d5 d6 d7 d8
  obtain ⟨c0, c1, c2, c3, c4, c5, c6, c7, c8, cf⟩ := HCe.out.cellsY
  obtain ⟨s0, s1, s2, s3, s4, s5, s6, s7, s8, sf⟩ := (HCe.out.last ⟨6, j, c, m, (u : Int), p, fd, tl, cy⟩).cells
  dsimp only at s0 s1 s2 s3 s4 s5 s6 s7 s8
  clear HC4 
  go_wp2_with fail
  refine bodyPost_ret (v := .tuple #[(colV 6 j c m (u : Int) p fd tl cy), .bool true]) (by simp [results, Tryz.f105, go_sem, s0, s1, s2, s3, s4, s5, s6, s7, s8]) rfl ?_
  exact ⟨rfl, HCe.out.fin ⟨6, j, c, m, (u : Int), p, fd, tl, cy⟩⟩
set_option maxHeartbeats 3200000 in
theorem pStep_5_no {w : World} {H A G : Nat} {C : Cf} {s : Dy} (hH : HAt w H A G C s) (hu : s.U) (hS : SpansAt w) (hr : Right C.a C.b C.c C.d) (hn : 0 < C.n) (j c m a p : Int) (fd : Bool) (tl cy : Int) (u : Nat) (hu6 : u < 18446744073709551616) (hT : z5 C.n 1 (partP C.a C.b C.c C.d 0 c) (s.f (partP C.a C.b C.c C.d 0 c).toNat) = (u : Int)) (hcl : ¬ isC u) :
    Calls Tryz.prog 105 #[.pointer (some ⟨H, 0, none⟩), (colV 5 j c m a p fd tl cy)] w (HP w H A G C (s.act C 1 (partP C.a C.b C.c C.d 0 c) 0 0) (.tuple #[(colV 7 j c m (u : Int) p fd tl cy), .bool true])) := by
  have HC0 := Lib.hid (ColF.start hH ⟨5, j, c, m, a, p, fd, tl, cy⟩)
  have HSP : Hid (∀ W s' x', ColF w W H A G C s' x' → SpansAt W) := Lib.hid (fun W s' x' h => spans_sav hn hS hH h.sav)
  have HCa : Hid (∀ W, SpansAt W → Calls Tryz.prog 131 #[(.agg #[.int .i64 C.a, .int .i64 C.b, .int .i64 C.c, .int .i64 C.d]), .int .i64 c] W fun e w' => e = .returned (.int .i64 (partP C.a C.b C.c C.d 0 c)) ∧ Below W.heap.size W w') := Lib.hid (fun W hW => Car_c C.a C.b C.c C.d c W hW)
  have HLo0 : ∀ W, HAt W H A G C s → SpansAt W → Calls Tryz.prog 130 #[.pointer (some ⟨H, 0, none⟩), (colV 5 j c m a p fd tl cy), .int .i64 (partP C.a C.b C.c C.d 0 c)] W (HP W H A G C (s.act C 1 (partP C.a C.b C.c C.d 0 c) 0 0) (colV 7 j c m (u : Int) p fd tl cy)) := fun W hW hs => pload_no (w := W) hW hu hs hr 5 j c m a p fd tl cy (partP C.a C.b C.c C.d 0 c) (by omega) u hu6 hT hcl
  have HLo := Lib.hid HLo0
  clear HLo0 hT hcl hu6
  generalize (s.act C 1 (partP C.a C.b C.c C.d 0 c) 0 0) = s' at *
  generalize (partP C.a C.b C.c C.d 0 c) = P at *
  clear hH hu hS hr hn
  obtain ⟨a0, a1, a2, a3, a4, a5, a6, a7, a8, af⟩ := HC0.out.cells
  dsimp only at a0 a1 a2 a3 a4 a5 a6 a7 a8
  obtain ⟨_, ⟨h1, h2, h3, h4⟩, _⟩ := HC0.out.hand.cells
  go_enter Tryz.func105, Tryz.ntmps105
  go_wp2_with fail
  refine wp_region_held_drew (S := (fun w' => w'.cell? ⟨H, 1, none⟩ = some (.int .i64 C.a) ∧ w'.cell? ⟨H, 2, none⟩ = some (.int .i64 C.b) ∧ w'.cell? ⟨H, 3, none⟩ = some (.int .i64 C.c) ∧ w'.cell? ⟨H, 4, none⟩ = some (.int .i64 C.d) ∧ w'.cell? ⟨w.heap.size, 1, none⟩ = some (.int .i64 j) ∧ w'.cell? ⟨w.heap.size, 2, none⟩ = some (.int .i64 c) ∧ w'.cell? ⟨w.heap.size, 3, none⟩ = some (.int .i64 m) ∧ w'.cell? ⟨w.heap.size, 5, none⟩ = some (.int .u64 p) ∧ w'.cell? ⟨w.heap.size, 6, none⟩ = some (.bool fd) ∧ w'.cell? ⟨w.heap.size, 7, none⟩ = some (.int .i64 tl) ∧ w'.cell? ⟨w.heap.size, 8, none⟩ = some (.int .i64 cy))) (by kernel_rfl) ?_ (fun hHeld => ?_)
  · exact ⟨h1, h2, h3, h4, a1, a2, a3, a5, a6, a7, a8⟩
  refine tk 0 rfl hHeld ?_
  refine tk 2 rfl hHeld ?_
  refine tk 3 rfl hHeld ?_
  refine tk 4 rfl hHeld ?_
  refine tk 5 rfl hHeld ?_
  refine tk 6 rfl hHeld ?_
  refine tk 7 rfl hHeld ?_
  refine wpAnyH_ready (rs := [1, 8]) (by kernel_rfl) (by simp) ?_
  refine AllReadyH.cons (o := _) rfl (fun K hK => ?_) ?_
  · go_simp
    skip
    refine hK.out _ _ ?_ (fun hHeld => ?_)
    · exact ⟨h1, h2, h3, h4, a1, a2, a3, a5, a6, a7, a8⟩
    clear hK K
    try simp only [Act.put, List.setIfInBounds_toArray, List.set_cons_zero, List.set_cons_succ]
    refine wpAnyH_ready (rs := [8]) (by kernel_rfl) (by simp) ?_
    refine AllReadyH.cons (o := _) rfl (fun K hK => ?_) AllReadyH.nil
    go_simp
    have HC1 := Lib.hid HC0.out.drew
    clear HC0
    refine (HCa.out _ (HSP.out _ _ _ HC1.out)).mono ?_
    rintro e V11 ⟨rfl, hb⟩
    have HC2 := Lib.hid (HC1.out.below hb)
    clear HC1
    clear hb
    clear hHeld HCa h1 h2 h3 h4 a0 a1 a2 a3 a4 a5 a6 a7 a8 af
    obtain ⟨a0, a1, a2, a3, a4, a5, a6, a7, a8, af⟩ := HC2.out.cells
    dsimp only at a0 a1 a2 a3 a4 a5 a6 a7 a8
    obtain ⟨_, ⟨h1, h2, h3, h4⟩, _⟩ := HC2.out.hand.cells
    refine hK.out _ _ ?_ (fun hHeld => ?_)
    · exact ⟨h1, h2, h3, h4, a1, a2, a3, a5, a6, a7, a8⟩
    clear hK K
    try simp only [Act.put, List.setIfInBounds_toArray, List.set_cons_zero, List.set_cons_succ]
    refine wpAnyH_ready (rs := [9]) (by kernel_rfl) (by simp) ?_
    refine AllReadyH.cons (o := _) rfl (fun K hK => ?_) AllReadyH.nil
    go_simp
    refine (HLo.out _ HC2.out.hand (HSP.out _ _ _ HC2.out)).mono ?_
    rintro e V21 ⟨rfl, hF, hs⟩
    have HC3 := Lib.hid (HC2.out.handed hF hs)
    clear HC2 hF hs
    clear hHeld HLo h1 h2 h3 h4 a0 a1 a2 a3 a4 a5 a6 a7 a8 af
    obtain ⟨a0, a1, a2, a3, a4, a5, a6, a7, a8, af⟩ := HC3.out.cells
    dsimp only at a0 a1 a2 a3 a4 a5 a6 a7 a8
    obtain ⟨_, ⟨h1, h2, h3, h4⟩, _⟩ := HC3.out.hand.cells
    refine hK.out _ _ ?_ (fun hHeld => ?_)
    · exact ⟨h1, h2, h3, h4, a1, a2, a3, a5, a6, a7, a8⟩
    clear hK K
    try simp only [Act.put, List.setIfInBounds_toArray, List.set_cons_zero, List.set_cons_succ]
    refine wpAnyH_ready (rs := [10]) (by kernel_rfl) (by simp) ?_
    refine AllReadyH.cons (o := _) rfl (fun K hK => ?_) AllReadyH.nil
    go_simp
    have HC4 := Lib.hid (HC3.out.put ⟨7, j, c, m, (u : Int), p, fd, tl, cy⟩)
    clear hHeld HC3 h1 h2 h3 h4 a0 a1 a2 a3 a4 a5 a6 a7 a8 af
    obtain ⟨a0, a1, a2, a3, a4, a5, a6, a7, a8, af⟩ := HC4.out.cells
    dsimp only at a0 a1 a2 a3 a4 a5 a6 a7 a8
    obtain ⟨_, ⟨h1, h2, h3, h4⟩, _⟩ := HC4.out.hand.cells
    refine hK.out _ _ ?_ (fun hHeld => ?_)
    · exact ⟨h1, h2, h3, h4, a1, a2, a3, a5, a6, a7, a8⟩
    clear hK K
    try simp only [Act.put, List.setIfInBounds_toArray, List.set_cons_zero, List.set_cons_succ]
    refine wpAnyH_done (by kernel_rfl) ?_ _
    clear hHeld h1 h2 h3 h4 a0 a1 a2 a3 a4 a5 a6 a7 a8 af
    have HCe := Lib.hid HC4.out
    obtain ⟨d0, d1, d2, d3, d4, d5, d6, d7, d8, df⟩ := HCe.out.cells
    dsimp only at d0 d1 d2 d3 d4 d5 d6 d7 d8
    obtain ⟨c0, c1, c2, c3, c4, c5, c6, c7, c8, cf⟩ := HCe.out.cellsY
    obtain ⟨s0, s1, s2, s3, s4, s5, s6, s7, s8, sf⟩ := (HCe.out.last ⟨7, j, c, m, (u : Int), p, fd, tl, cy⟩).cells
    dsimp only at s0 s1 s2 s3 s4 s5 s6 s7 s8
    clear HC4 
    go_wp2_with fail
    refine bodyPost_ret (v := .tuple #[(colV 7 j c m (u : Int) p fd tl cy), .bool true]) (by simp [results, Tryz.f105, go_sem, s0, s1, s2, s3, s4, s5, s6, s7, s8]) rfl ?_
    exact ⟨rfl, HCe.out.fin ⟨7, j, c, m, (u : Int), p, fd, tl, cy⟩⟩
  refine AllReadyH.cons (o := _) rfl (fun K hK => ?_) AllReadyH.nil
  go_simp
  have HC1 := Lib.hid HC0.out.drew
  clear HC0
  refine (HCa.out _ (HSP.out _ _ _ HC1.out)).mono ?_
  rintro e V11 ⟨rfl, hb⟩
  have HC2 := Lib.hid (HC1.out.below hb)
  clear HC1
  clear hb
  clear hHeld HCa h1 h2 h3 h4 a0 a1 a2 a3 a4 a5 a6 a7 a8 af
  obtain ⟨a0, a1, a2, a3, a4, a5, a6, a7, a8, af⟩ := HC2.out.cells
  dsimp only at a0 a1 a2 a3 a4 a5 a6 a7 a8
  obtain ⟨_, ⟨h1, h2, h3, h4⟩, _⟩ := HC2.out.hand.cells
  refine hK.out _ _ ?_ (fun hHeld => ?_)
  · exact ⟨h1, h2, h3, h4, a1, a2, a3, a5, a6, a7, a8⟩
  clear hK K
  try simp only [Act.put, List.setIfInBounds_toArray, List.set_cons_zero, List.set_cons_succ]
  refine wpAnyH_ready (rs := [1]) (by kernel_rfl) (by simp) ?_
  refine AllReadyH.cons (o := _) rfl (fun K hK => ?_) AllReadyH.nil
  go_simp
  skip
  refine hK.out _ _ ?_ (fun hHeld => ?_)
  · exact ⟨h1, h2, h3, h4, a1, a2, a3, a5, a6, a7, a8⟩
  clear hK K
  try simp only [Act.put, List.setIfInBounds_toArray, List.set_cons_zero, List.set_cons_succ]
  refine wpAnyH_ready (rs := [9]) (by kernel_rfl) (by simp) ?_
  refine AllReadyH.cons (o := _) rfl (fun K hK => ?_) AllReadyH.nil
  go_simp
  refine (HLo.out _ HC2.out.hand (HSP.out _ _ _ HC2.out)).mono ?_
  rintro e V21 ⟨rfl, hF, hs⟩
  have HC3 := Lib.hid (HC2.out.handed hF hs)
  clear HC2 hF hs
  clear hHeld HLo h1 h2 h3 h4 a0 a1 a2 a3 a4 a5 a6 a7 a8 af
  obtain ⟨a0, a1, a2, a3, a4, a5, a6, a7, a8, af⟩ := HC3.out.cells
  dsimp only at a0 a1 a2 a3 a4 a5 a6 a7 a8
  obtain ⟨_, ⟨h1, h2, h3, h4⟩, _⟩ := HC3.out.hand.cells
  refine hK.out _ _ ?_ (fun hHeld => ?_)
  · exact ⟨h1, h2, h3, h4, a1, a2, a3, a5, a6, a7, a8⟩
  clear hK K
  try simp only [Act.put, List.setIfInBounds_toArray, List.set_cons_zero, List.set_cons_succ]
  refine wpAnyH_ready (rs := [10]) (by kernel_rfl) (by simp) ?_
  refine AllReadyH.cons (o := _) rfl (fun K hK => ?_) AllReadyH.nil
  go_simp
  have HC4 := Lib.hid (HC3.out.put ⟨7, j, c, m, (u : Int), p, fd, tl, cy⟩)
  clear hHeld HC3 h1 h2 h3 h4 a0 a1 a2 a3 a4 a5 a6 a7 a8 af
  obtain ⟨a0, a1, a2, a3, a4, a5, a6, a7, a8, af⟩ := HC4.out.cells
  dsimp only at a0 a1 a2 a3 a4 a5 a6 a7 a8
  obtain ⟨_, ⟨h1, h2, h3, h4⟩, _⟩ := HC4.out.hand.cells
  refine hK.out _ _ ?_ (fun hHeld => ?_)
  · exact ⟨h1, h2, h3, h4, a1, a2, a3, a5, a6, a7, a8⟩
  clear hK K
  try simp only [Act.put, List.setIfInBounds_toArray, List.set_cons_zero, List.set_cons_succ]
  refine wpAnyH_done (by kernel_rfl) ?_ _
  clear hHeld h1 h2 h3 h4 a0 a1 a2 a3 a4 a5 a6 a7 a8 af
  have HCe := Lib.hid HC4.out
  obtain ⟨d0, d1, d2, d3, d4, d5, d6, d7, d8, df⟩ := HCe.out.cells
  dsimp only at d0 d1 d2 d3 d4 d5 d6 d7 d8
  obtain ⟨c0, c1, c2, c3, c4, c5, c6, c7, c8, cf⟩ := HCe.out.cellsY
  obtain ⟨s0, s1, s2, s3, s4, s5, s6, s7, s8, sf⟩ := (HCe.out.last ⟨7, j, c, m, (u : Int), p, fd, tl, cy⟩).cells
  dsimp only at s0 s1 s2 s3 s4 s5 s6 s7 s8
  clear HC4 
  go_wp2_with fail
  refine bodyPost_ret (v := .tuple #[(colV 7 j c m (u : Int) p fd tl cy), .bool true]) (by simp [results, Tryz.f105, go_sem, s0, s1, s2, s3, s4, s5, s6, s7, s8]) rfl ?_
  exact ⟨rfl, HCe.out.fin ⟨7, j, c, m, (u : Int), p, fd, tl, cy⟩⟩
set_option maxHeartbeats 3200000 in
theorem pStep_7_cell {w : World} {H A G : Nat} {C : Cf} {s : Dy} (hH : HAt w H A G C s) (hu : s.U) (hS : SpansAt w) (hr : Right C.a C.b C.c C.d) (hn : 0 < C.n) (j c m a p : Int) (fd : Bool) (tl cy : Int) (u : Nat) (hu6 : u < 18446744073709551616) (hT : z5 C.n 1 (partP C.a C.b C.c C.d 1 c) (s.f (partP C.a C.b C.c C.d 1 c).toNat) = (u : Int)) (hcl : isC u) :
    Calls Tryz.prog 105 #[.pointer (some ⟨H, 0, none⟩), (colV 7 j c m a p fd tl cy)] w (HP w H A G C (s.act C 1 (partP C.a C.b C.c C.d 1 c) 0 0) (.tuple #[(colV 8 j c m (u : Int) p fd tl cy), .bool true])) := by
  have HC0 := Lib.hid (ColF.start hH ⟨7, j, c, m, a, p, fd, tl, cy⟩)
  have HSP : Hid (∀ W s' x', ColF w W H A G C s' x' → SpansAt W) := Lib.hid (fun W s' x' h => spans_sav hn hS hH h.sav)
  have HCa : Hid (∀ W, SpansAt W → Calls Tryz.prog 77 #[(.agg #[.int .i64 C.a, .int .i64 C.b, .int .i64 C.c, .int .i64 C.d]), .int .i64 c] W fun e w' => e = .returned (.int .i64 (partP C.a C.b C.c C.d 1 c)) ∧ Below W.heap.size W w') := Lib.hid (fun W hW => Cdr_c C.a C.b C.c C.d c W hW)
  have HLo0 : ∀ W, HAt W H A G C s → SpansAt W → Calls Tryz.prog 130 #[.pointer (some ⟨H, 0, none⟩), (colV 7 j c m a p fd tl cy), .int .i64 (partP C.a C.b C.c C.d 1 c)] W (HP W H A G C (s.act C 1 (partP C.a C.b C.c C.d 1 c) 0 0) (colV 8 j c m (u : Int) p fd tl cy)) := fun W hW hs => pload_cell (w := W) hW hu hs hr 7 j c m a p fd tl cy (partP C.a C.b C.c C.d 1 c) (by omega) u hu6 hT hcl
  have HLo := Lib.hid HLo0
  clear HLo0 hT hcl hu6
  generalize (s.act C 1 (partP C.a C.b C.c C.d 1 c) 0 0) = s' at *
  generalize (partP C.a C.b C.c C.d 1 c) = P at *
  clear hH hu hS hr hn
  obtain ⟨a0, a1, a2, a3, a4, a5, a6, a7, a8, af⟩ := HC0.out.cells
  dsimp only at a0 a1 a2 a3 a4 a5 a6 a7 a8
  obtain ⟨_, ⟨h1, h2, h3, h4⟩, _⟩ := HC0.out.hand.cells
  go_enter Tryz.func105, Tryz.ntmps105
  go_wp2_with fail
  refine wp_region_held_drew (S := (fun w' => w'.cell? ⟨H, 1, none⟩ = some (.int .i64 C.a) ∧ w'.cell? ⟨H, 2, none⟩ = some (.int .i64 C.b) ∧ w'.cell? ⟨H, 3, none⟩ = some (.int .i64 C.c) ∧ w'.cell? ⟨H, 4, none⟩ = some (.int .i64 C.d) ∧ w'.cell? ⟨w.heap.size, 1, none⟩ = some (.int .i64 j) ∧ w'.cell? ⟨w.heap.size, 2, none⟩ = some (.int .i64 c) ∧ w'.cell? ⟨w.heap.size, 3, none⟩ = some (.int .i64 m) ∧ w'.cell? ⟨w.heap.size, 5, none⟩ = some (.int .u64 p) ∧ w'.cell? ⟨w.heap.size, 6, none⟩ = some (.bool fd) ∧ w'.cell? ⟨w.heap.size, 7, none⟩ = some (.int .i64 tl) ∧ w'.cell? ⟨w.heap.size, 8, none⟩ = some (.int .i64 cy))) (by kernel_rfl) ?_ (fun hHeld => ?_)
  · exact ⟨h1, h2, h3, h4, a1, a2, a3, a5, a6, a7, a8⟩
  refine tk 0 rfl hHeld ?_
  refine tk 2 rfl hHeld ?_
  refine tk 3 rfl hHeld ?_
  refine tk 4 rfl hHeld ?_
  refine tk 5 rfl hHeld ?_
  refine tk 6 rfl hHeld ?_
  refine tk 7 rfl hHeld ?_
  refine wpAnyH_ready (rs := [1, 8]) (by kernel_rfl) (by simp) ?_
  refine AllReadyH.cons (o := _) rfl (fun K hK => ?_) ?_
  · go_simp
    skip
    refine hK.out _ _ ?_ (fun hHeld => ?_)
    · exact ⟨h1, h2, h3, h4, a1, a2, a3, a5, a6, a7, a8⟩
    clear hK K
    try simp only [Act.put, List.setIfInBounds_toArray, List.set_cons_zero, List.set_cons_succ]
    refine wpAnyH_ready (rs := [8]) (by kernel_rfl) (by simp) ?_
    refine AllReadyH.cons (o := _) rfl (fun K hK => ?_) AllReadyH.nil
    go_simp
    have HC1 := Lib.hid HC0.out.drew
    clear HC0
    refine (HCa.out _ (HSP.out _ _ _ HC1.out)).mono ?_
    rintro e V11 ⟨rfl, hb⟩
    have HC2 := Lib.hid (HC1.out.below hb)
    clear HC1
    clear hb
    clear hHeld HCa h1 h2 h3 h4 a0 a1 a2 a3 a4 a5 a6 a7 a8 af
    obtain ⟨a0, a1, a2, a3, a4, a5, a6, a7, a8, af⟩ := HC2.out.cells
    dsimp only at a0 a1 a2 a3 a4 a5 a6 a7 a8
    obtain ⟨_, ⟨h1, h2, h3, h4⟩, _⟩ := HC2.out.hand.cells
    refine hK.out _ _ ?_ (fun hHeld => ?_)
    · exact ⟨h1, h2, h3, h4, a1, a2, a3, a5, a6, a7, a8⟩
    clear hK K
    try simp only [Act.put, List.setIfInBounds_toArray, List.set_cons_zero, List.set_cons_succ]
    refine wpAnyH_ready (rs := [9]) (by kernel_rfl) (by simp) ?_
    refine AllReadyH.cons (o := _) rfl (fun K hK => ?_) AllReadyH.nil
    go_simp
    refine (HLo.out _ HC2.out.hand (HSP.out _ _ _ HC2.out)).mono ?_
    rintro e V21 ⟨rfl, hF, hs⟩
    have HC3 := Lib.hid (HC2.out.handed hF hs)
    clear HC2 hF hs
    clear hHeld HLo h1 h2 h3 h4 a0 a1 a2 a3 a4 a5 a6 a7 a8 af
    obtain ⟨a0, a1, a2, a3, a4, a5, a6, a7, a8, af⟩ := HC3.out.cells
    dsimp only at a0 a1 a2 a3 a4 a5 a6 a7 a8
    obtain ⟨_, ⟨h1, h2, h3, h4⟩, _⟩ := HC3.out.hand.cells
    refine hK.out _ _ ?_ (fun hHeld => ?_)
    · exact ⟨h1, h2, h3, h4, a1, a2, a3, a5, a6, a7, a8⟩
    clear hK K
    try simp only [Act.put, List.setIfInBounds_toArray, List.set_cons_zero, List.set_cons_succ]
    refine wpAnyH_ready (rs := [10]) (by kernel_rfl) (by simp) ?_
    refine AllReadyH.cons (o := _) rfl (fun K hK => ?_) AllReadyH.nil
    go_simp
    have HC4 := Lib.hid (HC3.out.put ⟨8, j, c, m, (u : Int), p, fd, tl, cy⟩)
    clear hHeld HC3 h1 h2 h3 h4 a0 a1 a2 a3 a4 a5 a6 a7 a8 af
    obtain ⟨a0, a1, a2, a3, a4, a5, a6, a7, a8, af⟩ := HC4.out.cells
    dsimp only at a0 a1 a2 a3 a4 a5 a6 a7 a8
    obtain ⟨_, ⟨h1, h2, h3, h4⟩, _⟩ := HC4.out.hand.cells
    refine hK.out _ _ ?_ (fun hHeld => ?_)
    · exact ⟨h1, h2, h3, h4, a1, a2, a3, a5, a6, a7, a8⟩
    clear hK K
    try simp only [Act.put, List.setIfInBounds_toArray, List.set_cons_zero, List.set_cons_succ]
    refine wpAnyH_done (by kernel_rfl) ?_ _
    clear hHeld h1 h2 h3 h4 a0 a1 a2 a3 a4 a5 a6 a7 a8 af
    have HCe := Lib.hid HC4.out
    obtain ⟨d0, d1, d2, d3, d4, d5, d6, d7, d8, df⟩ := HCe.out.cells
    dsimp only at d0 d1 d2 d3 d4 d5 d6 d7 d8
    obtain ⟨c0, c1, c2, c3, c4, c5, c6, c7, c8, cf⟩ := HCe.out.cellsY
    obtain ⟨s0, s1, s2, s3, s4, s5, s6, s7, s8, sf⟩ := (HCe.out.last ⟨8, j, c, m, (u : Int), p, fd, tl, cy⟩).cells
    dsimp only at s0 s1 s2 s3 s4 s5 s6 s7 s8
    clear HC4 
    go_wp2_with fail
    refine bodyPost_ret (v := .tuple #[(colV 8 j c m (u : Int) p fd tl cy), .bool true]) (by simp [results, Tryz.f105, go_sem, s0, s1, s2, s3, s4, s5, s6, s7, s8]) rfl ?_
    exact ⟨rfl, HCe.out.fin ⟨8, j, c, m, (u : Int), p, fd, tl, cy⟩⟩
  refine AllReadyH.cons (o := _) rfl (fun K hK => ?_) AllReadyH.nil
  go_simp
  have HC1 := Lib.hid HC0.out.drew
  clear HC0
  refine (HCa.out _ (HSP.out _ _ _ HC1.out)).mono ?_
  rintro e V11 ⟨rfl, hb⟩
  have HC2 := Lib.hid (HC1.out.below hb)
  clear HC1
  clear hb
  clear hHeld HCa h1 h2 h3 h4 a0 a1 a2 a3 a4 a5 a6 a7 a8 af
  obtain ⟨a0, a1, a2, a3, a4, a5, a6, a7, a8, af⟩ := HC2.out.cells
  dsimp only at a0 a1 a2 a3 a4 a5 a6 a7 a8
  obtain ⟨_, ⟨h1, h2, h3, h4⟩, _⟩ := HC2.out.hand.cells
  refine hK.out _ _ ?_ (fun hHeld => ?_)
  · exact ⟨h1, h2, h3, h4, a1, a2, a3, a5, a6, a7, a8⟩
  clear hK K
  try simp only [Act.put, List.setIfInBounds_toArray, List.set_cons_zero, List.set_cons_succ]
  refine wpAnyH_ready (rs := [1]) (by kernel_rfl) (by simp) ?_
  refine AllReadyH.cons (o := _) rfl (fun K hK => ?_) AllReadyH.nil
  go_simp
  skip
  refine hK.out _ _ ?_ (fun hHeld => ?_)
  · exact ⟨h1, h2, h3, h4, a1, a2, a3, a5, a6, a7, a8⟩
  clear hK K
  try simp only [Act.put, List.setIfInBounds_toArray, List.set_cons_zero, List.set_cons_succ]
  refine wpAnyH_ready (rs := [9]) (by kernel_rfl) (by simp) ?_
  refine AllReadyH.cons (o := _) rfl (fun K hK => ?_) AllReadyH.nil
  go_simp
  refine (HLo.out _ HC2.out.hand (HSP.out _ _ _ HC2.out)).mono ?_
  rintro e V21 ⟨rfl, hF, hs⟩
  have HC3 := Lib.hid (HC2.out.handed hF hs)
  clear HC2 hF hs
  clear hHeld HLo h1 h2 h3 h4 a0 a1 a2 a3 a4 a5 a6 a7 a8 af
  obtain ⟨a0, a1, a2, a3, a4, a5, a6, a7, a8, af⟩ := HC3.out.cells
  dsimp only at a0 a1 a2 a3 a4 a5 a6 a7 a8
  obtain ⟨_, ⟨h1, h2, h3, h4⟩, _⟩ := HC3.out.hand.cells
  refine hK.out _ _ ?_ (fun hHeld => ?_)
  · exact ⟨h1, h2, h3, h4, a1, a2, a3, a5, a6, a7, a8⟩
  clear hK K
  try simp only [Act.put, List.setIfInBounds_toArray, List.set_cons_zero, List.set_cons_succ]
  refine wpAnyH_ready (rs := [10]) (by kernel_rfl) (by simp) ?_
  refine AllReadyH.cons (o := _) rfl (fun K hK => ?_) AllReadyH.nil
  go_simp
  have HC4 := Lib.hid (HC3.out.put ⟨8, j, c, m, (u : Int), p, fd, tl, cy⟩)
  clear hHeld HC3 h1 h2 h3 h4 a0 a1 a2 a3 a4 a5 a6 a7 a8 af
  obtain ⟨a0, a1, a2, a3, a4, a5, a6, a7, a8, af⟩ := HC4.out.cells
  dsimp only at a0 a1 a2 a3 a4 a5 a6 a7 a8
  obtain ⟨_, ⟨h1, h2, h3, h4⟩, _⟩ := HC4.out.hand.cells
  refine hK.out _ _ ?_ (fun hHeld => ?_)
  · exact ⟨h1, h2, h3, h4, a1, a2, a3, a5, a6, a7, a8⟩
  clear hK K
  try simp only [Act.put, List.setIfInBounds_toArray, List.set_cons_zero, List.set_cons_succ]
  refine wpAnyH_done (by kernel_rfl) ?_ _
  clear hHeld h1 h2 h3 h4 a0 a1 a2 a3 a4 a5 a6 a7 a8 af
  have HCe := Lib.hid HC4.out
  obtain ⟨d0, d1, d2, d3, d4, d5, d6, d7, d8, df⟩ := HCe.out.cells
  dsimp only at d0 d1 d2 d3 d4 d5 d6 d7 d8
  obtain ⟨c0, c1, c2, c3, c4, c5, c6, c7, c8, cf⟩ := HCe.out.cellsY
  obtain ⟨s0, s1, s2, s3, s4, s5, s6, s7, s8, sf⟩ := (HCe.out.last ⟨8, j, c, m, (u : Int), p, fd, tl, cy⟩).cells
  dsimp only at s0 s1 s2 s3 s4 s5 s6 s7 s8
  clear HC4 
  go_wp2_with fail
  refine bodyPost_ret (v := .tuple #[(colV 8 j c m (u : Int) p fd tl cy), .bool true]) (by simp [results, Tryz.f105, go_sem, s0, s1, s2, s3, s4, s5, s6, s7, s8]) rfl ?_
  exact ⟨rfl, HCe.out.fin ⟨8, j, c, m, (u : Int), p, fd, tl, cy⟩⟩
set_option maxHeartbeats 3200000 in
theorem pStep_7_no {w : World} {H A G : Nat} {C : Cf} {s : Dy} (hH : HAt w H A G C s) (hu : s.U) (hS : SpansAt w) (hr : Right C.a C.b C.c C.d) (hn : 0 < C.n) (j c m a p : Int) (fd : Bool) (tl cy : Int) (u : Nat) (hu6 : u < 18446744073709551616) (hT : z5 C.n 1 (partP C.a C.b C.c C.d 1 c) (s.f (partP C.a C.b C.c C.d 1 c).toNat) = (u : Int)) (hcl : ¬ isC u) :
    Calls Tryz.prog 105 #[.pointer (some ⟨H, 0, none⟩), (colV 7 j c m a p fd tl cy)] w (HP w H A G C (s.act C 1 (partP C.a C.b C.c C.d 1 c) 0 0) (.tuple #[(colV 9 j c m (u : Int) p fd tl cy), .bool true])) := by
  have HC0 := Lib.hid (ColF.start hH ⟨7, j, c, m, a, p, fd, tl, cy⟩)
  have HSP : Hid (∀ W s' x', ColF w W H A G C s' x' → SpansAt W) := Lib.hid (fun W s' x' h => spans_sav hn hS hH h.sav)
  have HCa : Hid (∀ W, SpansAt W → Calls Tryz.prog 77 #[(.agg #[.int .i64 C.a, .int .i64 C.b, .int .i64 C.c, .int .i64 C.d]), .int .i64 c] W fun e w' => e = .returned (.int .i64 (partP C.a C.b C.c C.d 1 c)) ∧ Below W.heap.size W w') := Lib.hid (fun W hW => Cdr_c C.a C.b C.c C.d c W hW)
  have HLo0 : ∀ W, HAt W H A G C s → SpansAt W → Calls Tryz.prog 130 #[.pointer (some ⟨H, 0, none⟩), (colV 7 j c m a p fd tl cy), .int .i64 (partP C.a C.b C.c C.d 1 c)] W (HP W H A G C (s.act C 1 (partP C.a C.b C.c C.d 1 c) 0 0) (colV 9 j c m (u : Int) p fd tl cy)) := fun W hW hs => pload_no (w := W) hW hu hs hr 7 j c m a p fd tl cy (partP C.a C.b C.c C.d 1 c) (by omega) u hu6 hT hcl
  have HLo := Lib.hid HLo0
  clear HLo0 hT hcl hu6
  generalize (s.act C 1 (partP C.a C.b C.c C.d 1 c) 0 0) = s' at *
  generalize (partP C.a C.b C.c C.d 1 c) = P at *
  clear hH hu hS hr hn
  obtain ⟨a0, a1, a2, a3, a4, a5, a6, a7, a8, af⟩ := HC0.out.cells
  dsimp only at a0 a1 a2 a3 a4 a5 a6 a7 a8
  obtain ⟨_, ⟨h1, h2, h3, h4⟩, _⟩ := HC0.out.hand.cells
  go_enter Tryz.func105, Tryz.ntmps105
  go_wp2_with fail
  refine wp_region_held_drew (S := (fun w' => w'.cell? ⟨H, 1, none⟩ = some (.int .i64 C.a) ∧ w'.cell? ⟨H, 2, none⟩ = some (.int .i64 C.b) ∧ w'.cell? ⟨H, 3, none⟩ = some (.int .i64 C.c) ∧ w'.cell? ⟨H, 4, none⟩ = some (.int .i64 C.d) ∧ w'.cell? ⟨w.heap.size, 1, none⟩ = some (.int .i64 j) ∧ w'.cell? ⟨w.heap.size, 2, none⟩ = some (.int .i64 c) ∧ w'.cell? ⟨w.heap.size, 3, none⟩ = some (.int .i64 m) ∧ w'.cell? ⟨w.heap.size, 5, none⟩ = some (.int .u64 p) ∧ w'.cell? ⟨w.heap.size, 6, none⟩ = some (.bool fd) ∧ w'.cell? ⟨w.heap.size, 7, none⟩ = some (.int .i64 tl) ∧ w'.cell? ⟨w.heap.size, 8, none⟩ = some (.int .i64 cy))) (by kernel_rfl) ?_ (fun hHeld => ?_)
  · exact ⟨h1, h2, h3, h4, a1, a2, a3, a5, a6, a7, a8⟩
  refine tk 0 rfl hHeld ?_
  refine tk 2 rfl hHeld ?_
  refine tk 3 rfl hHeld ?_
  refine tk 4 rfl hHeld ?_
  refine tk 5 rfl hHeld ?_
  refine tk 6 rfl hHeld ?_
  refine tk 7 rfl hHeld ?_
  refine wpAnyH_ready (rs := [1, 8]) (by kernel_rfl) (by simp) ?_
  refine AllReadyH.cons (o := _) rfl (fun K hK => ?_) ?_
  · go_simp
    skip
    refine hK.out _ _ ?_ (fun hHeld => ?_)
    · exact ⟨h1, h2, h3, h4, a1, a2, a3, a5, a6, a7, a8⟩
    clear hK K
    try simp only [Act.put, List.setIfInBounds_toArray, List.set_cons_zero, List.set_cons_succ]
    refine wpAnyH_ready (rs := [8]) (by kernel_rfl) (by simp) ?_
    refine AllReadyH.cons (o := _) rfl (fun K hK => ?_) AllReadyH.nil
    go_simp
    have HC1 := Lib.hid HC0.out.drew
    clear HC0
    refine (HCa.out _ (HSP.out _ _ _ HC1.out)).mono ?_
    rintro e V11 ⟨rfl, hb⟩
    have HC2 := Lib.hid (HC1.out.below hb)
    clear HC1
    clear hb
    clear hHeld HCa h1 h2 h3 h4 a0 a1 a2 a3 a4 a5 a6 a7 a8 af
    obtain ⟨a0, a1, a2, a3, a4, a5, a6, a7, a8, af⟩ := HC2.out.cells
    dsimp only at a0 a1 a2 a3 a4 a5 a6 a7 a8
    obtain ⟨_, ⟨h1, h2, h3, h4⟩, _⟩ := HC2.out.hand.cells
    refine hK.out _ _ ?_ (fun hHeld => ?_)
    · exact ⟨h1, h2, h3, h4, a1, a2, a3, a5, a6, a7, a8⟩
    clear hK K
    try simp only [Act.put, List.setIfInBounds_toArray, List.set_cons_zero, List.set_cons_succ]
    refine wpAnyH_ready (rs := [9]) (by kernel_rfl) (by simp) ?_
    refine AllReadyH.cons (o := _) rfl (fun K hK => ?_) AllReadyH.nil
    go_simp
    refine (HLo.out _ HC2.out.hand (HSP.out _ _ _ HC2.out)).mono ?_
    rintro e V21 ⟨rfl, hF, hs⟩
    have HC3 := Lib.hid (HC2.out.handed hF hs)
    clear HC2 hF hs
    clear hHeld HLo h1 h2 h3 h4 a0 a1 a2 a3 a4 a5 a6 a7 a8 af
    obtain ⟨a0, a1, a2, a3, a4, a5, a6, a7, a8, af⟩ := HC3.out.cells
    dsimp only at a0 a1 a2 a3 a4 a5 a6 a7 a8
    obtain ⟨_, ⟨h1, h2, h3, h4⟩, _⟩ := HC3.out.hand.cells
    refine hK.out _ _ ?_ (fun hHeld => ?_)
    · exact ⟨h1, h2, h3, h4, a1, a2, a3, a5, a6, a7, a8⟩
    clear hK K
    try simp only [Act.put, List.setIfInBounds_toArray, List.set_cons_zero, List.set_cons_succ]
    refine wpAnyH_ready (rs := [10]) (by kernel_rfl) (by simp) ?_
    refine AllReadyH.cons (o := _) rfl (fun K hK => ?_) AllReadyH.nil
    go_simp
    have HC4 := Lib.hid (HC3.out.put ⟨9, j, c, m, (u : Int), p, fd, tl, cy⟩)
    clear hHeld HC3 h1 h2 h3 h4 a0 a1 a2 a3 a4 a5 a6 a7 a8 af
    obtain ⟨a0, a1, a2, a3, a4, a5, a6, a7, a8, af⟩ := HC4.out.cells
    dsimp only at a0 a1 a2 a3 a4 a5 a6 a7 a8
    obtain ⟨_, ⟨h1, h2, h3, h4⟩, _⟩ := HC4.out.hand.cells
    refine hK.out _ _ ?_ (fun hHeld => ?_)
    · exact ⟨h1, h2, h3, h4, a1, a2, a3, a5, a6, a7, a8⟩
    clear hK K
    try simp only [Act.put, List.setIfInBounds_toArray, List.set_cons_zero, List.set_cons_succ]
    refine wpAnyH_done (by kernel_rfl) ?_ _
    clear hHeld h1 h2 h3 h4 a0 a1 a2 a3 a4 a5 a6 a7 a8 af
    have HCe := Lib.hid HC4.out
    obtain ⟨d0, d1, d2, d3, d4, d5, d6, d7, d8, df⟩ := HCe.out.cells
    dsimp only at d0 d1 d2 d3 d4 d5 d6 d7 d8
    obtain ⟨c0, c1, c2, c3, c4, c5, c6, c7, c8, cf⟩ := HCe.out.cellsY
    obtain ⟨s0, s1, s2, s3, s4, s5, s6, s7, s8, sf⟩ := (HCe.out.last ⟨9, j, c, m, (u : Int), p, fd, tl, cy⟩).cells
    dsimp only at s0 s1 s2 s3 s4 s5 s6 s7 s8
    clear HC4 
    go_wp2_with fail
    refine bodyPost_ret (v := .tuple #[(colV 9 j c m (u : Int) p fd tl cy), .bool true]) (by simp [results, Tryz.f105, go_sem, s0, s1, s2, s3, s4, s5, s6, s7, s8]) rfl ?_
    exact ⟨rfl, HCe.out.fin ⟨9, j, c, m, (u : Int), p, fd, tl, cy⟩⟩
  refine AllReadyH.cons (o := _) rfl (fun K hK => ?_) AllReadyH.nil
  go_simp
  have HC1 := Lib.hid HC0.out.drew
  clear HC0
  refine (HCa.out _ (HSP.out _ _ _ HC1.out)).mono ?_
  rintro e V11 ⟨rfl, hb⟩
  have HC2 := Lib.hid (HC1.out.below hb)
  clear HC1
  clear hb
  clear hHeld HCa h1 h2 h3 h4 a0 a1 a2 a3 a4 a5 a6 a7 a8 af
  obtain ⟨a0, a1, a2, a3, a4, a5, a6, a7, a8, af⟩ := HC2.out.cells
  dsimp only at a0 a1 a2 a3 a4 a5 a6 a7 a8
  obtain ⟨_, ⟨h1, h2, h3, h4⟩, _⟩ := HC2.out.hand.cells
  refine hK.out _ _ ?_ (fun hHeld => ?_)
  · exact ⟨h1, h2, h3, h4, a1, a2, a3, a5, a6, a7, a8⟩
  clear hK K
  try simp only [Act.put, List.setIfInBounds_toArray, List.set_cons_zero, List.set_cons_succ]
  refine wpAnyH_ready (rs := [1]) (by kernel_rfl) (by simp) ?_
  refine AllReadyH.cons (o := _) rfl (fun K hK => ?_) AllReadyH.nil
  go_simp
  skip
  refine hK.out _ _ ?_ (fun hHeld => ?_)
  · exact ⟨h1, h2, h3, h4, a1, a2, a3, a5, a6, a7, a8⟩
  clear hK K
  try simp only [Act.put, List.setIfInBounds_toArray, List.set_cons_zero, List.set_cons_succ]
  refine wpAnyH_ready (rs := [9]) (by kernel_rfl) (by simp) ?_
  refine AllReadyH.cons (o := _) rfl (fun K hK => ?_) AllReadyH.nil
  go_simp
  refine (HLo.out _ HC2.out.hand (HSP.out _ _ _ HC2.out)).mono ?_
  rintro e V21 ⟨rfl, hF, hs⟩
  have HC3 := Lib.hid (HC2.out.handed hF hs)
  clear HC2 hF hs
  clear hHeld HLo h1 h2 h3 h4 a0 a1 a2 a3 a4 a5 a6 a7 a8 af
  obtain ⟨a0, a1, a2, a3, a4, a5, a6, a7, a8, af⟩ := HC3.out.cells
  dsimp only at a0 a1 a2 a3 a4 a5 a6 a7 a8
  obtain ⟨_, ⟨h1, h2, h3, h4⟩, _⟩ := HC3.out.hand.cells
  refine hK.out _ _ ?_ (fun hHeld => ?_)
  · exact ⟨h1, h2, h3, h4, a1, a2, a3, a5, a6, a7, a8⟩
  clear hK K
  try simp only [Act.put, List.setIfInBounds_toArray, List.set_cons_zero, List.set_cons_succ]
  refine wpAnyH_ready (rs := [10]) (by kernel_rfl) (by simp) ?_
  refine AllReadyH.cons (o := _) rfl (fun K hK => ?_) AllReadyH.nil
  go_simp
  have HC4 := Lib.hid (HC3.out.put ⟨9, j, c, m, (u : Int), p, fd, tl, cy⟩)
  clear hHeld HC3 h1 h2 h3 h4 a0 a1 a2 a3 a4 a5 a6 a7 a8 af
  obtain ⟨a0, a1, a2, a3, a4, a5, a6, a7, a8, af⟩ := HC4.out.cells
  dsimp only at a0 a1 a2 a3 a4 a5 a6 a7 a8
  obtain ⟨_, ⟨h1, h2, h3, h4⟩, _⟩ := HC4.out.hand.cells
  refine hK.out _ _ ?_ (fun hHeld => ?_)
  · exact ⟨h1, h2, h3, h4, a1, a2, a3, a5, a6, a7, a8⟩
  clear hK K
  try simp only [Act.put, List.setIfInBounds_toArray, List.set_cons_zero, List.set_cons_succ]
  refine wpAnyH_done (by kernel_rfl) ?_ _
  clear hHeld h1 h2 h3 h4 a0 a1 a2 a3 a4 a5 a6 a7 a8 af
  have HCe := Lib.hid HC4.out
  obtain ⟨d0, d1, d2, d3, d4, d5, d6, d7, d8, df⟩ := HCe.out.cells
  dsimp only at d0 d1 d2 d3 d4 d5 d6 d7 d8
  obtain ⟨c0, c1, c2, c3, c4, c5, c6, c7, c8, cf⟩ := HCe.out.cellsY
  obtain ⟨s0, s1, s2, s3, s4, s5, s6, s7, s8, sf⟩ := (HCe.out.last ⟨9, j, c, m, (u : Int), p, fd, tl, cy⟩).cells
  dsimp only at s0 s1 s2 s3 s4 s5 s6 s7 s8
  clear HC4 
  go_wp2_with fail
  refine bodyPost_ret (v := .tuple #[(colV 9 j c m (u : Int) p fd tl cy), .bool true]) (by simp [results, Tryz.f105, go_sem, s0, s1, s2, s3, s4, s5, s6, s7, s8]) rfl ?_
  exact ⟨rfl, HCe.out.fin ⟨9, j, c, m, (u : Int), p, fd, tl, cy⟩⟩
end Go.Proofs.YtbpooljohjkbjaaGreatDoor
