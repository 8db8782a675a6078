/- What do of package sweep does: its lines. -/
import Derived.Test.YtbpooljohjkbjaaGreatDoorM1
import Derived.Test.YtbpooljohjkbjaaGreatDoorM9
import Derived.Test.YtbpooljohjkbjaaGreatDoorM4
import Derived.Test.YtbpooljohjkbjaaGreatDoorPlaceAt
namespace Go.Proofs.YtbpooljohjkbjaaGreatDoor
open Go Go.RowKit
set_option maxRecDepth 100000
attribute [local go_sem ↓] Go.wp_at_zero Go.wp_at_succ
set_option maxHeartbeats 3200000 in
theorem sd20_white {w : World} {H A G : Nat} {C : Cf} {s : Dy} (hH : HAt w H A G C s) (hu : s.U) (hS : SpansAt w) (_ : Right C.a C.b C.c C.d) (hn : 0 < C.n) (j c m a p : Int) (fd : Bool) (tl cy : Int) (T : Int) (hT : z5 C.n 1 (partP C.a C.b C.c C.d 2 c) (s.f (partP C.a C.b C.c C.d 2 c).toNat) = T) (h0 : T = 0) :
    Calls Tryz.prog 135 #[.pointer (some ⟨H, 0, none⟩), (colV 20 j c m a p fd tl cy)] w (HP w H A G C (s.act C 1 (partP C.a C.b C.c C.d 2 c) 0 0) (.tuple #[(colV 21 j c m a p fd tl cy), .int .i64 1])) := by
  have HC0 := Lib.hid (ColF.start hH ⟨20, j, c, m, a, p, fd, tl, cy⟩)
  have HSP : Hid (∀ W s' x', ColF w W H A G C s' x' → SpansAt W) := Lib.hid (fun W s' x' h => spans_sav hn hS hH h.sav)
  have HCa : Hid (∀ W, SpansAt W → Calls Tryz.prog 132 #[(.agg #[.int .i64 C.a, .int .i64 C.b, .int .i64 C.c, .int .i64 C.d]), .int .i64 c] W fun e w' => e = .returned (.int .i64 (partP C.a C.b C.c C.d 2 c)) ∧ Below W.heap.size W w') := Lib.hid (fun W hW => Colour_c C.a C.b C.c C.d c W hW)
  have HD : Hid (∀ W, HAt W H A G C s → Calls Tryz.prog 123 #[.pointer (some ⟨H, 0, none⟩), .int .i64 (partP C.a C.b C.c C.d 2 c)] W (HP W H A G C (s.act C 1 (partP C.a C.b C.c C.d 2 c) 0 0) (.int .u64 (z5 C.n 1 (partP C.a C.b C.c C.d 2 c) (s.f ((partP C.a C.b C.c C.d 2 c)).toNat))))) := Lib.hid (fun W hW => hLoad_c (w := W) hW hu (partP C.a C.b C.c C.d 2 c))
  generalize (s.act C 1 (partP C.a C.b C.c C.d 2 c) 0 0) = s' at *
  generalize (z5 C.n 1 (partP C.a C.b C.c C.d 2 c) (s.f ((partP C.a C.b C.c C.d 2 c)).toNat)) = T at *
  generalize (partP C.a C.b C.c C.d 2 c) = P at *
  subst h0
  clear hH hu hS  hn
  obtain ⟨a0, a1, a2, a3, a4, a5, a6, a7, a8, af⟩ := HC0.out.cells
  dsimp only at a0 a1 a2 a3 a4 a5 a6 a7 a8
  obtain ⟨_, ⟨h1, h2, h3, h4⟩, _⟩ := HC0.out.hand.cells
  go_enter Tryz.func135, Tryz.ntmps135
  go_wp2_with fail
  refine wp_region_held_drew (S := (fun w' => w'.cell? ⟨H, 1, none⟩ = some (.int .i64 C.a) ∧ w'.cell? ⟨H, 2, none⟩ = some (.int .i64 C.b) ∧ w'.cell? ⟨H, 3, none⟩ = some (.int .i64 C.c) ∧ w'.cell? ⟨H, 4, none⟩ = some (.int .i64 C.d) ∧ w'.cell? ⟨w.heap.size, 2, none⟩ = some (.int .i64 c))) (by kernel_rfl) ?_ (fun hHeld => ?_)
  · exact ⟨h1, h2, h3, h4, a2⟩
  refine tk 0 rfl hHeld ?_
  refine tk 1 rfl hHeld ?_
  refine tk 2 rfl hHeld ?_
  refine tk 3 rfl hHeld ?_
  refine tk 4 rfl hHeld ?_
  refine tk 5 rfl hHeld ?_
  refine tk 6 rfl hHeld ?_
  refine wpAnyH_ready (rs := [7]) (by kernel_rfl) (by simp) ?_
  refine AllReadyH.cons (o := _) rfl (fun K hK => ?_) AllReadyH.nil
  go_simp
  have HC1 := Lib.hid HC0.out.drew
  clear HC0
  refine (HCa.out _ (HSP.out _ _ _ HC1.out)).mono ?_
  rintro e V1 ⟨rfl, hb⟩
  have HC2 := Lib.hid (HC1.out.below hb)
  clear HC1
  clear hb
  clear hHeld HCa h1 h2 h3 h4 a0 a1 a2 a3 a4 a5 a6 a7 a8 af
  obtain ⟨a0, a1, a2, a3, a4, a5, a6, a7, a8, af⟩ := HC2.out.cells
  dsimp only at a0 a1 a2 a3 a4 a5 a6 a7 a8
  obtain ⟨_, ⟨h1, h2, h3, h4⟩, _⟩ := HC2.out.hand.cells
  refine hK.out _ _ ?_ (fun hHeld => ?_)
  · exact ⟨h1, h2, h3, h4, a2⟩
  clear hK K
  try simp only [Act.put, List.setIfInBounds_toArray, List.set_cons_zero, List.set_cons_succ]
  refine wpAnyH_ready (rs := [8]) (by kernel_rfl) (by simp) ?_
  refine AllReadyH.cons (o := _) rfl (fun K hK => ?_) AllReadyH.nil
  go_simp
  refine (HD.out _ HC2.out.hand).mono ?_
  rintro e V2 ⟨rfl, hF, hs⟩
  have HC3 := Lib.hid (HC2.out.handed hF hs)
  clear HC2 hF hs
  clear hHeld HD h1 h2 h3 h4 a0 a1 a2 a3 a4 a5 a6 a7 a8 af
  obtain ⟨a0, a1, a2, a3, a4, a5, a6, a7, a8, af⟩ := HC3.out.cells
  dsimp only at a0 a1 a2 a3 a4 a5 a6 a7 a8
  obtain ⟨_, ⟨h1, h2, h3, h4⟩, _⟩ := HC3.out.hand.cells
  refine hK.out _ _ ?_ (fun hHeld => ?_)
  · exact ⟨h1, h2, h3, h4, a2⟩
  clear hK K
  try simp only [Act.put, List.setIfInBounds_toArray, List.set_cons_zero, List.set_cons_succ]
  refine wpAnyH_done (by kernel_rfl) ?_ _
  clear hHeld h1 h2 h3 h4 a0 a1 a2 a3 a4 a5 a6 a7 a8 af
  have HCe := Lib.hid (HC3.out.setL 21)
  obtain ⟨b0, b1, b2, b3, b4, b5, b6, b7, b8, bf⟩ := HC3.out.cells
  dsimp only at b0 b1 b2 b3 b4 b5 b6 b7 b8
  obtain ⟨d0, d1, d2, d3, d4, d5, d6, d7, d8, df⟩ := HCe.out.cells
  dsimp only at d0 d1 d2 d3 d4 d5 d6 d7 d8
  obtain ⟨c0, c1, c2, c3, c4, c5, c6, c7, c8, cf⟩ := HCe.out.cellsY
  obtain ⟨s0, s1, s2, s3, s4, s5, s6, s7, s8, sf⟩ := (HCe.out.last ⟨21, j, c, m, a, p, fd, tl, cy⟩).cells
  dsimp only at s0 s1 s2 s3 s4 s5 s6 s7 s8
  clear HC3 
  go_wp2_with fail
  refine bodyPost_ret (v := .tuple #[(colV 21 j c m a p fd tl cy), .int .i64 1]) (by simp [results, Tryz.f135, go_sem, s0, s1, s2, s3, s4, s5, s6, s7, s8]) rfl ?_
  exact ⟨rfl, HCe.out.fin ⟨21, j, c, m, a, p, fd, tl, cy⟩⟩
set_option maxHeartbeats 3200000 in
theorem sd20_black {w : World} {H A G : Nat} {C : Cf} {s : Dy} (hH : HAt w H A G C s) (hu : s.U) (hS : SpansAt w) (_ : Right C.a C.b C.c C.d) (hn : 0 < C.n) (j c m a p : Int) (fd : Bool) (tl cy : Int) (T : Int) (hT : z5 C.n 1 (partP C.a C.b C.c C.d 2 c) (s.f (partP C.a C.b C.c C.d 2 c).toNat) = T) (h0 : T = 2) :
    Calls Tryz.prog 135 #[.pointer (some ⟨H, 0, none⟩), (colV 20 j c m a p fd tl cy)] w (HP w H A G C (s.act C 1 (partP C.a C.b C.c C.d 2 c) 0 0) (.tuple #[(colV 24 j c m a p fd tl cy), .int .i64 1])) := by
  have HC0 := Lib.hid (ColF.start hH ⟨20, j, c, m, a, p, fd, tl, cy⟩)
  have HSP : Hid (∀ W s' x', ColF w W H A G C s' x' → SpansAt W) := Lib.hid (fun W s' x' h => spans_sav hn hS hH h.sav)
  have HCa : Hid (∀ W, SpansAt W → Calls Tryz.prog 132 #[(.agg #[.int .i64 C.a, .int .i64 C.b, .int .i64 C.c, .int .i64 C.d]), .int .i64 c] W fun e w' => e = .returned (.int .i64 (partP C.a C.b C.c C.d 2 c)) ∧ Below W.heap.size W w') := Lib.hid (fun W hW => Colour_c C.a C.b C.c C.d c W hW)
  have HD : Hid (∀ W, HAt W H A G C s → Calls Tryz.prog 123 #[.pointer (some ⟨H, 0, none⟩), .int .i64 (partP C.a C.b C.c C.d 2 c)] W (HP W H A G C (s.act C 1 (partP C.a C.b C.c C.d 2 c) 0 0) (.int .u64 (z5 C.n 1 (partP C.a C.b C.c C.d 2 c) (s.f ((partP C.a C.b C.c C.d 2 c)).toNat))))) := Lib.hid (fun W hW => hLoad_c (w := W) hW hu (partP C.a C.b C.c C.d 2 c))
  generalize (s.act C 1 (partP C.a C.b C.c C.d 2 c) 0 0) = s' at *
  generalize (z5 C.n 1 (partP C.a C.b C.c C.d 2 c) (s.f ((partP C.a C.b C.c C.d 2 c)).toNat)) = T at *
  generalize (partP C.a C.b C.c C.d 2 c) = P at *
  subst h0
  have e0 : ((2 : Int) == 0) = false := rfl
  clear hH hu hS  hn
  obtain ⟨a0, a1, a2, a3, a4, a5, a6, a7, a8, af⟩ := HC0.out.cells
  dsimp only at a0 a1 a2 a3 a4 a5 a6 a7 a8
  obtain ⟨_, ⟨h1, h2, h3, h4⟩, _⟩ := HC0.out.hand.cells
  go_enter Tryz.func135, Tryz.ntmps135
  go_wp2_with fail
  refine wp_region_held_drew (S := (fun w' => w'.cell? ⟨H, 1, none⟩ = some (.int .i64 C.a) ∧ w'.cell? ⟨H, 2, none⟩ = some (.int .i64 C.b) ∧ w'.cell? ⟨H, 3, none⟩ = some (.int .i64 C.c) ∧ w'.cell? ⟨H, 4, none⟩ = some (.int .i64 C.d) ∧ w'.cell? ⟨w.heap.size, 2, none⟩ = some (.int .i64 c))) (by kernel_rfl) ?_ (fun hHeld => ?_)
  · exact ⟨h1, h2, h3, h4, a2⟩
  refine tk 0 rfl hHeld ?_
  refine tk 1 rfl hHeld ?_
  refine tk 2 rfl hHeld ?_
  refine tk 3 rfl hHeld ?_
  refine tk 4 rfl hHeld ?_
  refine tk 5 rfl hHeld ?_
  refine tk 6 rfl hHeld ?_
  refine wpAnyH_ready (rs := [7]) (by kernel_rfl) (by simp) ?_
  refine AllReadyH.cons (o := _) rfl (fun K hK => ?_) AllReadyH.nil
  go_simp
  have HC1 := Lib.hid HC0.out.drew
  clear HC0
  refine (HCa.out _ (HSP.out _ _ _ HC1.out)).mono ?_
  rintro e V1 ⟨rfl, hb⟩
  have HC2 := Lib.hid (HC1.out.below hb)
  clear HC1
  clear hb
  clear hHeld HCa h1 h2 h3 h4 a0 a1 a2 a3 a4 a5 a6 a7 a8 af
  obtain ⟨a0, a1, a2, a3, a4, a5, a6, a7, a8, af⟩ := HC2.out.cells
  dsimp only at a0 a1 a2 a3 a4 a5 a6 a7 a8
  obtain ⟨_, ⟨h1, h2, h3, h4⟩, _⟩ := HC2.out.hand.cells
  refine hK.out _ _ ?_ (fun hHeld => ?_)
  · exact ⟨h1, h2, h3, h4, a2⟩
  clear hK K
  try simp only [Act.put, List.setIfInBounds_toArray, List.set_cons_zero, List.set_cons_succ]
  refine wpAnyH_ready (rs := [8]) (by kernel_rfl) (by simp) ?_
  refine AllReadyH.cons (o := _) rfl (fun K hK => ?_) AllReadyH.nil
  go_simp
  refine (HD.out _ HC2.out.hand).mono ?_
  rintro e V2 ⟨rfl, hF, hs⟩
  have HC3 := Lib.hid (HC2.out.handed hF hs)
  clear HC2 hF hs
  clear hHeld HD h1 h2 h3 h4 a0 a1 a2 a3 a4 a5 a6 a7 a8 af
  obtain ⟨a0, a1, a2, a3, a4, a5, a6, a7, a8, af⟩ := HC3.out.cells
  dsimp only at a0 a1 a2 a3 a4 a5 a6 a7 a8
  obtain ⟨_, ⟨h1, h2, h3, h4⟩, _⟩ := HC3.out.hand.cells
  refine hK.out _ _ ?_ (fun hHeld => ?_)
  · exact ⟨h1, h2, h3, h4, a2⟩
  clear hK K
  try simp only [Act.put, List.setIfInBounds_toArray, List.set_cons_zero, List.set_cons_succ]
  refine wpAnyH_done (by kernel_rfl) ?_ _
  clear hHeld h1 h2 h3 h4 a0 a1 a2 a3 a4 a5 a6 a7 a8 af
  have HCe := Lib.hid (HC3.out.setL 24)
  obtain ⟨b0, b1, b2, b3, b4, b5, b6, b7, b8, bf⟩ := HC3.out.cells
  dsimp only at b0 b1 b2 b3 b4 b5 b6 b7 b8
  obtain ⟨d0, d1, d2, d3, d4, d5, d6, d7, d8, df⟩ := HCe.out.cells
  dsimp only at d0 d1 d2 d3 d4 d5 d6 d7 d8
  obtain ⟨c0, c1, c2, c3, c4, c5, c6, c7, c8, cf⟩ := HCe.out.cellsY
  obtain ⟨s0, s1, s2, s3, s4, s5, s6, s7, s8, sf⟩ := (HCe.out.last ⟨24, j, c, m, a, p, fd, tl, cy⟩).cells
  dsimp only at s0 s1 s2 s3 s4 s5 s6 s7 s8
  clear HC3 
  go_wp2_with fail
  refine bodyPost_ret (v := .tuple #[(colV 24 j c m a p fd tl cy), .int .i64 1]) (by simp [results, Tryz.f135, go_sem, s0, s1, s2, s3, s4, s5, s6, s7, s8]) rfl ?_
  exact ⟨rfl, HCe.out.fin ⟨24, j, c, m, a, p, fd, tl, cy⟩⟩
set_option maxHeartbeats 3200000 in
theorem sd20_else {w : World} {H A G : Nat} {C : Cf} {s : Dy} (hH : HAt w H A G C s) (hu : s.U) (hS : SpansAt w) (_ : Right C.a C.b C.c C.d) (hn : 0 < C.n) (j c m a p : Int) (fd : Bool) (tl cy : Int) (T : Int) (hT : z5 C.n 1 (partP C.a C.b C.c C.d 2 c) (s.f (partP C.a C.b C.c C.d 2 c).toNat) = T) (h0 : ¬ T = 0) (h2 : ¬ T = 2) :
    Calls Tryz.prog 135 #[.pointer (some ⟨H, 0, none⟩), (colV 20 j c m a p fd tl cy)] w (HP w H A G C (s.act C 1 (partP C.a C.b C.c C.d 2 c) 0 0) (.tuple #[(colV 20 j c m a p fd tl cy), .int .i64 2])) := by
  have HC0 := Lib.hid (ColF.start hH ⟨20, j, c, m, a, p, fd, tl, cy⟩)
  have HSP : Hid (∀ W s' x', ColF w W H A G C s' x' → SpansAt W) := Lib.hid (fun W s' x' h => spans_sav hn hS hH h.sav)
  have HCa : Hid (∀ W, SpansAt W → Calls Tryz.prog 132 #[(.agg #[.int .i64 C.a, .int .i64 C.b, .int .i64 C.c, .int .i64 C.d]), .int .i64 c] W fun e w' => e = .returned (.int .i64 (partP C.a C.b C.c C.d 2 c)) ∧ Below W.heap.size W w') := Lib.hid (fun W hW => Colour_c C.a C.b C.c C.d c W hW)
  have HD : Hid (∀ W, HAt W H A G C s → Calls Tryz.prog 123 #[.pointer (some ⟨H, 0, none⟩), .int .i64 (partP C.a C.b C.c C.d 2 c)] W (HP W H A G C (s.act C 1 (partP C.a C.b C.c C.d 2 c) 0 0) (.int .u64 (z5 C.n 1 (partP C.a C.b C.c C.d 2 c) (s.f ((partP C.a C.b C.c C.d 2 c)).toNat))))) := Lib.hid (fun W hW => hLoad_c (w := W) hW hu (partP C.a C.b C.c C.d 2 c))
  generalize (s.act C 1 (partP C.a C.b C.c C.d 2 c) 0 0) = s' at *
  generalize (z5 C.n 1 (partP C.a C.b C.c C.d 2 c) (s.f ((partP C.a C.b C.c C.d 2 c)).toNat)) = T at *
  generalize (partP C.a C.b C.c C.d 2 c) = P at *
  subst hT
  have e0 : (T == 0) = false := by simpa using h0
  have e2 : (T == 2) = false := by simpa using h2
  clear h0 h2
  clear hH hu hS  hn
  obtain ⟨a0, a1, a2, a3, a4, a5, a6, a7, a8, af⟩ := HC0.out.cells
  dsimp only at a0 a1 a2 a3 a4 a5 a6 a7 a8
  obtain ⟨_, ⟨h1, h2, h3, h4⟩, _⟩ := HC0.out.hand.cells
  go_enter Tryz.func135, Tryz.ntmps135
  go_wp2_with fail
  refine wp_region_held_drew (S := (fun w' => w'.cell? ⟨H, 1, none⟩ = some (.int .i64 C.a) ∧ w'.cell? ⟨H, 2, none⟩ = some (.int .i64 C.b) ∧ w'.cell? ⟨H, 3, none⟩ = some (.int .i64 C.c) ∧ w'.cell? ⟨H, 4, none⟩ = some (.int .i64 C.d) ∧ w'.cell? ⟨w.heap.size, 2, none⟩ = some (.int .i64 c))) (by kernel_rfl) ?_ (fun hHeld => ?_)
  · exact ⟨h1, h2, h3, h4, a2⟩
  refine tk 0 rfl hHeld ?_
  refine tk 1 rfl hHeld ?_
  refine tk 2 rfl hHeld ?_
  refine tk 3 rfl hHeld ?_
  refine tk 4 rfl hHeld ?_
  refine tk 5 rfl hHeld ?_
  refine tk 6 rfl hHeld ?_
  refine wpAnyH_ready (rs := [7]) (by kernel_rfl) (by simp) ?_
  refine AllReadyH.cons (o := _) rfl (fun K hK => ?_) AllReadyH.nil
  go_simp
  have HC1 := Lib.hid HC0.out.drew
  clear HC0
  refine (HCa.out _ (HSP.out _ _ _ HC1.out)).mono ?_
  rintro e V1 ⟨rfl, hb⟩
  have HC2 := Lib.hid (HC1.out.below hb)
  clear HC1
  clear hb
  clear hHeld HCa h1 h2 h3 h4 a0 a1 a2 a3 a4 a5 a6 a7 a8 af
  obtain ⟨a0, a1, a2, a3, a4, a5, a6, a7, a8, af⟩ := HC2.out.cells
  dsimp only at a0 a1 a2 a3 a4 a5 a6 a7 a8
  obtain ⟨_, ⟨h1, h2, h3, h4⟩, _⟩ := HC2.out.hand.cells
  refine hK.out _ _ ?_ (fun hHeld => ?_)
  · exact ⟨h1, h2, h3, h4, a2⟩
  clear hK K
  try simp only [Act.put, List.setIfInBounds_toArray, List.set_cons_zero, List.set_cons_succ]
  refine wpAnyH_ready (rs := [8]) (by kernel_rfl) (by simp) ?_
  refine AllReadyH.cons (o := _) rfl (fun K hK => ?_) AllReadyH.nil
  go_simp
  refine (HD.out _ HC2.out.hand).mono ?_
  rintro e V2 ⟨rfl, hF, hs⟩
  have HC3 := Lib.hid (HC2.out.handed hF hs)
  clear HC2 hF hs
  clear hHeld HD h1 h2 h3 h4 a0 a1 a2 a3 a4 a5 a6 a7 a8 af
  obtain ⟨a0, a1, a2, a3, a4, a5, a6, a7, a8, af⟩ := HC3.out.cells
  dsimp only at a0 a1 a2 a3 a4 a5 a6 a7 a8
  obtain ⟨_, ⟨h1, h2, h3, h4⟩, _⟩ := HC3.out.hand.cells
  refine hK.out _ _ ?_ (fun hHeld => ?_)
  · exact ⟨h1, h2, h3, h4, a2⟩
  clear hK K
  try simp only [Act.put, List.setIfInBounds_toArray, List.set_cons_zero, List.set_cons_succ]
  refine wpAnyH_done (by kernel_rfl) ?_ _
  clear hHeld h1 h2 h3 h4 a0 a1 a2 a3 a4 a5 a6 a7 a8 af
  have HCe := Lib.hid HC3.out
  obtain ⟨d0, d1, d2, d3, d4, d5, d6, d7, d8, df⟩ := HCe.out.cells
  dsimp only at d0 d1 d2 d3 d4 d5 d6 d7 d8
  obtain ⟨c0, c1, c2, c3, c4, c5, c6, c7, c8, cf⟩ := HCe.out.cellsY
  obtain ⟨s0, s1, s2, s3, s4, s5, s6, s7, s8, sf⟩ := (HCe.out.last ⟨20, j, c, m, a, p, fd, tl, cy⟩).cells
  dsimp only at s0 s1 s2 s3 s4 s5 s6 s7 s8
  clear HC3 
  go_wp2_with fail
  refine bodyPost_ret (v := .tuple #[(colV 20 j c m a p fd tl cy), .int .i64 2]) (by simp [results, Tryz.f135, go_sem, s0, s1, s2, s3, s4, s5, s6, s7, s8]) rfl ?_
  exact ⟨rfl, HCe.out.fin ⟨20, j, c, m, a, p, fd, tl, cy⟩⟩
set_option maxHeartbeats 3200000 in
theorem sd21 {w : World} {H A G : Nat} {C : Cf} {s : Dy} (hH : HAt w H A G C s) (hu : s.U) (hS : SpansAt w) (_ : Right C.a C.b C.c C.d) (hn : 0 < C.n) (j c m a p : Int) (fd : Bool) (tl cy : Int) :
    Calls Tryz.prog 135 #[.pointer (some ⟨H, 0, none⟩), (colV 21 j c m a p fd tl cy)] w (HP w H A G C (s.act C 2 (partP C.a C.b C.c C.d 0 c) 0 0) (.tuple #[(colV 22 j c m a p fd tl cy), .int .i64 1])) := by
  have HC0 := Lib.hid (ColF.start hH ⟨21, j, c, m, a, p, fd, tl, cy⟩)
  have HSP : Hid (∀ W s' x', ColF w W H A G C s' x' → SpansAt W) := Lib.hid (fun W s' x' h => spans_sav hn hS hH h.sav)
  have HCa : Hid (∀ W, SpansAt W → Calls Tryz.prog 131 #[(.agg #[.int .i64 C.a, .int .i64 C.b, .int .i64 C.c, .int .i64 C.d]), .int .i64 c] W fun e w' => e = .returned (.int .i64 (partP C.a C.b C.c C.d 0 c)) ∧ Below W.heap.size W w') := Lib.hid (fun W hW => Car_c C.a C.b C.c C.d c W hW)
  have HD : Hid (∀ W, HAt W H A G C s → Calls Tryz.prog 129 #[.pointer (some ⟨H, 0, none⟩), .int .i64 (partP C.a C.b C.c C.d 0 c), .int .u64 0] W (HP W H A G C (s.act C 2 (partP C.a C.b C.c C.d 0 c) 0 0) (.tuple #[]))) := Lib.hid (fun W hW => hStore_c (w := W) hW hu (partP C.a C.b C.c C.d 0 c) 0)
  generalize (s.act C 2 (partP C.a C.b C.c C.d 0 c) 0 0) = s' at *
  generalize (partP C.a C.b C.c C.d 0 c) = P at *
  clear hH hu hS  hn
  obtain ⟨a0, a1, a2, a3, a4, a5, a6, a7, a8, af⟩ := HC0.out.cells
  dsimp only at a0 a1 a2 a3 a4 a5 a6 a7 a8
  obtain ⟨_, ⟨h1, h2, h3, h4⟩, _⟩ := HC0.out.hand.cells
  go_enter Tryz.func135, Tryz.ntmps135
  go_wp2_with fail
  refine wp_region_held_drew (S := (fun w' => w'.cell? ⟨H, 1, none⟩ = some (.int .i64 C.a) ∧ w'.cell? ⟨H, 2, none⟩ = some (.int .i64 C.b) ∧ w'.cell? ⟨H, 3, none⟩ = some (.int .i64 C.c) ∧ w'.cell? ⟨H, 4, none⟩ = some (.int .i64 C.d) ∧ w'.cell? ⟨w.heap.size, 2, none⟩ = some (.int .i64 c))) (by kernel_rfl) ?_ (fun hHeld => ?_)
  · exact ⟨h1, h2, h3, h4, a2⟩
  refine tk 0 rfl hHeld ?_
  refine tk 1 rfl hHeld ?_
  refine tk 2 rfl hHeld ?_
  refine tk 3 rfl hHeld ?_
  refine tk 4 rfl hHeld ?_
  refine tk 5 rfl hHeld ?_
  refine tk 6 rfl hHeld ?_
  refine wpAnyH_ready (rs := [7]) (by kernel_rfl) (by simp) ?_
  refine AllReadyH.cons (o := _) rfl (fun K hK => ?_) AllReadyH.nil
  go_simp
  have HC1 := Lib.hid HC0.out.drew
  clear HC0
  refine (HCa.out _ (HSP.out _ _ _ HC1.out)).mono ?_
  rintro e V1 ⟨rfl, hb⟩
  have HC2 := Lib.hid (HC1.out.below hb)
  clear HC1
  clear hb
  clear hHeld HCa h1 h2 h3 h4 a0 a1 a2 a3 a4 a5 a6 a7 a8 af
  obtain ⟨a0, a1, a2, a3, a4, a5, a6, a7, a8, af⟩ := HC2.out.cells
  dsimp only at a0 a1 a2 a3 a4 a5 a6 a7 a8
  obtain ⟨_, ⟨h1, h2, h3, h4⟩, _⟩ := HC2.out.hand.cells
  refine hK.out _ _ ?_ (fun hHeld => ?_)
  · exact ⟨h1, h2, h3, h4, a2⟩
  clear hK K
  try simp only [Act.put, List.setIfInBounds_toArray, List.set_cons_zero, List.set_cons_succ]
  refine wpAnyH_ready (rs := [8]) (by kernel_rfl) (by simp) ?_
  refine AllReadyH.cons (o := _) rfl (fun K hK => ?_) AllReadyH.nil
  go_simp
  refine (HD.out _ HC2.out.hand).mono ?_
  rintro e V2 ⟨rfl, hF, hs⟩
  have HC3 := Lib.hid (HC2.out.handed hF hs)
  clear HC2 hF hs
  clear hHeld HD h1 h2 h3 h4 a0 a1 a2 a3 a4 a5 a6 a7 a8 af
  obtain ⟨a0, a1, a2, a3, a4, a5, a6, a7, a8, af⟩ := HC3.out.cells
  dsimp only at a0 a1 a2 a3 a4 a5 a6 a7 a8
  obtain ⟨_, ⟨h1, h2, h3, h4⟩, _⟩ := HC3.out.hand.cells
  refine hK.out _ _ ?_ (fun hHeld => ?_)
  · exact ⟨h1, h2, h3, h4, a2⟩
  clear hK K
  try simp only [Act.put, List.setIfInBounds_toArray, List.set_cons_zero, List.set_cons_succ]
  refine wpAnyH_done (by kernel_rfl) ?_ _
  clear hHeld h1 h2 h3 h4 a0 a1 a2 a3 a4 a5 a6 a7 a8 af
  have HCe := Lib.hid (HC3.out.setL 22)
  obtain ⟨b0, b1, b2, b3, b4, b5, b6, b7, b8, bf⟩ := HC3.out.cells
  dsimp only at b0 b1 b2 b3 b4 b5 b6 b7 b8
  obtain ⟨d0, d1, d2, d3, d4, d5, d6, d7, d8, df⟩ := HCe.out.cells
  dsimp only at d0 d1 d2 d3 d4 d5 d6 d7 d8
  obtain ⟨c0, c1, c2, c3, c4, c5, c6, c7, c8, cf⟩ := HCe.out.cellsY
  obtain ⟨s0, s1, s2, s3, s4, s5, s6, s7, s8, sf⟩ := (HCe.out.last ⟨22, j, c, m, a, p, fd, tl, cy⟩).cells
  dsimp only at s0 s1 s2 s3 s4 s5 s6 s7 s8
  clear HC3 
  go_wp2_with fail
  refine bodyPost_ret (v := .tuple #[(colV 22 j c m a p fd tl cy), .int .i64 1]) (by simp [results, Tryz.f135, go_sem, s0, s1, s2, s3, s4, s5, s6, s7, s8]) rfl ?_
  exact ⟨rfl, HCe.out.fin ⟨22, j, c, m, a, p, fd, tl, cy⟩⟩
set_option maxHeartbeats 3200000 in
theorem sd22 {w : World} {H A G : Nat} {C : Cf} {s : Dy} (hH : HAt w H A G C s) (hu : s.U) (hS : SpansAt w) (_ : Right C.a C.b C.c C.d) (hn : 0 < C.n) (j c m a p : Int) (fd : Bool) (tl cy : Int) :
    Calls Tryz.prog 135 #[.pointer (some ⟨H, 0, none⟩), (colV 22 j c m a p fd tl cy)] w (HP w H A G C (s.act C 2 (partP C.a C.b C.c C.d 1 c) 0 0) (.tuple #[(colV 23 j c m a p fd tl cy), .int .i64 1])) := by
  have HC0 := Lib.hid (ColF.start hH ⟨22, j, c, m, a, p, fd, tl, cy⟩)
  have HSP : Hid (∀ W s' x', ColF w W H A G C s' x' → SpansAt W) := Lib.hid (fun W s' x' h => spans_sav hn hS hH h.sav)
  have HCa : Hid (∀ W, SpansAt W → Calls Tryz.prog 77 #[(.agg #[.int .i64 C.a, .int .i64 C.b, .int .i64 C.c, .int .i64 C.d]), .int .i64 c] W fun e w' => e = .returned (.int .i64 (partP C.a C.b C.c C.d 1 c)) ∧ Below W.heap.size W w') := Lib.hid (fun W hW => Cdr_c C.a C.b C.c C.d c W hW)
  have HD : Hid (∀ W, HAt W H A G C s → Calls Tryz.prog 129 #[.pointer (some ⟨H, 0, none⟩), .int .i64 (partP C.a C.b C.c C.d 1 c), .int .u64 0] W (HP W H A G C (s.act C 2 (partP C.a C.b C.c C.d 1 c) 0 0) (.tuple #[]))) := Lib.hid (fun W hW => hStore_c (w := W) hW hu (partP C.a C.b C.c C.d 1 c) 0)
  generalize (s.act C 2 (partP C.a C.b C.c C.d 1 c) 0 0) = s' at *
  generalize (partP C.a C.b C.c C.d 1 c) = P at *
  clear hH hu hS  hn
  obtain ⟨a0, a1, a2, a3, a4, a5, a6, a7, a8, af⟩ := HC0.out.cells
  dsimp only at a0 a1 a2 a3 a4 a5 a6 a7 a8
  obtain ⟨_, ⟨h1, h2, h3, h4⟩, _⟩ := HC0.out.hand.cells
  go_enter Tryz.func135, Tryz.ntmps135
  go_wp2_with fail
  refine wp_region_held_drew (S := (fun w' => w'.cell? ⟨H, 1, none⟩ = some (.int .i64 C.a) ∧ w'.cell? ⟨H, 2, none⟩ = some (.int .i64 C.b) ∧ w'.cell? ⟨H, 3, none⟩ = some (.int .i64 C.c) ∧ w'.cell? ⟨H, 4, none⟩ = some (.int .i64 C.d) ∧ w'.cell? ⟨w.heap.size, 2, none⟩ = some (.int .i64 c))) (by kernel_rfl) ?_ (fun hHeld => ?_)
  · exact ⟨h1, h2, h3, h4, a2⟩
  refine tk 0 rfl hHeld ?_
  refine tk 1 rfl hHeld ?_
  refine tk 2 rfl hHeld ?_
  refine tk 3 rfl hHeld ?_
  refine tk 4 rfl hHeld ?_
  refine tk 5 rfl hHeld ?_
  refine tk 6 rfl hHeld ?_
  refine wpAnyH_ready (rs := [7]) (by kernel_rfl) (by simp) ?_
  refine AllReadyH.cons (o := _) rfl (fun K hK => ?_) AllReadyH.nil
  go_simp
  have HC1 := Lib.hid HC0.out.drew
  clear HC0
  refine (HCa.out _ (HSP.out _ _ _ HC1.out)).mono ?_
  rintro e V1 ⟨rfl, hb⟩
  have HC2 := Lib.hid (HC1.out.below hb)
  clear HC1
  clear hb
  clear hHeld HCa h1 h2 h3 h4 a0 a1 a2 a3 a4 a5 a6 a7 a8 af
  obtain ⟨a0, a1, a2, a3, a4, a5, a6, a7, a8, af⟩ := HC2.out.cells
  dsimp only at a0 a1 a2 a3 a4 a5 a6 a7 a8
  obtain ⟨_, ⟨h1, h2, h3, h4⟩, _⟩ := HC2.out.hand.cells
  refine hK.out _ _ ?_ (fun hHeld => ?_)
  · exact ⟨h1, h2, h3, h4, a2⟩
  clear hK K
  try simp only [Act.put, List.setIfInBounds_toArray, List.set_cons_zero, List.set_cons_succ]
  refine wpAnyH_ready (rs := [8]) (by kernel_rfl) (by simp) ?_
  refine AllReadyH.cons (o := _) rfl (fun K hK => ?_) AllReadyH.nil
  go_simp
  refine (HD.out _ HC2.out.hand).mono ?_
  rintro e V2 ⟨rfl, hF, hs⟩
  have HC3 := Lib.hid (HC2.out.handed hF hs)
  clear HC2 hF hs
  clear hHeld HD h1 h2 h3 h4 a0 a1 a2 a3 a4 a5 a6 a7 a8 af
  obtain ⟨a0, a1, a2, a3, a4, a5, a6, a7, a8, af⟩ := HC3.out.cells
  dsimp only at a0 a1 a2 a3 a4 a5 a6 a7 a8
  obtain ⟨_, ⟨h1, h2, h3, h4⟩, _⟩ := HC3.out.hand.cells
  refine hK.out _ _ ?_ (fun hHeld => ?_)
  · exact ⟨h1, h2, h3, h4, a2⟩
  clear hK K
  try simp only [Act.put, List.setIfInBounds_toArray, List.set_cons_zero, List.set_cons_succ]
  refine wpAnyH_done (by kernel_rfl) ?_ _
  clear hHeld h1 h2 h3 h4 a0 a1 a2 a3 a4 a5 a6 a7 a8 af
  have HCe := Lib.hid (HC3.out.setL 23)
  obtain ⟨b0, b1, b2, b3, b4, b5, b6, b7, b8, bf⟩ := HC3.out.cells
  dsimp only at b0 b1 b2 b3 b4 b5 b6 b7 b8
  obtain ⟨d0, d1, d2, d3, d4, d5, d6, d7, d8, df⟩ := HCe.out.cells
  dsimp only at d0 d1 d2 d3 d4 d5 d6 d7 d8
  obtain ⟨c0, c1, c2, c3, c4, c5, c6, c7, c8, cf⟩ := HCe.out.cellsY
  obtain ⟨s0, s1, s2, s3, s4, s5, s6, s7, s8, sf⟩ := (HCe.out.last ⟨23, j, c, m, a, p, fd, tl, cy⟩).cells
  dsimp only at s0 s1 s2 s3 s4 s5 s6 s7 s8
  clear HC3 
  go_wp2_with fail
  refine bodyPost_ret (v := .tuple #[(colV 23 j c m a p fd tl cy), .int .i64 1]) (by simp [results, Tryz.f135, go_sem, s0, s1, s2, s3, s4, s5, s6, s7, s8]) rfl ?_
  exact ⟨rfl, HCe.out.fin ⟨23, j, c, m, a, p, fd, tl, cy⟩⟩
set_option maxHeartbeats 3200000 in
theorem sd24 {w : World} {H A G : Nat} {C : Cf} {s : Dy} (hH : HAt w H A G C s) (hu : s.U) (hS : SpansAt w) (_ : Right C.a C.b C.c C.d) (hn : 0 < C.n) (j c m a p : Int) (fd : Bool) (tl cy : Int) :
    Calls Tryz.prog 135 #[.pointer (some ⟨H, 0, none⟩), (colV 24 j c m a p fd tl cy)] w (HP w H A G C (s.act C 2 (partP C.a C.b C.c C.d 2 c) 0 0) (.tuple #[(colV 24 j c m a p fd tl cy), .int .i64 2])) := by
  have HC0 := Lib.hid (ColF.start hH ⟨24, j, c, m, a, p, fd, tl, cy⟩)
  have HSP : Hid (∀ W s' x', ColF w W H A G C s' x' → SpansAt W) := Lib.hid (fun W s' x' h => spans_sav hn hS hH h.sav)
  have HCa : Hid (∀ W, SpansAt W → Calls Tryz.prog 132 #[(.agg #[.int .i64 C.a, .int .i64 C.b, .int .i64 C.c, .int .i64 C.d]), .int .i64 c] W fun e w' => e = .returned (.int .i64 (partP C.a C.b C.c C.d 2 c)) ∧ Below W.heap.size W w') := Lib.hid (fun W hW => Colour_c C.a C.b C.c C.d c W hW)
  have HD : Hid (∀ W, HAt W H A G C s → Calls Tryz.prog 129 #[.pointer (some ⟨H, 0, none⟩), .int .i64 (partP C.a C.b C.c C.d 2 c), .int .u64 0] W (HP W H A G C (s.act C 2 (partP C.a C.b C.c C.d 2 c) 0 0) (.tuple #[]))) := Lib.hid (fun W hW => hStore_c (w := W) hW hu (partP C.a C.b C.c C.d 2 c) 0)
  generalize (s.act C 2 (partP C.a C.b C.c C.d 2 c) 0 0) = s' at *
  generalize (partP C.a C.b C.c C.d 2 c) = P at *
  clear hH hu hS  hn
  obtain ⟨a0, a1, a2, a3, a4, a5, a6, a7, a8, af⟩ := HC0.out.cells
  dsimp only at a0 a1 a2 a3 a4 a5 a6 a7 a8
  obtain ⟨_, ⟨h1, h2, h3, h4⟩, _⟩ := HC0.out.hand.cells
  go_enter Tryz.func135, Tryz.ntmps135
  go_wp2_with fail
  refine wp_region_held_drew (S := (fun w' => w'.cell? ⟨H, 1, none⟩ = some (.int .i64 C.a) ∧ w'.cell? ⟨H, 2, none⟩ = some (.int .i64 C.b) ∧ w'.cell? ⟨H, 3, none⟩ = some (.int .i64 C.c) ∧ w'.cell? ⟨H, 4, none⟩ = some (.int .i64 C.d) ∧ w'.cell? ⟨w.heap.size, 2, none⟩ = some (.int .i64 c))) (by kernel_rfl) ?_ (fun hHeld => ?_)
  · exact ⟨h1, h2, h3, h4, a2⟩
  refine tk 0 rfl hHeld ?_
  refine tk 1 rfl hHeld ?_
  refine tk 2 rfl hHeld ?_
  refine tk 3 rfl hHeld ?_
  refine tk 4 rfl hHeld ?_
  refine tk 5 rfl hHeld ?_
  refine tk 6 rfl hHeld ?_
  refine wpAnyH_ready (rs := [7]) (by kernel_rfl) (by simp) ?_
  refine AllReadyH.cons (o := _) rfl (fun K hK => ?_) AllReadyH.nil
  go_simp
  have HC1 := Lib.hid HC0.out.drew
  clear HC0
  refine (HCa.out _ (HSP.out _ _ _ HC1.out)).mono ?_
  rintro e V1 ⟨rfl, hb⟩
  have HC2 := Lib.hid (HC1.out.below hb)
  clear HC1
  clear hb
  clear hHeld HCa h1 h2 h3 h4 a0 a1 a2 a3 a4 a5 a6 a7 a8 af
  obtain ⟨a0, a1, a2, a3, a4, a5, a6, a7, a8, af⟩ := HC2.out.cells
  dsimp only at a0 a1 a2 a3 a4 a5 a6 a7 a8
  obtain ⟨_, ⟨h1, h2, h3, h4⟩, _⟩ := HC2.out.hand.cells
  refine hK.out _ _ ?_ (fun hHeld => ?_)
  · exact ⟨h1, h2, h3, h4, a2⟩
  clear hK K
  try simp only [Act.put, List.setIfInBounds_toArray, List.set_cons_zero, List.set_cons_succ]
  refine wpAnyH_ready (rs := [8]) (by kernel_rfl) (by simp) ?_
  refine AllReadyH.cons (o := _) rfl (fun K hK => ?_) AllReadyH.nil
  go_simp
  refine (HD.out _ HC2.out.hand).mono ?_
  rintro e V2 ⟨rfl, hF, hs⟩
  have HC3 := Lib.hid (HC2.out.handed hF hs)
  clear HC2 hF hs
  clear hHeld HD h1 h2 h3 h4 a0 a1 a2 a3 a4 a5 a6 a7 a8 af
  obtain ⟨a0, a1, a2, a3, a4, a5, a6, a7, a8, af⟩ := HC3.out.cells
  dsimp only at a0 a1 a2 a3 a4 a5 a6 a7 a8
  obtain ⟨_, ⟨h1, h2, h3, h4⟩, _⟩ := HC3.out.hand.cells
  refine hK.out _ _ ?_ (fun hHeld => ?_)
  · exact ⟨h1, h2, h3, h4, a2⟩
  clear hK K
  try simp only [Act.put, List.setIfInBounds_toArray, List.set_cons_zero, List.set_cons_succ]
  refine wpAnyH_done (by kernel_rfl) ?_ _
  clear hHeld h1 h2 h3 h4 a0 a1 a2 a3 a4 a5 a6 a7 a8 af
  have HCe := Lib.hid HC3.out
  obtain ⟨d0, d1, d2, d3, d4, d5, d6, d7, d8, df⟩ := HCe.out.cells
  dsimp only at d0 d1 d2 d3 d4 d5 d6 d7 d8
  obtain ⟨c0, c1, c2, c3, c4, c5, c6, c7, c8, cf⟩ := HCe.out.cellsY
  obtain ⟨s0, s1, s2, s3, s4, s5, s6, s7, s8, sf⟩ := (HCe.out.last ⟨24, j, c, m, a, p, fd, tl, cy⟩).cells
  dsimp only at s0 s1 s2 s3 s4 s5 s6 s7 s8
  clear HC3 
  go_wp2_with fail
  refine bodyPost_ret (v := .tuple #[(colV 24 j c m a p fd tl cy), .int .i64 2]) (by simp [results, Tryz.f135, go_sem, s0, s1, s2, s3, s4, s5, s6, s7, s8]) rfl ?_
  exact ⟨rfl, HCe.out.fin ⟨24, j, c, m, a, p, fd, tl, cy⟩⟩
set_option maxHeartbeats 3200000 in
theorem sd23 {w : World} {H A G : Nat} {C : Cf} {s : Dy} (hH : HAt w H A G C s) (hu : s.U) (hS : SpansAt w) (_ : Right C.a C.b C.c C.d) (hn : 0 < C.n) (j c m a p : Int) (fd : Bool) (tl cy : Int) :
    Calls Tryz.prog 135 #[.pointer (some ⟨H, 0, none⟩), (colV 23 j c m a p fd tl cy)] w (HP w H A G C (s.act C 2 (partP C.a C.b C.c C.d 1 tl) (cellW c) 0) (.tuple #[(colV 23 j c m a p fd c cy), .int .i64 3])) := by
  have HC0 := Lib.hid (ColF.start hH ⟨23, j, c, m, a, p, fd, tl, cy⟩)
  have HSP : Hid (∀ W s' x', ColF w W H A G C s' x' → SpansAt W) := Lib.hid (fun W s' x' h => spans_sav hn hS hH h.sav)
  have HCa : Hid (∀ W, SpansAt W → Calls Tryz.prog 77 #[(.agg #[.int .i64 C.a, .int .i64 C.b, .int .i64 C.c, .int .i64 C.d]), .int .i64 tl] W fun e w' => e = .returned (.int .i64 (partP C.a C.b C.c C.d 1 tl)) ∧ Below W.heap.size W w') := Lib.hid (fun W hW => Cdr_c C.a C.b C.c C.d tl W hW)
  have HCl : Hid (∀ W, Calls Tryz.prog 76 #[.int .i64 c] W fun e w' => e = .returned (.int .u64 (cellW c)) ∧ W = w') := Lib.hid (fun W => pCellW_c c W)
  have HD : Hid (∀ W, HAt W H A G C s → Calls Tryz.prog 129 #[.pointer (some ⟨H, 0, none⟩), .int .i64 (partP C.a C.b C.c C.d 1 tl), .int .u64 (cellW c)] W (HP W H A G C (s.act C 2 (partP C.a C.b C.c C.d 1 tl) (cellW c) 0) (.tuple #[]))) := Lib.hid (fun W hW => hStore_c (w := W) hW hu (partP C.a C.b C.c C.d 1 tl) (cellW c))
  generalize (s.act C 2 (partP C.a C.b C.c C.d 1 tl) (cellW c) 0) = s' at *
  generalize (partP C.a C.b C.c C.d 1 tl) = P at *
  generalize cellW c = cw at *
  clear hH hu hS  hn
  obtain ⟨a0, a1, a2, a3, a4, a5, a6, a7, a8, af⟩ := HC0.out.cells
  dsimp only at a0 a1 a2 a3 a4 a5 a6 a7 a8
  obtain ⟨_, ⟨h1, h2, h3, h4⟩, _⟩ := HC0.out.hand.cells
  go_enter Tryz.func135, Tryz.ntmps135
  go_wp2_with fail
  refine wp_region_held_drew (S := (fun w' => w'.cell? ⟨H, 1, none⟩ = some (.int .i64 C.a) ∧ w'.cell? ⟨H, 2, none⟩ = some (.int .i64 C.b) ∧ w'.cell? ⟨H, 3, none⟩ = some (.int .i64 C.c) ∧ w'.cell? ⟨H, 4, none⟩ = some (.int .i64 C.d) ∧ w'.cell? ⟨w.heap.size, 2, none⟩ = some (.int .i64 c) ∧ w'.cell? ⟨w.heap.size, 7, none⟩ = some (.int .i64 tl))) (by kernel_rfl) ?_ (fun hHeld => ?_)
  · exact ⟨h1, h2, h3, h4, a2, a7⟩
  refine tk 0 rfl hHeld ?_
  refine tk 1 rfl hHeld ?_
  refine tk 2 rfl hHeld ?_
  refine tk 3 rfl hHeld ?_
  refine tk 4 rfl hHeld ?_
  refine tk 5 rfl hHeld ?_
  refine tk 6 rfl hHeld ?_
  refine tk 8 rfl hHeld ?_
  refine tk 9 rfl hHeld ?_
  refine wpAnyH_ready (rs := [7]) (by kernel_rfl) (by simp) ?_
  refine AllReadyH.cons (o := _) rfl (fun K hK => ?_) AllReadyH.nil
  go_simp
  have HC1 := Lib.hid HC0.out.drew
  clear HC0
  clear h1 h2 h3 h4 a0 a1 a2 a3 a4 a5 a6 a7 a8 af
  obtain ⟨a0, a1, a2, a3, a4, a5, a6, a7, a8, af⟩ := HC1.out.cells
  dsimp only at a0 a1 a2 a3 a4 a5 a6 a7 a8
  obtain ⟨_, ⟨h1, h2, h3, h4⟩, _⟩ := HC1.out.hand.cells
  refine (HCa.out _ (HSP.out _ _ _ HC1.out)).mono ?_
  rintro e V11 ⟨rfl, hb⟩
  have HC2 := Lib.hid (HC1.out.below hb)
  clear HC1
  clear hb
  clear hHeld HCa h1 h2 h3 h4 a0 a1 a2 a3 a4 a5 a6 a7 a8 af
  obtain ⟨a0, a1, a2, a3, a4, a5, a6, a7, a8, af⟩ := HC2.out.cells
  dsimp only at a0 a1 a2 a3 a4 a5 a6 a7 a8
  obtain ⟨_, ⟨h1, h2, h3, h4⟩, _⟩ := HC2.out.hand.cells
  refine hK.out _ _ ?_ (fun hHeld => ?_)
  · exact ⟨h1, h2, h3, h4, a2, a7⟩
  clear hK K
  try simp only [Act.put, List.setIfInBounds_toArray, List.set_cons_zero, List.set_cons_succ]
  refine wpAnyH_ready (rs := [10]) (by kernel_rfl) (by simp) ?_
  refine AllReadyH.cons (o := _) rfl (fun K hK => ?_) AllReadyH.nil
  go_simp
  refine (HCl.out _).mono ?_
  rintro e V22 ⟨rfl, rfl⟩
  clear hHeld HCl
  refine hK.out _ _ ?_ (fun hHeld => ?_)
  · exact ⟨h1, h2, h3, h4, a2, a7⟩
  clear hK K
  try simp only [Act.put, List.setIfInBounds_toArray, List.set_cons_zero, List.set_cons_succ]
  refine wpAnyH_ready (rs := [11]) (by kernel_rfl) (by simp) ?_
  refine AllReadyH.cons (o := _) rfl (fun K hK => ?_) AllReadyH.nil
  go_simp
  refine (HD.out _ HC2.out.hand).mono ?_
  rintro e V31 ⟨rfl, hF, hs⟩
  have HC3 := Lib.hid (HC2.out.handed hF hs)
  clear HC2 hF hs
  clear hHeld HD h1 h2 h3 h4 a0 a1 a2 a3 a4 a5 a6 a7 a8 af
  obtain ⟨a0, a1, a2, a3, a4, a5, a6, a7, a8, af⟩ := HC3.out.cells
  dsimp only at a0 a1 a2 a3 a4 a5 a6 a7 a8
  obtain ⟨_, ⟨h1, h2, h3, h4⟩, _⟩ := HC3.out.hand.cells
  refine hK.out _ _ ?_ (fun hHeld => ?_)
  · exact ⟨h1, h2, h3, h4, a2, a7⟩
  clear hK K
  try simp only [Act.put, List.setIfInBounds_toArray, List.set_cons_zero, List.set_cons_succ]
  refine wpAnyH_done (by kernel_rfl) ?_ _
  clear hHeld h1 h2 h3 h4 a0 a1 a2 a3 a4 a5 a6 a7 a8 af
  have HCe := Lib.hid (HC3.out.setTL c)
  obtain ⟨b0, b1, b2, b3, b4, b5, b6, b7, b8, bf⟩ := HC3.out.cells
  dsimp only at b0 b1 b2 b3 b4 b5 b6 b7 b8
  obtain ⟨d0, d1, d2, d3, d4, d5, d6, d7, d8, df⟩ := HCe.out.cells
  dsimp only at d0 d1 d2 d3 d4 d5 d6 d7 d8
  obtain ⟨c0, c1, c2, c3, c4, c5, c6, c7, c8, cf⟩ := HCe.out.cellsY
  obtain ⟨s0, s1, s2, s3, s4, s5, s6, s7, s8, sf⟩ := (HCe.out.last ⟨23, j, c, m, a, p, fd, c, cy⟩).cells
  dsimp only at s0 s1 s2 s3 s4 s5 s6 s7 s8
  clear HC3 
  go_wp2_with fail
  refine bodyPost_ret (v := .tuple #[(colV 23 j c m a p fd c cy), .int .i64 3]) (by simp [results, Tryz.f135, go_sem, s0, s1, s2, s3, s4, s5, s6, s7, s8]) rfl ?_
  exact ⟨rfl, HCe.out.fin ⟨23, j, c, m, a, p, fd, c, cy⟩⟩
set_option maxHeartbeats 3200000 in
theorem sd_other {w : World} {H A G : Nat} {C : Cf} {s : Dy} (hH : HAt w H A G C s) (_ : s.U) (_ : SpansAt w) (_ : Right C.a C.b C.c C.d) (_ : 0 < C.n) (l j c m a p : Int) (fd : Bool) (tl cy : Int) (g20 : ¬ l = 20) (g21 : ¬ l = 21) (g22 : ¬ l = 22) (g23 : ¬ l = 23) (g24 : ¬ l = 24) :
    Calls Tryz.prog 135 #[.pointer (some ⟨H, 0, none⟩), (colV l j c m a p fd tl cy)] w (HP w H A G C (s) (.tuple #[(colV l j c m a p fd tl cy), .int .i64 0])) := by
  have HF := Lib.hid hH
  have e20 : (l == 20) = false := by simpa using g20
  have e21 : (l == 21) = false := by simpa using g21
  have e22 : (l == 22) = false := by simpa using g22
  have e23 : (l == 23) = false := by simpa using g23
  have e24 : (l == 24) = false := by simpa using g24
  clear hH g20 g21 g22 g23 g24
  go_enter Tryz.func135, Tryz.ntmps135
  go_wp2_with fail
  refine bodyPost_ret (v := .tuple #[(colV l j c m a p fd tl cy), .int .i64 0]) (by simp [results, Tryz.f135, go_sem]) rfl ?_
  refine ⟨rfl, HF.out.below (below_on (below_new _ _) _), Sav.of (below_on (below_new _ _) _)⟩
end Go.Proofs.YtbpooljohjkbjaaGreatDoor
