/- What a line of layer 14's own does: set, move, moved, out, into, part, bring. -/
import Derived.Test.YtbpooljohjkbjaaGreatDoorM1
import Derived.Test.YtbpooljohjkbjaaGreatDoorM8
namespace Go.Proofs.YtbpooljohjkbjaaGreatDoor
open Go Go.RowKit
set_option maxRecDepth 100000
attribute [local go_sem ↓] Go.wp_at_zero Go.wp_at_succ
set_option maxHeartbeats 3200000 in
theorem own_set {w : World} {B H A G : Nat} {C : Cf} {m : Int} {s : Dy} {x : Mu} (h : WkAt w B H A G C m s x) (hu : s.U) (hx : x.U) (hS : SpansAt w) (hq3 : x.q3 ≤ 9223372036854775807) :
    Calls Tryz.prog 146 #[.pointer (some ⟨B, 0, none⟩)] w (WPost w B H A G C m (.bool true) (s.act C 2 (regP C.a C.b C.c C.d m x.q2) (atomW x.q3) 0) { x with l := 90, rt := 1 }) := by
  obtain ⟨hxm1, hxm2, hxm3, _⟩ := hx
  have HPl : Hid (∀ W, WkAt W B H A G C m s x → SpansAt W → Calls Tryz.prog 180 #[.pointer (some ⟨B, 0, none⟩), .int .i64 x.q2] W fun e w' => e = .returned (.int .i64 (regP C.a C.b C.c C.d m x.q2)) ∧ Below W.heap.size W w') := Lib.hid (fun W h1 h2 => reg_c h1 h2 x.q2)
  have HAt' : Hid (∀ W, Calls Tryz.prog 181 #[.int .i64 x.q3] W fun e w' => e = .returned (.int .u64 (atomW x.q3)) ∧ W = w') := Lib.hid (fun W => atom_i x.q3 hq3 W)
  generalize (atomW x.q3) = AW at *
  generalize hP : (regP C.a C.b C.c C.d m x.q2) = P at *
  have HD : Hid (∀ W, HAt W H A G C s → Calls Tryz.prog 129 #[.pointer (some ⟨H, 0, none⟩), .int .i64 P, .int .u64 AW] W (HP W H A G C (s.act C 2 P AW 0) (.tuple #[]))) := Lib.hid (fun W hW => hStore_c (w := W) hW hu P AW)
  generalize (s.act C 2 P AW 0) = s' at *
  have HW := Lib.hid h; have HS := Lib.hid hS
  have HQ : Hid (Sav (WS H G B) w w) := Lib.hid (Sav.of (Below.refl _ _))
  clear h hS hu
  obtain ⟨k0, _, _, k3, k4, _, _, _, _, _, _, _, _, _, _, _⟩ := HW.out.cells
  (try dsimp only at k3 k4)
  skip
  go_enter Tryz.func146, Tryz.ntmps146
  go_wp2_with fail
  refine wp_region_noPanic ?_
  refine wp_region_held_drew (S := (fun w' => w'.cell? ⟨B, 0, none⟩ = some (.pointer (some ⟨H, 0, none⟩)) ∧ w'.cell? ⟨B, 3, none⟩ = some (.int .i64 x.q2) ∧ w'.cell? ⟨B, 4, none⟩ = some (.int .i64 x.q3))) (by kernel_rfl) ?_ (fun hHeld => ?_)
  · exact ⟨k0, k3, k4⟩
  refine tk 0 rfl hHeld ?_
  refine tk 1 rfl hHeld ?_
  refine tk 2 rfl hHeld ?_
  refine tk 3 rfl hHeld ?_
  refine tk 4 rfl hHeld ?_
  refine tk 5 rfl hHeld ?_
  refine tk 6 rfl hHeld ?_
  refine tk 7 rfl hHeld ?_
  refine tk 8 rfl hHeld ?_
  refine tk 9 rfl hHeld ?_
  refine tk 10 rfl hHeld ?_
  refine tk 12 rfl hHeld ?_
  refine tk 13 rfl hHeld ?_
  refine tk 14 rfl hHeld ?_
  refine tk 15 rfl hHeld ?_
  refine tk 16 rfl hHeld ?_
  refine tk 17 rfl hHeld ?_
  refine wpAnyH_ready (rs := [11]) (by kernel_rfl) (by simp) ?_
  refine AllReadyH.cons (o := _) rfl (fun K hK => ?_) AllReadyH.nil
  go_simp
  have HW0 := Lib.hid HW.out.drew; have HS0 : Hid (SpansAt _) := Lib.hid (show SpansAt w.drew from HS.out); have HQ0 : Hid (Sav (WS H G B) w w.drew) := Lib.hid (Sav.of (Below.refl _ _).drew)
  clear HW HS HQ
  refine (HPl.out _ HW0.out HS0.out).mono ?_
  rintro e V1 ⟨rfl, hb⟩
  have HW1 := Lib.hid (HW0.out.below hb); have HQ1 := Lib.hid (HQ0.out.trans (Sav.of hb))
  clear HW0 HQ0 HS0 hb HPl hHeld k0 k3 k4
  obtain ⟨k0, _, _, k3, k4, _, _, _, _, _, _, _, _, _, _, _⟩ := HW1.out.cells
  (try dsimp only at k3 k4)
  refine hK.out _ _ ?_ (fun hHeld => ?_)
  · exact ⟨k0, k3, k4⟩
  clear hK K
  try simp only [Act.put, List.setIfInBounds_toArray, List.set_cons_zero, List.set_cons_succ]
  refine wpAnyH_ready (rs := [18]) (by kernel_rfl) (by simp) ?_
  refine AllReadyH.cons (o := _) rfl (fun K hK => ?_) AllReadyH.nil
  go_simp
  refine (HAt'.out _).mono ?_
  rintro e V1' ⟨rfl, rfl⟩
  clear HAt'
  refine hK.out _ _ ?_ (fun hHeld => ?_)
  · exact ⟨k0, k3, k4⟩
  clear hK K
  try simp only [Act.put, List.setIfInBounds_toArray, List.set_cons_zero, List.set_cons_succ]
  refine wpAnyH_ready (rs := [19]) (by kernel_rfl) (by simp) ?_
  refine AllReadyH.cons (o := _) rfl (fun K hK => ?_) AllReadyH.nil
  go_simp
  refine (HD.out _ HW1.out.hand).mono ?_
  rintro e V2 ⟨rfl, hF, hs⟩
  have HW2 := Lib.hid (HW1.out.handed hF hs); have HQ2 := Lib.hid (HQ1.out.trans (hgWS hs))
  clear HW1 HQ1 HD hF hs hHeld k0 k3 k4
  obtain ⟨k0, _, _, k3, k4, _, _, _, _, _, _, _, _, _, _, _⟩ := HW2.out.cells
  (try dsimp only at k3 k4)
  refine hK.out _ _ ?_ (fun hHeld => ?_)
  · exact ⟨k0, k3, k4⟩
  clear hK K
  try simp only [Act.put, List.setIfInBounds_toArray, List.set_cons_zero, List.set_cons_succ]
  refine wpAnyH_done (by kernel_rfl) ?_ _
  refine NoPanic.normal ?_
  clear hHeld k0 k3 k4
  obtain ⟨c0, c1, c2, c3, c4, c5, c6, c7, c8, c9, c10, c11, c12, c13, c14, cf⟩ := HW2.out.cells
  (try dsimp only at c1 c2 c3 c4 c5 c6 c7 c8 c9 c10 c11 c12 c13)
  go_wp2_with fail
  refine (end_c HW2.out 1).mono ?_
  rintro e V ⟨rfl, hW, hs⟩
  have HWz := Lib.hid hW; have HQz := Lib.hid (HQ2.out.trans hs)
  clear hW hs HW2 HQ2 c0 c1 c2 c3 c4 c5 c6 c7 c8 c9 c10 c11 c12 c13 c14 cf
  go_wp2_with fail
  go_ret
  exact ⟨rfl, HWz.out, HQz.out⟩
set_option maxHeartbeats 3200000 in
theorem own_move {w : World} {B H A G : Nat} {C : Cf} {m : Int} {s : Dy} {x : Mu} (h : WkAt w B H A G C m s x) (hu : s.U) (hx : x.U) (hS : SpansAt w) :
    Calls Tryz.prog 147 #[.pointer (some ⟨B, 0, none⟩)] w (WPost w B H A G C m (.bool false) (s.act C 1 (regP C.a C.b C.c C.d m x.q3) 0 0) { x with l := 12, m1 := (ldP C s (regP C.a C.b C.c C.d m x.q3)) }) := by
  obtain ⟨hxm1, hxm2, hxm3, _⟩ := hx
  have HPl : Hid (∀ W, WkAt W B H A G C m s x → SpansAt W → Calls Tryz.prog 180 #[.pointer (some ⟨B, 0, none⟩), .int .i64 x.q3] W fun e w' => e = .returned (.int .i64 (regP C.a C.b C.c C.d m x.q3)) ∧ Below W.heap.size W w') := Lib.hid (fun W h1 h2 => reg_c h1 h2 x.q3)
  have hzU : U64 (ldP C s (regP C.a C.b C.c C.d m x.q3)) := ldP_U hu _
  unfold ldP at *
  generalize hP : (regP C.a C.b C.c C.d m x.q3) = P at *
  have HD : Hid (∀ W, HAt W H A G C s → Calls Tryz.prog 123 #[.pointer (some ⟨H, 0, none⟩), .int .i64 P] W (HP W H A G C (s.act C 1 P 0 0) (.int .u64 (z5 C.n 1 P (s.f P.toNat))))) := Lib.hid (fun W hW => hLoad_c (w := W) hW hu P)
  generalize (s.act C 1 P 0 0) = s' at *
  generalize (z5 C.n 1 P (s.f P.toNat)) = Z at *
  have HW := Lib.hid h; have HS := Lib.hid hS
  have HQ : Hid (Sav (WS H G B) w w) := Lib.hid (Sav.of (Below.refl _ _))
  clear h hS hu
  obtain ⟨k0, _, _, _, k4, _, _, _, _, _, _, _, _, _, _, _⟩ := HW.out.cells
  (try dsimp only at k4)
  skip
  go_enter Tryz.func147, Tryz.ntmps147
  go_wp2_with fail
  refine wp_region_noPanic ?_
  refine wp_region_held_drew (S := (fun w' => w'.cell? ⟨B, 0, none⟩ = some (.pointer (some ⟨H, 0, none⟩)) ∧ w'.cell? ⟨B, 4, none⟩ = some (.int .i64 x.q3))) (by kernel_rfl) ?_ (fun hHeld => ?_)
  · exact ⟨k0, k4⟩
  refine tk 0 rfl hHeld ?_
  refine tk 1 rfl hHeld ?_
  refine tk 2 rfl hHeld ?_
  refine tk 3 rfl hHeld ?_
  refine tk 4 rfl hHeld ?_
  refine tk 5 rfl hHeld ?_
  refine tk 6 rfl hHeld ?_
  refine tk 7 rfl hHeld ?_
  refine tk 8 rfl hHeld ?_
  refine tk 9 rfl hHeld ?_
  refine tk 10 rfl hHeld ?_
  refine tk 11 rfl hHeld ?_
  refine wpAnyH_ready (rs := [12]) (by kernel_rfl) (by simp) ?_
  refine AllReadyH.cons (o := _) rfl (fun K hK => ?_) AllReadyH.nil
  go_simp
  have HW0 := Lib.hid HW.out.drew; have HS0 : Hid (SpansAt _) := Lib.hid (show SpansAt w.drew from HS.out); have HQ0 : Hid (Sav (WS H G B) w w.drew) := Lib.hid (Sav.of (Below.refl _ _).drew)
  clear HW HS HQ
  refine (HPl.out _ HW0.out HS0.out).mono ?_
  rintro e V1 ⟨rfl, hb⟩
  have HW1 := Lib.hid (HW0.out.below hb); have HQ1 := Lib.hid (HQ0.out.trans (Sav.of hb))
  clear HW0 HQ0 HS0 hb HPl hHeld k0 k4
  obtain ⟨k0, _, _, _, k4, _, _, _, _, _, _, _, _, _, _, _⟩ := HW1.out.cells
  (try dsimp only at k4)
  refine hK.out _ _ ?_ (fun hHeld => ?_)
  · exact ⟨k0, k4⟩
  clear hK K
  try simp only [Act.put, List.setIfInBounds_toArray, List.set_cons_zero, List.set_cons_succ]
  refine wpAnyH_ready (rs := [13]) (by kernel_rfl) (by simp) ?_
  refine AllReadyH.cons (o := _) rfl (fun K hK => ?_) AllReadyH.nil
  go_simp
  refine (HD.out _ HW1.out.hand).mono ?_
  rintro e V2 ⟨rfl, hF, hs⟩
  have HW2 := Lib.hid (HW1.out.handed hF hs); have HQ2 := Lib.hid (HQ1.out.trans (hgWS hs))
  clear HW1 HQ1 HD hF hs hHeld k0 k4
  obtain ⟨k0, _, _, _, k4, _, _, _, _, _, _, _, _, _, _, _⟩ := HW2.out.cells
  (try dsimp only at k4)
  obtain ⟨_, _, _, _, _, _, g6, g7, _, _, _, _, _, _, _, gf⟩ := HW2.out.cells
  (try dsimp only at g6 g7)
  refine hK.out _ _ ?_ (fun hHeld => ?_)
  · exact ⟨k0, k4⟩
  clear hK K
  try simp only [Act.put, List.setIfInBounds_toArray, List.set_cons_zero, List.set_cons_succ]
  refine tk 14 rfl hHeld ?_
  refine tk 15 rfl hHeld ?_
  refine tk 16 rfl hHeld ?_
  refine wpAnyH_ready (rs := [17]) (by kernel_rfl) (by simp) ?_
  refine AllReadyH.cons (o := _) rfl (fun K hK => ?_) AllReadyH.nil
  go_simp
  clear g6 g7 gf
  have HW3 := Lib.hid (HW2.out.setA Z); have HQ3 := Lib.hid (HQ2.out.set (p := ⟨B, 6, none⟩) (.inl (.inr rfl)) (.int .u64 Z))
  clear hHeld k0 k4
  obtain ⟨k0, _, _, _, k4, _, _, _, _, _, _, _, _, _, _, _⟩ := HW3.out.cells
  (try dsimp only at k4)
  clear HW2 HQ2
  refine hK.out _ _ ?_ (fun hHeld => ?_)
  · exact ⟨k0, k4⟩
  clear hK K
  try simp only [Act.put, List.setIfInBounds_toArray, List.set_cons_zero, List.set_cons_succ]
  refine wpAnyH_done (by kernel_rfl) ?_ _
  refine NoPanic.normal ?_
  clear hHeld k0 k4
  obtain ⟨c0, c1, c2, c3, c4, c5, c6, c7, c8, c9, c10, c11, c12, c13, c14, cf⟩ := HW3.out.cells
  (try dsimp only at c1 c2 c3 c4 c5 c6 c7 c8 c9 c10 c11 c12 c13)
  go_wp2_with fail
  refine (goOn_c' HW3.out 12).mono ?_
  rintro e V ⟨rfl, hW, hs⟩
  have HWz := Lib.hid hW; have HQz := Lib.hid (HQ3.out.trans hs)
  clear hW hs HW3 HQ3 c0 c1 c2 c3 c4 c5 c6 c7 c8 c9 c10 c11 c12 c13 c14 cf
  go_wp2_with fail
  go_ret
  exact ⟨rfl, HWz.out, HQz.out⟩
set_option maxHeartbeats 3200000 in
theorem own_moved {w : World} {B H A G : Nat} {C : Cf} {m : Int} {s : Dy} {x : Mu} (h : WkAt w B H A G C m s x) (hu : s.U) (hx : x.U) (hS : SpansAt w) :
    Calls Tryz.prog 148 #[.pointer (some ⟨B, 0, none⟩)] w (WPost w B H A G C m (.bool true) (s.act C 2 (regP C.a C.b C.c C.d m x.q2) x.m1 0) (begM { x with rt := 1 } x.m1 90)) := by
  obtain ⟨hxm1, hxm2, hxm3, _⟩ := hx
  have HPl : Hid (∀ W, WkAt W B H A G C m s x → SpansAt W → Calls Tryz.prog 180 #[.pointer (some ⟨B, 0, none⟩), .int .i64 x.q2] W fun e w' => e = .returned (.int .i64 (regP C.a C.b C.c C.d m x.q2)) ∧ Below W.heap.size W w') := Lib.hid (fun W h1 h2 => reg_c h1 h2 x.q2)
  generalize hP : (regP C.a C.b C.c C.d m x.q2) = P at *
  have HD : Hid (∀ W, HAt W H A G C s → Calls Tryz.prog 129 #[.pointer (some ⟨H, 0, none⟩), .int .i64 P, .int .u64 x.m1] W (HP W H A G C (s.act C 2 P x.m1 0) (.tuple #[]))) := Lib.hid (fun W hW => hStore_c (w := W) hW hu P x.m1)
  generalize (s.act C 2 P x.m1 0) = s' at *
  have HW := Lib.hid h; have HS := Lib.hid hS
  have HQ : Hid (Sav (WS H G B) w w) := Lib.hid (Sav.of (Below.refl _ _))
  clear h hS hu
  obtain ⟨k0, _, _, k3, _, _, k6, _, _, _, _, _, _, _, _, _⟩ := HW.out.cells
  (try dsimp only at k3 k6)
  skip
  go_enter Tryz.func148, Tryz.ntmps148
  go_wp2_with fail
  refine wp_region_noPanic ?_
  refine wp_region_held_drew (S := (fun w' => w'.cell? ⟨B, 0, none⟩ = some (.pointer (some ⟨H, 0, none⟩)) ∧ w'.cell? ⟨B, 3, none⟩ = some (.int .i64 x.q2) ∧ w'.cell? ⟨B, 6, none⟩ = some (.int .u64 x.m1))) (by kernel_rfl) ?_ (fun hHeld => ?_)
  · exact ⟨k0, k3, k6⟩
  refine tk 0 rfl hHeld ?_
  refine tk 1 rfl hHeld ?_
  refine tk 2 rfl hHeld ?_
  refine tk 3 rfl hHeld ?_
  refine tk 4 rfl hHeld ?_
  refine tk 5 rfl hHeld ?_
  refine tk 6 rfl hHeld ?_
  refine tk 7 rfl hHeld ?_
  refine tk 8 rfl hHeld ?_
  refine tk 9 rfl hHeld ?_
  refine tk 10 rfl hHeld ?_
  refine tk 12 rfl hHeld ?_
  refine tk 13 rfl hHeld ?_
  refine tk 14 rfl hHeld ?_
  refine tk 15 rfl hHeld ?_
  refine tk 16 rfl hHeld ?_
  refine wpAnyH_ready (rs := [11]) (by kernel_rfl) (by simp) ?_
  refine AllReadyH.cons (o := _) rfl (fun K hK => ?_) AllReadyH.nil
  go_simp
  have HW0 := Lib.hid HW.out.drew; have HS0 : Hid (SpansAt _) := Lib.hid (show SpansAt w.drew from HS.out); have HQ0 : Hid (Sav (WS H G B) w w.drew) := Lib.hid (Sav.of (Below.refl _ _).drew)
  clear HW HS HQ
  refine (HPl.out _ HW0.out HS0.out).mono ?_
  rintro e V1 ⟨rfl, hb⟩
  have HW1 := Lib.hid (HW0.out.below hb); have HQ1 := Lib.hid (HQ0.out.trans (Sav.of hb))
  clear HW0 HQ0 HS0 hb HPl hHeld k0 k3 k6
  obtain ⟨k0, _, _, k3, _, _, k6, _, _, _, _, _, _, _, _, _⟩ := HW1.out.cells
  (try dsimp only at k3 k6)
  refine hK.out _ _ ?_ (fun hHeld => ?_)
  · exact ⟨k0, k3, k6⟩
  clear hK K
  try simp only [Act.put, List.setIfInBounds_toArray, List.set_cons_zero, List.set_cons_succ]
  refine wpAnyH_ready (rs := [17]) (by kernel_rfl) (by simp) ?_
  refine AllReadyH.cons (o := _) rfl (fun K hK => ?_) AllReadyH.nil
  go_simp
  refine (HD.out _ HW1.out.hand).mono ?_
  rintro e V2 ⟨rfl, hF, hs⟩
  have HW2 := Lib.hid (HW1.out.handed hF hs); have HQ2 := Lib.hid (HQ1.out.trans (hgWS hs))
  clear HW1 HQ1 HD hF hs hHeld k0 k3 k6
  obtain ⟨k0, _, _, k3, _, _, k6, _, _, _, _, _, _, _, _, _⟩ := HW2.out.cells
  (try dsimp only at k3 k6)
  refine hK.out _ _ ?_ (fun hHeld => ?_)
  · exact ⟨k0, k3, k6⟩
  clear hK K
  try simp only [Act.put, List.setIfInBounds_toArray, List.set_cons_zero, List.set_cons_succ]
  refine wpAnyH_done (by kernel_rfl) ?_ _
  refine NoPanic.normal ?_
  clear hHeld k0 k3 k6
  obtain ⟨c0, c1, c2, c3, c4, c5, c6, c7, c8, c9, c10, c11, c12, c13, c14, cf⟩ := HW2.out.cells
  (try dsimp only at c1 c2 c3 c4 c5 c6 c7 c8 c9 c10 c11 c12 c13)
  go_wp2_with fail
  refine (succeed_c HW2.out x.m1 hxm1).mono ?_
  rintro e V ⟨rfl, hW, hs⟩
  have HWz := Lib.hid hW; have HQz := Lib.hid (HQ2.out.trans hs)
  clear hW hs HW2 HQ2 c0 c1 c2 c3 c4 c5 c6 c7 c8 c9 c10 c11 c12 c13 c14 cf
  go_wp2_with fail
  go_ret
  exact ⟨rfl, HWz.out, HQz.out⟩
set_option maxHeartbeats 3200000 in
theorem own_out {w : World} {B H A G : Nat} {C : Cf} {m : Int} {s : Dy} {x : Mu} (h : WkAt w B H A G C m s x) (hu : s.U) (hx : x.U) (hS : SpansAt w) :
    Calls Tryz.prog 149 #[.pointer (some ⟨B, 0, none⟩)] w (WPost w B H A G C m (.bool (!decide (isC (ldP C s (regP C.a C.b C.c C.d m x.q3)).toNat))) (s.act C 1 (regP C.a C.b C.c C.d m x.q3) 0 0) (if isC (ldP C s (regP C.a C.b C.c C.d m x.q3)).toNat then { x with l := 14, m1 := (ldP C s (regP C.a C.b C.c C.d m x.q3)) } else { x with l := 90, m1 := (ldP C s (regP C.a C.b C.c C.d m x.q3)), rt := 4 })) := by
  obtain ⟨hxm1, hxm2, hxm3, _⟩ := hx
  have HPl : Hid (∀ W, WkAt W B H A G C m s x → SpansAt W → Calls Tryz.prog 180 #[.pointer (some ⟨B, 0, none⟩), .int .i64 x.q3] W fun e w' => e = .returned (.int .i64 (regP C.a C.b C.c C.d m x.q3)) ∧ Below W.heap.size W w') := Lib.hid (fun W h1 h2 => reg_c h1 h2 x.q3)
  have hzU : U64 (ldP C s (regP C.a C.b C.c C.d m x.q3)) := ldP_U hu _
  unfold ldP at *
  generalize hP : (regP C.a C.b C.c C.d m x.q3) = P at *
  have HD : Hid (∀ W, HAt W H A G C s → Calls Tryz.prog 123 #[.pointer (some ⟨H, 0, none⟩), .int .i64 P] W (HP W H A G C (s.act C 1 P 0 0) (.int .u64 (z5 C.n 1 P (s.f P.toNat))))) := Lib.hid (fun W hW => hLoad_c (w := W) hW hu P)
  generalize (s.act C 1 P 0 0) = s' at *
  generalize (z5 C.n 1 P (s.f P.toNat)) = Z at *
  have HNC : Hid (∀ W, WkAt W B H A G C m s' { x with m1 := Z } → Calls Tryz.prog 185 #[.pointer (some ⟨B, 0, none⟩), .int .i64 14] W (WPost W B H A G C m (.bool (!decide (isC Z.toNat))) s' (if isC Z.toNat then ({ x with l := 14, m1 := Z } : Mu) else { x with l := 90, m1 := Z, rt := 4 }))) := Lib.hid (fun W h1 => needCell_c h1 hzU 14)
  generalize (if isC Z.toNat then ({ x with l := 14, m1 := Z } : Mu) else { x with l := 90, m1 := Z, rt := 4 }) = Y at *
  generalize (!decide (isC Z.toNat)) = bb at *
  have HW := Lib.hid h; have HS := Lib.hid hS
  have HQ : Hid (Sav (WS H G B) w w) := Lib.hid (Sav.of (Below.refl _ _))
  clear h hS hu
  obtain ⟨k0, _, _, _, k4, _, _, _, _, _, _, _, _, _, _, _⟩ := HW.out.cells
  (try dsimp only at k4)
  skip
  go_enter Tryz.func149, Tryz.ntmps149
  go_wp2_with fail
  refine wp_region_noPanic ?_
  refine wp_region_held_drew (S := (fun w' => w'.cell? ⟨B, 0, none⟩ = some (.pointer (some ⟨H, 0, none⟩)) ∧ w'.cell? ⟨B, 4, none⟩ = some (.int .i64 x.q3))) (by kernel_rfl) ?_ (fun hHeld => ?_)
  · exact ⟨k0, k4⟩
  refine tk 0 rfl hHeld ?_
  refine tk 1 rfl hHeld ?_
  refine tk 2 rfl hHeld ?_
  refine tk 3 rfl hHeld ?_
  refine tk 4 rfl hHeld ?_
  refine tk 5 rfl hHeld ?_
  refine tk 6 rfl hHeld ?_
  refine tk 7 rfl hHeld ?_
  refine tk 8 rfl hHeld ?_
  refine tk 9 rfl hHeld ?_
  refine tk 10 rfl hHeld ?_
  refine tk 11 rfl hHeld ?_
  refine wpAnyH_ready (rs := [12]) (by kernel_rfl) (by simp) ?_
  refine AllReadyH.cons (o := _) rfl (fun K hK => ?_) AllReadyH.nil
  go_simp
  have HW0 := Lib.hid HW.out.drew; have HS0 : Hid (SpansAt _) := Lib.hid (show SpansAt w.drew from HS.out); have HQ0 : Hid (Sav (WS H G B) w w.drew) := Lib.hid (Sav.of (Below.refl _ _).drew)
  clear HW HS HQ
  refine (HPl.out _ HW0.out HS0.out).mono ?_
  rintro e V1 ⟨rfl, hb⟩
  have HW1 := Lib.hid (HW0.out.below hb); have HQ1 := Lib.hid (HQ0.out.trans (Sav.of hb))
  clear HW0 HQ0 HS0 hb HPl hHeld k0 k4
  obtain ⟨k0, _, _, _, k4, _, _, _, _, _, _, _, _, _, _, _⟩ := HW1.out.cells
  (try dsimp only at k4)
  refine hK.out _ _ ?_ (fun hHeld => ?_)
  · exact ⟨k0, k4⟩
  clear hK K
  try simp only [Act.put, List.setIfInBounds_toArray, List.set_cons_zero, List.set_cons_succ]
  refine wpAnyH_ready (rs := [13]) (by kernel_rfl) (by simp) ?_
  refine AllReadyH.cons (o := _) rfl (fun K hK => ?_) AllReadyH.nil
  go_simp
  refine (HD.out _ HW1.out.hand).mono ?_
  rintro e V2 ⟨rfl, hF, hs⟩
  have HW2 := Lib.hid (HW1.out.handed hF hs); have HQ2 := Lib.hid (HQ1.out.trans (hgWS hs))
  clear HW1 HQ1 HD hF hs hHeld k0 k4
  obtain ⟨k0, _, _, _, k4, _, _, _, _, _, _, _, _, _, _, _⟩ := HW2.out.cells
  (try dsimp only at k4)
  obtain ⟨_, _, _, _, _, _, g6, g7, _, _, _, _, _, _, _, gf⟩ := HW2.out.cells
  (try dsimp only at g6 g7)
  refine hK.out _ _ ?_ (fun hHeld => ?_)
  · exact ⟨k0, k4⟩
  clear hK K
  try simp only [Act.put, List.setIfInBounds_toArray, List.set_cons_zero, List.set_cons_succ]
  refine tk 14 rfl hHeld ?_
  refine tk 15 rfl hHeld ?_
  refine tk 16 rfl hHeld ?_
  refine wpAnyH_ready (rs := [17]) (by kernel_rfl) (by simp) ?_
  refine AllReadyH.cons (o := _) rfl (fun K hK => ?_) AllReadyH.nil
  go_simp
  clear g6 g7 gf
  have HW3 := Lib.hid (HW2.out.setA Z); have HQ3 := Lib.hid (HQ2.out.set (p := ⟨B, 6, none⟩) (.inl (.inr rfl)) (.int .u64 Z))
  clear hHeld k0 k4
  obtain ⟨k0, _, _, _, k4, _, _, _, _, _, _, _, _, _, _, _⟩ := HW3.out.cells
  (try dsimp only at k4)
  clear HW2 HQ2
  refine hK.out _ _ ?_ (fun hHeld => ?_)
  · exact ⟨k0, k4⟩
  clear hK K
  try simp only [Act.put, List.setIfInBounds_toArray, List.set_cons_zero, List.set_cons_succ]
  refine wpAnyH_done (by kernel_rfl) ?_ _
  refine NoPanic.normal ?_
  clear hHeld k0 k4
  obtain ⟨c0, c1, c2, c3, c4, c5, c6, c7, c8, c9, c10, c11, c12, c13, c14, cf⟩ := HW3.out.cells
  (try dsimp only at c1 c2 c3 c4 c5 c6 c7 c8 c9 c10 c11 c12 c13)
  go_wp2_with fail
  refine (HNC.out _ HW3.out).mono ?_
  rintro e V ⟨rfl, hW, hs⟩
  have HWz := Lib.hid hW; have HQz := Lib.hid (HQ3.out.trans hs)
  clear hW hs HW3 HQ3 c0 c1 c2 c3 c4 c5 c6 c7 c8 c9 c10 c11 c12 c13 c14 cf
  go_wp2_with fail
  go_ret
  exact ⟨rfl, HWz.out, HQz.out⟩
set_option maxHeartbeats 3200000 in
theorem own_into {w : World} {B H A G : Nat} {C : Cf} {m : Int} {s : Dy} {x : Mu} (h : WkAt w B H A G C m s x) (hu : s.U) (hx : x.U) (hS : SpansAt w) :
    Calls Tryz.prog 152 #[.pointer (some ⟨B, 0, none⟩)] w (WPost w B H A G C m (.bool (!decide (isC (ldP C s (regP C.a C.b C.c C.d m x.q2)).toNat))) (s.act C 1 (regP C.a C.b C.c C.d m x.q2) 0 0) (if isC (ldP C s (regP C.a C.b C.c C.d m x.q2)).toNat then { x with l := 17, m1 := (ldP C s (regP C.a C.b C.c C.d m x.q2)) } else { x with l := 90, m1 := (ldP C s (regP C.a C.b C.c C.d m x.q2)), rt := 4 })) := by
  obtain ⟨hxm1, hxm2, hxm3, _⟩ := hx
  have HPl : Hid (∀ W, WkAt W B H A G C m s x → SpansAt W → Calls Tryz.prog 180 #[.pointer (some ⟨B, 0, none⟩), .int .i64 x.q2] W fun e w' => e = .returned (.int .i64 (regP C.a C.b C.c C.d m x.q2)) ∧ Below W.heap.size W w') := Lib.hid (fun W h1 h2 => reg_c h1 h2 x.q2)
  have hzU : U64 (ldP C s (regP C.a C.b C.c C.d m x.q2)) := ldP_U hu _
  unfold ldP at *
  generalize hP : (regP C.a C.b C.c C.d m x.q2) = P at *
  have HD : Hid (∀ W, HAt W H A G C s → Calls Tryz.prog 123 #[.pointer (some ⟨H, 0, none⟩), .int .i64 P] W (HP W H A G C (s.act C 1 P 0 0) (.int .u64 (z5 C.n 1 P (s.f P.toNat))))) := Lib.hid (fun W hW => hLoad_c (w := W) hW hu P)
  generalize (s.act C 1 P 0 0) = s' at *
  generalize (z5 C.n 1 P (s.f P.toNat)) = Z at *
  have HNC : Hid (∀ W, WkAt W B H A G C m s' { x with m1 := Z } → Calls Tryz.prog 185 #[.pointer (some ⟨B, 0, none⟩), .int .i64 17] W (WPost W B H A G C m (.bool (!decide (isC Z.toNat))) s' (if isC Z.toNat then ({ x with l := 17, m1 := Z } : Mu) else { x with l := 90, m1 := Z, rt := 4 }))) := Lib.hid (fun W h1 => needCell_c h1 hzU 17)
  generalize (if isC Z.toNat then ({ x with l := 17, m1 := Z } : Mu) else { x with l := 90, m1 := Z, rt := 4 }) = Y at *
  generalize (!decide (isC Z.toNat)) = bb at *
  have HW := Lib.hid h; have HS := Lib.hid hS
  have HQ : Hid (Sav (WS H G B) w w) := Lib.hid (Sav.of (Below.refl _ _))
  clear h hS hu
  obtain ⟨k0, _, _, k3, _, _, _, _, _, _, _, _, _, _, _, _⟩ := HW.out.cells
  (try dsimp only at k3)
  skip
  go_enter Tryz.func152, Tryz.ntmps152
  go_wp2_with fail
  refine wp_region_noPanic ?_
  refine wp_region_held_drew (S := (fun w' => w'.cell? ⟨B, 0, none⟩ = some (.pointer (some ⟨H, 0, none⟩)) ∧ w'.cell? ⟨B, 3, none⟩ = some (.int .i64 x.q2))) (by kernel_rfl) ?_ (fun hHeld => ?_)
  · exact ⟨k0, k3⟩
  refine tk 0 rfl hHeld ?_
  refine tk 1 rfl hHeld ?_
  refine tk 2 rfl hHeld ?_
  refine tk 3 rfl hHeld ?_
  refine tk 4 rfl hHeld ?_
  refine tk 5 rfl hHeld ?_
  refine tk 6 rfl hHeld ?_
  refine tk 7 rfl hHeld ?_
  refine tk 8 rfl hHeld ?_
  refine tk 9 rfl hHeld ?_
  refine tk 10 rfl hHeld ?_
  refine tk 11 rfl hHeld ?_
  refine wpAnyH_ready (rs := [12]) (by kernel_rfl) (by simp) ?_
  refine AllReadyH.cons (o := _) rfl (fun K hK => ?_) AllReadyH.nil
  go_simp
  have HW0 := Lib.hid HW.out.drew; have HS0 : Hid (SpansAt _) := Lib.hid (show SpansAt w.drew from HS.out); have HQ0 : Hid (Sav (WS H G B) w w.drew) := Lib.hid (Sav.of (Below.refl _ _).drew)
  clear HW HS HQ
  refine (HPl.out _ HW0.out HS0.out).mono ?_
  rintro e V1 ⟨rfl, hb⟩
  have HW1 := Lib.hid (HW0.out.below hb); have HQ1 := Lib.hid (HQ0.out.trans (Sav.of hb))
  clear HW0 HQ0 HS0 hb HPl hHeld k0 k3
  obtain ⟨k0, _, _, k3, _, _, _, _, _, _, _, _, _, _, _, _⟩ := HW1.out.cells
  (try dsimp only at k3)
  refine hK.out _ _ ?_ (fun hHeld => ?_)
  · exact ⟨k0, k3⟩
  clear hK K
  try simp only [Act.put, List.setIfInBounds_toArray, List.set_cons_zero, List.set_cons_succ]
  refine wpAnyH_ready (rs := [13]) (by kernel_rfl) (by simp) ?_
  refine AllReadyH.cons (o := _) rfl (fun K hK => ?_) AllReadyH.nil
  go_simp
  refine (HD.out _ HW1.out.hand).mono ?_
  rintro e V2 ⟨rfl, hF, hs⟩
  have HW2 := Lib.hid (HW1.out.handed hF hs); have HQ2 := Lib.hid (HQ1.out.trans (hgWS hs))
  clear HW1 HQ1 HD hF hs hHeld k0 k3
  obtain ⟨k0, _, _, k3, _, _, _, _, _, _, _, _, _, _, _, _⟩ := HW2.out.cells
  (try dsimp only at k3)
  obtain ⟨_, _, _, _, _, _, g6, g7, _, _, _, _, _, _, _, gf⟩ := HW2.out.cells
  (try dsimp only at g6 g7)
  refine hK.out _ _ ?_ (fun hHeld => ?_)
  · exact ⟨k0, k3⟩
  clear hK K
  try simp only [Act.put, List.setIfInBounds_toArray, List.set_cons_zero, List.set_cons_succ]
  refine tk 14 rfl hHeld ?_
  refine tk 15 rfl hHeld ?_
  refine tk 16 rfl hHeld ?_
  refine wpAnyH_ready (rs := [17]) (by kernel_rfl) (by simp) ?_
  refine AllReadyH.cons (o := _) rfl (fun K hK => ?_) AllReadyH.nil
  go_simp
  clear g6 g7 gf
  have HW3 := Lib.hid (HW2.out.setA Z); have HQ3 := Lib.hid (HQ2.out.set (p := ⟨B, 6, none⟩) (.inl (.inr rfl)) (.int .u64 Z))
  clear hHeld k0 k3
  obtain ⟨k0, _, _, k3, _, _, _, _, _, _, _, _, _, _, _, _⟩ := HW3.out.cells
  (try dsimp only at k3)
  clear HW2 HQ2
  refine hK.out _ _ ?_ (fun hHeld => ?_)
  · exact ⟨k0, k3⟩
  clear hK K
  try simp only [Act.put, List.setIfInBounds_toArray, List.set_cons_zero, List.set_cons_succ]
  refine wpAnyH_done (by kernel_rfl) ?_ _
  refine NoPanic.normal ?_
  clear hHeld k0 k3
  obtain ⟨c0, c1, c2, c3, c4, c5, c6, c7, c8, c9, c10, c11, c12, c13, c14, cf⟩ := HW3.out.cells
  (try dsimp only at c1 c2 c3 c4 c5 c6 c7 c8 c9 c10 c11 c12 c13)
  go_wp2_with fail
  refine (HNC.out _ HW3.out).mono ?_
  rintro e V ⟨rfl, hW, hs⟩
  have HWz := Lib.hid hW; have HQz := Lib.hid (HQ3.out.trans hs)
  clear hW hs HW3 HQ3 c0 c1 c2 c3 c4 c5 c6 c7 c8 c9 c10 c11 c12 c13 c14 cf
  go_wp2_with fail
  go_ret
  exact ⟨rfl, HWz.out, HQz.out⟩
set_option maxHeartbeats 3200000 in
theorem own_part {w : World} {B H A G : Nat} {C : Cf} {m : Int} {s : Dy} {x : Mu} (h : WkAt w B H A G C m s x) (hu : s.U) (hx : x.U) (hS : SpansAt w) :
    Calls Tryz.prog 150 #[.pointer (some ⟨B, 0, none⟩)] w (WPost w B H A G C m (.bool true) (s.act C 1 (fieldP C.a C.b C.c C.d x.m1.toNat (partK x.q1)) 0 0) { x with l := 15, m2 := (ldP C s (fieldP C.a C.b C.c C.d x.m1.toNat (partK x.q1))) }) := by
  obtain ⟨hxm1, hxm2, hxm3, _⟩ := hx
  have HPl : Hid (∀ W, WkAt W B H A G C m s x → SpansAt W → Calls Tryz.prog 186 #[.pointer (some ⟨B, 0, none⟩), .int .u64 x.m1] W fun e w' => e = .returned (.int .i64 (fieldP C.a C.b C.c C.d x.m1.toNat (partK x.q1))) ∧ Below W.heap.size W w') := Lib.hid (fun W h1 h2 => partOf_c h1 h2 x.m1 hxm1)
  have hzU : U64 (ldP C s (fieldP C.a C.b C.c C.d x.m1.toNat (partK x.q1))) := ldP_U hu _
  unfold ldP at *
  generalize hP : (fieldP C.a C.b C.c C.d x.m1.toNat (partK x.q1)) = P at *
  have HD : Hid (∀ W, HAt W H A G C s → Calls Tryz.prog 123 #[.pointer (some ⟨H, 0, none⟩), .int .i64 P] W (HP W H A G C (s.act C 1 P 0 0) (.int .u64 (z5 C.n 1 P (s.f P.toNat))))) := Lib.hid (fun W hW => hLoad_c (w := W) hW hu P)
  generalize (s.act C 1 P 0 0) = s' at *
  generalize (z5 C.n 1 P (s.f P.toNat)) = Z at *
  have HW := Lib.hid h; have HS := Lib.hid hS
  have HQ : Hid (Sav (WS H G B) w w) := Lib.hid (Sav.of (Below.refl _ _))
  clear h hS hu
  obtain ⟨k0, _, _, _, _, _, k6, _, _, _, _, _, _, _, _, _⟩ := HW.out.cells
  (try dsimp only at k6)
  skip
  go_enter Tryz.func150, Tryz.ntmps150
  go_wp2_with fail
  refine wp_region_noPanic ?_
  refine wp_region_held_drew (S := (fun w' => w'.cell? ⟨B, 0, none⟩ = some (.pointer (some ⟨H, 0, none⟩)) ∧ w'.cell? ⟨B, 6, none⟩ = some (.int .u64 x.m1))) (by kernel_rfl) ?_ (fun hHeld => ?_)
  · exact ⟨k0, k6⟩
  refine tk 0 rfl hHeld ?_
  refine tk 1 rfl hHeld ?_
  refine tk 2 rfl hHeld ?_
  refine tk 3 rfl hHeld ?_
  refine tk 4 rfl hHeld ?_
  refine tk 5 rfl hHeld ?_
  refine tk 6 rfl hHeld ?_
  refine tk 7 rfl hHeld ?_
  refine tk 8 rfl hHeld ?_
  refine tk 9 rfl hHeld ?_
  refine tk 10 rfl hHeld ?_
  refine wpAnyH_ready (rs := [11]) (by kernel_rfl) (by simp) ?_
  refine AllReadyH.cons (o := _) rfl (fun K hK => ?_) AllReadyH.nil
  go_simp
  have HW0 := Lib.hid HW.out.drew; have HS0 : Hid (SpansAt _) := Lib.hid (show SpansAt w.drew from HS.out); have HQ0 : Hid (Sav (WS H G B) w w.drew) := Lib.hid (Sav.of (Below.refl _ _).drew)
  clear HW HS HQ
  refine (HPl.out _ HW0.out HS0.out).mono ?_
  rintro e V1 ⟨rfl, hb⟩
  have HW1 := Lib.hid (HW0.out.below hb); have HQ1 := Lib.hid (HQ0.out.trans (Sav.of hb))
  clear HW0 HQ0 HS0 hb HPl hHeld k0 k6
  obtain ⟨k0, _, _, _, _, _, k6, _, _, _, _, _, _, _, _, _⟩ := HW1.out.cells
  (try dsimp only at k6)
  refine hK.out _ _ ?_ (fun hHeld => ?_)
  · exact ⟨k0, k6⟩
  clear hK K
  try simp only [Act.put, List.setIfInBounds_toArray, List.set_cons_zero, List.set_cons_succ]
  refine wpAnyH_ready (rs := [12]) (by kernel_rfl) (by simp) ?_
  refine AllReadyH.cons (o := _) rfl (fun K hK => ?_) AllReadyH.nil
  go_simp
  refine (HD.out _ HW1.out.hand).mono ?_
  rintro e V2 ⟨rfl, hF, hs⟩
  have HW2 := Lib.hid (HW1.out.handed hF hs); have HQ2 := Lib.hid (HQ1.out.trans (hgWS hs))
  clear HW1 HQ1 HD hF hs hHeld k0 k6
  obtain ⟨k0, _, _, _, _, _, k6, _, _, _, _, _, _, _, _, _⟩ := HW2.out.cells
  (try dsimp only at k6)
  obtain ⟨_, _, _, _, _, _, g6, g7, _, _, _, _, _, _, _, gf⟩ := HW2.out.cells
  (try dsimp only at g6 g7)
  refine hK.out _ _ ?_ (fun hHeld => ?_)
  · exact ⟨k0, k6⟩
  clear hK K
  try simp only [Act.put, List.setIfInBounds_toArray, List.set_cons_zero, List.set_cons_succ]
  refine tk 13 rfl hHeld ?_
  refine tk 14 rfl hHeld ?_
  refine tk 15 rfl hHeld ?_
  refine wpAnyH_ready (rs := [16]) (by kernel_rfl) (by simp) ?_
  refine AllReadyH.cons (o := _) rfl (fun K hK => ?_) AllReadyH.nil
  go_simp
  clear g6 g7 gf
  have HW3 := Lib.hid (HW2.out.setB Z); have HQ3 := Lib.hid (HQ2.out.set (p := ⟨B, 7, none⟩) (.inl (.inr rfl)) (.int .u64 Z))
  clear hHeld k0 k6
  obtain ⟨k0, _, _, _, _, _, k6, _, _, _, _, _, _, _, _, _⟩ := HW3.out.cells
  (try dsimp only at k6)
  clear HW2 HQ2
  refine hK.out _ _ ?_ (fun hHeld => ?_)
  · exact ⟨k0, k6⟩
  clear hK K
  try simp only [Act.put, List.setIfInBounds_toArray, List.set_cons_zero, List.set_cons_succ]
  refine wpAnyH_done (by kernel_rfl) ?_ _
  refine NoPanic.normal ?_
  clear hHeld k0 k6
  obtain ⟨c0, c1, c2, c3, c4, c5, c6, c7, c8, c9, c10, c11, c12, c13, c14, cf⟩ := HW3.out.cells
  (try dsimp only at c1 c2 c3 c4 c5 c6 c7 c8 c9 c10 c11 c12 c13)
  go_wp2_with fail
  have HWz := Lib.hid (HW3.out.setL 15); have HQz := Lib.hid (HQ3.out.set (p := ⟨B, 1, none⟩) (.inl (.inr rfl)) (.int .i64 15))
  go_ret
  exact ⟨rfl, HWz.out, HQz.out⟩
set_option maxHeartbeats 3200000 in
theorem own_bring {w : World} {B H A G : Nat} {C : Cf} {m : Int} {s : Dy} {x : Mu} (h : WkAt w B H A G C m s x) (hu : s.U) (hx : x.U) (hS : SpansAt w) :
    Calls Tryz.prog 151 #[.pointer (some ⟨B, 0, none⟩)] w (WPost w B H A G C m (.bool false) (s.act C 2 (regP C.a C.b C.c C.d m x.q2) x.m2 0) (begM { x with rt := 1 } x.m2 90)) := by
  obtain ⟨hxm1, hxm2, hxm3, _⟩ := hx
  have HPl : Hid (∀ W, WkAt W B H A G C m s x → SpansAt W → Calls Tryz.prog 180 #[.pointer (some ⟨B, 0, none⟩), .int .i64 x.q2] W fun e w' => e = .returned (.int .i64 (regP C.a C.b C.c C.d m x.q2)) ∧ Below W.heap.size W w') := Lib.hid (fun W h1 h2 => reg_c h1 h2 x.q2)
  generalize hP : (regP C.a C.b C.c C.d m x.q2) = P at *
  have HD : Hid (∀ W, HAt W H A G C s → Calls Tryz.prog 129 #[.pointer (some ⟨H, 0, none⟩), .int .i64 P, .int .u64 x.m2] W (HP W H A G C (s.act C 2 P x.m2 0) (.tuple #[]))) := Lib.hid (fun W hW => hStore_c (w := W) hW hu P x.m2)
  generalize (s.act C 2 P x.m2 0) = s' at *
  have HW := Lib.hid h; have HS := Lib.hid hS
  have HQ : Hid (Sav (WS H G B) w w) := Lib.hid (Sav.of (Below.refl _ _))
  clear h hS hu
  obtain ⟨k0, _, _, k3, _, _, _, k7, _, _, _, _, _, _, _, _⟩ := HW.out.cells
  (try dsimp only at k3 k7)
  skip
  go_enter Tryz.func151, Tryz.ntmps151
  go_wp2_with fail
  refine wp_region_noPanic ?_
  refine wp_region_held_drew (S := (fun w' => w'.cell? ⟨B, 0, none⟩ = some (.pointer (some ⟨H, 0, none⟩)) ∧ w'.cell? ⟨B, 3, none⟩ = some (.int .i64 x.q2) ∧ w'.cell? ⟨B, 7, none⟩ = some (.int .u64 x.m2))) (by kernel_rfl) ?_ (fun hHeld => ?_)
  · exact ⟨k0, k3, k7⟩
  refine tk 0 rfl hHeld ?_
  refine tk 1 rfl hHeld ?_
  refine tk 2 rfl hHeld ?_
  refine tk 3 rfl hHeld ?_
  refine tk 4 rfl hHeld ?_
  refine tk 5 rfl hHeld ?_
  refine tk 6 rfl hHeld ?_
  refine tk 7 rfl hHeld ?_
  refine tk 8 rfl hHeld ?_
  refine tk 9 rfl hHeld ?_
  refine tk 10 rfl hHeld ?_
  refine tk 12 rfl hHeld ?_
  refine tk 13 rfl hHeld ?_
  refine tk 14 rfl hHeld ?_
  refine tk 15 rfl hHeld ?_
  refine tk 16 rfl hHeld ?_
  refine wpAnyH_ready (rs := [11]) (by kernel_rfl) (by simp) ?_
  refine AllReadyH.cons (o := _) rfl (fun K hK => ?_) AllReadyH.nil
  go_simp
  have HW0 := Lib.hid HW.out.drew; have HS0 : Hid (SpansAt _) := Lib.hid (show SpansAt w.drew from HS.out); have HQ0 : Hid (Sav (WS H G B) w w.drew) := Lib.hid (Sav.of (Below.refl _ _).drew)
  clear HW HS HQ
  refine (HPl.out _ HW0.out HS0.out).mono ?_
  rintro e V1 ⟨rfl, hb⟩
  have HW1 := Lib.hid (HW0.out.below hb); have HQ1 := Lib.hid (HQ0.out.trans (Sav.of hb))
  clear HW0 HQ0 HS0 hb HPl hHeld k0 k3 k7
  obtain ⟨k0, _, _, k3, _, _, _, k7, _, _, _, _, _, _, _, _⟩ := HW1.out.cells
  (try dsimp only at k3 k7)
  refine hK.out _ _ ?_ (fun hHeld => ?_)
  · exact ⟨k0, k3, k7⟩
  clear hK K
  try simp only [Act.put, List.setIfInBounds_toArray, List.set_cons_zero, List.set_cons_succ]
  refine wpAnyH_ready (rs := [17]) (by kernel_rfl) (by simp) ?_
  refine AllReadyH.cons (o := _) rfl (fun K hK => ?_) AllReadyH.nil
  go_simp
  refine (HD.out _ HW1.out.hand).mono ?_
  rintro e V2 ⟨rfl, hF, hs⟩
  have HW2 := Lib.hid (HW1.out.handed hF hs); have HQ2 := Lib.hid (HQ1.out.trans (hgWS hs))
  clear HW1 HQ1 HD hF hs hHeld k0 k3 k7
  obtain ⟨k0, _, _, k3, _, _, _, k7, _, _, _, _, _, _, _, _⟩ := HW2.out.cells
  (try dsimp only at k3 k7)
  refine hK.out _ _ ?_ (fun hHeld => ?_)
  · exact ⟨k0, k3, k7⟩
  clear hK K
  try simp only [Act.put, List.setIfInBounds_toArray, List.set_cons_zero, List.set_cons_succ]
  refine wpAnyH_done (by kernel_rfl) ?_ _
  refine NoPanic.normal ?_
  clear hHeld k0 k3 k7
  obtain ⟨c0, c1, c2, c3, c4, c5, c6, c7, c8, c9, c10, c11, c12, c13, c14, cf⟩ := HW2.out.cells
  (try dsimp only at c1 c2 c3 c4 c5 c6 c7 c8 c9 c10 c11 c12 c13)
  go_wp2_with fail
  refine (succeed_c HW2.out x.m2 hxm2).mono ?_
  rintro e V ⟨rfl, hW, hs⟩
  have HWz := Lib.hid hW; have HQz := Lib.hid (HQ2.out.trans hs)
  clear hW hs HW2 HQ2 c0 c1 c2 c3 c4 c5 c6 c7 c8 c9 c10 c11 c12 c13 c14 cf
  go_wp2_with fail
  go_ret
  exact ⟨rfl, HWz.out, HQz.out⟩
end Go.Proofs.YtbpooljohjkbjaaGreatDoor
