/- What a line of layer 14's own does: set, move, moved, out, into, part, bring. -/
import Derived.Test.YtbpkdihonemogaaGreatDoorM8
namespace Go.Proofs.YtbpkdihonemogaaGreatDoor
open Go Go.RowKit
set_option maxRecDepth 100000
attribute [local go_sem ↓] Go.wp_at_zero Go.wp_at_succ

set_option maxHeartbeats 3200000 in
theorem own_set {w : World} {B H A G : Nat} {C : Cf} {m : Int} {s : Dy} {x : Mu} (h : WkAt w B H A G C m s x) (hu : s.U) (hx : x.U) (hS : SpansAt w) (hq3 : x.q3 ≤ 9223372036854775807) :
    Calls Tryz.prog 99 #[.pointer (some ⟨B, 0, none⟩)] w (WPost w B H A G C m (.bool true) (s.act C 2 (regP C.a C.b C.c C.d m x.q2) (atomW x.q3) 0) { x with l := 90, rt := 1 }) := by
  obtain ⟨hxm1, hxm2, hxm3, _⟩ := hx
  have HPl : Hid (∀ W, WkAt W B H A G C m s x → SpansAt W → Calls Tryz.prog 129 #[.pointer (some ⟨B, 0, none⟩), .int .i64 x.q2] W fun e w' => e = .returned (.int .i64 (regP C.a C.b C.c C.d m x.q2)) ∧ Below W.heap.size W w') := Lib.hid (fun W h1 h2 => reg_c h1 h2 x.q2)
  have HAt' : Hid (∀ W, Calls Tryz.prog 80 #[.int .i64 x.q3] W fun e w' => e = .returned (.int .u64 (atomW x.q3)) ∧ W = w') := Lib.hid (fun W => atom_i x.q3 hq3 W)
  generalize (atomW x.q3) = AW at *
  generalize hP : (regP C.a C.b C.c C.d m x.q2) = P at *
  have HD : Hid (∀ W, HAt W H A G C s → Calls Tryz.prog 97 #[.pointer (some ⟨H, 0, none⟩), .int .i64 P, .int .u64 AW] W (HP W H A G C (s.act C 2 P AW 0) (.tuple #[]))) := Lib.hid (fun W hW => hStore_c (w := W) hW hu P AW)
  generalize (s.act C 2 P AW 0) = s' at *
  have HW := Lib.hid h; have HS := Lib.hid hS
  have HQ : Hid (Sav (WS H G B) w w) := Lib.hid (Sav.of (Below.refl _ _))
  clear h hS hu
  obtain ⟨k0, _, _, k3, k4, _, _, _, _, _, _, _, _, _, _, _⟩ := HW.out.cells
  (try dsimp only at k3 k4)
  skip
  go_enter Tryz.func99, Tryz.ntmps99
  go_wp2_with fail
  refine wp_region_noPanic ?_
  refine wp_region_held_drew (S := (fun w' => w'.cell? ⟨B, 0, none⟩ = some (.pointer (some ⟨H, 0, none⟩)) ∧ w'.cell? ⟨B, 3, none⟩ = some (.int .i64 x.q2) ∧ w'.cell? ⟨B, 4, none⟩ = some (.int .i64 x.q3))) (by kernel_rfl) ?_ (fun hHeld => ?_)
  · exact ⟨k0, k3, k4⟩
  refine wpAnyH_take (i := 0) (oi := { dst := some 3, op := Op.move (Operand.tmp 0), type := 127, pos := "lisp.go:164", after := #[], guard := none }) (v := ?vq0) rfl (by kernel_rfl) (by kernel_rfl) (by kernel_rfl) (fun _ _ _ h => h) (Or.inl ⟨by rfl, ?hyq0⟩) hHeld ?_
  case hyq0 => (intro w hSw; (try dsimp only at hSw); go_simp; (try with_reducible rfl))
  try simp only [Act.put, List.setIfInBounds_toArray, List.set_cons_zero, List.set_cons_succ]
  refine wpAnyH_take (i := 1) (oi := { dst := some 4, op := Op.nilCheck (Operand.tmp 3), type := 0, pos := "lisp.go:164", after := #[{ on := 0, ground := Ground.data }], guard := none }) (v := ?vq1) rfl (by kernel_rfl) (by kernel_rfl) (by kernel_rfl) (fun _ _ _ h => h) (Or.inl ⟨by rfl, ?hyq1⟩) hHeld ?_
  case hyq1 => (intro w hSw; (try dsimp only at hSw); go_simp; (try with_reducible rfl))
  try simp only [Act.put, List.setIfInBounds_toArray, List.set_cons_zero, List.set_cons_succ]
  refine wpAnyH_take (i := 2) (oi := { dst := some 5, op := Op.fieldAddr 126 (Operand.tmp 4) 0, type := 0, pos := "lisp.go:164", after := #[{ on := 1, ground := Ground.data }], guard := none }) (v := ?vq2) rfl (by kernel_rfl) (by kernel_rfl) (by kernel_rfl) (fun _ _ _ h => h) (Or.inl ⟨by rfl, ?hyq2⟩) hHeld ?_
  case hyq2 => (intro w hSw; (try dsimp only at hSw); go_simp; (try with_reducible rfl))
  try simp only [Act.put, List.setIfInBounds_toArray, List.set_cons_zero, List.set_cons_succ]
  refine wpAnyH_take (i := 3) (oi := { dst := some 6, op := Op.load 43 (Operand.tmp 5), type := 43, pos := "lisp.go:164", after := #[{ on := 2, ground := Ground.data }], guard := none }) (v := ?vq3) rfl (by kernel_rfl) (by kernel_rfl) (by kernel_rfl) (fun _ _ _ h => h) (Or.inl ⟨by rfl, ?hyq3⟩) hHeld ?_
  case hyq3 => (intro w hSw; (try dsimp only at hSw); go_simp; (try with_reducible rfl))
  try simp only [Act.put, List.setIfInBounds_toArray, List.set_cons_zero, List.set_cons_succ]
  refine wpAnyH_take (i := 4) (oi := { dst := some 7, op := Op.move (Operand.tmp 0), type := 127, pos := "lisp.go:164", after := #[], guard := none }) (v := ?vq4) rfl (by kernel_rfl) (by kernel_rfl) (by kernel_rfl) (fun _ _ _ h => h) (Or.inl ⟨by rfl, ?hyq4⟩) hHeld ?_
  case hyq4 => (intro w hSw; (try dsimp only at hSw); go_simp; (try with_reducible rfl))
  try simp only [Act.put, List.setIfInBounds_toArray, List.set_cons_zero, List.set_cons_succ]
  refine wpAnyH_take (i := 5) (oi := { dst := some 8, op := Op.move (Operand.tmp 0), type := 127, pos := "lisp.go:164", after := #[], guard := none }) (v := ?vq5) rfl (by kernel_rfl) (by kernel_rfl) (by kernel_rfl) (fun _ _ _ h => h) (Or.inl ⟨by rfl, ?hyq5⟩) hHeld ?_
  case hyq5 => (intro w hSw; (try dsimp only at hSw); go_simp; (try with_reducible rfl))
  try simp only [Act.put, List.setIfInBounds_toArray, List.set_cons_zero, List.set_cons_succ]
  refine wpAnyH_take (i := 6) (oi := { dst := some 9, op := Op.nilCheck (Operand.tmp 8), type := 0, pos := "lisp.go:164", after := #[{ on := 5, ground := Ground.data }], guard := none }) (v := ?vq6) rfl (by kernel_rfl) (by kernel_rfl) (by kernel_rfl) (fun _ _ _ h => h) (Or.inl ⟨by rfl, ?hyq6⟩) hHeld ?_
  case hyq6 => (intro w hSw; (try dsimp only at hSw); go_simp; (try with_reducible rfl))
  try simp only [Act.put, List.setIfInBounds_toArray, List.set_cons_zero, List.set_cons_succ]
  refine wpAnyH_take (i := 7) (oi := { dst := some 10, op := Op.fieldAddr 126 (Operand.tmp 9) 1, type := 0, pos := "lisp.go:164", after := #[{ on := 6, ground := Ground.data }], guard := none }) (v := ?vq7) rfl (by kernel_rfl) (by kernel_rfl) (by kernel_rfl) (fun _ _ _ h => h) (Or.inl ⟨by rfl, ?hyq7⟩) hHeld ?_
  case hyq7 => (intro w hSw; (try dsimp only at hSw); go_simp; (try with_reducible rfl))
  try simp only [Act.put, List.setIfInBounds_toArray, List.set_cons_zero, List.set_cons_succ]
  refine wpAnyH_take (i := 8) (oi := { dst := some 11, op := Op.fieldAddr 30 (Operand.tmp 10) 1, type := 0, pos := "lisp.go:164", after := #[{ on := 7, ground := Ground.data }], guard := none }) (v := ?vq8) rfl (by kernel_rfl) (by kernel_rfl) (by kernel_rfl) (fun _ _ _ h => h) (Or.inl ⟨by rfl, ?hyq8⟩) hHeld ?_
  case hyq8 => (intro w hSw; (try dsimp only at hSw); go_simp; (try with_reducible rfl))
  try simp only [Act.put, List.setIfInBounds_toArray, List.set_cons_zero, List.set_cons_succ]
  refine wpAnyH_take (i := 9) (oi := { dst := some 12, op := Op.fieldAddr 26 (Operand.tmp 11) 1, type := 0, pos := "lisp.go:164", after := #[{ on := 8, ground := Ground.data }], guard := none }) (v := ?vq9) rfl (by kernel_rfl) (by kernel_rfl) (by kernel_rfl) (fun _ _ _ h => h) (Or.inl ⟨by rfl, ?hyq9⟩) hHeld ?_
  case hyq9 => (intro w hSw; (try dsimp only at hSw); go_simp; (try with_reducible rfl))
  try simp only [Act.put, List.setIfInBounds_toArray, List.set_cons_zero, List.set_cons_succ]
  refine wpAnyH_take (i := 10) (oi := { dst := some 13, op := Op.load 3 (Operand.tmp 12), type := 3, pos := "lisp.go:164", after := #[{ on := 9, ground := Ground.data }], guard := none }) (v := ?vq10) rfl (by kernel_rfl) (by kernel_rfl) (by kernel_rfl) (fun _ _ _ h => h) (Or.inl ⟨by rfl, ?hyq10⟩) hHeld ?_
  case hyq10 => (intro w hSw; (try dsimp only at hSw); go_simp; (try with_reducible rfl))
  try simp only [Act.put, List.setIfInBounds_toArray, List.set_cons_zero, List.set_cons_succ]
  refine wpAnyH_take (i := 12) (oi := { dst := some 15, op := Op.move (Operand.tmp 0), type := 127, pos := "lisp.go:164", after := #[], guard := none }) (v := ?vq12) rfl (by kernel_rfl) (by kernel_rfl) (by kernel_rfl) (fun _ _ _ h => h) (Or.inl ⟨by rfl, ?hyq12⟩) hHeld ?_
  case hyq12 => (intro w hSw; (try dsimp only at hSw); go_simp; (try with_reducible rfl))
  try simp only [Act.put, List.setIfInBounds_toArray, List.set_cons_zero, List.set_cons_succ]
  refine wpAnyH_take (i := 13) (oi := { dst := some 16, op := Op.nilCheck (Operand.tmp 15), type := 0, pos := "lisp.go:164", after := #[{ on := 12, ground := Ground.data }], guard := none }) (v := ?vq13) rfl (by kernel_rfl) (by kernel_rfl) (by kernel_rfl) (fun _ _ _ h => h) (Or.inl ⟨by rfl, ?hyq13⟩) hHeld ?_
  case hyq13 => (intro w hSw; (try dsimp only at hSw); go_simp; (try with_reducible rfl))
  try simp only [Act.put, List.setIfInBounds_toArray, List.set_cons_zero, List.set_cons_succ]
  refine wpAnyH_take (i := 14) (oi := { dst := some 17, op := Op.fieldAddr 126 (Operand.tmp 16) 1, type := 0, pos := "lisp.go:164", after := #[{ on := 13, ground := Ground.data }], guard := none }) (v := ?vq14) rfl (by kernel_rfl) (by kernel_rfl) (by kernel_rfl) (fun _ _ _ h => h) (Or.inl ⟨by rfl, ?hyq14⟩) hHeld ?_
  case hyq14 => (intro w hSw; (try dsimp only at hSw); go_simp; (try with_reducible rfl))
  try simp only [Act.put, List.setIfInBounds_toArray, List.set_cons_zero, List.set_cons_succ]
  refine wpAnyH_take (i := 15) (oi := { dst := some 18, op := Op.fieldAddr 30 (Operand.tmp 17) 1, type := 0, pos := "lisp.go:164", after := #[{ on := 14, ground := Ground.data }], guard := none }) (v := ?vq15) rfl (by kernel_rfl) (by kernel_rfl) (by kernel_rfl) (fun _ _ _ h => h) (Or.inl ⟨by rfl, ?hyq15⟩) hHeld ?_
  case hyq15 => (intro w hSw; (try dsimp only at hSw); go_simp; (try with_reducible rfl))
  try simp only [Act.put, List.setIfInBounds_toArray, List.set_cons_zero, List.set_cons_succ]
  refine wpAnyH_take (i := 16) (oi := { dst := some 19, op := Op.fieldAddr 26 (Operand.tmp 18) 2, type := 0, pos := "lisp.go:164", after := #[{ on := 15, ground := Ground.data }], guard := none }) (v := ?vq16) rfl (by kernel_rfl) (by kernel_rfl) (by kernel_rfl) (fun _ _ _ h => h) (Or.inl ⟨by rfl, ?hyq16⟩) hHeld ?_
  case hyq16 => (intro w hSw; (try dsimp only at hSw); go_simp; (try with_reducible rfl))
  try simp only [Act.put, List.setIfInBounds_toArray, List.set_cons_zero, List.set_cons_succ]
  refine wpAnyH_take (i := 17) (oi := { dst := some 20, op := Op.load 3 (Operand.tmp 19), type := 3, pos := "lisp.go:164", after := #[{ on := 16, ground := Ground.data }], guard := none }) (v := ?vq17) rfl (by kernel_rfl) (by kernel_rfl) (by kernel_rfl) (fun _ _ _ h => h) (Or.inl ⟨by rfl, ?hyq17⟩) hHeld ?_
  case hyq17 => (intro w hSw; (try dsimp only at hSw); go_simp; (try with_reducible rfl))
  try simp only [Act.put, List.setIfInBounds_toArray, List.set_cons_zero, List.set_cons_succ]
  refine wpAnyH_ready (rs := [11]) (by kernel_rfl) (by simp) ?_
  refine AllReadyH.cons (o := { dst := some 14, op := Op.call { callee := Callee.value (Operand.func 129), args := #[Operand.tmp 7, Operand.tmp 13], argTypes := #[127, 3] }, type := 3, pos := "lisp.go:164", after := #[{ on := 4, ground := Ground.data }, { on := 10, ground := Ground.data }], guard := none }) rfl (fun K hK => ?_) AllReadyH.nil
  go_simp
  have HW0 := Lib.hid HW.out.drew; have HS0 : Hid (SpansAt _) := Lib.hid (show SpansAt w.drew from HS.out); have HQ0 : Hid (Sav (WS H G B) w w.drew) := Lib.hid (Sav.of (Below.refl _ _).drew)
  clear HW HS HQ
  refine (HPl.out _ HW0.out HS0.out).mono ?_
  rintro e V1 ⟨rfl, hb⟩
  have HW1 := Lib.hid (HW0.out.below hb); have HQ1 := Lib.hid (HQ0.out.trans (Sav.of hb))
  clear HW0 HQ0 HS0 hb HPl hHeld k0 k3 k4
  obtain ⟨k0, _, _, k3, k4, _, _, _, _, _, _, _, _, _, _, _⟩ := HW1.out.cells
  (try dsimp only at k3 k4)
  refine hK.out _ _ ?_ (fun hHeld => ?_)
  · exact ⟨k0, k3, k4⟩
  clear hK K
  try simp only [Act.put, List.setIfInBounds_toArray, List.set_cons_zero, List.set_cons_succ]
  refine wpAnyH_ready (rs := [18]) (by kernel_rfl) (by simp) ?_
  refine AllReadyH.cons (o := { dst := some 21, op := Op.call { callee := Callee.value (Operand.func 80), args := #[Operand.tmp 20], argTypes := #[3] }, type := 28, pos := "lisp.go:164", after := #[{ on := 17, ground := Ground.data }, { on := 11, ground := Ground.chain }], guard := none }) rfl (fun K hK => ?_) AllReadyH.nil
  go_simp
  refine (HAt'.out _).mono ?_
  rintro e V1' ⟨rfl, rfl⟩
  clear HAt'
  refine hK.out _ _ ?_ (fun hHeld => ?_)
  · exact ⟨k0, k3, k4⟩
  clear hK K
  try simp only [Act.put, List.setIfInBounds_toArray, List.set_cons_zero, List.set_cons_succ]
  refine wpAnyH_ready (rs := [19]) (by kernel_rfl) (by simp) ?_
  refine AllReadyH.cons (o := { dst := some 22, op := Op.call { callee := Callee.value (Operand.func 97), args := #[Operand.tmp 6, Operand.tmp 14, Operand.tmp 21], argTypes := #[43, 3, 28] }, type := 0, pos := "lisp.go:164", after := #[{ on := 3, ground := Ground.data }, { on := 11, ground := Ground.data }, { on := 18, ground := Ground.data }, { on := 18, ground := Ground.chain }], guard := none }) rfl (fun K hK => ?_) AllReadyH.nil
  go_simp
  refine (HD.out _ HW1.out.hand).mono ?_
  rintro e V2 ⟨rfl, hF, hs⟩
  have HW2 := Lib.hid (HW1.out.handed hF hs); have HQ2 := Lib.hid (HQ1.out.trans (hgWS hs))
  clear HW1 HQ1 HD hF hs hHeld k0 k3 k4
  obtain ⟨k0, _, _, k3, k4, _, _, _, _, _, _, _, _, _, _, _⟩ := HW2.out.cells
  (try dsimp only at k3 k4)
  refine hK.out _ _ ?_ (fun hHeld => ?_)
  · exact ⟨k0, k3, k4⟩
  clear hK K
  try simp only [Act.put, List.setIfInBounds_toArray, List.set_cons_zero, List.set_cons_succ]
  refine wpAnyH_done (by kernel_rfl) ?_ _
  refine NoPanic.normal ?_
  clear hHeld k0 k3 k4
  obtain ⟨c0, c1, c2, c3, c4, c5, c6, c7, c8, c9, c10, c11, c12, c13, c14, cf⟩ := HW2.out.cells
  (try dsimp only at c1 c2 c3 c4 c5 c6 c7 c8 c9 c10 c11 c12 c13)
  go_wp2_with fail
  refine (end_c HW2.out 1).mono ?_
  rintro e V ⟨rfl, hW, hs⟩
  have HWz := Lib.hid hW; have HQz := Lib.hid (HQ2.out.trans hs)
  clear hW hs HW2 HQ2 c0 c1 c2 c3 c4 c5 c6 c7 c8 c9 c10 c11 c12 c13 c14 cf
  go_wp2_with fail
  go_ret
  exact ⟨rfl, HWz.out, HQz.out⟩
set_option maxHeartbeats 3200000 in
theorem own_move {w : World} {B H A G : Nat} {C : Cf} {m : Int} {s : Dy} {x : Mu} (h : WkAt w B H A G C m s x) (hu : s.U) (hx : x.U) (hS : SpansAt w) :
    Calls Tryz.prog 100 #[.pointer (some ⟨B, 0, none⟩)] w (WPost w B H A G C m (.bool false) (s.act C 1 (regP C.a C.b C.c C.d m x.q3) 0 0) { x with l := 12, m1 := (ldP C s (regP C.a C.b C.c C.d m x.q3)) }) := by
  obtain ⟨hxm1, hxm2, hxm3, _⟩ := hx
  have HPl : Hid (∀ W, WkAt W B H A G C m s x → SpansAt W → Calls Tryz.prog 129 #[.pointer (some ⟨B, 0, none⟩), .int .i64 x.q3] W fun e w' => e = .returned (.int .i64 (regP C.a C.b C.c C.d m x.q3)) ∧ Below W.heap.size W w') := Lib.hid (fun W h1 h2 => reg_c h1 h2 x.q3)
  have hzU : U64 (ldP C s (regP C.a C.b C.c C.d m x.q3)) := ldP_U hu _
  unfold ldP at *
  generalize hP : (regP C.a C.b C.c C.d m x.q3) = P at *
  have HD : Hid (∀ W, HAt W H A G C s → Calls Tryz.prog 92 #[.pointer (some ⟨H, 0, none⟩), .int .i64 P] W (HP W H A G C (s.act C 1 P 0 0) (.int .u64 (z5 C.n 1 P (s.f P.toNat))))) := Lib.hid (fun W hW => hLoad_c (w := W) hW hu P)
  generalize (s.act C 1 P 0 0) = s' at *
  generalize (z5 C.n 1 P (s.f P.toNat)) = Z at *
  have HW := Lib.hid h; have HS := Lib.hid hS
  have HQ : Hid (Sav (WS H G B) w w) := Lib.hid (Sav.of (Below.refl _ _))
  clear h hS hu
  obtain ⟨k0, _, _, _, k4, _, _, _, _, _, _, _, _, _, _, _⟩ := HW.out.cells
  (try dsimp only at k4)
  skip
  go_enter Tryz.func100, Tryz.ntmps100
  go_wp2_with fail
  refine wp_region_noPanic ?_
  refine wp_region_held_drew (S := (fun w' => w'.cell? ⟨B, 0, none⟩ = some (.pointer (some ⟨H, 0, none⟩)) ∧ w'.cell? ⟨B, 4, none⟩ = some (.int .i64 x.q3))) (by kernel_rfl) ?_ (fun hHeld => ?_)
  · exact ⟨k0, k4⟩
  refine wpAnyH_take (i := 0) (oi := { dst := some 3, op := Op.move (Operand.tmp 0), type := 127, pos := "lisp.go:169", after := #[], guard := none }) (v := ?vq0) rfl (by kernel_rfl) (by kernel_rfl) (by kernel_rfl) (fun _ _ _ h => h) (Or.inl ⟨by rfl, ?hyq0⟩) hHeld ?_
  case hyq0 => (intro w hSw; (try dsimp only at hSw); go_simp; (try with_reducible rfl))
  try simp only [Act.put, List.setIfInBounds_toArray, List.set_cons_zero, List.set_cons_succ]
  refine wpAnyH_take (i := 1) (oi := { dst := some 4, op := Op.move (Operand.tmp 0), type := 127, pos := "lisp.go:169", after := #[], guard := none }) (v := ?vq1) rfl (by kernel_rfl) (by kernel_rfl) (by kernel_rfl) (fun _ _ _ h => h) (Or.inl ⟨by rfl, ?hyq1⟩) hHeld ?_
  case hyq1 => (intro w hSw; (try dsimp only at hSw); go_simp; (try with_reducible rfl))
  try simp only [Act.put, List.setIfInBounds_toArray, List.set_cons_zero, List.set_cons_succ]
  refine wpAnyH_take (i := 2) (oi := { dst := some 5, op := Op.nilCheck (Operand.tmp 4), type := 0, pos := "lisp.go:169", after := #[{ on := 1, ground := Ground.data }], guard := none }) (v := ?vq2) rfl (by kernel_rfl) (by kernel_rfl) (by kernel_rfl) (fun _ _ _ h => h) (Or.inl ⟨by rfl, ?hyq2⟩) hHeld ?_
  case hyq2 => (intro w hSw; (try dsimp only at hSw); go_simp; (try with_reducible rfl))
  try simp only [Act.put, List.setIfInBounds_toArray, List.set_cons_zero, List.set_cons_succ]
  refine wpAnyH_take (i := 3) (oi := { dst := some 6, op := Op.fieldAddr 126 (Operand.tmp 5) 0, type := 0, pos := "lisp.go:169", after := #[{ on := 2, ground := Ground.data }], guard := none }) (v := ?vq3) rfl (by kernel_rfl) (by kernel_rfl) (by kernel_rfl) (fun _ _ _ h => h) (Or.inl ⟨by rfl, ?hyq3⟩) hHeld ?_
  case hyq3 => (intro w hSw; (try dsimp only at hSw); go_simp; (try with_reducible rfl))
  try simp only [Act.put, List.setIfInBounds_toArray, List.set_cons_zero, List.set_cons_succ]
  refine wpAnyH_take (i := 4) (oi := { dst := some 7, op := Op.load 43 (Operand.tmp 6), type := 43, pos := "lisp.go:169", after := #[{ on := 3, ground := Ground.data }], guard := none }) (v := ?vq4) rfl (by kernel_rfl) (by kernel_rfl) (by kernel_rfl) (fun _ _ _ h => h) (Or.inl ⟨by rfl, ?hyq4⟩) hHeld ?_
  case hyq4 => (intro w hSw; (try dsimp only at hSw); go_simp; (try with_reducible rfl))
  try simp only [Act.put, List.setIfInBounds_toArray, List.set_cons_zero, List.set_cons_succ]
  refine wpAnyH_take (i := 5) (oi := { dst := some 8, op := Op.move (Operand.tmp 0), type := 127, pos := "lisp.go:169", after := #[], guard := none }) (v := ?vq5) rfl (by kernel_rfl) (by kernel_rfl) (by kernel_rfl) (fun _ _ _ h => h) (Or.inl ⟨by rfl, ?hyq5⟩) hHeld ?_
  case hyq5 => (intro w hSw; (try dsimp only at hSw); go_simp; (try with_reducible rfl))
  try simp only [Act.put, List.setIfInBounds_toArray, List.set_cons_zero, List.set_cons_succ]
  refine wpAnyH_take (i := 6) (oi := { dst := some 9, op := Op.move (Operand.tmp 0), type := 127, pos := "lisp.go:169", after := #[], guard := none }) (v := ?vq6) rfl (by kernel_rfl) (by kernel_rfl) (by kernel_rfl) (fun _ _ _ h => h) (Or.inl ⟨by rfl, ?hyq6⟩) hHeld ?_
  case hyq6 => (intro w hSw; (try dsimp only at hSw); go_simp; (try with_reducible rfl))
  try simp only [Act.put, List.setIfInBounds_toArray, List.set_cons_zero, List.set_cons_succ]
  refine wpAnyH_take (i := 7) (oi := { dst := some 10, op := Op.nilCheck (Operand.tmp 9), type := 0, pos := "lisp.go:169", after := #[{ on := 6, ground := Ground.data }], guard := none }) (v := ?vq7) rfl (by kernel_rfl) (by kernel_rfl) (by kernel_rfl) (fun _ _ _ h => h) (Or.inl ⟨by rfl, ?hyq7⟩) hHeld ?_
  case hyq7 => (intro w hSw; (try dsimp only at hSw); go_simp; (try with_reducible rfl))
  try simp only [Act.put, List.setIfInBounds_toArray, List.set_cons_zero, List.set_cons_succ]
  refine wpAnyH_take (i := 8) (oi := { dst := some 11, op := Op.fieldAddr 126 (Operand.tmp 10) 1, type := 0, pos := "lisp.go:169", after := #[{ on := 7, ground := Ground.data }], guard := none }) (v := ?vq8) rfl (by kernel_rfl) (by kernel_rfl) (by kernel_rfl) (fun _ _ _ h => h) (Or.inl ⟨by rfl, ?hyq8⟩) hHeld ?_
  case hyq8 => (intro w hSw; (try dsimp only at hSw); go_simp; (try with_reducible rfl))
  try simp only [Act.put, List.setIfInBounds_toArray, List.set_cons_zero, List.set_cons_succ]
  refine wpAnyH_take (i := 9) (oi := { dst := some 12, op := Op.fieldAddr 30 (Operand.tmp 11) 1, type := 0, pos := "lisp.go:169", after := #[{ on := 8, ground := Ground.data }], guard := none }) (v := ?vq9) rfl (by kernel_rfl) (by kernel_rfl) (by kernel_rfl) (fun _ _ _ h => h) (Or.inl ⟨by rfl, ?hyq9⟩) hHeld ?_
  case hyq9 => (intro w hSw; (try dsimp only at hSw); go_simp; (try with_reducible rfl))
  try simp only [Act.put, List.setIfInBounds_toArray, List.set_cons_zero, List.set_cons_succ]
  refine wpAnyH_take (i := 10) (oi := { dst := some 13, op := Op.fieldAddr 26 (Operand.tmp 12) 2, type := 0, pos := "lisp.go:169", after := #[{ on := 9, ground := Ground.data }], guard := none }) (v := ?vq10) rfl (by kernel_rfl) (by kernel_rfl) (by kernel_rfl) (fun _ _ _ h => h) (Or.inl ⟨by rfl, ?hyq10⟩) hHeld ?_
  case hyq10 => (intro w hSw; (try dsimp only at hSw); go_simp; (try with_reducible rfl))
  try simp only [Act.put, List.setIfInBounds_toArray, List.set_cons_zero, List.set_cons_succ]
  refine wpAnyH_take (i := 11) (oi := { dst := some 14, op := Op.load 3 (Operand.tmp 13), type := 3, pos := "lisp.go:169", after := #[{ on := 10, ground := Ground.data }], guard := none }) (v := ?vq11) rfl (by kernel_rfl) (by kernel_rfl) (by kernel_rfl) (fun _ _ _ h => h) (Or.inl ⟨by rfl, ?hyq11⟩) hHeld ?_
  case hyq11 => (intro w hSw; (try dsimp only at hSw); go_simp; (try with_reducible rfl))
  try simp only [Act.put, List.setIfInBounds_toArray, List.set_cons_zero, List.set_cons_succ]
  refine wpAnyH_ready (rs := [12]) (by kernel_rfl) (by simp) ?_
  refine AllReadyH.cons (o := { dst := some 15, op := Op.call { callee := Callee.value (Operand.func 129), args := #[Operand.tmp 8, Operand.tmp 14], argTypes := #[127, 3] }, type := 3, pos := "lisp.go:169", after := #[{ on := 5, ground := Ground.data }, { on := 11, ground := Ground.data }], guard := none }) rfl (fun K hK => ?_) AllReadyH.nil
  go_simp
  have HW0 := Lib.hid HW.out.drew; have HS0 : Hid (SpansAt _) := Lib.hid (show SpansAt w.drew from HS.out); have HQ0 : Hid (Sav (WS H G B) w w.drew) := Lib.hid (Sav.of (Below.refl _ _).drew)
  clear HW HS HQ
  refine (HPl.out _ HW0.out HS0.out).mono ?_
  rintro e V1 ⟨rfl, hb⟩
  have HW1 := Lib.hid (HW0.out.below hb); have HQ1 := Lib.hid (HQ0.out.trans (Sav.of hb))
  clear HW0 HQ0 HS0 hb HPl hHeld k0 k4
  obtain ⟨k0, _, _, _, k4, _, _, _, _, _, _, _, _, _, _, _⟩ := HW1.out.cells
  (try dsimp only at k4)
  refine hK.out _ _ ?_ (fun hHeld => ?_)
  · exact ⟨k0, k4⟩
  clear hK K
  try simp only [Act.put, List.setIfInBounds_toArray, List.set_cons_zero, List.set_cons_succ]
  refine wpAnyH_ready (rs := [13]) (by kernel_rfl) (by simp) ?_
  refine AllReadyH.cons (o := { dst := some 16, op := Op.call { callee := Callee.value (Operand.func 92), args := #[Operand.tmp 7, Operand.tmp 15], argTypes := #[43, 3] }, type := 28, pos := "lisp.go:169", after := #[{ on := 4, ground := Ground.data }, { on := 12, ground := Ground.data }, { on := 12, ground := Ground.chain }], guard := none }) rfl (fun K hK => ?_) AllReadyH.nil
  go_simp
  refine (HD.out _ HW1.out.hand).mono ?_
  rintro e V2 ⟨rfl, hF, hs⟩
  have HW2 := Lib.hid (HW1.out.handed hF hs); have HQ2 := Lib.hid (HQ1.out.trans (hgWS hs))
  clear HW1 HQ1 HD hF hs hHeld k0 k4
  obtain ⟨k0, _, _, _, k4, _, _, _, _, _, _, _, _, _, _, _⟩ := HW2.out.cells
  (try dsimp only at k4)
  obtain ⟨_, _, _, _, _, _, g6, g7, _, _, _, _, _, _, _, gf⟩ := HW2.out.cells
  (try dsimp only at g6 g7)
  refine hK.out _ _ ?_ (fun hHeld => ?_)
  · exact ⟨k0, k4⟩
  clear hK K
  try simp only [Act.put, List.setIfInBounds_toArray, List.set_cons_zero, List.set_cons_succ]
  refine wpAnyH_take (i := 14) (oi := { dst := some 17, op := Op.nilCheck (Operand.tmp 3), type := 0, pos := "lisp.go:169", after := #[{ on := 0, ground := Ground.data }, { on := 0, ground := Ground.phase }, { on := 1, ground := Ground.phase }, { on := 2, ground := Ground.phase }, { on := 3, ground := Ground.phase }, { on := 4, ground := Ground.phase }, { on := 5, ground := Ground.phase }, { on := 6, ground := Ground.phase }, { on := 7, ground := Ground.phase }, { on := 8, ground := Ground.phase }, { on := 9, ground := Ground.phase }, { on := 10, ground := Ground.phase }, { on := 11, ground := Ground.phase }, { on := 12, ground := Ground.phase }, { on := 13, ground := Ground.phase }], guard := none }) (v := ?vq14) rfl (by kernel_rfl) (by kernel_rfl) (by kernel_rfl) (fun _ _ _ h => h) (Or.inl ⟨by rfl, ?hyq14⟩) hHeld ?_
  case hyq14 => (intro w hSw; (try dsimp only at hSw); go_simp; (try with_reducible rfl))
  try simp only [Act.put, List.setIfInBounds_toArray, List.set_cons_zero, List.set_cons_succ]
  refine wpAnyH_take (i := 15) (oi := { dst := some 18, op := Op.fieldAddr 126 (Operand.tmp 17) 1, type := 0, pos := "lisp.go:169", after := #[{ on := 14, ground := Ground.data }, { on := 0, ground := Ground.phase }, { on := 1, ground := Ground.phase }, { on := 2, ground := Ground.phase }, { on := 3, ground := Ground.phase }, { on := 4, ground := Ground.phase }, { on := 5, ground := Ground.phase }, { on := 6, ground := Ground.phase }, { on := 7, ground := Ground.phase }, { on := 8, ground := Ground.phase }, { on := 9, ground := Ground.phase }, { on := 10, ground := Ground.phase }, { on := 11, ground := Ground.phase }, { on := 12, ground := Ground.phase }, { on := 13, ground := Ground.phase }], guard := none }) (v := ?vq15) rfl (by kernel_rfl) (by kernel_rfl) (by kernel_rfl) (fun _ _ _ h => h) (Or.inl ⟨by rfl, ?hyq15⟩) hHeld ?_
  case hyq15 => (intro w hSw; (try dsimp only at hSw); go_simp; (try with_reducible rfl))
  try simp only [Act.put, List.setIfInBounds_toArray, List.set_cons_zero, List.set_cons_succ]
  refine wpAnyH_take (i := 16) (oi := { dst := some 19, op := Op.fieldAddr 30 (Operand.tmp 18) 2, type := 0, pos := "lisp.go:169", after := #[{ on := 15, ground := Ground.data }, { on := 0, ground := Ground.phase }, { on := 1, ground := Ground.phase }, { on := 2, ground := Ground.phase }, { on := 3, ground := Ground.phase }, { on := 4, ground := Ground.phase }, { on := 5, ground := Ground.phase }, { on := 6, ground := Ground.phase }, { on := 7, ground := Ground.phase }, { on := 8, ground := Ground.phase }, { on := 9, ground := Ground.phase }, { on := 10, ground := Ground.phase }, { on := 11, ground := Ground.phase }, { on := 12, ground := Ground.phase }, { on := 13, ground := Ground.phase }], guard := none }) (v := ?vq16) rfl (by kernel_rfl) (by kernel_rfl) (by kernel_rfl) (fun _ _ _ h => h) (Or.inl ⟨by rfl, ?hyq16⟩) hHeld ?_
  case hyq16 => (intro w hSw; (try dsimp only at hSw); go_simp; (try with_reducible rfl))
  try simp only [Act.put, List.setIfInBounds_toArray, List.set_cons_zero, List.set_cons_succ]
  refine wpAnyH_ready (rs := [17]) (by kernel_rfl) (by simp) ?_
  refine AllReadyH.cons (o := { dst := none, op := Op.store 28 (Operand.tmp 19) (Operand.tmp 16), type := 0, pos := "lisp.go:169", after := #[{ on := 16, ground := Ground.data }, { on := 13, ground := Ground.data }, { on := 13, ground := Ground.chain }, { on := 0, ground := Ground.phase }, { on := 1, ground := Ground.phase }, { on := 2, ground := Ground.phase }, { on := 3, ground := Ground.phase }, { on := 4, ground := Ground.phase }, { on := 5, ground := Ground.phase }, { on := 6, ground := Ground.phase }, { on := 7, ground := Ground.phase }, { on := 8, ground := Ground.phase }, { on := 9, ground := Ground.phase }, { on := 10, ground := Ground.phase }, { on := 11, ground := Ground.phase }, { on := 12, ground := Ground.phase }, { on := 13, ground := Ground.phase }], guard := none }) rfl (fun K hK => ?_) AllReadyH.nil
  go_simp
  clear g6 g7 gf
  have HW3 := Lib.hid (HW2.out.setA Z); have HQ3 := Lib.hid (HQ2.out.set (p := ⟨B, 6, none⟩) (.inl (.inr rfl)) (.int .u64 Z))
  clear hHeld k0 k4
  obtain ⟨k0, _, _, _, k4, _, _, _, _, _, _, _, _, _, _, _⟩ := HW3.out.cells
  (try dsimp only at k4)
  clear HW2 HQ2
  refine hK.out _ _ ?_ (fun hHeld => ?_)
  · exact ⟨k0, k4⟩
  clear hK K
  try simp only [Act.put, List.setIfInBounds_toArray, List.set_cons_zero, List.set_cons_succ]
  refine wpAnyH_done (by kernel_rfl) ?_ _
  refine NoPanic.normal ?_
  clear hHeld k0 k4
  obtain ⟨c0, c1, c2, c3, c4, c5, c6, c7, c8, c9, c10, c11, c12, c13, c14, cf⟩ := HW3.out.cells
  (try dsimp only at c1 c2 c3 c4 c5 c6 c7 c8 c9 c10 c11 c12 c13)
  go_wp2_with fail
  refine (goOn_c' HW3.out 12).mono ?_
  rintro e V ⟨rfl, hW, hs⟩
  have HWz := Lib.hid hW; have HQz := Lib.hid (HQ3.out.trans hs)
  clear hW hs HW3 HQ3 c0 c1 c2 c3 c4 c5 c6 c7 c8 c9 c10 c11 c12 c13 c14 cf
  go_wp2_with fail
  go_ret
  exact ⟨rfl, HWz.out, HQz.out⟩
set_option maxHeartbeats 3200000 in
theorem own_moved {w : World} {B H A G : Nat} {C : Cf} {m : Int} {s : Dy} {x : Mu} (h : WkAt w B H A G C m s x) (hu : s.U) (hx : x.U) (hS : SpansAt w) :
    Calls Tryz.prog 101 #[.pointer (some ⟨B, 0, none⟩)] w (WPost w B H A G C m (.bool true) (s.act C 2 (regP C.a C.b C.c C.d m x.q2) x.m1 0) (begM { x with rt := 1 } x.m1 90)) := by
  obtain ⟨hxm1, hxm2, hxm3, _⟩ := hx
  have HPl : Hid (∀ W, WkAt W B H A G C m s x → SpansAt W → Calls Tryz.prog 129 #[.pointer (some ⟨B, 0, none⟩), .int .i64 x.q2] W fun e w' => e = .returned (.int .i64 (regP C.a C.b C.c C.d m x.q2)) ∧ Below W.heap.size W w') := Lib.hid (fun W h1 h2 => reg_c h1 h2 x.q2)
  generalize hP : (regP C.a C.b C.c C.d m x.q2) = P at *
  have HD : Hid (∀ W, HAt W H A G C s → Calls Tryz.prog 97 #[.pointer (some ⟨H, 0, none⟩), .int .i64 P, .int .u64 x.m1] W (HP W H A G C (s.act C 2 P x.m1 0) (.tuple #[]))) := Lib.hid (fun W hW => hStore_c (w := W) hW hu P x.m1)
  generalize (s.act C 2 P x.m1 0) = s' at *
  have HW := Lib.hid h; have HS := Lib.hid hS
  have HQ : Hid (Sav (WS H G B) w w) := Lib.hid (Sav.of (Below.refl _ _))
  clear h hS hu
  obtain ⟨k0, _, _, k3, _, _, k6, _, _, _, _, _, _, _, _, _⟩ := HW.out.cells
  (try dsimp only at k3 k6)
  skip
  go_enter Tryz.func101, Tryz.ntmps101
  go_wp2_with fail
  refine wp_region_noPanic ?_
  refine wp_region_held_drew (S := (fun w' => w'.cell? ⟨B, 0, none⟩ = some (.pointer (some ⟨H, 0, none⟩)) ∧ w'.cell? ⟨B, 3, none⟩ = some (.int .i64 x.q2) ∧ w'.cell? ⟨B, 6, none⟩ = some (.int .u64 x.m1))) (by kernel_rfl) ?_ (fun hHeld => ?_)
  · exact ⟨k0, k3, k6⟩
  refine wpAnyH_take (i := 0) (oi := { dst := some 3, op := Op.move (Operand.tmp 0), type := 127, pos := "lisp.go:174", after := #[], guard := none }) (v := ?vq0) rfl (by kernel_rfl) (by kernel_rfl) (by kernel_rfl) (fun _ _ _ h => h) (Or.inl ⟨by rfl, ?hyq0⟩) hHeld ?_
  case hyq0 => (intro w hSw; (try dsimp only at hSw); go_simp; (try with_reducible rfl))
  try simp only [Act.put, List.setIfInBounds_toArray, List.set_cons_zero, List.set_cons_succ]
  refine wpAnyH_take (i := 1) (oi := { dst := some 4, op := Op.nilCheck (Operand.tmp 3), type := 0, pos := "lisp.go:174", after := #[{ on := 0, ground := Ground.data }], guard := none }) (v := ?vq1) rfl (by kernel_rfl) (by kernel_rfl) (by kernel_rfl) (fun _ _ _ h => h) (Or.inl ⟨by rfl, ?hyq1⟩) hHeld ?_
  case hyq1 => (intro w hSw; (try dsimp only at hSw); go_simp; (try with_reducible rfl))
  try simp only [Act.put, List.setIfInBounds_toArray, List.set_cons_zero, List.set_cons_succ]
  refine wpAnyH_take (i := 2) (oi := { dst := some 5, op := Op.fieldAddr 126 (Operand.tmp 4) 0, type := 0, pos := "lisp.go:174", after := #[{ on := 1, ground := Ground.data }], guard := none }) (v := ?vq2) rfl (by kernel_rfl) (by kernel_rfl) (by kernel_rfl) (fun _ _ _ h => h) (Or.inl ⟨by rfl, ?hyq2⟩) hHeld ?_
  case hyq2 => (intro w hSw; (try dsimp only at hSw); go_simp; (try with_reducible rfl))
  try simp only [Act.put, List.setIfInBounds_toArray, List.set_cons_zero, List.set_cons_succ]
  refine wpAnyH_take (i := 3) (oi := { dst := some 6, op := Op.load 43 (Operand.tmp 5), type := 43, pos := "lisp.go:174", after := #[{ on := 2, ground := Ground.data }], guard := none }) (v := ?vq3) rfl (by kernel_rfl) (by kernel_rfl) (by kernel_rfl) (fun _ _ _ h => h) (Or.inl ⟨by rfl, ?hyq3⟩) hHeld ?_
  case hyq3 => (intro w hSw; (try dsimp only at hSw); go_simp; (try with_reducible rfl))
  try simp only [Act.put, List.setIfInBounds_toArray, List.set_cons_zero, List.set_cons_succ]
  refine wpAnyH_take (i := 4) (oi := { dst := some 7, op := Op.move (Operand.tmp 0), type := 127, pos := "lisp.go:174", after := #[], guard := none }) (v := ?vq4) rfl (by kernel_rfl) (by kernel_rfl) (by kernel_rfl) (fun _ _ _ h => h) (Or.inl ⟨by rfl, ?hyq4⟩) hHeld ?_
  case hyq4 => (intro w hSw; (try dsimp only at hSw); go_simp; (try with_reducible rfl))
  try simp only [Act.put, List.setIfInBounds_toArray, List.set_cons_zero, List.set_cons_succ]
  refine wpAnyH_take (i := 5) (oi := { dst := some 8, op := Op.move (Operand.tmp 0), type := 127, pos := "lisp.go:174", after := #[], guard := none }) (v := ?vq5) rfl (by kernel_rfl) (by kernel_rfl) (by kernel_rfl) (fun _ _ _ h => h) (Or.inl ⟨by rfl, ?hyq5⟩) hHeld ?_
  case hyq5 => (intro w hSw; (try dsimp only at hSw); go_simp; (try with_reducible rfl))
  try simp only [Act.put, List.setIfInBounds_toArray, List.set_cons_zero, List.set_cons_succ]
  refine wpAnyH_take (i := 6) (oi := { dst := some 9, op := Op.nilCheck (Operand.tmp 8), type := 0, pos := "lisp.go:174", after := #[{ on := 5, ground := Ground.data }], guard := none }) (v := ?vq6) rfl (by kernel_rfl) (by kernel_rfl) (by kernel_rfl) (fun _ _ _ h => h) (Or.inl ⟨by rfl, ?hyq6⟩) hHeld ?_
  case hyq6 => (intro w hSw; (try dsimp only at hSw); go_simp; (try with_reducible rfl))
  try simp only [Act.put, List.setIfInBounds_toArray, List.set_cons_zero, List.set_cons_succ]
  refine wpAnyH_take (i := 7) (oi := { dst := some 10, op := Op.fieldAddr 126 (Operand.tmp 9) 1, type := 0, pos := "lisp.go:174", after := #[{ on := 6, ground := Ground.data }], guard := none }) (v := ?vq7) rfl (by kernel_rfl) (by kernel_rfl) (by kernel_rfl) (fun _ _ _ h => h) (Or.inl ⟨by rfl, ?hyq7⟩) hHeld ?_
  case hyq7 => (intro w hSw; (try dsimp only at hSw); go_simp; (try with_reducible rfl))
  try simp only [Act.put, List.setIfInBounds_toArray, List.set_cons_zero, List.set_cons_succ]
  refine wpAnyH_take (i := 8) (oi := { dst := some 11, op := Op.fieldAddr 30 (Operand.tmp 10) 1, type := 0, pos := "lisp.go:174", after := #[{ on := 7, ground := Ground.data }], guard := none }) (v := ?vq8) rfl (by kernel_rfl) (by kernel_rfl) (by kernel_rfl) (fun _ _ _ h => h) (Or.inl ⟨by rfl, ?hyq8⟩) hHeld ?_
  case hyq8 => (intro w hSw; (try dsimp only at hSw); go_simp; (try with_reducible rfl))
  try simp only [Act.put, List.setIfInBounds_toArray, List.set_cons_zero, List.set_cons_succ]
  refine wpAnyH_take (i := 9) (oi := { dst := some 12, op := Op.fieldAddr 26 (Operand.tmp 11) 1, type := 0, pos := "lisp.go:174", after := #[{ on := 8, ground := Ground.data }], guard := none }) (v := ?vq9) rfl (by kernel_rfl) (by kernel_rfl) (by kernel_rfl) (fun _ _ _ h => h) (Or.inl ⟨by rfl, ?hyq9⟩) hHeld ?_
  case hyq9 => (intro w hSw; (try dsimp only at hSw); go_simp; (try with_reducible rfl))
  try simp only [Act.put, List.setIfInBounds_toArray, List.set_cons_zero, List.set_cons_succ]
  refine wpAnyH_take (i := 10) (oi := { dst := some 13, op := Op.load 3 (Operand.tmp 12), type := 3, pos := "lisp.go:174", after := #[{ on := 9, ground := Ground.data }], guard := none }) (v := ?vq10) rfl (by kernel_rfl) (by kernel_rfl) (by kernel_rfl) (fun _ _ _ h => h) (Or.inl ⟨by rfl, ?hyq10⟩) hHeld ?_
  case hyq10 => (intro w hSw; (try dsimp only at hSw); go_simp; (try with_reducible rfl))
  try simp only [Act.put, List.setIfInBounds_toArray, List.set_cons_zero, List.set_cons_succ]
  refine wpAnyH_take (i := 12) (oi := { dst := some 15, op := Op.move (Operand.tmp 0), type := 127, pos := "lisp.go:174", after := #[], guard := none }) (v := ?vq12) rfl (by kernel_rfl) (by kernel_rfl) (by kernel_rfl) (fun _ _ _ h => h) (Or.inl ⟨by rfl, ?hyq12⟩) hHeld ?_
  case hyq12 => (intro w hSw; (try dsimp only at hSw); go_simp; (try with_reducible rfl))
  try simp only [Act.put, List.setIfInBounds_toArray, List.set_cons_zero, List.set_cons_succ]
  refine wpAnyH_take (i := 13) (oi := { dst := some 16, op := Op.nilCheck (Operand.tmp 15), type := 0, pos := "lisp.go:174", after := #[{ on := 12, ground := Ground.data }], guard := none }) (v := ?vq13) rfl (by kernel_rfl) (by kernel_rfl) (by kernel_rfl) (fun _ _ _ h => h) (Or.inl ⟨by rfl, ?hyq13⟩) hHeld ?_
  case hyq13 => (intro w hSw; (try dsimp only at hSw); go_simp; (try with_reducible rfl))
  try simp only [Act.put, List.setIfInBounds_toArray, List.set_cons_zero, List.set_cons_succ]
  refine wpAnyH_take (i := 14) (oi := { dst := some 17, op := Op.fieldAddr 126 (Operand.tmp 16) 1, type := 0, pos := "lisp.go:174", after := #[{ on := 13, ground := Ground.data }], guard := none }) (v := ?vq14) rfl (by kernel_rfl) (by kernel_rfl) (by kernel_rfl) (fun _ _ _ h => h) (Or.inl ⟨by rfl, ?hyq14⟩) hHeld ?_
  case hyq14 => (intro w hSw; (try dsimp only at hSw); go_simp; (try with_reducible rfl))
  try simp only [Act.put, List.setIfInBounds_toArray, List.set_cons_zero, List.set_cons_succ]
  refine wpAnyH_take (i := 15) (oi := { dst := some 18, op := Op.fieldAddr 30 (Operand.tmp 17) 2, type := 0, pos := "lisp.go:174", after := #[{ on := 14, ground := Ground.data }], guard := none }) (v := ?vq15) rfl (by kernel_rfl) (by kernel_rfl) (by kernel_rfl) (fun _ _ _ h => h) (Or.inl ⟨by rfl, ?hyq15⟩) hHeld ?_
  case hyq15 => (intro w hSw; (try dsimp only at hSw); go_simp; (try with_reducible rfl))
  try simp only [Act.put, List.setIfInBounds_toArray, List.set_cons_zero, List.set_cons_succ]
  refine wpAnyH_take (i := 16) (oi := { dst := some 19, op := Op.load 28 (Operand.tmp 18), type := 28, pos := "lisp.go:174", after := #[{ on := 15, ground := Ground.data }], guard := none }) (v := ?vq16) rfl (by kernel_rfl) (by kernel_rfl) (by kernel_rfl) (fun _ _ _ h => h) (Or.inl ⟨by rfl, ?hyq16⟩) hHeld ?_
  case hyq16 => (intro w hSw; (try dsimp only at hSw); go_simp; (try with_reducible rfl))
  try simp only [Act.put, List.setIfInBounds_toArray, List.set_cons_zero, List.set_cons_succ]
  refine wpAnyH_ready (rs := [11]) (by kernel_rfl) (by simp) ?_
  refine AllReadyH.cons (o := { dst := some 14, op := Op.call { callee := Callee.value (Operand.func 129), args := #[Operand.tmp 7, Operand.tmp 13], argTypes := #[127, 3] }, type := 3, pos := "lisp.go:174", after := #[{ on := 4, ground := Ground.data }, { on := 10, ground := Ground.data }], guard := none }) rfl (fun K hK => ?_) AllReadyH.nil
  go_simp
  have HW0 := Lib.hid HW.out.drew; have HS0 : Hid (SpansAt _) := Lib.hid (show SpansAt w.drew from HS.out); have HQ0 : Hid (Sav (WS H G B) w w.drew) := Lib.hid (Sav.of (Below.refl _ _).drew)
  clear HW HS HQ
  refine (HPl.out _ HW0.out HS0.out).mono ?_
  rintro e V1 ⟨rfl, hb⟩
  have HW1 := Lib.hid (HW0.out.below hb); have HQ1 := Lib.hid (HQ0.out.trans (Sav.of hb))
  clear HW0 HQ0 HS0 hb HPl hHeld k0 k3 k6
  obtain ⟨k0, _, _, k3, _, _, k6, _, _, _, _, _, _, _, _, _⟩ := HW1.out.cells
  (try dsimp only at k3 k6)
  refine hK.out _ _ ?_ (fun hHeld => ?_)
  · exact ⟨k0, k3, k6⟩
  clear hK K
  try simp only [Act.put, List.setIfInBounds_toArray, List.set_cons_zero, List.set_cons_succ]
  refine wpAnyH_ready (rs := [17]) (by kernel_rfl) (by simp) ?_
  refine AllReadyH.cons (o := { dst := some 20, op := Op.call { callee := Callee.value (Operand.func 97), args := #[Operand.tmp 6, Operand.tmp 14, Operand.tmp 19], argTypes := #[43, 3, 28] }, type := 0, pos := "lisp.go:174", after := #[{ on := 3, ground := Ground.data }, { on := 11, ground := Ground.data }, { on := 16, ground := Ground.data }, { on := 11, ground := Ground.chain }], guard := none }) rfl (fun K hK => ?_) AllReadyH.nil
  go_simp
  refine (HD.out _ HW1.out.hand).mono ?_
  rintro e V2 ⟨rfl, hF, hs⟩
  have HW2 := Lib.hid (HW1.out.handed hF hs); have HQ2 := Lib.hid (HQ1.out.trans (hgWS hs))
  clear HW1 HQ1 HD hF hs hHeld k0 k3 k6
  obtain ⟨k0, _, _, k3, _, _, k6, _, _, _, _, _, _, _, _, _⟩ := HW2.out.cells
  (try dsimp only at k3 k6)
  refine hK.out _ _ ?_ (fun hHeld => ?_)
  · exact ⟨k0, k3, k6⟩
  clear hK K
  try simp only [Act.put, List.setIfInBounds_toArray, List.set_cons_zero, List.set_cons_succ]
  refine wpAnyH_done (by kernel_rfl) ?_ _
  refine NoPanic.normal ?_
  clear hHeld k0 k3 k6
  obtain ⟨c0, c1, c2, c3, c4, c5, c6, c7, c8, c9, c10, c11, c12, c13, c14, cf⟩ := HW2.out.cells
  (try dsimp only at c1 c2 c3 c4 c5 c6 c7 c8 c9 c10 c11 c12 c13)
  go_wp2_with fail
  refine (succeed_c HW2.out x.m1 hxm1).mono ?_
  rintro e V ⟨rfl, hW, hs⟩
  have HWz := Lib.hid hW; have HQz := Lib.hid (HQ2.out.trans hs)
  clear hW hs HW2 HQ2 c0 c1 c2 c3 c4 c5 c6 c7 c8 c9 c10 c11 c12 c13 c14 cf
  go_wp2_with fail
  go_ret
  exact ⟨rfl, HWz.out, HQz.out⟩
set_option maxHeartbeats 3200000 in
theorem own_out {w : World} {B H A G : Nat} {C : Cf} {m : Int} {s : Dy} {x : Mu} (h : WkAt w B H A G C m s x) (hu : s.U) (hx : x.U) (hS : SpansAt w) :
    Calls Tryz.prog 102 #[.pointer (some ⟨B, 0, none⟩)] w (WPost w B H A G C m (.bool (!decide (isC (ldP C s (regP C.a C.b C.c C.d m x.q3)).toNat))) (s.act C 1 (regP C.a C.b C.c C.d m x.q3) 0 0) (if isC (ldP C s (regP C.a C.b C.c C.d m x.q3)).toNat then { x with l := 14, m1 := (ldP C s (regP C.a C.b C.c C.d m x.q3)) } else { x with l := 90, m1 := (ldP C s (regP C.a C.b C.c C.d m x.q3)), rt := 4 })) := by
  obtain ⟨hxm1, hxm2, hxm3, _⟩ := hx
  have HPl : Hid (∀ W, WkAt W B H A G C m s x → SpansAt W → Calls Tryz.prog 129 #[.pointer (some ⟨B, 0, none⟩), .int .i64 x.q3] W fun e w' => e = .returned (.int .i64 (regP C.a C.b C.c C.d m x.q3)) ∧ Below W.heap.size W w') := Lib.hid (fun W h1 h2 => reg_c h1 h2 x.q3)
  have hzU : U64 (ldP C s (regP C.a C.b C.c C.d m x.q3)) := ldP_U hu _
  unfold ldP at *
  generalize hP : (regP C.a C.b C.c C.d m x.q3) = P at *
  have HD : Hid (∀ W, HAt W H A G C s → Calls Tryz.prog 92 #[.pointer (some ⟨H, 0, none⟩), .int .i64 P] W (HP W H A G C (s.act C 1 P 0 0) (.int .u64 (z5 C.n 1 P (s.f P.toNat))))) := Lib.hid (fun W hW => hLoad_c (w := W) hW hu P)
  generalize (s.act C 1 P 0 0) = s' at *
  generalize (z5 C.n 1 P (s.f P.toNat)) = Z at *
  have HNC : Hid (∀ W, WkAt W B H A G C m s' { x with m1 := Z } → Calls Tryz.prog 133 #[.pointer (some ⟨B, 0, none⟩), .int .i64 14] W (WPost W B H A G C m (.bool (!decide (isC Z.toNat))) s' (if isC Z.toNat then ({ x with l := 14, m1 := Z } : Mu) else { x with l := 90, m1 := Z, rt := 4 }))) := Lib.hid (fun W h1 => needCell_c h1 hzU 14)
  generalize (if isC Z.toNat then ({ x with l := 14, m1 := Z } : Mu) else { x with l := 90, m1 := Z, rt := 4 }) = Y at *
  generalize (!decide (isC Z.toNat)) = bb at *
  have HW := Lib.hid h; have HS := Lib.hid hS
  have HQ : Hid (Sav (WS H G B) w w) := Lib.hid (Sav.of (Below.refl _ _))
  clear h hS hu
  obtain ⟨k0, _, _, _, k4, _, _, _, _, _, _, _, _, _, _, _⟩ := HW.out.cells
  (try dsimp only at k4)
  skip
  go_enter Tryz.func102, Tryz.ntmps102
  go_wp2_with fail
  refine wp_region_noPanic ?_
  refine wp_region_held_drew (S := (fun w' => w'.cell? ⟨B, 0, none⟩ = some (.pointer (some ⟨H, 0, none⟩)) ∧ w'.cell? ⟨B, 4, none⟩ = some (.int .i64 x.q3))) (by kernel_rfl) ?_ (fun hHeld => ?_)
  · exact ⟨k0, k4⟩
  refine wpAnyH_take (i := 0) (oi := { dst := some 3, op := Op.move (Operand.tmp 0), type := 127, pos := "lisp.go:180", after := #[], guard := none }) (v := ?vq0) rfl (by kernel_rfl) (by kernel_rfl) (by kernel_rfl) (fun _ _ _ h => h) (Or.inl ⟨by rfl, ?hyq0⟩) hHeld ?_
  case hyq0 => (intro w hSw; (try dsimp only at hSw); go_simp; (try with_reducible rfl))
  try simp only [Act.put, List.setIfInBounds_toArray, List.set_cons_zero, List.set_cons_succ]
  refine wpAnyH_take (i := 1) (oi := { dst := some 4, op := Op.move (Operand.tmp 0), type := 127, pos := "lisp.go:180", after := #[], guard := none }) (v := ?vq1) rfl (by kernel_rfl) (by kernel_rfl) (by kernel_rfl) (fun _ _ _ h => h) (Or.inl ⟨by rfl, ?hyq1⟩) hHeld ?_
  case hyq1 => (intro w hSw; (try dsimp only at hSw); go_simp; (try with_reducible rfl))
  try simp only [Act.put, List.setIfInBounds_toArray, List.set_cons_zero, List.set_cons_succ]
  refine wpAnyH_take (i := 2) (oi := { dst := some 5, op := Op.nilCheck (Operand.tmp 4), type := 0, pos := "lisp.go:180", after := #[{ on := 1, ground := Ground.data }], guard := none }) (v := ?vq2) rfl (by kernel_rfl) (by kernel_rfl) (by kernel_rfl) (fun _ _ _ h => h) (Or.inl ⟨by rfl, ?hyq2⟩) hHeld ?_
  case hyq2 => (intro w hSw; (try dsimp only at hSw); go_simp; (try with_reducible rfl))
  try simp only [Act.put, List.setIfInBounds_toArray, List.set_cons_zero, List.set_cons_succ]
  refine wpAnyH_take (i := 3) (oi := { dst := some 6, op := Op.fieldAddr 126 (Operand.tmp 5) 0, type := 0, pos := "lisp.go:180", after := #[{ on := 2, ground := Ground.data }], guard := none }) (v := ?vq3) rfl (by kernel_rfl) (by kernel_rfl) (by kernel_rfl) (fun _ _ _ h => h) (Or.inl ⟨by rfl, ?hyq3⟩) hHeld ?_
  case hyq3 => (intro w hSw; (try dsimp only at hSw); go_simp; (try with_reducible rfl))
  try simp only [Act.put, List.setIfInBounds_toArray, List.set_cons_zero, List.set_cons_succ]
  refine wpAnyH_take (i := 4) (oi := { dst := some 7, op := Op.load 43 (Operand.tmp 6), type := 43, pos := "lisp.go:180", after := #[{ on := 3, ground := Ground.data }], guard := none }) (v := ?vq4) rfl (by kernel_rfl) (by kernel_rfl) (by kernel_rfl) (fun _ _ _ h => h) (Or.inl ⟨by rfl, ?hyq4⟩) hHeld ?_
  case hyq4 => (intro w hSw; (try dsimp only at hSw); go_simp; (try with_reducible rfl))
  try simp only [Act.put, List.setIfInBounds_toArray, List.set_cons_zero, List.set_cons_succ]
  refine wpAnyH_take (i := 5) (oi := { dst := some 8, op := Op.move (Operand.tmp 0), type := 127, pos := "lisp.go:180", after := #[], guard := none }) (v := ?vq5) rfl (by kernel_rfl) (by kernel_rfl) (by kernel_rfl) (fun _ _ _ h => h) (Or.inl ⟨by rfl, ?hyq5⟩) hHeld ?_
  case hyq5 => (intro w hSw; (try dsimp only at hSw); go_simp; (try with_reducible rfl))
  try simp only [Act.put, List.setIfInBounds_toArray, List.set_cons_zero, List.set_cons_succ]
  refine wpAnyH_take (i := 6) (oi := { dst := some 9, op := Op.move (Operand.tmp 0), type := 127, pos := "lisp.go:180", after := #[], guard := none }) (v := ?vq6) rfl (by kernel_rfl) (by kernel_rfl) (by kernel_rfl) (fun _ _ _ h => h) (Or.inl ⟨by rfl, ?hyq6⟩) hHeld ?_
  case hyq6 => (intro w hSw; (try dsimp only at hSw); go_simp; (try with_reducible rfl))
  try simp only [Act.put, List.setIfInBounds_toArray, List.set_cons_zero, List.set_cons_succ]
  refine wpAnyH_take (i := 7) (oi := { dst := some 10, op := Op.nilCheck (Operand.tmp 9), type := 0, pos := "lisp.go:180", after := #[{ on := 6, ground := Ground.data }], guard := none }) (v := ?vq7) rfl (by kernel_rfl) (by kernel_rfl) (by kernel_rfl) (fun _ _ _ h => h) (Or.inl ⟨by rfl, ?hyq7⟩) hHeld ?_
  case hyq7 => (intro w hSw; (try dsimp only at hSw); go_simp; (try with_reducible rfl))
  try simp only [Act.put, List.setIfInBounds_toArray, List.set_cons_zero, List.set_cons_succ]
  refine wpAnyH_take (i := 8) (oi := { dst := some 11, op := Op.fieldAddr 126 (Operand.tmp 10) 1, type := 0, pos := "lisp.go:180", after := #[{ on := 7, ground := Ground.data }], guard := none }) (v := ?vq8) rfl (by kernel_rfl) (by kernel_rfl) (by kernel_rfl) (fun _ _ _ h => h) (Or.inl ⟨by rfl, ?hyq8⟩) hHeld ?_
  case hyq8 => (intro w hSw; (try dsimp only at hSw); go_simp; (try with_reducible rfl))
  try simp only [Act.put, List.setIfInBounds_toArray, List.set_cons_zero, List.set_cons_succ]
  refine wpAnyH_take (i := 9) (oi := { dst := some 12, op := Op.fieldAddr 30 (Operand.tmp 11) 1, type := 0, pos := "lisp.go:180", after := #[{ on := 8, ground := Ground.data }], guard := none }) (v := ?vq9) rfl (by kernel_rfl) (by kernel_rfl) (by kernel_rfl) (fun _ _ _ h => h) (Or.inl ⟨by rfl, ?hyq9⟩) hHeld ?_
  case hyq9 => (intro w hSw; (try dsimp only at hSw); go_simp; (try with_reducible rfl))
  try simp only [Act.put, List.setIfInBounds_toArray, List.set_cons_zero, List.set_cons_succ]
  refine wpAnyH_take (i := 10) (oi := { dst := some 13, op := Op.fieldAddr 26 (Operand.tmp 12) 2, type := 0, pos := "lisp.go:180", after := #[{ on := 9, ground := Ground.data }], guard := none }) (v := ?vq10) rfl (by kernel_rfl) (by kernel_rfl) (by kernel_rfl) (fun _ _ _ h => h) (Or.inl ⟨by rfl, ?hyq10⟩) hHeld ?_
  case hyq10 => (intro w hSw; (try dsimp only at hSw); go_simp; (try with_reducible rfl))
  try simp only [Act.put, List.setIfInBounds_toArray, List.set_cons_zero, List.set_cons_succ]
  refine wpAnyH_take (i := 11) (oi := { dst := some 14, op := Op.load 3 (Operand.tmp 13), type := 3, pos := "lisp.go:180", after := #[{ on := 10, ground := Ground.data }], guard := none }) (v := ?vq11) rfl (by kernel_rfl) (by kernel_rfl) (by kernel_rfl) (fun _ _ _ h => h) (Or.inl ⟨by rfl, ?hyq11⟩) hHeld ?_
  case hyq11 => (intro w hSw; (try dsimp only at hSw); go_simp; (try with_reducible rfl))
  try simp only [Act.put, List.setIfInBounds_toArray, List.set_cons_zero, List.set_cons_succ]
  refine wpAnyH_ready (rs := [12]) (by kernel_rfl) (by simp) ?_
  refine AllReadyH.cons (o := { dst := some 15, op := Op.call { callee := Callee.value (Operand.func 129), args := #[Operand.tmp 8, Operand.tmp 14], argTypes := #[127, 3] }, type := 3, pos := "lisp.go:180", after := #[{ on := 5, ground := Ground.data }, { on := 11, ground := Ground.data }], guard := none }) rfl (fun K hK => ?_) AllReadyH.nil
  go_simp
  have HW0 := Lib.hid HW.out.drew; have HS0 : Hid (SpansAt _) := Lib.hid (show SpansAt w.drew from HS.out); have HQ0 : Hid (Sav (WS H G B) w w.drew) := Lib.hid (Sav.of (Below.refl _ _).drew)
  clear HW HS HQ
  refine (HPl.out _ HW0.out HS0.out).mono ?_
  rintro e V1 ⟨rfl, hb⟩
  have HW1 := Lib.hid (HW0.out.below hb); have HQ1 := Lib.hid (HQ0.out.trans (Sav.of hb))
  clear HW0 HQ0 HS0 hb HPl hHeld k0 k4
  obtain ⟨k0, _, _, _, k4, _, _, _, _, _, _, _, _, _, _, _⟩ := HW1.out.cells
  (try dsimp only at k4)
  refine hK.out _ _ ?_ (fun hHeld => ?_)
  · exact ⟨k0, k4⟩
  clear hK K
  try simp only [Act.put, List.setIfInBounds_toArray, List.set_cons_zero, List.set_cons_succ]
  refine wpAnyH_ready (rs := [13]) (by kernel_rfl) (by simp) ?_
  refine AllReadyH.cons (o := { dst := some 16, op := Op.call { callee := Callee.value (Operand.func 92), args := #[Operand.tmp 7, Operand.tmp 15], argTypes := #[43, 3] }, type := 28, pos := "lisp.go:180", after := #[{ on := 4, ground := Ground.data }, { on := 12, ground := Ground.data }, { on := 12, ground := Ground.chain }], guard := none }) rfl (fun K hK => ?_) AllReadyH.nil
  go_simp
  refine (HD.out _ HW1.out.hand).mono ?_
  rintro e V2 ⟨rfl, hF, hs⟩
  have HW2 := Lib.hid (HW1.out.handed hF hs); have HQ2 := Lib.hid (HQ1.out.trans (hgWS hs))
  clear HW1 HQ1 HD hF hs hHeld k0 k4
  obtain ⟨k0, _, _, _, k4, _, _, _, _, _, _, _, _, _, _, _⟩ := HW2.out.cells
  (try dsimp only at k4)
  obtain ⟨_, _, _, _, _, _, g6, g7, _, _, _, _, _, _, _, gf⟩ := HW2.out.cells
  (try dsimp only at g6 g7)
  refine hK.out _ _ ?_ (fun hHeld => ?_)
  · exact ⟨k0, k4⟩
  clear hK K
  try simp only [Act.put, List.setIfInBounds_toArray, List.set_cons_zero, List.set_cons_succ]
  refine wpAnyH_take (i := 14) (oi := { dst := some 17, op := Op.nilCheck (Operand.tmp 3), type := 0, pos := "lisp.go:180", after := #[{ on := 0, ground := Ground.data }, { on := 0, ground := Ground.phase }, { on := 1, ground := Ground.phase }, { on := 2, ground := Ground.phase }, { on := 3, ground := Ground.phase }, { on := 4, ground := Ground.phase }, { on := 5, ground := Ground.phase }, { on := 6, ground := Ground.phase }, { on := 7, ground := Ground.phase }, { on := 8, ground := Ground.phase }, { on := 9, ground := Ground.phase }, { on := 10, ground := Ground.phase }, { on := 11, ground := Ground.phase }, { on := 12, ground := Ground.phase }, { on := 13, ground := Ground.phase }], guard := none }) (v := ?vq14) rfl (by kernel_rfl) (by kernel_rfl) (by kernel_rfl) (fun _ _ _ h => h) (Or.inl ⟨by rfl, ?hyq14⟩) hHeld ?_
  case hyq14 => (intro w hSw; (try dsimp only at hSw); go_simp; (try with_reducible rfl))
  try simp only [Act.put, List.setIfInBounds_toArray, List.set_cons_zero, List.set_cons_succ]
  refine wpAnyH_take (i := 15) (oi := { dst := some 18, op := Op.fieldAddr 126 (Operand.tmp 17) 1, type := 0, pos := "lisp.go:180", after := #[{ on := 14, ground := Ground.data }, { on := 0, ground := Ground.phase }, { on := 1, ground := Ground.phase }, { on := 2, ground := Ground.phase }, { on := 3, ground := Ground.phase }, { on := 4, ground := Ground.phase }, { on := 5, ground := Ground.phase }, { on := 6, ground := Ground.phase }, { on := 7, ground := Ground.phase }, { on := 8, ground := Ground.phase }, { on := 9, ground := Ground.phase }, { on := 10, ground := Ground.phase }, { on := 11, ground := Ground.phase }, { on := 12, ground := Ground.phase }, { on := 13, ground := Ground.phase }], guard := none }) (v := ?vq15) rfl (by kernel_rfl) (by kernel_rfl) (by kernel_rfl) (fun _ _ _ h => h) (Or.inl ⟨by rfl, ?hyq15⟩) hHeld ?_
  case hyq15 => (intro w hSw; (try dsimp only at hSw); go_simp; (try with_reducible rfl))
  try simp only [Act.put, List.setIfInBounds_toArray, List.set_cons_zero, List.set_cons_succ]
  refine wpAnyH_take (i := 16) (oi := { dst := some 19, op := Op.fieldAddr 30 (Operand.tmp 18) 2, type := 0, pos := "lisp.go:180", after := #[{ on := 15, ground := Ground.data }, { on := 0, ground := Ground.phase }, { on := 1, ground := Ground.phase }, { on := 2, ground := Ground.phase }, { on := 3, ground := Ground.phase }, { on := 4, ground := Ground.phase }, { on := 5, ground := Ground.phase }, { on := 6, ground := Ground.phase }, { on := 7, ground := Ground.phase }, { on := 8, ground := Ground.phase }, { on := 9, ground := Ground.phase }, { on := 10, ground := Ground.phase }, { on := 11, ground := Ground.phase }, { on := 12, ground := Ground.phase }, { on := 13, ground := Ground.phase }], guard := none }) (v := ?vq16) rfl (by kernel_rfl) (by kernel_rfl) (by kernel_rfl) (fun _ _ _ h => h) (Or.inl ⟨by rfl, ?hyq16⟩) hHeld ?_
  case hyq16 => (intro w hSw; (try dsimp only at hSw); go_simp; (try with_reducible rfl))
  try simp only [Act.put, List.setIfInBounds_toArray, List.set_cons_zero, List.set_cons_succ]
  refine wpAnyH_ready (rs := [17]) (by kernel_rfl) (by simp) ?_
  refine AllReadyH.cons (o := { dst := none, op := Op.store 28 (Operand.tmp 19) (Operand.tmp 16), type := 0, pos := "lisp.go:180", after := #[{ on := 16, ground := Ground.data }, { on := 13, ground := Ground.data }, { on := 13, ground := Ground.chain }, { on := 0, ground := Ground.phase }, { on := 1, ground := Ground.phase }, { on := 2, ground := Ground.phase }, { on := 3, ground := Ground.phase }, { on := 4, ground := Ground.phase }, { on := 5, ground := Ground.phase }, { on := 6, ground := Ground.phase }, { on := 7, ground := Ground.phase }, { on := 8, ground := Ground.phase }, { on := 9, ground := Ground.phase }, { on := 10, ground := Ground.phase }, { on := 11, ground := Ground.phase }, { on := 12, ground := Ground.phase }, { on := 13, ground := Ground.phase }], guard := none }) rfl (fun K hK => ?_) AllReadyH.nil
  go_simp
  clear g6 g7 gf
  have HW3 := Lib.hid (HW2.out.setA Z); have HQ3 := Lib.hid (HQ2.out.set (p := ⟨B, 6, none⟩) (.inl (.inr rfl)) (.int .u64 Z))
  clear hHeld k0 k4
  obtain ⟨k0, _, _, _, k4, _, _, _, _, _, _, _, _, _, _, _⟩ := HW3.out.cells
  (try dsimp only at k4)
  clear HW2 HQ2
  refine hK.out _ _ ?_ (fun hHeld => ?_)
  · exact ⟨k0, k4⟩
  clear hK K
  try simp only [Act.put, List.setIfInBounds_toArray, List.set_cons_zero, List.set_cons_succ]
  refine wpAnyH_done (by kernel_rfl) ?_ _
  refine NoPanic.normal ?_
  clear hHeld k0 k4
  obtain ⟨c0, c1, c2, c3, c4, c5, c6, c7, c8, c9, c10, c11, c12, c13, c14, cf⟩ := HW3.out.cells
  (try dsimp only at c1 c2 c3 c4 c5 c6 c7 c8 c9 c10 c11 c12 c13)
  go_wp2_with fail
  refine (HNC.out _ HW3.out).mono ?_
  rintro e V ⟨rfl, hW, hs⟩
  have HWz := Lib.hid hW; have HQz := Lib.hid (HQ3.out.trans hs)
  clear hW hs HW3 HQ3 c0 c1 c2 c3 c4 c5 c6 c7 c8 c9 c10 c11 c12 c13 c14 cf
  go_wp2_with fail
  go_ret
  exact ⟨rfl, HWz.out, HQz.out⟩
set_option maxHeartbeats 3200000 in
theorem own_into {w : World} {B H A G : Nat} {C : Cf} {m : Int} {s : Dy} {x : Mu} (h : WkAt w B H A G C m s x) (hu : s.U) (hx : x.U) (hS : SpansAt w) :
    Calls Tryz.prog 105 #[.pointer (some ⟨B, 0, none⟩)] w (WPost w B H A G C m (.bool (!decide (isC (ldP C s (regP C.a C.b C.c C.d m x.q2)).toNat))) (s.act C 1 (regP C.a C.b C.c C.d m x.q2) 0 0) (if isC (ldP C s (regP C.a C.b C.c C.d m x.q2)).toNat then { x with l := 17, m1 := (ldP C s (regP C.a C.b C.c C.d m x.q2)) } else { x with l := 90, m1 := (ldP C s (regP C.a C.b C.c C.d m x.q2)), rt := 4 })) := by
  obtain ⟨hxm1, hxm2, hxm3, _⟩ := hx
  have HPl : Hid (∀ W, WkAt W B H A G C m s x → SpansAt W → Calls Tryz.prog 129 #[.pointer (some ⟨B, 0, none⟩), .int .i64 x.q2] W fun e w' => e = .returned (.int .i64 (regP C.a C.b C.c C.d m x.q2)) ∧ Below W.heap.size W w') := Lib.hid (fun W h1 h2 => reg_c h1 h2 x.q2)
  have hzU : U64 (ldP C s (regP C.a C.b C.c C.d m x.q2)) := ldP_U hu _
  unfold ldP at *
  generalize hP : (regP C.a C.b C.c C.d m x.q2) = P at *
  have HD : Hid (∀ W, HAt W H A G C s → Calls Tryz.prog 92 #[.pointer (some ⟨H, 0, none⟩), .int .i64 P] W (HP W H A G C (s.act C 1 P 0 0) (.int .u64 (z5 C.n 1 P (s.f P.toNat))))) := Lib.hid (fun W hW => hLoad_c (w := W) hW hu P)
  generalize (s.act C 1 P 0 0) = s' at *
  generalize (z5 C.n 1 P (s.f P.toNat)) = Z at *
  have HNC : Hid (∀ W, WkAt W B H A G C m s' { x with m1 := Z } → Calls Tryz.prog 133 #[.pointer (some ⟨B, 0, none⟩), .int .i64 17] W (WPost W B H A G C m (.bool (!decide (isC Z.toNat))) s' (if isC Z.toNat then ({ x with l := 17, m1 := Z } : Mu) else { x with l := 90, m1 := Z, rt := 4 }))) := Lib.hid (fun W h1 => needCell_c h1 hzU 17)
  generalize (if isC Z.toNat then ({ x with l := 17, m1 := Z } : Mu) else { x with l := 90, m1 := Z, rt := 4 }) = Y at *
  generalize (!decide (isC Z.toNat)) = bb at *
  have HW := Lib.hid h; have HS := Lib.hid hS
  have HQ : Hid (Sav (WS H G B) w w) := Lib.hid (Sav.of (Below.refl _ _))
  clear h hS hu
  obtain ⟨k0, _, _, k3, _, _, _, _, _, _, _, _, _, _, _, _⟩ := HW.out.cells
  (try dsimp only at k3)
  skip
  go_enter Tryz.func105, Tryz.ntmps105
  go_wp2_with fail
  refine wp_region_noPanic ?_
  refine wp_region_held_drew (S := (fun w' => w'.cell? ⟨B, 0, none⟩ = some (.pointer (some ⟨H, 0, none⟩)) ∧ w'.cell? ⟨B, 3, none⟩ = some (.int .i64 x.q2))) (by kernel_rfl) ?_ (fun hHeld => ?_)
  · exact ⟨k0, k3⟩
  refine wpAnyH_take (i := 0) (oi := { dst := some 3, op := Op.move (Operand.tmp 0), type := 127, pos := "lisp.go:198", after := #[], guard := none }) (v := ?vq0) rfl (by kernel_rfl) (by kernel_rfl) (by kernel_rfl) (fun _ _ _ h => h) (Or.inl ⟨by rfl, ?hyq0⟩) hHeld ?_
  case hyq0 => (intro w hSw; (try dsimp only at hSw); go_simp; (try with_reducible rfl))
  try simp only [Act.put, List.setIfInBounds_toArray, List.set_cons_zero, List.set_cons_succ]
  refine wpAnyH_take (i := 1) (oi := { dst := some 4, op := Op.move (Operand.tmp 0), type := 127, pos := "lisp.go:198", after := #[], guard := none }) (v := ?vq1) rfl (by kernel_rfl) (by kernel_rfl) (by kernel_rfl) (fun _ _ _ h => h) (Or.inl ⟨by rfl, ?hyq1⟩) hHeld ?_
  case hyq1 => (intro w hSw; (try dsimp only at hSw); go_simp; (try with_reducible rfl))
  try simp only [Act.put, List.setIfInBounds_toArray, List.set_cons_zero, List.set_cons_succ]
  refine wpAnyH_take (i := 2) (oi := { dst := some 5, op := Op.nilCheck (Operand.tmp 4), type := 0, pos := "lisp.go:198", after := #[{ on := 1, ground := Ground.data }], guard := none }) (v := ?vq2) rfl (by kernel_rfl) (by kernel_rfl) (by kernel_rfl) (fun _ _ _ h => h) (Or.inl ⟨by rfl, ?hyq2⟩) hHeld ?_
  case hyq2 => (intro w hSw; (try dsimp only at hSw); go_simp; (try with_reducible rfl))
  try simp only [Act.put, List.setIfInBounds_toArray, List.set_cons_zero, List.set_cons_succ]
  refine wpAnyH_take (i := 3) (oi := { dst := some 6, op := Op.fieldAddr 126 (Operand.tmp 5) 0, type := 0, pos := "lisp.go:198", after := #[{ on := 2, ground := Ground.data }], guard := none }) (v := ?vq3) rfl (by kernel_rfl) (by kernel_rfl) (by kernel_rfl) (fun _ _ _ h => h) (Or.inl ⟨by rfl, ?hyq3⟩) hHeld ?_
  case hyq3 => (intro w hSw; (try dsimp only at hSw); go_simp; (try with_reducible rfl))
  try simp only [Act.put, List.setIfInBounds_toArray, List.set_cons_zero, List.set_cons_succ]
  refine wpAnyH_take (i := 4) (oi := { dst := some 7, op := Op.load 43 (Operand.tmp 6), type := 43, pos := "lisp.go:198", after := #[{ on := 3, ground := Ground.data }], guard := none }) (v := ?vq4) rfl (by kernel_rfl) (by kernel_rfl) (by kernel_rfl) (fun _ _ _ h => h) (Or.inl ⟨by rfl, ?hyq4⟩) hHeld ?_
  case hyq4 => (intro w hSw; (try dsimp only at hSw); go_simp; (try with_reducible rfl))
  try simp only [Act.put, List.setIfInBounds_toArray, List.set_cons_zero, List.set_cons_succ]
  refine wpAnyH_take (i := 5) (oi := { dst := some 8, op := Op.move (Operand.tmp 0), type := 127, pos := "lisp.go:198", after := #[], guard := none }) (v := ?vq5) rfl (by kernel_rfl) (by kernel_rfl) (by kernel_rfl) (fun _ _ _ h => h) (Or.inl ⟨by rfl, ?hyq5⟩) hHeld ?_
  case hyq5 => (intro w hSw; (try dsimp only at hSw); go_simp; (try with_reducible rfl))
  try simp only [Act.put, List.setIfInBounds_toArray, List.set_cons_zero, List.set_cons_succ]
  refine wpAnyH_take (i := 6) (oi := { dst := some 9, op := Op.move (Operand.tmp 0), type := 127, pos := "lisp.go:198", after := #[], guard := none }) (v := ?vq6) rfl (by kernel_rfl) (by kernel_rfl) (by kernel_rfl) (fun _ _ _ h => h) (Or.inl ⟨by rfl, ?hyq6⟩) hHeld ?_
  case hyq6 => (intro w hSw; (try dsimp only at hSw); go_simp; (try with_reducible rfl))
  try simp only [Act.put, List.setIfInBounds_toArray, List.set_cons_zero, List.set_cons_succ]
  refine wpAnyH_take (i := 7) (oi := { dst := some 10, op := Op.nilCheck (Operand.tmp 9), type := 0, pos := "lisp.go:198", after := #[{ on := 6, ground := Ground.data }], guard := none }) (v := ?vq7) rfl (by kernel_rfl) (by kernel_rfl) (by kernel_rfl) (fun _ _ _ h => h) (Or.inl ⟨by rfl, ?hyq7⟩) hHeld ?_
  case hyq7 => (intro w hSw; (try dsimp only at hSw); go_simp; (try with_reducible rfl))
  try simp only [Act.put, List.setIfInBounds_toArray, List.set_cons_zero, List.set_cons_succ]
  refine wpAnyH_take (i := 8) (oi := { dst := some 11, op := Op.fieldAddr 126 (Operand.tmp 10) 1, type := 0, pos := "lisp.go:198", after := #[{ on := 7, ground := Ground.data }], guard := none }) (v := ?vq8) rfl (by kernel_rfl) (by kernel_rfl) (by kernel_rfl) (fun _ _ _ h => h) (Or.inl ⟨by rfl, ?hyq8⟩) hHeld ?_
  case hyq8 => (intro w hSw; (try dsimp only at hSw); go_simp; (try with_reducible rfl))
  try simp only [Act.put, List.setIfInBounds_toArray, List.set_cons_zero, List.set_cons_succ]
  refine wpAnyH_take (i := 9) (oi := { dst := some 12, op := Op.fieldAddr 30 (Operand.tmp 11) 1, type := 0, pos := "lisp.go:198", after := #[{ on := 8, ground := Ground.data }], guard := none }) (v := ?vq9) rfl (by kernel_rfl) (by kernel_rfl) (by kernel_rfl) (fun _ _ _ h => h) (Or.inl ⟨by rfl, ?hyq9⟩) hHeld ?_
  case hyq9 => (intro w hSw; (try dsimp only at hSw); go_simp; (try with_reducible rfl))
  try simp only [Act.put, List.setIfInBounds_toArray, List.set_cons_zero, List.set_cons_succ]
  refine wpAnyH_take (i := 10) (oi := { dst := some 13, op := Op.fieldAddr 26 (Operand.tmp 12) 1, type := 0, pos := "lisp.go:198", after := #[{ on := 9, ground := Ground.data }], guard := none }) (v := ?vq10) rfl (by kernel_rfl) (by kernel_rfl) (by kernel_rfl) (fun _ _ _ h => h) (Or.inl ⟨by rfl, ?hyq10⟩) hHeld ?_
  case hyq10 => (intro w hSw; (try dsimp only at hSw); go_simp; (try with_reducible rfl))
  try simp only [Act.put, List.setIfInBounds_toArray, List.set_cons_zero, List.set_cons_succ]
  refine wpAnyH_take (i := 11) (oi := { dst := some 14, op := Op.load 3 (Operand.tmp 13), type := 3, pos := "lisp.go:198", after := #[{ on := 10, ground := Ground.data }], guard := none }) (v := ?vq11) rfl (by kernel_rfl) (by kernel_rfl) (by kernel_rfl) (fun _ _ _ h => h) (Or.inl ⟨by rfl, ?hyq11⟩) hHeld ?_
  case hyq11 => (intro w hSw; (try dsimp only at hSw); go_simp; (try with_reducible rfl))
  try simp only [Act.put, List.setIfInBounds_toArray, List.set_cons_zero, List.set_cons_succ]
  refine wpAnyH_ready (rs := [12]) (by kernel_rfl) (by simp) ?_
  refine AllReadyH.cons (o := { dst := some 15, op := Op.call { callee := Callee.value (Operand.func 129), args := #[Operand.tmp 8, Operand.tmp 14], argTypes := #[127, 3] }, type := 3, pos := "lisp.go:198", after := #[{ on := 5, ground := Ground.data }, { on := 11, ground := Ground.data }], guard := none }) rfl (fun K hK => ?_) AllReadyH.nil
  go_simp
  have HW0 := Lib.hid HW.out.drew; have HS0 : Hid (SpansAt _) := Lib.hid (show SpansAt w.drew from HS.out); have HQ0 : Hid (Sav (WS H G B) w w.drew) := Lib.hid (Sav.of (Below.refl _ _).drew)
  clear HW HS HQ
  refine (HPl.out _ HW0.out HS0.out).mono ?_
  rintro e V1 ⟨rfl, hb⟩
  have HW1 := Lib.hid (HW0.out.below hb); have HQ1 := Lib.hid (HQ0.out.trans (Sav.of hb))
  clear HW0 HQ0 HS0 hb HPl hHeld k0 k3
  obtain ⟨k0, _, _, k3, _, _, _, _, _, _, _, _, _, _, _, _⟩ := HW1.out.cells
  (try dsimp only at k3)
  refine hK.out _ _ ?_ (fun hHeld => ?_)
  · exact ⟨k0, k3⟩
  clear hK K
  try simp only [Act.put, List.setIfInBounds_toArray, List.set_cons_zero, List.set_cons_succ]
  refine wpAnyH_ready (rs := [13]) (by kernel_rfl) (by simp) ?_
  refine AllReadyH.cons (o := { dst := some 16, op := Op.call { callee := Callee.value (Operand.func 92), args := #[Operand.tmp 7, Operand.tmp 15], argTypes := #[43, 3] }, type := 28, pos := "lisp.go:198", after := #[{ on := 4, ground := Ground.data }, { on := 12, ground := Ground.data }, { on := 12, ground := Ground.chain }], guard := none }) rfl (fun K hK => ?_) AllReadyH.nil
  go_simp
  refine (HD.out _ HW1.out.hand).mono ?_
  rintro e V2 ⟨rfl, hF, hs⟩
  have HW2 := Lib.hid (HW1.out.handed hF hs); have HQ2 := Lib.hid (HQ1.out.trans (hgWS hs))
  clear HW1 HQ1 HD hF hs hHeld k0 k3
  obtain ⟨k0, _, _, k3, _, _, _, _, _, _, _, _, _, _, _, _⟩ := HW2.out.cells
  (try dsimp only at k3)
  obtain ⟨_, _, _, _, _, _, g6, g7, _, _, _, _, _, _, _, gf⟩ := HW2.out.cells
  (try dsimp only at g6 g7)
  refine hK.out _ _ ?_ (fun hHeld => ?_)
  · exact ⟨k0, k3⟩
  clear hK K
  try simp only [Act.put, List.setIfInBounds_toArray, List.set_cons_zero, List.set_cons_succ]
  refine wpAnyH_take (i := 14) (oi := { dst := some 17, op := Op.nilCheck (Operand.tmp 3), type := 0, pos := "lisp.go:198", after := #[{ on := 0, ground := Ground.data }, { on := 0, ground := Ground.phase }, { on := 1, ground := Ground.phase }, { on := 2, ground := Ground.phase }, { on := 3, ground := Ground.phase }, { on := 4, ground := Ground.phase }, { on := 5, ground := Ground.phase }, { on := 6, ground := Ground.phase }, { on := 7, ground := Ground.phase }, { on := 8, ground := Ground.phase }, { on := 9, ground := Ground.phase }, { on := 10, ground := Ground.phase }, { on := 11, ground := Ground.phase }, { on := 12, ground := Ground.phase }, { on := 13, ground := Ground.phase }], guard := none }) (v := ?vq14) rfl (by kernel_rfl) (by kernel_rfl) (by kernel_rfl) (fun _ _ _ h => h) (Or.inl ⟨by rfl, ?hyq14⟩) hHeld ?_
  case hyq14 => (intro w hSw; (try dsimp only at hSw); go_simp; (try with_reducible rfl))
  try simp only [Act.put, List.setIfInBounds_toArray, List.set_cons_zero, List.set_cons_succ]
  refine wpAnyH_take (i := 15) (oi := { dst := some 18, op := Op.fieldAddr 126 (Operand.tmp 17) 1, type := 0, pos := "lisp.go:198", after := #[{ on := 14, ground := Ground.data }, { on := 0, ground := Ground.phase }, { on := 1, ground := Ground.phase }, { on := 2, ground := Ground.phase }, { on := 3, ground := Ground.phase }, { on := 4, ground := Ground.phase }, { on := 5, ground := Ground.phase }, { on := 6, ground := Ground.phase }, { on := 7, ground := Ground.phase }, { on := 8, ground := Ground.phase }, { on := 9, ground := Ground.phase }, { on := 10, ground := Ground.phase }, { on := 11, ground := Ground.phase }, { on := 12, ground := Ground.phase }, { on := 13, ground := Ground.phase }], guard := none }) (v := ?vq15) rfl (by kernel_rfl) (by kernel_rfl) (by kernel_rfl) (fun _ _ _ h => h) (Or.inl ⟨by rfl, ?hyq15⟩) hHeld ?_
  case hyq15 => (intro w hSw; (try dsimp only at hSw); go_simp; (try with_reducible rfl))
  try simp only [Act.put, List.setIfInBounds_toArray, List.set_cons_zero, List.set_cons_succ]
  refine wpAnyH_take (i := 16) (oi := { dst := some 19, op := Op.fieldAddr 30 (Operand.tmp 18) 2, type := 0, pos := "lisp.go:198", after := #[{ on := 15, ground := Ground.data }, { on := 0, ground := Ground.phase }, { on := 1, ground := Ground.phase }, { on := 2, ground := Ground.phase }, { on := 3, ground := Ground.phase }, { on := 4, ground := Ground.phase }, { on := 5, ground := Ground.phase }, { on := 6, ground := Ground.phase }, { on := 7, ground := Ground.phase }, { on := 8, ground := Ground.phase }, { on := 9, ground := Ground.phase }, { on := 10, ground := Ground.phase }, { on := 11, ground := Ground.phase }, { on := 12, ground := Ground.phase }, { on := 13, ground := Ground.phase }], guard := none }) (v := ?vq16) rfl (by kernel_rfl) (by kernel_rfl) (by kernel_rfl) (fun _ _ _ h => h) (Or.inl ⟨by rfl, ?hyq16⟩) hHeld ?_
  case hyq16 => (intro w hSw; (try dsimp only at hSw); go_simp; (try with_reducible rfl))
  try simp only [Act.put, List.setIfInBounds_toArray, List.set_cons_zero, List.set_cons_succ]
  refine wpAnyH_ready (rs := [17]) (by kernel_rfl) (by simp) ?_
  refine AllReadyH.cons (o := { dst := none, op := Op.store 28 (Operand.tmp 19) (Operand.tmp 16), type := 0, pos := "lisp.go:198", after := #[{ on := 16, ground := Ground.data }, { on := 13, ground := Ground.data }, { on := 13, ground := Ground.chain }, { on := 0, ground := Ground.phase }, { on := 1, ground := Ground.phase }, { on := 2, ground := Ground.phase }, { on := 3, ground := Ground.phase }, { on := 4, ground := Ground.phase }, { on := 5, ground := Ground.phase }, { on := 6, ground := Ground.phase }, { on := 7, ground := Ground.phase }, { on := 8, ground := Ground.phase }, { on := 9, ground := Ground.phase }, { on := 10, ground := Ground.phase }, { on := 11, ground := Ground.phase }, { on := 12, ground := Ground.phase }, { on := 13, ground := Ground.phase }], guard := none }) rfl (fun K hK => ?_) AllReadyH.nil
  go_simp
  clear g6 g7 gf
  have HW3 := Lib.hid (HW2.out.setA Z); have HQ3 := Lib.hid (HQ2.out.set (p := ⟨B, 6, none⟩) (.inl (.inr rfl)) (.int .u64 Z))
  clear hHeld k0 k3
  obtain ⟨k0, _, _, k3, _, _, _, _, _, _, _, _, _, _, _, _⟩ := HW3.out.cells
  (try dsimp only at k3)
  clear HW2 HQ2
  refine hK.out _ _ ?_ (fun hHeld => ?_)
  · exact ⟨k0, k3⟩
  clear hK K
  try simp only [Act.put, List.setIfInBounds_toArray, List.set_cons_zero, List.set_cons_succ]
  refine wpAnyH_done (by kernel_rfl) ?_ _
  refine NoPanic.normal ?_
  clear hHeld k0 k3
  obtain ⟨c0, c1, c2, c3, c4, c5, c6, c7, c8, c9, c10, c11, c12, c13, c14, cf⟩ := HW3.out.cells
  (try dsimp only at c1 c2 c3 c4 c5 c6 c7 c8 c9 c10 c11 c12 c13)
  go_wp2_with fail
  refine (HNC.out _ HW3.out).mono ?_
  rintro e V ⟨rfl, hW, hs⟩
  have HWz := Lib.hid hW; have HQz := Lib.hid (HQ3.out.trans hs)
  clear hW hs HW3 HQ3 c0 c1 c2 c3 c4 c5 c6 c7 c8 c9 c10 c11 c12 c13 c14 cf
  go_wp2_with fail
  go_ret
  exact ⟨rfl, HWz.out, HQz.out⟩
set_option maxHeartbeats 3200000 in
theorem own_part {w : World} {B H A G : Nat} {C : Cf} {m : Int} {s : Dy} {x : Mu} (h : WkAt w B H A G C m s x) (hu : s.U) (hx : x.U) (hS : SpansAt w) :
    Calls Tryz.prog 103 #[.pointer (some ⟨B, 0, none⟩)] w (WPost w B H A G C m (.bool true) (s.act C 1 (fieldP C.a C.b C.c C.d x.m1.toNat (partK x.q1)) 0 0) { x with l := 15, m2 := (ldP C s (fieldP C.a C.b C.c C.d x.m1.toNat (partK x.q1))) }) := by
  obtain ⟨hxm1, hxm2, hxm3, _⟩ := hx
  have HPl : Hid (∀ W, WkAt W B H A G C m s x → SpansAt W → Calls Tryz.prog 134 #[.pointer (some ⟨B, 0, none⟩), .int .u64 x.m1] W fun e w' => e = .returned (.int .i64 (fieldP C.a C.b C.c C.d x.m1.toNat (partK x.q1))) ∧ Below W.heap.size W w') := Lib.hid (fun W h1 h2 => partOf_c h1 h2 x.m1 hxm1)
  have hzU : U64 (ldP C s (fieldP C.a C.b C.c C.d x.m1.toNat (partK x.q1))) := ldP_U hu _
  unfold ldP at *
  generalize hP : (fieldP C.a C.b C.c C.d x.m1.toNat (partK x.q1)) = P at *
  have HD : Hid (∀ W, HAt W H A G C s → Calls Tryz.prog 92 #[.pointer (some ⟨H, 0, none⟩), .int .i64 P] W (HP W H A G C (s.act C 1 P 0 0) (.int .u64 (z5 C.n 1 P (s.f P.toNat))))) := Lib.hid (fun W hW => hLoad_c (w := W) hW hu P)
  generalize (s.act C 1 P 0 0) = s' at *
  generalize (z5 C.n 1 P (s.f P.toNat)) = Z at *
  have HW := Lib.hid h; have HS := Lib.hid hS
  have HQ : Hid (Sav (WS H G B) w w) := Lib.hid (Sav.of (Below.refl _ _))
  clear h hS hu
  obtain ⟨k0, _, _, _, _, _, k6, _, _, _, _, _, _, _, _, _⟩ := HW.out.cells
  (try dsimp only at k6)
  skip
  go_enter Tryz.func103, Tryz.ntmps103
  go_wp2_with fail
  refine wp_region_noPanic ?_
  refine wp_region_held_drew (S := (fun w' => w'.cell? ⟨B, 0, none⟩ = some (.pointer (some ⟨H, 0, none⟩)) ∧ w'.cell? ⟨B, 6, none⟩ = some (.int .u64 x.m1))) (by kernel_rfl) ?_ (fun hHeld => ?_)
  · exact ⟨k0, k6⟩
  refine wpAnyH_take (i := 0) (oi := { dst := some 3, op := Op.move (Operand.tmp 0), type := 127, pos := "lisp.go:185", after := #[], guard := none }) (v := ?vq0) rfl (by kernel_rfl) (by kernel_rfl) (by kernel_rfl) (fun _ _ _ h => h) (Or.inl ⟨by rfl, ?hyq0⟩) hHeld ?_
  case hyq0 => (intro w hSw; (try dsimp only at hSw); go_simp; (try with_reducible rfl))
  try simp only [Act.put, List.setIfInBounds_toArray, List.set_cons_zero, List.set_cons_succ]
  refine wpAnyH_take (i := 1) (oi := { dst := some 4, op := Op.move (Operand.tmp 0), type := 127, pos := "lisp.go:185", after := #[], guard := none }) (v := ?vq1) rfl (by kernel_rfl) (by kernel_rfl) (by kernel_rfl) (fun _ _ _ h => h) (Or.inl ⟨by rfl, ?hyq1⟩) hHeld ?_
  case hyq1 => (intro w hSw; (try dsimp only at hSw); go_simp; (try with_reducible rfl))
  try simp only [Act.put, List.setIfInBounds_toArray, List.set_cons_zero, List.set_cons_succ]
  refine wpAnyH_take (i := 2) (oi := { dst := some 5, op := Op.nilCheck (Operand.tmp 4), type := 0, pos := "lisp.go:185", after := #[{ on := 1, ground := Ground.data }], guard := none }) (v := ?vq2) rfl (by kernel_rfl) (by kernel_rfl) (by kernel_rfl) (fun _ _ _ h => h) (Or.inl ⟨by rfl, ?hyq2⟩) hHeld ?_
  case hyq2 => (intro w hSw; (try dsimp only at hSw); go_simp; (try with_reducible rfl))
  try simp only [Act.put, List.setIfInBounds_toArray, List.set_cons_zero, List.set_cons_succ]
  refine wpAnyH_take (i := 3) (oi := { dst := some 6, op := Op.fieldAddr 126 (Operand.tmp 5) 0, type := 0, pos := "lisp.go:185", after := #[{ on := 2, ground := Ground.data }], guard := none }) (v := ?vq3) rfl (by kernel_rfl) (by kernel_rfl) (by kernel_rfl) (fun _ _ _ h => h) (Or.inl ⟨by rfl, ?hyq3⟩) hHeld ?_
  case hyq3 => (intro w hSw; (try dsimp only at hSw); go_simp; (try with_reducible rfl))
  try simp only [Act.put, List.setIfInBounds_toArray, List.set_cons_zero, List.set_cons_succ]
  refine wpAnyH_take (i := 4) (oi := { dst := some 7, op := Op.load 43 (Operand.tmp 6), type := 43, pos := "lisp.go:185", after := #[{ on := 3, ground := Ground.data }], guard := none }) (v := ?vq4) rfl (by kernel_rfl) (by kernel_rfl) (by kernel_rfl) (fun _ _ _ h => h) (Or.inl ⟨by rfl, ?hyq4⟩) hHeld ?_
  case hyq4 => (intro w hSw; (try dsimp only at hSw); go_simp; (try with_reducible rfl))
  try simp only [Act.put, List.setIfInBounds_toArray, List.set_cons_zero, List.set_cons_succ]
  refine wpAnyH_take (i := 5) (oi := { dst := some 8, op := Op.move (Operand.tmp 0), type := 127, pos := "lisp.go:185", after := #[], guard := none }) (v := ?vq5) rfl (by kernel_rfl) (by kernel_rfl) (by kernel_rfl) (fun _ _ _ h => h) (Or.inl ⟨by rfl, ?hyq5⟩) hHeld ?_
  case hyq5 => (intro w hSw; (try dsimp only at hSw); go_simp; (try with_reducible rfl))
  try simp only [Act.put, List.setIfInBounds_toArray, List.set_cons_zero, List.set_cons_succ]
  refine wpAnyH_take (i := 6) (oi := { dst := some 9, op := Op.move (Operand.tmp 0), type := 127, pos := "lisp.go:185", after := #[], guard := none }) (v := ?vq6) rfl (by kernel_rfl) (by kernel_rfl) (by kernel_rfl) (fun _ _ _ h => h) (Or.inl ⟨by rfl, ?hyq6⟩) hHeld ?_
  case hyq6 => (intro w hSw; (try dsimp only at hSw); go_simp; (try with_reducible rfl))
  try simp only [Act.put, List.setIfInBounds_toArray, List.set_cons_zero, List.set_cons_succ]
  refine wpAnyH_take (i := 7) (oi := { dst := some 10, op := Op.nilCheck (Operand.tmp 9), type := 0, pos := "lisp.go:185", after := #[{ on := 6, ground := Ground.data }], guard := none }) (v := ?vq7) rfl (by kernel_rfl) (by kernel_rfl) (by kernel_rfl) (fun _ _ _ h => h) (Or.inl ⟨by rfl, ?hyq7⟩) hHeld ?_
  case hyq7 => (intro w hSw; (try dsimp only at hSw); go_simp; (try with_reducible rfl))
  try simp only [Act.put, List.setIfInBounds_toArray, List.set_cons_zero, List.set_cons_succ]
  refine wpAnyH_take (i := 8) (oi := { dst := some 11, op := Op.fieldAddr 126 (Operand.tmp 10) 1, type := 0, pos := "lisp.go:185", after := #[{ on := 7, ground := Ground.data }], guard := none }) (v := ?vq8) rfl (by kernel_rfl) (by kernel_rfl) (by kernel_rfl) (fun _ _ _ h => h) (Or.inl ⟨by rfl, ?hyq8⟩) hHeld ?_
  case hyq8 => (intro w hSw; (try dsimp only at hSw); go_simp; (try with_reducible rfl))
  try simp only [Act.put, List.setIfInBounds_toArray, List.set_cons_zero, List.set_cons_succ]
  refine wpAnyH_take (i := 9) (oi := { dst := some 12, op := Op.fieldAddr 30 (Operand.tmp 11) 2, type := 0, pos := "lisp.go:185", after := #[{ on := 8, ground := Ground.data }], guard := none }) (v := ?vq9) rfl (by kernel_rfl) (by kernel_rfl) (by kernel_rfl) (fun _ _ _ h => h) (Or.inl ⟨by rfl, ?hyq9⟩) hHeld ?_
  case hyq9 => (intro w hSw; (try dsimp only at hSw); go_simp; (try with_reducible rfl))
  try simp only [Act.put, List.setIfInBounds_toArray, List.set_cons_zero, List.set_cons_succ]
  refine wpAnyH_take (i := 10) (oi := { dst := some 13, op := Op.load 28 (Operand.tmp 12), type := 28, pos := "lisp.go:185", after := #[{ on := 9, ground := Ground.data }], guard := none }) (v := ?vq10) rfl (by kernel_rfl) (by kernel_rfl) (by kernel_rfl) (fun _ _ _ h => h) (Or.inl ⟨by rfl, ?hyq10⟩) hHeld ?_
  case hyq10 => (intro w hSw; (try dsimp only at hSw); go_simp; (try with_reducible rfl))
  try simp only [Act.put, List.setIfInBounds_toArray, List.set_cons_zero, List.set_cons_succ]
  refine wpAnyH_ready (rs := [11]) (by kernel_rfl) (by simp) ?_
  refine AllReadyH.cons (o := { dst := some 14, op := Op.call { callee := Callee.value (Operand.func 134), args := #[Operand.tmp 8, Operand.tmp 13], argTypes := #[127, 28] }, type := 3, pos := "lisp.go:185", after := #[{ on := 5, ground := Ground.data }, { on := 10, ground := Ground.data }], guard := none }) rfl (fun K hK => ?_) AllReadyH.nil
  go_simp
  have HW0 := Lib.hid HW.out.drew; have HS0 : Hid (SpansAt _) := Lib.hid (show SpansAt w.drew from HS.out); have HQ0 : Hid (Sav (WS H G B) w w.drew) := Lib.hid (Sav.of (Below.refl _ _).drew)
  clear HW HS HQ
  refine (HPl.out _ HW0.out HS0.out).mono ?_
  rintro e V1 ⟨rfl, hb⟩
  have HW1 := Lib.hid (HW0.out.below hb); have HQ1 := Lib.hid (HQ0.out.trans (Sav.of hb))
  clear HW0 HQ0 HS0 hb HPl hHeld k0 k6
  obtain ⟨k0, _, _, _, _, _, k6, _, _, _, _, _, _, _, _, _⟩ := HW1.out.cells
  (try dsimp only at k6)
  refine hK.out _ _ ?_ (fun hHeld => ?_)
  · exact ⟨k0, k6⟩
  clear hK K
  try simp only [Act.put, List.setIfInBounds_toArray, List.set_cons_zero, List.set_cons_succ]
  refine wpAnyH_ready (rs := [12]) (by kernel_rfl) (by simp) ?_
  refine AllReadyH.cons (o := { dst := some 15, op := Op.call { callee := Callee.value (Operand.func 92), args := #[Operand.tmp 7, Operand.tmp 14], argTypes := #[43, 3] }, type := 28, pos := "lisp.go:185", after := #[{ on := 4, ground := Ground.data }, { on := 11, ground := Ground.data }, { on := 11, ground := Ground.chain }], guard := none }) rfl (fun K hK => ?_) AllReadyH.nil
  go_simp
  refine (HD.out _ HW1.out.hand).mono ?_
  rintro e V2 ⟨rfl, hF, hs⟩
  have HW2 := Lib.hid (HW1.out.handed hF hs); have HQ2 := Lib.hid (HQ1.out.trans (hgWS hs))
  clear HW1 HQ1 HD hF hs hHeld k0 k6
  obtain ⟨k0, _, _, _, _, _, k6, _, _, _, _, _, _, _, _, _⟩ := HW2.out.cells
  (try dsimp only at k6)
  obtain ⟨_, _, _, _, _, _, g6, g7, _, _, _, _, _, _, _, gf⟩ := HW2.out.cells
  (try dsimp only at g6 g7)
  refine hK.out _ _ ?_ (fun hHeld => ?_)
  · exact ⟨k0, k6⟩
  clear hK K
  try simp only [Act.put, List.setIfInBounds_toArray, List.set_cons_zero, List.set_cons_succ]
  refine wpAnyH_take (i := 13) (oi := { dst := some 16, op := Op.nilCheck (Operand.tmp 3), type := 0, pos := "lisp.go:185", after := #[{ on := 0, ground := Ground.data }, { on := 0, ground := Ground.phase }, { on := 1, ground := Ground.phase }, { on := 2, ground := Ground.phase }, { on := 3, ground := Ground.phase }, { on := 4, ground := Ground.phase }, { on := 5, ground := Ground.phase }, { on := 6, ground := Ground.phase }, { on := 7, ground := Ground.phase }, { on := 8, ground := Ground.phase }, { on := 9, ground := Ground.phase }, { on := 10, ground := Ground.phase }, { on := 11, ground := Ground.phase }, { on := 12, ground := Ground.phase }], guard := none }) (v := ?vq13) rfl (by kernel_rfl) (by kernel_rfl) (by kernel_rfl) (fun _ _ _ h => h) (Or.inl ⟨by rfl, ?hyq13⟩) hHeld ?_
  case hyq13 => (intro w hSw; (try dsimp only at hSw); go_simp; (try with_reducible rfl))
  try simp only [Act.put, List.setIfInBounds_toArray, List.set_cons_zero, List.set_cons_succ]
  refine wpAnyH_take (i := 14) (oi := { dst := some 17, op := Op.fieldAddr 126 (Operand.tmp 16) 1, type := 0, pos := "lisp.go:185", after := #[{ on := 13, ground := Ground.data }, { on := 0, ground := Ground.phase }, { on := 1, ground := Ground.phase }, { on := 2, ground := Ground.phase }, { on := 3, ground := Ground.phase }, { on := 4, ground := Ground.phase }, { on := 5, ground := Ground.phase }, { on := 6, ground := Ground.phase }, { on := 7, ground := Ground.phase }, { on := 8, ground := Ground.phase }, { on := 9, ground := Ground.phase }, { on := 10, ground := Ground.phase }, { on := 11, ground := Ground.phase }, { on := 12, ground := Ground.phase }], guard := none }) (v := ?vq14) rfl (by kernel_rfl) (by kernel_rfl) (by kernel_rfl) (fun _ _ _ h => h) (Or.inl ⟨by rfl, ?hyq14⟩) hHeld ?_
  case hyq14 => (intro w hSw; (try dsimp only at hSw); go_simp; (try with_reducible rfl))
  try simp only [Act.put, List.setIfInBounds_toArray, List.set_cons_zero, List.set_cons_succ]
  refine wpAnyH_take (i := 15) (oi := { dst := some 18, op := Op.fieldAddr 30 (Operand.tmp 17) 3, type := 0, pos := "lisp.go:185", after := #[{ on := 14, ground := Ground.data }, { on := 0, ground := Ground.phase }, { on := 1, ground := Ground.phase }, { on := 2, ground := Ground.phase }, { on := 3, ground := Ground.phase }, { on := 4, ground := Ground.phase }, { on := 5, ground := Ground.phase }, { on := 6, ground := Ground.phase }, { on := 7, ground := Ground.phase }, { on := 8, ground := Ground.phase }, { on := 9, ground := Ground.phase }, { on := 10, ground := Ground.phase }, { on := 11, ground := Ground.phase }, { on := 12, ground := Ground.phase }], guard := none }) (v := ?vq15) rfl (by kernel_rfl) (by kernel_rfl) (by kernel_rfl) (fun _ _ _ h => h) (Or.inl ⟨by rfl, ?hyq15⟩) hHeld ?_
  case hyq15 => (intro w hSw; (try dsimp only at hSw); go_simp; (try with_reducible rfl))
  try simp only [Act.put, List.setIfInBounds_toArray, List.set_cons_zero, List.set_cons_succ]
  refine wpAnyH_ready (rs := [16]) (by kernel_rfl) (by simp) ?_
  refine AllReadyH.cons (o := { dst := none, op := Op.store 28 (Operand.tmp 18) (Operand.tmp 15), type := 0, pos := "lisp.go:185", after := #[{ on := 15, ground := Ground.data }, { on := 12, ground := Ground.data }, { on := 12, ground := Ground.chain }, { on := 0, ground := Ground.phase }, { on := 1, ground := Ground.phase }, { on := 2, ground := Ground.phase }, { on := 3, ground := Ground.phase }, { on := 4, ground := Ground.phase }, { on := 5, ground := Ground.phase }, { on := 6, ground := Ground.phase }, { on := 7, ground := Ground.phase }, { on := 8, ground := Ground.phase }, { on := 9, ground := Ground.phase }, { on := 10, ground := Ground.phase }, { on := 11, ground := Ground.phase }, { on := 12, ground := Ground.phase }], guard := none }) rfl (fun K hK => ?_) AllReadyH.nil
  go_simp
  clear g6 g7 gf
  have HW3 := Lib.hid (HW2.out.setB Z); have HQ3 := Lib.hid (HQ2.out.set (p := ⟨B, 7, none⟩) (.inl (.inr rfl)) (.int .u64 Z))
  clear hHeld k0 k6
  obtain ⟨k0, _, _, _, _, _, k6, _, _, _, _, _, _, _, _, _⟩ := HW3.out.cells
  (try dsimp only at k6)
  clear HW2 HQ2
  refine hK.out _ _ ?_ (fun hHeld => ?_)
  · exact ⟨k0, k6⟩
  clear hK K
  try simp only [Act.put, List.setIfInBounds_toArray, List.set_cons_zero, List.set_cons_succ]
  refine wpAnyH_done (by kernel_rfl) ?_ _
  refine NoPanic.normal ?_
  clear hHeld k0 k6
  obtain ⟨c0, c1, c2, c3, c4, c5, c6, c7, c8, c9, c10, c11, c12, c13, c14, cf⟩ := HW3.out.cells
  (try dsimp only at c1 c2 c3 c4 c5 c6 c7 c8 c9 c10 c11 c12 c13)
  go_wp2_with fail
  have HWz := Lib.hid (HW3.out.setL 15); have HQz := Lib.hid (HQ3.out.set (p := ⟨B, 1, none⟩) (.inl (.inr rfl)) (.int .i64 15))
  go_ret
  exact ⟨rfl, HWz.out, HQz.out⟩
set_option maxHeartbeats 3200000 in
theorem own_bring {w : World} {B H A G : Nat} {C : Cf} {m : Int} {s : Dy} {x : Mu} (h : WkAt w B H A G C m s x) (hu : s.U) (hx : x.U) (hS : SpansAt w) :
    Calls Tryz.prog 104 #[.pointer (some ⟨B, 0, none⟩)] w (WPost w B H A G C m (.bool false) (s.act C 2 (regP C.a C.b C.c C.d m x.q2) x.m2 0) (begM { x with rt := 1 } x.m2 90)) := by
  obtain ⟨hxm1, hxm2, hxm3, _⟩ := hx
  have HPl : Hid (∀ W, WkAt W B H A G C m s x → SpansAt W → Calls Tryz.prog 129 #[.pointer (some ⟨B, 0, none⟩), .int .i64 x.q2] W fun e w' => e = .returned (.int .i64 (regP C.a C.b C.c C.d m x.q2)) ∧ Below W.heap.size W w') := Lib.hid (fun W h1 h2 => reg_c h1 h2 x.q2)
  generalize hP : (regP C.a C.b C.c C.d m x.q2) = P at *
  have HD : Hid (∀ W, HAt W H A G C s → Calls Tryz.prog 97 #[.pointer (some ⟨H, 0, none⟩), .int .i64 P, .int .u64 x.m2] W (HP W H A G C (s.act C 2 P x.m2 0) (.tuple #[]))) := Lib.hid (fun W hW => hStore_c (w := W) hW hu P x.m2)
  generalize (s.act C 2 P x.m2 0) = s' at *
  have HW := Lib.hid h; have HS := Lib.hid hS
  have HQ : Hid (Sav (WS H G B) w w) := Lib.hid (Sav.of (Below.refl _ _))
  clear h hS hu
  obtain ⟨k0, _, _, k3, _, _, _, k7, _, _, _, _, _, _, _, _⟩ := HW.out.cells
  (try dsimp only at k3 k7)
  skip
  go_enter Tryz.func104, Tryz.ntmps104
  go_wp2_with fail
  refine wp_region_noPanic ?_
  refine wp_region_held_drew (S := (fun w' => w'.cell? ⟨B, 0, none⟩ = some (.pointer (some ⟨H, 0, none⟩)) ∧ w'.cell? ⟨B, 3, none⟩ = some (.int .i64 x.q2) ∧ w'.cell? ⟨B, 7, none⟩ = some (.int .u64 x.m2))) (by kernel_rfl) ?_ (fun hHeld => ?_)
  · exact ⟨k0, k3, k7⟩
  refine wpAnyH_take (i := 0) (oi := { dst := some 3, op := Op.move (Operand.tmp 0), type := 127, pos := "lisp.go:192", after := #[], guard := none }) (v := ?vq0) rfl (by kernel_rfl) (by kernel_rfl) (by kernel_rfl) (fun _ _ _ h => h) (Or.inl ⟨by rfl, ?hyq0⟩) hHeld ?_
  case hyq0 => (intro w hSw; (try dsimp only at hSw); go_simp; (try with_reducible rfl))
  try simp only [Act.put, List.setIfInBounds_toArray, List.set_cons_zero, List.set_cons_succ]
  refine wpAnyH_take (i := 1) (oi := { dst := some 4, op := Op.nilCheck (Operand.tmp 3), type := 0, pos := "lisp.go:192", after := #[{ on := 0, ground := Ground.data }], guard := none }) (v := ?vq1) rfl (by kernel_rfl) (by kernel_rfl) (by kernel_rfl) (fun _ _ _ h => h) (Or.inl ⟨by rfl, ?hyq1⟩) hHeld ?_
  case hyq1 => (intro w hSw; (try dsimp only at hSw); go_simp; (try with_reducible rfl))
  try simp only [Act.put, List.setIfInBounds_toArray, List.set_cons_zero, List.set_cons_succ]
  refine wpAnyH_take (i := 2) (oi := { dst := some 5, op := Op.fieldAddr 126 (Operand.tmp 4) 0, type := 0, pos := "lisp.go:192", after := #[{ on := 1, ground := Ground.data }], guard := none }) (v := ?vq2) rfl (by kernel_rfl) (by kernel_rfl) (by kernel_rfl) (fun _ _ _ h => h) (Or.inl ⟨by rfl, ?hyq2⟩) hHeld ?_
  case hyq2 => (intro w hSw; (try dsimp only at hSw); go_simp; (try with_reducible rfl))
  try simp only [Act.put, List.setIfInBounds_toArray, List.set_cons_zero, List.set_cons_succ]
  refine wpAnyH_take (i := 3) (oi := { dst := some 6, op := Op.load 43 (Operand.tmp 5), type := 43, pos := "lisp.go:192", after := #[{ on := 2, ground := Ground.data }], guard := none }) (v := ?vq3) rfl (by kernel_rfl) (by kernel_rfl) (by kernel_rfl) (fun _ _ _ h => h) (Or.inl ⟨by rfl, ?hyq3⟩) hHeld ?_
  case hyq3 => (intro w hSw; (try dsimp only at hSw); go_simp; (try with_reducible rfl))
  try simp only [Act.put, List.setIfInBounds_toArray, List.set_cons_zero, List.set_cons_succ]
  refine wpAnyH_take (i := 4) (oi := { dst := some 7, op := Op.move (Operand.tmp 0), type := 127, pos := "lisp.go:192", after := #[], guard := none }) (v := ?vq4) rfl (by kernel_rfl) (by kernel_rfl) (by kernel_rfl) (fun _ _ _ h => h) (Or.inl ⟨by rfl, ?hyq4⟩) hHeld ?_
  case hyq4 => (intro w hSw; (try dsimp only at hSw); go_simp; (try with_reducible rfl))
  try simp only [Act.put, List.setIfInBounds_toArray, List.set_cons_zero, List.set_cons_succ]
  refine wpAnyH_take (i := 5) (oi := { dst := some 8, op := Op.move (Operand.tmp 0), type := 127, pos := "lisp.go:192", after := #[], guard := none }) (v := ?vq5) rfl (by kernel_rfl) (by kernel_rfl) (by kernel_rfl) (fun _ _ _ h => h) (Or.inl ⟨by rfl, ?hyq5⟩) hHeld ?_
  case hyq5 => (intro w hSw; (try dsimp only at hSw); go_simp; (try with_reducible rfl))
  try simp only [Act.put, List.setIfInBounds_toArray, List.set_cons_zero, List.set_cons_succ]
  refine wpAnyH_take (i := 6) (oi := { dst := some 9, op := Op.nilCheck (Operand.tmp 8), type := 0, pos := "lisp.go:192", after := #[{ on := 5, ground := Ground.data }], guard := none }) (v := ?vq6) rfl (by kernel_rfl) (by kernel_rfl) (by kernel_rfl) (fun _ _ _ h => h) (Or.inl ⟨by rfl, ?hyq6⟩) hHeld ?_
  case hyq6 => (intro w hSw; (try dsimp only at hSw); go_simp; (try with_reducible rfl))
  try simp only [Act.put, List.setIfInBounds_toArray, List.set_cons_zero, List.set_cons_succ]
  refine wpAnyH_take (i := 7) (oi := { dst := some 10, op := Op.fieldAddr 126 (Operand.tmp 9) 1, type := 0, pos := "lisp.go:192", after := #[{ on := 6, ground := Ground.data }], guard := none }) (v := ?vq7) rfl (by kernel_rfl) (by kernel_rfl) (by kernel_rfl) (fun _ _ _ h => h) (Or.inl ⟨by rfl, ?hyq7⟩) hHeld ?_
  case hyq7 => (intro w hSw; (try dsimp only at hSw); go_simp; (try with_reducible rfl))
  try simp only [Act.put, List.setIfInBounds_toArray, List.set_cons_zero, List.set_cons_succ]
  refine wpAnyH_take (i := 8) (oi := { dst := some 11, op := Op.fieldAddr 30 (Operand.tmp 10) 1, type := 0, pos := "lisp.go:192", after := #[{ on := 7, ground := Ground.data }], guard := none }) (v := ?vq8) rfl (by kernel_rfl) (by kernel_rfl) (by kernel_rfl) (fun _ _ _ h => h) (Or.inl ⟨by rfl, ?hyq8⟩) hHeld ?_
  case hyq8 => (intro w hSw; (try dsimp only at hSw); go_simp; (try with_reducible rfl))
  try simp only [Act.put, List.setIfInBounds_toArray, List.set_cons_zero, List.set_cons_succ]
  refine wpAnyH_take (i := 9) (oi := { dst := some 12, op := Op.fieldAddr 26 (Operand.tmp 11) 1, type := 0, pos := "lisp.go:192", after := #[{ on := 8, ground := Ground.data }], guard := none }) (v := ?vq9) rfl (by kernel_rfl) (by kernel_rfl) (by kernel_rfl) (fun _ _ _ h => h) (Or.inl ⟨by rfl, ?hyq9⟩) hHeld ?_
  case hyq9 => (intro w hSw; (try dsimp only at hSw); go_simp; (try with_reducible rfl))
  try simp only [Act.put, List.setIfInBounds_toArray, List.set_cons_zero, List.set_cons_succ]
  refine wpAnyH_take (i := 10) (oi := { dst := some 13, op := Op.load 3 (Operand.tmp 12), type := 3, pos := "lisp.go:192", after := #[{ on := 9, ground := Ground.data }], guard := none }) (v := ?vq10) rfl (by kernel_rfl) (by kernel_rfl) (by kernel_rfl) (fun _ _ _ h => h) (Or.inl ⟨by rfl, ?hyq10⟩) hHeld ?_
  case hyq10 => (intro w hSw; (try dsimp only at hSw); go_simp; (try with_reducible rfl))
  try simp only [Act.put, List.setIfInBounds_toArray, List.set_cons_zero, List.set_cons_succ]
  refine wpAnyH_take (i := 12) (oi := { dst := some 15, op := Op.move (Operand.tmp 0), type := 127, pos := "lisp.go:192", after := #[], guard := none }) (v := ?vq12) rfl (by kernel_rfl) (by kernel_rfl) (by kernel_rfl) (fun _ _ _ h => h) (Or.inl ⟨by rfl, ?hyq12⟩) hHeld ?_
  case hyq12 => (intro w hSw; (try dsimp only at hSw); go_simp; (try with_reducible rfl))
  try simp only [Act.put, List.setIfInBounds_toArray, List.set_cons_zero, List.set_cons_succ]
  refine wpAnyH_take (i := 13) (oi := { dst := some 16, op := Op.nilCheck (Operand.tmp 15), type := 0, pos := "lisp.go:192", after := #[{ on := 12, ground := Ground.data }], guard := none }) (v := ?vq13) rfl (by kernel_rfl) (by kernel_rfl) (by kernel_rfl) (fun _ _ _ h => h) (Or.inl ⟨by rfl, ?hyq13⟩) hHeld ?_
  case hyq13 => (intro w hSw; (try dsimp only at hSw); go_simp; (try with_reducible rfl))
  try simp only [Act.put, List.setIfInBounds_toArray, List.set_cons_zero, List.set_cons_succ]
  refine wpAnyH_take (i := 14) (oi := { dst := some 17, op := Op.fieldAddr 126 (Operand.tmp 16) 1, type := 0, pos := "lisp.go:192", after := #[{ on := 13, ground := Ground.data }], guard := none }) (v := ?vq14) rfl (by kernel_rfl) (by kernel_rfl) (by kernel_rfl) (fun _ _ _ h => h) (Or.inl ⟨by rfl, ?hyq14⟩) hHeld ?_
  case hyq14 => (intro w hSw; (try dsimp only at hSw); go_simp; (try with_reducible rfl))
  try simp only [Act.put, List.setIfInBounds_toArray, List.set_cons_zero, List.set_cons_succ]
  refine wpAnyH_take (i := 15) (oi := { dst := some 18, op := Op.fieldAddr 30 (Operand.tmp 17) 3, type := 0, pos := "lisp.go:192", after := #[{ on := 14, ground := Ground.data }], guard := none }) (v := ?vq15) rfl (by kernel_rfl) (by kernel_rfl) (by kernel_rfl) (fun _ _ _ h => h) (Or.inl ⟨by rfl, ?hyq15⟩) hHeld ?_
  case hyq15 => (intro w hSw; (try dsimp only at hSw); go_simp; (try with_reducible rfl))
  try simp only [Act.put, List.setIfInBounds_toArray, List.set_cons_zero, List.set_cons_succ]
  refine wpAnyH_take (i := 16) (oi := { dst := some 19, op := Op.load 28 (Operand.tmp 18), type := 28, pos := "lisp.go:192", after := #[{ on := 15, ground := Ground.data }], guard := none }) (v := ?vq16) rfl (by kernel_rfl) (by kernel_rfl) (by kernel_rfl) (fun _ _ _ h => h) (Or.inl ⟨by rfl, ?hyq16⟩) hHeld ?_
  case hyq16 => (intro w hSw; (try dsimp only at hSw); go_simp; (try with_reducible rfl))
  try simp only [Act.put, List.setIfInBounds_toArray, List.set_cons_zero, List.set_cons_succ]
  refine wpAnyH_ready (rs := [11]) (by kernel_rfl) (by simp) ?_
  refine AllReadyH.cons (o := { dst := some 14, op := Op.call { callee := Callee.value (Operand.func 129), args := #[Operand.tmp 7, Operand.tmp 13], argTypes := #[127, 3] }, type := 3, pos := "lisp.go:192", after := #[{ on := 4, ground := Ground.data }, { on := 10, ground := Ground.data }], guard := none }) rfl (fun K hK => ?_) AllReadyH.nil
  go_simp
  have HW0 := Lib.hid HW.out.drew; have HS0 : Hid (SpansAt _) := Lib.hid (show SpansAt w.drew from HS.out); have HQ0 : Hid (Sav (WS H G B) w w.drew) := Lib.hid (Sav.of (Below.refl _ _).drew)
  clear HW HS HQ
  refine (HPl.out _ HW0.out HS0.out).mono ?_
  rintro e V1 ⟨rfl, hb⟩
  have HW1 := Lib.hid (HW0.out.below hb); have HQ1 := Lib.hid (HQ0.out.trans (Sav.of hb))
  clear HW0 HQ0 HS0 hb HPl hHeld k0 k3 k7
  obtain ⟨k0, _, _, k3, _, _, _, k7, _, _, _, _, _, _, _, _⟩ := HW1.out.cells
  (try dsimp only at k3 k7)
  refine hK.out _ _ ?_ (fun hHeld => ?_)
  · exact ⟨k0, k3, k7⟩
  clear hK K
  try simp only [Act.put, List.setIfInBounds_toArray, List.set_cons_zero, List.set_cons_succ]
  refine wpAnyH_ready (rs := [17]) (by kernel_rfl) (by simp) ?_
  refine AllReadyH.cons (o := { dst := some 20, op := Op.call { callee := Callee.value (Operand.func 97), args := #[Operand.tmp 6, Operand.tmp 14, Operand.tmp 19], argTypes := #[43, 3, 28] }, type := 0, pos := "lisp.go:192", after := #[{ on := 3, ground := Ground.data }, { on := 11, ground := Ground.data }, { on := 16, ground := Ground.data }, { on := 11, ground := Ground.chain }], guard := none }) rfl (fun K hK => ?_) AllReadyH.nil
  go_simp
  refine (HD.out _ HW1.out.hand).mono ?_
  rintro e V2 ⟨rfl, hF, hs⟩
  have HW2 := Lib.hid (HW1.out.handed hF hs); have HQ2 := Lib.hid (HQ1.out.trans (hgWS hs))
  clear HW1 HQ1 HD hF hs hHeld k0 k3 k7
  obtain ⟨k0, _, _, k3, _, _, _, k7, _, _, _, _, _, _, _, _⟩ := HW2.out.cells
  (try dsimp only at k3 k7)
  refine hK.out _ _ ?_ (fun hHeld => ?_)
  · exact ⟨k0, k3, k7⟩
  clear hK K
  try simp only [Act.put, List.setIfInBounds_toArray, List.set_cons_zero, List.set_cons_succ]
  refine wpAnyH_done (by kernel_rfl) ?_ _
  refine NoPanic.normal ?_
  clear hHeld k0 k3 k7
  obtain ⟨c0, c1, c2, c3, c4, c5, c6, c7, c8, c9, c10, c11, c12, c13, c14, cf⟩ := HW2.out.cells
  (try dsimp only at c1 c2 c3 c4 c5 c6 c7 c8 c9 c10 c11 c12 c13)
  go_wp2_with fail
  refine (succeed_c HW2.out x.m2 hxm2).mono ?_
  rintro e V ⟨rfl, hW, hs⟩
  have HWz := Lib.hid hW; have HQz := Lib.hid (HQ2.out.trans hs)
  clear hW hs HW2 HQ2 c0 c1 c2 c3 c4 c5 c6 c7 c8 c9 c10 c11 c12 c13 c14 cf
  go_wp2_with fail
  go_ret
  exact ⟨rfl, HWz.out, HQz.out⟩
end Go.Proofs.YtbpkdihonemogaaGreatDoor
