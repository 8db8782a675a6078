/- A step of package ticket from every line; of a nil hand. -/
import Derived.Test.YtbpooljohjkbjaaGreatDoorM4
namespace Go.Proofs.YtbpooljohjkbjaaGreatDoor
open Go Go.RowKit
set_option maxRecDepth 100000
attribute [local go_sem ↓] Go.wp_at_zero Go.wp_at_succ
theorem Mut13.setT {w : World} {B : Nat} {l p bk q1 q2 q3 q4 m1 m2 m3 m4 m5 rt : Int} (h : Mut13 w B l p bk q1 q2 q3 q4 m1 m2 m3 m4 m5 rt) (z : Int) : Mut13 (w.setCell ⟨B, 9, none⟩ (.int .u64 z)) B l p bk q1 q2 q3 q4 m1 m2 m3 m4 z rt := by
  unfold Mut13 at *; simp [World.setCell, Array.getElem?_modify, h]
theorem behind_37 (w : World) : Calls Tryz.prog 141 #[.int .i64 37] w fun e w' => e = .returned (.int .i64 38) ∧ w = w' := by
  go_enter Tryz.func141, Tryz.ntmps141
  go_wp2_with fail
  go_ret
  exact ⟨rfl, rfl⟩
theorem behind_41 (w : World) : Calls Tryz.prog 141 #[.int .i64 41] w fun e w' => e = .returned (.int .i64 90) ∧ w = w' := by
  go_enter Tryz.func141, Tryz.ntmps141
  go_wp2_with fail
  go_ret
  exact ⟨rfl, rfl⟩
set_option maxHeartbeats 1600000 in
theorem tStep_draw {w : World} {H A G : Nat} {C : Cf} {s : Dy} (hH : HAt w H A G C s) (hu : s.U)  (p bk q1 q2 q3 q4 m1 m2 m3 m4 m5 rt : Int) :
    Calls Tryz.prog 109 #[.pointer (some ⟨H, 0, none⟩), (mutV 32 p bk q1 q2 q3 q4 m1 m2 m3 m4 m5 rt)] w (HP w H A G C (s.act C 4 3 1 0) (.tuple #[(mutV 33 p bk q1 q2 q3 q4 m1 m2 m3 m4 (z5 C.n 4 3 (s.f 3)) rt), .bool true])) := by
  have hb := (below_on (below_new w (.cells #[.int .i64 32, .int .i64 q1, .int .i64 q2, .int .i64 q3, .int .i64 q4, .int .u64 m1, .int .u64 m2, .int .u64 m3, .int .u64 m4, .int .u64 m5, .int .u64 p, .int .i64 bk, .int .i64 rt] 60)) (.cells #[.int .i64 0, .int .i64 0, .int .i64 0, .int .i64 0, .int .i64 0, .int .u64 0, .int .u64 0, .int .u64 0, .int .u64 0, .int .u64 0, .int .u64 0, .int .i64 0, .int .i64 0] 60))
  have hm : Mut13 ((w.alloc (.cells #[.int .i64 32, .int .i64 q1, .int .i64 q2, .int .i64 q3, .int .i64 q4, .int .u64 m1, .int .u64 m2, .int .u64 m3, .int .u64 m4, .int .u64 m5, .int .u64 p, .int .i64 bk, .int .i64 rt] 60)).alloc (.cells #[.int .i64 0, .int .i64 0, .int .i64 0, .int .i64 0, .int .i64 0, .int .u64 0, .int .u64 0, .int .u64 0, .int .u64 0, .int .u64 0, .int .u64 0, .int .i64 0, .int .i64 0] 60)) w.heap.size 32 p bk q1 q2 q3 q4 m1 m2 m3 m4 m5 rt := (Mut13.new w 32 p bk q1 q2 q3 q4 m1 m2 m3 m4 m5 rt).below (below_new _ _)
  have hy : Mut13 ((w.alloc (.cells #[.int .i64 32, .int .i64 q1, .int .i64 q2, .int .i64 q3, .int .i64 q4, .int .u64 m1, .int .u64 m2, .int .u64 m3, .int .u64 m4, .int .u64 m5, .int .u64 p, .int .i64 bk, .int .i64 rt] 60)).alloc (.cells #[.int .i64 0, .int .i64 0, .int .i64 0, .int .i64 0, .int .i64 0, .int .u64 0, .int .u64 0, .int .u64 0, .int .u64 0, .int .u64 0, .int .u64 0, .int .i64 0, .int .i64 0] 60)) (w.heap.size + 1) 0 0 0 0 0 0 0 0 0 0 0 0 0 := by
    have := Mut13.new (w.alloc (.cells #[.int .i64 32, .int .i64 q1, .int .i64 q2, .int .i64 q3, .int .i64 q4, .int .u64 m1, .int .u64 m2, .int .u64 m3, .int .u64 m4, .int .u64 m5, .int .u64 p, .int .i64 bk, .int .i64 rt] 60)) 0 0 0 0 0 0 0 0 0 0 0 0 0; simpa using this
  have HF := Lib.hid (hH.below hb)
  have HD : Hid (∀ W, HAt W H A G C s → Calls Tryz.prog 137 #[.pointer (some ⟨H, 0, none⟩), .int .i64 3, .int .u64 1] W (HP W H A G C (s.act C 4 3 1 0) (.int .u64 (z5 C.n 4 3 (s.f 3))))) := Lib.hid (fun W hW => hAdd_c (w := W) hW hu 3 1)
  have hlt : H < w.heap.size := hH.lt
  have hltA : A < w.heap.size := hH.ar.lt
  have hltG : G < w.heap.size := hH.ar.row.lt
  have HQ : Hid (Sav (HG H G) w _) := Lib.hid (Sav.of (S := HG H G) hb)
  have HM := Lib.hid hm; have HY := Lib.hid hy
  generalize (s.act C 4 3 1 0) = s' at *
  generalize (z5 C.n 4 3 (s.f 3)) = T at *
  clear hH hm hy hb hu
  go_enter Tryz.func109, Tryz.ntmps109
  go_wp2_with fail
  refine (HD.out _ HF.out).mono ?_
  rintro e V2 ⟨rfl, hF, hs⟩
  have HF2 := Lib.hid hF
  have HM2 := Lib.hid (HM.out.savH hs (by omega) (by omega))
  have HY2 := Lib.hid (HY.out.savH hs (by omega) (by omega))
  have HQ2 := Lib.hid (HQ.out.trans hs)
  clear hs hF HF HM HY HQ HD
  have HM3 := Lib.hid ((HM2.out.setT T).setL 33)
  have HF3 := Lib.hid ((HF2.out.setOther (p := ⟨w.heap.size, 9, none⟩) (by show w.heap.size ≠ _; omega) (by show w.heap.size ≠ _; omega) (by show w.heap.size ≠ _; omega) (.int .u64 T)).setOther (p := ⟨w.heap.size, 0, none⟩) (by show w.heap.size ≠ _; omega) (by show w.heap.size ≠ _; omega) (by show w.heap.size ≠ _; omega) (.int .i64 33))
  have HQ3 := Lib.hid ((HQ2.out.set (p := ⟨w.heap.size, 9, none⟩) (.inr (Nat.le_refl _)) (.int .u64 T)).set (p := ⟨w.heap.size, 0, none⟩) (.inr (Nat.le_refl _)) (.int .i64 33))
  have HY3 := Lib.hid ((HY2.out.setOther (q := ⟨w.heap.size, 9, none⟩) (by show w.heap.size ≠ w.heap.size + 1; omega) (.int .u64 T)).setOther (q := ⟨w.heap.size, 0, none⟩) (by show w.heap.size ≠ w.heap.size + 1; omega) (.int .i64 33))
  obtain ⟨b0, b1, b2, b3, b4, b5, b6, b7, b8, b9, b10, b11, b12, bf⟩ := HM2.out.cells
  obtain ⟨d0, d1, d2, d3, d4, d5, d6, d7, d8, d9, d10, d11, d12, df⟩ := HM3.out.cells
  obtain ⟨c0, c1, c2, c3, c4, c5, c6, c7, c8, c9, c10, c11, c12, cf⟩ := HY3.out.cells
  obtain ⟨s0, s1, s2, s3, s4, s5, s6, s7, s8, s9, s10, s11, s12, _⟩ := (HY3.out.put 33 p bk q1 q2 q3 q4 m1 m2 m3 m4 T rt).cells
  clear HM2 HY2 HF2 HQ2 HM3
  go_wp2_with fail
  refine bodyPost_ret (v := .tuple #[(mutV 33 p bk q1 q2 q3 q4 m1 m2 m3 m4 T rt), .bool true]) (by simp [results, Tryz.f109, go_sem, s0, s1, s2, s3, s4, s5, s6, s7, s8, s9, s10, s11, s12]) rfl ?_
  exact ⟨rfl, HF3.out.put13 (by omega) (by omega) (by omega) _ _ _ _ _ _ _ _ _ _ _ _ _, HQ3.out.put13 (C := w.heap.size + 1) (.inr (by omega)) _ _ _ _ _ _ _ _ _ _ _ _ _⟩
set_option maxHeartbeats 1600000 in
theorem tStep_won {w : World} {H A G : Nat} {C : Cf} {s : Dy} (hH : HAt w H A G C s) (hu : s.U)  (p bk q1 q2 q3 q4 m1 m2 m3 m4 m5 rt : Int) (hw : z5 C.n 1 4 (s.f 4) = m5) :
    Calls Tryz.prog 109 #[.pointer (some ⟨H, 0, none⟩), (mutV 33 p bk q1 q2 q3 q4 m1 m2 m3 m4 m5 rt)] w (HP w H A G C (s.act C 1 4 0 0) (.tuple #[(mutV 34 p bk q1 q2 q3 q4 m1 m2 m3 m4 m5 rt), .bool true])) := by
  have hq : (z5 C.n 1 4 (s.f 4) == m5) = true := by simpa using hw
  clear hw
  have hb := (below_on (below_new w (.cells #[.int .i64 33, .int .i64 q1, .int .i64 q2, .int .i64 q3, .int .i64 q4, .int .u64 m1, .int .u64 m2, .int .u64 m3, .int .u64 m4, .int .u64 m5, .int .u64 p, .int .i64 bk, .int .i64 rt] 60)) (.cells #[.int .i64 0, .int .i64 0, .int .i64 0, .int .i64 0, .int .i64 0, .int .u64 0, .int .u64 0, .int .u64 0, .int .u64 0, .int .u64 0, .int .u64 0, .int .i64 0, .int .i64 0] 60)).drew
  have hm : Mut13 ((w.alloc (.cells #[.int .i64 33, .int .i64 q1, .int .i64 q2, .int .i64 q3, .int .i64 q4, .int .u64 m1, .int .u64 m2, .int .u64 m3, .int .u64 m4, .int .u64 m5, .int .u64 p, .int .i64 bk, .int .i64 rt] 60)).alloc (.cells #[.int .i64 0, .int .i64 0, .int .i64 0, .int .i64 0, .int .i64 0, .int .u64 0, .int .u64 0, .int .u64 0, .int .u64 0, .int .u64 0, .int .u64 0, .int .i64 0, .int .i64 0] 60)).drew w.heap.size 33 p bk q1 q2 q3 q4 m1 m2 m3 m4 m5 rt := Mut13.other (w := (w.alloc (.cells #[.int .i64 33, .int .i64 q1, .int .i64 q2, .int .i64 q3, .int .i64 q4, .int .u64 m1, .int .u64 m2, .int .u64 m3, .int .u64 m4, .int .u64 m5, .int .u64 p, .int .i64 bk, .int .i64 rt] 60)).alloc (.cells #[.int .i64 0, .int .i64 0, .int .i64 0, .int .i64 0, .int .i64 0, .int .u64 0, .int .u64 0, .int .u64 0, .int .u64 0, .int .u64 0, .int .u64 0, .int .i64 0, .int .i64 0] 60)) ((Mut13.new w 33 p bk q1 q2 q3 q4 m1 m2 m3 m4 m5 rt).below (below_new _ _)) rfl
  have hy : Mut13 ((w.alloc (.cells #[.int .i64 33, .int .i64 q1, .int .i64 q2, .int .i64 q3, .int .i64 q4, .int .u64 m1, .int .u64 m2, .int .u64 m3, .int .u64 m4, .int .u64 m5, .int .u64 p, .int .i64 bk, .int .i64 rt] 60)).alloc (.cells #[.int .i64 0, .int .i64 0, .int .i64 0, .int .i64 0, .int .i64 0, .int .u64 0, .int .u64 0, .int .u64 0, .int .u64 0, .int .u64 0, .int .u64 0, .int .i64 0, .int .i64 0] 60)).drew (w.heap.size + 1) 0 0 0 0 0 0 0 0 0 0 0 0 0 := Mut13.other (w := (w.alloc (.cells #[.int .i64 33, .int .i64 q1, .int .i64 q2, .int .i64 q3, .int .i64 q4, .int .u64 m1, .int .u64 m2, .int .u64 m3, .int .u64 m4, .int .u64 m5, .int .u64 p, .int .i64 bk, .int .i64 rt] 60)).alloc (.cells #[.int .i64 0, .int .i64 0, .int .i64 0, .int .i64 0, .int .i64 0, .int .u64 0, .int .u64 0, .int .u64 0, .int .u64 0, .int .u64 0, .int .u64 0, .int .i64 0, .int .i64 0] 60)) (by
    have := Mut13.new (w.alloc (.cells #[.int .i64 33, .int .i64 q1, .int .i64 q2, .int .i64 q3, .int .i64 q4, .int .u64 m1, .int .u64 m2, .int .u64 m3, .int .u64 m4, .int .u64 m5, .int .u64 p, .int .i64 bk, .int .i64 rt] 60)) 0 0 0 0 0 0 0 0 0 0 0 0 0; simpa using this) rfl
  have HF := Lib.hid (hH.below hb)
  have HD : Hid (∀ W, HAt W H A G C s → Calls Tryz.prog 123 #[.pointer (some ⟨H, 0, none⟩), .int .i64 4] W (HP W H A G C (s.act C 1 4 0 0) (.int .u64 (z5 C.n 1 4 (s.f 4))))) := Lib.hid (fun W hW => hLoad_c (w := W) hW hu 4)
  have hlt : H < w.heap.size := hH.lt
  have hltA : A < w.heap.size := hH.ar.lt
  have hltG : G < w.heap.size := hH.ar.row.lt
  have HQ : Hid (Sav (HG H G) w _) := Lib.hid (Sav.of (S := HG H G) hb)
  have HM := Lib.hid hm; have HY := Lib.hid hy
  generalize (s.act C 1 4 0 0) = s' at *
  generalize (z5 C.n 1 4 (s.f 4)) = T at *
  clear hH hm hy hb hu
  have p1 := HM.out.cells.2.2.2.2.2.2.2.2.2.1
  obtain ⟨a0, a1, a2, a3, a4, a5, a6, a7, a8, a9, a10, a11, a12, af⟩ := HM.out.cells
  clear a1 a2 a3 a4 a5 a6 a7 a8 a9 a10 a11 a12 af
  have a0 : ((w.alloc (.cells #[.int .i64 33, .int .i64 q1, .int .i64 q2, .int .i64 q3, .int .i64 q4, .int .u64 m1, .int .u64 m2, .int .u64 m3, .int .u64 m4, .int .u64 m5, .int .u64 p, .int .i64 bk, .int .i64 rt] 60)).alloc (.cells #[.int .i64 0, .int .i64 0, .int .i64 0, .int .i64 0, .int .i64 0, .int .u64 0, .int .u64 0, .int .u64 0, .int .u64 0, .int .u64 0, .int .u64 0, .int .i64 0, .int .i64 0] 60)).cell? ⟨w.heap.size, 0, none⟩ = some (.int .i64 33) := a0
  go_enter Tryz.func109, Tryz.ntmps109
  go_wp2_with fail
  refine wp_region_noPanic ?_
  refine wp_region_held_drew (S := (fun w' => w'.cell? ⟨w.heap.size, 9, none⟩ = some (.int .u64 m5))) (by kernel_rfl) ?_ (fun hHeld => ?_)
  · exact p1
  refine wpAnyH_take (i := 0) (oi := { dst := some 20, op := Op.move (Operand.tmp 0), type := 70, pos := "ticket.go:42", after := #[], guard := none }) (v := ?vq0) rfl (by kernel_rfl) (by kernel_rfl) (by kernel_rfl) (fun _ _ _ h => h) (Or.inl ⟨by rfl, ?hyq0⟩) hHeld ?_
  case hyq0 => (intro w hSw; (try dsimp only at hSw); go_simp; (try with_reducible rfl))
  try simp only [Act.put, List.setIfInBounds_toArray, List.set_cons_zero, List.set_cons_succ]
  refine wpAnyH_take (i := 2) (oi := { dst := some 22, op := Op.fieldAddr 60 (Operand.tmp 3) 6, type := 0, pos := "ticket.go:42", after := #[], guard := none }) (v := ?vq2) rfl (by kernel_rfl) (by kernel_rfl) (by kernel_rfl) (fun _ _ _ h => h) (Or.inl ⟨by rfl, ?hyq2⟩) hHeld ?_
  case hyq2 => (intro w hSw; (try dsimp only at hSw); go_simp; (try with_reducible rfl))
  try simp only [Act.put, List.setIfInBounds_toArray, List.set_cons_zero, List.set_cons_succ]
  refine wpAnyH_take (i := 3) (oi := { dst := some 23, op := Op.load 36 (Operand.tmp 22), type := 36, pos := "ticket.go:42", after := #[{ on := 2, ground := Ground.data }], guard := none }) (v := ?vq3) rfl (by kernel_rfl) (by kernel_rfl) (by kernel_rfl) (fun _ _ _ h => h) (Or.inl ⟨by rfl, ?hyq3⟩) hHeld ?_
  case hyq3 => (intro w hSw; (try dsimp only at hSw); go_simp; (try with_reducible rfl))
  try simp only [Act.put, List.setIfInBounds_toArray, List.set_cons_zero, List.set_cons_succ]
  refine wpAnyH_ready (rs := [1]) (by kernel_rfl) (by simp) ?_
  refine AllReadyH.cons (o := { dst := some 21, op := Op.call { callee := Callee.value (Operand.func 123), args := #[Operand.tmp 20, Operand.const (Value.int IntKind.i64 4)], argTypes := #[70, 3] }, type := 36, pos := "ticket.go:42", after := #[{ on := 0, ground := Ground.data }], guard := none }) rfl (fun K hK => ?_) AllReadyH.nil
  go_simp
  refine (HD.out _ HF.out).mono ?_
  rintro e V2 ⟨rfl, hF, hs⟩
  have HF2 := Lib.hid hF
  have HM2 := Lib.hid (HM.out.savH hs (by omega) (by omega))
  have HY2 := Lib.hid (HY.out.savH hs (by omega) (by omega))
  have HQ2 := Lib.hid (HQ.out.trans hs)
  clear hs hF HF HM HY HQ HD
  clear p1
  have p1 := HM2.out.cells.2.2.2.2.2.2.2.2.2.1
  refine hK.out _ _ ?_ (fun hHeld => ?_)
  · exact p1
  clear hK K
  try simp only [Act.put, List.setIfInBounds_toArray, List.set_cons_zero, List.set_cons_succ]
  refine wpAnyH_take (i := 4) (oi := { dst := some 24, op := Op.binOp BinOp.eql 36 (Operand.tmp 21) (Operand.tmp 23) 36, type := 4, pos := "ticket.go:42", after := #[{ on := 1, ground := Ground.data }, { on := 3, ground := Ground.data }], guard := none }) (v := ?vq4) rfl (by kernel_rfl) (by kernel_rfl) (by kernel_rfl) (fun _ _ _ h => h) (Or.inl ⟨by rfl, ?hyq4⟩) hHeld ?_
  case hyq4 => (intro w hSw; (try dsimp only at hSw); go_simp; (try with_reducible rfl))
  try simp only [Act.put, List.setIfInBounds_toArray, List.set_cons_zero, List.set_cons_succ]
  refine wpAnyH_done (by kernel_rfl) ?_ _
  refine NoPanic.normal ?_
  clear p1 hHeld a0
  have HM3 := Lib.hid (HM2.out.setL 34)
  have HF3 := Lib.hid (HF2.out.setOther (p := ⟨w.heap.size, 0, none⟩) (by show w.heap.size ≠ _; omega) (by show w.heap.size ≠ _; omega) (by show w.heap.size ≠ _; omega) (.int .i64 34))
  have HQ3 := Lib.hid (HQ2.out.set (p := ⟨w.heap.size, 0, none⟩) (.inr (Nat.le_refl _)) (.int .i64 34))
  have HY3 := Lib.hid (HY2.out.setOther (q := ⟨w.heap.size, 0, none⟩) (by show w.heap.size ≠ w.heap.size + 1; omega) (.int .i64 34))
  obtain ⟨b0, b1, b2, b3, b4, b5, b6, b7, b8, b9, b10, b11, b12, bf⟩ := HM2.out.cells
  obtain ⟨d0, d1, d2, d3, d4, d5, d6, d7, d8, d9, d10, d11, d12, df⟩ := HM3.out.cells
  obtain ⟨c0, c1, c2, c3, c4, c5, c6, c7, c8, c9, c10, c11, c12, cf⟩ := HY3.out.cells
  obtain ⟨s0, s1, s2, s3, s4, s5, s6, s7, s8, s9, s10, s11, s12, _⟩ := (HY3.out.put 34 p bk q1 q2 q3 q4 m1 m2 m3 m4 m5 rt).cells
  clear HM2 HY2 HF2 HQ2 HM3
  go_wp2_with fail
  refine bodyPost_ret (v := .tuple #[(mutV 34 p bk q1 q2 q3 q4 m1 m2 m3 m4 m5 rt), .bool true]) (by simp [results, Tryz.f109, go_sem, s0, s1, s2, s3, s4, s5, s6, s7, s8, s9, s10, s11, s12]) rfl ?_
  exact ⟨rfl, HF3.out.put13 (by omega) (by omega) (by omega) _ _ _ _ _ _ _ _ _ _ _ _ _, HQ3.out.put13 (C := w.heap.size + 1) (.inr (by omega)) _ _ _ _ _ _ _ _ _ _ _ _ _⟩
set_option maxHeartbeats 1600000 in
theorem tStep_wait {w : World} {H A G : Nat} {C : Cf} {s : Dy} (hH : HAt w H A G C s) (hu : s.U)  (p bk q1 q2 q3 q4 m1 m2 m3 m4 m5 rt : Int) (hw : ¬ z5 C.n 1 4 (s.f 4) = m5) :
    Calls Tryz.prog 109 #[.pointer (some ⟨H, 0, none⟩), (mutV 33 p bk q1 q2 q3 q4 m1 m2 m3 m4 m5 rt)] w (HP w H A G C (s.act C 1 4 0 0) (.tuple #[(mutV 33 p bk q1 q2 q3 q4 m1 m2 m3 m4 m5 rt), .bool true])) := by
  have hq : (z5 C.n 1 4 (s.f 4) == m5) = false := by simpa using hw
  clear hw
  have hb := (below_on (below_new w (.cells #[.int .i64 33, .int .i64 q1, .int .i64 q2, .int .i64 q3, .int .i64 q4, .int .u64 m1, .int .u64 m2, .int .u64 m3, .int .u64 m4, .int .u64 m5, .int .u64 p, .int .i64 bk, .int .i64 rt] 60)) (.cells #[.int .i64 0, .int .i64 0, .int .i64 0, .int .i64 0, .int .i64 0, .int .u64 0, .int .u64 0, .int .u64 0, .int .u64 0, .int .u64 0, .int .u64 0, .int .i64 0, .int .i64 0] 60)).drew
  have hm : Mut13 ((w.alloc (.cells #[.int .i64 33, .int .i64 q1, .int .i64 q2, .int .i64 q3, .int .i64 q4, .int .u64 m1, .int .u64 m2, .int .u64 m3, .int .u64 m4, .int .u64 m5, .int .u64 p, .int .i64 bk, .int .i64 rt] 60)).alloc (.cells #[.int .i64 0, .int .i64 0, .int .i64 0, .int .i64 0, .int .i64 0, .int .u64 0, .int .u64 0, .int .u64 0, .int .u64 0, .int .u64 0, .int .u64 0, .int .i64 0, .int .i64 0] 60)).drew w.heap.size 33 p bk q1 q2 q3 q4 m1 m2 m3 m4 m5 rt := Mut13.other (w := (w.alloc (.cells #[.int .i64 33, .int .i64 q1, .int .i64 q2, .int .i64 q3, .int .i64 q4, .int .u64 m1, .int .u64 m2, .int .u64 m3, .int .u64 m4, .int .u64 m5, .int .u64 p, .int .i64 bk, .int .i64 rt] 60)).alloc (.cells #[.int .i64 0, .int .i64 0, .int .i64 0, .int .i64 0, .int .i64 0, .int .u64 0, .int .u64 0, .int .u64 0, .int .u64 0, .int .u64 0, .int .u64 0, .int .i64 0, .int .i64 0] 60)) ((Mut13.new w 33 p bk q1 q2 q3 q4 m1 m2 m3 m4 m5 rt).below (below_new _ _)) rfl
  have hy : Mut13 ((w.alloc (.cells #[.int .i64 33, .int .i64 q1, .int .i64 q2, .int .i64 q3, .int .i64 q4, .int .u64 m1, .int .u64 m2, .int .u64 m3, .int .u64 m4, .int .u64 m5, .int .u64 p, .int .i64 bk, .int .i64 rt] 60)).alloc (.cells #[.int .i64 0, .int .i64 0, .int .i64 0, .int .i64 0, .int .i64 0, .int .u64 0, .int .u64 0, .int .u64 0, .int .u64 0, .int .u64 0, .int .u64 0, .int .i64 0, .int .i64 0] 60)).drew (w.heap.size + 1) 0 0 0 0 0 0 0 0 0 0 0 0 0 := Mut13.other (w := (w.alloc (.cells #[.int .i64 33, .int .i64 q1, .int .i64 q2, .int .i64 q3, .int .i64 q4, .int .u64 m1, .int .u64 m2, .int .u64 m3, .int .u64 m4, .int .u64 m5, .int .u64 p, .int .i64 bk, .int .i64 rt] 60)).alloc (.cells #[.int .i64 0, .int .i64 0, .int .i64 0, .int .i64 0, .int .i64 0, .int .u64 0, .int .u64 0, .int .u64 0, .int .u64 0, .int .u64 0, .int .u64 0, .int .i64 0, .int .i64 0] 60)) (by
    have := Mut13.new (w.alloc (.cells #[.int .i64 33, .int .i64 q1, .int .i64 q2, .int .i64 q3, .int .i64 q4, .int .u64 m1, .int .u64 m2, .int .u64 m3, .int .u64 m4, .int .u64 m5, .int .u64 p, .int .i64 bk, .int .i64 rt] 60)) 0 0 0 0 0 0 0 0 0 0 0 0 0; simpa using this) rfl
  have HF := Lib.hid (hH.below hb)
  have HD : Hid (∀ W, HAt W H A G C s → Calls Tryz.prog 123 #[.pointer (some ⟨H, 0, none⟩), .int .i64 4] W (HP W H A G C (s.act C 1 4 0 0) (.int .u64 (z5 C.n 1 4 (s.f 4))))) := Lib.hid (fun W hW => hLoad_c (w := W) hW hu 4)
  have hlt : H < w.heap.size := hH.lt
  have hltA : A < w.heap.size := hH.ar.lt
  have hltG : G < w.heap.size := hH.ar.row.lt
  have HQ : Hid (Sav (HG H G) w _) := Lib.hid (Sav.of (S := HG H G) hb)
  have HM := Lib.hid hm; have HY := Lib.hid hy
  generalize (s.act C 1 4 0 0) = s' at *
  generalize (z5 C.n 1 4 (s.f 4)) = T at *
  clear hH hm hy hb hu
  have p1 := HM.out.cells.2.2.2.2.2.2.2.2.2.1
  obtain ⟨a0, a1, a2, a3, a4, a5, a6, a7, a8, a9, a10, a11, a12, af⟩ := HM.out.cells
  clear a1 a2 a3 a4 a5 a6 a7 a8 a9 a10 a11 a12 af
  have a0 : ((w.alloc (.cells #[.int .i64 33, .int .i64 q1, .int .i64 q2, .int .i64 q3, .int .i64 q4, .int .u64 m1, .int .u64 m2, .int .u64 m3, .int .u64 m4, .int .u64 m5, .int .u64 p, .int .i64 bk, .int .i64 rt] 60)).alloc (.cells #[.int .i64 0, .int .i64 0, .int .i64 0, .int .i64 0, .int .i64 0, .int .u64 0, .int .u64 0, .int .u64 0, .int .u64 0, .int .u64 0, .int .u64 0, .int .i64 0, .int .i64 0] 60)).cell? ⟨w.heap.size, 0, none⟩ = some (.int .i64 33) := a0
  go_enter Tryz.func109, Tryz.ntmps109
  go_wp2_with fail
  refine wp_region_noPanic ?_
  refine wp_region_held_drew (S := (fun w' => w'.cell? ⟨w.heap.size, 9, none⟩ = some (.int .u64 m5))) (by kernel_rfl) ?_ (fun hHeld => ?_)
  · exact p1
  refine wpAnyH_take (i := 0) (oi := { dst := some 20, op := Op.move (Operand.tmp 0), type := 70, pos := "ticket.go:42", after := #[], guard := none }) (v := ?vq0) rfl (by kernel_rfl) (by kernel_rfl) (by kernel_rfl) (fun _ _ _ h => h) (Or.inl ⟨by rfl, ?hyq0⟩) hHeld ?_
  case hyq0 => (intro w hSw; (try dsimp only at hSw); go_simp; (try with_reducible rfl))
  try simp only [Act.put, List.setIfInBounds_toArray, List.set_cons_zero, List.set_cons_succ]
  refine wpAnyH_take (i := 2) (oi := { dst := some 22, op := Op.fieldAddr 60 (Operand.tmp 3) 6, type := 0, pos := "ticket.go:42", after := #[], guard := none }) (v := ?vq2) rfl (by kernel_rfl) (by kernel_rfl) (by kernel_rfl) (fun _ _ _ h => h) (Or.inl ⟨by rfl, ?hyq2⟩) hHeld ?_
  case hyq2 => (intro w hSw; (try dsimp only at hSw); go_simp; (try with_reducible rfl))
  try simp only [Act.put, List.setIfInBounds_toArray, List.set_cons_zero, List.set_cons_succ]
  refine wpAnyH_take (i := 3) (oi := { dst := some 23, op := Op.load 36 (Operand.tmp 22), type := 36, pos := "ticket.go:42", after := #[{ on := 2, ground := Ground.data }], guard := none }) (v := ?vq3) rfl (by kernel_rfl) (by kernel_rfl) (by kernel_rfl) (fun _ _ _ h => h) (Or.inl ⟨by rfl, ?hyq3⟩) hHeld ?_
  case hyq3 => (intro w hSw; (try dsimp only at hSw); go_simp; (try with_reducible rfl))
  try simp only [Act.put, List.setIfInBounds_toArray, List.set_cons_zero, List.set_cons_succ]
  refine wpAnyH_ready (rs := [1]) (by kernel_rfl) (by simp) ?_
  refine AllReadyH.cons (o := { dst := some 21, op := Op.call { callee := Callee.value (Operand.func 123), args := #[Operand.tmp 20, Operand.const (Value.int IntKind.i64 4)], argTypes := #[70, 3] }, type := 36, pos := "ticket.go:42", after := #[{ on := 0, ground := Ground.data }], guard := none }) rfl (fun K hK => ?_) AllReadyH.nil
  go_simp
  refine (HD.out _ HF.out).mono ?_
  rintro e V2 ⟨rfl, hF, hs⟩
  have HF2 := Lib.hid hF
  have HM2 := Lib.hid (HM.out.savH hs (by omega) (by omega))
  have HY2 := Lib.hid (HY.out.savH hs (by omega) (by omega))
  have HQ2 := Lib.hid (HQ.out.trans hs)
  clear hs hF HF HM HY HQ HD
  clear p1
  have p1 := HM2.out.cells.2.2.2.2.2.2.2.2.2.1
  refine hK.out _ _ ?_ (fun hHeld => ?_)
  · exact p1
  clear hK K
  try simp only [Act.put, List.setIfInBounds_toArray, List.set_cons_zero, List.set_cons_succ]
  refine wpAnyH_take (i := 4) (oi := { dst := some 24, op := Op.binOp BinOp.eql 36 (Operand.tmp 21) (Operand.tmp 23) 36, type := 4, pos := "ticket.go:42", after := #[{ on := 1, ground := Ground.data }, { on := 3, ground := Ground.data }], guard := none }) (v := ?vq4) rfl (by kernel_rfl) (by kernel_rfl) (by kernel_rfl) (fun _ _ _ h => h) (Or.inl ⟨by rfl, ?hyq4⟩) hHeld ?_
  case hyq4 => (intro w hSw; (try dsimp only at hSw); go_simp; (try with_reducible rfl))
  try simp only [Act.put, List.setIfInBounds_toArray, List.set_cons_zero, List.set_cons_succ]
  refine wpAnyH_done (by kernel_rfl) ?_ _
  refine NoPanic.normal ?_
  clear p1 hHeld a0
  have HM3 := Lib.hid HM2.out
  have HF3 := Lib.hid HF2.out
  have HQ3 := Lib.hid HQ2.out
  have HY3 := Lib.hid HY2.out
  obtain ⟨d0, d1, d2, d3, d4, d5, d6, d7, d8, d9, d10, d11, d12, df⟩ := HM3.out.cells
  obtain ⟨c0, c1, c2, c3, c4, c5, c6, c7, c8, c9, c10, c11, c12, cf⟩ := HY3.out.cells
  obtain ⟨s0, s1, s2, s3, s4, s5, s6, s7, s8, s9, s10, s11, s12, _⟩ := (HY3.out.put 33 p bk q1 q2 q3 q4 m1 m2 m3 m4 m5 rt).cells
  clear HM2 HY2 HF2 HQ2 HM3
  go_wp2_with fail
  refine bodyPost_ret (v := .tuple #[(mutV 33 p bk q1 q2 q3 q4 m1 m2 m3 m4 m5 rt), .bool true]) (by simp [results, Tryz.f109, go_sem, s0, s1, s2, s3, s4, s5, s6, s7, s8, s9, s10, s11, s12]) rfl ?_
  exact ⟨rfl, HF3.out.put13 (by omega) (by omega) (by omega) _ _ _ _ _ _ _ _ _ _ _ _ _, HQ3.out.put13 (C := w.heap.size + 1) (.inr (by omega)) _ _ _ _ _ _ _ _ _ _ _ _ _⟩
set_option maxHeartbeats 1600000 in
theorem tStep_give {w : World} {H A G : Nat} {C : Cf} {s : Dy} (hH : HAt w H A G C s) (hu : s.U)  (p bk q1 q2 q3 q4 m1 m2 m3 m4 m5 rt : Int) :
    Calls Tryz.prog 109 #[.pointer (some ⟨H, 0, none⟩), (mutV 37 p bk q1 q2 q3 q4 m1 m2 m3 m4 m5 rt)] w (HP w H A G C (s.act C 4 4 1 0) (.tuple #[(mutV 38 p bk q1 q2 q3 q4 m1 m2 m3 m4 m5 rt), .bool true])) := by
  have hb := (below_on (below_new w (.cells #[.int .i64 37, .int .i64 q1, .int .i64 q2, .int .i64 q3, .int .i64 q4, .int .u64 m1, .int .u64 m2, .int .u64 m3, .int .u64 m4, .int .u64 m5, .int .u64 p, .int .i64 bk, .int .i64 rt] 60)) (.cells #[.int .i64 0, .int .i64 0, .int .i64 0, .int .i64 0, .int .i64 0, .int .u64 0, .int .u64 0, .int .u64 0, .int .u64 0, .int .u64 0, .int .u64 0, .int .i64 0, .int .i64 0] 60))
  have hm : Mut13 ((w.alloc (.cells #[.int .i64 37, .int .i64 q1, .int .i64 q2, .int .i64 q3, .int .i64 q4, .int .u64 m1, .int .u64 m2, .int .u64 m3, .int .u64 m4, .int .u64 m5, .int .u64 p, .int .i64 bk, .int .i64 rt] 60)).alloc (.cells #[.int .i64 0, .int .i64 0, .int .i64 0, .int .i64 0, .int .i64 0, .int .u64 0, .int .u64 0, .int .u64 0, .int .u64 0, .int .u64 0, .int .u64 0, .int .i64 0, .int .i64 0] 60)) w.heap.size 37 p bk q1 q2 q3 q4 m1 m2 m3 m4 m5 rt := (Mut13.new w 37 p bk q1 q2 q3 q4 m1 m2 m3 m4 m5 rt).below (below_new _ _)
  have hy : Mut13 ((w.alloc (.cells #[.int .i64 37, .int .i64 q1, .int .i64 q2, .int .i64 q3, .int .i64 q4, .int .u64 m1, .int .u64 m2, .int .u64 m3, .int .u64 m4, .int .u64 m5, .int .u64 p, .int .i64 bk, .int .i64 rt] 60)).alloc (.cells #[.int .i64 0, .int .i64 0, .int .i64 0, .int .i64 0, .int .i64 0, .int .u64 0, .int .u64 0, .int .u64 0, .int .u64 0, .int .u64 0, .int .u64 0, .int .i64 0, .int .i64 0] 60)) (w.heap.size + 1) 0 0 0 0 0 0 0 0 0 0 0 0 0 := by
    have := Mut13.new (w.alloc (.cells #[.int .i64 37, .int .i64 q1, .int .i64 q2, .int .i64 q3, .int .i64 q4, .int .u64 m1, .int .u64 m2, .int .u64 m3, .int .u64 m4, .int .u64 m5, .int .u64 p, .int .i64 bk, .int .i64 rt] 60)) 0 0 0 0 0 0 0 0 0 0 0 0 0; simpa using this
  have HF := Lib.hid (hH.below hb)
  have HD : Hid (∀ W, HAt W H A G C s → Calls Tryz.prog 137 #[.pointer (some ⟨H, 0, none⟩), .int .i64 4, .int .u64 1] W (HP W H A G C (s.act C 4 4 1 0) (.int .u64 (z5 C.n 4 4 (s.f 4))))) := Lib.hid (fun W hW => hAdd_c (w := W) hW hu 4 1)
  have hlt : H < w.heap.size := hH.lt
  have hltA : A < w.heap.size := hH.ar.lt
  have hltG : G < w.heap.size := hH.ar.row.lt
  have HQ : Hid (Sav (HG H G) w _) := Lib.hid (Sav.of (S := HG H G) hb)
  have HM := Lib.hid hm; have HY := Lib.hid hy
  generalize (s.act C 4 4 1 0) = s' at *
  generalize (z5 C.n 4 4 (s.f 4)) = T at *
  clear hH hm hy hb hu
  obtain ⟨a0, a1, a2, a3, a4, a5, a6, a7, a8, a9, a10, a11, a12, af⟩ := HM.out.cells
  go_enter Tryz.func109, Tryz.ntmps109
  go_wp2_with fail
  refine (HD.out _ HF.out).mono ?_
  rintro e V2 ⟨rfl, hF, hs⟩
  have HF2 := Lib.hid hF
  have HM2 := Lib.hid (HM.out.savH hs (by omega) (by omega))
  have HY2 := Lib.hid (HY.out.savH hs (by omega) (by omega))
  have HQ2 := Lib.hid (HQ.out.trans hs)
  clear hs hF HF HM HY HQ HD
  clear a0 a1 a2 a3 a4 a5 a6 a7 a8 a9 a10 a11 a12 af
  obtain ⟨b0, b1, b2, b3, b4, b5, b6, b7, b8, b9, b10, b11, b12, bf⟩ := HM2.out.cells
  go_wp2_with fail
  refine (behind_37 _).mono ?_
  rintro e V3 ⟨rfl, rfl⟩
  clear b0 b1 b2 b3 b4 b5 b6 b7 b8 b9 b10 b11 b12 bf
  have HM3 := Lib.hid (HM2.out.setL 38)
  have HF3 := Lib.hid (HF2.out.setOther (p := ⟨w.heap.size, 0, none⟩) (by show w.heap.size ≠ _; omega) (by show w.heap.size ≠ _; omega) (by show w.heap.size ≠ _; omega) (.int .i64 38))
  have HQ3 := Lib.hid (HQ2.out.set (p := ⟨w.heap.size, 0, none⟩) (.inr (Nat.le_refl _)) (.int .i64 38))
  have HY3 := Lib.hid (HY2.out.setOther (q := ⟨w.heap.size, 0, none⟩) (by show w.heap.size ≠ w.heap.size + 1; omega) (.int .i64 38))
  obtain ⟨b0, b1, b2, b3, b4, b5, b6, b7, b8, b9, b10, b11, b12, bf⟩ := HM2.out.cells
  obtain ⟨d0, d1, d2, d3, d4, d5, d6, d7, d8, d9, d10, d11, d12, df⟩ := HM3.out.cells
  obtain ⟨c0, c1, c2, c3, c4, c5, c6, c7, c8, c9, c10, c11, c12, cf⟩ := HY3.out.cells
  obtain ⟨s0, s1, s2, s3, s4, s5, s6, s7, s8, s9, s10, s11, s12, _⟩ := (HY3.out.put 38 p bk q1 q2 q3 q4 m1 m2 m3 m4 m5 rt).cells
  clear HM2 HY2 HF2 HQ2 HM3
  go_wp2_with fail
  refine bodyPost_ret (v := .tuple #[(mutV 38 p bk q1 q2 q3 q4 m1 m2 m3 m4 m5 rt), .bool true]) (by simp [results, Tryz.f109, go_sem, s0, s1, s2, s3, s4, s5, s6, s7, s8, s9, s10, s11, s12]) rfl ?_
  exact ⟨rfl, HF3.out.put13 (by omega) (by omega) (by omega) _ _ _ _ _ _ _ _ _ _ _ _ _, HQ3.out.put13 (C := w.heap.size + 1) (.inr (by omega)) _ _ _ _ _ _ _ _ _ _ _ _ _⟩
set_option maxHeartbeats 1600000 in
theorem tStep_up {w : World} {H A G : Nat} {C : Cf} {s : Dy} (hH : HAt w H A G C s) (hu : s.U)  (p bk q1 q2 q3 q4 m1 m2 m3 m4 m5 rt : Int) :
    Calls Tryz.prog 109 #[.pointer (some ⟨H, 0, none⟩), (mutV 41 p bk q1 q2 q3 q4 m1 m2 m3 m4 m5 rt)] w (HP w H A G C (s.act C 4 4 1 0) (.tuple #[(mutV 90 p bk q1 q2 q3 q4 m1 m2 m3 m4 m5 rt), .bool true])) := by
  have hb := (below_on (below_new w (.cells #[.int .i64 41, .int .i64 q1, .int .i64 q2, .int .i64 q3, .int .i64 q4, .int .u64 m1, .int .u64 m2, .int .u64 m3, .int .u64 m4, .int .u64 m5, .int .u64 p, .int .i64 bk, .int .i64 rt] 60)) (.cells #[.int .i64 0, .int .i64 0, .int .i64 0, .int .i64 0, .int .i64 0, .int .u64 0, .int .u64 0, .int .u64 0, .int .u64 0, .int .u64 0, .int .u64 0, .int .i64 0, .int .i64 0] 60))
  have hm : Mut13 ((w.alloc (.cells #[.int .i64 41, .int .i64 q1, .int .i64 q2, .int .i64 q3, .int .i64 q4, .int .u64 m1, .int .u64 m2, .int .u64 m3, .int .u64 m4, .int .u64 m5, .int .u64 p, .int .i64 bk, .int .i64 rt] 60)).alloc (.cells #[.int .i64 0, .int .i64 0, .int .i64 0, .int .i64 0, .int .i64 0, .int .u64 0, .int .u64 0, .int .u64 0, .int .u64 0, .int .u64 0, .int .u64 0, .int .i64 0, .int .i64 0] 60)) w.heap.size 41 p bk q1 q2 q3 q4 m1 m2 m3 m4 m5 rt := (Mut13.new w 41 p bk q1 q2 q3 q4 m1 m2 m3 m4 m5 rt).below (below_new _ _)
  have hy : Mut13 ((w.alloc (.cells #[.int .i64 41, .int .i64 q1, .int .i64 q2, .int .i64 q3, .int .i64 q4, .int .u64 m1, .int .u64 m2, .int .u64 m3, .int .u64 m4, .int .u64 m5, .int .u64 p, .int .i64 bk, .int .i64 rt] 60)).alloc (.cells #[.int .i64 0, .int .i64 0, .int .i64 0, .int .i64 0, .int .i64 0, .int .u64 0, .int .u64 0, .int .u64 0, .int .u64 0, .int .u64 0, .int .u64 0, .int .i64 0, .int .i64 0] 60)) (w.heap.size + 1) 0 0 0 0 0 0 0 0 0 0 0 0 0 := by
    have := Mut13.new (w.alloc (.cells #[.int .i64 41, .int .i64 q1, .int .i64 q2, .int .i64 q3, .int .i64 q4, .int .u64 m1, .int .u64 m2, .int .u64 m3, .int .u64 m4, .int .u64 m5, .int .u64 p, .int .i64 bk, .int .i64 rt] 60)) 0 0 0 0 0 0 0 0 0 0 0 0 0; simpa using this
  have HF := Lib.hid (hH.below hb)
  have HD : Hid (∀ W, HAt W H A G C s → Calls Tryz.prog 137 #[.pointer (some ⟨H, 0, none⟩), .int .i64 4, .int .u64 1] W (HP W H A G C (s.act C 4 4 1 0) (.int .u64 (z5 C.n 4 4 (s.f 4))))) := Lib.hid (fun W hW => hAdd_c (w := W) hW hu 4 1)
  have hlt : H < w.heap.size := hH.lt
  have hltA : A < w.heap.size := hH.ar.lt
  have hltG : G < w.heap.size := hH.ar.row.lt
  have HQ : Hid (Sav (HG H G) w _) := Lib.hid (Sav.of (S := HG H G) hb)
  have HM := Lib.hid hm; have HY := Lib.hid hy
  generalize (s.act C 4 4 1 0) = s' at *
  generalize (z5 C.n 4 4 (s.f 4)) = T at *
  clear hH hm hy hb hu
  obtain ⟨a0, a1, a2, a3, a4, a5, a6, a7, a8, a9, a10, a11, a12, af⟩ := HM.out.cells
  go_enter Tryz.func109, Tryz.ntmps109
  go_wp2_with fail
  refine (HD.out _ HF.out).mono ?_
  rintro e V2 ⟨rfl, hF, hs⟩
  have HF2 := Lib.hid hF
  have HM2 := Lib.hid (HM.out.savH hs (by omega) (by omega))
  have HY2 := Lib.hid (HY.out.savH hs (by omega) (by omega))
  have HQ2 := Lib.hid (HQ.out.trans hs)
  clear hs hF HF HM HY HQ HD
  clear a0 a1 a2 a3 a4 a5 a6 a7 a8 a9 a10 a11 a12 af
  obtain ⟨b0, b1, b2, b3, b4, b5, b6, b7, b8, b9, b10, b11, b12, bf⟩ := HM2.out.cells
  go_wp2_with fail
  refine (behind_41 _).mono ?_
  rintro e V3 ⟨rfl, rfl⟩
  clear b0 b1 b2 b3 b4 b5 b6 b7 b8 b9 b10 b11 b12 bf
  have HM3 := Lib.hid (HM2.out.setL 90)
  have HF3 := Lib.hid (HF2.out.setOther (p := ⟨w.heap.size, 0, none⟩) (by show w.heap.size ≠ _; omega) (by show w.heap.size ≠ _; omega) (by show w.heap.size ≠ _; omega) (.int .i64 90))
  have HQ3 := Lib.hid (HQ2.out.set (p := ⟨w.heap.size, 0, none⟩) (.inr (Nat.le_refl _)) (.int .i64 90))
  have HY3 := Lib.hid (HY2.out.setOther (q := ⟨w.heap.size, 0, none⟩) (by show w.heap.size ≠ w.heap.size + 1; omega) (.int .i64 90))
  obtain ⟨b0, b1, b2, b3, b4, b5, b6, b7, b8, b9, b10, b11, b12, bf⟩ := HM2.out.cells
  obtain ⟨d0, d1, d2, d3, d4, d5, d6, d7, d8, d9, d10, d11, d12, df⟩ := HM3.out.cells
  obtain ⟨c0, c1, c2, c3, c4, c5, c6, c7, c8, c9, c10, c11, c12, cf⟩ := HY3.out.cells
  obtain ⟨s0, s1, s2, s3, s4, s5, s6, s7, s8, s9, s10, s11, s12, _⟩ := (HY3.out.put 90 p bk q1 q2 q3 q4 m1 m2 m3 m4 m5 rt).cells
  clear HM2 HY2 HF2 HQ2 HM3
  go_wp2_with fail
  refine bodyPost_ret (v := .tuple #[(mutV 90 p bk q1 q2 q3 q4 m1 m2 m3 m4 m5 rt), .bool true]) (by simp [results, Tryz.f109, go_sem, s0, s1, s2, s3, s4, s5, s6, s7, s8, s9, s10, s11, s12]) rfl ?_
  exact ⟨rfl, HF3.out.put13 (by omega) (by omega) (by omega) _ _ _ _ _ _ _ _ _ _ _ _ _, HQ3.out.put13 (C := w.heap.size + 1) (.inr (by omega)) _ _ _ _ _ _ _ _ _ _ _ _ _⟩
theorem tStep_other {w : World} {H A G : Nat} {C : Cf} {s : Dy} (hH : HAt w H A G C s) (l : Int) (p bk q1 q2 q3 q4 m1 m2 m3 m4 m5 rt : Int) (h0 : ¬ l = 32) (h1 : ¬ l = 33) (h2 : ¬ l = 37) (h3 : ¬ l = 41) :
    Calls Tryz.prog 109 #[.pointer (some ⟨H, 0, none⟩), (mutV l p bk q1 q2 q3 q4 m1 m2 m3 m4 m5 rt)] w (HP w H A G C s (.tuple #[(mutV l p bk q1 q2 q3 q4 m1 m2 m3 m4 m5 rt), .bool false])) := by
  have HF := Lib.hid hH
  clear hH
  have g0 : (l == 32) = false := by simpa using h0
  have g1 : (l == 33) = false := by simpa using h1
  have g2 : (l == 37) = false := by simpa using h2
  have g3 : (l == 41) = false := by simpa using h3
  go_enter Tryz.func109, Tryz.ntmps109
  go_wp2_with fail
  refine bodyPost_ret (v := .tuple #[(mutV l p bk q1 q2 q3 q4 m1 m2 m3 m4 m5 rt), .bool false]) (by simp [results, Tryz.f109, go_sem]) rfl ?_
  refine ⟨rfl, HF.out.below (below_on (below_new _ _) _), Sav.of (below_on (below_new _ _) _)⟩
end Go.Proofs.YtbpooljohjkbjaaGreatDoor
