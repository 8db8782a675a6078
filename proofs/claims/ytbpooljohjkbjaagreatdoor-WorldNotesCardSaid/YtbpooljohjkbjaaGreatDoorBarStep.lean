/- A step of package barrier, and of the document's, from every line: shading a word, soiling, and what is no line of this layer; of a nil hand. -/
import Derived.Test.YtbpooljohjkbjaaGreatDoorBar
namespace Go.Proofs.YtbpooljohjkbjaaGreatDoor
open Go Go.RowKit
set_option maxRecDepth 100000
attribute [local go_sem ↓] Go.wp_at_zero Go.wp_at_succ
theorem Mut13.step81 {w : World} {B : Nat} {l p bk q1 q2 q3 q4 m1 m2 m3 m4 m5 rt : Int} (h : Mut13 w B l p bk q1 q2 q3 q4 m1 m2 m3 m4 m5 rt) : Mut13 ((w.setCell ⟨B, 0, none⟩ (.int .i64 81)).setCell ⟨B, 10, none⟩ (.int .u64 0)) B 81 0 bk q1 q2 q3 q4 m1 m2 m3 m4 m5 rt := by
  unfold Mut13 at *; simp [World.setCell, Array.getElem?_modify, h]
set_option maxHeartbeats 1600000 in
theorem shade_c {H A G n : Nat} {f : Nat → Int} {a b c d k0 i0 x0 y0 o0 : Int} {w : World} (hH : HandAt w H A G n f a b c d k0 i0 x0 y0 o0) (hu : ∀ j, U64 (f j)) (hS : SpansAt w) (l : Int) (v : Nat) (hv : v < 18446744073709551616) (bk q1 q2 q3 q4 m1 m2 m3 m4 m5 rt : Int) :
    Calls Tryz.prog 142 #[.agg #[.pointer (some ⟨H, 0, none⟩)], (mutV l (v : Int) bk q1 q2 q3 q4 m1 m2 m3 m4 m5 rt)] w (StPost w H A G n (wordsQ n f 3 (fieldP a b c d v 2) 0 1) a b c d (z5 n 3 (fieldP a b c d v 2) 3) (z5 n 3 (fieldP a b c d v 2) (fieldP a b c d v 2)) (z5 n 3 (fieldP a b c d v 2) 0) (z5 n 3 (fieldP a b c d v 2) 1) (z5 n 3 (fieldP a b c d v 2) (f (fieldP a b c d v 2).toNat)) (mutV (if casB n f (fieldP a b c d v 2) 0 then 81 else bk) 0 (if casB n f (fieldP a b c d v 2) 0 then bk else 0) q1 q2 q3 q4 m1 m2 m3 m4 m5 rt)) := by
  have hb := (below_on (below_on (below_new w (.cells #[.pointer (some ⟨H, 0, none⟩)] 200)) (.cells #[.int .i64 l, .int .i64 q1, .int .i64 q2, .int .i64 q3, .int .i64 q4, .int .u64 m1, .int .u64 m2, .int .u64 m3, .int .u64 m4, .int .u64 m5, .int .u64 (v : Int), .int .i64 bk, .int .i64 rt] 60)) (.cells #[.int .i64 0, .int .i64 0, .int .i64 0, .int .i64 0, .int .i64 0, .int .u64 0, .int .u64 0, .int .u64 0, .int .u64 0, .int .u64 0, .int .u64 0, .int .i64 0, .int .i64 0] 60)).drew
  have hm : Mut13 (((w.alloc (.cells #[.pointer (some ⟨H, 0, none⟩)] 200)).alloc (.cells #[.int .i64 l, .int .i64 q1, .int .i64 q2, .int .i64 q3, .int .i64 q4, .int .u64 m1, .int .u64 m2, .int .u64 m3, .int .u64 m4, .int .u64 m5, .int .u64 (v : Int), .int .i64 bk, .int .i64 rt] 60)).alloc (.cells #[.int .i64 0, .int .i64 0, .int .i64 0, .int .i64 0, .int .i64 0, .int .u64 0, .int .u64 0, .int .u64 0, .int .u64 0, .int .u64 0, .int .u64 0, .int .i64 0, .int .i64 0] 60)).drew (w.heap.size + 1) l v bk q1 q2 q3 q4 m1 m2 m3 m4 m5 rt := by
    refine Mut13.other (w := ((w.alloc (.cells #[.pointer (some ⟨H, 0, none⟩)] 200)).alloc (.cells #[.int .i64 l, .int .i64 q1, .int .i64 q2, .int .i64 q3, .int .i64 q4, .int .u64 m1, .int .u64 m2, .int .u64 m3, .int .u64 m4, .int .u64 m5, .int .u64 (v : Int), .int .i64 bk, .int .i64 rt] 60)).alloc (.cells #[.int .i64 0, .int .i64 0, .int .i64 0, .int .i64 0, .int .i64 0, .int .u64 0, .int .u64 0, .int .u64 0, .int .u64 0, .int .u64 0, .int .u64 0, .int .i64 0, .int .i64 0] 60)) ?_ rfl
    have := (Mut13.new (w.alloc (.cells #[.pointer (some ⟨H, 0, none⟩)] 200)) l v bk q1 q2 q3 q4 m1 m2 m3 m4 m5 rt).below (below_new _ (.cells #[.int .i64 0, .int .i64 0, .int .i64 0, .int .i64 0, .int .i64 0, .int .u64 0, .int .u64 0, .int .u64 0, .int .u64 0, .int .u64 0, .int .u64 0, .int .i64 0, .int .i64 0] 60)); simpa using this
  have hy : Mut13 (((w.alloc (.cells #[.pointer (some ⟨H, 0, none⟩)] 200)).alloc (.cells #[.int .i64 l, .int .i64 q1, .int .i64 q2, .int .i64 q3, .int .i64 q4, .int .u64 m1, .int .u64 m2, .int .u64 m3, .int .u64 m4, .int .u64 m5, .int .u64 (v : Int), .int .i64 bk, .int .i64 rt] 60)).alloc (.cells #[.int .i64 0, .int .i64 0, .int .i64 0, .int .i64 0, .int .i64 0, .int .u64 0, .int .u64 0, .int .u64 0, .int .u64 0, .int .u64 0, .int .u64 0, .int .i64 0, .int .i64 0] 60)).drew (w.heap.size + 1 + 1) 0 0 0 0 0 0 0 0 0 0 0 0 0 := by
    refine Mut13.other (w := ((w.alloc (.cells #[.pointer (some ⟨H, 0, none⟩)] 200)).alloc (.cells #[.int .i64 l, .int .i64 q1, .int .i64 q2, .int .i64 q3, .int .i64 q4, .int .u64 m1, .int .u64 m2, .int .u64 m3, .int .u64 m4, .int .u64 m5, .int .u64 (v : Int), .int .i64 bk, .int .i64 rt] 60)).alloc (.cells #[.int .i64 0, .int .i64 0, .int .i64 0, .int .i64 0, .int .i64 0, .int .u64 0, .int .u64 0, .int .u64 0, .int .u64 0, .int .u64 0, .int .u64 0, .int .i64 0, .int .i64 0] 60)) ?_ rfl
    have := Mut13.new ((w.alloc (.cells #[.pointer (some ⟨H, 0, none⟩)] 200)).alloc (.cells #[.int .i64 l, .int .i64 q1, .int .i64 q2, .int .i64 q3, .int .i64 q4, .int .u64 m1, .int .u64 m2, .int .u64 m3, .int .u64 m4, .int .u64 m5, .int .u64 (v : Int), .int .i64 bk, .int .i64 rt] 60)) 0 0 0 0 0 0 0 0 0 0 0 0 0; simpa using this
  have hx : (((w.alloc (.cells #[.pointer (some ⟨H, 0, none⟩)] 200)).alloc (.cells #[.int .i64 l, .int .i64 q1, .int .i64 q2, .int .i64 q3, .int .i64 q4, .int .u64 m1, .int .u64 m2, .int .u64 m3, .int .u64 m4, .int .u64 m5, .int .u64 (v : Int), .int .i64 bk, .int .i64 rt] 60)).alloc (.cells #[.int .i64 0, .int .i64 0, .int .i64 0, .int .i64 0, .int .i64 0, .int .u64 0, .int .u64 0, .int .u64 0, .int .u64 0, .int .u64 0, .int .u64 0, .int .i64 0, .int .i64 0] 60)).drew.heap[w.heap.size]? = some (.cells #[.pointer (some ⟨H, 0, none⟩)] 200) :=
    (((below_new _ (.cells #[.int .i64 0, .int .i64 0, .int .i64 0, .int .i64 0, .int .i64 0, .int .u64 0, .int .u64 0, .int .u64 0, .int .u64 0, .int .u64 0, .int .u64 0, .int .i64 0, .int .i64 0] 60)).block _ (by simp; omega)).trans ((below_new _ (.cells #[.int .i64 l, .int .i64 q1, .int .i64 q2, .int .i64 q3, .int .i64 q4, .int .u64 m1, .int .u64 m2, .int .u64 m3, .int .u64 m4, .int .u64 m5, .int .u64 (v : Int), .int .i64 bk, .int .i64 rt] 60)).block _ (by simp))).trans (newBlock w (.cells #[.pointer (some ⟨H, 0, none⟩)] 200))
  have HF := Lib.hid (hH.below hb)
  have HD := Lib.hid (hField_c HF.out (hS.below hb) v hv 2)
  generalize hpl : (fieldP a b c d v 2) = pl at *
  have HC : Hid (∀ W, HandAt W H A G n f a b c d k0 i0 x0 y0 o0 → _) := Lib.hid (fun W hW => hCas_c (w := W) hW hu pl 0 1)
  have HQ : Hid (Sav (HG H G) w _) := Lib.hid (Sav.of (S := HG H G) hb)
  have HM := Lib.hid hm; have HY := Lib.hid hy; have HX := Lib.hid hx
  have hlt : H < w.heap.size := hH.lt
  have hltA : A < w.heap.size := hH.ar.lt
  have hltG : G < w.heap.size := hH.ar.row.lt
  have HG := Lib.hid (goOn_c l (v : Int) bk q1 q2 q3 q4 m1 m2 m3 m4 m5 rt bk)
  generalize wordsQ n f 3 pl 0 1 = f' at *
  generalize z5 n 3 pl 3 = K1 at *
  generalize z5 n 3 pl pl = I1 at *
  generalize z5 n 3 pl 0 = X1 at *
  generalize z5 n 3 pl 1 = Y1 at *
  generalize z5 n 3 pl (f pl.toNat) = O1 at *
  generalize casB n f pl 0 = cb at *
  clear hH hu hS hm hy hx hb hpl
  have xp : ∀ W : World, W.heap[w.heap.size]? = some (.cells #[.pointer (some ⟨H, 0, none⟩)] 200) → W.cell? ⟨w.heap.size, 0, none⟩ = some (.pointer (some ⟨H, 0, none⟩)) := fun W h => by simp [World.cell?, h]
  have p0 := xp _ HX.out
  have p1 := HM.out.cells.2.2.2.2.2.2.2.2.2.2.1
  have HP0 := Lib.hid xp; clear xp
  cases cb
  · simp only [Bool.false_eq_true, if_false]
    go_enter Tryz.func142, Tryz.ntmps142
    go_wp2_with fail
    refine wp_region_noPanic ?_
    refine wp_region_held_drew (S := (fun w' => w'.cell? ⟨w.heap.size, 0, none⟩ = some (.pointer (some ⟨H, 0, none⟩)) ∧ w'.cell? ⟨w.heap.size + 1, 10, none⟩ = some (.int .u64 (v : Int)))) (by kernel_rfl) ?_ (fun hHeld => ?_)
    · exact ⟨p0, p1⟩
    refine wpAnyH_take (i := 0) (oi := { dst := some 5, op := Op.fieldAddr 200 (Operand.tmp 2) 0, type := 0, pos := "barrier.go:50", after := #[], guard := none }) (v := ?vn0) rfl (by kernel_rfl) (by kernel_rfl) (by kernel_rfl) (fun _ _ _ h => h) (Or.inl ⟨by rfl, ?hyn0⟩) hHeld ?_
    case hyn0 => (intro w hSw; (try dsimp only at hSw); go_simp; (try with_reducible rfl))
    try simp only [Act.put, List.setIfInBounds_toArray, List.set_cons_zero, List.set_cons_succ]
    refine wpAnyH_take (i := 1) (oi := { dst := some 6, op := Op.load 70 (Operand.tmp 5), type := 70, pos := "barrier.go:50", after := #[{ on := 0, ground := Ground.data }], guard := none }) (v := ?vn1) rfl (by kernel_rfl) (by kernel_rfl) (by kernel_rfl) (fun _ _ _ h => h) (Or.inl ⟨by rfl, ?hyn1⟩) hHeld ?_
    case hyn1 => (intro w hSw; (try dsimp only at hSw); go_simp; (try with_reducible rfl))
    try simp only [Act.put, List.setIfInBounds_toArray, List.set_cons_zero, List.set_cons_succ]
    refine wpAnyH_take (i := 2) (oi := { dst := some 7, op := Op.fieldAddr 200 (Operand.tmp 2) 0, type := 0, pos := "barrier.go:50", after := #[], guard := none }) (v := ?vn2) rfl (by kernel_rfl) (by kernel_rfl) (by kernel_rfl) (fun _ _ _ h => h) (Or.inl ⟨by rfl, ?hyn2⟩) hHeld ?_
    case hyn2 => (intro w hSw; (try dsimp only at hSw); go_simp; (try with_reducible rfl))
    try simp only [Act.put, List.setIfInBounds_toArray, List.set_cons_zero, List.set_cons_succ]
    refine wpAnyH_take (i := 3) (oi := { dst := some 8, op := Op.load 70 (Operand.tmp 7), type := 70, pos := "barrier.go:50", after := #[{ on := 2, ground := Ground.data }], guard := none }) (v := ?vn3) rfl (by kernel_rfl) (by kernel_rfl) (by kernel_rfl) (fun _ _ _ h => h) (Or.inl ⟨by rfl, ?hyn3⟩) hHeld ?_
    case hyn3 => (intro w hSw; (try dsimp only at hSw); go_simp; (try with_reducible rfl))
    try simp only [Act.put, List.setIfInBounds_toArray, List.set_cons_zero, List.set_cons_succ]
    refine wpAnyH_take (i := 4) (oi := { dst := some 9, op := Op.fieldAddr 60 (Operand.tmp 3) 7, type := 0, pos := "barrier.go:50", after := #[], guard := none }) (v := ?vn4) rfl (by kernel_rfl) (by kernel_rfl) (by kernel_rfl) (fun _ _ _ h => h) (Or.inl ⟨by rfl, ?hyn4⟩) hHeld ?_
    case hyn4 => (intro w hSw; (try dsimp only at hSw); go_simp; (try with_reducible rfl))
    try simp only [Act.put, List.setIfInBounds_toArray, List.set_cons_zero, List.set_cons_succ]
    refine wpAnyH_take (i := 5) (oi := { dst := some 10, op := Op.load 36 (Operand.tmp 9), type := 36, pos := "barrier.go:50", after := #[{ on := 4, ground := Ground.data }], guard := none }) (v := ?vn5) rfl (by kernel_rfl) (by kernel_rfl) (by kernel_rfl) (fun _ _ _ h => h) (Or.inl ⟨by rfl, ?hyn5⟩) hHeld ?_
    case hyn5 => (intro w hSw; (try dsimp only at hSw); go_simp; (try with_reducible rfl))
    try simp only [Act.put, List.setIfInBounds_toArray, List.set_cons_zero, List.set_cons_succ]
    refine wpAnyH_ready (rs := [6]) (by kernel_rfl) (by simp) ?_
    refine AllReadyH.cons (o := { dst := some 11, op := Op.call { callee := Callee.value (Operand.func 127), args := #[Operand.tmp 8, Operand.tmp 10, Operand.const (Value.int IntKind.i64 2)], argTypes := #[70, 36, 3] }, type := 3, pos := "barrier.go:50", after := #[{ on := 3, ground := Ground.data }, { on := 5, ground := Ground.data }], guard := none }) rfl (fun K hK => ?_) AllReadyH.nil
    go_simp
    refine HD.out.mono ?_
    rintro e V ⟨rfl, hV⟩
    have HF1 := Lib.hid (HF.out.below hV)
    have HM1 := Lib.hid (HM.out.below hV)
    have HY1 := Lib.hid (HY.out.below hV)
    have HX1 := Lib.hid ((hV.block _ (Array.getElem?_eq_some_iff.1 HX.out).1).trans HX.out)
    have HQ1 := Lib.hid (HQ.out.trans (Sav.of (S := Proofs.YtbpooljohjkbjaaGreatDoor.HG H G) hV))
    clear hV HF HM HY HX HQ HD p0 p1 hHeld
    have p0 := HP0.out _ HX1.out
    have p1 := HM1.out.cells.2.2.2.2.2.2.2.2.2.2.1
    refine hK.out _ _ ?_ (fun hHeld => ?_)
    · exact ⟨p0, p1⟩
    clear hK K
    try simp only [Act.put, List.setIfInBounds_toArray, List.set_cons_zero, List.set_cons_succ]
    refine wpAnyH_ready (rs := [7]) (by kernel_rfl) (by simp) ?_
    refine AllReadyH.cons (o := { dst := some 12, op := Op.call { callee := Callee.value (Operand.func 126), args := #[Operand.tmp 6, Operand.tmp 11, Operand.const (Value.int IntKind.u64 0), Operand.const (Value.int IntKind.u64 1)], argTypes := #[70, 3, 36, 36] }, type := 4, pos := "barrier.go:50", after := #[{ on := 1, ground := Ground.data }, { on := 6, ground := Ground.data }, { on := 6, ground := Ground.chain }], guard := none }) rfl (fun K hK => ?_) AllReadyH.nil
    go_simp
    refine (HC.out _ HF1.out).mono ?_
    rintro e V2 ⟨rfl, hF, hs⟩
    have HF2 := Lib.hid hF
    have HM2 := Lib.hid (HM1.out.other (hs.block _ HM1.out.lt (by rintro (e | e) <;> omega)))
    have HY2 := Lib.hid (HY1.out.other (hs.block _ HY1.out.lt (by rintro (e | e) <;> omega)))
    have HX2 := Lib.hid ((hs.block _ (Array.getElem?_eq_some_iff.1 HX1.out).1 (by rintro (e | e) <;> omega)).trans HX1.out)
    have HQ2 := Lib.hid (HQ1.out.trans hs)
    clear hs hF HF1 HM1 HY1 HX1 HQ1 HC p0 p1 hHeld
    have p0 := HP0.out _ HX2.out
    have p1 := HM2.out.cells.2.2.2.2.2.2.2.2.2.2.1
    refine hK.out _ _ ?_ (fun hHeld => ?_)
    · exact ⟨p0, p1⟩
    clear hK K
    try simp only [Act.put, List.setIfInBounds_toArray, List.set_cons_zero, List.set_cons_succ]
    refine wpAnyH_take (i := 8) (oi := { dst := some 13, op := Op.unOp UnOp.not 4 (Operand.tmp 12), type := 4, pos := "barrier.go:50", after := #[{ on := 7, ground := Ground.data }], guard := none }) (v := ?vn8) rfl (by kernel_rfl) (by kernel_rfl) (by kernel_rfl) (fun _ _ _ h => h) (Or.inl ⟨by rfl, ?hyn8⟩) hHeld ?_
    case hyn8 => (intro w hSw; (try dsimp only at hSw); go_simp; (try with_reducible rfl))
    try simp only [Act.put, List.setIfInBounds_toArray, List.set_cons_zero, List.set_cons_succ]
    refine wpAnyH_done (by kernel_rfl) ?_ _
    refine NoPanic.normal ?_
    clear hHeld p0 p1
    obtain ⟨b0, b1, b2, b3, b4, b5, b6, b7, b8, b9, b10, b11, b12, bf⟩ := HM2.out.cells
    go_wp2_with fail
    refine (HG.out _).mono ?_
    rintro e V3 ⟨rfl, hV⟩
    have HF3 := Lib.hid (HF2.out.below hV)
    have HY3 := Lib.hid (HY2.out.below hV)
    have HQ3 := Lib.hid (HQ2.out.trans (Sav.of (S := Proofs.YtbpooljohjkbjaaGreatDoor.HG H G) hV))
    clear hV HF2 HM2 HY2 HX2 HQ2 HG b0 b1 b2 b3 b4 b5 b6 b7 b8 b9 b10 b11 b12 bf
    obtain ⟨c0, c1, c2, c3, c4, c5, c6, c7, c8, c9, c10, c11, c12, cf⟩ := HY3.out.cells
    obtain ⟨s0, s1, s2, s3, s4, s5, s6, s7, s8, s9, s10, s11, s12, _⟩ := (HY3.out.put bk 0 0 q1 q2 q3 q4 m1 m2 m3 m4 m5 rt).cells
    go_wp2_with fail
    refine bodyPost_ret (v := (mutV bk 0 0 q1 q2 q3 q4 m1 m2 m3 m4 m5 rt)) (by simp [results, Tryz.f142, go_sem, s0, s1, s2, s3, s4, s5, s6, s7, s8, s9, s10, s11, s12]) rfl ?_
    exact ⟨rfl, HF3.out.put13 (by omega) (by omega) (by omega) _ _ _ _ _ _ _ _ _ _ _ _ _, HQ3.out.put13 (C := w.heap.size + 1 + 1) (.inr (by omega)) _ _ _ _ _ _ _ _ _ _ _ _ _⟩
  · simp only [if_true]
    go_enter Tryz.func142, Tryz.ntmps142
    go_wp2_with fail
    refine wp_region_noPanic ?_
    refine wp_region_held_drew (S := (fun w' => w'.cell? ⟨w.heap.size, 0, none⟩ = some (.pointer (some ⟨H, 0, none⟩)) ∧ w'.cell? ⟨w.heap.size + 1, 10, none⟩ = some (.int .u64 (v : Int)))) (by kernel_rfl) ?_ (fun hHeld => ?_)
    · exact ⟨p0, p1⟩
    refine wpAnyH_take (i := 0) (oi := { dst := some 5, op := Op.fieldAddr 200 (Operand.tmp 2) 0, type := 0, pos := "barrier.go:50", after := #[], guard := none }) (v := ?vy0) rfl (by kernel_rfl) (by kernel_rfl) (by kernel_rfl) (fun _ _ _ h => h) (Or.inl ⟨by rfl, ?hyy0⟩) hHeld ?_
    case hyy0 => (intro w hSw; (try dsimp only at hSw); go_simp; (try with_reducible rfl))
    try simp only [Act.put, List.setIfInBounds_toArray, List.set_cons_zero, List.set_cons_succ]
    refine wpAnyH_take (i := 1) (oi := { dst := some 6, op := Op.load 70 (Operand.tmp 5), type := 70, pos := "barrier.go:50", after := #[{ on := 0, ground := Ground.data }], guard := none }) (v := ?vy1) rfl (by kernel_rfl) (by kernel_rfl) (by kernel_rfl) (fun _ _ _ h => h) (Or.inl ⟨by rfl, ?hyy1⟩) hHeld ?_
    case hyy1 => (intro w hSw; (try dsimp only at hSw); go_simp; (try with_reducible rfl))
    try simp only [Act.put, List.setIfInBounds_toArray, List.set_cons_zero, List.set_cons_succ]
    refine wpAnyH_take (i := 2) (oi := { dst := some 7, op := Op.fieldAddr 200 (Operand.tmp 2) 0, type := 0, pos := "barrier.go:50", after := #[], guard := none }) (v := ?vy2) rfl (by kernel_rfl) (by kernel_rfl) (by kernel_rfl) (fun _ _ _ h => h) (Or.inl ⟨by rfl, ?hyy2⟩) hHeld ?_
    case hyy2 => (intro w hSw; (try dsimp only at hSw); go_simp; (try with_reducible rfl))
    try simp only [Act.put, List.setIfInBounds_toArray, List.set_cons_zero, List.set_cons_succ]
    refine wpAnyH_take (i := 3) (oi := { dst := some 8, op := Op.load 70 (Operand.tmp 7), type := 70, pos := "barrier.go:50", after := #[{ on := 2, ground := Ground.data }], guard := none }) (v := ?vy3) rfl (by kernel_rfl) (by kernel_rfl) (by kernel_rfl) (fun _ _ _ h => h) (Or.inl ⟨by rfl, ?hyy3⟩) hHeld ?_
    case hyy3 => (intro w hSw; (try dsimp only at hSw); go_simp; (try with_reducible rfl))
    try simp only [Act.put, List.setIfInBounds_toArray, List.set_cons_zero, List.set_cons_succ]
    refine wpAnyH_take (i := 4) (oi := { dst := some 9, op := Op.fieldAddr 60 (Operand.tmp 3) 7, type := 0, pos := "barrier.go:50", after := #[], guard := none }) (v := ?vy4) rfl (by kernel_rfl) (by kernel_rfl) (by kernel_rfl) (fun _ _ _ h => h) (Or.inl ⟨by rfl, ?hyy4⟩) hHeld ?_
    case hyy4 => (intro w hSw; (try dsimp only at hSw); go_simp; (try with_reducible rfl))
    try simp only [Act.put, List.setIfInBounds_toArray, List.set_cons_zero, List.set_cons_succ]
    refine wpAnyH_take (i := 5) (oi := { dst := some 10, op := Op.load 36 (Operand.tmp 9), type := 36, pos := "barrier.go:50", after := #[{ on := 4, ground := Ground.data }], guard := none }) (v := ?vy5) rfl (by kernel_rfl) (by kernel_rfl) (by kernel_rfl) (fun _ _ _ h => h) (Or.inl ⟨by rfl, ?hyy5⟩) hHeld ?_
    case hyy5 => (intro w hSw; (try dsimp only at hSw); go_simp; (try with_reducible rfl))
    try simp only [Act.put, List.setIfInBounds_toArray, List.set_cons_zero, List.set_cons_succ]
    refine wpAnyH_ready (rs := [6]) (by kernel_rfl) (by simp) ?_
    refine AllReadyH.cons (o := { dst := some 11, op := Op.call { callee := Callee.value (Operand.func 127), args := #[Operand.tmp 8, Operand.tmp 10, Operand.const (Value.int IntKind.i64 2)], argTypes := #[70, 36, 3] }, type := 3, pos := "barrier.go:50", after := #[{ on := 3, ground := Ground.data }, { on := 5, ground := Ground.data }], guard := none }) rfl (fun K hK => ?_) AllReadyH.nil
    go_simp
    refine HD.out.mono ?_
    rintro e V ⟨rfl, hV⟩
    have HF1 := Lib.hid (HF.out.below hV)
    have HM1 := Lib.hid (HM.out.below hV)
    have HY1 := Lib.hid (HY.out.below hV)
    have HX1 := Lib.hid ((hV.block _ (Array.getElem?_eq_some_iff.1 HX.out).1).trans HX.out)
    have HQ1 := Lib.hid (HQ.out.trans (Sav.of (S := Proofs.YtbpooljohjkbjaaGreatDoor.HG H G) hV))
    clear hV HF HM HY HX HQ HD p0 p1 hHeld
    have p0 := HP0.out _ HX1.out
    have p1 := HM1.out.cells.2.2.2.2.2.2.2.2.2.2.1
    refine hK.out _ _ ?_ (fun hHeld => ?_)
    · exact ⟨p0, p1⟩
    clear hK K
    try simp only [Act.put, List.setIfInBounds_toArray, List.set_cons_zero, List.set_cons_succ]
    refine wpAnyH_ready (rs := [7]) (by kernel_rfl) (by simp) ?_
    refine AllReadyH.cons (o := { dst := some 12, op := Op.call { callee := Callee.value (Operand.func 126), args := #[Operand.tmp 6, Operand.tmp 11, Operand.const (Value.int IntKind.u64 0), Operand.const (Value.int IntKind.u64 1)], argTypes := #[70, 3, 36, 36] }, type := 4, pos := "barrier.go:50", after := #[{ on := 1, ground := Ground.data }, { on := 6, ground := Ground.data }, { on := 6, ground := Ground.chain }], guard := none }) rfl (fun K hK => ?_) AllReadyH.nil
    go_simp
    refine (HC.out _ HF1.out).mono ?_
    rintro e V2 ⟨rfl, hF, hs⟩
    have HF2 := Lib.hid hF
    have HM2 := Lib.hid (HM1.out.other (hs.block _ HM1.out.lt (by rintro (e | e) <;> omega)))
    have HY2 := Lib.hid (HY1.out.other (hs.block _ HY1.out.lt (by rintro (e | e) <;> omega)))
    have HX2 := Lib.hid ((hs.block _ (Array.getElem?_eq_some_iff.1 HX1.out).1 (by rintro (e | e) <;> omega)).trans HX1.out)
    have HQ2 := Lib.hid (HQ1.out.trans hs)
    clear hs hF HF1 HM1 HY1 HX1 HQ1 HC p0 p1 hHeld
    have p0 := HP0.out _ HX2.out
    have p1 := HM2.out.cells.2.2.2.2.2.2.2.2.2.2.1
    refine hK.out _ _ ?_ (fun hHeld => ?_)
    · exact ⟨p0, p1⟩
    clear hK K
    try simp only [Act.put, List.setIfInBounds_toArray, List.set_cons_zero, List.set_cons_succ]
    refine wpAnyH_take (i := 8) (oi := { dst := some 13, op := Op.unOp UnOp.not 4 (Operand.tmp 12), type := 4, pos := "barrier.go:50", after := #[{ on := 7, ground := Ground.data }], guard := none }) (v := ?vy8) rfl (by kernel_rfl) (by kernel_rfl) (by kernel_rfl) (fun _ _ _ h => h) (Or.inl ⟨by rfl, ?hyy8⟩) hHeld ?_
    case hyy8 => (intro w hSw; (try dsimp only at hSw); go_simp; (try with_reducible rfl))
    try simp only [Act.put, List.setIfInBounds_toArray, List.set_cons_zero, List.set_cons_succ]
    refine wpAnyH_done (by kernel_rfl) ?_ _
    refine NoPanic.normal ?_
    clear hHeld p0 p1
    obtain ⟨b0, b1, b2, b3, b4, b5, b6, b7, b8, b9, b10, b11, b12, bf⟩ := HM2.out.cells
    have HM3 : Hid (Mut13 ((V2.setCell ⟨w.heap.size + 1, 0, none⟩ (.int .i64 81)).setCell ⟨w.heap.size + 1, 10, none⟩ (.int .u64 0)) (w.heap.size + 1) 81 0 bk q1 q2 q3 q4 m1 m2 m3 m4 m5 rt) := Lib.hid (HM2.out.step81)
    have HY3 : Hid (Mut13 ((V2.setCell ⟨w.heap.size + 1, 0, none⟩ (.int .i64 81)).setCell ⟨w.heap.size + 1, 10, none⟩ (.int .u64 0)) (w.heap.size + 1 + 1) 0 0 0 0 0 0 0 0 0 0 0 0 0) := Lib.hid ((HY2.out.other (Below.heap_setCell _ _ _ _ (by show w.heap.size + 1 + 1 ≠ w.heap.size + 1; omega))).other (Below.heap_setCell _ _ _ _ (by show w.heap.size + 1 + 1 ≠ w.heap.size + 1; omega)))
    have HF3 := Lib.hid ((HF2.out.setOther (p := ⟨w.heap.size + 1, 0, none⟩) (by show w.heap.size + 1 ≠ _; omega) (by show w.heap.size + 1 ≠ _; omega) (by show w.heap.size + 1 ≠ _; omega) (.int .i64 81)).setOther (p := ⟨w.heap.size + 1, 10, none⟩) (by show w.heap.size + 1 ≠ _; omega) (by show w.heap.size + 1 ≠ _; omega) (by show w.heap.size + 1 ≠ _; omega) (.int .u64 0))
    have HQ3 := Lib.hid ((HQ2.out.set (p := ⟨w.heap.size + 1, 0, none⟩) (.inr (by show w.heap.size ≤ w.heap.size + 1; omega)) (.int .i64 81)).set (p := ⟨w.heap.size + 1, 10, none⟩) (.inr (by show w.heap.size ≤ w.heap.size + 1; omega)) (.int .u64 0))
    obtain ⟨c0, c1, c2, c3, c4, c5, c6, c7, c8, c9, c10, c11, c12, cf⟩ := HY2.out.cells
    obtain ⟨s0, s1, s2, s3, s4, s5, s6, s7, s8, s9, s10, s11, s12, _⟩ := (HY3.out.put 81 0 bk q1 q2 q3 q4 m1 m2 m3 m4 m5 rt).cells
    go_wp2_with fail
    refine bodyPost_ret (v := (mutV 81 0 bk q1 q2 q3 q4 m1 m2 m3 m4 m5 rt)) (by simp [results, Tryz.f142, go_sem, s0, s1, s2, s3, s4, s5, s6, s7, s8, s9, s10, s11, s12]) rfl ?_
    exact ⟨rfl, HF3.out.put13 (by omega) (by omega) (by omega) _ _ _ _ _ _ _ _ _ _ _ _ _, HQ3.out.put13 (C := w.heap.size + 1 + 1) (.inr (by omega)) _ _ _ _ _ _ _ _ _ _ _ _ _⟩
theorem soil_c {H A G n : Nat} {f : Nat → Int} {a b c d k0 i0 x0 y0 o0 : Int} {w : World} (hH : HandAt w H A G n f a b c d k0 i0 x0 y0 o0) (hu : ∀ j, U64 (f j)) (l p bk q1 q2 q3 q4 m1 m2 m3 m4 m5 rt : Int) :
    Calls Tryz.prog 143 #[.agg #[.pointer (some ⟨H, 0, none⟩)], (mutV l p bk q1 q2 q3 q4 m1 m2 m3 m4 m5 rt)] w (StPost w H A G n (wordsQ n f 2 2 1 0) a b c d (z5 n 2 2 2) (z5 n 2 2 2) (z5 n 2 2 1) (z5 n 2 2 0) (z5 n 2 2 (f (Int.toNat 2))) (mutV bk 0 0 q1 q2 q3 q4 m1 m2 m3 m4 m5 rt)) := by
  have hb := below_on (below_on (below_new w (.cells #[.pointer (some ⟨H, 0, none⟩)] 200)) (.cells #[.int .i64 l, .int .i64 q1, .int .i64 q2, .int .i64 q3, .int .i64 q4, .int .u64 m1, .int .u64 m2, .int .u64 m3, .int .u64 m4, .int .u64 m5, .int .u64 p, .int .i64 bk, .int .i64 rt] 60)) (.cells #[.int .i64 0, .int .i64 0, .int .i64 0, .int .i64 0, .int .i64 0, .int .u64 0, .int .u64 0, .int .u64 0, .int .u64 0, .int .u64 0, .int .u64 0, .int .i64 0, .int .i64 0] 60)
  have hm : Mut13 (((w.alloc (.cells #[.pointer (some ⟨H, 0, none⟩)] 200)).alloc (.cells #[.int .i64 l, .int .i64 q1, .int .i64 q2, .int .i64 q3, .int .i64 q4, .int .u64 m1, .int .u64 m2, .int .u64 m3, .int .u64 m4, .int .u64 m5, .int .u64 p, .int .i64 bk, .int .i64 rt] 60)).alloc (.cells #[.int .i64 0, .int .i64 0, .int .i64 0, .int .i64 0, .int .i64 0, .int .u64 0, .int .u64 0, .int .u64 0, .int .u64 0, .int .u64 0, .int .u64 0, .int .i64 0, .int .i64 0] 60)) (w.heap.size + 1) l p bk q1 q2 q3 q4 m1 m2 m3 m4 m5 rt := by
    have := (Mut13.new (w.alloc (.cells #[.pointer (some ⟨H, 0, none⟩)] 200)) l p bk q1 q2 q3 q4 m1 m2 m3 m4 m5 rt).below (below_new _ (.cells #[.int .i64 0, .int .i64 0, .int .i64 0, .int .i64 0, .int .i64 0, .int .u64 0, .int .u64 0, .int .u64 0, .int .u64 0, .int .u64 0, .int .u64 0, .int .i64 0, .int .i64 0] 60)); simpa using this
  have hy : Mut13 (((w.alloc (.cells #[.pointer (some ⟨H, 0, none⟩)] 200)).alloc (.cells #[.int .i64 l, .int .i64 q1, .int .i64 q2, .int .i64 q3, .int .i64 q4, .int .u64 m1, .int .u64 m2, .int .u64 m3, .int .u64 m4, .int .u64 m5, .int .u64 p, .int .i64 bk, .int .i64 rt] 60)).alloc (.cells #[.int .i64 0, .int .i64 0, .int .i64 0, .int .i64 0, .int .i64 0, .int .u64 0, .int .u64 0, .int .u64 0, .int .u64 0, .int .u64 0, .int .u64 0, .int .i64 0, .int .i64 0] 60)) (w.heap.size + 2) 0 0 0 0 0 0 0 0 0 0 0 0 0 := by
    have := Mut13.new ((w.alloc (.cells #[.pointer (some ⟨H, 0, none⟩)] 200)).alloc (.cells #[.int .i64 l, .int .i64 q1, .int .i64 q2, .int .i64 q3, .int .i64 q4, .int .u64 m1, .int .u64 m2, .int .u64 m3, .int .u64 m4, .int .u64 m5, .int .u64 p, .int .i64 bk, .int .i64 rt] 60)) 0 0 0 0 0 0 0 0 0 0 0 0 0; simpa using this
  have HD := Lib.hid (hStore_c (hH.below hb) hu 2 1)
  have HQ : Hid (Sav (HG H G) w _) := Lib.hid (Sav.of (S := HG H G) hb)
  have HM := Lib.hid hm; have HY := Lib.hid hy
  have hlt : H < w.heap.size := hH.lt
  have hltA : A < w.heap.size := hH.ar.lt
  have hltG : G < w.heap.size := hH.ar.row.lt
  have HG := Lib.hid (goOn_c l p bk q1 q2 q3 q4 m1 m2 m3 m4 m5 rt bk)
  generalize wordsQ n f 2 2 1 0 = f' at *
  generalize z5 n 2 2 2 = K1 at *
  generalize z5 n 2 2 1 = X1 at *
  generalize z5 n 2 2 0 = Y1 at *
  generalize z5 n 2 2 (f (Int.toNat 2)) = O1 at *
  clear hH hu hm hy hb
  go_enter Tryz.func143, Tryz.ntmps143
  go_wp2_with fail
  refine HD.out.mono ?_
  rintro e V2 ⟨rfl, hF, hs⟩
  have HF2 := Lib.hid hF
  have HM2 := Lib.hid (HM.out.other (hs.block _ HM.out.lt (by rintro (e | e) <;> omega)))
  have HY2 := Lib.hid (HY.out.other (hs.block _ HY.out.lt (by rintro (e | e) <;> omega)))
  have HQ2 := Lib.hid (HQ.out.trans hs)
  clear hs hF HM HY HQ HD
  obtain ⟨b0, b1, b2, b3, b4, b5, b6, b7, b8, b9, b10, b11, b12, bf⟩ := HM2.out.cells
  go_wp2_with fail
  refine (HG.out _).mono ?_
  rintro e V3 ⟨rfl, hV⟩
  have HF3 := Lib.hid (HF2.out.below hV)
  have HY3 := Lib.hid (HY2.out.below hV)
  have HQ3 := Lib.hid (HQ2.out.trans (Sav.of (S := Proofs.YtbpooljohjkbjaaGreatDoor.HG H G) hV))
  clear hV HF2 HM2 HY2 HQ2 HG b0 b1 b2 b3 b4 b5 b6 b7 b8 b9 b10 b11 b12 bf
  obtain ⟨c0, c1, c2, c3, c4, c5, c6, c7, c8, c9, c10, c11, c12, cf⟩ := HY3.out.cells
  obtain ⟨s0, s1, s2, s3, s4, s5, s6, s7, s8, s9, s10, s11, s12, _⟩ := (HY3.out.put bk 0 0 q1 q2 q3 q4 m1 m2 m3 m4 m5 rt).cells
  go_wp2_with fail
  refine bodyPost_ret (v := (mutV bk 0 0 q1 q2 q3 q4 m1 m2 m3 m4 m5 rt)) (by simp [results, Tryz.f143, go_sem, s0, s1, s2, s3, s4, s5, s6, s7, s8, s9, s10, s11, s12]) rfl ?_
  exact ⟨rfl, HF3.out.put13 (by omega) (by omega) (by omega) _ _ _ _ _ _ _ _ _ _ _ _ _, HQ3.out.put13 (C := w.heap.size + 2) (.inr (by omega)) _ _ _ _ _ _ _ _ _ _ _ _ _⟩
theorem Step_other {H A G n : Nat} {f : Nat → Int} {a b c d k0 i0 x0 y0 o0 : Int} {w : World} (hH : HandAt w H A G n f a b c d k0 i0 x0 y0 o0) (l p bk q1 q2 q3 q4 m1 m2 m3 m4 m5 rt : Int) (h0 : ¬ l = 80) (h1 : ¬ l = 81) :
    Calls Tryz.prog 110 #[.pointer (some ⟨H, 0, none⟩), (mutV l p bk q1 q2 q3 q4 m1 m2 m3 m4 m5 rt)] w (StPost w H A G n f a b c d k0 i0 x0 y0 o0 (.tuple #[(mutV l p bk q1 q2 q3 q4 m1 m2 m3 m4 m5 rt), .bool false])) := by
  have HF := Lib.hid hH
  clear hH
  have g0 : (l == 80) = false := by simpa using h0
  have g1 : (l == 81) = false := by simpa using h1
  go_enter Tryz.func110, Tryz.ntmps110
  go_wp2_with fail
  refine bodyPost_ret (v := .tuple #[(mutV l p bk q1 q2 q3 q4 m1 m2 m3 m4 m5 rt), .bool false]) (by simp [results, Tryz.f110, go_sem]) rfl ?_
  refine ⟨rfl, HF.out.below (below_on (below_on (below_new _ _) _) _), Sav.of (below_on (below_on (below_new _ _) _) _)⟩
theorem Step_shade {H A G n : Nat} {f : Nat → Int} {a b c d k0 i0 x0 y0 o0 : Int} {w : World} (hH : HandAt w H A G n f a b c d k0 i0 x0 y0 o0) (hu : ∀ j, U64 (f j)) (hS : SpansAt w) (v : Nat) (hv : v < 18446744073709551616) (bk q1 q2 q3 q4 m1 m2 m3 m4 m5 rt : Int) :
    Calls Tryz.prog 110 #[.pointer (some ⟨H, 0, none⟩), (mutV 80 (v : Int) bk q1 q2 q3 q4 m1 m2 m3 m4 m5 rt)] w (StPost w H A G n (wordsQ n f 3 (fieldP a b c d v 2) 0 1) a b c d (z5 n 3 (fieldP a b c d v 2) 3) (z5 n 3 (fieldP a b c d v 2) (fieldP a b c d v 2)) (z5 n 3 (fieldP a b c d v 2) 0) (z5 n 3 (fieldP a b c d v 2) 1) (z5 n 3 (fieldP a b c d v 2) (f (fieldP a b c d v 2).toNat)) (.tuple #[(mutV (if casB n f (fieldP a b c d v 2) 0 then 81 else bk) 0 (if casB n f (fieldP a b c d v 2) 0 then bk else 0) q1 q2 q3 q4 m1 m2 m3 m4 m5 rt), .bool true])) := by
  have hb := below_on (below_on (below_new w (.cells #[.int .i64 80, .int .i64 q1, .int .i64 q2, .int .i64 q3, .int .i64 q4, .int .u64 m1, .int .u64 m2, .int .u64 m3, .int .u64 m4, .int .u64 m5, .int .u64 (v : Int), .int .i64 bk, .int .i64 rt] 60)) (.cells #[.int .i64 0, .int .i64 0, .int .i64 0, .int .i64 0, .int .i64 0, .int .u64 0, .int .u64 0, .int .u64 0, .int .u64 0, .int .u64 0, .int .u64 0, .int .i64 0, .int .i64 0] 60)) (.cells #[.pointer (some ⟨H, 0, none⟩)] 200)
  have hy : Mut13 (((w.alloc (.cells #[.int .i64 80, .int .i64 q1, .int .i64 q2, .int .i64 q3, .int .i64 q4, .int .u64 m1, .int .u64 m2, .int .u64 m3, .int .u64 m4, .int .u64 m5, .int .u64 (v : Int), .int .i64 bk, .int .i64 rt] 60)).alloc (.cells #[.int .i64 0, .int .i64 0, .int .i64 0, .int .i64 0, .int .i64 0, .int .u64 0, .int .u64 0, .int .u64 0, .int .u64 0, .int .u64 0, .int .u64 0, .int .i64 0, .int .i64 0] 60)).alloc (.cells #[.pointer (some ⟨H, 0, none⟩)] 200)) (w.heap.size + 1) 0 0 0 0 0 0 0 0 0 0 0 0 0 := by
    have := (Mut13.new (w.alloc (.cells #[.int .i64 80, .int .i64 q1, .int .i64 q2, .int .i64 q3, .int .i64 q4, .int .u64 m1, .int .u64 m2, .int .u64 m3, .int .u64 m4, .int .u64 m5, .int .u64 (v : Int), .int .i64 bk, .int .i64 rt] 60)) 0 0 0 0 0 0 0 0 0 0 0 0 0).below (below_new _ (.cells #[.pointer (some ⟨H, 0, none⟩)] 200)); simpa using this
  have HQ : Hid (Sav (HG H G) w _) := Lib.hid (Sav.of (S := HG H G) hb)
  have HY := Lib.hid hy
  have hlt : H < w.heap.size := hH.lt
  have hltA : A < w.heap.size := hH.ar.lt
  have hltG : G < w.heap.size := hH.ar.row.lt
  have HD := Lib.hid (shade_c (hH.below hb) hu (hS.below hb) 80 v hv bk q1 q2 q3 q4 m1 m2 m3 m4 m5 rt)
  generalize hpl : (fieldP a b c d v 2) = pl at *
  generalize wordsQ n f 3 pl 0 1 = f' at *
  generalize z5 n 3 pl 3 = K1 at *
  generalize z5 n 3 pl pl = I1 at *
  generalize z5 n 3 pl 0 = X1 at *
  generalize z5 n 3 pl 1 = Y1 at *
  generalize z5 n 3 pl (f pl.toNat) = O1 at *
  generalize (if casB n f pl 0 then 81 else bk) = RL at *
  generalize (if casB n f pl 0 then bk else 0) = RB at *
  clear hH hu hS hb hy hpl
  go_enter Tryz.func110, Tryz.ntmps110
  go_wp2_with fail
  refine HD.out.mono ?_
  rintro e V2 ⟨rfl, hF, hs⟩
  have HF2 := Lib.hid hF
  have HY2 := Lib.hid (HY.out.other (hs.block _ HY.out.lt (by rintro (e | e) <;> omega)))
  have HQ2 := Lib.hid (HQ.out.trans hs)
  clear hs hF HY HQ HD
  obtain ⟨c0, c1, c2, c3, c4, c5, c6, c7, c8, c9, c10, c11, c12, cf⟩ := HY2.out.cells
  obtain ⟨s0, s1, s2, s3, s4, s5, s6, s7, s8, s9, s10, s11, s12, _⟩ := (HY2.out.put RL 0 RB q1 q2 q3 q4 m1 m2 m3 m4 m5 rt).cells
  go_wp2_with fail
  refine bodyPost_ret (v := .tuple #[(mutV RL 0 RB q1 q2 q3 q4 m1 m2 m3 m4 m5 rt), .bool true]) (by simp [results, Tryz.f110, go_sem, s0, s1, s2, s3, s4, s5, s6, s7, s8, s9, s10, s11, s12]) rfl ?_
  exact ⟨rfl, HF2.out.put13 (by omega) (by omega) (by omega) _ _ _ _ _ _ _ _ _ _ _ _ _, HQ2.out.put13 (C := w.heap.size + 1) (.inr (by omega)) _ _ _ _ _ _ _ _ _ _ _ _ _⟩
theorem Step_soil {H A G n : Nat} {f : Nat → Int} {a b c d k0 i0 x0 y0 o0 : Int} {w : World} (hH : HandAt w H A G n f a b c d k0 i0 x0 y0 o0) (hu : ∀ j, U64 (f j)) (p : Int) (bk q1 q2 q3 q4 m1 m2 m3 m4 m5 rt : Int) :
    Calls Tryz.prog 110 #[.pointer (some ⟨H, 0, none⟩), (mutV 81 p bk q1 q2 q3 q4 m1 m2 m3 m4 m5 rt)] w (StPost w H A G n (wordsQ n f 2 2 1 0) a b c d (z5 n 2 2 2) (z5 n 2 2 2) (z5 n 2 2 1) (z5 n 2 2 0) (z5 n 2 2 (f (Int.toNat 2))) (.tuple #[(mutV bk 0 0 q1 q2 q3 q4 m1 m2 m3 m4 m5 rt), .bool true])) := by
  have hb := below_on (below_on (below_new w (.cells #[.int .i64 81, .int .i64 q1, .int .i64 q2, .int .i64 q3, .int .i64 q4, .int .u64 m1, .int .u64 m2, .int .u64 m3, .int .u64 m4, .int .u64 m5, .int .u64 p, .int .i64 bk, .int .i64 rt] 60)) (.cells #[.int .i64 0, .int .i64 0, .int .i64 0, .int .i64 0, .int .i64 0, .int .u64 0, .int .u64 0, .int .u64 0, .int .u64 0, .int .u64 0, .int .u64 0, .int .i64 0, .int .i64 0] 60)) (.cells #[.pointer (some ⟨H, 0, none⟩)] 200)
  have hy : Mut13 (((w.alloc (.cells #[.int .i64 81, .int .i64 q1, .int .i64 q2, .int .i64 q3, .int .i64 q4, .int .u64 m1, .int .u64 m2, .int .u64 m3, .int .u64 m4, .int .u64 m5, .int .u64 p, .int .i64 bk, .int .i64 rt] 60)).alloc (.cells #[.int .i64 0, .int .i64 0, .int .i64 0, .int .i64 0, .int .i64 0, .int .u64 0, .int .u64 0, .int .u64 0, .int .u64 0, .int .u64 0, .int .u64 0, .int .i64 0, .int .i64 0] 60)).alloc (.cells #[.pointer (some ⟨H, 0, none⟩)] 200)) (w.heap.size + 1) 0 0 0 0 0 0 0 0 0 0 0 0 0 := by
    have := (Mut13.new (w.alloc (.cells #[.int .i64 81, .int .i64 q1, .int .i64 q2, .int .i64 q3, .int .i64 q4, .int .u64 m1, .int .u64 m2, .int .u64 m3, .int .u64 m4, .int .u64 m5, .int .u64 p, .int .i64 bk, .int .i64 rt] 60)) 0 0 0 0 0 0 0 0 0 0 0 0 0).below (below_new _ (.cells #[.pointer (some ⟨H, 0, none⟩)] 200)); simpa using this
  have HQ : Hid (Sav (HG H G) w _) := Lib.hid (Sav.of (S := HG H G) hb)
  have HY := Lib.hid hy
  have hlt : H < w.heap.size := hH.lt
  have hltA : A < w.heap.size := hH.ar.lt
  have hltG : G < w.heap.size := hH.ar.row.lt
  have HD := Lib.hid (soil_c (hH.below hb) hu 81 p bk q1 q2 q3 q4 m1 m2 m3 m4 m5 rt)
  generalize wordsQ n f 2 2 1 0 = f' at *
  generalize z5 n 2 2 2 = K1 at *
  generalize z5 n 2 2 1 = X1 at *
  generalize z5 n 2 2 0 = Y1 at *
  generalize z5 n 2 2 (f (Int.toNat 2)) = O1 at *
  clear hH hu hb hy
  go_enter Tryz.func110, Tryz.ntmps110
  go_wp2_with fail
  refine HD.out.mono ?_
  rintro e V2 ⟨rfl, hF, hs⟩
  have HF2 := Lib.hid hF
  have HY2 := Lib.hid (HY.out.other (hs.block _ HY.out.lt (by rintro (e | e) <;> omega)))
  have HQ2 := Lib.hid (HQ.out.trans hs)
  clear hs hF HY HQ HD
  obtain ⟨c0, c1, c2, c3, c4, c5, c6, c7, c8, c9, c10, c11, c12, cf⟩ := HY2.out.cells
  obtain ⟨s0, s1, s2, s3, s4, s5, s6, s7, s8, s9, s10, s11, s12, _⟩ := (HY2.out.put bk 0 0 q1 q2 q3 q4 m1 m2 m3 m4 m5 rt).cells
  go_wp2_with fail
  refine bodyPost_ret (v := .tuple #[(mutV bk 0 0 q1 q2 q3 q4 m1 m2 m3 m4 m5 rt), .bool true]) (by simp [results, Tryz.f110, go_sem, s0, s1, s2, s3, s4, s5, s6, s7, s8, s9, s10, s11, s12]) rfl ?_
  exact ⟨rfl, HF2.out.put13 (by omega) (by omega) (by omega) _ _ _ _ _ _ _ _ _ _ _ _ _, HQ2.out.put13 (C := w.heap.size + 1) (.inr (by omega)) _ _ _ _ _ _ _ _ _ _ _ _ _⟩
end Go.Proofs.YtbpooljohjkbjaaGreatDoor
