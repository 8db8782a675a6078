/- The law AccessApart answers true for every configuration and every two accesses, in whatever memory in which the listed variables read as their texts lay them. -/
import Derived.Test.YtdhejdehlomppaaDoorAccessRows
import Derived.Test.YtdhejdehlomppaaDoorAccessPlain
import Derived.Test.YtdhejdehlomppaaDoorAccessTexts
namespace Go.Proofs.YtdhejdehlomppaaDoor
open Go Go.RowKit
set_option maxRecDepth 100000
attribute [local go_sem ↓] Go.wp_at_zero Go.wp_at_succ

/-- What stays while the law goes on: the map and the two accesses. -/
structure AB (w wr : World) (M : Nat) (a b c d k p k' p' : Int) (x y o x' y' o' : Nat) : Prop where
  old : Below w.heap.size w wr
  map : BoxAt wr M a b c d
  ax : AccAt wr (w.heap.size + 1) k p x y o
  ay : AccAt wr (w.heap.size + 2) k' p' x' y' o'
theorem AB.below {w wr v : World} {M : Nat} {a b c d k p k' p' : Int} {x y o x' y' o' : Nat} (h : AB w wr M a b c d k p k' p' x y o x' y' o') (hb : Below wr.heap.size wr v) : AB w v M a b c d k p k' p' x y o x' y' o' :=
  ⟨belowOn h.old hb, h.map.below hb, h.ax.below hb, h.ay.below hb⟩
theorem AB.drew {w wr : World} {M : Nat} {a b c d k p k' p' : Int} {x y o x' y' o' : Nat} (h : AB w wr M a b c d k p k' p' x y o x' y' o') : AB w wr.drew M a b c d k p k' p' x y o x' y' o' := h.below (Below.refl _ _).drew
theorem AB.held {w w' : World} {M : Nat} {a b c d k p k' p' : Int} {x y o x' y' o' : Nat} (h : AB w w' M a b c d k p k' p' x y o x' y' o') : w'.cell? ⟨M, 0, none⟩ = some (.int .i64 a) ∧ w'.cell? ⟨M, 1, none⟩ = some (.int .i64 b) ∧ w'.cell? ⟨M, 2, none⟩ = some (.int .i64 c) ∧ w'.cell? ⟨M, 3, none⟩ = some (.int .i64 d) ∧ w'.cell? ⟨w.heap.size + 1, 0, none⟩ = some (.int .i64 k) ∧ w'.cell? ⟨w.heap.size + 1, 1, none⟩ = some (.int .i64 p) ∧ w'.cell? ⟨w.heap.size + 1, 2, none⟩ = some (.int .u64 x) ∧ w'.cell? ⟨w.heap.size + 1, 3, none⟩ = some (.int .u64 y) ∧ w'.cell? ⟨w.heap.size + 1, 4, none⟩ = some (.int .u64 o) ∧ w'.cell? ⟨w.heap.size + 2, 0, none⟩ = some (.int .i64 k') ∧ w'.cell? ⟨w.heap.size + 2, 1, none⟩ = some (.int .i64 p') ∧ w'.cell? ⟨w.heap.size + 2, 2, none⟩ = some (.int .u64 x') ∧ w'.cell? ⟨w.heap.size + 2, 3, none⟩ = some (.int .u64 y') ∧ w'.cell? ⟨w.heap.size + 2, 4, none⟩ = some (.int .u64 o') :=
  ⟨h.map.1, h.map.2.1, h.map.2.2.1, h.map.2.2.2, h.ax.1, h.ax.2.1, h.ax.2.2.1, h.ax.2.2.2.1, h.ax.2.2.2.2, h.ay.1, h.ay.2.1, h.ay.2.2.1, h.ay.2.2.2.1, h.ay.2.2.2.2⟩
theorem three_new (w : World) (a b c d k p k' p' : Int) (x y o x' y' o' : Nat) : BoxAt (((w.alloc (.cells #[.int .i64 a, .int .i64 b, .int .i64 c, .int .i64 d] 23)).alloc (.cells #[.int .i64 k, .int .i64 p, .int .u64 x, .int .u64 y, .int .u64 o] 33)).alloc (.cells #[.int .i64 k', .int .i64 p', .int .u64 x', .int .u64 y', .int .u64 o'] 33)) w.heap.size a b c d ∧ AccAt (((w.alloc (.cells #[.int .i64 a, .int .i64 b, .int .i64 c, .int .i64 d] 23)).alloc (.cells #[.int .i64 k, .int .i64 p, .int .u64 x, .int .u64 y, .int .u64 o] 33)).alloc (.cells #[.int .i64 k', .int .i64 p', .int .u64 x', .int .u64 y', .int .u64 o'] 33)) (w.heap.size + 1) k p x y o ∧ AccAt (((w.alloc (.cells #[.int .i64 a, .int .i64 b, .int .i64 c, .int .i64 d] 23)).alloc (.cells #[.int .i64 k, .int .i64 p, .int .u64 x, .int .u64 y, .int .u64 o] 33)).alloc (.cells #[.int .i64 k', .int .i64 p', .int .u64 x', .int .u64 y', .int .u64 o'] 33)) (w.heap.size + 2) k' p' x' y' o' := by
  have h1 := AccAt.new (w.alloc (.cells #[.int .i64 a, .int .i64 b, .int .i64 c, .int .i64 d] 23)) k p x y o 33
  rw [show (w.alloc (.cells #[.int .i64 a, .int .i64 b, .int .i64 c, .int .i64 d] 23)).heap.size = w.heap.size + 1 by simp] at h1
  have h2 := AccAt.new ((w.alloc (.cells #[.int .i64 a, .int .i64 b, .int .i64 c, .int .i64 d] 23)).alloc (.cells #[.int .i64 k, .int .i64 p, .int .u64 x, .int .u64 y, .int .u64 o] 33)) k' p' x' y' o' 33
  rw [show ((w.alloc (.cells #[.int .i64 a, .int .i64 b, .int .i64 c, .int .i64 d] 23)).alloc (.cells #[.int .i64 k, .int .i64 p, .int .u64 x, .int .u64 y, .int .u64 o] 33)).heap.size = w.heap.size + 2 by simp] at h2
  exact ⟨((BoxAt.new w a b c d 23).below (below_new _ _)).below (below_new _ _), h1.below (below_new _ _), h2⟩
theorem apart_big (a b c d k p k' p' : Int) (x y o x' y' o' : Nat) (hbig : 30 < a) (w : World) (hL : Laid6 w) :
    Calls Tryd.prog 5 #[.agg #[.int .i64 a, .int .i64 b, .int .i64 c, .int .i64 d], accV k p x y o, accV k' p' x' y' o'] w fun e w' => e = .returned (.bool true) ∧ Below w.heap.size w w' := by
  have hb : Below w.heap.size w (((w.alloc (.cells #[.int .i64 a, .int .i64 b, .int .i64 c, .int .i64 d] 23)).alloc (.cells #[.int .i64 k, .int .i64 p, .int .u64 x, .int .u64 y, .int .u64 o] 33)).alloc (.cells #[.int .i64 k', .int .i64 p', .int .u64 x', .int .u64 y', .int .u64 o'] 33)) := below_on (below_on (below_new _ _) _) _
  have HW := Lib.hid (awake6_c _ (hL.below hb))
  have HB := Lib.hid hb
  have H3 := Lib.hid (three_new w a b c d k p k' p' x y o x' y' o')
  clear hb hL
  go_enter Tryd.func5, Tryd.ntmps5
  go_wp2_with fail
  refine HW.out.mono ?_
  rintro e W1 ⟨rfl, hW⟩
  have HB1 := Lib.hid (belowOn HB.out hW)
  have HX1 := Lib.hid (H3.out.1.below hW)
  have HAx := Lib.hid (H3.out.2.1.below hW)
  have HAy := Lib.hid (H3.out.2.2.below hW)
  clear hW HW HB H3
  obtain ⟨x0, x1, x2, x3⟩ := HX1.out
  go_wp2_with fail
  go_ret
  exact ⟨rfl, HB1.out⟩
set_option maxHeartbeats 6400000 in
theorem apart_xn_yy (a b c d k p k' p' : Int) (x y o x' y' o' : Nat) (hx : x < 18446744073709551616) (hy : y < 18446744073709551616) (ho : o < 18446744073709551616) (hx' : x' < 18446744073709551616) (hy' : y' < 18446744073709551616) (ho' : o' < 18446744073709551616) (hsm : ¬ 30 < a) (hxr : ¬ RightA a b c d k p x y) (hyr : RightA a b c d k' p' x' y') (w : World) (hL : Laid6 w) :
    Calls Tryd.prog 5 #[.agg #[.int .i64 a, .int .i64 b, .int .i64 c, .int .i64 d], accV k p x y o, accV k' p' x' y' o'] w fun e w' => e = .returned (.bool true) ∧ Below w.heap.size w w' := by
  have hTx := Text_c a b c d k p x y o hx hy ho
  have hTy := Text_c a b c d k' p' x' y' o' hx' hy' ho'
  have hRx := Right_c a b c d k p x y o
  have hRy := Right_c a b c d k' p' x' y' o'
  rw [decide_eq_false hxr] at hRx
  rw [show textF a b c d k p x y o = [] by unfold textF; rw [if_neg hxr]] at hTx
  clear hxr
  rw [decide_eq_true hyr] at hRy
  obtain ⟨ty, hty⟩ : ∃ t, textF a b c d k' p' x' y' o' = t := ⟨_, rfl⟩
  have hny : ty ≠ [] := by rw [← hty]; unfold textF; rw [if_pos hyr]; exact accT_ne _ _ _ _ _ _ _ _
  rw [hty] at hTy
  have qy : (ty == []) = false := by simpa using hny
  have py : (ty != []) = true := by simpa using hny
  clear hty hny hyr
  have HTx := Lib.hid hTx; have HTy := Lib.hid hTy; have HRx := Lib.hid hRx; have HRy := Lib.hid hRy
  have HL := Lib.hid hL
  clear hTx hTy hRx hRy hx hy ho hx' hy' ho'
  have hb : Below w.heap.size w (((w.alloc (.cells #[.int .i64 a, .int .i64 b, .int .i64 c, .int .i64 d] 23)).alloc (.cells #[.int .i64 k, .int .i64 p, .int .u64 x, .int .u64 y, .int .u64 o] 33)).alloc (.cells #[.int .i64 k', .int .i64 p', .int .u64 x', .int .u64 y', .int .u64 o'] 33)) := below_on (below_on (below_new _ _) _) _
  have HW := Lib.hid (awake6_c _ (hL.below hb))
  have HB := Lib.hid hb
  have H3 := Lib.hid (three_new w a b c d k p k' p' x y o x' y' o')
  clear hb hL
  go_enter Tryd.func5, Tryd.ntmps5
  go_wp2_with fail
  refine HW.out.mono ?_
  rintro e W1 ⟨rfl, hW⟩
  have HB1 := Lib.hid (belowOn HB.out hW)
  have HX1 := Lib.hid (H3.out.1.below hW)
  have HAx := Lib.hid (H3.out.2.1.below hW)
  have HAy := Lib.hid (H3.out.2.2.below hW)
  clear hW HW HB H3
  obtain ⟨x0, x1, x2, x3⟩ := HX1.out
  have hlt1 : w.heap.size + 2 < W1.heap.size := lt_of_cell HAy.out.1
  have HK : Hid (AB w (W1.alloc (.cells #[.int .i64 a, .int .i64 b, .int .i64 c, .int .i64 d] 27)) W1.heap.size a b c d k p k' p' x y o x' y' o') := Lib.hid ⟨below_on HB1.out _, BoxAt.new W1 a b c d 27, HAx.out.below (below_new _ _), HAy.out.below (below_new _ _)⟩
  obtain ⟨m0, m1, m2, m3, y0, y1, y2, y3, y4, z0, z1, z2, z3, z4⟩ := HK.out.held
  clear HAx HAy HB1 HX1
  go_wp2_with fail
  generalize W1.heap.size = M at *
  refine (HRx.out _ (HL.out.below HK.out.old).base.spans).mono ?_
  rintro e V0 ⟨rfl, hW⟩
  have HK0 := Lib.hid (HK.out.below hW)
  clear hW HK m0 m1 m2 m3 y0 y1 y2 y3 y4 z0 z1 z2 z3 z4
  obtain ⟨m0, m1, m2, m3, y0, y1, y2, y3, y4, z0, z1, z2, z3, z4⟩ := HK0.out.held
  go_wp2_with fail
  have HKd := Lib.hid HK0.out.drew
  clear m0 m1 m2 m3 y0 y1 y2 y3 y4 z0 z1 z2 z3 z4 HK0
  go_wp2_with fail
  refine wp_region_held_drew (S := (fun w' => w'.cell? ⟨M, 0, none⟩ = some (.int .i64 a) ∧ w'.cell? ⟨M, 1, none⟩ = some (.int .i64 b) ∧ w'.cell? ⟨M, 2, none⟩ = some (.int .i64 c) ∧ w'.cell? ⟨M, 3, none⟩ = some (.int .i64 d) ∧ w'.cell? ⟨w.heap.size + 1, 0, none⟩ = some (.int .i64 k) ∧ w'.cell? ⟨w.heap.size + 1, 1, none⟩ = some (.int .i64 p) ∧ w'.cell? ⟨w.heap.size + 1, 2, none⟩ = some (.int .u64 x) ∧ w'.cell? ⟨w.heap.size + 1, 3, none⟩ = some (.int .u64 y) ∧ w'.cell? ⟨w.heap.size + 1, 4, none⟩ = some (.int .u64 o) ∧ w'.cell? ⟨w.heap.size + 2, 0, none⟩ = some (.int .i64 k') ∧ w'.cell? ⟨w.heap.size + 2, 1, none⟩ = some (.int .i64 p') ∧ w'.cell? ⟨w.heap.size + 2, 2, none⟩ = some (.int .u64 x') ∧ w'.cell? ⟨w.heap.size + 2, 3, none⟩ = some (.int .u64 y') ∧ w'.cell? ⟨w.heap.size + 2, 4, none⟩ = some (.int .u64 o'))) (by kernel_rfl) ?_ (fun hHeld => ?_)
  · exact HKd.out.held
  refine wpAnyH_take (i := 0) (oi := { dst := some 25, op := Op.load 27 (Operand.tmp 7), type := 27, pos := "law.go:65", after := #[], guard := none }) (v := ?vyy0) rfl (by kernel_rfl) (by kernel_rfl) (by kernel_rfl) (fun _ _ _ h => h) (Or.inl ⟨by rfl, ?hyyy0⟩) hHeld ?_
  case hyyy0 => (intro w hSw; (try dsimp only at hSw); go_simp; (try with_reducible rfl))
  try simp only [Act.put, List.setIfInBounds_toArray, List.set_cons_zero, List.set_cons_succ]
  refine wpAnyH_take (i := 1) (oi := { dst := some 26, op := Op.load 33 (Operand.tmp 4), type := 33, pos := "law.go:65", after := #[], guard := none }) (v := ?vyy1) rfl (by kernel_rfl) (by kernel_rfl) (by kernel_rfl) (fun _ _ _ h => h) (Or.inl ⟨by rfl, ?hyyy1⟩) hHeld ?_
  case hyyy1 => (intro w hSw; (try dsimp only at hSw); go_simp; (try with_reducible rfl))
  try simp only [Act.put, List.setIfInBounds_toArray, List.set_cons_zero, List.set_cons_succ]
  refine wpAnyH_take (i := 3) (oi := { dst := some 28, op := Op.load 27 (Operand.tmp 7), type := 27, pos := "law.go:65", after := #[], guard := none }) (v := ?vyy3) rfl (by kernel_rfl) (by kernel_rfl) (by kernel_rfl) (fun _ _ _ h => h) (Or.inl ⟨by rfl, ?hyyy3⟩) hHeld ?_
  case hyyy3 => (intro w hSw; (try dsimp only at hSw); go_simp; (try with_reducible rfl))
  try simp only [Act.put, List.setIfInBounds_toArray, List.set_cons_zero, List.set_cons_succ]
  refine wpAnyH_take (i := 4) (oi := { dst := some 29, op := Op.load 33 (Operand.tmp 4), type := 33, pos := "law.go:65", after := #[], guard := none }) (v := ?vyy4) rfl (by kernel_rfl) (by kernel_rfl) (by kernel_rfl) (fun _ _ _ h => h) (Or.inl ⟨by rfl, ?hyyy4⟩) hHeld ?_
  case hyyy4 => (intro w hSw; (try dsimp only at hSw); go_simp; (try with_reducible rfl))
  try simp only [Act.put, List.setIfInBounds_toArray, List.set_cons_zero, List.set_cons_succ]
  refine wpAnyH_ready (rs := [2]) (by kernel_rfl) (by simp) ?_
  refine AllReadyH.cons (o := { dst := some 27, op := Op.call { callee := Callee.value (Operand.func 9), args := #[Operand.tmp 25, Operand.tmp 26], argTypes := #[27, 33] }, type := 4, pos := "law.go:65", after := #[{ on := 0, ground := Ground.data }, { on := 1, ground := Ground.data }], guard := none }) rfl (fun K hK => ?_) AllReadyH.nil
  go_simp
  refine (HRx.out _ (HL.out.below HKd.out.old).base.spans).mono ?_
  rintro e v1 ⟨rfl, hV⟩
  have hK1 := AB.below HKd.out hV
  clear hV hHeld
  try go_wp2_with fail
  refine hK.out _ _ ?_ (fun hHeld => ?_)
  · exact hK1.held
  clear hK K
  try simp only [Act.put, List.setIfInBounds_toArray, List.set_cons_zero, List.set_cons_succ]
  refine wpAnyH_ready (rs := [5]) (by kernel_rfl) (by simp) ?_
  refine AllReadyH.cons (o := { dst := some 30, op := Op.call { callee := Callee.value (Operand.func 8), args := #[Operand.tmp 28, Operand.tmp 29], argTypes := #[27, 33] }, type := 9, pos := "law.go:65", after := #[{ on := 3, ground := Ground.data }, { on := 4, ground := Ground.data }, { on := 2, ground := Ground.chain }], guard := none }) rfl (fun K hK => ?_) AllReadyH.nil
  go_simp
  refine (HTx.out _ (HL.out.below hK1.old)).mono ?_
  rintro e v2 ⟨rfl, hV⟩
  have hK2 := AB.below hK1 hV
  clear hV hHeld
  try go_wp2_with fail
  refine hK.out _ _ ?_ (fun hHeld => ?_)
  · exact hK2.held
  clear hK K
  try simp only [Act.put, List.setIfInBounds_toArray, List.set_cons_zero, List.set_cons_succ]
  refine wpAnyH_take (i := 6) (oi := { dst := some 31, op := Op.binOp BinOp.neq 9 (Operand.tmp 30) (Operand.const (Value.string { data := #[] })) 9, type := 4, pos := "law.go:65", after := #[{ on := 5, ground := Ground.data }], guard := none }) (v := ?vyy6) rfl (by kernel_rfl) (by kernel_rfl) (by kernel_rfl) (fun _ _ _ h => h) (Or.inl ⟨by rfl, ?hyyy6⟩) hHeld ?_
  case hyyy6 => (intro w hSw; (try dsimp only at hSw); go_simp; (try with_reducible rfl))
  try simp only [Act.put, List.setIfInBounds_toArray, List.set_cons_zero, List.set_cons_succ]
  refine wpAnyH_take (i := 7) (oi := { dst := some 32, op := Op.binOp BinOp.eql 4 (Operand.tmp 27) (Operand.tmp 31) 4, type := 4, pos := "law.go:65", after := #[{ on := 2, ground := Ground.data }, { on := 6, ground := Ground.data }], guard := none }) (v := ?vyy7) rfl (by kernel_rfl) (by kernel_rfl) (by kernel_rfl) (fun _ _ _ h => h) (Or.inl ⟨by rfl, ?hyyy7⟩) hHeld ?_
  case hyyy7 => (intro w hSw; (try dsimp only at hSw); go_simp; (try with_reducible rfl))
  try simp only [Act.put, List.setIfInBounds_toArray, List.set_cons_zero, List.set_cons_succ]
  refine wpAnyH_take (i := 8) (oi := { dst := some 33, op := Op.move (Operand.tmp 32), type := 4, pos := "law.go:65", after := #[{ on := 7, ground := Ground.data }, { on := 5, ground := Ground.chain }], guard := none }) (v := ?vyy8) rfl (by kernel_rfl) (by kernel_rfl) (by kernel_rfl) (fun _ _ _ h => h) (Or.inl ⟨by rfl, ?hyyy8⟩) hHeld ?_
  case hyyy8 => (intro w hSw; (try dsimp only at hSw); go_simp; (try with_reducible rfl))
  try simp only [Act.put, List.setIfInBounds_toArray, List.set_cons_zero, List.set_cons_succ]
  refine wpAnyH_take (i := 9) (oi := { dst := some 34, op := Op.load 27 (Operand.tmp 7), type := 27, pos := "law.go:65", after := #[{ on := 8, ground := Ground.guard }], guard := some (8, true) }) (v := ?vyy9) rfl (by kernel_rfl) (by kernel_rfl) (by kernel_rfl) (fun _ _ _ h => h) (Or.inl ⟨by rfl, ?hyyy9⟩) hHeld ?_
  case hyyy9 => (intro w hSw; (try dsimp only at hSw); go_simp; (try with_reducible rfl))
  try simp only [Act.put, List.setIfInBounds_toArray, List.set_cons_zero, List.set_cons_succ]
  refine wpAnyH_take (i := 10) (oi := { dst := some 35, op := Op.load 33 (Operand.tmp 5), type := 33, pos := "law.go:65", after := #[{ on := 8, ground := Ground.guard }], guard := some (8, true) }) (v := ?vyy10) rfl (by kernel_rfl) (by kernel_rfl) (by kernel_rfl) (fun _ _ _ h => h) (Or.inl ⟨by rfl, ?hyyy10⟩) hHeld ?_
  case hyyy10 => (intro w hSw; (try dsimp only at hSw); go_simp; (try with_reducible rfl))
  try simp only [Act.put, List.setIfInBounds_toArray, List.set_cons_zero, List.set_cons_succ]
  refine wpAnyH_take (i := 12) (oi := { dst := some 37, op := Op.load 27 (Operand.tmp 7), type := 27, pos := "law.go:65", after := #[{ on := 8, ground := Ground.guard }], guard := some (8, true) }) (v := ?vyy12) rfl (by kernel_rfl) (by kernel_rfl) (by kernel_rfl) (fun _ _ _ h => h) (Or.inl ⟨by rfl, ?hyyy12⟩) hHeld ?_
  case hyyy12 => (intro w hSw; (try dsimp only at hSw); go_simp; (try with_reducible rfl))
  try simp only [Act.put, List.setIfInBounds_toArray, List.set_cons_zero, List.set_cons_succ]
  refine wpAnyH_take (i := 13) (oi := { dst := some 38, op := Op.load 33 (Operand.tmp 5), type := 33, pos := "law.go:65", after := #[{ on := 8, ground := Ground.guard }], guard := some (8, true) }) (v := ?vyy13) rfl (by kernel_rfl) (by kernel_rfl) (by kernel_rfl) (fun _ _ _ h => h) (Or.inl ⟨by rfl, ?hyyy13⟩) hHeld ?_
  case hyyy13 => (intro w hSw; (try dsimp only at hSw); go_simp; (try with_reducible rfl))
  try simp only [Act.put, List.setIfInBounds_toArray, List.set_cons_zero, List.set_cons_succ]
  refine wpAnyH_ready (rs := [11]) (by kernel_rfl) (by simp) ?_
  refine AllReadyH.cons (o := { dst := some 36, op := Op.call { callee := Callee.value (Operand.func 9), args := #[Operand.tmp 34, Operand.tmp 35], argTypes := #[27, 33] }, type := 4, pos := "law.go:65", after := #[{ on := 9, ground := Ground.data }, { on := 10, ground := Ground.data }, { on := 8, ground := Ground.chain }, { on := 8, ground := Ground.guard }], guard := some (8, true) }) rfl (fun K hK => ?_) AllReadyH.nil
  go_simp
  refine (HRy.out _ (HL.out.below hK2.old).base.spans).mono ?_
  rintro e v3 ⟨rfl, hV⟩
  have hK3 := AB.below hK2 hV
  clear hV hHeld
  try go_wp2_with fail
  refine hK.out _ _ ?_ (fun hHeld => ?_)
  · exact hK3.held
  clear hK K
  try simp only [Act.put, List.setIfInBounds_toArray, List.set_cons_zero, List.set_cons_succ]
  refine wpAnyH_ready (rs := [14]) (by kernel_rfl) (by simp) ?_
  refine AllReadyH.cons (o := { dst := some 39, op := Op.call { callee := Callee.value (Operand.func 8), args := #[Operand.tmp 37, Operand.tmp 38], argTypes := #[27, 33] }, type := 9, pos := "law.go:65", after := #[{ on := 12, ground := Ground.data }, { on := 13, ground := Ground.data }, { on := 11, ground := Ground.chain }, { on := 8, ground := Ground.guard }], guard := some (8, true) }) rfl (fun K hK => ?_) AllReadyH.nil
  go_simp
  refine (HTy.out _ (HL.out.below hK3.old)).mono ?_
  rintro e v4 ⟨rfl, hV⟩
  have hK4 := AB.below hK3 hV
  clear hV hHeld
  try go_wp2_with fail
  refine hK.out _ _ ?_ (fun hHeld => ?_)
  · exact hK4.held
  clear hK K
  try simp only [Act.put, List.setIfInBounds_toArray, List.set_cons_zero, List.set_cons_succ]
  refine wpAnyH_take (i := 15) (oi := { dst := some 40, op := Op.binOp BinOp.neq 9 (Operand.tmp 39) (Operand.const (Value.string { data := #[] })) 9, type := 4, pos := "law.go:65", after := #[{ on := 14, ground := Ground.data }, { on := 8, ground := Ground.guard }], guard := some (8, true) }) (v := ?vyy15) rfl (by kernel_rfl) (by kernel_rfl) (by kernel_rfl) (fun _ _ _ h => h) (Or.inl ⟨by rfl, ?hyyy15⟩) hHeld ?_
  case hyyy15 => (intro w hSw; (try dsimp only at hSw); go_simp; (try with_reducible rfl))
  try simp only [Act.put, List.setIfInBounds_toArray, List.set_cons_zero, List.set_cons_succ]
  refine wpAnyH_take (i := 16) (oi := { dst := some 41, op := Op.binOp BinOp.eql 4 (Operand.tmp 36) (Operand.tmp 40) 4, type := 4, pos := "law.go:65", after := #[{ on := 11, ground := Ground.data }, { on := 15, ground := Ground.data }, { on := 8, ground := Ground.guard }], guard := some (8, true) }) (v := ?vyy16) rfl (by kernel_rfl) (by kernel_rfl) (by kernel_rfl) (fun _ _ _ h => h) (Or.inl ⟨by rfl, ?hyyy16⟩) hHeld ?_
  case hyyy16 => (intro w hSw; (try dsimp only at hSw); go_simp; (try with_reducible rfl))
  try simp only [Act.put, List.setIfInBounds_toArray, List.set_cons_zero, List.set_cons_succ]
  refine wpAnyH_take (i := 17) (oi := { dst := some 42, op := Op.pick (Operand.tmp 33) (Operand.tmp 41) (Operand.const (Value.bool false)), type := 4, pos := "law.go:65", after := #[{ on := 8, ground := Ground.data }, { on := 16, ground := Ground.data }], guard := none }) (v := ?vyy17) rfl (by kernel_rfl) (by kernel_rfl) (by kernel_rfl) (fun _ _ _ h => h) (Or.inl ⟨by rfl, ?hyyy17⟩) hHeld ?_
  case hyyy17 => (intro w hSw; (try dsimp only at hSw); go_simp; (try with_reducible rfl))
  try simp only [Act.put, List.setIfInBounds_toArray, List.set_cons_zero, List.set_cons_succ]
  refine wpAnyH_take (i := 18) (oi := { dst := some 6, op := Op.assign (Operand.tmp 42), type := 4, pos := "law.go:65", after := #[{ on := 17, ground := Ground.data }, { on := 14, ground := Ground.chain }, { on := 0, ground := Ground.phase }, { on := 1, ground := Ground.phase }, { on := 2, ground := Ground.phase }, { on := 3, ground := Ground.phase }, { on := 4, ground := Ground.phase }, { on := 5, ground := Ground.phase }, { on := 6, ground := Ground.phase }, { on := 7, ground := Ground.phase }, { on := 8, ground := Ground.phase }, { on := 9, ground := Ground.phase }, { on := 10, ground := Ground.phase }, { on := 11, ground := Ground.phase }, { on := 12, ground := Ground.phase }, { on := 13, ground := Ground.phase }, { on := 14, ground := Ground.phase }, { on := 15, ground := Ground.phase }, { on := 16, ground := Ground.phase }, { on := 17, ground := Ground.phase }], guard := none }) (v := ?vyy18) rfl (by kernel_rfl) (by kernel_rfl) (by kernel_rfl) (fun _ _ _ h => h) (Or.inl ⟨by rfl, ?hyyy18⟩) hHeld ?_
  case hyyy18 => (intro w hSw; (try dsimp only at hSw); go_simp; (try with_reducible rfl))
  try simp only [Act.put, List.setIfInBounds_toArray, List.set_cons_zero, List.set_cons_succ]
  refine wpAnyH_done (by kernel_rfl) ?_ _
  go_wp2_with fail
  go_ret
  exact ⟨rfl, hK4.old⟩
set_option maxHeartbeats 6400000 in
theorem apart_xn_yn (a b c d k p k' p' : Int) (x y o x' y' o' : Nat) (hx : x < 18446744073709551616) (hy : y < 18446744073709551616) (ho : o < 18446744073709551616) (hx' : x' < 18446744073709551616) (hy' : y' < 18446744073709551616) (ho' : o' < 18446744073709551616) (hsm : ¬ 30 < a) (hxr : ¬ RightA a b c d k p x y) (hyr : ¬ RightA a b c d k' p' x' y') (w : World) (hL : Laid6 w) :
    Calls Tryd.prog 5 #[.agg #[.int .i64 a, .int .i64 b, .int .i64 c, .int .i64 d], accV k p x y o, accV k' p' x' y' o'] w fun e w' => e = .returned (.bool true) ∧ Below w.heap.size w w' := by
  have hTx := Text_c a b c d k p x y o hx hy ho
  have hTy := Text_c a b c d k' p' x' y' o' hx' hy' ho'
  have hRx := Right_c a b c d k p x y o
  have hRy := Right_c a b c d k' p' x' y' o'
  rw [decide_eq_false hxr] at hRx
  rw [show textF a b c d k p x y o = [] by unfold textF; rw [if_neg hxr]] at hTx
  clear hxr
  rw [decide_eq_false hyr] at hRy
  rw [show textF a b c d k' p' x' y' o' = [] by unfold textF; rw [if_neg hyr]] at hTy
  clear hyr
  have HTx := Lib.hid hTx; have HTy := Lib.hid hTy; have HRx := Lib.hid hRx; have HRy := Lib.hid hRy
  have HL := Lib.hid hL
  clear hTx hTy hRx hRy hx hy ho hx' hy' ho'
  have hb : Below w.heap.size w (((w.alloc (.cells #[.int .i64 a, .int .i64 b, .int .i64 c, .int .i64 d] 23)).alloc (.cells #[.int .i64 k, .int .i64 p, .int .u64 x, .int .u64 y, .int .u64 o] 33)).alloc (.cells #[.int .i64 k', .int .i64 p', .int .u64 x', .int .u64 y', .int .u64 o'] 33)) := below_on (below_on (below_new _ _) _) _
  have HW := Lib.hid (awake6_c _ (hL.below hb))
  have HB := Lib.hid hb
  have H3 := Lib.hid (three_new w a b c d k p k' p' x y o x' y' o')
  clear hb hL
  go_enter Tryd.func5, Tryd.ntmps5
  go_wp2_with fail
  refine HW.out.mono ?_
  rintro e W1 ⟨rfl, hW⟩
  have HB1 := Lib.hid (belowOn HB.out hW)
  have HX1 := Lib.hid (H3.out.1.below hW)
  have HAx := Lib.hid (H3.out.2.1.below hW)
  have HAy := Lib.hid (H3.out.2.2.below hW)
  clear hW HW HB H3
  obtain ⟨x0, x1, x2, x3⟩ := HX1.out
  have hlt1 : w.heap.size + 2 < W1.heap.size := lt_of_cell HAy.out.1
  have HK : Hid (AB w (W1.alloc (.cells #[.int .i64 a, .int .i64 b, .int .i64 c, .int .i64 d] 27)) W1.heap.size a b c d k p k' p' x y o x' y' o') := Lib.hid ⟨below_on HB1.out _, BoxAt.new W1 a b c d 27, HAx.out.below (below_new _ _), HAy.out.below (below_new _ _)⟩
  obtain ⟨m0, m1, m2, m3, y0, y1, y2, y3, y4, z0, z1, z2, z3, z4⟩ := HK.out.held
  clear HAx HAy HB1 HX1
  go_wp2_with fail
  generalize W1.heap.size = M at *
  refine (HRx.out _ (HL.out.below HK.out.old).base.spans).mono ?_
  rintro e V0 ⟨rfl, hW⟩
  have HK0 := Lib.hid (HK.out.below hW)
  clear hW HK m0 m1 m2 m3 y0 y1 y2 y3 y4 z0 z1 z2 z3 z4
  obtain ⟨m0, m1, m2, m3, y0, y1, y2, y3, y4, z0, z1, z2, z3, z4⟩ := HK0.out.held
  go_wp2_with fail
  have HKd := Lib.hid HK0.out.drew
  clear m0 m1 m2 m3 y0 y1 y2 y3 y4 z0 z1 z2 z3 z4 HK0
  go_wp2_with fail
  refine wp_region_held_drew (S := (fun w' => w'.cell? ⟨M, 0, none⟩ = some (.int .i64 a) ∧ w'.cell? ⟨M, 1, none⟩ = some (.int .i64 b) ∧ w'.cell? ⟨M, 2, none⟩ = some (.int .i64 c) ∧ w'.cell? ⟨M, 3, none⟩ = some (.int .i64 d) ∧ w'.cell? ⟨w.heap.size + 1, 0, none⟩ = some (.int .i64 k) ∧ w'.cell? ⟨w.heap.size + 1, 1, none⟩ = some (.int .i64 p) ∧ w'.cell? ⟨w.heap.size + 1, 2, none⟩ = some (.int .u64 x) ∧ w'.cell? ⟨w.heap.size + 1, 3, none⟩ = some (.int .u64 y) ∧ w'.cell? ⟨w.heap.size + 1, 4, none⟩ = some (.int .u64 o) ∧ w'.cell? ⟨w.heap.size + 2, 0, none⟩ = some (.int .i64 k') ∧ w'.cell? ⟨w.heap.size + 2, 1, none⟩ = some (.int .i64 p') ∧ w'.cell? ⟨w.heap.size + 2, 2, none⟩ = some (.int .u64 x') ∧ w'.cell? ⟨w.heap.size + 2, 3, none⟩ = some (.int .u64 y') ∧ w'.cell? ⟨w.heap.size + 2, 4, none⟩ = some (.int .u64 o'))) (by kernel_rfl) ?_ (fun hHeld => ?_)
  · exact HKd.out.held
  refine wpAnyH_take (i := 0) (oi := { dst := some 25, op := Op.load 27 (Operand.tmp 7), type := 27, pos := "law.go:65", after := #[], guard := none }) (v := ?vyn0) rfl (by kernel_rfl) (by kernel_rfl) (by kernel_rfl) (fun _ _ _ h => h) (Or.inl ⟨by rfl, ?hyyn0⟩) hHeld ?_
  case hyyn0 => (intro w hSw; (try dsimp only at hSw); go_simp; (try with_reducible rfl))
  try simp only [Act.put, List.setIfInBounds_toArray, List.set_cons_zero, List.set_cons_succ]
  refine wpAnyH_take (i := 1) (oi := { dst := some 26, op := Op.load 33 (Operand.tmp 4), type := 33, pos := "law.go:65", after := #[], guard := none }) (v := ?vyn1) rfl (by kernel_rfl) (by kernel_rfl) (by kernel_rfl) (fun _ _ _ h => h) (Or.inl ⟨by rfl, ?hyyn1⟩) hHeld ?_
  case hyyn1 => (intro w hSw; (try dsimp only at hSw); go_simp; (try with_reducible rfl))
  try simp only [Act.put, List.setIfInBounds_toArray, List.set_cons_zero, List.set_cons_succ]
  refine wpAnyH_take (i := 3) (oi := { dst := some 28, op := Op.load 27 (Operand.tmp 7), type := 27, pos := "law.go:65", after := #[], guard := none }) (v := ?vyn3) rfl (by kernel_rfl) (by kernel_rfl) (by kernel_rfl) (fun _ _ _ h => h) (Or.inl ⟨by rfl, ?hyyn3⟩) hHeld ?_
  case hyyn3 => (intro w hSw; (try dsimp only at hSw); go_simp; (try with_reducible rfl))
  try simp only [Act.put, List.setIfInBounds_toArray, List.set_cons_zero, List.set_cons_succ]
  refine wpAnyH_take (i := 4) (oi := { dst := some 29, op := Op.load 33 (Operand.tmp 4), type := 33, pos := "law.go:65", after := #[], guard := none }) (v := ?vyn4) rfl (by kernel_rfl) (by kernel_rfl) (by kernel_rfl) (fun _ _ _ h => h) (Or.inl ⟨by rfl, ?hyyn4⟩) hHeld ?_
  case hyyn4 => (intro w hSw; (try dsimp only at hSw); go_simp; (try with_reducible rfl))
  try simp only [Act.put, List.setIfInBounds_toArray, List.set_cons_zero, List.set_cons_succ]
  refine wpAnyH_ready (rs := [2]) (by kernel_rfl) (by simp) ?_
  refine AllReadyH.cons (o := { dst := some 27, op := Op.call { callee := Callee.value (Operand.func 9), args := #[Operand.tmp 25, Operand.tmp 26], argTypes := #[27, 33] }, type := 4, pos := "law.go:65", after := #[{ on := 0, ground := Ground.data }, { on := 1, ground := Ground.data }], guard := none }) rfl (fun K hK => ?_) AllReadyH.nil
  go_simp
  refine (HRx.out _ (HL.out.below HKd.out.old).base.spans).mono ?_
  rintro e v1 ⟨rfl, hV⟩
  have hK1 := AB.below HKd.out hV
  clear hV hHeld
  try go_wp2_with fail
  refine hK.out _ _ ?_ (fun hHeld => ?_)
  · exact hK1.held
  clear hK K
  try simp only [Act.put, List.setIfInBounds_toArray, List.set_cons_zero, List.set_cons_succ]
  refine wpAnyH_ready (rs := [5]) (by kernel_rfl) (by simp) ?_
  refine AllReadyH.cons (o := { dst := some 30, op := Op.call { callee := Callee.value (Operand.func 8), args := #[Operand.tmp 28, Operand.tmp 29], argTypes := #[27, 33] }, type := 9, pos := "law.go:65", after := #[{ on := 3, ground := Ground.data }, { on := 4, ground := Ground.data }, { on := 2, ground := Ground.chain }], guard := none }) rfl (fun K hK => ?_) AllReadyH.nil
  go_simp
  refine (HTx.out _ (HL.out.below hK1.old)).mono ?_
  rintro e v2 ⟨rfl, hV⟩
  have hK2 := AB.below hK1 hV
  clear hV hHeld
  try go_wp2_with fail
  refine hK.out _ _ ?_ (fun hHeld => ?_)
  · exact hK2.held
  clear hK K
  try simp only [Act.put, List.setIfInBounds_toArray, List.set_cons_zero, List.set_cons_succ]
  refine wpAnyH_take (i := 6) (oi := { dst := some 31, op := Op.binOp BinOp.neq 9 (Operand.tmp 30) (Operand.const (Value.string { data := #[] })) 9, type := 4, pos := "law.go:65", after := #[{ on := 5, ground := Ground.data }], guard := none }) (v := ?vyn6) rfl (by kernel_rfl) (by kernel_rfl) (by kernel_rfl) (fun _ _ _ h => h) (Or.inl ⟨by rfl, ?hyyn6⟩) hHeld ?_
  case hyyn6 => (intro w hSw; (try dsimp only at hSw); go_simp; (try with_reducible rfl))
  try simp only [Act.put, List.setIfInBounds_toArray, List.set_cons_zero, List.set_cons_succ]
  refine wpAnyH_take (i := 7) (oi := { dst := some 32, op := Op.binOp BinOp.eql 4 (Operand.tmp 27) (Operand.tmp 31) 4, type := 4, pos := "law.go:65", after := #[{ on := 2, ground := Ground.data }, { on := 6, ground := Ground.data }], guard := none }) (v := ?vyn7) rfl (by kernel_rfl) (by kernel_rfl) (by kernel_rfl) (fun _ _ _ h => h) (Or.inl ⟨by rfl, ?hyyn7⟩) hHeld ?_
  case hyyn7 => (intro w hSw; (try dsimp only at hSw); go_simp; (try with_reducible rfl))
  try simp only [Act.put, List.setIfInBounds_toArray, List.set_cons_zero, List.set_cons_succ]
  refine wpAnyH_take (i := 8) (oi := { dst := some 33, op := Op.move (Operand.tmp 32), type := 4, pos := "law.go:65", after := #[{ on := 7, ground := Ground.data }, { on := 5, ground := Ground.chain }], guard := none }) (v := ?vyn8) rfl (by kernel_rfl) (by kernel_rfl) (by kernel_rfl) (fun _ _ _ h => h) (Or.inl ⟨by rfl, ?hyyn8⟩) hHeld ?_
  case hyyn8 => (intro w hSw; (try dsimp only at hSw); go_simp; (try with_reducible rfl))
  try simp only [Act.put, List.setIfInBounds_toArray, List.set_cons_zero, List.set_cons_succ]
  refine wpAnyH_take (i := 9) (oi := { dst := some 34, op := Op.load 27 (Operand.tmp 7), type := 27, pos := "law.go:65", after := #[{ on := 8, ground := Ground.guard }], guard := some (8, true) }) (v := ?vyn9) rfl (by kernel_rfl) (by kernel_rfl) (by kernel_rfl) (fun _ _ _ h => h) (Or.inl ⟨by rfl, ?hyyn9⟩) hHeld ?_
  case hyyn9 => (intro w hSw; (try dsimp only at hSw); go_simp; (try with_reducible rfl))
  try simp only [Act.put, List.setIfInBounds_toArray, List.set_cons_zero, List.set_cons_succ]
  refine wpAnyH_take (i := 10) (oi := { dst := some 35, op := Op.load 33 (Operand.tmp 5), type := 33, pos := "law.go:65", after := #[{ on := 8, ground := Ground.guard }], guard := some (8, true) }) (v := ?vyn10) rfl (by kernel_rfl) (by kernel_rfl) (by kernel_rfl) (fun _ _ _ h => h) (Or.inl ⟨by rfl, ?hyyn10⟩) hHeld ?_
  case hyyn10 => (intro w hSw; (try dsimp only at hSw); go_simp; (try with_reducible rfl))
  try simp only [Act.put, List.setIfInBounds_toArray, List.set_cons_zero, List.set_cons_succ]
  refine wpAnyH_take (i := 12) (oi := { dst := some 37, op := Op.load 27 (Operand.tmp 7), type := 27, pos := "law.go:65", after := #[{ on := 8, ground := Ground.guard }], guard := some (8, true) }) (v := ?vyn12) rfl (by kernel_rfl) (by kernel_rfl) (by kernel_rfl) (fun _ _ _ h => h) (Or.inl ⟨by rfl, ?hyyn12⟩) hHeld ?_
  case hyyn12 => (intro w hSw; (try dsimp only at hSw); go_simp; (try with_reducible rfl))
  try simp only [Act.put, List.setIfInBounds_toArray, List.set_cons_zero, List.set_cons_succ]
  refine wpAnyH_take (i := 13) (oi := { dst := some 38, op := Op.load 33 (Operand.tmp 5), type := 33, pos := "law.go:65", after := #[{ on := 8, ground := Ground.guard }], guard := some (8, true) }) (v := ?vyn13) rfl (by kernel_rfl) (by kernel_rfl) (by kernel_rfl) (fun _ _ _ h => h) (Or.inl ⟨by rfl, ?hyyn13⟩) hHeld ?_
  case hyyn13 => (intro w hSw; (try dsimp only at hSw); go_simp; (try with_reducible rfl))
  try simp only [Act.put, List.setIfInBounds_toArray, List.set_cons_zero, List.set_cons_succ]
  refine wpAnyH_ready (rs := [11]) (by kernel_rfl) (by simp) ?_
  refine AllReadyH.cons (o := { dst := some 36, op := Op.call { callee := Callee.value (Operand.func 9), args := #[Operand.tmp 34, Operand.tmp 35], argTypes := #[27, 33] }, type := 4, pos := "law.go:65", after := #[{ on := 9, ground := Ground.data }, { on := 10, ground := Ground.data }, { on := 8, ground := Ground.chain }, { on := 8, ground := Ground.guard }], guard := some (8, true) }) rfl (fun K hK => ?_) AllReadyH.nil
  go_simp
  refine (HRy.out _ (HL.out.below hK2.old).base.spans).mono ?_
  rintro e v3 ⟨rfl, hV⟩
  have hK3 := AB.below hK2 hV
  clear hV hHeld
  try go_wp2_with fail
  refine hK.out _ _ ?_ (fun hHeld => ?_)
  · exact hK3.held
  clear hK K
  try simp only [Act.put, List.setIfInBounds_toArray, List.set_cons_zero, List.set_cons_succ]
  refine wpAnyH_ready (rs := [14]) (by kernel_rfl) (by simp) ?_
  refine AllReadyH.cons (o := { dst := some 39, op := Op.call { callee := Callee.value (Operand.func 8), args := #[Operand.tmp 37, Operand.tmp 38], argTypes := #[27, 33] }, type := 9, pos := "law.go:65", after := #[{ on := 12, ground := Ground.data }, { on := 13, ground := Ground.data }, { on := 11, ground := Ground.chain }, { on := 8, ground := Ground.guard }], guard := some (8, true) }) rfl (fun K hK => ?_) AllReadyH.nil
  go_simp
  refine (HTy.out _ (HL.out.below hK3.old)).mono ?_
  rintro e v4 ⟨rfl, hV⟩
  have hK4 := AB.below hK3 hV
  clear hV hHeld
  try go_wp2_with fail
  refine hK.out _ _ ?_ (fun hHeld => ?_)
  · exact hK4.held
  clear hK K
  try simp only [Act.put, List.setIfInBounds_toArray, List.set_cons_zero, List.set_cons_succ]
  refine wpAnyH_take (i := 15) (oi := { dst := some 40, op := Op.binOp BinOp.neq 9 (Operand.tmp 39) (Operand.const (Value.string { data := #[] })) 9, type := 4, pos := "law.go:65", after := #[{ on := 14, ground := Ground.data }, { on := 8, ground := Ground.guard }], guard := some (8, true) }) (v := ?vyn15) rfl (by kernel_rfl) (by kernel_rfl) (by kernel_rfl) (fun _ _ _ h => h) (Or.inl ⟨by rfl, ?hyyn15⟩) hHeld ?_
  case hyyn15 => (intro w hSw; (try dsimp only at hSw); go_simp; (try with_reducible rfl))
  try simp only [Act.put, List.setIfInBounds_toArray, List.set_cons_zero, List.set_cons_succ]
  refine wpAnyH_take (i := 16) (oi := { dst := some 41, op := Op.binOp BinOp.eql 4 (Operand.tmp 36) (Operand.tmp 40) 4, type := 4, pos := "law.go:65", after := #[{ on := 11, ground := Ground.data }, { on := 15, ground := Ground.data }, { on := 8, ground := Ground.guard }], guard := some (8, true) }) (v := ?vyn16) rfl (by kernel_rfl) (by kernel_rfl) (by kernel_rfl) (fun _ _ _ h => h) (Or.inl ⟨by rfl, ?hyyn16⟩) hHeld ?_
  case hyyn16 => (intro w hSw; (try dsimp only at hSw); go_simp; (try with_reducible rfl))
  try simp only [Act.put, List.setIfInBounds_toArray, List.set_cons_zero, List.set_cons_succ]
  refine wpAnyH_take (i := 17) (oi := { dst := some 42, op := Op.pick (Operand.tmp 33) (Operand.tmp 41) (Operand.const (Value.bool false)), type := 4, pos := "law.go:65", after := #[{ on := 8, ground := Ground.data }, { on := 16, ground := Ground.data }], guard := none }) (v := ?vyn17) rfl (by kernel_rfl) (by kernel_rfl) (by kernel_rfl) (fun _ _ _ h => h) (Or.inl ⟨by rfl, ?hyyn17⟩) hHeld ?_
  case hyyn17 => (intro w hSw; (try dsimp only at hSw); go_simp; (try with_reducible rfl))
  try simp only [Act.put, List.setIfInBounds_toArray, List.set_cons_zero, List.set_cons_succ]
  refine wpAnyH_take (i := 18) (oi := { dst := some 6, op := Op.assign (Operand.tmp 42), type := 4, pos := "law.go:65", after := #[{ on := 17, ground := Ground.data }, { on := 14, ground := Ground.chain }, { on := 0, ground := Ground.phase }, { on := 1, ground := Ground.phase }, { on := 2, ground := Ground.phase }, { on := 3, ground := Ground.phase }, { on := 4, ground := Ground.phase }, { on := 5, ground := Ground.phase }, { on := 6, ground := Ground.phase }, { on := 7, ground := Ground.phase }, { on := 8, ground := Ground.phase }, { on := 9, ground := Ground.phase }, { on := 10, ground := Ground.phase }, { on := 11, ground := Ground.phase }, { on := 12, ground := Ground.phase }, { on := 13, ground := Ground.phase }, { on := 14, ground := Ground.phase }, { on := 15, ground := Ground.phase }, { on := 16, ground := Ground.phase }, { on := 17, ground := Ground.phase }], guard := none }) (v := ?vyn18) rfl (by kernel_rfl) (by kernel_rfl) (by kernel_rfl) (fun _ _ _ h => h) (Or.inl ⟨by rfl, ?hyyn18⟩) hHeld ?_
  case hyyn18 => (intro w hSw; (try dsimp only at hSw); go_simp; (try with_reducible rfl))
  try simp only [Act.put, List.setIfInBounds_toArray, List.set_cons_zero, List.set_cons_succ]
  refine wpAnyH_done (by kernel_rfl) ?_ _
  go_wp2_with fail
  go_ret
  exact ⟨rfl, hK4.old⟩
set_option maxHeartbeats 6400000 in
theorem apart_xy_yn (a b c d k p k' p' : Int) (x y o x' y' o' : Nat) (hx : x < 18446744073709551616) (hy : y < 18446744073709551616) (ho : o < 18446744073709551616) (hx' : x' < 18446744073709551616) (hy' : y' < 18446744073709551616) (ho' : o' < 18446744073709551616) (hsm : ¬ 30 < a) (hxr : RightA a b c d k p x y) (hyr : ¬ RightA a b c d k' p' x' y') (w : World) (hL : Laid6 w) :
    Calls Tryd.prog 5 #[.agg #[.int .i64 a, .int .i64 b, .int .i64 c, .int .i64 d], accV k p x y o, accV k' p' x' y' o'] w fun e w' => e = .returned (.bool true) ∧ Below w.heap.size w w' := by
  have hTx := Text_c a b c d k p x y o hx hy ho
  have hTy := Text_c a b c d k' p' x' y' o' hx' hy' ho'
  have hRx := Right_c a b c d k p x y o
  have hRy := Right_c a b c d k' p' x' y' o'
  rw [decide_eq_true hxr] at hRx
  obtain ⟨tx, htx⟩ : ∃ t, textF a b c d k p x y o = t := ⟨_, rfl⟩
  have hnx : tx ≠ [] := by rw [← htx]; unfold textF; rw [if_pos hxr]; exact accT_ne _ _ _ _ _ _ _ _
  rw [htx] at hTx
  have qx : (tx == []) = false := by simpa using hnx
  have px : (tx != []) = true := by simpa using hnx
  clear htx hnx hxr
  rw [decide_eq_false hyr] at hRy
  rw [show textF a b c d k' p' x' y' o' = [] by unfold textF; rw [if_neg hyr]] at hTy
  clear hyr
  have HTx := Lib.hid hTx; have HTy := Lib.hid hTy; have HRx := Lib.hid hRx; have HRy := Lib.hid hRy
  have HL := Lib.hid hL
  clear hTx hTy hRx hRy hx hy ho hx' hy' ho'
  have hb : Below w.heap.size w (((w.alloc (.cells #[.int .i64 a, .int .i64 b, .int .i64 c, .int .i64 d] 23)).alloc (.cells #[.int .i64 k, .int .i64 p, .int .u64 x, .int .u64 y, .int .u64 o] 33)).alloc (.cells #[.int .i64 k', .int .i64 p', .int .u64 x', .int .u64 y', .int .u64 o'] 33)) := below_on (below_on (below_new _ _) _) _
  have HW := Lib.hid (awake6_c _ (hL.below hb))
  have HB := Lib.hid hb
  have H3 := Lib.hid (three_new w a b c d k p k' p' x y o x' y' o')
  clear hb hL
  go_enter Tryd.func5, Tryd.ntmps5
  go_wp2_with fail
  refine HW.out.mono ?_
  rintro e W1 ⟨rfl, hW⟩
  have HB1 := Lib.hid (belowOn HB.out hW)
  have HX1 := Lib.hid (H3.out.1.below hW)
  have HAx := Lib.hid (H3.out.2.1.below hW)
  have HAy := Lib.hid (H3.out.2.2.below hW)
  clear hW HW HB H3
  obtain ⟨x0, x1, x2, x3⟩ := HX1.out
  have hlt1 : w.heap.size + 2 < W1.heap.size := lt_of_cell HAy.out.1
  have HK : Hid (AB w (W1.alloc (.cells #[.int .i64 a, .int .i64 b, .int .i64 c, .int .i64 d] 27)) W1.heap.size a b c d k p k' p' x y o x' y' o') := Lib.hid ⟨below_on HB1.out _, BoxAt.new W1 a b c d 27, HAx.out.below (below_new _ _), HAy.out.below (below_new _ _)⟩
  obtain ⟨m0, m1, m2, m3, y0, y1, y2, y3, y4, z0, z1, z2, z3, z4⟩ := HK.out.held
  clear HAx HAy HB1 HX1
  go_wp2_with fail
  generalize W1.heap.size = M at *
  refine (HRx.out _ (HL.out.below HK.out.old).base.spans).mono ?_
  rintro e V0 ⟨rfl, hW⟩
  have HK0 := Lib.hid (HK.out.below hW)
  clear hW HK m0 m1 m2 m3 y0 y1 y2 y3 y4 z0 z1 z2 z3 z4
  obtain ⟨m0, m1, m2, m3, y0, y1, y2, y3, y4, z0, z1, z2, z3, z4⟩ := HK0.out.held
  go_wp2_with fail
  refine (HRy.out _ (HL.out.below HK0.out.old).base.spans).mono ?_
  rintro e V2 ⟨rfl, hW⟩
  have HK2 := Lib.hid (HK0.out.below hW)
  clear hW HK0 m0 m1 m2 m3 y0 y1 y2 y3 y4 z0 z1 z2 z3 z4
  obtain ⟨m0, m1, m2, m3, y0, y1, y2, y3, y4, z0, z1, z2, z3, z4⟩ := HK2.out.held
  go_wp2_with fail
  have HKd := Lib.hid HK2.out.drew
  clear m0 m1 m2 m3 y0 y1 y2 y3 y4 z0 z1 z2 z3 z4 HK2
  go_wp2_with fail
  refine wp_region_held_drew (S := (fun w' => w'.cell? ⟨M, 0, none⟩ = some (.int .i64 a) ∧ w'.cell? ⟨M, 1, none⟩ = some (.int .i64 b) ∧ w'.cell? ⟨M, 2, none⟩ = some (.int .i64 c) ∧ w'.cell? ⟨M, 3, none⟩ = some (.int .i64 d) ∧ w'.cell? ⟨w.heap.size + 1, 0, none⟩ = some (.int .i64 k) ∧ w'.cell? ⟨w.heap.size + 1, 1, none⟩ = some (.int .i64 p) ∧ w'.cell? ⟨w.heap.size + 1, 2, none⟩ = some (.int .u64 x) ∧ w'.cell? ⟨w.heap.size + 1, 3, none⟩ = some (.int .u64 y) ∧ w'.cell? ⟨w.heap.size + 1, 4, none⟩ = some (.int .u64 o) ∧ w'.cell? ⟨w.heap.size + 2, 0, none⟩ = some (.int .i64 k') ∧ w'.cell? ⟨w.heap.size + 2, 1, none⟩ = some (.int .i64 p') ∧ w'.cell? ⟨w.heap.size + 2, 2, none⟩ = some (.int .u64 x') ∧ w'.cell? ⟨w.heap.size + 2, 3, none⟩ = some (.int .u64 y') ∧ w'.cell? ⟨w.heap.size + 2, 4, none⟩ = some (.int .u64 o'))) (by kernel_rfl) ?_ (fun hHeld => ?_)
  · exact HKd.out.held
  refine wpAnyH_take (i := 0) (oi := { dst := some 25, op := Op.load 27 (Operand.tmp 7), type := 27, pos := "law.go:65", after := #[], guard := none }) (v := ?vzz0) rfl (by kernel_rfl) (by kernel_rfl) (by kernel_rfl) (fun _ _ _ h => h) (Or.inl ⟨by rfl, ?hyzz0⟩) hHeld ?_
  case hyzz0 => (intro w hSw; (try dsimp only at hSw); go_simp; (try with_reducible rfl))
  try simp only [Act.put, List.setIfInBounds_toArray, List.set_cons_zero, List.set_cons_succ]
  refine wpAnyH_take (i := 1) (oi := { dst := some 26, op := Op.load 33 (Operand.tmp 4), type := 33, pos := "law.go:65", after := #[], guard := none }) (v := ?vzz1) rfl (by kernel_rfl) (by kernel_rfl) (by kernel_rfl) (fun _ _ _ h => h) (Or.inl ⟨by rfl, ?hyzz1⟩) hHeld ?_
  case hyzz1 => (intro w hSw; (try dsimp only at hSw); go_simp; (try with_reducible rfl))
  try simp only [Act.put, List.setIfInBounds_toArray, List.set_cons_zero, List.set_cons_succ]
  refine wpAnyH_take (i := 3) (oi := { dst := some 28, op := Op.load 27 (Operand.tmp 7), type := 27, pos := "law.go:65", after := #[], guard := none }) (v := ?vzz3) rfl (by kernel_rfl) (by kernel_rfl) (by kernel_rfl) (fun _ _ _ h => h) (Or.inl ⟨by rfl, ?hyzz3⟩) hHeld ?_
  case hyzz3 => (intro w hSw; (try dsimp only at hSw); go_simp; (try with_reducible rfl))
  try simp only [Act.put, List.setIfInBounds_toArray, List.set_cons_zero, List.set_cons_succ]
  refine wpAnyH_take (i := 4) (oi := { dst := some 29, op := Op.load 33 (Operand.tmp 4), type := 33, pos := "law.go:65", after := #[], guard := none }) (v := ?vzz4) rfl (by kernel_rfl) (by kernel_rfl) (by kernel_rfl) (fun _ _ _ h => h) (Or.inl ⟨by rfl, ?hyzz4⟩) hHeld ?_
  case hyzz4 => (intro w hSw; (try dsimp only at hSw); go_simp; (try with_reducible rfl))
  try simp only [Act.put, List.setIfInBounds_toArray, List.set_cons_zero, List.set_cons_succ]
  refine wpAnyH_ready (rs := [2]) (by kernel_rfl) (by simp) ?_
  refine AllReadyH.cons (o := { dst := some 27, op := Op.call { callee := Callee.value (Operand.func 9), args := #[Operand.tmp 25, Operand.tmp 26], argTypes := #[27, 33] }, type := 4, pos := "law.go:65", after := #[{ on := 0, ground := Ground.data }, { on := 1, ground := Ground.data }], guard := none }) rfl (fun K hK => ?_) AllReadyH.nil
  go_simp
  refine (HRx.out _ (HL.out.below HKd.out.old).base.spans).mono ?_
  rintro e v1 ⟨rfl, hV⟩
  have hK1 := AB.below HKd.out hV
  clear hV hHeld
  try go_wp2_with fail
  refine hK.out _ _ ?_ (fun hHeld => ?_)
  · exact hK1.held
  clear hK K
  try simp only [Act.put, List.setIfInBounds_toArray, List.set_cons_zero, List.set_cons_succ]
  refine wpAnyH_ready (rs := [5]) (by kernel_rfl) (by simp) ?_
  refine AllReadyH.cons (o := { dst := some 30, op := Op.call { callee := Callee.value (Operand.func 8), args := #[Operand.tmp 28, Operand.tmp 29], argTypes := #[27, 33] }, type := 9, pos := "law.go:65", after := #[{ on := 3, ground := Ground.data }, { on := 4, ground := Ground.data }, { on := 2, ground := Ground.chain }], guard := none }) rfl (fun K hK => ?_) AllReadyH.nil
  go_simp
  refine (HTx.out _ (HL.out.below hK1.old)).mono ?_
  rintro e v2 ⟨rfl, hV⟩
  have hK2 := AB.below hK1 hV
  clear hV hHeld
  try go_wp2_with fail
  refine hK.out _ _ ?_ (fun hHeld => ?_)
  · exact hK2.held
  clear hK K
  try simp only [Act.put, List.setIfInBounds_toArray, List.set_cons_zero, List.set_cons_succ]
  refine wpAnyH_take (i := 6) (oi := { dst := some 31, op := Op.binOp BinOp.neq 9 (Operand.tmp 30) (Operand.const (Value.string { data := #[] })) 9, type := 4, pos := "law.go:65", after := #[{ on := 5, ground := Ground.data }], guard := none }) (v := ?vzz6) rfl (by kernel_rfl) (by kernel_rfl) (by kernel_rfl) (fun _ _ _ h => h) (Or.inl ⟨by rfl, ?hyzz6⟩) hHeld ?_
  case hyzz6 => (intro w hSw; (try dsimp only at hSw); go_simp; (try with_reducible rfl))
  try simp only [Act.put, List.setIfInBounds_toArray, List.set_cons_zero, List.set_cons_succ]
  refine wpAnyH_take (i := 7) (oi := { dst := some 32, op := Op.binOp BinOp.eql 4 (Operand.tmp 27) (Operand.tmp 31) 4, type := 4, pos := "law.go:65", after := #[{ on := 2, ground := Ground.data }, { on := 6, ground := Ground.data }], guard := none }) (v := ?vzz7) rfl (by kernel_rfl) (by kernel_rfl) (by kernel_rfl) (fun _ _ _ h => h) (Or.inl ⟨by rfl, ?hyzz7⟩) hHeld ?_
  case hyzz7 => (intro w hSw; (try dsimp only at hSw); go_simp; (try with_reducible rfl))
  try simp only [Act.put, List.setIfInBounds_toArray, List.set_cons_zero, List.set_cons_succ]
  refine wpAnyH_take (i := 8) (oi := { dst := some 33, op := Op.move (Operand.tmp 32), type := 4, pos := "law.go:65", after := #[{ on := 7, ground := Ground.data }, { on := 5, ground := Ground.chain }], guard := none }) (v := ?vzz8) rfl (by kernel_rfl) (by kernel_rfl) (by kernel_rfl) (fun _ _ _ h => h) (Or.inl ⟨by rfl, ?hyzz8⟩) hHeld ?_
  case hyzz8 => (intro w hSw; (try dsimp only at hSw); go_simp; (try with_reducible rfl))
  try simp only [Act.put, List.setIfInBounds_toArray, List.set_cons_zero, List.set_cons_succ]
  refine wpAnyH_take (i := 9) (oi := { dst := some 34, op := Op.load 27 (Operand.tmp 7), type := 27, pos := "law.go:65", after := #[{ on := 8, ground := Ground.guard }], guard := some (8, true) }) (v := ?vzz9) rfl (by kernel_rfl) (by kernel_rfl) (by kernel_rfl) (fun _ _ _ h => h) (Or.inl ⟨by rfl, ?hyzz9⟩) hHeld ?_
  case hyzz9 => (intro w hSw; (try dsimp only at hSw); go_simp; (try with_reducible rfl))
  try simp only [Act.put, List.setIfInBounds_toArray, List.set_cons_zero, List.set_cons_succ]
  refine wpAnyH_take (i := 10) (oi := { dst := some 35, op := Op.load 33 (Operand.tmp 5), type := 33, pos := "law.go:65", after := #[{ on := 8, ground := Ground.guard }], guard := some (8, true) }) (v := ?vzz10) rfl (by kernel_rfl) (by kernel_rfl) (by kernel_rfl) (fun _ _ _ h => h) (Or.inl ⟨by rfl, ?hyzz10⟩) hHeld ?_
  case hyzz10 => (intro w hSw; (try dsimp only at hSw); go_simp; (try with_reducible rfl))
  try simp only [Act.put, List.setIfInBounds_toArray, List.set_cons_zero, List.set_cons_succ]
  refine wpAnyH_take (i := 12) (oi := { dst := some 37, op := Op.load 27 (Operand.tmp 7), type := 27, pos := "law.go:65", after := #[{ on := 8, ground := Ground.guard }], guard := some (8, true) }) (v := ?vzz12) rfl (by kernel_rfl) (by kernel_rfl) (by kernel_rfl) (fun _ _ _ h => h) (Or.inl ⟨by rfl, ?hyzz12⟩) hHeld ?_
  case hyzz12 => (intro w hSw; (try dsimp only at hSw); go_simp; (try with_reducible rfl))
  try simp only [Act.put, List.setIfInBounds_toArray, List.set_cons_zero, List.set_cons_succ]
  refine wpAnyH_take (i := 13) (oi := { dst := some 38, op := Op.load 33 (Operand.tmp 5), type := 33, pos := "law.go:65", after := #[{ on := 8, ground := Ground.guard }], guard := some (8, true) }) (v := ?vzz13) rfl (by kernel_rfl) (by kernel_rfl) (by kernel_rfl) (fun _ _ _ h => h) (Or.inl ⟨by rfl, ?hyzz13⟩) hHeld ?_
  case hyzz13 => (intro w hSw; (try dsimp only at hSw); go_simp; (try with_reducible rfl))
  try simp only [Act.put, List.setIfInBounds_toArray, List.set_cons_zero, List.set_cons_succ]
  refine wpAnyH_ready (rs := [11]) (by kernel_rfl) (by simp) ?_
  refine AllReadyH.cons (o := { dst := some 36, op := Op.call { callee := Callee.value (Operand.func 9), args := #[Operand.tmp 34, Operand.tmp 35], argTypes := #[27, 33] }, type := 4, pos := "law.go:65", after := #[{ on := 9, ground := Ground.data }, { on := 10, ground := Ground.data }, { on := 8, ground := Ground.chain }, { on := 8, ground := Ground.guard }], guard := some (8, true) }) rfl (fun K hK => ?_) AllReadyH.nil
  go_simp
  refine (HRy.out _ (HL.out.below hK2.old).base.spans).mono ?_
  rintro e v3 ⟨rfl, hV⟩
  have hK3 := AB.below hK2 hV
  clear hV hHeld
  try go_wp2_with fail
  refine hK.out _ _ ?_ (fun hHeld => ?_)
  · exact hK3.held
  clear hK K
  try simp only [Act.put, List.setIfInBounds_toArray, List.set_cons_zero, List.set_cons_succ]
  refine wpAnyH_ready (rs := [14]) (by kernel_rfl) (by simp) ?_
  refine AllReadyH.cons (o := { dst := some 39, op := Op.call { callee := Callee.value (Operand.func 8), args := #[Operand.tmp 37, Operand.tmp 38], argTypes := #[27, 33] }, type := 9, pos := "law.go:65", after := #[{ on := 12, ground := Ground.data }, { on := 13, ground := Ground.data }, { on := 11, ground := Ground.chain }, { on := 8, ground := Ground.guard }], guard := some (8, true) }) rfl (fun K hK => ?_) AllReadyH.nil
  go_simp
  refine (HTy.out _ (HL.out.below hK3.old)).mono ?_
  rintro e v4 ⟨rfl, hV⟩
  have hK4 := AB.below hK3 hV
  clear hV hHeld
  try go_wp2_with fail
  refine hK.out _ _ ?_ (fun hHeld => ?_)
  · exact hK4.held
  clear hK K
  try simp only [Act.put, List.setIfInBounds_toArray, List.set_cons_zero, List.set_cons_succ]
  refine wpAnyH_take (i := 15) (oi := { dst := some 40, op := Op.binOp BinOp.neq 9 (Operand.tmp 39) (Operand.const (Value.string { data := #[] })) 9, type := 4, pos := "law.go:65", after := #[{ on := 14, ground := Ground.data }, { on := 8, ground := Ground.guard }], guard := some (8, true) }) (v := ?vzz15) rfl (by kernel_rfl) (by kernel_rfl) (by kernel_rfl) (fun _ _ _ h => h) (Or.inl ⟨by rfl, ?hyzz15⟩) hHeld ?_
  case hyzz15 => (intro w hSw; (try dsimp only at hSw); go_simp; (try with_reducible rfl))
  try simp only [Act.put, List.setIfInBounds_toArray, List.set_cons_zero, List.set_cons_succ]
  refine wpAnyH_take (i := 16) (oi := { dst := some 41, op := Op.binOp BinOp.eql 4 (Operand.tmp 36) (Operand.tmp 40) 4, type := 4, pos := "law.go:65", after := #[{ on := 11, ground := Ground.data }, { on := 15, ground := Ground.data }, { on := 8, ground := Ground.guard }], guard := some (8, true) }) (v := ?vzz16) rfl (by kernel_rfl) (by kernel_rfl) (by kernel_rfl) (fun _ _ _ h => h) (Or.inl ⟨by rfl, ?hyzz16⟩) hHeld ?_
  case hyzz16 => (intro w hSw; (try dsimp only at hSw); go_simp; (try with_reducible rfl))
  try simp only [Act.put, List.setIfInBounds_toArray, List.set_cons_zero, List.set_cons_succ]
  refine wpAnyH_take (i := 17) (oi := { dst := some 42, op := Op.pick (Operand.tmp 33) (Operand.tmp 41) (Operand.const (Value.bool false)), type := 4, pos := "law.go:65", after := #[{ on := 8, ground := Ground.data }, { on := 16, ground := Ground.data }], guard := none }) (v := ?vzz17) rfl (by kernel_rfl) (by kernel_rfl) (by kernel_rfl) (fun _ _ _ h => h) (Or.inl ⟨by rfl, ?hyzz17⟩) hHeld ?_
  case hyzz17 => (intro w hSw; (try dsimp only at hSw); go_simp; (try with_reducible rfl))
  try simp only [Act.put, List.setIfInBounds_toArray, List.set_cons_zero, List.set_cons_succ]
  refine wpAnyH_take (i := 18) (oi := { dst := some 6, op := Op.assign (Operand.tmp 42), type := 4, pos := "law.go:65", after := #[{ on := 17, ground := Ground.data }, { on := 14, ground := Ground.chain }, { on := 0, ground := Ground.phase }, { on := 1, ground := Ground.phase }, { on := 2, ground := Ground.phase }, { on := 3, ground := Ground.phase }, { on := 4, ground := Ground.phase }, { on := 5, ground := Ground.phase }, { on := 6, ground := Ground.phase }, { on := 7, ground := Ground.phase }, { on := 8, ground := Ground.phase }, { on := 9, ground := Ground.phase }, { on := 10, ground := Ground.phase }, { on := 11, ground := Ground.phase }, { on := 12, ground := Ground.phase }, { on := 13, ground := Ground.phase }, { on := 14, ground := Ground.phase }, { on := 15, ground := Ground.phase }, { on := 16, ground := Ground.phase }, { on := 17, ground := Ground.phase }], guard := none }) (v := ?vzz18) rfl (by kernel_rfl) (by kernel_rfl) (by kernel_rfl) (fun _ _ _ h => h) (Or.inl ⟨by rfl, ?hyzz18⟩) hHeld ?_
  case hyzz18 => (intro w hSw; (try dsimp only at hSw); go_simp; (try with_reducible rfl))
  try simp only [Act.put, List.setIfInBounds_toArray, List.set_cons_zero, List.set_cons_succ]
  refine wpAnyH_done (by kernel_rfl) ?_ _
  go_wp2_with fail
  go_ret
  exact ⟨rfl, hK4.old⟩
theorem if5 (k k' p p' x x' y y' o o' : Int) (r : Bool) (hr : r = true ↔ (k = k' ∧ p = p' ∧ x = x' ∧ y = y' ∧ o = o')) (w : World) :
    (if k = k' then if p = p' then if x = x' then if y = y' then if o = o' then Result.ok (Next.value (Value.bool true)) w else Result.ok (Next.value (Value.bool false)) w else Result.ok (Next.value (Value.bool false)) w else Result.ok (Next.value (Value.bool false)) w else Result.ok (Next.value (Value.bool false)) w else Result.ok (Next.value (Value.bool false)) w) = Result.ok (Next.value (Value.bool r)) w := by
  cases r with
  | true =>
    obtain ⟨h1, h2, h3, h4, h5⟩ := hr.1 rfl
    rw [if_pos h1, if_pos h2, if_pos h3, if_pos h4, if_pos h5]
  | false =>
    by_cases h1 : k = k'
    · by_cases h2 : p = p'
      · by_cases h3 : x = x'
        · by_cases h4 : y = y'
          · by_cases h5 : o = o'
            · exact absurd (hr.2 ⟨h1, h2, h3, h4, h5⟩) (by decide)
            · rw [if_pos h1, if_pos h2, if_pos h3, if_pos h4, if_neg h5]
          · rw [if_pos h1, if_pos h2, if_pos h3, if_neg h4]
        · rw [if_pos h1, if_pos h2, if_neg h3]
      · rw [if_pos h1, if_neg h2]
    · rw [if_neg h1]
set_option maxHeartbeats 6400000 in
theorem apart_both (a b c d k p k' p' : Int) (x y o x' y' o' : Nat) (hx : x < 18446744073709551616) (hy : y < 18446744073709551616) (ho : o < 18446744073709551616) (hx' : x' < 18446744073709551616) (hy' : y' < 18446744073709551616) (ho' : o' < 18446744073709551616) (hsm : ¬ 30 < a) (hxr : RightA a b c d k p x y) (hyr : RightA a b c d k' p' x' y') (w : World) (hL : Laid6 w) :
    Calls Tryd.prog 5 #[.agg #[.int .i64 a, .int .i64 b, .int .i64 c, .int .i64 d], accV k p x y o, accV k' p' x' y' o'] w fun e w' => e = .returned (.bool true) ∧ Below w.heap.size w w' := by
  have hTx := Text_c a b c d k p x y o hx hy ho
  have hTy := Text_c a b c d k' p' x' y' o' hx' hy' ho'
  have hRx := Right_c a b c d k p x y o
  have hRy := Right_c a b c d k' p' x' y' o'
  rw [decide_eq_true hxr] at hRx
  rw [decide_eq_true hyr] at hRy
  rw [show textF a b c d k p x y o = accT b c d k p x y o by unfold textF; rw [if_pos hxr]] at hTx
  rw [show textF a b c d k' p' x' y' o' = accT b c d k' p' x' y' o' by unfold textF; rw [if_pos hyr]] at hTy
  obtain ⟨r, hst, HE⟩ : ∃ r : Bool, (accT b c d k p x y o == accT b c d k' p' x' y' o') = r ∧ Hid (r = true ↔ (k = k' ∧ p = p' ∧ (x : Int) = x' ∧ (y : Int) = y' ∧ (o : Int) = o')) := by
    refine ⟨_, rfl, Lib.hid ?_⟩
    rw [beq_iff_eq]
    constructor
    · intro e
      obtain ⟨e1, e2, e3, e4, e5⟩ := accT_inj hxr hyr hx hy ho hx' hy' ho' e
      exact ⟨e1, e2, by omega, by omega, by omega⟩
    · rintro ⟨rfl, rfl, e3, e4, e5⟩
      obtain rfl : x = x' := by omega
      obtain rfl : y = y' := by omega
      obtain rfl : o = o' := by omega
      rfl
  generalize accT b c d k p x y o = tx at *
  generalize accT b c d k' p' x' y' o' = ty at *
  clear hxr hyr
  have HTx := Lib.hid hTx; have HTy := Lib.hid hTy; have HRx := Lib.hid hRx; have HRy := Lib.hid hRy
  have HL := Lib.hid hL
  clear hTx hTy hRx hRy hx hy ho hx' hy' ho'
  have hb : Below w.heap.size w (((w.alloc (.cells #[.int .i64 a, .int .i64 b, .int .i64 c, .int .i64 d] 23)).alloc (.cells #[.int .i64 k, .int .i64 p, .int .u64 x, .int .u64 y, .int .u64 o] 33)).alloc (.cells #[.int .i64 k', .int .i64 p', .int .u64 x', .int .u64 y', .int .u64 o'] 33)) := below_on (below_on (below_new _ _) _) _
  have HW := Lib.hid (awake6_c _ (hL.below hb))
  have HB := Lib.hid hb
  have H3 := Lib.hid (three_new w a b c d k p k' p' x y o x' y' o')
  clear hb hL
  go_enter Tryd.func5, Tryd.ntmps5
  go_wp2_with fail
  refine HW.out.mono ?_
  rintro e W1 ⟨rfl, hW⟩
  have HB1 := Lib.hid (belowOn HB.out hW)
  have HX1 := Lib.hid (H3.out.1.below hW)
  have HAx := Lib.hid (H3.out.2.1.below hW)
  have HAy := Lib.hid (H3.out.2.2.below hW)
  clear hW HW HB H3
  obtain ⟨x0, x1, x2, x3⟩ := HX1.out
  have hlt1 : w.heap.size + 2 < W1.heap.size := lt_of_cell HAy.out.1
  have HK : Hid (AB w (W1.alloc (.cells #[.int .i64 a, .int .i64 b, .int .i64 c, .int .i64 d] 27)) W1.heap.size a b c d k p k' p' x y o x' y' o') := Lib.hid ⟨below_on HB1.out _, BoxAt.new W1 a b c d 27, HAx.out.below (below_new _ _), HAy.out.below (below_new _ _)⟩
  obtain ⟨m0, m1, m2, m3, y0, y1, y2, y3, y4, z0, z1, z2, z3, z4⟩ := HK.out.held
  clear HAx HAy HB1 HX1
  go_wp2_with fail
  generalize W1.heap.size = M at *
  refine (HRx.out _ (HL.out.below HK.out.old).base.spans).mono ?_
  rintro e V0 ⟨rfl, hW⟩
  have HK0 := Lib.hid (HK.out.below hW)
  clear hW HK m0 m1 m2 m3 y0 y1 y2 y3 y4 z0 z1 z2 z3 z4
  obtain ⟨m0, m1, m2, m3, y0, y1, y2, y3, y4, z0, z1, z2, z3, z4⟩ := HK0.out.held
  go_wp2_with fail
  refine (HRy.out _ (HL.out.below HK0.out.old).base.spans).mono ?_
  rintro e V2 ⟨rfl, hW⟩
  have HK2 := Lib.hid (HK0.out.below hW)
  clear hW HK0 m0 m1 m2 m3 y0 y1 y2 y3 y4 z0 z1 z2 z3 z4
  obtain ⟨m0, m1, m2, m3, y0, y1, y2, y3, y4, z0, z1, z2, z3, z4⟩ := HK2.out.held
  go_wp2_with fail
  have HKd := Lib.hid HK2.out.drew
  clear m0 m1 m2 m3 y0 y1 y2 y3 y4 z0 z1 z2 z3 z4 HK2
  refine wp_region_held_drew (S := (fun w' => w'.cell? ⟨M, 0, none⟩ = some (.int .i64 a) ∧ w'.cell? ⟨M, 1, none⟩ = some (.int .i64 b) ∧ w'.cell? ⟨M, 2, none⟩ = some (.int .i64 c) ∧ w'.cell? ⟨M, 3, none⟩ = some (.int .i64 d) ∧ w'.cell? ⟨w.heap.size + 1, 0, none⟩ = some (.int .i64 k) ∧ w'.cell? ⟨w.heap.size + 1, 1, none⟩ = some (.int .i64 p) ∧ w'.cell? ⟨w.heap.size + 1, 2, none⟩ = some (.int .u64 x) ∧ w'.cell? ⟨w.heap.size + 1, 3, none⟩ = some (.int .u64 y) ∧ w'.cell? ⟨w.heap.size + 1, 4, none⟩ = some (.int .u64 o) ∧ w'.cell? ⟨w.heap.size + 2, 0, none⟩ = some (.int .i64 k') ∧ w'.cell? ⟨w.heap.size + 2, 1, none⟩ = some (.int .i64 p') ∧ w'.cell? ⟨w.heap.size + 2, 2, none⟩ = some (.int .u64 x') ∧ w'.cell? ⟨w.heap.size + 2, 3, none⟩ = some (.int .u64 y') ∧ w'.cell? ⟨w.heap.size + 2, 4, none⟩ = some (.int .u64 o'))) (by kernel_rfl) ?_ (fun hHeld => ?_)
  · exact HKd.out.held
  refine wpAnyH_take (i := 0) (oi := { dst := some 43, op := Op.load 27 (Operand.tmp 7), type := 27, pos := "law.go:67", after := #[], guard := none }) (v := ?vbb0) rfl (by kernel_rfl) (by kernel_rfl) (by kernel_rfl) (fun _ _ _ h => h) (Or.inl ⟨by rfl, ?hybb0⟩) hHeld ?_
  case hybb0 => (intro w hSw; (try dsimp only at hSw); go_simp; (try with_reducible rfl))
  try simp only [Act.put, List.setIfInBounds_toArray, List.set_cons_zero, List.set_cons_succ]
  refine wpAnyH_take (i := 1) (oi := { dst := some 44, op := Op.load 33 (Operand.tmp 4), type := 33, pos := "law.go:67", after := #[], guard := none }) (v := ?vbb1) rfl (by kernel_rfl) (by kernel_rfl) (by kernel_rfl) (fun _ _ _ h => h) (Or.inl ⟨by rfl, ?hybb1⟩) hHeld ?_
  case hybb1 => (intro w hSw; (try dsimp only at hSw); go_simp; (try with_reducible rfl))
  try simp only [Act.put, List.setIfInBounds_toArray, List.set_cons_zero, List.set_cons_succ]
  refine wpAnyH_take (i := 3) (oi := { dst := some 46, op := Op.load 27 (Operand.tmp 7), type := 27, pos := "law.go:67", after := #[], guard := none }) (v := ?vbb3) rfl (by kernel_rfl) (by kernel_rfl) (by kernel_rfl) (fun _ _ _ h => h) (Or.inl ⟨by rfl, ?hybb3⟩) hHeld ?_
  case hybb3 => (intro w hSw; (try dsimp only at hSw); go_simp; (try with_reducible rfl))
  try simp only [Act.put, List.setIfInBounds_toArray, List.set_cons_zero, List.set_cons_succ]
  refine wpAnyH_take (i := 4) (oi := { dst := some 47, op := Op.load 33 (Operand.tmp 5), type := 33, pos := "law.go:67", after := #[], guard := none }) (v := ?vbb4) rfl (by kernel_rfl) (by kernel_rfl) (by kernel_rfl) (fun _ _ _ h => h) (Or.inl ⟨by rfl, ?hybb4⟩) hHeld ?_
  case hybb4 => (intro w hSw; (try dsimp only at hSw); go_simp; (try with_reducible rfl))
  try simp only [Act.put, List.setIfInBounds_toArray, List.set_cons_zero, List.set_cons_succ]
  refine wpAnyH_take (i := 7) (oi := { dst := some 50, op := Op.load 33 (Operand.tmp 4), type := 33, pos := "law.go:67", after := #[], guard := none }) (v := ?vbb7) rfl (by kernel_rfl) (by kernel_rfl) (by kernel_rfl) (fun _ _ _ h => h) (Or.inl ⟨by rfl, ?hybb7⟩) hHeld ?_
  case hybb7 => (intro w hSw; (try dsimp only at hSw); go_simp; (try with_reducible rfl))
  try simp only [Act.put, List.setIfInBounds_toArray, List.set_cons_zero, List.set_cons_succ]
  refine wpAnyH_take (i := 8) (oi := { dst := some 51, op := Op.load 33 (Operand.tmp 5), type := 33, pos := "law.go:67", after := #[], guard := none }) (v := ?vbb8) rfl (by kernel_rfl) (by kernel_rfl) (by kernel_rfl) (fun _ _ _ h => h) (Or.inl ⟨by rfl, ?hybb8⟩) hHeld ?_
  case hybb8 => (intro w hSw; (try dsimp only at hSw); go_simp; (try with_reducible rfl))
  try simp only [Act.put, List.setIfInBounds_toArray, List.set_cons_zero, List.set_cons_succ]
  refine wpAnyH_take (i := 9) (oi := { dst := some 52, op := Op.binOp BinOp.eql 33 (Operand.tmp 50) (Operand.tmp 51) 33, type := 4, pos := "law.go:67", after := #[{ on := 7, ground := Ground.data }, { on := 8, ground := Ground.data }], guard := none }) (v := .bool r) rfl (by kernel_rfl) (by kernel_rfl) (by kernel_rfl) (fun _ _ _ h => h) (Or.inl ⟨by rfl, ?hybb9⟩) hHeld ?_
  case hybb9 => (intro w hSw; (try dsimp only at hSw); go_simp; exact if5 _ _ _ _ _ _ _ _ _ _ r HE.out w)
  try simp only [Act.put, List.setIfInBounds_toArray, List.set_cons_zero, List.set_cons_succ]
  refine wpAnyH_ready (rs := [2]) (by kernel_rfl) (by simp) ?_
  refine AllReadyH.cons (o := { dst := some 45, op := Op.call { callee := Callee.value (Operand.func 8), args := #[Operand.tmp 43, Operand.tmp 44], argTypes := #[27, 33] }, type := 9, pos := "law.go:67", after := #[{ on := 0, ground := Ground.data }, { on := 1, ground := Ground.data }], guard := none }) rfl (fun K hK => ?_) AllReadyH.nil
  go_simp
  refine (HTx.out _ (HL.out.below HKd.out.old)).mono ?_
  rintro e v1 ⟨rfl, hV⟩
  have hK1 := AB.below HKd.out hV
  clear hV hHeld
  try go_wp2_with fail
  refine hK.out _ _ ?_ (fun hHeld => ?_)
  · exact hK1.held
  clear hK K
  try simp only [Act.put, List.setIfInBounds_toArray, List.set_cons_zero, List.set_cons_succ]
  refine wpAnyH_ready (rs := [5]) (by kernel_rfl) (by simp) ?_
  refine AllReadyH.cons (o := { dst := some 48, op := Op.call { callee := Callee.value (Operand.func 8), args := #[Operand.tmp 46, Operand.tmp 47], argTypes := #[27, 33] }, type := 9, pos := "law.go:67", after := #[{ on := 3, ground := Ground.data }, { on := 4, ground := Ground.data }, { on := 2, ground := Ground.chain }], guard := none }) rfl (fun K hK => ?_) AllReadyH.nil
  go_simp
  refine (HTy.out _ (HL.out.below hK1.old)).mono ?_
  rintro e v2 ⟨rfl, hV⟩
  have hK2 := AB.below hK1 hV
  clear hV hHeld
  try go_wp2_with fail
  refine hK.out _ _ ?_ (fun hHeld => ?_)
  · exact hK2.held
  clear hK K
  try simp only [Act.put, List.setIfInBounds_toArray, List.set_cons_zero, List.set_cons_succ]
  refine wpAnyH_take (i := 6) (oi := { dst := some 49, op := Op.binOp BinOp.eql 9 (Operand.tmp 45) (Operand.tmp 48) 9, type := 4, pos := "law.go:67", after := #[{ on := 2, ground := Ground.data }, { on := 5, ground := Ground.data }], guard := none }) (v := ?vbb6) rfl (by kernel_rfl) (by kernel_rfl) (by kernel_rfl) (fun _ _ _ h => h) (Or.inl ⟨by rfl, ?hybb6⟩) hHeld ?_
  case hybb6 => (intro w hSw; (try dsimp only at hSw); go_simp; (try with_reducible rfl))
  try simp only [Act.put, List.setIfInBounds_toArray, List.set_cons_zero, List.set_cons_succ]
  refine wpAnyH_take (i := 10) (oi := { dst := some 53, op := Op.binOp BinOp.eql 4 (Operand.tmp 49) (Operand.tmp 52) 4, type := 4, pos := "law.go:67", after := #[{ on := 6, ground := Ground.data }, { on := 9, ground := Ground.data }], guard := none }) (v := ?vbb10) rfl (by kernel_rfl) (by kernel_rfl) (by kernel_rfl) (fun _ _ _ h => h) (Or.inl ⟨by rfl, ?hybb10⟩) hHeld ?_
  case hybb10 => (intro w hSw; (try dsimp only at hSw); go_simp; (try with_reducible rfl))
  try simp only [Act.put, List.setIfInBounds_toArray, List.set_cons_zero, List.set_cons_succ]
  refine wpAnyH_take (i := 11) (oi := { dst := some 6, op := Op.assign (Operand.tmp 53), type := 4, pos := "law.go:67", after := #[{ on := 10, ground := Ground.data }, { on := 5, ground := Ground.chain }, { on := 0, ground := Ground.phase }, { on := 1, ground := Ground.phase }, { on := 2, ground := Ground.phase }, { on := 3, ground := Ground.phase }, { on := 4, ground := Ground.phase }, { on := 5, ground := Ground.phase }, { on := 6, ground := Ground.phase }, { on := 7, ground := Ground.phase }, { on := 8, ground := Ground.phase }, { on := 9, ground := Ground.phase }, { on := 10, ground := Ground.phase }], guard := none }) (v := ?vbb11) rfl (by kernel_rfl) (by kernel_rfl) (by kernel_rfl) (fun _ _ _ h => h) (Or.inl ⟨by rfl, ?hybb11⟩) hHeld ?_
  case hybb11 => (intro w hSw; (try dsimp only at hSw); go_simp; (try with_reducible rfl))
  try simp only [Act.put, List.setIfInBounds_toArray, List.set_cons_zero, List.set_cons_succ]
  refine wpAnyH_done (by kernel_rfl) ?_ _
  go_wp2_with fail
  go_ret
  exact ⟨rfl, hK2.old⟩
theorem accessApart_c (a b c d k p k' p' : Int) (x y o x' y' o' : Nat) (hx : x < 18446744073709551616) (hy : y < 18446744073709551616) (ho : o < 18446744073709551616) (hx' : x' < 18446744073709551616) (hy' : y' < 18446744073709551616) (ho' : o' < 18446744073709551616) (w : World) (hL : Laid6 w) :
    Calls Tryd.prog 5 #[.agg #[.int .i64 a, .int .i64 b, .int .i64 c, .int .i64 d], accV k p x y o, accV k' p' x' y' o'] w fun e w' => e = .returned (.bool true) ∧ Below w.heap.size w w' := by
  by_cases hbig : 30 < a
  · exact apart_big a b c d k p k' p' x y o x' y' o' hbig w hL
  · by_cases h1 : RightA a b c d k p x y
    · by_cases h2 : RightA a b c d k' p' x' y'
      · exact apart_both a b c d k p k' p' x y o x' y' o' hx hy ho hx' hy' ho' hbig h1 h2 w hL
      · exact apart_xy_yn a b c d k p k' p' x y o x' y' o' hx hy ho hx' hy' ho' hbig h1 h2 w hL
    · by_cases h2 : RightA a b c d k' p' x' y'
      · exact apart_xn_yy a b c d k p k' p' x y o x' y' o' hx hy ho hx' hy' ho' hbig h1 h2 w hL
      · exact apart_xn_yn a b c d k p k' p' x y o x' y' o' hx hy ho hx' hy' ho' hbig h1 h2 w hL
end Go.Proofs.YtdhejdehlomppaaDoor
