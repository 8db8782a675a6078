/- The document's Do: kinds 6, 7. -/
import Derived.Test.YthlpmkjhiifibaaDoorIdealRefDo
namespace Go.Proofs.YthlpmkjhiifibaaDoor
open Go Go.RowKit
set_option maxRecDepth 100000
attribute [local go_sem ↓] Go.wp_at_zero Go.wp_at_succ
section
variable {w : World} {Y : Nat} {u : Value} {b c d : Nat} {s : St} {N : Nat}
set_option maxHeartbeats 3200000 in
theorem refDo_6 (h : DocAt w Y u b c d s N) (hi : Inv b c d s) (m x y z : Int) (hxi : inI x) (hyi : inI y) (hzi : inI z) (full : Bool) (hN : N + 3 ≤ 100000) (_ : s.n + 1 ≤ 1000000) (hg : goodOp b c d m 6 x y z) : Calls Tryd.prog 13 #[.pointer (some ⟨Y, 0, none⟩), .int .i64 m, .agg #[.int .i64 6, .int .i64 x, .int .i64 y, .int .i64 z], .bool full] w (PutPost w Y u b c d (nxtK s m 6 x y z full) (N + 3) (.int .i64 (resK s m 6 x y full))) := by
  have HC := Lib.hid (refCheck_c 2 b c d 6 x y z hxi hyi hzi)
  obtain ⟨_, n1, n2, n3, n4, n5, n6⟩ := hg.nums
  obtain ⟨hm0, hm1, hck⟩ := hg
  rw [hck] at HC
  obtain ⟨m, rfl⟩ := nat_of' hm0
  have hm : m < b := by omega
  have hd2 : decide (b ≤ m) = false := decide_eq_false (by omega)
  have hb := (below_new w (.cells #[.int .i64 6, .int .i64 x, .int .i64 y, .int .i64 z] 35)).drew
  have HH : Hid (RAt w (w.alloc (.cells #[.int .i64 6, .int .i64 x, .int .i64 y, .int .i64 z] 35)).drew Y u u b c d s N 6 x y z) := Lib.hid ⟨h.below hb, Arr4.new _ _ _ _ _ _, fun _ e => .inl e, h.lt, .of hb⟩
  have HG0 : Hid (∀ W, DocAt W Y u b c d s N → _) := Lib.hid (fun W hW => refReg_c (w := W) hW m x)
  have HG : Hid (∀ W, DocAt W Y u b c d s N → _) := Lib.hid (fun W hW => refReg_c (w := W) hW m y)
  have HP : Hid (∀ W u', DocAt W Y u' b c d s N → _) := Lib.hid (fun W u' hW => put_c (w := W) (u := u') hW (by omega) 2 ((s.g 0 m x / 2 : Nat) : Int) 0 (s.g 0 m y) (s.g 0 m y) rfl)
  have HV0 : Hid (s.g 0 m x % 2 = 0 → nxtK s m 6 x y z full = s ∧ resK s m 6 x y full = 4) := Lib.hid (fun he => ⟨by simp [nxtK, he], by simp [resK, he]⟩)
  have HV1 : Hid (¬ s.g 0 m x % 2 = 0 → nxtK s m 6 x y z full = ⟨putG s.g 2 ((s.g 0 m x / 2 : Nat) : Int) 0 (s.g 0 m y), s.n⟩ ∧ resK s m 6 x y full = 1) := Lib.hid (fun he => ⟨by simp [nxtK, he], by simp [resK, he]⟩)
  have hu : s.g 0 m x < 18446744073709551616 := hi.u _ _ _
  generalize s.g 0 m y = v2 at *
  generalize s.g 0 m x = v1 at *
  clear h hi hb hm hck hm0 hm1 n1 n2 n3 n4 n5 n6 hxi hyi hzi
  obtain ⟨x0, x1, x2, x3, _, x5, _⟩ := HH.out.st.cells
  obtain ⟨o0, o1, o2, o3, _⟩ := HH.out.op.cells
  go_enter Tryd.func13, Tryd.ntmps13
  go_wp2_with fail
  refine wp_region_held_drew (S := (fun w' => w'.cell? ⟨Y, 0, none⟩ = some (.int .i64 2) ∧ w'.cell? ⟨Y, 1, none⟩ = some (.int .i64 b) ∧ w'.cell? ⟨Y, 2, none⟩ = some (.int .i64 c) ∧ w'.cell? ⟨Y, 3, none⟩ = some (.int .i64 d) ∧ w'.cell? ⟨w.heap.size, 0, none⟩ = some (.int .i64 6) ∧ w'.cell? ⟨w.heap.size, 1, none⟩ = some (.int .i64 x) ∧ w'.cell? ⟨w.heap.size, 2, none⟩ = some (.int .i64 y) ∧ w'.cell? ⟨w.heap.size, 3, none⟩ = some (.int .i64 z))) (by kernel_rfl) ?_ (fun hHeld => ?_)
  · exact ⟨x0, x1, x2, x3, o0, o1, o2, o3⟩
  refine wpAnyH_take (i := 0) (oi := { dst := some 13, op := Op.move (Operand.tmp 1), type := 3, pos := "ref.go:64", after := #[], guard := none }) (v := ?vn0) rfl (by kernel_rfl) (by kernel_rfl) (by kernel_rfl) (fun _ _ _ h => h) (Or.inl ⟨by rfl, ?hyn0⟩) hHeld ?_
  case hyn0 => (intro w hSw; (try dsimp only at hSw); go_simp; (try with_reducible rfl))
  try simp only [Act.put, List.setIfInBounds_toArray, List.set_cons_zero, List.set_cons_succ]
  refine wpAnyH_take (i := 1) (oi := { dst := some 14, op := Op.binOp BinOp.lss 3 (Operand.tmp 13) (Operand.const (Value.int IntKind.i64 0)) 3, type := 4, pos := "ref.go:64", after := #[{ on := 0, ground := Ground.data }], guard := none }) (v := ?vn1) rfl (by kernel_rfl) (by kernel_rfl) (by kernel_rfl) (fun _ _ _ h => h) (Or.inl ⟨by rfl, ?hyn1⟩) hHeld ?_
  case hyn1 => (intro w hSw; (try dsimp only at hSw); go_simp; (try with_reducible rfl))
  try simp only [Act.put, List.setIfInBounds_toArray, List.set_cons_zero, List.set_cons_succ]
  refine wpAnyH_take (i := 2) (oi := { dst := some 15, op := Op.move (Operand.tmp 14), type := 4, pos := "ref.go:64", after := #[{ on := 1, ground := Ground.data }], guard := none }) (v := ?vn2) rfl (by kernel_rfl) (by kernel_rfl) (by kernel_rfl) (fun _ _ _ h => h) (Or.inl ⟨by rfl, ?hyn2⟩) hHeld ?_
  case hyn2 => (intro w hSw; (try dsimp only at hSw); go_simp; (try with_reducible rfl))
  try simp only [Act.put, List.setIfInBounds_toArray, List.set_cons_zero, List.set_cons_succ]
  refine wpAnyH_take (i := 3) (oi := { dst := some 16, op := Op.move (Operand.tmp 1), type := 3, pos := "ref.go:64", after := #[{ on := 2, ground := Ground.guard }], guard := some (2, false) }) (v := ?vn3) rfl (by kernel_rfl) (by kernel_rfl) (by kernel_rfl) (fun _ _ _ h => h) (Or.inl ⟨by rfl, ?hyn3⟩) hHeld ?_
  case hyn3 => (intro w hSw; (try dsimp only at hSw); go_simp; (try with_reducible rfl))
  try simp only [Act.put, List.setIfInBounds_toArray, List.set_cons_zero, List.set_cons_succ]
  refine wpAnyH_take (i := 4) (oi := { dst := some 17, op := Op.move (Operand.tmp 0), type := 31, pos := "ref.go:64", after := #[{ on := 2, ground := Ground.guard }], guard := some (2, false) }) (v := ?vn4) rfl (by kernel_rfl) (by kernel_rfl) (by kernel_rfl) (fun _ _ _ h => h) (Or.inl ⟨by rfl, ?hyn4⟩) hHeld ?_
  case hyn4 => (intro w hSw; (try dsimp only at hSw); go_simp; (try with_reducible rfl))
  try simp only [Act.put, List.setIfInBounds_toArray, List.set_cons_zero, List.set_cons_succ]
  refine wpAnyH_take (i := 5) (oi := { dst := some 18, op := Op.nilCheck (Operand.tmp 17), type := 0, pos := "ref.go:64", after := #[{ on := 4, ground := Ground.data }, { on := 2, ground := Ground.guard }], guard := some (2, false) }) (v := ?vn5) rfl (by kernel_rfl) (by kernel_rfl) (by kernel_rfl) (fun _ _ _ h => h) (Or.inl ⟨by rfl, ?hyn5⟩) hHeld ?_
  case hyn5 => (intro w hSw; (try dsimp only at hSw); go_simp; (try with_reducible rfl))
  try simp only [Act.put, List.setIfInBounds_toArray, List.set_cons_zero, List.set_cons_succ]
  refine wpAnyH_take (i := 6) (oi := { dst := some 19, op := Op.fieldAddr 55 (Operand.tmp 18) 0, type := 0, pos := "ref.go:64", after := #[{ on := 5, ground := Ground.data }, { on := 2, ground := Ground.guard }], guard := some (2, false) }) (v := ?vn6) rfl (by kernel_rfl) (by kernel_rfl) (by kernel_rfl) (fun _ _ _ h => h) (Or.inl ⟨by rfl, ?hyn6⟩) hHeld ?_
  case hyn6 => (intro w hSw; (try dsimp only at hSw); go_simp; (try with_reducible rfl))
  try simp only [Act.put, List.setIfInBounds_toArray, List.set_cons_zero, List.set_cons_succ]
  refine wpAnyH_take (i := 7) (oi := { dst := some 20, op := Op.fieldAddr 25 (Operand.tmp 19) 1, type := 0, pos := "ref.go:64", after := #[{ on := 6, ground := Ground.data }, { on := 2, ground := Ground.guard }], guard := some (2, false) }) (v := ?vn7) rfl (by kernel_rfl) (by kernel_rfl) (by kernel_rfl) (fun _ _ _ h => h) (Or.inl ⟨by rfl, ?hyn7⟩) hHeld ?_
  case hyn7 => (intro w hSw; (try dsimp only at hSw); go_simp; (try with_reducible rfl))
  try simp only [Act.put, List.setIfInBounds_toArray, List.set_cons_zero, List.set_cons_succ]
  refine wpAnyH_take (i := 8) (oi := { dst := some 21, op := Op.load 3 (Operand.tmp 20), type := 3, pos := "ref.go:64", after := #[{ on := 7, ground := Ground.data }, { on := 2, ground := Ground.guard }], guard := some (2, false) }) (v := ?vn8) rfl (by kernel_rfl) (by kernel_rfl) (by kernel_rfl) (fun _ _ _ h => h) (Or.inl ⟨by rfl, ?hyn8⟩) hHeld ?_
  case hyn8 => (intro w hSw; (try dsimp only at hSw); go_simp; (try with_reducible rfl))
  try simp only [Act.put, List.setIfInBounds_toArray, List.set_cons_zero, List.set_cons_succ]
  refine wpAnyH_take (i := 9) (oi := { dst := some 22, op := Op.binOp BinOp.geq 3 (Operand.tmp 16) (Operand.tmp 21) 3, type := 4, pos := "ref.go:64", after := #[{ on := 3, ground := Ground.data }, { on := 8, ground := Ground.data }, { on := 2, ground := Ground.guard }], guard := some (2, false) }) (v := ?vn9) rfl (by kernel_rfl) (by kernel_rfl) (by kernel_rfl) (fun _ _ _ h => h) (Or.inl ⟨by rfl, ?hyn9⟩) hHeld ?_
  case hyn9 => (intro w hSw; (try dsimp only at hSw); go_simp; (try with_reducible rfl))
  try simp only [Act.put, List.setIfInBounds_toArray, List.set_cons_zero, List.set_cons_succ]
  refine wpAnyH_take (i := 10) (oi := { dst := some 23, op := Op.pick (Operand.tmp 15) (Operand.const (Value.bool true)) (Operand.tmp 22), type := 4, pos := "ref.go:64", after := #[{ on := 2, ground := Ground.data }, { on := 9, ground := Ground.data }], guard := none }) (v := ?vn10) rfl (by kernel_rfl) (by kernel_rfl) (by kernel_rfl) (fun _ _ _ h => h) (Or.inl ⟨by rfl, ?hyn10⟩) hHeld ?_
  case hyn10 => (intro w hSw; (try dsimp only at hSw); go_simp; (try with_reducible rfl))
  try simp only [Act.put, List.setIfInBounds_toArray, List.set_cons_zero, List.set_cons_succ]
  refine wpAnyH_take (i := 11) (oi := { dst := some 24, op := Op.move (Operand.tmp 23), type := 4, pos := "ref.go:64", after := #[{ on := 10, ground := Ground.data }, { on := 2, ground := Ground.chain }], guard := none }) (v := ?vn11) rfl (by kernel_rfl) (by kernel_rfl) (by kernel_rfl) (fun _ _ _ h => h) (Or.inl ⟨by rfl, ?hyn11⟩) hHeld ?_
  case hyn11 => (intro w hSw; (try dsimp only at hSw); go_simp; (try with_reducible rfl))
  try simp only [Act.put, List.setIfInBounds_toArray, List.set_cons_zero, List.set_cons_succ]
  refine wpAnyH_take (i := 12) (oi := { dst := some 25, op := Op.move (Operand.tmp 0), type := 31, pos := "ref.go:64", after := #[{ on := 11, ground := Ground.guard }], guard := some (11, false) }) (v := ?vn12) rfl (by kernel_rfl) (by kernel_rfl) (by kernel_rfl) (fun _ _ _ h => h) (Or.inl ⟨by rfl, ?hyn12⟩) hHeld ?_
  case hyn12 => (intro w hSw; (try dsimp only at hSw); go_simp; (try with_reducible rfl))
  try simp only [Act.put, List.setIfInBounds_toArray, List.set_cons_zero, List.set_cons_succ]
  refine wpAnyH_take (i := 13) (oi := { dst := some 26, op := Op.nilCheck (Operand.tmp 25), type := 0, pos := "ref.go:64", after := #[{ on := 12, ground := Ground.data }, { on := 11, ground := Ground.guard }], guard := some (11, false) }) (v := ?vn13) rfl (by kernel_rfl) (by kernel_rfl) (by kernel_rfl) (fun _ _ _ h => h) (Or.inl ⟨by rfl, ?hyn13⟩) hHeld ?_
  case hyn13 => (intro w hSw; (try dsimp only at hSw); go_simp; (try with_reducible rfl))
  try simp only [Act.put, List.setIfInBounds_toArray, List.set_cons_zero, List.set_cons_succ]
  refine wpAnyH_take (i := 14) (oi := { dst := some 27, op := Op.fieldAddr 55 (Operand.tmp 26) 0, type := 0, pos := "ref.go:64", after := #[{ on := 13, ground := Ground.data }, { on := 11, ground := Ground.guard }], guard := some (11, false) }) (v := ?vn14) rfl (by kernel_rfl) (by kernel_rfl) (by kernel_rfl) (fun _ _ _ h => h) (Or.inl ⟨by rfl, ?hyn14⟩) hHeld ?_
  case hyn14 => (intro w hSw; (try dsimp only at hSw); go_simp; (try with_reducible rfl))
  try simp only [Act.put, List.setIfInBounds_toArray, List.set_cons_zero, List.set_cons_succ]
  refine wpAnyH_take (i := 15) (oi := { dst := some 28, op := Op.load 25 (Operand.tmp 27), type := 25, pos := "ref.go:64", after := #[{ on := 14, ground := Ground.data }, { on := 11, ground := Ground.guard }], guard := some (11, false) }) (v := ?vn15) rfl (by kernel_rfl) (by kernel_rfl) (by kernel_rfl) (fun _ _ _ h => h) (Or.inl ⟨by rfl, ?hyn15⟩) hHeld ?_
  case hyn15 => (intro w hSw; (try dsimp only at hSw); go_simp; (try with_reducible rfl))
  try simp only [Act.put, List.setIfInBounds_toArray, List.set_cons_zero, List.set_cons_succ]
  refine wpAnyH_take (i := 16) (oi := { dst := some 29, op := Op.load 35 (Operand.tmp 6), type := 35, pos := "ref.go:64", after := #[{ on := 11, ground := Ground.guard }], guard := some (11, false) }) (v := ?vn16) rfl (by kernel_rfl) (by kernel_rfl) (by kernel_rfl) (fun _ _ _ h => h) (Or.inl ⟨by rfl, ?hyn16⟩) hHeld ?_
  case hyn16 => (intro w hSw; (try dsimp only at hSw); go_simp; (try with_reducible rfl))
  try simp only [Act.put, List.setIfInBounds_toArray, List.set_cons_zero, List.set_cons_succ]
  refine wpAnyH_ready (rs := [17]) (by kernel_rfl) (by simp) ?_
  refine AllReadyH.cons (o := { dst := some 30, op := Op.call { callee := Callee.value (Operand.func 32), args := #[Operand.tmp 28, Operand.tmp 29], argTypes := #[25, 35] }, type := 3, pos := "ref.go:64", after := #[{ on := 15, ground := Ground.data }, { on := 16, ground := Ground.data }, { on := 11, ground := Ground.chain }, { on := 11, ground := Ground.guard }], guard := some (11, false) }) rfl (fun K hK => ?_) AllReadyH.nil
  go_simp
  refine (HC.out _).mono ?_
  rintro e W1 ⟨rfl, hW1⟩
  have HH1 := Lib.hid (HH.out.on hW1)
  clear hW1 HH HC
  clear x0 x1 x2 x3 x5 o0 o1 o2 o3 hHeld
  obtain ⟨x0, x1, x2, x3, _, x5, _⟩ := HH1.out.st.cells
  obtain ⟨o0, o1, o2, o3, _⟩ := HH1.out.op.cells
  refine hK.out _ _ ?_ (fun hHeld => ?_)
  · exact ⟨x0, x1, x2, x3, o0, o1, o2, o3⟩
  clear hK K
  try simp only [Act.put, List.setIfInBounds_toArray, List.set_cons_zero, List.set_cons_succ]
  refine wpAnyH_take (i := 18) (oi := { dst := some 31, op := Op.binOp BinOp.neq 3 (Operand.tmp 30) (Operand.const (Value.int IntKind.i64 0)) 3, type := 4, pos := "ref.go:64", after := #[{ on := 17, ground := Ground.data }, { on := 11, ground := Ground.guard }], guard := some (11, false) }) (v := ?vn18) rfl (by kernel_rfl) (by kernel_rfl) (by kernel_rfl) (fun _ _ _ h => h) (Or.inl ⟨by rfl, ?hyn18⟩) hHeld ?_
  case hyn18 => (intro w hSw; (try dsimp only at hSw); go_simp; (try with_reducible rfl))
  try simp only [Act.put, List.setIfInBounds_toArray, List.set_cons_zero, List.set_cons_succ]
  refine wpAnyH_take (i := 19) (oi := { dst := some 32, op := Op.pick (Operand.tmp 24) (Operand.const (Value.bool true)) (Operand.tmp 31), type := 4, pos := "ref.go:64", after := #[{ on := 11, ground := Ground.data }, { on := 18, ground := Ground.data }], guard := none }) (v := ?vn19) rfl (by kernel_rfl) (by kernel_rfl) (by kernel_rfl) (fun _ _ _ h => h) (Or.inl ⟨by rfl, ?hyn19⟩) hHeld ?_
  case hyn19 => (intro w hSw; (try dsimp only at hSw); go_simp; (try with_reducible rfl))
  try simp only [Act.put, List.setIfInBounds_toArray, List.set_cons_zero, List.set_cons_succ]
  refine wpAnyH_done (by kernel_rfl) ?_ _
  clear hHeld
  go_wp2_with fail
  refine (HG0.out _ HH1.out.st).mono ?_
  rintro e W2 ⟨rfl, hW2⟩
  have HH2 := Lib.hid (HH1.out.on hW2)
  clear hW2 HH1
  clear HG0
  clear x0 x1 x2 x3 x5 o0 o1 o2 o3
  obtain ⟨x0, x1, x2, x3, _, x5, _⟩ := HH2.out.st.cells
  obtain ⟨o0, o1, o2, o3, _⟩ := HH2.out.op.cells
  go_wp2_with fail
  by_cases hp : v1 % 2 = 0
  · have HV := Lib.hid (HV0.out hp)
    refine (number_even v1 hp _).mono ?_
    rintro e W ⟨rfl, rfl⟩
    go_wp2_with fail
    go_ret
    rw [HV.out.1, HV.out.2]
    exact (HH2.out.post _).more (by omega) hN
  · have HV := Lib.hid (HV1.out hp)
    refine (number_odd v1 hu (by omega) _).mono ?_
    rintro e W ⟨rfl, rfl⟩
    clear HV0 HV1
    go_wp2_with fail
    have HH2d := Lib.hid (HH2.out.on (W' := W2.drew) (Below.refl _ _).drew)
    clear HH2
    have HH2 := HH2d
    clear HH2d
    clear x0 x1 x2 x3 x5 o0 o1 o2 o3
    obtain ⟨x0, x1, x2, x3, _, x5, _⟩ := HH2.out.st.cells
    obtain ⟨o0, o1, o2, o3, _⟩ := HH2.out.op.cells
    refine wp_region_held_drew (S := (fun w' => w'.cell? ⟨w.heap.size, 0, none⟩ = some (.int .i64 6) ∧ w'.cell? ⟨w.heap.size, 1, none⟩ = some (.int .i64 x) ∧ w'.cell? ⟨w.heap.size, 2, none⟩ = some (.int .i64 y))) (by kernel_rfl) ?_ (fun hHeld => ?_)
    · exact ⟨o0, o1, o2⟩
    refine wpAnyH_take (i := 0) (oi := { dst := some 138, op := Op.move (Operand.tmp 0), type := 31, pos := "ref.go:93", after := #[], guard := none }) (v := ?vt0) rfl (by kernel_rfl) (by kernel_rfl) (by kernel_rfl) (fun _ _ _ h => h) (Or.inl ⟨by rfl, ?hyt0⟩) hHeld ?_
    case hyt0 => (intro w hSw; (try dsimp only at hSw); go_simp; (try with_reducible rfl))
    try simp only [Act.put, List.setIfInBounds_toArray, List.set_cons_zero, List.set_cons_succ]
    refine wpAnyH_take (i := 1) (oi := { dst := some 139, op := Op.fieldAddr 35 (Operand.tmp 6) 0, type := 0, pos := "ref.go:93", after := #[], guard := none }) (v := ?vt1) rfl (by kernel_rfl) (by kernel_rfl) (by kernel_rfl) (fun _ _ _ h => h) (Or.inl ⟨by rfl, ?hyt1⟩) hHeld ?_
    case hyt1 => (intro w hSw; (try dsimp only at hSw); go_simp; (try with_reducible rfl))
    try simp only [Act.put, List.setIfInBounds_toArray, List.set_cons_zero, List.set_cons_succ]
    refine wpAnyH_take (i := 2) (oi := { dst := some 140, op := Op.load 3 (Operand.tmp 139), type := 3, pos := "ref.go:93", after := #[{ on := 1, ground := Ground.data }], guard := none }) (v := ?vt2) rfl (by kernel_rfl) (by kernel_rfl) (by kernel_rfl) (fun _ _ _ h => h) (Or.inl ⟨by rfl, ?hyt2⟩) hHeld ?_
    case hyt2 => (intro w hSw; (try dsimp only at hSw); go_simp; (try with_reducible rfl))
    try simp only [Act.put, List.setIfInBounds_toArray, List.set_cons_zero, List.set_cons_succ]
    refine wpAnyH_take (i := 3) (oi := { dst := some 141, op := Op.binOp BinOp.sub 3 (Operand.tmp 140) (Operand.const (Value.int IntKind.i64 4)) 3, type := 3, pos := "ref.go:93", after := #[{ on := 2, ground := Ground.data }], guard := none }) (v := ?vt3) rfl (by kernel_rfl) (by kernel_rfl) (by kernel_rfl) (fun _ _ _ h => h) (Or.inl ⟨by rfl, ?hyt3⟩) hHeld ?_
    case hyt3 => (intro w hSw; (try dsimp only at hSw); go_simp; (try with_reducible rfl))
    try simp only [Act.put, List.setIfInBounds_toArray, List.set_cons_zero, List.set_cons_succ]
    refine wpAnyH_take (i := 4) (oi := { dst := some 142, op := Op.move (Operand.tmp 12), type := 3, pos := "ref.go:93", after := #[], guard := none }) (v := ?vt4) rfl (by kernel_rfl) (by kernel_rfl) (by kernel_rfl) (fun _ _ _ h => h) (Or.inl ⟨by rfl, ?hyt4⟩) hHeld ?_
    case hyt4 => (intro w hSw; (try dsimp only at hSw); go_simp; (try with_reducible rfl))
    try simp only [Act.put, List.setIfInBounds_toArray, List.set_cons_zero, List.set_cons_succ]
    refine wpAnyH_take (i := 5) (oi := { dst := some 143, op := Op.move (Operand.tmp 0), type := 31, pos := "ref.go:93", after := #[], guard := none }) (v := ?vt5) rfl (by kernel_rfl) (by kernel_rfl) (by kernel_rfl) (fun _ _ _ h => h) (Or.inl ⟨by rfl, ?hyt5⟩) hHeld ?_
    case hyt5 => (intro w hSw; (try dsimp only at hSw); go_simp; (try with_reducible rfl))
    try simp only [Act.put, List.setIfInBounds_toArray, List.set_cons_zero, List.set_cons_succ]
    refine wpAnyH_take (i := 6) (oi := { dst := some 144, op := Op.move (Operand.tmp 1), type := 3, pos := "ref.go:93", after := #[], guard := none }) (v := ?vt6) rfl (by kernel_rfl) (by kernel_rfl) (by kernel_rfl) (fun _ _ _ h => h) (Or.inl ⟨by rfl, ?hyt6⟩) hHeld ?_
    case hyt6 => (intro w hSw; (try dsimp only at hSw); go_simp; (try with_reducible rfl))
    try simp only [Act.put, List.setIfInBounds_toArray, List.set_cons_zero, List.set_cons_succ]
    refine wpAnyH_take (i := 7) (oi := { dst := some 145, op := Op.fieldAddr 35 (Operand.tmp 6) 2, type := 0, pos := "ref.go:93", after := #[], guard := none }) (v := ?vt7) rfl (by kernel_rfl) (by kernel_rfl) (by kernel_rfl) (fun _ _ _ h => h) (Or.inl ⟨by rfl, ?hyt7⟩) hHeld ?_
    case hyt7 => (intro w hSw; (try dsimp only at hSw); go_simp; (try with_reducible rfl))
    try simp only [Act.put, List.setIfInBounds_toArray, List.set_cons_zero, List.set_cons_succ]
    refine wpAnyH_take (i := 8) (oi := { dst := some 146, op := Op.load 3 (Operand.tmp 145), type := 3, pos := "ref.go:93", after := #[{ on := 7, ground := Ground.data }], guard := none }) (v := ?vt8) rfl (by kernel_rfl) (by kernel_rfl) (by kernel_rfl) (fun _ _ _ h => h) (Or.inl ⟨by rfl, ?hyt8⟩) hHeld ?_
    case hyt8 => (intro w hSw; (try dsimp only at hSw); go_simp; (try with_reducible rfl))
    try simp only [Act.put, List.setIfInBounds_toArray, List.set_cons_zero, List.set_cons_succ]
    refine wpAnyH_ready (rs := [9]) (by kernel_rfl) (by simp) ?_
    refine AllReadyH.cons (o := { dst := some 147, op := Op.call { callee := Callee.value (Operand.func 34), args := #[Operand.tmp 143, Operand.tmp 144, Operand.tmp 146], argTypes := #[31, 3, 3] }, type := 41, pos := "ref.go:93", after := #[{ on := 5, ground := Ground.data }, { on := 6, ground := Ground.data }, { on := 8, ground := Ground.data }], guard := none }) rfl (fun K hK => ?_) AllReadyH.nil
    go_simp
    refine (HG.out _ HH2.out.st).mono ?_
    rintro e W3 ⟨rfl, hW3⟩
    have HH3 := Lib.hid (HH2.out.on hW3)
    clear hW3 HH2
    clear x0 x1 x2 x3 x5 o0 o1 o2 o3 hHeld
    obtain ⟨x0, x1, x2, x3, _, x5, _⟩ := HH3.out.st.cells
    obtain ⟨o0, o1, o2, o3, _⟩ := HH3.out.op.cells
    refine hK.out _ _ ?_ (fun hHeld => ?_)
    · exact ⟨o0, o1, o2⟩
    clear hK K
    try simp only [Act.put, List.setIfInBounds_toArray, List.set_cons_zero, List.set_cons_succ]
    refine wpAnyH_ready (rs := [10]) (by kernel_rfl) (by simp) ?_
    refine AllReadyH.cons (o := { dst := some 148, op := Op.call { callee := Callee.value (Operand.func 33), args := #[Operand.tmp 138, Operand.tmp 141, Operand.tmp 142, Operand.const (Value.int IntKind.i64 0), Operand.tmp 147], argTypes := #[31, 3, 3, 3, 41] }, type := 0, pos := "ref.go:93", after := #[{ on := 0, ground := Ground.data }, { on := 3, ground := Ground.data }, { on := 4, ground := Ground.data }, { on := 9, ground := Ground.data }, { on := 9, ground := Ground.chain }], guard := none }) rfl (fun K hK => ?_) AllReadyH.nil
    go_simp
    refine (HP.out _ _ HH3.out.st).mono ?_
    rintro e W4 hP
    obtain ⟨rfl, u2, hP2⟩ := HH3.out.put hP
    have HH4 := Lib.hid hP2
    clear hP hP2 HH3
    clear x0 x1 x2 x3 x5 o0 o1 o2 o3 hHeld
    obtain ⟨x0, x1, x2, x3, _, x5, _⟩ := HH4.out.st.cells
    obtain ⟨o0, o1, o2, o3, _⟩ := HH4.out.op.cells
    refine hK.out _ _ ?_ (fun hHeld => ?_)
    · exact ⟨o0, o1, o2⟩
    clear hK K
    try simp only [Act.put, List.setIfInBounds_toArray, List.set_cons_zero, List.set_cons_succ]
    refine wpAnyH_done (by kernel_rfl) ?_ _
    clear hHeld
    go_wp2_with fail
    go_ret
    rw [HV.out.1, HV.out.2]
    exact (HH4.out.post _).more (by omega) hN
set_option maxHeartbeats 3200000 in
theorem refDo_7 (h : DocAt w Y u b c d s N) (hi : Inv b c d s) (m x y z : Int) (hxi : inI x) (hyi : inI y) (hzi : inI z) (full : Bool) (hN : N + 3 ≤ 100000) (_ : s.n + 1 ≤ 1000000) (hg : goodOp b c d m 7 x y z) : Calls Tryd.prog 13 #[.pointer (some ⟨Y, 0, none⟩), .int .i64 m, .agg #[.int .i64 7, .int .i64 x, .int .i64 y, .int .i64 z], .bool full] w (PutPost w Y u b c d (nxtK s m 7 x y z full) (N + 3) (.int .i64 (resK s m 7 x y full))) := by
  have HC := Lib.hid (refCheck_c 2 b c d 7 x y z hxi hyi hzi)
  obtain ⟨_, n1, n2, n3, n4, n5, n6⟩ := hg.nums
  obtain ⟨hm0, hm1, hck⟩ := hg
  rw [hck] at HC
  obtain ⟨m, rfl⟩ := nat_of' hm0
  have hm : m < b := by omega
  have hd2 : decide (b ≤ m) = false := decide_eq_false (by omega)
  have hb := (below_new w (.cells #[.int .i64 7, .int .i64 x, .int .i64 y, .int .i64 z] 35)).drew
  have HH : Hid (RAt w (w.alloc (.cells #[.int .i64 7, .int .i64 x, .int .i64 y, .int .i64 z] 35)).drew Y u u b c d s N 7 x y z) := Lib.hid ⟨h.below hb, Arr4.new _ _ _ _ _ _, fun _ e => .inl e, h.lt, .of hb⟩
  have HG0 : Hid (∀ W, DocAt W Y u b c d s N → _) := Lib.hid (fun W hW => refReg_c (w := W) hW m x)
  have HG : Hid (∀ W, DocAt W Y u b c d s N → _) := Lib.hid (fun W hW => refReg_c (w := W) hW m y)
  have HP : Hid (∀ W u', DocAt W Y u' b c d s N → _) := Lib.hid (fun W u' hW => put_c (w := W) (u := u') hW (by omega) 3 ((s.g 0 m x / 2 : Nat) : Int) 0 (s.g 0 m y) (s.g 0 m y) rfl)
  have HV0 : Hid (s.g 0 m x % 2 = 0 → nxtK s m 7 x y z full = s ∧ resK s m 7 x y full = 4) := Lib.hid (fun he => ⟨by simp [nxtK, he], by simp [resK, he]⟩)
  have HV1 : Hid (¬ s.g 0 m x % 2 = 0 → nxtK s m 7 x y z full = ⟨putG s.g 3 ((s.g 0 m x / 2 : Nat) : Int) 0 (s.g 0 m y), s.n⟩ ∧ resK s m 7 x y full = 1) := Lib.hid (fun he => ⟨by simp [nxtK, he], by simp [resK, he]⟩)
  have hu : s.g 0 m x < 18446744073709551616 := hi.u _ _ _
  generalize s.g 0 m y = v2 at *
  generalize s.g 0 m x = v1 at *
  clear h hi hb hm hck hm0 hm1 n1 n2 n3 n4 n5 n6 hxi hyi hzi
  obtain ⟨x0, x1, x2, x3, _, x5, _⟩ := HH.out.st.cells
  obtain ⟨o0, o1, o2, o3, _⟩ := HH.out.op.cells
  go_enter Tryd.func13, Tryd.ntmps13
  go_wp2_with fail
  refine wp_region_held_drew (S := (fun w' => w'.cell? ⟨Y, 0, none⟩ = some (.int .i64 2) ∧ w'.cell? ⟨Y, 1, none⟩ = some (.int .i64 b) ∧ w'.cell? ⟨Y, 2, none⟩ = some (.int .i64 c) ∧ w'.cell? ⟨Y, 3, none⟩ = some (.int .i64 d) ∧ w'.cell? ⟨w.heap.size, 0, none⟩ = some (.int .i64 7) ∧ w'.cell? ⟨w.heap.size, 1, none⟩ = some (.int .i64 x) ∧ w'.cell? ⟨w.heap.size, 2, none⟩ = some (.int .i64 y) ∧ w'.cell? ⟨w.heap.size, 3, none⟩ = some (.int .i64 z))) (by kernel_rfl) ?_ (fun hHeld => ?_)
  · exact ⟨x0, x1, x2, x3, o0, o1, o2, o3⟩
  refine wpAnyH_take (i := 0) (oi := { dst := some 13, op := Op.move (Operand.tmp 1), type := 3, pos := "ref.go:64", after := #[], guard := none }) (v := ?vn0) rfl (by kernel_rfl) (by kernel_rfl) (by kernel_rfl) (fun _ _ _ h => h) (Or.inl ⟨by rfl, ?hyn0⟩) hHeld ?_
  case hyn0 => (intro w hSw; (try dsimp only at hSw); go_simp; (try with_reducible rfl))
  try simp only [Act.put, List.setIfInBounds_toArray, List.set_cons_zero, List.set_cons_succ]
  refine wpAnyH_take (i := 1) (oi := { dst := some 14, op := Op.binOp BinOp.lss 3 (Operand.tmp 13) (Operand.const (Value.int IntKind.i64 0)) 3, type := 4, pos := "ref.go:64", after := #[{ on := 0, ground := Ground.data }], guard := none }) (v := ?vn1) rfl (by kernel_rfl) (by kernel_rfl) (by kernel_rfl) (fun _ _ _ h => h) (Or.inl ⟨by rfl, ?hyn1⟩) hHeld ?_
  case hyn1 => (intro w hSw; (try dsimp only at hSw); go_simp; (try with_reducible rfl))
  try simp only [Act.put, List.setIfInBounds_toArray, List.set_cons_zero, List.set_cons_succ]
  refine wpAnyH_take (i := 2) (oi := { dst := some 15, op := Op.move (Operand.tmp 14), type := 4, pos := "ref.go:64", after := #[{ on := 1, ground := Ground.data }], guard := none }) (v := ?vn2) rfl (by kernel_rfl) (by kernel_rfl) (by kernel_rfl) (fun _ _ _ h => h) (Or.inl ⟨by rfl, ?hyn2⟩) hHeld ?_
  case hyn2 => (intro w hSw; (try dsimp only at hSw); go_simp; (try with_reducible rfl))
  try simp only [Act.put, List.setIfInBounds_toArray, List.set_cons_zero, List.set_cons_succ]
  refine wpAnyH_take (i := 3) (oi := { dst := some 16, op := Op.move (Operand.tmp 1), type := 3, pos := "ref.go:64", after := #[{ on := 2, ground := Ground.guard }], guard := some (2, false) }) (v := ?vn3) rfl (by kernel_rfl) (by kernel_rfl) (by kernel_rfl) (fun _ _ _ h => h) (Or.inl ⟨by rfl, ?hyn3⟩) hHeld ?_
  case hyn3 => (intro w hSw; (try dsimp only at hSw); go_simp; (try with_reducible rfl))
  try simp only [Act.put, List.setIfInBounds_toArray, List.set_cons_zero, List.set_cons_succ]
  refine wpAnyH_take (i := 4) (oi := { dst := some 17, op := Op.move (Operand.tmp 0), type := 31, pos := "ref.go:64", after := #[{ on := 2, ground := Ground.guard }], guard := some (2, false) }) (v := ?vn4) rfl (by kernel_rfl) (by kernel_rfl) (by kernel_rfl) (fun _ _ _ h => h) (Or.inl ⟨by rfl, ?hyn4⟩) hHeld ?_
  case hyn4 => (intro w hSw; (try dsimp only at hSw); go_simp; (try with_reducible rfl))
  try simp only [Act.put, List.setIfInBounds_toArray, List.set_cons_zero, List.set_cons_succ]
  refine wpAnyH_take (i := 5) (oi := { dst := some 18, op := Op.nilCheck (Operand.tmp 17), type := 0, pos := "ref.go:64", after := #[{ on := 4, ground := Ground.data }, { on := 2, ground := Ground.guard }], guard := some (2, false) }) (v := ?vn5) rfl (by kernel_rfl) (by kernel_rfl) (by kernel_rfl) (fun _ _ _ h => h) (Or.inl ⟨by rfl, ?hyn5⟩) hHeld ?_
  case hyn5 => (intro w hSw; (try dsimp only at hSw); go_simp; (try with_reducible rfl))
  try simp only [Act.put, List.setIfInBounds_toArray, List.set_cons_zero, List.set_cons_succ]
  refine wpAnyH_take (i := 6) (oi := { dst := some 19, op := Op.fieldAddr 55 (Operand.tmp 18) 0, type := 0, pos := "ref.go:64", after := #[{ on := 5, ground := Ground.data }, { on := 2, ground := Ground.guard }], guard := some (2, false) }) (v := ?vn6) rfl (by kernel_rfl) (by kernel_rfl) (by kernel_rfl) (fun _ _ _ h => h) (Or.inl ⟨by rfl, ?hyn6⟩) hHeld ?_
  case hyn6 => (intro w hSw; (try dsimp only at hSw); go_simp; (try with_reducible rfl))
  try simp only [Act.put, List.setIfInBounds_toArray, List.set_cons_zero, List.set_cons_succ]
  refine wpAnyH_take (i := 7) (oi := { dst := some 20, op := Op.fieldAddr 25 (Operand.tmp 19) 1, type := 0, pos := "ref.go:64", after := #[{ on := 6, ground := Ground.data }, { on := 2, ground := Ground.guard }], guard := some (2, false) }) (v := ?vn7) rfl (by kernel_rfl) (by kernel_rfl) (by kernel_rfl) (fun _ _ _ h => h) (Or.inl ⟨by rfl, ?hyn7⟩) hHeld ?_
  case hyn7 => (intro w hSw; (try dsimp only at hSw); go_simp; (try with_reducible rfl))
  try simp only [Act.put, List.setIfInBounds_toArray, List.set_cons_zero, List.set_cons_succ]
  refine wpAnyH_take (i := 8) (oi := { dst := some 21, op := Op.load 3 (Operand.tmp 20), type := 3, pos := "ref.go:64", after := #[{ on := 7, ground := Ground.data }, { on := 2, ground := Ground.guard }], guard := some (2, false) }) (v := ?vn8) rfl (by kernel_rfl) (by kernel_rfl) (by kernel_rfl) (fun _ _ _ h => h) (Or.inl ⟨by rfl, ?hyn8⟩) hHeld ?_
  case hyn8 => (intro w hSw; (try dsimp only at hSw); go_simp; (try with_reducible rfl))
  try simp only [Act.put, List.setIfInBounds_toArray, List.set_cons_zero, List.set_cons_succ]
  refine wpAnyH_take (i := 9) (oi := { dst := some 22, op := Op.binOp BinOp.geq 3 (Operand.tmp 16) (Operand.tmp 21) 3, type := 4, pos := "ref.go:64", after := #[{ on := 3, ground := Ground.data }, { on := 8, ground := Ground.data }, { on := 2, ground := Ground.guard }], guard := some (2, false) }) (v := ?vn9) rfl (by kernel_rfl) (by kernel_rfl) (by kernel_rfl) (fun _ _ _ h => h) (Or.inl ⟨by rfl, ?hyn9⟩) hHeld ?_
  case hyn9 => (intro w hSw; (try dsimp only at hSw); go_simp; (try with_reducible rfl))
  try simp only [Act.put, List.setIfInBounds_toArray, List.set_cons_zero, List.set_cons_succ]
  refine wpAnyH_take (i := 10) (oi := { dst := some 23, op := Op.pick (Operand.tmp 15) (Operand.const (Value.bool true)) (Operand.tmp 22), type := 4, pos := "ref.go:64", after := #[{ on := 2, ground := Ground.data }, { on := 9, ground := Ground.data }], guard := none }) (v := ?vn10) rfl (by kernel_rfl) (by kernel_rfl) (by kernel_rfl) (fun _ _ _ h => h) (Or.inl ⟨by rfl, ?hyn10⟩) hHeld ?_
  case hyn10 => (intro w hSw; (try dsimp only at hSw); go_simp; (try with_reducible rfl))
  try simp only [Act.put, List.setIfInBounds_toArray, List.set_cons_zero, List.set_cons_succ]
  refine wpAnyH_take (i := 11) (oi := { dst := some 24, op := Op.move (Operand.tmp 23), type := 4, pos := "ref.go:64", after := #[{ on := 10, ground := Ground.data }, { on := 2, ground := Ground.chain }], guard := none }) (v := ?vn11) rfl (by kernel_rfl) (by kernel_rfl) (by kernel_rfl) (fun _ _ _ h => h) (Or.inl ⟨by rfl, ?hyn11⟩) hHeld ?_
  case hyn11 => (intro w hSw; (try dsimp only at hSw); go_simp; (try with_reducible rfl))
  try simp only [Act.put, List.setIfInBounds_toArray, List.set_cons_zero, List.set_cons_succ]
  refine wpAnyH_take (i := 12) (oi := { dst := some 25, op := Op.move (Operand.tmp 0), type := 31, pos := "ref.go:64", after := #[{ on := 11, ground := Ground.guard }], guard := some (11, false) }) (v := ?vn12) rfl (by kernel_rfl) (by kernel_rfl) (by kernel_rfl) (fun _ _ _ h => h) (Or.inl ⟨by rfl, ?hyn12⟩) hHeld ?_
  case hyn12 => (intro w hSw; (try dsimp only at hSw); go_simp; (try with_reducible rfl))
  try simp only [Act.put, List.setIfInBounds_toArray, List.set_cons_zero, List.set_cons_succ]
  refine wpAnyH_take (i := 13) (oi := { dst := some 26, op := Op.nilCheck (Operand.tmp 25), type := 0, pos := "ref.go:64", after := #[{ on := 12, ground := Ground.data }, { on := 11, ground := Ground.guard }], guard := some (11, false) }) (v := ?vn13) rfl (by kernel_rfl) (by kernel_rfl) (by kernel_rfl) (fun _ _ _ h => h) (Or.inl ⟨by rfl, ?hyn13⟩) hHeld ?_
  case hyn13 => (intro w hSw; (try dsimp only at hSw); go_simp; (try with_reducible rfl))
  try simp only [Act.put, List.setIfInBounds_toArray, List.set_cons_zero, List.set_cons_succ]
  refine wpAnyH_take (i := 14) (oi := { dst := some 27, op := Op.fieldAddr 55 (Operand.tmp 26) 0, type := 0, pos := "ref.go:64", after := #[{ on := 13, ground := Ground.data }, { on := 11, ground := Ground.guard }], guard := some (11, false) }) (v := ?vn14) rfl (by kernel_rfl) (by kernel_rfl) (by kernel_rfl) (fun _ _ _ h => h) (Or.inl ⟨by rfl, ?hyn14⟩) hHeld ?_
  case hyn14 => (intro w hSw; (try dsimp only at hSw); go_simp; (try with_reducible rfl))
  try simp only [Act.put, List.setIfInBounds_toArray, List.set_cons_zero, List.set_cons_succ]
  refine wpAnyH_take (i := 15) (oi := { dst := some 28, op := Op.load 25 (Operand.tmp 27), type := 25, pos := "ref.go:64", after := #[{ on := 14, ground := Ground.data }, { on := 11, ground := Ground.guard }], guard := some (11, false) }) (v := ?vn15) rfl (by kernel_rfl) (by kernel_rfl) (by kernel_rfl) (fun _ _ _ h => h) (Or.inl ⟨by rfl, ?hyn15⟩) hHeld ?_
  case hyn15 => (intro w hSw; (try dsimp only at hSw); go_simp; (try with_reducible rfl))
  try simp only [Act.put, List.setIfInBounds_toArray, List.set_cons_zero, List.set_cons_succ]
  refine wpAnyH_take (i := 16) (oi := { dst := some 29, op := Op.load 35 (Operand.tmp 6), type := 35, pos := "ref.go:64", after := #[{ on := 11, ground := Ground.guard }], guard := some (11, false) }) (v := ?vn16) rfl (by kernel_rfl) (by kernel_rfl) (by kernel_rfl) (fun _ _ _ h => h) (Or.inl ⟨by rfl, ?hyn16⟩) hHeld ?_
  case hyn16 => (intro w hSw; (try dsimp only at hSw); go_simp; (try with_reducible rfl))
  try simp only [Act.put, List.setIfInBounds_toArray, List.set_cons_zero, List.set_cons_succ]
  refine wpAnyH_ready (rs := [17]) (by kernel_rfl) (by simp) ?_
  refine AllReadyH.cons (o := { dst := some 30, op := Op.call { callee := Callee.value (Operand.func 32), args := #[Operand.tmp 28, Operand.tmp 29], argTypes := #[25, 35] }, type := 3, pos := "ref.go:64", after := #[{ on := 15, ground := Ground.data }, { on := 16, ground := Ground.data }, { on := 11, ground := Ground.chain }, { on := 11, ground := Ground.guard }], guard := some (11, false) }) rfl (fun K hK => ?_) AllReadyH.nil
  go_simp
  refine (HC.out _).mono ?_
  rintro e W1 ⟨rfl, hW1⟩
  have HH1 := Lib.hid (HH.out.on hW1)
  clear hW1 HH HC
  clear x0 x1 x2 x3 x5 o0 o1 o2 o3 hHeld
  obtain ⟨x0, x1, x2, x3, _, x5, _⟩ := HH1.out.st.cells
  obtain ⟨o0, o1, o2, o3, _⟩ := HH1.out.op.cells
  refine hK.out _ _ ?_ (fun hHeld => ?_)
  · exact ⟨x0, x1, x2, x3, o0, o1, o2, o3⟩
  clear hK K
  try simp only [Act.put, List.setIfInBounds_toArray, List.set_cons_zero, List.set_cons_succ]
  refine wpAnyH_take (i := 18) (oi := { dst := some 31, op := Op.binOp BinOp.neq 3 (Operand.tmp 30) (Operand.const (Value.int IntKind.i64 0)) 3, type := 4, pos := "ref.go:64", after := #[{ on := 17, ground := Ground.data }, { on := 11, ground := Ground.guard }], guard := some (11, false) }) (v := ?vn18) rfl (by kernel_rfl) (by kernel_rfl) (by kernel_rfl) (fun _ _ _ h => h) (Or.inl ⟨by rfl, ?hyn18⟩) hHeld ?_
  case hyn18 => (intro w hSw; (try dsimp only at hSw); go_simp; (try with_reducible rfl))
  try simp only [Act.put, List.setIfInBounds_toArray, List.set_cons_zero, List.set_cons_succ]
  refine wpAnyH_take (i := 19) (oi := { dst := some 32, op := Op.pick (Operand.tmp 24) (Operand.const (Value.bool true)) (Operand.tmp 31), type := 4, pos := "ref.go:64", after := #[{ on := 11, ground := Ground.data }, { on := 18, ground := Ground.data }], guard := none }) (v := ?vn19) rfl (by kernel_rfl) (by kernel_rfl) (by kernel_rfl) (fun _ _ _ h => h) (Or.inl ⟨by rfl, ?hyn19⟩) hHeld ?_
  case hyn19 => (intro w hSw; (try dsimp only at hSw); go_simp; (try with_reducible rfl))
  try simp only [Act.put, List.setIfInBounds_toArray, List.set_cons_zero, List.set_cons_succ]
  refine wpAnyH_done (by kernel_rfl) ?_ _
  clear hHeld
  go_wp2_with fail
  refine (HG0.out _ HH1.out.st).mono ?_
  rintro e W2 ⟨rfl, hW2⟩
  have HH2 := Lib.hid (HH1.out.on hW2)
  clear hW2 HH1
  clear HG0
  clear x0 x1 x2 x3 x5 o0 o1 o2 o3
  obtain ⟨x0, x1, x2, x3, _, x5, _⟩ := HH2.out.st.cells
  obtain ⟨o0, o1, o2, o3, _⟩ := HH2.out.op.cells
  go_wp2_with fail
  by_cases hp : v1 % 2 = 0
  · have HV := Lib.hid (HV0.out hp)
    refine (number_even v1 hp _).mono ?_
    rintro e W ⟨rfl, rfl⟩
    go_wp2_with fail
    go_ret
    rw [HV.out.1, HV.out.2]
    exact (HH2.out.post _).more (by omega) hN
  · have HV := Lib.hid (HV1.out hp)
    refine (number_odd v1 hu (by omega) _).mono ?_
    rintro e W ⟨rfl, rfl⟩
    clear HV0 HV1
    go_wp2_with fail
    have HH2d := Lib.hid (HH2.out.on (W' := W2.drew) (Below.refl _ _).drew)
    clear HH2
    have HH2 := HH2d
    clear HH2d
    clear x0 x1 x2 x3 x5 o0 o1 o2 o3
    obtain ⟨x0, x1, x2, x3, _, x5, _⟩ := HH2.out.st.cells
    obtain ⟨o0, o1, o2, o3, _⟩ := HH2.out.op.cells
    refine wp_region_held_drew (S := (fun w' => w'.cell? ⟨w.heap.size, 0, none⟩ = some (.int .i64 7) ∧ w'.cell? ⟨w.heap.size, 1, none⟩ = some (.int .i64 x) ∧ w'.cell? ⟨w.heap.size, 2, none⟩ = some (.int .i64 y))) (by kernel_rfl) ?_ (fun hHeld => ?_)
    · exact ⟨o0, o1, o2⟩
    refine wpAnyH_take (i := 0) (oi := { dst := some 138, op := Op.move (Operand.tmp 0), type := 31, pos := "ref.go:93", after := #[], guard := none }) (v := ?vt0) rfl (by kernel_rfl) (by kernel_rfl) (by kernel_rfl) (fun _ _ _ h => h) (Or.inl ⟨by rfl, ?hyt0⟩) hHeld ?_
    case hyt0 => (intro w hSw; (try dsimp only at hSw); go_simp; (try with_reducible rfl))
    try simp only [Act.put, List.setIfInBounds_toArray, List.set_cons_zero, List.set_cons_succ]
    refine wpAnyH_take (i := 1) (oi := { dst := some 139, op := Op.fieldAddr 35 (Operand.tmp 6) 0, type := 0, pos := "ref.go:93", after := #[], guard := none }) (v := ?vt1) rfl (by kernel_rfl) (by kernel_rfl) (by kernel_rfl) (fun _ _ _ h => h) (Or.inl ⟨by rfl, ?hyt1⟩) hHeld ?_
    case hyt1 => (intro w hSw; (try dsimp only at hSw); go_simp; (try with_reducible rfl))
    try simp only [Act.put, List.setIfInBounds_toArray, List.set_cons_zero, List.set_cons_succ]
    refine wpAnyH_take (i := 2) (oi := { dst := some 140, op := Op.load 3 (Operand.tmp 139), type := 3, pos := "ref.go:93", after := #[{ on := 1, ground := Ground.data }], guard := none }) (v := ?vt2) rfl (by kernel_rfl) (by kernel_rfl) (by kernel_rfl) (fun _ _ _ h => h) (Or.inl ⟨by rfl, ?hyt2⟩) hHeld ?_
    case hyt2 => (intro w hSw; (try dsimp only at hSw); go_simp; (try with_reducible rfl))
    try simp only [Act.put, List.setIfInBounds_toArray, List.set_cons_zero, List.set_cons_succ]
    refine wpAnyH_take (i := 3) (oi := { dst := some 141, op := Op.binOp BinOp.sub 3 (Operand.tmp 140) (Operand.const (Value.int IntKind.i64 4)) 3, type := 3, pos := "ref.go:93", after := #[{ on := 2, ground := Ground.data }], guard := none }) (v := ?vt3) rfl (by kernel_rfl) (by kernel_rfl) (by kernel_rfl) (fun _ _ _ h => h) (Or.inl ⟨by rfl, ?hyt3⟩) hHeld ?_
    case hyt3 => (intro w hSw; (try dsimp only at hSw); go_simp; (try with_reducible rfl))
    try simp only [Act.put, List.setIfInBounds_toArray, List.set_cons_zero, List.set_cons_succ]
    refine wpAnyH_take (i := 4) (oi := { dst := some 142, op := Op.move (Operand.tmp 12), type := 3, pos := "ref.go:93", after := #[], guard := none }) (v := ?vt4) rfl (by kernel_rfl) (by kernel_rfl) (by kernel_rfl) (fun _ _ _ h => h) (Or.inl ⟨by rfl, ?hyt4⟩) hHeld ?_
    case hyt4 => (intro w hSw; (try dsimp only at hSw); go_simp; (try with_reducible rfl))
    try simp only [Act.put, List.setIfInBounds_toArray, List.set_cons_zero, List.set_cons_succ]
    refine wpAnyH_take (i := 5) (oi := { dst := some 143, op := Op.move (Operand.tmp 0), type := 31, pos := "ref.go:93", after := #[], guard := none }) (v := ?vt5) rfl (by kernel_rfl) (by kernel_rfl) (by kernel_rfl) (fun _ _ _ h => h) (Or.inl ⟨by rfl, ?hyt5⟩) hHeld ?_
    case hyt5 => (intro w hSw; (try dsimp only at hSw); go_simp; (try with_reducible rfl))
    try simp only [Act.put, List.setIfInBounds_toArray, List.set_cons_zero, List.set_cons_succ]
    refine wpAnyH_take (i := 6) (oi := { dst := some 144, op := Op.move (Operand.tmp 1), type := 3, pos := "ref.go:93", after := #[], guard := none }) (v := ?vt6) rfl (by kernel_rfl) (by kernel_rfl) (by kernel_rfl) (fun _ _ _ h => h) (Or.inl ⟨by rfl, ?hyt6⟩) hHeld ?_
    case hyt6 => (intro w hSw; (try dsimp only at hSw); go_simp; (try with_reducible rfl))
    try simp only [Act.put, List.setIfInBounds_toArray, List.set_cons_zero, List.set_cons_succ]
    refine wpAnyH_take (i := 7) (oi := { dst := some 145, op := Op.fieldAddr 35 (Operand.tmp 6) 2, type := 0, pos := "ref.go:93", after := #[], guard := none }) (v := ?vt7) rfl (by kernel_rfl) (by kernel_rfl) (by kernel_rfl) (fun _ _ _ h => h) (Or.inl ⟨by rfl, ?hyt7⟩) hHeld ?_
    case hyt7 => (intro w hSw; (try dsimp only at hSw); go_simp; (try with_reducible rfl))
    try simp only [Act.put, List.setIfInBounds_toArray, List.set_cons_zero, List.set_cons_succ]
    refine wpAnyH_take (i := 8) (oi := { dst := some 146, op := Op.load 3 (Operand.tmp 145), type := 3, pos := "ref.go:93", after := #[{ on := 7, ground := Ground.data }], guard := none }) (v := ?vt8) rfl (by kernel_rfl) (by kernel_rfl) (by kernel_rfl) (fun _ _ _ h => h) (Or.inl ⟨by rfl, ?hyt8⟩) hHeld ?_
    case hyt8 => (intro w hSw; (try dsimp only at hSw); go_simp; (try with_reducible rfl))
    try simp only [Act.put, List.setIfInBounds_toArray, List.set_cons_zero, List.set_cons_succ]
    refine wpAnyH_ready (rs := [9]) (by kernel_rfl) (by simp) ?_
    refine AllReadyH.cons (o := { dst := some 147, op := Op.call { callee := Callee.value (Operand.func 34), args := #[Operand.tmp 143, Operand.tmp 144, Operand.tmp 146], argTypes := #[31, 3, 3] }, type := 41, pos := "ref.go:93", after := #[{ on := 5, ground := Ground.data }, { on := 6, ground := Ground.data }, { on := 8, ground := Ground.data }], guard := none }) rfl (fun K hK => ?_) AllReadyH.nil
    go_simp
    refine (HG.out _ HH2.out.st).mono ?_
    rintro e W3 ⟨rfl, hW3⟩
    have HH3 := Lib.hid (HH2.out.on hW3)
    clear hW3 HH2
    clear x0 x1 x2 x3 x5 o0 o1 o2 o3 hHeld
    obtain ⟨x0, x1, x2, x3, _, x5, _⟩ := HH3.out.st.cells
    obtain ⟨o0, o1, o2, o3, _⟩ := HH3.out.op.cells
    refine hK.out _ _ ?_ (fun hHeld => ?_)
    · exact ⟨o0, o1, o2⟩
    clear hK K
    try simp only [Act.put, List.setIfInBounds_toArray, List.set_cons_zero, List.set_cons_succ]
    refine wpAnyH_ready (rs := [10]) (by kernel_rfl) (by simp) ?_
    refine AllReadyH.cons (o := { dst := some 148, op := Op.call { callee := Callee.value (Operand.func 33), args := #[Operand.tmp 138, Operand.tmp 141, Operand.tmp 142, Operand.const (Value.int IntKind.i64 0), Operand.tmp 147], argTypes := #[31, 3, 3, 3, 41] }, type := 0, pos := "ref.go:93", after := #[{ on := 0, ground := Ground.data }, { on := 3, ground := Ground.data }, { on := 4, ground := Ground.data }, { on := 9, ground := Ground.data }, { on := 9, ground := Ground.chain }], guard := none }) rfl (fun K hK => ?_) AllReadyH.nil
    go_simp
    refine (HP.out _ _ HH3.out.st).mono ?_
    rintro e W4 hP
    obtain ⟨rfl, u2, hP2⟩ := HH3.out.put hP
    have HH4 := Lib.hid hP2
    clear hP hP2 HH3
    clear x0 x1 x2 x3 x5 o0 o1 o2 o3 hHeld
    obtain ⟨x0, x1, x2, x3, _, x5, _⟩ := HH4.out.st.cells
    obtain ⟨o0, o1, o2, o3, _⟩ := HH4.out.op.cells
    refine hK.out _ _ ?_ (fun hHeld => ?_)
    · exact ⟨o0, o1, o2⟩
    clear hK K
    try simp only [Act.put, List.setIfInBounds_toArray, List.set_cons_zero, List.set_cons_succ]
    refine wpAnyH_done (by kernel_rfl) ?_ _
    clear hHeld
    go_wp2_with fail
    go_ret
    rw [HV.out.1, HV.out.2]
    exact (HH4.out.post _).more (by omega) hN
end
end Go.Proofs.YthlpmkjhiifibaaDoor
