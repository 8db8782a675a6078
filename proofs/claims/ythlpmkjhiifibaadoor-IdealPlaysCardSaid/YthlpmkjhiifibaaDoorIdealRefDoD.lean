/- The document's Do: kinds 10. -/
import Derived.Test.YthlpmkjhiifibaaDoorIdealRefDo
namespace Go.Proofs.YthlpmkjhiifibaaDoor
open Go Go.RowKit
set_option maxRecDepth 100000
attribute [local go_sem ↓] Go.wp_at_zero Go.wp_at_succ
section
variable {w : World} {Y : Nat} {u : Value} {b c d : Nat} {s : St} {N : Nat}
set_option maxHeartbeats 3200000 in
theorem refDo_10 (h : DocAt w Y u b c d s N) (_ : Inv b c d s) (m x y z : Int) (hxi : inI x) (hyi : inI y) (hzi : inI z) (full : Bool) (hN : N + 3 ≤ 100000) (_ : s.n + 1 ≤ 1000000) (hg : goodOp b c d m 10 x y z) : Calls Tryd.prog 13 #[.pointer (some ⟨Y, 0, none⟩), .int .i64 m, .agg #[.int .i64 10, .int .i64 x, .int .i64 y, .int .i64 z], .bool full] w (PutPost w Y u b c d (nxtK s m 10 x y z full) (N + 3) (.int .i64 (resK s m 10 x y full))) := by
  have HC := Lib.hid (refCheck_c 2 b c d 10 x y z hxi hyi hzi)
  obtain ⟨_, n1, n2, n3, n4, n5, n6⟩ := hg.nums
  obtain ⟨hm0, hm1, hck⟩ := hg
  rw [hck] at HC
  obtain ⟨m, rfl⟩ := nat_of' hm0
  have hm : m < b := by omega
  have hd2 : decide (b ≤ m) = false := decide_eq_false (by omega)
  have hb := (below_new w (.cells #[.int .i64 10, .int .i64 x, .int .i64 y, .int .i64 z] 35)).drew
  have HH : Hid (RAt w (w.alloc (.cells #[.int .i64 10, .int .i64 x, .int .i64 y, .int .i64 z] 35)).drew Y u u b c d s N 10 x y z) := Lib.hid ⟨h.below hb, Arr4.new _ _ _ _ _ _, fun _ e => .inl e, h.lt, .of hb⟩
  have HG : Hid (∀ W, DocAt W Y u b c d s N → _) := Lib.hid (fun W hW => refReg_c (w := W) hW m x)
  have HG2 : Hid (∀ W, DocAt W Y u b c d s N → _) := Lib.hid (fun W hW => refReg_c (w := W) hW m y)
  have HV : Hid (nxtK s m 10 x y z full = s ∧ resK s m 10 x y full = if s.g 0 m x = s.g 0 m y then 2 else 3) := Lib.hid ⟨by simp [nxtK], by simp [resK]⟩
  generalize s.g 0 m x = v1 at *
  generalize s.g 0 m y = v2 at *
  clear h hb hm hck hm0 hm1 n1 n2 n3 n4 n5 n6 hxi hyi hzi
  obtain ⟨x0, x1, x2, x3, _, x5, _⟩ := HH.out.st.cells
  obtain ⟨o0, o1, o2, o3, _⟩ := HH.out.op.cells
  go_enter Tryd.func13, Tryd.ntmps13
  go_wp2_with fail
  refine wp_region_held_drew (S := (fun w' => w'.cell? ⟨Y, 0, none⟩ = some (.int .i64 2) ∧ w'.cell? ⟨Y, 1, none⟩ = some (.int .i64 b) ∧ w'.cell? ⟨Y, 2, none⟩ = some (.int .i64 c) ∧ w'.cell? ⟨Y, 3, none⟩ = some (.int .i64 d) ∧ w'.cell? ⟨w.heap.size, 0, none⟩ = some (.int .i64 10) ∧ w'.cell? ⟨w.heap.size, 1, none⟩ = some (.int .i64 x) ∧ w'.cell? ⟨w.heap.size, 2, none⟩ = some (.int .i64 y) ∧ w'.cell? ⟨w.heap.size, 3, none⟩ = some (.int .i64 z))) (by kernel_rfl) ?_ (fun hHeld => ?_)
  · exact ⟨x0, x1, x2, x3, o0, o1, o2, o3⟩
  refine wpAnyH_take (i := 0) (oi := { dst := some 13, op := Op.move (Operand.tmp 1), type := 3, pos := "ref.go:64", after := #[], guard := none }) (v := ?vn0) rfl (by kernel_rfl) (by kernel_rfl) (by kernel_rfl) (fun _ _ _ h => h) (Or.inl ⟨by rfl, ?hyn0⟩) hHeld ?_
  case hyn0 => (intro w hSw; (try dsimp only at hSw); go_simp; (try with_reducible rfl))
  try simp only [Act.put, List.setIfInBounds_toArray, List.set_cons_zero, List.set_cons_succ]
  refine wpAnyH_take (i := 1) (oi := { dst := some 14, op := Op.binOp BinOp.lss 3 (Operand.tmp 13) (Operand.const (Value.int IntKind.i64 0)) 3, type := 4, pos := "ref.go:64", after := #[{ on := 0, ground := Ground.data }], guard := none }) (v := ?vn1) rfl (by kernel_rfl) (by kernel_rfl) (by kernel_rfl) (fun _ _ _ h => h) (Or.inl ⟨by rfl, ?hyn1⟩) hHeld ?_
  case hyn1 => (intro w hSw; (try dsimp only at hSw); go_simp; (try with_reducible rfl))
  try simp only [Act.put, List.setIfInBounds_toArray, List.set_cons_zero, List.set_cons_succ]
  refine wpAnyH_take (i := 2) (oi := { dst := some 15, op := Op.move (Operand.tmp 14), type := 4, pos := "ref.go:64", after := #[{ on := 1, ground := Ground.data }], guard := none }) (v := ?vn2) rfl (by kernel_rfl) (by kernel_rfl) (by kernel_rfl) (fun _ _ _ h => h) (Or.inl ⟨by rfl, ?hyn2⟩) hHeld ?_
  case hyn2 => (intro w hSw; (try dsimp only at hSw); go_simp; (try with_reducible rfl))
  try simp only [Act.put, List.setIfInBounds_toArray, List.set_cons_zero, List.set_cons_succ]
  refine wpAnyH_take (i := 3) (oi := { dst := some 16, op := Op.move (Operand.tmp 1), type := 3, pos := "ref.go:64", after := #[{ on := 2, ground := Ground.guard }], guard := some (2, false) }) (v := ?vn3) rfl (by kernel_rfl) (by kernel_rfl) (by kernel_rfl) (fun _ _ _ h => h) (Or.inl ⟨by rfl, ?hyn3⟩) hHeld ?_
  case hyn3 => (intro w hSw; (try dsimp only at hSw); go_simp; (try with_reducible rfl))
  try simp only [Act.put, List.setIfInBounds_toArray, List.set_cons_zero, List.set_cons_succ]
  refine wpAnyH_take (i := 4) (oi := { dst := some 17, op := Op.move (Operand.tmp 0), type := 31, pos := "ref.go:64", after := #[{ on := 2, ground := Ground.guard }], guard := some (2, false) }) (v := ?vn4) rfl (by kernel_rfl) (by kernel_rfl) (by kernel_rfl) (fun _ _ _ h => h) (Or.inl ⟨by rfl, ?hyn4⟩) hHeld ?_
  case hyn4 => (intro w hSw; (try dsimp only at hSw); go_simp; (try with_reducible rfl))
  try simp only [Act.put, List.setIfInBounds_toArray, List.set_cons_zero, List.set_cons_succ]
  refine wpAnyH_take (i := 5) (oi := { dst := some 18, op := Op.nilCheck (Operand.tmp 17), type := 0, pos := "ref.go:64", after := #[{ on := 4, ground := Ground.data }, { on := 2, ground := Ground.guard }], guard := some (2, false) }) (v := ?vn5) rfl (by kernel_rfl) (by kernel_rfl) (by kernel_rfl) (fun _ _ _ h => h) (Or.inl ⟨by rfl, ?hyn5⟩) hHeld ?_
  case hyn5 => (intro w hSw; (try dsimp only at hSw); go_simp; (try with_reducible rfl))
  try simp only [Act.put, List.setIfInBounds_toArray, List.set_cons_zero, List.set_cons_succ]
  refine wpAnyH_take (i := 6) (oi := { dst := some 19, op := Op.fieldAddr 55 (Operand.tmp 18) 0, type := 0, pos := "ref.go:64", after := #[{ on := 5, ground := Ground.data }, { on := 2, ground := Ground.guard }], guard := some (2, false) }) (v := ?vn6) rfl (by kernel_rfl) (by kernel_rfl) (by kernel_rfl) (fun _ _ _ h => h) (Or.inl ⟨by rfl, ?hyn6⟩) hHeld ?_
  case hyn6 => (intro w hSw; (try dsimp only at hSw); go_simp; (try with_reducible rfl))
  try simp only [Act.put, List.setIfInBounds_toArray, List.set_cons_zero, List.set_cons_succ]
  refine wpAnyH_take (i := 7) (oi := { dst := some 20, op := Op.fieldAddr 25 (Operand.tmp 19) 1, type := 0, pos := "ref.go:64", after := #[{ on := 6, ground := Ground.data }, { on := 2, ground := Ground.guard }], guard := some (2, false) }) (v := ?vn7) rfl (by kernel_rfl) (by kernel_rfl) (by kernel_rfl) (fun _ _ _ h => h) (Or.inl ⟨by rfl, ?hyn7⟩) hHeld ?_
  case hyn7 => (intro w hSw; (try dsimp only at hSw); go_simp; (try with_reducible rfl))
  try simp only [Act.put, List.setIfInBounds_toArray, List.set_cons_zero, List.set_cons_succ]
  refine wpAnyH_take (i := 8) (oi := { dst := some 21, op := Op.load 3 (Operand.tmp 20), type := 3, pos := "ref.go:64", after := #[{ on := 7, ground := Ground.data }, { on := 2, ground := Ground.guard }], guard := some (2, false) }) (v := ?vn8) rfl (by kernel_rfl) (by kernel_rfl) (by kernel_rfl) (fun _ _ _ h => h) (Or.inl ⟨by rfl, ?hyn8⟩) hHeld ?_
  case hyn8 => (intro w hSw; (try dsimp only at hSw); go_simp; (try with_reducible rfl))
  try simp only [Act.put, List.setIfInBounds_toArray, List.set_cons_zero, List.set_cons_succ]
  refine wpAnyH_take (i := 9) (oi := { dst := some 22, op := Op.binOp BinOp.geq 3 (Operand.tmp 16) (Operand.tmp 21) 3, type := 4, pos := "ref.go:64", after := #[{ on := 3, ground := Ground.data }, { on := 8, ground := Ground.data }, { on := 2, ground := Ground.guard }], guard := some (2, false) }) (v := ?vn9) rfl (by kernel_rfl) (by kernel_rfl) (by kernel_rfl) (fun _ _ _ h => h) (Or.inl ⟨by rfl, ?hyn9⟩) hHeld ?_
  case hyn9 => (intro w hSw; (try dsimp only at hSw); go_simp; (try with_reducible rfl))
  try simp only [Act.put, List.setIfInBounds_toArray, List.set_cons_zero, List.set_cons_succ]
  refine wpAnyH_take (i := 10) (oi := { dst := some 23, op := Op.pick (Operand.tmp 15) (Operand.const (Value.bool true)) (Operand.tmp 22), type := 4, pos := "ref.go:64", after := #[{ on := 2, ground := Ground.data }, { on := 9, ground := Ground.data }], guard := none }) (v := ?vn10) rfl (by kernel_rfl) (by kernel_rfl) (by kernel_rfl) (fun _ _ _ h => h) (Or.inl ⟨by rfl, ?hyn10⟩) hHeld ?_
  case hyn10 => (intro w hSw; (try dsimp only at hSw); go_simp; (try with_reducible rfl))
  try simp only [Act.put, List.setIfInBounds_toArray, List.set_cons_zero, List.set_cons_succ]
  refine wpAnyH_take (i := 11) (oi := { dst := some 24, op := Op.move (Operand.tmp 23), type := 4, pos := "ref.go:64", after := #[{ on := 10, ground := Ground.data }, { on := 2, ground := Ground.chain }], guard := none }) (v := ?vn11) rfl (by kernel_rfl) (by kernel_rfl) (by kernel_rfl) (fun _ _ _ h => h) (Or.inl ⟨by rfl, ?hyn11⟩) hHeld ?_
  case hyn11 => (intro w hSw; (try dsimp only at hSw); go_simp; (try with_reducible rfl))
  try simp only [Act.put, List.setIfInBounds_toArray, List.set_cons_zero, List.set_cons_succ]
  refine wpAnyH_take (i := 12) (oi := { dst := some 25, op := Op.move (Operand.tmp 0), type := 31, pos := "ref.go:64", after := #[{ on := 11, ground := Ground.guard }], guard := some (11, false) }) (v := ?vn12) rfl (by kernel_rfl) (by kernel_rfl) (by kernel_rfl) (fun _ _ _ h => h) (Or.inl ⟨by rfl, ?hyn12⟩) hHeld ?_
  case hyn12 => (intro w hSw; (try dsimp only at hSw); go_simp; (try with_reducible rfl))
  try simp only [Act.put, List.setIfInBounds_toArray, List.set_cons_zero, List.set_cons_succ]
  refine wpAnyH_take (i := 13) (oi := { dst := some 26, op := Op.nilCheck (Operand.tmp 25), type := 0, pos := "ref.go:64", after := #[{ on := 12, ground := Ground.data }, { on := 11, ground := Ground.guard }], guard := some (11, false) }) (v := ?vn13) rfl (by kernel_rfl) (by kernel_rfl) (by kernel_rfl) (fun _ _ _ h => h) (Or.inl ⟨by rfl, ?hyn13⟩) hHeld ?_
  case hyn13 => (intro w hSw; (try dsimp only at hSw); go_simp; (try with_reducible rfl))
  try simp only [Act.put, List.setIfInBounds_toArray, List.set_cons_zero, List.set_cons_succ]
  refine wpAnyH_take (i := 14) (oi := { dst := some 27, op := Op.fieldAddr 55 (Operand.tmp 26) 0, type := 0, pos := "ref.go:64", after := #[{ on := 13, ground := Ground.data }, { on := 11, ground := Ground.guard }], guard := some (11, false) }) (v := ?vn14) rfl (by kernel_rfl) (by kernel_rfl) (by kernel_rfl) (fun _ _ _ h => h) (Or.inl ⟨by rfl, ?hyn14⟩) hHeld ?_
  case hyn14 => (intro w hSw; (try dsimp only at hSw); go_simp; (try with_reducible rfl))
  try simp only [Act.put, List.setIfInBounds_toArray, List.set_cons_zero, List.set_cons_succ]
  refine wpAnyH_take (i := 15) (oi := { dst := some 28, op := Op.load 25 (Operand.tmp 27), type := 25, pos := "ref.go:64", after := #[{ on := 14, ground := Ground.data }, { on := 11, ground := Ground.guard }], guard := some (11, false) }) (v := ?vn15) rfl (by kernel_rfl) (by kernel_rfl) (by kernel_rfl) (fun _ _ _ h => h) (Or.inl ⟨by rfl, ?hyn15⟩) hHeld ?_
  case hyn15 => (intro w hSw; (try dsimp only at hSw); go_simp; (try with_reducible rfl))
  try simp only [Act.put, List.setIfInBounds_toArray, List.set_cons_zero, List.set_cons_succ]
  refine wpAnyH_take (i := 16) (oi := { dst := some 29, op := Op.load 35 (Operand.tmp 6), type := 35, pos := "ref.go:64", after := #[{ on := 11, ground := Ground.guard }], guard := some (11, false) }) (v := ?vn16) rfl (by kernel_rfl) (by kernel_rfl) (by kernel_rfl) (fun _ _ _ h => h) (Or.inl ⟨by rfl, ?hyn16⟩) hHeld ?_
  case hyn16 => (intro w hSw; (try dsimp only at hSw); go_simp; (try with_reducible rfl))
  try simp only [Act.put, List.setIfInBounds_toArray, List.set_cons_zero, List.set_cons_succ]
  refine wpAnyH_ready (rs := [17]) (by kernel_rfl) (by simp) ?_
  refine AllReadyH.cons (o := { dst := some 30, op := Op.call { callee := Callee.value (Operand.func 32), args := #[Operand.tmp 28, Operand.tmp 29], argTypes := #[25, 35] }, type := 3, pos := "ref.go:64", after := #[{ on := 15, ground := Ground.data }, { on := 16, ground := Ground.data }, { on := 11, ground := Ground.chain }, { on := 11, ground := Ground.guard }], guard := some (11, false) }) rfl (fun K hK => ?_) AllReadyH.nil
  go_simp
  refine (HC.out _).mono ?_
  rintro e W1 ⟨rfl, hW1⟩
  have HH1 := Lib.hid (HH.out.on hW1)
  clear hW1 HH HC
  clear x0 x1 x2 x3 x5 o0 o1 o2 o3 hHeld
  obtain ⟨x0, x1, x2, x3, _, x5, _⟩ := HH1.out.st.cells
  obtain ⟨o0, o1, o2, o3, _⟩ := HH1.out.op.cells
  refine hK.out _ _ ?_ (fun hHeld => ?_)
  · exact ⟨x0, x1, x2, x3, o0, o1, o2, o3⟩
  clear hK K
  try simp only [Act.put, List.setIfInBounds_toArray, List.set_cons_zero, List.set_cons_succ]
  refine wpAnyH_take (i := 18) (oi := { dst := some 31, op := Op.binOp BinOp.neq 3 (Operand.tmp 30) (Operand.const (Value.int IntKind.i64 0)) 3, type := 4, pos := "ref.go:64", after := #[{ on := 17, ground := Ground.data }, { on := 11, ground := Ground.guard }], guard := some (11, false) }) (v := ?vn18) rfl (by kernel_rfl) (by kernel_rfl) (by kernel_rfl) (fun _ _ _ h => h) (Or.inl ⟨by rfl, ?hyn18⟩) hHeld ?_
  case hyn18 => (intro w hSw; (try dsimp only at hSw); go_simp; (try with_reducible rfl))
  try simp only [Act.put, List.setIfInBounds_toArray, List.set_cons_zero, List.set_cons_succ]
  refine wpAnyH_take (i := 19) (oi := { dst := some 32, op := Op.pick (Operand.tmp 24) (Operand.const (Value.bool true)) (Operand.tmp 31), type := 4, pos := "ref.go:64", after := #[{ on := 11, ground := Ground.data }, { on := 18, ground := Ground.data }], guard := none }) (v := ?vn19) rfl (by kernel_rfl) (by kernel_rfl) (by kernel_rfl) (fun _ _ _ h => h) (Or.inl ⟨by rfl, ?hyn19⟩) hHeld ?_
  case hyn19 => (intro w hSw; (try dsimp only at hSw); go_simp; (try with_reducible rfl))
  try simp only [Act.put, List.setIfInBounds_toArray, List.set_cons_zero, List.set_cons_succ]
  refine wpAnyH_done (by kernel_rfl) ?_ _
  clear hHeld
  by_cases ee : v1 = v2
  · subst ee
    have HT := Lib.hid (refTruth_c true)
    simp only [if_true] at HT HV
    go_wp2_with fail
    have HHd := Lib.hid (HH1.out.on (W' := W1.drew) (Below.refl _ _).drew)
    clear HH1
    have HH1 := HHd
    clear HHd
    clear x0 x1 x2 x3 x5 o0 o1 o2 o3
    obtain ⟨x0, x1, x2, x3, _, x5, _⟩ := HH1.out.st.cells
    obtain ⟨o0, o1, o2, o3, _⟩ := HH1.out.op.cells
    refine wp_region_held_drew (S := (fun w' => w'.cell? ⟨w.heap.size, 1, none⟩ = some (.int .i64 x) ∧ w'.cell? ⟨w.heap.size, 2, none⟩ = some (.int .i64 y))) (by kernel_rfl) ?_ (fun hHeld => ?_)
    · exact ⟨o1, o2⟩
    refine wpAnyH_take (i := 0) (oi := { dst := some 173, op := Op.move (Operand.tmp 0), type := 31, pos := "ref.go:99", after := #[], guard := none }) (v := ?ve0) rfl (by kernel_rfl) (by kernel_rfl) (by kernel_rfl) (fun _ _ _ h => h) (Or.inl ⟨by rfl, ?hye0⟩) hHeld ?_
    case hye0 => (intro w hSw; (try dsimp only at hSw); go_simp; (try with_reducible rfl))
    try simp only [Act.put, List.setIfInBounds_toArray, List.set_cons_zero, List.set_cons_succ]
    refine wpAnyH_take (i := 1) (oi := { dst := some 174, op := Op.move (Operand.tmp 1), type := 3, pos := "ref.go:99", after := #[], guard := none }) (v := ?ve1) rfl (by kernel_rfl) (by kernel_rfl) (by kernel_rfl) (fun _ _ _ h => h) (Or.inl ⟨by rfl, ?hye1⟩) hHeld ?_
    case hye1 => (intro w hSw; (try dsimp only at hSw); go_simp; (try with_reducible rfl))
    try simp only [Act.put, List.setIfInBounds_toArray, List.set_cons_zero, List.set_cons_succ]
    refine wpAnyH_take (i := 2) (oi := { dst := some 175, op := Op.fieldAddr 35 (Operand.tmp 6) 1, type := 0, pos := "ref.go:99", after := #[], guard := none }) (v := ?ve2) rfl (by kernel_rfl) (by kernel_rfl) (by kernel_rfl) (fun _ _ _ h => h) (Or.inl ⟨by rfl, ?hye2⟩) hHeld ?_
    case hye2 => (intro w hSw; (try dsimp only at hSw); go_simp; (try with_reducible rfl))
    try simp only [Act.put, List.setIfInBounds_toArray, List.set_cons_zero, List.set_cons_succ]
    refine wpAnyH_take (i := 3) (oi := { dst := some 176, op := Op.load 3 (Operand.tmp 175), type := 3, pos := "ref.go:99", after := #[{ on := 2, ground := Ground.data }], guard := none }) (v := ?ve3) rfl (by kernel_rfl) (by kernel_rfl) (by kernel_rfl) (fun _ _ _ h => h) (Or.inl ⟨by rfl, ?hye3⟩) hHeld ?_
    case hye3 => (intro w hSw; (try dsimp only at hSw); go_simp; (try with_reducible rfl))
    try simp only [Act.put, List.setIfInBounds_toArray, List.set_cons_zero, List.set_cons_succ]
    refine wpAnyH_take (i := 5) (oi := { dst := some 178, op := Op.move (Operand.tmp 0), type := 31, pos := "ref.go:99", after := #[], guard := none }) (v := ?ve5) rfl (by kernel_rfl) (by kernel_rfl) (by kernel_rfl) (fun _ _ _ h => h) (Or.inl ⟨by rfl, ?hye5⟩) hHeld ?_
    case hye5 => (intro w hSw; (try dsimp only at hSw); go_simp; (try with_reducible rfl))
    try simp only [Act.put, List.setIfInBounds_toArray, List.set_cons_zero, List.set_cons_succ]
    refine wpAnyH_take (i := 6) (oi := { dst := some 179, op := Op.move (Operand.tmp 1), type := 3, pos := "ref.go:99", after := #[], guard := none }) (v := ?ve6) rfl (by kernel_rfl) (by kernel_rfl) (by kernel_rfl) (fun _ _ _ h => h) (Or.inl ⟨by rfl, ?hye6⟩) hHeld ?_
    case hye6 => (intro w hSw; (try dsimp only at hSw); go_simp; (try with_reducible rfl))
    try simp only [Act.put, List.setIfInBounds_toArray, List.set_cons_zero, List.set_cons_succ]
    refine wpAnyH_take (i := 7) (oi := { dst := some 180, op := Op.fieldAddr 35 (Operand.tmp 6) 2, type := 0, pos := "ref.go:99", after := #[], guard := none }) (v := ?ve7) rfl (by kernel_rfl) (by kernel_rfl) (by kernel_rfl) (fun _ _ _ h => h) (Or.inl ⟨by rfl, ?hye7⟩) hHeld ?_
    case hye7 => (intro w hSw; (try dsimp only at hSw); go_simp; (try with_reducible rfl))
    try simp only [Act.put, List.setIfInBounds_toArray, List.set_cons_zero, List.set_cons_succ]
    refine wpAnyH_take (i := 8) (oi := { dst := some 181, op := Op.load 3 (Operand.tmp 180), type := 3, pos := "ref.go:99", after := #[{ on := 7, ground := Ground.data }], guard := none }) (v := ?ve8) rfl (by kernel_rfl) (by kernel_rfl) (by kernel_rfl) (fun _ _ _ h => h) (Or.inl ⟨by rfl, ?hye8⟩) hHeld ?_
    case hye8 => (intro w hSw; (try dsimp only at hSw); go_simp; (try with_reducible rfl))
    try simp only [Act.put, List.setIfInBounds_toArray, List.set_cons_zero, List.set_cons_succ]
    refine wpAnyH_ready (rs := [4]) (by kernel_rfl) (by simp) ?_
    refine AllReadyH.cons (o := { dst := some 177, op := Op.call { callee := Callee.value (Operand.func 34), args := #[Operand.tmp 173, Operand.tmp 174, Operand.tmp 176], argTypes := #[31, 3, 3] }, type := 41, pos := "ref.go:99", after := #[{ on := 0, ground := Ground.data }, { on := 1, ground := Ground.data }, { on := 3, ground := Ground.data }], guard := none }) rfl (fun K hK => ?_) AllReadyH.nil
    go_simp
    refine (HG.out _ HH1.out.st).mono ?_
    rintro e W2 ⟨rfl, hW2⟩
    have HH2 := Lib.hid (HH1.out.on hW2)
    clear hW2 HH1
    clear x0 x1 x2 x3 x5 o0 o1 o2 o3 hHeld
    obtain ⟨x0, x1, x2, x3, _, x5, _⟩ := HH2.out.st.cells
    obtain ⟨o0, o1, o2, o3, _⟩ := HH2.out.op.cells
    refine hK.out _ _ ?_ (fun hHeld => ?_)
    · exact ⟨o1, o2⟩
    clear hK K
    try simp only [Act.put, List.setIfInBounds_toArray, List.set_cons_zero, List.set_cons_succ]
    refine wpAnyH_ready (rs := [9]) (by kernel_rfl) (by simp) ?_
    refine AllReadyH.cons (o := { dst := some 182, op := Op.call { callee := Callee.value (Operand.func 34), args := #[Operand.tmp 178, Operand.tmp 179, Operand.tmp 181], argTypes := #[31, 3, 3] }, type := 41, pos := "ref.go:99", after := #[{ on := 5, ground := Ground.data }, { on := 6, ground := Ground.data }, { on := 8, ground := Ground.data }, { on := 4, ground := Ground.chain }], guard := none }) rfl (fun K hK => ?_) AllReadyH.nil
    go_simp
    refine (HG2.out _ HH2.out.st).mono ?_
    rintro e W3 ⟨rfl, hW3⟩
    have HH3 := Lib.hid (HH2.out.on hW3)
    clear hW3 HH2
    clear x0 x1 x2 x3 x5 o0 o1 o2 o3 hHeld
    obtain ⟨x0, x1, x2, x3, _, x5, _⟩ := HH3.out.st.cells
    obtain ⟨o0, o1, o2, o3, _⟩ := HH3.out.op.cells
    refine hK.out _ _ ?_ (fun hHeld => ?_)
    · exact ⟨o1, o2⟩
    clear hK K
    try simp only [Act.put, List.setIfInBounds_toArray, List.set_cons_zero, List.set_cons_succ]
    refine wpAnyH_take (i := 10) (oi := { dst := some 183, op := Op.binOp BinOp.eql 41 (Operand.tmp 177) (Operand.tmp 182) 41, type := 4, pos := "ref.go:99", after := #[{ on := 4, ground := Ground.data }, { on := 9, ground := Ground.data }], guard := none }) (v := ?ve10) rfl (by kernel_rfl) (by kernel_rfl) (by kernel_rfl) (fun _ _ _ h => h) (Or.inl ⟨by rfl, ?hye10⟩) hHeld ?_
    case hye10 => (intro w hSw; (try dsimp only at hSw); go_simp; (try with_reducible rfl))
    try simp only [Act.put, List.setIfInBounds_toArray, List.set_cons_zero, List.set_cons_succ]
    refine wpAnyH_ready (rs := [11]) (by kernel_rfl) (by simp) ?_
    refine AllReadyH.cons (o := { dst := some 184, op := Op.call { callee := Callee.value (Operand.func 37), args := #[Operand.tmp 183], argTypes := #[4] }, type := 3, pos := "ref.go:99", after := #[{ on := 10, ground := Ground.data }, { on := 9, ground := Ground.chain }], guard := none }) rfl (fun K hK => ?_) AllReadyH.nil
    go_simp
    refine (HT.out _).mono ?_
    rintro e W4 ⟨rfl, hW4⟩
    have HH4 := Lib.hid (HH3.out.on (W' := W4) (by rw [← hW4]; exact Below.refl _ _))
    clear hW4 HH3
    clear x0 x1 x2 x3 x5 o0 o1 o2 o3 hHeld
    obtain ⟨x0, x1, x2, x3, _, x5, _⟩ := HH4.out.st.cells
    obtain ⟨o0, o1, o2, o3, _⟩ := HH4.out.op.cells
    refine hK.out _ _ ?_ (fun hHeld => ?_)
    · exact ⟨o1, o2⟩
    clear hK K
    try simp only [Act.put, List.setIfInBounds_toArray, List.set_cons_zero, List.set_cons_succ]
    refine wpAnyH_take (i := 12) (oi := { dst := some 8, op := Op.assign (Operand.tmp 184), type := 3, pos := "ref.go:99", after := #[{ on := 11, ground := Ground.data }, { on := 11, ground := Ground.chain }, { on := 0, ground := Ground.phase }, { on := 1, ground := Ground.phase }, { on := 2, ground := Ground.phase }, { on := 3, ground := Ground.phase }, { on := 4, ground := Ground.phase }, { on := 5, ground := Ground.phase }, { on := 6, ground := Ground.phase }, { on := 7, ground := Ground.phase }, { on := 8, ground := Ground.phase }, { on := 9, ground := Ground.phase }, { on := 10, ground := Ground.phase }, { on := 11, ground := Ground.phase }], guard := none }) (v := ?ve12) rfl (by kernel_rfl) (by kernel_rfl) (by kernel_rfl) (fun _ _ _ h => h) (Or.inl ⟨by rfl, ?hye12⟩) hHeld ?_
    case hye12 => (intro w hSw; (try dsimp only at hSw); go_simp; (try with_reducible rfl))
    try simp only [Act.put, List.setIfInBounds_toArray, List.set_cons_zero, List.set_cons_succ]
    refine wpAnyH_done (by kernel_rfl) ?_ _
    clear hHeld
    go_wp2_with fail
    go_ret
    rw [HV.out.1, HV.out.2]
    exact (HH4.out.post _).more (by omega) hN
  · have HT := Lib.hid (refTruth_c false)
    simp only [Bool.false_eq_true, if_false] at HT
    rw [if_neg ee] at HV
    have q : ¬ (v1 : Int) = (v2 : Int) := by omega
    have e' : ((v1 : Int) == (v2 : Int)) = false := by simpa using q
    clear q ee
    go_wp2_with fail
    have HHd := Lib.hid (HH1.out.on (W' := W1.drew) (Below.refl _ _).drew)
    clear HH1
    have HH1 := HHd
    clear HHd
    clear x0 x1 x2 x3 x5 o0 o1 o2 o3
    obtain ⟨x0, x1, x2, x3, _, x5, _⟩ := HH1.out.st.cells
    obtain ⟨o0, o1, o2, o3, _⟩ := HH1.out.op.cells
    refine wp_region_held_drew (S := (fun w' => w'.cell? ⟨w.heap.size, 1, none⟩ = some (.int .i64 x) ∧ w'.cell? ⟨w.heap.size, 2, none⟩ = some (.int .i64 y))) (by kernel_rfl) ?_ (fun hHeld => ?_)
    · exact ⟨o1, o2⟩
    refine wpAnyH_take (i := 0) (oi := { dst := some 173, op := Op.move (Operand.tmp 0), type := 31, pos := "ref.go:99", after := #[], guard := none }) (v := ?vf0) rfl (by kernel_rfl) (by kernel_rfl) (by kernel_rfl) (fun _ _ _ h => h) (Or.inl ⟨by rfl, ?hyf0⟩) hHeld ?_
    case hyf0 => (intro w hSw; (try dsimp only at hSw); go_simp; (try with_reducible rfl))
    try simp only [Act.put, List.setIfInBounds_toArray, List.set_cons_zero, List.set_cons_succ]
    refine wpAnyH_take (i := 1) (oi := { dst := some 174, op := Op.move (Operand.tmp 1), type := 3, pos := "ref.go:99", after := #[], guard := none }) (v := ?vf1) rfl (by kernel_rfl) (by kernel_rfl) (by kernel_rfl) (fun _ _ _ h => h) (Or.inl ⟨by rfl, ?hyf1⟩) hHeld ?_
    case hyf1 => (intro w hSw; (try dsimp only at hSw); go_simp; (try with_reducible rfl))
    try simp only [Act.put, List.setIfInBounds_toArray, List.set_cons_zero, List.set_cons_succ]
    refine wpAnyH_take (i := 2) (oi := { dst := some 175, op := Op.fieldAddr 35 (Operand.tmp 6) 1, type := 0, pos := "ref.go:99", after := #[], guard := none }) (v := ?vf2) rfl (by kernel_rfl) (by kernel_rfl) (by kernel_rfl) (fun _ _ _ h => h) (Or.inl ⟨by rfl, ?hyf2⟩) hHeld ?_
    case hyf2 => (intro w hSw; (try dsimp only at hSw); go_simp; (try with_reducible rfl))
    try simp only [Act.put, List.setIfInBounds_toArray, List.set_cons_zero, List.set_cons_succ]
    refine wpAnyH_take (i := 3) (oi := { dst := some 176, op := Op.load 3 (Operand.tmp 175), type := 3, pos := "ref.go:99", after := #[{ on := 2, ground := Ground.data }], guard := none }) (v := ?vf3) rfl (by kernel_rfl) (by kernel_rfl) (by kernel_rfl) (fun _ _ _ h => h) (Or.inl ⟨by rfl, ?hyf3⟩) hHeld ?_
    case hyf3 => (intro w hSw; (try dsimp only at hSw); go_simp; (try with_reducible rfl))
    try simp only [Act.put, List.setIfInBounds_toArray, List.set_cons_zero, List.set_cons_succ]
    refine wpAnyH_take (i := 5) (oi := { dst := some 178, op := Op.move (Operand.tmp 0), type := 31, pos := "ref.go:99", after := #[], guard := none }) (v := ?vf5) rfl (by kernel_rfl) (by kernel_rfl) (by kernel_rfl) (fun _ _ _ h => h) (Or.inl ⟨by rfl, ?hyf5⟩) hHeld ?_
    case hyf5 => (intro w hSw; (try dsimp only at hSw); go_simp; (try with_reducible rfl))
    try simp only [Act.put, List.setIfInBounds_toArray, List.set_cons_zero, List.set_cons_succ]
    refine wpAnyH_take (i := 6) (oi := { dst := some 179, op := Op.move (Operand.tmp 1), type := 3, pos := "ref.go:99", after := #[], guard := none }) (v := ?vf6) rfl (by kernel_rfl) (by kernel_rfl) (by kernel_rfl) (fun _ _ _ h => h) (Or.inl ⟨by rfl, ?hyf6⟩) hHeld ?_
    case hyf6 => (intro w hSw; (try dsimp only at hSw); go_simp; (try with_reducible rfl))
    try simp only [Act.put, List.setIfInBounds_toArray, List.set_cons_zero, List.set_cons_succ]
    refine wpAnyH_take (i := 7) (oi := { dst := some 180, op := Op.fieldAddr 35 (Operand.tmp 6) 2, type := 0, pos := "ref.go:99", after := #[], guard := none }) (v := ?vf7) rfl (by kernel_rfl) (by kernel_rfl) (by kernel_rfl) (fun _ _ _ h => h) (Or.inl ⟨by rfl, ?hyf7⟩) hHeld ?_
    case hyf7 => (intro w hSw; (try dsimp only at hSw); go_simp; (try with_reducible rfl))
    try simp only [Act.put, List.setIfInBounds_toArray, List.set_cons_zero, List.set_cons_succ]
    refine wpAnyH_take (i := 8) (oi := { dst := some 181, op := Op.load 3 (Operand.tmp 180), type := 3, pos := "ref.go:99", after := #[{ on := 7, ground := Ground.data }], guard := none }) (v := ?vf8) rfl (by kernel_rfl) (by kernel_rfl) (by kernel_rfl) (fun _ _ _ h => h) (Or.inl ⟨by rfl, ?hyf8⟩) hHeld ?_
    case hyf8 => (intro w hSw; (try dsimp only at hSw); go_simp; (try with_reducible rfl))
    try simp only [Act.put, List.setIfInBounds_toArray, List.set_cons_zero, List.set_cons_succ]
    refine wpAnyH_ready (rs := [4]) (by kernel_rfl) (by simp) ?_
    refine AllReadyH.cons (o := { dst := some 177, op := Op.call { callee := Callee.value (Operand.func 34), args := #[Operand.tmp 173, Operand.tmp 174, Operand.tmp 176], argTypes := #[31, 3, 3] }, type := 41, pos := "ref.go:99", after := #[{ on := 0, ground := Ground.data }, { on := 1, ground := Ground.data }, { on := 3, ground := Ground.data }], guard := none }) rfl (fun K hK => ?_) AllReadyH.nil
    go_simp
    refine (HG.out _ HH1.out.st).mono ?_
    rintro e W2 ⟨rfl, hW2⟩
    have HH2 := Lib.hid (HH1.out.on hW2)
    clear hW2 HH1
    clear x0 x1 x2 x3 x5 o0 o1 o2 o3 hHeld
    obtain ⟨x0, x1, x2, x3, _, x5, _⟩ := HH2.out.st.cells
    obtain ⟨o0, o1, o2, o3, _⟩ := HH2.out.op.cells
    refine hK.out _ _ ?_ (fun hHeld => ?_)
    · exact ⟨o1, o2⟩
    clear hK K
    try simp only [Act.put, List.setIfInBounds_toArray, List.set_cons_zero, List.set_cons_succ]
    refine wpAnyH_ready (rs := [9]) (by kernel_rfl) (by simp) ?_
    refine AllReadyH.cons (o := { dst := some 182, op := Op.call { callee := Callee.value (Operand.func 34), args := #[Operand.tmp 178, Operand.tmp 179, Operand.tmp 181], argTypes := #[31, 3, 3] }, type := 41, pos := "ref.go:99", after := #[{ on := 5, ground := Ground.data }, { on := 6, ground := Ground.data }, { on := 8, ground := Ground.data }, { on := 4, ground := Ground.chain }], guard := none }) rfl (fun K hK => ?_) AllReadyH.nil
    go_simp
    refine (HG2.out _ HH2.out.st).mono ?_
    rintro e W3 ⟨rfl, hW3⟩
    have HH3 := Lib.hid (HH2.out.on hW3)
    clear hW3 HH2
    clear x0 x1 x2 x3 x5 o0 o1 o2 o3 hHeld
    obtain ⟨x0, x1, x2, x3, _, x5, _⟩ := HH3.out.st.cells
    obtain ⟨o0, o1, o2, o3, _⟩ := HH3.out.op.cells
    refine hK.out _ _ ?_ (fun hHeld => ?_)
    · exact ⟨o1, o2⟩
    clear hK K
    try simp only [Act.put, List.setIfInBounds_toArray, List.set_cons_zero, List.set_cons_succ]
    refine wpAnyH_take (i := 10) (oi := { dst := some 183, op := Op.binOp BinOp.eql 41 (Operand.tmp 177) (Operand.tmp 182) 41, type := 4, pos := "ref.go:99", after := #[{ on := 4, ground := Ground.data }, { on := 9, ground := Ground.data }], guard := none }) (v := .bool false) rfl (by kernel_rfl) (by kernel_rfl) (by kernel_rfl) (fun _ _ _ h => h) (Or.inl ⟨by rfl, ?hyf10⟩) hHeld ?_
    case hyf10 => (intro w hSw; (try dsimp only at hSw); go_simp; (try with_reducible rfl))
    try simp only [Act.put, List.setIfInBounds_toArray, List.set_cons_zero, List.set_cons_succ]
    refine wpAnyH_ready (rs := [11]) (by kernel_rfl) (by simp) ?_
    refine AllReadyH.cons (o := { dst := some 184, op := Op.call { callee := Callee.value (Operand.func 37), args := #[Operand.tmp 183], argTypes := #[4] }, type := 3, pos := "ref.go:99", after := #[{ on := 10, ground := Ground.data }, { on := 9, ground := Ground.chain }], guard := none }) rfl (fun K hK => ?_) AllReadyH.nil
    go_simp
    refine (HT.out _).mono ?_
    rintro e W4 ⟨rfl, hW4⟩
    have HH4 := Lib.hid (HH3.out.on (W' := W4) (by rw [← hW4]; exact Below.refl _ _))
    clear hW4 HH3
    clear x0 x1 x2 x3 x5 o0 o1 o2 o3 hHeld
    obtain ⟨x0, x1, x2, x3, _, x5, _⟩ := HH4.out.st.cells
    obtain ⟨o0, o1, o2, o3, _⟩ := HH4.out.op.cells
    refine hK.out _ _ ?_ (fun hHeld => ?_)
    · exact ⟨o1, o2⟩
    clear hK K
    try simp only [Act.put, List.setIfInBounds_toArray, List.set_cons_zero, List.set_cons_succ]
    refine wpAnyH_take (i := 12) (oi := { dst := some 8, op := Op.assign (Operand.tmp 184), type := 3, pos := "ref.go:99", after := #[{ on := 11, ground := Ground.data }, { on := 11, ground := Ground.chain }, { on := 0, ground := Ground.phase }, { on := 1, ground := Ground.phase }, { on := 2, ground := Ground.phase }, { on := 3, ground := Ground.phase }, { on := 4, ground := Ground.phase }, { on := 5, ground := Ground.phase }, { on := 6, ground := Ground.phase }, { on := 7, ground := Ground.phase }, { on := 8, ground := Ground.phase }, { on := 9, ground := Ground.phase }, { on := 10, ground := Ground.phase }, { on := 11, ground := Ground.phase }], guard := none }) (v := ?vf12) rfl (by kernel_rfl) (by kernel_rfl) (by kernel_rfl) (fun _ _ _ h => h) (Or.inl ⟨by rfl, ?hyf12⟩) hHeld ?_
    case hyf12 => (intro w hSw; (try dsimp only at hSw); go_simp; (try with_reducible rfl))
    try simp only [Act.put, List.setIfInBounds_toArray, List.set_cons_zero, List.set_cons_succ]
    refine wpAnyH_done (by kernel_rfl) ?_ _
    clear hHeld
    go_wp2_with fail
    go_ret
    rw [HV.out.1, HV.out.2]
    exact (HH4.out.post _).more (by omega) hN
end
end Go.Proofs.YthlpmkjhiifibaaDoor
