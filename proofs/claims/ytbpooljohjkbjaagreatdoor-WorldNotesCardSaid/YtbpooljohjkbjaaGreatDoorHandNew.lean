/- Package hand's From and New, for every configuration and all words. -/
import Derived.Test.YtbpooljohjkbjaaGreatDoorM3
namespace Go.Proofs.YtbpooljohjkbjaaGreatDoor
open Go Go.RowKit
set_option maxRecDepth 100000
attribute [local go_sem ↓] Go.wp_at_zero Go.wp_at_succ
def FromPost (w : World) (n : Nat) (f : Nat → Int) (a b c d : Int) (e : Ending) (w' : World) : Prop :=
  ∃ H A G, e = .returned (.tuple #[.pointer (some ⟨H, 0, none⟩), .int .i64 0]) ∧ HandAt w' H A G n f a b c d 0 0 0 0 0 ∧ Below w.heap.size w w' ∧ w.heap.size ≤ H ∧ w.heap.size ≤ A ∧ w.heap.size ≤ G
theorem From_wrong (a b c d : Int) (hr : ¬ Right a b c d) (va : Option Addr) (n cap : Nat) (w : World) (hS : SpansAt w) :
    Calls Tryz.prog 39 #[.agg #[.int .i64 a, .int .i64 b, .int .i64 c, .int .i64 d], .slice va n cap] w fun e w' => e = .returned (.tuple #[.pointer none, .int .i64 2]) ∧ Below w.heap.size w w' := by
  have hb := below_new w (.cells #[.int .i64 a, .int .i64 b, .int .i64 c, .int .i64 d] 23)
  have HX := Lib.hid (BoxAt.new w a b c d 23)
  have HN := Lib.hid (New_wrong a b c d hr _ (hS.below hb))
  have HB := Lib.hid hb
  clear hr hS hb
  obtain ⟨x0, x1, x2, x3⟩ := HX.out
  go_enter Tryz.func39, Tryz.ntmps39
  go_wp2_with fail
  refine HN.out.mono ?_
  rintro e W ⟨rfl, hW⟩
  have HB1 := Lib.hid (below_on (belowOn HB.out hW) (.cells #[.int .i64 0, .int .i64 0, .int .i64 0, .int .i64 0] 88))
  clear hW
  go_wp2_with fail
  go_ret2
  exact ⟨rfl, HB1.out⟩
theorem HandAt.new {w : World} {A G n : Nat} {f : Nat → Int} (h : ArenaAt w A G n f) (a b c d : Int) :
    HandAt (w.alloc (.cells #[.pointer (some ⟨A, 0, none⟩), .int .i64 a, .int .i64 b, .int .i64 c, .int .i64 d, .int .i64 0, .int .i64 0, .int .u64 0, .int .u64 0, .int .u64 0] 90)) w.heap.size A G n f a b c d 0 0 0 0 0 :=
  ⟨by have := h.lt; omega, by have := h.row.lt; omega, newBlock _ _, h.below (below_new _ _)⟩
set_option maxHeartbeats 1600000 in
theorem From_right (a b c d : Int) (hr : Right a b c d) (va : Option Addr) (n cap : Nat) (f : Nat → Int) (hn : (n : Int) = 5 + b + d + b * c + 3 * a) (w : World) (hS : SpansAt w) (hW : WordsAt w va n f) :
    Calls Tryz.prog 39 #[.agg #[.int .i64 a, .int .i64 b, .int .i64 c, .int .i64 d], .slice va n cap] w (FromPost w n f a b c d) := by
  have hb := below_new w (.cells #[.int .i64 a, .int .i64 b, .int .i64 c, .int .i64 d] 23)
  have HX := Lib.hid (BoxAt.new w a b c d 23)
  have HN := Lib.hid (New_right a b c d hr _ (hS.below hb))
  have HB := Lib.hid hb
  have HS := Lib.hid hS
  have HL := Lib.hid hW
  have hn20 : n ≤ 20000 := by have := hr.prod; unfold Right at hr; omega
  have hz := Size_c a b c d
  rw [sizeP_right hr, ← hn] at hz
  have HZ := Lib.hid hz
  clear hr hS hb hz hW hn
  obtain ⟨x0, x1, x2, x3⟩ := HX.out
  go_enter Tryz.func39, Tryz.ntmps39
  go_wp2_with fail
  refine HN.out.mono ?_
  rintro e W ⟨rfl, hW⟩
  have HB1 := Lib.hid (below_on (belowOn HB.out hW) (.cells #[.int .i64 a, .int .i64 b, .int .i64 c, .int .i64 d] 88))
  have HM1 := Lib.hid (BoxAt.new W a b c d 88)
  obtain ⟨m0, m1, m2, m3⟩ := HM1.out
  clear hW x0 x1 x2 x3 HN HX
  go_wp2_with fail
  refine (HZ.out _ (HS.out.below HB1.out)).mono ?_
  rintro e W1 ⟨rfl, hW⟩
  have HB2 : Hid (Below w.heap.size w W1.drew) := Lib.hid (belowOn HB1.out hW).drew
  have HM2 : Hid (BoxAt W1.drew W.heap.size a b c d) := Lib.hid (show BoxAt W1 W.heap.size a b c d from HM1.out.below hW)
  have HA := Lib.hid (ArNew_c va n cap f hn20 W1.drew (HL.out.below HB2.out))
  clear hW m0 m1 m2 m3 HM1 HB1 HB
  obtain ⟨m0, m1, m2, m3⟩ := HM2.out
  go_wp2_with fail
  refine wp_region_held_drew (S := (fun w' => w'.cell? ⟨W.heap.size, 0, none⟩ = some (.int .i64 a) ∧ w'.cell? ⟨W.heap.size, 1, none⟩ = some (.int .i64 b) ∧ w'.cell? ⟨W.heap.size, 2, none⟩ = some (.int .i64 c) ∧ w'.cell? ⟨W.heap.size, 3, none⟩ = some (.int .i64 d))) (by kernel_rfl) ?_ (fun hHeld => ?_)
  · exact ⟨m0, m1, m2, m3⟩
  refine wpAnyH_take (i := 0) (oi := { dst := some 21, op := Op.move (Operand.tmp 1), type := 46, pos := "hand.go:42", after := #[], guard := none }) (v := ?vf0) rfl (by kernel_rfl) (by kernel_rfl) (by kernel_rfl) (fun _ _ _ h => h) (Or.inl ⟨by rfl, ?hyf0⟩) hHeld ?_
  case hyf0 => (intro w hSw; (try dsimp only at hSw); go_simp; (try with_reducible rfl))
  try simp only [Act.put, List.setIfInBounds_toArray, List.set_cons_zero, List.set_cons_succ]
  refine wpAnyH_take (i := 2) (oi := { dst := some 23, op := Op.load 88 (Operand.tmp 6), type := 88, pos := "hand.go:42", after := #[], guard := none }) (v := ?vf2) rfl (by kernel_rfl) (by kernel_rfl) (by kernel_rfl) (fun _ _ _ h => h) (Or.inl ⟨by rfl, ?hyf2⟩) hHeld ?_
  case hyf2 => (intro w hSw; (try dsimp only at hSw); go_simp; (try with_reducible rfl))
  try simp only [Act.put, List.setIfInBounds_toArray, List.set_cons_zero, List.set_cons_succ]
  refine wpAnyH_ready (rs := [1]) (by kernel_rfl) (by simp) ?_
  refine AllReadyH.cons (o := { dst := some 22, op := Op.call { callee := Callee.value (Operand.func 75), args := #[Operand.tmp 21], argTypes := #[46] }, type := 86, pos := "hand.go:42", after := #[{ on := 0, ground := Ground.data }], guard := none }) rfl (fun K hK => ?_) AllReadyH.nil
  go_simp
  refine HA.out.mono ?_
  rintro e V ⟨rfl, hA, hV⟩
  have HA1 := Lib.hid hA
  have HB3 := Lib.hid (belowOn HB2.out hV)
  have HM3 := Lib.hid (HM2.out.below hV)
  clear hA hV HA HM2 m0 m1 m2 m3 hHeld
  refine hK.out _ _ ?_ (fun hHeld => ?_)
  · exact HM3.out
  clear hK K
  try simp only [Act.put, List.setIfInBounds_toArray, List.set_cons_zero, List.set_cons_succ]
  refine wpAnyH_take (i := 3) (oi := { dst := some 24, op := Op.build 90 #[(0, Operand.tmp 22), (1, Operand.tmp 23)], type := 90, pos := "hand.go:42", after := #[{ on := 1, ground := Ground.data }, { on := 2, ground := Ground.data }], guard := none }) (v := ?vf3) rfl (by kernel_rfl) (by kernel_rfl) (by kernel_rfl) (fun _ _ _ h => h) (Or.inl ⟨by rfl, ?hyf3⟩) hHeld ?_
  case hyf3 => (intro w hSw; (try dsimp only at hSw); go_simp; (try with_reducible rfl))
  try simp only [Act.put, List.setIfInBounds_toArray, List.set_cons_zero, List.set_cons_succ]
  refine wpAnyH_ready (rs := [4]) (by kernel_rfl) (by simp) ?_
  refine AllReadyH.cons (o := { dst := some 25, op := Op.box 90 (Operand.tmp 24), type := 70, pos := "hand.go:42", after := #[{ on := 3, ground := Ground.data }], guard := none }) rfl (fun K hK => ?_) AllReadyH.nil
  go_simp
  have HM4 := HM3.out.below (below_new V (.cells #[.pointer (some ⟨W1.drew.heap.size + 1, 0, none⟩), .int .i64 a, .int .i64 b, .int .i64 c, .int .i64 d, .int .i64 0, .int .i64 0, .int .u64 0, .int .u64 0, .int .u64 0] 90))
  refine hK.out _ _ ?_ (fun hHeld => ?_)
  · exact HM4
  clear hK K
  try simp only [Act.put, List.setIfInBounds_toArray, List.set_cons_zero, List.set_cons_succ]
  refine wpAnyH_take (i := 5) (oi := { dst := some 4, op := Op.assign (Operand.tmp 25), type := 70, pos := "hand.go:42", after := #[{ on := 4, ground := Ground.data }, { on := 1, ground := Ground.chain }, { on := 0, ground := Ground.phase }, { on := 1, ground := Ground.phase }, { on := 2, ground := Ground.phase }, { on := 3, ground := Ground.phase }, { on := 4, ground := Ground.phase }], guard := none }) (v := ?vf5) rfl (by kernel_rfl) (by kernel_rfl) (by kernel_rfl) (fun _ _ _ h => h) (Or.inl ⟨by rfl, ?hyf5⟩) hHeld ?_
  case hyf5 => (intro w hSw; (try dsimp only at hSw); go_simp; (try with_reducible rfl))
  try simp only [Act.put, List.setIfInBounds_toArray, List.set_cons_zero, List.set_cons_succ]
  refine wpAnyH_take (i := 6) (oi := { dst := some 5, op := Op.assign (Operand.const (Value.int IntKind.i64 0)), type := 29, pos := "hand.go:42", after := #[{ on := 5, ground := Ground.chain }, { on := 0, ground := Ground.phase }, { on := 1, ground := Ground.phase }, { on := 2, ground := Ground.phase }, { on := 3, ground := Ground.phase }, { on := 4, ground := Ground.phase }, { on := 5, ground := Ground.phase }], guard := none }) (v := ?vf6) rfl (by kernel_rfl) (by kernel_rfl) (by kernel_rfl) (fun _ _ _ h => h) (Or.inl ⟨by rfl, ?hyf6⟩) hHeld ?_
  case hyf6 => (intro w hSw; (try dsimp only at hSw); go_simp; (try with_reducible rfl))
  try simp only [Act.put, List.setIfInBounds_toArray, List.set_cons_zero, List.set_cons_succ]
  refine wpAnyH_done (by kernel_rfl) ?_ _
  clear hHeld
  go_wp2_with fail
  go_ret2
  exact ⟨_, _, _, rfl, HandAt.new HA1.out a b c d, below_on HB3.out _, by have := HB3.out.size; omega, by have := HB2.out.size; omega, by have := HB2.out.size; omega⟩
theorem row_words {w : World} {g n : Nat} {t : TypeId} {f : Nat → Int} (h : w.rowIs g t n (fun j => .int .u64 (f j))) : WordsAt w (some ⟨g, 0, none⟩) n f :=
  .inr ⟨g, 0, rfl, h.lt, fun j hj => by rw [Nat.zero_add]; exact h.cell hj⟩
theorem New_no (a b c d : Int) (hr : ¬ Right a b c d) (w : World) (hS : SpansAt w) :
    Calls Tryz.prog 23 #[.agg #[.int .i64 a, .int .i64 b, .int .i64 c, .int .i64 d]] w fun e w' => e = .returned (.tuple #[.pointer none, .int .i64 2]) ∧ Below w.heap.size w w' := by
  have hb := (below_new w (.cells #[.int .i64 a, .int .i64 b, .int .i64 c, .int .i64 d] 23)).drew
  have HX : Hid (BoxAt (w.alloc (.cells #[.int .i64 a, .int .i64 b, .int .i64 c, .int .i64 d] 23)).drew w.heap.size a b c d) := Lib.hid (BoxAt.new w a b c d 23)
  have HN := Lib.hid (first_wrong a b c d hr _ (hS.below hb))
  have HM := Lib.hid (From_wrong a b c d hr none 0 0)
  have HB := Lib.hid hb
  have HS := Lib.hid hS
  clear hr hS hb
  obtain ⟨x0, x1, x2, x3⟩ := HX.out
  go_enter Tryz.func23, Tryz.ntmps23
  go_wp2_with fail
  refine wp_region_held_drew (S := (fun w' => w'.cell? ⟨w.heap.size, 0, none⟩ = some (.int .i64 a) ∧ w'.cell? ⟨w.heap.size, 1, none⟩ = some (.int .i64 b) ∧ w'.cell? ⟨w.heap.size, 2, none⟩ = some (.int .i64 c) ∧ w'.cell? ⟨w.heap.size, 3, none⟩ = some (.int .i64 d))) (by kernel_rfl) ?_ (fun hHeld => ?_)
  · exact ⟨x0, x1, x2, x3⟩
  refine wpAnyH_take (i := 0) (oi := { dst := some 4, op := Op.load 23 (Operand.tmp 1), type := 23, pos := "hand.go:30", after := #[], guard := none }) (v := ?vg0) rfl (by kernel_rfl) (by kernel_rfl) (by kernel_rfl) (fun _ _ _ h => h) (Or.inl ⟨by rfl, ?hyg0⟩) hHeld ?_
  case hyg0 => (intro w hSw; (try dsimp only at hSw); go_simp; (try with_reducible rfl))
  try simp only [Act.put, List.setIfInBounds_toArray, List.set_cons_zero, List.set_cons_succ]
  refine wpAnyH_take (i := 1) (oi := { dst := some 5, op := Op.load 23 (Operand.tmp 1), type := 23, pos := "hand.go:30", after := #[], guard := none }) (v := ?vg1) rfl (by kernel_rfl) (by kernel_rfl) (by kernel_rfl) (fun _ _ _ h => h) (Or.inl ⟨by rfl, ?hyg1⟩) hHeld ?_
  case hyg1 => (intro w hSw; (try dsimp only at hSw); go_simp; (try with_reducible rfl))
  try simp only [Act.put, List.setIfInBounds_toArray, List.set_cons_zero, List.set_cons_succ]
  refine wpAnyH_ready (rs := [2]) (by kernel_rfl) (by simp) ?_
  refine AllReadyH.cons (o := { dst := some 6, op := Op.call { callee := Callee.value (Operand.func 40), args := #[Operand.tmp 5], argTypes := #[23] }, type := 46, pos := "hand.go:30", after := #[{ on := 1, ground := Ground.data }], guard := none }) rfl (fun K hK => ?_) AllReadyH.nil
  go_simp
  refine HN.out.mono ?_
  rintro e V ⟨rfl, hV⟩
  have HB1 := Lib.hid (belowOn HB.out hV)
  have HX1 := Lib.hid (HX.out.below hV)
  clear hV HN HX HB hHeld x0 x1 x2 x3
  refine hK.out _ _ ?_ (fun hHeld => ?_)
  · exact HX1.out
  clear hK K
  try simp only [Act.put, List.setIfInBounds_toArray, List.set_cons_zero, List.set_cons_succ]
  refine wpAnyH_ready (rs := [3]) (by kernel_rfl) (by simp) ?_
  refine AllReadyH.cons (o := { dst := some 7, op := Op.call { callee := Callee.value (Operand.func 39), args := #[Operand.tmp 4, Operand.tmp 6], argTypes := #[23, 46] }, type := 71, pos := "hand.go:30", after := #[{ on := 0, ground := Ground.data }, { on := 2, ground := Ground.data }, { on := 2, ground := Ground.chain }], guard := none }) rfl (fun K hK => ?_) AllReadyH.nil
  go_simp
  refine (HM.out _ (HS.out.below HB1.out)).mono ?_
  rintro e V2 ⟨rfl, hV⟩
  have HB2 := Lib.hid (belowOn HB1.out hV)
  have HX2 := Lib.hid (HX1.out.below hV)
  clear hV hHeld
  refine hK.out _ _ ?_ (fun hHeld => ?_)
  · exact HX2.out
  clear hK K
  try simp only [Act.put, List.setIfInBounds_toArray, List.set_cons_zero, List.set_cons_succ]
  refine wpAnyH_take (i := 4) (oi := { dst := some 8, op := Op.extract (Operand.tmp 7) 0, type := 70, pos := "hand.go:30", after := #[{ on := 3, ground := Ground.data }], guard := none }) (v := ?vg4) rfl (by kernel_rfl) (by kernel_rfl) (by kernel_rfl) (fun _ _ _ h => h) (Or.inl ⟨by rfl, ?hyg4⟩) hHeld ?_
  case hyg4 => (intro w hSw; (try dsimp only at hSw); go_simp; (try with_reducible rfl))
  try simp only [Act.put, List.setIfInBounds_toArray, List.set_cons_zero, List.set_cons_succ]
  refine wpAnyH_take (i := 5) (oi := { dst := some 9, op := Op.extract (Operand.tmp 7) 1, type := 29, pos := "hand.go:30", after := #[{ on := 3, ground := Ground.data }], guard := none }) (v := ?vg5) rfl (by kernel_rfl) (by kernel_rfl) (by kernel_rfl) (fun _ _ _ h => h) (Or.inl ⟨by rfl, ?hyg5⟩) hHeld ?_
  case hyg5 => (intro w hSw; (try dsimp only at hSw); go_simp; (try with_reducible rfl))
  try simp only [Act.put, List.setIfInBounds_toArray, List.set_cons_zero, List.set_cons_succ]
  refine wpAnyH_take (i := 6) (oi := { dst := some 2, op := Op.assign (Operand.tmp 8), type := 70, pos := "hand.go:30", after := #[{ on := 4, ground := Ground.data }, { on := 3, ground := Ground.chain }, { on := 0, ground := Ground.phase }, { on := 1, ground := Ground.phase }, { on := 2, ground := Ground.phase }, { on := 3, ground := Ground.phase }, { on := 4, ground := Ground.phase }, { on := 5, ground := Ground.phase }], guard := none }) (v := ?vg6) rfl (by kernel_rfl) (by kernel_rfl) (by kernel_rfl) (fun _ _ _ h => h) (Or.inl ⟨by rfl, ?hyg6⟩) hHeld ?_
  case hyg6 => (intro w hSw; (try dsimp only at hSw); go_simp; (try with_reducible rfl))
  try simp only [Act.put, List.setIfInBounds_toArray, List.set_cons_zero, List.set_cons_succ]
  refine wpAnyH_take (i := 7) (oi := { dst := some 3, op := Op.assign (Operand.tmp 9), type := 29, pos := "hand.go:30", after := #[{ on := 5, ground := Ground.data }, { on := 6, ground := Ground.chain }, { on := 0, ground := Ground.phase }, { on := 1, ground := Ground.phase }, { on := 2, ground := Ground.phase }, { on := 3, ground := Ground.phase }, { on := 4, ground := Ground.phase }, { on := 5, ground := Ground.phase }, { on := 6, ground := Ground.phase }], guard := none }) (v := ?vg7) rfl (by kernel_rfl) (by kernel_rfl) (by kernel_rfl) (fun _ _ _ h => h) (Or.inl ⟨by rfl, ?hyg7⟩) hHeld ?_
  case hyg7 => (intro w hSw; (try dsimp only at hSw); go_simp; (try with_reducible rfl))
  try simp only [Act.put, List.setIfInBounds_toArray, List.set_cons_zero, List.set_cons_succ]
  refine wpAnyH_done (by kernel_rfl) ?_ _
  clear hHeld
  go_wp2_with fail
  go_ret2
  exact ⟨rfl, HB2.out⟩
theorem New_yes (a b c d : Int) (hr : Right a b c d) (w : World) (hS : SpansAt w) :
    Calls Tryz.prog 23 #[.agg #[.int .i64 a, .int .i64 b, .int .i64 c, .int .i64 d]] w fun e w' => ∃ n : Nat, (n : Int) = 5 + b + d + b * c + 3 * a ∧ FromPost w n (fstV a b c d) a b c d e w' := by
  have hb := (below_new w (.cells #[.int .i64 a, .int .i64 b, .int .i64 c, .int .i64 d] 23)).drew
  have HX : Hid (BoxAt (w.alloc (.cells #[.int .i64 a, .int .i64 b, .int .i64 c, .int .i64 d] 23)).drew w.heap.size a b c d) := Lib.hid (BoxAt.new w a b c d 23)
  have HN := Lib.hid (first_right a b c d hr _ (hS.below hb))
  have HR := Lib.hid hr
  have HB := Lib.hid hb
  have HS := Lib.hid hS
  clear hr hS hb
  obtain ⟨x0, x1, x2, x3⟩ := HX.out
  go_enter Tryz.func23, Tryz.ntmps23
  go_wp2_with fail
  refine wp_region_held_drew (S := (fun w' => w'.cell? ⟨w.heap.size, 0, none⟩ = some (.int .i64 a) ∧ w'.cell? ⟨w.heap.size, 1, none⟩ = some (.int .i64 b) ∧ w'.cell? ⟨w.heap.size, 2, none⟩ = some (.int .i64 c) ∧ w'.cell? ⟨w.heap.size, 3, none⟩ = some (.int .i64 d))) (by kernel_rfl) ?_ (fun hHeld => ?_)
  · exact ⟨x0, x1, x2, x3⟩
  refine wpAnyH_take (i := 0) (oi := { dst := some 4, op := Op.load 23 (Operand.tmp 1), type := 23, pos := "hand.go:30", after := #[], guard := none }) (v := ?vy0) rfl (by kernel_rfl) (by kernel_rfl) (by kernel_rfl) (fun _ _ _ h => h) (Or.inl ⟨by rfl, ?hyy0⟩) hHeld ?_
  case hyy0 => (intro w hSw; (try dsimp only at hSw); go_simp; (try with_reducible rfl))
  try simp only [Act.put, List.setIfInBounds_toArray, List.set_cons_zero, List.set_cons_succ]
  refine wpAnyH_take (i := 1) (oi := { dst := some 5, op := Op.load 23 (Operand.tmp 1), type := 23, pos := "hand.go:30", after := #[], guard := none }) (v := ?vy1) rfl (by kernel_rfl) (by kernel_rfl) (by kernel_rfl) (fun _ _ _ h => h) (Or.inl ⟨by rfl, ?hyy1⟩) hHeld ?_
  case hyy1 => (intro w hSw; (try dsimp only at hSw); go_simp; (try with_reducible rfl))
  try simp only [Act.put, List.setIfInBounds_toArray, List.set_cons_zero, List.set_cons_succ]
  refine wpAnyH_ready (rs := [2]) (by kernel_rfl) (by simp) ?_
  refine AllReadyH.cons (o := { dst := some 6, op := Op.call { callee := Callee.value (Operand.func 40), args := #[Operand.tmp 5], argTypes := #[23] }, type := 46, pos := "hand.go:30", after := #[{ on := 1, ground := Ground.data }], guard := none }) rfl (fun K hK => ?_) AllReadyH.nil
  go_simp
  refine HN.out.mono ?_
  rintro e V ⟨g, n, rfl, hn, hrow, hV⟩
  have HB1 := Lib.hid (belowOn HB.out hV)
  have HX1 := Lib.hid (HX.out.below hV)
  have HM := Lib.hid (From_right a b c d HR.out (some ⟨g, 0, none⟩) n n (fstV a b c d) hn V (HS.out.below HB1.out) (row_words hrow))
  clear hV HN HX HB hrow hHeld x0 x1 x2 x3
  refine hK.out _ _ ?_ (fun hHeld => ?_)
  · exact HX1.out
  clear hK K
  try simp only [Act.put, List.setIfInBounds_toArray, List.set_cons_zero, List.set_cons_succ]
  refine wpAnyH_ready (rs := [3]) (by kernel_rfl) (by simp) ?_
  refine AllReadyH.cons (o := { dst := some 7, op := Op.call { callee := Callee.value (Operand.func 39), args := #[Operand.tmp 4, Operand.tmp 6], argTypes := #[23, 46] }, type := 71, pos := "hand.go:30", after := #[{ on := 0, ground := Ground.data }, { on := 2, ground := Ground.data }, { on := 2, ground := Ground.chain }], guard := none }) rfl (fun K hK => ?_) AllReadyH.nil
  go_simp
  refine HM.out.mono ?_
  rintro e V2 ⟨H, A, G, rfl, hF, hV, hl1, hl2, hl3⟩
  have HF := Lib.hid hF
  have HB2 := Lib.hid (belowOn HB1.out hV)
  have HX2 := Lib.hid (HX1.out.below hV)
  clear hV hF HM hHeld
  refine hK.out _ _ ?_ (fun hHeld => ?_)
  · exact HX2.out
  clear hK K
  try simp only [Act.put, List.setIfInBounds_toArray, List.set_cons_zero, List.set_cons_succ]
  refine wpAnyH_take (i := 4) (oi := { dst := some 8, op := Op.extract (Operand.tmp 7) 0, type := 70, pos := "hand.go:30", after := #[{ on := 3, ground := Ground.data }], guard := none }) (v := ?vy4) rfl (by kernel_rfl) (by kernel_rfl) (by kernel_rfl) (fun _ _ _ h => h) (Or.inl ⟨by rfl, ?hyy4⟩) hHeld ?_
  case hyy4 => (intro w hSw; (try dsimp only at hSw); go_simp; (try with_reducible rfl))
  try simp only [Act.put, List.setIfInBounds_toArray, List.set_cons_zero, List.set_cons_succ]
  refine wpAnyH_take (i := 5) (oi := { dst := some 9, op := Op.extract (Operand.tmp 7) 1, type := 29, pos := "hand.go:30", after := #[{ on := 3, ground := Ground.data }], guard := none }) (v := ?vy5) rfl (by kernel_rfl) (by kernel_rfl) (by kernel_rfl) (fun _ _ _ h => h) (Or.inl ⟨by rfl, ?hyy5⟩) hHeld ?_
  case hyy5 => (intro w hSw; (try dsimp only at hSw); go_simp; (try with_reducible rfl))
  try simp only [Act.put, List.setIfInBounds_toArray, List.set_cons_zero, List.set_cons_succ]
  refine wpAnyH_take (i := 6) (oi := { dst := some 2, op := Op.assign (Operand.tmp 8), type := 70, pos := "hand.go:30", after := #[{ on := 4, ground := Ground.data }, { on := 3, ground := Ground.chain }, { on := 0, ground := Ground.phase }, { on := 1, ground := Ground.phase }, { on := 2, ground := Ground.phase }, { on := 3, ground := Ground.phase }, { on := 4, ground := Ground.phase }, { on := 5, ground := Ground.phase }], guard := none }) (v := ?vy6) rfl (by kernel_rfl) (by kernel_rfl) (by kernel_rfl) (fun _ _ _ h => h) (Or.inl ⟨by rfl, ?hyy6⟩) hHeld ?_
  case hyy6 => (intro w hSw; (try dsimp only at hSw); go_simp; (try with_reducible rfl))
  try simp only [Act.put, List.setIfInBounds_toArray, List.set_cons_zero, List.set_cons_succ]
  refine wpAnyH_take (i := 7) (oi := { dst := some 3, op := Op.assign (Operand.tmp 9), type := 29, pos := "hand.go:30", after := #[{ on := 5, ground := Ground.data }, { on := 6, ground := Ground.chain }, { on := 0, ground := Ground.phase }, { on := 1, ground := Ground.phase }, { on := 2, ground := Ground.phase }, { on := 3, ground := Ground.phase }, { on := 4, ground := Ground.phase }, { on := 5, ground := Ground.phase }, { on := 6, ground := Ground.phase }], guard := none }) (v := ?vy7) rfl (by kernel_rfl) (by kernel_rfl) (by kernel_rfl) (fun _ _ _ h => h) (Or.inl ⟨by rfl, ?hyy7⟩) hHeld ?_
  case hyy7 => (intro w hSw; (try dsimp only at hSw); go_simp; (try with_reducible rfl))
  try simp only [Act.put, List.setIfInBounds_toArray, List.set_cons_zero, List.set_cons_succ]
  refine wpAnyH_done (by kernel_rfl) ?_ _
  clear hHeld
  go_wp2_with fail
  go_ret2
  exact ⟨n, hn, H, A, G, rfl, HF.out, HB2.out, by have := HB1.out.size; omega, by have := HB1.out.size; omega, by have := HB1.out.size; omega⟩
end Go.Proofs.YtbpooljohjkbjaaGreatDoor
