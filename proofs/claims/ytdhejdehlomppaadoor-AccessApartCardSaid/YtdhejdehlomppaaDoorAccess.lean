/- Package access's uses, split, Right and Changes, for every access and every map (right or not). -/
import Derived.Test.YtdhejdehlomppaaDoorPlaceAt
namespace Go.Proofs.YtdhejdehlomppaaDoor
open Go Go.RowKit
set_option maxRecDepth 100000
attribute [local go_sem ↓] Go.wp_at_zero Go.wp_at_succ

abbrev accV (k i x y o : Int) : Value := .agg #[.int .i64 k, .int .i64 i, .int .u64 x, .int .u64 y, .int .u64 o]
/-- How many of X and Y a kind uses; whether there is such a kind. -/
def cntK (k : Int) : Nat := if k = 3 then 2 else if k = 2 ∨ k = 4 then 1 else 0
def isK (k : Int) : Bool := decide (1 ≤ k ∧ k ≤ 4)
theorem uses_c (k : Int) (w : World) :
    Calls Tryd.prog 30 #[.int .i64 k] w fun e w' => e = .returned (.tuple #[.int .i64 (cntK k), .bool (isK k)]) ∧ w = w' := by
  by_cases h : 1 ≤ k ∧ k ≤ 4
  · obtain rfl | rfl | rfl | rfl : k = 1 ∨ k = 2 ∨ k = 3 ∨ k = 4 := by omega
    all_goals
      go_enter Tryd.func30, Tryd.ntmps30
      go_wp2
      go_ret2
      exact ⟨rfl, rfl⟩
  · have q1 : (k == 1) = false := by simp; omega
    have q2 : (k == 2) = false := by simp; omega
    have q3 : (k == 3) = false := by simp; omega
    have q4 : (k == 4) = false := by simp; omega
    rw [show cntK k = 0 by unfold cntK; rw [if_neg (by omega), if_neg (by omega)], show isK k = false by unfold isK; exact decide_eq_false h]
    clear h
    go_enter Tryd.func30, Tryd.ntmps30
    go_wp2
    go_ret2
    exact ⟨rfl, rfl⟩
/-- An access lies in block B. -/
abbrev AccAt (w : World) (B : Nat) (k i x y o : Int) : Prop := w.cell? ⟨B, 0, none⟩ = some (.int .i64 k) ∧ w.cell? ⟨B, 1, none⟩ = some (.int .i64 i) ∧ w.cell? ⟨B, 2, none⟩ = some (.int .u64 x) ∧ w.cell? ⟨B, 3, none⟩ = some (.int .u64 y) ∧ w.cell? ⟨B, 4, none⟩ = some (.int .u64 o)
theorem AccAt.new (w : World) (k i x y o : Int) (t : TypeId) : AccAt (w.alloc (.cells #[.int .i64 k, .int .i64 i, .int .u64 x, .int .u64 y, .int .u64 o] t)) w.heap.size k i x y o := by
  unfold AccAt
  refine ⟨?_, ?_, ?_, ?_, ?_⟩ <;> (rw [World.cell?_alloc_new]; rfl)
theorem AccAt.below {w w' : World} {B : Nat} {k i x y o : Int} (h : AccAt w B k i x y o) (hb : Below w.heap.size w w') : AccAt w' B k i x y o := by
  have hl := lt_of_cell h.1
  exact ⟨(hb.cell (p := ⟨B, 0, none⟩) hl).trans h.1, (hb.cell (p := ⟨B, 1, none⟩) hl).trans h.2.1, (hb.cell (p := ⟨B, 2, none⟩) hl).trans h.2.2.1, (hb.cell (p := ⟨B, 3, none⟩) hl).trans h.2.2.2.1, (hb.cell (p := ⟨B, 4, none⟩) hl).trans h.2.2.2.2⟩
/-- Two words lie in block B. -/
abbrev PairAt (w : World) (B : Nat) (x y : Int) : Prop := w.cell? ⟨B, 0, none⟩ = some (.int .u64 x) ∧ w.cell? ⟨B, 1, none⟩ = some (.int .u64 y)
theorem PairAt.below {w w' : World} {B : Nat} {x y : Int} (h : PairAt w B x y) (hb : Below w.heap.size w w') : PairAt w' B x y := by
  have hl := lt_of_cell h.1
  exact ⟨(hb.cell (p := ⟨B, 0, none⟩) hl).trans h.1, (hb.cell (p := ⟨B, 1, none⟩) hl).trans h.2⟩
theorem PairAt.new (w : World) (x y : Int) (t : TypeId) : PairAt (w.alloc (.cells #[.int .u64 x, .int .u64 y] t)) w.heap.size x y := by
  unfold PairAt
  refine ⟨?_, ?_⟩ <;> (rw [World.cell?_alloc_new]; rfl)
/-- What split answers. -/
def SplitPost (w : World) (n : Nat) (b : Bool) (x y : Int) (e : Ending) (w' : World) : Prop :=
  e = .returned (.tuple #[.slice (some ⟨w.heap.size + 1, 0, none⟩) n 2, .slice (some ⟨w.heap.size + 1, n % 2, none⟩) (2 - n) (2 - n), .bool b]) ∧ Below w.heap.size w w' ∧ PairAt w' (w.heap.size + 1) x y
theorem split_0 (k p x y o : Int) (hk : cntK k = 0) (w : World) :
    Calls Tryd.prog 17 #[accV k p x y o] w (SplitPost w 0 (isK k) x y) := by
  have hU := uses_c k
  rw [hk] at hU
  have HU := Lib.hid hU
  have HP : Hid (PairAt ((w.alloc (.cells #[.int .i64 k, .int .i64 p, .int .u64 x, .int .u64 y, .int .u64 o] 33)).alloc (.cells #[.int .u64 x, .int .u64 y] 31)) (w.heap.size + 1) x y) := Lib.hid (by
    have h := PairAt.new (w.alloc (.cells #[.int .i64 k, .int .i64 p, .int .u64 x, .int .u64 y, .int .u64 o] 33)) x y 31
    rwa [show (w.alloc (.cells #[.int .i64 k, .int .i64 p, .int .u64 x, .int .u64 y, .int .u64 o] 33)).heap.size = w.heap.size + 1 by simp] at h)
  generalize isK k = b at HU
  clear hU hk
  go_enter Tryd.func17, Tryd.ntmps17
  go_wp2_with fail
  refine (HU.out _).mono ?_
  rintro e w' ⟨rfl, rfl⟩
  go_wp2_with fail
  go_region_held3 (fun _ => True) (exact trivial) (fail)
  all_goals go_wp2_with fail
  all_goals refine bodyPost_ret (v := .tuple #[.slice (some ⟨w.heap.size + 1, 0, none⟩) 0 2, .slice (some ⟨w.heap.size + 1, 0, none⟩) (2 - 0) (2 - 0), .bool b]) (by simp [results, Tryd.f17, go_sem]) rfl ?_
  all_goals exact ⟨rfl, (below_on (below_new _ _) _).drew, HP.out⟩
theorem split_1 (k p x y o : Int) (hk : cntK k = 1) (w : World) :
    Calls Tryd.prog 17 #[accV k p x y o] w (SplitPost w 1 (isK k) x y) := by
  have hU := uses_c k
  rw [hk] at hU
  have HU := Lib.hid hU
  have HP : Hid (PairAt ((w.alloc (.cells #[.int .i64 k, .int .i64 p, .int .u64 x, .int .u64 y, .int .u64 o] 33)).alloc (.cells #[.int .u64 x, .int .u64 y] 31)) (w.heap.size + 1) x y) := Lib.hid (by
    have h := PairAt.new (w.alloc (.cells #[.int .i64 k, .int .i64 p, .int .u64 x, .int .u64 y, .int .u64 o] 33)) x y 31
    rwa [show (w.alloc (.cells #[.int .i64 k, .int .i64 p, .int .u64 x, .int .u64 y, .int .u64 o] 33)).heap.size = w.heap.size + 1 by simp] at h)
  generalize isK k = b at HU
  clear hU hk
  go_enter Tryd.func17, Tryd.ntmps17
  go_wp2_with fail
  refine (HU.out _).mono ?_
  rintro e w' ⟨rfl, rfl⟩
  go_wp2_with fail
  go_region_held3 (fun _ => True) (exact trivial) (fail)
  all_goals go_wp2_with fail
  all_goals refine bodyPost_ret (v := .tuple #[.slice (some ⟨w.heap.size + 1, 0, none⟩) 1 2, .slice (some ⟨w.heap.size + 1, 1, none⟩) (2 - 1) (2 - 1), .bool b]) (by simp [results, Tryd.f17, go_sem]) rfl ?_
  all_goals exact ⟨rfl, (below_on (below_new _ _) _).drew, HP.out⟩
theorem split_2 (k p x y o : Int) (hk : cntK k = 2) (w : World) :
    Calls Tryd.prog 17 #[accV k p x y o] w (SplitPost w 2 (isK k) x y) := by
  have hU := uses_c k
  rw [hk] at hU
  have HU := Lib.hid hU
  have HP : Hid (PairAt ((w.alloc (.cells #[.int .i64 k, .int .i64 p, .int .u64 x, .int .u64 y, .int .u64 o] 33)).alloc (.cells #[.int .u64 x, .int .u64 y] 31)) (w.heap.size + 1) x y) := Lib.hid (by
    have h := PairAt.new (w.alloc (.cells #[.int .i64 k, .int .i64 p, .int .u64 x, .int .u64 y, .int .u64 o] 33)) x y 31
    rwa [show (w.alloc (.cells #[.int .i64 k, .int .i64 p, .int .u64 x, .int .u64 y, .int .u64 o] 33)).heap.size = w.heap.size + 1 by simp] at h)
  generalize isK k = b at HU
  clear hU hk
  go_enter Tryd.func17, Tryd.ntmps17
  go_wp2_with fail
  refine (HU.out _).mono ?_
  rintro e w' ⟨rfl, rfl⟩
  go_wp2_with fail
  go_region_held3 (fun _ => True) (exact trivial) (fail)
  all_goals go_wp2_with fail
  all_goals refine bodyPost_ret (v := .tuple #[.slice (some ⟨w.heap.size + 1, 0, none⟩) 2 2, .slice (some ⟨w.heap.size + 1, 0, none⟩) (2 - 2) (2 - 2), .bool b]) (by simp [results, Tryd.f17, go_sem]) rfl ?_
  all_goals exact ⟨rfl, (below_on (below_new _ _) _).drew, HP.out⟩
theorem cntK_cases (k : Int) : cntK k = 0 ∨ cntK k = 1 ∨ cntK k = 2 := by
  unfold cntK
  split
  · simp
  · split <;> simp
theorem split_c (k p x y o : Int) (w : World) :
    Calls Tryd.prog 17 #[accV k p x y o] w (SplitPost w (cntK k) (isK k) x y) := by
  rcases cntK_cases k with h | h | h
  · rw [h]; exact split_0 k p x y o h w
  · rw [h]; exact split_1 k p x y o h w
  · rw [h]; exact split_2 k p x y o h w
/-- A map lies in block w.heap.size, an access behind it. -/
abbrev BothAt (w w' : World) (a b c d k p x y o : Int) : Prop := w'.cell? ⟨w.heap.size, 0, none⟩ = some (.int .i64 a) ∧ w'.cell? ⟨w.heap.size, 1, none⟩ = some (.int .i64 b) ∧ w'.cell? ⟨w.heap.size, 2, none⟩ = some (.int .i64 c) ∧ w'.cell? ⟨w.heap.size, 3, none⟩ = some (.int .i64 d) ∧ AccAt w' (w.heap.size + 1) k p x y o
theorem BothAt.of {w w' : World} {a b c d k p x y o : Int} (h1 : BoxAt w' w.heap.size a b c d) (h2 : AccAt w' (w.heap.size + 1) k p x y o) : BothAt w w' a b c d k p x y o := ⟨h1.1, h1.2.1, h1.2.2.1, h1.2.2.2, h2⟩
theorem BothAt.new (w : World) (a b c d k p x y o : Int) : BothAt w ((w.alloc (.cells #[.int .i64 a, .int .i64 b, .int .i64 c, .int .i64 d] 27)).alloc (.cells #[.int .i64 k, .int .i64 p, .int .u64 x, .int .u64 y, .int .u64 o] 33)) a b c d k p x y o := by
  have h2 := AccAt.new (w.alloc (.cells #[.int .i64 a, .int .i64 b, .int .i64 c, .int .i64 d] 27)) k p x y o 33
  rw [show (w.alloc (.cells #[.int .i64 a, .int .i64 b, .int .i64 c, .int .i64 d] 27)).heap.size = w.heap.size + 1 by simp] at h2
  exact .of ((BoxAt.new w a b c d 27).below (below_new _ _)) h2
theorem BothAt.below {w w1 w' : World} {a b c d k p x y o : Int} (h : BothAt w w1 a b c d k p x y o) (hb : Below w1.heap.size w1 w') : BothAt w w' a b c d k p x y o :=
  .of (BoxAt.below ⟨h.1, h.2.1, h.2.2.1, h.2.2.2.1⟩ hb) (AccAt.below h.2.2.2.2 hb)
/-- split, as Right and Text meet it: its words lie in a block T of its own. -/
theorem split_met (a b c d k p x y o : Int) (w : World) : Calls Tryd.prog 17 #[accV k p x y o] ((w.alloc (.cells #[.int .i64 a, .int .i64 b, .int .i64 c, .int .i64 d] 27)).alloc (.cells #[.int .i64 k, .int .i64 p, .int .u64 x, .int .u64 y, .int .u64 o] 33)) fun e w' => e = .returned (.tuple #[.slice (some ⟨w.heap.size + 3, 0, none⟩) (cntK k) 2, .slice (some ⟨w.heap.size + 3, cntK k % 2, none⟩) (2 - cntK k) (2 - cntK k), .bool (isK k)]) ∧ Below w.heap.size w w' ∧ BothAt w w' a b c d k p x y o ∧ PairAt w' (w.heap.size + 3) x y := by
  have h := split_c k p x y o ((w.alloc (.cells #[.int .i64 a, .int .i64 b, .int .i64 c, .int .i64 d] 27)).alloc (.cells #[.int .i64 k, .int .i64 p, .int .u64 x, .int .u64 y, .int .u64 o] 33))
  have h0 := below_on (below_new w (.cells #[.int .i64 a, .int .i64 b, .int .i64 c, .int .i64 d] 27)) (.cells #[.int .i64 k, .int .i64 p, .int .u64 x, .int .u64 y, .int .u64 o] 33)
  have hn := BothAt.new w a b c d k p x y o
  have hs : ((w.alloc (.cells #[.int .i64 a, .int .i64 b, .int .i64 c, .int .i64 d] 27)).alloc (.cells #[.int .i64 k, .int .i64 p, .int .u64 x, .int .u64 y, .int .u64 o] 33)).heap.size = w.heap.size + 2 := by simp
  generalize ((w.alloc (.cells #[.int .i64 a, .int .i64 b, .int .i64 c, .int .i64 d] 27)).alloc (.cells #[.int .i64 k, .int .i64 p, .int .u64 x, .int .u64 y, .int .u64 o] 33)) = W at *
  refine h.mono ?_
  rintro e w' ⟨rfl, h1, h2⟩
  rw [hs] at h2
  refine ⟨by rw [hs], belowOn h0 h1, hn.below h1, h2⟩
/-- Whether an access is right on a map. -/
def RightA (a b c d k p x y : Int) : Prop := (1 ≤ k ∧ k ≤ 4) ∧ (0 ≤ p ∧ p < sizeP a b c d) ∧ (cntK k = 0 → x = 0) ∧ (cntK k ≤ 1 → y = 0)
instance (a b c d k p x y : Int) : Decidable (RightA a b c d k p x y) := by unfold RightA; infer_instance
set_option maxHeartbeats 3200000 in
theorem Right_kind (a b c d k p x y o : Int) (h : ¬ (1 ≤ k ∧ k ≤ 4)) (w : World) :
    Calls Tryd.prog 9 #[.agg #[.int .i64 a, .int .i64 b, .int .i64 c, .int .i64 d], accV k p x y o] w fun e w' => e = .returned (.bool false) ∧ Below w.heap.size w w' := by
  have hk : isK k = false := by unfold isK; exact decide_eq_false h
  clear h
  have HM := Lib.hid (split_met a b c d k p x y o w)
  rw [hk] at HM
  generalize cntK k = n at HM
  clear hk
  go_enter Tryd.func9, Tryd.ntmps9
  go_wp2_with fail
  refine HM.out.mono ?_
  rintro e W ⟨rfl, hW, hE, hP⟩
  have HB := Lib.hid hW; have HP := Lib.hid hP
  have hQ : Below w.heap.size w W.drew := hW.drew
  clear HM hW hP
  go_wp2_with fail
  refine wp_region_held_drew (S := (fun _ => True)) (by kernel_rfl) ?_ (fun hHeld => ?_)
  · trivial
  refine wpAnyH_take (i := 0) (oi := { dst := some 16, op := Op.move (Operand.tmp 7), type := 4, pos := "access.go:24", after := #[], guard := none }) (v := ?va0) rfl (by kernel_rfl) (by kernel_rfl) (by kernel_rfl) (fun _ _ _ h => h) (Or.inl ⟨by rfl, ?hya0⟩) hHeld ?_
  case hya0 => (intro w hSw; (try dsimp only at hSw); go_simp; (try with_reducible rfl))
  try simp only [Act.put, List.setIfInBounds_toArray, List.set_cons_zero, List.set_cons_succ]
  refine wpAnyH_take (i := 1) (oi := { dst := some 17, op := Op.unOp UnOp.not 4 (Operand.tmp 16), type := 4, pos := "access.go:24", after := #[{ on := 0, ground := Ground.data }], guard := none }) (v := ?va1) rfl (by kernel_rfl) (by kernel_rfl) (by kernel_rfl) (fun _ _ _ h => h) (Or.inl ⟨by rfl, ?hya1⟩) hHeld ?_
  case hya1 => (intro w hSw; (try dsimp only at hSw); go_simp; (try with_reducible rfl))
  try simp only [Act.put, List.setIfInBounds_toArray, List.set_cons_zero, List.set_cons_succ]
  refine wpAnyH_take (i := 2) (oi := { dst := some 18, op := Op.move (Operand.tmp 17), type := 4, pos := "access.go:24", after := #[{ on := 1, ground := Ground.data }], guard := none }) (v := ?va2) rfl (by kernel_rfl) (by kernel_rfl) (by kernel_rfl) (fun _ _ _ h => h) (Or.inl ⟨by rfl, ?hya2⟩) hHeld ?_
  case hya2 => (intro w hSw; (try dsimp only at hSw); go_simp; (try with_reducible rfl))
  try simp only [Act.put, List.setIfInBounds_toArray, List.set_cons_zero, List.set_cons_succ]
  refine wpAnyH_take (i := 3) (oi := { dst := some 19, op := Op.fieldAddr 33 (Operand.tmp 3) 1, type := 0, pos := "access.go:24", after := #[{ on := 2, ground := Ground.guard }], guard := some (2, false) }) (v := undef) rfl (by kernel_rfl) (by kernel_rfl) (by kernel_rfl) (fun _ _ _ h => h) (Or.inr ⟨by rfl, rfl⟩) hHeld ?_
  try simp only [Act.put, List.setIfInBounds_toArray, List.set_cons_zero, List.set_cons_succ]
  refine wpAnyH_take (i := 4) (oi := { dst := some 20, op := Op.load 3 (Operand.tmp 19), type := 3, pos := "access.go:24", after := #[{ on := 3, ground := Ground.data }, { on := 2, ground := Ground.guard }], guard := some (2, false) }) (v := undef) rfl (by kernel_rfl) (by kernel_rfl) (by kernel_rfl) (fun _ _ _ h => h) (Or.inr ⟨by rfl, rfl⟩) hHeld ?_
  try simp only [Act.put, List.setIfInBounds_toArray, List.set_cons_zero, List.set_cons_succ]
  refine wpAnyH_take (i := 5) (oi := { dst := some 21, op := Op.binOp BinOp.lss 3 (Operand.tmp 20) (Operand.const (Value.int IntKind.i64 0)) 3, type := 4, pos := "access.go:24", after := #[{ on := 4, ground := Ground.data }, { on := 2, ground := Ground.guard }], guard := some (2, false) }) (v := undef) rfl (by kernel_rfl) (by kernel_rfl) (by kernel_rfl) (fun _ _ _ h => h) (Or.inr ⟨by rfl, rfl⟩) hHeld ?_
  try simp only [Act.put, List.setIfInBounds_toArray, List.set_cons_zero, List.set_cons_succ]
  refine wpAnyH_take (i := 6) (oi := { dst := some 22, op := Op.pick (Operand.tmp 18) (Operand.const (Value.bool true)) (Operand.tmp 21), type := 4, pos := "access.go:24", after := #[{ on := 2, ground := Ground.data }, { on := 5, ground := Ground.data }], guard := none }) (v := ?va6) rfl (by kernel_rfl) (by kernel_rfl) (by kernel_rfl) (fun _ _ _ h => h) (Or.inl ⟨by rfl, ?hya6⟩) hHeld ?_
  case hya6 => (intro w hSw; (try dsimp only at hSw); go_simp; (try with_reducible rfl))
  try simp only [Act.put, List.setIfInBounds_toArray, List.set_cons_zero, List.set_cons_succ]
  refine wpAnyH_take (i := 7) (oi := { dst := some 23, op := Op.move (Operand.tmp 22), type := 4, pos := "access.go:24", after := #[{ on := 6, ground := Ground.data }, { on := 2, ground := Ground.chain }], guard := none }) (v := ?va7) rfl (by kernel_rfl) (by kernel_rfl) (by kernel_rfl) (fun _ _ _ h => h) (Or.inl ⟨by rfl, ?hya7⟩) hHeld ?_
  case hya7 => (intro w hSw; (try dsimp only at hSw); go_simp; (try with_reducible rfl))
  try simp only [Act.put, List.setIfInBounds_toArray, List.set_cons_zero, List.set_cons_succ]
  refine wpAnyH_take (i := 8) (oi := { dst := some 24, op := Op.fieldAddr 33 (Operand.tmp 3) 1, type := 0, pos := "access.go:24", after := #[{ on := 7, ground := Ground.guard }], guard := some (7, false) }) (v := undef) rfl (by kernel_rfl) (by kernel_rfl) (by kernel_rfl) (fun _ _ _ h => h) (Or.inr ⟨by rfl, rfl⟩) hHeld ?_
  try simp only [Act.put, List.setIfInBounds_toArray, List.set_cons_zero, List.set_cons_succ]
  refine wpAnyH_take (i := 9) (oi := { dst := some 25, op := Op.load 3 (Operand.tmp 24), type := 3, pos := "access.go:24", after := #[{ on := 8, ground := Ground.data }, { on := 7, ground := Ground.guard }], guard := some (7, false) }) (v := undef) rfl (by kernel_rfl) (by kernel_rfl) (by kernel_rfl) (fun _ _ _ h => h) (Or.inr ⟨by rfl, rfl⟩) hHeld ?_
  try simp only [Act.put, List.setIfInBounds_toArray, List.set_cons_zero, List.set_cons_succ]
  refine wpAnyH_take (i := 10) (oi := { dst := some 26, op := Op.load 27 (Operand.tmp 2), type := 27, pos := "access.go:24", after := #[{ on := 7, ground := Ground.guard }], guard := some (7, false) }) (v := undef) rfl (by kernel_rfl) (by kernel_rfl) (by kernel_rfl) (fun _ _ _ h => h) (Or.inr ⟨by rfl, rfl⟩) hHeld ?_
  try simp only [Act.put, List.setIfInBounds_toArray, List.set_cons_zero, List.set_cons_succ]
  refine wpAnyH_take (i := 11) (oi := { dst := some 27, op := Op.call { callee := Callee.value (Operand.func 20), args := #[Operand.tmp 26], argTypes := #[27] }, type := 3, pos := "access.go:24", after := #[{ on := 10, ground := Ground.data }, { on := 7, ground := Ground.chain }, { on := 7, ground := Ground.guard }], guard := some (7, false) }) (v := undef) rfl (by kernel_rfl) (by kernel_rfl) (by kernel_rfl) (fun _ _ _ h => h) (Or.inr ⟨by rfl, rfl⟩) hHeld ?_
  try simp only [Act.put, List.setIfInBounds_toArray, List.set_cons_zero, List.set_cons_succ]
  refine wpAnyH_take (i := 12) (oi := { dst := some 28, op := Op.binOp BinOp.geq 3 (Operand.tmp 25) (Operand.tmp 27) 3, type := 4, pos := "access.go:24", after := #[{ on := 9, ground := Ground.data }, { on := 11, ground := Ground.data }, { on := 7, ground := Ground.guard }], guard := some (7, false) }) (v := undef) rfl (by kernel_rfl) (by kernel_rfl) (by kernel_rfl) (fun _ _ _ h => h) (Or.inr ⟨by rfl, rfl⟩) hHeld ?_
  try simp only [Act.put, List.setIfInBounds_toArray, List.set_cons_zero, List.set_cons_succ]
  refine wpAnyH_take (i := 13) (oi := { dst := some 29, op := Op.pick (Operand.tmp 23) (Operand.const (Value.bool true)) (Operand.tmp 28), type := 4, pos := "access.go:24", after := #[{ on := 7, ground := Ground.data }, { on := 12, ground := Ground.data }], guard := none }) (v := ?va13) rfl (by kernel_rfl) (by kernel_rfl) (by kernel_rfl) (fun _ _ _ h => h) (Or.inl ⟨by rfl, ?hya13⟩) hHeld ?_
  case hya13 => (intro w hSw; (try dsimp only at hSw); go_simp; (try with_reducible rfl))
  try simp only [Act.put, List.setIfInBounds_toArray, List.set_cons_zero, List.set_cons_succ]
  refine wpAnyH_done (by kernel_rfl) ?_ _
  go_wp2_with fail
  go_ret
  exact ⟨rfl, hQ⟩
set_option maxHeartbeats 3200000 in
theorem Right_low (a b c d k p x y o : Int) (h : 1 ≤ k ∧ k ≤ 4) (hp : p < 0) (w : World) :
    Calls Tryd.prog 9 #[.agg #[.int .i64 a, .int .i64 b, .int .i64 c, .int .i64 d], accV k p x y o] w fun e w' => e = .returned (.bool false) ∧ Below w.heap.size w w' := by
  have hk : isK k = true := by unfold isK; exact decide_eq_true h
  have d1 : decide (p < 0) = true := decide_eq_true hp
  clear h hp
  have HM := Lib.hid (split_met a b c d k p x y o w)
  rw [hk] at HM
  generalize cntK k = n at HM
  clear hk
  go_enter Tryd.func9, Tryd.ntmps9
  go_wp2_with fail
  refine HM.out.mono ?_
  rintro e W ⟨rfl, hW, hE, hP⟩
  have HB := Lib.hid hW; have HP := Lib.hid hP
  have hQ : Below w.heap.size w W.drew := hW.drew
  clear HM hW hP
  go_wp2_with fail
  refine wp_region_held_drew (S := (fun w' => w'.cell? ⟨w.heap.size, 0, none⟩ = some (.int .i64 a) ∧ w'.cell? ⟨w.heap.size, 1, none⟩ = some (.int .i64 b) ∧ w'.cell? ⟨w.heap.size, 2, none⟩ = some (.int .i64 c) ∧ w'.cell? ⟨w.heap.size, 3, none⟩ = some (.int .i64 d) ∧ w'.cell? ⟨w.heap.size + 1, 0, none⟩ = some (.int .i64 k) ∧ w'.cell? ⟨w.heap.size + 1, 1, none⟩ = some (.int .i64 p) ∧ w'.cell? ⟨w.heap.size + 1, 2, none⟩ = some (.int .u64 x) ∧ w'.cell? ⟨w.heap.size + 1, 3, none⟩ = some (.int .u64 y) ∧ w'.cell? ⟨w.heap.size + 1, 4, none⟩ = some (.int .u64 o))) (by kernel_rfl) ?_ (fun hHeld => ?_)
  · exact hE
  refine wpAnyH_take (i := 0) (oi := { dst := some 16, op := Op.move (Operand.tmp 7), type := 4, pos := "access.go:24", after := #[], guard := none }) (v := ?vb0) rfl (by kernel_rfl) (by kernel_rfl) (by kernel_rfl) (fun _ _ _ h => h) (Or.inl ⟨by rfl, ?hyb0⟩) hHeld ?_
  case hyb0 => (intro w hSw; (try dsimp only at hSw); go_simp; (try with_reducible rfl))
  try simp only [Act.put, List.setIfInBounds_toArray, List.set_cons_zero, List.set_cons_succ]
  refine wpAnyH_take (i := 1) (oi := { dst := some 17, op := Op.unOp UnOp.not 4 (Operand.tmp 16), type := 4, pos := "access.go:24", after := #[{ on := 0, ground := Ground.data }], guard := none }) (v := ?vb1) rfl (by kernel_rfl) (by kernel_rfl) (by kernel_rfl) (fun _ _ _ h => h) (Or.inl ⟨by rfl, ?hyb1⟩) hHeld ?_
  case hyb1 => (intro w hSw; (try dsimp only at hSw); go_simp; (try with_reducible rfl))
  try simp only [Act.put, List.setIfInBounds_toArray, List.set_cons_zero, List.set_cons_succ]
  refine wpAnyH_take (i := 2) (oi := { dst := some 18, op := Op.move (Operand.tmp 17), type := 4, pos := "access.go:24", after := #[{ on := 1, ground := Ground.data }], guard := none }) (v := ?vb2) rfl (by kernel_rfl) (by kernel_rfl) (by kernel_rfl) (fun _ _ _ h => h) (Or.inl ⟨by rfl, ?hyb2⟩) hHeld ?_
  case hyb2 => (intro w hSw; (try dsimp only at hSw); go_simp; (try with_reducible rfl))
  try simp only [Act.put, List.setIfInBounds_toArray, List.set_cons_zero, List.set_cons_succ]
  refine wpAnyH_take (i := 3) (oi := { dst := some 19, op := Op.fieldAddr 33 (Operand.tmp 3) 1, type := 0, pos := "access.go:24", after := #[{ on := 2, ground := Ground.guard }], guard := some (2, false) }) (v := ?vb3) rfl (by kernel_rfl) (by kernel_rfl) (by kernel_rfl) (fun _ _ _ h => h) (Or.inl ⟨by rfl, ?hyb3⟩) hHeld ?_
  case hyb3 => (intro w hSw; (try dsimp only at hSw); go_simp; (try with_reducible rfl))
  try simp only [Act.put, List.setIfInBounds_toArray, List.set_cons_zero, List.set_cons_succ]
  refine wpAnyH_take (i := 4) (oi := { dst := some 20, op := Op.load 3 (Operand.tmp 19), type := 3, pos := "access.go:24", after := #[{ on := 3, ground := Ground.data }, { on := 2, ground := Ground.guard }], guard := some (2, false) }) (v := ?vb4) rfl (by kernel_rfl) (by kernel_rfl) (by kernel_rfl) (fun _ _ _ h => h) (Or.inl ⟨by rfl, ?hyb4⟩) hHeld ?_
  case hyb4 => (intro w hSw; (try dsimp only at hSw); go_simp; (try with_reducible rfl))
  try simp only [Act.put, List.setIfInBounds_toArray, List.set_cons_zero, List.set_cons_succ]
  refine wpAnyH_take (i := 5) (oi := { dst := some 21, op := Op.binOp BinOp.lss 3 (Operand.tmp 20) (Operand.const (Value.int IntKind.i64 0)) 3, type := 4, pos := "access.go:24", after := #[{ on := 4, ground := Ground.data }, { on := 2, ground := Ground.guard }], guard := some (2, false) }) (v := ?vb5) rfl (by kernel_rfl) (by kernel_rfl) (by kernel_rfl) (fun _ _ _ h => h) (Or.inl ⟨by rfl, ?hyb5⟩) hHeld ?_
  case hyb5 => (intro w hSw; (try dsimp only at hSw); go_simp; (try with_reducible rfl))
  try simp only [Act.put, List.setIfInBounds_toArray, List.set_cons_zero, List.set_cons_succ]
  refine wpAnyH_take (i := 6) (oi := { dst := some 22, op := Op.pick (Operand.tmp 18) (Operand.const (Value.bool true)) (Operand.tmp 21), type := 4, pos := "access.go:24", after := #[{ on := 2, ground := Ground.data }, { on := 5, ground := Ground.data }], guard := none }) (v := ?vb6) rfl (by kernel_rfl) (by kernel_rfl) (by kernel_rfl) (fun _ _ _ h => h) (Or.inl ⟨by rfl, ?hyb6⟩) hHeld ?_
  case hyb6 => (intro w hSw; (try dsimp only at hSw); go_simp; (try with_reducible rfl))
  try simp only [Act.put, List.setIfInBounds_toArray, List.set_cons_zero, List.set_cons_succ]
  refine wpAnyH_take (i := 7) (oi := { dst := some 23, op := Op.move (Operand.tmp 22), type := 4, pos := "access.go:24", after := #[{ on := 6, ground := Ground.data }, { on := 2, ground := Ground.chain }], guard := none }) (v := ?vb7) rfl (by kernel_rfl) (by kernel_rfl) (by kernel_rfl) (fun _ _ _ h => h) (Or.inl ⟨by rfl, ?hyb7⟩) hHeld ?_
  case hyb7 => (intro w hSw; (try dsimp only at hSw); go_simp; (try with_reducible rfl))
  try simp only [Act.put, List.setIfInBounds_toArray, List.set_cons_zero, List.set_cons_succ]
  refine wpAnyH_take (i := 8) (oi := { dst := some 24, op := Op.fieldAddr 33 (Operand.tmp 3) 1, type := 0, pos := "access.go:24", after := #[{ on := 7, ground := Ground.guard }], guard := some (7, false) }) (v := undef) rfl (by kernel_rfl) (by kernel_rfl) (by kernel_rfl) (fun _ _ _ h => h) (Or.inr ⟨by rfl, rfl⟩) hHeld ?_
  try simp only [Act.put, List.setIfInBounds_toArray, List.set_cons_zero, List.set_cons_succ]
  refine wpAnyH_take (i := 9) (oi := { dst := some 25, op := Op.load 3 (Operand.tmp 24), type := 3, pos := "access.go:24", after := #[{ on := 8, ground := Ground.data }, { on := 7, ground := Ground.guard }], guard := some (7, false) }) (v := undef) rfl (by kernel_rfl) (by kernel_rfl) (by kernel_rfl) (fun _ _ _ h => h) (Or.inr ⟨by rfl, rfl⟩) hHeld ?_
  try simp only [Act.put, List.setIfInBounds_toArray, List.set_cons_zero, List.set_cons_succ]
  refine wpAnyH_take (i := 10) (oi := { dst := some 26, op := Op.load 27 (Operand.tmp 2), type := 27, pos := "access.go:24", after := #[{ on := 7, ground := Ground.guard }], guard := some (7, false) }) (v := undef) rfl (by kernel_rfl) (by kernel_rfl) (by kernel_rfl) (fun _ _ _ h => h) (Or.inr ⟨by rfl, rfl⟩) hHeld ?_
  try simp only [Act.put, List.setIfInBounds_toArray, List.set_cons_zero, List.set_cons_succ]
  refine wpAnyH_take (i := 11) (oi := { dst := some 27, op := Op.call { callee := Callee.value (Operand.func 20), args := #[Operand.tmp 26], argTypes := #[27] }, type := 3, pos := "access.go:24", after := #[{ on := 10, ground := Ground.data }, { on := 7, ground := Ground.chain }, { on := 7, ground := Ground.guard }], guard := some (7, false) }) (v := undef) rfl (by kernel_rfl) (by kernel_rfl) (by kernel_rfl) (fun _ _ _ h => h) (Or.inr ⟨by rfl, rfl⟩) hHeld ?_
  try simp only [Act.put, List.setIfInBounds_toArray, List.set_cons_zero, List.set_cons_succ]
  refine wpAnyH_take (i := 12) (oi := { dst := some 28, op := Op.binOp BinOp.geq 3 (Operand.tmp 25) (Operand.tmp 27) 3, type := 4, pos := "access.go:24", after := #[{ on := 9, ground := Ground.data }, { on := 11, ground := Ground.data }, { on := 7, ground := Ground.guard }], guard := some (7, false) }) (v := undef) rfl (by kernel_rfl) (by kernel_rfl) (by kernel_rfl) (fun _ _ _ h => h) (Or.inr ⟨by rfl, rfl⟩) hHeld ?_
  try simp only [Act.put, List.setIfInBounds_toArray, List.set_cons_zero, List.set_cons_succ]
  refine wpAnyH_take (i := 13) (oi := { dst := some 29, op := Op.pick (Operand.tmp 23) (Operand.const (Value.bool true)) (Operand.tmp 28), type := 4, pos := "access.go:24", after := #[{ on := 7, ground := Ground.data }, { on := 12, ground := Ground.data }], guard := none }) (v := ?vb13) rfl (by kernel_rfl) (by kernel_rfl) (by kernel_rfl) (fun _ _ _ h => h) (Or.inl ⟨by rfl, ?hyb13⟩) hHeld ?_
  case hyb13 => (intro w hSw; (try dsimp only at hSw); go_simp; (try with_reducible rfl))
  try simp only [Act.put, List.setIfInBounds_toArray, List.set_cons_zero, List.set_cons_succ]
  refine wpAnyH_done (by kernel_rfl) ?_ _
  go_wp2_with fail
  go_ret
  exact ⟨rfl, hQ⟩
set_option maxHeartbeats 3200000 in
theorem Right_high (a b c d k p x y o : Int) (h : 1 ≤ k ∧ k ≤ 4) (hp : 0 ≤ p) (hq : sizeP a b c d ≤ p) (w : World) (hS : SpansAt w) :
    Calls Tryd.prog 9 #[.agg #[.int .i64 a, .int .i64 b, .int .i64 c, .int .i64 d], accV k p x y o] w fun e w' => e = .returned (.bool false) ∧ Below w.heap.size w w' := by
  have hk : isK k = true := by unfold isK; exact decide_eq_true h
  have d1 : decide (p < 0) = false := decide_eq_false (by omega)
  have d2 : decide (sizeP a b c d ≤ p) = true := decide_eq_true hq
  have HZ := Lib.hid (Size_c a b c d)
  have HS := Lib.hid hS
  generalize sizeP a b c d = z at *
  clear h hp hq hS
  have HM := Lib.hid (split_met a b c d k p x y o w)
  rw [hk] at HM
  generalize cntK k = n at HM
  clear hk
  go_enter Tryd.func9, Tryd.ntmps9
  go_wp2_with fail
  refine HM.out.mono ?_
  rintro e W ⟨rfl, hW, hE, hP⟩
  have HB := Lib.hid hW; have HP := Lib.hid hP
  have hQ : Below w.heap.size w W.drew := hW.drew
  clear HM hW hP
  go_wp2_with fail
  refine wp_region_held_drew (S := (fun w' => w'.cell? ⟨w.heap.size, 0, none⟩ = some (.int .i64 a) ∧ w'.cell? ⟨w.heap.size, 1, none⟩ = some (.int .i64 b) ∧ w'.cell? ⟨w.heap.size, 2, none⟩ = some (.int .i64 c) ∧ w'.cell? ⟨w.heap.size, 3, none⟩ = some (.int .i64 d) ∧ w'.cell? ⟨w.heap.size + 1, 0, none⟩ = some (.int .i64 k) ∧ w'.cell? ⟨w.heap.size + 1, 1, none⟩ = some (.int .i64 p) ∧ w'.cell? ⟨w.heap.size + 1, 2, none⟩ = some (.int .u64 x) ∧ w'.cell? ⟨w.heap.size + 1, 3, none⟩ = some (.int .u64 y) ∧ w'.cell? ⟨w.heap.size + 1, 4, none⟩ = some (.int .u64 o))) (by kernel_rfl) ?_ (fun hHeld => ?_)
  · exact hE
  refine wpAnyH_take (i := 0) (oi := { dst := some 16, op := Op.move (Operand.tmp 7), type := 4, pos := "access.go:24", after := #[], guard := none }) (v := ?vc0) rfl (by kernel_rfl) (by kernel_rfl) (by kernel_rfl) (fun _ _ _ h => h) (Or.inl ⟨by rfl, ?hyc0⟩) hHeld ?_
  case hyc0 => (intro w hSw; (try dsimp only at hSw); go_simp; (try with_reducible rfl))
  try simp only [Act.put, List.setIfInBounds_toArray, List.set_cons_zero, List.set_cons_succ]
  refine wpAnyH_take (i := 1) (oi := { dst := some 17, op := Op.unOp UnOp.not 4 (Operand.tmp 16), type := 4, pos := "access.go:24", after := #[{ on := 0, ground := Ground.data }], guard := none }) (v := ?vc1) rfl (by kernel_rfl) (by kernel_rfl) (by kernel_rfl) (fun _ _ _ h => h) (Or.inl ⟨by rfl, ?hyc1⟩) hHeld ?_
  case hyc1 => (intro w hSw; (try dsimp only at hSw); go_simp; (try with_reducible rfl))
  try simp only [Act.put, List.setIfInBounds_toArray, List.set_cons_zero, List.set_cons_succ]
  refine wpAnyH_take (i := 2) (oi := { dst := some 18, op := Op.move (Operand.tmp 17), type := 4, pos := "access.go:24", after := #[{ on := 1, ground := Ground.data }], guard := none }) (v := ?vc2) rfl (by kernel_rfl) (by kernel_rfl) (by kernel_rfl) (fun _ _ _ h => h) (Or.inl ⟨by rfl, ?hyc2⟩) hHeld ?_
  case hyc2 => (intro w hSw; (try dsimp only at hSw); go_simp; (try with_reducible rfl))
  try simp only [Act.put, List.setIfInBounds_toArray, List.set_cons_zero, List.set_cons_succ]
  refine wpAnyH_take (i := 3) (oi := { dst := some 19, op := Op.fieldAddr 33 (Operand.tmp 3) 1, type := 0, pos := "access.go:24", after := #[{ on := 2, ground := Ground.guard }], guard := some (2, false) }) (v := ?vc3) rfl (by kernel_rfl) (by kernel_rfl) (by kernel_rfl) (fun _ _ _ h => h) (Or.inl ⟨by rfl, ?hyc3⟩) hHeld ?_
  case hyc3 => (intro w hSw; (try dsimp only at hSw); go_simp; (try with_reducible rfl))
  try simp only [Act.put, List.setIfInBounds_toArray, List.set_cons_zero, List.set_cons_succ]
  refine wpAnyH_take (i := 4) (oi := { dst := some 20, op := Op.load 3 (Operand.tmp 19), type := 3, pos := "access.go:24", after := #[{ on := 3, ground := Ground.data }, { on := 2, ground := Ground.guard }], guard := some (2, false) }) (v := ?vc4) rfl (by kernel_rfl) (by kernel_rfl) (by kernel_rfl) (fun _ _ _ h => h) (Or.inl ⟨by rfl, ?hyc4⟩) hHeld ?_
  case hyc4 => (intro w hSw; (try dsimp only at hSw); go_simp; (try with_reducible rfl))
  try simp only [Act.put, List.setIfInBounds_toArray, List.set_cons_zero, List.set_cons_succ]
  refine wpAnyH_take (i := 5) (oi := { dst := some 21, op := Op.binOp BinOp.lss 3 (Operand.tmp 20) (Operand.const (Value.int IntKind.i64 0)) 3, type := 4, pos := "access.go:24", after := #[{ on := 4, ground := Ground.data }, { on := 2, ground := Ground.guard }], guard := some (2, false) }) (v := ?vc5) rfl (by kernel_rfl) (by kernel_rfl) (by kernel_rfl) (fun _ _ _ h => h) (Or.inl ⟨by rfl, ?hyc5⟩) hHeld ?_
  case hyc5 => (intro w hSw; (try dsimp only at hSw); go_simp; (try with_reducible rfl))
  try simp only [Act.put, List.setIfInBounds_toArray, List.set_cons_zero, List.set_cons_succ]
  refine wpAnyH_take (i := 6) (oi := { dst := some 22, op := Op.pick (Operand.tmp 18) (Operand.const (Value.bool true)) (Operand.tmp 21), type := 4, pos := "access.go:24", after := #[{ on := 2, ground := Ground.data }, { on := 5, ground := Ground.data }], guard := none }) (v := ?vc6) rfl (by kernel_rfl) (by kernel_rfl) (by kernel_rfl) (fun _ _ _ h => h) (Or.inl ⟨by rfl, ?hyc6⟩) hHeld ?_
  case hyc6 => (intro w hSw; (try dsimp only at hSw); go_simp; (try with_reducible rfl))
  try simp only [Act.put, List.setIfInBounds_toArray, List.set_cons_zero, List.set_cons_succ]
  refine wpAnyH_take (i := 7) (oi := { dst := some 23, op := Op.move (Operand.tmp 22), type := 4, pos := "access.go:24", after := #[{ on := 6, ground := Ground.data }, { on := 2, ground := Ground.chain }], guard := none }) (v := ?vc7) rfl (by kernel_rfl) (by kernel_rfl) (by kernel_rfl) (fun _ _ _ h => h) (Or.inl ⟨by rfl, ?hyc7⟩) hHeld ?_
  case hyc7 => (intro w hSw; (try dsimp only at hSw); go_simp; (try with_reducible rfl))
  try simp only [Act.put, List.setIfInBounds_toArray, List.set_cons_zero, List.set_cons_succ]
  refine wpAnyH_take (i := 8) (oi := { dst := some 24, op := Op.fieldAddr 33 (Operand.tmp 3) 1, type := 0, pos := "access.go:24", after := #[{ on := 7, ground := Ground.guard }], guard := some (7, false) }) (v := ?vc8) rfl (by kernel_rfl) (by kernel_rfl) (by kernel_rfl) (fun _ _ _ h => h) (Or.inl ⟨by rfl, ?hyc8⟩) hHeld ?_
  case hyc8 => (intro w hSw; (try dsimp only at hSw); go_simp; (try with_reducible rfl))
  try simp only [Act.put, List.setIfInBounds_toArray, List.set_cons_zero, List.set_cons_succ]
  refine wpAnyH_take (i := 9) (oi := { dst := some 25, op := Op.load 3 (Operand.tmp 24), type := 3, pos := "access.go:24", after := #[{ on := 8, ground := Ground.data }, { on := 7, ground := Ground.guard }], guard := some (7, false) }) (v := ?vc9) rfl (by kernel_rfl) (by kernel_rfl) (by kernel_rfl) (fun _ _ _ h => h) (Or.inl ⟨by rfl, ?hyc9⟩) hHeld ?_
  case hyc9 => (intro w hSw; (try dsimp only at hSw); go_simp; (try with_reducible rfl))
  try simp only [Act.put, List.setIfInBounds_toArray, List.set_cons_zero, List.set_cons_succ]
  refine wpAnyH_take (i := 10) (oi := { dst := some 26, op := Op.load 27 (Operand.tmp 2), type := 27, pos := "access.go:24", after := #[{ on := 7, ground := Ground.guard }], guard := some (7, false) }) (v := ?vc10) rfl (by kernel_rfl) (by kernel_rfl) (by kernel_rfl) (fun _ _ _ h => h) (Or.inl ⟨by rfl, ?hyc10⟩) hHeld ?_
  case hyc10 => (intro w hSw; (try dsimp only at hSw); go_simp; (try with_reducible rfl))
  try simp only [Act.put, List.setIfInBounds_toArray, List.set_cons_zero, List.set_cons_succ]
  refine wpAnyH_ready (rs := [11]) (by kernel_rfl) (by simp) ?_
  refine AllReadyH.cons (o := { dst := some 27, op := Op.call { callee := Callee.value (Operand.func 20), args := #[Operand.tmp 26], argTypes := #[27] }, type := 3, pos := "access.go:24", after := #[{ on := 10, ground := Ground.data }, { on := 7, ground := Ground.chain }, { on := 7, ground := Ground.guard }], guard := some (7, false) }) rfl (fun K hK => ?_) AllReadyH.nil
  go_simp
  refine (HZ.out _ (HS.out.below hQ)).mono ?_
  rintro e v1 ⟨rfl, hV⟩
  have hX1 : BothAt w v1 a b c d k p x y o := BothAt.below hHeld hV
  have hPd : PairAt W.drew (w.heap.size + 3) x y := HP.out
  have hP1 := PairAt.below hPd hV
  clear hPd
  have hQ1 := belowOn (w := w) hQ hV
  clear hV hHeld
  try go_wp2_with fail
  refine hK.out _ _ ?_ (fun hHeld => ?_)
  · exact hX1
  clear hK K
  try simp only [Act.put, List.setIfInBounds_toArray, List.set_cons_zero, List.set_cons_succ]
  refine wpAnyH_take (i := 12) (oi := { dst := some 28, op := Op.binOp BinOp.geq 3 (Operand.tmp 25) (Operand.tmp 27) 3, type := 4, pos := "access.go:24", after := #[{ on := 9, ground := Ground.data }, { on := 11, ground := Ground.data }, { on := 7, ground := Ground.guard }], guard := some (7, false) }) (v := ?vc12) rfl (by kernel_rfl) (by kernel_rfl) (by kernel_rfl) (fun _ _ _ h => h) (Or.inl ⟨by rfl, ?hyc12⟩) hHeld ?_
  case hyc12 => (intro w hSw; (try dsimp only at hSw); go_simp; (try with_reducible rfl))
  try simp only [Act.put, List.setIfInBounds_toArray, List.set_cons_zero, List.set_cons_succ]
  refine wpAnyH_take (i := 13) (oi := { dst := some 29, op := Op.pick (Operand.tmp 23) (Operand.const (Value.bool true)) (Operand.tmp 28), type := 4, pos := "access.go:24", after := #[{ on := 7, ground := Ground.data }, { on := 12, ground := Ground.data }], guard := none }) (v := ?vc13) rfl (by kernel_rfl) (by kernel_rfl) (by kernel_rfl) (fun _ _ _ h => h) (Or.inl ⟨by rfl, ?hyc13⟩) hHeld ?_
  case hyc13 => (intro w hSw; (try dsimp only at hSw); go_simp; (try with_reducible rfl))
  try simp only [Act.put, List.setIfInBounds_toArray, List.set_cons_zero, List.set_cons_succ]
  refine wpAnyH_done (by kernel_rfl) ?_ _
  go_wp2_with fail
  go_ret
  exact ⟨rfl, hQ1⟩
/-- What a kind doesn't use is 0. -/
def restF (k x y : Int) (j : Nat) : Int := if cntK k + j = 0 then x else y
set_option maxHeartbeats 6400000 in
theorem Right_in (a b c d k p x y o : Int) (h : 1 ≤ k ∧ k ≤ 4) (hp : 0 ≤ p) (hq : p < sizeP a b c d) (r : Bool) (hr : r = true ↔ ∀ j, j < 2 - cntK k → restF k x y j = 0) (w : World) (hS : SpansAt w) :
    Calls Tryd.prog 9 #[.agg #[.int .i64 a, .int .i64 b, .int .i64 c, .int .i64 d], accV k p x y o] w fun e w' => e = .returned (.bool r) ∧ Below w.heap.size w w' := by
  have hk : isK k = true := by unfold isK; exact decide_eq_true h
  have d1 : decide (p < 0) = false := decide_eq_false (by omega)
  have d2 : decide (sizeP a b c d ≤ p) = false := decide_eq_false (by omega)
  have HZ := Lib.hid (Size_c a b c d)
  have HS := Lib.hid hS
  have HR := Lib.hid hr
  have HG : Hid (∀ (v : World), PairAt v (w.heap.size + 3) x y → ∀ j, j < 2 - cntK k → v.cell? ⟨w.heap.size + 3, cntK k % 2 + j, none⟩ = some (.int .u64 (restF k x y j))) := Lib.hid (fun v hv j hj => by
    unfold restF
    by_cases e : cntK k + j = 0
    · rw [if_pos e, show cntK k % 2 + j = 0 by omega]; exact hv.1
    · rw [if_neg e, show cntK k % 2 + j = 1 by omega]; exact hv.2)
  generalize sizeP a b c d = z at *
  generalize restF k x y = g at *
  have hm : ∃ m : Nat, 2 - cntK k = m ∧ m ≤ 2 := ⟨_, rfl, by omega⟩
  obtain ⟨m, hm, hm2⟩ := hm
  clear h hp hq hS hr
  have HM := Lib.hid (split_met a b c d k p x y o w)
  rw [hk, hm] at HM
  rw [hm] at HR HG
  generalize cntK k % 2 = f at *
  generalize cntK k = n at *
  clear hk hm
  go_enter Tryd.func9, Tryd.ntmps9
  go_wp2_with fail
  refine HM.out.mono ?_
  rintro e W ⟨rfl, hW, hE, hP⟩
  have HB := Lib.hid hW; have HP := Lib.hid hP
  have hQ : Below w.heap.size w W.drew := hW.drew
  clear HM hW hP
  go_wp2_with fail
  refine wp_region_held_drew (S := (fun w' => w'.cell? ⟨w.heap.size, 0, none⟩ = some (.int .i64 a) ∧ w'.cell? ⟨w.heap.size, 1, none⟩ = some (.int .i64 b) ∧ w'.cell? ⟨w.heap.size, 2, none⟩ = some (.int .i64 c) ∧ w'.cell? ⟨w.heap.size, 3, none⟩ = some (.int .i64 d) ∧ w'.cell? ⟨w.heap.size + 1, 0, none⟩ = some (.int .i64 k) ∧ w'.cell? ⟨w.heap.size + 1, 1, none⟩ = some (.int .i64 p) ∧ w'.cell? ⟨w.heap.size + 1, 2, none⟩ = some (.int .u64 x) ∧ w'.cell? ⟨w.heap.size + 1, 3, none⟩ = some (.int .u64 y) ∧ w'.cell? ⟨w.heap.size + 1, 4, none⟩ = some (.int .u64 o))) (by kernel_rfl) ?_ (fun hHeld => ?_)
  · exact hE
  refine wpAnyH_take (i := 0) (oi := { dst := some 16, op := Op.move (Operand.tmp 7), type := 4, pos := "access.go:24", after := #[], guard := none }) (v := ?vd0) rfl (by kernel_rfl) (by kernel_rfl) (by kernel_rfl) (fun _ _ _ h => h) (Or.inl ⟨by rfl, ?hyd0⟩) hHeld ?_
  case hyd0 => (intro w hSw; (try dsimp only at hSw); go_simp; (try with_reducible rfl))
  try simp only [Act.put, List.setIfInBounds_toArray, List.set_cons_zero, List.set_cons_succ]
  refine wpAnyH_take (i := 1) (oi := { dst := some 17, op := Op.unOp UnOp.not 4 (Operand.tmp 16), type := 4, pos := "access.go:24", after := #[{ on := 0, ground := Ground.data }], guard := none }) (v := ?vd1) rfl (by kernel_rfl) (by kernel_rfl) (by kernel_rfl) (fun _ _ _ h => h) (Or.inl ⟨by rfl, ?hyd1⟩) hHeld ?_
  case hyd1 => (intro w hSw; (try dsimp only at hSw); go_simp; (try with_reducible rfl))
  try simp only [Act.put, List.setIfInBounds_toArray, List.set_cons_zero, List.set_cons_succ]
  refine wpAnyH_take (i := 2) (oi := { dst := some 18, op := Op.move (Operand.tmp 17), type := 4, pos := "access.go:24", after := #[{ on := 1, ground := Ground.data }], guard := none }) (v := ?vd2) rfl (by kernel_rfl) (by kernel_rfl) (by kernel_rfl) (fun _ _ _ h => h) (Or.inl ⟨by rfl, ?hyd2⟩) hHeld ?_
  case hyd2 => (intro w hSw; (try dsimp only at hSw); go_simp; (try with_reducible rfl))
  try simp only [Act.put, List.setIfInBounds_toArray, List.set_cons_zero, List.set_cons_succ]
  refine wpAnyH_take (i := 3) (oi := { dst := some 19, op := Op.fieldAddr 33 (Operand.tmp 3) 1, type := 0, pos := "access.go:24", after := #[{ on := 2, ground := Ground.guard }], guard := some (2, false) }) (v := ?vd3) rfl (by kernel_rfl) (by kernel_rfl) (by kernel_rfl) (fun _ _ _ h => h) (Or.inl ⟨by rfl, ?hyd3⟩) hHeld ?_
  case hyd3 => (intro w hSw; (try dsimp only at hSw); go_simp; (try with_reducible rfl))
  try simp only [Act.put, List.setIfInBounds_toArray, List.set_cons_zero, List.set_cons_succ]
  refine wpAnyH_take (i := 4) (oi := { dst := some 20, op := Op.load 3 (Operand.tmp 19), type := 3, pos := "access.go:24", after := #[{ on := 3, ground := Ground.data }, { on := 2, ground := Ground.guard }], guard := some (2, false) }) (v := ?vd4) rfl (by kernel_rfl) (by kernel_rfl) (by kernel_rfl) (fun _ _ _ h => h) (Or.inl ⟨by rfl, ?hyd4⟩) hHeld ?_
  case hyd4 => (intro w hSw; (try dsimp only at hSw); go_simp; (try with_reducible rfl))
  try simp only [Act.put, List.setIfInBounds_toArray, List.set_cons_zero, List.set_cons_succ]
  refine wpAnyH_take (i := 5) (oi := { dst := some 21, op := Op.binOp BinOp.lss 3 (Operand.tmp 20) (Operand.const (Value.int IntKind.i64 0)) 3, type := 4, pos := "access.go:24", after := #[{ on := 4, ground := Ground.data }, { on := 2, ground := Ground.guard }], guard := some (2, false) }) (v := ?vd5) rfl (by kernel_rfl) (by kernel_rfl) (by kernel_rfl) (fun _ _ _ h => h) (Or.inl ⟨by rfl, ?hyd5⟩) hHeld ?_
  case hyd5 => (intro w hSw; (try dsimp only at hSw); go_simp; (try with_reducible rfl))
  try simp only [Act.put, List.setIfInBounds_toArray, List.set_cons_zero, List.set_cons_succ]
  refine wpAnyH_take (i := 6) (oi := { dst := some 22, op := Op.pick (Operand.tmp 18) (Operand.const (Value.bool true)) (Operand.tmp 21), type := 4, pos := "access.go:24", after := #[{ on := 2, ground := Ground.data }, { on := 5, ground := Ground.data }], guard := none }) (v := ?vd6) rfl (by kernel_rfl) (by kernel_rfl) (by kernel_rfl) (fun _ _ _ h => h) (Or.inl ⟨by rfl, ?hyd6⟩) hHeld ?_
  case hyd6 => (intro w hSw; (try dsimp only at hSw); go_simp; (try with_reducible rfl))
  try simp only [Act.put, List.setIfInBounds_toArray, List.set_cons_zero, List.set_cons_succ]
  refine wpAnyH_take (i := 7) (oi := { dst := some 23, op := Op.move (Operand.tmp 22), type := 4, pos := "access.go:24", after := #[{ on := 6, ground := Ground.data }, { on := 2, ground := Ground.chain }], guard := none }) (v := ?vd7) rfl (by kernel_rfl) (by kernel_rfl) (by kernel_rfl) (fun _ _ _ h => h) (Or.inl ⟨by rfl, ?hyd7⟩) hHeld ?_
  case hyd7 => (intro w hSw; (try dsimp only at hSw); go_simp; (try with_reducible rfl))
  try simp only [Act.put, List.setIfInBounds_toArray, List.set_cons_zero, List.set_cons_succ]
  refine wpAnyH_take (i := 8) (oi := { dst := some 24, op := Op.fieldAddr 33 (Operand.tmp 3) 1, type := 0, pos := "access.go:24", after := #[{ on := 7, ground := Ground.guard }], guard := some (7, false) }) (v := ?vd8) rfl (by kernel_rfl) (by kernel_rfl) (by kernel_rfl) (fun _ _ _ h => h) (Or.inl ⟨by rfl, ?hyd8⟩) hHeld ?_
  case hyd8 => (intro w hSw; (try dsimp only at hSw); go_simp; (try with_reducible rfl))
  try simp only [Act.put, List.setIfInBounds_toArray, List.set_cons_zero, List.set_cons_succ]
  refine wpAnyH_take (i := 9) (oi := { dst := some 25, op := Op.load 3 (Operand.tmp 24), type := 3, pos := "access.go:24", after := #[{ on := 8, ground := Ground.data }, { on := 7, ground := Ground.guard }], guard := some (7, false) }) (v := ?vd9) rfl (by kernel_rfl) (by kernel_rfl) (by kernel_rfl) (fun _ _ _ h => h) (Or.inl ⟨by rfl, ?hyd9⟩) hHeld ?_
  case hyd9 => (intro w hSw; (try dsimp only at hSw); go_simp; (try with_reducible rfl))
  try simp only [Act.put, List.setIfInBounds_toArray, List.set_cons_zero, List.set_cons_succ]
  refine wpAnyH_take (i := 10) (oi := { dst := some 26, op := Op.load 27 (Operand.tmp 2), type := 27, pos := "access.go:24", after := #[{ on := 7, ground := Ground.guard }], guard := some (7, false) }) (v := ?vd10) rfl (by kernel_rfl) (by kernel_rfl) (by kernel_rfl) (fun _ _ _ h => h) (Or.inl ⟨by rfl, ?hyd10⟩) hHeld ?_
  case hyd10 => (intro w hSw; (try dsimp only at hSw); go_simp; (try with_reducible rfl))
  try simp only [Act.put, List.setIfInBounds_toArray, List.set_cons_zero, List.set_cons_succ]
  refine wpAnyH_ready (rs := [11]) (by kernel_rfl) (by simp) ?_
  refine AllReadyH.cons (o := { dst := some 27, op := Op.call { callee := Callee.value (Operand.func 20), args := #[Operand.tmp 26], argTypes := #[27] }, type := 3, pos := "access.go:24", after := #[{ on := 10, ground := Ground.data }, { on := 7, ground := Ground.chain }, { on := 7, ground := Ground.guard }], guard := some (7, false) }) rfl (fun K hK => ?_) AllReadyH.nil
  go_simp
  refine (HZ.out _ (HS.out.below hQ)).mono ?_
  rintro e v1 ⟨rfl, hV⟩
  have hX1 : BothAt w v1 a b c d k p x y o := BothAt.below hHeld hV
  have hPd : PairAt W.drew (w.heap.size + 3) x y := HP.out
  have hP1 := PairAt.below hPd hV
  clear hPd
  have hQ1 := belowOn (w := w) hQ hV
  clear hV hHeld
  try go_wp2_with fail
  refine hK.out _ _ ?_ (fun hHeld => ?_)
  · exact hX1
  clear hK K
  try simp only [Act.put, List.setIfInBounds_toArray, List.set_cons_zero, List.set_cons_succ]
  refine wpAnyH_take (i := 12) (oi := { dst := some 28, op := Op.binOp BinOp.geq 3 (Operand.tmp 25) (Operand.tmp 27) 3, type := 4, pos := "access.go:24", after := #[{ on := 9, ground := Ground.data }, { on := 11, ground := Ground.data }, { on := 7, ground := Ground.guard }], guard := some (7, false) }) (v := ?vd12) rfl (by kernel_rfl) (by kernel_rfl) (by kernel_rfl) (fun _ _ _ h => h) (Or.inl ⟨by rfl, ?hyd12⟩) hHeld ?_
  case hyd12 => (intro w hSw; (try dsimp only at hSw); go_simp; (try with_reducible rfl))
  try simp only [Act.put, List.setIfInBounds_toArray, List.set_cons_zero, List.set_cons_succ]
  refine wpAnyH_take (i := 13) (oi := { dst := some 29, op := Op.pick (Operand.tmp 23) (Operand.const (Value.bool true)) (Operand.tmp 28), type := 4, pos := "access.go:24", after := #[{ on := 7, ground := Ground.data }, { on := 12, ground := Ground.data }], guard := none }) (v := ?vd13) rfl (by kernel_rfl) (by kernel_rfl) (by kernel_rfl) (fun _ _ _ h => h) (Or.inl ⟨by rfl, ?hyd13⟩) hHeld ?_
  case hyd13 => (intro w hSw; (try dsimp only at hSw); go_simp; (try with_reducible rfl))
  try simp only [Act.put, List.setIfInBounds_toArray, List.set_cons_zero, List.set_cons_succ]
  refine wpAnyH_done (by kernel_rfl) ?_ _
  have hG := HG.out v1 hP1
  clear HP HG
  go_wp2_with fail
  go_loop [32] (fun vi => ∃ i : Nat, vi = .int .i64 i ∧ i ≤ m ∧ Hid (∀ j, j < i → g j = 0)) (fun vi => m - (intOf vi).toNat)
  case atStart => exact ⟨0, rfl, by omega, Lib.hid (fun j hj => by omega)⟩
  case round =>
    obtain ⟨i, rfl, hi, HI⟩ := hrel
    by_cases hlt : i < m
    · have hc := hG i hlt
      by_cases hz : g i = 0
      · have hq : (g i != 0) = false := by rw [hz]; rfl
        have HI' : Hid (∀ j, j < i + 1 → g j = 0) := Lib.hid (fun j hj => by
          by_cases e : j = i
          · rw [e]; exact hz
          · exact HI.out j (by omega))
        generalize g i = gi at hc hq
        clear hz HI hG
        go_wp2_with fail
        go_round
        case rel => exact ⟨i + 1, by go_num, by omega, HI'⟩
        case measure => simp [intOf]; omega
      · have hq : (g i != 0) = true := by simpa using hz
        have hr : r = false := by
          cases hrr : r with
          | false => rfl
          | true => exact absurd (HR.out.1 hrr i hlt) hz
        generalize g i = gi at hc hq
        clear hz HI hG HR
        subst hr
        go_wp2_with fail
        go_ret
        exact ⟨rfl, hQ1⟩
    · have hr : r = true := HR.out.2 (fun j hj => HI.out j (by omega))
      clear HI hG HR
      subst hr
      go_wp2_with fail
      go_ret
      exact ⟨rfl, hQ1⟩
theorem Right_c (a b c d k p x y o : Int) (w : World) (hS : SpansAt w) :
    Calls Tryd.prog 9 #[.agg #[.int .i64 a, .int .i64 b, .int .i64 c, .int .i64 d], accV k p x y o] w fun e w' => e = .returned (.bool (decide (RightA a b c d k p x y))) ∧ Below w.heap.size w w' := by
  by_cases h : 1 ≤ k ∧ k ≤ 4
  · by_cases hp : 0 ≤ p
    · by_cases hq : p < sizeP a b c d
      · refine Right_in a b c d k p x y o h hp hq _ ?_ w hS
        rw [decide_eq_true_iff]
        unfold RightA restF
        constructor
        · rintro ⟨_, _, h1, h2⟩ j hj
          by_cases e : cntK k + j = 0
          · rw [if_pos e]; exact h1 (by omega)
          · rw [if_neg e]; exact h2 (by omega)
        · intro hall
          refine ⟨h, ⟨hp, hq⟩, fun h1 => ?_, fun h1 => ?_⟩
          · have := hall 0 (by omega); rwa [if_pos (by omega)] at this
          · have := hall (1 - cntK k) (by omega); rwa [if_neg (by omega)] at this
      · rw [decide_eq_false (fun hA : RightA a b c d k p x y => hq hA.2.1.2)]
        exact Right_high a b c d k p x y o h hp (by omega) w hS
    · rw [decide_eq_false (fun hA : RightA a b c d k p x y => hp hA.2.1.1)]
      exact Right_low a b c d k p x y o h (by omega) w
  · rw [decide_eq_false (fun hA : RightA a b c d k p x y => h hA.1)]
    exact Right_kind a b c d k p x y o h w
end Go.Proofs.YtdhejdehlomppaaDoor
