/- Package access's Changes, for every access; the law AccessChanges answers true for every access, in whatever memory in which the listed variables read as their texts lay them. -/
import Derived.Test.YtdhejdehlomppaaDoorAccessRows
import Derived.Test.YtdhejdehlomppaaDoorRefDo
namespace Go.Proofs.YtdhejdehlomppaaDoor
open Go Go.RowKit
set_option maxRecDepth 100000
attribute [local go_sem ↓] Go.wp_at_zero Go.wp_at_succ

/-- Whether an access changes a word. -/
def chgF (k x y o : Int) : Bool := if k = 2 then x != o else if k = 3 then (x == o && y != o) else if k = 4 then x != 0 else false
theorem Changes_none (k p x y o : Int) (h : ¬ (2 ≤ k ∧ k ≤ 4)) (w : World) :
    Calls Tryd.prog 13 #[accV k p x y o] w fun e w' => e = .returned (.bool false) ∧ Below w.heap.size w w' := by
  have q2 : (k == 2) = false := by simp; omega
  have q3 : (k == 3) = false := by simp; omega
  have q4 : (k == 4) = false := by simp; omega
  clear h
  go_enter Tryd.func13, Tryd.ntmps13
  go_wp2
  go_ret
  exact ⟨rfl, below_new _ _⟩
theorem Changes_store (p x y o : Int) (r : Bool) (h : (x != o) = r) (w : World) :
    Calls Tryd.prog 13 #[accV 2 p x y o] w fun e w' => e = .returned (.bool r) ∧ Below w.heap.size w w' := by
  go_enter Tryd.func13, Tryd.ntmps13
  go_wp2
  go_ret
  exact ⟨by first | rfl | rw [← h], below_new _ _⟩
theorem Changes_add (p x y o : Int) (r : Bool) (h : (x != 0) = r) (w : World) :
    Calls Tryd.prog 13 #[accV 4 p x y o] w fun e w' => e = .returned (.bool r) ∧ Below w.heap.size w w' := by
  go_enter Tryd.func13, Tryd.ntmps13
  go_wp2
  go_ret
  exact ⟨by first | rfl | rw [← h], below_new _ _⟩
theorem Changes_miss (p x y o : Int) (h : x ≠ o) (w : World) :
    Calls Tryd.prog 13 #[accV 3 p x y o] w fun e w' => e = .returned (.bool false) ∧ Below w.heap.size w w' := by
  have hq : (x == o) = false := by simpa using h
  clear h
  go_enter Tryd.func13, Tryd.ntmps13
  go_wp2
  go_ret
  exact ⟨rfl, below_new _ _⟩
theorem Changes_hit (p y o : Int) (r : Bool) (h : (y != o) = r) (w : World) :
    Calls Tryd.prog 13 #[accV 3 p o y o] w fun e w' => e = .returned (.bool r) ∧ Below w.heap.size w w' := by
  go_enter Tryd.func13, Tryd.ntmps13
  go_wp2
  go_ret
  exact ⟨by first | rfl | rw [← h], below_new _ _⟩
theorem Changes_c (k p x y o : Int) (w : World) :
    Calls Tryd.prog 13 #[accV k p x y o] w fun e w' => e = .returned (.bool (chgF k x y o)) ∧ Below w.heap.size w w' := by
  by_cases h : 2 ≤ k ∧ k ≤ 4
  · obtain rfl | rfl | rfl : k = 2 ∨ k = 3 ∨ k = 4 := by omega
    · exact Changes_store p x y o _ rfl w
    · by_cases hx : x = o
      · subst hx
        have e : chgF 3 x y x = (y != x) := by unfold chgF; rw [if_neg (by decide), if_pos rfl]; simp
        rw [e]; exact Changes_hit p y x _ rfl w
      · have e : chgF 3 x y o = false := by unfold chgF; rw [if_neg (by decide), if_pos rfl]; simp [hx]
        rw [e]; exact Changes_miss p x y o hx w
    · exact Changes_add p x y o _ rfl w
  · have e : chgF k x y o = false := by unfold chgF; rw [if_neg (by omega), if_neg (by omega), if_neg (by omega)]
    rw [e]; exact Changes_none k p x y o h w
/-- What is seen when it is done. -/
theorem chg_seen (k x y o : Int) (hk : 1 ≤ k ∧ k ≤ 4) (hx : U64 x) (ho : U64 o) : (doF (fun _ => o) k 0 x y 0 != o) = chgF k x y o := by
  obtain rfl | rfl | rfl | rfl : k = 1 ∨ k = 2 ∨ k = 3 ∨ k = 4 := by omega
  · simp [doF, chgF]
  · simp [doF, chgF, upd]
  · by_cases e : o = x
    · subst e; simp [doF, chgF, upd]
    · have e' : ¬ x = o := fun h => e h.symm
      simp [doF, chgF, e, e']
  · have key : sumW o x = o ↔ x = 0 := by unfold sumW; unfold U64 at hx ho; omega
    by_cases e : x = 0
    · subst e; simp [doF, chgF, upd, key.2 rfl]
    · have e' : ¬ sumW o x = o := fun h => e (key.1 h)
      have e2 : (sumW o x != o) = (x != 0) := by rw [show (sumW o x != o) = true from by simpa using e', show (x != 0) = true from by simpa using e]
      simpa [doF, chgF, upd] using e2
set_option maxHeartbeats 6400000 in
theorem changes_good (k p x y o : Int) (hk : 1 ≤ k ∧ k ≤ 4) (hx : U64 x) (ho : U64 o) (w : World) (hL : Laid6 w) :
    Calls Tryd.prog 4 #[accV k p x y o] w fun e w' => e = .returned (.bool true) ∧ Below w.heap.size w w' := by
  have hseen := chg_seen k x y o hk hx ho
  have HD : Hid (∀ (V : World) (R : Nat), RowAt V R 31 1 (fun _ => o) → Calls Tryd.prog 12 #[.slice (some ⟨R, 0, none⟩) 1 1, accV k 0 x y o] V (RefPost V R 1 (doF (fun _ => o) k 0 x y) (accV k 0 x y o))) := Lib.hid (fun V R h => RefDo_good h k 0 (by omega) x y o hk)
  have hb := below_new w (.cells #[.int .i64 k, .int .i64 p, .int .u64 x, .int .u64 y, .int .u64 o] 33)
  have HW := Lib.hid (awake6_c _ (hL.below hb))
  have hnb := newBlock w (.cells #[.int .i64 k, .int .i64 p, .int .u64 x, .int .u64 y, .int .u64 o] 33)
  have HB := Lib.hid hb
  have HC := Lib.hid (Changes_c k 0 x y o)
  have hlt0 : w.heap.size < (w.alloc (.cells #[.int .i64 k, .int .i64 p, .int .u64 x, .int .u64 y, .int .u64 o] 33)).heap.size := by simp
  clear hb hL
  go_enter Tryd.func4, Tryd.ntmps4
  go_wp2_with fail
  refine HW.out.mono ?_
  rintro e W1 ⟨rfl, hW⟩
  have hB1 := belowOn HB.out hW
  have hk1 : W1.heap[w.heap.size]? = some (.cells #[.int .i64 k, .int .i64 p, .int .u64 x, .int .u64 y, .int .u64 o] 33) := (hW.block _ hlt0).trans hnb
  have hlt1 : w.heap.size < W1.heap.size := (Array.getElem?_eq_some_iff.1 hk1).1
  have a0 : W1.cell? ⟨w.heap.size, 0, none⟩ = some (.int .i64 k) := by simp [World.cell?, hk1]
  have a1 : W1.cell? ⟨w.heap.size, 1, none⟩ = some (.int .i64 p) := by simp [World.cell?, hk1]
  have a2 : W1.cell? ⟨w.heap.size, 2, none⟩ = some (.int .u64 x) := by simp [World.cell?, hk1]
  have a3 : W1.cell? ⟨w.heap.size, 3, none⟩ = some (.int .u64 y) := by simp [World.cell?, hk1]
  have a4 : W1.cell? ⟨w.heap.size, 4, none⟩ = some (.int .u64 o) := by simp [World.cell?, hk1]
  have af : ∀ j, W1.frozen? ⟨w.heap.size, j, none⟩ = false := fun j => by simp [World.frozen?, hk1]
  have hne1 : w.heap.size ≠ W1.heap.size := by omega
  have HVb : Hid (Below w.heap.size w ((W1.setCell ⟨w.heap.size, 1, none⟩ (.int .i64 0)).alloc (.cells #[.int .u64 o] 31))) := Lib.hid (below_on (hB1.setCell (p := ⟨w.heap.size, 1, none⟩) (Nat.le_refl _) _) _)
  have hsz : (W1.setCell ⟨w.heap.size, 1, none⟩ (.int .i64 0)).heap.size = W1.heap.size := by simp [World.setCell]
  have hk2 : (W1.setCell ⟨w.heap.size, 1, none⟩ (.int .i64 0)).heap[w.heap.size]? = some (.cells #[.int .i64 k, .int .i64 0, .int .u64 x, .int .u64 y, .int .u64 o] 33) := by simp [World.setCell, Array.getElem?_modify, hk1]
  have HVa : Hid (AccAt ((W1.setCell ⟨w.heap.size, 1, none⟩ (.int .i64 0)).alloc (.cells #[.int .u64 o] 31)) w.heap.size k 0 x y o) := Lib.hid (AccAt.below (w := W1.setCell ⟨w.heap.size, 1, none⟩ (.int .i64 0)) (by unfold AccAt; simp [World.cell?, hk2]) (below_new _ _))
  have HVr : Hid (RowAt ((W1.setCell ⟨w.heap.size, 1, none⟩ (.int .i64 0)).alloc (.cells #[.int .u64 o] 31)) W1.heap.size 31 1 (fun _ => o)) := Lib.hid (by
    have h := newBlock (W1.setCell ⟨w.heap.size, 1, none⟩ (.int .i64 0)) (.cells #[.int .u64 o] 31)
    rw [hsz] at h
    exact ⟨_, h, by simp, fun j hj => by obtain rfl : j = 0 := by omega
                                         rfl⟩)
  clear hW hk1 hk2 hnb hlt0 HB HW hB1
  go_wp2_with fail
  generalize ((W1.setCell ⟨w.heap.size, 1, none⟩ (.int .i64 0)).alloc (.cells #[.int .u64 o] 31)) = V at *
  generalize W1.heap.size = R at *
  clear a0 a1 a2 a3 a4 af hsz
  obtain ⟨a0, a1, a2, a3, a4⟩ := HVa.out
  clear hk hx ho
  refine (HD.out V R HVr.out).mono ?_
  rintro e W4 ⟨rfl, hrow, honly⟩
  have hltV : w.heap.size < V.heap.size := lt_of_cell a0
  have hA4 : AccAt W4 w.heap.size k 0 x y o := by
    have key : ∀ j, W4.cell? ⟨w.heap.size, j, none⟩ = V.cell? ⟨w.heap.size, j, none⟩ := fun j => World.cell?_of_block (honly.block w.heap.size hltV hne1)
    exact ⟨(key _).trans a0, (key _).trans a1, (key _).trans a2, (key _).trans a3, (key _).trans a4⟩
  have hB4 : Below w.heap.size w W4 := HVb.out.trans (honly.below (by omega) (by omega))
  generalize hfz : doF (fun _ => o) k 0 x y = fz at *
  have hz : (fz 0 != o) = chgF k x y o := hseen
  have HA3 : Hid (AccAt (W4.alloc (.cells #[.int .i64 k, .int .i64 0, .int .u64 x, .int .u64 y, .int .u64 o] 33)).drew w.heap.size k 0 x y o) := Lib.hid (hA4.below (below_new _ _).drew)
  have HR3 : Hid (RowAt (W4.alloc (.cells #[.int .i64 k, .int .i64 0, .int .u64 x, .int .u64 y, .int .u64 o] 33)).drew R 31 1 fz) := Lib.hid (hrow.below (below_new _ _).drew)
  have HB3 : Hid (Below w.heap.size w (W4.alloc (.cells #[.int .i64 k, .int .i64 0, .int .u64 x, .int .u64 y, .int .u64 o] 33)).drew) := Lib.hid (below_on hB4 _).drew
  generalize chgF k x y o = r at *
  obtain ⟨z, hzz⟩ : ∃ z, fz 0 = z := ⟨_, rfl⟩
  rw [hzz] at hz
  clear hA4 hB4 hrow honly hfz hseen a0 a1 a2 a3 a4 HVa HVb HVr HD hltV
  go_wp2_with fail
  refine wp_region_held_drew (S := (fun w' => w'.cell? ⟨w.heap.size, 0, none⟩ = some (.int .i64 k) ∧ w'.cell? ⟨w.heap.size, 1, none⟩ = some (.int .i64 0) ∧ w'.cell? ⟨w.heap.size, 2, none⟩ = some (.int .u64 x) ∧ w'.cell? ⟨w.heap.size, 3, none⟩ = some (.int .u64 y) ∧ w'.cell? ⟨w.heap.size, 4, none⟩ = some (.int .u64 o) ∧ w'.cell? ⟨R, 0, none⟩ = some (.int .u64 z))) (by kernel_rfl) ?_ (fun hHeld => ?_)
  · exact ⟨HA3.out.1, HA3.out.2.1, HA3.out.2.2.1, HA3.out.2.2.2.1, HA3.out.2.2.2.2, (HR3.out.cell (j := 0) (by omega)).trans (by rw [hzz])⟩
  refine wpAnyH_take (i := 0) (oi := { dst := some 18, op := Op.load 33 (Operand.tmp 1), type := 33, pos := "law.go:51", after := #[], guard := none }) (v := ?vg0) rfl (by kernel_rfl) (by kernel_rfl) (by kernel_rfl) (fun _ _ _ h => h) (Or.inl ⟨by rfl, ?hyg0⟩) hHeld ?_
  case hyg0 => (intro w hSw; (try dsimp only at hSw); go_simp; (try with_reducible rfl))
  try simp only [Act.put, List.setIfInBounds_toArray, List.set_cons_zero, List.set_cons_succ]
  refine wpAnyH_take (i := 2) (oi := { dst := some 20, op := Op.move (Operand.tmp 5), type := 4, pos := "law.go:51", after := #[], guard := none }) (v := ?vg2) rfl (by kernel_rfl) (by kernel_rfl) (by kernel_rfl) (fun _ _ _ h => h) (Or.inl ⟨by rfl, ?hyg2⟩) hHeld ?_
  case hyg2 => (intro w hSw; (try dsimp only at hSw); go_simp; (try with_reducible rfl))
  try simp only [Act.put, List.setIfInBounds_toArray, List.set_cons_zero, List.set_cons_succ]
  refine wpAnyH_ready (rs := [1]) (by kernel_rfl) (by simp) ?_
  refine AllReadyH.cons (o := { dst := some 19, op := Op.call { callee := Callee.value (Operand.func 13), args := #[Operand.tmp 18], argTypes := #[33] }, type := 4, pos := "law.go:51", after := #[{ on := 0, ground := Ground.data }], guard := none }) rfl (fun K hK => ?_) AllReadyH.nil
  go_simp
  refine (HC.out _).mono ?_
  rintro e v1 ⟨rfl, hV1⟩
  have hA1 := AccAt.below HA3.out hV1
  have hR1 := HR3.out.below hV1
  have hB1 := belowOn HB3.out hV1
  clear hV1 hHeld
  try go_wp2_with fail
  refine hK.out _ _ ?_ (fun hHeld => ?_)
  · exact ⟨hA1.1, hA1.2.1, hA1.2.2.1, hA1.2.2.2.1, hA1.2.2.2.2, (hR1.cell (j := 0) (by omega)).trans (by rw [hzz])⟩
  clear hK K
  try simp only [Act.put, List.setIfInBounds_toArray, List.set_cons_zero, List.set_cons_succ]
  refine wpAnyH_take (i := 3) (oi := { dst := some 21, op := Op.move (Operand.tmp 20), type := 4, pos := "law.go:51", after := #[{ on := 2, ground := Ground.data }, { on := 1, ground := Ground.chain }], guard := none }) (v := ?vg3) rfl (by kernel_rfl) (by kernel_rfl) (by kernel_rfl) (fun _ _ _ h => h) (Or.inl ⟨by rfl, ?hyg3⟩) hHeld ?_
  case hyg3 => (intro w hSw; (try dsimp only at hSw); go_simp; (try with_reducible rfl))
  try simp only [Act.put, List.setIfInBounds_toArray, List.set_cons_zero, List.set_cons_succ]
  refine wpAnyH_take (i := 4) (oi := { dst := some 22, op := Op.move (Operand.tmp 3), type := 39, pos := "law.go:51", after := #[{ on := 3, ground := Ground.guard }], guard := some (3, true) }) (v := ?vg4) rfl (by kernel_rfl) (by kernel_rfl) (by kernel_rfl) (fun _ _ _ h => h) (Or.inl ⟨by rfl, ?hyg4⟩) hHeld ?_
  case hyg4 => (intro w hSw; (try dsimp only at hSw); go_simp; (try with_reducible rfl))
  try simp only [Act.put, List.setIfInBounds_toArray, List.set_cons_zero, List.set_cons_succ]
  refine wpAnyH_take (i := 5) (oi := { dst := some 23, op := Op.indexAddr 39 (Operand.tmp 22) (Operand.const (Value.int IntKind.i64 0)), type := 0, pos := "law.go:51", after := #[{ on := 4, ground := Ground.data }, { on := 3, ground := Ground.guard }], guard := some (3, true) }) (v := ?vg5) rfl (by kernel_rfl) (by kernel_rfl) (by kernel_rfl) (fun _ _ _ h => h) (Or.inl ⟨by rfl, ?hyg5⟩) hHeld ?_
  case hyg5 => (intro w hSw; (try dsimp only at hSw); go_simp; (try with_reducible rfl))
  try simp only [Act.put, List.setIfInBounds_toArray, List.set_cons_zero, List.set_cons_succ]
  refine wpAnyH_take (i := 6) (oi := { dst := some 24, op := Op.load 31 (Operand.tmp 23), type := 31, pos := "law.go:51", after := #[{ on := 5, ground := Ground.data }, { on := 3, ground := Ground.guard }], guard := some (3, true) }) (v := ?vg6) rfl (by kernel_rfl) (by kernel_rfl) (by kernel_rfl) (fun _ _ _ h => h) (Or.inl ⟨by rfl, ?hyg6⟩) hHeld ?_
  case hyg6 => (intro w hSw; (try dsimp only at hSw); go_simp; (try with_reducible rfl))
  try simp only [Act.put, List.setIfInBounds_toArray, List.set_cons_zero, List.set_cons_succ]
  refine wpAnyH_take (i := 7) (oi := { dst := some 25, op := Op.fieldAddr 33 (Operand.tmp 1) 4, type := 0, pos := "law.go:51", after := #[{ on := 3, ground := Ground.guard }], guard := some (3, true) }) (v := ?vg7) rfl (by kernel_rfl) (by kernel_rfl) (by kernel_rfl) (fun _ _ _ h => h) (Or.inl ⟨by rfl, ?hyg7⟩) hHeld ?_
  case hyg7 => (intro w hSw; (try dsimp only at hSw); go_simp; (try with_reducible rfl))
  try simp only [Act.put, List.setIfInBounds_toArray, List.set_cons_zero, List.set_cons_succ]
  refine wpAnyH_take (i := 8) (oi := { dst := some 26, op := Op.load 31 (Operand.tmp 25), type := 31, pos := "law.go:51", after := #[{ on := 7, ground := Ground.data }, { on := 3, ground := Ground.guard }], guard := some (3, true) }) (v := ?vg8) rfl (by kernel_rfl) (by kernel_rfl) (by kernel_rfl) (fun _ _ _ h => h) (Or.inl ⟨by rfl, ?hyg8⟩) hHeld ?_
  case hyg8 => (intro w hSw; (try dsimp only at hSw); go_simp; (try with_reducible rfl))
  try simp only [Act.put, List.setIfInBounds_toArray, List.set_cons_zero, List.set_cons_succ]
  refine wpAnyH_take (i := 9) (oi := { dst := some 27, op := Op.binOp BinOp.neq 31 (Operand.tmp 24) (Operand.tmp 26) 31, type := 4, pos := "law.go:51", after := #[{ on := 6, ground := Ground.data }, { on := 8, ground := Ground.data }, { on := 3, ground := Ground.guard }], guard := some (3, true) }) (v := ?vg9) rfl (by kernel_rfl) (by kernel_rfl) (by kernel_rfl) (fun _ _ _ h => h) (Or.inl ⟨by rfl, ?hyg9⟩) hHeld ?_
  case hyg9 => (intro w hSw; (try dsimp only at hSw); go_simp; (try with_reducible rfl))
  try simp only [Act.put, List.setIfInBounds_toArray, List.set_cons_zero, List.set_cons_succ]
  refine wpAnyH_take (i := 10) (oi := { dst := some 28, op := Op.pick (Operand.tmp 21) (Operand.tmp 27) (Operand.const (Value.bool false)), type := 4, pos := "law.go:51", after := #[{ on := 3, ground := Ground.data }, { on := 9, ground := Ground.data }], guard := none }) (v := ?vg10) rfl (by kernel_rfl) (by kernel_rfl) (by kernel_rfl) (fun _ _ _ h => h) (Or.inl ⟨by rfl, ?hyg10⟩) hHeld ?_
  case hyg10 => (intro w hSw; (try dsimp only at hSw); go_simp; (try with_reducible rfl))
  try simp only [Act.put, List.setIfInBounds_toArray, List.set_cons_zero, List.set_cons_succ]
  refine wpAnyH_take (i := 11) (oi := { dst := some 29, op := Op.binOp BinOp.eql 4 (Operand.tmp 19) (Operand.tmp 28) 4, type := 4, pos := "law.go:51", after := #[{ on := 1, ground := Ground.data }, { on := 10, ground := Ground.data }], guard := none }) (v := ?vg11) rfl (by kernel_rfl) (by kernel_rfl) (by kernel_rfl) (fun _ _ _ h => h) (Or.inl ⟨by rfl, ?hyg11⟩) hHeld ?_
  case hyg11 => (intro w hSw; (try dsimp only at hSw); go_simp; (try with_reducible rfl))
  try simp only [Act.put, List.setIfInBounds_toArray, List.set_cons_zero, List.set_cons_succ]
  refine wpAnyH_take (i := 12) (oi := { dst := some 2, op := Op.assign (Operand.tmp 29), type := 4, pos := "law.go:51", after := #[{ on := 11, ground := Ground.data }, { on := 3, ground := Ground.chain }, { on := 0, ground := Ground.phase }, { on := 1, ground := Ground.phase }, { on := 2, ground := Ground.phase }, { on := 3, ground := Ground.phase }, { on := 4, ground := Ground.phase }, { on := 5, ground := Ground.phase }, { on := 6, ground := Ground.phase }, { on := 7, ground := Ground.phase }, { on := 8, ground := Ground.phase }, { on := 9, ground := Ground.phase }, { on := 10, ground := Ground.phase }, { on := 11, ground := Ground.phase }], guard := none }) (v := ?vg12) rfl (by kernel_rfl) (by kernel_rfl) (by kernel_rfl) (fun _ _ _ h => h) (Or.inl ⟨by rfl, ?hyg12⟩) hHeld ?_
  case hyg12 => (intro w hSw; (try dsimp only at hSw); go_simp; (try with_reducible rfl))
  try simp only [Act.put, List.setIfInBounds_toArray, List.set_cons_zero, List.set_cons_succ]
  refine wpAnyH_done (by kernel_rfl) ?_ _
  go_wp2_with fail
  go_ret
  exact ⟨rfl, hB1⟩
set_option maxHeartbeats 6400000 in
theorem changes_bad (k p x y o : Int) (hk : ¬ (1 ≤ k ∧ k ≤ 4)) (w : World) (hL : Laid6 w) :
    Calls Tryd.prog 4 #[accV k p x y o] w fun e w' => e = .returned (.bool true) ∧ Below w.heap.size w w' := by
  have hseen : chgF k x y o = false := by unfold chgF; rw [if_neg (by omega), if_neg (by omega), if_neg (by omega)]
  have HD : Hid (∀ (V : World) (R : Nat), Calls Tryd.prog 12 #[.slice (some ⟨R, 0, none⟩) 1 1, accV k 0 x y o] V fun e w' => e = .returned (.tuple #[accV 0 0 0 0 0, .bool false]) ∧ Below V.heap.size V w') := Lib.hid (fun V R => RefDo_bad (some ⟨R, 0, none⟩) 1 1 V k 0 x y o (fun h => hk ⟨h.1, h.2.1⟩))
  have hb := below_new w (.cells #[.int .i64 k, .int .i64 p, .int .u64 x, .int .u64 y, .int .u64 o] 33)
  have HW := Lib.hid (awake6_c _ (hL.below hb))
  have hnb := newBlock w (.cells #[.int .i64 k, .int .i64 p, .int .u64 x, .int .u64 y, .int .u64 o] 33)
  have HB := Lib.hid hb
  have HC := Lib.hid (Changes_c k 0 x y o)
  have hlt0 : w.heap.size < (w.alloc (.cells #[.int .i64 k, .int .i64 p, .int .u64 x, .int .u64 y, .int .u64 o] 33)).heap.size := by simp
  clear hb hL
  go_enter Tryd.func4, Tryd.ntmps4
  go_wp2_with fail
  refine HW.out.mono ?_
  rintro e W1 ⟨rfl, hW⟩
  have hB1 := belowOn HB.out hW
  have hk1 : W1.heap[w.heap.size]? = some (.cells #[.int .i64 k, .int .i64 p, .int .u64 x, .int .u64 y, .int .u64 o] 33) := (hW.block _ hlt0).trans hnb
  have hlt1 : w.heap.size < W1.heap.size := (Array.getElem?_eq_some_iff.1 hk1).1
  have a0 : W1.cell? ⟨w.heap.size, 0, none⟩ = some (.int .i64 k) := by simp [World.cell?, hk1]
  have a1 : W1.cell? ⟨w.heap.size, 1, none⟩ = some (.int .i64 p) := by simp [World.cell?, hk1]
  have a2 : W1.cell? ⟨w.heap.size, 2, none⟩ = some (.int .u64 x) := by simp [World.cell?, hk1]
  have a3 : W1.cell? ⟨w.heap.size, 3, none⟩ = some (.int .u64 y) := by simp [World.cell?, hk1]
  have a4 : W1.cell? ⟨w.heap.size, 4, none⟩ = some (.int .u64 o) := by simp [World.cell?, hk1]
  have af : ∀ j, W1.frozen? ⟨w.heap.size, j, none⟩ = false := fun j => by simp [World.frozen?, hk1]
  have hne1 : w.heap.size ≠ W1.heap.size := by omega
  have HVb : Hid (Below w.heap.size w ((W1.setCell ⟨w.heap.size, 1, none⟩ (.int .i64 0)).alloc (.cells #[.int .u64 o] 31))) := Lib.hid (below_on (hB1.setCell (p := ⟨w.heap.size, 1, none⟩) (Nat.le_refl _) _) _)
  have hsz : (W1.setCell ⟨w.heap.size, 1, none⟩ (.int .i64 0)).heap.size = W1.heap.size := by simp [World.setCell]
  have hk2 : (W1.setCell ⟨w.heap.size, 1, none⟩ (.int .i64 0)).heap[w.heap.size]? = some (.cells #[.int .i64 k, .int .i64 0, .int .u64 x, .int .u64 y, .int .u64 o] 33) := by simp [World.setCell, Array.getElem?_modify, hk1]
  have HVa : Hid (AccAt ((W1.setCell ⟨w.heap.size, 1, none⟩ (.int .i64 0)).alloc (.cells #[.int .u64 o] 31)) w.heap.size k 0 x y o) := Lib.hid (AccAt.below (w := W1.setCell ⟨w.heap.size, 1, none⟩ (.int .i64 0)) (by unfold AccAt; simp [World.cell?, hk2]) (below_new _ _))
  have HVr : Hid (RowAt ((W1.setCell ⟨w.heap.size, 1, none⟩ (.int .i64 0)).alloc (.cells #[.int .u64 o] 31)) W1.heap.size 31 1 (fun _ => o)) := Lib.hid (by
    have h := newBlock (W1.setCell ⟨w.heap.size, 1, none⟩ (.int .i64 0)) (.cells #[.int .u64 o] 31)
    rw [hsz] at h
    exact ⟨_, h, by simp, fun j hj => by obtain rfl : j = 0 := by omega
                                         rfl⟩)
  clear hW hk1 hk2 hnb hlt0 HB HW hB1
  go_wp2_with fail
  generalize ((W1.setCell ⟨w.heap.size, 1, none⟩ (.int .i64 0)).alloc (.cells #[.int .u64 o] 31)) = V at *
  generalize W1.heap.size = R at *
  clear a0 a1 a2 a3 a4 af hsz
  obtain ⟨a0, a1, a2, a3, a4⟩ := HVa.out
  rw [hseen] at HC
  clear hk hseen
  refine (HD.out V R).mono ?_
  rintro e W4 ⟨rfl, hW4⟩
  have HA3 : Hid (AccAt (W4.alloc (.cells #[.int .i64 0, .int .i64 0, .int .u64 0, .int .u64 0, .int .u64 0] 33)).drew w.heap.size k 0 x y o) := Lib.hid ((HVa.out.below hW4).below (below_new _ _).drew)
  have HB3 : Hid (Below w.heap.size w (W4.alloc (.cells #[.int .i64 0, .int .i64 0, .int .u64 0, .int .u64 0, .int .u64 0] 33)).drew) := Lib.hid (below_on (belowOn HVb.out hW4) _).drew
  clear a0 a1 a2 a3 a4 HVa HVb HVr HD hW4
  go_wp2_with fail
  refine wp_region_held_drew (S := (fun w' => w'.cell? ⟨w.heap.size, 0, none⟩ = some (.int .i64 k) ∧ w'.cell? ⟨w.heap.size, 1, none⟩ = some (.int .i64 0) ∧ w'.cell? ⟨w.heap.size, 2, none⟩ = some (.int .u64 x) ∧ w'.cell? ⟨w.heap.size, 3, none⟩ = some (.int .u64 y) ∧ w'.cell? ⟨w.heap.size, 4, none⟩ = some (.int .u64 o))) (by kernel_rfl) ?_ (fun hHeld => ?_)
  · exact HA3.out
  refine wpAnyH_take (i := 0) (oi := { dst := some 18, op := Op.load 33 (Operand.tmp 1), type := 33, pos := "law.go:51", after := #[], guard := none }) (v := ?vb0) rfl (by kernel_rfl) (by kernel_rfl) (by kernel_rfl) (fun _ _ _ h => h) (Or.inl ⟨by rfl, ?hyb0⟩) hHeld ?_
  case hyb0 => (intro w hSw; (try dsimp only at hSw); go_simp; (try with_reducible rfl))
  try simp only [Act.put, List.setIfInBounds_toArray, List.set_cons_zero, List.set_cons_succ]
  refine wpAnyH_take (i := 2) (oi := { dst := some 20, op := Op.move (Operand.tmp 5), type := 4, pos := "law.go:51", after := #[], guard := none }) (v := ?vb2) rfl (by kernel_rfl) (by kernel_rfl) (by kernel_rfl) (fun _ _ _ h => h) (Or.inl ⟨by rfl, ?hyb2⟩) hHeld ?_
  case hyb2 => (intro w hSw; (try dsimp only at hSw); go_simp; (try with_reducible rfl))
  try simp only [Act.put, List.setIfInBounds_toArray, List.set_cons_zero, List.set_cons_succ]
  refine wpAnyH_ready (rs := [1]) (by kernel_rfl) (by simp) ?_
  refine AllReadyH.cons (o := { dst := some 19, op := Op.call { callee := Callee.value (Operand.func 13), args := #[Operand.tmp 18], argTypes := #[33] }, type := 4, pos := "law.go:51", after := #[{ on := 0, ground := Ground.data }], guard := none }) rfl (fun K hK => ?_) AllReadyH.nil
  go_simp
  refine (HC.out _).mono ?_
  rintro e v1 ⟨rfl, hV1⟩
  have hA1 := AccAt.below HA3.out hV1
  have hB1 := belowOn HB3.out hV1
  clear hV1 hHeld
  try go_wp2_with fail
  refine hK.out _ _ ?_ (fun hHeld => ?_)
  · exact ⟨hA1.1, hA1.2.1, hA1.2.2.1, hA1.2.2.2.1, hA1.2.2.2.2⟩
  clear hK K
  try simp only [Act.put, List.setIfInBounds_toArray, List.set_cons_zero, List.set_cons_succ]
  refine wpAnyH_take (i := 3) (oi := { dst := some 21, op := Op.move (Operand.tmp 20), type := 4, pos := "law.go:51", after := #[{ on := 2, ground := Ground.data }, { on := 1, ground := Ground.chain }], guard := none }) (v := ?vb3) rfl (by kernel_rfl) (by kernel_rfl) (by kernel_rfl) (fun _ _ _ h => h) (Or.inl ⟨by rfl, ?hyb3⟩) hHeld ?_
  case hyb3 => (intro w hSw; (try dsimp only at hSw); go_simp; (try with_reducible rfl))
  try simp only [Act.put, List.setIfInBounds_toArray, List.set_cons_zero, List.set_cons_succ]
  refine wpAnyH_take (i := 4) (oi := { dst := some 22, op := Op.move (Operand.tmp 3), type := 39, pos := "law.go:51", after := #[{ on := 3, ground := Ground.guard }], guard := some (3, true) }) (v := undef) rfl (by kernel_rfl) (by kernel_rfl) (by kernel_rfl) (fun _ _ _ h => h) (Or.inr ⟨by rfl, rfl⟩) hHeld ?_
  try simp only [Act.put, List.setIfInBounds_toArray, List.set_cons_zero, List.set_cons_succ]
  refine wpAnyH_take (i := 5) (oi := { dst := some 23, op := Op.indexAddr 39 (Operand.tmp 22) (Operand.const (Value.int IntKind.i64 0)), type := 0, pos := "law.go:51", after := #[{ on := 4, ground := Ground.data }, { on := 3, ground := Ground.guard }], guard := some (3, true) }) (v := undef) rfl (by kernel_rfl) (by kernel_rfl) (by kernel_rfl) (fun _ _ _ h => h) (Or.inr ⟨by rfl, rfl⟩) hHeld ?_
  try simp only [Act.put, List.setIfInBounds_toArray, List.set_cons_zero, List.set_cons_succ]
  refine wpAnyH_take (i := 6) (oi := { dst := some 24, op := Op.load 31 (Operand.tmp 23), type := 31, pos := "law.go:51", after := #[{ on := 5, ground := Ground.data }, { on := 3, ground := Ground.guard }], guard := some (3, true) }) (v := undef) rfl (by kernel_rfl) (by kernel_rfl) (by kernel_rfl) (fun _ _ _ h => h) (Or.inr ⟨by rfl, rfl⟩) hHeld ?_
  try simp only [Act.put, List.setIfInBounds_toArray, List.set_cons_zero, List.set_cons_succ]
  refine wpAnyH_take (i := 7) (oi := { dst := some 25, op := Op.fieldAddr 33 (Operand.tmp 1) 4, type := 0, pos := "law.go:51", after := #[{ on := 3, ground := Ground.guard }], guard := some (3, true) }) (v := undef) rfl (by kernel_rfl) (by kernel_rfl) (by kernel_rfl) (fun _ _ _ h => h) (Or.inr ⟨by rfl, rfl⟩) hHeld ?_
  try simp only [Act.put, List.setIfInBounds_toArray, List.set_cons_zero, List.set_cons_succ]
  refine wpAnyH_take (i := 8) (oi := { dst := some 26, op := Op.load 31 (Operand.tmp 25), type := 31, pos := "law.go:51", after := #[{ on := 7, ground := Ground.data }, { on := 3, ground := Ground.guard }], guard := some (3, true) }) (v := undef) rfl (by kernel_rfl) (by kernel_rfl) (by kernel_rfl) (fun _ _ _ h => h) (Or.inr ⟨by rfl, rfl⟩) hHeld ?_
  try simp only [Act.put, List.setIfInBounds_toArray, List.set_cons_zero, List.set_cons_succ]
  refine wpAnyH_take (i := 9) (oi := { dst := some 27, op := Op.binOp BinOp.neq 31 (Operand.tmp 24) (Operand.tmp 26) 31, type := 4, pos := "law.go:51", after := #[{ on := 6, ground := Ground.data }, { on := 8, ground := Ground.data }, { on := 3, ground := Ground.guard }], guard := some (3, true) }) (v := undef) rfl (by kernel_rfl) (by kernel_rfl) (by kernel_rfl) (fun _ _ _ h => h) (Or.inr ⟨by rfl, rfl⟩) hHeld ?_
  try simp only [Act.put, List.setIfInBounds_toArray, List.set_cons_zero, List.set_cons_succ]
  refine wpAnyH_take (i := 10) (oi := { dst := some 28, op := Op.pick (Operand.tmp 21) (Operand.tmp 27) (Operand.const (Value.bool false)), type := 4, pos := "law.go:51", after := #[{ on := 3, ground := Ground.data }, { on := 9, ground := Ground.data }], guard := none }) (v := ?vb10) rfl (by kernel_rfl) (by kernel_rfl) (by kernel_rfl) (fun _ _ _ h => h) (Or.inl ⟨by rfl, ?hyb10⟩) hHeld ?_
  case hyb10 => (intro w hSw; (try dsimp only at hSw); go_simp; (try with_reducible rfl))
  try simp only [Act.put, List.setIfInBounds_toArray, List.set_cons_zero, List.set_cons_succ]
  refine wpAnyH_take (i := 11) (oi := { dst := some 29, op := Op.binOp BinOp.eql 4 (Operand.tmp 19) (Operand.tmp 28) 4, type := 4, pos := "law.go:51", after := #[{ on := 1, ground := Ground.data }, { on := 10, ground := Ground.data }], guard := none }) (v := ?vb11) rfl (by kernel_rfl) (by kernel_rfl) (by kernel_rfl) (fun _ _ _ h => h) (Or.inl ⟨by rfl, ?hyb11⟩) hHeld ?_
  case hyb11 => (intro w hSw; (try dsimp only at hSw); go_simp; (try with_reducible rfl))
  try simp only [Act.put, List.setIfInBounds_toArray, List.set_cons_zero, List.set_cons_succ]
  refine wpAnyH_take (i := 12) (oi := { dst := some 2, op := Op.assign (Operand.tmp 29), type := 4, pos := "law.go:51", after := #[{ on := 11, ground := Ground.data }, { on := 3, ground := Ground.chain }, { on := 0, ground := Ground.phase }, { on := 1, ground := Ground.phase }, { on := 2, ground := Ground.phase }, { on := 3, ground := Ground.phase }, { on := 4, ground := Ground.phase }, { on := 5, ground := Ground.phase }, { on := 6, ground := Ground.phase }, { on := 7, ground := Ground.phase }, { on := 8, ground := Ground.phase }, { on := 9, ground := Ground.phase }, { on := 10, ground := Ground.phase }, { on := 11, ground := Ground.phase }], guard := none }) (v := ?vb12) rfl (by kernel_rfl) (by kernel_rfl) (by kernel_rfl) (fun _ _ _ h => h) (Or.inl ⟨by rfl, ?hyb12⟩) hHeld ?_
  case hyb12 => (intro w hSw; (try dsimp only at hSw); go_simp; (try with_reducible rfl))
  try simp only [Act.put, List.setIfInBounds_toArray, List.set_cons_zero, List.set_cons_succ]
  refine wpAnyH_done (by kernel_rfl) ?_ _
  go_wp2_with fail
  go_ret
  exact ⟨rfl, hB1⟩
theorem accessChanges_c (k p x y o : Int) (hx : U64 x) (ho : U64 o) (w : World) (hL : Laid6 w) :
    Calls Tryd.prog 4 #[accV k p x y o] w fun e w' => e = .returned (.bool true) ∧ Below w.heap.size w w' := by
  by_cases hk : 1 ≤ k ∧ k ≤ 4
  · exact changes_good k p x y o hk hx ho w hL
  · exact changes_bad k p x y o hk w hL
end Go.Proofs.YtdhejdehlomppaaDoor
