/- What a mutator has that isn't in a register yet: program and document; rows of words and mutators. -/
import Derived.Test.YtbpkdihonemogaaGreatDoorM5
import Derived.Test.YtbpkdihonemogaaGreatDoorM3
namespace Go.Proofs.YtbpkdihonemogaaGreatDoor
open Go Go.RowKit
set_option maxRecDepth 100000
attribute [local go_sem ↓] Go.wp_at_zero Go.wp_at_succ

/-- It has a fresh cell. -/
def freshP (x : Mu) : Prop := (37 ≤ x.l ∧ x.l ≤ 40) ∨ ((x.l = 80 ∨ x.l = 81) ∧ 37 ≤ x.bk ∧ x.bk ≤ 40)
instance (x : Mu) : Decidable (freshP x) := by unfold freshP; infer_instance
/-- What it has that isn't in a register yet. -/
def hold (x : Mu) : List Int := if x.l = 15 then [x.m2] else if freshP x then [x.m3] else []
theorem not_both {x : Mu} (h : x.l = 15) : ¬ freshP x := by unfold freshP; omega
/-- What the first k have. -/
def holds (g : Nat → Mu) (k : Nat) : List Int := (List.range k).flatMap (fun j => hold (g j))
theorem holds_succ (g : Nat → Mu) (k : Nat) : holds g (k + 1) = holds g k ++ hold (g k) := by unfold holds; rw [List.range_succ, List.flatMap_append]; simp
theorem hold_length (x : Mu) : (hold x).length ≤ 1 := by
  unfold hold
  repeat' split
  all_goals simp
theorem holds_length (g : Nat → Mu) (k : Nat) : (holds g k).length ≤ k := by
  induction k with
  | zero => simp [holds]
  | succ n ih => rw [holds_succ, List.length_append]; have := hold_length (g n); omega
/-- These words as values. -/
def heldV (L : List Int) : List Value := L.map (fun z => .int .u64 z)
theorem heldV_snoc (L : List Int) (z : Int) : heldV (L ++ [z]) = heldV L ++ [.int .u64 z] := by unfold heldV; simp
theorem heldV_get (L : List Int) (j : Nat) (hj : j < L.length) : (heldV L)[j]? = some (.int .u64 (L.getD j 0)) := by
  unfold heldV
  rw [List.getElem?_map, List.getElem?_eq_getElem hj]
  simp [List.getD, hj]
/-- A slice of mutators. -/
def MutsIn (w : World) (a : Option Addr) (n : Nat) (g : Nat → Mu) : Prop :=
  n = 0 ∨ ∃ b off, a = some ⟨b, off, none⟩ ∧ b < w.heap.size ∧ ∀ j, j < n → w.cell? ⟨b, off + j * 13, none⟩ = some (.int .i64 (g j).l) ∧ w.cell? ⟨b, off + j * 13 + 1, none⟩ = some (.int .i64 (g j).q1) ∧ w.cell? ⟨b, off + j * 13 + 2, none⟩ = some (.int .i64 (g j).q2) ∧ w.cell? ⟨b, off + j * 13 + 3, none⟩ = some (.int .i64 (g j).q3) ∧ w.cell? ⟨b, off + j * 13 + 4, none⟩ = some (.int .i64 (g j).q4) ∧ w.cell? ⟨b, off + j * 13 + 5, none⟩ = some (.int .u64 (g j).m1) ∧ w.cell? ⟨b, off + j * 13 + 6, none⟩ = some (.int .u64 (g j).m2) ∧ w.cell? ⟨b, off + j * 13 + 7, none⟩ = some (.int .u64 (g j).m3) ∧ w.cell? ⟨b, off + j * 13 + 8, none⟩ = some (.int .u64 (g j).m4) ∧ w.cell? ⟨b, off + j * 13 + 9, none⟩ = some (.int .u64 (g j).m5) ∧ w.cell? ⟨b, off + j * 13 + 10, none⟩ = some (.int .u64 (g j).p) ∧ w.cell? ⟨b, off + j * 13 + 11, none⟩ = some (.int .i64 (g j).bk) ∧ w.cell? ⟨b, off + j * 13 + 12, none⟩ = some (.int .i64 (g j).rt)
theorem MutsIn.below {w w' : World} {a : Option Addr} {n : Nat} {g : Nat → Mu} (h : MutsIn w a n g) (hb : Below w.heap.size w w') : MutsIn w' a n g := by
  rcases h with h | ⟨b, off, e, h1, h2⟩
  · exact .inl h
  · refine .inr ⟨b, off, e, Nat.lt_of_lt_of_le h1 hb.size, fun j hj => ?_⟩
    have k : ∀ o v, w.cell? ⟨b, o, none⟩ = some v → w'.cell? ⟨b, o, none⟩ = some v := fun o v e => (hb.cell (p := ⟨b, o, none⟩) h1).trans e
    obtain ⟨q0, q1, q2, q3, q4, q5, q6, q7, q8, q9, q10, q11, q12⟩ := h2 j hj
    exact ⟨k _ _ q0, k _ _ q1, k _ _ q2, k _ _ q3, k _ _ q4, k _ _ q5, k _ _ q6, k _ _ q7, k _ _ q8, k _ _ q9, k _ _ q10, k _ _ q11, k _ _ q12⟩
/-- One mutator, laid into a new row. -/
theorem MutsIn.one (w : World) (x : Mu) : MutsIn (w.alloc (.cells #[.int .i64 x.l, .int .i64 x.q1, .int .i64 x.q2, .int .i64 x.q3, .int .i64 x.q4, .int .u64 x.m1, .int .u64 x.m2, .int .u64 x.m3, .int .u64 x.m4, .int .u64 x.m5, .int .u64 x.p, .int .i64 x.bk, .int .i64 x.rt] 30)) (some ⟨w.heap.size, 0, none⟩) 1 (fun _ => x) := by
  refine .inr ⟨w.heap.size, 0, rfl, by simp, fun j hj => ?_⟩
  obtain rfl : j = 0 := by omega
  obtain ⟨q0, q1, q2, q3, q4, q5, q6, q7, q8, q9, q10, q11, q12, _⟩ := (Mut13.new w x.l x.p x.bk x.q1 x.q2 x.q3 x.q4 x.m1 x.m2 x.m3 x.m4 x.m5 x.rt).cells
  exact ⟨q0, q1, q2, q3, q4, q5, q6, q7, q8, q9, q10, q11, q12⟩
/-- A row of words of one's own that grows. -/
structure HRow (w W : World) (v : Value) (L : List Int) : Prop where
  old : Below w.heap.size w W
  row : W.ownsRow w.heap.size 28 1 v L.length (heldV L)
theorem HRow.below {w W V : World} {v : Value} {L : List Int} (h : HRow w W v L) (hb : Below W.heap.size W V) : HRow w V v L := ⟨belowOn h.old hb, ownsRow_below4 h.row hb⟩
theorem HRow.add {w W V : World} {v v' : Value} {L : List Int} {z : Int} (h : HRow w W v L) (o : Obj) (hg : (W.alloc o).grownBy V v.ownBlock) (hown : V.ownsRow w.heap.size 28 1 v' (L.length + 1) (heldV L ++ [.int .u64 z])) : HRow w V v' (L ++ [z]) :=
  ⟨(below_on h.old o).grown hg (by have := h.old.size; simp; omega) (fun j e => (h.row.lt j e).1), by rw [heldV_snoc, List.length_append]; exact hown⟩
/-- As a slice of words. -/
theorem HRow.words {w W : World} {v : Value} {L : List Int} (h : HRow w W v L) : ∃ a cap, v = .slice a L.length cap ∧ WordsAt W a L.length (fun j => L.getD j 0) := by
  rcases h.row.2 with ⟨e, h0⟩ | ⟨g, cap, cur, e, hb, hg, h1, h2, h3, h4⟩
  · exact ⟨none, 0, (by rw [h0]; exact e), .inl h0⟩
  · refine ⟨_, cap, e, .inr ⟨g, 0, rfl, (Array.getElem?_eq_some_iff.1 hg).1, fun j hj => ?_⟩⟩
    have h5 : cur.toList[j]? = some (.int .u64 (L.getD j 0)) := by
      rw [← heldV_get L j hj, ← h4, List.getElem?_take, if_pos (by omega)]
    rw [Nat.zero_add]
    simp only [World.cell?, hg]
    rw [← h5]; simp
set_option maxHeartbeats 3200000 in
theorem temp_yes (x : Mu) (h : x.l = 15) (w : World) :
    Calls Tryz.prog 9 #[x.v] w fun e w' => e = .returned (.tuple #[.int .u64 x.m2, .bool true]) ∧ Below w.heap.size w w' := by
  obtain ⟨l, q1, q2, q3, q4, m1, m2, m3, m4, m5, p, bk, rt⟩ := x
  show Calls Tryz.prog 9 #[.agg #[.int .i64 l, .int .i64 q1, .int .i64 q2, .int .i64 q3, .int .i64 q4, .int .u64 m1, .int .u64 m2, .int .u64 m3, .int .u64 m4, .int .u64 m5, .int .u64 p, .int .i64 bk, .int .i64 rt]] w fun e w' => e = .returned (.tuple #[.int .u64 m2, .bool true]) ∧ Below w.heap.size w w'
  (try unfold freshP at h)
  dsimp only at h
  subst h
  have HB := Lib.hid (below_new w (.cells #[.int .i64 15, .int .i64 q1, .int .i64 q2, .int .i64 q3, .int .i64 q4, .int .u64 m1, .int .u64 m2, .int .u64 m3, .int .u64 m4, .int .u64 m5, .int .u64 p, .int .i64 bk, .int .i64 rt] 30))
  go_enter Tryz.func9, Tryz.ntmps9
  go_wp2_with fail
  refine bodyPost_ret (v := .tuple #[.int .u64 m2, .bool true]) (by simp [results, Tryz.f9, go_sem]) rfl ?_
  exact ⟨rfl, HB.out⟩
set_option maxHeartbeats 3200000 in
theorem temp_no (x : Mu) (h : ¬ x.l = 15) (w : World) :
    Calls Tryz.prog 9 #[x.v] w fun e w' => e = .returned (.tuple #[.int .u64 0, .bool false]) ∧ Below w.heap.size w w' := by
  obtain ⟨l, q1, q2, q3, q4, m1, m2, m3, m4, m5, p, bk, rt⟩ := x
  show Calls Tryz.prog 9 #[.agg #[.int .i64 l, .int .i64 q1, .int .i64 q2, .int .i64 q3, .int .i64 q4, .int .u64 m1, .int .u64 m2, .int .u64 m3, .int .u64 m4, .int .u64 m5, .int .u64 p, .int .i64 bk, .int .i64 rt]] w fun e w' => e = .returned (.tuple #[.int .u64 0, .bool false]) ∧ Below w.heap.size w w'
  (try unfold freshP at h)
  dsimp only at h
  have hn : (l != 15) = true := by simpa using h
  have HB := Lib.hid (below_new w (.cells #[.int .i64 l, .int .i64 q1, .int .i64 q2, .int .i64 q3, .int .i64 q4, .int .u64 m1, .int .u64 m2, .int .u64 m3, .int .u64 m4, .int .u64 m5, .int .u64 p, .int .i64 bk, .int .i64 rt] 30))
  go_enter Tryz.func9, Tryz.ntmps9
  go_wp2_with fail
  refine bodyPost_ret (v := .tuple #[.int .u64 0, .bool false]) (by simp [results, Tryz.f9, go_sem]) rfl ?_
  exact ⟨rfl, HB.out⟩
set_option maxHeartbeats 3200000 in
theorem rtemp_yes (x : Mu) (h : x.l = 15) (w : World) :
    Calls Tryz.prog 7 #[x.v] w fun e w' => e = .returned (.tuple #[.int .u64 x.m2, .bool true]) ∧ Below w.heap.size w w' := by
  obtain ⟨l, q1, q2, q3, q4, m1, m2, m3, m4, m5, p, bk, rt⟩ := x
  show Calls Tryz.prog 7 #[.agg #[.int .i64 l, .int .i64 q1, .int .i64 q2, .int .i64 q3, .int .i64 q4, .int .u64 m1, .int .u64 m2, .int .u64 m3, .int .u64 m4, .int .u64 m5, .int .u64 p, .int .i64 bk, .int .i64 rt]] w fun e w' => e = .returned (.tuple #[.int .u64 m2, .bool true]) ∧ Below w.heap.size w w'
  (try unfold freshP at h)
  dsimp only at h
  subst h
  have HB := Lib.hid (below_new w (.cells #[.int .i64 15, .int .i64 q1, .int .i64 q2, .int .i64 q3, .int .i64 q4, .int .u64 m1, .int .u64 m2, .int .u64 m3, .int .u64 m4, .int .u64 m5, .int .u64 p, .int .i64 bk, .int .i64 rt] 30))
  go_enter Tryz.func7, Tryz.ntmps7
  go_wp2_with fail
  refine bodyPost_ret (v := .tuple #[.int .u64 m2, .bool true]) (by simp [results, Tryz.f7, go_sem]) rfl ?_
  exact ⟨rfl, HB.out⟩
set_option maxHeartbeats 3200000 in
theorem rtemp_no (x : Mu) (h : ¬ x.l = 15) (w : World) :
    Calls Tryz.prog 7 #[x.v] w fun e w' => e = .returned (.tuple #[.int .u64 0, .bool false]) ∧ Below w.heap.size w w' := by
  obtain ⟨l, q1, q2, q3, q4, m1, m2, m3, m4, m5, p, bk, rt⟩ := x
  show Calls Tryz.prog 7 #[.agg #[.int .i64 l, .int .i64 q1, .int .i64 q2, .int .i64 q3, .int .i64 q4, .int .u64 m1, .int .u64 m2, .int .u64 m3, .int .u64 m4, .int .u64 m5, .int .u64 p, .int .i64 bk, .int .i64 rt]] w fun e w' => e = .returned (.tuple #[.int .u64 0, .bool false]) ∧ Below w.heap.size w w'
  (try unfold freshP at h)
  dsimp only at h
  have hn : (l != 15) = true := by simpa using h
  have HB := Lib.hid (below_new w (.cells #[.int .i64 l, .int .i64 q1, .int .i64 q2, .int .i64 q3, .int .i64 q4, .int .u64 m1, .int .u64 m2, .int .u64 m3, .int .u64 m4, .int .u64 m5, .int .u64 p, .int .i64 bk, .int .i64 rt] 30))
  go_enter Tryz.func7, Tryz.ntmps7
  go_wp2_with fail
  refine bodyPost_ret (v := .tuple #[.int .u64 0, .bool false]) (by simp [results, Tryz.f7, go_sem]) rfl ?_
  exact ⟨rfl, HB.out⟩
set_option maxHeartbeats 3200000 in
theorem fresh_yes (x : Mu) (h : freshP x) (w : World) :
    Calls Tryz.prog 10 #[x.v] w fun e w' => e = .returned (.tuple #[.int .u64 x.m3, .bool true]) ∧ Below w.heap.size w w' := by
  obtain ⟨l, q1, q2, q3, q4, m1, m2, m3, m4, m5, p, bk, rt⟩ := x
  show Calls Tryz.prog 10 #[.agg #[.int .i64 l, .int .i64 q1, .int .i64 q2, .int .i64 q3, .int .i64 q4, .int .u64 m1, .int .u64 m2, .int .u64 m3, .int .u64 m4, .int .u64 m5, .int .u64 p, .int .i64 bk, .int .i64 rt]] w fun e w' => e = .returned (.tuple #[.int .u64 m3, .bool true]) ∧ Below w.heap.size w w'
  (try unfold freshP at h)
  dsimp only at h
  rcases h with ⟨h1, h2⟩ | ⟨hl | hl, h1, h2⟩
  · have e80 : (l == 80) = false := by simp; omega
    have e81 : (l == 81) = false := by simp; omega
    have n1 : ¬ l < 37 := by omega
    have n2 : ¬ 40 < l := by omega
    have HB := Lib.hid (below_new w (.cells #[.int .i64 l, .int .i64 q1, .int .i64 q2, .int .i64 q3, .int .i64 q4, .int .u64 m1, .int .u64 m2, .int .u64 m3, .int .u64 m4, .int .u64 m5, .int .u64 p, .int .i64 bk, .int .i64 rt] 30))
    go_enter Tryz.func10, Tryz.ntmps10
    go_wp2_with fail
    refine bodyPost_ret (v := .tuple #[.int .u64 m3, .bool true]) (by simp [results, Tryz.f10, go_sem]) rfl ?_
    exact ⟨rfl, HB.out⟩
  · subst hl
    have n1 : ¬ bk < 37 := by omega
    have n2 : ¬ 40 < bk := by omega
    have HB := Lib.hid (below_new w (.cells #[.int .i64 80, .int .i64 q1, .int .i64 q2, .int .i64 q3, .int .i64 q4, .int .u64 m1, .int .u64 m2, .int .u64 m3, .int .u64 m4, .int .u64 m5, .int .u64 p, .int .i64 bk, .int .i64 rt] 30))
    go_enter Tryz.func10, Tryz.ntmps10
    go_wp2_with fail
    refine bodyPost_ret (v := .tuple #[.int .u64 m3, .bool true]) (by simp [results, Tryz.f10, go_sem]) rfl ?_
    exact ⟨rfl, HB.out⟩
  · subst hl
    have n1 : ¬ bk < 37 := by omega
    have n2 : ¬ 40 < bk := by omega
    have HB := Lib.hid (below_new w (.cells #[.int .i64 81, .int .i64 q1, .int .i64 q2, .int .i64 q3, .int .i64 q4, .int .u64 m1, .int .u64 m2, .int .u64 m3, .int .u64 m4, .int .u64 m5, .int .u64 p, .int .i64 bk, .int .i64 rt] 30))
    go_enter Tryz.func10, Tryz.ntmps10
    go_wp2_with fail
    refine bodyPost_ret (v := .tuple #[.int .u64 m3, .bool true]) (by simp [results, Tryz.f10, go_sem]) rfl ?_
    exact ⟨rfl, HB.out⟩
set_option maxHeartbeats 3200000 in
theorem fresh_no (x : Mu) (h : ¬ freshP x) (w : World) :
    Calls Tryz.prog 10 #[x.v] w fun e w' => e = .returned (.tuple #[.int .u64 0, .bool false]) ∧ Below w.heap.size w w' := by
  obtain ⟨l, q1, q2, q3, q4, m1, m2, m3, m4, m5, p, bk, rt⟩ := x
  show Calls Tryz.prog 10 #[.agg #[.int .i64 l, .int .i64 q1, .int .i64 q2, .int .i64 q3, .int .i64 q4, .int .u64 m1, .int .u64 m2, .int .u64 m3, .int .u64 m4, .int .u64 m5, .int .u64 p, .int .i64 bk, .int .i64 rt]] w fun e w' => e = .returned (.tuple #[.int .u64 0, .bool false]) ∧ Below w.heap.size w w'
  (try unfold freshP at h)
  dsimp only at h
  by_cases h80 : l = 80
  · have hb3 : ¬ (37 ≤ bk ∧ bk ≤ 40) := fun e => h (.inr ⟨.inl h80, e⟩)
    clear h
    subst h80
    by_cases h1 : 37 ≤ bk
    · have h2 : ¬ bk ≤ 40 := fun e => hb3 ⟨h1, e⟩
      have n1 : ¬ bk < 37 := by omega
      have n2 : 40 < bk := by omega
      clear hb3
      have HB := Lib.hid (below_new w (.cells #[.int .i64 80, .int .i64 q1, .int .i64 q2, .int .i64 q3, .int .i64 q4, .int .u64 m1, .int .u64 m2, .int .u64 m3, .int .u64 m4, .int .u64 m5, .int .u64 p, .int .i64 bk, .int .i64 rt] 30))
      go_enter Tryz.func10, Tryz.ntmps10
      go_wp2_with fail
      refine bodyPost_ret (v := .tuple #[.int .u64 0, .bool false]) (by simp [results, Tryz.f10, go_sem]) rfl ?_
      exact ⟨rfl, HB.out⟩
    · have n1 : bk < 37 := by omega
      clear hb3
      have HB := Lib.hid (below_new w (.cells #[.int .i64 80, .int .i64 q1, .int .i64 q2, .int .i64 q3, .int .i64 q4, .int .u64 m1, .int .u64 m2, .int .u64 m3, .int .u64 m4, .int .u64 m5, .int .u64 p, .int .i64 bk, .int .i64 rt] 30))
      go_enter Tryz.func10, Tryz.ntmps10
      go_wp2_with fail
      refine bodyPost_ret (v := .tuple #[.int .u64 0, .bool false]) (by simp [results, Tryz.f10, go_sem]) rfl ?_
      exact ⟨rfl, HB.out⟩
  by_cases h81 : l = 81
  · have hb3 : ¬ (37 ≤ bk ∧ bk ≤ 40) := fun e => h (.inr ⟨.inr h81, e⟩)
    clear h h80
    subst h81
    by_cases h1 : 37 ≤ bk
    · have h2 : ¬ bk ≤ 40 := fun e => hb3 ⟨h1, e⟩
      have n1 : ¬ bk < 37 := by omega
      have n2 : 40 < bk := by omega
      clear hb3
      have HB := Lib.hid (below_new w (.cells #[.int .i64 81, .int .i64 q1, .int .i64 q2, .int .i64 q3, .int .i64 q4, .int .u64 m1, .int .u64 m2, .int .u64 m3, .int .u64 m4, .int .u64 m5, .int .u64 p, .int .i64 bk, .int .i64 rt] 30))
      go_enter Tryz.func10, Tryz.ntmps10
      go_wp2_with fail
      refine bodyPost_ret (v := .tuple #[.int .u64 0, .bool false]) (by simp [results, Tryz.f10, go_sem]) rfl ?_
      exact ⟨rfl, HB.out⟩
    · have n1 : bk < 37 := by omega
      clear hb3
      have HB := Lib.hid (below_new w (.cells #[.int .i64 81, .int .i64 q1, .int .i64 q2, .int .i64 q3, .int .i64 q4, .int .u64 m1, .int .u64 m2, .int .u64 m3, .int .u64 m4, .int .u64 m5, .int .u64 p, .int .i64 bk, .int .i64 rt] 30))
      go_enter Tryz.func10, Tryz.ntmps10
      go_wp2_with fail
      refine bodyPost_ret (v := .tuple #[.int .u64 0, .bool false]) (by simp [results, Tryz.f10, go_sem]) rfl ?_
      exact ⟨rfl, HB.out⟩
  have e80 : (l == 80) = false := by simpa using h80
  have e81 : (l == 81) = false := by simpa using h81
  have hb3 : ¬ (37 ≤ l ∧ l ≤ 40) := fun e => h (.inl e)
  clear h h80 h81
  by_cases h1 : 37 ≤ l
  · have h2 : ¬ l ≤ 40 := fun e => hb3 ⟨h1, e⟩
    have n1 : ¬ l < 37 := by omega
    have n2 : 40 < l := by omega
    clear hb3
    have HB := Lib.hid (below_new w (.cells #[.int .i64 l, .int .i64 q1, .int .i64 q2, .int .i64 q3, .int .i64 q4, .int .u64 m1, .int .u64 m2, .int .u64 m3, .int .u64 m4, .int .u64 m5, .int .u64 p, .int .i64 bk, .int .i64 rt] 30))
    go_enter Tryz.func10, Tryz.ntmps10
    go_wp2_with fail
    refine bodyPost_ret (v := .tuple #[.int .u64 0, .bool false]) (by simp [results, Tryz.f10, go_sem]) rfl ?_
    exact ⟨rfl, HB.out⟩
  · have n1 : l < 37 := by omega
    clear hb3
    have HB := Lib.hid (below_new w (.cells #[.int .i64 l, .int .i64 q1, .int .i64 q2, .int .i64 q3, .int .i64 q4, .int .u64 m1, .int .u64 m2, .int .u64 m3, .int .u64 m4, .int .u64 m5, .int .u64 p, .int .i64 bk, .int .i64 rt] 30))
    go_enter Tryz.func10, Tryz.ntmps10
    go_wp2_with fail
    refine bodyPost_ret (v := .tuple #[.int .u64 0, .bool false]) (by simp [results, Tryz.f10, go_sem]) rfl ?_
    exact ⟨rfl, HB.out⟩
set_option maxHeartbeats 3200000 in
theorem rfresh_yes (x : Mu) (h : freshP x) (w : World) :
    Calls Tryz.prog 8 #[x.v] w fun e w' => e = .returned (.tuple #[.int .u64 x.m3, .bool true]) ∧ Below w.heap.size w w' := by
  obtain ⟨l, q1, q2, q3, q4, m1, m2, m3, m4, m5, p, bk, rt⟩ := x
  show Calls Tryz.prog 8 #[.agg #[.int .i64 l, .int .i64 q1, .int .i64 q2, .int .i64 q3, .int .i64 q4, .int .u64 m1, .int .u64 m2, .int .u64 m3, .int .u64 m4, .int .u64 m5, .int .u64 p, .int .i64 bk, .int .i64 rt]] w fun e w' => e = .returned (.tuple #[.int .u64 m3, .bool true]) ∧ Below w.heap.size w w'
  (try unfold freshP at h)
  dsimp only at h
  rcases h with ⟨h1, h2⟩ | ⟨hl | hl, h1, h2⟩
  · have e80 : (l == 80) = false := by simp; omega
    have e81 : (l == 81) = false := by simp; omega
    have n1 : ¬ l < 37 := by omega
    have n2 : ¬ 40 < l := by omega
    have HB := Lib.hid (below_new w (.cells #[.int .i64 l, .int .i64 q1, .int .i64 q2, .int .i64 q3, .int .i64 q4, .int .u64 m1, .int .u64 m2, .int .u64 m3, .int .u64 m4, .int .u64 m5, .int .u64 p, .int .i64 bk, .int .i64 rt] 30))
    go_enter Tryz.func8, Tryz.ntmps8
    go_wp2_with fail
    refine bodyPost_ret (v := .tuple #[.int .u64 m3, .bool true]) (by simp [results, Tryz.f8, go_sem]) rfl ?_
    exact ⟨rfl, HB.out⟩
  · subst hl
    have n1 : ¬ bk < 37 := by omega
    have n2 : ¬ 40 < bk := by omega
    have HB := Lib.hid (below_new w (.cells #[.int .i64 80, .int .i64 q1, .int .i64 q2, .int .i64 q3, .int .i64 q4, .int .u64 m1, .int .u64 m2, .int .u64 m3, .int .u64 m4, .int .u64 m5, .int .u64 p, .int .i64 bk, .int .i64 rt] 30))
    go_enter Tryz.func8, Tryz.ntmps8
    go_wp2_with fail
    refine bodyPost_ret (v := .tuple #[.int .u64 m3, .bool true]) (by simp [results, Tryz.f8, go_sem]) rfl ?_
    exact ⟨rfl, HB.out⟩
  · subst hl
    have n1 : ¬ bk < 37 := by omega
    have n2 : ¬ 40 < bk := by omega
    have HB := Lib.hid (below_new w (.cells #[.int .i64 81, .int .i64 q1, .int .i64 q2, .int .i64 q3, .int .i64 q4, .int .u64 m1, .int .u64 m2, .int .u64 m3, .int .u64 m4, .int .u64 m5, .int .u64 p, .int .i64 bk, .int .i64 rt] 30))
    go_enter Tryz.func8, Tryz.ntmps8
    go_wp2_with fail
    refine bodyPost_ret (v := .tuple #[.int .u64 m3, .bool true]) (by simp [results, Tryz.f8, go_sem]) rfl ?_
    exact ⟨rfl, HB.out⟩
set_option maxHeartbeats 3200000 in
theorem rfresh_no (x : Mu) (h : ¬ freshP x) (w : World) :
    Calls Tryz.prog 8 #[x.v] w fun e w' => e = .returned (.tuple #[.int .u64 0, .bool false]) ∧ Below w.heap.size w w' := by
  obtain ⟨l, q1, q2, q3, q4, m1, m2, m3, m4, m5, p, bk, rt⟩ := x
  show Calls Tryz.prog 8 #[.agg #[.int .i64 l, .int .i64 q1, .int .i64 q2, .int .i64 q3, .int .i64 q4, .int .u64 m1, .int .u64 m2, .int .u64 m3, .int .u64 m4, .int .u64 m5, .int .u64 p, .int .i64 bk, .int .i64 rt]] w fun e w' => e = .returned (.tuple #[.int .u64 0, .bool false]) ∧ Below w.heap.size w w'
  (try unfold freshP at h)
  dsimp only at h
  by_cases h80 : l = 80
  · have hb3 : ¬ (37 ≤ bk ∧ bk ≤ 40) := fun e => h (.inr ⟨.inl h80, e⟩)
    clear h
    subst h80
    by_cases h1 : 37 ≤ bk
    · have h2 : ¬ bk ≤ 40 := fun e => hb3 ⟨h1, e⟩
      have n1 : ¬ bk < 37 := by omega
      have n2 : 40 < bk := by omega
      clear hb3
      have HB := Lib.hid (below_new w (.cells #[.int .i64 80, .int .i64 q1, .int .i64 q2, .int .i64 q3, .int .i64 q4, .int .u64 m1, .int .u64 m2, .int .u64 m3, .int .u64 m4, .int .u64 m5, .int .u64 p, .int .i64 bk, .int .i64 rt] 30))
      go_enter Tryz.func8, Tryz.ntmps8
      go_wp2_with fail
      refine bodyPost_ret (v := .tuple #[.int .u64 0, .bool false]) (by simp [results, Tryz.f8, go_sem]) rfl ?_
      exact ⟨rfl, HB.out⟩
    · have n1 : bk < 37 := by omega
      clear hb3
      have HB := Lib.hid (below_new w (.cells #[.int .i64 80, .int .i64 q1, .int .i64 q2, .int .i64 q3, .int .i64 q4, .int .u64 m1, .int .u64 m2, .int .u64 m3, .int .u64 m4, .int .u64 m5, .int .u64 p, .int .i64 bk, .int .i64 rt] 30))
      go_enter Tryz.func8, Tryz.ntmps8
      go_wp2_with fail
      refine bodyPost_ret (v := .tuple #[.int .u64 0, .bool false]) (by simp [results, Tryz.f8, go_sem]) rfl ?_
      exact ⟨rfl, HB.out⟩
  by_cases h81 : l = 81
  · have hb3 : ¬ (37 ≤ bk ∧ bk ≤ 40) := fun e => h (.inr ⟨.inr h81, e⟩)
    clear h h80
    subst h81
    by_cases h1 : 37 ≤ bk
    · have h2 : ¬ bk ≤ 40 := fun e => hb3 ⟨h1, e⟩
      have n1 : ¬ bk < 37 := by omega
      have n2 : 40 < bk := by omega
      clear hb3
      have HB := Lib.hid (below_new w (.cells #[.int .i64 81, .int .i64 q1, .int .i64 q2, .int .i64 q3, .int .i64 q4, .int .u64 m1, .int .u64 m2, .int .u64 m3, .int .u64 m4, .int .u64 m5, .int .u64 p, .int .i64 bk, .int .i64 rt] 30))
      go_enter Tryz.func8, Tryz.ntmps8
      go_wp2_with fail
      refine bodyPost_ret (v := .tuple #[.int .u64 0, .bool false]) (by simp [results, Tryz.f8, go_sem]) rfl ?_
      exact ⟨rfl, HB.out⟩
    · have n1 : bk < 37 := by omega
      clear hb3
      have HB := Lib.hid (below_new w (.cells #[.int .i64 81, .int .i64 q1, .int .i64 q2, .int .i64 q3, .int .i64 q4, .int .u64 m1, .int .u64 m2, .int .u64 m3, .int .u64 m4, .int .u64 m5, .int .u64 p, .int .i64 bk, .int .i64 rt] 30))
      go_enter Tryz.func8, Tryz.ntmps8
      go_wp2_with fail
      refine bodyPost_ret (v := .tuple #[.int .u64 0, .bool false]) (by simp [results, Tryz.f8, go_sem]) rfl ?_
      exact ⟨rfl, HB.out⟩
  have e80 : (l == 80) = false := by simpa using h80
  have e81 : (l == 81) = false := by simpa using h81
  have hb3 : ¬ (37 ≤ l ∧ l ≤ 40) := fun e => h (.inl e)
  clear h h80 h81
  by_cases h1 : 37 ≤ l
  · have h2 : ¬ l ≤ 40 := fun e => hb3 ⟨h1, e⟩
    have n1 : ¬ l < 37 := by omega
    have n2 : 40 < l := by omega
    clear hb3
    have HB := Lib.hid (below_new w (.cells #[.int .i64 l, .int .i64 q1, .int .i64 q2, .int .i64 q3, .int .i64 q4, .int .u64 m1, .int .u64 m2, .int .u64 m3, .int .u64 m4, .int .u64 m5, .int .u64 p, .int .i64 bk, .int .i64 rt] 30))
    go_enter Tryz.func8, Tryz.ntmps8
    go_wp2_with fail
    refine bodyPost_ret (v := .tuple #[.int .u64 0, .bool false]) (by simp [results, Tryz.f8, go_sem]) rfl ?_
    exact ⟨rfl, HB.out⟩
  · have n1 : l < 37 := by omega
    clear hb3
    have HB := Lib.hid (below_new w (.cells #[.int .i64 l, .int .i64 q1, .int .i64 q2, .int .i64 q3, .int .i64 q4, .int .u64 m1, .int .u64 m2, .int .u64 m3, .int .u64 m4, .int .u64 m5, .int .u64 p, .int .i64 bk, .int .i64 rt] 30))
    go_enter Tryz.func8, Tryz.ntmps8
    go_wp2_with fail
    refine bodyPost_ret (v := .tuple #[.int .u64 0, .bool false]) (by simp [results, Tryz.f8, go_sem]) rfl ?_
    exact ⟨rfl, HB.out⟩
end Go.Proofs.YtbpkdihonemogaaGreatDoor
