/- The document's answer for the name of a place, for every configuration and every number. -/
import Derived.Test.YtdhejdehlomppaaDoorPlaceAll
import Derived.Test.YtdhejdehlomppaaDoorDigits
import Derived.Deep.RegionHeld3
import Derived.Deep.DrawnRows
namespace Go.Proofs.YtdhejdehlomppaaDoor
open Go Go.RowKit
set_option maxRecDepth 100000
attribute [local go_sem ↓] Go.wp_at_zero Go.wp_at_succ

theorem nm_one (s : List UInt8) (x : Int) : nm s [x] = s ++ [32] ++ Lib.itoa x := by unfold nm; rw [List.map_cons, Lib.join_cons]; simp [Lib.joinTail]
theorem nm_two (s : List UInt8) (x y : Int) : nm s [x, y] = s ++ [32] ++ Lib.itoa x ++ [32] ++ Lib.itoa y := by unfold nm; rw [List.map_cons, Lib.join_cons]; simp [Lib.joinTail]
theorem bytes3 (s u : List UInt8) : (⟨s.toArray⟩ : ByteArray) ++ ⟨#[32]⟩ ++ ⟨u.toArray⟩ = ⟨(s ++ [32] ++ u).toArray⟩ := by apply ByteArray.ext; simp [ByteArray.data_append]
theorem bytes5 (s u v : List UInt8) : (⟨s.toArray⟩ : ByteArray) ++ ⟨#[32]⟩ ++ ⟨u.toArray⟩ ++ ⟨#[32]⟩ ++ ⟨v.toArray⟩ = ⟨(s ++ [32] ++ u ++ [32] ++ v).toArray⟩ := by apply ByteArray.ext; simp [ByteArray.data_append]
/-- What lies at place m, in a row of spots. -/
theorem spot_cells {w : World} {B g cap n : Nat} {b c d : Int} (h : w.ownsRow B 55 3 (.slice (some ⟨g, 0, none⟩) n cap) n (flat b c d n)) (m : Nat) (hm : m < n) :
    w.cell? ⟨g, m * 3, none⟩ = some (.int .i64 (spotF b c d m).1) ∧ w.cell? ⟨g, m * 3 + 1, none⟩ = some (.int .i64 (spotF b c d m).2.1) ∧ w.cell? ⟨g, m * 3 + 2, none⟩ = some (.int .i64 (spotF b c d m).2.2) := by
  refine ⟨?_, ?_, ?_⟩
  · rw [h.cellAt (m * 3) (by omega), show m * 3 = m * 3 + 0 by omega, flat_at b c d n m 0 hm (by omega)]; rfl
  · rw [h.cellAt (m * 3 + 1) (by omega), flat_at b c d n m 1 hm (by omega)]; rfl
  · rw [h.cellAt (m * 3 + 2) (by omega), flat_at b c d n m 2 hm (by omega)]; rfl
theorem refName_wrong (a b c d n : Int) (hr : ¬ Right a b c d) (w : World) :
    Calls Tryd.prog 14 #[.agg #[.int .i64 a, .int .i64 b, .int .i64 c, .int .i64 d], .int .i64 n] w fun e w' => e = .returned (.string ⟨#[]⟩) ∧ Below w.heap.size w w' := by
  have HA := Lib.hid (all_wrong a b c d hr)
  have HX := Lib.hid (BoxAt.new w a b c d 23)
  have HB := Lib.hid (below_new w (.cells #[.int .i64 a, .int .i64 b, .int .i64 c, .int .i64 d] 23))
  clear hr
  obtain ⟨x0, x1, x2, x3⟩ := HX.out
  by_cases h0 : n < 0
  all_goals
    go_enter Tryd.func14, Tryd.ntmps14
    go_wp2_with fail
    refine (HA.out _).mono ?_
    rintro e W ⟨rfl, hW⟩
    have HB1 := Lib.hid (belowOn HB.out hW)
    clear hW
    go_wp2_with fail
    go_ret
    exact ⟨rfl, HB1.out⟩
theorem refName_out (a b c d n : Int) (hr : Right a b c d) (hn : ¬ (0 ≤ n ∧ n < 5 + b + d + b * c + 3 * a)) (w : World) :
    Calls Tryd.prog 14 #[.agg #[.int .i64 a, .int .i64 b, .int .i64 c, .int .i64 d], .int .i64 n] w fun e w' => e = .returned (.string ⟨#[]⟩) ∧ Below w.heap.size w w' := by
  have HA := Lib.hid (all_right a b c d hr)
  have HX := Lib.hid (BoxAt.new w a b c d 23)
  have HB := Lib.hid (below_new w (.cells #[.int .i64 a, .int .i64 b, .int .i64 c, .int .i64 d] 23))
  clear hr
  obtain ⟨x0, x1, x2, x3⟩ := HX.out
  by_cases h0 : n < 0
  · clear hn
    go_enter Tryd.func14, Tryd.ntmps14
    go_wp2_with fail
    refine (HA.out _).mono ?_
    rintro e W ⟨g, cap, N, rfl, hN, hrow, hW⟩
    have HB1 := Lib.hid (belowOn HB.out hW)
    clear hW hN hrow
    go_wp2_with fail
    go_ret
    exact ⟨rfl, HB1.out⟩
  · go_enter Tryd.func14, Tryd.ntmps14
    go_wp2_with fail
    refine (HA.out _).mono ?_
    rintro e W ⟨g, cap, N, rfl, hN, hrow, hW⟩
    have HB1 := Lib.hid (belowOn HB.out hW)
    have hle : (N : Int) ≤ n := by omega
    clear hW hN hrow hn
    go_wp2_with fail
    go_ret
    exact ⟨rfl, HB1.out⟩
set_option maxHeartbeats 3200000 in
theorem refName_once0 (a b c d : Int) (hr : Right a b c d) (w : World) :
    Calls Tryd.prog 14 #[.agg #[.int .i64 a, .int .i64 b, .int .i64 c, .int .i64 d], .int .i64 0] w fun e w' => e = .returned (.string ⟨#[102, 114, 101, 101]⟩) ∧ Below w.heap.size w w' := by
  have HA := Lib.hid (all_right a b c d hr)
  have HX := Lib.hid (BoxAt.new w a b c d 23)
  have HB := Lib.hid (below_new w (.cells #[.int .i64 a, .int .i64 b, .int .i64 c, .int .i64 d] 23))
  have HE : Hid (spotF b c d ((0 : Nat) : Int) = (0, 0, 0)) := Lib.hid (spot_once (by omega))
  have HP := Lib.hid hr.prod
  obtain ⟨ha1, ha2, hb1, hb2, hc1, hc2, hd1, hd2⟩ := hr
  obtain ⟨x0, x1, x2, x3⟩ := HX.out
  go_enter Tryd.func14, Tryd.ntmps14
  go_wp2_with fail
  refine (HA.out _).mono ?_
  rintro e W ⟨g, cap, N, rfl, hN, hrow, hW⟩
  have hB1 := belowOn HB.out hW
  have hmN : 0 < N := by have := HP.out; omega
  have hmN' : ¬ (N : Int) ≤ 0 := by omega
  have c0 : W.cell? ⟨g, 0, none⟩ = some (.int .i64 0) := (spot_cells hrow 0 hmN).1.trans (by rw [HE.out])
  have c1 : W.cell? ⟨g, 1, none⟩ = some (.int .i64 0) := (spot_cells hrow 0 hmN).2.1.trans (by rw [HE.out])
  have c2 : W.cell? ⟨g, 2, none⟩ = some (.int .i64 0) := (spot_cells hrow 0 hmN).2.2.trans (by rw [HE.out])
  have HB1 := Lib.hid hB1
  clear hW hN hrow hB1 HE HA
  go_wp2_with fail
  go_ret
  exact ⟨rfl, below_on (below_on HB1.out _) _⟩
set_option maxHeartbeats 3200000 in
theorem refName_once1 (a b c d : Int) (hr : Right a b c d) (w : World) :
    Calls Tryd.prog 14 #[.agg #[.int .i64 a, .int .i64 b, .int .i64 c, .int .i64 d], .int .i64 1] w fun e w' => e = .returned (.string ⟨#[103, 97, 116, 101]⟩) ∧ Below w.heap.size w w' := by
  have HA := Lib.hid (all_right a b c d hr)
  have HX := Lib.hid (BoxAt.new w a b c d 23)
  have HB := Lib.hid (below_new w (.cells #[.int .i64 a, .int .i64 b, .int .i64 c, .int .i64 d] 23))
  have HE : Hid (spotF b c d ((1 : Nat) : Int) = (0, 1, 0)) := Lib.hid (spot_once (by omega))
  have HP := Lib.hid hr.prod
  obtain ⟨ha1, ha2, hb1, hb2, hc1, hc2, hd1, hd2⟩ := hr
  obtain ⟨x0, x1, x2, x3⟩ := HX.out
  go_enter Tryd.func14, Tryd.ntmps14
  go_wp2_with fail
  refine (HA.out _).mono ?_
  rintro e W ⟨g, cap, N, rfl, hN, hrow, hW⟩
  have hB1 := belowOn HB.out hW
  have hmN : 1 < N := by have := HP.out; omega
  have hmN' : ¬ (N : Int) ≤ 1 := by omega
  have c0 : W.cell? ⟨g, 3, none⟩ = some (.int .i64 0) := (spot_cells hrow 1 hmN).1.trans (by rw [HE.out])
  have c1 : W.cell? ⟨g, 4, none⟩ = some (.int .i64 1) := (spot_cells hrow 1 hmN).2.1.trans (by rw [HE.out])
  have c2 : W.cell? ⟨g, 5, none⟩ = some (.int .i64 0) := (spot_cells hrow 1 hmN).2.2.trans (by rw [HE.out])
  have HB1 := Lib.hid hB1
  clear hW hN hrow hB1 HE HA
  go_wp2_with fail
  go_ret
  exact ⟨rfl, below_on (below_on HB1.out _) _⟩
set_option maxHeartbeats 3200000 in
theorem refName_once2 (a b c d : Int) (hr : Right a b c d) (w : World) :
    Calls Tryd.prog 14 #[.agg #[.int .i64 a, .int .i64 b, .int .i64 c, .int .i64 d], .int .i64 2] w fun e w' => e = .returned (.string ⟨#[100, 105, 114, 116, 121]⟩) ∧ Below w.heap.size w w' := by
  have HA := Lib.hid (all_right a b c d hr)
  have HX := Lib.hid (BoxAt.new w a b c d 23)
  have HB := Lib.hid (below_new w (.cells #[.int .i64 a, .int .i64 b, .int .i64 c, .int .i64 d] 23))
  have HE : Hid (spotF b c d ((2 : Nat) : Int) = (0, 2, 0)) := Lib.hid (spot_once (by omega))
  have HP := Lib.hid hr.prod
  obtain ⟨ha1, ha2, hb1, hb2, hc1, hc2, hd1, hd2⟩ := hr
  obtain ⟨x0, x1, x2, x3⟩ := HX.out
  go_enter Tryd.func14, Tryd.ntmps14
  go_wp2_with fail
  refine (HA.out _).mono ?_
  rintro e W ⟨g, cap, N, rfl, hN, hrow, hW⟩
  have hB1 := belowOn HB.out hW
  have hmN : 2 < N := by have := HP.out; omega
  have hmN' : ¬ (N : Int) ≤ 2 := by omega
  have c0 : W.cell? ⟨g, 6, none⟩ = some (.int .i64 0) := (spot_cells hrow 2 hmN).1.trans (by rw [HE.out])
  have c1 : W.cell? ⟨g, 7, none⟩ = some (.int .i64 2) := (spot_cells hrow 2 hmN).2.1.trans (by rw [HE.out])
  have c2 : W.cell? ⟨g, 8, none⟩ = some (.int .i64 0) := (spot_cells hrow 2 hmN).2.2.trans (by rw [HE.out])
  have HB1 := Lib.hid hB1
  clear hW hN hrow hB1 HE HA
  go_wp2_with fail
  go_ret
  exact ⟨rfl, below_on (below_on HB1.out _) _⟩
set_option maxHeartbeats 3200000 in
theorem refName_once3 (a b c d : Int) (hr : Right a b c d) (w : World) :
    Calls Tryd.prog 14 #[.agg #[.int .i64 a, .int .i64 b, .int .i64 c, .int .i64 d], .int .i64 3] w fun e w' => e = .returned (.string ⟨#[110, 101, 120, 116]⟩) ∧ Below w.heap.size w w' := by
  have HA := Lib.hid (all_right a b c d hr)
  have HX := Lib.hid (BoxAt.new w a b c d 23)
  have HB := Lib.hid (below_new w (.cells #[.int .i64 a, .int .i64 b, .int .i64 c, .int .i64 d] 23))
  have HE : Hid (spotF b c d ((3 : Nat) : Int) = (0, 3, 0)) := Lib.hid (spot_once (by omega))
  have HP := Lib.hid hr.prod
  obtain ⟨ha1, ha2, hb1, hb2, hc1, hc2, hd1, hd2⟩ := hr
  obtain ⟨x0, x1, x2, x3⟩ := HX.out
  go_enter Tryd.func14, Tryd.ntmps14
  go_wp2_with fail
  refine (HA.out _).mono ?_
  rintro e W ⟨g, cap, N, rfl, hN, hrow, hW⟩
  have hB1 := belowOn HB.out hW
  have hmN : 3 < N := by have := HP.out; omega
  have hmN' : ¬ (N : Int) ≤ 3 := by omega
  have c0 : W.cell? ⟨g, 9, none⟩ = some (.int .i64 0) := (spot_cells hrow 3 hmN).1.trans (by rw [HE.out])
  have c1 : W.cell? ⟨g, 10, none⟩ = some (.int .i64 3) := (spot_cells hrow 3 hmN).2.1.trans (by rw [HE.out])
  have c2 : W.cell? ⟨g, 11, none⟩ = some (.int .i64 0) := (spot_cells hrow 3 hmN).2.2.trans (by rw [HE.out])
  have HB1 := Lib.hid hB1
  clear hW hN hrow hB1 HE HA
  go_wp2_with fail
  go_ret
  exact ⟨rfl, below_on (below_on HB1.out _) _⟩
set_option maxHeartbeats 3200000 in
theorem refName_once4 (a b c d : Int) (hr : Right a b c d) (w : World) :
    Calls Tryd.prog 14 #[.agg #[.int .i64 a, .int .i64 b, .int .i64 c, .int .i64 d], .int .i64 4] w fun e w' => e = .returned (.string ⟨#[115, 101, 114, 118, 101]⟩) ∧ Below w.heap.size w w' := by
  have HA := Lib.hid (all_right a b c d hr)
  have HX := Lib.hid (BoxAt.new w a b c d 23)
  have HB := Lib.hid (below_new w (.cells #[.int .i64 a, .int .i64 b, .int .i64 c, .int .i64 d] 23))
  have HE : Hid (spotF b c d ((4 : Nat) : Int) = (0, 4, 0)) := Lib.hid (spot_once (by omega))
  have HP := Lib.hid hr.prod
  obtain ⟨ha1, ha2, hb1, hb2, hc1, hc2, hd1, hd2⟩ := hr
  obtain ⟨x0, x1, x2, x3⟩ := HX.out
  go_enter Tryd.func14, Tryd.ntmps14
  go_wp2_with fail
  refine (HA.out _).mono ?_
  rintro e W ⟨g, cap, N, rfl, hN, hrow, hW⟩
  have hB1 := belowOn HB.out hW
  have hmN : 4 < N := by have := HP.out; omega
  have hmN' : ¬ (N : Int) ≤ 4 := by omega
  have c0 : W.cell? ⟨g, 12, none⟩ = some (.int .i64 0) := (spot_cells hrow 4 hmN).1.trans (by rw [HE.out])
  have c1 : W.cell? ⟨g, 13, none⟩ = some (.int .i64 4) := (spot_cells hrow 4 hmN).2.1.trans (by rw [HE.out])
  have c2 : W.cell? ⟨g, 14, none⟩ = some (.int .i64 0) := (spot_cells hrow 4 hmN).2.2.trans (by rw [HE.out])
  have HB1 := Lib.hid hB1
  clear hW hN hrow hB1 HE HA
  go_wp2_with fail
  go_ret
  exact ⟨rfl, below_on (below_on HB1.out _) _⟩
set_option maxHeartbeats 6400000 in
theorem refName_in (a b c d x : Int) (m : Nat) (hr : Right a b c d) (hm : (m : Int) < 5 + b + d + b * c + 3 * a) (he : spotF b c d m = (1, x, 0)) (hx0 : 0 ≤ x) (hx1 : x ≤ 4096) (w : World) :
    Calls Tryd.prog 14 #[.agg #[.int .i64 a, .int .i64 b, .int .i64 c, .int .i64 d], .int .i64 m] w fun e w' => e = .returned (.string ⟨(nameOf (spotF b c d m)).toArray⟩) ∧ Below w.heap.size w w' := by
  have HA := Lib.hid (all_right a b c d hr)
  have HX := Lib.hid (BoxAt.new w a b c d 23)
  have HB := Lib.hid (below_new w (.cells #[.int .i64 a, .int .i64 b, .int .i64 c, .int .i64 d] 23))
  have HE := Lib.hid he
  have HO : Hid (nameOf (spotF b c d m) = [105, 110] ++ [32] ++ Lib.itoa x) := Lib.hid (by rw [he, ← nm_one]; rfl)
  have HD := Lib.hid (refDigits_c x hx0 hx1)
  have l1 := itoa_short4 x hx0 hx1
  generalize Lib.itoa x = s at *
  generalize nameOf (spotF b c d m) = R at HO
  have q0 : ∀ W, (Op.stringOp .add (⟨#[105, 110]⟩ : ByteArray) (⟨#[32]⟩ : ByteArray)).run Tryd.prog W = .ok (.string ((⟨#[105, 110]⟩ : ByteArray) ++ (⟨#[32]⟩ : ByteArray))) W := fun W => run_string_add_sum W _ _ (by decide)
  have q1 : ∀ W, (Op.stringOp .add ((⟨#[105, 110]⟩ : ByteArray) ++ (⟨#[32]⟩ : ByteArray)) (⟨s.toArray⟩ : ByteArray)).run Tryd.prog W = .ok (.string (((⟨#[105, 110]⟩ : ByteArray) ++ (⟨#[32]⟩ : ByteArray)) ++ (⟨s.toArray⟩ : ByteArray))) W := fun W => run_string_add_sum W _ _ (by simp only [ByteArray.size_append]; simp [ByteArray.size]; omega)
  clear hr he
  obtain ⟨x0, x1, x2, x3⟩ := HX.out
  go_enter Tryd.func14, Tryd.ntmps14
  go_wp2_with fail
  refine (HA.out _).mono ?_
  rintro e W ⟨g, cap, N, rfl, hN, hrow, hW⟩
  have hB1 := belowOn HB.out hW
  have hmN : m < N := by omega
  obtain ⟨c0, c1, c2⟩ := spot_cells hrow m hmN
  rw [HE.out] at c0 c1 c2
  obtain ⟨W2, hW2⟩ : ∃ W2, W2 = W.alloc (.cells #[.int .i64 1, .int .i64 x, .int .i64 0] 55) := ⟨_, rfl⟩
  have hB2 : Below w.heap.size w W2 := by rw [hW2]; exact below_on hB1 _
  have hT2 : TriAt W2 W.heap.size 1 x 0 := by rw [hW2]; exact TriAt.new _ _ _ _ _
  have hsz : W2.heap.size = W.heap.size + 1 := by rw [hW2]; simp
  have HB2 := Lib.hid hB2; have HT2 := Lib.hid hT2; have HW2 := Lib.hid hW2; have HZ := Lib.hid hsz
  clear hW hN hrow hB1 hB2 hT2 hW2 hsz
  go_wp2_with fail
  rw [← HW2.out]
  clear c0 c1 c2 x0 x1 x2 x3
  obtain ⟨t0, t1, t2⟩ := HT2.out
  have hlt := lt_of_cell t0
  go_wp2_with fail
  refine wp_region_held_drew (S := (fun w' => w'.cell? ⟨W.heap.size, 0, none⟩ = some (.int .i64 1) ∧ w'.cell? ⟨W.heap.size, 1, none⟩ = some (.int .i64 x) ∧ w'.cell? ⟨W.heap.size, 2, none⟩ = some (.int .i64 0))) (by kernel_rfl) ?_ (fun hHeld => ?_)
  · exact ⟨t0, t1, t2⟩
  refine wpAnyH_take (i := 1) (oi := { dst := some 31, op := Op.fieldAddr 55 (Operand.tmp 6) 0, type := 0, pos := "ref.go:99", after := #[], guard := none }) (v := ?vp1) rfl (by kernel_rfl) (by kernel_rfl) (by kernel_rfl) (fun _ _ _ h => h) (Or.inl ⟨by rfl, ?hyp1⟩) hHeld ?_
  case hyp1 => (intro w hSw; (try dsimp only at hSw); go_simp; (try with_reducible rfl))
  try simp only [Act.put, List.setIfInBounds_toArray, List.set_cons_zero, List.set_cons_succ]
  refine wpAnyH_take (i := 2) (oi := { dst := some 32, op := Op.load 3 (Operand.tmp 31), type := 3, pos := "ref.go:99", after := #[{ on := 1, ground := Ground.data }], guard := none }) (v := ?vp2) rfl (by kernel_rfl) (by kernel_rfl) (by kernel_rfl) (fun _ _ _ h => h) (Or.inl ⟨by rfl, ?hyp2⟩) hHeld ?_
  case hyp2 => (intro w hSw; (try dsimp only at hSw); go_simp; (try with_reducible rfl))
  try simp only [Act.put, List.setIfInBounds_toArray, List.set_cons_zero, List.set_cons_succ]
  refine wpAnyH_take (i := 6) (oi := { dst := some 36, op := Op.fieldAddr 55 (Operand.tmp 6) 1, type := 0, pos := "ref.go:99", after := #[], guard := none }) (v := ?vp6) rfl (by kernel_rfl) (by kernel_rfl) (by kernel_rfl) (fun _ _ _ h => h) (Or.inl ⟨by rfl, ?hyp6⟩) hHeld ?_
  case hyp6 => (intro w hSw; (try dsimp only at hSw); go_simp; (try with_reducible rfl))
  try simp only [Act.put, List.setIfInBounds_toArray, List.set_cons_zero, List.set_cons_succ]
  refine wpAnyH_take (i := 7) (oi := { dst := some 37, op := Op.load 3 (Operand.tmp 36), type := 3, pos := "ref.go:99", after := #[{ on := 6, ground := Ground.data }], guard := none }) (v := ?vp7) rfl (by kernel_rfl) (by kernel_rfl) (by kernel_rfl) (fun _ _ _ h => h) (Or.inl ⟨by rfl, ?hyp7⟩) hHeld ?_
  case hyp7 => (intro w hSw; (try dsimp only at hSw); go_simp; (try with_reducible rfl))
  try simp only [Act.put, List.setIfInBounds_toArray, List.set_cons_zero, List.set_cons_succ]
  clear t0 t1 t2
  refine wpAnyH_ready (rs := [0, 8]) (by kernel_rfl) (by simp) ?_
  refine AllReadyH.cons (o := { dst := some 30, op := Op.buildSlice 28 7 #[(0, Operand.const (Value.string { data := #[] })), (1, Operand.const (Value.string { data := #[105, 110] })), (2, Operand.const (Value.string { data := #[103, 108, 111, 98] })), (3, Operand.const (Value.string { data := #[114, 101, 103] })), (4, Operand.const (Value.string { data := #[99, 97, 114] })), (5, Operand.const (Value.string { data := #[99, 100, 114] })), (6, Operand.const (Value.string { data := #[99, 111, 108, 111, 117, 114] }))], type := 28, pos := "ref.go:99", after := #[], guard := none }) rfl (fun K hK => ?_) ?_
  · go_simp
    have hBA := (below_on HB2.out (.cells #[.string ⟨#[]⟩, .string ⟨#[105, 110]⟩, .string ⟨#[103, 108, 111, 98]⟩, .string ⟨#[114, 101, 103]⟩, .string ⟨#[99, 97, 114]⟩, .string ⟨#[99, 100, 114]⟩, .string ⟨#[99, 111, 108, 111, 117, 114]⟩] 9)).drew
    have hTA : TriAt (W2.alloc (.cells #[.string ⟨#[]⟩, .string ⟨#[105, 110]⟩, .string ⟨#[103, 108, 111, 98]⟩, .string ⟨#[114, 101, 103]⟩, .string ⟨#[99, 97, 114]⟩, .string ⟨#[99, 100, 114]⟩, .string ⟨#[99, 111, 108, 111, 117, 114]⟩] 9)).drew W.heap.size 1 x 0 := TriAt.below HT2.out (below_new W2 (.cells #[.string ⟨#[]⟩, .string ⟨#[105, 110]⟩, .string ⟨#[103, 108, 111, 98]⟩, .string ⟨#[114, 101, 103]⟩, .string ⟨#[99, 97, 114]⟩, .string ⟨#[99, 100, 114]⟩, .string ⟨#[99, 111, 108, 111, 117, 114]⟩] 9)).drew
    refine hK.out _ _ ?_ (fun hHeld => ?_)
    · exact hTA
    clear hK K
    try simp only [Act.put, List.setIfInBounds_toArray, List.set_cons_zero, List.set_cons_succ]
    refine wpAnyH_take (i := 3) (oi := { dst := some 33, op := Op.indexAddr 28 (Operand.tmp 30) (Operand.tmp 32), type := 0, pos := "ref.go:99", after := #[{ on := 0, ground := Ground.data }, { on := 2, ground := Ground.data }], guard := none }) (v := ?va3) rfl (by kernel_rfl) (by kernel_rfl) (by kernel_rfl) (fun _ _ _ h => h) (Or.inl ⟨by rfl, ?hya3⟩) hHeld ?_
    case hya3 => (intro w hSw; (try dsimp only at hSw); go_simp; (try with_reducible rfl))
    try simp only [Act.put, List.setIfInBounds_toArray, List.set_cons_zero, List.set_cons_succ]
    refine wpAnyH_ready (rs := [4, 8]) (by kernel_rfl) (by simp) ?_
    refine AllReadyH.cons (o := { dst := some 34, op := Op.load 9 (Operand.tmp 33), type := 9, pos := "ref.go:99", after := #[{ on := 3, ground := Ground.data }], guard := none }) rfl (fun K hK => ?_) ?_
    · go_simp
      refine hK.out _ _ ?_ (fun hHeld => ?_)
      · exact hTA
      clear hK K
      try simp only [Act.put, List.setIfInBounds_toArray, List.set_cons_zero, List.set_cons_succ]
      refine wpAnyH_take (i := 5) (oi := { dst := some 35, op := Op.binOp BinOp.add 9 (Operand.tmp 34) (Operand.const (Value.string { data := #[32] })) 9, type := 9, pos := "ref.go:99", after := #[{ on := 4, ground := Ground.data }], guard := none }) (v := ?va5) rfl (by kernel_rfl) (by kernel_rfl) (by kernel_rfl) (fun _ _ _ h => h) (Or.inl ⟨by rfl, ?hya5⟩) hHeld ?_
      case hya5 => (intro w hSw; (try dsimp only at hSw); go_simp; (try with_reducible rfl))
      try simp only [Act.put, List.setIfInBounds_toArray, List.set_cons_zero, List.set_cons_succ]
      refine wpAnyH_ready (rs := [8]) (by kernel_rfl) (by simp) ?_
      refine AllReadyH.cons (o := { dst := some 38, op := Op.call { callee := Callee.value (Operand.func 22), args := #[Operand.tmp 37], argTypes := #[3] }, type := 9, pos := "ref.go:99", after := #[{ on := 7, ground := Ground.data }], guard := none }) rfl (fun K hK => ?_) AllReadyH.nil
      go_simp
      refine (HD.out _).mono ?_
      rintro e v ⟨rfl, hV⟩
      have hX : TriAt v W.heap.size 1 x 0 := TriAt.below hTA hV
      have hQ := belowOn (w := w) hBA hV
      clear hV hHeld
      try go_wp2_with fail
      refine hK.out _ _ ?_ (fun hHeld => ?_)
      · exact hX
      clear hK K
      try simp only [Act.put, List.setIfInBounds_toArray, List.set_cons_zero, List.set_cons_succ]
      refine wpAnyH_take (i := 9) (oi := { dst := some 39, op := Op.binOp BinOp.add 9 (Operand.tmp 35) (Operand.tmp 38) 9, type := 9, pos := "ref.go:99", after := #[{ on := 5, ground := Ground.data }, { on := 8, ground := Ground.data }], guard := none }) (v := ?va9) rfl (by kernel_rfl) (by kernel_rfl) (by kernel_rfl) (fun _ _ _ h => h) (Or.inl ⟨by rfl, ?hya9⟩) hHeld ?_
      case hya9 => (intro w hSw; (try dsimp only at hSw); go_simp; (try with_reducible rfl))
      try simp only [Act.put, List.setIfInBounds_toArray, List.set_cons_zero, List.set_cons_succ]
      refine wpAnyH_take (i := 10) (oi := { dst := some 7, op := Op.assign (Operand.tmp 39), type := 9, pos := "ref.go:99", after := #[{ on := 9, ground := Ground.data }, { on := 8, ground := Ground.chain }, { on := 0, ground := Ground.phase }, { on := 1, ground := Ground.phase }, { on := 2, ground := Ground.phase }, { on := 3, ground := Ground.phase }, { on := 4, ground := Ground.phase }, { on := 5, ground := Ground.phase }, { on := 6, ground := Ground.phase }, { on := 7, ground := Ground.phase }, { on := 8, ground := Ground.phase }, { on := 9, ground := Ground.phase }], guard := none }) (v := ?va10) rfl (by kernel_rfl) (by kernel_rfl) (by kernel_rfl) (fun _ _ _ h => h) (Or.inl ⟨by rfl, ?hya10⟩) hHeld ?_
      case hya10 => (intro w hSw; (try dsimp only at hSw); go_simp; (try with_reducible rfl))
      try simp only [Act.put, List.setIfInBounds_toArray, List.set_cons_zero, List.set_cons_succ]
      refine wpAnyH_done (by kernel_rfl) ?_ _
      obtain ⟨r0, r1, r2⟩ := hX
      clear hHeld
      go_wp2_with fail
      go_ret
      refine ⟨?_, hQ⟩
      rw [HO.out]
      exact congrArg (fun x => Ending.returned (Value.string x)) (bytes3 [105, 110] s)
    refine AllReadyH.cons (o := { dst := some 38, op := Op.call { callee := Callee.value (Operand.func 22), args := #[Operand.tmp 37], argTypes := #[3] }, type := 9, pos := "ref.go:99", after := #[{ on := 7, ground := Ground.data }], guard := none }) rfl (fun K hK => ?_) AllReadyH.nil
    go_simp
    refine (HD.out _).mono ?_
    rintro e v ⟨rfl, hV⟩
    have hX : TriAt v W.heap.size 1 x 0 := TriAt.below hTA hV
    have hQ := belowOn (w := w) hBA hV
    have hC := (hV.cell (p := ⟨W2.heap.size, 1, none⟩) (by simp)).trans (World.cell?_alloc_new ..)
    clear hV hHeld
    try go_wp2_with fail
    refine hK.out _ _ ?_ (fun hHeld => ?_)
    · exact hX
    clear hK K
    try simp only [Act.put, List.setIfInBounds_toArray, List.set_cons_zero, List.set_cons_succ]
    refine wpAnyH_ready (rs := [4]) (by kernel_rfl) (by simp) ?_
    refine AllReadyH.cons (o := { dst := some 34, op := Op.load 9 (Operand.tmp 33), type := 9, pos := "ref.go:99", after := #[{ on := 3, ground := Ground.data }], guard := none }) rfl (fun K hK => ?_) AllReadyH.nil
    go_simp
    refine hK.out _ _ ?_ (fun hHeld => ?_)
    · exact hX
    clear hK K
    try simp only [Act.put, List.setIfInBounds_toArray, List.set_cons_zero, List.set_cons_succ]
    refine wpAnyH_take (i := 5) (oi := { dst := some 35, op := Op.binOp BinOp.add 9 (Operand.tmp 34) (Operand.const (Value.string { data := #[32] })) 9, type := 9, pos := "ref.go:99", after := #[{ on := 4, ground := Ground.data }], guard := none }) (v := ?vb5) rfl (by kernel_rfl) (by kernel_rfl) (by kernel_rfl) (fun _ _ _ h => h) (Or.inl ⟨by rfl, ?hyb5⟩) hHeld ?_
    case hyb5 => (intro w hSw; (try dsimp only at hSw); go_simp; (try with_reducible rfl))
    try simp only [Act.put, List.setIfInBounds_toArray, List.set_cons_zero, List.set_cons_succ]
    refine wpAnyH_take (i := 9) (oi := { dst := some 39, op := Op.binOp BinOp.add 9 (Operand.tmp 35) (Operand.tmp 38) 9, type := 9, pos := "ref.go:99", after := #[{ on := 5, ground := Ground.data }, { on := 8, ground := Ground.data }], guard := none }) (v := ?vb9) rfl (by kernel_rfl) (by kernel_rfl) (by kernel_rfl) (fun _ _ _ h => h) (Or.inl ⟨by rfl, ?hyb9⟩) hHeld ?_
    case hyb9 => (intro w hSw; (try dsimp only at hSw); go_simp; (try with_reducible rfl))
    try simp only [Act.put, List.setIfInBounds_toArray, List.set_cons_zero, List.set_cons_succ]
    refine wpAnyH_take (i := 10) (oi := { dst := some 7, op := Op.assign (Operand.tmp 39), type := 9, pos := "ref.go:99", after := #[{ on := 9, ground := Ground.data }, { on := 8, ground := Ground.chain }, { on := 0, ground := Ground.phase }, { on := 1, ground := Ground.phase }, { on := 2, ground := Ground.phase }, { on := 3, ground := Ground.phase }, { on := 4, ground := Ground.phase }, { on := 5, ground := Ground.phase }, { on := 6, ground := Ground.phase }, { on := 7, ground := Ground.phase }, { on := 8, ground := Ground.phase }, { on := 9, ground := Ground.phase }], guard := none }) (v := ?vb10) rfl (by kernel_rfl) (by kernel_rfl) (by kernel_rfl) (fun _ _ _ h => h) (Or.inl ⟨by rfl, ?hyb10⟩) hHeld ?_
    case hyb10 => (intro w hSw; (try dsimp only at hSw); go_simp; (try with_reducible rfl))
    try simp only [Act.put, List.setIfInBounds_toArray, List.set_cons_zero, List.set_cons_succ]
    refine wpAnyH_done (by kernel_rfl) ?_ _
    obtain ⟨r0, r1, r2⟩ := hX
    clear hHeld
    go_wp2_with fail
    go_ret
    refine ⟨?_, hQ⟩
    rw [HO.out]
    exact congrArg (fun x => Ending.returned (Value.string x)) (bytes3 [105, 110] s)
  refine AllReadyH.cons (o := { dst := some 38, op := Op.call { callee := Callee.value (Operand.func 22), args := #[Operand.tmp 37], argTypes := #[3] }, type := 9, pos := "ref.go:99", after := #[{ on := 7, ground := Ground.data }], guard := none }) rfl (fun K hK => ?_) AllReadyH.nil
  go_simp
  refine (HD.out _).mono ?_
  rintro e v ⟨rfl, hV⟩
  have hX : TriAt v W.heap.size 1 x 0 := TriAt.below (show TriAt W2.drew W.heap.size 1 x 0 from HT2.out) hV
  have hQ := belowOn (w := w) HB2.out.drew hV
  clear hV hHeld
  try go_wp2_with fail
  refine hK.out _ _ ?_ (fun hHeld => ?_)
  · exact hX
  clear hK K
  try simp only [Act.put, List.setIfInBounds_toArray, List.set_cons_zero, List.set_cons_succ]
  refine wpAnyH_ready (rs := [0]) (by kernel_rfl) (by simp) ?_
  refine AllReadyH.cons (o := { dst := some 30, op := Op.buildSlice 28 7 #[(0, Operand.const (Value.string { data := #[] })), (1, Operand.const (Value.string { data := #[105, 110] })), (2, Operand.const (Value.string { data := #[103, 108, 111, 98] })), (3, Operand.const (Value.string { data := #[114, 101, 103] })), (4, Operand.const (Value.string { data := #[99, 97, 114] })), (5, Operand.const (Value.string { data := #[99, 100, 114] })), (6, Operand.const (Value.string { data := #[99, 111, 108, 111, 117, 114] }))], type := 28, pos := "ref.go:99", after := #[], guard := none }) rfl (fun K hK => ?_) AllReadyH.nil
  go_simp
  have hXB : TriAt (v.alloc (.cells #[.string ⟨#[]⟩, .string ⟨#[105, 110]⟩, .string ⟨#[103, 108, 111, 98]⟩, .string ⟨#[114, 101, 103]⟩, .string ⟨#[99, 97, 114]⟩, .string ⟨#[99, 100, 114]⟩, .string ⟨#[99, 111, 108, 111, 117, 114]⟩] 9)) W.heap.size 1 x 0 := TriAt.below hX (below_new v (.cells #[.string ⟨#[]⟩, .string ⟨#[105, 110]⟩, .string ⟨#[103, 108, 111, 98]⟩, .string ⟨#[114, 101, 103]⟩, .string ⟨#[99, 97, 114]⟩, .string ⟨#[99, 100, 114]⟩, .string ⟨#[99, 111, 108, 111, 117, 114]⟩] 9))
  refine hK.out _ _ ?_ (fun hHeld => ?_)
  · exact hXB
  clear hK K
  try simp only [Act.put, List.setIfInBounds_toArray, List.set_cons_zero, List.set_cons_succ]
  refine wpAnyH_take (i := 3) (oi := { dst := some 33, op := Op.indexAddr 28 (Operand.tmp 30) (Operand.tmp 32), type := 0, pos := "ref.go:99", after := #[{ on := 0, ground := Ground.data }, { on := 2, ground := Ground.data }], guard := none }) (v := ?vc3) rfl (by kernel_rfl) (by kernel_rfl) (by kernel_rfl) (fun _ _ _ h => h) (Or.inl ⟨by rfl, ?hyc3⟩) hHeld ?_
  case hyc3 => (intro w hSw; (try dsimp only at hSw); go_simp; (try with_reducible rfl))
  try simp only [Act.put, List.setIfInBounds_toArray, List.set_cons_zero, List.set_cons_succ]
  refine wpAnyH_ready (rs := [4]) (by kernel_rfl) (by simp) ?_
  refine AllReadyH.cons (o := { dst := some 34, op := Op.load 9 (Operand.tmp 33), type := 9, pos := "ref.go:99", after := #[{ on := 3, ground := Ground.data }], guard := none }) rfl (fun K hK => ?_) AllReadyH.nil
  go_simp
  refine hK.out _ _ ?_ (fun hHeld => ?_)
  · exact hXB
  clear hK K
  try simp only [Act.put, List.setIfInBounds_toArray, List.set_cons_zero, List.set_cons_succ]
  refine wpAnyH_take (i := 5) (oi := { dst := some 35, op := Op.binOp BinOp.add 9 (Operand.tmp 34) (Operand.const (Value.string { data := #[32] })) 9, type := 9, pos := "ref.go:99", after := #[{ on := 4, ground := Ground.data }], guard := none }) (v := ?vc5) rfl (by kernel_rfl) (by kernel_rfl) (by kernel_rfl) (fun _ _ _ h => h) (Or.inl ⟨by rfl, ?hyc5⟩) hHeld ?_
  case hyc5 => (intro w hSw; (try dsimp only at hSw); go_simp; (try with_reducible rfl))
  try simp only [Act.put, List.setIfInBounds_toArray, List.set_cons_zero, List.set_cons_succ]
  refine wpAnyH_take (i := 9) (oi := { dst := some 39, op := Op.binOp BinOp.add 9 (Operand.tmp 35) (Operand.tmp 38) 9, type := 9, pos := "ref.go:99", after := #[{ on := 5, ground := Ground.data }, { on := 8, ground := Ground.data }], guard := none }) (v := ?vc9) rfl (by kernel_rfl) (by kernel_rfl) (by kernel_rfl) (fun _ _ _ h => h) (Or.inl ⟨by rfl, ?hyc9⟩) hHeld ?_
  case hyc9 => (intro w hSw; (try dsimp only at hSw); go_simp; (try with_reducible rfl))
  try simp only [Act.put, List.setIfInBounds_toArray, List.set_cons_zero, List.set_cons_succ]
  refine wpAnyH_take (i := 10) (oi := { dst := some 7, op := Op.assign (Operand.tmp 39), type := 9, pos := "ref.go:99", after := #[{ on := 9, ground := Ground.data }, { on := 8, ground := Ground.chain }, { on := 0, ground := Ground.phase }, { on := 1, ground := Ground.phase }, { on := 2, ground := Ground.phase }, { on := 3, ground := Ground.phase }, { on := 4, ground := Ground.phase }, { on := 5, ground := Ground.phase }, { on := 6, ground := Ground.phase }, { on := 7, ground := Ground.phase }, { on := 8, ground := Ground.phase }, { on := 9, ground := Ground.phase }], guard := none }) (v := ?vc10) rfl (by kernel_rfl) (by kernel_rfl) (by kernel_rfl) (fun _ _ _ h => h) (Or.inl ⟨by rfl, ?hyc10⟩) hHeld ?_
  case hyc10 => (intro w hSw; (try dsimp only at hSw); go_simp; (try with_reducible rfl))
  try simp only [Act.put, List.setIfInBounds_toArray, List.set_cons_zero, List.set_cons_succ]
  refine wpAnyH_done (by kernel_rfl) ?_ _
  obtain ⟨r0, r1, r2⟩ := hXB
  clear hHeld
  go_wp2_with fail
  go_ret
  refine ⟨?_, (below_on hQ (.cells #[.string ⟨#[]⟩, .string ⟨#[105, 110]⟩, .string ⟨#[103, 108, 111, 98]⟩, .string ⟨#[114, 101, 103]⟩, .string ⟨#[99, 97, 114]⟩, .string ⟨#[99, 100, 114]⟩, .string ⟨#[99, 111, 108, 111, 117, 114]⟩] 9))⟩
  rw [HO.out]
  exact congrArg (fun x => Ending.returned (Value.string x)) (bytes3 [105, 110] s)
set_option maxHeartbeats 6400000 in
theorem refName_glob (a b c d x : Int) (m : Nat) (hr : Right a b c d) (hm : (m : Int) < 5 + b + d + b * c + 3 * a) (he : spotF b c d m = (2, x, 0)) (hx0 : 0 ≤ x) (hx1 : x ≤ 4096) (w : World) :
    Calls Tryd.prog 14 #[.agg #[.int .i64 a, .int .i64 b, .int .i64 c, .int .i64 d], .int .i64 m] w fun e w' => e = .returned (.string ⟨(nameOf (spotF b c d m)).toArray⟩) ∧ Below w.heap.size w w' := by
  have HA := Lib.hid (all_right a b c d hr)
  have HX := Lib.hid (BoxAt.new w a b c d 23)
  have HB := Lib.hid (below_new w (.cells #[.int .i64 a, .int .i64 b, .int .i64 c, .int .i64 d] 23))
  have HE := Lib.hid he
  have HO : Hid (nameOf (spotF b c d m) = [103, 108, 111, 98] ++ [32] ++ Lib.itoa x) := Lib.hid (by rw [he, ← nm_one]; rfl)
  have HD := Lib.hid (refDigits_c x hx0 hx1)
  have l1 := itoa_short4 x hx0 hx1
  generalize Lib.itoa x = s at *
  generalize nameOf (spotF b c d m) = R at HO
  have q0 : ∀ W, (Op.stringOp .add (⟨#[103, 108, 111, 98]⟩ : ByteArray) (⟨#[32]⟩ : ByteArray)).run Tryd.prog W = .ok (.string ((⟨#[103, 108, 111, 98]⟩ : ByteArray) ++ (⟨#[32]⟩ : ByteArray))) W := fun W => run_string_add_sum W _ _ (by decide)
  have q1 : ∀ W, (Op.stringOp .add ((⟨#[103, 108, 111, 98]⟩ : ByteArray) ++ (⟨#[32]⟩ : ByteArray)) (⟨s.toArray⟩ : ByteArray)).run Tryd.prog W = .ok (.string (((⟨#[103, 108, 111, 98]⟩ : ByteArray) ++ (⟨#[32]⟩ : ByteArray)) ++ (⟨s.toArray⟩ : ByteArray))) W := fun W => run_string_add_sum W _ _ (by simp only [ByteArray.size_append]; simp [ByteArray.size]; omega)
  clear hr he
  obtain ⟨x0, x1, x2, x3⟩ := HX.out
  go_enter Tryd.func14, Tryd.ntmps14
  go_wp2_with fail
  refine (HA.out _).mono ?_
  rintro e W ⟨g, cap, N, rfl, hN, hrow, hW⟩
  have hB1 := belowOn HB.out hW
  have hmN : m < N := by omega
  obtain ⟨c0, c1, c2⟩ := spot_cells hrow m hmN
  rw [HE.out] at c0 c1 c2
  obtain ⟨W2, hW2⟩ : ∃ W2, W2 = W.alloc (.cells #[.int .i64 2, .int .i64 x, .int .i64 0] 55) := ⟨_, rfl⟩
  have hB2 : Below w.heap.size w W2 := by rw [hW2]; exact below_on hB1 _
  have hT2 : TriAt W2 W.heap.size 2 x 0 := by rw [hW2]; exact TriAt.new _ _ _ _ _
  have hsz : W2.heap.size = W.heap.size + 1 := by rw [hW2]; simp
  have HB2 := Lib.hid hB2; have HT2 := Lib.hid hT2; have HW2 := Lib.hid hW2; have HZ := Lib.hid hsz
  clear hW hN hrow hB1 hB2 hT2 hW2 hsz
  go_wp2_with fail
  rw [← HW2.out]
  clear c0 c1 c2 x0 x1 x2 x3
  obtain ⟨t0, t1, t2⟩ := HT2.out
  have hlt := lt_of_cell t0
  go_wp2_with fail
  refine wp_region_held_drew (S := (fun w' => w'.cell? ⟨W.heap.size, 0, none⟩ = some (.int .i64 2) ∧ w'.cell? ⟨W.heap.size, 1, none⟩ = some (.int .i64 x) ∧ w'.cell? ⟨W.heap.size, 2, none⟩ = some (.int .i64 0))) (by kernel_rfl) ?_ (fun hHeld => ?_)
  · exact ⟨t0, t1, t2⟩
  refine wpAnyH_take (i := 1) (oi := { dst := some 31, op := Op.fieldAddr 55 (Operand.tmp 6) 0, type := 0, pos := "ref.go:99", after := #[], guard := none }) (v := ?vp1) rfl (by kernel_rfl) (by kernel_rfl) (by kernel_rfl) (fun _ _ _ h => h) (Or.inl ⟨by rfl, ?hyp1⟩) hHeld ?_
  case hyp1 => (intro w hSw; (try dsimp only at hSw); go_simp; (try with_reducible rfl))
  try simp only [Act.put, List.setIfInBounds_toArray, List.set_cons_zero, List.set_cons_succ]
  refine wpAnyH_take (i := 2) (oi := { dst := some 32, op := Op.load 3 (Operand.tmp 31), type := 3, pos := "ref.go:99", after := #[{ on := 1, ground := Ground.data }], guard := none }) (v := ?vp2) rfl (by kernel_rfl) (by kernel_rfl) (by kernel_rfl) (fun _ _ _ h => h) (Or.inl ⟨by rfl, ?hyp2⟩) hHeld ?_
  case hyp2 => (intro w hSw; (try dsimp only at hSw); go_simp; (try with_reducible rfl))
  try simp only [Act.put, List.setIfInBounds_toArray, List.set_cons_zero, List.set_cons_succ]
  refine wpAnyH_take (i := 6) (oi := { dst := some 36, op := Op.fieldAddr 55 (Operand.tmp 6) 1, type := 0, pos := "ref.go:99", after := #[], guard := none }) (v := ?vp6) rfl (by kernel_rfl) (by kernel_rfl) (by kernel_rfl) (fun _ _ _ h => h) (Or.inl ⟨by rfl, ?hyp6⟩) hHeld ?_
  case hyp6 => (intro w hSw; (try dsimp only at hSw); go_simp; (try with_reducible rfl))
  try simp only [Act.put, List.setIfInBounds_toArray, List.set_cons_zero, List.set_cons_succ]
  refine wpAnyH_take (i := 7) (oi := { dst := some 37, op := Op.load 3 (Operand.tmp 36), type := 3, pos := "ref.go:99", after := #[{ on := 6, ground := Ground.data }], guard := none }) (v := ?vp7) rfl (by kernel_rfl) (by kernel_rfl) (by kernel_rfl) (fun _ _ _ h => h) (Or.inl ⟨by rfl, ?hyp7⟩) hHeld ?_
  case hyp7 => (intro w hSw; (try dsimp only at hSw); go_simp; (try with_reducible rfl))
  try simp only [Act.put, List.setIfInBounds_toArray, List.set_cons_zero, List.set_cons_succ]
  clear t0 t1 t2
  refine wpAnyH_ready (rs := [0, 8]) (by kernel_rfl) (by simp) ?_
  refine AllReadyH.cons (o := { dst := some 30, op := Op.buildSlice 28 7 #[(0, Operand.const (Value.string { data := #[] })), (1, Operand.const (Value.string { data := #[105, 110] })), (2, Operand.const (Value.string { data := #[103, 108, 111, 98] })), (3, Operand.const (Value.string { data := #[114, 101, 103] })), (4, Operand.const (Value.string { data := #[99, 97, 114] })), (5, Operand.const (Value.string { data := #[99, 100, 114] })), (6, Operand.const (Value.string { data := #[99, 111, 108, 111, 117, 114] }))], type := 28, pos := "ref.go:99", after := #[], guard := none }) rfl (fun K hK => ?_) ?_
  · go_simp
    have hBA := (below_on HB2.out (.cells #[.string ⟨#[]⟩, .string ⟨#[105, 110]⟩, .string ⟨#[103, 108, 111, 98]⟩, .string ⟨#[114, 101, 103]⟩, .string ⟨#[99, 97, 114]⟩, .string ⟨#[99, 100, 114]⟩, .string ⟨#[99, 111, 108, 111, 117, 114]⟩] 9)).drew
    have hTA : TriAt (W2.alloc (.cells #[.string ⟨#[]⟩, .string ⟨#[105, 110]⟩, .string ⟨#[103, 108, 111, 98]⟩, .string ⟨#[114, 101, 103]⟩, .string ⟨#[99, 97, 114]⟩, .string ⟨#[99, 100, 114]⟩, .string ⟨#[99, 111, 108, 111, 117, 114]⟩] 9)).drew W.heap.size 2 x 0 := TriAt.below HT2.out (below_new W2 (.cells #[.string ⟨#[]⟩, .string ⟨#[105, 110]⟩, .string ⟨#[103, 108, 111, 98]⟩, .string ⟨#[114, 101, 103]⟩, .string ⟨#[99, 97, 114]⟩, .string ⟨#[99, 100, 114]⟩, .string ⟨#[99, 111, 108, 111, 117, 114]⟩] 9)).drew
    refine hK.out _ _ ?_ (fun hHeld => ?_)
    · exact hTA
    clear hK K
    try simp only [Act.put, List.setIfInBounds_toArray, List.set_cons_zero, List.set_cons_succ]
    refine wpAnyH_take (i := 3) (oi := { dst := some 33, op := Op.indexAddr 28 (Operand.tmp 30) (Operand.tmp 32), type := 0, pos := "ref.go:99", after := #[{ on := 0, ground := Ground.data }, { on := 2, ground := Ground.data }], guard := none }) (v := ?va3) rfl (by kernel_rfl) (by kernel_rfl) (by kernel_rfl) (fun _ _ _ h => h) (Or.inl ⟨by rfl, ?hya3⟩) hHeld ?_
    case hya3 => (intro w hSw; (try dsimp only at hSw); go_simp; (try with_reducible rfl))
    try simp only [Act.put, List.setIfInBounds_toArray, List.set_cons_zero, List.set_cons_succ]
    refine wpAnyH_ready (rs := [4, 8]) (by kernel_rfl) (by simp) ?_
    refine AllReadyH.cons (o := { dst := some 34, op := Op.load 9 (Operand.tmp 33), type := 9, pos := "ref.go:99", after := #[{ on := 3, ground := Ground.data }], guard := none }) rfl (fun K hK => ?_) ?_
    · go_simp
      refine hK.out _ _ ?_ (fun hHeld => ?_)
      · exact hTA
      clear hK K
      try simp only [Act.put, List.setIfInBounds_toArray, List.set_cons_zero, List.set_cons_succ]
      refine wpAnyH_take (i := 5) (oi := { dst := some 35, op := Op.binOp BinOp.add 9 (Operand.tmp 34) (Operand.const (Value.string { data := #[32] })) 9, type := 9, pos := "ref.go:99", after := #[{ on := 4, ground := Ground.data }], guard := none }) (v := ?va5) rfl (by kernel_rfl) (by kernel_rfl) (by kernel_rfl) (fun _ _ _ h => h) (Or.inl ⟨by rfl, ?hya5⟩) hHeld ?_
      case hya5 => (intro w hSw; (try dsimp only at hSw); go_simp; (try with_reducible rfl))
      try simp only [Act.put, List.setIfInBounds_toArray, List.set_cons_zero, List.set_cons_succ]
      refine wpAnyH_ready (rs := [8]) (by kernel_rfl) (by simp) ?_
      refine AllReadyH.cons (o := { dst := some 38, op := Op.call { callee := Callee.value (Operand.func 22), args := #[Operand.tmp 37], argTypes := #[3] }, type := 9, pos := "ref.go:99", after := #[{ on := 7, ground := Ground.data }], guard := none }) rfl (fun K hK => ?_) AllReadyH.nil
      go_simp
      refine (HD.out _).mono ?_
      rintro e v ⟨rfl, hV⟩
      have hX : TriAt v W.heap.size 2 x 0 := TriAt.below hTA hV
      have hQ := belowOn (w := w) hBA hV
      clear hV hHeld
      try go_wp2_with fail
      refine hK.out _ _ ?_ (fun hHeld => ?_)
      · exact hX
      clear hK K
      try simp only [Act.put, List.setIfInBounds_toArray, List.set_cons_zero, List.set_cons_succ]
      refine wpAnyH_take (i := 9) (oi := { dst := some 39, op := Op.binOp BinOp.add 9 (Operand.tmp 35) (Operand.tmp 38) 9, type := 9, pos := "ref.go:99", after := #[{ on := 5, ground := Ground.data }, { on := 8, ground := Ground.data }], guard := none }) (v := ?va9) rfl (by kernel_rfl) (by kernel_rfl) (by kernel_rfl) (fun _ _ _ h => h) (Or.inl ⟨by rfl, ?hya9⟩) hHeld ?_
      case hya9 => (intro w hSw; (try dsimp only at hSw); go_simp; (try with_reducible rfl))
      try simp only [Act.put, List.setIfInBounds_toArray, List.set_cons_zero, List.set_cons_succ]
      refine wpAnyH_take (i := 10) (oi := { dst := some 7, op := Op.assign (Operand.tmp 39), type := 9, pos := "ref.go:99", after := #[{ on := 9, ground := Ground.data }, { on := 8, ground := Ground.chain }, { on := 0, ground := Ground.phase }, { on := 1, ground := Ground.phase }, { on := 2, ground := Ground.phase }, { on := 3, ground := Ground.phase }, { on := 4, ground := Ground.phase }, { on := 5, ground := Ground.phase }, { on := 6, ground := Ground.phase }, { on := 7, ground := Ground.phase }, { on := 8, ground := Ground.phase }, { on := 9, ground := Ground.phase }], guard := none }) (v := ?va10) rfl (by kernel_rfl) (by kernel_rfl) (by kernel_rfl) (fun _ _ _ h => h) (Or.inl ⟨by rfl, ?hya10⟩) hHeld ?_
      case hya10 => (intro w hSw; (try dsimp only at hSw); go_simp; (try with_reducible rfl))
      try simp only [Act.put, List.setIfInBounds_toArray, List.set_cons_zero, List.set_cons_succ]
      refine wpAnyH_done (by kernel_rfl) ?_ _
      obtain ⟨r0, r1, r2⟩ := hX
      clear hHeld
      go_wp2_with fail
      go_ret
      refine ⟨?_, hQ⟩
      rw [HO.out]
      exact congrArg (fun x => Ending.returned (Value.string x)) (bytes3 [103, 108, 111, 98] s)
    refine AllReadyH.cons (o := { dst := some 38, op := Op.call { callee := Callee.value (Operand.func 22), args := #[Operand.tmp 37], argTypes := #[3] }, type := 9, pos := "ref.go:99", after := #[{ on := 7, ground := Ground.data }], guard := none }) rfl (fun K hK => ?_) AllReadyH.nil
    go_simp
    refine (HD.out _).mono ?_
    rintro e v ⟨rfl, hV⟩
    have hX : TriAt v W.heap.size 2 x 0 := TriAt.below hTA hV
    have hQ := belowOn (w := w) hBA hV
    have hC := (hV.cell (p := ⟨W2.heap.size, 2, none⟩) (by simp)).trans (World.cell?_alloc_new ..)
    clear hV hHeld
    try go_wp2_with fail
    refine hK.out _ _ ?_ (fun hHeld => ?_)
    · exact hX
    clear hK K
    try simp only [Act.put, List.setIfInBounds_toArray, List.set_cons_zero, List.set_cons_succ]
    refine wpAnyH_ready (rs := [4]) (by kernel_rfl) (by simp) ?_
    refine AllReadyH.cons (o := { dst := some 34, op := Op.load 9 (Operand.tmp 33), type := 9, pos := "ref.go:99", after := #[{ on := 3, ground := Ground.data }], guard := none }) rfl (fun K hK => ?_) AllReadyH.nil
    go_simp
    refine hK.out _ _ ?_ (fun hHeld => ?_)
    · exact hX
    clear hK K
    try simp only [Act.put, List.setIfInBounds_toArray, List.set_cons_zero, List.set_cons_succ]
    refine wpAnyH_take (i := 5) (oi := { dst := some 35, op := Op.binOp BinOp.add 9 (Operand.tmp 34) (Operand.const (Value.string { data := #[32] })) 9, type := 9, pos := "ref.go:99", after := #[{ on := 4, ground := Ground.data }], guard := none }) (v := ?vb5) rfl (by kernel_rfl) (by kernel_rfl) (by kernel_rfl) (fun _ _ _ h => h) (Or.inl ⟨by rfl, ?hyb5⟩) hHeld ?_
    case hyb5 => (intro w hSw; (try dsimp only at hSw); go_simp; (try with_reducible rfl))
    try simp only [Act.put, List.setIfInBounds_toArray, List.set_cons_zero, List.set_cons_succ]
    refine wpAnyH_take (i := 9) (oi := { dst := some 39, op := Op.binOp BinOp.add 9 (Operand.tmp 35) (Operand.tmp 38) 9, type := 9, pos := "ref.go:99", after := #[{ on := 5, ground := Ground.data }, { on := 8, ground := Ground.data }], guard := none }) (v := ?vb9) rfl (by kernel_rfl) (by kernel_rfl) (by kernel_rfl) (fun _ _ _ h => h) (Or.inl ⟨by rfl, ?hyb9⟩) hHeld ?_
    case hyb9 => (intro w hSw; (try dsimp only at hSw); go_simp; (try with_reducible rfl))
    try simp only [Act.put, List.setIfInBounds_toArray, List.set_cons_zero, List.set_cons_succ]
    refine wpAnyH_take (i := 10) (oi := { dst := some 7, op := Op.assign (Operand.tmp 39), type := 9, pos := "ref.go:99", after := #[{ on := 9, ground := Ground.data }, { on := 8, ground := Ground.chain }, { on := 0, ground := Ground.phase }, { on := 1, ground := Ground.phase }, { on := 2, ground := Ground.phase }, { on := 3, ground := Ground.phase }, { on := 4, ground := Ground.phase }, { on := 5, ground := Ground.phase }, { on := 6, ground := Ground.phase }, { on := 7, ground := Ground.phase }, { on := 8, ground := Ground.phase }, { on := 9, ground := Ground.phase }], guard := none }) (v := ?vb10) rfl (by kernel_rfl) (by kernel_rfl) (by kernel_rfl) (fun _ _ _ h => h) (Or.inl ⟨by rfl, ?hyb10⟩) hHeld ?_
    case hyb10 => (intro w hSw; (try dsimp only at hSw); go_simp; (try with_reducible rfl))
    try simp only [Act.put, List.setIfInBounds_toArray, List.set_cons_zero, List.set_cons_succ]
    refine wpAnyH_done (by kernel_rfl) ?_ _
    obtain ⟨r0, r1, r2⟩ := hX
    clear hHeld
    go_wp2_with fail
    go_ret
    refine ⟨?_, hQ⟩
    rw [HO.out]
    exact congrArg (fun x => Ending.returned (Value.string x)) (bytes3 [103, 108, 111, 98] s)
  refine AllReadyH.cons (o := { dst := some 38, op := Op.call { callee := Callee.value (Operand.func 22), args := #[Operand.tmp 37], argTypes := #[3] }, type := 9, pos := "ref.go:99", after := #[{ on := 7, ground := Ground.data }], guard := none }) rfl (fun K hK => ?_) AllReadyH.nil
  go_simp
  refine (HD.out _).mono ?_
  rintro e v ⟨rfl, hV⟩
  have hX : TriAt v W.heap.size 2 x 0 := TriAt.below (show TriAt W2.drew W.heap.size 2 x 0 from HT2.out) hV
  have hQ := belowOn (w := w) HB2.out.drew hV
  clear hV hHeld
  try go_wp2_with fail
  refine hK.out _ _ ?_ (fun hHeld => ?_)
  · exact hX
  clear hK K
  try simp only [Act.put, List.setIfInBounds_toArray, List.set_cons_zero, List.set_cons_succ]
  refine wpAnyH_ready (rs := [0]) (by kernel_rfl) (by simp) ?_
  refine AllReadyH.cons (o := { dst := some 30, op := Op.buildSlice 28 7 #[(0, Operand.const (Value.string { data := #[] })), (1, Operand.const (Value.string { data := #[105, 110] })), (2, Operand.const (Value.string { data := #[103, 108, 111, 98] })), (3, Operand.const (Value.string { data := #[114, 101, 103] })), (4, Operand.const (Value.string { data := #[99, 97, 114] })), (5, Operand.const (Value.string { data := #[99, 100, 114] })), (6, Operand.const (Value.string { data := #[99, 111, 108, 111, 117, 114] }))], type := 28, pos := "ref.go:99", after := #[], guard := none }) rfl (fun K hK => ?_) AllReadyH.nil
  go_simp
  have hXB : TriAt (v.alloc (.cells #[.string ⟨#[]⟩, .string ⟨#[105, 110]⟩, .string ⟨#[103, 108, 111, 98]⟩, .string ⟨#[114, 101, 103]⟩, .string ⟨#[99, 97, 114]⟩, .string ⟨#[99, 100, 114]⟩, .string ⟨#[99, 111, 108, 111, 117, 114]⟩] 9)) W.heap.size 2 x 0 := TriAt.below hX (below_new v (.cells #[.string ⟨#[]⟩, .string ⟨#[105, 110]⟩, .string ⟨#[103, 108, 111, 98]⟩, .string ⟨#[114, 101, 103]⟩, .string ⟨#[99, 97, 114]⟩, .string ⟨#[99, 100, 114]⟩, .string ⟨#[99, 111, 108, 111, 117, 114]⟩] 9))
  refine hK.out _ _ ?_ (fun hHeld => ?_)
  · exact hXB
  clear hK K
  try simp only [Act.put, List.setIfInBounds_toArray, List.set_cons_zero, List.set_cons_succ]
  refine wpAnyH_take (i := 3) (oi := { dst := some 33, op := Op.indexAddr 28 (Operand.tmp 30) (Operand.tmp 32), type := 0, pos := "ref.go:99", after := #[{ on := 0, ground := Ground.data }, { on := 2, ground := Ground.data }], guard := none }) (v := ?vc3) rfl (by kernel_rfl) (by kernel_rfl) (by kernel_rfl) (fun _ _ _ h => h) (Or.inl ⟨by rfl, ?hyc3⟩) hHeld ?_
  case hyc3 => (intro w hSw; (try dsimp only at hSw); go_simp; (try with_reducible rfl))
  try simp only [Act.put, List.setIfInBounds_toArray, List.set_cons_zero, List.set_cons_succ]
  refine wpAnyH_ready (rs := [4]) (by kernel_rfl) (by simp) ?_
  refine AllReadyH.cons (o := { dst := some 34, op := Op.load 9 (Operand.tmp 33), type := 9, pos := "ref.go:99", after := #[{ on := 3, ground := Ground.data }], guard := none }) rfl (fun K hK => ?_) AllReadyH.nil
  go_simp
  refine hK.out _ _ ?_ (fun hHeld => ?_)
  · exact hXB
  clear hK K
  try simp only [Act.put, List.setIfInBounds_toArray, List.set_cons_zero, List.set_cons_succ]
  refine wpAnyH_take (i := 5) (oi := { dst := some 35, op := Op.binOp BinOp.add 9 (Operand.tmp 34) (Operand.const (Value.string { data := #[32] })) 9, type := 9, pos := "ref.go:99", after := #[{ on := 4, ground := Ground.data }], guard := none }) (v := ?vc5) rfl (by kernel_rfl) (by kernel_rfl) (by kernel_rfl) (fun _ _ _ h => h) (Or.inl ⟨by rfl, ?hyc5⟩) hHeld ?_
  case hyc5 => (intro w hSw; (try dsimp only at hSw); go_simp; (try with_reducible rfl))
  try simp only [Act.put, List.setIfInBounds_toArray, List.set_cons_zero, List.set_cons_succ]
  refine wpAnyH_take (i := 9) (oi := { dst := some 39, op := Op.binOp BinOp.add 9 (Operand.tmp 35) (Operand.tmp 38) 9, type := 9, pos := "ref.go:99", after := #[{ on := 5, ground := Ground.data }, { on := 8, ground := Ground.data }], guard := none }) (v := ?vc9) rfl (by kernel_rfl) (by kernel_rfl) (by kernel_rfl) (fun _ _ _ h => h) (Or.inl ⟨by rfl, ?hyc9⟩) hHeld ?_
  case hyc9 => (intro w hSw; (try dsimp only at hSw); go_simp; (try with_reducible rfl))
  try simp only [Act.put, List.setIfInBounds_toArray, List.set_cons_zero, List.set_cons_succ]
  refine wpAnyH_take (i := 10) (oi := { dst := some 7, op := Op.assign (Operand.tmp 39), type := 9, pos := "ref.go:99", after := #[{ on := 9, ground := Ground.data }, { on := 8, ground := Ground.chain }, { on := 0, ground := Ground.phase }, { on := 1, ground := Ground.phase }, { on := 2, ground := Ground.phase }, { on := 3, ground := Ground.phase }, { on := 4, ground := Ground.phase }, { on := 5, ground := Ground.phase }, { on := 6, ground := Ground.phase }, { on := 7, ground := Ground.phase }, { on := 8, ground := Ground.phase }, { on := 9, ground := Ground.phase }], guard := none }) (v := ?vc10) rfl (by kernel_rfl) (by kernel_rfl) (by kernel_rfl) (fun _ _ _ h => h) (Or.inl ⟨by rfl, ?hyc10⟩) hHeld ?_
  case hyc10 => (intro w hSw; (try dsimp only at hSw); go_simp; (try with_reducible rfl))
  try simp only [Act.put, List.setIfInBounds_toArray, List.set_cons_zero, List.set_cons_succ]
  refine wpAnyH_done (by kernel_rfl) ?_ _
  obtain ⟨r0, r1, r2⟩ := hXB
  clear hHeld
  go_wp2_with fail
  go_ret
  refine ⟨?_, (below_on hQ (.cells #[.string ⟨#[]⟩, .string ⟨#[105, 110]⟩, .string ⟨#[103, 108, 111, 98]⟩, .string ⟨#[114, 101, 103]⟩, .string ⟨#[99, 97, 114]⟩, .string ⟨#[99, 100, 114]⟩, .string ⟨#[99, 111, 108, 111, 117, 114]⟩] 9))⟩
  rw [HO.out]
  exact congrArg (fun x => Ending.returned (Value.string x)) (bytes3 [103, 108, 111, 98] s)
set_option maxHeartbeats 6400000 in
theorem refName_reg (a b c d x y : Int) (m : Nat) (hr : Right a b c d) (hm : (m : Int) < 5 + b + d + b * c + 3 * a) (he : spotF b c d m = (3, x, y)) (hx0 : 0 ≤ x) (hx1 : x ≤ 4096) (hy0 : 0 ≤ y) (hy1 : y ≤ 4096) (w : World) :
    Calls Tryd.prog 14 #[.agg #[.int .i64 a, .int .i64 b, .int .i64 c, .int .i64 d], .int .i64 m] w fun e w' => e = .returned (.string ⟨(nameOf (spotF b c d m)).toArray⟩) ∧ Below w.heap.size w w' := by
  have HA := Lib.hid (all_right a b c d hr)
  have HX := Lib.hid (BoxAt.new w a b c d 23)
  have HB := Lib.hid (below_new w (.cells #[.int .i64 a, .int .i64 b, .int .i64 c, .int .i64 d] 23))
  have HE := Lib.hid he
  have HO : Hid (nameOf (spotF b c d m) = [114, 101, 103] ++ [32] ++ Lib.itoa x ++ [32] ++ Lib.itoa y) := Lib.hid (by rw [he, ← nm_two]; rfl)
  have HD := Lib.hid (refDigits_c x hx0 hx1)
  have l1 := itoa_short4 x hx0 hx1
  have HD2 := Lib.hid (refDigits_c y hy0 hy1)
  have l2 := itoa_short4 y hy0 hy1
  generalize Lib.itoa y = u at *
  generalize Lib.itoa x = s at *
  generalize nameOf (spotF b c d m) = R at HO
  have q0 : ∀ W, (Op.stringOp .add (⟨#[114, 101, 103]⟩ : ByteArray) (⟨#[32]⟩ : ByteArray)).run Tryd.prog W = .ok (.string ((⟨#[114, 101, 103]⟩ : ByteArray) ++ (⟨#[32]⟩ : ByteArray))) W := fun W => run_string_add_sum W _ _ (by decide)
  have q1 : ∀ W, (Op.stringOp .add ((⟨#[114, 101, 103]⟩ : ByteArray) ++ (⟨#[32]⟩ : ByteArray)) (⟨s.toArray⟩ : ByteArray)).run Tryd.prog W = .ok (.string (((⟨#[114, 101, 103]⟩ : ByteArray) ++ (⟨#[32]⟩ : ByteArray)) ++ (⟨s.toArray⟩ : ByteArray))) W := fun W => run_string_add_sum W _ _ (by simp only [ByteArray.size_append]; simp [ByteArray.size]; omega)
  have q2 : ∀ W, (Op.stringOp .add (((⟨#[114, 101, 103]⟩ : ByteArray) ++ (⟨#[32]⟩ : ByteArray)) ++ (⟨s.toArray⟩ : ByteArray)) (⟨#[32]⟩ : ByteArray)).run Tryd.prog W = .ok (.string ((((⟨#[114, 101, 103]⟩ : ByteArray) ++ (⟨#[32]⟩ : ByteArray)) ++ (⟨s.toArray⟩ : ByteArray)) ++ (⟨#[32]⟩ : ByteArray))) W := fun W => run_string_add_sum W _ _ (by simp only [ByteArray.size_append]; simp [ByteArray.size]; omega)
  have q3 : ∀ W, (Op.stringOp .add ((((⟨#[114, 101, 103]⟩ : ByteArray) ++ (⟨#[32]⟩ : ByteArray)) ++ (⟨s.toArray⟩ : ByteArray)) ++ (⟨#[32]⟩ : ByteArray)) (⟨u.toArray⟩ : ByteArray)).run Tryd.prog W = .ok (.string (((((⟨#[114, 101, 103]⟩ : ByteArray) ++ (⟨#[32]⟩ : ByteArray)) ++ (⟨s.toArray⟩ : ByteArray)) ++ (⟨#[32]⟩ : ByteArray)) ++ (⟨u.toArray⟩ : ByteArray))) W := fun W => run_string_add_sum W _ _ (by simp only [ByteArray.size_append]; simp [ByteArray.size]; omega)
  clear hr he
  obtain ⟨x0, x1, x2, x3⟩ := HX.out
  go_enter Tryd.func14, Tryd.ntmps14
  go_wp2_with fail
  refine (HA.out _).mono ?_
  rintro e W ⟨g, cap, N, rfl, hN, hrow, hW⟩
  have hB1 := belowOn HB.out hW
  have hmN : m < N := by omega
  obtain ⟨c0, c1, c2⟩ := spot_cells hrow m hmN
  rw [HE.out] at c0 c1 c2
  obtain ⟨W2, hW2⟩ : ∃ W2, W2 = W.alloc (.cells #[.int .i64 3, .int .i64 x, .int .i64 y] 55) := ⟨_, rfl⟩
  have hB2 : Below w.heap.size w W2 := by rw [hW2]; exact below_on hB1 _
  have hT2 : TriAt W2 W.heap.size 3 x y := by rw [hW2]; exact TriAt.new _ _ _ _ _
  have hsz : W2.heap.size = W.heap.size + 1 := by rw [hW2]; simp
  have HB2 := Lib.hid hB2; have HT2 := Lib.hid hT2; have HW2 := Lib.hid hW2; have HZ := Lib.hid hsz
  clear hW hN hrow hB1 hB2 hT2 hW2 hsz
  go_wp2_with fail
  rw [← HW2.out]
  clear c0 c1 c2 x0 x1 x2 x3
  obtain ⟨t0, t1, t2⟩ := HT2.out
  have hlt := lt_of_cell t0
  go_wp2_with fail
  refine wp_region_held_drew (S := (fun w' => w'.cell? ⟨W.heap.size, 0, none⟩ = some (.int .i64 3) ∧ w'.cell? ⟨W.heap.size, 1, none⟩ = some (.int .i64 x) ∧ w'.cell? ⟨W.heap.size, 2, none⟩ = some (.int .i64 y))) (by kernel_rfl) ?_ (fun hHeld => ?_)
  · exact ⟨t0, t1, t2⟩
  refine wpAnyH_take (i := 1) (oi := { dst := some 31, op := Op.fieldAddr 55 (Operand.tmp 6) 0, type := 0, pos := "ref.go:99", after := #[], guard := none }) (v := ?vp1) rfl (by kernel_rfl) (by kernel_rfl) (by kernel_rfl) (fun _ _ _ h => h) (Or.inl ⟨by rfl, ?hyp1⟩) hHeld ?_
  case hyp1 => (intro w hSw; (try dsimp only at hSw); go_simp; (try with_reducible rfl))
  try simp only [Act.put, List.setIfInBounds_toArray, List.set_cons_zero, List.set_cons_succ]
  refine wpAnyH_take (i := 2) (oi := { dst := some 32, op := Op.load 3 (Operand.tmp 31), type := 3, pos := "ref.go:99", after := #[{ on := 1, ground := Ground.data }], guard := none }) (v := ?vp2) rfl (by kernel_rfl) (by kernel_rfl) (by kernel_rfl) (fun _ _ _ h => h) (Or.inl ⟨by rfl, ?hyp2⟩) hHeld ?_
  case hyp2 => (intro w hSw; (try dsimp only at hSw); go_simp; (try with_reducible rfl))
  try simp only [Act.put, List.setIfInBounds_toArray, List.set_cons_zero, List.set_cons_succ]
  refine wpAnyH_take (i := 6) (oi := { dst := some 36, op := Op.fieldAddr 55 (Operand.tmp 6) 1, type := 0, pos := "ref.go:99", after := #[], guard := none }) (v := ?vp6) rfl (by kernel_rfl) (by kernel_rfl) (by kernel_rfl) (fun _ _ _ h => h) (Or.inl ⟨by rfl, ?hyp6⟩) hHeld ?_
  case hyp6 => (intro w hSw; (try dsimp only at hSw); go_simp; (try with_reducible rfl))
  try simp only [Act.put, List.setIfInBounds_toArray, List.set_cons_zero, List.set_cons_succ]
  refine wpAnyH_take (i := 7) (oi := { dst := some 37, op := Op.load 3 (Operand.tmp 36), type := 3, pos := "ref.go:99", after := #[{ on := 6, ground := Ground.data }], guard := none }) (v := ?vp7) rfl (by kernel_rfl) (by kernel_rfl) (by kernel_rfl) (fun _ _ _ h => h) (Or.inl ⟨by rfl, ?hyp7⟩) hHeld ?_
  case hyp7 => (intro w hSw; (try dsimp only at hSw); go_simp; (try with_reducible rfl))
  try simp only [Act.put, List.setIfInBounds_toArray, List.set_cons_zero, List.set_cons_succ]
  clear t0 t1 t2
  refine wpAnyH_ready (rs := [0, 8]) (by kernel_rfl) (by simp) ?_
  refine AllReadyH.cons (o := { dst := some 30, op := Op.buildSlice 28 7 #[(0, Operand.const (Value.string { data := #[] })), (1, Operand.const (Value.string { data := #[105, 110] })), (2, Operand.const (Value.string { data := #[103, 108, 111, 98] })), (3, Operand.const (Value.string { data := #[114, 101, 103] })), (4, Operand.const (Value.string { data := #[99, 97, 114] })), (5, Operand.const (Value.string { data := #[99, 100, 114] })), (6, Operand.const (Value.string { data := #[99, 111, 108, 111, 117, 114] }))], type := 28, pos := "ref.go:99", after := #[], guard := none }) rfl (fun K hK => ?_) ?_
  · go_simp
    have hBA := (below_on HB2.out (.cells #[.string ⟨#[]⟩, .string ⟨#[105, 110]⟩, .string ⟨#[103, 108, 111, 98]⟩, .string ⟨#[114, 101, 103]⟩, .string ⟨#[99, 97, 114]⟩, .string ⟨#[99, 100, 114]⟩, .string ⟨#[99, 111, 108, 111, 117, 114]⟩] 9)).drew
    have hTA : TriAt (W2.alloc (.cells #[.string ⟨#[]⟩, .string ⟨#[105, 110]⟩, .string ⟨#[103, 108, 111, 98]⟩, .string ⟨#[114, 101, 103]⟩, .string ⟨#[99, 97, 114]⟩, .string ⟨#[99, 100, 114]⟩, .string ⟨#[99, 111, 108, 111, 117, 114]⟩] 9)).drew W.heap.size 3 x y := TriAt.below HT2.out (below_new W2 (.cells #[.string ⟨#[]⟩, .string ⟨#[105, 110]⟩, .string ⟨#[103, 108, 111, 98]⟩, .string ⟨#[114, 101, 103]⟩, .string ⟨#[99, 97, 114]⟩, .string ⟨#[99, 100, 114]⟩, .string ⟨#[99, 111, 108, 111, 117, 114]⟩] 9)).drew
    refine hK.out _ _ ?_ (fun hHeld => ?_)
    · exact hTA
    clear hK K
    try simp only [Act.put, List.setIfInBounds_toArray, List.set_cons_zero, List.set_cons_succ]
    refine wpAnyH_take (i := 3) (oi := { dst := some 33, op := Op.indexAddr 28 (Operand.tmp 30) (Operand.tmp 32), type := 0, pos := "ref.go:99", after := #[{ on := 0, ground := Ground.data }, { on := 2, ground := Ground.data }], guard := none }) (v := ?va3) rfl (by kernel_rfl) (by kernel_rfl) (by kernel_rfl) (fun _ _ _ h => h) (Or.inl ⟨by rfl, ?hya3⟩) hHeld ?_
    case hya3 => (intro w hSw; (try dsimp only at hSw); go_simp; (try with_reducible rfl))
    try simp only [Act.put, List.setIfInBounds_toArray, List.set_cons_zero, List.set_cons_succ]
    refine wpAnyH_ready (rs := [4, 8]) (by kernel_rfl) (by simp) ?_
    refine AllReadyH.cons (o := { dst := some 34, op := Op.load 9 (Operand.tmp 33), type := 9, pos := "ref.go:99", after := #[{ on := 3, ground := Ground.data }], guard := none }) rfl (fun K hK => ?_) ?_
    · go_simp
      refine hK.out _ _ ?_ (fun hHeld => ?_)
      · exact hTA
      clear hK K
      try simp only [Act.put, List.setIfInBounds_toArray, List.set_cons_zero, List.set_cons_succ]
      refine wpAnyH_take (i := 5) (oi := { dst := some 35, op := Op.binOp BinOp.add 9 (Operand.tmp 34) (Operand.const (Value.string { data := #[32] })) 9, type := 9, pos := "ref.go:99", after := #[{ on := 4, ground := Ground.data }], guard := none }) (v := ?va5) rfl (by kernel_rfl) (by kernel_rfl) (by kernel_rfl) (fun _ _ _ h => h) (Or.inl ⟨by rfl, ?hya5⟩) hHeld ?_
      case hya5 => (intro w hSw; (try dsimp only at hSw); go_simp; (try with_reducible rfl))
      try simp only [Act.put, List.setIfInBounds_toArray, List.set_cons_zero, List.set_cons_succ]
      refine wpAnyH_ready (rs := [8]) (by kernel_rfl) (by simp) ?_
      refine AllReadyH.cons (o := { dst := some 38, op := Op.call { callee := Callee.value (Operand.func 22), args := #[Operand.tmp 37], argTypes := #[3] }, type := 9, pos := "ref.go:99", after := #[{ on := 7, ground := Ground.data }], guard := none }) rfl (fun K hK => ?_) AllReadyH.nil
      go_simp
      refine (HD.out _).mono ?_
      rintro e v ⟨rfl, hV⟩
      have hX : TriAt v W.heap.size 3 x y := TriAt.below hTA hV
      have hQ := belowOn (w := w) hBA hV
      clear hV hHeld
      try go_wp2_with fail
      refine hK.out _ _ ?_ (fun hHeld => ?_)
      · exact hX
      clear hK K
      try simp only [Act.put, List.setIfInBounds_toArray, List.set_cons_zero, List.set_cons_succ]
      refine wpAnyH_take (i := 9) (oi := { dst := some 39, op := Op.binOp BinOp.add 9 (Operand.tmp 35) (Operand.tmp 38) 9, type := 9, pos := "ref.go:99", after := #[{ on := 5, ground := Ground.data }, { on := 8, ground := Ground.data }], guard := none }) (v := ?va9) rfl (by kernel_rfl) (by kernel_rfl) (by kernel_rfl) (fun _ _ _ h => h) (Or.inl ⟨by rfl, ?hya9⟩) hHeld ?_
      case hya9 => (intro w hSw; (try dsimp only at hSw); go_simp; (try with_reducible rfl))
      try simp only [Act.put, List.setIfInBounds_toArray, List.set_cons_zero, List.set_cons_succ]
      refine wpAnyH_take (i := 10) (oi := { dst := some 7, op := Op.assign (Operand.tmp 39), type := 9, pos := "ref.go:99", after := #[{ on := 9, ground := Ground.data }, { on := 8, ground := Ground.chain }, { on := 0, ground := Ground.phase }, { on := 1, ground := Ground.phase }, { on := 2, ground := Ground.phase }, { on := 3, ground := Ground.phase }, { on := 4, ground := Ground.phase }, { on := 5, ground := Ground.phase }, { on := 6, ground := Ground.phase }, { on := 7, ground := Ground.phase }, { on := 8, ground := Ground.phase }, { on := 9, ground := Ground.phase }], guard := none }) (v := ?va10) rfl (by kernel_rfl) (by kernel_rfl) (by kernel_rfl) (fun _ _ _ h => h) (Or.inl ⟨by rfl, ?hya10⟩) hHeld ?_
      case hya10 => (intro w hSw; (try dsimp only at hSw); go_simp; (try with_reducible rfl))
      try simp only [Act.put, List.setIfInBounds_toArray, List.set_cons_zero, List.set_cons_succ]
      refine wpAnyH_done (by kernel_rfl) ?_ _
      obtain ⟨r0, r1, r2⟩ := hX
      clear hHeld
      go_wp2_with fail
      refine (HD2.out _).mono ?_
      rintro e V ⟨rfl, hV⟩
      have hF := belowOn (w := w) hQ hV
      clear hV
      go_wp2_with fail
      go_ret
      refine ⟨?_, hF⟩
      rw [HO.out]
      exact congrArg (fun x => Ending.returned (Value.string x)) (bytes5 [114, 101, 103] s u)
    refine AllReadyH.cons (o := { dst := some 38, op := Op.call { callee := Callee.value (Operand.func 22), args := #[Operand.tmp 37], argTypes := #[3] }, type := 9, pos := "ref.go:99", after := #[{ on := 7, ground := Ground.data }], guard := none }) rfl (fun K hK => ?_) AllReadyH.nil
    go_simp
    refine (HD.out _).mono ?_
    rintro e v ⟨rfl, hV⟩
    have hX : TriAt v W.heap.size 3 x y := TriAt.below hTA hV
    have hQ := belowOn (w := w) hBA hV
    have hC := (hV.cell (p := ⟨W2.heap.size, 3, none⟩) (by simp)).trans (World.cell?_alloc_new ..)
    clear hV hHeld
    try go_wp2_with fail
    refine hK.out _ _ ?_ (fun hHeld => ?_)
    · exact hX
    clear hK K
    try simp only [Act.put, List.setIfInBounds_toArray, List.set_cons_zero, List.set_cons_succ]
    refine wpAnyH_ready (rs := [4]) (by kernel_rfl) (by simp) ?_
    refine AllReadyH.cons (o := { dst := some 34, op := Op.load 9 (Operand.tmp 33), type := 9, pos := "ref.go:99", after := #[{ on := 3, ground := Ground.data }], guard := none }) rfl (fun K hK => ?_) AllReadyH.nil
    go_simp
    refine hK.out _ _ ?_ (fun hHeld => ?_)
    · exact hX
    clear hK K
    try simp only [Act.put, List.setIfInBounds_toArray, List.set_cons_zero, List.set_cons_succ]
    refine wpAnyH_take (i := 5) (oi := { dst := some 35, op := Op.binOp BinOp.add 9 (Operand.tmp 34) (Operand.const (Value.string { data := #[32] })) 9, type := 9, pos := "ref.go:99", after := #[{ on := 4, ground := Ground.data }], guard := none }) (v := ?vb5) rfl (by kernel_rfl) (by kernel_rfl) (by kernel_rfl) (fun _ _ _ h => h) (Or.inl ⟨by rfl, ?hyb5⟩) hHeld ?_
    case hyb5 => (intro w hSw; (try dsimp only at hSw); go_simp; (try with_reducible rfl))
    try simp only [Act.put, List.setIfInBounds_toArray, List.set_cons_zero, List.set_cons_succ]
    refine wpAnyH_take (i := 9) (oi := { dst := some 39, op := Op.binOp BinOp.add 9 (Operand.tmp 35) (Operand.tmp 38) 9, type := 9, pos := "ref.go:99", after := #[{ on := 5, ground := Ground.data }, { on := 8, ground := Ground.data }], guard := none }) (v := ?vb9) rfl (by kernel_rfl) (by kernel_rfl) (by kernel_rfl) (fun _ _ _ h => h) (Or.inl ⟨by rfl, ?hyb9⟩) hHeld ?_
    case hyb9 => (intro w hSw; (try dsimp only at hSw); go_simp; (try with_reducible rfl))
    try simp only [Act.put, List.setIfInBounds_toArray, List.set_cons_zero, List.set_cons_succ]
    refine wpAnyH_take (i := 10) (oi := { dst := some 7, op := Op.assign (Operand.tmp 39), type := 9, pos := "ref.go:99", after := #[{ on := 9, ground := Ground.data }, { on := 8, ground := Ground.chain }, { on := 0, ground := Ground.phase }, { on := 1, ground := Ground.phase }, { on := 2, ground := Ground.phase }, { on := 3, ground := Ground.phase }, { on := 4, ground := Ground.phase }, { on := 5, ground := Ground.phase }, { on := 6, ground := Ground.phase }, { on := 7, ground := Ground.phase }, { on := 8, ground := Ground.phase }, { on := 9, ground := Ground.phase }], guard := none }) (v := ?vb10) rfl (by kernel_rfl) (by kernel_rfl) (by kernel_rfl) (fun _ _ _ h => h) (Or.inl ⟨by rfl, ?hyb10⟩) hHeld ?_
    case hyb10 => (intro w hSw; (try dsimp only at hSw); go_simp; (try with_reducible rfl))
    try simp only [Act.put, List.setIfInBounds_toArray, List.set_cons_zero, List.set_cons_succ]
    refine wpAnyH_done (by kernel_rfl) ?_ _
    obtain ⟨r0, r1, r2⟩ := hX
    clear hHeld
    go_wp2_with fail
    refine (HD2.out _).mono ?_
    rintro e V ⟨rfl, hV⟩
    have hF := belowOn (w := w) hQ hV
    clear hV
    go_wp2_with fail
    go_ret
    refine ⟨?_, hF⟩
    rw [HO.out]
    exact congrArg (fun x => Ending.returned (Value.string x)) (bytes5 [114, 101, 103] s u)
  refine AllReadyH.cons (o := { dst := some 38, op := Op.call { callee := Callee.value (Operand.func 22), args := #[Operand.tmp 37], argTypes := #[3] }, type := 9, pos := "ref.go:99", after := #[{ on := 7, ground := Ground.data }], guard := none }) rfl (fun K hK => ?_) AllReadyH.nil
  go_simp
  refine (HD.out _).mono ?_
  rintro e v ⟨rfl, hV⟩
  have hX : TriAt v W.heap.size 3 x y := TriAt.below (show TriAt W2.drew W.heap.size 3 x y from HT2.out) hV
  have hQ := belowOn (w := w) HB2.out.drew hV
  clear hV hHeld
  try go_wp2_with fail
  refine hK.out _ _ ?_ (fun hHeld => ?_)
  · exact hX
  clear hK K
  try simp only [Act.put, List.setIfInBounds_toArray, List.set_cons_zero, List.set_cons_succ]
  refine wpAnyH_ready (rs := [0]) (by kernel_rfl) (by simp) ?_
  refine AllReadyH.cons (o := { dst := some 30, op := Op.buildSlice 28 7 #[(0, Operand.const (Value.string { data := #[] })), (1, Operand.const (Value.string { data := #[105, 110] })), (2, Operand.const (Value.string { data := #[103, 108, 111, 98] })), (3, Operand.const (Value.string { data := #[114, 101, 103] })), (4, Operand.const (Value.string { data := #[99, 97, 114] })), (5, Operand.const (Value.string { data := #[99, 100, 114] })), (6, Operand.const (Value.string { data := #[99, 111, 108, 111, 117, 114] }))], type := 28, pos := "ref.go:99", after := #[], guard := none }) rfl (fun K hK => ?_) AllReadyH.nil
  go_simp
  have hXB : TriAt (v.alloc (.cells #[.string ⟨#[]⟩, .string ⟨#[105, 110]⟩, .string ⟨#[103, 108, 111, 98]⟩, .string ⟨#[114, 101, 103]⟩, .string ⟨#[99, 97, 114]⟩, .string ⟨#[99, 100, 114]⟩, .string ⟨#[99, 111, 108, 111, 117, 114]⟩] 9)) W.heap.size 3 x y := TriAt.below hX (below_new v (.cells #[.string ⟨#[]⟩, .string ⟨#[105, 110]⟩, .string ⟨#[103, 108, 111, 98]⟩, .string ⟨#[114, 101, 103]⟩, .string ⟨#[99, 97, 114]⟩, .string ⟨#[99, 100, 114]⟩, .string ⟨#[99, 111, 108, 111, 117, 114]⟩] 9))
  refine hK.out _ _ ?_ (fun hHeld => ?_)
  · exact hXB
  clear hK K
  try simp only [Act.put, List.setIfInBounds_toArray, List.set_cons_zero, List.set_cons_succ]
  refine wpAnyH_take (i := 3) (oi := { dst := some 33, op := Op.indexAddr 28 (Operand.tmp 30) (Operand.tmp 32), type := 0, pos := "ref.go:99", after := #[{ on := 0, ground := Ground.data }, { on := 2, ground := Ground.data }], guard := none }) (v := ?vc3) rfl (by kernel_rfl) (by kernel_rfl) (by kernel_rfl) (fun _ _ _ h => h) (Or.inl ⟨by rfl, ?hyc3⟩) hHeld ?_
  case hyc3 => (intro w hSw; (try dsimp only at hSw); go_simp; (try with_reducible rfl))
  try simp only [Act.put, List.setIfInBounds_toArray, List.set_cons_zero, List.set_cons_succ]
  refine wpAnyH_ready (rs := [4]) (by kernel_rfl) (by simp) ?_
  refine AllReadyH.cons (o := { dst := some 34, op := Op.load 9 (Operand.tmp 33), type := 9, pos := "ref.go:99", after := #[{ on := 3, ground := Ground.data }], guard := none }) rfl (fun K hK => ?_) AllReadyH.nil
  go_simp
  refine hK.out _ _ ?_ (fun hHeld => ?_)
  · exact hXB
  clear hK K
  try simp only [Act.put, List.setIfInBounds_toArray, List.set_cons_zero, List.set_cons_succ]
  refine wpAnyH_take (i := 5) (oi := { dst := some 35, op := Op.binOp BinOp.add 9 (Operand.tmp 34) (Operand.const (Value.string { data := #[32] })) 9, type := 9, pos := "ref.go:99", after := #[{ on := 4, ground := Ground.data }], guard := none }) (v := ?vc5) rfl (by kernel_rfl) (by kernel_rfl) (by kernel_rfl) (fun _ _ _ h => h) (Or.inl ⟨by rfl, ?hyc5⟩) hHeld ?_
  case hyc5 => (intro w hSw; (try dsimp only at hSw); go_simp; (try with_reducible rfl))
  try simp only [Act.put, List.setIfInBounds_toArray, List.set_cons_zero, List.set_cons_succ]
  refine wpAnyH_take (i := 9) (oi := { dst := some 39, op := Op.binOp BinOp.add 9 (Operand.tmp 35) (Operand.tmp 38) 9, type := 9, pos := "ref.go:99", after := #[{ on := 5, ground := Ground.data }, { on := 8, ground := Ground.data }], guard := none }) (v := ?vc9) rfl (by kernel_rfl) (by kernel_rfl) (by kernel_rfl) (fun _ _ _ h => h) (Or.inl ⟨by rfl, ?hyc9⟩) hHeld ?_
  case hyc9 => (intro w hSw; (try dsimp only at hSw); go_simp; (try with_reducible rfl))
  try simp only [Act.put, List.setIfInBounds_toArray, List.set_cons_zero, List.set_cons_succ]
  refine wpAnyH_take (i := 10) (oi := { dst := some 7, op := Op.assign (Operand.tmp 39), type := 9, pos := "ref.go:99", after := #[{ on := 9, ground := Ground.data }, { on := 8, ground := Ground.chain }, { on := 0, ground := Ground.phase }, { on := 1, ground := Ground.phase }, { on := 2, ground := Ground.phase }, { on := 3, ground := Ground.phase }, { on := 4, ground := Ground.phase }, { on := 5, ground := Ground.phase }, { on := 6, ground := Ground.phase }, { on := 7, ground := Ground.phase }, { on := 8, ground := Ground.phase }, { on := 9, ground := Ground.phase }], guard := none }) (v := ?vc10) rfl (by kernel_rfl) (by kernel_rfl) (by kernel_rfl) (fun _ _ _ h => h) (Or.inl ⟨by rfl, ?hyc10⟩) hHeld ?_
  case hyc10 => (intro w hSw; (try dsimp only at hSw); go_simp; (try with_reducible rfl))
  try simp only [Act.put, List.setIfInBounds_toArray, List.set_cons_zero, List.set_cons_succ]
  refine wpAnyH_done (by kernel_rfl) ?_ _
  obtain ⟨r0, r1, r2⟩ := hXB
  clear hHeld
  go_wp2_with fail
  refine (HD2.out _).mono ?_
  rintro e V ⟨rfl, hV⟩
  have hF := belowOn (w := w) (below_on hQ (.cells #[.string ⟨#[]⟩, .string ⟨#[105, 110]⟩, .string ⟨#[103, 108, 111, 98]⟩, .string ⟨#[114, 101, 103]⟩, .string ⟨#[99, 97, 114]⟩, .string ⟨#[99, 100, 114]⟩, .string ⟨#[99, 111, 108, 111, 117, 114]⟩] 9)) hV
  clear hV
  go_wp2_with fail
  go_ret
  refine ⟨?_, hF⟩
  rw [HO.out]
  exact congrArg (fun x => Ending.returned (Value.string x)) (bytes5 [114, 101, 103] s u)
set_option maxHeartbeats 6400000 in
theorem refName_car (a b c d x : Int) (m : Nat) (hr : Right a b c d) (hm : (m : Int) < 5 + b + d + b * c + 3 * a) (he : spotF b c d m = (4, x, 0)) (hx0 : 0 ≤ x) (hx1 : x ≤ 4096) (w : World) :
    Calls Tryd.prog 14 #[.agg #[.int .i64 a, .int .i64 b, .int .i64 c, .int .i64 d], .int .i64 m] w fun e w' => e = .returned (.string ⟨(nameOf (spotF b c d m)).toArray⟩) ∧ Below w.heap.size w w' := by
  have HA := Lib.hid (all_right a b c d hr)
  have HX := Lib.hid (BoxAt.new w a b c d 23)
  have HB := Lib.hid (below_new w (.cells #[.int .i64 a, .int .i64 b, .int .i64 c, .int .i64 d] 23))
  have HE := Lib.hid he
  have HO : Hid (nameOf (spotF b c d m) = [99, 97, 114] ++ [32] ++ Lib.itoa x) := Lib.hid (by rw [he, ← nm_one]; rfl)
  have HD := Lib.hid (refDigits_c x hx0 hx1)
  have l1 := itoa_short4 x hx0 hx1
  generalize Lib.itoa x = s at *
  generalize nameOf (spotF b c d m) = R at HO
  have q0 : ∀ W, (Op.stringOp .add (⟨#[99, 97, 114]⟩ : ByteArray) (⟨#[32]⟩ : ByteArray)).run Tryd.prog W = .ok (.string ((⟨#[99, 97, 114]⟩ : ByteArray) ++ (⟨#[32]⟩ : ByteArray))) W := fun W => run_string_add_sum W _ _ (by decide)
  have q1 : ∀ W, (Op.stringOp .add ((⟨#[99, 97, 114]⟩ : ByteArray) ++ (⟨#[32]⟩ : ByteArray)) (⟨s.toArray⟩ : ByteArray)).run Tryd.prog W = .ok (.string (((⟨#[99, 97, 114]⟩ : ByteArray) ++ (⟨#[32]⟩ : ByteArray)) ++ (⟨s.toArray⟩ : ByteArray))) W := fun W => run_string_add_sum W _ _ (by simp only [ByteArray.size_append]; simp [ByteArray.size]; omega)
  clear hr he
  obtain ⟨x0, x1, x2, x3⟩ := HX.out
  go_enter Tryd.func14, Tryd.ntmps14
  go_wp2_with fail
  refine (HA.out _).mono ?_
  rintro e W ⟨g, cap, N, rfl, hN, hrow, hW⟩
  have hB1 := belowOn HB.out hW
  have hmN : m < N := by omega
  obtain ⟨c0, c1, c2⟩ := spot_cells hrow m hmN
  rw [HE.out] at c0 c1 c2
  obtain ⟨W2, hW2⟩ : ∃ W2, W2 = W.alloc (.cells #[.int .i64 4, .int .i64 x, .int .i64 0] 55) := ⟨_, rfl⟩
  have hB2 : Below w.heap.size w W2 := by rw [hW2]; exact below_on hB1 _
  have hT2 : TriAt W2 W.heap.size 4 x 0 := by rw [hW2]; exact TriAt.new _ _ _ _ _
  have hsz : W2.heap.size = W.heap.size + 1 := by rw [hW2]; simp
  have HB2 := Lib.hid hB2; have HT2 := Lib.hid hT2; have HW2 := Lib.hid hW2; have HZ := Lib.hid hsz
  clear hW hN hrow hB1 hB2 hT2 hW2 hsz
  go_wp2_with fail
  rw [← HW2.out]
  clear c0 c1 c2 x0 x1 x2 x3
  obtain ⟨t0, t1, t2⟩ := HT2.out
  have hlt := lt_of_cell t0
  go_wp2_with fail
  refine wp_region_held_drew (S := (fun w' => w'.cell? ⟨W.heap.size, 0, none⟩ = some (.int .i64 4) ∧ w'.cell? ⟨W.heap.size, 1, none⟩ = some (.int .i64 x) ∧ w'.cell? ⟨W.heap.size, 2, none⟩ = some (.int .i64 0))) (by kernel_rfl) ?_ (fun hHeld => ?_)
  · exact ⟨t0, t1, t2⟩
  refine wpAnyH_take (i := 1) (oi := { dst := some 31, op := Op.fieldAddr 55 (Operand.tmp 6) 0, type := 0, pos := "ref.go:99", after := #[], guard := none }) (v := ?vp1) rfl (by kernel_rfl) (by kernel_rfl) (by kernel_rfl) (fun _ _ _ h => h) (Or.inl ⟨by rfl, ?hyp1⟩) hHeld ?_
  case hyp1 => (intro w hSw; (try dsimp only at hSw); go_simp; (try with_reducible rfl))
  try simp only [Act.put, List.setIfInBounds_toArray, List.set_cons_zero, List.set_cons_succ]
  refine wpAnyH_take (i := 2) (oi := { dst := some 32, op := Op.load 3 (Operand.tmp 31), type := 3, pos := "ref.go:99", after := #[{ on := 1, ground := Ground.data }], guard := none }) (v := ?vp2) rfl (by kernel_rfl) (by kernel_rfl) (by kernel_rfl) (fun _ _ _ h => h) (Or.inl ⟨by rfl, ?hyp2⟩) hHeld ?_
  case hyp2 => (intro w hSw; (try dsimp only at hSw); go_simp; (try with_reducible rfl))
  try simp only [Act.put, List.setIfInBounds_toArray, List.set_cons_zero, List.set_cons_succ]
  refine wpAnyH_take (i := 6) (oi := { dst := some 36, op := Op.fieldAddr 55 (Operand.tmp 6) 1, type := 0, pos := "ref.go:99", after := #[], guard := none }) (v := ?vp6) rfl (by kernel_rfl) (by kernel_rfl) (by kernel_rfl) (fun _ _ _ h => h) (Or.inl ⟨by rfl, ?hyp6⟩) hHeld ?_
  case hyp6 => (intro w hSw; (try dsimp only at hSw); go_simp; (try with_reducible rfl))
  try simp only [Act.put, List.setIfInBounds_toArray, List.set_cons_zero, List.set_cons_succ]
  refine wpAnyH_take (i := 7) (oi := { dst := some 37, op := Op.load 3 (Operand.tmp 36), type := 3, pos := "ref.go:99", after := #[{ on := 6, ground := Ground.data }], guard := none }) (v := ?vp7) rfl (by kernel_rfl) (by kernel_rfl) (by kernel_rfl) (fun _ _ _ h => h) (Or.inl ⟨by rfl, ?hyp7⟩) hHeld ?_
  case hyp7 => (intro w hSw; (try dsimp only at hSw); go_simp; (try with_reducible rfl))
  try simp only [Act.put, List.setIfInBounds_toArray, List.set_cons_zero, List.set_cons_succ]
  clear t0 t1 t2
  refine wpAnyH_ready (rs := [0, 8]) (by kernel_rfl) (by simp) ?_
  refine AllReadyH.cons (o := { dst := some 30, op := Op.buildSlice 28 7 #[(0, Operand.const (Value.string { data := #[] })), (1, Operand.const (Value.string { data := #[105, 110] })), (2, Operand.const (Value.string { data := #[103, 108, 111, 98] })), (3, Operand.const (Value.string { data := #[114, 101, 103] })), (4, Operand.const (Value.string { data := #[99, 97, 114] })), (5, Operand.const (Value.string { data := #[99, 100, 114] })), (6, Operand.const (Value.string { data := #[99, 111, 108, 111, 117, 114] }))], type := 28, pos := "ref.go:99", after := #[], guard := none }) rfl (fun K hK => ?_) ?_
  · go_simp
    have hBA := (below_on HB2.out (.cells #[.string ⟨#[]⟩, .string ⟨#[105, 110]⟩, .string ⟨#[103, 108, 111, 98]⟩, .string ⟨#[114, 101, 103]⟩, .string ⟨#[99, 97, 114]⟩, .string ⟨#[99, 100, 114]⟩, .string ⟨#[99, 111, 108, 111, 117, 114]⟩] 9)).drew
    have hTA : TriAt (W2.alloc (.cells #[.string ⟨#[]⟩, .string ⟨#[105, 110]⟩, .string ⟨#[103, 108, 111, 98]⟩, .string ⟨#[114, 101, 103]⟩, .string ⟨#[99, 97, 114]⟩, .string ⟨#[99, 100, 114]⟩, .string ⟨#[99, 111, 108, 111, 117, 114]⟩] 9)).drew W.heap.size 4 x 0 := TriAt.below HT2.out (below_new W2 (.cells #[.string ⟨#[]⟩, .string ⟨#[105, 110]⟩, .string ⟨#[103, 108, 111, 98]⟩, .string ⟨#[114, 101, 103]⟩, .string ⟨#[99, 97, 114]⟩, .string ⟨#[99, 100, 114]⟩, .string ⟨#[99, 111, 108, 111, 117, 114]⟩] 9)).drew
    refine hK.out _ _ ?_ (fun hHeld => ?_)
    · exact hTA
    clear hK K
    try simp only [Act.put, List.setIfInBounds_toArray, List.set_cons_zero, List.set_cons_succ]
    refine wpAnyH_take (i := 3) (oi := { dst := some 33, op := Op.indexAddr 28 (Operand.tmp 30) (Operand.tmp 32), type := 0, pos := "ref.go:99", after := #[{ on := 0, ground := Ground.data }, { on := 2, ground := Ground.data }], guard := none }) (v := ?va3) rfl (by kernel_rfl) (by kernel_rfl) (by kernel_rfl) (fun _ _ _ h => h) (Or.inl ⟨by rfl, ?hya3⟩) hHeld ?_
    case hya3 => (intro w hSw; (try dsimp only at hSw); go_simp; (try with_reducible rfl))
    try simp only [Act.put, List.setIfInBounds_toArray, List.set_cons_zero, List.set_cons_succ]
    refine wpAnyH_ready (rs := [4, 8]) (by kernel_rfl) (by simp) ?_
    refine AllReadyH.cons (o := { dst := some 34, op := Op.load 9 (Operand.tmp 33), type := 9, pos := "ref.go:99", after := #[{ on := 3, ground := Ground.data }], guard := none }) rfl (fun K hK => ?_) ?_
    · go_simp
      refine hK.out _ _ ?_ (fun hHeld => ?_)
      · exact hTA
      clear hK K
      try simp only [Act.put, List.setIfInBounds_toArray, List.set_cons_zero, List.set_cons_succ]
      refine wpAnyH_take (i := 5) (oi := { dst := some 35, op := Op.binOp BinOp.add 9 (Operand.tmp 34) (Operand.const (Value.string { data := #[32] })) 9, type := 9, pos := "ref.go:99", after := #[{ on := 4, ground := Ground.data }], guard := none }) (v := ?va5) rfl (by kernel_rfl) (by kernel_rfl) (by kernel_rfl) (fun _ _ _ h => h) (Or.inl ⟨by rfl, ?hya5⟩) hHeld ?_
      case hya5 => (intro w hSw; (try dsimp only at hSw); go_simp; (try with_reducible rfl))
      try simp only [Act.put, List.setIfInBounds_toArray, List.set_cons_zero, List.set_cons_succ]
      refine wpAnyH_ready (rs := [8]) (by kernel_rfl) (by simp) ?_
      refine AllReadyH.cons (o := { dst := some 38, op := Op.call { callee := Callee.value (Operand.func 22), args := #[Operand.tmp 37], argTypes := #[3] }, type := 9, pos := "ref.go:99", after := #[{ on := 7, ground := Ground.data }], guard := none }) rfl (fun K hK => ?_) AllReadyH.nil
      go_simp
      refine (HD.out _).mono ?_
      rintro e v ⟨rfl, hV⟩
      have hX : TriAt v W.heap.size 4 x 0 := TriAt.below hTA hV
      have hQ := belowOn (w := w) hBA hV
      clear hV hHeld
      try go_wp2_with fail
      refine hK.out _ _ ?_ (fun hHeld => ?_)
      · exact hX
      clear hK K
      try simp only [Act.put, List.setIfInBounds_toArray, List.set_cons_zero, List.set_cons_succ]
      refine wpAnyH_take (i := 9) (oi := { dst := some 39, op := Op.binOp BinOp.add 9 (Operand.tmp 35) (Operand.tmp 38) 9, type := 9, pos := "ref.go:99", after := #[{ on := 5, ground := Ground.data }, { on := 8, ground := Ground.data }], guard := none }) (v := ?va9) rfl (by kernel_rfl) (by kernel_rfl) (by kernel_rfl) (fun _ _ _ h => h) (Or.inl ⟨by rfl, ?hya9⟩) hHeld ?_
      case hya9 => (intro w hSw; (try dsimp only at hSw); go_simp; (try with_reducible rfl))
      try simp only [Act.put, List.setIfInBounds_toArray, List.set_cons_zero, List.set_cons_succ]
      refine wpAnyH_take (i := 10) (oi := { dst := some 7, op := Op.assign (Operand.tmp 39), type := 9, pos := "ref.go:99", after := #[{ on := 9, ground := Ground.data }, { on := 8, ground := Ground.chain }, { on := 0, ground := Ground.phase }, { on := 1, ground := Ground.phase }, { on := 2, ground := Ground.phase }, { on := 3, ground := Ground.phase }, { on := 4, ground := Ground.phase }, { on := 5, ground := Ground.phase }, { on := 6, ground := Ground.phase }, { on := 7, ground := Ground.phase }, { on := 8, ground := Ground.phase }, { on := 9, ground := Ground.phase }], guard := none }) (v := ?va10) rfl (by kernel_rfl) (by kernel_rfl) (by kernel_rfl) (fun _ _ _ h => h) (Or.inl ⟨by rfl, ?hya10⟩) hHeld ?_
      case hya10 => (intro w hSw; (try dsimp only at hSw); go_simp; (try with_reducible rfl))
      try simp only [Act.put, List.setIfInBounds_toArray, List.set_cons_zero, List.set_cons_succ]
      refine wpAnyH_done (by kernel_rfl) ?_ _
      obtain ⟨r0, r1, r2⟩ := hX
      clear hHeld
      go_wp2_with fail
      go_ret
      refine ⟨?_, hQ⟩
      rw [HO.out]
      exact congrArg (fun x => Ending.returned (Value.string x)) (bytes3 [99, 97, 114] s)
    refine AllReadyH.cons (o := { dst := some 38, op := Op.call { callee := Callee.value (Operand.func 22), args := #[Operand.tmp 37], argTypes := #[3] }, type := 9, pos := "ref.go:99", after := #[{ on := 7, ground := Ground.data }], guard := none }) rfl (fun K hK => ?_) AllReadyH.nil
    go_simp
    refine (HD.out _).mono ?_
    rintro e v ⟨rfl, hV⟩
    have hX : TriAt v W.heap.size 4 x 0 := TriAt.below hTA hV
    have hQ := belowOn (w := w) hBA hV
    have hC := (hV.cell (p := ⟨W2.heap.size, 4, none⟩) (by simp)).trans (World.cell?_alloc_new ..)
    clear hV hHeld
    try go_wp2_with fail
    refine hK.out _ _ ?_ (fun hHeld => ?_)
    · exact hX
    clear hK K
    try simp only [Act.put, List.setIfInBounds_toArray, List.set_cons_zero, List.set_cons_succ]
    refine wpAnyH_ready (rs := [4]) (by kernel_rfl) (by simp) ?_
    refine AllReadyH.cons (o := { dst := some 34, op := Op.load 9 (Operand.tmp 33), type := 9, pos := "ref.go:99", after := #[{ on := 3, ground := Ground.data }], guard := none }) rfl (fun K hK => ?_) AllReadyH.nil
    go_simp
    refine hK.out _ _ ?_ (fun hHeld => ?_)
    · exact hX
    clear hK K
    try simp only [Act.put, List.setIfInBounds_toArray, List.set_cons_zero, List.set_cons_succ]
    refine wpAnyH_take (i := 5) (oi := { dst := some 35, op := Op.binOp BinOp.add 9 (Operand.tmp 34) (Operand.const (Value.string { data := #[32] })) 9, type := 9, pos := "ref.go:99", after := #[{ on := 4, ground := Ground.data }], guard := none }) (v := ?vb5) rfl (by kernel_rfl) (by kernel_rfl) (by kernel_rfl) (fun _ _ _ h => h) (Or.inl ⟨by rfl, ?hyb5⟩) hHeld ?_
    case hyb5 => (intro w hSw; (try dsimp only at hSw); go_simp; (try with_reducible rfl))
    try simp only [Act.put, List.setIfInBounds_toArray, List.set_cons_zero, List.set_cons_succ]
    refine wpAnyH_take (i := 9) (oi := { dst := some 39, op := Op.binOp BinOp.add 9 (Operand.tmp 35) (Operand.tmp 38) 9, type := 9, pos := "ref.go:99", after := #[{ on := 5, ground := Ground.data }, { on := 8, ground := Ground.data }], guard := none }) (v := ?vb9) rfl (by kernel_rfl) (by kernel_rfl) (by kernel_rfl) (fun _ _ _ h => h) (Or.inl ⟨by rfl, ?hyb9⟩) hHeld ?_
    case hyb9 => (intro w hSw; (try dsimp only at hSw); go_simp; (try with_reducible rfl))
    try simp only [Act.put, List.setIfInBounds_toArray, List.set_cons_zero, List.set_cons_succ]
    refine wpAnyH_take (i := 10) (oi := { dst := some 7, op := Op.assign (Operand.tmp 39), type := 9, pos := "ref.go:99", after := #[{ on := 9, ground := Ground.data }, { on := 8, ground := Ground.chain }, { on := 0, ground := Ground.phase }, { on := 1, ground := Ground.phase }, { on := 2, ground := Ground.phase }, { on := 3, ground := Ground.phase }, { on := 4, ground := Ground.phase }, { on := 5, ground := Ground.phase }, { on := 6, ground := Ground.phase }, { on := 7, ground := Ground.phase }, { on := 8, ground := Ground.phase }, { on := 9, ground := Ground.phase }], guard := none }) (v := ?vb10) rfl (by kernel_rfl) (by kernel_rfl) (by kernel_rfl) (fun _ _ _ h => h) (Or.inl ⟨by rfl, ?hyb10⟩) hHeld ?_
    case hyb10 => (intro w hSw; (try dsimp only at hSw); go_simp; (try with_reducible rfl))
    try simp only [Act.put, List.setIfInBounds_toArray, List.set_cons_zero, List.set_cons_succ]
    refine wpAnyH_done (by kernel_rfl) ?_ _
    obtain ⟨r0, r1, r2⟩ := hX
    clear hHeld
    go_wp2_with fail
    go_ret
    refine ⟨?_, hQ⟩
    rw [HO.out]
    exact congrArg (fun x => Ending.returned (Value.string x)) (bytes3 [99, 97, 114] s)
  refine AllReadyH.cons (o := { dst := some 38, op := Op.call { callee := Callee.value (Operand.func 22), args := #[Operand.tmp 37], argTypes := #[3] }, type := 9, pos := "ref.go:99", after := #[{ on := 7, ground := Ground.data }], guard := none }) rfl (fun K hK => ?_) AllReadyH.nil
  go_simp
  refine (HD.out _).mono ?_
  rintro e v ⟨rfl, hV⟩
  have hX : TriAt v W.heap.size 4 x 0 := TriAt.below (show TriAt W2.drew W.heap.size 4 x 0 from HT2.out) hV
  have hQ := belowOn (w := w) HB2.out.drew hV
  clear hV hHeld
  try go_wp2_with fail
  refine hK.out _ _ ?_ (fun hHeld => ?_)
  · exact hX
  clear hK K
  try simp only [Act.put, List.setIfInBounds_toArray, List.set_cons_zero, List.set_cons_succ]
  refine wpAnyH_ready (rs := [0]) (by kernel_rfl) (by simp) ?_
  refine AllReadyH.cons (o := { dst := some 30, op := Op.buildSlice 28 7 #[(0, Operand.const (Value.string { data := #[] })), (1, Operand.const (Value.string { data := #[105, 110] })), (2, Operand.const (Value.string { data := #[103, 108, 111, 98] })), (3, Operand.const (Value.string { data := #[114, 101, 103] })), (4, Operand.const (Value.string { data := #[99, 97, 114] })), (5, Operand.const (Value.string { data := #[99, 100, 114] })), (6, Operand.const (Value.string { data := #[99, 111, 108, 111, 117, 114] }))], type := 28, pos := "ref.go:99", after := #[], guard := none }) rfl (fun K hK => ?_) AllReadyH.nil
  go_simp
  have hXB : TriAt (v.alloc (.cells #[.string ⟨#[]⟩, .string ⟨#[105, 110]⟩, .string ⟨#[103, 108, 111, 98]⟩, .string ⟨#[114, 101, 103]⟩, .string ⟨#[99, 97, 114]⟩, .string ⟨#[99, 100, 114]⟩, .string ⟨#[99, 111, 108, 111, 117, 114]⟩] 9)) W.heap.size 4 x 0 := TriAt.below hX (below_new v (.cells #[.string ⟨#[]⟩, .string ⟨#[105, 110]⟩, .string ⟨#[103, 108, 111, 98]⟩, .string ⟨#[114, 101, 103]⟩, .string ⟨#[99, 97, 114]⟩, .string ⟨#[99, 100, 114]⟩, .string ⟨#[99, 111, 108, 111, 117, 114]⟩] 9))
  refine hK.out _ _ ?_ (fun hHeld => ?_)
  · exact hXB
  clear hK K
  try simp only [Act.put, List.setIfInBounds_toArray, List.set_cons_zero, List.set_cons_succ]
  refine wpAnyH_take (i := 3) (oi := { dst := some 33, op := Op.indexAddr 28 (Operand.tmp 30) (Operand.tmp 32), type := 0, pos := "ref.go:99", after := #[{ on := 0, ground := Ground.data }, { on := 2, ground := Ground.data }], guard := none }) (v := ?vc3) rfl (by kernel_rfl) (by kernel_rfl) (by kernel_rfl) (fun _ _ _ h => h) (Or.inl ⟨by rfl, ?hyc3⟩) hHeld ?_
  case hyc3 => (intro w hSw; (try dsimp only at hSw); go_simp; (try with_reducible rfl))
  try simp only [Act.put, List.setIfInBounds_toArray, List.set_cons_zero, List.set_cons_succ]
  refine wpAnyH_ready (rs := [4]) (by kernel_rfl) (by simp) ?_
  refine AllReadyH.cons (o := { dst := some 34, op := Op.load 9 (Operand.tmp 33), type := 9, pos := "ref.go:99", after := #[{ on := 3, ground := Ground.data }], guard := none }) rfl (fun K hK => ?_) AllReadyH.nil
  go_simp
  refine hK.out _ _ ?_ (fun hHeld => ?_)
  · exact hXB
  clear hK K
  try simp only [Act.put, List.setIfInBounds_toArray, List.set_cons_zero, List.set_cons_succ]
  refine wpAnyH_take (i := 5) (oi := { dst := some 35, op := Op.binOp BinOp.add 9 (Operand.tmp 34) (Operand.const (Value.string { data := #[32] })) 9, type := 9, pos := "ref.go:99", after := #[{ on := 4, ground := Ground.data }], guard := none }) (v := ?vc5) rfl (by kernel_rfl) (by kernel_rfl) (by kernel_rfl) (fun _ _ _ h => h) (Or.inl ⟨by rfl, ?hyc5⟩) hHeld ?_
  case hyc5 => (intro w hSw; (try dsimp only at hSw); go_simp; (try with_reducible rfl))
  try simp only [Act.put, List.setIfInBounds_toArray, List.set_cons_zero, List.set_cons_succ]
  refine wpAnyH_take (i := 9) (oi := { dst := some 39, op := Op.binOp BinOp.add 9 (Operand.tmp 35) (Operand.tmp 38) 9, type := 9, pos := "ref.go:99", after := #[{ on := 5, ground := Ground.data }, { on := 8, ground := Ground.data }], guard := none }) (v := ?vc9) rfl (by kernel_rfl) (by kernel_rfl) (by kernel_rfl) (fun _ _ _ h => h) (Or.inl ⟨by rfl, ?hyc9⟩) hHeld ?_
  case hyc9 => (intro w hSw; (try dsimp only at hSw); go_simp; (try with_reducible rfl))
  try simp only [Act.put, List.setIfInBounds_toArray, List.set_cons_zero, List.set_cons_succ]
  refine wpAnyH_take (i := 10) (oi := { dst := some 7, op := Op.assign (Operand.tmp 39), type := 9, pos := "ref.go:99", after := #[{ on := 9, ground := Ground.data }, { on := 8, ground := Ground.chain }, { on := 0, ground := Ground.phase }, { on := 1, ground := Ground.phase }, { on := 2, ground := Ground.phase }, { on := 3, ground := Ground.phase }, { on := 4, ground := Ground.phase }, { on := 5, ground := Ground.phase }, { on := 6, ground := Ground.phase }, { on := 7, ground := Ground.phase }, { on := 8, ground := Ground.phase }, { on := 9, ground := Ground.phase }], guard := none }) (v := ?vc10) rfl (by kernel_rfl) (by kernel_rfl) (by kernel_rfl) (fun _ _ _ h => h) (Or.inl ⟨by rfl, ?hyc10⟩) hHeld ?_
  case hyc10 => (intro w hSw; (try dsimp only at hSw); go_simp; (try with_reducible rfl))
  try simp only [Act.put, List.setIfInBounds_toArray, List.set_cons_zero, List.set_cons_succ]
  refine wpAnyH_done (by kernel_rfl) ?_ _
  obtain ⟨r0, r1, r2⟩ := hXB
  clear hHeld
  go_wp2_with fail
  go_ret
  refine ⟨?_, (below_on hQ (.cells #[.string ⟨#[]⟩, .string ⟨#[105, 110]⟩, .string ⟨#[103, 108, 111, 98]⟩, .string ⟨#[114, 101, 103]⟩, .string ⟨#[99, 97, 114]⟩, .string ⟨#[99, 100, 114]⟩, .string ⟨#[99, 111, 108, 111, 117, 114]⟩] 9))⟩
  rw [HO.out]
  exact congrArg (fun x => Ending.returned (Value.string x)) (bytes3 [99, 97, 114] s)
set_option maxHeartbeats 6400000 in
theorem refName_cdr (a b c d x : Int) (m : Nat) (hr : Right a b c d) (hm : (m : Int) < 5 + b + d + b * c + 3 * a) (he : spotF b c d m = (5, x, 0)) (hx0 : 0 ≤ x) (hx1 : x ≤ 4096) (w : World) :
    Calls Tryd.prog 14 #[.agg #[.int .i64 a, .int .i64 b, .int .i64 c, .int .i64 d], .int .i64 m] w fun e w' => e = .returned (.string ⟨(nameOf (spotF b c d m)).toArray⟩) ∧ Below w.heap.size w w' := by
  have HA := Lib.hid (all_right a b c d hr)
  have HX := Lib.hid (BoxAt.new w a b c d 23)
  have HB := Lib.hid (below_new w (.cells #[.int .i64 a, .int .i64 b, .int .i64 c, .int .i64 d] 23))
  have HE := Lib.hid he
  have HO : Hid (nameOf (spotF b c d m) = [99, 100, 114] ++ [32] ++ Lib.itoa x) := Lib.hid (by rw [he, ← nm_one]; rfl)
  have HD := Lib.hid (refDigits_c x hx0 hx1)
  have l1 := itoa_short4 x hx0 hx1
  generalize Lib.itoa x = s at *
  generalize nameOf (spotF b c d m) = R at HO
  have q0 : ∀ W, (Op.stringOp .add (⟨#[99, 100, 114]⟩ : ByteArray) (⟨#[32]⟩ : ByteArray)).run Tryd.prog W = .ok (.string ((⟨#[99, 100, 114]⟩ : ByteArray) ++ (⟨#[32]⟩ : ByteArray))) W := fun W => run_string_add_sum W _ _ (by decide)
  have q1 : ∀ W, (Op.stringOp .add ((⟨#[99, 100, 114]⟩ : ByteArray) ++ (⟨#[32]⟩ : ByteArray)) (⟨s.toArray⟩ : ByteArray)).run Tryd.prog W = .ok (.string (((⟨#[99, 100, 114]⟩ : ByteArray) ++ (⟨#[32]⟩ : ByteArray)) ++ (⟨s.toArray⟩ : ByteArray))) W := fun W => run_string_add_sum W _ _ (by simp only [ByteArray.size_append]; simp [ByteArray.size]; omega)
  clear hr he
  obtain ⟨x0, x1, x2, x3⟩ := HX.out
  go_enter Tryd.func14, Tryd.ntmps14
  go_wp2_with fail
  refine (HA.out _).mono ?_
  rintro e W ⟨g, cap, N, rfl, hN, hrow, hW⟩
  have hB1 := belowOn HB.out hW
  have hmN : m < N := by omega
  obtain ⟨c0, c1, c2⟩ := spot_cells hrow m hmN
  rw [HE.out] at c0 c1 c2
  obtain ⟨W2, hW2⟩ : ∃ W2, W2 = W.alloc (.cells #[.int .i64 5, .int .i64 x, .int .i64 0] 55) := ⟨_, rfl⟩
  have hB2 : Below w.heap.size w W2 := by rw [hW2]; exact below_on hB1 _
  have hT2 : TriAt W2 W.heap.size 5 x 0 := by rw [hW2]; exact TriAt.new _ _ _ _ _
  have hsz : W2.heap.size = W.heap.size + 1 := by rw [hW2]; simp
  have HB2 := Lib.hid hB2; have HT2 := Lib.hid hT2; have HW2 := Lib.hid hW2; have HZ := Lib.hid hsz
  clear hW hN hrow hB1 hB2 hT2 hW2 hsz
  go_wp2_with fail
  rw [← HW2.out]
  clear c0 c1 c2 x0 x1 x2 x3
  obtain ⟨t0, t1, t2⟩ := HT2.out
  have hlt := lt_of_cell t0
  go_wp2_with fail
  refine wp_region_held_drew (S := (fun w' => w'.cell? ⟨W.heap.size, 0, none⟩ = some (.int .i64 5) ∧ w'.cell? ⟨W.heap.size, 1, none⟩ = some (.int .i64 x) ∧ w'.cell? ⟨W.heap.size, 2, none⟩ = some (.int .i64 0))) (by kernel_rfl) ?_ (fun hHeld => ?_)
  · exact ⟨t0, t1, t2⟩
  refine wpAnyH_take (i := 1) (oi := { dst := some 31, op := Op.fieldAddr 55 (Operand.tmp 6) 0, type := 0, pos := "ref.go:99", after := #[], guard := none }) (v := ?vp1) rfl (by kernel_rfl) (by kernel_rfl) (by kernel_rfl) (fun _ _ _ h => h) (Or.inl ⟨by rfl, ?hyp1⟩) hHeld ?_
  case hyp1 => (intro w hSw; (try dsimp only at hSw); go_simp; (try with_reducible rfl))
  try simp only [Act.put, List.setIfInBounds_toArray, List.set_cons_zero, List.set_cons_succ]
  refine wpAnyH_take (i := 2) (oi := { dst := some 32, op := Op.load 3 (Operand.tmp 31), type := 3, pos := "ref.go:99", after := #[{ on := 1, ground := Ground.data }], guard := none }) (v := ?vp2) rfl (by kernel_rfl) (by kernel_rfl) (by kernel_rfl) (fun _ _ _ h => h) (Or.inl ⟨by rfl, ?hyp2⟩) hHeld ?_
  case hyp2 => (intro w hSw; (try dsimp only at hSw); go_simp; (try with_reducible rfl))
  try simp only [Act.put, List.setIfInBounds_toArray, List.set_cons_zero, List.set_cons_succ]
  refine wpAnyH_take (i := 6) (oi := { dst := some 36, op := Op.fieldAddr 55 (Operand.tmp 6) 1, type := 0, pos := "ref.go:99", after := #[], guard := none }) (v := ?vp6) rfl (by kernel_rfl) (by kernel_rfl) (by kernel_rfl) (fun _ _ _ h => h) (Or.inl ⟨by rfl, ?hyp6⟩) hHeld ?_
  case hyp6 => (intro w hSw; (try dsimp only at hSw); go_simp; (try with_reducible rfl))
  try simp only [Act.put, List.setIfInBounds_toArray, List.set_cons_zero, List.set_cons_succ]
  refine wpAnyH_take (i := 7) (oi := { dst := some 37, op := Op.load 3 (Operand.tmp 36), type := 3, pos := "ref.go:99", after := #[{ on := 6, ground := Ground.data }], guard := none }) (v := ?vp7) rfl (by kernel_rfl) (by kernel_rfl) (by kernel_rfl) (fun _ _ _ h => h) (Or.inl ⟨by rfl, ?hyp7⟩) hHeld ?_
  case hyp7 => (intro w hSw; (try dsimp only at hSw); go_simp; (try with_reducible rfl))
  try simp only [Act.put, List.setIfInBounds_toArray, List.set_cons_zero, List.set_cons_succ]
  clear t0 t1 t2
  refine wpAnyH_ready (rs := [0, 8]) (by kernel_rfl) (by simp) ?_
  refine AllReadyH.cons (o := { dst := some 30, op := Op.buildSlice 28 7 #[(0, Operand.const (Value.string { data := #[] })), (1, Operand.const (Value.string { data := #[105, 110] })), (2, Operand.const (Value.string { data := #[103, 108, 111, 98] })), (3, Operand.const (Value.string { data := #[114, 101, 103] })), (4, Operand.const (Value.string { data := #[99, 97, 114] })), (5, Operand.const (Value.string { data := #[99, 100, 114] })), (6, Operand.const (Value.string { data := #[99, 111, 108, 111, 117, 114] }))], type := 28, pos := "ref.go:99", after := #[], guard := none }) rfl (fun K hK => ?_) ?_
  · go_simp
    have hBA := (below_on HB2.out (.cells #[.string ⟨#[]⟩, .string ⟨#[105, 110]⟩, .string ⟨#[103, 108, 111, 98]⟩, .string ⟨#[114, 101, 103]⟩, .string ⟨#[99, 97, 114]⟩, .string ⟨#[99, 100, 114]⟩, .string ⟨#[99, 111, 108, 111, 117, 114]⟩] 9)).drew
    have hTA : TriAt (W2.alloc (.cells #[.string ⟨#[]⟩, .string ⟨#[105, 110]⟩, .string ⟨#[103, 108, 111, 98]⟩, .string ⟨#[114, 101, 103]⟩, .string ⟨#[99, 97, 114]⟩, .string ⟨#[99, 100, 114]⟩, .string ⟨#[99, 111, 108, 111, 117, 114]⟩] 9)).drew W.heap.size 5 x 0 := TriAt.below HT2.out (below_new W2 (.cells #[.string ⟨#[]⟩, .string ⟨#[105, 110]⟩, .string ⟨#[103, 108, 111, 98]⟩, .string ⟨#[114, 101, 103]⟩, .string ⟨#[99, 97, 114]⟩, .string ⟨#[99, 100, 114]⟩, .string ⟨#[99, 111, 108, 111, 117, 114]⟩] 9)).drew
    refine hK.out _ _ ?_ (fun hHeld => ?_)
    · exact hTA
    clear hK K
    try simp only [Act.put, List.setIfInBounds_toArray, List.set_cons_zero, List.set_cons_succ]
    refine wpAnyH_take (i := 3) (oi := { dst := some 33, op := Op.indexAddr 28 (Operand.tmp 30) (Operand.tmp 32), type := 0, pos := "ref.go:99", after := #[{ on := 0, ground := Ground.data }, { on := 2, ground := Ground.data }], guard := none }) (v := ?va3) rfl (by kernel_rfl) (by kernel_rfl) (by kernel_rfl) (fun _ _ _ h => h) (Or.inl ⟨by rfl, ?hya3⟩) hHeld ?_
    case hya3 => (intro w hSw; (try dsimp only at hSw); go_simp; (try with_reducible rfl))
    try simp only [Act.put, List.setIfInBounds_toArray, List.set_cons_zero, List.set_cons_succ]
    refine wpAnyH_ready (rs := [4, 8]) (by kernel_rfl) (by simp) ?_
    refine AllReadyH.cons (o := { dst := some 34, op := Op.load 9 (Operand.tmp 33), type := 9, pos := "ref.go:99", after := #[{ on := 3, ground := Ground.data }], guard := none }) rfl (fun K hK => ?_) ?_
    · go_simp
      refine hK.out _ _ ?_ (fun hHeld => ?_)
      · exact hTA
      clear hK K
      try simp only [Act.put, List.setIfInBounds_toArray, List.set_cons_zero, List.set_cons_succ]
      refine wpAnyH_take (i := 5) (oi := { dst := some 35, op := Op.binOp BinOp.add 9 (Operand.tmp 34) (Operand.const (Value.string { data := #[32] })) 9, type := 9, pos := "ref.go:99", after := #[{ on := 4, ground := Ground.data }], guard := none }) (v := ?va5) rfl (by kernel_rfl) (by kernel_rfl) (by kernel_rfl) (fun _ _ _ h => h) (Or.inl ⟨by rfl, ?hya5⟩) hHeld ?_
      case hya5 => (intro w hSw; (try dsimp only at hSw); go_simp; (try with_reducible rfl))
      try simp only [Act.put, List.setIfInBounds_toArray, List.set_cons_zero, List.set_cons_succ]
      refine wpAnyH_ready (rs := [8]) (by kernel_rfl) (by simp) ?_
      refine AllReadyH.cons (o := { dst := some 38, op := Op.call { callee := Callee.value (Operand.func 22), args := #[Operand.tmp 37], argTypes := #[3] }, type := 9, pos := "ref.go:99", after := #[{ on := 7, ground := Ground.data }], guard := none }) rfl (fun K hK => ?_) AllReadyH.nil
      go_simp
      refine (HD.out _).mono ?_
      rintro e v ⟨rfl, hV⟩
      have hX : TriAt v W.heap.size 5 x 0 := TriAt.below hTA hV
      have hQ := belowOn (w := w) hBA hV
      clear hV hHeld
      try go_wp2_with fail
      refine hK.out _ _ ?_ (fun hHeld => ?_)
      · exact hX
      clear hK K
      try simp only [Act.put, List.setIfInBounds_toArray, List.set_cons_zero, List.set_cons_succ]
      refine wpAnyH_take (i := 9) (oi := { dst := some 39, op := Op.binOp BinOp.add 9 (Operand.tmp 35) (Operand.tmp 38) 9, type := 9, pos := "ref.go:99", after := #[{ on := 5, ground := Ground.data }, { on := 8, ground := Ground.data }], guard := none }) (v := ?va9) rfl (by kernel_rfl) (by kernel_rfl) (by kernel_rfl) (fun _ _ _ h => h) (Or.inl ⟨by rfl, ?hya9⟩) hHeld ?_
      case hya9 => (intro w hSw; (try dsimp only at hSw); go_simp; (try with_reducible rfl))
      try simp only [Act.put, List.setIfInBounds_toArray, List.set_cons_zero, List.set_cons_succ]
      refine wpAnyH_take (i := 10) (oi := { dst := some 7, op := Op.assign (Operand.tmp 39), type := 9, pos := "ref.go:99", after := #[{ on := 9, ground := Ground.data }, { on := 8, ground := Ground.chain }, { on := 0, ground := Ground.phase }, { on := 1, ground := Ground.phase }, { on := 2, ground := Ground.phase }, { on := 3, ground := Ground.phase }, { on := 4, ground := Ground.phase }, { on := 5, ground := Ground.phase }, { on := 6, ground := Ground.phase }, { on := 7, ground := Ground.phase }, { on := 8, ground := Ground.phase }, { on := 9, ground := Ground.phase }], guard := none }) (v := ?va10) rfl (by kernel_rfl) (by kernel_rfl) (by kernel_rfl) (fun _ _ _ h => h) (Or.inl ⟨by rfl, ?hya10⟩) hHeld ?_
      case hya10 => (intro w hSw; (try dsimp only at hSw); go_simp; (try with_reducible rfl))
      try simp only [Act.put, List.setIfInBounds_toArray, List.set_cons_zero, List.set_cons_succ]
      refine wpAnyH_done (by kernel_rfl) ?_ _
      obtain ⟨r0, r1, r2⟩ := hX
      clear hHeld
      go_wp2_with fail
      go_ret
      refine ⟨?_, hQ⟩
      rw [HO.out]
      exact congrArg (fun x => Ending.returned (Value.string x)) (bytes3 [99, 100, 114] s)
    refine AllReadyH.cons (o := { dst := some 38, op := Op.call { callee := Callee.value (Operand.func 22), args := #[Operand.tmp 37], argTypes := #[3] }, type := 9, pos := "ref.go:99", after := #[{ on := 7, ground := Ground.data }], guard := none }) rfl (fun K hK => ?_) AllReadyH.nil
    go_simp
    refine (HD.out _).mono ?_
    rintro e v ⟨rfl, hV⟩
    have hX : TriAt v W.heap.size 5 x 0 := TriAt.below hTA hV
    have hQ := belowOn (w := w) hBA hV
    have hC := (hV.cell (p := ⟨W2.heap.size, 5, none⟩) (by simp)).trans (World.cell?_alloc_new ..)
    clear hV hHeld
    try go_wp2_with fail
    refine hK.out _ _ ?_ (fun hHeld => ?_)
    · exact hX
    clear hK K
    try simp only [Act.put, List.setIfInBounds_toArray, List.set_cons_zero, List.set_cons_succ]
    refine wpAnyH_ready (rs := [4]) (by kernel_rfl) (by simp) ?_
    refine AllReadyH.cons (o := { dst := some 34, op := Op.load 9 (Operand.tmp 33), type := 9, pos := "ref.go:99", after := #[{ on := 3, ground := Ground.data }], guard := none }) rfl (fun K hK => ?_) AllReadyH.nil
    go_simp
    refine hK.out _ _ ?_ (fun hHeld => ?_)
    · exact hX
    clear hK K
    try simp only [Act.put, List.setIfInBounds_toArray, List.set_cons_zero, List.set_cons_succ]
    refine wpAnyH_take (i := 5) (oi := { dst := some 35, op := Op.binOp BinOp.add 9 (Operand.tmp 34) (Operand.const (Value.string { data := #[32] })) 9, type := 9, pos := "ref.go:99", after := #[{ on := 4, ground := Ground.data }], guard := none }) (v := ?vb5) rfl (by kernel_rfl) (by kernel_rfl) (by kernel_rfl) (fun _ _ _ h => h) (Or.inl ⟨by rfl, ?hyb5⟩) hHeld ?_
    case hyb5 => (intro w hSw; (try dsimp only at hSw); go_simp; (try with_reducible rfl))
    try simp only [Act.put, List.setIfInBounds_toArray, List.set_cons_zero, List.set_cons_succ]
    refine wpAnyH_take (i := 9) (oi := { dst := some 39, op := Op.binOp BinOp.add 9 (Operand.tmp 35) (Operand.tmp 38) 9, type := 9, pos := "ref.go:99", after := #[{ on := 5, ground := Ground.data }, { on := 8, ground := Ground.data }], guard := none }) (v := ?vb9) rfl (by kernel_rfl) (by kernel_rfl) (by kernel_rfl) (fun _ _ _ h => h) (Or.inl ⟨by rfl, ?hyb9⟩) hHeld ?_
    case hyb9 => (intro w hSw; (try dsimp only at hSw); go_simp; (try with_reducible rfl))
    try simp only [Act.put, List.setIfInBounds_toArray, List.set_cons_zero, List.set_cons_succ]
    refine wpAnyH_take (i := 10) (oi := { dst := some 7, op := Op.assign (Operand.tmp 39), type := 9, pos := "ref.go:99", after := #[{ on := 9, ground := Ground.data }, { on := 8, ground := Ground.chain }, { on := 0, ground := Ground.phase }, { on := 1, ground := Ground.phase }, { on := 2, ground := Ground.phase }, { on := 3, ground := Ground.phase }, { on := 4, ground := Ground.phase }, { on := 5, ground := Ground.phase }, { on := 6, ground := Ground.phase }, { on := 7, ground := Ground.phase }, { on := 8, ground := Ground.phase }, { on := 9, ground := Ground.phase }], guard := none }) (v := ?vb10) rfl (by kernel_rfl) (by kernel_rfl) (by kernel_rfl) (fun _ _ _ h => h) (Or.inl ⟨by rfl, ?hyb10⟩) hHeld ?_
    case hyb10 => (intro w hSw; (try dsimp only at hSw); go_simp; (try with_reducible rfl))
    try simp only [Act.put, List.setIfInBounds_toArray, List.set_cons_zero, List.set_cons_succ]
    refine wpAnyH_done (by kernel_rfl) ?_ _
    obtain ⟨r0, r1, r2⟩ := hX
    clear hHeld
    go_wp2_with fail
    go_ret
    refine ⟨?_, hQ⟩
    rw [HO.out]
    exact congrArg (fun x => Ending.returned (Value.string x)) (bytes3 [99, 100, 114] s)
  refine AllReadyH.cons (o := { dst := some 38, op := Op.call { callee := Callee.value (Operand.func 22), args := #[Operand.tmp 37], argTypes := #[3] }, type := 9, pos := "ref.go:99", after := #[{ on := 7, ground := Ground.data }], guard := none }) rfl (fun K hK => ?_) AllReadyH.nil
  go_simp
  refine (HD.out _).mono ?_
  rintro e v ⟨rfl, hV⟩
  have hX : TriAt v W.heap.size 5 x 0 := TriAt.below (show TriAt W2.drew W.heap.size 5 x 0 from HT2.out) hV
  have hQ := belowOn (w := w) HB2.out.drew hV
  clear hV hHeld
  try go_wp2_with fail
  refine hK.out _ _ ?_ (fun hHeld => ?_)
  · exact hX
  clear hK K
  try simp only [Act.put, List.setIfInBounds_toArray, List.set_cons_zero, List.set_cons_succ]
  refine wpAnyH_ready (rs := [0]) (by kernel_rfl) (by simp) ?_
  refine AllReadyH.cons (o := { dst := some 30, op := Op.buildSlice 28 7 #[(0, Operand.const (Value.string { data := #[] })), (1, Operand.const (Value.string { data := #[105, 110] })), (2, Operand.const (Value.string { data := #[103, 108, 111, 98] })), (3, Operand.const (Value.string { data := #[114, 101, 103] })), (4, Operand.const (Value.string { data := #[99, 97, 114] })), (5, Operand.const (Value.string { data := #[99, 100, 114] })), (6, Operand.const (Value.string { data := #[99, 111, 108, 111, 117, 114] }))], type := 28, pos := "ref.go:99", after := #[], guard := none }) rfl (fun K hK => ?_) AllReadyH.nil
  go_simp
  have hXB : TriAt (v.alloc (.cells #[.string ⟨#[]⟩, .string ⟨#[105, 110]⟩, .string ⟨#[103, 108, 111, 98]⟩, .string ⟨#[114, 101, 103]⟩, .string ⟨#[99, 97, 114]⟩, .string ⟨#[99, 100, 114]⟩, .string ⟨#[99, 111, 108, 111, 117, 114]⟩] 9)) W.heap.size 5 x 0 := TriAt.below hX (below_new v (.cells #[.string ⟨#[]⟩, .string ⟨#[105, 110]⟩, .string ⟨#[103, 108, 111, 98]⟩, .string ⟨#[114, 101, 103]⟩, .string ⟨#[99, 97, 114]⟩, .string ⟨#[99, 100, 114]⟩, .string ⟨#[99, 111, 108, 111, 117, 114]⟩] 9))
  refine hK.out _ _ ?_ (fun hHeld => ?_)
  · exact hXB
  clear hK K
  try simp only [Act.put, List.setIfInBounds_toArray, List.set_cons_zero, List.set_cons_succ]
  refine wpAnyH_take (i := 3) (oi := { dst := some 33, op := Op.indexAddr 28 (Operand.tmp 30) (Operand.tmp 32), type := 0, pos := "ref.go:99", after := #[{ on := 0, ground := Ground.data }, { on := 2, ground := Ground.data }], guard := none }) (v := ?vc3) rfl (by kernel_rfl) (by kernel_rfl) (by kernel_rfl) (fun _ _ _ h => h) (Or.inl ⟨by rfl, ?hyc3⟩) hHeld ?_
  case hyc3 => (intro w hSw; (try dsimp only at hSw); go_simp; (try with_reducible rfl))
  try simp only [Act.put, List.setIfInBounds_toArray, List.set_cons_zero, List.set_cons_succ]
  refine wpAnyH_ready (rs := [4]) (by kernel_rfl) (by simp) ?_
  refine AllReadyH.cons (o := { dst := some 34, op := Op.load 9 (Operand.tmp 33), type := 9, pos := "ref.go:99", after := #[{ on := 3, ground := Ground.data }], guard := none }) rfl (fun K hK => ?_) AllReadyH.nil
  go_simp
  refine hK.out _ _ ?_ (fun hHeld => ?_)
  · exact hXB
  clear hK K
  try simp only [Act.put, List.setIfInBounds_toArray, List.set_cons_zero, List.set_cons_succ]
  refine wpAnyH_take (i := 5) (oi := { dst := some 35, op := Op.binOp BinOp.add 9 (Operand.tmp 34) (Operand.const (Value.string { data := #[32] })) 9, type := 9, pos := "ref.go:99", after := #[{ on := 4, ground := Ground.data }], guard := none }) (v := ?vc5) rfl (by kernel_rfl) (by kernel_rfl) (by kernel_rfl) (fun _ _ _ h => h) (Or.inl ⟨by rfl, ?hyc5⟩) hHeld ?_
  case hyc5 => (intro w hSw; (try dsimp only at hSw); go_simp; (try with_reducible rfl))
  try simp only [Act.put, List.setIfInBounds_toArray, List.set_cons_zero, List.set_cons_succ]
  refine wpAnyH_take (i := 9) (oi := { dst := some 39, op := Op.binOp BinOp.add 9 (Operand.tmp 35) (Operand.tmp 38) 9, type := 9, pos := "ref.go:99", after := #[{ on := 5, ground := Ground.data }, { on := 8, ground := Ground.data }], guard := none }) (v := ?vc9) rfl (by kernel_rfl) (by kernel_rfl) (by kernel_rfl) (fun _ _ _ h => h) (Or.inl ⟨by rfl, ?hyc9⟩) hHeld ?_
  case hyc9 => (intro w hSw; (try dsimp only at hSw); go_simp; (try with_reducible rfl))
  try simp only [Act.put, List.setIfInBounds_toArray, List.set_cons_zero, List.set_cons_succ]
  refine wpAnyH_take (i := 10) (oi := { dst := some 7, op := Op.assign (Operand.tmp 39), type := 9, pos := "ref.go:99", after := #[{ on := 9, ground := Ground.data }, { on := 8, ground := Ground.chain }, { on := 0, ground := Ground.phase }, { on := 1, ground := Ground.phase }, { on := 2, ground := Ground.phase }, { on := 3, ground := Ground.phase }, { on := 4, ground := Ground.phase }, { on := 5, ground := Ground.phase }, { on := 6, ground := Ground.phase }, { on := 7, ground := Ground.phase }, { on := 8, ground := Ground.phase }, { on := 9, ground := Ground.phase }], guard := none }) (v := ?vc10) rfl (by kernel_rfl) (by kernel_rfl) (by kernel_rfl) (fun _ _ _ h => h) (Or.inl ⟨by rfl, ?hyc10⟩) hHeld ?_
  case hyc10 => (intro w hSw; (try dsimp only at hSw); go_simp; (try with_reducible rfl))
  try simp only [Act.put, List.setIfInBounds_toArray, List.set_cons_zero, List.set_cons_succ]
  refine wpAnyH_done (by kernel_rfl) ?_ _
  obtain ⟨r0, r1, r2⟩ := hXB
  clear hHeld
  go_wp2_with fail
  go_ret
  refine ⟨?_, (below_on hQ (.cells #[.string ⟨#[]⟩, .string ⟨#[105, 110]⟩, .string ⟨#[103, 108, 111, 98]⟩, .string ⟨#[114, 101, 103]⟩, .string ⟨#[99, 97, 114]⟩, .string ⟨#[99, 100, 114]⟩, .string ⟨#[99, 111, 108, 111, 117, 114]⟩] 9))⟩
  rw [HO.out]
  exact congrArg (fun x => Ending.returned (Value.string x)) (bytes3 [99, 100, 114] s)
set_option maxHeartbeats 6400000 in
theorem refName_colour (a b c d x : Int) (m : Nat) (hr : Right a b c d) (hm : (m : Int) < 5 + b + d + b * c + 3 * a) (he : spotF b c d m = (6, x, 0)) (hx0 : 0 ≤ x) (hx1 : x ≤ 4096) (w : World) :
    Calls Tryd.prog 14 #[.agg #[.int .i64 a, .int .i64 b, .int .i64 c, .int .i64 d], .int .i64 m] w fun e w' => e = .returned (.string ⟨(nameOf (spotF b c d m)).toArray⟩) ∧ Below w.heap.size w w' := by
  have HA := Lib.hid (all_right a b c d hr)
  have HX := Lib.hid (BoxAt.new w a b c d 23)
  have HB := Lib.hid (below_new w (.cells #[.int .i64 a, .int .i64 b, .int .i64 c, .int .i64 d] 23))
  have HE := Lib.hid he
  have HO : Hid (nameOf (spotF b c d m) = [99, 111, 108, 111, 117, 114] ++ [32] ++ Lib.itoa x) := Lib.hid (by rw [he, ← nm_one]; rfl)
  have HD := Lib.hid (refDigits_c x hx0 hx1)
  have l1 := itoa_short4 x hx0 hx1
  generalize Lib.itoa x = s at *
  generalize nameOf (spotF b c d m) = R at HO
  have q0 : ∀ W, (Op.stringOp .add (⟨#[99, 111, 108, 111, 117, 114]⟩ : ByteArray) (⟨#[32]⟩ : ByteArray)).run Tryd.prog W = .ok (.string ((⟨#[99, 111, 108, 111, 117, 114]⟩ : ByteArray) ++ (⟨#[32]⟩ : ByteArray))) W := fun W => run_string_add_sum W _ _ (by decide)
  have q1 : ∀ W, (Op.stringOp .add ((⟨#[99, 111, 108, 111, 117, 114]⟩ : ByteArray) ++ (⟨#[32]⟩ : ByteArray)) (⟨s.toArray⟩ : ByteArray)).run Tryd.prog W = .ok (.string (((⟨#[99, 111, 108, 111, 117, 114]⟩ : ByteArray) ++ (⟨#[32]⟩ : ByteArray)) ++ (⟨s.toArray⟩ : ByteArray))) W := fun W => run_string_add_sum W _ _ (by simp only [ByteArray.size_append]; simp [ByteArray.size]; omega)
  clear hr he
  obtain ⟨x0, x1, x2, x3⟩ := HX.out
  go_enter Tryd.func14, Tryd.ntmps14
  go_wp2_with fail
  refine (HA.out _).mono ?_
  rintro e W ⟨g, cap, N, rfl, hN, hrow, hW⟩
  have hB1 := belowOn HB.out hW
  have hmN : m < N := by omega
  obtain ⟨c0, c1, c2⟩ := spot_cells hrow m hmN
  rw [HE.out] at c0 c1 c2
  obtain ⟨W2, hW2⟩ : ∃ W2, W2 = W.alloc (.cells #[.int .i64 6, .int .i64 x, .int .i64 0] 55) := ⟨_, rfl⟩
  have hB2 : Below w.heap.size w W2 := by rw [hW2]; exact below_on hB1 _
  have hT2 : TriAt W2 W.heap.size 6 x 0 := by rw [hW2]; exact TriAt.new _ _ _ _ _
  have hsz : W2.heap.size = W.heap.size + 1 := by rw [hW2]; simp
  have HB2 := Lib.hid hB2; have HT2 := Lib.hid hT2; have HW2 := Lib.hid hW2; have HZ := Lib.hid hsz
  clear hW hN hrow hB1 hB2 hT2 hW2 hsz
  go_wp2_with fail
  rw [← HW2.out]
  clear c0 c1 c2 x0 x1 x2 x3
  obtain ⟨t0, t1, t2⟩ := HT2.out
  have hlt := lt_of_cell t0
  go_wp2_with fail
  refine wp_region_held_drew (S := (fun w' => w'.cell? ⟨W.heap.size, 0, none⟩ = some (.int .i64 6) ∧ w'.cell? ⟨W.heap.size, 1, none⟩ = some (.int .i64 x) ∧ w'.cell? ⟨W.heap.size, 2, none⟩ = some (.int .i64 0))) (by kernel_rfl) ?_ (fun hHeld => ?_)
  · exact ⟨t0, t1, t2⟩
  refine wpAnyH_take (i := 1) (oi := { dst := some 31, op := Op.fieldAddr 55 (Operand.tmp 6) 0, type := 0, pos := "ref.go:99", after := #[], guard := none }) (v := ?vp1) rfl (by kernel_rfl) (by kernel_rfl) (by kernel_rfl) (fun _ _ _ h => h) (Or.inl ⟨by rfl, ?hyp1⟩) hHeld ?_
  case hyp1 => (intro w hSw; (try dsimp only at hSw); go_simp; (try with_reducible rfl))
  try simp only [Act.put, List.setIfInBounds_toArray, List.set_cons_zero, List.set_cons_succ]
  refine wpAnyH_take (i := 2) (oi := { dst := some 32, op := Op.load 3 (Operand.tmp 31), type := 3, pos := "ref.go:99", after := #[{ on := 1, ground := Ground.data }], guard := none }) (v := ?vp2) rfl (by kernel_rfl) (by kernel_rfl) (by kernel_rfl) (fun _ _ _ h => h) (Or.inl ⟨by rfl, ?hyp2⟩) hHeld ?_
  case hyp2 => (intro w hSw; (try dsimp only at hSw); go_simp; (try with_reducible rfl))
  try simp only [Act.put, List.setIfInBounds_toArray, List.set_cons_zero, List.set_cons_succ]
  refine wpAnyH_take (i := 6) (oi := { dst := some 36, op := Op.fieldAddr 55 (Operand.tmp 6) 1, type := 0, pos := "ref.go:99", after := #[], guard := none }) (v := ?vp6) rfl (by kernel_rfl) (by kernel_rfl) (by kernel_rfl) (fun _ _ _ h => h) (Or.inl ⟨by rfl, ?hyp6⟩) hHeld ?_
  case hyp6 => (intro w hSw; (try dsimp only at hSw); go_simp; (try with_reducible rfl))
  try simp only [Act.put, List.setIfInBounds_toArray, List.set_cons_zero, List.set_cons_succ]
  refine wpAnyH_take (i := 7) (oi := { dst := some 37, op := Op.load 3 (Operand.tmp 36), type := 3, pos := "ref.go:99", after := #[{ on := 6, ground := Ground.data }], guard := none }) (v := ?vp7) rfl (by kernel_rfl) (by kernel_rfl) (by kernel_rfl) (fun _ _ _ h => h) (Or.inl ⟨by rfl, ?hyp7⟩) hHeld ?_
  case hyp7 => (intro w hSw; (try dsimp only at hSw); go_simp; (try with_reducible rfl))
  try simp only [Act.put, List.setIfInBounds_toArray, List.set_cons_zero, List.set_cons_succ]
  clear t0 t1 t2
  refine wpAnyH_ready (rs := [0, 8]) (by kernel_rfl) (by simp) ?_
  refine AllReadyH.cons (o := { dst := some 30, op := Op.buildSlice 28 7 #[(0, Operand.const (Value.string { data := #[] })), (1, Operand.const (Value.string { data := #[105, 110] })), (2, Operand.const (Value.string { data := #[103, 108, 111, 98] })), (3, Operand.const (Value.string { data := #[114, 101, 103] })), (4, Operand.const (Value.string { data := #[99, 97, 114] })), (5, Operand.const (Value.string { data := #[99, 100, 114] })), (6, Operand.const (Value.string { data := #[99, 111, 108, 111, 117, 114] }))], type := 28, pos := "ref.go:99", after := #[], guard := none }) rfl (fun K hK => ?_) ?_
  · go_simp
    have hBA := (below_on HB2.out (.cells #[.string ⟨#[]⟩, .string ⟨#[105, 110]⟩, .string ⟨#[103, 108, 111, 98]⟩, .string ⟨#[114, 101, 103]⟩, .string ⟨#[99, 97, 114]⟩, .string ⟨#[99, 100, 114]⟩, .string ⟨#[99, 111, 108, 111, 117, 114]⟩] 9)).drew
    have hTA : TriAt (W2.alloc (.cells #[.string ⟨#[]⟩, .string ⟨#[105, 110]⟩, .string ⟨#[103, 108, 111, 98]⟩, .string ⟨#[114, 101, 103]⟩, .string ⟨#[99, 97, 114]⟩, .string ⟨#[99, 100, 114]⟩, .string ⟨#[99, 111, 108, 111, 117, 114]⟩] 9)).drew W.heap.size 6 x 0 := TriAt.below HT2.out (below_new W2 (.cells #[.string ⟨#[]⟩, .string ⟨#[105, 110]⟩, .string ⟨#[103, 108, 111, 98]⟩, .string ⟨#[114, 101, 103]⟩, .string ⟨#[99, 97, 114]⟩, .string ⟨#[99, 100, 114]⟩, .string ⟨#[99, 111, 108, 111, 117, 114]⟩] 9)).drew
    refine hK.out _ _ ?_ (fun hHeld => ?_)
    · exact hTA
    clear hK K
    try simp only [Act.put, List.setIfInBounds_toArray, List.set_cons_zero, List.set_cons_succ]
    refine wpAnyH_take (i := 3) (oi := { dst := some 33, op := Op.indexAddr 28 (Operand.tmp 30) (Operand.tmp 32), type := 0, pos := "ref.go:99", after := #[{ on := 0, ground := Ground.data }, { on := 2, ground := Ground.data }], guard := none }) (v := ?va3) rfl (by kernel_rfl) (by kernel_rfl) (by kernel_rfl) (fun _ _ _ h => h) (Or.inl ⟨by rfl, ?hya3⟩) hHeld ?_
    case hya3 => (intro w hSw; (try dsimp only at hSw); go_simp; (try with_reducible rfl))
    try simp only [Act.put, List.setIfInBounds_toArray, List.set_cons_zero, List.set_cons_succ]
    refine wpAnyH_ready (rs := [4, 8]) (by kernel_rfl) (by simp) ?_
    refine AllReadyH.cons (o := { dst := some 34, op := Op.load 9 (Operand.tmp 33), type := 9, pos := "ref.go:99", after := #[{ on := 3, ground := Ground.data }], guard := none }) rfl (fun K hK => ?_) ?_
    · go_simp
      refine hK.out _ _ ?_ (fun hHeld => ?_)
      · exact hTA
      clear hK K
      try simp only [Act.put, List.setIfInBounds_toArray, List.set_cons_zero, List.set_cons_succ]
      refine wpAnyH_take (i := 5) (oi := { dst := some 35, op := Op.binOp BinOp.add 9 (Operand.tmp 34) (Operand.const (Value.string { data := #[32] })) 9, type := 9, pos := "ref.go:99", after := #[{ on := 4, ground := Ground.data }], guard := none }) (v := ?va5) rfl (by kernel_rfl) (by kernel_rfl) (by kernel_rfl) (fun _ _ _ h => h) (Or.inl ⟨by rfl, ?hya5⟩) hHeld ?_
      case hya5 => (intro w hSw; (try dsimp only at hSw); go_simp; (try with_reducible rfl))
      try simp only [Act.put, List.setIfInBounds_toArray, List.set_cons_zero, List.set_cons_succ]
      refine wpAnyH_ready (rs := [8]) (by kernel_rfl) (by simp) ?_
      refine AllReadyH.cons (o := { dst := some 38, op := Op.call { callee := Callee.value (Operand.func 22), args := #[Operand.tmp 37], argTypes := #[3] }, type := 9, pos := "ref.go:99", after := #[{ on := 7, ground := Ground.data }], guard := none }) rfl (fun K hK => ?_) AllReadyH.nil
      go_simp
      refine (HD.out _).mono ?_
      rintro e v ⟨rfl, hV⟩
      have hX : TriAt v W.heap.size 6 x 0 := TriAt.below hTA hV
      have hQ := belowOn (w := w) hBA hV
      clear hV hHeld
      try go_wp2_with fail
      refine hK.out _ _ ?_ (fun hHeld => ?_)
      · exact hX
      clear hK K
      try simp only [Act.put, List.setIfInBounds_toArray, List.set_cons_zero, List.set_cons_succ]
      refine wpAnyH_take (i := 9) (oi := { dst := some 39, op := Op.binOp BinOp.add 9 (Operand.tmp 35) (Operand.tmp 38) 9, type := 9, pos := "ref.go:99", after := #[{ on := 5, ground := Ground.data }, { on := 8, ground := Ground.data }], guard := none }) (v := ?va9) rfl (by kernel_rfl) (by kernel_rfl) (by kernel_rfl) (fun _ _ _ h => h) (Or.inl ⟨by rfl, ?hya9⟩) hHeld ?_
      case hya9 => (intro w hSw; (try dsimp only at hSw); go_simp; (try with_reducible rfl))
      try simp only [Act.put, List.setIfInBounds_toArray, List.set_cons_zero, List.set_cons_succ]
      refine wpAnyH_take (i := 10) (oi := { dst := some 7, op := Op.assign (Operand.tmp 39), type := 9, pos := "ref.go:99", after := #[{ on := 9, ground := Ground.data }, { on := 8, ground := Ground.chain }, { on := 0, ground := Ground.phase }, { on := 1, ground := Ground.phase }, { on := 2, ground := Ground.phase }, { on := 3, ground := Ground.phase }, { on := 4, ground := Ground.phase }, { on := 5, ground := Ground.phase }, { on := 6, ground := Ground.phase }, { on := 7, ground := Ground.phase }, { on := 8, ground := Ground.phase }, { on := 9, ground := Ground.phase }], guard := none }) (v := ?va10) rfl (by kernel_rfl) (by kernel_rfl) (by kernel_rfl) (fun _ _ _ h => h) (Or.inl ⟨by rfl, ?hya10⟩) hHeld ?_
      case hya10 => (intro w hSw; (try dsimp only at hSw); go_simp; (try with_reducible rfl))
      try simp only [Act.put, List.setIfInBounds_toArray, List.set_cons_zero, List.set_cons_succ]
      refine wpAnyH_done (by kernel_rfl) ?_ _
      obtain ⟨r0, r1, r2⟩ := hX
      clear hHeld
      go_wp2_with fail
      go_ret
      refine ⟨?_, hQ⟩
      rw [HO.out]
      exact congrArg (fun x => Ending.returned (Value.string x)) (bytes3 [99, 111, 108, 111, 117, 114] s)
    refine AllReadyH.cons (o := { dst := some 38, op := Op.call { callee := Callee.value (Operand.func 22), args := #[Operand.tmp 37], argTypes := #[3] }, type := 9, pos := "ref.go:99", after := #[{ on := 7, ground := Ground.data }], guard := none }) rfl (fun K hK => ?_) AllReadyH.nil
    go_simp
    refine (HD.out _).mono ?_
    rintro e v ⟨rfl, hV⟩
    have hX : TriAt v W.heap.size 6 x 0 := TriAt.below hTA hV
    have hQ := belowOn (w := w) hBA hV
    have hC := (hV.cell (p := ⟨W2.heap.size, 6, none⟩) (by simp)).trans (World.cell?_alloc_new ..)
    clear hV hHeld
    try go_wp2_with fail
    refine hK.out _ _ ?_ (fun hHeld => ?_)
    · exact hX
    clear hK K
    try simp only [Act.put, List.setIfInBounds_toArray, List.set_cons_zero, List.set_cons_succ]
    refine wpAnyH_ready (rs := [4]) (by kernel_rfl) (by simp) ?_
    refine AllReadyH.cons (o := { dst := some 34, op := Op.load 9 (Operand.tmp 33), type := 9, pos := "ref.go:99", after := #[{ on := 3, ground := Ground.data }], guard := none }) rfl (fun K hK => ?_) AllReadyH.nil
    go_simp
    refine hK.out _ _ ?_ (fun hHeld => ?_)
    · exact hX
    clear hK K
    try simp only [Act.put, List.setIfInBounds_toArray, List.set_cons_zero, List.set_cons_succ]
    refine wpAnyH_take (i := 5) (oi := { dst := some 35, op := Op.binOp BinOp.add 9 (Operand.tmp 34) (Operand.const (Value.string { data := #[32] })) 9, type := 9, pos := "ref.go:99", after := #[{ on := 4, ground := Ground.data }], guard := none }) (v := ?vb5) rfl (by kernel_rfl) (by kernel_rfl) (by kernel_rfl) (fun _ _ _ h => h) (Or.inl ⟨by rfl, ?hyb5⟩) hHeld ?_
    case hyb5 => (intro w hSw; (try dsimp only at hSw); go_simp; (try with_reducible rfl))
    try simp only [Act.put, List.setIfInBounds_toArray, List.set_cons_zero, List.set_cons_succ]
    refine wpAnyH_take (i := 9) (oi := { dst := some 39, op := Op.binOp BinOp.add 9 (Operand.tmp 35) (Operand.tmp 38) 9, type := 9, pos := "ref.go:99", after := #[{ on := 5, ground := Ground.data }, { on := 8, ground := Ground.data }], guard := none }) (v := ?vb9) rfl (by kernel_rfl) (by kernel_rfl) (by kernel_rfl) (fun _ _ _ h => h) (Or.inl ⟨by rfl, ?hyb9⟩) hHeld ?_
    case hyb9 => (intro w hSw; (try dsimp only at hSw); go_simp; (try with_reducible rfl))
    try simp only [Act.put, List.setIfInBounds_toArray, List.set_cons_zero, List.set_cons_succ]
    refine wpAnyH_take (i := 10) (oi := { dst := some 7, op := Op.assign (Operand.tmp 39), type := 9, pos := "ref.go:99", after := #[{ on := 9, ground := Ground.data }, { on := 8, ground := Ground.chain }, { on := 0, ground := Ground.phase }, { on := 1, ground := Ground.phase }, { on := 2, ground := Ground.phase }, { on := 3, ground := Ground.phase }, { on := 4, ground := Ground.phase }, { on := 5, ground := Ground.phase }, { on := 6, ground := Ground.phase }, { on := 7, ground := Ground.phase }, { on := 8, ground := Ground.phase }, { on := 9, ground := Ground.phase }], guard := none }) (v := ?vb10) rfl (by kernel_rfl) (by kernel_rfl) (by kernel_rfl) (fun _ _ _ h => h) (Or.inl ⟨by rfl, ?hyb10⟩) hHeld ?_
    case hyb10 => (intro w hSw; (try dsimp only at hSw); go_simp; (try with_reducible rfl))
    try simp only [Act.put, List.setIfInBounds_toArray, List.set_cons_zero, List.set_cons_succ]
    refine wpAnyH_done (by kernel_rfl) ?_ _
    obtain ⟨r0, r1, r2⟩ := hX
    clear hHeld
    go_wp2_with fail
    go_ret
    refine ⟨?_, hQ⟩
    rw [HO.out]
    exact congrArg (fun x => Ending.returned (Value.string x)) (bytes3 [99, 111, 108, 111, 117, 114] s)
  refine AllReadyH.cons (o := { dst := some 38, op := Op.call { callee := Callee.value (Operand.func 22), args := #[Operand.tmp 37], argTypes := #[3] }, type := 9, pos := "ref.go:99", after := #[{ on := 7, ground := Ground.data }], guard := none }) rfl (fun K hK => ?_) AllReadyH.nil
  go_simp
  refine (HD.out _).mono ?_
  rintro e v ⟨rfl, hV⟩
  have hX : TriAt v W.heap.size 6 x 0 := TriAt.below (show TriAt W2.drew W.heap.size 6 x 0 from HT2.out) hV
  have hQ := belowOn (w := w) HB2.out.drew hV
  clear hV hHeld
  try go_wp2_with fail
  refine hK.out _ _ ?_ (fun hHeld => ?_)
  · exact hX
  clear hK K
  try simp only [Act.put, List.setIfInBounds_toArray, List.set_cons_zero, List.set_cons_succ]
  refine wpAnyH_ready (rs := [0]) (by kernel_rfl) (by simp) ?_
  refine AllReadyH.cons (o := { dst := some 30, op := Op.buildSlice 28 7 #[(0, Operand.const (Value.string { data := #[] })), (1, Operand.const (Value.string { data := #[105, 110] })), (2, Operand.const (Value.string { data := #[103, 108, 111, 98] })), (3, Operand.const (Value.string { data := #[114, 101, 103] })), (4, Operand.const (Value.string { data := #[99, 97, 114] })), (5, Operand.const (Value.string { data := #[99, 100, 114] })), (6, Operand.const (Value.string { data := #[99, 111, 108, 111, 117, 114] }))], type := 28, pos := "ref.go:99", after := #[], guard := none }) rfl (fun K hK => ?_) AllReadyH.nil
  go_simp
  have hXB : TriAt (v.alloc (.cells #[.string ⟨#[]⟩, .string ⟨#[105, 110]⟩, .string ⟨#[103, 108, 111, 98]⟩, .string ⟨#[114, 101, 103]⟩, .string ⟨#[99, 97, 114]⟩, .string ⟨#[99, 100, 114]⟩, .string ⟨#[99, 111, 108, 111, 117, 114]⟩] 9)) W.heap.size 6 x 0 := TriAt.below hX (below_new v (.cells #[.string ⟨#[]⟩, .string ⟨#[105, 110]⟩, .string ⟨#[103, 108, 111, 98]⟩, .string ⟨#[114, 101, 103]⟩, .string ⟨#[99, 97, 114]⟩, .string ⟨#[99, 100, 114]⟩, .string ⟨#[99, 111, 108, 111, 117, 114]⟩] 9))
  refine hK.out _ _ ?_ (fun hHeld => ?_)
  · exact hXB
  clear hK K
  try simp only [Act.put, List.setIfInBounds_toArray, List.set_cons_zero, List.set_cons_succ]
  refine wpAnyH_take (i := 3) (oi := { dst := some 33, op := Op.indexAddr 28 (Operand.tmp 30) (Operand.tmp 32), type := 0, pos := "ref.go:99", after := #[{ on := 0, ground := Ground.data }, { on := 2, ground := Ground.data }], guard := none }) (v := ?vc3) rfl (by kernel_rfl) (by kernel_rfl) (by kernel_rfl) (fun _ _ _ h => h) (Or.inl ⟨by rfl, ?hyc3⟩) hHeld ?_
  case hyc3 => (intro w hSw; (try dsimp only at hSw); go_simp; (try with_reducible rfl))
  try simp only [Act.put, List.setIfInBounds_toArray, List.set_cons_zero, List.set_cons_succ]
  refine wpAnyH_ready (rs := [4]) (by kernel_rfl) (by simp) ?_
  refine AllReadyH.cons (o := { dst := some 34, op := Op.load 9 (Operand.tmp 33), type := 9, pos := "ref.go:99", after := #[{ on := 3, ground := Ground.data }], guard := none }) rfl (fun K hK => ?_) AllReadyH.nil
  go_simp
  refine hK.out _ _ ?_ (fun hHeld => ?_)
  · exact hXB
  clear hK K
  try simp only [Act.put, List.setIfInBounds_toArray, List.set_cons_zero, List.set_cons_succ]
  refine wpAnyH_take (i := 5) (oi := { dst := some 35, op := Op.binOp BinOp.add 9 (Operand.tmp 34) (Operand.const (Value.string { data := #[32] })) 9, type := 9, pos := "ref.go:99", after := #[{ on := 4, ground := Ground.data }], guard := none }) (v := ?vc5) rfl (by kernel_rfl) (by kernel_rfl) (by kernel_rfl) (fun _ _ _ h => h) (Or.inl ⟨by rfl, ?hyc5⟩) hHeld ?_
  case hyc5 => (intro w hSw; (try dsimp only at hSw); go_simp; (try with_reducible rfl))
  try simp only [Act.put, List.setIfInBounds_toArray, List.set_cons_zero, List.set_cons_succ]
  refine wpAnyH_take (i := 9) (oi := { dst := some 39, op := Op.binOp BinOp.add 9 (Operand.tmp 35) (Operand.tmp 38) 9, type := 9, pos := "ref.go:99", after := #[{ on := 5, ground := Ground.data }, { on := 8, ground := Ground.data }], guard := none }) (v := ?vc9) rfl (by kernel_rfl) (by kernel_rfl) (by kernel_rfl) (fun _ _ _ h => h) (Or.inl ⟨by rfl, ?hyc9⟩) hHeld ?_
  case hyc9 => (intro w hSw; (try dsimp only at hSw); go_simp; (try with_reducible rfl))
  try simp only [Act.put, List.setIfInBounds_toArray, List.set_cons_zero, List.set_cons_succ]
  refine wpAnyH_take (i := 10) (oi := { dst := some 7, op := Op.assign (Operand.tmp 39), type := 9, pos := "ref.go:99", after := #[{ on := 9, ground := Ground.data }, { on := 8, ground := Ground.chain }, { on := 0, ground := Ground.phase }, { on := 1, ground := Ground.phase }, { on := 2, ground := Ground.phase }, { on := 3, ground := Ground.phase }, { on := 4, ground := Ground.phase }, { on := 5, ground := Ground.phase }, { on := 6, ground := Ground.phase }, { on := 7, ground := Ground.phase }, { on := 8, ground := Ground.phase }, { on := 9, ground := Ground.phase }], guard := none }) (v := ?vc10) rfl (by kernel_rfl) (by kernel_rfl) (by kernel_rfl) (fun _ _ _ h => h) (Or.inl ⟨by rfl, ?hyc10⟩) hHeld ?_
  case hyc10 => (intro w hSw; (try dsimp only at hSw); go_simp; (try with_reducible rfl))
  try simp only [Act.put, List.setIfInBounds_toArray, List.set_cons_zero, List.set_cons_succ]
  refine wpAnyH_done (by kernel_rfl) ?_ _
  obtain ⟨r0, r1, r2⟩ := hXB
  clear hHeld
  go_wp2_with fail
  go_ret
  refine ⟨?_, (below_on hQ (.cells #[.string ⟨#[]⟩, .string ⟨#[105, 110]⟩, .string ⟨#[103, 108, 111, 98]⟩, .string ⟨#[114, 101, 103]⟩, .string ⟨#[99, 97, 114]⟩, .string ⟨#[99, 100, 114]⟩, .string ⟨#[99, 111, 108, 111, 117, 114]⟩] 9))⟩
  rw [HO.out]
  exact congrArg (fun x => Ending.returned (Value.string x)) (bytes3 [99, 111, 108, 111, 117, 114] s)
theorem refName_right (a b c d n : Int) (hr : Right a b c d) (h0 : 0 ≤ n) (hn : n < 5 + b + d + b * c + 3 * a) (w : World) :
    Calls Tryd.prog 14 #[.agg #[.int .i64 a, .int .i64 b, .int .i64 c, .int .i64 d], .int .i64 n] w fun e w' => e = .returned (.string ⟨(nameOf (spotF b c d n)).toArray⟩) ∧ Below w.heap.size w w' := by
  obtain ⟨m, rfl⟩ : ∃ m : Nat, n = m := ⟨n.toNat, by omega⟩
  have hp := hr.prod
  have hr' := hr
  unfold Right at hr'
  by_cases h5 : (m : Int) < 5
  · rw [spot_once h5]
    obtain rfl | rfl | rfl | rfl | rfl : m = 0 ∨ m = 1 ∨ m = 2 ∨ m = 3 ∨ m = 4 := by omega
    · exact refName_once0 a b c d hr w
    · exact refName_once1 a b c d hr w
    · exact refName_once2 a b c d hr w
    · exact refName_once3 a b c d hr w
    · exact refName_once4 a b c d hr w
  by_cases h6 : (m : Int) < 5 + b
  · exact refName_in a b c d _ m hr hn (spot_in h5 h6) (by omega) (by omega) w
  by_cases h7 : (m : Int) < 5 + b + d
  · exact refName_glob a b c d _ m hr hn (spot_glob h5 h6 h7) (by omega) (by omega) w
  by_cases h8 : (m : Int) < 5 + b + d + b * c
  · have hq1 : 0 ≤ ((m : Int) - (5 + b + d)) / c := Int.ediv_nonneg (by omega) (by omega)
    have hq2 : ((m : Int) - (5 + b + d)) / c < b := Int.ediv_lt_of_lt_mul (by omega) (by omega)
    have hm1 : 0 ≤ ((m : Int) - (5 + b + d)) % c := Int.emod_nonneg _ (by omega)
    have hm2 : ((m : Int) - (5 + b + d)) % c < c := Int.emod_lt_of_pos _ (by omega)
    exact refName_reg a b c d _ _ m hr hn (by unfold spotF; rw [if_neg h5, if_neg h6, if_neg h7, if_pos h8]) hq1 (by omega) hm1 (by omega) w
  · have he : spotF b c d m = (4 + ((m : Int) - (5 + b + d + b * c)) % 3, ((m : Int) - (5 + b + d + b * c)) / 3, 0) := by unfold spotF; rw [if_neg h5, if_neg h6, if_neg h7, if_neg h8]
    have hk : ((m : Int) - (5 + b + d + b * c)) % 3 = 0 ∨ ((m : Int) - (5 + b + d + b * c)) % 3 = 1 ∨ ((m : Int) - (5 + b + d + b * c)) % 3 = 2 := by omega
    rcases hk with hk | hk | hk
    · rw [hk] at he; exact refName_car a b c d _ m hr hn he (by omega) (by omega) w
    · rw [hk] at he; exact refName_cdr a b c d _ m hr hn he (by omega) (by omega) w
    · rw [hk] at he; exact refName_colour a b c d _ m hr hn he (by omega) (by omega) w
end Go.Proofs.YtdhejdehlomppaaDoor
