/- HandFields answers true for every configuration, word and part: the place of any part of any word is as the document says; a new hand has the words at first; a nil one does nothing. Also the laws' own first look (awake). -/
import Derived.Test.YtoojiaaooccknaaDoorHandNew
import Derived.Test.YtoojiaaooccknaaDoorHandRefCalls
namespace Go.Proofs.YtoojiaaooccknaaDoor
open Go Go.RowKit
set_option maxRecDepth 100000
attribute [local go_sem ↓] Go.wp_at_zero Go.wp_at_succ

theorem fst_u64 {a b c d : Int} (hr : Right a b c d) (j : Nat) : U64 (fstV a b c d j) := by
  unfold fstV
  by_cases h : (spotF b c d j).1 = 5 ∧ (spotF b c d j).2.1 + 1 < a
  · rw [if_pos h]
    have h0 := spot_five_pos hr j h.1
    have h1 := h.2
    unfold Right at hr
    unfold U64
    omega
  · rw [if_neg h]
    by_cases h2 : (spotF b c d j).1 = 0 ∧ (spotF b c d j).2.1 = 0
    · rw [if_pos h2]; unfold U64; omega
    · rw [if_neg h2]; unfold U64; omega
theorem right0 : Right 2 1 1 0 := by unfold Right; omega
theorem fst0 : fstV 2 1 1 0 (Int.toNat 0) = 1 := by
  show fstV 2 1 1 0 0 = 1
  unfold fstV
  rw [spot_zero, if_neg (by simp), if_pos ⟨rfl, rfl⟩]
/-- A hand's blocks lie behind what was there. -/
theorem Sav.old {H G : Nat} {w W V : World} (h : Sav (HG H G) W V) (hb : Below w.heap.size w W) (h1 : w.heap.size ≤ H) (h2 : w.heap.size ≤ G) : Below w.heap.size w V :=
  hb.trans (h.below hb.size (fun k hk e => by rcases e with e | e <;> omega))
theorem awake_c (w : World) (hS : SpansAt w) :
    Calls Tryd.prog 6 #[] w fun e w' => e = .returned (.bool true) ∧ Below w.heap.size w w' := by
  have HN := Lib.hid (New_yes 2 1 1 0 right0 w hS)
  clear hS
  go_enter Tryd.func6, Tryd.ntmps6
  go_wp2_with fail
  refine HN.out.mono ?_
  rintro e W ⟨n, hn, H, A, G, rfl, hF, hb, l1, l2, l3⟩
  have hL := hLoad_c hF (fst_u64 right0) 0
  have hz : ∀ v, z5 n 1 0 v = v := fun v => if_pos ⟨by omega, by omega, by omega, by omega⟩
  rw [fst0] at hL
  simp only [hz] at hL
  generalize wordsQ n (fstV 2 1 1 0) 1 0 0 0 = f' at hL
  have HL := Lib.hid hL
  have HB := Lib.hid hb
  clear hL hz hF hb hn HN
  go_wp2_with fail
  refine HL.out.mono ?_
  rintro e V ⟨rfl, hF, hs⟩
  have HB2 := Lib.hid (hs.old HB.out l1 l3)
  obtain ⟨_, _, h5, h6, h7, h8, h9, _⟩ := hF.cells
  clear hF hs HL HB
  go_wp2_with fail
  go_ret
  exact ⟨rfl, HB2.out⟩
theorem fields_great (a b c d : Int) (hg : grt a b c d) (v : Nat) (p : Int) (w : World) (hS : SpansAt w) :
    Calls Tryd.prog 4 #[.agg #[.int .i64 a, .int .i64 b, .int .i64 c, .int .i64 d], .int .u64 v, .int .i64 p] w fun e w' => e = .returned (.bool true) ∧ Below w.heap.size w w' := by
  have HB0 := Lib.hid (below_new w (.cells #[.int .i64 a, .int .i64 b, .int .i64 c, .int .i64 d] 23))
  have HX0 := Lib.hid (BoxAt.new w a b c d 23)
  have HS := Lib.hid hS
  clear hS
  obtain ⟨x0, x1, x2, x3⟩ := HX0.out
  have HG := Lib.hid (great_yes a b c d hg)
  clear hg
  go_enter Tryd.func4, Tryd.ntmps4
  go_wp2_with fail
  refine (awake_c _ (HS.out.below HB0.out)).mono ?_
  rintro e W1 ⟨rfl, hW⟩
  have HB1 := Lib.hid (belowOn HB0.out hW)
  have HX1 := Lib.hid (HX0.out.below hW)
  clear hW HB0 HX0 x0 x1 x2 x3
  obtain ⟨x0, x1, x2, x3⟩ := HX1.out
  go_wp2_with fail
  refine (HG.out _).mono ?_
  rintro e W2 ⟨rfl, hW⟩
  have HB2 := Lib.hid (belowOn HB1.out hW)
  have HX2 := Lib.hid (HX1.out.below hW)
  clear hW HB1 HX1 x0 x1 x2 x3
  obtain ⟨x0, x1, x2, x3⟩ := HX2.out
  go_wp2_with fail
  go_ret
  exact ⟨rfl, HB2.out⟩
theorem fields_wrong (a b c d : Int) (hr : ¬ Right a b c d) (hg : ¬ grt a b c d) (v : Nat) (hv : v < 18446744073709551616) (p : Int) (w : World) (hS : SpansAt w) :
    Calls Tryd.prog 4 #[.agg #[.int .i64 a, .int .i64 b, .int .i64 c, .int .i64 d], .int .u64 v, .int .i64 p] w fun e w' => e = .returned (.bool true) ∧ Below w.heap.size w w' := by
  have HB0 := Lib.hid (below_new w (.cells #[.int .i64 a, .int .i64 b, .int .i64 c, .int .i64 d] 23))
  have HX0 := Lib.hid (BoxAt.new w a b c d 23)
  have HS := Lib.hid hS
  clear hS
  obtain ⟨x0, x1, x2, x3⟩ := HX0.out
  have HG := Lib.hid (great_no a b c d hg)
  have HN := Lib.hid (New_no a b c d hr)
  have HR := Lib.hid (refRight_wrong a b c d hr)
  clear hg hr
  go_enter Tryd.func4, Tryd.ntmps4
  go_wp2_with fail
  refine (awake_c _ (HS.out.below HB0.out)).mono ?_
  rintro e W1 ⟨rfl, hW⟩
  have HB1 := Lib.hid (belowOn HB0.out hW)
  have HX1 := Lib.hid (HX0.out.below hW)
  clear hW HB0 HX0 x0 x1 x2 x3
  obtain ⟨x0, x1, x2, x3⟩ := HX1.out
  go_wp2_with fail
  refine (HG.out _).mono ?_
  rintro e W2 ⟨rfl, hW⟩
  have HB2 := Lib.hid (belowOn HB1.out hW)
  have HX2 := Lib.hid (HX1.out.below hW)
  clear hW HB1 HX1 x0 x1 x2 x3
  obtain ⟨x0, x1, x2, x3⟩ := HX2.out
  go_wp2_with fail
  refine (hStore_nil 0 (v : Int) _).mono ?_
  rintro e W3 ⟨rfl, hW⟩
  have HB3 := Lib.hid (belowOn HB2.out hW)
  have HX3 := Lib.hid (HX2.out.below hW)
  clear hW HB2 HX2 x0 x1 x2 x3
  obtain ⟨x0, x1, x2, x3⟩ := HX3.out
  go_wp2_with fail
  refine (hClear_nil _).mono ?_
  rintro e W' ⟨rfl, rfl⟩
  go_wp2_with fail
  refine (hLoad_nil 0 _).mono ?_
  rintro e W4 ⟨rfl, hW⟩
  have HB4 := Lib.hid (belowOn HB3.out hW)
  have HX4 := Lib.hid (HX3.out.below hW)
  clear hW HB3 HX3 x0 x1 x2 x3
  obtain ⟨x0, x1, x2, x3⟩ := HX4.out
  go_wp2_with fail
  refine (hAdd_nil 0 (v : Int) _).mono ?_
  rintro e W5 ⟨rfl, hW⟩
  have HB5 := Lib.hid (belowOn HB4.out hW)
  have HX5 := Lib.hid (HX4.out.below hW)
  clear hW HB4 HX4 x0 x1 x2 x3
  obtain ⟨x0, x1, x2, x3⟩ := HX5.out
  go_wp2_with fail
  refine (hCas_nil 0 0 (v : Int) _).mono ?_
  rintro e W6 ⟨rfl, hW⟩
  have HB6 := Lib.hid (belowOn HB5.out hW)
  have HX6 := Lib.hid (HX5.out.below hW)
  clear hW HB5 HX5 x0 x1 x2 x3
  obtain ⟨x0, x1, x2, x3⟩ := HX6.out
  go_wp2_with fail
  refine (hField_nil v hv p _).mono ?_
  rintro e W' ⟨rfl, rfl⟩
  go_wp2_with fail
  refine (HN.out _ (HS.out.below HB6.out)).mono ?_
  rintro e W7 ⟨rfl, hW⟩
  have HB7 := Lib.hid (belowOn HB6.out hW)
  have HX7 := Lib.hid (HX6.out.below hW)
  clear hW HB6 HX6 x0 x1 x2 x3
  obtain ⟨x0, x1, x2, x3⟩ := HX7.out
  go_wp2_with fail
  refine (HR.out _).mono ?_
  rintro e W8 ⟨rfl, hW⟩
  have HB8 := Lib.hid (belowOn HB7.out hW)
  have HX8 := Lib.hid (HX7.out.below hW)
  clear hW HB7 HX7 x0 x1 x2 x3
  obtain ⟨x0, x1, x2, x3⟩ := HX8.out
  go_wp2_with fail
  go_ret
  exact ⟨rfl, HB8.out⟩
set_option maxHeartbeats 3200000 in
theorem fields_right (a b c d : Int) (hr : Right a b c d) (hg : ¬ grt a b c d) (v : Nat) (hv : v < 18446744073709551616) (p : Int) (w : World) (hS : SpansAt w) :
    Calls Tryd.prog 4 #[.agg #[.int .i64 a, .int .i64 b, .int .i64 c, .int .i64 d], .int .u64 v, .int .i64 p] w fun e w' => e = .returned (.bool true) ∧ Below w.heap.size w w' := by
  have HB0 := Lib.hid (below_new w (.cells #[.int .i64 a, .int .i64 b, .int .i64 c, .int .i64 d] 23))
  have HX0 := Lib.hid (BoxAt.new w a b c d 23)
  have HS := Lib.hid hS
  clear hS
  obtain ⟨x0, x1, x2, x3⟩ := HX0.out
  have HG := Lib.hid (great_no a b c d hg)
  have HN := Lib.hid (New_yes a b c d hr)
  have HRR := Lib.hid (refRight_right a b c d hr)
  have HR := Lib.hid hr
  clear hg hr
  go_enter Tryd.func4, Tryd.ntmps4
  go_wp2_with fail
  refine (awake_c _ (HS.out.below HB0.out)).mono ?_
  rintro e W1 ⟨rfl, hW⟩
  have HB1 := Lib.hid (belowOn HB0.out hW)
  have HX1 := Lib.hid (HX0.out.below hW)
  clear hW HB0 HX0 x0 x1 x2 x3
  obtain ⟨x0, x1, x2, x3⟩ := HX1.out
  go_wp2_with fail
  refine (HG.out _).mono ?_
  rintro e W2 ⟨rfl, hW⟩
  have HB2 := Lib.hid (belowOn HB1.out hW)
  have HX2 := Lib.hid (HX1.out.below hW)
  clear hW HB1 HX1 x0 x1 x2 x3
  obtain ⟨x0, x1, x2, x3⟩ := HX2.out
  go_wp2_with fail
  refine (hStore_nil 0 (v : Int) _).mono ?_
  rintro e W3 ⟨rfl, hW⟩
  have HB3 := Lib.hid (belowOn HB2.out hW)
  have HX3 := Lib.hid (HX2.out.below hW)
  clear hW HB2 HX2 x0 x1 x2 x3
  obtain ⟨x0, x1, x2, x3⟩ := HX3.out
  go_wp2_with fail
  refine (hClear_nil _).mono ?_
  rintro e W' ⟨rfl, rfl⟩
  go_wp2_with fail
  refine (hLoad_nil 0 _).mono ?_
  rintro e W4 ⟨rfl, hW⟩
  have HB4 := Lib.hid (belowOn HB3.out hW)
  have HX4 := Lib.hid (HX3.out.below hW)
  clear hW HB3 HX3 x0 x1 x2 x3
  obtain ⟨x0, x1, x2, x3⟩ := HX4.out
  go_wp2_with fail
  refine (hAdd_nil 0 (v : Int) _).mono ?_
  rintro e W5 ⟨rfl, hW⟩
  have HB5 := Lib.hid (belowOn HB4.out hW)
  have HX5 := Lib.hid (HX4.out.below hW)
  clear hW HB4 HX4 x0 x1 x2 x3
  obtain ⟨x0, x1, x2, x3⟩ := HX5.out
  go_wp2_with fail
  refine (hCas_nil 0 0 (v : Int) _).mono ?_
  rintro e W6 ⟨rfl, hW⟩
  have HB6 := Lib.hid (belowOn HB5.out hW)
  have HX6 := Lib.hid (HX5.out.below hW)
  clear hW HB5 HX5 x0 x1 x2 x3
  obtain ⟨x0, x1, x2, x3⟩ := HX6.out
  go_wp2_with fail
  refine (hField_nil v hv p _).mono ?_
  rintro e W' ⟨rfl, rfl⟩
  go_wp2_with fail
  refine (HN.out _ (HS.out.below HB6.out)).mono ?_
  rintro e W7 ⟨n, hn, H, A, G, rfl, hF, hW, l1, l2, l3⟩
  have hn20 : n ≤ 20000 := by have := HR.out.prod; have hr := HR.out; unfold Right at hr; omega
  have HF7 := Lib.hid hF
  have HB7 := Lib.hid (belowOn HB6.out hW)
  have HX7 := Lib.hid (HX6.out.below hW)
  clear hW hF HB6 HX6 x0 x1 x2 x3
  obtain ⟨x0, x1, x2, x3⟩ := HX7.out
  go_wp2_with fail
  refine (HRR.out _).mono ?_
  rintro e W8 ⟨rfl, hW⟩
  have HB9 : Hid (Below w.heap.size w (W8.alloc (.cells #[.int .i64 a, .int .i64 b, .int .i64 c, .int .i64 d, .slice none 0 0, .int .i64 0, .int .i64 0, .int .u64 0, .int .u64 0, .int .u64 0] 45)).drew) := Lib.hid (below_on (belowOn HB7.out hW) _).drew
  have HX9 : Hid (BoxAt (W8.alloc (.cells #[.int .i64 a, .int .i64 b, .int .i64 c, .int .i64 d, .slice none 0 0, .int .i64 0, .int .i64 0, .int .u64 0, .int .u64 0, .int .u64 0] 45)).drew w.heap.size a b c d) := Lib.hid (show BoxAt (W8.alloc (.cells #[.int .i64 a, .int .i64 b, .int .i64 c, .int .i64 d, .slice none 0 0, .int .i64 0, .int .i64 0, .int .u64 0, .int .u64 0, .int .u64 0] 45)) w.heap.size a b c d from (HX7.out.below hW).below (below_new _ _))
  have HF9 := Lib.hid ((HF7.out.below hW).below (below_new W8 (.cells #[.int .i64 a, .int .i64 b, .int .i64 c, .int .i64 d, .slice none 0 0, .int .i64 0, .int .i64 0, .int .u64 0, .int .u64 0, .int .u64 0] 45))).drew
  have HH9 : Hid (RHandAt (W8.alloc (.cells #[.int .i64 a, .int .i64 b, .int .i64 c, .int .i64 d, .slice none 0 0, .int .i64 0, .int .i64 0, .int .u64 0, .int .u64 0, .int .u64 0] 45)).drew W8.heap.size none 0 0 0 (fun _ => 0) a b c d 0 0 0 0 0) := Lib.hid ⟨(fun R e => by cases e), newBlock _ _, .inl rfl⟩
  have HX8 := Lib.hid (HX7.out.below hW)
  clear hW HB7 HX7 HF7 x0 x1 x2 x3
  obtain ⟨x0, x1, x2, x3⟩ := HX8.out
  go_wp2_with fail
  clear x0 x1 x2 x3 HX8
  obtain ⟨x0, x1, x2, x3⟩ := HX9.out
  obtain ⟨h0, _⟩ := HF9.out.cells
  refine wp_region_held_drew (S := (fun w' => w'.cell? ⟨H, 0, none⟩ = some (.pointer (some ⟨A, 0, none⟩)) ∧ w'.cell? ⟨w.heap.size, 0, none⟩ = some (.int .i64 a) ∧ w'.cell? ⟨w.heap.size, 1, none⟩ = some (.int .i64 b) ∧ w'.cell? ⟨w.heap.size, 2, none⟩ = some (.int .i64 c) ∧ w'.cell? ⟨w.heap.size, 3, none⟩ = some (.int .i64 d))) (by kernel_rfl) ?_ (fun hHeld => ?_)
  · exact ⟨h0, x0, x1, x2, x3⟩
  refine wpAnyH_take (i := 0) (oi := { dst := some 64, op := Op.move (Operand.tmp 9), type := 29, pos := "law.go:98", after := #[], guard := none }) (v := ?vw0) rfl (by kernel_rfl) (by kernel_rfl) (by kernel_rfl) (fun _ _ _ h => h) (Or.inl ⟨by rfl, ?hyw0⟩) hHeld ?_
  case hyw0 => (intro w hSw; (try dsimp only at hSw); go_simp; (try with_reducible rfl))
  try simp only [Act.put, List.setIfInBounds_toArray, List.set_cons_zero, List.set_cons_succ]
  refine wpAnyH_take (i := 1) (oi := { dst := some 65, op := Op.binOp BinOp.eql 29 (Operand.tmp 64) (Operand.const (Value.int IntKind.i64 0)) 29, type := 4, pos := "law.go:98", after := #[{ on := 0, ground := Ground.data }], guard := none }) (v := ?vw1) rfl (by kernel_rfl) (by kernel_rfl) (by kernel_rfl) (fun _ _ _ h => h) (Or.inl ⟨by rfl, ?hyw1⟩) hHeld ?_
  case hyw1 => (intro w hSw; (try dsimp only at hSw); go_simp; (try with_reducible rfl))
  try simp only [Act.put, List.setIfInBounds_toArray, List.set_cons_zero, List.set_cons_succ]
  refine wpAnyH_take (i := 2) (oi := { dst := some 66, op := Op.move (Operand.tmp 65), type := 4, pos := "law.go:98", after := #[{ on := 1, ground := Ground.data }], guard := none }) (v := ?vw2) rfl (by kernel_rfl) (by kernel_rfl) (by kernel_rfl) (fun _ _ _ h => h) (Or.inl ⟨by rfl, ?hyw2⟩) hHeld ?_
  case hyw2 => (intro w hSw; (try dsimp only at hSw); go_simp; (try with_reducible rfl))
  try simp only [Act.put, List.setIfInBounds_toArray, List.set_cons_zero, List.set_cons_succ]
  refine wpAnyH_take (i := 3) (oi := { dst := some 67, op := Op.move (Operand.tmp 8), type := 28, pos := "law.go:98", after := #[{ on := 2, ground := Ground.guard }], guard := some (2, true) }) (v := ?vw3) rfl (by kernel_rfl) (by kernel_rfl) (by kernel_rfl) (fun _ _ _ h => h) (Or.inl ⟨by rfl, ?hyw3⟩) hHeld ?_
  case hyw3 => (intro w hSw; (try dsimp only at hSw); go_simp; (try with_reducible rfl))
  try simp only [Act.put, List.setIfInBounds_toArray, List.set_cons_zero, List.set_cons_succ]
  refine wpAnyH_take (i := 4) (oi := { dst := some 68, op := Op.move (Operand.tmp 1), type := 37, pos := "law.go:98", after := #[{ on := 2, ground := Ground.guard }], guard := some (2, true) }) (v := ?vw4) rfl (by kernel_rfl) (by kernel_rfl) (by kernel_rfl) (fun _ _ _ h => h) (Or.inl ⟨by rfl, ?hyw4⟩) hHeld ?_
  case hyw4 => (intro w hSw; (try dsimp only at hSw); go_simp; (try with_reducible rfl))
  try simp only [Act.put, List.setIfInBounds_toArray, List.set_cons_zero, List.set_cons_succ]
  refine wpAnyH_take (i := 5) (oi := { dst := some 69, op := Op.move (Operand.tmp 2), type := 3, pos := "law.go:98", after := #[{ on := 2, ground := Ground.guard }], guard := some (2, true) }) (v := ?vw5) rfl (by kernel_rfl) (by kernel_rfl) (by kernel_rfl) (fun _ _ _ h => h) (Or.inl ⟨by rfl, ?hyw5⟩) hHeld ?_
  case hyw5 => (intro w hSw; (try dsimp only at hSw); go_simp; (try with_reducible rfl))
  try simp only [Act.put, List.setIfInBounds_toArray, List.set_cons_zero, List.set_cons_succ]
  refine wpAnyH_take (i := 7) (oi := { dst := some 71, op := Op.move (Operand.tmp 10), type := 42, pos := "law.go:98", after := #[{ on := 2, ground := Ground.guard }], guard := some (2, true) }) (v := ?vw7) rfl (by kernel_rfl) (by kernel_rfl) (by kernel_rfl) (fun _ _ _ h => h) (Or.inl ⟨by rfl, ?hyw7⟩) hHeld ?_
  case hyw7 => (intro w hSw; (try dsimp only at hSw); go_simp; (try with_reducible rfl))
  try simp only [Act.put, List.setIfInBounds_toArray, List.set_cons_zero, List.set_cons_succ]
  refine wpAnyH_take (i := 8) (oi := { dst := some 72, op := Op.move (Operand.tmp 1), type := 37, pos := "law.go:98", after := #[{ on := 2, ground := Ground.guard }], guard := some (2, true) }) (v := ?vw8) rfl (by kernel_rfl) (by kernel_rfl) (by kernel_rfl) (fun _ _ _ h => h) (Or.inl ⟨by rfl, ?hyw8⟩) hHeld ?_
  case hyw8 => (intro w hSw; (try dsimp only at hSw); go_simp; (try with_reducible rfl))
  try simp only [Act.put, List.setIfInBounds_toArray, List.set_cons_zero, List.set_cons_succ]
  refine wpAnyH_take (i := 9) (oi := { dst := some 73, op := Op.move (Operand.tmp 2), type := 3, pos := "law.go:98", after := #[{ on := 2, ground := Ground.guard }], guard := some (2, true) }) (v := ?vw9) rfl (by kernel_rfl) (by kernel_rfl) (by kernel_rfl) (fun _ _ _ h => h) (Or.inl ⟨by rfl, ?hyw9⟩) hHeld ?_
  case hyw9 => (intro w hSw; (try dsimp only at hSw); go_simp; (try with_reducible rfl))
  try simp only [Act.put, List.setIfInBounds_toArray, List.set_cons_zero, List.set_cons_succ]
  refine wpAnyH_ready (rs := [6]) (by kernel_rfl) (by simp) ?_
  refine AllReadyH.cons (o := { dst := some 70, op := Op.call { callee := Callee.value (Operand.func 23), args := #[Operand.tmp 67, Operand.tmp 68, Operand.tmp 69], argTypes := #[28, 37, 3] }, type := 3, pos := "law.go:98", after := #[{ on := 3, ground := Ground.data }, { on := 4, ground := Ground.data }, { on := 5, ground := Ground.data }, { on := 2, ground := Ground.chain }, { on := 2, ground := Ground.guard }], guard := some (2, true) }) rfl (fun K hK => ?_) AllReadyH.nil
  go_simp
  refine (hField_c HF9.out (HS.out.below HB9.out) v hv p).mono ?_
  rintro e V10 ⟨rfl, hV⟩
  have HB10 := Lib.hid (belowOn HB9.out hV)
  have HX10 := Lib.hid (HX9.out.below hV)
  have HF10 := Lib.hid (HF9.out.below hV)
  have HH10 := Lib.hid (HH9.out.below hV)
  clear hV hHeld x0 x1 x2 x3 h0
  obtain ⟨x0, x1, x2, x3⟩ := HX10.out
  obtain ⟨h0, _⟩ := HF10.out.cells
  refine hK.out _ _ ?_ (fun hHeld => ?_)
  · exact ⟨h0, x0, x1, x2, x3⟩
  clear hK K
  try simp only [Act.put, List.setIfInBounds_toArray, List.set_cons_zero, List.set_cons_succ]
  refine wpAnyH_ready (rs := [10]) (by kernel_rfl) (by simp) ?_
  refine AllReadyH.cons (o := { dst := some 74, op := Op.call { callee := Callee.value (Operand.func 25), args := #[Operand.tmp 71, Operand.tmp 72, Operand.tmp 73], argTypes := #[42, 37, 3] }, type := 3, pos := "law.go:98", after := #[{ on := 7, ground := Ground.data }, { on := 8, ground := Ground.data }, { on := 9, ground := Ground.data }, { on := 6, ground := Ground.chain }, { on := 2, ground := Ground.guard }], guard := some (2, true) }) rfl (fun K hK => ?_) AllReadyH.nil
  go_simp
  refine (rField_c HH10.out HR.out v hv p).mono ?_
  rintro e V11 ⟨rfl, hV⟩
  have HB11 := Lib.hid (belowOn HB10.out hV)
  have HX11 := Lib.hid (HX10.out.below hV)
  have HF11 := Lib.hid (HF10.out.below hV)
  clear hV hHeld x0 x1 x2 x3 h0
  obtain ⟨x0, x1, x2, x3⟩ := HX11.out
  obtain ⟨h0, _⟩ := HF11.out.cells
  refine hK.out _ _ ?_ (fun hHeld => ?_)
  · exact ⟨h0, x0, x1, x2, x3⟩
  clear hK K
  try simp only [Act.put, List.setIfInBounds_toArray, List.set_cons_zero, List.set_cons_succ]
  refine wpAnyH_take (i := 11) (oi := { dst := some 75, op := Op.binOp BinOp.eql 3 (Operand.tmp 70) (Operand.tmp 74) 3, type := 4, pos := "law.go:98", after := #[{ on := 6, ground := Ground.data }, { on := 10, ground := Ground.data }, { on := 2, ground := Ground.guard }], guard := some (2, true) }) (v := ?vw11) rfl (by kernel_rfl) (by kernel_rfl) (by kernel_rfl) (fun _ _ _ h => h) (Or.inl ⟨by rfl, ?hyw11⟩) hHeld ?_
  case hyw11 => (intro w hSw; (try dsimp only at hSw); go_simp; (try with_reducible rfl))
  try simp only [Act.put, List.setIfInBounds_toArray, List.set_cons_zero, List.set_cons_succ]
  refine wpAnyH_take (i := 12) (oi := { dst := some 76, op := Op.pick (Operand.tmp 66) (Operand.tmp 75) (Operand.const (Value.bool false)), type := 4, pos := "law.go:98", after := #[{ on := 2, ground := Ground.data }, { on := 11, ground := Ground.data }], guard := none }) (v := ?vw12) rfl (by kernel_rfl) (by kernel_rfl) (by kernel_rfl) (fun _ _ _ h => h) (Or.inl ⟨by rfl, ?hyw12⟩) hHeld ?_
  case hyw12 => (intro w hSw; (try dsimp only at hSw); go_simp; (try with_reducible rfl))
  try simp only [Act.put, List.setIfInBounds_toArray, List.set_cons_zero, List.set_cons_succ]
  refine wpAnyH_take (i := 13) (oi := { dst := some 77, op := Op.move (Operand.tmp 76), type := 4, pos := "law.go:98", after := #[{ on := 12, ground := Ground.data }, { on := 10, ground := Ground.chain }], guard := none }) (v := ?vw13) rfl (by kernel_rfl) (by kernel_rfl) (by kernel_rfl) (fun _ _ _ h => h) (Or.inl ⟨by rfl, ?hyw13⟩) hHeld ?_
  case hyw13 => (intro w hSw; (try dsimp only at hSw); go_simp; (try with_reducible rfl))
  try simp only [Act.put, List.setIfInBounds_toArray, List.set_cons_zero, List.set_cons_succ]
  refine wpAnyH_take (i := 14) (oi := { dst := some 78, op := Op.move (Operand.tmp 8), type := 28, pos := "law.go:98", after := #[{ on := 13, ground := Ground.guard }], guard := some (13, true) }) (v := ?vw14) rfl (by kernel_rfl) (by kernel_rfl) (by kernel_rfl) (fun _ _ _ h => h) (Or.inl ⟨by rfl, ?hyw14⟩) hHeld ?_
  case hyw14 => (intro w hSw; (try dsimp only at hSw); go_simp; (try with_reducible rfl))
  try simp only [Act.put, List.setIfInBounds_toArray, List.set_cons_zero, List.set_cons_succ]
  refine wpAnyH_take (i := 15) (oi := { dst := some 79, op := Op.nilCheck (Operand.tmp 78), type := 0, pos := "law.go:98", after := #[{ on := 14, ground := Ground.data }, { on := 13, ground := Ground.guard }], guard := some (13, true) }) (v := ?vw15) rfl (by kernel_rfl) (by kernel_rfl) (by kernel_rfl) (fun _ _ _ h => h) (Or.inl ⟨by rfl, ?hyw15⟩) hHeld ?_
  case hyw15 => (intro w hSw; (try dsimp only at hSw); go_simp; (try with_reducible rfl))
  try simp only [Act.put, List.setIfInBounds_toArray, List.set_cons_zero, List.set_cons_succ]
  refine wpAnyH_take (i := 16) (oi := { dst := some 80, op := Op.fieldAddr 41 (Operand.tmp 79) 0, type := 0, pos := "law.go:98", after := #[{ on := 15, ground := Ground.data }, { on := 13, ground := Ground.guard }], guard := some (13, true) }) (v := ?vw16) rfl (by kernel_rfl) (by kernel_rfl) (by kernel_rfl) (fun _ _ _ h => h) (Or.inl ⟨by rfl, ?hyw16⟩) hHeld ?_
  case hyw16 => (intro w hSw; (try dsimp only at hSw); go_simp; (try with_reducible rfl))
  try simp only [Act.put, List.setIfInBounds_toArray, List.set_cons_zero, List.set_cons_succ]
  refine wpAnyH_take (i := 17) (oi := { dst := some 81, op := Op.load 33 (Operand.tmp 80), type := 33, pos := "law.go:98", after := #[{ on := 16, ground := Ground.data }, { on := 13, ground := Ground.guard }], guard := some (13, true) }) (v := ?vw17) rfl (by kernel_rfl) (by kernel_rfl) (by kernel_rfl) (fun _ _ _ h => h) (Or.inl ⟨by rfl, ?hyw17⟩) hHeld ?_
  case hyw17 => (intro w hSw; (try dsimp only at hSw); go_simp; (try with_reducible rfl))
  try simp only [Act.put, List.setIfInBounds_toArray, List.set_cons_zero, List.set_cons_succ]
  refine wpAnyH_take (i := 19) (oi := { dst := some 83, op := Op.load 23 (Operand.tmp 3), type := 23, pos := "law.go:98", after := #[{ on := 13, ground := Ground.guard }], guard := some (13, true) }) (v := ?vw19) rfl (by kernel_rfl) (by kernel_rfl) (by kernel_rfl) (fun _ _ _ h => h) (Or.inl ⟨by rfl, ?hyw19⟩) hHeld ?_
  case hyw19 => (intro w hSw; (try dsimp only at hSw); go_simp; (try with_reducible rfl))
  try simp only [Act.put, List.setIfInBounds_toArray, List.set_cons_zero, List.set_cons_succ]
  refine wpAnyH_ready (rs := [18]) (by kernel_rfl) (by simp) ?_
  refine AllReadyH.cons (o := { dst := some 82, op := Op.call { callee := Callee.value (Operand.func 22), args := #[Operand.tmp 81], argTypes := #[33] }, type := 24, pos := "law.go:98", after := #[{ on := 17, ground := Ground.data }, { on := 13, ground := Ground.chain }, { on := 13, ground := Ground.guard }], guard := some (13, true) }) rfl (fun K hK => ?_) AllReadyH.nil
  go_simp
  refine (All_c HF11.out.ar hn20).mono ?_
  rintro e V12 ⟨rfl, hrow, hV⟩
  have HB12 := Lib.hid (belowOn HB11.out hV)
  have HX12 := Lib.hid (HX11.out.below hV)
  have HF12 := Lib.hid (HF11.out.below hV)
  have HW12 := Lib.hid hrow.words
  clear hrow
  clear hV hHeld x0 x1 x2 x3 h0
  obtain ⟨x0, x1, x2, x3⟩ := HX12.out
  obtain ⟨h0, _⟩ := HF12.out.cells
  refine hK.out _ _ ?_ (fun hHeld => ?_)
  · exact ⟨h0, x0, x1, x2, x3⟩
  clear hK K
  try simp only [Act.put, List.setIfInBounds_toArray, List.set_cons_zero, List.set_cons_succ]
  refine wpAnyH_ready (rs := [20]) (by kernel_rfl) (by simp) ?_
  refine AllReadyH.cons (o := { dst := some 84, op := Op.call { callee := Callee.value (Operand.func 26), args := #[Operand.tmp 83], argTypes := #[23] }, type := 24, pos := "law.go:98", after := #[{ on := 19, ground := Ground.data }, { on := 18, ground := Ground.chain }, { on := 13, ground := Ground.guard }], guard := some (13, true) }) rfl (fun K hK => ?_) AllReadyH.nil
  go_simp
  refine (refFirst_right a b c d HR.out _).mono ?_
  rintro e V13 ⟨g, m, rfl, hm, hrow, hV⟩
  have HB13 := Lib.hid (belowOn HB12.out hV)
  have HX13 := Lib.hid (HX12.out.below hV)
  have HF13 := Lib.hid (HF12.out.below hV)
  have HW13 := Lib.hid (HW12.out.below hV)
  have HZ13 := Lib.hid (row_words hrow)
  obtain rfl : m = n := by omega
  clear hrow
  clear hV hHeld x0 x1 x2 x3 h0
  obtain ⟨x0, x1, x2, x3⟩ := HX13.out
  obtain ⟨h0, _⟩ := HF13.out.cells
  refine hK.out _ _ ?_ (fun hHeld => ?_)
  · exact ⟨h0, x0, x1, x2, x3⟩
  clear hK K
  try simp only [Act.put, List.setIfInBounds_toArray, List.set_cons_zero, List.set_cons_succ]
  refine wpAnyH_ready (rs := [21]) (by kernel_rfl) (by simp) ?_
  refine AllReadyH.cons (o := { dst := some 85, op := Op.call { callee := Callee.value (Operand.func 21), args := #[Operand.tmp 82, Operand.tmp 84], argTypes := #[24, 24] }, type := 4, pos := "law.go:98", after := #[{ on := 18, ground := Ground.data }, { on := 20, ground := Ground.data }, { on := 20, ground := Ground.chain }, { on := 13, ground := Ground.guard }], guard := some (13, true) }) rfl (fun K hK => ?_) AllReadyH.nil
  go_simp
  refine (Same_c _ (some ⟨g, 0, none⟩) m m m (fstV a b c d) hn20 _ HW13.out HZ13.out).mono ?_
  rintro e V14 ⟨rfl, hV⟩
  have HB14 := Lib.hid (belowOn HB13.out hV)
  have HX14 := Lib.hid (HX13.out.below hV)
  have HF14 := Lib.hid (HF13.out.below hV)
  clear hV hHeld x0 x1 x2 x3 h0
  obtain ⟨x0, x1, x2, x3⟩ := HX14.out
  obtain ⟨h0, _⟩ := HF14.out.cells
  refine hK.out _ _ ?_ (fun hHeld => ?_)
  · exact ⟨h0, x0, x1, x2, x3⟩
  clear hK K
  try simp only [Act.put, List.setIfInBounds_toArray, List.set_cons_zero, List.set_cons_succ]
  refine wpAnyH_take (i := 22) (oi := { dst := some 86, op := Op.pick (Operand.tmp 77) (Operand.tmp 85) (Operand.const (Value.bool false)), type := 4, pos := "law.go:98", after := #[{ on := 13, ground := Ground.data }, { on := 21, ground := Ground.data }], guard := none }) (v := ?vw22) rfl (by kernel_rfl) (by kernel_rfl) (by kernel_rfl) (fun _ _ _ h => h) (Or.inl ⟨by rfl, ?hyw22⟩) hHeld ?_
  case hyw22 => (intro w hSw; (try dsimp only at hSw); go_simp; (try with_reducible rfl))
  try simp only [Act.put, List.setIfInBounds_toArray, List.set_cons_zero, List.set_cons_succ]
  refine wpAnyH_take (i := 23) (oi := { dst := some 6, op := Op.assign (Operand.tmp 86), type := 4, pos := "law.go:98", after := #[{ on := 22, ground := Ground.data }, { on := 21, ground := Ground.chain }, { on := 0, ground := Ground.phase }, { on := 1, ground := Ground.phase }, { on := 2, ground := Ground.phase }, { on := 3, ground := Ground.phase }, { on := 4, ground := Ground.phase }, { on := 5, ground := Ground.phase }, { on := 6, ground := Ground.phase }, { on := 7, ground := Ground.phase }, { on := 8, ground := Ground.phase }, { on := 9, ground := Ground.phase }, { on := 10, ground := Ground.phase }, { on := 11, ground := Ground.phase }, { on := 12, ground := Ground.phase }, { on := 13, ground := Ground.phase }, { on := 14, ground := Ground.phase }, { on := 15, ground := Ground.phase }, { on := 16, ground := Ground.phase }, { on := 17, ground := Ground.phase }, { on := 18, ground := Ground.phase }, { on := 19, ground := Ground.phase }, { on := 20, ground := Ground.phase }, { on := 21, ground := Ground.phase }, { on := 22, ground := Ground.phase }], guard := none }) (v := ?vw23) rfl (by kernel_rfl) (by kernel_rfl) (by kernel_rfl) (fun _ _ _ h => h) (Or.inl ⟨by rfl, ?hyw23⟩) hHeld ?_
  case hyw23 => (intro w hSw; (try dsimp only at hSw); go_simp; (try with_reducible rfl))
  try simp only [Act.put, List.setIfInBounds_toArray, List.set_cons_zero, List.set_cons_succ]
  refine wpAnyH_done (by kernel_rfl) ?_ _
  clear hHeld
  go_wp2_with fail
  go_ret
  exact ⟨rfl, HB14.out⟩
theorem fields_any (a b c d : Int) (v : Nat) (hv : v < 18446744073709551616) (p : Int) (w : World) (hS : SpansAt w) :
    Calls Tryd.prog 4 #[.agg #[.int .i64 a, .int .i64 b, .int .i64 c, .int .i64 d], .int .u64 v, .int .i64 p] w fun e w' => e = .returned (.bool true) ∧ Below w.heap.size w w' := by
  by_cases hg : grt a b c d
  · exact fields_great a b c d hg v p w hS
  · by_cases hr : Right a b c d
    · exact fields_right a b c d hr hg v hv p w hS
    · exact fields_wrong a b c d hr hg v hv p w hS
end Go.Proofs.YtoojiaaooccknaaDoor
