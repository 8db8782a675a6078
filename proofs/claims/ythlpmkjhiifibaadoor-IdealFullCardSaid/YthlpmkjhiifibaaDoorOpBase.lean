/- Package op's isKind, Name, Ret and last, and the document's Name, Ret, Part and Number: for every kind, result and number. -/
import Derived.Test.YthlpmkjhiifibaaDoorCfgRef
import Derived.Test.YthlpmkjhiifibaaDoorArr4
namespace Go.Proofs.YthlpmkjhiifibaaDoor
open Go Go.RowKit
set_option maxRecDepth 100000

/-- A kind's word, by its number: empty of none. -/
def nmL : Nat → List UInt8
  | 1 => [115, 101, 116]
  | 2 => [109, 111, 118, 101]
  | 3 => [99, 111, 110, 115]
  | 4 => [99, 97, 114]
  | 5 => [99, 100, 114]
  | 6 => [114, 112, 108, 97, 99, 97]
  | 7 => [114, 112, 108, 97, 99, 100]
  | 8 => [103, 101, 116]
  | 9 => [112, 117, 116]
  | 10 => [101, 113]
  | 11 => [97, 116, 111, 109]
  | _ => []
/-- What the numbers that a kind has are, a letter each. -/
def hsL : Nat → List UInt8
  | 1 => [114, 107]
  | 2 => [114, 114]
  | 3 => [114, 114, 114]
  | 4 => [114, 114]
  | 5 => [114, 114]
  | 6 => [114, 114]
  | 7 => [114, 114]
  | 8 => [114, 103]
  | 9 => [103, 114]
  | 10 => [114, 114]
  | 11 => [114]
  | _ => []
/-- A result's word. -/
def rtL : Nat → List UInt8
  | 1 => [111, 107]
  | 2 => [116, 114, 117, 101]
  | 3 => [102, 97, 108, 115, 101]
  | 4 => [97, 116, 111, 109]
  | 5 => [102, 117, 108, 108]
  | 6 => [98, 97, 100]
  | _ => []
/-- The kind is one. -/
def okK (k : Int) : Prop := 1 ≤ k ∧ k ≤ 11
theorem okK.nat {k : Int} (h : okK k) : ∃ m : Nat, k = m ∧ 1 ≤ m ∧ m ≤ 11 := ⟨k.toNat, by unfold okK at h; omega, by unfold okK at h; omega, by unfold okK at h; omega⟩
/-- The table of kinds, as its text lays it. -/
structure RowsAt (w : World) : Prop where
  name : ∀ m, m < 12 → w.cell? ⟨1, m * 2, none⟩ = some (.string ⟨(nmL m).toArray⟩)
  has : ∀ m, m < 12 → w.cell? ⟨1, m * 2 + 1, none⟩ = some (.string ⟨(hsL m).toArray⟩)
theorem RowsAt.below {w w' : World} (h : RowsAt w) (hb : Below w.heap.size w w') : RowsAt w' :=
  ⟨fun m hm => (hb.cell (p := ⟨_, _, none⟩) (lt_of_cell (h.name m hm))).trans (h.name m hm), fun m hm => (hb.cell (p := ⟨_, _, none⟩) (lt_of_cell (h.has m hm))).trans (h.has m hm)⟩

theorem isKind_yes (m : Nat) (h1 : 1 ≤ m) (h2 : m ≤ 11) (w : World) : Calls Tryd.prog 43 #[.int .i64 (m : Int)] w fun e w' => e = .returned (.bool true) ∧ w = w' := by
  have hd : decide ((m : Int) < 12) = true := decide_eq_true (by omega)
  go_enter Tryd.func43, Tryd.ntmps43
  go_wp2
  go_ret
  exact ⟨rfl, rfl⟩
theorem isKind_no (k : Int) (h : ¬ okK k) (w : World) : Calls Tryd.prog 43 #[.int .i64 k] w fun e w' => e = .returned (.bool false) ∧ w = w' := by
  by_cases h0 : 0 < k
  · have h1 : ¬ k < 12 := by unfold okK at h; omega
    have hd : decide (k < 12) = false := decide_eq_false h1
    clear h
    go_enter Tryd.func43, Tryd.ntmps43
    go_wp2
    go_ret
    exact ⟨rfl, rfl⟩
  · clear h
    go_enter Tryd.func43, Tryd.ntmps43
    go_wp2
    go_ret
    exact ⟨rfl, rfl⟩
theorem kind_cases {m : Nat} (h1 : 1 ≤ m) (h2 : m ≤ 11) : m = 1 ∨ m = 2 ∨ m = 3 ∨ m = 4 ∨ m = 5 ∨ m = 6 ∨ m = 7 ∨ m = 8 ∨ m = 9 ∨ m = 10 ∨ m = 11 := by omega
set_option maxHeartbeats 3200000 in
theorem refName_yes (m : Nat) (h1 : 1 ≤ m) (h2 : m ≤ 11) (w : World) : Calls Tryd.prog 51 #[.int .i64 (m : Int)] w fun e w' => e = .returned (.string ⟨(nmL m).toArray⟩) ∧ w = w' := by
  obtain rfl | rfl | rfl | rfl | rfl | rfl | rfl | rfl | rfl | rfl | rfl := kind_cases h1 h2
  all_goals
    clear h1 h2
    go_enter Tryd.func51, Tryd.ntmps51
    go_wp2
    go_ret
    exact ⟨rfl, rfl⟩
set_option maxHeartbeats 3200000 in
theorem refName_no (k : Int) (h : ¬ okK k) (w : World) : Calls Tryd.prog 51 #[.int .i64 k] w fun e w' => e = .returned (.string ⟨#[]⟩) ∧ w = w' := by
  unfold okK at h
  have q1 : ¬ k = 1 := by omega
  have q2 : ¬ k = 2 := by omega
  have q3 : ¬ k = 3 := by omega
  have q4 : ¬ k = 4 := by omega
  have q5 : ¬ k = 5 := by omega
  have q6 : ¬ k = 6 := by omega
  have q7 : ¬ k = 7 := by omega
  have q8 : ¬ k = 8 := by omega
  have q9 : ¬ k = 9 := by omega
  have q10 : ¬ k = 10 := by omega
  have q11 : ¬ k = 11 := by omega
  clear h
  go_enter Tryd.func51, Tryd.ntmps51
  go_wp2
  go_ret
  exact ⟨rfl, rfl⟩
/-- What the i-th number of a kind is: the document's number for it. -/
def codeF (m i : Nat) : Int := match (hsL m)[i]? with
  | some 114 => 1
  | some 103 => 2
  | some 107 => 3
  | _ => 0
set_option maxHeartbeats 6400000 in
theorem refPart_yes (m : Nat) (h1 : 1 ≤ m) (h2 : m ≤ 11) (i : Nat) (hi : i < 3) (w : World) : Calls Tryd.prog 53 #[.int .i64 (m : Int), .int .i64 (i : Int)] w fun e w' => e = .returned (.int .i64 (codeF m i)) ∧ w = w' := by
  have HN := Lib.hid (refName_yes m h1 h2)
  obtain rfl | rfl | rfl | rfl | rfl | rfl | rfl | rfl | rfl | rfl | rfl := kind_cases h1 h2
  all_goals
    clear h1 h2
    obtain rfl | rfl | rfl : i = 0 ∨ i = 1 ∨ i = 2 := by omega
    all_goals
      clear hi
      go_enter Tryd.func53, Tryd.ntmps53
      go_wp2_with fail
      refine (HN.out _).mono ?_
      rintro e W ⟨rfl, rfl⟩
      clear HN
      go_wp2
      go_ret
      exact ⟨rfl, rfl⟩
theorem refPart_no (k : Int) (h : ¬ okK k) (i : Int) (w : World) : Calls Tryd.prog 53 #[.int .i64 k, .int .i64 i] w fun e w' => e = .returned (.int .i64 0) ∧ w = w' := by
  have HN := Lib.hid (refName_no k h)
  clear h
  go_enter Tryd.func53, Tryd.ntmps53
  go_wp2_with fail
  refine (HN.out _).mono ?_
  rintro e W ⟨rfl, rfl⟩
  clear HN
  go_wp2
  go_ret
  exact ⟨rfl, rfl⟩
/-- An operation's i-th number. -/
def numF (a b c : Int) : Nat → Int
  | 0 => a
  | 1 => b
  | _ => c
theorem refNumber_c (k a b c : Int) (i : Nat) (hi : i < 3) (w : World) :
    Calls Tryd.prog 52 #[.agg #[.int .i64 k, .int .i64 a, .int .i64 b, .int .i64 c], .int .i64 (i : Int)] w fun e w' => e = .returned (.int .i64 (numF a b c i)) ∧ Below w.heap.size w w' := by
  have HB := Lib.hid (below_new w (.cells #[.int .i64 k, .int .i64 a, .int .i64 b, .int .i64 c] 35))
  obtain rfl | rfl | rfl : i = 0 ∨ i = 1 ∨ i = 2 := by omega
  all_goals
    clear hi
    go_enter Tryd.func52, Tryd.ntmps52
    go_wp2
    go_ret
    exact ⟨rfl, HB.out⟩
/-- The last that a number may be. -/
def lastF (c d x : Int) : Int := if x = 114 then c - 1 else if x = 103 then d - 1 else 9223372036854775807
theorem last_c (a b c d x : Int) (hr : Right a b c d) (w : World) :
    Calls Tryd.prog 45 #[.agg #[.int .i64 a, .int .i64 b, .int .i64 c, .int .i64 d], .int .i32 x] w fun e w' => e = .returned (.int .i64 (lastF c d x)) ∧ Below w.heap.size w w' := by
  have HB := Lib.hid (below_new w (.cells #[.int .i64 a, .int .i64 b, .int .i64 c, .int .i64 d] 25))
  have hc : 1 ≤ c ∧ c ≤ 64 := by unfold Right at hr; omega
  have hd : 0 ≤ d ∧ d ≤ 64 := by unfold Right at hr; omega
  obtain ⟨hc1, hc2⟩ := hc
  obtain ⟨hd1, hd2⟩ := hd
  clear hr
  have w1 : IntKind.i64.wrap (c - 1) = c - 1 := IntWalk.i64_in _ (by omega)
  have w2 : IntKind.i64.wrap (d - 1) = d - 1 := IntWalk.i64_in _ (by omega)
  by_cases h1 : x = 114
  · have HE : Hid (lastF c d x = c - 1) := Lib.hid (if_pos h1)
    go_enter Tryd.func45, Tryd.ntmps45
    go_wp2
    go_ret
    rw [HE.out]
    exact ⟨rfl, HB.out⟩
  · by_cases h2 : x = 103
    · have HE : Hid (lastF c d x = d - 1) := Lib.hid ((if_neg h1).trans (if_pos h2))
      go_enter Tryd.func45, Tryd.ntmps45
      go_wp2
      go_ret
      rw [HE.out]
      exact ⟨rfl, HB.out⟩
    · have HE : Hid (lastF c d x = 9223372036854775807) := Lib.hid ((if_neg h1).trans (if_neg h2))
      go_enter Tryd.func45, Tryd.ntmps45
      go_wp2
      go_ret
      rw [HE.out]
      exact ⟨rfl, HB.out⟩
end Go.Proofs.YthlpmkjhiifibaaDoor
