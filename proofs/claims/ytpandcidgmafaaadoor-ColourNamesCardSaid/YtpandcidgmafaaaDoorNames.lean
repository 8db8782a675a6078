/- ColourNames answers true for every word and every name (the law of P2.1), in whatever memory in which package colour's table of names lies as its text lays it. -/
import Derived.Test.YtpandcidgmafaaaDoorLetters
namespace Go.Proofs.YtpandcidgmafaaaDoor
open Go Go.RowKit
set_option maxRecDepth 100000

def nameB (n : Nat) : List UInt8 := if n = 0 then [119, 104, 105, 116, 101] else if n = 1 then [103, 114, 101, 121] else if n = 2 then [98, 108, 97, 99, 107] else []
/-- The table of names, as its text lays it. -/
def NamesAt (w : World) : Prop := w.cell? ⟨0, 0, none⟩ = some (.string ⟨#[119, 104, 105, 116, 101]⟩) ∧ w.cell? ⟨0, 1, none⟩ = some (.string ⟨#[103, 114, 101, 121]⟩) ∧ w.cell? ⟨0, 2, none⟩ = some (.string ⟨#[98, 108, 97, 99, 107]⟩)
theorem lt_of_cell {w : World} {b off : Nat} {v : Value} (h : w.cell? ⟨b, off, none⟩ = some v) : b < w.heap.size := by
  rcases Nat.lt_or_ge b w.heap.size with h' | h'
  · exact h'
  · simp [World.cell?, Array.getElem?_eq_none h'] at h
theorem NamesAt.below {w w' : World} (h : NamesAt w) (hb : Below w.heap.size w w') : NamesAt w' := by
  have hl := lt_of_cell h.1
  exact ⟨(hb.cell (p := ⟨_, 0, none⟩) hl).trans h.1, (hb.cell (p := ⟨_, 1, none⟩) hl).trans h.2.1, (hb.cell (p := ⟨_, 2, none⟩) hl).trans h.2.2⟩

theorem name_c (n : Nat) (w : World) (h : NamesAt w) :
    Calls Tryd.prog 7 #[.int .u64 n] w fun e w' => e = .returned (.string ⟨(nameB n).toArray⟩) ∧ w = w' := by
  obtain ⟨h0, h1, h2⟩ := h
  by_cases hn : n < 3
  · obtain rfl | rfl | rfl : n = 0 ∨ n = 1 ∨ n = 2 := by omega
    all_goals
      go_enter Tryd.func7, Tryd.ntmps7
      go_wp2_with (go_at_call 11; refine (isColour_c _ _).mono ?_; rintro e w' ⟨rfl, rfl⟩)
      go_ret
      exact ⟨rfl, rfl⟩
  · have hd : decide (n < 3) = false := by simpa using hn
    have hl : nameB n = [] := by unfold nameB; rw [if_neg (by omega), if_neg (by omega), if_neg (by omega)]
    have HL := Lib.hid hl; clear hl
    go_enter Tryd.func7, Tryd.ntmps7
    go_wp2_with (go_at_call 11; refine (isColour_c n _).mono ?_; rintro e w' ⟨rfl, rfl⟩)
    go_ret
    refine ⟨?_, rfl⟩
    rw [HL.out]; rfl
theorem refName_c (n : Nat) (w : World) :
    Calls Tryd.prog 8 #[.int .u64 n] w fun e w' => e = .returned (.string ⟨(nameB n).toArray⟩) ∧ w = w' := by
  by_cases hn : n < 3
  · obtain rfl | rfl | rfl : n = 0 ∨ n = 1 ∨ n = 2 := by omega
    all_goals
      go_enter Tryd.func8, Tryd.ntmps8
      go_wp2
      go_ret
      exact ⟨rfl, rfl⟩
  · have h0 : ((n : Int) == 0) = false := by simp; omega
    have h1 : ((n : Int) == 1) = false := by simp; omega
    have h2 : ((n : Int) == 2) = false := by simp; omega
    have hl : nameB n = [] := by unfold nameB; rw [if_neg (by omega), if_neg (by omega), if_neg (by omega)]
    have HL := Lib.hid hl; clear hl hn
    go_enter Tryd.func8, Tryd.ntmps8
    go_wp2
    go_ret
    refine ⟨?_, rfl⟩
    rw [HL.out]; rfl
theorem shaded_c (n : Nat) (w : World) :
    Calls Tryd.prog 9 #[.int .u64 n] w fun e w' => e = .returned (.int .u64 ((if n = 0 then 1 else n : Nat) : Int)) ∧ w = w' := by
  by_cases h : n = 0
  · subst h
    go_enter Tryd.func9, Tryd.ntmps9
    go_wp2
    go_ret
    exact ⟨rfl, rfl⟩
  · rw [if_neg h]
    have h0 : ((n : Int) == 0) = false := by simp; omega
    go_enter Tryd.func9, Tryd.ntmps9
    go_wp2
    go_ret
    exact ⟨rfl, rfl⟩
/- Code -/
theorem code_hit (k0 : Nat) (hk0 : k0 < 3) (w : World) (h : NamesAt w) :
    Calls Tryd.prog 5 #[.string ⟨(nameB k0).toArray⟩] w fun e w' => e = .returned (.tuple #[.int .u64 k0, .bool true]) ∧ w = w' := by
  obtain ⟨h0, h1, h2⟩ := h
  obtain rfl | rfl | rfl : k0 = 0 ∨ k0 = 1 ∨ k0 = 2 := by omega
  · show Calls _ _ #[.string ⟨#[119, 104, 105, 116, 101]⟩] _ _
    go_enter Tryd.func5, Tryd.ntmps5
    go_wp2
    go_loop [5] (fun v => v = .int .u64 0) (fun _ => 0)
    case atStart => rfl
    case round =>
      obtain rfl := hrel
      go_wp2
      go_ret2
      exact ⟨rfl, rfl⟩
  · show Calls _ _ #[.string ⟨#[103, 114, 101, 121]⟩] _ _
    go_enter Tryd.func5, Tryd.ntmps5
    go_wp2
    go_loop [5] (fun v => v = .int .u64 0 ∨ v = .int .u64 1) (fun v => 3 - (intOf v).toNat)
    case atStart => exact .inl rfl
    case round =>
      rcases hrel with rfl | rfl
      · go_wp2
        go_round
        case rel => exact .inr rfl
        case measure => simp [intOf]
      · go_wp2
        go_ret2
        exact ⟨rfl, rfl⟩
  · show Calls _ _ #[.string ⟨#[98, 108, 97, 99, 107]⟩] _ _
    go_enter Tryd.func5, Tryd.ntmps5
    go_wp2
    go_loop [5] (fun v => v = .int .u64 0 ∨ v = .int .u64 1 ∨ v = .int .u64 2) (fun v => 3 - (intOf v).toNat)
    case atStart => exact .inl rfl
    case round =>
      rcases hrel with rfl | rfl | rfl
      · go_wp2
        go_round
        case rel => exact .inr (.inl rfl)
        case measure => simp [intOf]
      · go_wp2
        go_round
        case rel => exact .inr (.inr rfl)
        case measure => simp [intOf]
      · go_wp2
        go_ret2
        exact ⟨rfl, rfl⟩
theorem code_miss (S : ByteArray) (hS : ∀ k, k < 3 → nameB k ≠ S.data.toList) (w : World) (h : NamesAt w) :
    Calls Tryd.prog 5 #[.string S] w fun e w' => e = .returned (.tuple #[.int .u64 0, .bool false]) ∧ w = w' := by
  obtain ⟨h0, h1, h2⟩ := h
  have q0 : (([119, 104, 105, 116, 101] : List UInt8) == S.toList) = false := by rw [ByteArray.toList_eq]; simpa [nameB] using hS 0 (by decide)
  have q1 : (([103, 114, 101, 121] : List UInt8) == S.toList) = false := by rw [ByteArray.toList_eq]; simpa [nameB] using hS 1 (by decide)
  have q2 : (([98, 108, 97, 99, 107] : List UInt8) == S.toList) = false := by rw [ByteArray.toList_eq]; simpa [nameB] using hS 2 (by decide)
  clear hS
  go_enter Tryd.func5, Tryd.ntmps5
  go_wp2
  go_loop [5] (fun v => v = .int .u64 0 ∨ v = .int .u64 1 ∨ v = .int .u64 2 ∨ v = .int .u64 3) (fun v => 3 - (intOf v).toNat)
  case atStart => exact .inl rfl
  case round =>
    rcases hrel with rfl | rfl | rfl | rfl
    · go_wp2
      go_round
      case rel => exact .inr (.inl rfl)
      case measure => simp [intOf]
    · go_wp2
      go_round
      case rel => exact .inr (.inr (.inl rfl))
      case measure => simp [intOf]
    · go_wp2
      go_round
      case rel => exact .inr (.inr (.inr rfl))
      case measure => simp [intOf]
    · go_wp2
      go_ret2
      exact ⟨rfl, rfl⟩
/- the document's Code -/
theorem refCode_hit (k0 : Nat) (hk0 : k0 < 3) (w : World) :
    Calls Tryd.prog 6 #[.string ⟨(nameB k0).toArray⟩] w fun e w' => e = .returned (.int .i64 k0) ∧ w = w' := by
  have n0 : ∀ w, Calls Tryd.prog 8 #[.int .u64 0] w fun e w' => e = .returned (.string ⟨#[119, 104, 105, 116, 101]⟩) ∧ w = w' := refName_c 0
  have n1 : ∀ w, Calls Tryd.prog 8 #[.int .u64 1] w fun e w' => e = .returned (.string ⟨#[103, 114, 101, 121]⟩) ∧ w = w' := refName_c 1
  have n2 : ∀ w, Calls Tryd.prog 8 #[.int .u64 2] w fun e w' => e = .returned (.string ⟨#[98, 108, 97, 99, 107]⟩) ∧ w = w' := refName_c 2
  have N0 := Lib.hid n0; have N1 := Lib.hid n1; have N2 := Lib.hid n2
  clear n0 n1 n2
  obtain rfl | rfl | rfl : k0 = 0 ∨ k0 = 1 ∨ k0 = 2 := by omega
  · show Calls _ _ #[.string ⟨#[119, 104, 105, 116, 101]⟩] _ _
    go_enter Tryd.func6, Tryd.ntmps6
    go_wp2
    go_loop [3] (fun v => v = .int .i64 0) (fun _ => 0)
    case atStart => rfl
    case round =>
      obtain rfl := hrel
      go_wp2_with fail
      refine (N0.out _).mono ?_
      rintro e w' ⟨rfl, rfl⟩
      go_wp2
      go_ret
      exact ⟨rfl, rfl⟩
  · show Calls _ _ #[.string ⟨#[103, 114, 101, 121]⟩] _ _
    go_enter Tryd.func6, Tryd.ntmps6
    go_wp2
    go_loop [3] (fun v => v = .int .i64 0 ∨ v = .int .i64 1) (fun v => 3 - (intOf v).toNat)
    case atStart => exact .inl rfl
    case round =>
      rcases hrel with rfl | rfl
      · go_wp2_with fail
        refine (N0.out _).mono ?_
        rintro e w' ⟨rfl, rfl⟩
        go_wp2
        go_round
        case rel => exact .inr rfl
        case measure => simp [intOf]
      · go_wp2_with fail
        refine (N1.out _).mono ?_
        rintro e w' ⟨rfl, rfl⟩
        go_wp2
        go_ret
        exact ⟨rfl, rfl⟩
  · show Calls _ _ #[.string ⟨#[98, 108, 97, 99, 107]⟩] _ _
    go_enter Tryd.func6, Tryd.ntmps6
    go_wp2
    go_loop [3] (fun v => v = .int .i64 0 ∨ v = .int .i64 1 ∨ v = .int .i64 2) (fun v => 3 - (intOf v).toNat)
    case atStart => exact .inl rfl
    case round =>
      rcases hrel with rfl | rfl | rfl
      · go_wp2_with fail
        refine (N0.out _).mono ?_
        rintro e w' ⟨rfl, rfl⟩
        go_wp2
        go_round
        case rel => exact .inr (.inl rfl)
        case measure => simp [intOf]
      · go_wp2_with fail
        refine (N1.out _).mono ?_
        rintro e w' ⟨rfl, rfl⟩
        go_wp2
        go_round
        case rel => exact .inr (.inr rfl)
        case measure => simp [intOf]
      · go_wp2_with fail
        refine (N2.out _).mono ?_
        rintro e w' ⟨rfl, rfl⟩
        go_wp2
        go_ret
        exact ⟨rfl, rfl⟩
theorem refCode_miss (S : ByteArray) (hS : ∀ k, k < 3 → nameB k ≠ S.data.toList) (w : World) :
    Calls Tryd.prog 6 #[.string S] w fun e w' => e = .returned (.int .i64 (-1)) ∧ w = w' := by
  have q0 : (([119, 104, 105, 116, 101] : List UInt8) == S.toList) = false := by rw [ByteArray.toList_eq]; simpa [nameB] using hS 0 (by decide)
  have q1 : (([103, 114, 101, 121] : List UInt8) == S.toList) = false := by rw [ByteArray.toList_eq]; simpa [nameB] using hS 1 (by decide)
  have q2 : (([98, 108, 97, 99, 107] : List UInt8) == S.toList) = false := by rw [ByteArray.toList_eq]; simpa [nameB] using hS 2 (by decide)
  clear hS
  have n0 : ∀ w, Calls Tryd.prog 8 #[.int .u64 0] w fun e w' => e = .returned (.string ⟨#[119, 104, 105, 116, 101]⟩) ∧ w = w' := refName_c 0
  have n1 : ∀ w, Calls Tryd.prog 8 #[.int .u64 1] w fun e w' => e = .returned (.string ⟨#[103, 114, 101, 121]⟩) ∧ w = w' := refName_c 1
  have n2 : ∀ w, Calls Tryd.prog 8 #[.int .u64 2] w fun e w' => e = .returned (.string ⟨#[98, 108, 97, 99, 107]⟩) ∧ w = w' := refName_c 2
  have N0 := Lib.hid n0; have N1 := Lib.hid n1; have N2 := Lib.hid n2
  clear n0 n1 n2
  go_enter Tryd.func6, Tryd.ntmps6
  go_wp2
  go_loop [3] (fun v => v = .int .i64 0 ∨ v = .int .i64 1 ∨ v = .int .i64 2 ∨ v = .int .i64 3) (fun v => 3 - (intOf v).toNat)
  case atStart => exact .inl rfl
  case round =>
    rcases hrel with rfl | rfl | rfl | rfl
    · go_wp2_with fail
      refine (N0.out _).mono ?_
      rintro e w' ⟨rfl, rfl⟩
      go_wp2
      go_round
      case rel => exact .inr (.inl rfl)
      case measure => simp [intOf]
    · go_wp2_with fail
      refine (N1.out _).mono ?_
      rintro e w' ⟨rfl, rfl⟩
      go_wp2
      go_round
      case rel => exact .inr (.inr (.inl rfl))
      case measure => simp [intOf]
    · go_wp2_with fail
      refine (N2.out _).mono ?_
      rintro e w' ⟨rfl, rfl⟩
      go_wp2
      go_round
      case rel => exact .inr (.inr (.inr rfl))
      case measure => simp [intOf]
    · go_wp2
      go_ret
      exact ⟨rfl, rfl⟩
/- the law -/
theorem names_long (n : Nat) (S : ByteArray) (h : 60 < S.size) (hm : S.size ≤ 9223372036854775807) (w : World) :
    Calls Tryd.prog 3 #[.int .u64 n, .string S] w fun e w' => e = .returned (.bool true) ∧ Below w.heap.size w w' := by
  go_enter Tryd.func3, Tryd.ntmps3
  go_wp2_with fail
  refine (awake_c _).mono ?_
  rintro e W ⟨rfl, hb⟩
  go_wp2_with fail
  go_ret
  exact ⟨rfl, hb⟩
/- what both sides tell of a name -/
def Told (S : ByteArray) (x : Nat) (b : Bool) (k : Int) : Prop :=
  (∀ w, NamesAt w → Calls Tryd.prog 5 #[.string S] w fun e w' => e = .returned (.tuple #[.int .u64 x, .bool b]) ∧ w = w') ∧
  ∀ w, Calls Tryd.prog 6 #[.string S] w fun e w' => e = .returned (.int .i64 k) ∧ w = w'
theorem told (S : ByteArray) : (∃ k : Nat, k < 3 ∧ Told S k true k) ∨ Told S 0 false (-1) := by
  by_cases hx : ∃ k, k < 3 ∧ nameB k = S.data.toList
  · obtain ⟨k, hk, ht⟩ := hx
    obtain rfl : S = ⟨(nameB k).toArray⟩ := by obtain ⟨⟨l⟩⟩ := S; simp at ht; rw [ht]
    exact .inl ⟨k, hk, fun w h => code_hit k hk w h, fun w => refCode_hit k hk w⟩
  · have hno : ∀ k, k < 3 → nameB k ≠ S.data.toList := fun k hk e => hx ⟨k, hk, e⟩
    exact .inr ⟨fun w h => code_miss S hno w h, fun w => refCode_miss S hno w⟩
theorem names_short (n : Nat) (S : ByteArray) (h : S.size ≤ 60) (w : World) (hN : NamesAt w) :
    Calls Tryd.prog 3 #[.int .u64 n, .string S] w fun e w' => e = .returned (.bool true) ∧ Below w.heap.size w w' := by
  have HN := Lib.hid hN; clear hN
  have HS := Lib.hid (shaded_c n)
  have H1 := Lib.hid (name_c n)
  have H2 := Lib.hid (refName_c n)
  generalize nameB n = l at H1 H2
  obtain ⟨l, rfl⟩ : ∃ l' : ByteArray, l'.data.toList = l := ⟨⟨l.toArray⟩, by simp⟩
  by_cases hn : n = 0
  · subst hn
    rcases told S with ⟨k, hk, T1, T2⟩ | ⟨T1, T2⟩
    all_goals
      have K1 := Lib.hid T1; have K2 := Lib.hid T2
      clear T1 T2
      go_enter Tryd.func3, Tryd.ntmps3
      go_wp2_with fail
      refine (awake_c _).mono ?_
      rintro e W ⟨rfl, hb⟩
      have HN1 := Lib.hid (HN.out.below hb)
      go_wp2_with fail
      refine (K1.out _ HN1.out).mono ?_
      rintro e w' ⟨rfl, rfl⟩
      go_wp2_with fail
      refine (K2.out _).mono ?_
      rintro e w' ⟨rfl, rfl⟩
      go_wp2_with fail
      refine (H1.out _ HN1.out).mono ?_
      rintro e w' ⟨rfl, rfl⟩
      go_wp2_with fail
      refine (H2.out _).mono ?_
      rintro e w' ⟨rfl, rfl⟩
      go_wp2_with fail
      refine (HS.out _).mono ?_
      rintro e w' ⟨rfl, rfl⟩
      go_wp2_with fail
      go_ret
      exact ⟨rfl, hb⟩
  · rw [if_neg hn] at HS
    have h0 : ((n : Int) == 0) = false := by simp; omega
    rcases told S with ⟨k, hk, T1, T2⟩ | ⟨T1, T2⟩
    all_goals
      have K1 := Lib.hid T1; have K2 := Lib.hid T2
      clear T1 T2
      go_enter Tryd.func3, Tryd.ntmps3
      go_wp2_with fail
      refine (awake_c _).mono ?_
      rintro e W ⟨rfl, hb⟩
      have HN1 := Lib.hid (HN.out.below hb)
      go_wp2_with fail
      refine (K1.out _ HN1.out).mono ?_
      rintro e w' ⟨rfl, rfl⟩
      go_wp2_with fail
      refine (K2.out _).mono ?_
      rintro e w' ⟨rfl, rfl⟩
      go_wp2_with fail
      refine (H1.out _ HN1.out).mono ?_
      rintro e w' ⟨rfl, rfl⟩
      go_wp2_with fail
      refine (H2.out _).mono ?_
      rintro e w' ⟨rfl, rfl⟩
      go_wp2_with fail
      refine (HS.out _).mono ?_
      rintro e w' ⟨rfl, rfl⟩
      go_wp2_with fail
      go_ret
      exact ⟨rfl, hb⟩
theorem names_c (n : Nat) (S : ByteArray) (hm : S.size ≤ 9223372036854775807) (w : World) (hN : NamesAt w) :
    Calls Tryd.prog 3 #[.int .u64 n, .string S] w fun e w' => e = .returned (.bool true) ∧ Below w.heap.size w w' := by
  by_cases h : 60 < S.size
  · exact names_long n S h hm w
  · exact names_short n S (by omega) w hN
end Go.Proofs.YtpandcidgmafaaaDoor
