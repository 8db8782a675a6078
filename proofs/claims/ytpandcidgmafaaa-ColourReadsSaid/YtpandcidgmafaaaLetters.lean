/- Package colour's isColour, letter and Letters, for any row of words: the letters, one behind the other; of what was there nothing has turned. And the laws' own first look (awake). -/
import Derived.Test.YtpandcidgmafaaaProg
import Derived.Test.YtpandcidgmafaaaShelfA
import Derived.Test.YtpandcidgmafaaaWrite
import Derived.WalkKit
import Derived.WalkSmall
import Derived.IntWalk
import Derived.BigCall
import Derived.Lib.Hide
namespace Go.Proofs.Ytpandcidgmafaaa
open Go Go.RowKit
set_option maxRecDepth 100000

/-- The letter of a word. -/
def letN (n : Nat) : UInt8 := if n = 0 then 119 else if n = 1 then 103 else if n = 2 then 98 else 63
/-- What a slice value of words holds, in a world. -/
def Row (w : World) (a : Option Addr) (zs : List Nat) : Prop :=
  zs = [] ∨ ∃ b off, a = some ⟨b, off, none⟩ ∧ b < w.heap.size ∧ ∀ j, j < zs.length → w.cell? ⟨b, off + j, none⟩ = some (.int .u64 (zs.getD j 0 : Nat))
theorem Row.below {w w' : World} {a : Option Addr} {zs : List Nat} {B : Nat} (h : Row w a zs) (hb : Below B w w') (hB : w.heap.size ≤ B) : Row w' a zs := by
  rcases h with h | ⟨b, off, h1, h2, h3⟩
  · exact .inl h
  · exact .inr ⟨b, off, h1, by have := hb.size; omega, fun j hj => (hb.cell (p := ⟨b, off + j, none⟩) (by simp only; omega)).trans (h3 j hj)⟩
theorem Row.at {w : World} {a : Option Addr} {zs : List Nat} (h : Row w a zs) {k : Nat} (hk : k < zs.length) : ∃ b off, a = some ⟨b, off, none⟩ ∧ w.cell? ⟨b, off + k, none⟩ = some (.int .u64 (zs.getD k 0 : Nat)) := by
  rcases h with h | ⟨b, off, h1, h2, h3⟩
  · rw [h] at hk; simp at hk
  · exact ⟨b, off, h1, h3 k hk⟩
theorem newBlock (w : World) (o : Obj) : (w.alloc o).heap[w.heap.size]? = some o := by unfold World.alloc; exact Array.getElem?_push_size
theorem take_snoc (zs : List Nat) (k : Nat) (hk : k < zs.length) : zs.take (k + 1) = zs.take k ++ [zs.getD k 0] := by
  rw [List.take_succ_eq_append_getElem hk]; simp [List.getD, List.getElem?_eq_getElem hk]

theorem isColour_c (n : Nat) (w : World) :
    Calls Try.prog 16 #[.int .u64 n] w fun e w' => e = .returned (.bool (decide (n < 3))) ∧ w = w' := by
  go_enter Try.func16, Try.ntmps16
  go_wp2
  go_ret
  refine ⟨?_, rfl⟩
  congr 2
  simp; omega
theorem letter_c (n : Nat) (w : World) :
    Calls Try.prog 14 #[.int .u64 n] w fun e w' => e = .returned (.int .u8 (letN n).toNat) ∧ w = w' := by
  by_cases h : n < 3
  · obtain rfl | rfl | rfl : n = 0 ∨ n = 1 ∨ n = 2 := by omega
    all_goals
      go_enter Try.func14, Try.ntmps14
      go_wp2_with (go_at_call 16; refine (isColour_c _ _).mono ?_; rintro e w' ⟨rfl, rfl⟩)
      go_ret
      exact ⟨rfl, rfl⟩
  · have hd : decide (n < 3) = false := by simpa using h
    have hl : letN n = 63 := by unfold letN; rw [if_neg (by omega), if_neg (by omega), if_neg (by omega)]
    have HL := Lib.hid hl; clear hl
    go_enter Try.func14, Try.ntmps14
    go_wp2_with (go_at_call 16; refine (isColour_c n _).mono ?_; rintro e w' ⟨rfl, rfl⟩)
    go_ret
    refine ⟨?_, rfl⟩
    rw [HL.out]; rfl
set_option maxHeartbeats 1600000 in
theorem letters_c (a : Option Addr) (cap : Nat) (zs : List Nat) (hl : zs.length ≤ 60) (w : World) (hr : Row w a zs) :
    Calls Try.prog 6 #[.slice a zs.length cap] w fun e w' => e = .returned (.string ⟨(zs.map letN).toArray⟩) ∧ Below w.heap.size w w' := by
  have HR := Lib.hid hr; clear hr
  go_enter Try.func6, Try.ntmps6
  go_wp2_with fail
  have hfresh : (w.alloc (.cells #[.pointer none, .slice none 0 0] 40)).heap[w.heap.size]? = some (.cells #[.pointer none, .slice none 0 0] 40 (0, 0)) := newBlock w _
  refine (Try.Builder_Grow_fresh w.heap.size w.heap.size zs.length _ (Nat.le_refl _) hfresh (by simp) (by omega)).mono ?_
  rintro e W1 ⟨rfl, hB1, hW1⟩
  have hW1' : Below w.heap.size w W1 := ((Below.refl _ w).alloc (Nat.le_refl _) _).trans hW1
  have HB1 := Lib.hid hB1
  clear hfresh hB1 hW1
  go_wp2_with fail
  go_loopw [11] (fun i wr => ∃ k : Nat, k ≤ zs.length ∧ i = .int .i64 k ∧ Hid (Lib.IsBuilder 40 5 w.heap.size w.heap.size (Lib.byteCells ((zs.take k).map letN)) wr) ∧ Below w.heap.size w wr) (fun i _ => zs.length - (intOf i).toNat)
  case atStart => exact ⟨0, Nat.zero_le _, rfl, Lib.hid (Or.inr HB1.out), hW1'⟩
  case round =>
    obtain ⟨k, hk, rfl, HI, hb⟩ := hrel
    by_cases hlt : k < zs.length
    · obtain ⟨b, off, rfl, hc⟩ := (HR.out.below hb (Nat.le_refl _)).at hlt
      have HT := Lib.hid (take_snoc zs k hlt)
      generalize zs.getD k 0 = x at hc HT
      go_wp2_with fail
      refine (letter_c x _).mono ?_
      rintro e w' ⟨rfl, rfl⟩
      go_wp2_with fail
      refine (Try.Builder_WriteByte w.heap.size w.heap.size _ (letN x).toNat _ HI.out (by rw [Lib.byteCells_length]; simp; omega) hb.size).mono ?_
      rintro e W2 ⟨rfl, h2, b2⟩
      go_wp2_with fail
      go_roundw
      case rel =>
        refine ⟨k + 1, by omega, by go_num, Lib.hid (Or.inr ?_), hb.trans b2⟩
        rw [HT.out, List.map_append, Lib.byteCells_append]
        exact h2
      case measure => simp [intOf]; omega
    · obtain rfl : k = zs.length := by omega
      rw [List.take_length] at HI
      go_wp2_with fail
      refine (Try.Builder_String_any w.heap.size w.heap.size _ _ HI.out hb.size).mono ?_
      rintro e W2 ⟨rfl, h2⟩
      go_wp2_with fail
      go_ret
      exact ⟨rfl, hb.trans h2⟩
theorem awake_c (w : World) : Calls Try.prog 5 #[] w fun e w' => e = .returned (.bool true) ∧ Below w.heap.size w w' := by
  have hb0 : Below w.heap.size w (w.alloc (.cells #[.int .u64 0, .int .u64 2] 33)) := (Below.refl _ w).alloc (Nat.le_refl _) _
  have hrow : Row (w.alloc (.cells #[.int .u64 0, .int .u64 2] 33)) (some ⟨w.heap.size, 0, none⟩) [0, 2] := by
    refine .inr ⟨w.heap.size, 0, rfl, by simp, fun j hj => ?_⟩
    rw [World.cell?_alloc_new]
    obtain rfl | rfl : j = 0 ∨ j = 1 := by simp at hj; omega
    · rfl
    · rfl
  have H := Lib.hid (letters_c (some ⟨w.heap.size, 0, none⟩) 2 [0, 2] (by decide) _ hrow)
  clear hrow
  go_enter Try.func5, Try.ntmps5
  go_wp2_with fail
  refine H.out.mono ?_
  rintro e W ⟨rfl, hW⟩
  go_wp2_with fail
  go_ret
  exact ⟨rfl, hb0.trans (hW.mono (by simp))⟩
end Go.Proofs.Ytpandcidgmafaaa
