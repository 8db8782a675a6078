/- Package colour's Count, and the document's answers for letters and counts, for every row of at most 60 words; the document's Same of two rows of the same words. -/
import Derived.Test.YtpandcidgmafaaaParse
namespace Go.Proofs.Ytpandcidgmafaaa
open Go Go.RowKit
set_option maxRecDepth 100000

def nameB (n : Nat) : List UInt8 := if n = 0 then [119, 104, 105, 116, 101] else if n = 1 then [103, 114, 101, 121] else if n = 2 then [98, 108, 97, 99, 107] else []
theorem refName_c (n : Nat) (w : World) :
    Calls Try.prog 18 #[.int .u64 n] w fun e w' => e = .returned (.string ⟨(nameB n).toArray⟩) ∧ w = w' := by
  by_cases hn : n < 3
  · obtain rfl | rfl | rfl : n = 0 ∨ n = 1 ∨ n = 2 := by omega
    all_goals
      go_enter Try.func18, Try.ntmps18
      go_wp2
      go_ret
      exact ⟨rfl, rfl⟩
  · have h0 : ((n : Int) == 0) = false := by simp; omega
    have h1 : ((n : Int) == 1) = false := by simp; omega
    have h2 : ((n : Int) == 2) = false := by simp; omega
    have hl : nameB n = [] := by unfold nameB; rw [if_neg (by omega), if_neg (by omega), if_neg (by omega)]
    have HL := Lib.hid hl; clear hl hn
    go_enter Try.func18, Try.ntmps18
    go_wp2
    go_ret
    refine ⟨?_, rfl⟩
    rw [HL.out]; rfl
/-- The name begins with the letter, or is empty and the letter is the sign of none. -/
theorem refName_kinds (n : Nat) : (∃ l, nameB n = letN n :: l ∧ l.length ≤ 4) ∨ (nameB n = [] ∧ letN n = 63) := by
  by_cases hn : n < 3
  · left
    obtain rfl | rfl | rfl : n = 0 ∨ n = 1 ∨ n = 2 := by omega
    · exact ⟨_, rfl, by decide⟩
    · exact ⟨_, rfl, by decide⟩
    · exact ⟨_, rfl, by decide⟩
  · right
    exact ⟨by unfold nameB; rw [if_neg (by omega), if_neg (by omega), if_neg (by omega)], by unfold letN; rw [if_neg (by omega), if_neg (by omega), if_neg (by omega)]⟩
theorem addOne (s l : List UInt8) (d : UInt8) : (⟨s.toArray⟩ : ByteArray) ++ (⟨(d :: l).toArray⟩ : ByteArray).extract 0 1 = ⟨(s ++ [d]).toArray⟩ := by
  apply ByteArray.ext
  simp [ByteArray.data_append, ByteArray.data_extract]
set_option maxHeartbeats 1600000 in
theorem refLetters_c (a : Option Addr) (cap : Nat) (zs : List Nat) (hl : zs.length ≤ 60) (w : World) (hr : Row w a zs) :
    Calls Try.prog 9 #[.slice a zs.length cap] w fun e w' => e = .returned (.string ⟨(zs.map letN).toArray⟩) ∧ w = w' := by
  have HR := Lib.hid hr; clear hr
  go_enter Try.func9, Try.ntmps9
  go_wp2
  go_loop [3, 4] (fun vs vi => ∃ (k : Nat) (s : List UInt8), vi = .int .i64 k ∧ k ≤ zs.length ∧ vs = .string ⟨s.toArray⟩ ∧ s.length = k ∧ Hid (s = (zs.take k).map letN)) (fun _ vi => zs.length - (intOf vi).toNat)
  case atStart => exact ⟨0, [], rfl, Nat.zero_le _, rfl, rfl, Lib.hid rfl⟩
  case round =>
    obtain ⟨k, s, rfl, hk, rfl, hsl, HS⟩ := hrel
    by_cases hlt : k < zs.length
    · obtain ⟨b, off, rfl, hc⟩ := HR.out.at hlt
      have HT := Lib.hid (take_snoc zs k hlt)
      generalize zs.getD k 0 = x at hc HT
      have HE : Hid (s ++ [letN x] = (zs.take (k + 1)).map letN) := Lib.hid (by rw [HT.out, HS.out]; simp)
      have hsl2 : (s ++ [letN x]).length = k + 1 := by simp [hsl]
      have HZ := Lib.hid hsl2
      clear HT HS hsl2
      have H := Lib.hid (refName_c x)
      rcases refName_kinds x with ⟨l, h1, h2⟩ | ⟨h1, h2⟩
      · rw [h1] at H
        generalize letN x = d at *
        clear h1
        go_wp2_with fail
        refine (H.out _).mono ?_
        rintro e w' ⟨rfl, rfl⟩
        go_wp2_with fail
        go_round
        case rel => exact ⟨k + 1, s ++ [d], by go_num, by omega, by rw [addOne], HZ.out, HE⟩
        case measure => simp [intOf]; omega
      · rw [h1] at H
        rw [h2] at HE HZ
        clear h1 h2
        go_wp2_with fail
        refine (H.out _).mono ?_
        rintro e w' ⟨rfl, rfl⟩
        go_wp2_with fail
        go_round
        case rel => exact ⟨k + 1, s ++ [63], by go_num, by omega, rfl, HZ.out, HE⟩
        case measure => simp [intOf]; omega
    · obtain rfl : k = zs.length := by omega
      have HE : Hid (s = zs.map letN) := Lib.hid (by rw [HS.out, List.take_length])
      clear HS
      go_wp2
      go_ret
      refine ⟨?_, rfl⟩
      rw [← HE.out]; rfl
theorem count_snoc (l : List Nat) (x c : Nat) : (l ++ [x]).count c = l.count c + if x = c then 1 else 0 := by
  rw [List.count_append, List.count_singleton]; simp
theorem refCount_c (a : Option Addr) (cap : Nat) (zs : List Nat) (hl : zs.length ≤ 60) (c : Nat) (w : World) (hr : Row w a zs) :
    Calls Try.prog 10 #[.slice a zs.length cap, .int .u64 c] w fun e w' => e = .returned (.int .i64 (zs.count c : Nat)) ∧ w = w' := by
  have HR := Lib.hid hr; clear hr
  go_enter Try.func10, Try.ntmps10
  go_wp2
  go_loop [5, 6] (fun vn vi => ∃ (k n : Nat), vi = .int .i64 k ∧ k ≤ zs.length ∧ vn = .int .i64 n ∧ n ≤ k ∧ Hid (n = (zs.take k).count c)) (fun _ vi => zs.length - (intOf vi).toNat)
  case atStart => exact ⟨0, 0, rfl, Nat.zero_le _, rfl, Nat.le_refl _, Lib.hid (by simp)⟩
  case round =>
    obtain ⟨k, n, rfl, hk, rfl, hn, HN⟩ := hrel
    by_cases hlt : k < zs.length
    · obtain ⟨b, off, rfl, hc⟩ := HR.out.at hlt
      have HT := Lib.hid (take_snoc zs k hlt)
      generalize zs.getD k 0 = x at hc HT
      by_cases hx : x = c
      · have HE : Hid (n + 1 = (zs.take (k + 1)).count c) := Lib.hid (by rw [HT.out, count_snoc, if_pos hx, ← HN.out])
        subst hx
        clear HT HN
        go_wp2
        go_round
        case rel => exact ⟨k + 1, n + 1, by go_num, by omega, by go_num, by omega, HE⟩
        case measure => simp [intOf]; omega
      · have HE : Hid (n = (zs.take (k + 1)).count c) := Lib.hid (by rw [HT.out, count_snoc, if_neg hx, ← HN.out]; rfl)
        have hq : ((x : Int) == (c : Int)) = false := by rw [beq_eq_false_iff_ne]; omega
        clear HT HN hx
        go_wp2
        go_round
        case rel => exact ⟨k + 1, n, by go_num, by omega, by go_num, by omega, HE⟩
        case measure => simp [intOf]; omega
    · obtain rfl : k = zs.length := by omega
      have HE : Hid (n = zs.count c) := Lib.hid (by rw [HN.out, List.take_length])
      clear HN
      go_wp2
      go_ret
      refine ⟨?_, rfl⟩
      rw [← HE.out]; rfl
set_option maxHeartbeats 1600000 in
theorem same_c (a a2 : Option Addr) (cap cap2 : Nat) (zs : List Nat) (hl : zs.length ≤ 60) (w : World) (hr : Row w a zs) (hr2 : Row w a2 zs) :
    Calls Try.prog 11 #[.slice a zs.length cap, .slice a2 zs.length cap2] w fun e w' => e = .returned (.bool true) ∧ Below w.heap.size w w' := by
  have HR := Lib.hid hr; have HR2 := Lib.hid hr2; clear hr hr2
  go_enter Try.func11, Try.ntmps11
  go_wp2
  go_loopw [5] (fun vi wr => ∃ k : Nat, vi = .int .i64 k ∧ k ≤ zs.length ∧ Below w.heap.size w wr) (fun vi _ => zs.length - (intOf vi).toNat)
  case atStart => exact ⟨0, rfl, Nat.zero_le _, Below.refl _ _⟩
  case round =>
    obtain ⟨k, rfl, hk, hb⟩ := hrel
    by_cases hlt : k < zs.length
    · obtain ⟨b, off, rfl, hc⟩ := (HR.out.below hb (Nat.le_refl _)).at hlt
      obtain ⟨b2, off2, rfl, hc2⟩ := (HR2.out.below hb (Nat.le_refl _)).at hlt
      generalize zs.getD k 0 = x at hc hc2
      go_wp2
      go_region
      all_goals
        go_wp2
        go_roundw
        case rel => exact ⟨k + 1, by go_num, by omega, by first | exact hb.drew | exact hb.drew.drew | exact hb⟩
        case measure => simp [intOf]; omega
    · obtain rfl : k = zs.length := by omega
      go_wp2
      go_ret
      exact ⟨rfl, hb⟩
/-- Where Count counts. -/
def CntAt (w : World) (B a b c : Nat) : Prop := w.heap[B]? = some (.cells #[.int .i64 (a : Int), .int .i64 (b : Int), .int .i64 (c : Int)] 47 (0, 0))
theorem CntAt.cells {w : World} {B a b c : Nat} (h : CntAt w B a b c) : w.cell? ⟨B, 0, none⟩ = some (.int .i64 (a : Int)) ∧ w.cell? ⟨B, 1, none⟩ = some (.int .i64 (b : Int)) ∧ w.cell? ⟨B, 2, none⟩ = some (.int .i64 (c : Int)) ∧ (∀ j, w.frozen? ⟨B, j, none⟩ = false) ∧ B < w.heap.size := by
  unfold CntAt at h
  refine ⟨by simp [World.cell?, h], by simp [World.cell?, h], by simp [World.cell?, h], fun j => by simp [World.frozen?, h], ?_⟩
  rcases Nat.lt_or_ge B w.heap.size with h' | h'
  · exact h'
  · simp [Array.getElem?_eq_none h'] at h
theorem CntAt.set0 {w : World} {B a b c : Nat} (h : CntAt w B a b c) : CntAt (w.setCell ⟨B, 0, none⟩ (.int .i64 ((a : Int) + 1))) B (a + 1) b c := by
  unfold CntAt at *; simp [World.setCell, Array.getElem?_modify, h]
theorem CntAt.set1 {w : World} {B a b c : Nat} (h : CntAt w B a b c) : CntAt (w.setCell ⟨B, 1, none⟩ (.int .i64 ((b : Int) + 1))) B a (b + 1) c := by
  unfold CntAt at *; simp [World.setCell, Array.getElem?_modify, h]
theorem CntAt.set2 {w : World} {B a b c : Nat} (h : CntAt w B a b c) : CntAt (w.setCell ⟨B, 2, none⟩ (.int .i64 ((c : Int) + 1))) B a b (c + 1) := by
  unfold CntAt at *; simp [World.setCell, Array.getElem?_modify, h]
/-- How far Count is. -/
def Counts (w wr : World) (zs : List Nat) (k : Nat) : Prop := CntAt wr w.heap.size ((zs.take k).count 0) ((zs.take k).count 1) ((zs.take k).count 2) ∧ Below w.heap.size w wr
theorem count_le_take (zs : List Nat) (k c : Nat) : (zs.take k).count c ≤ zs.length := Nat.le_trans List.count_le_length (by simp; omega)
theorem Counts.step {w wr : World} {zs : List Nat} {k x : Nat} (h : Counts w wr zs k) (ht : zs.take (k + 1) = zs.take k ++ [x]) :
    (x = 0 → Counts w (wr.setCell ⟨w.heap.size, 0, none⟩ (.int .i64 (((zs.take k).count 0 : Nat) + 1))) zs (k + 1)) ∧
    (x = 1 → Counts w (wr.setCell ⟨w.heap.size, 1, none⟩ (.int .i64 (((zs.take k).count 1 : Nat) + 1))) zs (k + 1)) ∧
    (x = 2 → Counts w (wr.setCell ⟨w.heap.size, 2, none⟩ (.int .i64 (((zs.take k).count 2 : Nat) + 1))) zs (k + 1)) ∧
    (3 ≤ x → Counts w wr zs (k + 1)) := by
  obtain ⟨h1, h2⟩ := h
  unfold Counts
  rw [ht, count_snoc, count_snoc, count_snoc]
  refine ⟨fun e => ?_, fun e => ?_, fun e => ?_, fun e => ?_⟩
  · subst e; exact ⟨h1.set0, h2.setCell (p := ⟨w.heap.size, 0, none⟩) (Nat.le_refl _) _⟩
  · subst e; exact ⟨h1.set1, h2.setCell (p := ⟨w.heap.size, 1, none⟩) (Nat.le_refl _) _⟩
  · subst e; exact ⟨h1.set2, h2.setCell (p := ⟨w.heap.size, 2, none⟩) (Nat.le_refl _) _⟩
  · rw [if_neg (by omega), if_neg (by omega), if_neg (by omega)]; exact ⟨h1, h2⟩
set_option maxHeartbeats 3200000 in
theorem count_c (a : Option Addr) (cap : Nat) (zs : List Nat) (hl : zs.length ≤ 60) (w : World) (hr : Row w a zs) :
    Calls Try.prog 7 #[.slice a zs.length cap] w fun e w' => e = .returned (.tuple #[.int .i64 (zs.count 0 : Nat), .int .i64 (zs.count 1 : Nat), .int .i64 (zs.count 2 : Nat)]) ∧ Below w.heap.size w w' := by
  have HR := Lib.hid hr; clear hr
  have H0 : Hid (Counts w (w.alloc (.cells #[.int .i64 0, .int .i64 0, .int .i64 0] 47)) zs 0) := Lib.hid ⟨newBlock w _, (Below.refl _ w).alloc (Nat.le_refl _) _⟩
  go_enter Try.func7, Try.ntmps7
  go_wp2
  go_loopw [10] (fun vi wr => ∃ k : Nat, vi = .int .i64 k ∧ k ≤ zs.length ∧ Hid (Counts w wr zs k)) (fun vi _ => zs.length - (intOf vi).toNat)
  case atStart => exact ⟨0, rfl, Nat.zero_le _, H0⟩
  case round =>
    obtain ⟨k, rfl, hk, HC⟩ := hrel
    obtain ⟨c0, c1, c2, cf, hB⟩ := HC.out.1.cells
    by_cases hlt : k < zs.length
    · obtain ⟨b, off, rfl, hc⟩ := (HR.out.below HC.out.2 (Nat.le_refl _)).at hlt
      have hs := HC.out.step (take_snoc zs k hlt)
      have l0 := count_le_take zs k 0
      have l1 := count_le_take zs k 1
      have l2 := count_le_take zs k 2
      have HS := Lib.hid hs
      clear HC hs
      generalize zs.getD k 0 = x at hc HS
      generalize (zs.take k).count 0 = n0 at *
      generalize (zs.take k).count 1 = n1 at *
      generalize (zs.take k).count 2 = n2 at *
      by_cases hx : x < 3
      · obtain rfl | rfl | rfl : x = 0 ∨ x = 1 ∨ x = 2 := by omega
        · have HN := Lib.hid (HS.out.1 rfl); clear HS
          go_wp2_with (go_at_call 16; refine (isColour_c _ _).mono ?_; rintro e w' ⟨rfl, rfl⟩)
          go_roundw
          case rel => exact ⟨k + 1, by go_num, by omega, HN⟩
          case measure => simp [intOf]; omega
        · have HN := Lib.hid (HS.out.2.1 rfl); clear HS
          go_wp2_with (go_at_call 16; refine (isColour_c _ _).mono ?_; rintro e w' ⟨rfl, rfl⟩)
          go_roundw
          case rel => exact ⟨k + 1, by go_num, by omega, HN⟩
          case measure => simp [intOf]; omega
        · have HN := Lib.hid (HS.out.2.2.1 rfl); clear HS
          go_wp2_with (go_at_call 16; refine (isColour_c _ _).mono ?_; rintro e w' ⟨rfl, rfl⟩)
          go_roundw
          case rel => exact ⟨k + 1, by go_num, by omega, HN⟩
          case measure => simp [intOf]; omega
      · have HN := Lib.hid (HS.out.2.2.2 (by omega)); clear HS
        have hd : decide (x < 3) = false := by simpa using hx
        go_wp2_with (go_at_call 16; refine (isColour_c _ _).mono ?_; rintro e w' ⟨rfl, rfl⟩)
        go_roundw
        case rel => exact ⟨k + 1, by go_num, by omega, HN⟩
        case measure => simp [intOf]; omega
    · obtain rfl : k = zs.length := by omega
      have HB := Lib.hid HC.out.2
      rw [List.take_length] at c0 c1 c2
      clear HC
      go_wp2
      go_region
      all_goals
        go_wp2
        refine bodyPost_ret (v := .tuple #[.int .i64 (zs.count 0 : Nat), .int .i64 (zs.count 1 : Nat), .int .i64 (zs.count 2 : Nat)]) (by simp [results, Try.f7, go_sem]) rfl ?_
        exact ⟨rfl, by first | exact HB.out.drew | exact HB.out.drew.drew | exact HB.out⟩
end Go.Proofs.Ytpandcidgmafaaa
