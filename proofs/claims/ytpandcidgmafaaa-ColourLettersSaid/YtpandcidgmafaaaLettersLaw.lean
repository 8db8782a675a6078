/- ColourLetters answers true for every row of words: the law of P2.2 on letters and counts. -/
import Derived.Test.YtpandcidgmafaaaCount
namespace Go.Proofs.Ytpandcidgmafaaa
open Go Go.RowKit
set_option maxRecDepth 100000

theorem right_let (n : Nat) : right (letN n) = decide (n < 3) := by
  by_cases h : n < 3
  · unfold right; rw [colN_let n h]; simp [h]
  · have : letN n = 63 := by unfold letN; rw [if_neg (by omega), if_neg (by omega), if_neg (by omega)]
    rw [this]; simp [h]; decide
theorem sums (zs : List Nat) : zs.count 0 + zs.count 1 + zs.count 2 ≤ zs.length ∧ ((zs.map letN).all right = true ↔ zs.count 0 + zs.count 1 + zs.count 2 = zs.length) := by
  induction zs with
  | nil => simp
  | cons z l ih =>
    obtain ⟨i1, i2⟩ := ih
    simp only [List.count_cons, List.length_cons, List.map_cons, List.all_cons, right_let, Bool.and_eq_true, decide_eq_true_eq, beq_iff_eq]
    rw [i2]
    by_cases h0 : z = 0
    · subst h0; simp; omega
    · by_cases h1 : z = 1
      · subst h1; simp; omega
      · by_cases h2 : z = 2
        · subst h2; simp; omega
        · simp [h0, h1, h2]; omega
theorem vals (zs : List Nat) (h : (zs.map letN).all right = true) : (zs.map letN).map valN = zs := by
  rw [List.map_map]
  conv => rhs; rw [← List.map_id zs]
  refine List.map_congr_left fun n hn => ?_
  rw [List.all_eq_true] at h
  have := h (letN n) (List.mem_map_of_mem hn)
  rw [right_let, decide_eq_true_eq] at this
  simp [valN, colN_let n this]
theorem law_long (a : Option Addr) (len cap : Nat) (h : 60 < len) (hm : len ≤ 9223372036854775807) (w : World) :
    Calls Try.prog 3 #[.slice a len cap] w fun e w' => e = .returned (.bool true) ∧ Below w.heap.size w w' := by
  go_enter Try.func3, Try.ntmps3
  go_wp2_with fail
  refine (awake_c _).mono ?_
  rintro e W ⟨rfl, hb⟩
  go_wp2_with fail
  go_ret
  exact ⟨rfl, hb⟩
set_option maxHeartbeats 3200000 in
theorem law_short (a : Option Addr) (cap : Nat) (zs : List Nat) (hl : zs.length ≤ 60) (w : World) (hr : Row w a zs) :
    Calls Try.prog 3 #[.slice a zs.length cap] w fun e w' => e = .returned (.bool true) ∧ Below w.heap.size w w' := by
  have HR := Lib.hid hr; clear hr
  obtain ⟨s1, s2⟩ := sums zs
  have hsz : (⟨(zs.map letN).toArray⟩ : ByteArray).size ≤ 60 := by rw [show (⟨(zs.map letN).toArray⟩ : ByteArray).size = (zs.map letN).length by simp [ByteArray.size]]; simpa using hl
  have HZ := Lib.hid hsz; have HS2 := Lib.hid s2
  clear hsz s2
  go_enter Try.func3, Try.ntmps3
  go_wp2_with fail
  refine (awake_c _).mono ?_
  rintro e W0 ⟨rfl, b0⟩
  have R0 := Lib.hid (HR.out.below b0 (Nat.le_refl _))
  go_wp2_with fail
  refine (letters_c a cap zs hl _ R0.out).mono ?_
  rintro e W1 ⟨rfl, b1⟩
  have R1 := Lib.hid (R0.out.below b1 (Nat.le_refl _))
  have B1 := Lib.hid (b0.trans (b1.mono b0.size))
  clear b0 b1 R0 HR
  go_wp2_with fail
  refine (count_c a cap zs hl _ R1.out).mono ?_
  rintro e W2 ⟨rfl, b2⟩
  have R2 := Lib.hid (R1.out.below b2 (Nat.le_refl _))
  have B2 := Lib.hid (B1.out.trans (b2.mono B1.out.size))
  clear b2 R1 B1
  go_wp2_with fail
  refine (parse_c _ HZ.out _).mono ?_
  rintro e W3 ⟨b3, ⟨hr3, a3, cap3, rfl, hrow3⟩ | ⟨hr3, rfl⟩⟩
  · have hr3' : (zs.map letN).all right = true := hr3
    have hv := vals zs hr3'
    have hsum := HS2.out.1 hr3'
    have e3 : (List.map valN (⟨(zs.map letN).toArray⟩ : ByteArray).data.toList) = zs := hv
    rw [e3] at hrow3 ⊢
    have R3 := Lib.hid (R2.out.below b3 (Nat.le_refl _))
    have B3 := Lib.hid (B2.out.trans (b3.mono B2.out.size))
    have HX := Lib.hid hrow3
    have L1 := Lib.hid (refLetters_c a cap zs hl _ R3.out)
    have K0 := Lib.hid (refCount_c a cap zs hl 0 _ R3.out)
    have K1 := Lib.hid (refCount_c a cap zs hl 1 _ R3.out)
    have K2 := Lib.hid (refCount_c a cap zs hl 2 _ R3.out)
    have S1 := Lib.hid (same_c a3 a cap3 cap zs hl _ HX.out R3.out)
    clear hr3 hr3' hv hrow3 e3 R2 b3 B2 HS2 HX R3
    generalize zs.count 0 = n0 at *
    generalize zs.count 1 = n1 at *
    generalize zs.count 2 = n2 at *
    go_wp2_with fail
    refine L1.out.mono ?_
    rintro e w' ⟨rfl, rfl⟩
    go_wp2_with fail
    refine K0.out.mono ?_
    rintro e w' ⟨rfl, rfl⟩
    go_wp2_with fail
    refine K1.out.mono ?_
    rintro e w' ⟨rfl, rfl⟩
    go_wp2_with fail
    refine K2.out.mono ?_
    rintro e w' ⟨rfl, rfl⟩
    go_wp2_with fail
    refine S1.out.mono ?_
    rintro e W4 ⟨rfl, b4⟩
    go_wp2_with fail
    go_ret
    exact ⟨rfl, B3.out.trans (b4.mono B3.out.size)⟩
  · have hr3' : (zs.map letN).all right = false := hr3
    have hne : zs.count 0 + zs.count 1 + zs.count 2 ≠ zs.length := fun e => by
      have := HS2.out.2 e
      rw [hr3'] at this
      cases this
    have hlt : zs.count 0 + zs.count 1 + zs.count 2 < zs.length := by omega
    have R3 := Lib.hid (R2.out.below b3 (Nat.le_refl _))
    have B3 := Lib.hid (B2.out.trans (b3.mono B2.out.size))
    have L1 := Lib.hid (refLetters_c a cap zs hl _ R3.out)
    have K0 := Lib.hid (refCount_c a cap zs hl 0 _ R3.out)
    have K1 := Lib.hid (refCount_c a cap zs hl 1 _ R3.out)
    have K2 := Lib.hid (refCount_c a cap zs hl 2 _ R3.out)
    clear hr3 hr3' R2 b3 B2 HS2 R3 hne
    generalize zs.count 0 = n0 at *
    generalize zs.count 1 = n1 at *
    generalize zs.count 2 = n2 at *
    go_wp2_with fail
    refine L1.out.mono ?_
    rintro e w' ⟨rfl, rfl⟩
    go_wp2_with fail
    refine K0.out.mono ?_
    rintro e w' ⟨rfl, rfl⟩
    go_wp2_with fail
    refine K1.out.mono ?_
    rintro e w' ⟨rfl, rfl⟩
    go_wp2_with fail
    refine K2.out.mono ?_
    rintro e w' ⟨rfl, rfl⟩
    go_wp2_with fail
    go_ret
    exact ⟨rfl, B3.out⟩
end Go.Proofs.Ytpandcidgmafaaa
