/- ColourReads answers true for every text: the law of P2.2 on reading. -/
import Derived.Test.YtpandcidgmafaaaParse
namespace Go.Proofs.Ytpandcidgmafaaa
open Go Go.RowKit
set_option maxRecDepth 100000

theorem wrong_is (c : UInt8) (h : right c = false) : ((c.toNat : Int) != 119) = true ∧ ((c.toNat : Int) != 103) = true ∧ ((c.toNat : Int) != 98) = true := by
  unfold right colN at h
  have h1 : c ≠ 119 := fun e => by rw [if_pos e] at h; cases h
  rw [if_neg h1] at h
  have h2 : c ≠ 103 := fun e => by rw [if_pos e] at h; cases h
  rw [if_neg h2] at h
  have h3 : c ≠ 98 := fun e => by rw [if_pos e] at h; cases h
  refine ⟨?_, ?_, ?_⟩
  · simpa using fun e => h1 (UInt8.toNat_inj.1 (by rw [show (119 : UInt8).toNat = 119 from rfl]; omega))
  · simpa using fun e => h2 (UInt8.toNat_inj.1 (by rw [show (103 : UInt8).toNat = 103 from rfl]; omega))
  · simpa using fun e => h3 (UInt8.toNat_inj.1 (by rw [show (98 : UInt8).toNat = 98 from rfl]; omega))
theorem right_is (c : UInt8) (h : right c = true) : (c.toNat : Int) = 119 ∨ (c.toNat : Int) = 103 ∨ (c.toNat : Int) = 98 := by
  unfold right colN at h
  by_cases h1 : c = 119
  · subst h1; exact .inl rfl
  · rw [if_neg h1] at h
    by_cases h2 : c = 103
    · subst h2; exact .inr (.inl rfl)
    · rw [if_neg h2] at h
      by_cases h3 : c = 98
      · subst h3; exact .inr (.inr rfl)
      · rw [if_neg h3] at h; cases h
theorem back (l : List UInt8) (h : l.all right = true) : (l.map valN).map letN = l := by
  rw [List.all_eq_true] at h
  rw [List.map_map]
  conv => rhs; rw [← List.map_id l]
  exact List.map_congr_left fun c hc => letN_val c (h c hc)
theorem reads_long (S : ByteArray) (h : 60 < S.size) (hm : S.size ≤ 9223372036854775807) (w : World) :
    Calls Try.prog 4 #[.string S] w fun e w' => e = .returned (.bool true) ∧ Below w.heap.size w w' := by
  go_enter Try.func4, Try.ntmps4
  go_wp2_with fail
  refine (awake_c _).mono ?_
  rintro e W ⟨rfl, hb⟩
  go_wp2_with fail
  go_ret
  exact ⟨rfl, hb⟩
set_option maxHeartbeats 1600000 in
theorem reads_short (S : ByteArray) (hl : S.size ≤ 60) (w : World) :
    Calls Try.prog 4 #[.string S] w fun e w' => e = .returned (.bool true) ∧ Below w.heap.size w w' := by
  go_enter Try.func4, Try.ntmps4
  go_wp2_with fail
  refine (awake_c _).mono ?_
  rintro e W ⟨rfl, hb⟩
  go_wp2_with fail
  refine (parse_c S hl _).mono ?_
  rintro e W1 ⟨hb1, ⟨hr, a, cap, rfl, hrow⟩ | ⟨hr, rfl⟩⟩
  · have hz : (S.data.toList.map valN).length = S.size := by simp
    have hB : Below w.heap.size w W1 := hb.trans (hb1.mono hb.size)
    have hL := letters_c a cap (S.data.toList.map valN) (by rw [hz]; exact hl) W1 hrow
    rw [back _ hr, hz, show (⟨S.data.toList.toArray⟩ : ByteArray) = S by cases S; rfl] at hL
    rw [hz]
    have HL := Lib.hid hL
    clear hL hrow hr hb hb1 hz
    go_wp2_with fail
    refine HL.out.mono ?_
    rintro e W2 ⟨rfl, h2⟩
    go_wp2_with fail
    go_ret
    exact ⟨rfl, hB.trans (h2.mono hB.size)⟩
  · have hB : Below w.heap.size w W1 := hb.trans (hb1.mono hb.size)
    have HR := Lib.hid hr
    clear hr hb hb1
    go_wp2_with fail
    go_loop [5] (fun v => ∃ k : Nat, v = .int .i64 k ∧ k ≤ S.size ∧ Hid ((S.data.toList.take k).all right = true)) (fun v => S.size - (intOf v).toNat)
    case atStart => exact ⟨0, rfl, Nat.zero_le _, Lib.hid rfl⟩
    case round =>
      obtain ⟨k, rfl, hk, HK⟩ := hrel
      by_cases hkn : k < S.size
      · have hs := bytes_snoc S k hkn
        cases hr : right S[k] with
        | false =>
          obtain ⟨q1, q2, q3⟩ := wrong_is S[k] hr
          clear hs HK HR hr
          go_wp2
          go_ret
          exact ⟨rfl, hB⟩
        | true =>
          have HN : Hid ((S.data.toList.take (k + 1)).all right = true) := Lib.hid (by rw [hs]; simp [hr]; simpa using HK.out)
          have hq := right_is S[k] hr
          clear hs HK hr HR
          rcases hq with q | q | q
          all_goals
            go_wp2
            go_round
            case rel => exact ⟨k + 1, by go_num, by omega, HN⟩
            case measure => simp [intOf]; omega
      · obtain rfl : k = S.size := by omega
        have ht : S.data.toList.take S.size = S.data.toList := List.take_of_length_le (by simp)
        have := HK.out
        rw [ht, HR.out] at this
        cases this
theorem reads_c (S : ByteArray) (hm : S.size ≤ 9223372036854775807) (w : World) :
    Calls Try.prog 4 #[.string S] w fun e w' => e = .returned (.bool true) ∧ Below w.heap.size w w' := by
  by_cases h : 60 < S.size
  · exact reads_long S h hm w
  · exact reads_short S (by omega) w
end Go.Proofs.Ytpandcidgmafaaa
