/- The document's answers for texts: digits and Text, for every word. -/
import Derived.Test.YtlnnnjlmfndlbaaDoorParse
namespace Go.Proofs.YtlnnnjlmfndlbaaDoor
open Go Go.RowKit
set_option maxRecDepth 100000

theorem byte_back (wr : World) (x : Int) (d : UInt8) (hd : (d.toNat : Int) = x) :
    (convert 56 9 (.slice (some ⟨wr.heap.size, 0, none⟩) 1 1)).run Tryd.prog (wr.alloc (.cells #[.int .u8 x] 5)) = .ok (.string ⟨[d].toArray⟩) (wr.alloc (.cells #[.int .u8 x] 5)) :=
  run_convert_bytes_back (P := Tryd.prog) (wr.alloc (.cells #[.int .u8 x] 5)) 56 9 5 ⟨wr.heap.size, 0, none⟩ 1 [d] Tryd.underlying56 Tryd.underlying5 Tryd.underlying9 (fun j hj => by
    obtain rfl : j = 0 := by simpa using hj
    rw [Lib.add_plain, World.cell?_alloc_new]
    simp [hd])
set_option maxHeartbeats 1600000 in
theorem digits_c (n0 : Nat) (h : n0 < 18446744073709551616) (w : World) :
    Calls Tryd.prog 29 #[.int .u64 n0] w fun e w' => e = .returned (.string ⟨(Lib.decDigits n0).toArray⟩) ∧ Below w.heap.size w w' := by
  have hlen : (Lib.decDigits n0).length ≤ 20 := by rw [Lib.decDigits_length]; exact Lib.nDigits_le20 _ h
  have HL := Lib.hid hlen; clear hlen
  go_enter Tryd.func29, Tryd.ntmps29
  go_wp2
  go_loopw [0, 3] (fun vn vs wr => ∃ (n : Nat) (s : List UInt8), vn = .int .u64 n ∧ vs = .string ⟨s.toArray⟩ ∧ n < 18446744073709551616 ∧ s.length ≤ 20 ∧ Hid (Lib.decDigits n0 = Lib.decDigits n ++ s) ∧ Below w.heap.size w wr)
    (fun vn _ _ => (intOf vn).toNat)
  case atStart => exact ⟨n0, [], rfl, rfl, h, by simp, Lib.hid (by simp), Below.refl _ _⟩
  case round =>
    obtain ⟨n, s, rfl, rfl, hn, hs, HD, hb⟩ := hrel
    obtain ⟨d, hd⟩ : ∃ d : UInt8, d = UInt8.ofNat (48 + n % 10) := ⟨_, rfl⟩
    have hd2 : (d.toNat : Int) = 48 + (n : Int) % 10 := by rw [hd, toNat_dig _ (by omega)]; omega
    have hcv := byte_back wr (48 + (n : Int) % 10) d hd2
    have HD0 := Lib.hid hd; clear hd hd2
    by_cases h10 : n < 10
    · have hz : ((n : Int) / 10 == 0) = true := by simp; omega
      have HE : Hid (Lib.decDigits n0 = [d] ++ s) := by
        rw [HD.out, Lib.decDigits_one h10, HD0.out, Nat.mod_eq_of_lt h10]; exact Lib.hid rfl
      clear HD HD0
      go_wp2
      go_ret
      refine ⟨?_, hb.trans (((Below.refl _ _).alloc (Nat.le_refl _) _).mono hb.size)⟩
      rw [HE.out]
      rfl
    · have hz : ((n : Int) / 10 == 0) = false := by simp; omega
      have HE : Hid (Lib.decDigits n0 = Lib.decDigits (n / 10) ++ (d :: s)) :=
        Lib.hid (by rw [HD.out, dec_step h10, HD0.out]; simp)
      have hs2 : (d :: s).length ≤ 20 := by
        have := congrArg List.length HE.out
        have h2 := HL.out
        rw [List.length_append] at this
        omega
      have HS := Lib.hid hs2
      clear HD HD0 hs2
      go_wp2
      go_roundw
      case rel => exact ⟨n / 10, d :: s, by go_num, rfl, by omega, HS.out, HE, hb.trans (((Below.refl _ _).alloc (Nat.le_refl _) _).mono hb.size)⟩
      case measure => simp [intOf]; omega
theorem refText_c (n : Nat) (h : n < 18446744073709551616) (w : World) :
    Calls Tryd.prog 20 #[.int .u64 n] w fun e w' => e = .returned (.string ⟨(textB n).toArray⟩) ∧ Below w.heap.size w w' := by
  have H := Lib.hid (digits_c (n / 2) (by omega) w)
  have hsh := textB_short n h
  unfold textB markB
  by_cases h1 : n % 2 = 0
  · rw [if_pos h1]
    go_enter Tryd.func20, Tryd.ntmps20
    go_wp2_with fail
    refine H.out.mono ?_
    rintro e W ⟨rfl, hW⟩
    go_wp2_with fail
    go_ret
    exact ⟨rfl, hW⟩
  · rw [if_neg h1]
    by_cases h8 : n < 8192
    · rw [if_pos h8]
      go_enter Tryd.func20, Tryd.ntmps20
      go_wp2_with fail
      refine H.out.mono ?_
      rintro e W ⟨rfl, hW⟩
      go_wp2_with fail
      go_ret
      exact ⟨rfl, hW⟩
    · rw [if_neg h8]
      go_enter Tryd.func20, Tryd.ntmps20
      go_wp2_with fail
      refine H.out.mono ?_
      rintro e W ⟨rfl, hW⟩
      go_wp2_with fail
      go_ret
      exact ⟨rfl, hW⟩
end Go.Proofs.YtlnnnjlmfndlbaaDoor
