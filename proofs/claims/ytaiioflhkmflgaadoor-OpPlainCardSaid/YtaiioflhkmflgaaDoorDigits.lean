/- The document's digits and Digits: for every number below 2^64 its numeral; a numeral's letters are digits. -/
import Derived.Test.YtaiioflhkmflgaaDoorCfg
import Derived.Lib.ConvBytes
import Derived.Lib.Strings
import Derived.Lib.ItoaLen
import Derived.Lib.ItoaMem
namespace Go.Proofs.YtaiioflhkmflgaaDoor
open Go Go.RowKit
set_option maxRecDepth 100000

theorem dec_step {u : Nat} (h : ¬ u < 10) : Lib.decDigits u = Lib.decDigits (u / 10) ++ [UInt8.ofNat (48 + u % 10)] := by rw [Lib.decDigits, dif_neg h]
theorem dec_ne (u : Nat) : Lib.decDigits u ≠ [] := by
  by_cases h : u < 10
  · rw [Lib.decDigits_one h]; simp
  · rw [dec_step h]; simp
theorem toNat_dig (k : Nat) (h : k < 10) : (UInt8.ofNat (48 + k)).toNat = 48 + k := by
  rw [UInt8.toNat_ofNat']; omega
theorem dec_digit (u : Nat) : ∀ c ∈ Lib.decDigits u, 48 ≤ c.toNat ∧ c.toNat ≤ 57 := by
  induction u using Nat.strongRecOn with
  | ind u ih =>
    by_cases h : u < 10
    · rw [Lib.decDigits_one h]; intro c hc
      simp only [List.mem_singleton] at hc; subst hc; rw [toNat_dig _ h]; omega
    · rw [dec_step h]; intro c hc
      rcases List.mem_append.1 hc with hc | hc
      · exact ih (u / 10) (by omega) c hc
      · simp only [List.mem_singleton] at hc; subst hc; rw [toNat_dig _ (by omega)]; omega
theorem byte_back (wr : World) (x : Int) (d : UInt8) (hd : (d.toNat : Int) = x) :
    (convert 70 9 (.slice (some ⟨wr.heap.size, 0, none⟩) 1 1)).run Tryd.prog (wr.alloc (.cells #[.int .u8 x] 5)) = .ok (.string ⟨[d].toArray⟩) (wr.alloc (.cells #[.int .u8 x] 5)) :=
  run_convert_bytes_back (P := Tryd.prog) (wr.alloc (.cells #[.int .u8 x] 5)) 70 9 5 ⟨wr.heap.size, 0, none⟩ 1 [d] Tryd.underlying70 Tryd.underlying5 Tryd.underlying9 (fun j hj => by
    obtain rfl : j = 0 := by simpa using hj
    rw [Lib.add_plain, World.cell?_alloc_new]
    simp [hd])
set_option maxHeartbeats 1600000 in
theorem digits_c (n0 : Nat) (h : n0 < 18446744073709551616) (w : World) :
    Calls Tryd.prog 42 #[.int .u64 n0] w fun e w' => e = .returned (.string ⟨(Lib.decDigits n0).toArray⟩) ∧ Below w.heap.size w w' := by
  have hlen : (Lib.decDigits n0).length ≤ 20 := by rw [Lib.decDigits_length]; exact Lib.nDigits_le20 _ h
  have HL := Lib.hid hlen; clear hlen
  go_enter Tryd.func42, Tryd.ntmps42
  go_wp2
  go_loopw [0, 3] (fun vn vs wr => ∃ (n : Nat) (s : List UInt8), vn = .int .u64 n ∧ vs = .string ⟨s.toArray⟩ ∧ n < 18446744073709551616 ∧ s.length ≤ 20 ∧ Hid (Lib.decDigits n0 = Lib.decDigits n ++ s) ∧ Below w.heap.size w wr)
    (fun vn _ _ => (intOf vn).toNat)
  case atStart => exact ⟨n0, [], rfl, rfl, h, by simp, Lib.hid (by simp), Below.refl _ _⟩
  case round =>
    obtain ⟨n, s, rfl, rfl, hn, hs, HD, hb⟩ := hrel
    obtain ⟨d, hd⟩ : ∃ d : UInt8, d = UInt8.ofNat (48 + n % 10) := ⟨_, rfl⟩
    have hd2 : (d.toNat : Int) = 48 + (n : Int) % 10 := by rw [hd, toNat_dig _ (by omega)]; omega
    have hcv := byte_back wr (48 + (n : Int) % 10) d hd2
    have HD0 := Lib.hid hd; clear hd hd2
    by_cases h10 : n < 10
    · have hz : ((n : Int) / 10 == 0) = true := by simp; omega
      have HE : Hid (Lib.decDigits n0 = [d] ++ s) := by
        rw [HD.out, Lib.decDigits_one h10, HD0.out, Nat.mod_eq_of_lt h10]; exact Lib.hid rfl
      clear HD HD0
      go_wp2
      go_ret
      refine ⟨?_, hb.trans (((Below.refl _ _).alloc (Nat.le_refl _) _).mono hb.size)⟩
      rw [HE.out]
      rfl
    · have hz : ((n : Int) / 10 == 0) = false := by simp; omega
      have HE : Hid (Lib.decDigits n0 = Lib.decDigits (n / 10) ++ (d :: s)) :=
        Lib.hid (by rw [HD.out, dec_step h10, HD0.out]; simp)
      have hs2 : (d :: s).length ≤ 20 := by
        have := congrArg List.length HE.out
        have h2 := HL.out
        rw [List.length_append] at this
        omega
      have HS := Lib.hid hs2
      clear HD HD0 hs2
      go_wp2
      go_roundw
      case rel => exact ⟨n / 10, d :: s, by go_num, rfl, by omega, HS.out, HE, hb.trans (((Below.refl _ _).alloc (Nat.le_refl _) _).mono hb.size)⟩
      case measure => simp [intOf]; omega
theorem refDigits_c (n : Int) (h0 : 0 ≤ n) (h1 : n ≤ 9223372036854775807) (w : World) :
    Calls Tryd.prog 32 #[.int .i64 n] w fun e w' => e = .returned (.string ⟨(Lib.itoa n).toArray⟩) ∧ Below w.heap.size w w' := by
  obtain ⟨k, rfl⟩ : ∃ k : Nat, n = k := ⟨n.toNat, by omega⟩
  rw [Lib.itoa_nonneg]
  have H := Lib.hid (digits_c k (by omega) w)
  go_enter Tryd.func32, Tryd.ntmps32
  go_wp2_with fail
  refine H.out.mono ?_
  rintro e W ⟨rfl, hW⟩
  go_wp2_with fail
  go_ret
  exact ⟨rfl, hW⟩
end Go.Proofs.YtaiioflhkmflgaaDoor
