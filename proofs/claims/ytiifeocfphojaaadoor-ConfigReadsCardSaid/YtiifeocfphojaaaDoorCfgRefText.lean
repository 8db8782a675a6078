/- The document's answer for the text of a configuration, for every configuration. -/
import Derived.Test.YtiifeocfphojaaaDoorCfgRef
import Derived.Lib.ConvBytes
import Derived.Lib.Strings
namespace Go.Proofs.YtiifeocfphojaaaDoor
open Go Go.RowKit
set_option maxRecDepth 100000
attribute [local go_sem ↓] Go.wp_at_zero Go.wp_at_succ

theorem byte_back (wr : World) (x : Int) (d : UInt8) (hd : (d.toNat : Int) = x) :
    (convert 48 9 (.slice (some ⟨wr.heap.size, 0, none⟩) 1 1)).run Tryd.prog (wr.alloc (.cells #[.int .u8 x] 5)) = .ok (.string ⟨[d].toArray⟩) (wr.alloc (.cells #[.int .u8 x] 5)) :=
  run_convert_bytes_back (P := Tryd.prog) (wr.alloc (.cells #[.int .u8 x] 5)) 48 9 5 ⟨wr.heap.size, 0, none⟩ 1 [d] Tryd.underlying48 Tryd.underlying5 Tryd.underlying9 (fun j hj => by
    obtain rfl : j = 0 := by simpa using hj
    rw [Lib.add_plain, World.cell?_alloc_new]
    simp [hd])
set_option maxHeartbeats 1600000 in
theorem digits_c (n0 : Nat) (h : n0 < 18446744073709551616) (w : World) :
    Calls Tryd.prog 31 #[.int .u64 n0] w fun e w' => e = .returned (.string ⟨(Lib.decDigits n0).toArray⟩) ∧ Below w.heap.size w w' := by
  have hlen : (Lib.decDigits n0).length ≤ 20 := by rw [Lib.decDigits_length]; exact Lib.nDigits_le20 _ h
  have HL := Lib.hid hlen; clear hlen
  go_enter Tryd.func31, Tryd.ntmps31
  go_wp2
  go_loopw [0, 3] (fun vn vs wr => ∃ (n : Nat) (s : List UInt8), vn = .int .u64 n ∧ vs = .string ⟨s.toArray⟩ ∧ n < 18446744073709551616 ∧ s.length ≤ 20 ∧ Hid (Lib.decDigits n0 = Lib.decDigits n ++ s) ∧ Below w.heap.size w wr)
    (fun vn _ _ => (intOf vn).toNat)
  case atStart => exact ⟨n0, [], rfl, rfl, h, by simp, Lib.hid (by simp), Below.refl _ _⟩
  case round =>
    obtain ⟨n, s, rfl, rfl, hn, hs, HD, hb⟩ := hrel
    obtain ⟨d, hd⟩ : ∃ d : UInt8, d = UInt8.ofNat (48 + n % 10) := ⟨_, rfl⟩
    have hd2 : (d.toNat : Int) = 48 + (n : Int) % 10 := by rw [hd, toNat_dig _ (by omega)]; omega
    have hcv := byte_back wr (48 + (n : Int) % 10) d hd2
    have HD0 := Lib.hid hd; clear hd hd2
    by_cases h10 : n < 10
    · have hz : ((n : Int) / 10 == 0) = true := by simp; omega
      have HE : Hid (Lib.decDigits n0 = [d] ++ s) := by
        rw [HD.out, Lib.decDigits_one h10, HD0.out, Nat.mod_eq_of_lt h10]; exact Lib.hid rfl
      clear HD HD0
      go_wp2
      go_ret
      refine ⟨?_, hb.trans (((Below.refl _ _).alloc (Nat.le_refl _) _).mono hb.size)⟩
      rw [HE.out]
      rfl
    · have hz : ((n : Int) / 10 == 0) = false := by simp; omega
      have HE : Hid (Lib.decDigits n0 = Lib.decDigits (n / 10) ++ (d :: s)) :=
        Lib.hid (by rw [HD.out, dec_step h10, HD0.out]; simp)
      have hs2 : (d :: s).length ≤ 20 := by
        have := congrArg List.length HE.out
        have h2 := HL.out
        rw [List.length_append] at this
        omega
      have HS := Lib.hid hs2
      clear HD HD0 hs2
      go_wp2
      go_roundw
      case rel => exact ⟨n / 10, d :: s, by go_num, rfl, by omega, HS.out, HE, hb.trans (((Below.refl _ _).alloc (Nat.le_refl _) _).mono hb.size)⟩
      case measure => simp [intOf]; omega
theorem refDigits_c (n : Int) (h0 : 0 ≤ n) (h1 : n ≤ 4096) (w : World) :
    Calls Tryd.prog 24 #[.int .i64 n] w fun e w' => e = .returned (.string ⟨(Lib.itoa n).toArray⟩) ∧ Below w.heap.size w w' := by
  obtain ⟨k, rfl⟩ : ∃ k : Nat, n = k := ⟨n.toNat, by omega⟩
  rw [Lib.itoa_nonneg]
  have H := Lib.hid (digits_c k (by omega) w)
  go_enter Tryd.func24, Tryd.ntmps24
  go_wp2_with fail
  refine H.out.mono ?_
  rintro e W ⟨rfl, hW⟩
  go_wp2_with fail
  go_ret
  exact ⟨rfl, hW⟩
theorem refText_wrong (a b c d : Int) (hr : ¬ Right a b c d) (w : World) :
    Calls Tryd.prog 17 #[.agg #[.int .i64 a, .int .i64 b, .int .i64 c, .int .i64 d]] w fun e w' => e = .returned (.string ⟨#[]⟩) ∧ Below w.heap.size w w' := by
  have HC := Lib.hid (refRight_wrong a b c d hr)
  have HB := Lib.hid (below_new w (.cells #[.int .i64 a, .int .i64 b, .int .i64 c, .int .i64 d] 23))
  clear hr
  go_enter Tryd.func17, Tryd.ntmps17
  go_wp2_with fail
  refine (HC.out _).mono ?_
  rintro e W ⟨rfl, hW⟩
  have HB1 := Lib.hid (belowOn HB.out hW)
  clear HB HC hW
  go_wp2_with fail
  go_ret
  exact ⟨rfl, HB1.out⟩
theorem text_bytes (s1 s2 s3 s4 : List UInt8) : (⟨#[99, 101, 108, 108, 115, 32]⟩ : ByteArray) ++ ⟨s1.toArray⟩ ++ ⟨#[32, 109, 117, 116, 115, 32]⟩ ++ ⟨s2.toArray⟩ ++ ⟨#[32, 114, 101, 103, 115, 32]⟩ ++ ⟨s3.toArray⟩ ++ ⟨#[32, 103, 108, 111, 98, 115, 32]⟩ ++ ⟨s4.toArray⟩
    = ⟨([99, 101, 108, 108, 115, 32] ++ s1 ++ [32, 109, 117, 116, 115, 32] ++ s2 ++ [32, 114, 101, 103, 115, 32] ++ s3 ++ [32, 103, 108, 111, 98, 115, 32] ++ s4).toArray⟩ := by
  apply ByteArray.ext
  simp [ByteArray.data_append]
set_option maxHeartbeats 6400000 in
theorem refText_right (a b c d : Int) (hr : Right a b c d) (w : World) :
    Calls Tryd.prog 17 #[.agg #[.int .i64 a, .int .i64 b, .int .i64 c, .int .i64 d]] w fun e w' => e = .returned (.string ⟨(textC a b c d).toArray⟩) ∧ Below w.heap.size w w' := by
  have HC := Lib.hid (refRight_right a b c d hr)
  have HX := Lib.hid (BoxAt.new w a b c d 23)
  have HB := Lib.hid (below_new w (.cells #[.int .i64 a, .int .i64 b, .int .i64 c, .int .i64 d] 23))
  obtain ⟨ha1, ha2, hb1, hb2, hc1, hc2, hd1, hd2⟩ := hr
  have H1 := Lib.hid (refDigits_c a (by omega) (by omega))
  have H2 := Lib.hid (refDigits_c b (by omega) (by omega))
  have H3 := Lib.hid (refDigits_c c (by omega) (by omega))
  have H4 := Lib.hid (refDigits_c d (by omega) (by omega))
  have l1 := itoa_short a (by omega) (by omega)
  have l2 := itoa_short b (by omega) (by omega)
  have l3 := itoa_short c (by omega) (by omega)
  have l4 := itoa_short d (by omega) (by omega)
  have HE : Hid (textC a b c d = [99, 101, 108, 108, 115, 32] ++ Lib.itoa a ++ [32, 109, 117, 116, 115, 32] ++ Lib.itoa b ++ [32, 114, 101, 103, 115, 32] ++ Lib.itoa c ++ [32, 103, 108, 111, 98, 115, 32] ++ Lib.itoa d) := Lib.hid (by
    unfold textC wordsL; rw [Lib.join_cons]; simp [Lib.joinTail])
  generalize Lib.itoa a = s1 at *
  generalize Lib.itoa b = s2 at *
  generalize Lib.itoa c = s3 at *
  generalize Lib.itoa d = s4 at *
  have q0 : ∀ W, (Op.stringOp .add (⟨#[99, 101, 108, 108, 115, 32]⟩ : ByteArray) (⟨s1.toArray⟩ : ByteArray)).run Tryd.prog W = .ok (.string ((⟨#[99, 101, 108, 108, 115, 32]⟩ : ByteArray) ++ (⟨s1.toArray⟩ : ByteArray))) W := fun W => run_string_add_sum W _ _ (by simp [ByteArray.size]; omega)
  have q1 : ∀ W, (Op.stringOp .add ((⟨#[99, 101, 108, 108, 115, 32]⟩ : ByteArray) ++ (⟨s1.toArray⟩ : ByteArray)) (⟨#[32, 109, 117, 116, 115, 32]⟩ : ByteArray)).run Tryd.prog W = .ok (.string (((⟨#[99, 101, 108, 108, 115, 32]⟩ : ByteArray) ++ (⟨s1.toArray⟩ : ByteArray)) ++ (⟨#[32, 109, 117, 116, 115, 32]⟩ : ByteArray))) W := fun W => run_string_add_sum W _ _ (by simp only [ByteArray.size_append]; simp [ByteArray.size]; omega)
  have q2 : ∀ W, (Op.stringOp .add (((⟨#[99, 101, 108, 108, 115, 32]⟩ : ByteArray) ++ (⟨s1.toArray⟩ : ByteArray)) ++ (⟨#[32, 109, 117, 116, 115, 32]⟩ : ByteArray)) (⟨s2.toArray⟩ : ByteArray)).run Tryd.prog W = .ok (.string ((((⟨#[99, 101, 108, 108, 115, 32]⟩ : ByteArray) ++ (⟨s1.toArray⟩ : ByteArray)) ++ (⟨#[32, 109, 117, 116, 115, 32]⟩ : ByteArray)) ++ (⟨s2.toArray⟩ : ByteArray))) W := fun W => run_string_add_sum W _ _ (by simp only [ByteArray.size_append]; simp [ByteArray.size]; omega)
  have q3 : ∀ W, (Op.stringOp .add ((((⟨#[99, 101, 108, 108, 115, 32]⟩ : ByteArray) ++ (⟨s1.toArray⟩ : ByteArray)) ++ (⟨#[32, 109, 117, 116, 115, 32]⟩ : ByteArray)) ++ (⟨s2.toArray⟩ : ByteArray)) (⟨#[32, 114, 101, 103, 115, 32]⟩ : ByteArray)).run Tryd.prog W = .ok (.string (((((⟨#[99, 101, 108, 108, 115, 32]⟩ : ByteArray) ++ (⟨s1.toArray⟩ : ByteArray)) ++ (⟨#[32, 109, 117, 116, 115, 32]⟩ : ByteArray)) ++ (⟨s2.toArray⟩ : ByteArray)) ++ (⟨#[32, 114, 101, 103, 115, 32]⟩ : ByteArray))) W := fun W => run_string_add_sum W _ _ (by simp only [ByteArray.size_append]; simp [ByteArray.size]; omega)
  have q4 : ∀ W, (Op.stringOp .add (((((⟨#[99, 101, 108, 108, 115, 32]⟩ : ByteArray) ++ (⟨s1.toArray⟩ : ByteArray)) ++ (⟨#[32, 109, 117, 116, 115, 32]⟩ : ByteArray)) ++ (⟨s2.toArray⟩ : ByteArray)) ++ (⟨#[32, 114, 101, 103, 115, 32]⟩ : ByteArray)) (⟨s3.toArray⟩ : ByteArray)).run Tryd.prog W = .ok (.string ((((((⟨#[99, 101, 108, 108, 115, 32]⟩ : ByteArray) ++ (⟨s1.toArray⟩ : ByteArray)) ++ (⟨#[32, 109, 117, 116, 115, 32]⟩ : ByteArray)) ++ (⟨s2.toArray⟩ : ByteArray)) ++ (⟨#[32, 114, 101, 103, 115, 32]⟩ : ByteArray)) ++ (⟨s3.toArray⟩ : ByteArray))) W := fun W => run_string_add_sum W _ _ (by simp only [ByteArray.size_append]; simp [ByteArray.size]; omega)
  have q5 : ∀ W, (Op.stringOp .add ((((((⟨#[99, 101, 108, 108, 115, 32]⟩ : ByteArray) ++ (⟨s1.toArray⟩ : ByteArray)) ++ (⟨#[32, 109, 117, 116, 115, 32]⟩ : ByteArray)) ++ (⟨s2.toArray⟩ : ByteArray)) ++ (⟨#[32, 114, 101, 103, 115, 32]⟩ : ByteArray)) ++ (⟨s3.toArray⟩ : ByteArray)) (⟨#[32, 103, 108, 111, 98, 115, 32]⟩ : ByteArray)).run Tryd.prog W = .ok (.string (((((((⟨#[99, 101, 108, 108, 115, 32]⟩ : ByteArray) ++ (⟨s1.toArray⟩ : ByteArray)) ++ (⟨#[32, 109, 117, 116, 115, 32]⟩ : ByteArray)) ++ (⟨s2.toArray⟩ : ByteArray)) ++ (⟨#[32, 114, 101, 103, 115, 32]⟩ : ByteArray)) ++ (⟨s3.toArray⟩ : ByteArray)) ++ (⟨#[32, 103, 108, 111, 98, 115, 32]⟩ : ByteArray))) W := fun W => run_string_add_sum W _ _ (by simp only [ByteArray.size_append]; simp [ByteArray.size]; omega)
  have q6 : ∀ W, (Op.stringOp .add (((((((⟨#[99, 101, 108, 108, 115, 32]⟩ : ByteArray) ++ (⟨s1.toArray⟩ : ByteArray)) ++ (⟨#[32, 109, 117, 116, 115, 32]⟩ : ByteArray)) ++ (⟨s2.toArray⟩ : ByteArray)) ++ (⟨#[32, 114, 101, 103, 115, 32]⟩ : ByteArray)) ++ (⟨s3.toArray⟩ : ByteArray)) ++ (⟨#[32, 103, 108, 111, 98, 115, 32]⟩ : ByteArray)) (⟨s4.toArray⟩ : ByteArray)).run Tryd.prog W = .ok (.string ((((((((⟨#[99, 101, 108, 108, 115, 32]⟩ : ByteArray) ++ (⟨s1.toArray⟩ : ByteArray)) ++ (⟨#[32, 109, 117, 116, 115, 32]⟩ : ByteArray)) ++ (⟨s2.toArray⟩ : ByteArray)) ++ (⟨#[32, 114, 101, 103, 115, 32]⟩ : ByteArray)) ++ (⟨s3.toArray⟩ : ByteArray)) ++ (⟨#[32, 103, 108, 111, 98, 115, 32]⟩ : ByteArray)) ++ (⟨s4.toArray⟩ : ByteArray))) W := fun W => run_string_add_sum W _ _ (by simp only [ByteArray.size_append]; simp [ByteArray.size]; omega)
  go_enter Tryd.func17, Tryd.ntmps17
  go_wp2_with fail
  refine (HC.out _).mono ?_
  rintro e W ⟨rfl, hW⟩
  have HB1 := Lib.hid (belowOn HB.out hW)
  obtain ⟨x0, x1, x2, x3⟩ := HX.out.below hW
  clear HX HB HC hW
  go_wp2_with fail
  go_region_held3 (fun w' => w'.cell? ⟨w.heap.size, 0, none⟩ = some (.int .i64 a) ∧ w'.cell? ⟨w.heap.size, 1, none⟩ = some (.int .i64 b) ∧ w'.cell? ⟨w.heap.size, 2, none⟩ = some (.int .i64 c) ∧ w'.cell? ⟨w.heap.size, 3, none⟩ = some (.int .i64 d)) (first | assumption | go_keep)
    (first
      | (go_at_call_of 24 (Value.int .i64 a); refine (H1.out _).mono ?_; rintro e w1 ⟨rfl, hW1⟩; have hX := BoxAt.below (a := a) (b := b) (c := c) (d := d) (B := w.heap.size) (by assumption) hW1)
      | (go_at_call_of 24 (Value.int .i64 b); refine (H2.out _).mono ?_; rintro e w2 ⟨rfl, hW2⟩; have hX := BoxAt.below (a := a) (b := b) (c := c) (d := d) (B := w.heap.size) (by assumption) hW2)
      | (go_at_call_of 24 (Value.int .i64 c); refine (H3.out _).mono ?_; rintro e w3 ⟨rfl, hW3⟩; have hX := BoxAt.below (a := a) (b := b) (c := c) (d := d) (B := w.heap.size) (by assumption) hW3)
      | (go_at_call_of 24 (Value.int .i64 d); refine (H4.out _).mono ?_; rintro e w4 ⟨rfl, hW4⟩; have hX := BoxAt.below (a := a) (b := b) (c := c) (d := d) (B := w.heap.size) (by assumption) hW4))
  all_goals go_wp2_with fail
  all_goals go_ret
  refine ⟨?_, belowOn (belowOn (belowOn (belowOn HB1.out.drew hW1) hW2) hW3) hW4⟩
  rw [HE.out]
  exact congrArg (fun x => Ending.returned (Value.string x)) (text_bytes s1 s2 s3 s4)
end Go.Proofs.YtiifeocfphojaaaDoor
