/- The document's Parse: of a word's text the word; of any other text of at most 60 bytes the error's number 3. -/
import Derived.Test.YtlnnnjlmfndlbaaDoorRefText
namespace Go.Proofs.YtlnnnjlmfndlbaaDoor
open Go Go.RowKit
set_option maxRecDepth 100000

def isDig (c : UInt8) : Bool := decide (48 ≤ c.toNat) && decide (c.toNat ≤ 57)
def valD (l : List UInt8) : Nat := l.foldl (fun a c => 10 * a + (c.toNat - 48)) 0
theorem valD_snoc (l : List UInt8) (c : UInt8) : valD (l ++ [c]) = 10 * valD l + (c.toNat - 48) := by unfold valD; rw [List.foldl_append]; rfl
theorem valD_lt : ∀ (k : Nat) (l : List UInt8), l.length = k → (∀ c ∈ l, isDig c = true) → valD l < 10 ^ k := by
  intro k
  induction k with
  | zero => intro l hl _; rw [List.eq_nil_of_length_eq_zero hl]; decide
  | succ k ih =>
    intro l hl hd
    rcases List.eq_nil_or_concat l with rfl | ⟨l', c, rfl⟩
    · simp at hl
    · rw [List.concat_eq_append] at *
      have h1 := ih l' (by simpa using hl) (fun c hc => hd c (by simp [hc]))
      have h2 := hd c (by simp)
      unfold isDig at h2
      simp at h2
      rw [valD_snoc, Nat.pow_succ]
      omega
theorem valD_dec (u : Nat) : valD (Lib.decDigits u) = u := by
  induction u using Nat.strongRecOn with
  | ind u ih =>
    by_cases h : u < 10
    · rw [Lib.decDigits_one h]; unfold valD; simp only [List.foldl_cons, List.foldl_nil]; rw [toNat_dig _ h]; omega
    · rw [dec_step h, valD_snoc, ih (u / 10) (by omega), toNat_dig _ (by omega)]; omega
def refRes (l t : List UInt8) (o : Nat) : Nat × Int :=
  if t = [] ∨ 19 < t.length then (0, 3)
  else if t.all isDig then (if 9223372036854775807 < valD t ∨ textB (2 * valD t + o) ≠ l then (0, 3) else (2 * valD t + o, 0))
  else (0, 3)
theorem refRes_text (n : Nat) (h : n < 18446744073709551616) : refRes (textB n) (Lib.decDigits (n / 2)) (n % 2) = (n, 0) := by
  unfold refRes
  have h19 := dec_short (n / 2) (by omega)
  have h1 : ¬ (Lib.decDigits (n / 2) = [] ∨ 19 < (Lib.decDigits (n / 2)).length) := by
    rintro (e | e)
    · exact dec_ne _ e
    · omega
  have h2 : (Lib.decDigits (n / 2)).all isDig = true := by
    rw [List.all_eq_true]; intro c hc
    have := dec_digit _ c hc
    unfold isDig; simp; omega
  have h3 : ¬ (9223372036854775807 < n / 2 ∨ textB n ≠ textB n) := by
    rintro (e | e)
    · omega
    · exact e rfl
  rw [if_neg h1, if_pos h2, valD_dec, show 2 * (n / 2) + n % 2 = n by omega, if_neg h3]
theorem refRes_no (l t : List UInt8) (o : Nat) (ho : o ≤ 1) (h : ∀ m, m < 18446744073709551616 → textB m ≠ l) : refRes l t o = (0, 3) := by
  unfold refRes
  split
  · rfl
  · split
    · rw [if_pos]
      by_cases hv : 9223372036854775807 < valD t
      · exact Or.inl hv
      · exact Or.inr (h _ (by omega))
    · rfl
def RefPost (l t : List UInt8) (o : Nat) (w : World) (e : Ending) (w' : World) : Prop :=
  e = .returned (.tuple #[.int .u64 (refRes l t o).1, .int .i64 (refRes l t o).2]) ∧ Below w.heap.size w w'

theorem all_take_snoc (t : ByteArray) (k : Nat) (hk : k < t.size) : t.data.toList.take (k + 1) = t.data.toList.take k ++ [t[k]] := by
  rw [List.take_succ_eq_append_getElem (by simpa using hk)]; rfl
/- how far the loop is: the digits so far, and their number -/
def Far (t : List UInt8) (k : Nat) (a : Int) : Prop := a = (valD (t.take k) : Int) ∧ ((t.take k).all isDig = true) ∧ k ≤ t.length
theorem Far.bound {t : List UInt8} {k : Nat} {a : Int} (h : Far t k a) (hk : k ≤ 18) : 0 ≤ a ∧ a ≤ 999999999999999999 := by
  obtain ⟨h1, h2, h3⟩ := h
  have := valD_lt k (t.take k) (by simp; omega) (by rw [List.all_eq_true] at h2; exact h2)
  have h4 : 10 ^ k ≤ 10 ^ 18 := Nat.pow_le_pow_right (by decide) hk
  omega
theorem Far.bound19 {t : List UInt8} {k : Nat} {a : Int} (h : Far t k a) (hk : k ≤ 19) : 0 ≤ a ∧ a ≤ 9999999999999999999 := by
  obtain ⟨h1, h2, h3⟩ := h
  have := valD_lt k (t.take k) (by simp; omega) (by rw [List.all_eq_true] at h2; exact h2)
  have h4 : 10 ^ k ≤ 10 ^ 19 := Nat.pow_le_pow_right (by decide) hk
  omega
theorem Far.step {T : ByteArray} {k : Nat} {a : Int} (h : Far T.data.toList k a) (hk : k < T.size) (h0 : 48 ≤ (T[k].toNat : Int)) (h1 : (T[k].toNat : Int) ≤ 57) : Far T.data.toList (k + 1) (10 * a + (T[k].toNat : Int) - 48) := by
  obtain ⟨e1, e2, e3⟩ := h
  refine ⟨?_, ?_, by rw [← Lib.size_eq]; omega⟩
  · rw [all_take_snoc T k hk, valD_snoc]; omega
  · rw [all_take_snoc T k hk, List.all_append, e2]; simp [isDig]; omega
theorem res_bad {l : List UInt8} {T : ByteArray} {o k : Nat} (hk : k < T.size) (h : (T[k].toNat : Int) < 48 ∨ 57 < (T[k].toNat : Int)) : refRes l T.data.toList o = (0, 3) := by
  unfold refRes
  split
  · rfl
  · rw [if_neg]
    rw [List.all_eq_true]
    intro hall
    have := hall T[k] (by
      have : T.data.toList[k]'(by rw [← Lib.size_eq]; exact hk) ∈ T.data.toList := List.getElem_mem _
      exact this)
    unfold isDig at this; simp at this; omega
theorem res_end {l : List UInt8} {T : ByteArray} {o : Nat} {a : Int} (h : Far T.data.toList T.size a) (h0 : T.size ≠ 0) (h19 : T.size ≤ 19) : ∃ v : Nat, a = v ∧
    refRes l T.data.toList o = (if 9223372036854775807 < v ∨ textB (2 * v + o) ≠ l then (0, 3) else (2 * v + o, 0)) := by
  obtain ⟨e1, e2, _⟩ := h
  rw [List.take_of_length_le (by rw [← Lib.size_eq]; exact Nat.le_refl _)] at e1 e2
  refine ⟨_, e1, ?_⟩
  unfold refRes
  rw [if_neg (by
    rw [← Lib.size_eq]
    rintro (e | e)
    · apply h0; rw [Lib.size_eq, e]; rfl
    · omega), if_pos e2]
theorem res_long {l : List UInt8} {T : ByteArray} {o : Nat} (h : T.size = 0 ∨ 19 < T.size) : refRes l T.data.toList o = (0, 3) := by
  unfold refRes
  rw [if_pos]
  rw [← Lib.size_eq]
  rcases h with h | h
  · exact Or.inl (List.eq_nil_of_length_eq_zero (by rw [← Lib.size_eq]; exact h))
  · exact Or.inr h
theorem post_03 {l t : List UInt8} {o : Nat} {w w' : World} (h : refRes l t o = (0, 3)) (hb : Below w.heap.size w w') : RefPost l t o w (.returned (.tuple #[.int .u64 0, .int .i64 3])) w' := by
  unfold RefPost; rw [h]; exact ⟨rfl, hb⟩
set_option maxHeartbeats 6400000 in
theorem refParse_marked (S : ByteArray) (c : UInt8) (r : List UInt8) (hS : S.data.toList = c :: r) (hc : c = 35 ∨ c = 63) (hmax : S.size ≤ 60) (w : World) :
    Calls Tryd.prog 21 #[.string S] w (RefPost S.data.toList r 1 w) := by
  have hz : S.size = r.length + 1 := by rw [Lib.size_eq, hS]; rfl
  have hrest := rest_is S c r hS
  obtain ⟨T, hT⟩ : ∃ T, S.extract 1 S.size = T := ⟨_, rfl⟩
  rw [hT] at hrest
  rw [← hrest]
  have hTz : T.size ≤ 60 := by rw [Lib.size_eq, hrest]; omega
  have h1 : 0 < S.size := by omega
  have h1' : 1 ≤ S.size := by omega
  have hg : S[0]'h1 = c := by
    have : S.data.toList[0]'(by rw [← Lib.size_eq]; exact h1) = c := by simp [hS]
    exact this
  have h35 : (((S[0]'h1).toNat : Int) == 35) = (c == 35) := by rw [hg]; rcases hc with rfl | rfl <;> rfl
  have h63 : (((S[0]'h1).toNat : Int) == 63) = (c == 63) := by rw [hg]; rcases hc with rfl | rfl <;> rfl
  clear hz hrest hg hS
  rcases hc with rfl | rfl
  · rw [show ((35 : UInt8) == 35) = true from rfl] at h35
    rw [show ((35 : UInt8) == 63) = false from rfl] at h63
    by_cases hl0 : T.size = 0
    · have hb0 : ((T.size : Int) == 0) = true := by simp [hl0]
      have HR := Lib.hid (res_long (l := S.data.toList) (o := 1) (Or.inl hl0)); clear hl0
      go_enter Tryd.func21, Tryd.ntmps21
      go_wp2
      go_ret2
      exact post_03 HR.out (Below.refl _ _)
    · have hb0 : ((T.size : Int) == 0) = false := by simpa using hl0
      by_cases hl19 : 19 < T.size
      · have HR := Lib.hid (res_long (l := S.data.toList) (o := 1) (Or.inr hl19)); clear hl0
        go_enter Tryd.func21, Tryd.ntmps21
        go_wp2
        go_ret2
        exact post_03 HR.out (Below.refl _ _)
      · have hl0p : 0 < T.size := by omega
        have hl19p : T.size ≤ 19 := by omega
        clear hl0 hl19
        go_enter Tryd.func21, Tryd.ntmps21
        go_wp2
        go_loop [6, 7] (fun vn vi => ∃ (k : Nat) (a : Int), vn = .int .u64 a ∧ vi = .int .i64 k ∧ k ≤ T.size ∧ Hid (Far T.data.toList k a)) (fun _ vi => T.size - (intOf vi).toNat)
        case atStart => exact ⟨0, 0, rfl, rfl, by omega, Lib.hid ⟨by simp [valD], by simp, by omega⟩⟩
        case round =>
          obtain ⟨k, a, rfl, rfl, hk, HF⟩ := hrel
          by_cases hkn : k < T.size
          · obtain ⟨a0, a1⟩ := HF.out.bound (by omega)
            by_cases hd0 : (T[k].toNat : Int) < 48
            · have HR := Lib.hid (res_bad (l := S.data.toList) (o := 1) hkn (Or.inl hd0))
              go_wp2
              go_ret2
              exact post_03 HR.out (Below.refl _ _)
            · by_cases hd1 : 57 < (T[k].toNat : Int)
              · have HR := Lib.hid (res_bad (l := S.data.toList) (o := 1) hkn (Or.inr hd1))
                go_wp2
                go_ret2
                exact post_03 HR.out (Below.refl _ _)
              · have HS := Lib.hid (HF.out.step hkn (by omega) (by omega))
                clear HF
                go_wp2
                go_round
                case rel => exact ⟨k + 1, 10 * a + (T[k].toNat : Int) - 48, by go_num, by go_num, by omega, HS⟩
                case measure => simp [intOf]; omega
          · have hkk : k = T.size := by omega
            obtain ⟨a0, a1⟩ := HF.out.bound19 (by omega)
            obtain ⟨v, hv, HR0⟩ := res_end (l := S.data.toList) (o := 1) (hkk ▸ HF.out) (by omega) hl19p
            have HR := Lib.hid HR0
            clear HF HR0 hkk
            by_cases hM : 9223372036854775807 < v
            · have HQ := Lib.hid (HR.out.trans (if_pos (Or.inl hM)))
              have hM2 : 9223372036854775807 < a := by omega
              clear HR hv hM
              go_wp2
              go_ret2
              exact post_03 HQ.out (Below.refl _ _)
            · subst hv
              by_cases ht : textB (2 * v + 1) = S.data.toList
              · have HQ := Lib.hid (HR.out.trans (if_neg (by rintro (e | e); exact hM e; exact e ht)))
                have hteq : (textB (2 * v + 1) == S.toList) = true := by rw [ByteArray.toList_eq]; simpa using ht
                have H2 := Lib.hid (refText_c (2 * v + 1) (by omega))
                clear HR ht
                go_wp2_with fail
                refine (H2.out _).mono ?_
                rintro e W1 ⟨rfl, hW⟩
                go_wp2_with fail
                go_ret2
                unfold RefPost
                rw [HQ.out]
                exact ⟨rfl, hW⟩
              · have HQ := Lib.hid (HR.out.trans (if_pos (Or.inr ht)))
                have hteq : (textB (2 * v + 1) == S.toList) = false := by rw [ByteArray.toList_eq]; simpa using ht
                have H2 := Lib.hid (refText_c (2 * v + 1) (by omega))
                clear HR ht
                go_wp2_with fail
                refine (H2.out _).mono ?_
                rintro e W1 ⟨rfl, hW⟩
                go_wp2_with fail
                go_ret2
                exact post_03 HQ.out hW
  · rw [show ((63 : UInt8) == 35) = false from rfl] at h35
    rw [show ((63 : UInt8) == 63) = true from rfl] at h63
    by_cases hl0 : T.size = 0
    · have hb0 : ((T.size : Int) == 0) = true := by simp [hl0]
      have HR := Lib.hid (res_long (l := S.data.toList) (o := 1) (Or.inl hl0)); clear hl0
      go_enter Tryd.func21, Tryd.ntmps21
      go_wp2
      go_ret2
      exact post_03 HR.out (Below.refl _ _)
    · have hb0 : ((T.size : Int) == 0) = false := by simpa using hl0
      by_cases hl19 : 19 < T.size
      · have HR := Lib.hid (res_long (l := S.data.toList) (o := 1) (Or.inr hl19)); clear hl0
        go_enter Tryd.func21, Tryd.ntmps21
        go_wp2
        go_ret2
        exact post_03 HR.out (Below.refl _ _)
      · have hl0p : 0 < T.size := by omega
        have hl19p : T.size ≤ 19 := by omega
        clear hl0 hl19
        go_enter Tryd.func21, Tryd.ntmps21
        go_wp2
        go_loop [6, 7] (fun vn vi => ∃ (k : Nat) (a : Int), vn = .int .u64 a ∧ vi = .int .i64 k ∧ k ≤ T.size ∧ Hid (Far T.data.toList k a)) (fun _ vi => T.size - (intOf vi).toNat)
        case atStart => exact ⟨0, 0, rfl, rfl, by omega, Lib.hid ⟨by simp [valD], by simp, by omega⟩⟩
        case round =>
          obtain ⟨k, a, rfl, rfl, hk, HF⟩ := hrel
          by_cases hkn : k < T.size
          · obtain ⟨a0, a1⟩ := HF.out.bound (by omega)
            by_cases hd0 : (T[k].toNat : Int) < 48
            · have HR := Lib.hid (res_bad (l := S.data.toList) (o := 1) hkn (Or.inl hd0))
              go_wp2
              go_ret2
              exact post_03 HR.out (Below.refl _ _)
            · by_cases hd1 : 57 < (T[k].toNat : Int)
              · have HR := Lib.hid (res_bad (l := S.data.toList) (o := 1) hkn (Or.inr hd1))
                go_wp2
                go_ret2
                exact post_03 HR.out (Below.refl _ _)
              · have HS := Lib.hid (HF.out.step hkn (by omega) (by omega))
                clear HF
                go_wp2
                go_round
                case rel => exact ⟨k + 1, 10 * a + (T[k].toNat : Int) - 48, by go_num, by go_num, by omega, HS⟩
                case measure => simp [intOf]; omega
          · have hkk : k = T.size := by omega
            obtain ⟨a0, a1⟩ := HF.out.bound19 (by omega)
            obtain ⟨v, hv, HR0⟩ := res_end (l := S.data.toList) (o := 1) (hkk ▸ HF.out) (by omega) hl19p
            have HR := Lib.hid HR0
            clear HF HR0 hkk
            by_cases hM : 9223372036854775807 < v
            · have HQ := Lib.hid (HR.out.trans (if_pos (Or.inl hM)))
              have hM2 : 9223372036854775807 < a := by omega
              clear HR hv hM
              go_wp2
              go_ret2
              exact post_03 HQ.out (Below.refl _ _)
            · subst hv
              by_cases ht : textB (2 * v + 1) = S.data.toList
              · have HQ := Lib.hid (HR.out.trans (if_neg (by rintro (e | e); exact hM e; exact e ht)))
                have hteq : (textB (2 * v + 1) == S.toList) = true := by rw [ByteArray.toList_eq]; simpa using ht
                have H2 := Lib.hid (refText_c (2 * v + 1) (by omega))
                clear HR ht
                go_wp2_with fail
                refine (H2.out _).mono ?_
                rintro e W1 ⟨rfl, hW⟩
                go_wp2_with fail
                go_ret2
                unfold RefPost
                rw [HQ.out]
                exact ⟨rfl, hW⟩
              · have HQ := Lib.hid (HR.out.trans (if_pos (Or.inr ht)))
                have hteq : (textB (2 * v + 1) == S.toList) = false := by rw [ByteArray.toList_eq]; simpa using ht
                have H2 := Lib.hid (refText_c (2 * v + 1) (by omega))
                clear HR ht
                go_wp2_with fail
                refine (H2.out _).mono ?_
                rintro e W1 ⟨rfl, hW⟩
                go_wp2_with fail
                go_ret2
                exact post_03 HQ.out hW
set_option maxHeartbeats 6400000 in
theorem refParse_plain (S : ByteArray) (c : UInt8) (r : List UInt8) (hS : S.data.toList = c :: r) (hc : c ≠ 35) (hc2 : c ≠ 63) (hmax : S.size ≤ 60) (w : World) :
    Calls Tryd.prog 21 #[.string S] w (RefPost S.data.toList S.data.toList 0 w) := by
  have hz : S.size = r.length + 1 := by rw [Lib.size_eq, hS]; rfl
  have h1 : 0 < S.size := by omega
  have hg : S[0]'h1 = c := by
    have : S.data.toList[0]'(by rw [← Lib.size_eq]; exact h1) = c := by simp [hS]
    exact this
  have h35 : (((S[0]'h1).toNat : Int) == 35) = false := by
    rw [hg]
    have h := hc
    simp only [beq_eq_false_iff_ne, ne_eq]
    intro e
    exact h (UInt8.toNat_inj.1 (by simpa using (Int.ofNat_inj.1 e)))
  have h63 : (((S[0]'h1).toNat : Int) == 63) = false := by
    rw [hg]
    have h := hc2
    simp only [beq_eq_false_iff_ne, ne_eq]
    intro e
    exact h (UInt8.toNat_inj.1 (by simpa using (Int.ofNat_inj.1 e)))
  clear hz hg hS hc hc2
  by_cases hl0 : S.size = 0
  · have hb0 : ((S.size : Int) == 0) = true := by simp [hl0]
    have HR := Lib.hid (res_long (l := S.data.toList) (o := 0) (Or.inl hl0)); clear hl0
    go_enter Tryd.func21, Tryd.ntmps21
    go_wp2
    go_ret2
    exact post_03 HR.out (Below.refl _ _)
  · have hb0 : ((S.size : Int) == 0) = false := by simpa using hl0
    by_cases hl19 : 19 < S.size
    · have HR := Lib.hid (res_long (l := S.data.toList) (o := 0) (Or.inr hl19)); clear hl0
      go_enter Tryd.func21, Tryd.ntmps21
      go_wp2
      go_ret2
      exact post_03 HR.out (Below.refl _ _)
    · have hl0p : 0 < S.size := by omega
      have hl19p : S.size ≤ 19 := by omega
      clear hl0 hl19
      go_enter Tryd.func21, Tryd.ntmps21
      go_wp2
      go_loop [6, 7] (fun vn vi => ∃ (k : Nat) (a : Int), vn = .int .u64 a ∧ vi = .int .i64 k ∧ k ≤ S.size ∧ Hid (Far S.data.toList k a)) (fun _ vi => S.size - (intOf vi).toNat)
      case atStart => exact ⟨0, 0, rfl, rfl, by omega, Lib.hid ⟨by simp [valD], by simp, by omega⟩⟩
      case round =>
        obtain ⟨k, a, rfl, rfl, hk, HF⟩ := hrel
        by_cases hkn : k < S.size
        · obtain ⟨a0, a1⟩ := HF.out.bound (by omega)
          by_cases hd0 : (S[k].toNat : Int) < 48
          · have HR := Lib.hid (res_bad (l := S.data.toList) (o := 0) hkn (Or.inl hd0))
            go_wp2
            go_ret2
            exact post_03 HR.out (Below.refl _ _)
          · by_cases hd1 : 57 < (S[k].toNat : Int)
            · have HR := Lib.hid (res_bad (l := S.data.toList) (o := 0) hkn (Or.inr hd1))
              go_wp2
              go_ret2
              exact post_03 HR.out (Below.refl _ _)
            · have HS := Lib.hid (HF.out.step hkn (by omega) (by omega))
              clear HF
              go_wp2
              go_round
              case rel => exact ⟨k + 1, 10 * a + (S[k].toNat : Int) - 48, by go_num, by go_num, by omega, HS⟩
              case measure => simp [intOf]; omega
        · have hkk : k = S.size := by omega
          obtain ⟨a0, a1⟩ := HF.out.bound19 (by omega)
          obtain ⟨v, hv, HR0⟩ := res_end (l := S.data.toList) (o := 0) (hkk ▸ HF.out) (by omega) hl19p
          simp only [Nat.add_zero] at HR0
          have HR := Lib.hid HR0
          clear HF HR0 hkk
          by_cases hM : 9223372036854775807 < v
          · have HQ := Lib.hid (HR.out.trans (if_pos (Or.inl hM)))
            have hM2 : 9223372036854775807 < a := by omega
            clear HR hv hM
            go_wp2
            go_ret2
            exact post_03 HQ.out (Below.refl _ _)
          · subst hv
            by_cases ht : textB (2 * v) = S.data.toList
            · have HQ := Lib.hid (HR.out.trans (if_neg (by rintro (e | e); exact hM e; exact e ht)))
              have hteq : (textB (2 * v) == S.toList) = true := by rw [ByteArray.toList_eq]; simpa using ht
              have H2 := Lib.hid (refText_c (2 * v) (by omega))
              clear HR ht
              go_wp2_with fail
              refine (H2.out _).mono ?_
              rintro e W1 ⟨rfl, hW⟩
              go_wp2_with fail
              go_ret2
              unfold RefPost
              rw [HQ.out]
              exact ⟨rfl, hW⟩
            · have HQ := Lib.hid (HR.out.trans (if_pos (Or.inr ht)))
              have hteq : (textB (2 * v) == S.toList) = false := by rw [ByteArray.toList_eq]; simpa using ht
              have H2 := Lib.hid (refText_c (2 * v) (by omega))
              clear HR ht
              go_wp2_with fail
              refine (H2.out _).mono ?_
              rintro e W1 ⟨rfl, hW⟩
              go_wp2_with fail
              go_ret2
              exact post_03 HQ.out hW
theorem refParse_empty (w : World) : Calls Tryd.prog 21 #[.string ⟨#[]⟩] w (RefPost [] [] 0 w) := by
  have HR : Hid (refRes [] [] 0 = (0, 3)) := Lib.hid (by unfold refRes; rw [if_pos (Or.inl rfl)])
  go_enter Tryd.func21, Tryd.ntmps21
  go_wp2
  go_ret2
  exact post_03 HR.out (Below.refl _ _)
theorem refParse_ok (n : Nat) (h : n < 18446744073709551616) (w : World) :
    Calls Tryd.prog 21 #[.string ⟨(textB n).toArray⟩] w fun e w' => e = .returned (.tuple #[.int .u64 n, .int .i64 0]) ∧ Below w.heap.size w w' := by
  have hsh := textB_short n h
  have hsz : (⟨(textB n).toArray⟩ : ByteArray).size ≤ 60 := by rw [Lib.size_eq]; unfold textB; simp; omega
  have hr := refRes_text n h
  have hne := dec_ne (n / 2)
  by_cases hp : n % 2 = 0
  · have ht : textB n = Lib.decDigits (n / 2) := by unfold textB markB; rw [if_pos hp]; rfl
    cases hd : Lib.decDigits (n / 2) with
    | nil => exact absurd hd hne
    | cons c r =>
      have hh := dec_head _ c r hd
      have hx := refParse_plain ⟨(textB n).toArray⟩ c r (by rw [← hd, ← ht]) (by rintro rfl; simp at hh) (by rintro rfl; simp at hh) hsz w
      refine hx.mono fun e w' he => ?_
      unfold RefPost at he
      rw [hp, ← ht] at hr
      rw [show (⟨(textB n).toArray⟩ : ByteArray).data.toList = textB n from by simp, hr] at he
      exact he
  · obtain ⟨c, hc, ht⟩ : ∃ c, (c = 35 ∨ c = 63) ∧ textB n = c :: Lib.decDigits (n / 2) := by
      unfold textB markB; rw [if_neg hp]
      split
      · exact ⟨35, Or.inl rfl, rfl⟩
      · exact ⟨63, Or.inr rfl, rfl⟩
    have hx := refParse_marked ⟨(textB n).toArray⟩ c (Lib.decDigits (n / 2)) (by simp [ht]) hc hsz w
    refine hx.mono fun e w' he => ?_
    unfold RefPost at he
    rw [show n % 2 = 1 by omega] at hr
    rw [show (⟨(textB n).toArray⟩ : ByteArray).data.toList = textB n from by simp, hr] at he
    exact he
theorem refParse_no (S : ByteArray) (hmax : S.size ≤ 60) (h : ∀ m, m < 18446744073709551616 → textB m ≠ S.data.toList) (w : World) :
    Calls Tryd.prog 21 #[.string S] w fun e w' => e = .returned (.tuple #[.int .u64 0, .int .i64 3]) ∧ Below w.heap.size w w' := by
  cases hS : S.data.toList with
  | nil =>
    obtain rfl : S = ⟨#[]⟩ := by obtain ⟨d⟩ := S; simp at hS; rw [hS]
    refine (refParse_empty w).mono fun e w' he => ?_
    unfold RefPost at he
    rw [refRes_no _ _ _ (by omega) h] at he
    exact he
  | cons c r =>
    by_cases hc : c = 35 ∨ c = 63
    · refine (refParse_marked S c r hS hc hmax w).mono fun e w' he => ?_
      unfold RefPost at he
      rw [refRes_no _ _ _ (by omega) h] at he
      exact he
    · refine (refParse_plain S c r hS (fun e => hc (Or.inl e)) (fun e => hc (Or.inr e)) hmax w).mono fun e w' he => ?_
      unfold RefPost at he
      rw [refRes_no _ _ _ (by omega) h] at he
      exact he
end Go.Proofs.YtlnnnjlmfndlbaaDoor
