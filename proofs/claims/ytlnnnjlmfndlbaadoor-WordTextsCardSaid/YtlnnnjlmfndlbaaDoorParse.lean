/- Package word's Parse: of a word's text the word; of any other text the error of form. -/
import Derived.Test.YtlnnnjlmfndlbaaDoorRead
namespace Go.Proofs.YtlnnnjlmfndlbaaDoor
open Go Go.RowKit
set_option maxRecDepth 100000

def okOf : Lib.NumEnd Nat → Option Nat
  | .ok u => some u
  | _ => none
def readN (l : List UInt8) : Option Nat :=
  match l with
  | [] => none
  | c :: r => if c = 35 ∨ c = 63 then (if r = [] then none else (okOf (Lib.parseUintM 9223372036854775807 0 r)).map (2 * · + 1)) else (okOf (Lib.parseUintM 9223372036854775807 0 (c :: r))).map (2 * ·)
theorem okOf_some {x : Lib.NumEnd Nat} {u : Nat} (h : okOf x = some u) : x = .ok u := by cases x <;> simp [okOf] at h; rw [h]
theorem okOf_none {x : Lib.NumEnd Nat} (h : okOf x = none) (u : Nat) : x ≠ .ok u := by cases x <;> simp [okOf] at h ⊢
theorem readN_lt {l : List UInt8} {x : Nat} (h : readN l = some x) : x < 18446744073709551616 := by
  unfold readN at h
  split at h
  · cases h
  · split at h
    · split at h
      · cases h
      · obtain ⟨u, hu, rfl⟩ := Option.map_eq_some_iff.1 h
        have := parse_le _ 0 u (by omega) (okOf_some hu)
        omega
    · obtain ⟨u, hu, rfl⟩ := Option.map_eq_some_iff.1 h
      have := parse_le _ 0 u (by omega) (okOf_some hu)
      omega
theorem readN_text (n : Nat) (h : n < 18446744073709551616) : readN (textB n) = some n := by
  have hp := parse_dec (n / 2) (by omega)
  have hne := dec_ne (n / 2)
  unfold textB markB
  split
  · rw [List.nil_append]
    cases hd : Lib.decDigits (n / 2) with
    | nil => exact absurd hd hne
    | cons c r =>
      have hh := dec_head _ c r hd
      unfold readN
      have hc : ¬ (c = 35 ∨ c = 63) := by rintro (rfl | rfl) <;> simp at hh
      rw [hd] at hp
      simp only [if_neg hc, hp, okOf, Option.map_some]
      congr 1; omega
  · split
    · unfold readN
      simp only [List.cons_append, List.nil_append, true_or, if_true, if_neg hne, hp, okOf, Option.map_some]
      congr 1; omega
    · unfold readN
      simp only [List.cons_append, List.nil_append, or_true, if_true, if_neg hne, hp, okOf, Option.map_some]
      congr 1; omega
theorem read_some (S : ByteArray) (hmax : S.size ≤ 281474976710656) (x : Nat) (h : readN S.data.toList = some x) (w : World) :
    Calls Tryd.prog 28 #[.string S] w (ReadIs w x true) := by
  unfold readN at h
  split at h
  · cases h
  · rename_i c r hS
    split at h
    · split at h
      · cases h
      · obtain ⟨u, hu, rfl⟩ := Option.map_eq_some_iff.1 h
        exact read_marked_ok S c r hS ‹_› hmax u ‹_› (okOf_some hu) w
    · rename_i hc
      obtain ⟨u, hu, rfl⟩ := Option.map_eq_some_iff.1 h
      exact read_plain_ok S c r hS (fun e => hc (Or.inl e)) (fun e => hc (Or.inr e)) hmax u (okOf_some hu) w
theorem read_none (S : ByteArray) (hmax : S.size ≤ 281474976710656) (h : readN S.data.toList = none) (w : World) (hE : ErrsLie w) :
    Calls Tryd.prog 28 #[.string S] w (ReadNot w) := by
  unfold readN at h
  split at h
  · rename_i hS
    obtain rfl : S = ⟨#[]⟩ := by obtain ⟨d⟩ := S; simp at hS; rw [hS]
    exact read_empty w
  · rename_i c r hS
    split at h
    · split at h
      · exact read_marked_no S c r hS ‹_› hmax (Or.inl ‹_›) w hE
      · exact read_marked_no S c r hS ‹_› hmax (Or.inr (okOf_none (Option.map_eq_none_iff.1 h))) w hE
    · rename_i hc
      exact read_plain_no S c r hS (fun e => hc (Or.inl e)) (fun e => hc (Or.inr e)) hmax (okOf_none (Option.map_eq_none_iff.1 h)) w hE

def Pow (w : World) : Prop := Lib.TabIs Tryd.prog w "internal/strconv.uint64pow10" .u64 Lib.pow10Tab
theorem Pow.below {w w' : World} (h : Pow w) (hb : Below w.heap.size w w') : Pow w' := Go.Joins.tab_stays (show Tryd.prog.globalNamed "internal/strconv.uint64pow10" = some 0 by kernel_rfl) h hb (Nat.le_refl _)
theorem parse_ok (n : Nat) (h : n < 18446744073709551616) (w : World) (hP : Pow w) :
    Calls Tryd.prog 19 #[.string ⟨(textB n).toArray⟩] w fun e w' => e = .returned (.tuple #[.int .u64 n, .int .i64 0]) ∧ Below w.heap.size w w' := by
  have hsh := textB_short n h
  have H := Lib.hid (read_some ⟨(textB n).toArray⟩ (by rw [Lib.size_eq]; unfold textB; simp; omega) n (readN_text n h) w)
  clear hsh
  go_enter Tryd.func19, Tryd.ntmps19
  go_wp2_with fail
  refine H.out.mono ?_
  rintro e W1 ⟨rfl, hW⟩
  have HP := Lib.hid (hP.below hW)
  clear hP
  go_wp2_with fail
  refine (text_c n h _ HP.out).mono ?_
  rintro e W2 ⟨rfl, hW2⟩
  go_wp2_with fail
  go_ret2
  exact ⟨rfl, hW.trans (hW2.mono hW.size)⟩
theorem parse_no_none (S : ByteArray) (hmax : S.size ≤ 281474976710656) (hn : readN S.data.toList = none) (w : World) (hE : ErrsLie w) :
    Calls Tryd.prog 19 #[.string S] w fun e w' => e = .returned (.tuple #[.int .u64 0, .int .i64 3]) ∧ Below w.heap.size w w' := by
  have H := Lib.hid (read_none S hmax hn w hE)
  clear hn hE
  go_enter Tryd.func19, Tryd.ntmps19
  go_wp2_with fail
  refine H.out.mono ?_
  rintro e W1 ⟨X, hX, rfl, hW⟩
  go_wp2_with fail
  go_ret2
  exact ⟨rfl, hW⟩
theorem parse_no_some (S : ByteArray) (hmax : S.size ≤ 281474976710656) (x : Nat) (hn : readN S.data.toList = some x) (hS : textB x ≠ S.data.toList) (w : World) (hP : Pow w) :
    Calls Tryd.prog 19 #[.string S] w fun e w' => e = .returned (.tuple #[.int .u64 0, .int .i64 3]) ∧ Below w.heap.size w w' := by
  have H := Lib.hid (read_some S hmax x hn w)
  have hx := readN_lt hn
  have hneq : (textB x == S.toList) = false := by rw [ByteArray.toList_eq]; simpa using hS
  clear hn hS
  go_enter Tryd.func19, Tryd.ntmps19
  go_wp2_with fail
  refine H.out.mono ?_
  rintro e W1 ⟨rfl, hW⟩
  have HP := Lib.hid (hP.below hW)
  clear hP
  go_wp2_with fail
  refine (text_c x hx _ HP.out).mono ?_
  rintro e W2 ⟨rfl, hW2⟩
  go_wp2_with fail
  go_ret2
  exact ⟨rfl, hW.trans (hW2.mono hW.size)⟩
end Go.Proofs.YtlnnnjlmfndlbaaDoor
