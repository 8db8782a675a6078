/- Package word's readHalf and read: the number that a text spells, or that it spells none. -/
import Derived.Test.YtlnnnjlmfndlbaaDoorUint
import Derived.Test.YtlnnnjlmfndlbaaDoorFmt
import Derived.Deep.QuietTactic
import Derived.BigQuiet
import Derived.RegionTactic
namespace Go.Proofs.YtlnnnjlmfndlbaaDoor
open Go Go.RowKit
set_option maxRecDepth 100000

/- the two sentinels, as the walk reads them -/
def ErrsLie (w : World) : Prop := (∃ te pe, w.cell? ⟨3, 0, none⟩ = some (.iface te pe)) ∧ (∃ te pe, w.cell? ⟨4, 0, none⟩ = some (.iface te pe))
theorem ErrsLie.below {w w' : World} (h : ErrsLie w) (hb : Below w.heap.size w w') : ErrsLie w' := by
  obtain ⟨⟨t1, p1, h1⟩, ⟨t2, p2, h2⟩⟩ := h
  exact ⟨⟨t1, p1, (hb.cell (show (⟨3, 0, none⟩ : Addr).block < w.heap.size from Lib.lt_of_cell h1)).trans h1⟩, ⟨t2, p2, (hb.cell (show (⟨4, 0, none⟩ : Addr).block < w.heap.size from Lib.lt_of_cell h2)).trans h2⟩⟩

theorem uintInner63_below (t : ByteArray) (hmax : t.size ≤ 281474976710656) (w : World) :
    Calls Tryd.prog 46 #[.string t, .int .i64 10, .int .i64 63] w fun e w' => e = .returned (Lib.uintTupleM 75 9223372036854775807 (if t.data.toList = [] then Lib.NumEnd.syntax else Lib.parseUintM 9223372036854775807 0 t.data.toList)) ∧ Below w.heap.size w w' := by
  by_cases h : t.data.toList = []
  · rw [if_pos h]
    obtain rfl : t = ⟨#[]⟩ := by obtain ⟨d⟩ := t; simp at h; rw [h]
    exact (Tryd.internal_strconv_ParseUint_empty 10 63 w).mono fun e w' ⟨he, hw⟩ => ⟨he, hw ▸ Below.refl _ _⟩
  · rw [if_neg h]
    have hne : t.size ≠ 0 := by
      intro h0
      apply h
      have : t.data.toList.length = 0 := by rw [Array.length_toList]; exact h0
      exact List.eq_nil_of_length_eq_zero this
    exact (uintInner63 t hne (by omega) w).mono fun e w' ⟨he, hw⟩ => ⟨he, hw ▸ Lib.bytesWorld_below _ _ _⟩

def NotRead (w : World) (e : Ending) (w' : World) : Prop := ∃ (X : Nat) (N : Nat), X ≤ 9223372036854775807 ∧ e = .returned (.tuple #[.int .u64 X, .iface 77 (.pointer (some ⟨N, 0, none⟩))]) ∧ Below w.heap.size w w'

set_option maxHeartbeats 1600000 in
theorem uint63_ok (t : ByteArray) (hmax : t.size ≤ 281474976710656) (u : Nat) (hd : t.data.toList ≠ []) (h : Lib.parseUintM 9223372036854775807 0 t.data.toList = .ok u) (w : World) :
    Calls Tryd.prog 40 #[.string t, .int .i64 10, .int .i64 63] w fun e w' => e = .returned (.tuple #[.int .u64 u, .nilIface]) ∧ Below w.heap.size w w' := by
  have hI := uintInner63_below t hmax w
  rw [if_neg hd, h] at hI
  have hI : Calls Tryd.prog 46 #[.string t, .int .i64 10, .int .i64 63] w fun e w' => e = .returned (.tuple #[.int .u64 u, .nilIface]) ∧ Below w.heap.size w w' := hI
  clear h hd
  go_enter Tryd.func40, Tryd.ntmps40
  go_wp2_with (go_at_call 46; refine hI.mono ?_; rintro e W1 ⟨rfl, hW⟩)
  go_ret2
  exact ⟨rfl, hW⟩
set_option maxHeartbeats 1600000 in
theorem uint63_no (t : ByteArray) (hmax : t.size ≤ 281474976710656) (h : t.data.toList = [] ∨ ∀ u, Lib.parseUintM 9223372036854775807 0 t.data.toList ≠ .ok u) (w : World) (hE : ErrsLie w) :
    Calls Tryd.prog 40 #[.string t, .int .i64 10, .int .i64 63] w (NotRead w) := by
  have hI := uintInner63_below t hmax w
  obtain ⟨r, hr⟩ : ∃ r, r = (if t.data.toList = [] then Lib.NumEnd.syntax else Lib.parseUintM 9223372036854775807 0 t.data.toList) := ⟨_, rfl⟩
  rw [← hr] at hI
  have hn : ∀ u, r ≠ .ok u := by
    intro u e
    rw [hr] at e
    split at e
    · cases e
    · rcases h with h | h
      · contradiction
      · exact h u e
  clear hr h
  rcases r with u | _ | _
  · exact absurd rfl (hn u)
  ·
    clear hn
    have hI : Calls Tryd.prog 46 #[.string t, .int .i64 10, .int .i64 63] w fun e w' => e = .returned (.tuple #[.int .u64 0, .iface 75 (.int .i64 2)]) ∧ Below w.heap.size w w' := hI
    go_enter Tryd.func40, Tryd.ntmps40
    go_wp2_with (go_at_call 46; refine hI.mono ?_)
    rintro e W1 ⟨rfl, hW⟩
    obtain ⟨⟨te, pe, h1⟩, _⟩ := hE.below hW
    have HE := Lib.hid h1; clear h1 hE
    go_wp2_with (go_at_call 47; refine (Tryd.strconv_toError_syntax _ _ _ _ (.iface te pe) _ hmax HE.out (Or.inr ⟨te, pe, rfl⟩)).mono ?_)
    rintro e W2 ⟨N, rfl, g1, g2, g3⟩
    clear g2
    go_wp2
    go_ret2
    exact ⟨0, N, by omega, rfl, hW.trans (g3.mono hW.size)⟩
  ·
    clear hn
    have hI : Calls Tryd.prog 46 #[.string t, .int .i64 10, .int .i64 63] w fun e w' => e = .returned (.tuple #[.int .u64 9223372036854775807, .iface 75 (.int .i64 1)]) ∧ Below w.heap.size w w' := hI
    go_enter Tryd.func40, Tryd.ntmps40
    go_wp2_with (go_at_call 46; refine hI.mono ?_)
    rintro e W1 ⟨rfl, hW⟩
    obtain ⟨_, ⟨te, pe, h1⟩⟩ := hE.below hW
    have HE := Lib.hid h1; clear h1 hE
    go_wp2_with (go_at_call 47; refine (Tryd.strconv_toError_range _ _ _ _ (.iface te pe) _ hmax HE.out (Or.inr ⟨te, pe, rfl⟩)).mono ?_)
    rintro e W2 ⟨N, rfl, g1, g2, g3⟩
    clear g2
    go_wp2
    go_ret2
    exact ⟨9223372036854775807, N, by omega, rfl, hW.trans (g3.mono hW.size)⟩

theorem half_ok (t : ByteArray) (hmax : t.size ≤ 281474976710656) (u : Nat) (hd : t.data.toList ≠ []) (h : Lib.parseUintM 9223372036854775807 0 t.data.toList = .ok u) (w : World) :
    Calls Tryd.prog 34 #[.string t] w fun e w' => e = .returned (.tuple #[.int .u64 u, .bool true]) ∧ Below w.heap.size w w' := by
  have hI := Lib.hid (uint63_ok t hmax u hd h w)
  clear h hd
  go_enter Tryd.func34, Tryd.ntmps34
  go_wp2_with (go_at_call 40; refine hI.out.mono ?_; rintro e W1 ⟨rfl, hW⟩)
  go_quiet (fail)
  go_wp2
  go_ret2
  exact ⟨rfl, below_drewN hW _⟩
def HalfNot (w : World) (e : Ending) (w' : World) : Prop := ∃ X : Nat, X ≤ 9223372036854775807 ∧ e = .returned (.tuple #[.int .u64 X, .bool false]) ∧ Below w.heap.size w w'
theorem half_no (t : ByteArray) (hmax : t.size ≤ 281474976710656) (h : t.data.toList = [] ∨ ∀ u, Lib.parseUintM 9223372036854775807 0 t.data.toList ≠ .ok u) (w : World) (hE : ErrsLie w) :
    Calls Tryd.prog 34 #[.string t] w (HalfNot w) := by
  have hI := Lib.hid (uint63_no t hmax h w hE)
  clear h hE
  go_enter Tryd.func34, Tryd.ntmps34
  go_wp2_with (go_at_call 40; refine hI.out.mono ?_)
  rintro e W1 ⟨X, N, hX, rfl, hW⟩
  go_wp2
  go_quiet (fail)
  go_wp2
  go_ret2
  exact ⟨X, hX, rfl, below_drewN hW _⟩

theorem first_is (S : ByteArray) (c : UInt8) (r : List UInt8) (h : S.data.toList = c :: r) (x : UInt8) : ((S.extract 0 1).toList == [x]) = (c == x) := by
  rw [Lib.extract_toList, h]; simp
theorem rest_is (S : ByteArray) (c : UInt8) (r : List UInt8) (h : S.data.toList = c :: r) : (S.extract 1 S.size).data.toList = r := by
  have hz : S.size = r.length + 1 := by rw [Lib.size_eq, h]; rfl
  rw [Lib.extract_data, h, hz]; simp
theorem isEmpty_false (S : ByteArray) (c : UInt8) (r : List UInt8) (h : S.data.toList = c :: r) : S.toList.isEmpty = false := by
  rw [← decide_eq_emptyBytes]
  refine decide_eq_false (fun e => ?_)
  rw [e] at h; cases h
/- what readHalf answers at a string, under one name -/
def HalfIs (t : ByteArray) (w : World) (X : Nat) (b : Bool) : Prop := Calls Tryd.prog 34 #[.string t] w fun e w' => e = .returned (.tuple #[.int .u64 X, .bool b]) ∧ Below w.heap.size w w'
def ReadIs (w : World) (X : Nat) (b : Bool) (e : Ending) (w' : World) : Prop := e = .returned (.tuple #[.int .u64 X, .bool b]) ∧ Below w.heap.size w w'
def ReadNot (w : World) (e : Ending) (w' : World) : Prop := ∃ X : Nat, X < 18446744073709551616 ∧ e = .returned (.tuple #[.int .u64 X, .bool false]) ∧ Below w.heap.size w w'
theorem shl_even (u : Nat) : ((u : Int) * 2) = ((2 * u : Nat) : Int) := by omega
theorem read_marked_ok (S : ByteArray) (c : UInt8) (r : List UInt8) (hS : S.data.toList = c :: r) (hc : c = 35 ∨ c = 63) (hmax : S.size ≤ 281474976710656) (u : Nat) (hr : r ≠ []) (h : Lib.parseUintM 9223372036854775807 0 r = .ok u) (w : World) :
    Calls Tryd.prog 28 #[.string S] w (ReadIs w (2 * u + 1) true) := by
  have hrest := rest_is S c r hS
  have hz : S.size = r.length + 1 := by rw [Lib.size_eq, hS]; rfl
  have hu : u ≤ 9223372036854775807 := parse_le r 0 u (by omega) h
  have hsz2 : (S.extract 1 S.size).size ≤ 281474976710656 := by rw [Lib.size_eq, hrest]; omega
  have H := Lib.hid (half_ok (S.extract 1 S.size) hsz2 u (by rw [hrest]; exact hr) (by rw [hrest]; exact h) w)
  have hemp := isEmpty_false S c r hS
  have h35 := first_is S c r hS 35
  have h63 := first_is S c r hS 63
  have h1 : 1 ≤ S.size := by omega
  clear hrest hz h hr hsz2 hS
  rcases hc with rfl | rfl
  · rw [show ((35 : UInt8) == 35) = true from rfl] at h35
    rw [show ((35 : UInt8) == 63) = false from rfl] at h63
    go_enter Tryd.func28, Tryd.ntmps28
    go_wp2_with fail
    refine H.out.mono ?_
    rintro e w' ⟨rfl, hW⟩
    go_wp2_with fail
    refine (odd_c u (by omega) _).mono ?_
    rintro e w' ⟨rfl, rfl⟩
    go_wp2_with fail
    go_ret2
    exact ⟨rfl, hW⟩
  · rw [show ((63 : UInt8) == 35) = false from rfl] at h35
    rw [show ((63 : UInt8) == 63) = true from rfl] at h63
    go_enter Tryd.func28, Tryd.ntmps28
    go_wp2_with fail
    refine H.out.mono ?_
    rintro e w' ⟨rfl, hW⟩
    go_wp2_with fail
    refine (odd_c u (by omega) _).mono ?_
    rintro e w' ⟨rfl, rfl⟩
    go_wp2_with fail
    go_ret2
    exact ⟨rfl, hW⟩
theorem read_marked_no (S : ByteArray) (c : UInt8) (r : List UInt8) (hS : S.data.toList = c :: r) (hc : c = 35 ∨ c = 63) (hmax : S.size ≤ 281474976710656) (h : r = [] ∨ ∀ u, Lib.parseUintM 9223372036854775807 0 r ≠ .ok u) (w : World) (hE : ErrsLie w) :
    Calls Tryd.prog 28 #[.string S] w (ReadNot w) := by
  have hrest := rest_is S c r hS
  have hz : S.size = r.length + 1 := by rw [Lib.size_eq, hS]; rfl
  have hsz2 : (S.extract 1 S.size).size ≤ 281474976710656 := by rw [Lib.size_eq, hrest]; omega
  have H := Lib.hid (half_no (S.extract 1 S.size) hsz2 (by rw [hrest]; exact h) w hE)
  have hemp := isEmpty_false S c r hS
  have h35 := first_is S c r hS 35
  have h63 := first_is S c r hS 63
  have h1 : 1 ≤ S.size := by omega
  clear hrest hz h hsz2 hS hE
  rcases hc with rfl | rfl
  · rw [show ((35 : UInt8) == 35) = true from rfl] at h35
    rw [show ((35 : UInt8) == 63) = false from rfl] at h63
    go_enter Tryd.func28, Tryd.ntmps28
    go_wp2_with fail
    refine H.out.mono ?_
    rintro e w' ⟨X, hX, rfl, hW⟩
    go_wp2_with fail
    refine (odd_c X (by omega) _).mono ?_
    rintro e w' ⟨rfl, rfl⟩
    go_wp2_with fail
    go_ret2
    exact ⟨2 * X + 1, by omega, rfl, hW⟩
  · rw [show ((63 : UInt8) == 35) = false from rfl] at h35
    rw [show ((63 : UInt8) == 63) = true from rfl] at h63
    go_enter Tryd.func28, Tryd.ntmps28
    go_wp2_with fail
    refine H.out.mono ?_
    rintro e w' ⟨X, hX, rfl, hW⟩
    go_wp2_with fail
    refine (odd_c X (by omega) _).mono ?_
    rintro e w' ⟨rfl, rfl⟩
    go_wp2_with fail
    go_ret2
    exact ⟨2 * X + 1, by omega, rfl, hW⟩
theorem read_plain_ok (S : ByteArray) (c : UInt8) (r : List UInt8) (hS : S.data.toList = c :: r) (hc : c ≠ 35) (hc2 : c ≠ 63) (hmax : S.size ≤ 281474976710656) (u : Nat) (h : Lib.parseUintM 9223372036854775807 0 (c :: r) = .ok u) (w : World) :
    Calls Tryd.prog 28 #[.string S] w (ReadIs w (2 * u) true) := by
  have hz : S.size = r.length + 1 := by rw [Lib.size_eq, hS]; rfl
  have hu : u ≤ 9223372036854775807 := parse_le _ 0 u (by omega) h
  have H := Lib.hid (half_ok S hmax u (by rw [hS]; simp) (by rw [hS]; exact h) w)
  have hemp := isEmpty_false S c r hS
  have h35 : ((S.extract 0 1).toList == [35]) = false := by rw [first_is S c r hS 35]; simpa using hc
  have h63 : ((S.extract 0 1).toList == [63]) = false := by rw [first_is S c r hS 63]; simpa using hc2
  have h1 : 1 ≤ S.size := by omega
  clear hz h hS hc hc2
  go_enter Tryd.func28, Tryd.ntmps28
  go_wp2_with fail
  refine H.out.mono ?_
  rintro e w' ⟨rfl, hW⟩
  go_wp2_with fail
  go_ret2
  refine ⟨?_, hW⟩
  simp only [← shl_even u]
  rfl
theorem read_plain_no (S : ByteArray) (c : UInt8) (r : List UInt8) (hS : S.data.toList = c :: r) (hc : c ≠ 35) (hc2 : c ≠ 63) (hmax : S.size ≤ 281474976710656) (h : ∀ u, Lib.parseUintM 9223372036854775807 0 (c :: r) ≠ .ok u) (w : World) (hE : ErrsLie w) :
    Calls Tryd.prog 28 #[.string S] w (ReadNot w) := by
  have hz : S.size = r.length + 1 := by rw [Lib.size_eq, hS]; rfl
  have H := Lib.hid (half_no S hmax (by rw [hS]; exact Or.inr h) w hE)
  have hemp := isEmpty_false S c r hS
  have h35 : ((S.extract 0 1).toList == [35]) = false := by rw [first_is S c r hS 35]; simpa using hc
  have h63 : ((S.extract 0 1).toList == [63]) = false := by rw [first_is S c r hS 63]; simpa using hc2
  have h1 : 1 ≤ S.size := by omega
  clear hz h hS hc hc2 hE
  go_enter Tryd.func28, Tryd.ntmps28
  go_wp2_with fail
  refine H.out.mono ?_
  rintro e w' ⟨X, hX, rfl, hW⟩
  go_wp2_with fail
  go_ret2
  refine ⟨2 * X, by omega, ?_, hW⟩
  simp only [← shl_even X]
  rfl
theorem read_empty (w : World) : Calls Tryd.prog 28 #[.string ⟨#[]⟩] w (ReadNot w) := by
  go_enter Tryd.func28, Tryd.ntmps28
  go_wp2
  go_ret2
  exact ⟨0, by omega, rfl, Below.refl _ _⟩
end Go.Proofs.YtlnnnjlmfndlbaaDoor
