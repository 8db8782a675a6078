/- Package colour's Parse: of a text of at most 60 bytes that are all w, g or b the colours, in a list of its own; of any other such text the error's number 3 and no list. -/
import Derived.Test.YtpandcidgmafaaaLetters
import Derived.OwnWalk
import Derived.WalkSpells
import Derived.Shelf.RegionOpen
import Derived.Lib.Strings
namespace Go.Proofs.Ytpandcidgmafaaa
open Go Go.RowKit
set_option maxRecDepth 100000

/-- The colour of a letter. -/
def colN (c : UInt8) : Option Nat := if c = 119 then some 0 else if c = 103 then some 1 else if c = 98 then some 2 else none
def idxN (c : UInt8) : Int := match colN c with | some k => (k : Int) | none => -1
def valN (c : UInt8) : Nat := (colN c).getD 0
def right (c : UInt8) : Bool := (colN c).isSome
theorem colN_let (n : Nat) (h : n < 3) : colN (letN n) = some n := by
  obtain rfl | rfl | rfl : n = 0 ∨ n = 1 ∨ n = 2 := by omega
  all_goals rfl
theorem letN_val (c : UInt8) (h : right c = true) : letN (valN c) = c := by
  unfold right at h
  unfold valN
  unfold colN at *
  split at h
  · rename_i e; rw [if_pos e]; subst e; rfl
  · split at h
    · rename_i e1 e; rw [if_neg e1, if_pos e]; subst e; rfl
    · split at h
      · rename_i e1 e2 e; rw [if_neg e1, if_neg e2, if_pos e]; subst e; rfl
      · simp at h
theorem valN_lt (c : UInt8) : valN c < 3 := by
  unfold valN colN
  split
  · decide
  · split
    · decide
    · split <;> decide
theorem right_val (c : UInt8) (h : right c = true) : colN c = some (valN c) := by
  unfold right at h; unfold valN
  cases hc : colN c with
  | none => rw [hc] at h; simp at h
  | some x => rfl

theorem indexByte_c (c : UInt8) (w : World) :
    Calls Try.prog 17 #[.string ⟨#[119, 103, 98]⟩, .int .u8 c.toNat] w fun e w' => e = .returned (.int .i64 (idxN c)) ∧ w = w' := by
  have hx : Lib.indexByte [119, 103, 98] c = idxN c := by
    unfold idxN colN
    by_cases h1 : c = 119
    · subst h1; rfl
    · by_cases h2 : c = 103
      · subst h2; rfl
      · by_cases h3 : c = 98
        · subst h3; rfl
        · rw [if_neg h1, if_neg h2, if_neg h3]
          simp [Lib.indexByte, Ne.symm h1, Ne.symm h2, Ne.symm h3]
  have HX := Lib.hid hx; clear hx
  go_enter Try.func17, Try.ntmps17
  go_wp2_with fail
  refine (Try.stringslite_IndexByte _ _ _).mono ?_
  rintro e w' ⟨rfl, rfl⟩
  go_wp2_with fail
  go_ret
  refine ⟨?_, rfl⟩
  rw [← HX.out]; rfl
theorem index_right (c : UInt8) (h : right c = true) (w : World) :
    Calls Try.prog 17 #[.string ⟨#[119, 103, 98]⟩, .int .u8 c.toNat] w fun e w' => e = .returned (.int .i64 (valN c : Nat)) ∧ w = w' := by
  have := indexByte_c c w
  unfold idxN at this
  rw [right_val c h] at this
  exact this
theorem index_wrong (c : UInt8) (h : right c = false) (w : World) :
    Calls Try.prog 17 #[.string ⟨#[119, 103, 98]⟩, .int .u8 c.toNat] w fun e w' => e = .returned (.int .i64 (-1)) ∧ w = w' := by
  have := indexByte_c c w
  unfold idxN at this
  unfold right at h
  cases hc : colN c with
  | none => rw [hc] at this; exact this
  | some x => rw [hc] at h; simp at h

theorem infoWord : (Try.prog.info? 33).map (fun i => (i.zero, i.size, i.bytes)) = some (some (.int .u64 0), 1, 8) := by kernel_rfl
def wordsV (zs : List Nat) : List Value := zs.map fun x : Nat => Value.int .u64 (x : Int)
theorem wordsV_snoc (l : List Nat) (m : Nat) : wordsV (l ++ [m]) = wordsV l ++ [.int .u64 (m : Int)] := by simp [wordsV]
theorem Row.own {base : Nat} {w : World} {g cap : Nat} {zs : List Nat} (h : w.ownsRow base 33 1 (.slice (some ⟨g, 0, none⟩) zs.length cap) zs.length (wordsV zs)) : Row w (some ⟨g, 0, none⟩) zs := by
  have hc : ∀ j, j < zs.length → w.cell? ⟨g, 0 + j, none⟩ = some (.int .u64 (zs.getD j 0 : Nat)) := fun j hj => by
    have := h.cells rfl j (.int .u64 ((zs.getD j 0 : Nat) : Int)) (by
      unfold wordsV; rw [List.getElem?_map, List.getElem?_eq_getElem hj]; simp [List.getD, List.getElem?_eq_getElem hj])
    rw [Addr.add_lit] at this
    exact this
  cases zs with
  | nil => exact .inl rfl
  | cons z l => exact .inr ⟨g, 0, rfl, (by
      have := hc 0 (by simp)
      rcases Nat.lt_or_ge g w.heap.size with h' | h'
      · exact h'
      · simp [World.cell?, Array.getElem?_eq_none h'] at this), hc⟩
theorem oneNew (w : World) (v : Value) (t : TypeId) (j : Nat) (u : Value) (h : ([v] : List Value)[j]? = some u) : (w.alloc (.cells #[v] t)).cell? ((⟨w.heap.size, 0, none⟩ : Addr).add j) = some u := by
  cases j with
  | zero => simp at h; subst h; rw [Addr.add_lit, World.cell?_alloc_new]; rfl
  | succ j => simp at h
theorem bytes_snoc (t : ByteArray) (k : Nat) (hk : k < t.size) : t.data.toList.take (k + 1) = t.data.toList.take k ++ [t[k]] := by
  rw [List.take_succ_eq_append_getElem (by simpa using hk)]; rfl
/-- What Parse answers. -/
def ParsePost (w : World) (l : List UInt8) (e : Ending) (w' : World) : Prop :=
  Below w.heap.size w w' ∧ ((l.all right = true ∧ ∃ a cap, e = .returned (.tuple #[.slice a (l.map valN).length cap, .int .i64 0]) ∧ Row w' a (l.map valN)) ∨ (l.all right = false ∧ e = .returned (.tuple #[.slice none 0 0, .int .i64 3])))
/-- How far Parse's loop is. -/
def Reads (w wr : World) (l : List UInt8) (k n : Nat) : Prop :=
  k ≤ n ∧ (l.take k).all right = true ∧ wr.ownsRow w.heap.size 33 1 (.slice (some ⟨w.heap.size, 0, none⟩) k n) k (wordsV ((l.take k).map valN)) ∧ Below w.heap.size w wr
set_option maxHeartbeats 1600000 in
theorem parse_c (S : ByteArray) (hl : S.size ≤ 60) (w : World) : Calls Try.prog 8 #[.string S] w (ParsePost w S.data.toList) := by
  obtain ⟨i0, hi, hz0, hz1, hz2⟩ := info_parts infoWord
  have hm : S.size ≤ maxLen := by unfold maxLen; omega
  have hm2 : i0.bytes * S.size ≤ 281474976710656 := by rw [hz2]; omega
  have HM := Lib.hid hm; have HM2 := Lib.hid hm2; clear hm hm2
  go_enter Try.func8, Try.ntmps8
  go_wp2_with (at_make; refine wpList_make_own _ rfl _ _ 22 rfl w.heap.size 33 i0 (.int .u64 0) 1 Try.underlying22 hi hz0 hz1 _ _ _ S.size rfl rfl rfl HM2.out HM.out (Nat.le_refl _) ?_; intro w0 hown0 hgrow0)
  have hb0 : Below w.heap.size w w0 := (Below.refl _ _).grown hgrow0 (Nat.le_refl _) (fun k h => by cases h)
  have H0 : Hid (Reads w w0 S.data.toList 0 S.size) := Lib.hid ⟨Nat.zero_le _, rfl, hown0, hb0⟩
  clear hown0 hgrow0 hb0
  go_wp2
  go_loopw [4, 12] (fun v i wr => ∃ k : Nat, i = .int .i64 k ∧ k ≤ S.size ∧ v = .slice (some ⟨w.heap.size, 0, none⟩) k S.size ∧ Hid (Reads w wr S.data.toList k S.size)) (fun _ i _ => S.size - (intOf i).toNat)
  case atStart => exact ⟨0, rfl, Nat.zero_le _, rfl, H0⟩
  case round =>
    obtain ⟨k, rfl, hk, rfl, HR⟩ := hrel
    by_cases hkn : k < S.size
    · have hs := bytes_snoc S k hkn
      cases hr : right S[k] with
      | true =>
        have HI := Lib.hid (index_right S[k] hr)
        have hv := valN_lt S[k]
        obtain ⟨r1, r2, r3, r4⟩ := HR.out
        have HE : Hid ((S.data.toList.take (k + 1)).all right = true ∧ (S.data.toList.take (k + 1)).map valN = (S.data.toList.take k).map valN ++ [valN S[k]]) := Lib.hid (by rw [hs]; simp [r2, hr])
        have HO := Lib.hid r3; have HB := Lib.hid r4
        clear hs hr HR r1 r2 r3 r4
        generalize valN S[k] = v at *
        go_wp2_with (first
          | (go_at_call 17; refine (HI.out _).mono ?_; rintro e w' ⟨rfl, rfl⟩)
          | (at_builtin; refine wpList_append_fits _ rfl _ _ 22 rfl w.heap.size 33 i0 1 Try.underlying22 hi hz1 w.heap.size k S.size _ rfl (HO.out.alloc _) ⟨wr.heap.size, 0, none⟩ 1 1 [.int .u64 (v : Int)] rfl rfl (oneNew _ _ _) (by simp [Value.oneCell']) (by omega) ?_; intro w1 hown1 hgrow1))
        have HN : Hid (Reads w w1 S.data.toList (k + 1) S.size) := Lib.hid (by
          refine ⟨by omega, HE.out.1, ?_, ?_⟩
          · rw [HE.out.2, wordsV_snoc]; exact hown1
          · exact (HB.out.alloc HB.out.size _).grown hgrow1 (by have := HB.out.size; simp; omega) (fun k h => by cases h; exact Nat.le_refl _))
        clear hown1 hgrow1 HE HO HB HI
        go_wp2
        go_roundw
        case rel => exact ⟨k + 1, by go_num, by omega, by go_num, HN⟩
        case measure => simp [intOf]; omega
      | false =>
        have HI := Lib.hid (index_wrong S[k] hr)
        have HB : Hid (S.data.toList.all right = false ∧ Below w.heap.size w wr) := Lib.hid ⟨(by
          rw [Bool.eq_false_iff]
          intro h
          rw [List.all_eq_true] at h
          have hm : S[k] ∈ S.data.toList := by
            have : S[k] ∈ S.data.toList.take (k + 1) := by rw [hs]; simp
            exact List.mem_of_mem_take this
          rw [h _ hm] at hr
          cases hr), HR.out.2.2.2⟩
        clear hs hr HR
        go_wp2_with (first
          | (go_at_call 17; refine (HI.out _).mono ?_; rintro e w' ⟨rfl, rfl⟩))
        go_ret2
        exact ⟨HB.out.2, .inr ⟨HB.out.1, rfl⟩⟩
    · obtain rfl : k = S.size := by omega
      go_wp2
      go_ret2
      obtain ⟨r1, r2, r3, r4⟩ := HR.out
      have ht : S.data.toList.take S.size = S.data.toList := List.take_of_length_le (by simp)
      rw [ht] at r2 r3
      have hz : (S.data.toList.map valN).length = S.size := by simp
      refine ⟨r4, .inl ⟨r2, some ⟨w.heap.size, 0, none⟩, S.size, ?_, ?_⟩⟩
      · rw [hz]; rfl
      · refine Row.own (base := w.heap.size) (cap := S.size) ?_
        rw [hz]; exact r3
end Go.Proofs.Ytpandcidgmafaaa
